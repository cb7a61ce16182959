import PyProof.Rows.All
import Wide.All
import OpenK.AllK
import Wide.FinOn
import Lean
import PyProof.EqAt
import PyProof.EqKinds
import PyProof.TupleCall
import PyProof.NeKinds
import KE.KRevSl
import KE.KIsAll
import PyProof.ExcArgsOwn
import PyProof.ExcAttrAll.ValueError
import PyProof.ExcBaseAll.ValueError
import PyProof.FitsBits
import KE.LcSums
import KE.KRevIter
import PyProof.ListRange
import PyProof.Rows.MinMaxN
import PySem.Challenge.RW_nodeladder_k13_last_roads
set_option Elab.async false
set_option linter.all false
set_option maxRecDepth 100000
/-! THE HAND LAYER, for ints, bools, texts, own classes, LISTS and tuples (index, slices, in, append, pop ..), calls, loops. Paste it whole ahead of your own text; what your proof does not reach may be deleted. -/
namespace L2
open PySem PySem.Spec PyProof.Rows

/-- a key: an int or a str -/
abbrev Key := Sum Int Str
def keyIs : Key → Value → Bool
  | .inl k, v => Value.isInt k v
  | .inr x, v => Value.isStrOf x v
def keyH (w : World) : Key → Int
  | .inl k => hashInt k
  | .inr x => hashStr w x
theorem keyIs_shape : ∀ {k : Key} {v : Value}, keyIs k v = true → (∃ i t, k = Sum.inl i ∧ v = Value.int i t) ∨ (∃ x t, k = Sum.inr x ∧ v = Value.str x t)
  | .inl i, v, h => by
    obtain ⟨t, e⟩ := Value.isInt_shape (k := i) (v := v) h
    exact .inl ⟨i, t, rfl, e⟩
  | .inr x, v, h => by
    obtain ⟨t, e⟩ := Value.isStrOf_shape (x := x) (v := v) h
    exact .inr ⟨x, t, rfl, e⟩
theorem keyIs_int (i : Int) (t : Tok) : keyIs (.inl i) (.int i t) = true := by simp [keyIs, Value.isInt]
theorem keyIs_str (x : Str) (t : Tok) : keyIs (.inr x) (.str x t) = true := by simp [keyIs, Value.isStrOf]
theorem key_ll (a b : Int) : decide ((Sum.inl a : Key) = Sum.inl b) = (a == b) := by
  by_cases e : a = b
  · subst e; simp
  · have h : ¬ (Sum.inl a : Key) = Sum.inl b := fun q => e (Sum.inl.inj q)
    rw [decide_eq_false h]
    exact (beq_eq_false_iff_ne.mpr e).symm
theorem key_rr (a b : Str) : decide ((Sum.inr a : Key) = Sum.inr b) = decide (a = b) := by
  by_cases e : a = b
  · subst e; simp
  · have h : ¬ (Sum.inr a : Key) = Sum.inr b := fun q => e (Sum.inr.inj q)
    rw [decide_eq_false h, decide_eq_false e]
theorem key_lr (a : Int) (b : Str) : decide ((Sum.inl a : Key) = Sum.inr b) = false := decide_eq_false (fun q => nomatch q)
theorem key_rl (a : Str) (b : Int) : decide ((Sum.inr a : Key) = Sum.inl b) = false := decide_eq_false (fun q => nomatch q)

def mixKind (prog : Program) (w : World) : PySem.KeyKind prog w Key where
  is := keyIs
  hash := keyH w
  inj := fun v a b ha hb => by
    rcases keyIs_shape ha with ⟨i, t, rfl, rfl⟩ | ⟨x, t, rfl, rfl⟩
    · rcases keyIs_shape hb with ⟨j, u, rfl, e⟩ | ⟨y, u, rfl, e⟩
      · injection e with e1 _; rw [e1]
      · exact nomatch e
    · rcases keyIs_shape hb with ⟨j, u, rfl, e⟩ | ⟨y, u, rfl, e⟩
      · exact nomatch e
      · injection e with e1 _; rw [e1]
  byValue := fun k v h => by
    rcases keyIs_shape h with ⟨i, t, rfl, rfl⟩ | ⟨x, t, rfl, rfl⟩ <;> rfl
  pyHash := fun hv h => by
    rcases keyIs_shape hv with ⟨i, t, rfl, rfl⟩ | ⟨x, t, rfl, rfl⟩
    · exact wpAny_pyHash_int h
    · exact wpAny_pyHash_str h
  eqBool := fun hu hv h => by
    rcases keyIs_shape hu with ⟨i, t, rfl, rfl⟩ | ⟨x, t, rfl, rfl⟩
    · rcases keyIs_shape hv with ⟨j, u, rfl, rfl⟩ | ⟨y, u, rfl, rfl⟩
      · rw [key_ll] at h; exact wpAny_eqBool_int h
      · rw [key_lr] at h; exact SeqAt.EqAt.int_str i t y u _ _ _ _ h
    · rcases keyIs_shape hv with ⟨j, u, rfl, rfl⟩ | ⟨y, u, rfl, rfl⟩
      · rw [key_rl] at h; exact SeqAt.EqAt.str_int x t j u _ _ _ _ h
      · rw [key_rr] at h; exact wpAny_eqBool_str h
  «strs» := fun k x t v h => by
    rcases keyIs_shape h with ⟨i, u, rfl, e⟩ | ⟨y, u, rfl, e⟩
    · exact nomatch e
    · injection e with e1 _
      subst e1
      cases v <;> rfl

theorem mixKind_is (prog : Program) (w : World) (k : Key) (v : Value) : (mixKind prog w).is k v = keyIs k v := rfl
theorem mixKind_int (prog : Program) (w : World) (i : Int) (t : Tok) : (mixKind prog w).is (.inl i) (.int i t) = true := keyIs_int i t
theorem mixKind_str (prog : Program) (w : World) (x : Str) (t : Tok) : (mixKind prog w).is (.inr x) (.str x t) = true := keyIs_str x t
end L2

namespace L2
open PySem PySem.Spec PyProof.Rows

/-- a value, without the heap -/
inductive V where
  | non | bl (b : Bool) | int (i : Int) | str (x : Str) | byt (b : Array UInt8) | flt (b : UInt64) | ref (a : Addr) | ty (n : String)
  deriving DecidableEq

def RelV : V → Value → Prop
  | .non, u => u = Value.none
  | .bl b, u => u = Value.bool b
  | .int i, u => ∃ t, u = Value.int i t
  | .str x, u => ∃ t, u = Value.str x t
  | .byt b, u => ∃ t, u = Value.bytes b t
  | .flt b, u => ∃ t, u = Value.float b t
  | .ref a, u => u = Value.ref a
  | .ty n, u => u = Value.type n

abbrev Vals : List V → List Value → Prop := Paired RelV
theorem Vals.length {xs : List V} {us : List Value} (r : Vals xs us) : xs.length = us.length := Paired.length r
theorem Vals.get : ∀ {xs : List V} {us : List Value} {i : Nat} {x : V}, Vals xs us → xs[i]? = some x → ∃ u, us[i]? = some u ∧ RelV x u
  | _, _, _, _, .nil, e => by simp at e
  | _, _, 0, _, .cons r _, e => by simp at e; subst e; exact ⟨_, rfl, r⟩
  | _, _, i + 1, x, .cons _ t, e => by
    obtain ⟨u, h1, h2⟩ := Vals.get (i := i) (x := x) t (by simpa using e)
    exact ⟨u, by simpa using h1, h2⟩
theorem Vals.set {x : V} {u : Value} (r : RelV x u) : ∀ {xs : List V} {us : List Value} (i : Nat), Vals xs us → Vals (xs.set i x) (us.set i u)
  | _, _, _, .nil => .nil
  | _, _, 0, .cons _ t => .cons r t
  | _, _, i + 1, .cons q t => .cons q (Vals.set r i t)
theorem Vals.append : ∀ {xs ys : List V} {us ws : List Value}, Vals xs us → Vals ys ws → Vals (xs ++ ys) (us ++ ws)
  | _, _, _, _, .nil, s => s
  | _, _, _, _, .cons r t, s => .cons r (Vals.append t s)
theorem Vals.take : ∀ {xs : List V} {us : List Value} (n : Nat), Vals xs us → Vals (xs.take n) (us.take n)
  | _, _, 0, _ => .nil
  | _, _, _ + 1, .nil => .nil
  | _, _, n + 1, .cons r t => .cons r (Vals.take n t)
theorem Vals.drop : ∀ {xs : List V} {us : List Value} (n : Nat), Vals xs us → Vals (xs.drop n) (us.drop n)
  | _, _, 0, r => r
  | _, _, _ + 1, .nil => .nil
  | _, _, n + 1, .cons _ t => Vals.drop n t
theorem Vals.none_of : ∀ {xs : List V} {us : List Value} {i : Nat}, Vals xs us → xs[i]? = none → us[i]? = none := fun {xs us i} r e => by
  have h1 := r.length
  have h2 : xs.length ≤ i := List.getElem?_eq_none_iff.mp e
  exact List.getElem?_eq_none_iff.mpr (by omega)

def RelO : Option V → Option Value → Prop
  | some v, some u => RelV v u
  | none, none => True
  | _, _ => False
def KV {κ : Type} : List (κ × V) → List (κ × Value) → Prop := Paired fun (p : κ × V) (q : κ × Value) => p.1 = q.1 ∧ RelV p.2 q.2

/-- a key of a dict (00_mix): an int or a text -/
def kV : Key → V
  | .inl i => .int i
  | .inr x => .str x

/-- what stands at a tracked address -/
inductive HO where
  /-- a list -/
  | lst (xs : List V)
  /-- a tuple (never changes) -/
  | tup (xs : List V)
  /-- a dict whose keys are ints and texts; one whose keys are tuples of ints and texts (the empty one is both) -/
  | dK (kvs : List (Key × V)) | dT (kvs : List (List Key × V))
  /-- a set of ints: its members, its size -/
  | set (S : Int → Bool) (n : Nat)
  /-- an instance of the class at C, its dict at dx, its attributes -/
  | ins (C dx : Addr) (fs : List (Str × V))
  /-- the dict of the instance at x -/
  | own (x : Addr)
  /-- the dict of an exception -/
  | xd (fs : List (Str × V))
  /-- a bound method, f of x -/
  | met (f x : Addr)
  /-- a range object lo, lo + 1, .. below hi -/
  | rng (lo hi : Int)
  /-- a thing that is known to the object (the script; a dict while a loop walks it): read, never written while it is so -/
  | frz (o : Obj) (u : HO)
  /-- a code object's table -/
  | tbl (ps : Array Value)
  /-- any other thing, by what is true of its one object (a def of one's own: SetO a S n := HO.ext fun h => ..) -/
  | ext (φ : Heap → Prop)

abbrev Hp := Addr → Option HO
def upd (H : Hp) (a : Addr) (o : HO) : Hp := fun b => if b = a then some o else H b
theorem upd_same {H : Hp} {a : Addr} {o : HO} : upd H a o a = some o := by unfold upd; rw [if_pos rfl]
theorem upd_ne {H : Hp} {a b : Addr} {o : HO} (h : b ≠ a) : upd H a o b = H b := by unfold upd; rw [if_neg h]
theorem upd_upd {H : Hp} {a : Addr} {o u : HO} : upd (upd H a o) a u = upd H a u := by
  funext b; unfold upd; split <;> rfl
/-- two objects of different content stand apart -/
theorem ne_of {H : Hp} {a b : Addr} {o u : HO} (h : H a = some o) (h' : H b = some u) (d : o ≠ u) : a ≠ b := by
  intro e; subst e; rw [h] at h'; exact d (Option.some.inj h')
theorem ne_of_none {H : Hp} {a b : Addr} {o : HO} (h : H a = some o) (h' : H b = none) : a ≠ b := by
  intro e; subst e; rw [h] at h'; cases h'

section
variable (P : Program) (w : World)
def ObjOk (H : Hp) (h : Heap) (a : Addr) : HO → Prop
  | .lst xs => xs.length ≤ sizeLine ∧ ∃ (its : List Value) (n : Nat), Vals xs its ∧ h.get? a = some { cls := .type "list", data := .seq its.toArray n }
  | .tup xs => xs.length ≤ sizeLine ∧ ∃ its : List Value, Vals xs its ∧ IsTup h a its.toArray
  | .dK kvs => kvs.length ≤ sizeLine ∧ (a == sysModules) = false ∧ ∃ vs, KV kvs vs ∧ h.DictOf (mixKind P w) a vs
  | .dT kvs => kvs.length ≤ sizeLine ∧ (a == sysModules) = false ∧ ∃ xs : List (List Key × Addr × Value),
      Paired (fun (p : List Key × V) (q : List Key × Addr × Value) => p.1 = q.1 ∧ H q.2.1 = some (.tup (p.1.map kV)) ∧ RelV p.2 q.2.2) kvs xs ∧
      ∃ o es ep, h.get? a = some o ∧ o.ExactDict ∧ o.data = .dict es ep ∧ es.toList = xs.map (entryOfKey (tupleKind (mixKind P w))) ∧ (xs.map (·.1)).Nodup
  | .set S n => h.SetOf (intKind P w) a S n
  | .ins C dx fs => H dx = some (.own a) ∧ fs.length ≤ 1000 ∧ dx ≠ a ∧ h.get? a = some (PySem.W.instObj C dx) ∧
      ∃ mA, h.Ns1 dx mA ∧ (∀ f, RelO (fs.lookup f) (mA f)) ∧ PySem.Within mA (fs.map (·.1))
  | .own _ => ∃ o, h.get? a = some o
  | .xd fs => ∃ mA, h.Ns1 a mA ∧ ∀ f, RelO (fs.lookup f) (mA f)
  | .rng lo hi => ∃ t u v, h.get? a = some { cls := .type "range", data := .fields #[.int lo t, .int hi u, .int 1 v] }
  | .frz o u => h.get? a = some o ∧ ObjOk H h a u
  | .tbl ps => h.get? a = some { cls := .none, data := .fields ps }
  | .met f x => h.get? a = some (PySem.W.methodObj (.ref f) (.ref x))
  | .ext φ => φ h ∧ (∃ o, h.get? a = some o) ∧ ∀ h1 h2 : Heap, φ h1 → (∀ o, h1.get? a = some o → h2.get? a = some o) → φ h2
/-- the abstract heap is held -/
def HOk (H : Hp) (h : Heap) : Prop := ∀ a o, H a = some o → ObjOk P w H h a o
end

section
variable {P : Program} {w : World} {H H' : Hp} {h h' : Heap} {a : Addr} {o : HO}
theorem ObjOk.lt (x : ObjOk P w H h a o) : a < h.objs.size := by
  cases o with
  | lst xs => obtain ⟨_, _, _, _, e⟩ := x; exact Heap.lt_size e
  | tup xs => obtain ⟨_, _, _, p⟩ := x; exact p.lt
  | dK kvs => obtain ⟨_, _, _, _, o, _, _, e, _⟩ := x; exact Heap.lt_size e
  | dT kvs => obtain ⟨_, _, _, _, o, _, _, e, _⟩ := x; exact Heap.lt_size e
  | set S n => obtain ⟨o, _, _, _, e, _⟩ := x; exact Heap.lt_size e
  | ins C dx fs => obtain ⟨_, _, _, e, _⟩ := x; exact Heap.lt_size e
  | own y => obtain ⟨_, e⟩ := x; exact Heap.lt_size e
  | xd fs => obtain ⟨_, ⟨_, _, _, e, _⟩, _⟩ := x; exact Heap.lt_size e
  | rng lo hi => obtain ⟨_, _, _, e⟩ := x; exact Heap.lt_size e
  | frz ob u => obtain ⟨e, _⟩ := x; exact Heap.lt_size e
  | tbl ps => exact Heap.lt_size (show h.get? a = some _ from x)
  | met f y => exact Heap.lt_size (show h.get? a = some _ from x)
  | ext φ => obtain ⟨_, ⟨_, e⟩, _⟩ := x; exact Heap.lt_size e
theorem Paired.mapP {α β : Type} {F G : α → β → Prop} : ∀ {l₁ : List α} {l₂ : List β}, Paired F l₁ l₂ → (∀ a b, F a b → G a b) → Paired G l₁ l₂
  | _, _, .nil, _ => .nil
  | _, _, .cons r t, f => .cons (f _ _ r) (Paired.mapP t f)
theorem Paired.imp' {α β : Type} {F G : α → β → Prop} (f : ∀ a b, F a b → G a b) {l₁ : List α} {l₂ : List β} (r : Paired F l₁ l₂) : Paired G l₁ l₂ := Paired.mapP r f
/-- what an object's description leans on: its own object, its own dict, the tuples -/
theorem ObjOk.stay (x : ObjOk P w H h a o) (k : ∀ b u, (b = a ∨ H b = some (.own a)) → h.get? b = some u → h'.get? b = some u)
    (ho : ∀ b, H b = some (.own a) → H' b = some (.own a)) (ht : ∀ b xs, H b = some (.tup xs) → H' b = some (.tup xs)) : ObjOk P w H' h' a o := by
  induction o with
  | lst xs => obtain ⟨z, its, n, r, e⟩ := x; exact ⟨z, its, n, r, k _ _ (.inl rfl) e⟩
  | tup xs => obtain ⟨z, its, r, ob, e, c⟩ := x; exact ⟨z, its, r, ob, k _ _ (.inl rfl) e, c⟩
  | dK kvs => obtain ⟨z, y, vs, r, ob, es, ep, e, c⟩ := x; exact ⟨z, y, vs, r, ob, es, ep, k _ _ (.inl rfl) e, c⟩
  | dT kvs =>
    obtain ⟨z, y, xs, r, ob, es, ep, e, c⟩ := x
    exact ⟨z, y, xs, Paired.mapP r fun p q z => ⟨z.1, ht _ _ z.2.1, z.2.2⟩, ob, es, ep, k _ _ (.inl rfl) e, c⟩
  | set S n => obtain ⟨ob, es, ep, t, e, c⟩ := x; exact ⟨ob, es, ep, t, k _ _ (.inl rfl) e, c⟩
  | ins C dx fs =>
    obtain ⟨d, z, ne, e, mA, ⟨od, es, ep, e2, c⟩, r⟩ := x
    exact ⟨ho _ d, z, ne, k _ _ (.inl rfl) e, mA, ⟨od, es, ep, k _ _ (.inr d) e2, c⟩, r⟩
  | own y => obtain ⟨ob, e⟩ := x; exact ⟨ob, k _ _ (.inl rfl) e⟩
  | xd fs => obtain ⟨mA, ⟨od, es, ep, e, c⟩, r⟩ := x; exact ⟨mA, ⟨od, es, ep, k _ _ (.inl rfl) e, c⟩, r⟩
  | rng lo hi => obtain ⟨t, u, v, e⟩ := x; exact ⟨t, u, v, k _ _ (.inl rfl) e⟩
  | frz ob u ih => obtain ⟨e, q⟩ := x; exact ⟨k _ _ (.inl rfl) e, ih q⟩
  | tbl ps =>
    have e : h.get? a = some { cls := .none, data := .fields ps } := x
    show h'.get? a = some { cls := .none, data := .fields ps }
    exact k a _ (.inl rfl) e
  | met f y =>
    have e : h.get? a = some (PySem.W.methodObj (.ref f) (.ref y)) := x
    show h'.get? a = some (PySem.W.methodObj (.ref f) (.ref y))
    exact k a _ (.inl rfl) e
  | ext φ => obtain ⟨p, ⟨o, e⟩, st⟩ := x; exact ⟨st _ _ p fun o q => k _ _ (.inl rfl) q, ⟨o, k _ _ (.inl rfl) e⟩, st⟩
theorem HOk.lt (x : HOk P w H h) (e : H a = some o) : a < h.objs.size := (x a o e).lt
theorem HOk.fresh (x : HOk P w H h) (e : h.objs.size ≤ a) : H a = none := by
  cases q : H a with
  | none => rfl
  | some u => exact absurd (Nat.lt_of_lt_of_le (x.lt q) e) (Nat.lt_irrefl _)
/-- every object of the heap is kept -/
theorem HOk.kept (x : HOk P w H h) (k : ∀ b u, h.get? b = some u → h'.get? b = some u) : HOk P w H h' := fun a o e =>
  (x a o e).stay (fun b u _ q => k b u q) (fun _ q => q) fun _ _ q => q
/-- a new object is laid and tracked -/
theorem HOk.laid (x : HOk P w H h) (k : ∀ b u, h.get? b = some u → h'.get? b = some u) (hp : h.objs.size ≤ a) (new : ObjOk P w (upd H a o) h' a o) : HOk P w (upd H a o) h' := fun b u e => by
  have hn := x.fresh hp
  by_cases hb : b = a
  · subst hb; rw [upd_same] at e; cases e; exact new
  · rw [upd_ne hb] at e
    exact (x b u e).stay (fun c v _ q => k c v q) (fun c q => by rw [upd_ne (ne_of_none q hn)]; exact q) fun c xs q => by rw [upd_ne (ne_of_none q hn)]; exact q
end

/-- what may be read as u: it is u, or a known u -/
def Rd (H : Hp) (a : Addr) (u : HO) : Prop := H a = some u ∨ ∃ o, H a = some (.frz o u)
theorem Rd.of {H : Hp} {a : Addr} {u : HO} (h : H a = some u) : Rd H a u := .inl h
theorem Rd.ok {P : Program} {w : World} {H : Hp} {h : Heap} {a : Addr} {u : HO} (r : Rd H a u) (x : HOk P w H h) : ObjOk P w H h a u := by
  rcases r with r | ⟨o, r⟩
  · exact x a u r
  · obtain ⟨_, q⟩ := x a _ r
    exact q
/-- what may be written -/
def Mut : Option HO → Prop
  | some (.lst _) => True
  | some (.dK _) => True
  | some (.dT _) => True
  | some (.set _ _) => True
  | some (.ins _ _ _) => True
  | some (.ext _) => True
  | _ => False
section
variable {P : Program} {w : World} {H : Hp} {h h' : Heap} {x e : Addr} {o' : HO}
/-- the object at e is changed: x itself, or the dict of the instance x -/
theorem HOk.write (ok : HOk P w H h) (mu : Mut (H x)) (he : e = x ∨ H e = some (.own x)) (k : ∀ b u, b ≠ e → h.get? b = some u → h'.get? b = some u) (heo : ∃ u, h'.get? e = some u)
    (new : ObjOk P w (upd H x o') h' x o') : HOk P w (upd H x o') h' := fun b u q => by
  have nown : ∀ c y, H c = some (.own y) → c ≠ x := fun c y r z => by subst z; rw [r] at mu; exact mu
  have ntup : ∀ c xs, H c = some (.tup xs) → c ≠ x := fun c xs r z => by subst z; rw [r] at mu; exact mu
  by_cases hb : b = x
  · subst hb; rw [upd_same] at q; cases q; exact new
  · rw [upd_ne hb] at q
    by_cases hbe : b = e
    · have q' : H b = some (.own x) := by
        rcases he with z | z
        · exact absurd (hbe.trans z) hb
        · rw [hbe]; exact z
      rw [q] at q'; cases q'
      obtain ⟨v, hv⟩ := heo
      exact ⟨v, by rw [hbe]; exact hv⟩
    · refine (ok b u q).stay (fun c v hc r => k c v ?_ r) (fun c r => by rw [upd_ne (nown c b r)]; exact r) fun c xs r => by rw [upd_ne (ntup c xs r)]; exact r
      rcases hc with rfl | hc
      · exact hbe
      · rintro rfl
        rcases he with z | z
        · exact nown c b hc z
        · rw [hc] at z; cases z; exact hb rfl
end

/-! ### kept unless tracked; of the frames at fs (the callers') the slots may change (an exception that passes writes there); of the records at ex (iterators) nothing is said -/
structure Un (fs ex : List Addr) (H H' : Hp) (h h' : Heap) : Prop where
  keep : ∀ b o, h.get? b = some o → H b = none → b ∉ fs → b ∉ ex → h'.get? b = some o
  slot : ∀ b o, h.get? b = some o → H b = none → b ∈ fs → b ∉ ex → ∃ sl, h'.get? b = some { o with slots := sl }
  free : ∀ b o, h.get? b = some o → H b = none → b ∉ ex → H' b = none
  there : ∀ b o, h.get? b = some o → b ∉ ex → ∃ o', h'.get? b = some o'
  tups : ∀ b xs, H b = some (.tup xs) → H' b = some (.tup xs)
  frzs : ∀ b o u, H b = some (.frz o u) → H' b = some (.frz o u)
  tbls : ∀ b ps, H b = some (.tbl ps) → ∃ more, H' b = some (.tbl (ps ++ more))
section
variable {fs fs' ex ex' : List Addr} {H H1 H2 : Hp} {h h1 h2 h' : Heap} {a x e : Addr} {o : HO}
theorem Un.any (u : Un fs ex H H1 h h1) {b : Addr} {ob : Obj} (q : h.get? b = some ob) (n : H b = none) (hx : b ∉ ex) : ∃ sl, h1.get? b = some { ob with slots := sl } := by
  by_cases hb : b ∈ fs
  · exact u.slot b ob q n hb hx
  · exact ⟨ob.slots, u.keep b ob q n hb hx⟩
theorem Un.trans (a : Un fs ex H H1 h h1) (b : Un fs ex H1 H2 h1 h2) : Un fs ex H H2 h h2 where
  keep := fun c ob q n hc hx => b.keep c ob (a.keep c ob q n hc hx) (a.free c ob q n hx) hc hx
  slot := fun c ob q n hc hx => by
    obtain ⟨sl, e1⟩ := a.slot c ob q n hc hx
    obtain ⟨sl', e2⟩ := b.slot c _ e1 (a.free c ob q n hx) hc hx
    exact ⟨sl', e2⟩
  free := fun c ob q n hx => by
    obtain ⟨o', e1⟩ := a.there c ob q hx
    exact b.free c o' e1 (a.free c ob q n hx) hx
  there := fun c ob q hx => by
    obtain ⟨o', e1⟩ := a.there c ob q hx
    exact b.there c o' e1 hx
  tups := fun c xs q => b.tups c xs (a.tups c xs q)
  frzs := fun c ob xs q => b.frzs c ob xs (a.frzs c ob xs q)
  tbls := fun c ps q => by
    obtain ⟨m1, e1⟩ := a.tbls c ps q
    obtain ⟨m2, e2⟩ := b.tbls c _ e1
    exact ⟨m1 ++ m2, by rw [e2, Array.append_assoc]⟩
theorem Un.kept (k : ∀ b u, h.get? b = some u → h'.get? b = some u) : Un fs ex H H h h' :=
  ⟨fun b ob q _ _ _ => k b ob q, fun b ob q _ _ _ => ⟨ob.slots, k b ob q⟩, fun _ _ _ n _ => n, fun b ob q _ => ⟨ob, k b ob q⟩, fun _ _ q => q, fun _ _ _ q => q, fun _ ps q => ⟨#[], by rw [q]; simp⟩⟩
theorem Un.refl : Un fs ex H H h h := Un.kept fun _ _ q => q
theorem Un.laid (k : ∀ b u, h.get? b = some u → h'.get? b = some u) (hp : h.objs.size ≤ a) (hn : H a = none) : Un fs ex H (upd H a o) h h' where
  keep := fun b u q _ _ _ => k b u q
  slot := fun b u q _ _ _ => ⟨u.slots, k b u q⟩
  free := fun b u q n _ => by rw [upd_ne (Nat.ne_of_lt (Nat.lt_of_lt_of_le (Heap.lt_size q) hp))]; exact n
  there := fun b u q _ => ⟨u, k b u q⟩
  tups := fun b xs q => by rw [upd_ne (ne_of_none q hn)]; exact q
  frzs := fun b u xs q => by rw [upd_ne (ne_of_none q hn)]; exact q
  tbls := fun b ps q => ⟨#[], by rw [upd_ne (ne_of_none q hn), q]; simp⟩
theorem Un.write (mu : Mut (H x)) (he : e = x ∨ H e = some (.own x)) (k : ∀ b u, b ≠ e → h.get? b = some u → h'.get? b = some u) (heo : ∃ u, h'.get? e = some u) : Un fs ex H (upd H x o) h h' := by
  have hx : ∀ b, H b = none → b ≠ x := fun b n z => by subst z; rw [n] at mu; exact mu
  have hb : ∀ b, H b = none → b ≠ e := fun b n z => by
    subst z
    rcases he with r | r
    · exact hx b n r
    · rw [n] at r; cases r
  have hm : ∀ b u, H b = some u → ¬ Mut (some u) → b ≠ x := fun b u q nm z => by subst z; rw [q] at mu; exact nm mu
  refine ⟨fun b u q n _ _ => k b u (hb b n) q, fun b u q n _ _ => ⟨u.slots, k b u (hb b n) q⟩, fun b u q n _ => by rw [upd_ne (hx b n)]; exact n, fun b u q _ => ?_,
    fun b xs q => by rw [upd_ne (hm b _ q fun z => z)]; exact q, fun b u xs q => by rw [upd_ne (hm b _ q fun z => z)]; exact q, fun b ps q => ⟨#[], by rw [upd_ne (hm b _ q fun z => z), q]; simp⟩⟩
  by_cases hbe : b = e
  · subst hbe; exact heo
  · exact ⟨u, k b u hbe q⟩
theorem Un.mono (u : Un fs ex H H1 h h1) (hs : ∀ b ∈ fs, b ∈ fs') (hx : ∀ b ∈ ex, b ∈ ex') : Un fs' ex' H H1 h h1 :=
  ⟨fun b ob q n hb he => u.keep b ob q n (fun z => hb (hs b z)) fun z => he (hx b z), fun _ _ q n _ he => u.any q n fun z => he (hx _ z), fun b ob q n he => u.free b ob q n fun z => he (hx b z), fun b ob q he => u.there b ob q fun z => he (hx b z), u.tups, u.frzs, u.tbls⟩
end

/-! ### the heap without what is tracked -/
def trk (h : Heap) (H : Hp) : List Addr := (List.range h.objs.size).filter fun a => (H a).isSome
def hidT (h : Heap) (H : Hp) : Heap := PySem.W.hideAll h (trk h H)
theorem hidT_size (h : Heap) (H : Hp) : (hidT h H).objs.size = h.objs.size := PySem.W.hideAll_size _ _
theorem hidT_get {h : Heap} {H : Hp} {b : Addr} {o : Obj} (e : h.get? b = some o) (n : H b = none) : (hidT h H).get? b = some o :=
  PySem.W.hideAll_get _ e fun hm => by
    have q : (H b).isSome = true := (List.mem_filter.mp hm).2
    rw [n] at q; simp at q
theorem of_hidT {h : Heap} {H : Hp} {b : Addr} {o : Obj} (e : (hidT h H).get? b = some o) : h.get? b = some o ∧ H b = none := by
  have e' : h.get? b = some o := PySem.W.of_hideAll (trk h H) e
  refine ⟨e', ?_⟩
  cases q : H b with
  | none => rfl
  | some x =>
    have hm : b ∈ trk h H := List.mem_filter.mpr ⟨List.mem_range.mpr (Heap.lt_size e'), by simp [q]⟩
    have z : (hidT h H).get? b = none := PySem.W.hideAll_none (trk h H) hm
    rw [z] at e; cases e

/-! ### OpenK's ledger, filled with every new object but one -/
def allNews (g h : Heap) (L : Addr) : List (Addr × Obj) := (List.range h.objs.size).filterMap fun a => if a = L ∨ (g.get? a).isSome = true then none else (h.get? a).map fun o => (a, o)
theorem mem_allNews {g h : Heap} {L a : Addr} {o : Obj} (h1 : a ≠ L) (h2 : g.get? a = none) (h3 : h.get? a = some o) : (a, o) ∈ allNews g h L :=
  List.mem_filterMap.mpr ⟨a, List.mem_range.mpr (Heap.lt_size h3), by simp [h1, h2, h3]⟩
theorem of_mem_allNews {g h : Heap} {L : Addr} {p : Addr × Obj} (hp : p ∈ allNews g h L) : p.1 ≠ L ∧ g.get? p.1 = none ∧ h.get? p.1 = some p.2 := by
  obtain ⟨b, _, e⟩ := List.mem_filterMap.mp hp
  split at e
  · cases e
  · rename_i hn
    cases q : h.get? b with
    | none => rw [q] at e; simp at e
    | some u =>
      rw [q] at e
      simp only [Option.map_some, Option.some.injEq] at e
      subst e
      refine ⟨fun z => hn (.inl z), ?_, q⟩
      show g.get? b = none
      cases r : g.get? b with
      | none => rfl
      | some v => exact (hn (.inr (by simp [r]))).elim
def rest (g h : Heap) (L d : Addr) : List (Addr × Obj) := (allNews g h L).filter fun p => decide (p.1 ≠ d)
theorem rest_ne {g h : Heap} {L d : Addr} : ∀ p ∈ rest g h L d, p.1 ≠ d := fun p hp => of_decide_eq_true (List.mem_filter.mp hp).2
theorem mem_rest {g h : Heap} {L d a : Addr} {o : Obj} (h1 : a ≠ L) (h2 : g.get? a = none) (h3 : h.get? a = some o) (h4 : a ≠ d) : (a, o) ∈ rest g h L d :=
  List.mem_filter.mpr ⟨mem_allNews h1 h2 h3, decide_eq_true h4⟩
theorem news_all {g h : Heap} {L : Addr} : News g L h (allNews g h L) := fun p hp => let ⟨a, b, c⟩ := of_mem_allNews hp; ⟨c, a, b⟩
theorem news_at {g h : Heap} {L d : Addr} {o : Obj} (h1 : d ≠ L) (h2 : g.get? d = none) (h3 : h.get? d = some o) : News g L h ((d, o) :: rest g h L d) := fun p hp => by
  rcases List.mem_cons.mp hp with rfl | hp
  · exact ⟨h3, h1, h2⟩
  · exact news_all p (List.mem_filter.mp hp).1
/-- behind a rule that changed d alone: all else but the frame is kept -/
theorem kept_of_news {g h h' : Heap} {L d : Addr} {m : Str → Option Value} (k : ∀ b o, g.get? b = some o → h.get? b = some o) (F : Fr g L h' m) (N : News g L h' (rest g h L d)) :
    ∀ b o, b ≠ L → b ≠ d → h.get? b = some o → h'.get? b = some o := fun b o h1 h2 e => by
  cases q : g.get? b with
  | some u =>
    have := k b u q
    rw [e] at this; cases this
    exact F.keep b _ q
  | none => exact (N (b, o) (mem_rest h1 q e h2)).1
end L2

namespace L2
open PySem PySem.Spec PyProof.Rows

/-- the module's facts, over the base: the heap at the law's entry without what is tracked there -/
structure Mod (K : PySem.W.Frag) (mg : Str → Option Value) (base : Heap) : Prop where
  kin : K.In base
  glob : base.Ns mainGlobals mg
  blt : ∃ mb, base.Ns builtinsNs mb ∧ ∀ x : Str, x ≠ "__name__" → mb x = bootBuiltins x
  nolimit : base.NoLimit

/-- the context: a def's body (or a comprehension's block) running. base: fixed through the whole law; s₀, H₀: the entry; outer: the frames whose slots others may change (a def's callers); stack: all frames that run;
   ex: iterators that were made ahead of the entry and are walked here (a comprehension's); fn: the names whose cells were made at the entry (a def: all; a comprehension's block: its own); calm: not within an except suite; pn: pins that every state bears; xe: what is wanted of an exception that leaves the code -/
structure Cx where
  prog : Program
  w : World
  K : PySem.W.Frag
  mg : Str → Option Value
  base : Heap
  A : Around
  N : List Str
  s₀ : Shared
  H₀ : Hp
  env : Env
  outer : List Env
  stack : List Env
  ex : List Addr
  fn : Str → Bool
  calm : Bool
  pn : List (Addr × Obj)
  xe : Value → Shared → Prop
/-- the callers' frames -/
def frs (l : List Env) : List Addr := l.filterMap (·.frame)
abbrev Cx.fs (X : Cx) : List Addr := frs X.outer

def Vis (sc : Scope) (x : Str) : Prop := sc.names.lookup x = some .local ∨ sc.names.lookup x = some .cell ∨ sc.names.lookup x = some .free
def Loc (sc : Scope) (x : Str) : Prop := sc.names.lookup x = some .local ∨ sc.names.lookup x = some .cell
def Look (env : Env) (h : Heap) (m : Str → Option Value) (x : Str) (u : Value) : Prop :=
  (env.kindOf x = some .local ∧ m x = some u) ∨ ((env.kindOf x = some .cell ∨ env.kindOf x = some .free) ∧ ∃ c, env.cells.lookup x = some c ∧ h.IsCell c (some u))

structure Cx.Ok (X : Cx) : Prop where
  mod : Mod X.K X.mg X.base
  kind : X.env.scope.kind = .function
  glob : X.env.globals = mainGlobals
  blt : X.env.builtins = builtinsNs
  above : X.s₀.heap.objs.size ≤ X.env.locals
  inj : ∀ x y c, X.env.cells.lookup x = some c → X.env.cells.lookup y = some c → x = y
  has : ∀ x, (X.env.kindOf x = some .cell ∨ X.env.kindOf x = some .free) → ∃ c, X.env.cells.lookup x = some c
  cab : ∀ x c, X.fn x = true → X.env.cells.lookup x = some c → X.s₀.heap.objs.size ≤ c
  hd : X.calm = true → X.A.handled = none
  frames : X.A.frames = some X.stack
  stk : X.stack = X.outer ∨ (X.stack = X.env :: X.outer ∧ X.env.frame = some X.env.locals)
  exf : ∀ b ∈ X.ex, b ≠ X.env.locals ∧ ∀ x c, X.env.cells.lookup x = some c → c ≠ b
  bs : ∀ b o, X.base.get? b = some o → X.s₀.heap.get? b = some o ∧ X.H₀ b = none
  bsz : X.base.objs.size ≤ X.s₀.heap.objs.size
  noex : ∀ b o, X.base.get? b = some o → b ∉ X.ex
  exfs : ∀ b ∈ X.ex, b ∉ X.fs
  funs : X.s₀.heap.FunFrames X.base X.outer
  frf : ∀ b ∈ X.fs, X.H₀ b = none

structure Inv (X : Cx) (pins : List (Addr × Obj)) (σ : List (Option V)) (H : Hp) (s : Shared) : Prop where
  ok : X.Ok
  os : s.os = X.s₀.os
  bare : AllBare s.gens
  base : Un X.fs X.ex X.H₀ H X.s₀.heap s.heap
  loc : ∃ m, s.heap.Ns X.env.locals m ∧ ∀ (i : Nat) (x : Str) (v : V), X.N[i]? = some x → σ[i]? = some (some v) → Vis X.env.scope x → ∃ u, RelV v u ∧ Look X.env s.heap m x u
  cell : ∀ x c, X.env.cells.lookup x = some c → ∃ v, s.heap.IsCell c v
  free : H X.env.locals = none
  freeC : ∀ x c, X.env.cells.lookup x = some c → H c = none
  pin : ∀ p ∈ X.pn ++ pins, s.heap.get? p.1 = some p.2 ∧ H p.1 = none ∧ p.1 ≠ X.env.locals ∧ p.1 ∉ X.fs ∧ ∀ v, p.2.data ≠ .cell v
  hok : HOk X.prog X.w H s.heap
  len : σ.length = X.N.length

section
variable {X : Cx} {pins : List (Addr × Obj)} {σ : List (Option V)} {H H' : Hp} {s : Shared} {h' : Heap}

theorem Cx.Ok.nofr (ok : X.Ok) {b : Addr} {o : Obj} (e : X.base.get? b = some o) : b ∉ X.fs := fun hb => by
  have := (ok.funs.mem hb).1
  rw [e] at this; cases this
theorem Inv.bs (I : Inv X pins σ H s) : ∀ b o, X.base.get? b = some o → s.heap.get? b = some o ∧ H b = none := fun b o e =>
  ⟨I.base.keep b o (I.ok.bs b o e).1 (I.ok.bs b o e).2 (I.ok.nofr e) (I.ok.noex b o e), I.base.free b o (I.ok.bs b o e).1 (I.ok.bs b o e).2 (I.ok.noex b o e)⟩
theorem Inv.bk (I : Inv X pins σ H s) : ∀ b o, X.base.get? b = some o → s.heap.get? b = some o := fun b o e => (I.bs b o e).1
theorem Inv.mod (I : Inv X pins σ H s) : Mod X.K X.mg X.base := I.ok.mod
theorem Inv.kIn (I : Inv X pins σ H s) : X.K.In s.heap := I.ok.mod.kin.keeps I.bk
theorem Inv.nolimit (I : Inv X pins σ H s) : s.heap.NoLimit := I.ok.mod.nolimit.keeps I.bk
/-- the frame over the base: for OpenK's rules (K.In X.base is I.mod.kin) -/
theorem Inv.fr (I : Inv X pins σ H s) : ∃ m, Fr X.base X.env.locals s.heap m :=
  let ⟨m, hn, _⟩ := I.loc
  ⟨m, hn, I.bk, Nat.le_trans I.ok.bsz I.ok.above⟩
theorem Inv.lt (I : Inv X pins σ H s) : X.env.locals < s.heap.objs.size := let ⟨_, hn, _⟩ := I.loc; hn.lt
theorem Inv.sz (I : Inv X pins σ H s) : X.s₀.heap.objs.size ≤ s.heap.objs.size := Nat.le_trans I.ok.above (Nat.le_of_lt I.lt)
theorem Inv.nofs (I : Inv X pins σ H s) {a : Addr} (h : s.heap.objs.size ≤ a) : a ∉ X.fs := fun hb => by
  obtain ⟨_, o, ho, _⟩ := I.ok.funs.mem hb
  exact absurd (Nat.lt_of_lt_of_le (Heap.lt_size ho) (Nat.le_trans I.sz h)) (Nat.lt_irrefl _)
theorem Inv.cne (I : Inv X pins σ H s) : ∀ x c, X.env.cells.lookup x = some c → c ≠ X.env.locals := fun x c e z => by
  obtain ⟨v, o, ho, hd⟩ := I.cell x c e
  obtain ⟨m, ⟨o', es, ep, ho', hd', _⟩, _⟩ := I.loc
  rw [z, ho'] at ho; cases ho; rw [hd'] at hd; cases hd
theorem Inv.funs (I : Inv X pins σ H s) : s.heap.FunFrames X.base X.outer := by
  have all : ∀ (l : List Env), (∀ b ∈ frs l, b ∈ X.fs) → X.s₀.heap.FunFrames X.base l → s.heap.FunFrames X.base l := by
    intro l
    induction l with
    | nil => intro _ _; trivial
    | cons env r ih =>
      intro hs hl
      obtain ⟨hk, ⟨L, o, hf, hn, ho, hd⟩, hr⟩ := hl
      have hL : L ∈ X.fs := hs L (by unfold frs; rw [List.filterMap_cons, hf]; exact List.mem_cons_self)
      obtain ⟨sl, e⟩ := I.base.slot L o ho (I.ok.frf L hL) hL fun z => I.ok.exfs L z hL
      exact ⟨hk, ⟨L, _, hf, hn, e, hd⟩, ih (fun b hb => hs b (by unfold frs; rw [List.filterMap_cons, hf]; exact List.mem_cons_of_mem _ hb)) hr⟩
  exact all X.outer (fun _ hb => hb) I.ok.funs

/-- the frames that run, for a call -/
theorem Inv.stack (I : Inv X pins σ H s) : s.heap.FunFrames X.base X.stack := by
  rcases I.ok.stk with e | ⟨e, hf⟩
  · rw [e]; exact I.funs
  · rw [e]
    obtain ⟨m, hn, _⟩ := I.loc
    refine .cons (by rw [I.ok.kind]; decide) hf hn ?_ I.funs
    exact Heap.get?_none_of_le (Nat.le_trans I.ok.bsz I.ok.above)
theorem Inv.stkSub (I : Inv X pins σ H s) : ∀ b ∈ frs X.stack, b ∈ X.env.locals :: X.fs := fun b hb => by
  rcases I.ok.stk with e | ⟨e, hf⟩
  · rw [e] at hb; exact List.mem_cons_of_mem _ hb
  · rw [e] at hb
    unfold frs at hb
    rw [List.filterMap_cons, hf] at hb
    exact hb
theorem Inv.stkFree (I : Inv X pins σ H s) : ∀ b ∈ frs X.stack, H b = none := fun b hb => by
  rcases List.mem_cons.mp (I.stkSub b hb) with e | hb
  · rw [e]; exact I.free
  · obtain ⟨_, o, ho, _⟩ := I.ok.funs.mem hb
    exact I.base.free b o ho (I.ok.frf b hb) fun z => I.ok.exfs b z hb

/-- THE STEP: the untracked objects but the frame and the records at ch are kept (the callers' frames up to slots), the frame's map is kept, the new abstract heap is held -/
theorem Inv.step {g' : Array GenState} {t' : Nat} {d' : Drawn} {ch : List Addr} (I : Inv X pins σ H s)
    (hch : ∀ b ∈ ch, (b ∈ X.ex ∨ X.s₀.heap.objs.size ≤ b) ∧ b ≠ X.env.locals ∧ (∀ x c, X.env.cells.lookup x = some c → c ≠ b) ∧ ∀ p ∈ X.pn ++ pins, p.1 ≠ b)
    (keep : ∀ b o, b ≠ X.env.locals → b ∉ X.fs → b ∉ ch → s.heap.get? b = some o → H b = none → h'.get? b = some o)
    (slot : ∀ b o, b ≠ X.env.locals → b ∈ X.fs → b ∉ ch → s.heap.get? b = some o → H b = none → ∃ sl, h'.get? b = some { o with slots := sl }) (free : ∀ b o, b ∉ ch → s.heap.get? b = some o → H b = none → H' b = none)
    (there : ∀ b o, b ∉ ch → s.heap.get? b = some o → ∃ o', h'.get? b = some o')
    (tups : ∀ b xs, H b = some (.tup xs) → H' b = some (.tup xs)) (frzs : ∀ b o u, H b = some (.frz o u) → H' b = some (.frz o u)) (tbls : ∀ b ps, H b = some (.tbl ps) → ∃ more, H' b = some (.tbl (ps ++ more)))
    (ns : ∀ m, s.heap.Ns X.env.locals m → h'.Ns X.env.locals m) (hok : HOk X.prog X.w H' h') (hg : AllBare g') :
    Inv X pins σ H' { s with heap := h', gens := g', drawn := d', toks := t' } := by
  have neL : ∀ b o, X.s₀.heap.get? b = some o → b ≠ X.env.locals := fun b o e => Nat.ne_of_lt (Nat.lt_of_lt_of_le (Heap.lt_size e) I.ok.above)
  have neC : ∀ b o, X.s₀.heap.get? b = some o → b ∉ X.ex → b ∉ ch := fun b o e hx hb => by
    rcases (hch b hb).1 with z | z
    · exact hx z
    · exact absurd (Nat.lt_of_lt_of_le (Heap.lt_size e) z) (Nat.lt_irrefl _)
  have cellK : ∀ x c, X.env.cells.lookup x = some c → ∀ v, s.heap.IsCell c v → h'.IsCell c v := fun x c e v ⟨o, ho, hd⟩ => by
    have nch : c ∉ ch := fun z => (hch c z).2.2.1 x c e rfl
    by_cases hc : c ∈ X.fs
    · obtain ⟨sl, q⟩ := slot c o (I.cne x c e) hc nch ho (I.freeC x c e)
      exact ⟨_, q, hd⟩
    · exact ⟨o, keep c o (I.cne x c e) hc nch ho (I.freeC x c e), hd⟩
  refine ⟨I.ok, I.os, hg, ⟨fun b o e n hb hx => ?_, fun b o e n hb hx => ?_, fun b o e n hx => ?_, fun b o e hx => ?_, fun b xs e => tups b xs (I.base.tups b xs e), fun b o xs e => frzs b o xs (I.base.frzs b o xs e), fun b ps e => ?_⟩, ?_, fun x c e => ?_, ?_, fun x c e => ?_, fun p hp => ?_, hok, I.len⟩
  · exact keep b o (neL b o e) hb (neC b o e hx) (I.base.keep b o e n hb hx) (I.base.free b o e n hx)
  · obtain ⟨sl, e1⟩ := I.base.slot b o e n hb hx
    obtain ⟨sl', e2⟩ := slot b _ (neL b o e) hb (neC b o e hx) e1 (I.base.free b o e n hx)
    exact ⟨sl', e2⟩
  · obtain ⟨o', e1⟩ := I.base.there b o e hx
    exact free b o' (neC b o e hx) e1 (I.base.free b o e n hx)
  · obtain ⟨o', e1⟩ := I.base.there b o e hx
    exact there b o' (neC b o e hx) e1
  · obtain ⟨m1, e1⟩ := I.base.tbls b ps e
    obtain ⟨m2, e2⟩ := tbls b _ e1
    exact ⟨m1 ++ m2, by rw [e2, Array.append_assoc]⟩
  · obtain ⟨m, hn, hl⟩ := I.loc
    refine ⟨m, ns m hn, fun i x v e1 e2 e3 => ?_⟩
    obtain ⟨u, r, l⟩ := hl i x v e1 e2 e3
    refine ⟨u, r, ?_⟩
    rcases l with l | ⟨k, c, e, z⟩
    · exact .inl l
    · exact .inr ⟨k, c, e, cellK x c e _ z⟩
  · obtain ⟨v, z⟩ := I.cell x c e
    exact ⟨v, cellK x c e v z⟩
  · obtain ⟨m, ⟨o, _, _, ho, _⟩, _⟩ := I.loc
    exact free _ o (fun z => (hch _ z).2.1 rfl) ho I.free
  · obtain ⟨v, o, ho, hd⟩ := I.cell x c e
    exact free c o (fun z => (hch c z).2.2.1 x c e rfl) ho (I.freeC x c e)
  · obtain ⟨e, n, ne, nf, d⟩ := I.pin p hp
    have nch : p.1 ∉ ch := fun z => (hch p.1 z).2.2.2 p hp rfl
    exact ⟨keep p.1 p.2 ne nf nch e n, free p.1 p.2 nch e n, ne, nf, d⟩
/-- .. where the frame's own object is kept too -/
theorem Inv.un {t' : Nat} (I : Inv X pins σ H s) (u : Un X.fs [] H H' s.heap h') (hok : HOk X.prog X.w H' h') : Inv X pins σ H' { s with heap := h', toks := t' } := by
  obtain ⟨m, ⟨o, es, ep, ho, r⟩, _⟩ := id I.loc
  obtain ⟨sl, hL⟩ := u.any ho I.free (by simp)
  exact I.step (g' := s.gens) (d' := s.drawn) (ch := []) (fun _ z => nomatch z) (fun b o _ hb _ e n => u.keep b o e n hb (by simp)) (fun b o _ hb _ e n => u.slot b o e n hb (by simp)) (fun b o _ e n => u.free b o e n (by simp)) (fun b o _ e => u.there b o e (by simp)) u.tups u.frzs u.tbls (fun m' hm => by
    obtain ⟨o', es', ep', ho', r'⟩ := hm
    rw [ho] at ho'; cases ho'
    exact ⟨_, es', ep', hL, r'⟩) hok I.bare
/-- behind a call (or a comprehension's block): the slots of this frame may have changed too, the records at ch may have turned -/
theorem Inv.call {g' : Array GenState} {t' : Nat} {d' : Drawn} {ch : List Addr} (I : Inv X pins σ H s) (u : Un (frs X.stack) ch H H' s.heap h') (hok : HOk X.prog X.w H' h') (hg : AllBare g')
    (hch : ∀ b ∈ ch, (b ∈ X.ex ∨ X.s₀.heap.objs.size ≤ b) ∧ b ≠ X.env.locals ∧ (∀ x c, X.env.cells.lookup x = some c → c ≠ b) ∧ ∀ p ∈ X.pn ++ pins, p.1 ≠ b) :
    Inv X pins σ H' { s with heap := h', gens := g', drawn := d', toks := t' } := by
  obtain ⟨m, ⟨o, es, ep, ho, r⟩, _⟩ := id I.loc
  obtain ⟨sl, hL⟩ := u.any ho I.free fun z => (hch _ z).2.1 rfl
  exact I.step (ch := ch) hch (fun b o hL hb hc e n => u.keep b o e n (fun z => (List.mem_cons.mp (I.stkSub b z)).elim hL hb) hc) (fun b o _ _ hc e n => u.any e n hc) (fun b o hc e n => u.free b o e n hc) (fun b o hc e => u.there b o e hc) u.tups u.frzs u.tbls (fun m' hm => by
    obtain ⟨o', es', ep', ho', r'⟩ := hm
    rw [ho] at ho'; cases ho'
    exact ⟨_, es', ep', hL, r'⟩) hok hg
/-- an untracked record of ours (an iterator) has turned -/
theorem Inv.turned {t' : Nat} {it : Addr} (I : Inv X pins σ H s) (k : ∀ b o, b ≠ it → s.heap.get? b = some o → h'.get? b = some o) (hn : H it = none) (hL : it ≠ X.env.locals)
    (h1 : it ∈ X.ex ∨ X.s₀.heap.objs.size ≤ it) (h2 : ∀ x c, X.env.cells.lookup x = some c → c ≠ it) (h3 : ∀ p ∈ X.pn ++ pins, p.1 ≠ it) : Inv X pins σ H { s with heap := h', toks := t' } := by
  have nit : ∀ b u, H b = some u → b ≠ it := fun b u e z => by rw [z, hn] at e; cases e
  refine I.step (g' := s.gens) (d' := s.drawn) (ch := [it]) (fun b hb => ?_) (fun b o _ _ hc e _ => k b o (fun z => hc (by simp [z])) e) (fun b o _ _ hc e _ => ⟨o.slots, k b o (fun z => hc (by simp [z])) e⟩) (fun _ _ _ _ n => n)
    (fun b o hc e => ⟨o, k b o (fun z => hc (by simp [z])) e⟩) (fun _ _ e => e) (fun _ _ _ e => e) (fun b ps e => ⟨#[], by rw [e]; simp⟩) (fun m hm => ?_) (fun b u e => ?_) I.bare
  · have e : b = it := by simpa using hb
    subst e
    exact ⟨h1, hL, h2, h3⟩
  · obtain ⟨o, es, ep, ho, r⟩ := hm
    exact ⟨o, es, ep, k _ o (Ne.symm hL) ho, r⟩
  · refine (I.hok b u e).stay (fun c v hc q => k c v ?_ q) (fun _ q => q) fun _ _ q => q
    rcases hc with z | z
    · rw [z]; exact nit b u e
    · exact nit c _ z
theorem Inv.tok (I : Inv X pins σ H s) (t : Nat) : Inv X pins σ H { s with toks := t } := I.un (h' := s.heap) (t' := t) Un.refl I.hok
/-- all objects kept -/
theorem Inv.kept {t' : Nat} (I : Inv X pins σ H s) (k : ∀ b u, s.heap.get? b = some u → h'.get? b = some u) : Inv X pins σ H { s with heap := h', toks := t' } := I.un (Un.kept k) (I.hok.kept k)
/-- a new object laid and tracked -/
theorem Inv.laid {a : Addr} {o : HO} {t' : Nat} (I : Inv X pins σ H s) (k : ∀ b u, s.heap.get? b = some u → h'.get? b = some u) (hp : s.heap.objs.size ≤ a) (new : ObjOk X.prog X.w (upd H a o) h' a o) :
    Inv X pins σ (upd H a o) { s with heap := h', toks := t' } := I.un (Un.laid k hp (I.hok.fresh hp)) (I.hok.laid k hp new)
/-- an object written -/
theorem Inv.write {x e : Addr} {o : HO} {t' : Nat} (I : Inv X pins σ H s) (mu : Mut (H x)) (he : e = x ∨ H e = some (.own x)) (k : ∀ b u, b ≠ e → s.heap.get? b = some u → h'.get? b = some u) (heo : ∃ u, h'.get? e = some u)
    (new : ObjOk X.prog X.w (upd H x o) h' x o) : Inv X pins σ (upd H x o) { s with heap := h', toks := t' } := I.un (Un.write mu he k heo) (I.hok.write mu he k heo new)
/-- forgetting slots, pins -/
theorem Inv.weak {σ' : List (Option V)} (I : Inv X pins σ H s) (hl : σ'.length = σ.length) (w : ∀ (i : Nat) v, σ'[i]? = some (some v) → σ[i]? = some (some v)) : Inv X pins σ' H s :=
  ⟨I.ok, I.os, I.bare, I.base, let ⟨m, hn, hl'⟩ := I.loc; ⟨m, hn, fun i x v e1 e2 e3 => hl' i x v e1 (w i v e2) e3⟩, I.cell, I.free, I.freeC, I.pin, I.hok, hl.trans I.len⟩
theorem Inv.pins_of {pins' : List (Addr × Obj)} (I : Inv X pins σ H s) (h : ∀ p ∈ pins', s.heap.get? p.1 = some p.2 ∧ H p.1 = none ∧ p.1 ≠ X.env.locals ∧ p.1 ∉ X.fs ∧ ∀ v, p.2.data ≠ .cell v) : Inv X pins' σ H s :=
  ⟨I.ok, I.os, I.bare, I.base, I.loc, I.cell, I.free, I.freeC, fun p hp => (List.mem_append.mp hp).elim (fun z => I.pin p (List.mem_append_left _ z)) (h p), I.hok, I.len⟩

theorem nodup_ix {N : List Str} (hN : N.Nodup) {i j : Nat} {x : Str} (a : N[i]? = some x) (b : N[j]? = some x) : i = j := by
  obtain ⟨h1, e1⟩ := List.getElem?_eq_some_iff.mp a
  obtain ⟨h2, e2⟩ := List.getElem?_eq_some_iff.mp b
  exact (List.getElem_inj hN).mp (e1.trans e2.symm)

/-- a name is stored; what changed -/
theorem store_ok2 {M : Model} {A : Around} {E : Value → Shared → Prop} {i : Nat} {x : Str} {v : V} {u : Value} {Q : Unit → Shared → Prop} (I : Inv X pins σ H s) (hN : X.N.Nodup) (hi : X.N[i]? = some x) (hx : Loc X.env.scope x) (r : RelV v u)
    (h : ∀ s', Inv X pins (σ.set i (some v)) H s' → (∃ a, Heap.SameBut a s.heap s'.heap ∧ (a = X.env.locals ∨ X.env.cells.lookup x = some a)) → Q () s') (hf : X.fn x = true ∨ X.env.scope.names.lookup x = some .local := by first | exact .inl rfl | exact .inr rfl | assumption) : wpAny M A (storeName X.env x u) Q E s := by
  obtain ⟨m, hn, hl⟩ := id I.loc
  have hcls : (X.env.scope.kind == .class || (X.env.scope.kind == .module && X.env.locals != X.env.globals)) = false := by rw [I.ok.kind]; rfl
  have hiσ : i < σ.length := by rw [I.len]; exact (List.getElem?_eq_some_iff.mp hi).1
  have cne := I.cne
  have tracked : ∀ {a : Addr} {h' : Heap}, (∃ o, s.heap.get? a = some o ∧ H a = none) → Heap.SameBut a s.heap h' → HOk X.prog X.w H h' := fun {a h'} ha hs b ob e => by
    obtain ⟨_, _, hfree⟩ := ha
    refine (I.hok b ob e).stay (fun c w' hc q => (hs.2 c ?_).trans q) (fun _ q => q) fun _ _ q => q
    rintro rfl
    rcases hc with rfl | hc
    · rw [hfree] at e; cases e
    · rw [hfree] at hc; cases hc
  rcases hx with hk | hk
  · refine wpAny_storeName_local hk hn (fun h' hn' hs => ?_) hcls
    obtain ⟨oL, _, _, hoL, _⟩ := id hn
    refine h _ ⟨I.ok, I.os, I.bare, ⟨fun b o e n hb hx => ?_, fun b o e n hb hx => ?_, I.base.free, fun b o e hx => ?_, I.base.tups, I.base.frzs, I.base.tbls⟩, ⟨_, hn', fun j y v' e1 e2 e3 => ?_⟩, fun y c e => ?_, I.free, I.freeC, fun p hp => ?_, tracked ⟨oL, hoL, I.free⟩ hs, by simpa using I.len⟩ ⟨_, hs, .inl rfl⟩
    · exact (hs.2 b (Nat.ne_of_lt (Nat.lt_of_lt_of_le (Heap.lt_size e) I.ok.above))).trans (I.base.keep b o e n hb hx)
    · obtain ⟨sl, e1⟩ := I.base.slot b o e n hb hx
      exact ⟨sl, (hs.2 b (Nat.ne_of_lt (Nat.lt_of_lt_of_le (Heap.lt_size e) I.ok.above))).trans e1⟩
    · obtain ⟨o', e1⟩ := I.base.there b o e hx
      exact ⟨o', (hs.2 b (Nat.ne_of_lt (Nat.lt_of_lt_of_le (Heap.lt_size e) I.ok.above))).trans e1⟩
    · by_cases hj : j = i
      · subst hj
        rw [hi] at e1; cases e1
        rw [List.getElem?_set_self hiσ] at e2
        cases e2
        exact ⟨u, r, .inl ⟨hk, by simp⟩⟩
      · rw [List.getElem?_set_ne (Ne.symm hj)] at e2
        obtain ⟨u', r', q⟩ := hl j y v' e1 e2 e3
        refine ⟨u', r', ?_⟩
        rcases q with ⟨k, e⟩ | ⟨k, c, e, z⟩
        · refine .inl ⟨k, ?_⟩
          have : y ≠ x := fun e => hj (nodup_ix hN e1 (e ▸ hi))
          simp [this, e]
        · exact .inr ⟨k, c, e, z.sameBut hs (cne y c e)⟩
    · obtain ⟨w', z⟩ := I.cell y c e
      exact ⟨w', z.sameBut hs (cne y c e)⟩
    · obtain ⟨e, n, ne, nf, d⟩ := I.pin p hp
      exact ⟨(hs.2 p.1 ne).trans e, n, ne, nf, d⟩
  · have hfn : X.fn x = true := by
      rcases hf with z | z
      · exact z
      · rw [z] at hk; cases hk
    obtain ⟨c, hc⟩ := I.ok.has x (.inl hk)
    obtain ⟨w', z⟩ := I.cell x c hc
    refine wpAny_storeName_cell I.ok.kind hk hc z (fun h' hc' hs => ?_)
    obtain ⟨oc, hoc, hocd⟩ := id z
    refine h { s with heap := h' } ⟨I.ok, I.os, I.bare, ⟨fun b o e n hb hx => ?_, fun b o e n hb hx => ?_, I.base.free, fun b o e hx => ?_, I.base.tups, I.base.frzs, I.base.tbls⟩, ⟨m, hn.sameBut hs (Ne.symm (cne x c hc)), fun j y v' e1 e2 e3 => ?_⟩, fun y c' e => ?_, I.free, I.freeC, fun p hp => ?_, tracked ⟨oc, hoc, I.freeC x c hc⟩ hs, by simpa using I.len⟩ ⟨c, hs, .inr hc⟩
    · exact (hs.2 b (Nat.ne_of_lt (Nat.lt_of_lt_of_le (Heap.lt_size e) (I.ok.cab x c hfn hc)))).trans (I.base.keep b o e n hb hx)
    · obtain ⟨sl, e1⟩ := I.base.slot b o e n hb hx
      exact ⟨sl, (hs.2 b (Nat.ne_of_lt (Nat.lt_of_lt_of_le (Heap.lt_size e) (I.ok.cab x c hfn hc)))).trans e1⟩
    · obtain ⟨o', e1⟩ := I.base.there b o e hx
      exact ⟨o', (hs.2 b (Nat.ne_of_lt (Nat.lt_of_lt_of_le (Heap.lt_size e) (I.ok.cab x c hfn hc)))).trans e1⟩
    · by_cases hj : j = i
      · subst hj
        rw [hi] at e1; cases e1
        rw [List.getElem?_set_self hiσ] at e2
        cases e2
        exact ⟨u, r, .inr ⟨.inl hk, c, hc, hc'⟩⟩
      · rw [List.getElem?_set_ne (Ne.symm hj)] at e2
        obtain ⟨u', r', q⟩ := hl j y v' e1 e2 e3
        refine ⟨u', r', ?_⟩
        rcases q with q | ⟨k, c', e, z'⟩
        · exact .inl q
        · refine .inr ⟨k, c', e, z'.sameBut hs ?_⟩
          rintro rfl
          exact hj (nodup_ix hN e1 (I.ok.inj _ _ _ e hc ▸ hi))
    · by_cases hcc : c' = c
      · subst hcc; exact ⟨_, hc'⟩
      · obtain ⟨w2, z2⟩ := I.cell y c' e
        exact ⟨w2, z2.sameBut hs hcc⟩
    · obtain ⟨e, n, ne, nf, d⟩ := I.pin p hp
      refine ⟨(hs.2 p.1 ?_).trans e, n, ne, nf, d⟩
      intro q
      rw [q, hoc] at e
      have q' : oc = p.2 := Option.some.inj e
      exact d w' (by rw [← q']; exact hocd)
theorem store_ok {M : Model} {A : Around} {E : Value → Shared → Prop} {i : Nat} {x : Str} {v : V} {u : Value} {Q : Unit → Shared → Prop} (I : Inv X pins σ H s) (hN : X.N.Nodup) (hi : X.N[i]? = some x) (hx : Loc X.env.scope x) (r : RelV v u)
    (h : ∀ s', Inv X pins (σ.set i (some v)) H s' → Q () s') (hf : X.fn x = true ∨ X.env.scope.names.lookup x = some .local := by first | exact .inl rfl | exact .inr rfl | assumption) : wpAny M A (storeName X.env x u) Q E s :=
  store_ok2 I hN hi hx r (fun s' I' _ => h s' I') hf
/-- behind a call or a block, the state as it is -/
theorem Inv.call' {s' : Shared} {ch : List Addr} (I : Inv X pins σ H s) (ho : s'.os = s.os) (u : Un (frs X.stack) ch H H' s.heap s'.heap) (hok : HOk X.prog X.w H' s'.heap) (hg : AllBare s'.gens)
    (hch : ∀ b ∈ ch, (b ∈ X.ex ∨ X.s₀.heap.objs.size ≤ b) ∧ b ≠ X.env.locals ∧ (∀ x c, X.env.cells.lookup x = some c → c ≠ b) ∧ ∀ p ∈ X.pn ++ pins, p.1 ≠ b) : Inv X pins σ H' s' := by
  obtain ⟨h', g', d', t', o'⟩ := s'
  have e : o' = s.os := ho
  subst e
  exact I.call (g' := g') (t' := t') (d' := d') u hok hg hch
end

/-! ### the judgements -/
/-- an exception: its class, its own dict's address (where it has one), the abstract heap behind it -/
abbrev XK := Value → Option Addr → Hp → Prop
abbrev St := List (Option V)
abbrev VK := V → Hp → Prop
/-- an expression's reading; a test's; an argument list's -/
abbrev TE := St → Hp → VK → Prop
abbrev TT := St → Hp → (Bool → Hp → Prop) → Prop
abbrev TA := St → Hp → (List V → Hp → Prop) → Prop
/-- what is wanted behind a statement -/
structure Ends where
  nx : St → Hp → Prop
  rt : VK
  bk : St → Hp → Prop := fun _ _ => False
  ct : St → Hp → Prop := fun _ _ => False
abbrev TS := Ends → St → Hp → Prop

def EP (X : Cx) (pins : List (Addr × Obj)) (σ : St) (Q : VK) (u : Value) (s' : Shared) : Prop := ∃ v H', Inv X pins σ H' s' ∧ RelV v u ∧ Q v H'
def TP (X : Cx) (pins : List (Addr × Obj)) (σ : St) (Q : Bool → Hp → Prop) (b : Bool) (s' : Shared) : Prop := ∃ H', Inv X pins σ H' s' ∧ Q b H'
def AP (X : Cx) (pins : List (Addr × Obj)) (σ : St) (Q : List V → Hp → Prop) (us : List Value) (s' : Shared) : Prop := ∃ vs H', Inv X pins σ H' s' ∧ Vals vs us ∧ Q vs H'
def SP (X : Cx) (pins : List (Addr × Obj)) (D : Ends) (f : Flow) (s' : Shared) : Prop :=
  match f with
  | .next => ∃ σ' H', Inv X pins σ' H' s' ∧ D.nx σ' H'
  | .brk => ∃ σ' H', Inv X pins σ' H' s' ∧ D.bk σ' H'
  | .cont => ∃ σ' H', Inv X pins σ' H' s' ∧ D.ct σ' H'
  | .ret u => ∃ v σ' H', Inv X pins σ' H' s' ∧ RelV v u ∧ D.rt v H'

def PE (X : Cx) (e : Expr) (t : TE) : Prop :=
  ∀ (pins : List (Addr × Obj)) (s : Shared) (σ : St) (H : Hp) (Q : VK), Inv X pins σ H s → t σ H Q → wpAny (model X.prog X.w) X.A (eval e X.env) (EP X pins σ Q) X.xe s
def PT (X : Cx) (e : Expr) (t : TT) : Prop :=
  ∀ (pins : List (Addr × Obj)) (s : Shared) (σ : St) (H : Hp) (Q : Bool → Hp → Prop), Inv X pins σ H s → t σ H Q → wpAny (model X.prog X.w) X.A (isTrue e X.env (eval e X.env)) (TP X pins σ Q) X.xe s
/-- a test whatever its 'whole' is (and, or) -/
def PW (X : Cx) (e : Expr) (t : TT) : Prop :=
  ∀ (whole : Sem Value) (pins : List (Addr × Obj)) (s : Shared) (σ : St) (H : Hp) (Q : Bool → Hp → Prop), Inv X pins σ H s → t σ H Q → wpAny (model X.prog X.w) X.A (isTrue e X.env whole) (TP X pins σ Q) X.xe s
theorem PW.pt {X : Cx} {e : Expr} {t : TT} (h : PW X e t) : PT X e t := h _
/-- an argument list (no star), from the left -/
def PA (X : Cx) (es : List Expr) (t : TA) : Prop :=
  ∀ (pos : Pos) (pins : List (Addr × Obj)) (s : Shared) (σ : St) (H : Hp) (Q : List V → Hp → Prop), Inv X pins σ H s → t σ H Q → wpAny (model X.prog X.w) X.A (spliced (backTo pos (starEach es X.env))) (AP X pins σ Q) X.xe s
def PS (X : Cx) (st : Stmt) (t : TS) : Prop :=
  ∀ (pins : List (Addr × Obj)) (s : Shared) (σ : St) (H : Hp) (D : Ends), Inv X pins σ H s → t D σ H → wpAny (model X.prog X.w) X.A (exec st X.env) (SP X pins D) X.xe s
def PSs (X : Cx) (st : List Stmt) (t : TS) : Prop :=
  ∀ (pins : List (Addr × Obj)) (s : Shared) (σ : St) (H : Hp) (D : Ends), Inv X pins σ H s → t D σ H → wpAny (model X.prog X.w) X.A (execs st X.env) (SP X pins D) X.xe s
/-- weaken the end -/
theorem thn {α : Type} {t : Sem α} {Q Q' : α → Shared → Prop} {M : Model} {A : Around} {E : Value → Shared → Prop} {s : Shared} (h : wpAny M A t Q E s) (hQ : ∀ a s, Q a s → Q' a s) : wpAny M A t Q' E s := wpAny_mono h hQ fun _ _ x => x
end L2

namespace L2
open PySem PySem.Spec PyProof.Rows
section
variable {X : Cx}

/-- two expressions in a row -/
theorem bin {a b : Expr} {ta tb : TE} (ha : PE X a ta) (hb : PE X b tb) {pins : List (Addr × Obj)} {s : Shared} {σ : St} {H : Hp} {R : V → V → Hp → Prop} (I : Inv X pins σ H s) (h : ta σ H fun x H1 => tb σ H1 fun y H2 => R x y H2)
    {α : Type} {Q : α → Shared → Prop} {f : Value → Value → Sem α}
    (hf : ∀ v u s2 x y H2, Inv X pins σ H2 s2 → RelV x v → RelV y u → R x y H2 → wpAny (model X.prog X.w) X.A (f v u) Q X.xe s2) :
    wpAny (model X.prog X.w) X.A (eval a X.env) (fun v s₁ => wpAny (model X.prog X.w) X.A (eval b X.env) (fun u s₂ => wpAny (model X.prog X.w) X.A (f v u) Q X.xe s₂) X.xe s₁) X.xe s := by
  refine thn (ha pins s σ H _ I h) fun v s1 ⟨x, H1, I1, r1, q1⟩ => ?_
  refine thn (hb pins s1 σ H1 _ I1 q1) fun u s2 ⟨y, H2, I2, r2, q2⟩ => ?_
  exact hf v u s2 x y H2 I2 r1 r2 q2

/-! ### names and constants -/
def tVar (i : Nat) : TE := fun σ H Q => ∃ v, σ[i]? = some (some v) ∧ Q v H
def tC (v : V) : TE := fun _ H Q => Q v H
theorem pe_var {i : Nat} {x : Str} {pos : Pos} (hN : X.N[i]? = some x) (hv : Vis X.env.scope x) (hd : (x == ("__debug__" : Str)) = false := by decide) (hcd : (x == ("__classdict__" : Str)) = false := by decide) : PE X (.Name x pos) (tVar i) := by
  intro pins s σ H Q I h
  obtain ⟨v, e, h⟩ := h
  obtain ⟨m, hn, hl⟩ := I.loc
  obtain ⟨u, r, l⟩ := hl i x v hN e hv
  have fin : EP X pins σ Q u s := ⟨v, H, I, r, h⟩
  rcases l with ⟨hk, hm⟩ | ⟨hk, c, hc, hcell⟩
  · exact wpAny_Name (wpAny_loadName_local I.ok.kind hk hn hm fin) hd
  · rcases hk with hk | hk
    · exact wpAny_Name (wpAny_loadName_cell I.ok.kind hk hc hcell fin) hd
    · exact wpAny_Name (wpAny_loadName_free I.ok.kind hk hc hcell fin hcd) hd
theorem pe_int {i j pos} : PE X (.Constant (.int i) j pos) (tC (.int i)) := fun _ _ _ H _ I h => wpAny_Constant_int ⟨.int i, H, I.tok _, ⟨_, rfl⟩, h⟩
theorem pe_bl {b j pos} : PE X (.Constant (.bool b) j pos) (tC (.bl b)) := fun _ _ _ H _ I h => Constant_bool ⟨.bl b, H, I, rfl, h⟩
theorem pe_non {j pos} : PE X (.Constant .none j pos) (tC .non) := fun _ _ _ H _ I h => Constant_none ⟨.non, H, I, rfl, h⟩
theorem pe_str {x j pos} : PE X (.Constant (.str x) j pos) (tC (.str x)) := fun _ _ _ H _ I h => Calls.Constant_str ⟨.str x, H, I.tok _, ⟨_, rfl⟩, h⟩

/-- a global name of the def -/
def Gl (X : Cx) (x : Str) : Prop := X.env.kindOf x = some .globalImplicit
theorem ld_glob {E : Value → Shared → Prop} {pins : List (Addr × Obj)} {s : Shared} {σ : St} {H : Hp} {x : Str} {u : Value} {pos : Pos} {Q : Value → Shared → Prop} (I : Inv X pins σ H s) (hg : Gl X x) (hm : X.mg x = some u) (h : Q u s)
    (hd : (x == ("__debug__" : Str)) = false := by decide) : wpAny (model X.prog X.w) X.A (eval (.Name x pos) X.env) Q E s :=
  Calls.Name_function_global I.ok.kind hg (Calls.loadGlobal_global (by rw [I.ok.glob]; exact I.mod.glob.keeps I.bk) hm h) hd
theorem ld_blt {E : Value → Shared → Prop} {pins : List (Addr × Obj)} {s : Shared} {σ : St} {H : Hp} {x : Str} {u : Value} {pos : Pos} {Q : Value → Shared → Prop} (I : Inv X pins σ H s) (hg : Gl X x) (hm : X.mg x = none) (hv : bootBuiltins x = some u) (h : Q u s)
    (hn : x ≠ "__name__" := by decide) (hd : (x == ("__debug__" : Str)) = false := by decide) : wpAny (model X.prog X.w) X.A (eval (.Name x pos) X.env) Q E s := by
  obtain ⟨mb, h1, h2⟩ := I.mod.blt
  exact Calls.Name_function_global I.ok.kind hg (Calls.loadGlobal_builtin (by rw [I.ok.glob]; exact I.mod.glob.keeps I.bk) hm (by rw [I.ok.blt]; exact h1.keeps I.bk) ((h2 x hn).trans hv) h) hd
/-- a module's constant, a class, a function, as a value -/
theorem pe_glob {x : Str} {v : V} {u : Value} {pos : Pos} (hg : Gl X x) (hm : X.mg x = some u) (r : RelV v u) (hd : (x == ("__debug__" : Str)) = false := by decide) : PE X (.Name x pos) (tC v) :=
  fun _ _ _ H _ I h => ld_glob I hg hm ⟨v, H, I, r, h⟩ hd
theorem pe_bltn {x : Str} {v : V} {u : Value} {pos : Pos} (hg : Gl X x) (hm : X.mg x = none) (hv : bootBuiltins x = some u) (r : RelV v u) (hn : x ≠ "__name__" := by decide) (hd : (x == ("__debug__" : Str)) = false := by decide) : PE X (.Name x pos) (tC v) :=
  fun _ _ _ H _ I h => ld_blt I hg hm hv ⟨v, H, I, r, h⟩ hn hd

/-! ### arithmetic -/
/-- two ints -/
def t2I (ta tb : TE) (k : Int → Int → Hp → Prop) : St → Hp → Prop := fun σ H => ta σ H fun x H1 => tb σ H1 fun y H2 => ∃ i j, x = .int i ∧ y = .int j ∧ k i j H2
def tAdd (ta tb : TE) : TE := fun σ H Q => t2I ta tb (fun i j H2 => Q (.int (i + j)) H2) σ H
def tSub (ta tb : TE) : TE := fun σ H Q => t2I ta tb (fun i j H2 => Q (.int (i - j)) H2) σ H
/-- the left factor below 2^64 -/
def tMul (ta tb : TE) : TE := fun σ H Q => t2I ta tb (fun i j H2 => (-(2 ^ 64) < i ∧ i < 2 ^ 64) ∧ Q (.int (i * j)) H2) σ H
variable {a b : Expr} {ta tb : TE} {pos : Pos}
theorem pe_add (ha : PE X a ta) (hb : PE X b tb) : PE X (.BinOp a .Add b pos) (tAdd ta tb) := by
  intro pins s σ H Q I h
  refine wpAny_BinOp (bin ha hb I h fun v u s2 x y H2 I2 rx ry q => ?_)
  obtain ⟨i, j, rfl, rfl, q⟩ := q
  obtain ⟨t, rfl⟩ := rx
  obtain ⟨t', rfl⟩ := ry
  exact add_int ⟨.int _, H2, I2.tok _, ⟨_, rfl⟩, q⟩
theorem pe_sub (ha : PE X a ta) (hb : PE X b tb) : PE X (.BinOp a .Sub b pos) (tSub ta tb) := by
  intro pins s σ H Q I h
  refine wpAny_BinOp (bin ha hb I h fun v u s2 x y H2 I2 rx ry q => ?_)
  obtain ⟨i, j, rfl, rfl, q⟩ := q
  obtain ⟨t, rfl⟩ := rx
  obtain ⟨t', rfl⟩ := ry
  exact sub_int ⟨.int _, H2, I2.tok _, ⟨_, rfl⟩, q⟩
theorem pe_mul (ha : PE X a ta) (hb : PE X b tb) : PE X (.BinOp a .Mult b pos) (tMul ta tb) := by
  intro pins s σ H Q I h
  refine wpAny_BinOp (bin ha hb I h fun v u s2 x y H2 I2 rx ry q => ?_)
  obtain ⟨i, j, rfl, rfl, ⟨q1, q2⟩, q⟩ := q
  obtain ⟨t, rfl⟩ := rx
  obtain ⟨t', rfl⟩ := ry
  exact mul_int ⟨.int _, H2, I2.tok _, ⟨_, rfl⟩, q⟩ (.of_left (intBits_le_64 q1 q2))

/-! ### comparisons -/
def PC (X : Cx) (op : CmpOp) (a b : Expr) (t : TE) : Prop :=
  ∀ (pins : List (Addr × Obj)) (s : Shared) (σ : St) (H : Hp) (Q : VK), Inv X pins σ H s → t σ H Q →
    wpAny (model X.prog X.w) X.A (eval a X.env) (fun v s₁ => wpAny (model X.prog X.w) X.A (eval b X.env) (fun u s₂ => wpAny (model X.prog X.w) X.A (compareOp op v u) (EP X pins σ Q) X.xe s₂) X.xe s₁) X.xe s
theorem nobehind (b : Expr) {op : CmpOp} (h : op ≠ .In) (h2 : op ≠ .NotIn) : behindInMarks op b = false := by
  have e1 : (op == CmpOp.In) = false := by cases op <;> first | rfl | exact absurd rfl h
  have e2 : (op == CmpOp.NotIn) = false := by cases op <;> first | rfl | exact absurd rfl h2
  cases b <;> simp [behindInMarks, e1, e2]
def tCmp (p : Int → Int → Bool) (ta tb : TE) : TE := fun σ H Q => t2I ta tb (fun i j H2 => Q (.bl (p i j)) H2) σ H
abbrev tLt : TE → TE → TE := tCmp fun i j => decide (i < j)
abbrev tLe : TE → TE → TE := tCmp fun i j => decide (i ≤ j)
abbrev tGt : TE → TE → TE := tCmp fun i j => decide (j < i)
abbrev tGe : TE → TE → TE := tCmp fun i j => decide (j ≤ i)
abbrev tEqI : TE → TE → TE := tCmp fun i j => decide (i = j)
abbrev tNeI : TE → TE → TE := tCmp fun i j => !decide (i = j)
/-- a comparison of two ints, by its rule -/
theorem pc_int {op : CmpOp} {p : Int → Int → Bool} (ha : PE X a ta) (hb : PE X b tb)
    (rule : ∀ (i j : Int) (t u : Tok) (Q : Value → Shared → Prop) (s : Shared), Q (.bool (p i j)) s → wpAny (model X.prog X.w) X.A (compareOp op (.int i t) (.int j u)) Q X.xe s) : PC X op a b (tCmp p ta tb) := by
  intro pins s σ H Q I h
  refine bin ha hb I h fun v u s2 x y H2 I2 rx ry q => ?_
  obtain ⟨i, j, rfl, rfl, q⟩ := q
  obtain ⟨t, rfl⟩ := rx
  obtain ⟨t', rfl⟩ := ry
  exact rule i j t t' _ s2 ⟨.bl _, H2, I2, rfl, q⟩
theorem pc_lt (ha : PE X a ta) (hb : PE X b tb) : PC X .Lt a b (tLt ta tb) := pc_int ha hb fun _ _ _ _ _ _ h => lt_int h
theorem pc_le (ha : PE X a ta) (hb : PE X b tb) : PC X .LtE a b (tLe ta tb) := pc_int ha hb fun _ _ _ _ _ _ h => le_int h
theorem pc_gt (ha : PE X a ta) (hb : PE X b tb) : PC X .Gt a b (tGt ta tb) := pc_int ha hb fun _ _ _ _ _ _ h => gt_int h
theorem pc_ge (ha : PE X a ta) (hb : PE X b tb) : PC X .GtE a b (tGe ta tb) := pc_int ha hb fun _ _ _ _ _ _ h => ge_int h
theorem pc_eqI (ha : PE X a ta) (hb : PE X b tb) : PC X .Eq a b (tEqI ta tb) := pc_int ha hb fun _ _ _ _ _ _ h => eq_int (by rw [Bool.beq_eq_decide_eq]; exact h)
theorem pc_neI (ha : PE X a ta) (hb : PE X b tb) : PC X .NotEq a b (tNeI ta tb) := pc_int ha hb fun _ _ _ _ _ _ h => ne_int (by rw [bne, Bool.beq_eq_decide_eq]; exact h)
/-- is None -/
def tIsN (ta : TE) : TE := fun σ H Q => ta σ H fun x H1 => Q (.bl (decide (x = .non))) H1
def tNotN (ta : TE) : TE := fun σ H Q => ta σ H fun x H1 => Q (.bl (!decide (x = .non))) H1
theorem RelV.none_iff {x : V} {v : Value} (r : RelV x v) : (v == Value.none) = decide (x = .non) := by
  cases x with
  | non => cases r; rfl
  | bl _ => cases r; rfl
  | int _ => obtain ⟨t, rfl⟩ := r; rfl
  | str _ => obtain ⟨t, rfl⟩ := r; rfl
  | byt _ => obtain ⟨t, rfl⟩ := r; rfl
  | flt _ => obtain ⟨t, rfl⟩ := r; rfl
  | ref _ => cases r; rfl
  | ty _ => cases r; rfl
theorem pc_isN {j pos'} (ha : PE X a ta) : PC X .Is a (.Constant .none j pos') (tIsN ta) := by
  intro pins s σ H Q I h
  refine thn (ha pins s σ H _ I h) fun v s1 ⟨x, H1, I1, r1, q1⟩ => ?_
  exact Constant_none (is_none_gen ⟨.bl _, H1, I1, by rw [r1.none_iff]; rfl, q1⟩)
theorem pc_notN {j pos'} (ha : PE X a ta) : PC X .IsNot a (.Constant .none j pos') (tNotN ta) := by
  intro pins s σ H Q I h
  refine thn (ha pins s σ H _ I h) fun v s1 ⟨x, H1, I1, r1, q1⟩ => ?_
  exact Constant_none (isnot_none_gen ⟨.bl _, H1, I1, by rw [r1.none_iff]; rfl, q1⟩)
/-- a comparison as a value, as a test -/
def tB (t : TE) : TT := fun σ H Q => t σ H fun x H1 => ∃ c, x = .bl c ∧ Q c H1
theorem pe_cmp {op : CmpOp} {t : TE} (h : PC X op a b t) (h1 : behindInMarks op b = false := by first | exact nobehind _ (by decide) (by decide) | rfl) : PE X (.Compare a [op] [b] pos) t := fun pins s σ H Q I hw => wpAny_Compare1 (h pins s σ H Q I hw) h1
theorem pt_cmp {op : CmpOp} {t : TE} (h : PC X op a b t) (h1 : behindInMarks op b = false := by first | exact nobehind _ (by decide) (by decide) | rfl) : PT X (.Compare a [op] [b] pos) (tB t) := by
  intro pins s σ H Q I hw
  refine wpAny_isTrue_Compare1 (thn (h pins s σ H _ I hw) fun v s1 h1 => thn h1 fun u s2 h2 => thn h2 fun c s3 ⟨x, H1, I1, r1, q1⟩ => ?_) h1
  obtain ⟨d, rfl, q⟩ := q1
  cases r1
  exact wpAny_truthy_bool ⟨H1, I1, q⟩
/-- an expression whose value is a bool, as a test -/
theorem pt_val {e : Expr} {t : TE} (h : PE X e t) (he : ∀ whole, isTrue e X.env whole = (do let v ← whole; standAt e.pos; holding [v] (truthy v)) := by intro _; rfl) : PT X e (tB t) := by
  intro pins s σ H Q I hw
  refine isTrue_plain (thn (h pins s σ H _ I hw) fun v s1 ⟨x, H1, I1, r1, q1⟩ => ?_) (he _)
  obtain ⟨d, rfl, q⟩ := q1
  cases r1
  exact wpAny_truthy_bool ⟨H1, I1, q⟩

/-! ### and, or, not -/
variable {tA tB' : TT} {rest : List Expr}
def tAnd (t u : TT) : TT := fun σ H Q => t σ H fun c H1 => if c = true then u σ H1 Q else Q false H1
def tOr (t u : TT) : TT := fun σ H Q => t σ H fun c H1 => if c = true then Q true H1 else u σ H1 Q
def tNot (t : TT) : TT := fun σ H Q => t σ H fun c H1 => Q (!c) H1
theorem pw_and1 (ha : PT X a tA) : PW X (.BoolOp .And [a] pos) tA := by
  intro wh pins s σ H Q I h
  refine isTrue_and (thn (ha pins s σ H Q I h) fun c s1 e => ?_)
  cases c with
  | true => exact isTrue_and_nil e
  | false => exact e
theorem pw_or1 (ha : PT X a tA) : PW X (.BoolOp .Or [a] pos) tA := by
  intro wh pins s σ H Q I h
  refine isTrue_or (thn (ha pins s σ H Q I h) fun c s1 e => ?_)
  cases c with
  | false => exact isTrue_or_nil e
  | true => exact e
theorem pw_and (ha : PT X a tA) (hb : PW X (.BoolOp .And (b :: rest) pos) tB') : PW X (.BoolOp .And (a :: b :: rest) pos) (tAnd tA tB') := by
  intro wh pins s σ H Q I h
  refine isTrue_and (thn (ha pins s σ H _ I h) fun c s1 ⟨H1, I1, q1⟩ => ?_)
  cases c with
  | true => exact hb wh pins s1 σ H1 Q I1 q1
  | false => exact ⟨H1, I1, q1⟩
theorem pw_or (ha : PT X a tA) (hb : PW X (.BoolOp .Or (b :: rest) pos) tB') : PW X (.BoolOp .Or (a :: b :: rest) pos) (tOr tA tB') := by
  intro wh pins s σ H Q I h
  refine isTrue_or (thn (ha pins s σ H _ I h) fun c s1 ⟨H1, I1, q1⟩ => ?_)
  cases c with
  | true => exact ⟨H1, I1, q1⟩
  | false => exact hb wh pins s1 σ H1 Q I1 q1
theorem pt_not (ha : PT X a tA) : PT X (.UnaryOp .Not a pos) (tNot tA) := by
  intro pins s σ H Q I h
  exact isTrue_not (ha pins s σ H (fun c H1 => Q (!c) H1) I h)
/-- .. as values (bools) -/
def tAndV (ta tb : TE) : TE := fun σ H Q => ta σ H fun x H1 => ∃ c, x = .bl c ∧ if c = true then tb σ H1 Q else Q (.bl false) H1
def tOrV (ta tb : TE) : TE := fun σ H Q => ta σ H fun x H1 => ∃ c, x = .bl c ∧ if c = true then Q (.bl true) H1 else tb σ H1 Q
def tNotV (ta : TE) : TE := fun σ H Q => ta σ H fun x H1 => ∃ c, x = .bl c ∧ Q (.bl (!c)) H1
theorem pe_one {op} {t : TE} (h : PE X a t) : PE X (.BoolOp op [a] pos) t := fun pins s σ H Q I hw => BoolOp_one (h pins s σ H Q I hw)
theorem pe_and (ha : PE X a ta) (hb : PE X (.BoolOp .And (b :: rest) pos) tb) : PE X (.BoolOp .And (a :: b :: rest) pos) (tAndV ta tb) := by
  intro pins s σ H Q I h
  refine BoolOp_and (thn (ha pins s σ H _ I h) fun v s1 ⟨x, H1, I1, r1, q1⟩ => ?_)
  obtain ⟨c, rfl, q1⟩ := q1
  cases r1
  refine wpAny_truthy_bool ?_
  cases c with
  | true => exact hb pins s1 σ H1 Q I1 q1
  | false => exact ⟨.bl false, H1, I1, rfl, q1⟩
theorem pe_or (ha : PE X a ta) (hb : PE X (.BoolOp .Or (b :: rest) pos) tb) : PE X (.BoolOp .Or (a :: b :: rest) pos) (tOrV ta tb) := by
  intro pins s σ H Q I h
  refine BoolOp_or (thn (ha pins s σ H _ I h) fun v s1 ⟨x, H1, I1, r1, q1⟩ => ?_)
  obtain ⟨c, rfl, q1⟩ := q1
  cases r1
  refine wpAny_truthy_bool ?_
  cases c with
  | false => exact hb pins s1 σ H1 Q I1 q1
  | true => exact ⟨.bl true, H1, I1, rfl, q1⟩
theorem pe_not (ha : PE X a ta) : PE X (.UnaryOp .Not a pos) (tNotV ta) := by
  intro pins s σ H Q I h
  refine UnaryOp_ (thn (ha pins s σ H _ I h) fun v s1 ⟨x, H1, I1, r1, q1⟩ => ?_)
  obtain ⟨c, rfl, q1⟩ := q1
  cases r1
  exact not_of (wpAny_truthy_bool ⟨.bl (!c), H1, I1, rfl, q1⟩)
/-- a if t else b -/
def tIf (t : TT) (ta tb : TE) : TE := fun σ H Q => t σ H fun c H1 => if c = true then ta σ H1 Q else tb σ H1 Q
theorem pe_ifExp {c : Expr} (hc : PT X c tA) (ha : PE X a ta) (hb : PE X b tb) : PE X (.IfExp c a b pos) (tIf tA ta tb) := by
  intro pins s σ H Q I h
  refine wpAny_IfExp (thn (hc pins s σ H _ I h) fun d s1 ⟨H1, I1, q1⟩ => ?_)
  cases d with
  | true => exact ha pins s1 σ H1 Q I1 q1
  | false => exact hb pins s1 σ H1 Q I1 q1
end
end L2

namespace L2
open PySem PySem.Spec PyProof.Rows

/-! ### a list, a tuple that is read: tracked, frozen, or an object of the module -/
def SqL (K : PySem.W.Frag) (H : Hp) (a : Addr) (xs : List V) : Prop :=
  Rd H a (.lst xs) ∨
    ∃ (o : Obj) (its : Array Value) (n : Nat), K.lookup a = some o ∧ o.cls = .type "list" ∧ o.dict = none ∧ o.data = .seq its n ∧ its.size ≤ sizeLine ∧ Vals xs its.toList
def SqT (K : PySem.W.Frag) (H : Hp) (a : Addr) (xs : List V) : Prop :=
  Rd H a (.tup xs) ∨
    ∃ (o : Obj) (its : Array Value) (n : Nat), K.lookup a = some o ∧ o.cls = .type "tuple" ∧ o.data = .seq its n ∧ its.size ≤ sizeLine ∧ Vals xs its.toList
def absV : Value → Option V
  | .none => some .non
  | .bool b => some (.bl b)
  | .int i _ => some (.int i)
  | .str x _ => some (.str x)
  | .bytes b _ => some (.byt b)
  | .float b _ => some (.flt b)
  | .ref a => some (.ref a)
  | .type n => some (.ty n)
  | _ => none
theorem RelV.abs {x : V} {u : Value} (r : RelV x u) : absV u = some x := by
  cases x with
  | non => cases r; rfl
  | bl _ => cases r; rfl
  | int _ => obtain ⟨t, rfl⟩ := r; rfl
  | str _ => obtain ⟨t, rfl⟩ := r; rfl
  | byt _ => obtain ⟨t, rfl⟩ := r; rfl
  | flt _ => obtain ⟨t, rfl⟩ := r; rfl
  | ref _ => cases r; rfl
  | ty _ => cases r; rfl
theorem RelV.inj {x y : V} {u : Value} (r : RelV x u) (q : RelV y u) : x = y := Option.some.inj (r.abs.symm.trans q.abs)
theorem Vals.inj : ∀ {xs ys : List V} {us : List Value}, Vals xs us → Vals ys us → xs = ys
  | _, _, _, .nil, .nil => rfl
  | _, _, _, .cons r t, .cons r' t' => by rw [r.inj r', Vals.inj t t']
section
variable {X : Cx} {pins : List (Addr × Obj)} {σ : St} {H : Hp} {s : Shared} {a : Addr} {xs ys : List V}
theorem SqL.of {K : PySem.W.Frag} (h : H a = some (.lst xs)) : SqL K H a xs := .inl (.inl h)
theorem SqT.of {K : PySem.W.Frag} (h : H a = some (.tup xs)) : SqT K H a xs := .inl (.inl h)
theorem Inv.list (I : Inv X pins σ H s) (h : SqL X.K H a xs) : ∃ its : List Value, Vals xs its ∧ PlainL s.heap a its.toArray ∧ xs.length ≤ sizeLine := by
  rcases h with h | ⟨o, its, n, hk, hc, hd, hs, hz, r⟩
  · obtain ⟨z, its, n, r, e⟩ := h.ok I.hok
    exact ⟨its, r, ⟨_, n, e, rfl, rfl, rfl⟩, z⟩
  · refine ⟨its.toList, r, ⟨o, n, I.kIn a o hk, hc, hd, by simpa using hs⟩, ?_⟩
    have e := r.length
    simp only [Array.length_toList] at e
    omega
theorem Inv.tuple (I : Inv X pins σ H s) (h : SqT X.K H a xs) : ∃ its : List Value, Vals xs its ∧ IsTup s.heap a its.toArray ∧ xs.length ≤ sizeLine := by
  rcases h with h | ⟨o, its, n, hk, hc, hs, hz, r⟩
  · obtain ⟨z, its, r, p⟩ := h.ok I.hok
    exact ⟨its, r, p, z⟩
  · refine ⟨its.toList, r, ⟨o, I.kIn a o hk, hc, n, by simpa using hs⟩, ?_⟩
    have e := r.length
    simp only [Array.length_toList] at e
    omega
theorem Inv.list_inj (I : Inv X pins σ H s) (h : SqL X.K H a xs) (h' : SqL X.K H a ys) : xs = ys := by
  obtain ⟨its, r, ⟨o, n, e, _, _, d⟩, _⟩ := I.list h
  obtain ⟨its', r', ⟨o', n', e', _, _, d'⟩, _⟩ := I.list h'
  rw [e] at e'; cases e'
  rw [d] at d'
  injection d' with d1 _
  have : its = its' := by simpa using congrArg Array.toList d1
  subst this
  exact r.inj r'
theorem Inv.tuple_inj (I : Inv X pins σ H s) (h : SqT X.K H a xs) (h' : SqT X.K H a ys) : xs = ys := by
  obtain ⟨its, r, ⟨o, e, _, n, d⟩, _⟩ := I.tuple h
  obtain ⟨its', r', ⟨o', e', _, n', d'⟩, _⟩ := I.tuple h'
  rw [e] at e'; cases e'
  rw [d] at d'
  injection d' with d1 _
  have : its = its' := by simpa using congrArg Array.toList d1
  subst this
  exact r.inj r'
end

/-! ### another wish about exceptions -/
abbrev Cx.wish (X : Cx) (E : Value → Shared → Prop) : Cx := { X with xe := E }
/-- no exception leaves -/
abbrev Cx.nox (X : Cx) : Cx := X.wish fun _ _ => False
theorem Cx.Ok.wish {X : Cx} (ok : X.Ok) (E : Value → Shared → Prop) : (X.wish E).Ok :=
  ⟨ok.mod, ok.kind, ok.glob, ok.blt, ok.above, ok.inj, ok.has, ok.cab, ok.hd, ok.frames, ok.stk, ok.exf, ok.bs, ok.bsz, ok.noex, ok.exfs, ok.funs, ok.frf⟩
theorem Cx.Ok.unwish {X : Cx} {E : Value → Shared → Prop} (ok : (X.wish E).Ok) : X.Ok :=
  ⟨ok.mod, ok.kind, ok.glob, ok.blt, ok.above, ok.inj, ok.has, ok.cab, ok.hd, ok.frames, ok.stk, ok.exf, ok.bs, ok.bsz, ok.noex, ok.exfs, ok.funs, ok.frf⟩
section
variable {X : Cx} {pins : List (Addr × Obj)} {σ : St} {H : Hp} {s : Shared} {E : Value → Shared → Prop}
theorem Inv.wish (I : Inv X pins σ H s) (E : Value → Shared → Prop) : Inv (X.wish E) pins σ H s := ⟨I.ok.wish E, I.os, I.bare, I.base, I.loc, I.cell, I.free, I.freeC, I.pin, I.hok, I.len⟩
theorem Inv.unwish (I : Inv (X.wish E) pins σ H s) : Inv X pins σ H s := ⟨I.ok.unwish, I.os, I.bare, I.base, I.loc, I.cell, I.free, I.freeC, I.pin, I.hok, I.len⟩
theorem SP.unwish {D : Ends} {f : Flow} {s' : Shared} (h : SP (X.wish E) pins D f s') : SP X pins D f s' := by
  cases f with
  | next => obtain ⟨σ', H', I, q⟩ := h; exact ⟨σ', H', I.unwish, q⟩
  | brk => obtain ⟨σ', H', I, q⟩ := h; exact ⟨σ', H', I.unwish, q⟩
  | cont => obtain ⟨σ', H', I, q⟩ := h; exact ⟨σ', H', I.unwish, q⟩
  | ret u => obtain ⟨v, σ', H', I, r, q⟩ := h; exact ⟨v, σ', H', I.unwish, r, q⟩
theorem PE.nox {e : Expr} {t : TE} (h : PE X.nox e t) : PE X e t := fun pins s σ H Q I hw =>
  wpAny_mono (h pins s σ H Q (I.wish _) hw) (fun _ _ ⟨v, H', I', r, q⟩ => ⟨v, H', I'.unwish, r, q⟩) fun _ _ z => False.elim z
theorem PT.nox {e : Expr} {t : TT} (h : PT X.nox e t) : PT X e t := fun pins s σ H Q I hw =>
  wpAny_mono (h pins s σ H Q (I.wish _) hw) (fun _ _ ⟨H', I', q⟩ => ⟨H', I'.unwish, q⟩) fun _ _ z => False.elim z
theorem PSs.nox {st : List Stmt} {t : TS} (h : PSs X.nox st t) : PSs X st t := fun pins s σ H D I hw =>
  wpAny_mono (h pins s σ H D (I.wish _) hw) (fun _ _ q => q.unwish) fun _ _ z => False.elim z
end

/-! ### blocks and small statements -/
section
variable {X : Cx} {st : Stmt} {rest : List Stmt} {t u : TS} {e : Expr} {te : TE} {pos : Pos}
def tNext : TS := fun D σ H => D.nx σ H
def tSeq (t u : TS) : TS := fun D σ H => t { D with nx := u D } σ H
theorem pss_nil : PSs X [] tNext := fun _ _ σ H _ I h => wpAny_execs_nil ⟨σ, H, I, h⟩
theorem pss_cons (h1 : PS X st t) (h2 : PSs X rest u) : PSs X (st :: rest) (tSeq t u) := by
  intro pins s σ H D I h
  refine wpAny_execs_cons (thn (h1 pins s σ H { D with nx := u D } I h) fun f s1 q => ?_)
  cases f with
  | next =>
    obtain ⟨σ', H', I', q⟩ := q
    exact h2 pins s1 σ' H' D I' q
  | ret v => exact q
  | brk => exact q
  | cont => exact q
theorem pss_one (h1 : PS X st t) : PSs X [st] t := by
  intro pins s σ H D I h
  refine wpAny_execs_cons (thn (h1 pins s σ H D I h) fun f s1 q => ?_)
  cases f with
  | next => exact wpAny_execs_nil q
  | ret v => exact q
  | brk => exact q
  | cont => exact q
def tBreak : TS := fun D σ H => D.bk σ H
def tCont : TS := fun D σ H => D.ct σ H
theorem ps_pass : PS X (.Pass pos) tNext := fun _ _ σ H _ I h => wpAny_Pass ⟨σ, H, I, h⟩
theorem ps_break : PS X (.Break pos) tBreak := fun _ _ σ H _ I h => wpAny_Break ⟨σ, H, I, h⟩
theorem ps_continue : PS X (.Continue pos) tCont := fun _ _ σ H _ I h => wpAny_Continue ⟨σ, H, I, h⟩
/-- in a def's body nothing is shown -/
theorem Inv.quiet {pins : List (Addr × Obj)} {σ : St} {H : Hp} {s : Shared} (I : Inv X pins σ H s) : interactive X.env = false := by simp [interactive, I.ok.kind]
/-- a docstring -/
theorem ps_doc {x j pos pos'} : PS X (.Expr (.Constant (.str x) j pos) pos') tNext := fun _ s σ H _ I h => wpAny_Expr (Calls.Constant_str (show SP X _ _ .next { s with toks := s.toks + 1 } from ⟨σ, H, I.tok _, h⟩)) I.quiet
/-- an expression whose value is dropped -/
def tDrop (te : TE) : TS := fun D σ H => te σ H fun _ H1 => D.nx σ H1
theorem ps_expr (he : PE X e te) (hs : swapsWith e none pos.line X.env = pure false := by rfl) : PS X (.Expr e pos) (tDrop te) := by
  intro pins s σ H D I h
  exact wpAny_Expr_any (thn (he pins s σ H _ I h) fun v s1 ⟨x, H1, I1, r1, q1⟩ => ⟨σ, H1, I1, q1⟩) I.quiet hs
def tRet (te : TE) : TS := fun D σ H => te σ H D.rt
theorem ps_ret (he : PE X e te) : PS X (.Return (some e) pos) (tRet te) := by
  intro pins s σ H D I h
  exact wpAny_Return_some (thn (he pins s σ H _ I h) fun v s1 ⟨x, H1, I1, r1, q1⟩ => ⟨x, σ, H1, I1, r1, q1⟩)
def tRetN : TS := fun D _ H => D.rt .non H
theorem ps_retN : PS X (.Return none pos) tRetN := fun _ _ σ H _ I h => wpAny_Return_none ⟨.non, σ, H, I, rfl, h⟩
def tIfS (c : TT) (t u : TS) : TS := fun D σ H => c σ H fun b H1 => if b = true then t D σ H1 else u D σ H1
theorem ps_if {c : Expr} {a b : List Stmt} {tc : TT} (hc : PT X c tc) (ha : PSs X a t) (hb : PSs X b u) : PS X (.If c a b pos) (tIfS tc t u) := by
  intro pins s σ H D I h
  refine wpAny_If (thn (hc pins s σ H _ I h) fun d s1 ⟨H1, I1, q1⟩ => ?_)
  cases d with
  | true => exact ha pins s1 σ H1 D I1 q1
  | false => exact hb pins s1 σ H1 D I1 q1
/-- code that the proof never comes to -/
def tNever : TS := fun _ _ _ => False
theorem ps_never : PS X st tNever := fun _ _ _ _ _ _ h => h.elim
theorem pss_never {sts : List Stmt} : PSs X sts tNever := fun _ _ _ _ _ _ h => h.elim
end

/-! ### targets -/
abbrev TG := V → St → Hp → (St → Hp → Prop) → Prop
abbrev TGs := List V → St → Hp → (St → Hp → Prop) → Prop
def PG (X : Cx) (target : Expr) (t : TG) : Prop :=
  ∀ (pins : List (Addr × Obj)) (s : Shared) (σ : St) (H : Hp) (v : V) (u : Value) (Q : St → Hp → Prop), Inv X pins σ H s → RelV v u → t v σ H Q →
    wpAny (model X.prog X.w) X.A (assign target X.env u) (fun _ s' => ∃ σ' H', Inv X pins σ' H' s' ∧ Q σ' H') X.xe s
/-- several targets, one after another -/
def PGs (X : Cx) (ts : List Expr) (t : TGs) : Prop :=
  ∀ (pins : List (Addr × Obj)) (s : Shared) (σ : St) (H : Hp) (vs : List V) (us : List Value) (Q : St → Hp → Prop), Inv X pins σ H s → Vals vs us → t vs σ H Q →
    wpAny (model X.prog X.w) X.A (assignInOrder ((assignEach ts X.env).map (·.2)) us) (fun _ s' => ∃ σ' H', Inv X pins σ' H' s' ∧ Q σ' H') X.xe s
/-- o[i] = v, by values -/
abbrev TSet := V → V → V → Hp → (Hp → Prop) → Prop
def PSet (X : Cx) (t : TSet) : Prop :=
  ∀ (pins : List (Addr × Obj)) (s : Shared) (σ : St) (H : Hp) (o i v : V) (ov iv u : Value) (Q : Hp → Prop), Inv X pins σ H s → RelV o ov → RelV i iv → RelV v u → t o i v H Q →
    wpAny (model X.prog X.w) X.A (setItem ov iv u) (fun _ s' => ∃ H', Inv X pins σ H' s' ∧ Q H') X.xe s
/-- a op= b, by values -/
abbrev TIp := V → V → Hp → VK → Prop
def PIp (X : Cx) (op : Operator) (t : TIp) : Prop :=
  ∀ (pins : List (Addr × Obj)) (s : Shared) (σ : St) (H : Hp) (x y : V) (v u : Value) (Q : VK), Inv X pins σ H s → RelV x v → RelV y u → t x y H Q →
    wpAny (model X.prog X.w) X.A (inplaceOp op v u) (EP X pins σ Q) X.xe s
section
variable {X : Cx} {pos : Pos}
def gName (i : Nat) : TG := fun v σ H Q => Q (σ.set i (some v)) H
theorem pg_name {i : Nat} {x : Str} (hN : X.N.Nodup) (hi : X.N[i]? = some x) (hx : Loc X.env.scope x) (hf : X.fn x = true ∨ X.env.scope.names.lookup x = some .local := by first | exact .inl rfl | exact .inr rfl | assumption) : PG X (.Name x pos) (gName i) := by
  intro pins s σ H v u Q I r h
  exact wpAny_assign_Name (store_ok I hN hi hx r (fun s' I' => ⟨_, H, I', h⟩) hf)
def gNil : TGs := fun vs σ H Q => vs = [] ∧ Q σ H
def gCons (t : TG) (u : TGs) : TGs := fun vs σ H Q => ∃ v r, vs = v :: r ∧ t v σ H fun σ' H' => u r σ' H' Q
theorem pgs_nil : PGs X [] gNil := by
  intro pins s σ H vs us Q I r h
  obtain ⟨e, h⟩ := h
  subst e
  cases r
  exact assignInOrder_nil ⟨σ, H, I, h⟩
theorem pgs_cons {e : Expr} {es : List Expr} {t : TG} {u : TGs} (h1 : PG X e t) (h2 : PGs X es u)
    (hs : (assignEach (e :: es) X.env).map (·.2) = assign e X.env :: (assignEach es X.env).map (·.2) := by rfl) : PGs X (e :: es) (gCons t u) := by
  intro pins s σ H vs us Q I r h
  obtain ⟨v, vr, e1, h⟩ := h
  subst e1
  cases r with
  | cons r rr =>
    rw [hs]
    refine assignInOrder_cons (thn (h1 pins s σ H _ _ _ I r h) fun _ s1 ⟨σ1, H1, I1, q1⟩ => ?_)
    exact h2 pins s1 σ1 H1 _ _ Q I1 rr q1
/-- (a, b, ..) = a tuple of that length -/
def gTup (K : PySem.W.Frag) (n : Nat) (t : TGs) : TG := fun v σ H Q => ∃ a xs, v = .ref a ∧ SqT K H a xs ∧ xs.length = n ∧ t xs σ H Q
theorem pg_tup {es : List Expr} {k : Nat} {t : TGs} {n : Nat} (hc : X.calm = true) (h : PGs X es t)
    (hn : (assignEach es X.env).length = n := by rfl) (hst : (assignEach es X.env).findIdx? (·.1) = none := by rfl) : PG X (.Tuple es k pos) (gTup X.K n t) := by
  intro pins s σ H v u Q I r hw
  obtain ⟨a, xs, e1, hq, hl, hw⟩ := hw
  subst e1
  cases r
  obtain ⟨its, rv, ht, hz⟩ := I.tuple hq
  refine assign_Tuple_tuple (I.ok.hd hc) ht (by simp [hn, ← hl, rv.length]) hst fun h' hx => ?_
  have I1 : Inv X pins σ H { s with heap := h' } := I.kept (t' := s.toks) fun b o e => hx b o (Nat.ne_of_lt (Heap.lt_size e)) e
  exact h pins _ σ H xs _ Q I1 (by simpa using rv) hw
/-- o[i] = .. -/
def gSub (to ti : TE) (t : TSet) : TG := fun v σ H Q => to σ H fun o H1 => ti σ H1 fun i H2 => t o i v H2 fun H3 => Q σ H3
theorem pg_sub {o i : Expr} {to ti : TE} {t : TSet} (ho : PE X o to) (hi : PE X i ti) (hs : PSet X t)
    (ha : ∀ v, assign (.Subscript o i pos) X.env v = (do
      let ov ← holding [v] (eval o X.env)
      let iv ← holding [v, ov] (eval i X.env)
      standAt pos
      holding [v, ov, iv] (setItem ov iv v)
      release [v, ov, iv] []) := by intro _; rfl) : PG X (.Subscript o i pos) (gSub to ti t) := by
  intro pins s σ H v u Q I r h
  rw [ha]
  refine wpAny_bind (wpAny_holding (thn (ho pins s σ H _ I h) fun ov s1 ⟨x, H1, I1, r1, q1⟩ => ?_))
  refine wpAny_bind (wpAny_holding (thn (hi pins s1 σ H1 _ I1 q1) fun iv s2 ⟨y, H2, I2, r2, q2⟩ => ?_))
  refine wpAny_bind (wpAny_standAt (wpAny_bind (wpAny_holding (thn (hs pins s2 σ H2 x y v ov iv u _ I2 r1 r2 r q2) fun _ s3 ⟨H3, I3, q3⟩ => ?_))))
  exact wpAny_release ⟨σ, H3, I3, q3⟩
/-- target = value -/
def tAsg (te : TE) (g : TG) : TS := fun D σ H => te σ H fun x H1 => g x σ H1 D.nx
theorem ps_asg {tg e : Expr} {te : TE} {g : TG} (he : PE X e te) (hg : PG X tg g) (hs : swapsWithSole [tg] e pos.line X.env = pure false := by rfl) (hw : swappedStores [tg] e X.env = pure none := by rfl)
    (h1 : (assignEach [tg] X.env).map (·.2) = [assign tg X.env] := by rfl) : PS X (.Assign [tg] e pos) (tAsg te g) := by
  intro pins s σ H D I h
  refine wpAny_Assign_stores (thn (he pins s σ H _ I h) fun v s1 ⟨x, H1, I1, r1, q1⟩ => ?_) hs hw
  rw [h1]
  exact thn (hg pins s1 σ H1 x v _ I1 r1 q1) fun _ s2 q => q
/-- name = value -/
theorem ps_set {i : Nat} {x : Str} {e : Expr} {te : TE} {pos' : Pos} (hN : X.N.Nodup) (hi : X.N[i]? = some x) (hx : Loc X.env.scope x) (he : PE X e te) (hs : swapsWith e (some (.Name x pos')) pos.line X.env = pure false := by rfl) (hf : X.fn x = true ∨ X.env.scope.names.lookup x = some .local := by first | exact .inl rfl | exact .inr rfl | assumption) :
    PS X (.Assign [.Name x pos'] e pos) (tAsg te (gName i)) := by
  intro pins s σ H D I h
  refine wpAny_Assign_Name (thn (he pins s σ H _ I h) fun v s1 ⟨y, H1, I1, r1, q1⟩ => ?_) hs
  exact store_ok I1 hN hi hx r1 (fun s2 I2 => ⟨_, H1, I2, q1⟩) hf
/-- a, b = x, y with plain local names: stored from the right; the pair itself is not tracked (the opening rows as in PyProof/Rows/TupAssign.lean:23) -/
def tPar (i j : Nat) (ta : TA) : TS := fun D σ H => ta σ H fun vs H1 => ∃ v w, vs = [v, w] ∧ D.nx ((σ.set i (some v)).set j (some w)) H1
theorem ps_par {i j : Nat} {x y : Str} {a b : Expr} {ta : TA} {px py pt : Pos} {kt k2 pt2} (hc : X.calm = true) (hN : X.N.Nodup) (hi : X.N[i]? = some x) (hj : X.N[j]? = some y) (hij : i ≠ j)
    (hx : X.env.scope.names.lookup x = some .local) (hy : X.env.scope.names.lookup y = some .local) (ha : PA X [a, b] ta)
    (hw : swappedStores [.Tuple [.Name x px, .Name y py] kt pt] (.Tuple [a, b] k2 pt2) X.env = pure (some [x, y]))
    (hs : swapsWithSole [.Tuple [.Name x px, .Name y py] kt pt] (.Tuple [a, b] k2 pt2) pos.line X.env = pure false := by rfl) :
    PS X (.Assign [.Tuple [.Name x px, .Name y py] kt pt] (.Tuple [a, b] k2 pt2) pos) (tPar i j ta) := by
  intro pins s σ H D I h
  rw [exec_Assign_arm]
  refine wpAny_bind (wpAny_standAt ?_)
  rw [hs]
  refine wpAny_bind (wpAny_pure ?_)
  rw [if_neg (by decide)]
  refine wpAny_bind (Tuple_ (thn (ha _ pins s σ H _ I h) fun us s1 ⟨vs, H1, I1, r1, q1⟩ => ?_))
  obtain ⟨v, w, e1, q1⟩ := q1
  subst e1
  obtain ⟨u1, u2, rfl, rv, rw'⟩ : ∃ u1 u2, us = [u1, u2] ∧ RelV v u1 ∧ RelV w u2 := by
    cases r1 with
    | cons p q =>
      cases q with
      | cons p' q' =>
        cases q'
        exact ⟨_, _, rfl, p, p'⟩
  refine wpAny_newObj_type ?_ (by show 2 ≤ sizeLine; decide)
  have I2 : Inv X pins σ H1 { s1 with heap := s1.heap.push { cls := .type "tuple", data := .seq [u1, u2].toArray } } := I1.kept (t' := s1.toks) fun b o e => Heap.get?_push_of_some _ e
  rw [hw]
  refine wpAny_bind (wpAny_pure ?_)
  show wpAny (model X.prog X.w) X.A (do rule "assign.swapped-stores"; let items ← unpackItems (.ref s1.heap.objs.size) 2 none; assignInOrder [fun v => bindName X.env y v, fun v => bindName X.env x v] items.reverse; pure Flow.next) _ _ _
  refine wpAny_bind (wpAny_rule (wpAny_bind (unpackItems_tuple (items := #[u1, u2]) (I.ok.hd hc) (IsTup.new s1.heap _) fun h' hx' => ?_)))
  have I3 := I2.kept (h' := h') (t' := s1.toks) fun b o e => hx' b o (Nat.ne_of_lt (Heap.lt_size e)) e
  show wpAny _ _ (assignInOrder [fun v => bindName X.env y v, fun v => bindName X.env x v] [u2, u1] >>= fun _ => pure Flow.next) _ _ _
  refine wpAny_bind (assignInOrder_cons (wpAny_bindName (store_ok I3 hN hj (.inl hy) rw' (fun s2 I4 => ?_) (.inr hy))))
  refine assignInOrder_cons (wpAny_bindName (store_ok I4 hN hi (.inl hx) rv (fun s3 I5 => assignInOrder_nil (wpAny_pure ?_)) (.inr hx)))
  rw [List.set_comm _ _ (Ne.symm hij)] at I5
  exact ⟨_, H1, I5, q1⟩
/-- name op= e -/
def tAug (i : Nat) (te : TE) (ti : TIp) : TS := fun D σ H => ∃ x, σ[i]? = some (some x) ∧ te σ H fun y H1 => ti x y H1 fun z H2 => D.nx (σ.set i (some z)) H2
theorem ps_aug {i : Nat} {x : Str} {e : Expr} {te : TE} {op : Operator} {ti : TIp} {pos' : Pos} (hN : X.N.Nodup) (hi : X.N[i]? = some x) (hx : Loc X.env.scope x) (he : PE X e te) (ho : PIp X op ti) (hf : X.fn x = true ∨ X.env.scope.names.lookup x = some .local := by first | exact .inl rfl | exact .inr rfl | assumption) :
    PS X (.AugAssign (.Name x pos') op e pos) (tAug i te ti) := by
  intro pins s σ H D I h
  obtain ⟨v, e1, h⟩ := h
  obtain ⟨m, hn, hl⟩ := I.loc
  have vis : Vis X.env.scope x := by rcases hx with k | k; exact .inl k; exact .inr (.inl k)
  obtain ⟨u, r, l⟩ := hl i x v hi e1 vis
  refine wpAny_AugAssign_Name ?_
  have go : wpAny (model X.prog X.w) X.A (eval e X.env) (fun w s₂ => wpAny (model X.prog X.w) X.A (inplaceOp op u w) (fun r s₃ => wpAny (model X.prog X.w) X.A (storeName X.env x r) (fun _ => SP X pins D .next) X.xe s₃) X.xe s₂) X.xe s := by
    refine thn (he pins s σ H _ I h) fun w s1 ⟨y, H1, I1, r1, q1⟩ => ?_
    refine thn (ho pins s1 σ H1 v y u w _ I1 r r1 q1) fun z s2 ⟨zv, H2, I2, r2, q2⟩ => ?_
    exact store_ok I2 hN hi hx r2 (fun s3 I3 => ⟨_, H2, I3, q2⟩) hf
  rcases l with ⟨hk, hm⟩ | ⟨hk, c, hc, hcell⟩
  · exact wpAny_loadName_local I.ok.kind hk hn hm go
  · rcases hk with hk | hk
    · exact wpAny_loadName_cell I.ok.kind hk hc hcell go
    · rcases hx with k | k
      · have : X.env.scope.names.lookup x = some .free := hk
        rw [k] at this; cases this
      · have : X.env.scope.names.lookup x = some .free := hk
        rw [k] at this; cases this
/-- o[i] op= e -/
def tAugS (to ti te : TE) (tget : V → V → Hp → VK → Prop) (tip : TIp) (tset : TSet) : TS := fun D σ H => to σ H fun o H1 => ti σ H1 fun i H2 => tget o i H2 fun x H3 => te σ H3 fun y H4 => tip x y H4 fun z H5 => tset o i z H5 fun H6 => D.nx σ H6
/-- o[i], by values -/
def PGet (X : Cx) (t : V → V → Hp → VK → Prop) : Prop :=
  ∀ (pins : List (Addr × Obj)) (s : Shared) (σ : St) (H : Hp) (o i : V) (ov iv : Value) (Q : VK), Inv X pins σ H s → RelV o ov → RelV i iv → t o i H Q →
    wpAny (model X.prog X.w) X.A (getItem ov iv) (EP X pins σ Q) X.xe s
theorem ps_augS {o i e : Expr} {to ti te : TE} {tget : V → V → Hp → VK → Prop} {tip : TIp} {tset : TSet} {op : Operator} {tpos : Pos} (ho : PE X o to) (hi : PE X i ti) (hg : PGet X tget) (he : PE X e te) (hp : PIp X op tip) (hs : PSet X tset)
    (ha : ∀ ov iv new, augStore i ov iv new = (do holding [new, ov, iv] (setItem ov iv new); release [new, ov, iv] []; pure .next) := by intros; rfl) : PS X (.AugAssign (.Subscript o i tpos) op e pos) (tAugS to ti te tget tip tset) := by
  intro pins s σ H D I h
  refine wpAny_AugAssign_SubscriptAny (thn (ho pins s σ H _ I h) fun ov s1 ⟨x1, H1, I1, r1, q1⟩ => ?_) ha
  refine thn (hi pins s1 σ H1 _ I1 q1) fun iv s2 ⟨x2, H2, I2, r2, q2⟩ => ?_
  refine thn (hg pins s2 σ H2 x1 x2 ov iv _ I2 r1 r2 q2) fun old s3 ⟨x3, H3, I3, r3, q3⟩ => ?_
  refine thn (he pins s3 σ H3 _ I3 q3) fun v s4 ⟨x4, H4, I4, r4, q4⟩ => ?_
  refine thn (hp pins s4 σ H4 x3 x4 old v _ I4 r3 r4 q4) fun new s5 ⟨x5, H5, I5, r5, q5⟩ => ?_
  exact thn (hs pins s5 σ H5 x1 x2 x5 ov iv new _ I5 r1 r2 r5 q5) fun _ s6 ⟨H6, I6, q6⟩ => ⟨σ, H6, I6, q6⟩
/-- ints -/
def ipI (f : Int → Int → Int) : TIp := fun x y H Q => ∃ i j, x = .int i ∧ y = .int j ∧ Q (.int (f i j)) H
theorem ip_add : PIp X .Add (ipI fun i j => i + j) := by
  intro pins s σ H x y v u Q I r1 r2 h
  obtain ⟨i, j, e1, e2, q⟩ := h
  subst e1; subst e2
  obtain ⟨t, rfl⟩ := r1
  obtain ⟨t', rfl⟩ := r2
  exact iadd_int ⟨.int _, H, I.tok _, ⟨_, rfl⟩, q⟩
theorem ip_sub : PIp X .Sub (ipI fun i j => i - j) := by
  intro pins s σ H x y v u Q I r1 r2 h
  obtain ⟨i, j, e1, e2, q⟩ := h
  subst e1; subst e2
  obtain ⟨t, rfl⟩ := r1
  obtain ⟨t', rfl⟩ := r2
  exact isub_int ⟨.int _, H, I.tok _, ⟨_, rfl⟩, q⟩
end

/-! ### while -/
section
variable {X : Cx} {pos : Pos}
/-- the invariant W with its measure -/
def tWhile (c : TT) (tb : TS) : TS := fun D σ H => ∃ W : Nat → St → Hp → Prop, (∃ m, W m σ H) ∧ ∀ m σ H, W m σ H →
  c σ H fun b H1 => if b = true then ∃ N : St → Hp → Prop, (∀ σ' H', N σ' H' → ∃ m', m' < m ∧ W m' σ' H') ∧ tb { D with nx := N, ct := N, bk := D.nx } σ H1 else D.nx σ H1
theorem ps_while {c : Expr} {body : List Stmt} {tc : TT} {tb : TS} (hp : PassesOwn (model X.prog X.w) X.A X.env X.xe) (hc : PT X c tc) (hb : PSs X body tb) : PS X (.While c body [] pos) (tWhile tc tb) := by
  intro pins s σ H D I h
  obtain ⟨W, ⟨m0, w0⟩, turn⟩ := h
  refine wpAny_While (codeAny_whileLoop (fun n s' => ∃ σ' H', Inv X pins σ' H' s' ∧ W n σ' H') ?_ m0 ⟨σ, H, I, w0⟩)
  rintro n s1 ⟨σ1, H1, I1, w1⟩
  refine wpAny_passesOwn hp (thn (hc pins s1 σ1 H1 _ I1 (turn n σ1 H1 w1)) fun b s2 ⟨H2, I2, q2⟩ => ?_)
  cases b with
  | true =>
    obtain ⟨N, hN, q2⟩ := q2
    rw [if_pos rfl]
    refine wpAny_passesOwn hp (thn (hb pins s2 σ1 H2 _ I2 q2) fun f s3 q3 => ?_)
    cases f with
    | next =>
      obtain ⟨σ3, H3, I3, n3⟩ := q3
      obtain ⟨m', hm, w3⟩ := hN σ3 H3 n3
      exact ⟨m', hm, σ3, H3, I3, w3⟩
    | cont =>
      obtain ⟨σ3, H3, I3, n3⟩ := q3
      obtain ⟨m', hm, w3⟩ := hN σ3 H3 n3
      exact ⟨m', hm, σ3, H3, I3, w3⟩
    | brk => exact q3
    | ret v => exact q3
  | false =>
    rw [if_neg Bool.false_ne_true]
    exact wpAny_execs_nil ⟨σ1, H2, I2, q2⟩
end

/-! ### what a loop or a comprehension walks -/
/-- at turn i: it yields x (the heap may grow), or it stops -/
structure It where
  go : Nat → Hp → Prop
  yld : Nat → Hp → V → Hp → Prop
  stop : Nat → Hp → Prop
/-- the iterator's own objects may turn: they are not the frame's, not pinned, younger than the entry (or a comprehension's own) -/
def FpOk (X : Cx) (pins : List (Addr × Obj)) (H : Hp) (b : Addr) : Prop :=
  H b = none ∧ b ≠ X.env.locals ∧ b ∉ X.fs ∧ (b ∈ X.ex ∨ X.s₀.heap.objs.size ≤ b) ∧ (∀ x c, X.env.cells.lookup x = some c → c ≠ b) ∧ ∀ p ∈ X.pn ++ pins, p.1 ≠ b
theorem Inv.fpOk {X : Cx} {pins : List (Addr × Obj)} {σ : St} {H H' : Hp} {s : Shared} {b : Addr} (I : Inv X pins σ H s) (hb : s.heap.objs.size ≤ b) (hn : H' b = none) : FpOk X pins H' b := by
  refine ⟨hn, Nat.ne_of_gt (Nat.lt_of_lt_of_le I.lt hb), I.nofs hb, .inr (Nat.le_trans I.sz hb), fun x c e z => ?_, fun p hp z => ?_⟩
  · obtain ⟨v, q⟩ := I.cell x c e
    exact absurd (Nat.lt_of_lt_of_le q.lt (by rw [z]; exact hb)) (Nat.lt_irrefl _)
  · exact absurd (Nat.lt_of_lt_of_le (Heap.lt_size (I.pin p hp).1) (by rw [z]; exact hb)) (Nat.lt_irrefl _)
structure Turn (P : Program) (w : World) (K : PySem.W.Frag) (tg : Expr) (J : It) (fp : List Addr) (it : Addr) (tn : Nat → Heap → Prop) : Prop where
  mem : it ∈ fp
  obj : ∀ i h, tn i h → ∀ b ∈ fp, ∃ o, h.get? b = some o ∧ ∀ v, o.data ≠ .cell v
  keep : ∀ i h h', tn i h → (∀ b ∈ fp, ∀ o, h.get? b = some o → h'.get? b = some o) → tn i h'
  item : ∀ (X : Cx), X.prog = P → X.w = w → X.K = K → X.calm = true → ∀ (i : Nat) (pins : List (Addr × Obj)) (s : Shared) (σ : St) (H : Hp) (E : Value → Shared → Prop), Inv X pins σ H s → (∀ b ∈ fp, FpOk X pins H b) → tn i s.heap → J.go i H →
    wpAny (model P w) X.A (pyNext (.ref it)) (fun r s1 => ∃ u, r = some u ∧
      wpAny (model P w) X.A (letOwnedTupleGo tg (.ref it) u) (fun _ s2 => ∃ x H', Inv X pins σ H' s2 ∧ RelV x u ∧ J.yld i H x H' ∧ tn (i + 1) s2.heap ∧ ∀ b ∈ fp, H' b = none) E s1) E s
  done : ∀ (X : Cx), X.prog = P → X.w = w → X.K = K → X.calm = true → ∀ (i : Nat) (pins : List (Addr × Obj)) (s : Shared) (σ : St) (H : Hp) (E : Value → Shared → Prop), Inv X pins σ H s → (∀ b ∈ fp, FpOk X pins H b) → tn i s.heap → J.stop i H →
    wpAny (model P w) X.A (pyNext (.ref it)) (fun r s1 => r = none ∧ Inv X pins σ H s1) E s
  self : ∀ (A : Around) (i : Nat) (s : Shared) (Q : Value → Shared → Prop) (E : Value → Shared → Prop), tn i s.heap → Q (.ref it) s → wpAny (model P w) A (pyIter (.ref it)) Q E s
abbrev TI := St → Hp → (It → Hp → Prop) → Prop
/-- an iterator has come -/
def PIE (X : Cx) (pins : List (Addr × Obj)) (σ : St) (tg : Expr) (R : It → Hp → Prop) (itv : Value) (s2 : Shared) : Prop :=
  ∃ (it : Addr) (fp : List Addr) (tn : Nat → Heap → Prop) (J : It) (H' : Hp), itv = .ref it ∧ Inv X pins σ H' s2 ∧ Turn X.prog X.w X.K tg J fp it tn ∧ tn 0 s2.heap ∧ (∀ b ∈ fp, FpOk X pins H' b) ∧ R J H'
def PI (X : Cx) (tg iter : Expr) (wi : TI) : Prop :=
  ∀ (pins : List (Addr × Obj)) (s : Shared) (σ : St) (H : Hp) (R : It → Hp → Prop), Inv X pins σ H s → wi σ H R →
    wpAny (model X.prog X.w) X.A (eval iter X.env) (fun v s1 => wpAny (model X.prog X.w) X.A (pyIter v) (PIE X pins σ tg R) X.xe s1) X.xe s

/-- the step ahead of the store is nothing for an iterator that keeps no tuple -/
theorem go_of {M : Model} {A : Around} {E : Value → Shared → Prop} {s : Shared} {tg : Expr} {it : Addr} {u : Value} {o : Obj} {n : String} {vs : Array Value} {Q : Unit → Shared → Prop} (ho : s.heap.get? it = some o) (hc : o.cls = .type n) (hd : o.data = .fields vs)
    (hn : ["enumerate", "zip", "dict_itemiterator", "dict_reverseitemiterator", "odict_iterator", "itertools.zip_longest", "itertools.pairwise"].contains n = false) (hQ : Q () s) : wpAny M A (letOwnedTupleGo tg (.ref it) u) Q E s := by
  unfold letOwnedTupleGo
  cases tg <;> first
    | exact wpAny_pure hQ
    | (cases u <;> first
        | exact wpAny_pure hQ
        | (refine wpAny_bind (wpAny_load ho ?_)
           rw [hc, hd]
           show wpAny M A (if (["enumerate", "zip", "dict_itemiterator", "dict_reverseitemiterator", "odict_iterator", "itertools.zip_longest", "itertools.pairwise"].contains n && vs[0]? == some (rawInt _)) = true then _ else _) Q E s
           rw [if_neg (by intro h; rw [hn, Bool.false_and] at h; cases h)]
           exact wpAny_pure hQ))

/-- the list at a, as it stands at each turn (a loop may append to it) -/
def Itl (K : PySem.W.Frag) (a : Addr) : It :=
  ⟨fun i H => ∃ xs x, SqL K H a xs ∧ xs[i]? = some x, fun i H x H' => H' = H ∧ ∀ xs, SqL K H a xs → xs[i]? = some x, fun i H => ∃ xs, SqL K H a xs ∧ xs.length ≤ i⟩
def Itt (K : PySem.W.Frag) (a : Addr) : It :=
  ⟨fun i H => ∃ xs x, SqT K H a xs ∧ xs[i]? = some x, fun i H x H' => H' = H ∧ ∀ xs, SqT K H a xs → xs[i]? = some x, fun i H => ∃ xs, SqT K H a xs ∧ xs.length ≤ i⟩
/-- lo, lo + 1, .. (n of them) -/
def Itr (lo : Int) (n : Nat) : It := ⟨fun i _ => i < n, fun i H x H' => H' = H ∧ x = .int (lo + i), fun i _ => n ≤ i⟩
theorem turn_list {P : Program} {w : World} {K : PySem.W.Frag} {tg : Expr} (a it : Addr) : Turn P w K tg (Itl K a) [it] it (fun i h => h.IsListIter it a i) where
  mem := by simp
  obj := fun i h st b hb => by
    have e : b = it := by simpa using hb
    subst e
    obtain ⟨o, e, c, d⟩ := st
    exact ⟨o, e, fun v z => by rw [d] at z; cases z⟩
  keep := fun i h h' st k => st.at fun o e => k it (by simp) o e
  item := by
    intro X hP hw hK hc i pins s σ H E I hf st hg
    subst hP hw hK
    obtain ⟨xs, x, hq, hx⟩ := hg
    obtain ⟨its, rv, p, hz⟩ := I.list hq
    obtain ⟨u, hu, ru⟩ := rv.get hx
    obtain ⟨f0, f1, f2, f3, f4, f5⟩ := hf it (by simp)
    refine wpAny_pyNext_list_item st p.isList (x := u) (by simpa using hu) fun h' st' sb => ?_
    have I1 : Inv X pins σ H { s with heap := h' } := I.turned (t' := s.toks) (fun b o hb e => (sb.2 b hb).trans e) f0 f1 f3 f4 f5
    obtain ⟨o, e, c, d⟩ := id st'
    exact ⟨u, rfl, go_of (s := { s with heap := h' }) e c d (by decide) ⟨x, H, I1, ru, ⟨rfl, fun ys hy => by rw [I.list_inj hy hq]; exact hx⟩, st', fun b hb => (hf b hb).1⟩⟩
  done := by
    intro X hP hw hK hc i pins s σ H E I hf st hg
    subst hP hw hK
    obtain ⟨xs, hq, hx⟩ := hg
    obtain ⟨its, rv, p, hz⟩ := I.list hq
    obtain ⟨f0, f1, f2, f3, f4, f5⟩ := hf it (by simp)
    have hl := rv.length
    exact wpAny_pyNext_list_end (I.ok.hd hc) st p.isList (by simp; omega) fun h' eb => ⟨rfl, I.turned (t' := s.toks) (fun b o hb e => eb b o hb e) f0 f1 f3 f4 f5⟩
  self := fun _ _ _ _ _ st h => wpAny_pyIter_listiter st h
theorem turn_tuple {P : Program} {w : World} {K : PySem.W.Frag} {tg : Expr} (a it : Addr) : Turn P w K tg (Itt K a) [it] it (fun i h => h.IsTupleIter it a i) where
  mem := by simp
  obj := fun i h st b hb => by
    have e : b = it := by simpa using hb
    subst e
    obtain ⟨o, e, c, d⟩ := st
    exact ⟨o, e, fun v z => by rw [d] at z; cases z⟩
  keep := fun i h h' st k => st.at fun o e => k it (by simp) o e
  item := by
    intro X hP hw hK hc i pins s σ H E I hf st hg
    subst hP hw hK
    obtain ⟨xs, x, hq, hx⟩ := hg
    obtain ⟨its, rv, p, hz⟩ := I.tuple hq
    obtain ⟨u, hu, ru⟩ := rv.get hx
    obtain ⟨f0, f1, f2, f3, f4, f5⟩ := hf it (by simp)
    refine wpAny_pyNext_tuple_item st (show s.heap.IsTuple a its.toArray from p) (x := u) (by simpa using hu) fun h' st' sb => ?_
    have I1 : Inv X pins σ H { s with heap := h' } := I.turned (t' := s.toks) (fun b o hb e => (sb.2 b hb).trans e) f0 f1 f3 f4 f5
    obtain ⟨o, e, c, d⟩ := id st'
    exact ⟨u, rfl, go_of (s := { s with heap := h' }) e c d (by decide) ⟨x, H, I1, ru, ⟨rfl, fun ys hy => by rw [I.tuple_inj hy hq]; exact hx⟩, st', fun b hb => (hf b hb).1⟩⟩
  done := by
    intro X hP hw hK hc i pins s σ H E I hf st hg
    subst hP hw hK
    obtain ⟨xs, hq, hx⟩ := hg
    obtain ⟨its, rv, p, hz⟩ := I.tuple hq
    obtain ⟨f0, f1, f2, f3, f4, f5⟩ := hf it (by simp)
    have hl := rv.length
    exact wpAny_pyNext_tuple_end (I.ok.hd hc) st (show s.heap.IsTuple a its.toArray from p) (by simp; omega) fun h' eb => ⟨rfl, I.turned (t' := s.toks) (fun b o hb e => eb b o hb e) f0 f1 f3 f4 f5⟩
  self := fun _ _ _ _ _ st h => wpAny_pyIter_tupleiter st h
theorem turn_range {P : Program} {w : World} {K : PySem.W.Frag} {tg : Expr} (it : Addr) (lo : Int) (n : Nat) : Turn P w K tg (Itr lo n) [it] it (fun i h => IsRangeIter h it (lo + (i : Nat) * 1) ((n : Int) - (i : Nat)) 1) where
  mem := by simp
  obj := fun i h st b hb => by
    have e : b = it := by simpa using hb
    subst e
    exact ⟨_, st, fun v z => by
      have z' : Data.fields _ = Data.cell v := z
      cases z'⟩
  keep := fun i h h' st k => k it (by simp) _ st
  item := by
    intro X hP hw hK hc i pins s σ H E I hf st hg
    subst hP hw hK
    obtain ⟨f0, f1, f2, f3, f4, f5⟩ := hf it (by simp)
    have W := Walks.range (prog := X.prog) (w := X.w) (I.ok.hd hc) it lo 1 n
    refine W.item i s _ _ hg st fun v h' tk hv st' kk => ?_
    obtain ⟨t, rfl⟩ := hv
    have I1 : Inv X pins σ H { s with heap := h', toks := tk } := I.turned (fun b o hb e => kk b o (by simpa using hb) e) f0 f1 f3 f4 f5
    refine ⟨_, rfl, go_of (s := { s with heap := h', toks := tk }) (n := "range_iterator") st' rfl rfl (by decide) ⟨.int (lo + i), H, I1, ⟨t, ?_⟩, ⟨rfl, rfl⟩, st', fun b hb => (hf b hb).1⟩⟩
    rw [Int.mul_one]
  done := by
    intro X hP hw hK hc i pins s σ H E I hf st hg
    subst hP hw hK
    obtain ⟨f0, f1, f2, f3, f4, f5⟩ := hf it (by simp)
    exact wpAny_pyNext_range_end (I.ok.hd hc) st (by have : n ≤ i := hg; omega) fun h' eb => ⟨rfl, I.turned (t' := s.toks) (fun b o hb e => eb b o hb e) f0 f1 f3 f4 f5⟩
  self := fun _ _ _ _ _ st h => wpAny_pyIter_rangeiter st h
end L2

namespace L2
open PySem PySem.Spec PyProof.Rows
section
variable {X : Cx} {tg : Expr}
def iList (K : PySem.W.Frag) (tl : TE) : TI := fun σ H R => tl σ H fun x H1 => ∃ a, x = .ref a ∧ (∃ xs, SqL K H1 a xs) ∧ R (Itl K a) H1
def iTup (K : PySem.W.Frag) (tl : TE) : TI := fun σ H R => tl σ H fun x H1 => ∃ a, x = .ref a ∧ (∃ xs, SqT K H1 a xs) ∧ R (Itt K a) H1
theorem pi_list {l : Expr} {tl : TE} (hl : PE X l tl) : PI X tg l (iList X.K tl) := by
  intro pins s σ H R I h
  refine thn (hl pins s σ H _ I h) fun v s1 ⟨x, H1, I1, r1, q1⟩ => ?_
  obtain ⟨a, e, ⟨xs, hq⟩, q⟩ := q1
  subst e
  cases r1
  obtain ⟨its, rv, p, hz⟩ := I1.list hq
  refine wpAny_pyIter_list p.isList ?_
  refine ⟨s1.heap.objs.size, [s1.heap.objs.size], _, _, H1, rfl, I1.kept (t' := s1.toks) fun b o e => Heap.get?_push_of_some _ e, turn_list a _, ⟨_, Heap.get?_push_size _ rfl, rfl, rfl⟩, fun b hb => ?_, q⟩
  have e : b = s1.heap.objs.size := by simpa using hb
  subst e
  exact I1.fpOk (Nat.le_refl _) (I1.hok.fresh (Nat.le_refl _))
theorem pi_tup {l : Expr} {tl : TE} (hl : PE X l tl) : PI X tg l (iTup X.K tl) := by
  intro pins s σ H R I h
  refine thn (hl pins s σ H _ I h) fun v s1 ⟨x, H1, I1, r1, q1⟩ => ?_
  obtain ⟨a, e, ⟨xs, hq⟩, q⟩ := q1
  subst e
  cases r1
  obtain ⟨its, rv, p, hz⟩ := I1.tuple hq
  refine wpAny_pyIter_tuple (show s1.heap.IsTuple a its.toArray from p) ?_
  refine ⟨s1.heap.objs.size, [s1.heap.objs.size], _, _, H1, rfl, I1.kept (t' := s1.toks) fun b o e => Heap.get?_push_of_some _ e, turn_tuple a _, ⟨_, Heap.get?_push_size _ rfl, rfl, rfl⟩, fun b hb => ?_, q⟩
  have e : b = s1.heap.objs.size := by simpa using hb
  subst e
  exact I1.fpOk (Nat.le_refl _) (I1.hok.fresh (Nat.le_refl _))
/-- a range object just made, walked -/
theorem range_it {pins : List (Addr × Obj)} {σ : St} {H : Hp} {s : Shared} {R : It → Hp → Prop} {E : Value → Shared → Prop} {lo hi : Int} {t u v : Tok} {tk : Nat} (I : Inv X pins σ H s) (h1 : -(2 ^ 62) ≤ lo) (h2 : lo < 2 ^ 62) (h3 : -(2 ^ 62) ≤ hi) (h4 : hi < 2 ^ 62)
    (q : R (Itr lo (hi - lo).toNat) H) : wpAny (model X.prog X.w) X.A (pyIter (.ref s.heap.objs.size)) (PIE X pins σ tg R) E { s with heap := s.heap.push { cls := .type "range", data := .fields #[.int lo t, .int hi u, .int 1 v] }, toks := tk } := by
  refine wpAny_pyIter_range (IsRange.new ..) (small_one h1 h2 h3 h4) ?_
  have I1 : Inv X pins σ H { s with heap := s.heap.push { cls := .type "range", data := .fields #[.int lo t, .int hi u, .int 1 v] }, toks := tk } := I.kept fun b o e => Heap.get?_push_of_some _ e
  refine ⟨(s.heap.push { cls := .type "range", data := .fields #[.int lo t, .int hi u, .int 1 v] }).objs.size, [(s.heap.push { cls := .type "range", data := .fields #[.int lo t, .int hi u, .int 1 v] }).objs.size], _, _, H, rfl,
    I1.kept (t' := tk) fun b o e => Heap.get?_push_of_some _ e, turn_range _ lo (hi - lo).toNat, ?_, fun b hb => ?_, q⟩
  · have e1 : lo + ((0 : Nat) : Int) * 1 = lo := by simp
    have e2 : (((hi - lo).toNat : Nat) : Int) - ((0 : Nat) : Int) = Builtin.Range.rangeSize lo hi 1 := by rw [rangeSize_one]; split <;> omega
    show IsRangeIter _ _ (lo + ((0 : Nat) : Int) * 1) ((((hi - lo).toNat : Nat) : Int) - ((0 : Nat) : Int)) 1
    rw [e1, e2]
    exact Heap.get?_push_size _ rfl
  · have e : b = (s.heap.push { cls := .type "range", data := .fields #[.int lo t, .int hi u, .int 1 v] }).objs.size := by simpa using hb
    subst e
    exact I1.fpOk (Nat.le_refl _) (I1.hok.fresh (Nat.le_refl _))
def iRng1 (ta : TA) : TI := fun σ H R => ta σ H fun vs H1 => ∃ j : Int, vs = [.int j] ∧ -(2 ^ 62) ≤ j ∧ j < 2 ^ 62 ∧ R (Itr 0 j.toNat) H1
def iRng2 (ta : TA) : TI := fun σ H R => ta σ H fun vs H1 => ∃ i j : Int, vs = [.int i, .int j] ∧ (-(2 ^ 62) ≤ i ∧ i < 2 ^ 62 ∧ -(2 ^ 62) ≤ j ∧ j < 2 ^ 62) ∧ R (Itr i (j - i).toNat) H1
theorem pi_range1 {a : Expr} {ta : TA} {p pos : Pos} (hg : Gl X "range") (hm : X.mg "range" = none) (ha : PA X [a] ta) (hs : starEach [a] X.env = [(false, eval a X.env)] := by rfl) : PI X tg (.Call (.Name "range" p) [a] [] pos) (iRng1 ta) := by
  intro pins s σ H R I h
  refine Call_ (ld_blt I hg hm boot_range (PyProof.Rows.callWith_type1 (thn (ha pos pins s σ H _ I h) fun us s1 ⟨vs, H1, I1, r1, q1⟩ => ?_) hs rfl))
  obtain ⟨j, e, q1, q2, q⟩ := q1
  subst e
  cases r1 with
  | cons r rr =>
    cases rr
    obtain ⟨t, rfl⟩ := r
    exact call_range_1 (range_it I1 (by omega) (by omega) q1 q2 (by simpa using q))
theorem pi_range2 {a b : Expr} {ta : TA} {p pos : Pos} (hg : Gl X "range") (hm : X.mg "range" = none) (ha : PA X [a, b] ta) (hs : starEach [a, b] X.env = [(false, eval a X.env), (false, eval b X.env)] := by rfl) (hs2 : starEach [b] X.env = [(false, eval b X.env)] := by rfl) :
    PI X tg (.Call (.Name "range" p) [a, b] [] pos) (iRng2 ta) := by
  intro pins s σ H R I h
  refine Call_ (ld_blt I hg hm boot_range (PyProof.Rows.callWith_type1 (thn (ha pos pins s σ H _ I h) fun us s1 ⟨vs, H1, I1, r1, q1⟩ => ?_) (by rw [hs, hs2]) (by rw [hs2]; rfl)))
  obtain ⟨i, j, e, ⟨q1, q2, q3, q4⟩, q⟩ := q1
  subst e
  cases r1 with
  | cons r rr =>
    cases rr with
    | cons r' rr =>
      cases rr
      obtain ⟨t, rfl⟩ := r
      obtain ⟨t', rfl⟩ := r'
      exact call_range_2 (range_it I1 q1 q2 q3 q4 q)

/-! ### for -/
/-- W: the invariant by the turn and a measure; N: what the body is to reach -/
def tFor (wi : TI) (g : TG) (tb : TS) : TS := fun D σ H => wi σ H fun J H1 => ∃ W : Nat → Nat → St → Hp → Prop, (∃ m, W 0 m σ H1) ∧ ∀ i m σ H, W i m σ H →
  (J.stop i H ∧ D.nx σ H) ∨ (J.go i H ∧ ∃ N : St → Hp → Prop, (∀ σ' H', N σ' H' → ∃ m', m' < m ∧ W (i + 1) m' σ' H') ∧ ∀ x H', J.yld i H x H' → g x σ H' fun σ2 H2 => tb { D with nx := N, ct := N, bk := D.nx } σ2 H2)
/-- the records at fp as they stand -/
def pinsAt (fp : List Addr) (h : Heap) : List (Addr × Obj) := fp.filterMap fun b => (h.get? b).map fun o => (b, o)
theorem mem_pinsAt {fp : List Addr} {h : Heap} {b : Addr} {o : Obj} (hb : b ∈ fp) (e : h.get? b = some o) : (b, o) ∈ pinsAt fp h := List.mem_filterMap.mpr ⟨b, hb, by rw [e]; rfl⟩
theorem of_pinsAt {fp : List Addr} {h : Heap} {p : Addr × Obj} (hp : p ∈ pinsAt fp h) : p.1 ∈ fp ∧ h.get? p.1 = some p.2 := by
  obtain ⟨b, hb, e⟩ := List.mem_filterMap.mp hp
  cases q : h.get? b with
  | none => rw [q] at e; cases e
  | some o =>
    rw [q] at e
    have e' : (b, o) = p := Option.some.inj e
    subst e'
    exact ⟨hb, q⟩
theorem Inv.pinned {pins : List (Addr × Obj)} {σ : St} {H : Hp} {s : Shared} {fp : List Addr} (I : Inv X pins σ H s) (hf : ∀ b ∈ fp, FpOk X pins H b) (ho : ∀ b ∈ fp, ∃ o, s.heap.get? b = some o ∧ ∀ v, o.data ≠ .cell v) : Inv X (pins ++ pinsAt fp s.heap) σ H s :=
  I.pins_of fun p hp => (List.mem_append.mp hp).elim (fun z => I.pin p (List.mem_append_right _ z)) fun z => by
    obtain ⟨hb, e⟩ := of_pinsAt z
    obtain ⟨f0, f1, f2, _⟩ := hf p.1 hb
    obtain ⟨o, e', d⟩ := ho p.1 hb
    rw [e] at e'; cases e'
    exact ⟨e, f0, f1, f2, d⟩
theorem Inv.unpinned {pins pl : List (Addr × Obj)} {σ : St} {H : Hp} {s : Shared} (I : Inv X (pins ++ pl) σ H s) : Inv X pins σ H s := I.pins_of fun p hp => I.pin p (List.mem_append_right _ (List.mem_append_left _ hp))
theorem ps_for {iter : Expr} {body : List Stmt} {wi : TI} {g : TG} {tb : TS} {pos : Pos} (hp : PassesOwn (model X.prog X.w) X.A X.env X.xe) (hc : X.calm = true) (hi : PI X tg iter wi) (hg : PG X tg g) (hb : PSs X body tb)
    (hs : ∀ x, foldedSetIterable iter X.env x = pure x := by intro _; rfl) : PS X (.For tg iter body [] pos) (tFor wi g tb) := by
  intro pins s σ H D I h
  refine wpAny_For (thn (hi pins s σ H _ I h) fun v s1 h1 => thn h1 fun itv s2 h2 => ?_) hs
  obtain ⟨it, fp, tn, J, H2, e, I2, T, st2, f2, W, ⟨m0, w0⟩, turn⟩ := h2
  subst e
  -- what stays true of the iterator's objects through the loop
  have stat : ∀ {H' : Hp}, (∀ b ∈ fp, H' b = none) → ∀ b ∈ fp, FpOk X pins H' b := fun hn b hb => ⟨hn b hb, (f2 b hb).2⟩
  refine codeAny_forLoop_any (fun n s' => ∃ i σ' H', Inv X pins σ' H' s' ∧ tn i s'.heap ∧ (∀ b ∈ fp, H' b = none) ∧ W i n σ' H') ?_ m0 ⟨0, σ, H2, I2, st2, fun b hb => (f2 b hb).1, w0⟩
  rintro n s3 ⟨i, σ3, H3, I3, st3, fr3, w3⟩
  rcases turn i n σ3 H3 w3 with ⟨stop, qn⟩ | ⟨go, N, hN, step⟩
  · refine wpAny_passesOwn hp (thn (T.done X rfl rfl rfl hc i pins s3 σ3 H3 X.xe I3 (stat fr3) st3 stop) fun r s4 ⟨hr, I4⟩ => ?_)
    subst hr
    exact wpAny_execs_nil ⟨σ3, H3, I4, qn⟩
  · refine wpAny_passesOwn hp (thn (T.item X rfl rfl rfl hc i pins s3 σ3 H3 X.xe I3 (stat fr3) st3 go) fun r s4 ⟨u, hr, h4⟩ => ?_)
    subst hr
    refine wpAny_passesOwn hp (thn h4 fun _ s5 ⟨x, H5, I5, r5, y5, st5, fr5⟩ => ?_)
    have I5' := I5.pinned (stat fr5) (T.obj _ _ st5)
    refine wpAny_passesOwn hp (thn (hg _ s5 σ3 H5 x u _ I5' r5 (step x H5 y5)) fun _ s6 ⟨σ6, H6, I6, q6⟩ => ?_)
    refine wpAny_passesOwn hp (thn (hb _ s6 σ6 H6 _ I6 q6) fun f s7 q7 => ?_)
    have again : ∀ {σ7 : St} {H7 : Hp}, Inv X (pins ++ pinsAt fp s5.heap) σ7 H7 s7 → N σ7 H7 → ∃ m, m < n ∧ ∃ i σ' H', Inv X pins σ' H' s7 ∧ tn i s7.heap ∧ (∀ b ∈ fp, H' b = none) ∧ W i m σ' H' := fun {σ7 H7} I7 n7 => by
      obtain ⟨m', hm, w7⟩ := hN σ7 H7 n7
      refine ⟨m', hm, i + 1, σ7, H7, I7.unpinned, T.keep _ _ _ st5 fun b hb o e => (I7.pin (b, o) (List.mem_append_right _ (List.mem_append_right _ (mem_pinsAt hb e)))).1, fun b hb => ?_, w7⟩
      obtain ⟨o, e, d⟩ := T.obj _ _ st5 b hb
      exact (I7.pin (b, o) (List.mem_append_right _ (List.mem_append_right _ (mem_pinsAt hb e)))).2.1
    cases f with
    | next => obtain ⟨σ7, H7, I7, n7⟩ := q7; exact again I7 n7
    | cont => obtain ⟨σ7, H7, I7, n7⟩ := q7; exact again I7 n7
    | brk => obtain ⟨σ7, H7, I7, q7⟩ := q7; exact ⟨σ7, H7, I7.unpinned, q7⟩
    | ret v => obtain ⟨x7, σ7, H7, I7, r7, q7⟩ := q7; exact ⟨x7, σ7, H7, I7.unpinned, r7, q7⟩
end

/-! ### the forms one uses -/
/-- over a list that the body leaves as it is -/
theorem for_list {K : PySem.W.Frag} {a : Addr} {xs : List V} {g : TG} {tb : TS} {D : Ends} {σ : St} {H : Hp} (Pv : Nat → St → Hp → Prop) (h0 : Pv 0 σ H) (hl : ∀ i σ H, i ≤ xs.length → Pv i σ H → SqL K H a xs)
    (hs : ∀ i x σ H, xs[i]? = some x → Pv i σ H → g x σ H fun σ2 H2 => tb { D with nx := Pv (i + 1), ct := Pv (i + 1), bk := D.nx } σ2 H2) (hd : ∀ σ H, Pv xs.length σ H → D.nx σ H) :
    ∃ W : Nat → Nat → St → Hp → Prop, (∃ m, W 0 m σ H) ∧ ∀ i m σ H, W i m σ H →
      ((Itl K a).stop i H ∧ D.nx σ H) ∨ ((Itl K a).go i H ∧ ∃ N : St → Hp → Prop, (∀ σ' H', N σ' H' → ∃ m', m' < m ∧ W (i + 1) m' σ' H') ∧ ∀ x H', (Itl K a).yld i H x H' → g x σ H' fun σ2 H2 => tb { D with nx := N, ct := N, bk := D.nx } σ2 H2) := by
  refine ⟨fun i m σ H => m = xs.length - i ∧ i ≤ xs.length ∧ Pv i σ H, ⟨xs.length, by simp, Nat.zero_le _, h0⟩, ?_⟩
  rintro i m σ H ⟨rfl, hi, p⟩
  have q := hl i σ H hi p
  by_cases hlt : i < xs.length
  · refine .inr ⟨⟨xs, xs[i], q, by simp [hlt]⟩, Pv (i + 1), fun σ' H' p' => ⟨xs.length - (i + 1), by omega, rfl, hlt, p'⟩, fun x H' y => ?_⟩
    obtain ⟨e, y⟩ := y
    subst e
    exact hs i x σ _ (y xs q) p
  · have e : i = xs.length := by omega
    subst e
    exact .inl ⟨⟨xs, q, Nat.le_refl _⟩, hd σ H p⟩
theorem for_tup {K : PySem.W.Frag} {a : Addr} {xs : List V} {g : TG} {tb : TS} {D : Ends} {σ : St} {H : Hp} (Pv : Nat → St → Hp → Prop) (h0 : Pv 0 σ H) (hl : ∀ i σ H, i ≤ xs.length → Pv i σ H → SqT K H a xs)
    (hs : ∀ i x σ H, xs[i]? = some x → Pv i σ H → g x σ H fun σ2 H2 => tb { D with nx := Pv (i + 1), ct := Pv (i + 1), bk := D.nx } σ2 H2) (hd : ∀ σ H, Pv xs.length σ H → D.nx σ H) :
    ∃ W : Nat → Nat → St → Hp → Prop, (∃ m, W 0 m σ H) ∧ ∀ i m σ H, W i m σ H →
      ((Itt K a).stop i H ∧ D.nx σ H) ∨ ((Itt K a).go i H ∧ ∃ N : St → Hp → Prop, (∀ σ' H', N σ' H' → ∃ m', m' < m ∧ W (i + 1) m' σ' H') ∧ ∀ x H', (Itt K a).yld i H x H' → g x σ H' fun σ2 H2 => tb { D with nx := N, ct := N, bk := D.nx } σ2 H2) := by
  refine ⟨fun i m σ H => m = xs.length - i ∧ i ≤ xs.length ∧ Pv i σ H, ⟨xs.length, by simp, Nat.zero_le _, h0⟩, ?_⟩
  rintro i m σ H ⟨rfl, hi, p⟩
  have q := hl i σ H hi p
  by_cases hlt : i < xs.length
  · refine .inr ⟨⟨xs, xs[i], q, by simp [hlt]⟩, Pv (i + 1), fun σ' H' p' => ⟨xs.length - (i + 1), by omega, rfl, hlt, p'⟩, fun x H' y => ?_⟩
    obtain ⟨e, y⟩ := y
    subst e
    exact hs i x σ _ (y xs q) p
  · have e : i = xs.length := by omega
    subst e
    exact .inl ⟨⟨xs, q, Nat.le_refl _⟩, hd σ H p⟩
theorem for_range {lo : Int} {n : Nat} {g : TG} {tb : TS} {D : Ends} {σ : St} {H : Hp} (Pv : Nat → St → Hp → Prop) (h0 : Pv 0 σ H)
    (hs : ∀ i σ H, i < n → Pv i σ H → g (.int (lo + i)) σ H fun σ2 H2 => tb { D with nx := Pv (i + 1), ct := Pv (i + 1), bk := D.nx } σ2 H2) (hd : ∀ σ H, Pv n σ H → D.nx σ H) :
    ∃ W : Nat → Nat → St → Hp → Prop, (∃ m, W 0 m σ H) ∧ ∀ i m σ H, W i m σ H →
      ((Itr lo n).stop i H ∧ D.nx σ H) ∨ ((Itr lo n).go i H ∧ ∃ N : St → Hp → Prop, (∀ σ' H', N σ' H' → ∃ m', m' < m ∧ W (i + 1) m' σ' H') ∧ ∀ x H', (Itr lo n).yld i H x H' → g x σ H' fun σ2 H2 => tb { D with nx := N, ct := N, bk := D.nx } σ2 H2) := by
  refine ⟨fun i m σ H => m = n - i ∧ i ≤ n ∧ Pv i σ H, ⟨n, by simp, Nat.zero_le _, h0⟩, ?_⟩
  rintro i m σ H ⟨rfl, hi, p⟩
  by_cases hlt : i < n
  · refine .inr ⟨hlt, Pv (i + 1), fun σ' H' p' => ⟨n - (i + 1), by omega, rfl, hlt, p'⟩, fun x H' y => ?_⟩
    obtain ⟨e, y⟩ := y
    subst e y
    exact hs i σ _ hlt p
  · have e : i = n := by omega
    subst e
    exact .inl ⟨Nat.le_refl _, hd σ H p⟩
/-- while, by a word and a measure of the state -/
theorem while_by {c : TT} {tb : TS} {D : Ends} {σ : St} {H : Hp} (Pv : St → Hp → Prop) (μ : St → Hp → Nat) (h0 : Pv σ H)
    (hs : ∀ σ H, Pv σ H → c σ H fun b H1 => if b = true then tb { D with nx := fun σ' H' => Pv σ' H' ∧ μ σ' H' < μ σ H, ct := fun σ' H' => Pv σ' H' ∧ μ σ' H' < μ σ H, bk := D.nx } σ H1 else D.nx σ H1)
    (mono : ∀ σ H Q Q', (∀ b H1, Q b H1 → Q' b H1) → c σ H Q → c σ H Q') : tWhile c tb D σ H := by
  refine ⟨fun m σ H => m = μ σ H ∧ Pv σ H, ⟨_, rfl, h0⟩, ?_⟩
  rintro m σ H ⟨rfl, p⟩
  refine mono σ H _ _ (fun b H1 q => ?_) (hs σ H p)
  cases b with
  | true => exact ⟨_, fun σ' H' ⟨p', l⟩ => ⟨_, l, rfl, p'⟩, q⟩
  | false => exact q
end L2

namespace L2
open PySem PySem.Spec PyProof.Rows

abbrev R2 := V → V → Hp → VK → Prop
/-- a two-place operation on values: f is binaryOp op, inplaceOp op or compareOp op -/
def OpR (X : Cx) (f : Value → Value → Sem Value) (r : R2) : Prop :=
  ∀ (pins : List (Addr × Obj)) (s : Shared) (σ : St) (H : Hp) (x y : V) (v u : Value) (Q : VK), Inv X pins σ H s → RelV x v → RelV y u → r x y H Q →
    wpAny (model X.prog X.w) X.A (f v u) (EP X pins σ Q) X.xe s
/-- a one-place operation -/
def UnR (X : Cx) (f : Value → Sem Value) (r : V → Hp → VK → Prop) : Prop :=
  ∀ (pins : List (Addr × Obj)) (s : Shared) (σ : St) (H : Hp) (x : V) (v : Value) (Q : VK), Inv X pins σ H s → RelV x v → r x H Q →
    wpAny (model X.prog X.w) X.A (f v) (EP X pins σ Q) X.xe s
/-- a call of a value that is known (a builtin, a type) with values -/
def CallR (X : Cx) (f : Value) (r : List V → Hp → VK → Prop) : Prop :=
  ∀ (pins : List (Addr × Obj)) (s : Shared) (σ : St) (H : Hp) (xs : List V) (us : List Value) (Q : VK), Inv X pins σ H s → Vals xs us → r xs H Q →
    wpAny (model X.prog X.w) X.A (call f us) (EP X pins σ Q) X.xe s
/-- a value's truth -/
def TruR (X : Cx) (r : V → Hp → (Bool → Hp → Prop) → Prop) : Prop :=
  ∀ (pins : List (Addr × Obj)) (s : Shared) (σ : St) (H : Hp) (x : V) (v : Value) (Q : Bool → Hp → Prop), Inv X pins σ H s → RelV x v → r x H Q →
    wpAny (model X.prog X.w) X.A (truthy v) (TP X pins σ Q) X.xe s

def tOp (r : R2) (ta tb : TE) : TE := fun σ H Q => ta σ H fun x H1 => tb σ H1 fun y H2 => r x y H2 Q
def tUn (r : V → Hp → VK → Prop) (ta : TE) : TE := fun σ H Q => ta σ H fun x H1 => r x H1 Q
/-- ints in, under C, and a value out -/
def rI (C : Int → Int → Prop) (g : Int → Int → V) : R2 := fun x y H Q => ∃ i j, x = .int i ∧ y = .int j ∧ C i j ∧ Q (g i j) H
def rI0 (g : Int → Int → V) : R2 := fun x y H Q => ∃ i j, x = .int i ∧ y = .int j ∧ Q (g i j) H
def rU (g : Int → V) : V → Hp → VK → Prop := fun x H Q => ∃ i, x = .int i ∧ Q (g i) H

section
variable {X : Cx} {a b c : Expr} {ta tb tc : TE} {pos : Pos}

theorem binT (ha : PE X a ta) (hb : PE X b tb) {pins : List (Addr × Obj)} {s : Shared} {σ : St} {H : Hp} {R : V → V → Hp → Prop} (I : Inv X pins σ H s)
    (h : ta σ H fun x H1 => tb σ H1 fun y H2 => R x y H2) {Q : Value → Shared → Prop} {f : Value → Value → Sem Value}
    (hf : ∀ v u s2 x y H2, Inv X pins σ H2 s2 → RelV x v → RelV y u → R x y H2 → wpAny (model X.prog X.w) X.A (f v u) Q X.xe s2) :
    wpAny (model X.prog X.w) X.A (eval a X.env) (fun v s₁ => wpAny (model X.prog X.w) X.A (eval b X.env) (fun u s₂ => wpAny (model X.prog X.w) X.A (f v u) Q X.xe s₂) X.xe s₁) X.xe s := by
  refine thn (ha pins s σ H _ I h) fun v s1 ⟨x, H1, I1, r1, q1⟩ => ?_
  refine thn (hb pins s1 σ H1 _ I1 q1) fun u s2 ⟨y, H2, I2, r2, q2⟩ => ?_
  exact hf v u s2 x y H2 I2 r1 r2 q2

theorem pe_op {op : Operator} {r : R2} (ho : OpR X (binaryOp op) r) (ha : PE X a ta) (hb : PE X b tb) : PE X (.BinOp a op b pos) (tOp r ta tb) := by
  intro pins s σ H Q I h
  exact wpAny_BinOp (binT ha hb I h fun v u s2 x y H2 I2 rx ry q => ho pins s2 σ H2 x y v u Q I2 rx ry q)
theorem pe_un {op : UnaryOp} {r : V → Hp → VK → Prop} (ho : UnR X (unaryOp op) r) (ha : PE X a ta) : PE X (.UnaryOp op a pos) (tUn r ta) := by
  intro pins s σ H Q I h
  exact UnaryOp_ (thn (ha pins s σ H _ I h) fun v s1 ⟨x, H1, I1, r1, q1⟩ => ho pins s1 σ H1 x v Q I1 r1 q1)
/-- a op= e at a name: the name's slot i -/
theorem augR {op : Operator} {r : R2} (ho : OpR X (inplaceOp op) r) {pins : List (Addr × Obj)} {s : Shared} {σ : St} {H : Hp} {x y : V} {v u : Value} {Q : VK} (I : Inv X pins σ H s)
    (rx : RelV x v) (ry : RelV y u) (q : r x y H Q) : wpAny (model X.prog X.w) X.A (inplaceOp op v u) (EP X pins σ Q) X.xe s := ho pins s σ H x y v u Q I rx ry q

/-! ### ints -/
theorem opI {f : Value → Value → Sem Value} {C : Int → Int → Prop} {g : Int → Int → Int}
    (rule : ∀ (i j : Int) (t u : Tok) (s : Shared) (Q : Value → Shared → Prop) (E : Value → Shared → Prop), C i j → Q (.int (g i j) s.toks) { s with toks := s.toks + 1 } → wpAny (model X.prog X.w) X.A (f (.int i t) (.int j u)) Q E s) :
    OpR X f (rI C fun i j => .int (g i j)) := by
  intro pins s σ H x y v u Q I rx ry h
  obtain ⟨i, j, rfl, rfl, hc, q⟩ := h
  obtain ⟨t, rfl⟩ := rx
  obtain ⟨t', rfl⟩ := ry
  exact rule i j t t' s _ _ hc ⟨.int (g i j), H, I.tok _, ⟨_, rfl⟩, q⟩
theorem opI0 {f : Value → Value → Sem Value} {g : Int → Int → Int}
    (rule : ∀ (i j : Int) (t u : Tok) (s : Shared) (Q : Value → Shared → Prop) (E : Value → Shared → Prop), Q (.int (g i j) s.toks) { s with toks := s.toks + 1 } → wpAny (model X.prog X.w) X.A (f (.int i t) (.int j u)) Q E s) :
    OpR X f (rI0 fun i j => .int (g i j)) := by
  intro pins s σ H x y v u Q I rx ry h
  obtain ⟨i, j, rfl, rfl, q⟩ := h
  obtain ⟨t, rfl⟩ := rx
  obtain ⟨t', rfl⟩ := ry
  exact rule i j t t' s _ _ ⟨.int (g i j), H, I.tok _, ⟨_, rfl⟩, q⟩
theorem opB0 {f : Value → Value → Sem Value} {g : Int → Int → Bool}
    (rule : ∀ (i j : Int) (t u : Tok) (s : Shared) (Q : Value → Shared → Prop) (E : Value → Shared → Prop), Q (.bool (g i j)) s → wpAny (model X.prog X.w) X.A (f (.int i t) (.int j u)) Q E s) :
    OpR X f (rI0 fun i j => .bl (g i j)) := by
  intro pins s σ H x y v u Q I rx ry h
  obtain ⟨i, j, rfl, rfl, q⟩ := h
  obtain ⟨t, rfl⟩ := rx
  obtain ⟨t', rfl⟩ := ry
  exact rule i j t t' s _ _ ⟨.bl (g i j), H, I, rfl, q⟩

def CDiv (i j : Int) : Prop := 0 < j ∧ j < 1073741824
def CDivN (i j : Int) : Prop := j ≠ 0 ∧ j.natAbs < 1073741824
def CPow (i j : Int) : Prop := 0 ≤ j ∧ j ≤ 1000000 ∧ i.natAbs < 2 ^ 64
def CMul (i j : Int) : Prop := (-(2 ^ 64) < i ∧ i < 2 ^ 64) ∨ (-(2 ^ 64) < j ∧ j < 2 ^ 64)
theorem CMul.ok {i j : Int} (h : CMul i j) : IntMulOk i j := by
  rcases h with ⟨h1, h2⟩ | ⟨h1, h2⟩
  · exact .of_left (intBits_le_64 h1 h2)
  · exact .of_right (intBits_le_64 h1 h2)
theorem two_pow_nn (k : Nat) : (0 : Int) ≤ 2 ^ k := by
  rw [two_pow_cast]
  exact Int.natCast_nonneg _

theorem op_add : OpR X (binaryOp .Add) (rI0 fun i j => .int (i + j)) := opI0 fun _ _ _ _ _ _ _ q => add_int q
theorem op_sub : OpR X (binaryOp .Sub) (rI0 fun i j => .int (i - j)) := opI0 fun _ _ _ _ _ _ _ q => sub_int q
theorem op_mul : OpR X (binaryOp .Mult) (rI CMul fun i j => .int (i * j)) := opI fun _ _ _ _ _ _ _ hc q => mul_int q hc.ok
/-- // by a positive divisor -/
theorem op_fdiv : OpR X (binaryOp .FloorDiv) (rI CDiv fun i j => .int (i / j)) := opI fun i j _ _ _ _ _ hc q => by
  have h1 : (0 : Int) < j := hc.1
  have h2 : j < 1073741824 := hc.2
  exact floordiv_int (by omega) (by rw [Int.fdiv_eq_ediv_of_nonneg i (by omega)]; exact q) (.inl (PyProof.noPylong_small (by omega)))
theorem op_fdivN : OpR X (binaryOp .FloorDiv) (rI CDivN fun i j => .int (i.fdiv j)) := opI fun _ _ _ _ _ _ _ hc q => floordiv_int hc.1 q (.inl (PyProof.noPylong_small hc.2))
/-- % by a positive divisor of any size -/
theorem op_mod : OpR X (binaryOp .Mod) (rI (fun _ j => 0 < j) fun i j => .int (i % j)) := opI fun i j _ _ _ _ _ hc q => by
  have h1 : (0 : Int) < j := hc
  exact mod_int' (by omega) (by rw [Int.fmod_eq_emod_of_nonneg i (by omega)]; exact q)
theorem op_modN : OpR X (binaryOp .Mod) (rI (fun _ j => j ≠ 0) fun i j => .int (i.fmod j)) := opI fun _ _ _ _ _ _ _ hc q => mod_int' hc q
theorem op_pow : OpR X (binaryOp .Pow) (rI CPow fun i j => .int (i ^ j.toNat)) := opI fun _ _ _ _ _ _ _ hc q => pow_int_small hc.1 hc.2.1 hc.2.2 q
theorem op_shl : OpR X (binaryOp .LShift) (rI CPow fun i j => .int (i * 2 ^ j.toNat)) := opI fun _ _ _ _ _ _ _ hc q => lshift_int_small hc.1 hc.2.1 hc.2.2 q
theorem op_shr : OpR X (binaryOp .RShift) (rI (fun _ j => 0 ≤ j) fun i j => .int (i / 2 ^ j.toNat)) := opI fun i j _ _ _ _ _ hc q =>
  rshift_int hc (by rw [Int.fdiv_eq_ediv_of_nonneg i (two_pow_nn _)]; exact q)
theorem op_and : OpR X (binaryOp .BitAnd) (rI0 fun i j => .int (Builtin.bitAnd i j)) := opI0 fun _ _ _ _ _ _ _ q => and_int q
theorem op_or : OpR X (binaryOp .BitOr) (rI0 fun i j => .int (Builtin.bitOr i j)) := opI0 fun _ _ _ _ _ _ _ q => or_int q
theorem op_xor : OpR X (binaryOp .BitXor) (rI0 fun i j => .int (Builtin.bitXor i j)) := opI0 fun _ _ _ _ _ _ _ q => xor_int q

theorem iop_add : OpR X (inplaceOp .Add) (rI0 fun i j => .int (i + j)) := opI0 fun _ _ _ _ _ _ _ q => iadd_int q
theorem iop_sub : OpR X (inplaceOp .Sub) (rI0 fun i j => .int (i - j)) := opI0 fun _ _ _ _ _ _ _ q => isub_int q
theorem iop_mul : OpR X (inplaceOp .Mult) (rI CMul fun i j => .int (i * j)) := opI fun _ _ _ _ _ _ _ hc q => imul_int q hc.ok
theorem iop_fdiv : OpR X (inplaceOp .FloorDiv) (rI CDiv fun i j => .int (i / j)) := opI fun i j _ _ _ _ _ hc q => by
  have h1 : (0 : Int) < j := hc.1
  have h2 : j < 1073741824 := hc.2
  exact ifloordiv_int (by omega) (by rw [Int.fdiv_eq_ediv_of_nonneg i (by omega)]; exact q) (.inl (PyProof.noPylong_small (by omega)))
theorem iop_mod : OpR X (inplaceOp .Mod) (rI (fun _ j => 0 < j) fun i j => .int (i % j)) := opI fun i j _ _ _ _ _ hc q => by
  have h1 : (0 : Int) < j := hc
  exact imod_int (by omega) (by rw [Int.fmod_eq_emod_of_nonneg i (by omega)]; exact q)
theorem iop_shl : OpR X (inplaceOp .LShift) (rI CPow fun i j => .int (i * 2 ^ j.toNat)) := opI fun _ _ _ _ _ _ _ hc q => ilshift_int_small hc.1 hc.2.1 hc.2.2 q
theorem iop_shr : OpR X (inplaceOp .RShift) (rI (fun _ j => 0 ≤ j) fun i j => .int (i / 2 ^ j.toNat)) := opI fun i j _ _ _ _ _ hc q =>
  irshift_int hc (by rw [Int.fdiv_eq_ediv_of_nonneg i (two_pow_nn _)]; exact q)
theorem iop_and : OpR X (inplaceOp .BitAnd) (rI0 fun i j => .int (Builtin.bitAnd i j)) := opI0 fun _ _ _ _ _ _ _ q => iand_int q
theorem iop_or : OpR X (inplaceOp .BitOr) (rI0 fun i j => .int (Builtin.bitOr i j)) := opI0 fun _ _ _ _ _ _ _ q => ior_int q
theorem iop_xor : OpR X (inplaceOp .BitXor) (rI0 fun i j => .int (Builtin.bitXor i j)) := opI0 fun _ _ _ _ _ _ _ q => ixor_int q

theorem unI {f : Value → Sem Value} {g : Int → Int}
    (rule : ∀ (i : Int) (t : Tok) (s : Shared) (Q : Value → Shared → Prop) (E : Value → Shared → Prop), Q (.int (g i) s.toks) { s with toks := s.toks + 1 } → wpAny (model X.prog X.w) X.A (f (.int i t)) Q E s) :
    UnR X f (rU fun i => .int (g i)) := by
  intro pins s σ H x v Q I rx h
  obtain ⟨i, rfl, q⟩ := h
  obtain ⟨t, rfl⟩ := rx
  exact rule i t s _ _ ⟨.int (g i), H, I.tok _, ⟨_, rfl⟩, q⟩
theorem un_neg : UnR X (unaryOp .USub) (rU fun i => .int (-i)) := unI fun _ _ _ _ _ q => neg_int q
theorem un_inv : UnR X (unaryOp .Invert) (rU fun i => .int (Builtin.bitNot i)) := unI fun _ _ _ _ _ q => invert_int q

/-! ### bools among ints: n += (a < b) -/
theorem op_add_ib : OpR X (binaryOp .Add) (fun x y H Q => ∃ i k, x = .int i ∧ y = .bl k ∧ Q (.int (i + b2i k)) H) := by
  intro pins s σ H x y v u Q I rx ry h
  obtain ⟨i, k, rfl, rfl, q⟩ := h
  obtain ⟨t, rfl⟩ := rx
  cases ry
  exact add_int_bool ⟨.int (i + b2i k), H, I.tok _, ⟨_, rfl⟩, q⟩
end

/-! ### comparisons -/
/-- the scalars that == tells apart as data does -/
def scal : V → V → Bool
  | .non, .non => true | .non, .int _ => true | .int _, .non => true | .non, .bl _ => true | .bl _, .non => true | .non, .str _ => true | .str _, .non => true
  | .int _, .int _ => true | .bl _, .bl _ => true | .str _, .str _ => true | .byt _, .byt _ => true
  | .int _, .str _ => true | .str _, .int _ => true | .bl _, .str _ => true | .str _, .bl _ => true
  | _, _ => false
def rEq : R2 := fun x y H Q => scal x y = true ∧ Q (.bl (decide (x = y))) H
def rNe : R2 := fun x y H Q => scal x y = true ∧ Q (.bl (!decide (x = y))) H

theorem dec_int {i j : Int} : decide (V.int i = V.int j) = (i == j) := by
  rw [Bool.eq_iff_iff]
  simp
theorem dec_bl {i j : Bool} : decide (V.bl i = V.bl j) = (i == j) := by
  rw [Bool.eq_iff_iff]
  simp
theorem dec_str {i j : Str} : decide (V.str i = V.str j) = (i == j) := by
  rw [Bool.eq_iff_iff]
  simp
theorem dec_byt {i j : Array UInt8} : decide (V.byt i = V.byt j) = (i.toList == j.toList) := by
  rw [Bool.eq_iff_iff]
  cases i
  cases j
  simp

section
variable {X : Cx} {a b c : Expr} {ta tb tc : TE} {pos : Pos}
theorem fin_bl {pins : List (Addr × Obj)} {σ : St} {H : Hp} {s : Shared} {Q : VK} {k k' : Bool} (I : Inv X pins σ H s) (q : Q (.bl k) H) (e : k = k') : EP X pins σ Q (.bool k') s := by
  subst e
  exact ⟨.bl k, H, I, rfl, q⟩
theorem op_eq : OpR X (compareOp .Eq) rEq := by
  intro pins s σ H x y v u Q I rx ry h
  obtain ⟨hs, q⟩ := h
  cases x with
  | non =>
    cases rx
    cases y with
    | non => cases ry; exact PySem.EqNone.eq_none_none (fin_bl I q (by simp))
    | bl j => cases ry; exact PySem.EqNone.eq_none_bool (fin_bl I q (by simp))
    | int j => obtain ⟨t', rfl⟩ := ry; exact PySem.EqNone.eq_none_int (fin_bl I q (by simp))
    | str j => obtain ⟨t', rfl⟩ := ry; exact PySem.EqNone.eq_none_str (fin_bl I q (by simp))
    | _ => exact absurd (show false = true from hs) Bool.false_ne_true
  | bl i =>
    cases rx
    cases y with
    | non => cases ry; exact PySem.EqNone.eq_bool_none (fin_bl I q (by simp))
    | bl j => cases ry; exact eq_bool (fin_bl I q dec_bl)
    | str j => obtain ⟨t', rfl⟩ := ry; exact PySem.EqMixed.eq_bool_str (fin_bl I q (by simp))
    | _ => exact absurd (show false = true from hs) Bool.false_ne_true
  | int i =>
    obtain ⟨t, rfl⟩ := rx
    cases y with
    | non => cases ry; exact PySem.EqNone.eq_int_none (fin_bl I q (by simp))
    | int j => obtain ⟨t', rfl⟩ := ry; exact eq_int (fin_bl I q dec_int)
    | str j => obtain ⟨t', rfl⟩ := ry; exact PySem.EqMixed.eq_int_str (fin_bl I q (by simp))
    | _ => exact absurd (show false = true from hs) Bool.false_ne_true
  | str i =>
    obtain ⟨t, rfl⟩ := rx
    cases y with
    | non => cases ry; exact PySem.EqNone.eq_str_none (fin_bl I q (by simp))
    | bl j => cases ry; exact PySem.EqMixed.eq_str_bool (fin_bl I q (by simp))
    | int j => obtain ⟨t', rfl⟩ := ry; exact PySem.EqMixed.eq_str_int (fin_bl I q (by simp))
    | str j => obtain ⟨t', rfl⟩ := ry; exact eq_str (fin_bl I q dec_str)
    | _ => exact absurd (show false = true from hs) Bool.false_ne_true
  | byt i =>
    obtain ⟨t, rfl⟩ := rx
    cases y with
    | byt j => obtain ⟨t', rfl⟩ := ry; exact PySem.W.eq_bytes (fin_bl I q dec_byt)
    | _ => exact absurd (show false = true from hs) Bool.false_ne_true
  | _ => cases y <;> exact absurd (show false = true from hs) Bool.false_ne_true
theorem op_ne : OpR X (compareOp .NotEq) rNe := by
  intro pins s σ H x y v u Q I rx ry h
  obtain ⟨hs, q⟩ := h
  cases x with
  | non =>
    cases rx
    cases y with
    | non => cases ry; exact PySem.EqNone.ne_none_none (fin_bl I q (by simp))
    | bl j => cases ry; exact PySem.EqNone.ne_none_bool (fin_bl I q (by simp))
    | int j => obtain ⟨t', rfl⟩ := ry; exact PySem.EqNone.ne_none_int (fin_bl I q (by simp))
    | str j => obtain ⟨t', rfl⟩ := ry; exact PySem.EqNone.ne_none_str (fin_bl I q (by simp))
    | _ => exact absurd (show false = true from hs) Bool.false_ne_true
  | bl i =>
    cases rx
    cases y with
    | non => cases ry; exact PySem.EqNone.ne_bool_none (fin_bl I q (by simp))
    | bl j => cases ry; exact ne_bool (fin_bl I q (congrArg not dec_bl))
    | str j => obtain ⟨t', rfl⟩ := ry; exact PySem.EqMixed.ne_bool_str (fin_bl I q (by simp))
    | _ => exact absurd (show false = true from hs) Bool.false_ne_true
  | int i =>
    obtain ⟨t, rfl⟩ := rx
    cases y with
    | non => cases ry; exact PySem.EqNone.ne_int_none (fin_bl I q (by simp))
    | int j => obtain ⟨t', rfl⟩ := ry; exact ne_int (fin_bl I q (congrArg not dec_int))
    | str j => obtain ⟨t', rfl⟩ := ry; exact PySem.EqMixed.ne_int_str (fin_bl I q (by simp))
    | _ => exact absurd (show false = true from hs) Bool.false_ne_true
  | str i =>
    obtain ⟨t, rfl⟩ := rx
    cases y with
    | non => cases ry; exact PySem.EqNone.ne_str_none (fin_bl I q (by simp))
    | bl j => cases ry; exact PySem.EqMixed.ne_str_bool (fin_bl I q (by simp))
    | int j => obtain ⟨t', rfl⟩ := ry; exact PySem.EqMixed.ne_str_int (fin_bl I q (by simp))
    | str j => obtain ⟨t', rfl⟩ := ry; exact ne_str (fin_bl I q (congrArg not dec_str))
    | _ => exact absurd (show false = true from hs) Bool.false_ne_true
  | byt i =>
    obtain ⟨t, rfl⟩ := rx
    cases y with
    | byt j => obtain ⟨t', rfl⟩ := ry; exact PySem.W.ne_bytes (fin_bl I q (congrArg not dec_byt))
    | _ => exact absurd (show false = true from hs) Bool.false_ne_true
  | _ => cases y <;> exact absurd (show false = true from hs) Bool.false_ne_true

theorem op_lt : OpR X (compareOp .Lt) (rI0 fun i j => .bl (decide (i < j))) := opB0 fun _ _ _ _ _ _ _ q => lt_int q
theorem op_le : OpR X (compareOp .LtE) (rI0 fun i j => .bl (decide (i ≤ j))) := opB0 fun _ _ _ _ _ _ _ q => le_int q
theorem op_gt : OpR X (compareOp .Gt) (rI0 fun i j => .bl (decide (j < i))) := opB0 fun _ _ _ _ _ _ _ q => gt_int q
theorem op_ge : OpR X (compareOp .GtE) (rI0 fun i j => .bl (decide (j ≤ i))) := opB0 fun _ _ _ _ _ _ _ q => ge_int q
theorem op_lt_str : OpR X (compareOp .Lt) (fun x y H Q => ∃ i j, x = .str i ∧ y = .str j ∧ Q (.bl (decide (i.cps.toList < j.cps.toList))) H) := by
  intro pins s σ H x y v u Q I rx ry h
  obtain ⟨i, j, rfl, rfl, q⟩ := h
  obtain ⟨t, rfl⟩ := rx
  obtain ⟨t', rfl⟩ := ry
  exact lt_str (fin_bl I q rfl)
/-- the one string within the other -/
theorem op_in_str : OpR X (compareOp .In) (fun x y H Q => ∃ i j, x = .str i ∧ y = .str j ∧ Q (.bl (!(Builtin.Str.occurrences j i 0 j.length 1).isEmpty)) H) := by
  intro pins s σ H x y v u Q I rx ry h
  obtain ⟨i, j, rfl, rfl, q⟩ := h
  obtain ⟨t, rfl⟩ := rx
  obtain ⟨t', rfl⟩ := ry
  exact in_str (fin_bl I q rfl)

/-- is None, is not None: the right side a value none -/
theorem op_isN : OpR X (compareOp .Is) (fun x y H Q => y = .non ∧ Q (.bl (decide (x = .non))) H) := by
  intro pins s σ H x y v u Q I rx ry h
  obtain ⟨rfl, q⟩ := h
  cases ry
  refine is_none_gen (fin_bl I q ?_)
  cases x <;> first
    | (cases rx; rfl)
    | (obtain ⟨t, rfl⟩ := rx; rfl)
theorem op_notN : OpR X (compareOp .IsNot) (fun x y H Q => y = .non ∧ Q (.bl (!decide (x = .non))) H) := by
  intro pins s σ H x y v u Q I rx ry h
  obtain ⟨rfl, q⟩ := h
  cases ry
  refine isnot_none_gen (fin_bl I q ?_)
  cases x <;> first
    | (cases rx; rfl)
    | (obtain ⟨t, rfl⟩ := rx; rfl)

theorem op_notin_str : OpR X (compareOp .NotIn) (fun x y H Q => ∃ i j, x = .str i ∧ y = .str j ∧ Q (.bl (!(!(Builtin.Str.occurrences j i 0 j.length 1).isEmpty))) H) := by
  intro pins s σ H x y v u Q I rx ry h
  obtain ⟨i, j, rfl, rfl, q⟩ := h
  obtain ⟨t, rfl⟩ := rx
  obtain ⟨t', rfl⟩ := ry
  exact notIn_str (fin_bl I q rfl)
/-- is, is not of two objects that are tracked lists or instances -/
def isObj : HO → Bool
  | .lst _ => true
  | .ins _ _ _ => true
  | _ => false
theorem obj_there {pins : List (Addr × Obj)} {s : Shared} {σ : St} {H : Hp} {a : Addr} {o : HO} (I : Inv X pins σ H s) (h : H a = some o) (p : isObj o = true) : ∃ ob, s.heap.get? a = some ob ∧ ob.cls ≠ .type "tuple" := by
  cases o with
  | lst xs =>
    obtain ⟨_, its, n, _, e⟩ : xs.length ≤ sizeLine ∧ ∃ (its : List Value) (n : Nat), Vals xs its ∧ s.heap.get? a = some { cls := .type "list", data := .seq its.toArray n } := I.hok a _ h
    exact ⟨_, e, (by show Value.type "list" ≠ .type "tuple"; decide +kernel)⟩
  | ins C dx fs =>
    have x := I.hok a _ h
    obtain ⟨_, _, _, e, _⟩ := x
    exact ⟨_, e, (by show Value.ref C ≠ .type "tuple"; exact fun z => by cases z)⟩
  | _ => exact absurd (show false = true from p) Bool.false_ne_true
theorem op_is_ref : OpR X (compareOp .Is) (fun x y H Q => ∃ a b oa ob, x = .ref a ∧ y = .ref b ∧ H a = some oa ∧ isObj oa = true ∧ H b = some ob ∧ isObj ob = true ∧ Q (.bl (decide (a = b))) H) := by
  intro pins s σ H x y v u Q I rx ry h
  obtain ⟨a, b, oa, ob, rfl, rfl, ha, pa, hb, pb, q⟩ := h
  cases rx
  cases ry
  obtain ⟨o1, e1, n1⟩ := obj_there I ha pa
  obtain ⟨o2, e2, _⟩ := obj_there I hb pb
  by_cases z : a = b
  · subst z
    exact wpAny_is_ref_self (fin_bl I q (by simp))
  · exact wpAny_is_ref_other z e1 e2 n1 (fin_bl I q (by simp [z]))
theorem op_isnot_ref : OpR X (compareOp .IsNot) (fun x y H Q => ∃ a b oa ob, x = .ref a ∧ y = .ref b ∧ H a = some oa ∧ isObj oa = true ∧ H b = some ob ∧ isObj ob = true ∧ Q (.bl (!decide (a = b))) H) := by
  intro pins s σ H x y v u Q I rx ry h
  obtain ⟨a, b, oa, ob, rfl, rfl, ha, pa, hb, pb, q⟩ := h
  cases rx
  cases ry
  obtain ⟨o1, e1, n1⟩ := obj_there I ha pa
  obtain ⟨o2, e2, _⟩ := obj_there I hb pb
  by_cases z : a = b
  · subst z
    exact wpAny_isNot_ref_self (fin_bl I q (by simp))
  · exact wpAny_isNot_ref_other z e1 e2 n1 (fin_bl I q (by simp [z]))

/-- two rules for one operation: by cases -/
theorem OpR.or {f : Value → Value → Sem Value} {r r' : R2} (h : OpR X f r) (h' : OpR X f r') : OpR X f (fun x y H Q => r x y H Q ∨ r' x y H Q) := by
  intro pins s σ H x y v u Q I rx ry q
  rcases q with q | q
  · exact h pins s σ H x y v u Q I rx ry q
  · exact h' pins s σ H x y v u Q I rx ry q

theorem nomark (b : Expr) {op : CmpOp} (h : op ≠ .In := by decide) (h2 : op ≠ .NotIn := by decide) : behindInMarks op b = false := by
  have e1 : (op == CmpOp.In) = false := by cases op <;> first | rfl | exact absurd rfl h
  have e2 : (op == CmpOp.NotIn) = false := by cases op <;> first | rfl | exact absurd rfl h2
  cases b <;> simp [behindInMarks, e1, e2]
/-- a comparison as a value; hm: nomark b, or (for in, not in) by with_unfolding_all rfl -/
theorem pe_cmpR {op : CmpOp} {r : R2} (ho : OpR X (compareOp op) r) (ha : PE X a ta) (hb : PE X b tb) (hm : behindInMarks op b = false) : PE X (.Compare a [op] [b] pos) (tOp r ta tb) := by
  intro pins s σ H Q I h
  exact wpAny_Compare1 (binT ha hb I h fun v u s2 x y H2 I2 rx ry q => ho pins s2 σ H2 x y v u Q I2 rx ry q) hm
/-- a reading of a value as a test -/
def tTest (t : TE) : TT := fun σ H Q => t σ H fun x H' => ∃ k, x = .bl k ∧ Q k H'
theorem pt_cmpR {op : CmpOp} {r : R2} (ho : OpR X (compareOp op) r) (ha : PE X a ta) (hb : PE X b tb) (hm : behindInMarks op b = false) : PT X (.Compare a [op] [b] pos) (tTest (tOp r ta tb)) := by
  intro pins s σ H Q I h
  refine wpAny_isTrue_Compare1 (thn (ha pins s σ H _ I h) fun v s1 ⟨x, H1, I1, r1, q1⟩ => thn (hb pins s1 σ H1 _ I1 q1) fun u s2 ⟨y, H2, I2, r2, q2⟩ =>
    thn (ho pins s2 σ H2 x y v u _ I2 r1 r2 q2) fun c s3 ⟨z, H3, I3, r3, k, e, q3⟩ => ?_) hm
  subst e
  cases r3
  exact wpAny_truthy_bool ⟨H3, I3, q3⟩
/-- a op1 b op2 c -/
def tChain (r r' : R2) (ta tb tc : TE) : TE := fun σ H Q => ta σ H fun x H1 => tb σ H1 fun y H2 => r x y H2 fun z H3 => ∃ k, z = .bl k ∧
  (if k = true then tc σ H3 fun w' H4 => r' y w' H4 Q else Q (.bl false) H3)
theorem pe_chain {op op' : CmpOp} {r r' : R2} (ho : OpR X (compareOp op) r) (ho' : OpR X (compareOp op') r') (ha : PE X a ta) (hb : PE X b tb) (hc : PE X c tc)
    (hm : lastMarks [op, op'] [b, c] = false := by with_unfolding_all rfl) : PE X (.Compare a [op, op'] [b, c] pos) (tChain r r' ta tb tc) := by
  intro pins s σ H Q I h
  refine Compare_chain (thn (ha pins s σ H _ I h) fun v s1 ⟨x, H1, I1, r1, q1⟩ => chain_link (thn (hb pins s1 σ H1 _ I1 q1) fun u s2 ⟨y, H2, I2, r2, q2⟩ =>
    thn (ho pins s2 σ H2 x y v u _ I2 r1 r2 q2) fun d s3 ⟨z, H3, I3, r3, k, e, q3⟩ => ?_)) hm
  subst e
  cases r3
  refine wpAny_truthy_bool ?_
  cases k with
  | false => exact ite_ff ⟨.bl false, H3, I3, rfl, q3⟩
  | true => exact ite_tt (chain_last (thn (hc pins s3 σ H3 _ I3 q3) fun w' s4 ⟨z', H4, I4, r4, q4⟩ => ho' pins s4 σ H4 y z' u w' Q I4 r2 r4 q4))
theorem pt_chain {op op' : CmpOp} {r r' : R2} (ho : OpR X (compareOp op) r) (ho' : OpR X (compareOp op') r') (ha : PE X a ta) (hb : PE X b tb) (hc : PE X c tc)
    (hm : lastMarks [op, op'] [b, c] = false := by with_unfolding_all rfl) : PT X (.Compare a [op, op'] [b, c] pos) (tTest (tChain r r' ta tb tc)) := by
  intro pins s σ H Q I h
  refine isTrue_chain (thn (ha pins s σ H _ I h) fun v s1 ⟨x, H1, I1, r1, q1⟩ => test_link (thn (hb pins s1 σ H1 _ I1 q1) fun u s2 ⟨y, H2, I2, r2, q2⟩ =>
    thn (ho pins s2 σ H2 x y v u _ I2 r1 r2 q2) fun d s3 ⟨z, H3, I3, r3, k, e, q3⟩ => ?_)) hm
  subst e
  cases r3
  refine wpAny_truthy_bool ?_
  cases k with
  | false =>
    obtain ⟨k', e', q'⟩ := q3
    cases e'
    exact ite_ff ⟨H3, I3, q'⟩
  | true =>
    refine ite_tt (test_last (thn (hc pins s3 σ H3 _ I3 q3) fun w' s4 ⟨z', H4, I4, r4, q4⟩ => thn (ho' pins s4 σ H4 y z' u w' _ I4 r2 r4 q4) fun d' s5 ⟨z2, H5, I5, r5, k2, e2, q5⟩ => ?_))
    subst e2
    cases r5
    exact wpAny_truthy_bool ⟨H5, I5, q5⟩

/-! ### truth -/
/-- a value's truth by the abstract heap -/
def TruV (K : PySem.W.Frag) (x : V) (H : Hp) (k : Bool) : Prop :=
  match x with
  | .non => k = false
  | .bl b => k = b
  | .int i => k = (i != 0)
  | .str y => y.length ≤ sizeLine ∧ k = ((y.length : Int) != 0)
  | .byt y => y.size ≤ sizeLine ∧ k = ((y.size : Int) != 0)
  | .ref p => (∃ xs, SqL K H p xs ∧ k = !xs.isEmpty) ∨ (∃ xs, SqT K H p xs ∧ k = !xs.isEmpty) ∨ ∃ kvs, H p = some (.dK kvs) ∧ k = !kvs.isEmpty
  | _ => False
theorem isEmpty_kv {κ : Type} {kvs : List (κ × V)} {vs : List (κ × Value)} (r : KV kvs vs) : (!vs.isEmpty) = !kvs.isEmpty := by
  cases r <;> rfl
theorem isEmpty_of {xs : List V} {its : List Value} (r : Vals xs its) : (!its.toArray.isEmpty) = !xs.isEmpty := by
  cases r <;> simp
theorem line63 : (sizeLine : Nat) < 2 ^ 63 := by rw [sizeLine_eq]; decide
theorem tru_ok : TruR X (fun x H Q => ∃ k, TruV X.K x H k ∧ Q k H) := by
  intro pins s σ H x v Q I rx h
  obtain ⟨k, e, q⟩ := h
  have hl := line63
  have hs : sizeLine = 16777216 := sizeLine_eq
  cases x with
  | non =>
    cases rx
    have e' : k = false := e
    subst e'
    exact truthy_none ⟨H, I, q⟩
  | bl b =>
    cases rx
    have e' : k = b := e
    subst e'
    exact wpAny_truthy_bool ⟨H, I, q⟩
  | int i =>
    obtain ⟨t, rfl⟩ := rx
    have e' : k = (i != 0) := e
    subst e'
    exact PySem.P.truthy_int ⟨H, I, q⟩
  | str y =>
    obtain ⟨t, rfl⟩ := rx
    obtain ⟨hy, e'⟩ : y.length ≤ sizeLine ∧ k = ((y.length : Int) != 0) := e
    subst e'
    exact PySem.P.truthy_str (by omega) ⟨H, I.tok _, q⟩
  | byt y =>
    obtain ⟨t, rfl⟩ := rx
    obtain ⟨hy, e'⟩ : y.size ≤ sizeLine ∧ k = ((y.size : Int) != 0) := e
    subst e'
    exact PySem.W.truthy_bytes (by omega) ⟨H, I.tok _, q⟩
  | ref p =>
    cases rx
    have e' : (∃ xs, SqL X.K H p xs ∧ k = !xs.isEmpty) ∨ (∃ xs, SqT X.K H p xs ∧ k = !xs.isEmpty) ∨ ∃ kvs, H p = some (.dK kvs) ∧ k = !kvs.isEmpty := e
    rcases e' with ⟨xs, hx, e'⟩ | ⟨xs, hx, e'⟩ | ⟨kvs, hx, e'⟩
    · subst e'
      obtain ⟨its, r, pl, hz⟩ := I.list hx
      have hlen := r.length
      exact wpAny_truthy_list pl.isList (by simp only [List.size_toArray]; omega) ⟨H, I.tok _, by rw [isEmpty_of r]; exact q⟩
    · subst e'
      obtain ⟨its, r, pl, hz⟩ := I.tuple hx
      have hlen := r.length
      exact truthy_tuple pl (by simp only [List.size_toArray]; omega) ⟨H, I.tok _, by rw [isEmpty_of r]; exact q⟩
    · subst e'
      obtain ⟨hz, hS, vs, r, m⟩ : kvs.length ≤ sizeLine ∧ (p == sysModules) = false ∧ ∃ vs, KV kvs vs ∧ s.heap.DictOf (mixKind X.prog X.w) p vs := I.hok p _ hx
      have hlen : kvs.length = vs.length := Paired.length r
      exact wpAny_truthy_dict hS m (by omega) ⟨H, I.tok _, by rw [isEmpty_kv r]; exact q⟩
  | _ => exact (show False from e).elim
/-- any expression whose test is its value's truth (a name, a call, a subscript, a field ..: he by fun _ => rfl) -/
theorem pt_truth (ha : PE X a ta) (he : ∀ whole, isTrue a X.env whole = (do let v ← whole; standAt a.pos; holding [v] (truthy v))) :
    PT X a (fun σ H Q => ta σ H fun x H' => ∃ k, TruV X.K x H' k ∧ Q k H') := by
  intro pins s σ H Q I h
  exact isTrue_plain (thn (ha pins s σ H _ I h) fun v s1 ⟨x, H1, I1, r1, q1⟩ => tru_ok pins s1 σ H1 x v Q I1 r1 q1) (he _)

/-! ### strs and bytes -/
theorem pe_byt {x : List UInt8} {k : Nat} : PE X (.Constant (.bytes x) k pos) (fun _ H Q => Q (.byt x.toArray) H) := fun _ _ _ H _ I h => PySem.W.Constant_bytes ⟨.byt x.toArray, H, I.tok _, ⟨_, rfl⟩, h⟩
theorem op_add_str : OpR X (binaryOp .Add) (fun x y H Q => ∃ i j, x = .str i ∧ y = .str j ∧ i.length + j.length ≤ sizeLine ∧ Q (.str (i ++ j)) H) := by
  intro pins s σ H x y v u Q I rx ry h
  obtain ⟨i, j, rfl, rfl, hz, q⟩ := h
  obtain ⟨t, rfl⟩ := rx
  obtain ⟨t', rfl⟩ := ry
  exact add_str (fun t' tk => ⟨.str (i ++ j), H, I.tok _, ⟨_, rfl⟩, q⟩) hz
theorem iop_add_str : OpR X (inplaceOp .Add) (fun x y H Q => ∃ i j, x = .str i ∧ y = .str j ∧ i.length + j.length ≤ sizeLine ∧ Q (.str (i ++ j)) H) := by
  intro pins s σ H x y v u Q I rx ry h
  obtain ⟨i, j, rfl, rfl, hz, q⟩ := h
  obtain ⟨t, rfl⟩ := rx
  obtain ⟨t', rfl⟩ := ry
  exact iadd_str (fun t' tk => ⟨.str (i ++ j), H, I.tok _, ⟨_, rfl⟩, q⟩) hz
theorem op_add_byt : OpR X (binaryOp .Add) (fun x y H Q => ∃ i j, x = .byt i ∧ y = .byt j ∧ i.size + j.size ≤ 16777216 ∧ Q (.byt (i ++ j)) H) := by
  intro pins s σ H x y v u Q I rx ry h
  obtain ⟨i, j, rfl, rfl, hz, q⟩ := h
  obtain ⟨t, rfl⟩ := rx
  obtain ⟨t', rfl⟩ := ry
  exact PySem.W.KBy.add_bytes hz (fun t' tk => ⟨.byt (i ++ j), H, I.tok _, ⟨_, rfl⟩, q⟩)

def PlainIxT (b : Expr) : Prop := ∀ o i, subscripted b false o i = operate [o, i] (getItem o i)
/-- s[i], 0 ≤ i < len -/
theorem pe_item_str (ha : PE X a ta) (hb : PE X b tb) (hs : PlainIxT b) :
    PE X (.Subscript a b pos) (tOp (fun x y H Q => ∃ z i c, x = .str z ∧ y = .int i ∧ 0 ≤ i ∧ i < 2 ^ 63 ∧ i < z.length ∧ z.cps[i.toNat]? = some c ∧ Q (.str ⟨#[c]⟩) H) ta tb) := by
  intro pins s σ H Q I h
  refine Subscript_ (binT ha hb I h fun v u s2 x y H2 I2 rx ry q => ?_)
  obtain ⟨z, i, c, rfl, rfl, h0, h63, h1, hc, q⟩ := q
  obtain ⟨t, rfl⟩ := rx
  obtain ⟨t', rfl⟩ := ry
  have e : seqIndex? i z.length = some i.toNat := PySem.StrLaws.seqIndex_nonneg h0 h1
  exact tail_any (typeIs_str s2 z t) slot_str_getitem.lookup (getItem_str (c := c) (by
    have e1 : decide (i < -(2 ^ 63 : Int)) = false := decide_eq_false (by omega)
    have e2 : decide (i ≥ 2 ^ 63) = false := decide_eq_false (by omega)
    rw [e1, e2] <;> rfl) (by rw [e]; exact hc) ⟨.str ⟨#[c]⟩, H2, I2.tok _, ⟨_, rfl⟩, q⟩) (hs _ _)
/-- b[i], 0 ≤ i < len -/
theorem pe_item_byt (ha : PE X a ta) (hb : PE X b tb) (hs : PlainIxT b) :
    PE X (.Subscript a b pos) (tOp (fun x y H Q => ∃ (z : List UInt8) (i : Int), x = .byt z.toArray ∧ y = .int i ∧ z.length ≤ sizeLine ∧ 0 ≤ i ∧ i < z.length ∧ Q (.int ((z.getD i.toNat 0).toNat : Nat)) H) ta tb) := by
  intro pins s σ H Q I h
  refine Subscript_ (binT ha hb I h fun v u s2 x y H2 I2 rx ry q => ?_)
  obtain ⟨z, i, rfl, rfl, hz, h0, h1, q⟩ := q
  obtain ⟨t, rfl⟩ := rx
  obtain ⟨t', rfl⟩ := ry
  have hl : sizeLine = 16777216 := sizeLine_eq
  exact tail_any (PySem.W.typeIs_bytes s2 z.toArray t) PySem.W.FB.slot_bytes_getitem.lookup (PySem.W.getItem_bytes (by omega) h0 h1 ⟨.int ((z.getD i.toNat 0).toNat : Nat), H2, I2.tok _, ⟨_, rfl⟩, q⟩) (hs _ _)

/-! ### scalar builtins, by CallR -/
theorem vals1 {x : V} {us : List Value} (r : Vals [x] us) : ∃ u, us = [u] ∧ RelV x u := by
  cases r with
  | cons r1 r2 => cases r2; exact ⟨_, rfl, r1⟩
theorem vals2 {x y : V} {us : List Value} (r : Vals [x, y] us) : ∃ u w', us = [u, w'] ∧ RelV x u ∧ RelV y w' := by
  cases r with
  | cons r1 r2 =>
    cases r2 with
    | cons r3 r4 => cases r4; exact ⟨_, _, rfl, r1, r3⟩
theorem call_abs : CallR X (.builtin "abs") (fun xs H Q => ∃ i, xs = [.int i] ∧ Q (.int (if i < 0 then -i else i)) H) := by
  intro pins s σ H xs us Q I r h
  obtain ⟨i, rfl, q⟩ := h
  obtain ⟨u, rfl, t, rfl⟩ := vals1 r
  exact call_abs_int fun u tk => ⟨.int (if i < 0 then -i else i), H, I.tok _, ⟨_, rfl⟩, q⟩
theorem call_max2 (hc : X.calm = true) : CallR X (.builtin "max") (fun xs H Q => ∃ i j, xs = [.int i, .int j] ∧ Q (.int (if j > i then j else i)) H) := by
  intro pins s σ H xs us Q I r h
  obtain ⟨i, j, rfl, q⟩ := h
  obtain ⟨u, w', rfl, ⟨t, rfl⟩, ⟨t', rfl⟩⟩ := vals2 r
  refine max_two_ints (I.ok.hd hc) fun h' tk k => ⟨_, H, I.kept k, ?_, q⟩
  by_cases hj : j > i
  · rw [if_pos hj, if_pos hj]; exact ⟨_, rfl⟩
  · rw [if_neg hj, if_neg hj]; exact ⟨_, rfl⟩
theorem call_min2 (hc : X.calm = true) : CallR X (.builtin "min") (fun xs H Q => ∃ i j, xs = [.int i, .int j] ∧ Q (.int (if j < i then j else i)) H) := by
  intro pins s σ H xs us Q I r h
  obtain ⟨i, j, rfl, q⟩ := h
  obtain ⟨u, w', rfl, ⟨t, rfl⟩, ⟨t', rfl⟩⟩ := vals2 r
  refine min_two_ints (I.ok.hd hc) fun h' tk k => ⟨_, H, I.kept k, ?_, q⟩
  by_cases hj : j < i
  · rw [if_pos hj, if_pos hj]; exact ⟨_, rfl⟩
  · rw [if_neg hj, if_neg hj]; exact ⟨_, rfl⟩
theorem call_int1 : CallR X (.type "int") (fun xs H Q => (∃ i, xs = [.int i] ∧ Q (.int i) H) ∨ ∃ k, xs = [.bl k] ∧ Q (.int (if k then 1 else 0)) H) := by
  intro pins s σ H xs us Q I r h
  rcases h with ⟨i, rfl, q⟩ | ⟨k, rfl, q⟩
  · obtain ⟨u, rfl, t, rfl⟩ := vals1 r
    exact call_int_int ⟨.int i, H, I, ⟨_, rfl⟩, q⟩
  · obtain ⟨u, rfl, r1⟩ := vals1 r
    cases r1
    exact call_int_bool ⟨.int (if k then 1 else 0), H, I.tok _, ⟨_, rfl⟩, q⟩
theorem call_bool1 : CallR X (.type "bool") (fun xs H Q => (∃ i, xs = [.int i] ∧ Q (.bl (i != 0)) H) ∨ ∃ k, xs = [.bl k] ∧ Q (.bl k) H) := by
  intro pins s σ H xs us Q I r h
  rcases h with ⟨i, rfl, q⟩ | ⟨k, rfl, q⟩
  · obtain ⟨u, rfl, t, rfl⟩ := vals1 r
    exact call_bool_int ⟨.bl (i != 0), H, I, rfl, q⟩
  · obtain ⟨u, rfl, r1⟩ := vals1 r
    cases r1
    exact call_bool_bool ⟨.bl k, H, I, rfl, q⟩
theorem call_str_int : CallR X (.type "str") (fun xs H Q => ∃ i, xs = [.int i] ∧ i.natAbs.log2 < 1920 ∧ Q (.str (toString i)) H) := by
  intro pins s σ H xs us Q I r h
  obtain ⟨i, rfl, hz, q⟩ := h
  obtain ⟨u, rfl, t, rfl⟩ := vals1 r
  exact PySem.P.str_of_int hz ⟨.str _, H, I.tok _, ⟨_, rfl⟩, q⟩
theorem call_ord : CallR X (.builtin "ord") (fun xs H Q => ∃ x, xs = [.str x] ∧ x.length = 1 ∧ Q (.int (x.cps.getD 0 0 : Nat)) H) := by
  intro pins s σ H xs us Q I r h
  obtain ⟨x, rfl, hz, q⟩ := h
  obtain ⟨u, rfl, t, rfl⟩ := vals1 r
  exact ord_of_one hz ⟨.int _, H, I.tok _, ⟨_, rfl⟩, q⟩
theorem call_chr : CallR X (.builtin "chr") (fun xs H Q => ∃ i, xs = [.int i] ∧ 0 ≤ i ∧ i ≤ 1114111 ∧ Q (.str ⟨#[i.toNat]⟩) H) := by
  intro pins s σ H xs us Q I r h
  obtain ⟨i, rfl, h0, h1, q⟩ := h
  obtain ⟨u, rfl, t, rfl⟩ := vals1 r
  exact chr_of_range h0 h1 ⟨.str _, H, I.tok _, ⟨_, rfl⟩, q⟩
/-- len of a str, a bytes, a list, a tuple -/
def LenV (K : PySem.W.Frag) (x : V) (H : Hp) (n : Nat) : Prop :=
  match x with
  | .str y => y.length ≤ sizeLine ∧ n = y.length
  | .byt y => y.size ≤ sizeLine ∧ n = y.size
  | .ref p => (∃ xs, SqL K H p xs ∧ n = xs.length) ∨ ∃ xs, SqT K H p xs ∧ n = xs.length
  | _ => False
theorem call_len : CallR X (.builtin "len") (fun xs H Q => ∃ x n, xs = [x] ∧ LenV X.K x H n ∧ Q (.int n) H) := by
  intro pins s σ H xs us Q I r h
  obtain ⟨x, n, rfl, e, q⟩ := h
  obtain ⟨u, rfl, rx⟩ := vals1 r
  have hl := line63
  have hs : sizeLine = 16777216 := sizeLine_eq
  cases x with
  | str y =>
    obtain ⟨t, rfl⟩ := rx
    obtain ⟨hy, e'⟩ : y.length ≤ sizeLine ∧ n = y.length := e
    subst e'
    exact len_str (by omega) ⟨.int _, H, I.tok _, ⟨_, rfl⟩, q⟩
  | byt y =>
    obtain ⟨t, rfl⟩ := rx
    obtain ⟨hy, e'⟩ : y.size ≤ sizeLine ∧ n = y.size := e
    subst e'
    exact PySem.W.len_bytes (by omega) ⟨.int _, H, I.tok _, ⟨_, rfl⟩, q⟩
  | ref p =>
    cases rx
    have e' : (∃ xs, SqL X.K H p xs ∧ n = xs.length) ∨ ∃ xs, SqT X.K H p xs ∧ n = xs.length := e
    rcases e' with ⟨xs, hx, e'⟩ | ⟨xs, hx, e'⟩
    · subst e'
      obtain ⟨its, r', pl, hz⟩ := I.list hx
      have hlen := r'.length
      exact Calls.call_len_list pl.isList (by simp only [List.size_toArray]; omega) ⟨.int xs.length, H, I.tok _, ⟨_, by simp only [List.size_toArray]; rw [hlen]⟩, q⟩
    · subst e'
      obtain ⟨its, r', pl, hz⟩ := I.tuple hx
      have hlen := r'.length
      exact len_tuple pl (by simp only [List.size_toArray]; omega) ⟨.int xs.length, H, I.tok _, ⟨_, by simp only [List.size_toArray]; rw [hlen]⟩, q⟩
  | _ => exact (show False from e).elim
/-- divmod: a new tuple -/
theorem call_divmod : CallR X (.builtin "divmod") (fun xs H Q => ∃ i j, xs = [.int i, .int j] ∧ CDiv i j ∧ ∀ p, H p = none → Q (.ref p) (upd H p (.tup [.int (i / j), .int (i % j)]))) := by
  intro pins s σ H xs us Q I r h
  obtain ⟨i, j, rfl, ⟨h1, h2⟩, q⟩ := h
  obtain ⟨u, w', rfl, ⟨t, rfl⟩, ⟨t', rfl⟩⟩ := vals2 r
  refine divmod_int (by omega) ?_ (.inl (PyProof.noPylong_small (by omega)))
  rw [Int.fdiv_eq_ediv_of_nonneg i (by omega), Int.fmod_eq_emod_of_nonneg i (by omega)]
  have hn : H s.heap.objs.size = none := I.hok.fresh (Nat.le_refl _)
  refine ⟨.ref s.heap.objs.size, _, ?_, rfl, q _ hn⟩
  refine I.laid (fun b o e => Heap.get?_push_of_some _ e) (Nat.le_refl _) ⟨by simp only [List.length_cons, List.length_nil]; rw [sizeLine_eq]; decide, [.int (i / j) s.toks, .int (i % j) (s.toks + 1)], .cons ⟨_, rfl⟩ (.cons ⟨_, rfl⟩ .nil), ?_⟩
  exact ⟨_, Heap.get?_push_size s.heap rfl, rfl, 0, rfl⟩
end
end L2

namespace L2
open PySem PySem.Spec PyProof.Rows

/-! ### an instance, its attributes a map -/
structure ObjM (h : Heap) (x dx C : Addr) (mA : Str → Option Value) : Prop where
  obj : h.get? x = some (PySem.W.instObj C dx)
  ns : h.Ns1 dx mA
  ne : dx ≠ x

theorem lookIn_ns {h : Heap} {dx : Addr} {mA : Str → Option Value} (n : h.Ns1 dx mA) : ∃ od, h.get? dx = some od ∧ ∀ name, PySem.W.lookIn name od = some (mA name) := by
  obtain ⟨o, es, ep, ho, hd, hk, _, hm⟩ := n
  refine ⟨o, ho, fun name => ?_⟩
  have e := hm name
  unfold nsFind findBy at e
  rw [← Array.find?_toList] at e
  unfold PySem.W.lookIn
  rw [hd]
  dsimp only
  split
  · rename_i y q
    rw [q] at e
    exact congrArg some e
  · rename_i q
    rw [q] at e
    have a : es.toList.any (·.refKey) = false := by
      rw [List.any_eq_false]
      intro y hy
      obtain ⟨z, t, hkey⟩ := hk y (Array.mem_toList_iff.mp hy)
      simp [DictEntry.refKey, hkey]
    have a' : ¬ es.toList.any (·.refKey) = true := by rw [a]; exact Bool.false_ne_true
    rw [if_neg a']
    exact congrArg some e

theorem ObjM.look {h : Heap} {x dx C : Addr} {mA : Str → Option Value} (I : ObjM h x dx C mA) : ∃ od, PySem.W.InstAt h x (PySem.W.instObj C dx) C (some od) ∧ ∀ name, PySem.W.lookIn name od = some (mA name) :=
  let ⟨od, ho, hl⟩ := lookIn_ns I.ns
  ⟨od, ⟨I.obj, rfl, rfl, ho⟩, hl⟩

section
variable {prog : Program} {w : World} {A : Around} {E : Value → Shared → Prop} {s : Shared} {K : PySem.W.Frag} {x dx C f : Addr} {mA : Str → Option Value} {name : Str} {v : Value}

theorem get_map {expr : Bool} {Q : Value → Shared → Prop} (X : K.In s.heap) (I : ObjM s.heap x dx C mA) (hg : PySem.W.plainGet K C name = true) (hh : PySem.W.hasDictIn K C = true)
    (ha : PySem.W.findIn K (.ref C) name = some none) (hv : mA name = some v) (hv' : PySem.W.handedIn v = true) (h : Q v { s with toks := s.toks + 1 }) :
    wpAny (model prog w) A (getAttr (.ref x) name expr) Q E s := by
  obtain ⟨od, J, hl⟩ := I.look
  exact PySem.W.get_value X J (PySem.W.plainGet_of hg).1 (PySem.W.findObj_own hh ha rfl (by rw [hl, hv])) hv' h

theorem get_const {expr : Bool} {a : Value} {Q : Value → Shared → Prop} (X : K.In s.heap) (I : ObjM s.heap x dx C mA) (hg : PySem.W.plainGet K C name = true) (hh : PySem.W.hasDictIn K C = true)
    (ha : PySem.W.findIn K (.ref C) name = some (some a)) (hn : PySem.W.specialIn K a "__get__" = some none) (hc : PySem.W.copiedNames.contains name = false) (hv : mA name = none) (hv' : PySem.W.handedIn a = true)
    (h : Q a { s with toks := s.toks + 1 }) : wpAny (model prog w) A (getAttr (.ref x) name expr) Q E s := by
  obtain ⟨od, J, hl⟩ := I.look
  exact PySem.W.get_value X J (PySem.W.plainGet_of hg).1 (PySem.W.findObj_cls hh ha hn hv' hc (by rw [hl, hv])) hv' h

theorem get_meth {pl : Sem Bool} {Q : Value × List Value → Shared → Prop} (X : K.In s.heap) (I : ObjM s.heap x dx C mA) (hg : PySem.W.plainGet K C name = true)
    (hf : PySem.W.findIn K (.ref C) name = some (some (.ref f))) (ht : PySem.W.isFn K (.ref f) = true) (hv : mA name = none) (h : Q (.ref f, [.ref x]) s) :
    wpAny (model prog w) A (getMethod (.ref x) name pl) Q E s := by
  obtain ⟨od, J, hl⟩ := I.look
  exact PySem.W.method_fn X J (PySem.W.plainGet_of hg).1 (PySem.W.plainGet_of hg).2 hf (beq_iff_eq.mp ht) (by show (PySem.W.lookIn name od).map (·.isSome) = some false; rw [hl, hv]; rfl) h

theorem set_map {ns : List Str} {Q : Unit → Shared → Prop} (X : K.In s.heap) (I : ObjM s.heap x dx C mA)
    (hs : PySem.W.findIn K (.ref C) "__setattr__" = some (some (.builtin "object.__setattr__"))) (hp : PySem.W.plainOver K C = true) (ht : PySem.W.takerIn K C name = some none) (hh : PySem.W.hasDictIn K C = true)
    (hw : PySem.Within mA ns) (hsz : ns.length ≤ sizeLine)
    (h : ∀ h', ObjM h' x dx C (fun y => if y = name then some v else mA y) → Heap.SameBut dx s.heap h' → Q () { s with heap := h', toks := s.toks + 2 }) :
    wpAny (model prog w) A (setAttr (.ref x) name v) Q E s := by
  obtain ⟨od, J, hl⟩ := I.look
  refine PySem.W.set_plain X J hs (PySem.W.osa_open (s := { s with toks := s.toks + 1 }) (r := none) X J hp ht fun b => ?_)
  obtain ⟨cd, hc, hd'⟩ := PySem.W.any_some hh
  have hx : s.heap.get? x = some ⟨.ref C, some dx, .plain, #[]⟩ := I.obj
  refine wpAny_bind (wpAny_pure (wpAny_bind (wpAny_bind (wpAny_loadPart hx (wpAny_bind (PySem.W.Looks.here (s := { s with toks := s.toks + 1 }) (PySem.W.looks_clsIn X hc) ?_))))))
  rw [hd']
  refine wpAny_pure (a := some dx) (wpAny_bind (wpAny_pure (wpAny_bind ?_)))
  refine wpAny_nsSet1 (s := { s with toks := s.toks + 1 }) I.ns fun h' hn2 hs2 => ?_
  obtain ⟨oD, esD, epD, hoD, hdD, hcD⟩ := hn2.count (PySem.Within.cons name v hw)
  refine wpAny_bind (wpAny_lookBehind hoD (by rw [hdD]; exact pastItsLine_dict (Nat.le_trans hcD (by rw [List.length_cons]; omega))) ?_)
  exact wpAny_pure (h _ ⟨(hs2.2 _ (Ne.symm I.ne)).trans I.obj, hn2, I.ne⟩ hs2)

/-- C(..): the dict at the heap's end, the instance behind it; then its __init__ -/
theorem make_map {R : Result → Shared → Prop} {vs : List Value} {kw : List (Str × Value)} (X : K.In s.heap) (hm : PySem.W.makesIn K C = true)
    (hi : PySem.W.findIn K (.ref C) "__init__" = some (some (.ref f))) (hf : PySem.W.typeIn K (.ref f) = some (.type "function"))
    (h : codeAny (model prog w) (A.under (.builtin "type.__call__" ⟨.ref C :: vs, kw⟩)) (.call (.ref f) ⟨.ref (s.heap.objs.size + 1) :: vs, kw⟩) (PySem.W.InitBack (s.heap.objs.size + 1) R)
      { s with heap := (s.heap.push PySem.W.emptyDict).push (PySem.W.instObj C s.heap.objs.size) }) :
    codeAny (model prog w) A (.call (.ref C) ⟨vs, kw⟩) R s := by
  obtain ⟨hh, g, d, t, os⟩ := s
  exact PySem.W.make_core (PySem.W.makes_of X hm) (PySem.W.looks_findIn X hi) (fun self => PySem.W.bind_fn X self hf) (.inl rfl) h
/-- C() where there is no __init__ but object's -/
theorem make_map0 {R : Result → Shared → Prop} (X : K.In s.heap) (hm : PySem.W.makesIn K C = true)
    (hi : PySem.W.findIn K (.ref C) "__init__" = some (some (.builtin "object.__init__")))
    (hb : ∀ self, PySem.W.Looks (model prog w) s.heap (bindSpecial (.builtin "object.__init__") self) (.builtin "object.__init__", [self]))
    (h : codeAny (model prog w) (A.under (.builtin "type.__call__" ⟨[.ref C], []⟩)) (.call (.builtin "object.__init__") ⟨[.ref (s.heap.objs.size + 1)], []⟩) (PySem.W.InitBack (s.heap.objs.size + 1) R)
      { s with heap := (s.heap.push PySem.W.emptyDict).push (PySem.W.instObj C s.heap.objs.size) }) :
    codeAny (model prog w) A (.call (.ref C) ⟨[], []⟩) R s := by
  obtain ⟨hh, g, d, t, os⟩ := s
  exact PySem.W.make_core (PySem.W.makes_of X hm) (PySem.W.looks_findIn X hi) hb (.inr ⟨rfl, rfl⟩) h
end

/-! ### the attributes as a list of pairs -/
def putF (f : Str) (v : V) : List (Str × V) → List (Str × V)
  | [] => [(f, v)]
  | (g, x) :: r => if g = f then (g, v) :: r else (g, x) :: putF f v r
theorem lookup_putF (f g : Str) (v : V) : ∀ fs : List (Str × V), (putF f v fs).lookup g = if g = f then some v else fs.lookup g
  | [] => by
    show List.lookup g [(f, v)] = _
    by_cases h : g = f
    · have hb : (g == f) = true := beq_iff_eq.mpr h
      simp only [List.lookup, hb, if_pos h]
    · have hb : (g == f) = false := beq_eq_false_iff_ne.mpr h
      simp only [List.lookup, hb, if_neg h]
  | (k, x) :: r => by
    have ih := lookup_putF f g v r
    rw [show putF f v ((k, x) :: r) = (if k = f then (k, v) :: r else (k, x) :: putF f v r) from rfl]
    by_cases hk : k = f
    · rw [if_pos hk]
      by_cases h : g = k
      · have hb : (g == k) = true := beq_iff_eq.mpr h
        simp only [List.lookup, hb, if_pos (h.trans hk)]
      · have hb : (g == k) = false := beq_eq_false_iff_ne.mpr h
        simp only [List.lookup, hb, if_neg (fun e : g = f => h (e.trans hk.symm))]
    · rw [if_neg hk]
      by_cases h : g = k
      · have hb : (g == k) = true := beq_iff_eq.mpr h
        simp only [List.lookup, hb, if_neg (fun e : g = f => hk (h.symm.trans e))]
      · have hb : (g == k) = false := beq_eq_false_iff_ne.mpr h
        simp only [List.lookup, hb]
        exact ih
theorem keys_putF (f : Str) (v : V) : ∀ fs : List (Str × V), f ∈ (putF f v fs).map (·.1) ∧ ∀ g, g ∈ fs.map (·.1) → g ∈ (putF f v fs).map (·.1)
  | [] => ⟨by simp [putF], fun g h => by simp at h⟩
  | (k, x) :: r => by
    obtain ⟨i1, i2⟩ := keys_putF f v r
    rw [show putF f v ((k, x) :: r) = (if k = f then (k, v) :: r else (k, x) :: putF f v r) from rfl]
    by_cases hk : k = f
    · rw [if_pos hk]
      subst hk
      exact ⟨by simp, fun g h => by simpa using h⟩
    · rw [if_neg hk]
      refine ⟨?_, fun g h => ?_⟩
      · rw [List.map_cons]
        exact List.mem_cons_of_mem _ i1
      · rw [List.map_cons] at h ⊢
        rcases List.mem_cons.mp h with e | e
        · exact List.mem_cons.mpr (.inl e)
        · exact List.mem_cons_of_mem _ (i2 g e)
theorem length_putF (f : Str) (v : V) : ∀ fs : List (Str × V), (putF f v fs).length ≤ fs.length + 1
  | [] => by simp [putF]
  | (k, x) :: r => by
    have ih := length_putF f v r
    rw [show putF f v ((k, x) :: r) = (if k = f then (k, v) :: r else (k, x) :: putF f v r) from rfl]
    by_cases hk : k = f
    · rw [if_pos hk, List.length_cons, List.length_cons]; omega
    · rw [if_neg hk, List.length_cons, List.length_cons]; omega

theorem RelO.some_of {v : V} {o : Option Value} (r : RelO (some v) o) : ∃ u, o = some u ∧ RelV v u := by
  cases o with
  | none => exact (show False from r).elim
  | some u => exact ⟨u, rfl, r⟩
theorem RelO.none_of {o : Option Value} (r : RelO none o) : o = none := by
  cases o with
  | none => rfl
  | some u => exact (show False from r).elim
theorem handed_of {v : V} {u : Value} (r : RelV v u) : PySem.W.handedIn u = true := by
  cases v with
  | non => cases (show u = Value.none from r); rfl
  | bl b => cases (show u = Value.bool b from r); rfl
  | int i => obtain ⟨t, e⟩ := (show ∃ t, u = Value.int i t from r); cases e; rfl
  | str x => obtain ⟨t, e⟩ := (show ∃ t, u = Value.str x t from r); cases e; rfl
  | byt b => obtain ⟨t, e⟩ := (show ∃ t, u = Value.bytes b t from r); cases e; rfl
  | flt b => obtain ⟨t, e⟩ := (show ∃ t, u = Value.float b t from r); cases e; rfl
  | ref a => cases (show u = Value.ref a from r); rfl
  | ty n => cases (show u = Value.type n from r); rfl

section
variable {P : Program} {w : World} {H H' : Hp} {h h' : Heap} {a C dx : Addr} {fs fs' : List (Str × V)}
theorem ins_get (hok : HOk P w H h) (e : H a = some (.ins C dx fs)) : ∃ mA, ObjM h a dx C mA ∧ (∀ f, RelO (fs.lookup f) (mA f)) ∧ PySem.Within mA (fs.map (·.1)) ∧ fs.length ≤ 1000 ∧ H dx = some (.own a) := by
  obtain ⟨d, z, ne, ob, mA, n, r, q⟩ := (show ObjOk P w H h a (.ins C dx fs) from hok a _ e)
  exact ⟨mA, ⟨ob, n, ne⟩, r, q, z, d⟩
end

/-! ### what of the text a class must have -/
structure Cls (K : PySem.W.Frag) (C : Addr) : Prop where
  pg : PySem.W.plainGet K C Str.empty = true
  hd : PySem.W.hasDictIn K C = true
  po : PySem.W.plainOver K C = true
  sa : PySem.W.findIn K (.ref C) "__setattr__" = some (some (.builtin "object.__setattr__"))
theorem Cls.get {K : PySem.W.Frag} {C : Addr} (c : Cls K C) (f : Str) : PySem.W.plainGet K C f = true := c.pg
/-- no class of it has the name -/
def NoAttr (K : PySem.W.Frag) (C : Addr) (f : Str) : Prop := PySem.W.findIn K (.ref C) f = some none
theorem NoAttr.taker {K : PySem.W.Frag} {C : Addr} {f : Str} (n : NoAttr K C f) : PySem.W.takerIn K C f = some none := by
  unfold PySem.W.takerIn
  rw [show PySem.W.findIn K (.ref C) f = some none from n]
  rfl
/-- a constant of the class -/
structure Con (K : PySem.W.Frag) (C : Addr) (f : Str) (v : V) (u : Value) : Prop where
  at_ : PySem.W.findIn K (.ref C) f = some (some u)
  rel : RelV v u
  get : PySem.W.specialIn K u "__get__" = some none
  cp : PySem.W.copiedNames.contains f = false
/-- a method: a plain def of the class or of one above it -/
structure Meth (K : PySem.W.Frag) (C : Addr) (m : Str) (f : Addr) : Prop where
  at_ : PySem.W.findIn K (.ref C) m = some (some (.ref f))
  fn : PySem.W.isFn K (.ref f) = true
  kp : PySem.W.keepIn K (.ref f) = true

section
variable {X : Cx} {pins : List (Addr × Obj)} {σ : St} {H : Hp} {s : Shared} {a C dx : Addr} {fs : List (Str × V)} {f : Str} {v : V} {A : Around} {E : Value → Shared → Prop}

theorem getattr_ok {b : Bool} {Q : Value → Shared → Prop} (I : Inv X pins σ H s) (e : H a = some (.ins C dx fs)) (c : Cls X.K C) (n : NoAttr X.K C f) (l : fs.lookup f = some v)
    (h : ∀ u s', Inv X pins σ H s' → RelV v u → Q u s') : wpAny (model X.prog X.w) A (getAttr (.ref a) f b) Q E s := by
  obtain ⟨mA, O, r, _, _, _⟩ := ins_get I.hok e
  obtain ⟨u, hu, ru⟩ := RelO.some_of (v := v) (o := mA f) (by rw [← l]; exact r f)
  exact get_map I.kIn O (c.get f) c.hd n hu (handed_of ru) (h u _ (I.tok _) ru)

theorem getcon_ok {b : Bool} {u : Value} {Q : Value → Shared → Prop} (I : Inv X pins σ H s) (e : H a = some (.ins C dx fs)) (c : Cls X.K C) (k : Con X.K C f v u) (l : fs.lookup f = none)
    (h : ∀ s', Inv X pins σ H s' → Q u s') : wpAny (model X.prog X.w) A (getAttr (.ref a) f b) Q E s := by
  obtain ⟨mA, O, r, _, _, _⟩ := ins_get I.hok e
  have hn : mA f = none := RelO.none_of (by rw [← l]; exact r f)
  exact get_const I.kIn O (c.get f) c.hd k.at_ k.get k.cp hn (handed_of k.rel) (h _ (I.tok _))

theorem getmeth_ok {m : Str} {g : Addr} {pl : Sem Bool} {Q : Value × List Value → Shared → Prop} (I : Inv X pins σ H s) (e : H a = some (.ins C dx fs)) (c : Cls X.K C) (k : Meth X.K C m g) (l : fs.lookup m = none)
    (h : Q (.ref g, [.ref a]) s) : wpAny (model X.prog X.w) A (getMethod (.ref a) m pl) Q E s := by
  obtain ⟨mA, O, r, _, _, _⟩ := ins_get I.hok e
  have hn : mA m = none := RelO.none_of (by rw [← l]; exact r m)
  exact get_meth I.kIn O (c.get m) k.at_ k.fn hn h

theorem setattr_ok {y : V} {u : Value} {Q : Unit → Shared → Prop} (I : Inv X pins σ H s) (e : H a = some (.ins C dx fs)) (c : Cls X.K C) (n : NoAttr X.K C f) (hl : fs.length < 1000) (ry : RelV y u)
    (h : ∀ s', Inv X pins σ (upd H a (.ins C dx (putF f y fs))) s' → Q () s') : wpAny (model X.prog X.w) A (setAttr (.ref a) f u) Q E s := by
  obtain ⟨mA, O, r, wi, _, ho⟩ := ins_get I.hok e
  have hz : (fs.map (·.1)).length ≤ sizeLine := by rw [List.length_map, sizeLine_eq]; omega
  refine set_map I.kIn O c.sa c.po n.taker c.hd wi hz fun h' O' sb => h _ ?_
  have hd : ∃ o, h'.get? dx = some o := let ⟨o, _, _, e', _⟩ := O'.ns; ⟨o, e'⟩
  refine I.write (x := a) (e := dx) (by rw [e]; exact True.intro) (.inr ho) (fun b q hb z => (sb.2 b hb).trans z) hd ?_
  refine ⟨by rw [upd_ne O.ne]; exact ho, ?_, O.ne, O'.obj, _, O'.ns, fun g => ?_, fun g hg => ?_⟩
  · have := length_putF f y fs; omega
  · show RelO ((putF f y fs).lookup g) (if g = f then some u else mA g)
    rw [lookup_putF]
    by_cases q : g = f
    · rw [if_pos q, if_pos q]; exact ry
    · rw [if_neg q, if_neg q]; exact r g
  · by_cases q : g = f
    · rw [q]; exact (keys_putF f y fs).1
    · refine (keys_putF f y fs).2 g (wi g fun z => hg ?_)
      show (if g = f then some u else mA g) = none
      rw [if_neg q]; exact z

/-- a new instance, tracked, without attributes -/
theorem Inv.made (I : Inv X pins σ H s) : Inv X pins σ (upd (upd H s.heap.objs.size (.own (s.heap.objs.size + 1))) (s.heap.objs.size + 1) (.ins C s.heap.objs.size []))
    { s with heap := (s.heap.push PySem.W.emptyDict).push (PySem.W.instObj C s.heap.objs.size) } := by
  have e1 : (s.heap.push PySem.W.emptyDict).get? s.heap.objs.size = some PySem.W.emptyDict := Heap.get?_push_size s.heap rfl
  have e2 : ((s.heap.push PySem.W.emptyDict).push (PySem.W.instObj C s.heap.objs.size)).get? (s.heap.objs.size + 1) = some (PySem.W.instObj C s.heap.objs.size) := by
    have := Heap.get?_push_size (s.heap.push PySem.W.emptyDict) (o := PySem.W.instObj C s.heap.objs.size) rfl
    rwa [Heap.size_push] at this
  have e3 : (s.heap.push PySem.W.emptyDict).Ns s.heap.objs.size (fun _ => none) := ⟨PySem.W.emptyDict, #[], _, e1, rfl, (fun e he => absurd he (by simp)), fun _ => rfl⟩
  have I1 := I.laid (a := s.heap.objs.size) (o := .own (s.heap.objs.size + 1)) (h' := s.heap.push PySem.W.emptyDict) (t' := s.toks) (fun b u q => Heap.get?_push_of_some _ q) (Nat.le_refl _) ⟨_, e1⟩
  refine I1.laid (a := s.heap.objs.size + 1) (o := .ins C s.heap.objs.size []) (t' := s.toks) (fun b u q => Heap.get?_push_of_some _ q) (Nat.le_of_eq (Heap.size_push _ _)) ?_
  have ne : s.heap.objs.size ≠ s.heap.objs.size + 1 := Nat.ne_of_lt (Nat.lt_succ_self _)
  refine ⟨by rw [upd_ne ne, upd_same], Nat.zero_le _, ne, e2, fun _ => none, (Heap.Ns1.of_empty e3).at fun o q => Heap.get?_push_of_some _ q, fun _ => True.intro, fun y hy => absurd rfl hy⟩

/-- e.f where nothing but the object is asked: through attributeBase (super) and the last hold -/
theorem attr_of {prog : Program} {w : World} {env : Env} {e : Expr} {f : Str} {pos : Pos} {s : Shared} {Q : Value → Shared → Prop} (hb : attributeBase e f env (eval e env) = eval e env)
    (h : wpAny (model prog w) A (eval e env) (fun o s₁ => wpAny (model prog w) A (getAttr o f true) Q E s₁) E s) : wpAny (model prog w) A (eval (.Attribute e f pos) env) Q E s :=
  Attribute_any_ h (by rw [arm_eval_Attribute, hb])
end

/-! ### readings and rules -/
/-- e.f, an attribute of the instance -/
def tFld (K : PySem.W.Frag) (ta : TE) (f : Str) : TE := fun σ H Q => ta σ H fun x H1 => ∃ a C dx fs v, x = .ref a ∧ H1 a = some (.ins C dx fs) ∧ Cls K C ∧ NoAttr K C f ∧ fs.lookup f = some v ∧ Q v H1
/-- e.f, a constant of the class -/
def tCon (K : PySem.W.Frag) (ta : TE) (f : Str) : TE := fun σ H Q => ta σ H fun x H1 => ∃ a C dx fs v u, x = .ref a ∧ H1 a = some (.ins C dx fs) ∧ Cls K C ∧ Con K C f v u ∧ fs.lookup f = none ∧ Q v H1
/-- e.f = value -/
def sFld (K : PySem.W.Frag) (ta tv : TE) (f : Str) : TS := fun D σ H => tv σ H fun y H1 => ta σ H1 fun x H2 => ∃ a C dx fs, x = .ref a ∧ H2 a = some (.ins C dx fs) ∧ Cls K C ∧ NoAttr K C f ∧ fs.length < 1000 ∧
  D.nx σ (upd H2 a (.ins C dx (putF f y fs)))
/-- an augmented operator on two values -/
def InOp (X : Cx) (op : Operator) (rd : V → V → Hp → VK → Prop) : Prop :=
  ∀ (pins : List (Addr × Obj)) (s : Shared) (σ : St) (H : Hp) (x y : V) (u v : Value) (Q : VK), Inv X pins σ H s → RelV x u → RelV y v → rd x y H Q → wpAny (model X.prog X.w) X.A (inplaceOp op u v) (EP X pins σ Q) X.xe s
/-- e.f op= value -/
def sFldAug (K : PySem.W.Frag) (ta tv : TE) (rd : V → V → Hp → VK → Prop) (f : Str) : TS := fun D σ H => ta σ H fun x H1 => ∃ a C dx fs v, x = .ref a ∧ H1 a = some (.ins C dx fs) ∧ Cls K C ∧ NoAttr K C f ∧ fs.lookup f = some v ∧
  tv σ H1 fun y H2 => rd v y H2 fun z H3 => ∃ dx' fs', H3 a = some (.ins C dx' fs') ∧ fs'.length < 1000 ∧ D.nx σ (upd H3 a (.ins C dx' (putF f z fs')))

section
variable {X : Cx} {o e value : Expr} {f : Str} {pos pos' tpos : Pos} {ta tv : TE}
theorem pe_fld (he : PE X e ta) (hb : attributeBase e f X.env (eval e X.env) = eval e X.env) : PE X (.Attribute e f pos) (tFld X.K ta f) := by
  intro pins s σ H Q I h
  refine attr_of hb (thn (he pins s σ H _ I h) fun u s1 ⟨x, H1, I1, rx, a, C, dx, fs, v, ex, ea, c, n, l, q⟩ => ?_)
  subst ex
  obtain rfl : u = Value.ref a := rx
  exact getattr_ok I1 ea c n l fun u' s2 I2 ru => ⟨v, H1, I2, ru, q⟩
theorem pe_con (he : PE X e ta) (hb : attributeBase e f X.env (eval e X.env) = eval e X.env) : PE X (.Attribute e f pos) (tCon X.K ta f) := by
  intro pins s σ H Q I h
  refine attr_of hb (thn (he pins s σ H _ I h) fun u s1 ⟨x, H1, I1, rx, a, C, dx, fs, v, u0, ex, ea, c, k, l, q⟩ => ?_)
  subst ex
  obtain rfl : u = Value.ref a := rx
  exact getcon_ok I1 ea c k l fun s2 I2 => ⟨v, H1, I2, k.rel, q⟩
theorem ps_fld (ha : PE X o ta) (hv : PE X value tv) (hs : swapsWith value (some (.Attribute o f pos')) pos.line X.env = pure false) : PS X (.Assign [.Attribute o f pos'] value pos) (sFld X.K ta tv f) := by
  intro pins s σ H D I h
  refine plainObj_wpAny_Assign_Attribute (thn (hv pins s σ H _ I h) fun u s1 ⟨y, H1, I1, ry, q⟩ => thn (ha pins s1 σ H1 _ I1 q) fun ov s2 ⟨x, H2, I2, rx, a, C, dx, fs, ex, ea, c, n, l, q2⟩ => ?_) hs
  subst ex
  obtain rfl : ov = Value.ref a := rx
  exact setattr_ok I2 ea c n l ry fun s3 I3 => ⟨σ, _, I3, q2⟩
theorem ps_fldaug {op : Operator} {rd : V → V → Hp → VK → Prop} (ha : PE X o ta) (hv : PE X value tv) (hop : InOp X op rd) : PS X (.AugAssign (.Attribute o f tpos) op value pos) (sFldAug X.K ta tv rd f) := by
  intro pins s σ H D I h
  refine wpAny_AugAssign_AttributeAny (thn (ha pins s σ H _ I h) fun ov s1 ⟨x, H1, I1, rx, a, C, dx, fs, v, ex, ea, c, n, l, q⟩ => ?_)
  subst ex
  obtain rfl : ov = Value.ref a := rx
  refine getattr_ok I1 ea c n l fun u s2 I2 ru => thn (hv pins s2 σ H1 _ I2 q) fun w3 s3 ⟨y, H2, I3, ry, q3⟩ => thn (hop pins s3 σ H2 v y u w3 _ I3 ru ry q3) fun w4 s4 ⟨z, H3, I4, rz, dx', fs', ea', l', q4⟩ => ?_
  exact setattr_ok I4 ea' c n l' rz fun s5 I5 => ⟨σ, _, I5, q4⟩
def rAdd : V → V → Hp → VK → Prop := fun x y H Q => ∃ i j, x = .int i ∧ y = .int j ∧ Q (.int (i + j)) H
def rSub : V → V → Hp → VK → Prop := fun x y H Q => ∃ i j, x = .int i ∧ y = .int j ∧ Q (.int (i - j)) H
theorem in_add : InOp X .Add rAdd := by
  rintro pins s σ H x y u v Q I rx ry ⟨i, j, rfl, rfl, q⟩
  obtain ⟨t, rfl⟩ := (show ∃ t, u = Value.int i t from rx)
  obtain ⟨t', rfl⟩ := (show ∃ t', v = Value.int j t' from ry)
  exact PyProof.Rows.iadd_int ⟨.int (i + j), H, I.tok _, ⟨_, rfl⟩, q⟩
theorem in_sub : InOp X .Sub rSub := by
  rintro pins s σ H x y u v Q I rx ry ⟨i, j, rfl, rfl, q⟩
  obtain ⟨t, rfl⟩ := (show ∃ t, u = Value.int i t from rx)
  obtain ⟨t', rfl⟩ := (show ∃ t', v = Value.int j t' from ry)
  exact PyProof.Rows.isub_int ⟨.int (i - j), H, I.tok _, ⟨_, rfl⟩, q⟩

/-- what is between an instance and its method: the tree of a method call -/
theorem methcall_of {pl : Sem Bool} {m : Str} {apos : Pos} {args : List Expr} {pins : List (Addr × Obj)} {s : Shared} {σ : St} {H : Hp} {Q : Value → Shared → Prop} {te : TE} (he : PE X e te) (I : Inv X pins σ H s)
    (h : te σ H fun x H1 => ∃ a C dx fs g, x = .ref a ∧ H1 a = some (.ins C dx fs) ∧ Cls X.K C ∧ Meth X.K C m g ∧ fs.lookup m = none ∧
      ∀ s1, Inv X pins σ H1 s1 → wpAny (model X.prog X.w) X.A (callWith pos (.ref g) [.ref a] (backTo pos (starEach args X.env)) (backToKw pos (keywordEach [] X.env))) Q X.xe s1)
    (ht : eval (.Call (.Attribute e m apos) args [] pos) X.env = (do
      let ov ← eval e X.env
      standAt apos.atName
      let (f, first) ← holding [ov] (getMethod ov m pl)
      callWith pos f first (backTo pos (starEach args X.env)) (backToKw pos (keywordEach [] X.env)))) :
    wpAny (model X.prog X.w) X.A (eval (.Call (.Attribute e m apos) args [] pos) X.env) Q X.xe s := by
  refine PySem.W.methodCall_KW (pl := pl) (thn (he pins s σ H _ I h) fun u s1 ⟨x, H1, I1, rx, a, C, dx, fs, g, ex, ea, c, k, l, q⟩ => ?_) ht
  subst ex
  obtain rfl : u = Value.ref a := rx
  exact getmeth_ok I1 ea c k l (q s1 I1)
end

/-! ### isinstance -/
section
variable {X : Cx} {pins : List (Addr × Obj)} {σ : St} {H : Hp} {s : Shared} {A : Around} {E : Value → Shared → Prop} {Q : Value → Shared → Prop} {c : Value} {b : Bool}
/-- the type of a value, as the fragment's deciders take it; for an instance its class -/
inductive TyOf (K : PySem.W.Frag) (H : Hp) : V → Value → Prop where
  | non : TyOf K H .non (.type "NoneType")
  | bl (x : Bool) : TyOf K H (.bl x) (.type "bool")
  | int (i : Int) : TyOf K H (.int i) (.type "int")
  | str (x : Str) : TyOf K H (.str x) (.type "str")
  | flt (x : UInt64) : TyOf K H (.flt x) (.type "float")
  | lst {a : Addr} {xs : List V} (e : H a = some (.lst xs)) : TyOf K H (.ref a) (.type "list")
  | frz {a : Addr} {o : Obj} {xs : List V} (e : H a = some (.frz o (.lst xs))) : TyOf K H (.ref a) (.type "list")
  | tup {a : Addr} {xs : List V} (e : H a = some (.tup xs)) : TyOf K H (.ref a) (.type "tuple")
  | dK {a : Addr} {kvs : List (Key × V)} (e : H a = some (.dK kvs)) : TyOf K H (.ref a) (.type "dict")
  | dT {a : Addr} {kvs : List (List Key × V)} (e : H a = some (.dT kvs)) : TyOf K H (.ref a) (.type "dict")
  | ins {a C dx : Addr} {fs : List (Str × V)} (e : H a = some (.ins C dx fs)) (cl : Cls K C) (ha : PySem.W.findIn K (.ref C) "__class__" = some (some (.builtin "object.__class__")))
      (hn : PySem.W.specialIn K (.builtin "object.__class__") "__get__" = some (some (.builtin "getset_descriptor.__get__"))) (htk : PySem.W.takesIn K (.builtin "object.__class__") = some true)
      (hm : PySem.W.mroIn K C (.type "object") = some true) : TyOf K H (.ref a) (.ref C)
/-- isinstance(x, c) for one class c, a built-in or an own one: kitOne's answer -/
theorem isinst_ok {x : V} {u t : Value} (I : Inv X pins σ H s) (rx : RelV x u) (ty : TyOf X.K H x t) (e : PySem.W.kitOne X.K t c = some b) (h : ∀ tk, Q (.bool b) { s with toks := tk }) :
    wpAny (model X.prog X.w) A (call (.builtin "isinstance") [u, c]) Q E s := by
  cases ty with
  | non => cases (show u = Value.none from rx); exact PySem.W.kia_one PySem.W.kitx_none I.kIn True.intro e (fun z => nomatch z) h
  | bl y => cases (show u = Value.bool y from rx); exact PySem.W.kia_one PySem.W.kitx_bool I.kIn True.intro e (fun z => nomatch z) h
  | int i => obtain ⟨t, q⟩ := (show ∃ t, u = Value.int i t from rx); cases q; exact PySem.W.kia_one PySem.W.kitx_int I.kIn True.intro e (fun z => nomatch z) h
  | str y => obtain ⟨t, q⟩ := (show ∃ t, u = Value.str y t from rx); cases q; exact PySem.W.kia_one PySem.W.kitx_str I.kIn True.intro e (fun z => nomatch z) h
  | flt y => obtain ⟨t, q⟩ := (show ∃ t, u = Value.float y t from rx); cases q; exact PySem.W.kia_one PySem.W.kitx_float I.kIn True.intro e (fun z => nomatch z) h
  | @lst a xs ea =>
    cases (show u = Value.ref a from rx)
    obtain ⟨_, _, n, _, h1⟩ := (show ObjOk X.prog X.w H s.heap a (.lst xs) from I.hok a _ ea)
    exact PySem.W.kia_one PySem.W.kitx_list I.kIn ⟨_, h1, rfl⟩ e (fun z => nomatch z) h
  | @frz a ob xs ea =>
    cases (show u = Value.ref a from rx)
    obtain ⟨_, _, _, n, _, h1⟩ := (show ObjOk X.prog X.w H s.heap a (.frz ob (.lst xs)) from I.hok a _ ea)
    exact PySem.W.kia_one PySem.W.kitx_list I.kIn ⟨_, h1, rfl⟩ e (fun z => nomatch z) h
  | @tup a xs ea =>
    cases (show u = Value.ref a from rx)
    obtain ⟨_, _, _, p⟩ := (show ObjOk X.prog X.w H s.heap a (.tup xs) from I.hok a _ ea)
    obtain ⟨o, h1, h2, _⟩ := p
    exact PySem.W.kia_one PySem.W.kitx_tuple I.kIn ⟨o, h1, h2⟩ e (fun z => nomatch z) h
  | @dK a kvs ea =>
    cases (show u = Value.ref a from rx)
    obtain ⟨_, _, vs, _, p⟩ := (show ObjOk X.prog X.w H s.heap a (.dK kvs) from I.hok a _ ea)
    obtain ⟨o, es, ep, h1, h2, _⟩ := p
    exact PySem.W.kia_one PySem.W.kitx_dict I.kIn ⟨o, h1, h2.1⟩ e (fun z => nomatch z) h
  | @dT a kvs ea =>
    cases (show u = Value.ref a from rx)
    obtain ⟨_, _, xs, _, o, es, ep, h1, h2, _⟩ := (show ObjOk X.prog X.w H s.heap a (.dT kvs) from I.hok a _ ea)
    exact PySem.W.kia_one PySem.W.kitx_dict I.kIn ⟨o, h1, h2.1⟩ e (fun z => nomatch z) h
  | @ins a C dx fs ea cl ha hn htk hm =>
    cases (show u = Value.ref a from rx)
    obtain ⟨mA, O, _⟩ := ins_get I.hok ea
    obtain ⟨od, J, _⟩ := O.look
    exact PySem.W.kia_one (PySem.W.kitx_own (cl.get _) cl.hd ha hn htk hm) I.kIn J e (fun z => nomatch z) h
end
end L2

namespace L2
open PySem PySem.Spec PyProof.Rows

/-! ### room -/
structure Room (k : Nat) (A : Around) : Prop where
  hd : A.handled = none
  dp : A.depth + 3 * k + 5 < recursionLimit
  un : A.units + 16 * k + 200 < cLine
theorem Room.mono {j k : Nat} {A : Around} (r : Room k A) (h : j ≤ k) : Room j A := ⟨r.hd, by have := r.dp; omega, by have := r.un; omega⟩
theorem Room.deeper {k : Nat} {A : Around} (r : Room (k + 1) A) (env : Env) : Room k (A.deeper env) :=
  ⟨r.hd, by have := r.dp; show A.depth + 1 + 3 * k + 5 < _; omega, by have := r.un; show A.units + 3 + 16 * k + 200 < _; omega⟩
theorem Room.in1 {k : Nat} {A : Around} (r : Room (k + 1) A) : Room k A.in1 :=
  ⟨r.hd, by have := r.dp; show A.depth + 3 * k + 5 < _; omega, by have := r.un; show A.units + 1 + 16 * k + 200 < _; omega⟩
theorem make_depth {A : Around} {C : Addr} {us : List Value} {kw : List (Str × Value)} : (A.under (.builtin "type.__call__" ⟨.ref C :: us, kw⟩)).depth = A.depth + 1 := by
  first | rfl | simp [Around.under, Code.weight, Code.isCreation, Code.isGuard, Code.isCaller, Code.frames, Code.isFrame, guardIds]
theorem make_units {A : Around} {C : Addr} {us : List Value} {kw : List (Str × Value)} : (A.under (.builtin "type.__call__" ⟨.ref C :: us, kw⟩)).units = A.units + 1 := by
  first | rfl | simp [Around.under, Code.cUnits, Code.frames, Code.isFrame]
theorem Room.make {k : Nat} {A : Around} (r : Room (k + 1) A) (C : Addr) (us : List Value) (kw : List (Str × Value)) : Room k (A.under (.builtin "type.__call__" ⟨.ref C :: us, kw⟩)) :=
  ⟨r.hd, by have := r.dp; rw [make_depth]; omega, by have := r.un; rw [make_units]; omega⟩
theorem Room.depth {k : Nat} {A : Around} (r : Room k A) : A.depth < recursionLimit := by have := r.dp; omega
theorem Room.units {k : Nat} {A : Around} (r : Room k A) : A.units + 64 < cLine := by have := r.un; omega
theorem Room.units0 {k : Nat} {A : Around} (r : Room k A) : A.units < cLine := by have := r.un; omega

/-! ### argument lists and displays -/
def tNil : TA := fun _ H Q => Q [] H
def tCons (ta : TE) (tr : TA) : TA := fun σ H Q => ta σ H fun x H1 => tr σ H1 fun xs H2 => Q (x :: xs) H2
section
variable {X : Cx} {e : Expr} {es : List Expr} {te : TE} {t : TA} {pos : Pos}
theorem pa_nil : PA X [] tNil := fun _ _ _ _ H Q I h => Calls.spliced_nil ⟨[], H, I, .nil, h⟩
theorem pa_cons (ha : PE X e te) (hr : PA X es t) (hs : starEach (e :: es) X.env = (false, eval e X.env) :: starEach es X.env := by rfl) : PA X (e :: es) (tCons te t) := by
  intro pos pins s σ H Q I h
  rw [hs]
  show wpAny _ _ (spliced ((false, eval e X.env) :: backTo pos (starEach es X.env))) _ _ s
  refine Calls.spliced_cons (thn (ha pins s σ H _ I h) fun u s1 ⟨x, H1, I1, r1, q1⟩ => ?_)
  exact thn (hr pos pins s1 σ H1 _ I1 q1) fun us s2 ⟨xs, H2, I2, r2, q2⟩ => ⟨x :: xs, H2, I2, .cons r1 r2, q2⟩

/-- a tuple, a list of written items -/
def tTup (t : TA) : TE := fun σ H Q => t σ H fun xs H1 => xs.length ≤ sizeLine ∧ ∀ p, H1 p = none → Q (.ref p) (upd H1 p (.tup xs))
def tLst (t : TA) : TE := fun σ H Q => t σ H fun xs H1 => xs.length ≤ sizeLine ∧ ∀ p, H1 p = none → Q (.ref p) (upd H1 p (.lst xs))
theorem pe_tup {x1} (h : PA X es t) : PE X (.Tuple es x1 pos) (tTup t) := by
  intro pins s σ H Q I hq
  refine wpAny_Tuple_spliced (thn (h pos pins s σ H _ I hq) fun us s1 ⟨xs, H1, I1, r, z, q⟩ => ⟨by rw [← r.length]; exact z, ?_⟩)
  have hf : H1 s1.heap.objs.size = none := I1.hok.fresh (Nat.le_refl _)
  refine ⟨.ref s1.heap.objs.size, upd H1 s1.heap.objs.size (.tup xs), I1.laid (t' := s1.toks) (fun b u e => Heap.get?_push_of_some _ e) (Nat.le_refl _) ?_, rfl, q _ hf⟩
  exact ⟨z, us, r, ⟨_, Heap.get?_push_size _ rfl, rfl, _, rfl⟩⟩
theorem pe_lst (h : PA X es t) : PE X (.List es pos) (tLst t) := by
  intro pins s σ H Q I hq
  refine wpAny_List_spliced (thn (h pos pins s σ H _ I hq) fun us s1 ⟨xs, H1, I1, r, z, q⟩ => ⟨by rw [← r.length]; exact z, ?_⟩)
  have hf : H1 s1.heap.objs.size = none := I1.hok.fresh (Nat.le_refl _)
  refine ⟨.ref s1.heap.objs.size, upd H1 s1.heap.objs.size (.lst xs), I1.laid (t' := s1.toks) (fun b u e => Heap.get?_push_of_some _ e) (Nat.le_refl _) ?_, rfl, q _ hf⟩
  exact ⟨z, us, 0, r, Heap.get?_push_size _ rfl⟩
end

/-! ### what a def promises -/
/-- a def's promise: the bound arguments in the parameters' order, the heap, the wanted end, the wanted exception -/
abbrev Sp := List V → Hp → VK → XK → Prop
/-- how an exception lies behind a call (file 08 gives it): the callers' frames, abstract heap and state ahead of the call, the wish, the exception, the state -/
abbrev CXT := List Env → Hp → Shared → XK → Value → Shared → Prop

/-- the state at a call -/
structure Env0 (P : Program) (w : World) (K : PySem.W.Frag) (mg : Str → Option Value) (base : Heap) (A : Around) (outer : List Env) (s : Shared) (H : Hp) : Prop where
  frames : A.frames = some outer
  mod : Mod K mg base
  bs : ∀ b o, base.get? b = some o → s.heap.get? b = some o ∧ H b = none
  bsz : base.objs.size ≤ s.heap.objs.size
  funs : s.heap.FunFrames base outer
  frf : ∀ b ∈ frs outer, H b = none
  hok : HOk P w H s.heap
  bare : AllBare s.gens
/-- a call's end -/
def CE (outer : List Env) (P : Program) (w : World) (H : Hp) (s : Shared) (Q : VK) (u : Value) (s' : Shared) : Prop :=
  ∃ v H', s'.os = s.os ∧ AllBare s'.gens ∧ Un (frs outer) [] H H' s.heap s'.heap ∧ HOk P w H' s'.heap ∧ RelV v u ∧ Q v H'
def CR (CX : CXT) (outer : List Env) (P : Program) (w : World) (H : Hp) (s : Shared) (Q : VK) (E : XK) (r : Result) (s' : Shared) : Prop :=
  match r with
  | .ok (.ret u) => CE outer P w H s Q u s'
  | .ok _ => False
  | .error e => CX outer H s E e s'
structure FnOk (P : Program) (w : World) (K : PySem.W.Frag) (mg : Str → Option Value) (base : Heap) (CX : CXT) (k : Nat) (f : Addr) (fd : FuncData) (ps : List Str) (sp : Sp) : Prop where
  len : ∀ vs H Q E, sp vs H Q E → vs.length = ps.length
  run : ∀ (A : Around) (outer : List Env) (s : Shared) (H : Hp) (args : Args) (us : List Value) (vs : List V) (Q : VK) (E : XK), Room k A → Env0 P w K mg base A outer s H → BindsTo s fd args (ps.zip us) → Vals vs us → sp vs H Q E →
    codeAny (model P w) A (.call (.ref f) args) (CR CX outer P w H s Q E) s
theorem FnOk.mono {P : Program} {w : World} {K : PySem.W.Frag} {mg : Str → Option Value} {base : Heap} {CX : CXT} {j k : Nat} {f : Addr} {fd : FuncData} {ps : List Str} {sp : Sp} (F : FnOk P w K mg base CX j f fd ps sp) (h : j ≤ k) :
    FnOk P w K mg base CX k f fd ps sp := ⟨F.len, fun A outer s H args us vs Q E hr => F.run A outer s H args us vs Q E (hr.mono h)⟩
/-- a weaker promise -/
theorem FnOk.imp {P : Program} {w : World} {K : PySem.W.Frag} {mg : Str → Option Value} {base : Heap} {CX : CXT} {k : Nat} {f : Addr} {fd : FuncData} {ps : List Str} {sp sp' : Sp} (F : FnOk P w K mg base CX k f fd ps sp)
    (h : ∀ vs H Q E, sp' vs H Q E → sp vs H Q E) : FnOk P w K mg base CX k f fd ps sp' :=
  ⟨fun vs H Q E q => F.len vs H Q E (h _ _ _ _ q), fun A outer s H args us vs Q E hr he hb hv hs => F.run A outer s H args us vs Q E hr he hb hv (h _ _ _ _ hs)⟩

theorem Env0.make {P : Program} {w : World} {K : PySem.W.Frag} {mg : Str → Option Value} {base : Heap} {A : Around} {outer : List Env} {s : Shared} {H : Hp} (e : Env0 P w K mg base A outer s H) (C : Addr) (us : List Value) (kw : List (Str × Value)) :
    Env0 P w K mg base (A.under (.builtin "type.__call__" ⟨.ref C :: us, kw⟩)) outer s H := ⟨by first | exact e.frames | (simpa [Around.under, Code.envs, Code.isFrame, pushEnvs] using e.frames), e.mod, e.bs, e.bsz, e.funs, e.frf, e.hok, e.bare⟩
theorem Env0.in1 {P : Program} {w : World} {K : PySem.W.Frag} {mg : Str → Option Value} {base : Heap} {A : Around} {outer : List Env} {s : Shared} {H : Hp} (e : Env0 P w K mg base A outer s H) :
    Env0 P w K mg base A.in1 outer s H := ⟨e.frames, e.mod, e.bs, e.bsz, e.funs, e.frf, e.hok, e.bare⟩

section
variable {X : Cx} {pins : List (Addr × Obj)} {σ : St} {H : Hp} {s s' : Shared}
/-- from a body: what a callee wants -/
theorem Inv.env0 (I : Inv X pins σ H s) : Env0 X.prog X.w X.K X.mg X.base X.A X.stack s H :=
  ⟨I.ok.frames, I.ok.mod, I.bs, Nat.le_trans I.ok.bsz I.sz, I.stack, I.stkFree, I.hok, I.bare⟩
/-- behind a call -/
theorem Inv.after {Q : VK} {u : Value} (I : Inv X pins σ H s) (h : CE X.stack X.prog X.w H s Q u s') : EP X pins σ Q u s' := by
  obtain ⟨v, H', os, bare, un, hok, r, q⟩ := h
  obtain ⟨hh, g, d, t, os'⟩ := s'
  obtain rfl : os' = s.os := os
  exact ⟨v, H', I.call (h' := hh) (g' := g) (d' := d) (t' := t) (ch := []) un hok bare (fun b z => absurd z (by simp)), r, q⟩
end

/-! ### calls -/
/-- f(..): the written arguments, then the defaults dvs; E: what is wanted of an exception -/
def tCall (sp : Sp) (dvs : List V) (E : XK) (t : TA) : TE := fun σ H Q => t σ H fun vs H1 => sp (vs ++ dvs) H1 Q E
/-- o.m(..) of an instance of the class at C -/
def tMeth (C : Addr) (m : Str) (sp : Sp) (dvs : List V) (E : XK) (ta : TE) (t : TA) : TE := fun σ H Q => ta σ H fun x H1 => ∃ a dx fs, x = .ref a ∧ H1 a = some (.ins C dx fs) ∧ fs.lookup m = none ∧
  t σ H1 fun vs H2 => sp (x :: (vs ++ dvs)) H2 Q E
/-- C(..): a new instance and its dict, then __init__ -/
def tMake (C : Addr) (sp : Sp) (dvs : List V) (E : XK) (t : TA) : TE := fun σ H Q => t σ H fun vs H1 => ∀ x dx, H1 x = none → H1 dx = none → dx ≠ x →
  sp (.ref x :: (vs ++ dvs)) (upd (upd H1 dx (.own x)) x (.ins C dx [])) (fun v H2 => v = .non ∧ Q (.ref x) H2) E

/-- how the parameters are bound: us the positional arguments, kw the keywords' values by name, ds the defaults that fill up -/
def Binds (K : PySem.W.Frag) (fd : FuncData) (ps : List Str) (ds : List Value) : Prop :=
  ∀ (s : Shared) (us : List Value), K.In s.heap → (us ++ ds).length = ps.length → BindsTo s fd ⟨us, []⟩ (ps.zip (us ++ ds))
/-- every parameter is given -/
theorem Binds.all {K : PySem.W.Frag} {fd : FuncData} {ps : List Str} (h : ∀ us : List Value, us.length = ps.length → bindArgs fd ⟨us, []⟩ = pure (ps.zip us)) : Binds K fd ps [] := fun s us _ hl => by
  rw [List.append_nil] at hl ⊢
  exact .of_eq (h us hl)

/-- an exception of a callee reaches what this body wants of exceptions -/
def Passes (CX : CXT) (X : Cx) (E : XK) : Prop := ∀ (pins : List (Addr × Obj)) (σ : St) (H : Hp) (s : Shared) (e : Value) (s' : Shared), Inv X pins σ H s → CX X.stack H s E e s' → X.xe e s'

section
variable {X : Cx} {CX : CXT} {k : Nat} {f C : Addr} {fd : FuncData} {ps : List Str} {sp : Sp} {dvs : List V} {ds : List Value} {E : XK} {x m : Str} {p pos apos : Pos} {e o : Expr} {es : List Expr} {ta : TE} {t : TA}

/-- the callee runs -/
theorem run_fn {pins : List (Addr × Obj)} {σ : St} {H : Hp} {s : Shared} {Q : VK} {us : List Value} {vs : List V} (F : FnOk X.prog X.w X.K X.mg X.base CX k f fd ps sp) (hr : Room k X.A) (hb : Binds X.K fd ps ds) (hd : Vals dvs ds) (hx : Passes CX X E)
    (I : Inv X pins σ H s) (r : Vals vs us) (h : sp (vs ++ dvs) H Q E) : wpAny (model X.prog X.w) X.A (call (.ref f) us) (EP X pins σ Q) X.xe s := by
  have r2 : Vals (vs ++ dvs) (us ++ ds) := r.append hd
  have hl : (us ++ ds).length = ps.length := by rw [← r2.length]; exact F.len _ _ _ _ h
  refine wpAny_call (codeAny_mono (F.run X.A X.stack s H ⟨us, []⟩ (us ++ ds) (vs ++ dvs) Q E hr I.env0 (hb s us I.kIn hl) r2 h) fun r s' hq => ?_)
  cases r with
  | error e => exact hx pins σ H s e s' I hq
  | ok fl =>
    cases fl with
    | ret u => exact I.after hq
    | next => exact False.elim hq
    | brk => exact False.elim hq
    | cont => exact False.elim hq

theorem pe_call (F : FnOk X.prog X.w X.K X.mg X.base CX k f fd ps sp) (hr : Room k X.A) (hg : Gl X x) (hm : X.mg x = some (.ref f)) (hk : PySem.W.keepIn X.K (.ref f) = true) (hb : Binds X.K fd ps ds) (hd : Vals dvs ds) (hx : Passes CX X E)
    (ha : PA X (e :: es) t) (hdb : (x == ("__debug__" : Str)) = false := by decide) (he : starEach (e :: es) X.env = (false, eval e X.env) :: starEach es X.env := by rfl) (hpl : (backTo pos (starEach es X.env)).any (·.1) = false := by rfl) :
    PE X (.Call (.Name x p) (e :: es) [] pos) (tCall sp dvs E t) := by
  intro pins s σ H Q I h
  refine wpAny_Call_Name_kw (ld_glob I hg hm ?_ hdb)
  refine PySem.W.callWith_K (h₀ := X.base) I.ok.mod.kin hk (thn (ha pos pins s σ H _ I h) fun us s1 ⟨vs, H1, I1, r, q⟩ => ⟨I1.kIn, ?_⟩) he hpl
  exact run_fn F hr hb hd hx I1 r q
theorem pe_call0 (F : FnOk X.prog X.w X.K X.mg X.base CX k f fd ps sp) (hr : Room k X.A) (hg : Gl X x) (hm : X.mg x = some (.ref f)) (hk : PySem.W.keepIn X.K (.ref f) = true) (hb : Binds X.K fd ps ds) (hd : Vals dvs ds) (hx : Passes CX X E)
    (hdb : (x == ("__debug__" : Str)) = false := by decide) : PE X (.Call (.Name x p) [] [] pos) (tCall sp dvs E tNil) := by
  intro pins s σ H Q I h
  refine wpAny_Call_Name_kw (ld_glob I hg hm ?_ hdb)
  exact PySem.W.callWith_K0 I.kIn hk (run_fn (us := []) F hr hb hd hx I .nil h)

/-- o.m(e, ..) -/
theorem pe_meth {pl : Sem Bool} (he : PE X o ta) (c : Cls X.K C) (hm : Meth X.K C m f) (F : FnOk X.prog X.w X.K X.mg X.base CX k f fd ps sp) (hr : Room k X.A) (hb : Binds X.K fd ps ds) (hd : Vals dvs ds) (hx : Passes CX X E) (ha : PA X (e :: es) t)
    (hst : starEach (e :: es) X.env = (false, eval e X.env) :: starEach es X.env := by rfl) (hpl : (backTo pos (starEach es X.env)).any (·.1) = false := by rfl)
    (ht : eval (.Call (.Attribute o m apos) (e :: es) [] pos) X.env = (do
      let ov ← eval o X.env
      standAt apos.atName
      let (f, first) ← holding [ov] (getMethod ov m pl)
      callWith pos f first (backTo pos (starEach (e :: es) X.env)) (backToKw pos (keywordEach [] X.env))) := by rfl) :
    PE X (.Call (.Attribute o m apos) (e :: es) [] pos) (tMeth C m sp dvs E ta t) := by
  intro pins s σ H Q I h
  refine PySem.W.methodCall_KW (pl := pl) (thn (he pins s σ H _ I h) fun u s1 ⟨x, H1, I1, rx, a, dx, fs, ex, ea, l, q⟩ => ?_) ht
  subst ex
  obtain rfl : u = Value.ref a := rx
  refine getmeth_ok I1 ea c hm l ?_
  refine PySem.W.callWith_K (first := [.ref a]) (h₀ := X.base) I.ok.mod.kin hm.kp (thn (ha pos pins s1 σ H1 _ I1 q) fun us s2 ⟨vs, H2, I2, r, q2⟩ => ⟨I2.kIn, ?_⟩) hst hpl
  exact run_fn (us := .ref a :: us) (vs := .ref a :: vs) F hr hb hd hx I2 (.cons rfl r) q2
/-- o.m() -/
theorem pe_meth0 {pl : Sem Bool} (he : PE X o ta) (c : Cls X.K C) (hm : Meth X.K C m f) (F : FnOk X.prog X.w X.K X.mg X.base CX k f fd ps sp) (hr : Room k X.A) (hb : Binds X.K fd ps ds) (hd : Vals dvs ds) (hx : Passes CX X E)
    (ht : eval (.Call (.Attribute o m apos) [] [] pos) X.env = (do
      let ov ← eval o X.env
      standAt apos.atName
      let (f, first) ← holding [ov] (getMethod ov m pl)
      callWith pos f first (backTo pos (starEach [] X.env)) (backToKw pos (keywordEach [] X.env))) := by rfl) :
    PE X (.Call (.Attribute o m apos) [] [] pos) (tMeth C m sp dvs E ta tNil) := by
  intro pins s σ H Q I h
  refine PySem.W.methodCall_KW (pl := pl) (thn (he pins s σ H _ I h) fun u s1 ⟨x, H1, I1, rx, a, dx, fs, ex, ea, l, q⟩ => ?_) ht
  subst ex
  obtain rfl : u = Value.ref a := rx
  refine getmeth_ok I1 ea c hm l ?_
  exact PySem.W.callWith_K0 (first := [.ref a]) I1.kIn hm.kp (run_fn (us := [.ref a]) (vs := [.ref a]) F hr hb hd hx I1 (.cons rfl .nil) q)

/-- what a class must have to be made -/
structure Mk (K : PySem.W.Frag) (C f : Addr) : Prop where
  makes : PySem.W.makesIn K C = true
  init : PySem.W.findIn K (.ref C) "__init__" = some (some (.ref f))
  fn : PySem.W.isFn K (.ref f) = true
  kp : PySem.W.keepIn K (.ref C) = true

theorem run_make {pins : List (Addr × Obj)} {σ : St} {H : Hp} {s : Shared} {Q : VK} {us : List Value} {vs : List V} (M : Mk X.K C f) (F : FnOk X.prog X.w X.K X.mg X.base CX k f fd ps sp) (hr : Room (k + 1) X.A) (hb : Binds X.K fd ps ds) (hd : Vals dvs ds)
    (hx : Passes CX X E) (I : Inv X pins σ H s) (r : Vals vs us)
    (h : ∀ x dx, H x = none → H dx = none → dx ≠ x → sp (.ref x :: (vs ++ dvs)) (upd (upd H dx (.own x)) x (.ins C dx [])) (fun v H2 => v = .non ∧ Q (.ref x) H2) E) :
    wpAny (model X.prog X.w) X.A (call (.ref C) us) (EP X pins σ Q) X.xe s := by
  have hq := h (s.heap.objs.size + 1) s.heap.objs.size (I.hok.fresh (Nat.le_succ _)) (I.hok.fresh (Nat.le_refl _)) (Nat.ne_of_lt (Nat.lt_succ_self _))
  have I2 := Inv.made (C := C) I
  have r2 : Vals (V.ref (s.heap.objs.size + 1) :: (vs ++ dvs)) (Value.ref (s.heap.objs.size + 1) :: (us ++ ds)) := .cons rfl (r.append hd)
  have hl : (Value.ref (s.heap.objs.size + 1) :: us ++ ds).length = ps.length := by
    have e := r2.length
    rw [F.len _ _ _ _ hq] at e
    exact e.symm
  refine wpAny_call (make_map (f := f) I.kIn M.makes M.init (beq_iff_eq.mp M.fn) (codeAny_mono (F.run _ X.stack _ _ ⟨Value.ref (s.heap.objs.size + 1) :: us, []⟩ (Value.ref (s.heap.objs.size + 1) :: (us ++ ds)) _ _ E (hr.make C us [])
    (I2.env0.make C us []) (hb _ (Value.ref (s.heap.objs.size + 1) :: us) I2.kIn hl) r2 hq) fun r s' hq' => ?_))
  cases r with
  | error e => exact hx pins σ _ _ e s' I2 hq'
  | ok fl =>
    cases fl with
    | ret u =>
      obtain ⟨v, H', I3, rv, ev, q3⟩ := I2.after hq'
      subst ev
      exact ⟨rv, ⟨V.ref (s.heap.objs.size + 1), H', I3, rfl, q3⟩⟩
    | next => exact False.elim hq'
    | brk => exact False.elim hq'
    | cont => exact False.elim hq'
theorem pe_make (M : Mk X.K C f) (F : FnOk X.prog X.w X.K X.mg X.base CX k f fd ps sp) (hr : Room (k + 1) X.A) (hg : Gl X x) (hm : X.mg x = some (.ref C)) (hb : Binds X.K fd ps ds) (hd : Vals dvs ds) (hx : Passes CX X E)
    (ha : PA X (e :: es) t) (hdb : (x == ("__debug__" : Str)) = false := by decide) (he : starEach (e :: es) X.env = (false, eval e X.env) :: starEach es X.env := by rfl) (hpl : (backTo pos (starEach es X.env)).any (·.1) = false := by rfl) :
    PE X (.Call (.Name x p) (e :: es) [] pos) (tMake C sp dvs E t) := by
  intro pins s σ H Q I h
  refine wpAny_Call_Name_kw (ld_glob I hg hm ?_ hdb)
  refine PySem.W.callWith_K (h₀ := X.base) I.ok.mod.kin M.kp (thn (ha pos pins s σ H _ I h) fun us s1 ⟨vs, H1, I1, r, q⟩ => ⟨I1.kIn, ?_⟩) he hpl
  exact run_make M F hr hb hd hx I1 r q
theorem pe_make0 (M : Mk X.K C f) (F : FnOk X.prog X.w X.K X.mg X.base CX k f fd ps sp) (hr : Room (k + 1) X.A) (hg : Gl X x) (hm : X.mg x = some (.ref C)) (hb : Binds X.K fd ps ds) (hd : Vals dvs ds) (hx : Passes CX X E)
    (hdb : (x == ("__debug__" : Str)) = false := by decide) : PE X (.Call (.Name x p) [] [] pos) (tMake C sp dvs E tNil) := by
  intro pins s σ H Q I h
  refine wpAny_Call_Name_kw (ld_glob I hg hm ?_ hdb)
  exact PySem.W.callWith_K0 I.kIn M.kp (run_make (us := []) M F hr hb hd hx I .nil h)
end

/-! ### keywords -/
/-- the values of the keywords, from the left -/
def PK (X : Cx) (kws : List Keyword) (t : TA) : Prop :=
  ∀ (pos : Pos) (pins : List (Addr × Obj)) (s : Shared) (σ : St) (H : Hp) (Q : List V → Hp → Prop), Inv X pins σ H s → t σ H Q → wpAny (model X.prog X.w) X.A (evalAll ((backToKw pos (keywordEach kws X.env)).map (·.2))) (AP X pins σ Q) X.xe s
section
variable {X : Cx} {CX : CXT} {k : Nat} {f C : Addr} {fd : FuncData} {ps ks : List Str} {sp : Sp} {E : XK} {x m : Str} {p pos apos kpos : Pos} {e o : Expr} {es : List Expr} {kws : List Keyword} {te ta : TE} {t tk : TA} {nm : Option Str}
theorem pk_nil : PK X [] tNil := fun _ _ _ _ H Q I h => wpAny_evalAll_nil ⟨[], H, I, .nil, h⟩
theorem pk_cons (ha : PE X e te) (hr : PK X kws t) : PK X (⟨nm, e, kpos⟩ :: kws) (tCons te t) := by
  intro pos pins s σ H Q I h
  show wpAny _ _ (evalAll ((do let v ← eval e X.env; standAt pos; pure v) :: (backToKw pos (keywordEach kws X.env)).map (·.2))) _ _ s
  refine wpAny_evalAll_cons (wpAny_bind (thn (ha pins s σ H _ I h) fun u s1 ⟨x, H1, I1, r1, q1⟩ => wpAny_bind (wpAny_standAt (wpAny_pure ?_))))
  exact thn (hr pos pins s1 σ H1 _ I1 q1) fun us s2 ⟨xs, H2, I2, r2, q2⟩ => ⟨x :: xs, H2, I2, .cons r1 r2, q2⟩

/-- how a call with keywords binds: g puts the positional values us and the keywords' values ws (names ks) in the parameters' order, defaults among them -/
structure KBinds (K : PySem.W.Frag) (fd : FuncData) (ps ks : List Str) (g : List Value → List Value → List Value) (gV : List V → List V → List V) : Prop where
  to : ∀ (s : Shared) (us ws : List Value), K.In s.heap → (g us ws).length = ps.length → BindsTo s fd ⟨us, ks.zip ws⟩ (ps.zip (g us ws))
  rel : ∀ {vs : List V} {us : List Value} {zs : List V} {ws : List Value}, Vals vs us → Vals zs ws → Vals (gV vs zs) (g us ws)
def tCallK (sp : Sp) (gV : List V → List V → List V) (E : XK) (t tk : TA) : TE := fun σ H Q => t σ H fun vs H1 => tk σ H1 fun zs H2 => sp (gV vs zs) H2 Q E
variable {g : List Value → List Value → List Value} {gV : List V → List V → List V}
theorem run_fnk {pins : List (Addr × Obj)} {σ : St} {H : Hp} {s : Shared} {Q : VK} {us ws : List Value} {vs zs : List V} (F : FnOk X.prog X.w X.K X.mg X.base CX k f fd ps sp) (hr : Room k X.A) (hb : KBinds X.K fd ps ks g gV) (hx : Passes CX X E)
    (I : Inv X pins σ H s) (r : Vals vs us) (rz : Vals zs ws) (h : sp (gV vs zs) H Q E) : wpAny (model X.prog X.w) X.A (call (.ref f) us (ks.zip ws)) (EP X pins σ Q) X.xe s := by
  have r2 := hb.rel r rz
  have hl : (g us ws).length = ps.length := by rw [← r2.length]; exact F.len _ _ _ _ h
  refine wpAny_call (codeAny_mono (F.run X.A X.stack s H ⟨us, ks.zip ws⟩ (g us ws) (gV vs zs) Q E hr I.env0 (hb.to s us ws I.kIn hl) r2 h) fun r s' hq => ?_)
  cases r with
  | error e => exact hx pins σ H s e s' I hq
  | ok fl =>
    cases fl with
    | ret u => exact I.after hq
    | next => exact False.elim hq
    | brk => exact False.elim hq
    | cont => exact False.elim hq
/-- f(e, .., k = v, ..) -/
theorem pe_callK (F : FnOk X.prog X.w X.K X.mg X.base CX k f fd ps sp) (hr : Room k X.A) (hg : Gl X x) (hm : X.mg x = some (.ref f)) (hk : PySem.W.keepIn X.K (.ref f) = true) (hb : KBinds X.K fd ps ks g gV) (hx : Passes CX X E)
    (ha : PA X (e :: es) t) (hkw : PK X kws tk) (hall : (backToKw pos (keywordEach kws X.env)).all (·.1.isSome) = true := by rfl) (hks : (backToKw pos (keywordEach kws X.env)).filterMap (·.1) = ks := by rfl)
    (hdb : (x == ("__debug__" : Str)) = false := by decide) (he : starEach (e :: es) X.env = (false, eval e X.env) :: starEach es X.env := by rfl)
    (hpl : ((backTo pos (starEach (e :: es) X.env)).any (·.1) || (backToKw pos (keywordEach kws X.env)).any (·.1.isNone)) = false := by rfl) :
    PE X (.Call (.Name x p) (e :: es) kws pos) (tCallK sp gV E t tk) := by
  intro pins s σ H Q I h
  refine wpAny_Call_Name_kw (ld_glob I hg hm ?_ hdb)
  refine PySem.W.callWith_KW (h₀ := X.base) I.ok.mod.kin hk hall (thn (ha pos pins s σ H _ I h) fun us s1 ⟨vs, H1, I1, r, q⟩ => ?_) hpl he
  refine thn (hkw pos pins s1 σ H1 _ I1 q) fun ws s2 ⟨zs, H2, I2, rz, q2⟩ => ⟨I2.kIn, ?_⟩
  rw [hks]
  exact run_fnk F hr hb hx I2 r rz q2
end

/-! ### a def's body keeps its promise -/
/-- names: the parameters first -/
structure FnScope (N P : List Str) (sc : Scope) : Prop where
  kind : sc.kind = .function
  co : sc.isCoroutine = false
  gen : sc.isGenerator = false
  nd : N.Nodup
  pre : N.take P.length = P
  par : ∀ x ∈ P, sc.names.lookup x = some .local ∨ sc.names.lookup x = some .cell
  nofree : ∀ y ∈ sc.names, y.2 ≠ .free

theorem bindL_out {kindOf : Str → Option NameKind} {x : Str} : ∀ {binds : List (Str × Value)} {m : Str → Option Value}, (∀ v, (x, v) ∉ binds) → bindL kindOf binds m x = m x
  | [], _, _ => rfl
  | (n, v) :: r, m, h => by
    unfold bindL
    rw [bindL_out fun w hw => h w (List.mem_cons_of_mem _ hw)]
    split
    · have : x ≠ n := by rintro rfl; exact h v List.mem_cons_self
      simp [this]
    · rfl
theorem bindC_out {kindOf : Str → Option NameKind} {x : Str} : ∀ {binds : List (Str × Value)} {m : Str → Option Value}, (∀ v, (x, v) ∉ binds) → bindC kindOf binds m x = m x
  | [], _, _ => rfl
  | (n, v) :: r, m, h => by
    unfold bindC
    rw [bindC_out fun w hw => h w (List.mem_cons_of_mem _ hw)]
    split
    · rfl
    · have : x ≠ n := by rintro rfl; exact h v List.mem_cons_self
      simp [this]
theorem bindL_get {kindOf : Str → Option NameKind} {x : Str} {v : Value} : ∀ {P : List Str} {vs : List Value} {i : Nat} {m : Str → Option Value}, P.Nodup → P[i]? = some x → vs[i]? = some v → kindOf x = some .local →
    bindL kindOf (P.zip vs) m x = some v
  | [], _, _, _, _, h, _, _ => by simp at h
  | _ :: _, [], _, _, _, _, h, _ => by simp at h
  | p :: P, w :: vs, 0, m, nd, h1, h2, hk => by
    simp at h1 h2; subst h1; subst h2
    show bindL kindOf ((p, w) :: P.zip vs) m p = _
    unfold bindL
    rw [bindL_out fun v hv => (List.nodup_cons.mp nd).1 (List.of_mem_zip hv).1, if_pos hk]
    simp
  | p :: P, w :: vs, i + 1, m, nd, h1, h2, hk => by
    show bindL kindOf ((p, w) :: P.zip vs) m x = _
    unfold bindL
    exact bindL_get (i := i) (List.nodup_cons.mp nd).2 (by simpa using h1) (by simpa using h2) hk
theorem bindC_get {kindOf : Str → Option NameKind} {x : Str} {v : Value} : ∀ {P : List Str} {vs : List Value} {i : Nat} {m : Str → Option Value}, P.Nodup → P[i]? = some x → vs[i]? = some v → kindOf x ≠ some .local →
    bindC kindOf (P.zip vs) m x = some v
  | [], _, _, _, _, h, _, _ => by simp at h
  | _ :: _, [], _, _, _, _, h, _ => by simp at h
  | p :: P, w :: vs, 0, m, nd, h1, h2, hk => by
    simp at h1 h2; subst h1; subst h2
    show bindC kindOf ((p, w) :: P.zip vs) m p = _
    unfold bindC
    rw [bindC_out fun v hv => (List.nodup_cons.mp nd).1 (List.of_mem_zip hv).1, if_neg hk]
    simp
  | p :: P, w :: vs, i + 1, m, nd, h1, h2, hk => by
    show bindC kindOf ((p, w) :: P.zip vs) m x = _
    unfold bindC
    exact bindC_get (i := i) (List.nodup_cons.mp nd).2 (by simpa using h1) (by simpa using h2) hk

/-- the names' values at the entry -/
def start (N : List Str) (vs : List V) : St := vs.map some ++ List.replicate (N.length - vs.length) none

/-- the context of a def's body, at its entry; an exception leaves the frame, then lies as CX says -/
def cxOf (CX : CXT) (P : Program) (w : World) (K : PySem.W.Frag) (mg : Str → Option Value) (base : Heap) (N : List Str) (qual : Str) (scope : Scope) (f : Addr) (cd : Value) (A : Around) (outer : List Env) (s : Shared) (H : Hp) (E : XK) : Cx where
  prog := P
  w := w
  K := K
  mg := mg
  base := base
  A := A.deeper (envOfC qual scope s.heap.objs.size f cd)
  N := N
  s₀ := s
  H₀ := H
  env := envOfC qual scope s.heap.objs.size f cd
  outer := outer
  stack := envOfC qual scope s.heap.objs.size f cd :: outer
  ex := []
  calm := true
  fn := fun _ => true
  pn := []
  xe := fun e s' => wpAny (model P w) (A.deeper (envOfC qual scope s.heap.objs.size f cd)) (leaving (envOfC qual scope s.heap.objs.size f cd) e) (fun _ s'' => CX outer H s E e s'') (fun e' s'' => CX outer H s E e' s'') s'

theorem cell_has {sc : Scope} {n : Nat} {x : Str} (h : sc.names.lookup x = some .cell) : ∃ c, (cellsFrom n sc.names []).lookup x = some c := by
  have q := PySem.W.cellsFrom_some sc.names n [] (.inl h)
  exact Option.isSome_iff_exists.mp q

theorem inv_start {CX : CXT} {P : Program} {w : World} {K : PySem.W.Frag} {mg : Str → Option Value} {base : Heap} {N ps : List Str} {qual : Str} {scope : Scope} {f : Addr} {cd : Value} {A : Around} {outer : List Env} {s s1 : Shared} {H : Hp} {E : XK} {us : List Value} {vs : List V}
    (S : FnScope N ps scope) (hd : A.handled = none) (e0 : Env0 P w K mg base A outer s H) (hl : vs.length = ps.length) (r : Vals vs us)
    (x : InCallC s s.heap.objs.size (bindL (envOfC qual scope s.heap.objs.size f cd).kindOf (ps.zip us) fun _ => none) (cellsFrom (s.heap.objs.size + 1) scope.names []) (bindC (envOfC qual scope s.heap.objs.size f cd).kindOf (ps.zip us) fun _ => none) s1) :
    Inv (cxOf CX P w K mg base N qual scope f cd A outer s H E) [] (start N vs) H s1 := by
  have hpl : ps.length ≤ N.length := by have := congrArg List.length S.pre; rw [List.length_take] at this; omega
  obtain ⟨h1, tk, rfl, hk⟩ := x.done
  have noA : ∀ b : Addr, b ∉ (cxOf CX P w K mg base N qual scope f cd A outer s H E).ex := fun b z => absurd (show b ∈ ([] : List Addr) from z) (by simp)
  refine ⟨⟨e0.mod, S.kind, rfl, rfl, Nat.le_refl _, fun y z c h1 h2 => ?_, fun y hy => ?_, fun y c _ h => ?_, fun _ => hd, Around.frames_deeper e0.frames, .inr ⟨rfl, rfl⟩, fun b z => absurd z (noA b), e0.bs, e0.bsz, fun b _ _ => noA b, fun b z => absurd z (noA b), e0.funs, e0.frf⟩,
    rfl, e0.bare, Un.kept hk, ⟨_, x.toInCall.ns, fun i y v h1 h2 h3 => ?_⟩, fun y c h => ⟨_, x.cell y c h⟩, e0.hok.fresh (Nat.le_refl _), fun y c h => ?_, fun p hp => absurd (show p ∈ ([] : List (Addr × Obj)) from hp) (by simp), e0.hok.kept hk, ?_⟩
  · exact name_of_addr x.apart (PySem.mem_of_lookup h1) (PySem.mem_of_lookup h2)
  · have hy : scope.names.lookup y = some .cell ∨ scope.names.lookup y = some .free := hy
    rcases hy with hy | hy
    · exact cell_has hy
    · exact absurd rfl (S.nofree _ (PySem.mem_of_lookup hy))
  · exact Nat.le_of_lt (x.above y c (PySem.mem_of_lookup h))
  · have hi : i < vs.length := by
      unfold start at h2
      by_cases hi : i < vs.length
      · exact hi
      · rw [List.getElem?_append_right (by simpa using hi)] at h2
        rw [List.getElem?_replicate] at h2
        split at h2 <;> cases h2
    have ha : vs[i]? = some v := by
      unfold start at h2
      rw [List.getElem?_append_left (by simpa using hi), List.getElem?_map] at h2
      cases e : vs[i]? with
      | none => rw [e] at h2; cases h2
      | some a => rw [e] at h2; cases h2; rfl
    obtain ⟨u, hu, rv⟩ := r.get ha
    have hp : ps[i]? = some y := by
      rw [← S.pre, List.getElem?_take_of_lt (by omega)]; exact h1
    have ndP : ps.Nodup := by rw [← S.pre]; exact S.nd.sublist (List.take_sublist _ _)
    refine ⟨u, rv, ?_⟩
    rcases S.par y (List.mem_of_getElem? hp) with k | k
    · exact .inl ⟨k, bindL_get ndP hp hu k⟩
    · obtain ⟨c, e⟩ := cell_has (n := s.heap.objs.size + 1) k
      refine .inr ⟨.inl k, c, e, ?_⟩
      have q := x.cell y c e
      rw [bindC_get ndP hp hu (by show scope.names.lookup y ≠ _; rw [k]; decide)] at q
      exact q
  · exact e0.hok.fresh (Nat.le_of_lt (x.above y c (PySem.mem_of_lookup h)))
  · unfold start
    show _ = N.length
    rw [List.length_append, List.length_map, List.length_replicate]
    omega

/-- THE RULE: a def (or a method) of the text, by its body. The body's reading t is chosen for each entry; it is run at the parameters' values -/
theorem fn_of {CX : CXT} {P : Program} {w : World} {K : PySem.W.Frag} {mg : Str → Option Value} {base : Heap} {k : Nat} {f : Addr} {name qual : Str} {params : Arguments} {body : List Stmt} {scope : Scope} {dV kV doc pm cdv ct oc : Value} {an od : Option Addr}
    {osl : Array (Option Value)} {N ps : List Str} {sp : Sp} (lk : K.lookup f = some ⟨oc, od, .func (PySem.W.fnOf name qual params body scope dV kV doc pm an cdv ct), osl⟩) (hcd : PySem.W.codeIn K cdv qual = true) (S : FnScope N ps scope)
    (len : ∀ vs H Q E, sp vs H Q E → vs.length = ps.length)
    (hbody : ∀ (A : Around) (outer : List Env) (s : Shared) (H : Hp) (vs : List V) (Q : VK) (E : XK), Room k (A.deeper (envOfC qual scope s.heap.objs.size f cdv)) → sp vs H Q E →
      ∃ t, PSs (cxOf CX P w K mg base N qual scope f cdv A outer s H E) body t ∧ t { nx := fun _ H' => Q .non H', rt := Q } (start N vs) H) :
    FnOk P w K mg base CX (k + 1) f (PySem.W.fnOf name qual params body scope dV kV doc pm an cdv ct) ps sp := by
  refine ⟨len, fun A outer s H args us vs Q E hr e0 hb r hsp => ?_⟩
  have hl := len _ _ _ _ hsp
  have KX : K.In s.heap := e0.mod.kin.keeps fun b o e => (e0.bs b o e).1
  have lim : s.heap.NoLimit := e0.mod.nolimit.keeps fun b o e => (e0.bs b o e).1
  have hkind : ∀ y ∈ ps.zip us, scope.names.lookup y.1 = some .local ∨ (scope.names.lookup y.1 = some .cell ∧ ((cellsFrom (s.heap.objs.size + 1) scope.names []).lookup y.1).isSome = true) := fun ⟨n, v⟩ hy => by
    rcases S.par n (List.of_mem_zip hy).1 with q | q
    · exact .inl q
    · exact .inr ⟨q, PySem.W.cellsFrom_some _ _ _ (.inl q)⟩
  refine codeAny_call_function hr.depth (KX _ _ lk) rfl S.co S.gen rfl (PySem.W.codeRec_of KX hcd) (hb _ _ _ _ ?_)
  refine wpAny_newFunctionEnv_cells S.kind hkind fun env he s1 x => ?_
  subst he
  refine ⟨lim.keeps x.toInCall.keep, codeAny_func ?_⟩
  obtain ⟨t, ht, hq⟩ := hbody A outer s H vs Q E (hr.deeper _) hsp
  have I : Inv (cxOf CX P w K mg base N qual scope f cdv A outer s H E) [] (start N vs) H s1 := inv_start S hr.hd e0 hl r x
  refine wpAny_mono (ht [] s1 (start N vs) H _ I hq) (fun fl s' hs => ?_) fun e s' hs => hs
  have fin : ∀ {σ' : St} {H' : Hp} {v : V} {u : Value}, Inv (cxOf CX P w K mg base N qual scope f cdv A outer s H E) [] σ' H' s' → RelV v u → Q v H' → CE outer P w H s Q u s' :=
    fun {σ' H' v u} J rv q => ⟨v, H', J.os, J.bare, J.base, J.hok, rv, q⟩
  cases fl with
  | ret u =>
    obtain ⟨v, σ', H', J, rv, q⟩ := hs
    exact fin J rv q
  | next =>
    obtain ⟨σ', H', J, q⟩ := hs
    exact fin (v := V.non) (u := Value.none) J rfl q
  | brk =>
    obtain ⟨_, _, _, q⟩ := hs
    exact False.elim q
  | cont =>
    obtain ⟨_, _, _, q⟩ := hs
    exact False.elim q
end L2

namespace L2
open PySem PySem.Spec PyProof.Rows
section
variable {X : Cx} {x : Str} {p pos : Pos} {e : Expr} {es : List Expr} {t : TA} {id T : String} {r : List V → Hp → VK → Prop}

def tCB (r : List V → Hp → VK → Prop) (t : TA) : TE := fun σ H Q => t σ H fun vs H1 => r vs H1 Q
/-- f(e, ..), f a built-in function -/
theorem pe_callB (hc : CallR X (.builtin id) r) (hg : Gl X x) (hm : X.mg x = none) (hv : bootBuiltins x = some (.builtin id)) (ha : PA X (e :: es) t) (hn : x ≠ "__name__" := by decide) (hdb : (x == ("__debug__" : Str)) = false := by decide)
    (he : starEach (e :: es) X.env = (false, eval e X.env) :: starEach es X.env := by rfl) (hpl : (backTo pos (starEach es X.env)).any (·.1) = false := by rfl) : PE X (.Call (.Name x p) (e :: es) [] pos) (tCB r t) := by
  intro pins s σ H Q I h
  refine wpAny_Call_Name_kw (ld_blt I hg hm hv ?_ hn hdb)
  exact PyProof.Rows.callWith_builtin1 (thn (ha pos pins s σ H _ I h) fun us s1 ⟨vs, H1, I1, r1, q1⟩ => hc pins s1 σ H1 vs us Q I1 r1 q1) he hpl
/-- T(e, ..), T a built-in type -/
theorem pe_callTy (hc : CallR X (.type T) r) (hg : Gl X x) (hm : X.mg x = none) (hv : bootBuiltins x = some (.type T)) (ha : PA X (e :: es) t) (hn : x ≠ "__name__" := by decide) (hdb : (x == ("__debug__" : Str)) = false := by decide)
    (he : starEach (e :: es) X.env = (false, eval e X.env) :: starEach es X.env := by rfl) (hpl : (backTo pos (starEach es X.env)).any (·.1) = false := by rfl) : PE X (.Call (.Name x p) (e :: es) [] pos) (tCB r t) := by
  intro pins s σ H Q I h
  refine wpAny_Call_Name_kw (ld_blt I hg hm hv ?_ hn hdb)
  exact PyProof.Rows.callWith_type1 (thn (ha pos pins s σ H _ I h) fun us s1 ⟨vs, H1, I1, r1, q1⟩ => hc pins s1 σ H1 vs us Q I1 r1 q1) he hpl
/-- T() -/
theorem pe_callTy0 (hc : CallR X (.type T) r) (hg : Gl X x) (hm : X.mg x = none) (hv : bootBuiltins x = some (.type T)) (hn : x ≠ "__name__" := by decide) (hdb : (x == ("__debug__" : Str)) = false := by decide) :
    PE X (.Call (.Name x p) [] [] pos) (tCB r tNil) := by
  intro pins s σ H Q I h
  refine wpAny_Call_Name_kw (ld_blt I hg hm hv ?_ hn hdb)
  exact PyProof.Rows.callWith_type0 (hc pins s σ H [] [] Q I .nil h)
end
end L2

namespace HT
open PySem PyProof.Rows

/-- t < u of tuples of ints -/
def lexLt : List Int → List Int → Bool
  | [], [] => false
  | [], _ :: _ => true
  | _ :: _, [] => false
  | x :: xs, y :: ys => if x = y then lexLt xs ys else decide (x < y)
theorem lexLt_cons (x y : Int) (xs ys : List Int) : lexLt (x :: xs) (y :: ys) = if x = y then lexLt xs ys else decide (x < y) := rfl
theorem lexLt_nil_nil : lexLt [] [] = false := rfl
theorem lexLt_nil_cons (y : Int) (ys : List Int) : lexLt [] (y :: ys) = true := rfl
theorem lexLt_cons_nil (x : Int) (xs : List Int) : lexLt (x :: xs) [] = false := rfl

theorem eqAt_int (A : Around) (s : Shared) (a : Int) (t : Tok) (c : Int) (u : Tok) : ∃ e, SeqAt.EqAt A s (.int a t) (.int c u) e ∧ (e = true ↔ a = c) :=
  ⟨(a == c), SeqAt.EqAt.int_int a t c u, by simp⟩
theorem rcLt_int (A : Around) (s : Shared) (a : Int) (t : Tok) (c : Int) (u : Tok) (prog : Program) (w : World) (E : Value → Shared → Prop) (Q : Value → Shared → Prop) (h : Q (.bool (decide (a < c))) s) :
    wpAny (model prog w) A (richCompare .Lt (.int a t) (.int c u)) Q E s :=
  (PyProof.Rows.lt_int h : wpAny (model prog w) A (compareOp .Lt (.int a t) (.int c u)) Q E s)

section
open PySem.SeqAt
open PySem.AutoSeq1 (wpAny_loadPart')
open PySem.MeetsSeq PySem.MeetsSeq2 PySem.MeetsSeq3

theorem tuple_lt_ints (l b : Addr) (items items2 : Array Value) (n n2 : Nat) (dd dd2 : Option Addr) (sl sl2 : Array (Option Value)) (ns ms : List Int) (hi : IntsAre items.toList ns) (hj : IntsAre items2.toList ms) :
    Meets (Builtin.«tuple.__lt__» ⟨[.ref l, .ref b], []⟩)
      (fun _ R s => s.heap.get? l = some { cls := .type "tuple", dict := dd, data := .seq items n, slots := sl } ∧ s.heap.get? b = some { cls := .type "tuple", dict := dd2, data := .seq items2 n2, slots := sl2 } ∧
        R (.ok (.ret (.bool (lexLt ns ms)))) s) :=
  .of_wp fun prog w A R s h => by
    obtain ⟨hp, g, d, tk, os⟩ := s; obtain ⟨hl, hb, h⟩ := h
    have f2 := AutoSeq1.sub_tuple_tuple
    have z1 : items.size = ns.length := by rw [← hi.length]; simp
    have z2 : items2.size = ms.length := by rw [← hj.length]; simp
    wp_walk using wpAny_loadPart' hl, wpAny_loadPart' hb, wpAny_forIn_list _ (fun rest b s' => b.1 = none ∧ s' = ⟨hp, g, d, tk, os⟩ ∧ ∃ (vs ws : List Value) (ns' ms' : List Int), rest = vs.zip ws ∧
      IntsAre vs ns' ∧ IntsAre ws ms' ∧ ns'.length + items2.size = ms'.length + items.size ∧ R (.ok (.ret (.bool (lexLt ns' ms')))) ⟨hp, g, d, tk, os⟩) _
    case turn =>
      rintro ⟨y, x⟩ rest b s' ⟨hb', rfl, vs, ws, ns', ms', hz, hvi, hwi, hlen, hR⟩
      cases hvi with
      | nil => rw [List.zip_nil_left] at hz; cases hz
      | cons a t hvi' =>
        cases hwi with
        | nil => rw [List.zip_nil_right] at hz; cases hz
        | cons c u hwi' =>
          rw [List.zip_cons_cons] at hz
          injection hz with hyx hrest
          injection hyx with hy hx
          subst hy hx
          rw [lexLt_cons] at hR
          simp only [List.length_cons] at hlen
          obtain ⟨e, he, hiff⟩ := eqAt_int A.in1 ⟨hp, g, d, tk, os⟩ a t c u
          refine wpAny_bind (he prog w _ _ ?_)
          cases e with
          | true =>
            rw [if_pos (hiff.mp rfl)] at hR
            wp_walk
            exact ⟨rfl, rfl, _, _, _, _, hrest, hvi', hwi', by omega, hR⟩
          | false =>
            rw [if_neg (fun q => absurd (hiff.mpr q) Bool.false_ne_true)] at hR
            have hri := rcLt_int A.in1 ⟨hp, g, d, tk, os⟩ a t c u prog w
            wp_walk using hri
            exact ⟨_, rfl, by simpa using hR⟩
    case fin =>
      rintro ⟨b1, b2⟩ s' ⟨hb', rfl, vs, ws, ns', ms', hz, hvi, hwi, hlen, hR⟩
      simp only at hb'
      subst hb'
      have hv : lexLt ns' ms' = decide (items.size < items2.size) := by
        cases hvi with
        | nil =>
          cases hwi with
          | nil =>
            simp only [List.length_nil] at hlen
            rw [lexLt_nil_nil]
            exact (decide_eq_false (by omega)).symm
          | cons c u hw =>
            simp only [List.length_nil, List.length_cons] at hlen
            rw [lexLt_nil_cons]
            exact (decide_eq_true (by omega)).symm
        | cons a t hv =>
          cases hwi with
          | nil =>
            simp only [List.length_nil, List.length_cons] at hlen
            rw [lexLt_cons_nil]
            exact (decide_eq_false (by omega)).symm
          | cons c u hw =>
            rw [List.zip_cons_cons] at hz
            cases hz
      rw [hv] at hR
      wp_walk
      exact ⟨_, rfl, by simpa [Builtin.Tuple.tupleCompareSizes] using hR⟩
    case h =>
      exact ⟨rfl, rfl, items.toList, items2.toList, ns, ms, rfl, hi, hj, by omega, h⟩
end

section
variable {prog : Program} {w : World} {A : Around} {E : Value → Shared → Prop} {s : Shared}

theorem lt_tupInts {l b : Addr} {items items2 : Array Value} {ns ms : List Int} {Q : Value → Shared → Prop} (hl : IsTup s.heap l items) (hb : IsTup s.heap b items2) (hi : IntsAre items.toList ns) (hj : IntsAre items2.toList ms)
    (hu : A.units < cLine) (h : Q (.bool (lexLt ns ms)) s) : wpAny (model prog w) A (compareOp .Lt (.ref l) (.ref b)) Q E s := by
  obtain ⟨⟨cls, dd, data, sl⟩, ho, hc, n, hd⟩ := id hl
  obtain ⟨⟨cls2, dd2, data2, sl2⟩, ho2, hc2, n2, hd2⟩ := id hb
  simp only at hc hd hc2 hd2
  subst hc hd hc2 hd2
  exact richCompare_meets_room (op := .Lt) ⟨_, ho, rfl⟩ ⟨_, ho2, rfl⟩ PySem.F.slot_tuple_lt PySem.F.entry_tuple_lt (PySem.F.args_tuple_lt_2 _ _) (tuple_lt_ints l b items items2 n n2 dd dd2 sl sl2 ns ms hi hj)
    ⟨ho, ho2, show Value.bool (lexLt ns ms) ≠ Value.notImplemented ∧ Q (.bool (lexLt ns ms)) s from ⟨(fun x => nomatch x), h⟩⟩ hu

/-- t + u, t not empty -/
theorem cat_tup {t b : Addr} {vs ws : List Value} {Q : Value → Shared → Prop} (ht : IsTup s.heap t vs.toArray) (hb : IsTup s.heap b ws.toArray) (hv : vs ≠ [])
    (h1 : ws = [] → Q (.ref t) s) (h2 : ws ≠ [] → Q (.ref s.heap.objs.size) { s with heap := s.heap.push { cls := .type "tuple", data := .seq (vs ++ ws).toArray } })
    (hsz : vs.length + ws.length ≤ sizeLine) : wpAny (model prog w) A (binaryOp .Add (.ref t) (.ref b)) Q E s := by
  obtain ⟨⟨cls, dd, data, sl⟩, ho, hc, n, hd⟩ := id ht
  obtain ⟨⟨cls2, dd2, data2, sl2⟩, ho2, hc2, n2, hd2⟩ := id hb
  simp only at hc hd hc2 hd2
  subst hc hd hc2 hd2
  have e : vs.toArray ++ ws.toArray = (vs ++ ws).toArray := by simp
  by_cases hw : ws = []
  · exact concat_meets ⟨_, ho, rfl⟩ ⟨_, ho2, rfl⟩ noFill_tuple_add seq_tuple_add PySem.F.slot_tuple_add PySem.F.entry_tuple_add (PySem.F.args_tuple_add_2 _ _)
      (tuple_addW1 t b vs.toArray ws.toArray n n2 dd dd2 sl sl2 (by simpa using hv) (by simp [hw])) ⟨ho, ho2, h1 hw⟩
  · refine concat_meets ⟨_, ho, rfl⟩ ⟨_, ho2, rfl⟩ noFill_tuple_add seq_tuple_add PySem.F.slot_tuple_add PySem.F.entry_tuple_add (PySem.F.args_tuple_add_2 _ _)
      (tuple_addW2 t b vs.toArray ws.toArray n n2 dd dd2 sl sl2 (by simpa using hv) (by simpa using hw) (by rw [List.size_toArray, List.size_toArray]; exact hsz)) ⟨ho, ho2, ?_⟩
    rw [e]
    exact h2 hw

/-! ### t[a:b], not the whole -/
/-- a slice's bound as a place among n (d where it is left out) -/
def sIx (n d : Nat) : Option Int → Nat
  | none => d
  | some v => if v < 0 then (v + (n : Int)).toNat else min v.toNat n
theorem sIx_none (n d : Nat) : sIx n d none = d := rfl
theorem sIx_nat (n d k : Nat) : sIx n d (some (k : Int)) = min k n := by
  show (if (k : Int) < 0 then ((k : Int) + (n : Int)).toNat else min (k : Int).toNat n) = min k n
  rw [if_neg (by omega), Int.toNat_natCast]
theorem sIx_le (n d : Nat) (hd : d ≤ n) (o : Option Int) : sIx n d o ≤ n := by
  cases o with
  | none => exact hd
  | some v =>
    show (if v < 0 then (v + (n : Int)).toNat else min v.toNat n) ≤ n
    by_cases hv : v < 0
    · rw [if_pos hv]; omega
    · rw [if_neg hv]; exact Nat.min_le_right _ _
theorem clip_eq (v : Int) (n d : Nat) : (if v < 0 then max (v + (n : Int)) 0 else min v (n : Int)) = ((sIx n d (some v) : Nat) : Int) := by
  show (if v < 0 then max (v + (n : Int)) 0 else min v (n : Int)) = (((if v < 0 then (v + (n : Int)).toNat else min v.toNat n) : Nat) : Int)
  by_cases hv : v < 0
  · simp only [if_pos hv]; omega
  · simp only [if_neg hv]; omega
theorem adjust_gen (lo hi : Option Int) (n : Nat) : Builtin.Slice.sliceAdjust lo hi 1 (n : Int) = (((sIx n 0 lo : Nat) : Int), ((sIx n n hi : Nat) : Int)) := by
  have h1 : ¬ ((1 : Int) < 0) := by omega
  unfold Builtin.Slice.sliceAdjust
  simp only [h1, if_false]
  refine Prod.ext ?_ ?_
  · cases lo with
    | none => rfl
    | some v => exact clip_eq v n 0
  · cases hi with
    | none => rfl
    | some v => exact clip_eq v n n
theorem places_gen (i j : Nat) : Builtin.Slice.slicePlaces (i : Int) (j : Int) 1 = j - i := by
  unfold Builtin.Slice.slicePlaces
  have h1 : (1 : Int) > 0 := by omega
  simp only [h1, if_true, Int.ediv_one]
  split <;> omega
theorem slicePart_ {v : Value} {o : Option Int} {Q : Option Int → Shared → Prop} (p : IsPart v o) (h : Q o s) : wpAny (model prog w) A (Builtin.Slice.slicePartIndex v) Q E s := by
  cases p with
  | none => exact slicePart_none h
  | int i t => exact slicePart_int h
theorem sliceApplied_gen {sl : Addr} {vl vu : Value} {lo hi : Option Int} {n : Nat} {Q : Int × Int × Nat → Shared → Prop} (hs : s.heap.IsSliceOf sl vl vu .none) (pl : IsPart vl lo) (pu : IsPart vu hi)
    (h : Q (((sIx n 0 lo : Nat) : Int), 1, sIx n n hi - sIx n 0 lo) s) : wpAny (model prog w) A (Builtin.Slice.sliceApplied (.ref sl) (pure (n : Int))) Q E s := by
  obtain ⟨os, hos, hcs, hds⟩ := id hs
  unfold Builtin.Slice.sliceApplied Builtin.Slice.sliceFields
  refine wpAny_bind (wpAny_bind (wpAny_field hos hds (x := vl) rfl (wpAny_bind (wpAny_field hos hds (x := vu) rfl (wpAny_bind (wpAny_field hos hds (x := .none) rfl (wpAny_pure ?_)))))))
  refine wpAny_bind (slicePart_none ?_)
  show wpAny _ _ (if ((1 : Int) == 0) = true then _ else _) _ _ s
  rw [if_neg (by decide)]
  refine wpAny_bind (slicePart_ pl (wpAny_bind (slicePart_ pu (wpAny_bind (wpAny_pure ?_)))))
  show wpAny _ _ (match Builtin.Slice.sliceAdjust lo hi 1 (n : Int) with | (lo, hi) => pure (lo, (1 : Int), Builtin.Slice.slicePlaces lo hi 1)) _ _ s
  rw [adjust_gen lo hi n]
  show wpAny _ _ (pure (((sIx n 0 lo : Nat) : Int), (1 : Int), Builtin.Slice.slicePlaces ((sIx n 0 lo : Nat) : Int) ((sIx n n hi : Nat) : Int) 1)) _ _ s
  rw [places_gen]
  exact wpAny_pure h
theorem pick_gen (xs : Array Value) (i k : Nat) : ((List.range k).filterMap fun (m : Nat) => xs[((i : Int) + (m : Int) * 1).toNat]?).toArray = ((xs.toList.drop i).take k).toArray := by
  have e : (fun (m : Nat) => xs[((i : Int) + (m : Int) * 1).toNat]?) = fun m => xs[i + m]? := by
    funext m
    have : ((i : Int) + (m : Int) * 1).toNat = i + m := by omega
    rw [this]
  rw [e]
  have := pick_run xs i k
  rw [List.filterMap_map] at this
  have e2 : ((fun x => xs[x]?) ∘ fun x => i + x) = fun m => xs[i + m]? := rfl
  rw [e2] at this
  rw [this]

theorem getItem_tuple_cut {t sl : Addr} {items : Array Value} {vl vu : Value} {lo hi : Option Int} {Q : Value → Shared → Prop} (ht : IsTup s.heap t items) (hs : s.heap.IsSliceOf sl vl vu .none) (pl : IsPart vl lo) (pu : IsPart vu hi)
    (hw : ¬ (sIx items.size 0 lo = 0 ∧ sIx items.size items.size hi = items.size))
    (h : Q (.ref s.heap.objs.size) { s with heap := s.heap.push { cls := .type "tuple", data := .seq ((items.toList.drop (sIx items.size 0 lo)).take (sIx items.size items.size hi - sIx items.size 0 lo)).toArray } })
    (hsz : items.size ≤ sizeLine) : wpAny (model prog w) A (getItem (.ref t) (.ref sl)) Q E s := by
  have htake : sizeOk (.seq ((items.toList.drop (sIx items.size 0 lo)).take (sIx items.size items.size hi - sIx items.size 0 lo)).toArray) := by
    show ((items.toList.drop (sIx items.size 0 lo)).take (sIx items.size items.size hi - sIx items.size 0 lo)).toArray.size ≤ sizeLine
    rw [List.size_toArray, List.length_take, List.length_drop, Array.length_toList]
    omega
  have hj : sIx items.size items.size hi ≤ items.size := sIx_le _ _ (Nat.le_refl _) hi
  obtain ⟨os, hos, hcs, hds⟩ := id hs
  have hTs : s.TypeIs (.ref sl) "slice" := ⟨os, hos, hcs⟩
  unfold getItem
  try with_reducible refine wpAny_holding ?_
  first | refine wpAny_bind (wpAny_pure ?_) | skip
  refine wpAny_bind (wpAny_sequenceKey ht.typeIs (by decide) ?_)
  refine wpAny_bind (wpAny_callSpecial?_slot (name := Str.ofString "__getitem__") ht.typeIs PyProof.Rows.slot_tuple_getitem
    (wpAny_call_entry PyProof.Rows.slot_tuple_getitem ht.typeIs entry_tuple_getitem ?_ (args_tuple_getitem _ _)))
  show wpAny _ _ (Builtin.Tuple.tupleItemsOf (.ref t) >>= _) _ _ s
  refine wpAny_bind (tupleItemsOf_ ht ?_)
  refine wpAny_bind (wpAny_typeOf hTs ?_)
  rw [if_pos (by decide)]
  refine wpAny_bind (sliceApplied_gen hs pl pu ?_)
  have hno : ¬ ((((sIx items.size 0 lo : Nat) : Int) == 0 && (1 : Int) == 1 && (sIx items.size items.size hi - sIx items.size 0 lo) == items.size) = true) := by
    intro q
    rw [Bool.and_eq_true, Bool.and_eq_true] at q
    have q1 : ((sIx items.size 0 lo : Nat) : Int) = 0 := eq_of_beq q.1.1
    have q2 : sIx items.size items.size hi - sIx items.size 0 lo = items.size := eq_of_beq q.2
    exact hw ⟨by omega, by omega⟩
  show wpAny _ _ (if (((sIx items.size 0 lo : Nat) : Int) == 0 && (1 : Int) == 1 && (sIx items.size items.size hi - sIx items.size 0 lo) == items.size) = true then _ else _) _ _ s
  rw [if_neg hno, pick_gen]
  first
    | exact wpAny_bind (m := Builtin.Tuple.tupleExact _) (wpAny_newObj_type (wpAny_pure ⟨_, rfl, wpAny_pure h⟩) htake)
    | exact wpAny_bind (m := Builtin.Tuple.tupleExact _) (wpAny_newObj_type (wpAny_bind (wpAny_pure (wpAny_pure ⟨_, rfl, wpAny_pure h⟩))) htake)
    | exact wpAny_bind (wpAny_bind (m := Builtin.Tuple.tupleExact _) (wpAny_newObj_type (wpAny_pure (wpAny_pure ⟨_, rfl, wpAny_pure h⟩)) htake))
    | exact wpAny_bind (wpAny_bind (m := Builtin.Tuple.tupleExact _) (wpAny_newObj_type (wpAny_pure ⟨_, rfl, wpAny_pure h⟩) htake))
end
end HT

namespace L2
open PySem PySem.Spec PyProof.Rows

/-! ### the parts of a slice -/
abbrev TO := St → Hp → (Option Int → Hp → Prop) → Prop
/-- a slice's part (left out, or an int) -/
def PO (X : Cx) (e : Option Expr) (t : TO) : Prop :=
  ∀ (pins : List (Addr × Obj)) (s : Shared) (σ : St) (H : Hp) (Q : Option Int → Hp → Prop), Inv X pins σ H s → t σ H Q →
    wpAny (model X.prog X.w) X.A (evalPart e X.env) (fun u s' => ∃ o H', Inv X pins σ H' s' ∧ IsPart u o ∧ Q o H') X.xe s
def tNoPart : TO := fun _ H Q => Q none H
def tPart (t : TE) : TO := fun σ H Q => t σ H fun x H1 => ∃ i, x = .int i ∧ Q (some i) H1

theorem intsAre_of {ns : List Int} : ∀ {us : List Value}, Vals (ns.map V.int) us → IntsAre us ns := by
  induction ns with
  | nil => intro us r; rw [List.map_nil] at r; cases r; exact .nil
  | cons n ns ih =>
    intro us r
    rw [List.map_cons] at r
    cases r with
    | cons r1 r2 =>
      obtain ⟨t, e⟩ := r1
      subst e
      exact .cons n t (ih r2)

section
variable {X : Cx} {e : Expr} {te : TE} {lo hi : Option Expr} {tl th : TO} {pos p2 : Pos}

theorem po_none : PO X none tNoPart := by
  intro pins s σ H Q I h
  rw [evalPart_none]
  exact wpAny_pure ⟨none, H, I, .none, h⟩
theorem po_some (h : PE X e te) : PO X (some e) (tPart te) := by
  intro pins s σ H Q I hw
  rw [evalPart_some]
  refine thn (h pins s σ H _ I hw) fun u s1 ⟨x, H1, I1, r1, q1⟩ => ?_
  obtain ⟨i, rfl, q⟩ := q1
  obtain ⟨t, rfl⟩ := r1
  exact ⟨some i, H1, I1, .int i t, q⟩

/-- what a slice of a value is, by values: the slice object stands at sl -/
def SlR (X : Cx) (r : V → Option Int → Option Int → Hp → VK → Prop) : Prop :=
  ∀ (pins : List (Addr × Obj)) (s : Shared) (σ : St) (H : Hp) (x : V) (v vl vu : Value) (lo hi : Option Int) (sl : Addr) (Q : VK), Inv X pins σ H s → RelV x v → s.heap.IsSliceOf sl vl vu .none → IsPart vl lo → IsPart vu hi → r x lo hi H Q →
    ∃ T id, typeLookup (.type T) "__getitem__" = pure (some (.builtin id)) ∧ s.TypeIs v T ∧ wpAny (model X.prog X.w) X.A (getItem v (.ref sl)) (EP X pins σ Q) X.xe s
theorem SlR.or {r r' : V → Option Int → Option Int → Hp → VK → Prop} (h : SlR X r) (h' : SlR X r') : SlR X (fun x lo hi H Q => r x lo hi H Q ∨ r' x lo hi H Q) := by
  intro pins s σ H x v vl vu lo hi sl Q I rx hs pl pu q
  rcases q with q | q
  · exact h pins s σ H x v vl vu lo hi sl Q I rx hs pl pu q
  · exact h' pins s σ H x v vl vu lo hi sl Q I rx hs pl pu q
def tSl (r : V → Option Int → Option Int → Hp → VK → Prop) (te : TE) (tl th : TO) : TE := fun σ H Q => te σ H fun x H1 => tl σ H1 fun l H2 => th σ H2 fun u H3 => r x l u H3 Q
/-- a[lo:hi], any a -/
theorem pe_slice {r : V → Option Int → Option Int → Hp → VK → Prop} (hr : SlR X r) (he : PE X e te) (hl : PO X lo tl) (hu : PO X hi th) : PE X (.Subscript e (.Slice lo hi none p2) pos) (tSl r te tl th) := by
  intro pins s σ H Q I h
  refine Subscript_ (thn (he pins s σ H _ I h) fun v s1 ⟨x, H1, I1, r1, q1⟩ => ?_)
  refine wpAny_Slice (thn (hl pins s1 σ H1 _ I1 q1) fun vl s2 ⟨l, H2, I2, pl, q2⟩ => thn (hu pins s2 σ H2 _ I2 q2) fun vu s3 ⟨u, H3, I3, pu, q3⟩ => ?_)
  rw [evalPart_none]
  refine wpAny_pure ?_
  have I4 : Inv X pins σ H3 { s3 with heap := s3.heap.push { cls := .type "slice", data := .fields #[vl, vu, .none] } } := I3.kept (t' := s3.toks) fun b ob q => Heap.get?_push_of_some _ q
  obtain ⟨T, id, hT, ht, hg⟩ := hr pins { s3 with heap := s3.heap.push { cls := .type "slice", data := .fields #[vl, vu, .none] } } σ H3 x v vl vu l u s3.heap.objs.size Q I4 r1 (Heap.IsSliceOf.new ..) pl pu q3
  show wpAny (model X.prog X.w) X.A (subscriptTail e (.Slice lo hi none p2) v (.ref s3.heap.objs.size)) (EP X pins σ Q) X.xe { s3 with heap := s3.heap.push { cls := .type "slice", data := .fields #[vl, vu, .none] } }
  exact tail_any (ops := [.ref s3.heap.objs.size, v]) ht hT hg (by with_unfolding_all rfl)

/-- the items of xs[lo:hi] -/
def cutV (xs : List V) (lo hi : Option Int) : List V := (xs.drop (HT.sIx xs.length 0 lo)).take (HT.sIx xs.length xs.length hi - HT.sIx xs.length 0 lo)
theorem cutV_length (xs : List V) (lo hi : Option Int) : (cutV xs lo hi).length ≤ xs.length := by
  unfold cutV
  rw [List.length_take, List.length_drop]
  omega
/-- t[lo:hi], not the whole of it (the whole would be t itself) -/
def rSlT (K : PySem.W.Frag) : V → Option Int → Option Int → Hp → VK → Prop := fun x lo hi H Q => ∃ a xs, x = .ref a ∧ SqT K H a xs ∧
  ¬ (HT.sIx xs.length 0 lo = 0 ∧ HT.sIx xs.length xs.length hi = xs.length) ∧ ∀ p, H p = none → Q (.ref p) (upd H p (.tup (cutV xs lo hi)))
theorem sl_tup : SlR X (rSlT X.K) := by
  intro pins s σ H x v vl vu lo hi sl Q I rx hs pl pu h
  obtain ⟨a, xs, rfl, hx, hw, q⟩ := h
  cases rx
  obtain ⟨its, r, ht, hz⟩ := I.tuple hx
  have hlen : its.toArray.size = xs.length := by rw [List.size_toArray]; exact r.length.symm
  refine ⟨"tuple", _, PyProof.Rows.slot_tuple_getitem.lookup, ht.typeIs, ?_⟩
  refine HT.getItem_tuple_cut ht hs pl pu (by rw [hlen]; exact hw) ?_ (by rw [hlen]; exact hz)
  rw [hlen]
  refine ⟨.ref s.heap.objs.size, _, I.laid (t' := s.toks) (o := .tup (cutV xs lo hi)) (fun b ob q => Heap.get?_push_of_some _ q) (Nat.le_refl _) ?_, rfl, q _ (I.hok.fresh (Nat.le_refl _))⟩
  exact ⟨Nat.le_trans (cutV_length xs lo hi) hz, _, (r.drop (HT.sIx xs.length 0 lo)).take (HT.sIx xs.length xs.length hi - HT.sIx xs.length 0 lo), IsTup.new _ _⟩

/-! ### t < u, t + u -/
def rLtT (K : PySem.W.Frag) : R2 := fun x y H Q => ∃ a b ns ms, x = .ref a ∧ y = .ref b ∧ SqT K H a (ns.map V.int) ∧ SqT K H b (ms.map V.int) ∧ Q (.bl (HT.lexLt ns ms)) H
theorem op_ltT (hu : X.A.units < cLine) : OpR X (compareOp .Lt) (rLtT X.K) := by
  intro pins s σ H x y v u Q I rx ry h
  obtain ⟨a, b, ns, ms, rfl, rfl, ha, hb, q⟩ := h
  cases rx
  cases ry
  obtain ⟨its, r1, p1, _⟩ := I.tuple ha
  obtain ⟨its2, r2, p2, _⟩ := I.tuple hb
  have i1 : IntsAre its.toArray.toList ns := intsAre_of r1
  have i2 : IntsAre its2.toArray.toList ms := intsAre_of r2
  exact HT.lt_tupInts p1 p2 i1 i2 hu ⟨.bl (HT.lexLt ns ms), H, I, rfl, q⟩
/-- t + u, t not empty: u empty gives t itself -/
def rCatT (K : PySem.W.Frag) : R2 := fun x y H Q => ∃ a b xs ys, x = .ref a ∧ y = .ref b ∧ SqT K H a xs ∧ SqT K H b ys ∧ xs ≠ [] ∧ xs.length + ys.length ≤ sizeLine ∧
  (ys = [] → Q (.ref a) H) ∧ (ys ≠ [] → ∀ p, H p = none → Q (.ref p) (upd H p (.tup (xs ++ ys))))
theorem Vals.nil_iff {xs : List V} {us : List Value} (r : Vals xs us) : us = [] ↔ xs = [] := by
  cases r with
  | nil => simp
  | cons _ _ => simp
theorem op_catT : OpR X (binaryOp .Add) (rCatT X.K) := by
  intro pins s σ H x y v u Q I rx ry h
  obtain ⟨a, b, xs, ys, rfl, rfl, ha, hb, hx, hz, q1, q2⟩ := h
  cases rx
  cases ry
  obtain ⟨its, r1, p1, _⟩ := I.tuple ha
  obtain ⟨its2, r2, p2, _⟩ := I.tuple hb
  refine HT.cat_tup p1 p2 (fun z => hx (r1.nil_iff.mp z)) (fun z => ⟨.ref a, H, I, rfl, q1 (r2.nil_iff.mp z)⟩) (fun z => ?_) (by rw [← r1.length, ← r2.length]; exact hz)
  refine ⟨.ref s.heap.objs.size, _, I.laid (t' := s.toks) (o := .tup (xs ++ ys)) (fun b ob q => Heap.get?_push_of_some _ q) (Nat.le_refl _) ?_, rfl, q2 (fun w => z (r2.nil_iff.mpr w)) _ (I.hok.fresh (Nat.le_refl _))⟩
  exact ⟨by rw [List.length_append]; exact hz, _, r1.append r2, IsTup.new _ _⟩
/-- tuple(t) -/
theorem call_tupleT : CallR X (.type "tuple") (fun xs H Q => ∃ a ys, xs = [.ref a] ∧ SqT X.K H a ys ∧ Q (.ref a) H) := by
  intro pins s σ H xs us Q I r h
  obtain ⟨a, ys, rfl, ha, q⟩ := h
  obtain ⟨u, rfl, ru⟩ := vals1 r
  cases ru
  obtain ⟨its, _, p1, _⟩ := I.tuple ha
  exact call_tuple_same (items := its.toArray) p1 ⟨.ref a, H, I, rfl, q⟩
end
end L2

namespace L2
open PySem PySem.Spec PyProof.Rows

/-! ### places -/
/-- the place that an index of any sign means -/
def ixN (n : Nat) (i : Int) : Option Nat := if 0 ≤ i then (if i < n then some i.toNat else none) else if -(n : Int) ≤ i then some (i + n).toNat else none
def atI {α : Type} (xs : List α) (i : Int) : Option α := (ixN xs.length i).bind fun j => xs[j]?
theorem ixN_seq {n : Nat} {i : Int} {j : Nat} (h : ixN n i = some j) : seqIndex? i n = some j ∧ j < n ∧ -(n : Int) ≤ i ∧ i < n := by
  unfold ixN at h
  by_cases h0 : 0 ≤ i
  · rw [if_pos h0] at h
    by_cases h1 : i < n
    · rw [if_pos h1] at h
      have e : i.toNat = j := Option.some.inj h
      exact ⟨by rw [seqIndex_of h0 h1, e], by omega, by omega, h1⟩
    · rw [if_neg h1] at h; cases h
  · rw [if_neg h0] at h
    by_cases h1 : -(n : Int) ≤ i
    · rw [if_pos h1] at h
      have e : (i + n).toNat = j := Option.some.inj h
      exact ⟨by rw [seqIndex_neg (by omega) h1, e], by omega, h1, by omega⟩
    · rw [if_neg h1] at h; cases h
theorem atI_get {α : Type} {xs : List α} {i : Int} {v : α} (h : atI xs i = some v) : ∃ j, seqIndex? i xs.length = some j ∧ xs[j]? = some v ∧ j < xs.length ∧ -(xs.length : Int) ≤ i ∧ i < xs.length := by
  unfold atI at h
  cases e : ixN xs.length i with
  | none => rw [e] at h; cases h
  | some j =>
    rw [e] at h
    obtain ⟨h1, h2, h3, h4⟩ := ixN_seq e
    exact ⟨j, h1, h, h2, h3, h4⟩
theorem atI_nat {α : Type} {xs : List α} {j : Nat} {v : α} (h : xs[j]? = some v) : atI xs (j : Int) = some v := by
  have hj : j < xs.length := (List.getElem?_eq_some_iff.mp h).1
  have e : ixN xs.length (j : Int) = some j := by
    unfold ixN
    rw [if_pos (by omega), if_pos (by omega)]; simp
  unfold atI; rw [e]; exact h
theorem atI_last {α : Type} (xs : List α) (v : α) : atI (xs ++ [v]) (-1) = some v := by
  have hl : (xs ++ [v]).length = xs.length + 1 := by simp
  have e : ixN (xs ++ [v]).length (-1) = some xs.length := by
    unfold ixN
    rw [hl, if_neg (by decide), if_pos (by omega)]
    congr 1
    omega
  unfold atI
  rw [e]
  show (xs ++ [v])[xs.length]? = some v
  simp

/-! ### what may be subscripted -/
/-- what stands as an index of a plain subscript -/
def PlainIx (b : Expr) : Prop := ∀ o i, subscripted b false o i = operate [o, i] (getItem o i)
/-- a subscript by values -/
def IxR (X : Cx) (r : R2) : Prop :=
  ∀ (value slice : Expr) (pins : List (Addr × Obj)) (s : Shared) (σ : St) (H : Hp) (x y : V) (v u : Value) (Q : VK), Inv X pins σ H s → RelV x v → RelV y u → r x y H Q →
    subscripted slice false v u = operate [v, u] (getItem v u) → wpAny (model X.prog X.w) X.A (subscriptTail value slice v u) (EP X pins σ Q) X.xe s
/-- a call of a builtin's method by values: the receiver, the arguments -/
def MtR (X : Cx) (id : String) (r : V → List V → Hp → VK → Prop) : Prop :=
  ∀ (pins : List (Addr × Obj)) (s : Shared) (σ : St) (H : Hp) (x : V) (xs : List V) (v : Value) (us : List Value) (Q : VK), Inv X pins σ H s → RelV x v → Vals xs us → r x xs H Q →
    wpAny (model X.prog X.w) X.A (call (.builtin id) (v :: us)) (EP X pins σ Q) X.xe s
section
variable {X : Cx} {a b : Expr} {ta tb : TE} {pos : Pos}
theorem IxR.or {r r' : R2} (h : IxR X r) (h' : IxR X r') : IxR X (fun x y H Q => r x y H Q ∨ r' x y H Q) := by
  intro value slice pins s σ H x y v u Q I rx ry q hs
  rcases q with q | q
  · exact h value slice pins s σ H x y v u Q I rx ry q hs
  · exact h' value slice pins s σ H x y v u Q I rx ry q hs
theorem MtR.or {id : String} {r r' : V → List V → Hp → VK → Prop} (h : MtR X id r) (h' : MtR X id r') : MtR X id (fun x xs H Q => r x xs H Q ∨ r' x xs H Q) := by
  intro pins s σ H x xs v us Q I rx rs q
  rcases q with q | q
  · exact h pins s σ H x xs v us Q I rx rs q
  · exact h' pins s σ H x xs v us Q I rx rs q
/-- a[b] -/
theorem pe_ix {r : R2} (hr : IxR X r) (ha : PE X a ta) (hb : PE X b tb) (hs : PlainIx b) : PE X (.Subscript a b pos) (tOp r ta tb) := by
  intro pins s σ H Q I h
  exact Subscript_ (binT ha hb I h fun v u s2 x y H2 I2 rx ry q => hr a b pins s2 σ H2 x y v u Q I2 rx ry q (hs _ _))

def rIxL (K : PySem.W.Frag) : R2 := fun x y H Q => ∃ p xs i v, x = .ref p ∧ y = .int i ∧ SqL K H p xs ∧ atI xs i = some v ∧ Q v H
def rIxT (K : PySem.W.Frag) : R2 := fun x y H Q => ∃ p xs i v, x = .ref p ∧ y = .int i ∧ SqT K H p xs ∧ atI xs i = some v ∧ Q v H
def rIxS : R2 := fun x y H Q => ∃ z i c, x = .str z ∧ y = .int i ∧ z.length ≤ sizeLine ∧ atI z.cps.toList i = some c ∧ Q (.str ⟨#[c]⟩) H
theorem ix_list : IxR X (rIxL X.K) := by
  intro value slice pins s σ H x y v u Q I rx ry h hs
  obtain ⟨p, xs, i, z, rfl, rfl, hq, he, q⟩ := h
  cases rx
  obtain ⟨t, rfl⟩ := ry
  obtain ⟨its, r, pl, hz⟩ := I.list hq
  obtain ⟨j, h1, h2, h3, h4, h5⟩ := atI_get he
  obtain ⟨w, ew, rw'⟩ := r.get h2
  have hl := r.length
  have hn := line63
  have fin : EP X pins σ Q w s := ⟨z, H, I, rw', q⟩
  by_cases h0 : 0 ≤ i
  · have hj : i.toNat = j := by
      rw [seqIndex_of h0 h5] at h1
      exact Option.some.inj h1
    exact item_listR pl.isList h0 (by omega) (by rw [hj]; simpa using ew) fin hs
  · have hj : (i + (its.toArray.size : Int)).toNat = j := by
      rw [seqIndex_neg (by omega) h4] at h1
      rw [List.size_toArray, ← hl]
      exact Option.some.inj h1
    exact subscriptTail_builtinR (x := w) pl.isList.typeIs slot_list_getitem.lookup
      (wpAny_getItem_list_neg (Q := fun r s' => r = w ∧ EP X pins σ Q r s') pl.isList (by omega) (by rw [List.size_toArray] <;> omega) (by omega) (by rw [hj]; simpa using ew) ⟨rfl, fin⟩) hs
theorem ix_tup : IxR X (rIxT X.K) := by
  intro value slice pins s σ H x y v u Q I rx ry h hs
  obtain ⟨p, xs, i, z, rfl, rfl, hq, he, q⟩ := h
  cases rx
  obtain ⟨t, rfl⟩ := ry
  obtain ⟨its, r, pl, hz⟩ := I.tuple hq
  obtain ⟨j, h1, h2, h3, h4, h5⟩ := atI_get he
  obtain ⟨w, ew, rw'⟩ := r.get h2
  have hl := r.length
  have hn := line63
  have fin : EP X pins σ Q w s := ⟨z, H, I, rw', q⟩
  exact subscriptTail_builtinR (x := w) pl.typeIs slot_tuple_getitem.lookup
    (getItem_tuple (j := j) (Q := fun r s' => r = w ∧ EP X pins σ Q r s') pl (by omega) (by omega) (by rw [List.size_toArray, ← hl]; exact h1) (by simpa using ew) ⟨rfl, fin⟩) hs
theorem ix_str : IxR X rIxS := by
  intro value slice pins s σ H x y v u Q I rx ry h hs
  obtain ⟨z, i, c, rfl, rfl, hz, he, q⟩ := h
  obtain ⟨t, rfl⟩ := rx
  obtain ⟨t', rfl⟩ := ry
  obtain ⟨j, h1, h2, h3, h4, h5⟩ := atI_get he
  have hl : z.cps.toList.length = z.length := by simp [Str.length]
  rw [hl] at h1 h4 h5
  have hn := line63
  exact tail_any (typeIs_str s z t) slot_str_getitem.lookup (getItem_str (c := c) (by
    have e1 : decide (i < -(2 ^ 63 : Int)) = false := decide_eq_false (by omega)
    have e2 : decide (i ≥ 2 ^ 63) = false := decide_eq_false (by omega)
    rw [e1, e2, Bool.or_false]) (by rw [h1]; simpa using h2) ⟨.str ⟨#[c]⟩, H, I.tok _, ⟨_, rfl⟩, q⟩) hs
/-- list, tuple or str -/
def rIx (K : PySem.W.Frag) : R2 := fun x y H Q => rIxL K x y H Q ∨ rIxT K x y H Q ∨ rIxS x y H Q
theorem ix_seq : IxR X (rIx X.K) := ix_list.or (ix_tup.or ix_str)

/-! ### xs[i] = v, any sign -/
/-- the list's object behind a store -/
theorem mapSeq_set (its : List Value) (n j : Nat) (u : Value) : Obj.mapSeq (·.setIfInBounds j u) { cls := .type "list", data := .seq its.toArray n } = { cls := .type "list", data := .seq (its.set j u).toArray n } := by
  simp [Obj.mapSeq]
theorem Inv.lst {pins : List (Addr × Obj)} {σ : St} {H : Hp} {s : Shared} {p : Addr} {xs : List V} (I : Inv X pins σ H s) (h : H p = some (.lst xs)) :
    ∃ (its : List Value) (n : Nat), Vals xs its ∧ s.heap.get? p = some { cls := .type "list", data := .seq its.toArray n } ∧ xs.length ≤ sizeLine := by
  obtain ⟨z, its, n, r, e⟩ := I.hok p _ h
  exact ⟨its, n, r, e, z⟩
/-- the list at p is written by an update of its object -/
theorem Inv.lstUpd {pins : List (Addr × Obj)} {σ : St} {H : Hp} {s : Shared} {p : Addr} {xs ys : List V} {its its' : List Value} {n n' : Nat} {f : Obj → Obj} (I : Inv X pins σ H s) (h : H p = some (.lst xs))
    (ho : s.heap.get? p = some { cls := .type "list", data := .seq its.toArray n }) (hf : f { cls := .type "list", data := .seq its.toArray n } = { cls := .type "list", data := .seq its'.toArray n' }) (r : Vals ys its') (hz : ys.length ≤ sizeLine) (t : Nat) :
    Inv X pins σ (upd H p (.lst ys)) { s with heap := s.heap.update p f, toks := t } := by
  have e : (s.heap.update p f).get? p = some { cls := .type "list", data := .seq its'.toArray n' } := by
    rw [Heap.get?_update_self f ho (by rw [hf] <;> rfl), hf]
  refine I.write (x := p) (e := p) (by rw [h]; trivial) (.inl rfl) (fun b u hb q => (Heap.get?_update_other _ _ (Ne.symm hb)).trans q) ⟨_, e⟩ ?_
  exact ⟨hz, its', n', r, e⟩
def rSetL : V → V → V → Hp → (Hp → Prop) → Prop := fun o i v H Q => ∃ p xs k j, o = .ref p ∧ i = .int k ∧ H p = some (.lst xs) ∧ ixN xs.length k = some j ∧ Q (upd H p (.lst (xs.set j v)))
theorem set_list : PSet X rSetL := by
  intro pins s σ H o i v ov iv u Q I ro ri rv h
  obtain ⟨p, xs, k, j, rfl, rfl, hp, hj, q⟩ := h
  cases ro
  obtain ⟨t, rfl⟩ := ri
  obtain ⟨its, n, r, ho, hz⟩ := I.lst hp
  obtain ⟨h1, h2, h3, h4⟩ := ixN_seq hj
  have hl := r.length
  have hn := line63
  have I' : Inv X pins σ (upd H p (.lst (xs.set j v))) { s with heap := s.heap.update p (Obj.mapSeq (·.setIfInBounds j u)) } :=
    I.lstUpd hp ho (mapSeq_set its n j u) (r.set rv j) (by rw [List.length_set]; exact hz) s.toks
  by_cases h0 : 0 ≤ k
  · have hk : k.toNat = j := by
      rw [seqIndex_of h0 h4] at h1
      exact Option.some.inj h1
    exact PySem.W.ki_setAt ho h0 (by omega) (by rw [List.size_toArray, ← hl]; exact h4) (by rw [hk]; exact ⟨_, I', q⟩)
  · have hk : (k + (its.toArray.size : Int)).toNat = j := by
      rw [seqIndex_neg (by omega) h3] at h1
      rw [List.size_toArray, ← hl]
      exact Option.some.inj h1
    exact PySem.W.ki_setBack ho (by omega) (by rw [List.size_toArray, ← hl]; exact h3) (by omega) (by rw [hk]; exact ⟨_, I', q⟩)

/-! ### slices -/
theorem slice_bounds (lo hi : Option Int) (n : Nat) : (sliceBounds lo hi none n).1 = ((HT.sIx n 0 lo : Nat) : Int) ∧ (sliceBounds lo hi none n).2.1 = ((HT.sIx n n hi : Nat) : Int) ∧ (sliceBounds lo hi none n).2.2 = 1 := by
  refine ⟨?_, ?_, rfl⟩
  · cases lo with
    | none => simp [sliceBounds, HT.sIx]
    | some i =>
      simp only [sliceBounds, HT.sIx, Option.getD_none, show (1 : Int) > 0 by decide, if_true]
      by_cases h : i < 0
      · simp only [h, if_true] <;> omega
      · simp only [h, if_false] <;> omega
  · cases hi with
    | none => simp [sliceBounds, HT.sIx]
    | some i =>
      simp only [sliceBounds, HT.sIx, Option.getD_none, show (1 : Int) > 0 by decide, if_true]
      by_cases h : i < 0
      · simp only [h, if_true] <;> omega
      · simp only [h, if_false] <;> omega
theorem slicePick_cut (its : List Value) (lo hi : Option Int) : slicePick its.toArray lo hi none = ((its.drop (HT.sIx its.length 0 lo)).take (HT.sIx its.length its.length hi - HT.sIx its.length 0 lo)).toArray := by
  obtain ⟨h1, h2, h3⟩ := slice_bounds lo hi its.toArray.size
  unfold slicePick
  rw [h1, h2, h3]
  simp only [sliceRange_one, pick_run, List.size_toArray] <;> rfl
/-- xs[lo:hi] of a list: a new list -/
def rSlL (K : PySem.W.Frag) : V → Option Int → Option Int → Hp → VK → Prop := fun x lo hi H Q => ∃ a xs, x = .ref a ∧ SqL K H a xs ∧ ∀ p, H p = none → Q (.ref p) (upd H p (.lst (cutV xs lo hi)))
theorem sl_list : SlR X (rSlL X.K) := by
  intro pins s σ H x v vl vu lo hi sl Q I rx hs pl pu h
  obtain ⟨a, xs, rfl, hx, q⟩ := h
  cases rx
  obtain ⟨its, r, ht, hz⟩ := I.list hx
  have hlen := r.length
  refine ⟨"list", _, slot_list_getitem.lookup, ht.isList.typeIs, ?_⟩
  refine wpAny_getItem_list_slice ht.isList hs pl pu .none (by simp) ?_ (by rw [List.size_toArray] <;> omega)
  rw [slicePick_cut, ← hlen]
  refine ⟨.ref s.heap.objs.size, _, I.laid (t' := s.toks) (o := .lst (cutV xs lo hi)) (fun b ob q => Heap.get?_push_of_some _ q) (Nat.le_refl _) ?_, rfl, q _ (I.hok.fresh (Nat.le_refl _))⟩
  exact ⟨Nat.le_trans (cutV_length xs lo hi) hz, _, 0, (r.drop (HT.sIx xs.length 0 lo)).take (HT.sIx xs.length xs.length hi - HT.sIx xs.length 0 lo), Heap.get?_push_size _ rfl⟩

/-! ### in, not in: flat items -/
def flatV : V → Bool
  | .non => true
  | .bl _ => true
  | .int _ => true
  | .str _ => true
  | _ => false
/-- == of flat values -/
def eqV : V → V → Bool
  | .non, .non => true
  | .bl a, .bl b => a == b
  | .bl a, .int b => (if a then 1 else 0) == b
  | .int a, .bl b => a == (if b then 1 else 0)
  | .int a, .int b => a == b
  | .str a, .str b => a == b
  | _, _ => false
theorem eqAt_V {A : Around} {s : Shared} {y x : V} {u v : Value} (ry : RelV y u) (rx : RelV x v) (fy : flatV y = true) (fx : flatV x = true) : SeqAt.EqAt A s u v (eqV y x) := by
  cases y with
  | non =>
    cases ry
    cases x with
    | non => cases rx; exact SeqAt.EqAt.same _
    | bl b => cases rx; exact SeqAt.EqAt.none_bool b
    | int b => obtain ⟨t, rfl⟩ := rx; exact SeqAt.EqAt.none_int b t
    | str b => obtain ⟨t, rfl⟩ := rx; exact SeqAt.EqAt.none_str b t
    | _ => exact absurd (show false = true from fx) Bool.false_ne_true
  | bl a =>
    cases ry
    cases x with
    | non => cases rx; exact SeqAt.EqAt.bool_none a
    | bl b => cases rx; exact SeqAt.EqAt.bool_bool a b
    | int b => obtain ⟨t, rfl⟩ := rx; exact SeqAt.EqAt.bool_int a b t
    | str b => obtain ⟨t, rfl⟩ := rx; exact SeqAt.EqAt.bool_str a b t
    | _ => exact absurd (show false = true from fx) Bool.false_ne_true
  | int a =>
    obtain ⟨t', rfl⟩ := ry
    cases x with
    | non => cases rx; exact SeqAt.EqAt.int_none a t'
    | bl b => cases rx; exact SeqAt.EqAt.int_bool a t' b
    | int b => obtain ⟨t, rfl⟩ := rx; exact SeqAt.EqAt.int_int a t' b t
    | str b => obtain ⟨t, rfl⟩ := rx; exact SeqAt.EqAt.int_str a t' b t
    | _ => exact absurd (show false = true from fx) Bool.false_ne_true
  | str a =>
    obtain ⟨t', rfl⟩ := ry
    cases x with
    | non => cases rx; exact SeqAt.EqAt.str_none a t'
    | bl b => cases rx; exact SeqAt.EqAt.str_bool a t' b
    | int b => obtain ⟨t, rfl⟩ := rx; exact SeqAt.EqAt.str_int a t' b t
    | str b => obtain ⟨t, rfl⟩ := rx; exact SeqAt.EqAt.str_str a t' b t
    | _ => exact absurd (show false = true from fx) Bool.false_ne_true
  | _ => exact absurd (show false = true from fy) Bool.false_ne_true
/-- the items' answers, read off the values (a value's own answer does not lean on its token) -/
def eqU (x : V) (u : Value) : Bool := match u with
  | .none => eqV .non x
  | .bool b => eqV (.bl b) x
  | .int i _ => eqV (.int i) x
  | .str z _ => eqV (.str z) x
  | _ => false
theorem eqU_of {x y : V} {u : Value} (r : RelV y u) (f : flatV y = true) : eqU x u = eqV y x := by
  cases y with
  | non => cases r; rfl
  | bl b => cases r; rfl
  | int i => obtain ⟨t, rfl⟩ := r; rfl
  | str z => obtain ⟨t, rfl⟩ := r; rfl
  | _ => exact absurd (show false = true from f) Bool.false_ne_true
theorem any_eqU {x : V} : ∀ {xs : List V} {us : List Value}, Vals xs us → xs.all flatV = true → us.any (eqU x) = xs.any fun y => eqV y x
  | _, _, .nil, _ => rfl
  | y :: xs, u :: us, .cons r t, f => by
    rw [List.all_cons, Bool.and_eq_true] at f
    rw [List.any_cons, List.any_cons, eqU_of r f.1, any_eqU t f.2]
theorem mem_eqAt {A : Around} {s : Shared} {x : V} {v : Value} (rx : RelV x v) (fx : flatV x = true) : ∀ {xs : List V} {us : List Value}, Vals xs us → xs.all flatV = true → ∀ u ∈ us, SeqAt.EqAt A s u v (eqU x u)
  | _, _, .nil, _ => fun u hu => by cases hu
  | y :: xs, u :: us, .cons r t, f => fun u' hu => by
    rw [List.all_cons, Bool.and_eq_true] at f
    rcases List.mem_cons.mp hu with rfl | hu
    · rw [eqU_of r f.1]; exact eqAt_V r rx f.1 fx
    · exact mem_eqAt rx fx t f.2 u' hu
def inV (x : V) (xs : List V) : Bool := xs.any fun y => eqV y x
/-- x in a list or tuple of flat items -/
def rIn (K : PySem.W.Frag) (neg : Bool) : R2 := fun x y H Q => ∃ p xs, y = .ref p ∧ (SqL K H p xs ∨ SqT K H p xs) ∧ flatV x = true ∧ xs.all flatV = true ∧ Q (.bl (if neg then !inV x xs else inV x xs)) H
theorem op_in_seq : OpR X (compareOp .In) (rIn X.K false) := by
  intro pins s σ H x y v u Q I rx ry h
  obtain ⟨p, xs, rfl, hq, fx, fs, q⟩ := h
  cases ry
  rcases hq with hq | hq
  · obtain ⟨its, r, pl, hz⟩ := I.list hq
    refine SeqAt.in_listAt (eqU x) pl.isList (fun w hw => mem_eqAt rx fx r fs w (by simpa using hw)) ⟨.bl _, H, I, rfl, ?_⟩
    rw [show its.toArray.any (eqU x) = its.any (eqU x) by simp, any_eqU r fs]
    exact q
  · obtain ⟨its, r, pl, hz⟩ := I.tuple hq
    refine SeqAt.in_tupleAt (eqU x) pl (fun w hw => mem_eqAt rx fx r fs w (by simpa using hw)) ⟨.bl _, H, I, rfl, ?_⟩
    rw [show its.toArray.any (eqU x) = its.any (eqU x) by simp, any_eqU r fs]
    exact q
theorem op_notIn_seq : OpR X (compareOp .NotIn) (rIn X.K true) := by
  intro pins s σ H x y v u Q I rx ry h
  obtain ⟨p, xs, rfl, hq, fx, fs, q⟩ := h
  cases ry
  rcases hq with hq | hq
  · obtain ⟨its, r, pl, hz⟩ := I.list hq
    refine SeqAt.notIn_listAt (eqU x) pl.isList (fun w hw => mem_eqAt rx fx r fs w (by simpa using hw)) ⟨.bl _, H, I, rfl, ?_⟩
    rw [show its.toArray.any (eqU x) = its.any (eqU x) by simp, any_eqU r fs]
    exact q
  · obtain ⟨its, r, pl, hz⟩ := I.tuple hq
    refine SeqAt.notIn_tupleAt (eqU x) pl (fun w hw => mem_eqAt rx fx r fs w (by simpa using hw)) ⟨.bl _, H, I, rfl, ?_⟩
    rw [show its.toArray.any (eqU x) = its.any (eqU x) by simp, any_eqU r fs]
    exact q
theorem op_notIn_str : OpR X (compareOp .NotIn) (fun x y H Q => ∃ i j, x = .str i ∧ y = .str j ∧ Q (.bl (!(!(Builtin.Str.occurrences j i 0 j.length 1).isEmpty))) H) := by
  intro pins s σ H x y v u Q I rx ry h
  obtain ⟨i, j, rfl, rfl, q⟩ := h
  obtain ⟨t, rfl⟩ := rx
  obtain ⟨t', rfl⟩ := ry
  exact notIn_str ⟨.bl _, H, I, rfl, q⟩

/-! ### len, list(x), tuple(x) of any list or tuple that is read -/
theorem call_len_seq : CallR X (.builtin "len") (fun xs H Q => ∃ p ys, xs = [.ref p] ∧ (SqL X.K H p ys ∨ SqT X.K H p ys) ∧ Q (.int ys.length) H) := by
  intro pins s σ H xs us Q I r h
  obtain ⟨p, ys, rfl, hq, q⟩ := h
  obtain ⟨u, rfl, rx⟩ := vals1 r
  cases rx
  have hn := line63
  rcases hq with hq | hq
  · obtain ⟨its, r', pl, hz⟩ := I.list hq
    have hlen := r'.length
    exact Calls.call_len_list pl.isList (by simp only [List.size_toArray] <;> omega) ⟨.int ys.length, H, I.tok _, ⟨s.toks + 1, by rw [List.size_toArray, hlen]⟩, q⟩
  · obtain ⟨its, r', pl, hz⟩ := I.tuple hq
    have hlen := r'.length
    exact len_tuple pl (by simp only [List.size_toArray] <;> omega) ⟨.int ys.length, H, I.tok _, ⟨s.toks + 1, by rw [List.size_toArray, hlen]⟩, q⟩
theorem call_len_str : CallR X (.builtin "len") (fun xs H Q => ∃ z, xs = [.str z] ∧ z.length ≤ sizeLine ∧ Q (.int z.length) H) := by
  intro pins s σ H xs us Q I r h
  obtain ⟨z, rfl, hz, q⟩ := h
  obtain ⟨u, rfl, t, rfl⟩ := vals1 r
  have hn := line63
  exact len_str (by omega) ⟨.int z.length, H, I.tok _, ⟨_, rfl⟩, q⟩
theorem CallR.or {f : Value} {r r' : List V → Hp → VK → Prop} (h : CallR X f r) (h' : CallR X f r') : CallR X f (fun xs H Q => r xs H Q ∨ r' xs H Q) := by
  intro pins s σ H xs us Q I rs q
  rcases q with q | q
  · exact h pins s σ H xs us Q I rs q
  · exact h' pins s σ H xs us Q I rs q
theorem call_list_of : CallR X (.type "list") (fun xs H Q => ∃ p ys, xs = [.ref p] ∧ (SqL X.K H p ys ∨ SqT X.K H p ys) ∧ ∀ l, H l = none → Q (.ref l) (upd H l (.lst ys))) := by
  intro pins s σ H xs us Q I r h
  obtain ⟨p, ys, rfl, hq, q⟩ := h
  obtain ⟨u, rfl, rx⟩ := vals1 r
  cases rx
  have fin : ∀ (its : List Value), Vals ys its → ys.length ≤ sizeLine → ∀ (h' : Heap) (c' : Nat), (∀ b o', s.heap.get? b = some o' → h'.get? b = some o') →
      h'.get? s.heap.objs.size = some { cls := .type "list", dict := none, data := .seq its.toArray c', slots := #[] } → EP X pins σ Q (.ref s.heap.objs.size) { s with heap := h' } := fun its r' hz h' c' kp e =>
    ⟨.ref s.heap.objs.size, _, I.laid (t' := s.toks) kp (Nat.le_refl _) (show ObjOk X.prog X.w _ h' _ (.lst ys) from ⟨hz, its, c', r', e⟩), rfl, q _ (I.hok.fresh (Nat.le_refl _))⟩
  rcases hq with hq | hq
  · obtain ⟨its, r', pl, hz⟩ := I.list hq
    have hlen := r'.length
    obtain ⟨o, ho, hc, n, hd⟩ := pl.isList
    exact call_list_seq p (.inl rfl) ho hc hd (fun h' c' kp e => fin its r' hz h' c' kp e) (by simp only [List.size_toArray] <;> omega)
  · obtain ⟨its, r', pl, hz⟩ := I.tuple hq
    have hlen := r'.length
    obtain ⟨o, ho, hc, n, hd⟩ := pl
    exact call_list_seq p (.inr rfl) ho hc hd (fun h' c' kp e => fin its r' hz h' c' kp e) (by simp only [List.size_toArray] <;> omega)
theorem call_tuple_of : CallR X (.type "tuple") (fun xs H Q => ∃ p ys, xs = [.ref p] ∧ ((SqL X.K H p ys ∧ ∀ l, H l = none → Q (.ref l) (upd H l (.tup ys))) ∨ (SqT X.K H p ys ∧ Q (.ref p) H))) := by
  intro pins s σ H xs us Q I r h
  obtain ⟨p, ys, rfl, h⟩ := h
  obtain ⟨u, rfl, rx⟩ := vals1 r
  cases rx
  rcases h with ⟨hq, q⟩ | ⟨hq, q⟩
  · obtain ⟨its, r', pl, hz⟩ := I.list hq
    have hlen := r'.length
    refine call_tuple_list pl.isList (fun h' kp => ?_) (by simp only [List.size_toArray] <;> omega)
    have I1 : Inv X pins σ H { s with heap := h' } := I.kept (t' := s.toks) kp
    have I2 : Inv X pins σ (upd H h'.objs.size (.tup ys)) { s with heap := h'.push { cls := .type "tuple", data := .seq its.toArray } } :=
      I1.laid (t' := s.toks) (fun b o e => Heap.get?_push_of_some _ e) (Nat.le_refl _) (show ObjOk X.prog X.w _ _ _ (.tup ys) from ⟨hz, its, r', IsTup.new _ _⟩)
    exact ⟨.ref h'.objs.size, _, I2, rfl, q _ (I1.hok.fresh (Nat.le_refl _))⟩
  · obtain ⟨its, r', pl, hz⟩ := I.tuple hq
    exact call_tuple_same pl ⟨.ref p, H, I, rfl, q⟩

/-! ### the call of a builtin's method: o.m(..) -/
/-- the value is of that builtin type -/
def tyV (K : PySem.W.Frag) (T : String) (x : V) (H : Hp) : Prop := match x with
  | .str _ => T = "str"
  | .int _ => T = "int"
  | .ref p => (T = "list" ∧ ∃ xs, SqL K H p xs) ∨ (T = "tuple" ∧ ∃ o, K.lookup p = some o ∧ o.cls = .type "tuple" ∧ o.dict = none) ∨
      (T = "dict" ∧ ((∃ kvs, H p = some (.dK kvs)) ∨ ∃ kvs, H p = some (.dT kvs))) ∨ (T = "set" ∧ ∃ S n, H p = some (.set S n))
  | _ => False
theorem tyV_is {pins : List (Addr × Obj)} {σ : St} {H : Hp} {s : Shared} {T : String} {x : V} {v : Value} (I : Inv X pins σ H s) (r : RelV x v) (ty : tyV X.K T x H) :
    s.TypeIs v T ∧ ∀ a, v = .ref a → ∃ ob, s.heap.get? a = some ob ∧ ob.dict = none := by
  cases x with
  | str z =>
    obtain ⟨t, rfl⟩ := r
    cases (show T = "str" from ty)
    exact ⟨typeIs_str s z t, fun _ e => nomatch e⟩
  | int i =>
    obtain ⟨t, rfl⟩ := r
    cases (show T = "int" from ty)
    exact ⟨typeIs_int s i t, fun _ e => nomatch e⟩
  | ref p =>
    cases r
    rcases ty with ⟨rfl, xs, hq⟩ | ⟨rfl, o, hk, hc, hd⟩ | ⟨rfl, hk⟩ | ⟨rfl, S, n, hk⟩
    · obtain ⟨its, _, pl, _⟩ := I.list hq
      refine ⟨pl.isList.typeIs, fun a e => ?_⟩
      cases e
      obtain ⟨o, n, e, c, hd, _⟩ := pl
      exact ⟨o, e, hd⟩
    · refine ⟨⟨o, I.kIn p o hk, hc⟩, fun a e => ?_⟩
      cases e
      exact ⟨o, I.kIn _ o hk, hd⟩
    · have z : ∃ o, s.heap.get? p = some o ∧ o.ExactDict := by
        rcases hk with ⟨kvs, hk⟩ | ⟨kvs, hk⟩
        · obtain ⟨_, _, _, _, o, _, _, e, ex, _⟩ := I.hok p _ hk
          exact ⟨o, e, ex⟩
        · obtain ⟨_, _, _, _, o, _, _, e, ex, _⟩ := I.hok p _ hk
          exact ⟨o, e, ex⟩
      obtain ⟨o, e, ex⟩ := z
      refine ⟨⟨o, e, ex.1⟩, fun a e2 => ?_⟩
      cases e2
      exact ⟨o, e, ex.2.1⟩
    · obtain ⟨o, _, _, _, e, ex, _⟩ := I.hok p _ hk
      refine ⟨⟨o, e, ex.1⟩, fun a e2 => ?_⟩
      cases e2
      exact ⟨o, e, ex.2.1⟩
  | _ => exact False.elim ty
def tBM0 (K : PySem.W.Frag) (T : String) (r : V → List V → Hp → VK → Prop) (to : TE) : TE := fun σ H Q => to σ H fun x H1 => tyV K T x H1 ∧ r x [] H1 Q
def tBM (K : PySem.W.Frag) (T : String) (r : V → List V → Hp → VK → Prop) (to : TE) (t : TA) : TE := fun σ H Q => to σ H fun x H1 => tyV K T x H1 ∧ t σ H1 fun xs H2 => r x xs H2 Q
variable {o e : Expr} {es : List Expr} {to : TE} {t : TA} {name : Str} {apos cpos : Pos} {T id : String} {r : V → List V → Hp → VK → Prop}
theorem pe_bm0 (pa : PlainAttrs T) (slot : Slot T name id) (hty : typeOf (.builtin id) = pure (.type "method_descriptor")) (hm : MtR X id r) (ho : PE X o to)
    (hbase : attributeBase o name X.env (eval o X.env) = eval o X.env := by rfl) (hline : (apos.endLine == cpos.line) = true := by rfl) : PE X (.Call (.Attribute o name apos) [] [] cpos) (tBM0 X.K T r to) := by
  intro pins s σ H Q I h
  refine wpAny_Call_method0_late hbase hline (thn (ho pins s σ H _ I h) fun v s1 ⟨x, H1, I1, r1, ty, q1⟩ => ?_)
  obtain ⟨h1, h2⟩ := tyV_is I1 r1 ty
  exact ⟨T, id, pa, slot, hty, h1, h2, Calls.callWith_builtin rfl (PySem.evalArgs_none (hm pins s1 σ H1 x [] v [] Q I1 r1 .nil q1))⟩
theorem pe_bm (pa : PlainAttrs T) (slot : Slot T name id) (hty : typeOf (.builtin id) = pure (.type "method_descriptor")) (hm : MtR X id r) (ho : PE X o to) (ha : PA X (e :: es) t)
    (hbase : attributeBase o name X.env (eval o X.env) = eval o X.env := by rfl)
    (hfew : ((backTo cpos (starEach (e :: es) X.env)).all (fun x => !x.1) && (backToKw cpos (keywordEach [] X.env)).all (fun x => x.1.isSome)
      && decide ((e :: es).length + ([] : List Keyword).length + (if ([] : List Keyword).isEmpty then 0 else 1) < 30)) = true := by rfl)
    (hline : (apos.endLine == cpos.line) = true := by rfl) (hs : starEach (e :: es) X.env = (false, eval e X.env) :: starEach es X.env := by rfl) (hplain : (backTo cpos (starEach es X.env)).any (·.1) = false := by rfl) :
    PE X (.Call (.Attribute o name apos) (e :: es) [] cpos) (tBM X.K T r to t) := by
  intro pins s σ H Q I h
  refine wpAny_Call_method_late hbase hfew hline rfl (thn (ho pins s σ H _ I h) fun v s1 ⟨x, H1, I1, r1, ty, q1⟩ => ?_)
  obtain ⟨h1, h2⟩ := tyV_is I1 r1 ty
  refine ⟨T, id, pa, slot, hty, h1, h2, ?_⟩
  have hA := ha cpos pins s1 σ H1 _ I1 q1
  rw [hs] at hA ⊢
  refine Calls.callWith_builtin (by show (false || (backTo cpos (starEach es X.env)).any (·.1)) = false; rw [hplain] <;> rfl) (Calls.evalArgs_plain ?_)
  exact thn hA fun us s2 ⟨vs, H2, I2, r2, q2⟩ => hm pins s2 σ H2 x vs v us Q I2 r1 r2 q2
/- xs.append(e), list.index on a module's tuple .. are MtR facts of 06m -/
end
end L2

namespace L2
open PySem PySem.Spec PyProof.Rows

def MtM (X : Cx) (id : String) (r : V → List V → Hp → VK → Prop) : Prop :=
  ∀ (pins : List (Addr × Obj)) (s : Shared) (σ : St) (H : Hp) (x : V) (xs : List V) (v : Value) (us : List Value) (Q : VK), Inv X pins σ H s → RelV x v → Vals xs us → r x xs H Q →
    wpAny (model X.prog X.w) X.A (call (.builtin id) (v :: us)) (EP X pins σ Q) X.xe s

/-! ### lists of values -/
theorem Vals.one : ∀ {x : V} {us : List Value}, Vals [x] us → ∃ u, us = [u] ∧ RelV x u
  | _, _, .cons r .nil => ⟨_, rfl, r⟩
theorem Vals.two : ∀ {x y : V} {us : List Value}, Vals [x, y] us → ∃ u v, us = [u, v] ∧ RelV x u ∧ RelV y v
  | _, _, _, .cons r (.cons q .nil) => ⟨_, _, rfl, r, q⟩
theorem Vals.zero : ∀ {us : List Value}, Vals [] us → us = []
  | _, .nil => rfl
theorem Vals.dropLast {xs : List V} {us : List Value} (h : Vals xs us) : Vals xs.dropLast us.dropLast := by
  induction h with
  | nil => exact .nil
  | cons r t ih =>
    cases t with
    | nil => exact .nil
    | cons q t' => exact .cons r ih
theorem Vals.eraseIdx : ∀ {xs : List V} {us : List Value} (i : Nat), Vals xs us → Vals (xs.eraseIdx i) (us.eraseIdx i)
  | _, _, _, .nil => .nil
  | _, _, 0, .cons _ t => t
  | _, _, i + 1, .cons r t => .cons r (Vals.eraseIdx i t)
theorem Vals.reverse {xs : List V} {us : List Value} (h : Vals xs us) : Vals xs.reverse us.reverse := by
  induction h with
  | nil => exact .nil
  | cons r t ih => rw [List.reverse_cons, List.reverse_cons]; exact Vals.append ih (.cons r .nil)
theorem Vals.rep {xs : List V} {us : List Value} (h : Vals xs us) : ∀ k : Nat, Vals (List.replicate k xs).flatten (List.replicate k us).flatten
  | 0 => .nil
  | k + 1 => by
    rw [List.replicate_succ, List.replicate_succ, List.flatten_cons, List.flatten_cons]
    exact Vals.append h (Vals.rep h k)
theorem erase_last {α : Type} (l : List α) : l.eraseIdx (l.length - 1) = l.dropLast := by
  induction l with
  | nil => rfl
  | cons a r ih =>
    cases r with
    | nil => rfl
    | cons b r =>
      have e : (a :: b :: r).length - 1 = ((b :: r).length - 1) + 1 := by
        have h1 : (a :: b :: r).length = r.length + 2 := rfl
        have h2 : (b :: r).length = r.length + 1 := rfl
        omega
      rw [e, List.eraseIdx_cons_succ, ih]
      all_goals rfl
theorem len_erase {α : Type} : ∀ (l : List α) (i : Nat), (l.eraseIdx i).length ≤ l.length
  | [], _ => Nat.le_refl _
  | _ :: _, 0 => Nat.le_succ _
  | _ :: r, i + 1 => Nat.succ_le_succ (len_erase r i)
theorem foldl_rep (its : List Value) : ∀ (k : Nat) (acc : List Value),
    List.foldl (fun x1 x2 => x1 ++ x2) acc.toArray (List.replicate k its.toArray) = (acc ++ (List.replicate k its).flatten).toArray
  | 0, acc => by simp
  | k + 1, acc => by
    have e : acc.toArray ++ its.toArray = (acc ++ its).toArray := by simp
    have e2 : (acc ++ its) ++ (List.replicate k its).flatten = acc ++ (List.replicate (k + 1) its).flatten := by
      rw [List.replicate_succ, List.flatten_cons, List.append_assoc]
    rw [← e2, ← foldl_rep its k (acc ++ its), ← e, List.replicate_succ, List.foldl_cons]

section
variable {X : Cx} {pins : List (Addr × Obj)} {σ : St} {H : Hp} {s : Shared} {l b : Addr} {xs ys zs : List V}

/-! ### the two steps: a tracked list is rewritten, a new list is laid -/
theorem Inv.lset {its its' : List Value} {n : Nat} {f : Array Value → Array Value} {t' : Nat} (I : Inv X pins σ H s) (hH : H l = some (.lst xs))
    (e : s.heap.get? l = some { cls := .type "list", data := .seq its.toArray n }) (hf : f its.toArray = its'.toArray) (hv : Vals ys its') (hz : ys.length ≤ sizeLine) :
    Inv X pins σ (upd H l (.lst ys)) { s with heap := s.heap.update l (Obj.mapSeq f), toks := t' } := by
  have q := PySem.IsL.update e f
  rw [hf] at q
  refine I.write (x := l) (e := l) (by rw [hH]; exact trivial) (.inl rfl) (fun b' u hb hu => (Heap.get?_update_other s.heap (Obj.mapSeq f) (Ne.symm hb)).trans hu) ⟨_, q⟩ ?_
  exact ⟨hz, its', _, hv, q⟩
theorem Inv.lnew {its : List Value} {t' : Nat} (I : Inv X pins σ H s) (hv : Vals ys its) (hz : ys.length ≤ sizeLine) :
    Inv X pins σ (upd H s.heap.objs.size (.lst ys)) { s with heap := s.heap.push { cls := .type "list", data := .seq its.toArray }, toks := t' } :=
  I.laid (fun _ _ q => Heap.get?_push_of_some _ q) (Nat.le_refl _) ⟨hz, its, 0, hv, Heap.get?_push_size _ rfl⟩
theorem Inv.fresh (I : Inv X pins σ H s) : H s.heap.objs.size = none := I.hok.fresh (Nat.le_refl _)
theorem Inv.lstM (I : Inv X pins σ H s) (hH : H l = some (.lst xs)) : xs.length ≤ sizeLine ∧ ∃ (its : List Value) (n : Nat), Vals xs its ∧ xs.length = its.length ∧ s.heap.get? l = some { cls := .type "list", data := .seq its.toArray n } := by
  obtain ⟨z, its, n, r, e⟩ := I.hok l _ hH
  exact ⟨z, its, n, r, r.length, e⟩

theorem notLongL {n : Nat} (h : n ≤ sizeLine) : Builtin.List.listTooLong n = false := by
  unfold Builtin.List.listTooLong
  exact decide_eq_false (by omega)
end

section
variable {X : Cx}

/-! ### methods -/
def rAppend : V → List V → Hp → VK → Prop := fun x vs H Q => ∃ l xs y, x = .ref l ∧ vs = [y] ∧ H l = some (.lst xs) ∧ xs.length < sizeLine ∧ Q .non (upd H l (.lst (xs ++ [y])))
theorem mt_append : MtM X "list.append" rAppend := by
  intro pins s σ H x vs v us Q I rx rv h
  obtain ⟨l, xs, y, rfl, rfl, hH, hz, q⟩ := h
  cases rx
  obtain ⟨u, rfl, ru⟩ := rv.one
  obtain ⟨z, its, n, r, hl, e⟩ := I.lstM hH
  refine call_meets F.slot_list_append ⟨_, e, rfl⟩ F.entry_list_append (F.args_list_append_2 _ _) (PySem.list_append l its.toArray n u (by rw [List.size_toArray]; omega)) ⟨e, ?_⟩
  refine ⟨.non, _, I.lset (its' := its ++ [u]) hH e (by simp) (r.append (.cons ru .nil)) ?_, rfl, q⟩
  rw [List.length_append, List.length_singleton]
  omega

def rExtend : V → List V → Hp → VK → Prop := fun x vs H Q => ∃ l b xs zs, x = .ref l ∧ vs = [.ref b] ∧ H l = some (.lst xs) ∧ H b = some (.lst zs) ∧ xs.length + zs.length ≤ sizeLine ∧ Q .non (upd H l (.lst (xs ++ zs)))
theorem mt_extend : MtM X "list.extend" rExtend := by
  intro pins s σ H x vs v us Q I rx rv h
  obtain ⟨l, b, xs, zs, rfl, rfl, hH, hB, hz, q⟩ := h
  cases rx
  obtain ⟨u, rfl, ru⟩ := rv.one
  cases ru
  obtain ⟨z, its, n, r, hl, e⟩ := I.lstM hH
  obtain ⟨z2, its2, n2, r2, hl2, e2⟩ := I.lstM hB
  have hsz : its.toArray.size + its2.toArray.size ≤ sizeLine := by rw [List.size_toArray, List.size_toArray]; omega
  have hlong : ¬ (!its.toArray.isEmpty && Builtin.List.listTooLong (its.toArray.size + its2.toArray.size)) = true := by
    rw [notLongL hsz, Bool.and_false]
    exact Bool.false_ne_true
  refine call_meets F.slot_list_extend ⟨_, e, rfl⟩ F.entry_list_extend (F.args_list_extend_2 _ _)
    (AutoSeq1.list_extend_list_list_0 l its.toArray n b its2.toArray n2 hlong (by rw [List.size_toArray]; omega) (by omega)) ⟨e, e2, ?_⟩
  refine ⟨.non, _, I.lset (its' := its ++ its2) hH e (by simp) (r.append r2) ?_, rfl, q⟩
  rw [List.length_append]
  omega

def rPop : V → List V → Hp → VK → Prop := fun x vs H Q => ∃ l xs y, x = .ref l ∧ vs = [] ∧ H l = some (.lst xs) ∧ xs[xs.length - 1]? = some y ∧ Q y (upd H l (.lst xs.dropLast))
theorem mt_pop : MtM X "list.pop" rPop := by
  intro pins s σ H x vs v us Q I rx rv h
  obtain ⟨l, xs, y, rfl, rfl, hH, hy, q⟩ := h
  cases rx
  have hus := rv.zero
  subst hus
  obtain ⟨z, its, n, r, hl, e⟩ := I.lstM hH
  obtain ⟨u, hu, ru⟩ := r.get hy
  have hy' : its.toArray[its.toArray.size - 1]? = some u := by
    show its.toArray[its.length - 1]? = some u
    rw [← Array.getElem?_toList, ← hl]
    exact hu
  refine call_meets F.slot_list_pop ⟨_, e, rfl⟩ F.entry_list_pop (F.args_list_pop_1 _) (MeetsSeq.list_pop_last l its.toArray n u hy' (by rw [List.size_toArray]; omega)) ⟨e, ?_⟩
  refine ⟨y, _, I.lset (its' := its.dropLast) hH e ?_ r.dropLast ?_, ru, q⟩
  · show its.toArray.eraseIdxIfInBounds (its.toArray.size - 1) = its.dropLast.toArray
    rw [List.size_toArray, List.eraseIdxIfInBounds_toArray, erase_last]
  · rw [List.length_dropLast]
    omega

def rPopAt : V → List V → Hp → VK → Prop := fun x vs H Q => ∃ l xs i k y, x = .ref l ∧ vs = [.int i] ∧ H l = some (.lst xs) ∧ -(2 ^ 63) ≤ i ∧ i < 2 ^ 63 ∧ seqIndex? i xs.length = some k ∧ xs[k]? = some y ∧ Q y (upd H l (.lst (xs.eraseIdx k)))
theorem mt_popAt : MtM X "list.pop" rPopAt := by
  intro pins s σ H x vs v us Q I rx rv h
  obtain ⟨l, xs, i, k, y, rfl, rfl, hH, h1, h2, hk, hy, q⟩ := h
  cases rx
  obtain ⟨u, rfl, ru⟩ := rv.one
  obtain ⟨t, rfl⟩ := ru
  obtain ⟨z, its, n, r, hl, e⟩ := I.lstM hH
  obtain ⟨w, hw, rw'⟩ := r.get hy
  refine call_meets F.slot_list_pop ⟨_, e, rfl⟩ F.entry_list_pop (F.args_list_pop_2 _ _)
    (MeetsSeq.list_pop_at l its.toArray n i t k w (fitsIndex_both h1 h2) (by rw [List.size_toArray, ← hl]; exact hk) (by rw [← Array.getElem?_toList]; exact hw) (by rw [List.size_toArray]; omega)) ⟨e, ?_⟩
  refine ⟨y, _, I.lset (its' := its.eraseIdx k) hH e ?_ (r.eraseIdx k) ?_, rw', q⟩
  · show its.toArray.eraseIdxIfInBounds k = (its.eraseIdx k).toArray
    rw [List.eraseIdxIfInBounds_toArray]
  · have := len_erase xs k
    omega

def rReverse : V → List V → Hp → VK → Prop := fun x vs H Q => ∃ l xs, x = .ref l ∧ vs = [] ∧ H l = some (.lst xs) ∧ Q .non (upd H l (.lst xs.reverse))
theorem mt_reverse : MtM X "list.reverse" rReverse := by
  intro pins s σ H x vs v us Q I rx rv h
  obtain ⟨l, xs, rfl, rfl, hH, q⟩ := h
  cases rx
  have hus := rv.zero
  subst hus
  obtain ⟨z, its, n, r, hl, e⟩ := I.lstM hH
  refine call_meets F.slot_list_reverse ⟨_, e, rfl⟩ F.entry_list_reverse (F.args_list_reverse_1 _) (AutoSeq1.list_reverse_list_0 l its.toArray n (by rw [List.size_toArray]; omega)) ⟨e, ?_⟩
  refine ⟨.non, _, I.lset (its' := its.reverse) hH e (by simp) r.reverse ?_, rfl, q⟩
  rw [List.length_reverse]
  omega

def rClear : V → List V → Hp → VK → Prop := fun x vs H Q => ∃ l xs, x = .ref l ∧ vs = [] ∧ H l = some (.lst xs) ∧ Q .non (upd H l (.lst []))
theorem mt_clear : MtM X "list.clear" rClear := by
  intro pins s σ H x vs v us Q I rx rv h
  obtain ⟨l, xs, rfl, rfl, hH, q⟩ := h
  cases rx
  have hus := rv.zero
  subst hus
  obtain ⟨z, its, n, r, hl, e⟩ := I.lstM hH
  refine call_meets F.slot_list_clear ⟨_, e, rfl⟩ F.entry_list_clear (F.args_list_clear_1 _) (AutoSeq1.list_clear_list_0 l its.toArray n (by rw [List.size_toArray]; omega)) ⟨e, ?_⟩
  exact ⟨.non, _, I.lset (its' := []) (ys := []) hH e rfl .nil (Nat.zero_le _), rfl, q⟩

/-! ### list + list, list += list, list * int -/
def rCat : R2 := fun x y H Q => ∃ l b xs zs, x = .ref l ∧ y = .ref b ∧ H l = some (.lst xs) ∧ H b = some (.lst zs) ∧ xs.length + zs.length ≤ sizeLine ∧ ∀ p, H p = none → Q (.ref p) (upd H p (.lst (xs ++ zs)))
theorem op_cat : OpR X (binaryOp .Add) rCat := by
  intro pins s σ H x y v u Q I rx ry h
  obtain ⟨l, b, xs, zs, rfl, rfl, hH, hB, hz, q⟩ := h
  cases rx
  cases ry
  obtain ⟨z, its, n, r, hl, e⟩ := I.lstM hH
  obtain ⟨z2, its2, n2, r2, hl2, e2⟩ := I.lstM hB
  refine PySem.P.add_list e e2 ?_ (by rw [List.size_toArray, List.size_toArray]; omega)
  have ea : its.toArray ++ its2.toArray = (its ++ its2).toArray := by simp
  rw [ea]
  exact ⟨.ref _, _, I.lnew (t' := s.toks) (r.append r2) (by rw [List.length_append]; omega), rfl, q _ I.fresh⟩
/-- a list times an int (a negative one is nothing) -/
def rRep : R2 := fun x y H Q => ∃ l k xs, x = .ref l ∧ y = .int k ∧ H l = some (.lst xs) ∧ -(2 ^ 63) ≤ k ∧ k < 2 ^ 63 ∧ xs.length * k.toNat ≤ sizeLine ∧
  ∀ p, H p = none → Q (.ref p) (upd H p (.lst (List.replicate k.toNat xs).flatten))
theorem len_rep {α : Type} (xs : List α) (k : Nat) : (List.replicate k xs).flatten.length = k * xs.length := by
  induction k with
  | zero => simp
  | succ k ih => rw [List.replicate_succ, List.flatten_cons, List.length_append, ih, Nat.succ_mul, Nat.add_comm]
theorem op_rep : OpR X (binaryOp .Mult) rRep := by
  intro pins s σ H x y v u Q I rx ry h
  obtain ⟨l, k, xs, rfl, rfl, hH, h1, h2, hz, q⟩ := h
  cases rx
  obtain ⟨t, rfl⟩ := ry
  obtain ⟨z, its, n, r, hl, e⟩ := I.lstM hH
  have hlen : its.toArray.size * k.toNat ≤ sizeLine := by rw [List.size_toArray, ← hl]; exact hz
  have hcap : ¬ its.toArray.size * k.toNat > (2 ^ 63 - 1) / 8 := by
    have : (sizeLine : Nat) ≤ (2 ^ 63 - 1) / 8 := by decide
    omega
  have hfit : ¬ (!Builtin.List.listFitsIndex k) = true := by
    rw [fitsIndex_both h1 h2]
    exact Bool.false_ne_true
  have hlong : ¬ Builtin.List.listTooLong (its.toArray.size * k.toNat) = true := by
    rw [notLongL hlen]
    exact Bool.false_ne_true
  have hnew : List.foldl (fun x1 x2 => x1 ++ x2) #[] (List.replicate (if its.toArray.isEmpty = true then 0 else k.toNat) its.toArray) = (List.replicate k.toNat its).flatten.toArray := by
    have f0 : ∀ m : Nat, List.foldl (fun x1 x2 => x1 ++ x2) #[] (List.replicate m its.toArray) = (List.replicate m its).flatten.toArray := fun m => by
      have := foldl_rep its m []
      rw [List.nil_append] at this
      exact this
    rw [f0]
    cases its with
    | nil => simp
    | cons a r' => rw [if_neg (by simp)]
  refine wpAny_binaryOp_repeat_ref (T := "list") (U := "int") (by decide) ⟨_, e, rfl⟩ (fun s' => typeIs_int s' k t) noFill_list_mul F.fills_int_mul F.slot_int_rmul repeat_list F.slot_int_index.lookup
    (call_meets F.slot_int_rmul (typeIs_int s k t) F.entry_int_rmul (F.args_int_rmul_2 _ _) (int___rmul___int_list k t l its.toArray n)
      ⟨e, rfl, ⟨_, e, rfl⟩, call_meets F.slot_list_mul ⟨_, e, rfl⟩ F.entry_list_mul (F.args_list_mul_2 _ _) (AutoListH.list___mul___list_int_3 l its.toArray n k t hfit hcap hlong) ⟨e, ?_⟩⟩)
  rw [hnew]
  exact ⟨.ref _, _, I.lnew (t' := s.toks) (r.rep k.toNat) (by rw [len_rep, Nat.mul_comm]; exact hz), rfl, q _ I.fresh⟩

/-! ### del xs[i] -/
theorem del_list {pins : List (Addr × Obj)} {s : Shared} {σ : St} {H : Hp} {l : Addr} {xs : List V} {i : Int} {t : Tok} {k : Nat} {Q : Unit → Shared → Prop} (I : Inv X pins σ H s) (hH : H l = some (.lst xs))
    (h1 : -(2 ^ 63) ≤ i) (h2 : i < 2 ^ 63) (hk : seqIndex? i xs.length = some k) (h : ∀ s', Inv X pins σ (upd H l (.lst (xs.eraseIdx k))) s' → Q () s') :
    wpAny (model X.prog X.w) X.A (delItem (.ref l) (.int i t)) Q X.xe s := by
  obtain ⟨z, its, n, r, hl, e⟩ := I.lstM hH
  refine PySem.P.delItem_list (k := k) e (fitsIndex_both h1 h2) (by rw [List.size_toArray, ← hl]; exact hk) (h _ ?_) (by rw [List.size_toArray]; omega)
  refine I.lset (its' := its.eraseIdx k) (t' := s.toks) hH e ?_ (r.eraseIdx k) ?_
  · show its.toArray.eraseIdxIfInBounds k = (its.eraseIdx k).toArray
    rw [List.eraseIdxIfInBounds_toArray]
  · have := len_erase xs k
    omega
end

/-! ### xs[a:b] = ys -/
section
variable {prog : Program} {w : World} {A : Around} {E : Value → Shared → Prop} {s : Shared}
theorem splice_eq (its its2 : List Value) (a c : Nat) : its.toArray.extract 0 a ++ its2.toArray ++ its.toArray.extract c its.toArray.size = (its.take a ++ its2 ++ its.drop c).toArray := by
  apply Array.toList_inj.mp
  first
    | (simp
       exact List.take_of_length_le (by simp))
    | simp [List.take_of_length_le]
    | simp
theorem bounds_run {a c n : Nat} (hac : a ≤ c) (hc : c ≤ n) : sliceBounds (some (a : Int)) (some (c : Int)) none n = ((a : Int), (c : Int), 1) := by
  simp only [sliceBounds, Option.getD_none]
  have h1 : ¬ ((a : Int) < 0) := by omega
  have h2 : ¬ ((c : Int) < 0) := by omega
  simp only [h1, h2, if_false, show (1 : Int) > 0 by decide, if_true]
  congr 1
  · omega
  · congr 1; omega
set_option maxRecDepth 100000 in
/-- list.__setitem__ with a slice of step one and another list -/
theorem setItem_slice {l b sl : Addr} {items new : Array Value} {n n2 : Nat} {vl vu : Value} {a c : Nat} {Q : Unit → Shared → Prop}
    (e : s.heap.get? l = some { cls := .type "list", data := .seq items n }) (e2 : s.heap.get? b = some { cls := .type "list", data := .seq new n2 }) (hne : l ≠ b)
    (hs : s.heap.IsSliceOf sl vl vu .none) (pl : IsPart vl (some (a : Int))) (pu : IsPart vu (some (c : Int))) (hac : a ≤ c) (hc : c ≤ items.size)
    (hsz : items.size + new.size ≤ sizeLine) (h : Q () { s with heap := s.heap.update l (Obj.mapSeq fun xs => xs.extract 0 a ++ new ++ xs.extract c xs.size) }) :
    wpAny (model prog w) A (setItem (.ref l) (.ref sl) (.ref b)) Q E s := by
  have hl : s.heap.IsList l items := PySem.IsL.isList e
  have hb : s.heap.IsList b new := PySem.IsL.isList e2
  obtain ⟨os, hos, hcs, hds⟩ := id hs
  have hTs : s.TypeIs (.ref sl) "slice" := ⟨os, hos, hcs⟩
  have hstep : ¬ ((rawPart none == rawInt 0) = true) := Bool.false_ne_true
  have hsame : Builtin.List.listSameRef (.ref l) (.ref b) = false := by
    unfold Builtin.List.listSameRef
    exact beq_eq_false_iff_ne.mpr hne
  have hmax : (max (a : Int) (c : Int)).toNat = c := by omega
  have hz' : ((fun xs : Array Value => xs.extract 0 a ++ new ++ xs.extract c xs.size) items).size ≤ sizeLine + 1 := by
    simp only [Array.size_append, Array.size_extract]
    omega
  unfold setItem
  try with_reducible refine wpAny_holding ?_
  first | refine wpAny_bind (wpAny_pure ?_) | skip
  refine wpAny_bind (wpAny_sequenceKey hl.typeIs (by decide) ?_)
  refine wpAny_bind (wpAny_callSpecial?_slot (name := Str.ofString "__setitem__") hl.typeIs slot_list_setitem
    (wpAny_call_entry slot_list_setitem hl.typeIs entry_list_setitem ?_ (args_list_setitem _ _ _)))
  show wpAny _ _ (Builtin.List.listSubscript? (.ref sl) >>= _) _ _ s
  refine wpAny_bind ?_
  unfold Builtin.List.listSubscript?
  refine wpAny_bind (wpAny_specialOf hTs slice_no_index ?_)
  simp only [Option.isNone_none, if_true]
  refine wpAny_pure ?_
  show wpAny _ _ (typeOf (.ref sl) >>= _) _ _ s
  refine wpAny_bind (wpAny_typeOf hTs ?_)
  first
    | rw [if_neg (by decide)]
    | refine PySem.W.KFB.if_not (by decide) ?_
  rw [listSliceParts_eq]
  refine wpAny_bind (wpAny_bind (wpAny_field hos hds (x := .none) rfl (wpAny_bind (wpAny_listPart .none ?_))))
  rw [if_neg hstep]
  refine wpAny_bind (wpAny_field hos hds (x := vl) rfl (wpAny_bind (wpAny_listPart pl ?_)))
  refine wpAny_bind (wpAny_field hos hds (x := vu) rfl (wpAny_bind (wpAny_listPart pu (wpAny_pure ?_))))
  first
    | simp only [hsame, Bool.false_eq_true, if_false]
    | refine PySem.W.KFB.if_not hsame ?_
    | (dsimp only
       rw [if_neg (by rw [hsame]; exact Bool.false_ne_true)])
  refine wpAny_bind (m := Builtin.List.listAllItems (.ref b) "must assign iterable to extended slice") ?_
  unfold Builtin.List.listAllItems
  refine wpAny_bind (wpAny_typeOf hb.typeIs ?_)
  first
    | refine PySem.W.KFB.if_so (by decide) ?_
    | rw [if_pos (by decide)]
    | simp only [beq_self_eq_true, Bool.true_or, if_true]
  unfold Builtin.List.listItems
  refine wpAny_bind (wpAny_seqItems e2 rfl (wpAny_pure ?_))
  refine wpAny_bind (wpAny_bind (wpAny_seqItems e rfl (wpAny_pure ?_)))
  refine wpAny_bind (wpAny_of_eq ((sliceIndices_raw (some (a : Int)) (some (c : Int)) none items.size (by simp)).trans (congrArg (pure : Int × Int × Int → Sem (Int × Int × Int)) (bounds_run hac hc))) ?_)
  show wpAny _ _ (if ((1 : Int) == 1) = true then _ else _) _ _ s
  rw [if_pos (by decide)]
  refine wpAny_bind (wpAny_rule ?_)
  first
    | simp only [notLongL hsz, Bool.false_eq_true, if_false]
    | refine PySem.W.KFB.if_not (notLongL hsz) ?_
  first | refine wpAny_bind (wpAny_pure ?_) | skip
  show wpAny _ _ (updateSeq l (fun xs => xs.extract 0 ((a : Int)).toNat ++ new ++ xs.extract (max (a : Int) (c : Int)).toNat xs.size) >>= _) _ _ s
  rw [hmax, Int.toNat_natCast]
  refine wpAny_bind (wpAny_updateSeq (hz := Nat.le_trans (Nat.le_add_right _ _) hsz) (_hz' := hz') e rfl ?_)
  refine wpAny_bind (wpAny_letGo ?_)
  first
    | exact wpAny_bind (wpAny_pure (wpAny_pure ⟨.none, rfl, wpAny_pure h⟩))
    | exact wpAny_pure ⟨.none, rfl, wpAny_pure h⟩
end

section
variable {X : Cx}
/-- xs[a:c] = ys of another list, at the value level: sl is the slice object that was just made -/
theorem set_slice {pins : List (Addr × Obj)} {s : Shared} {σ : St} {H : Hp} {l b sl : Addr} {xs ys : List V} {a c : Int} {vl vu : Value} {Q : Unit → Shared → Prop} (I : Inv X pins σ H s)
    (hH : H l = some (.lst xs)) (hB : H b = some (.lst ys)) (hne : l ≠ b) (hs : s.heap.IsSliceOf sl vl vu .none) (ra : RelV (.int a) vl) (rc : RelV (.int c) vu) (h0 : 0 ≤ a) (hac : a ≤ c) (hc : c ≤ xs.length)
    (hz : xs.length + ys.length ≤ sizeLine) (h : ∀ s', Inv X pins σ (upd H l (.lst (xs.take a.toNat ++ ys ++ xs.drop c.toNat))) s' → Q () s') :
    wpAny (model X.prog X.w) X.A (setItem (.ref l) (.ref sl) (.ref b)) Q X.xe s := by
  obtain ⟨ta, rfl⟩ := ra
  obtain ⟨tc, rfl⟩ := rc
  obtain ⟨z, its, n, r, hl, e⟩ := I.lstM hH
  obtain ⟨z2, its2, n2, r2, hl2, e2⟩ := I.lstM hB
  obtain ⟨a', rfl⟩ := Int.eq_ofNat_of_zero_le h0
  obtain ⟨c', rfl⟩ := Int.eq_ofNat_of_zero_le (Int.le_trans h0 hac)
  simp only [Int.toNat_natCast] at h
  refine setItem_slice (a := a') (c := c') e e2 hne hs (.int _ _) (.int _ _) (by omega) (by rw [List.size_toArray]; omega) (by rw [List.size_toArray, List.size_toArray]; omega) (h _ ?_)
  refine I.lset (its' := its.take a' ++ its2 ++ its.drop c') (t' := s.toks) hH e ?_ (Vals.append (Vals.append (r.take _) r2) (r.drop _)) ?_
  · exact splice_eq its its2 a' c'
  · rw [List.length_append, List.length_append, List.length_take, List.length_drop]
    omega
end
end L2

namespace Att
open PySem PySem.W PySem.Calls PyProof.Rows

/-! ### the script -/
theorem ints_of_wellAll {P : Params} {h : Heap} : ∀ (ns : List Int) (vs : List Value), WellAll P h vs (ns.map WData.int) → IntsAre vs ns := by
  intro ns
  induction ns with
  | nil =>
    intro vs w
    rw [List.map_nil] at w
    cases w
    exact .nil
  | cons n ns ih =>
    intro vs w
    rw [List.map_cons] at w
    cases w with
    | cons a b =>
      cases a
      exact .cons _ _ (ih _ b)

theorem script_of {l : OpenLaw} {n : Nat} (hn : l.most = some n) {P : Params} {h : Heap} {args : List WData} {vals : List Value}
    (hpre : l.row.toRowW.claim.pre args = true) (hwl : WellAll P h vals args) :
    ∃ a vs ns, vals = [Value.ref a] ∧ args = [WData.list (ns.map WData.int)] ∧ h.get? a = some { cls := .type "list", data := .seq vs.toArray } ∧ IntsAre vs ns ∧ ns.length ≤ n := by
  have hsh : WShape.hasAll [] args [.list .int] = true := (pre_splitW hpre).1
  have hc : l.pre.holds [] { args := args } = true := (pre_splitW hpre).2
  obtain ⟨d, r, rfl, h1, h2⟩ := hasAllW_cons hsh
  obtain rfl := hasAllW_nil h2
  obtain ⟨xs, rfl, h3⟩ := hasW_list h1
  obtain ⟨ns, rfl⟩ := items_int h3
  have hlen : ns.length ≤ n := by
    unfold OpenLaw.pre at hc
    have h4 : (WTm.not (.lt (.lit (.int (n : Int))) (.len (.arg 0)))).holds [] { args := [.list (ns.map .int)] } = true := by
      have h4 := (holds_andW hc).1
      rw [hn] at h4
      exact h4
    have h5 := condW_of h4 (w_not (w_lt w_lit (w_len_list (w_arg rfl))))
    rw [List.length_map] at h5
    refine Nat.le_of_not_lt fun q => ?_
    have q' : (n : Int) < ((ns.length : Nat) : Int) := by omega
    first
      | (rw [decide_eq_true q'] at h5; exact absurd h5 (by decide))
      | (simp at h5; omega)
  cases hwl with
  | cons w1 w2 =>
    cases w2
    cases w1 with
    | list ho hall => exact ⟨_, _, ns, rfl, rfl, ho, ints_of_wellAll ns _ hall, hlen⟩

theorem post_true (l : OpenLaw) (args : List WData) : l.row.toRowW.claim.post args (.bool true) args = true :=
  postW_of (r := l.row.toRowW) (X := (true == true))
    (show WShape.has [] (.bool true) .bool = true by first | rfl | decide | simp [WShape.has, WShape.arms, WShape.armsAll])
    (show (WTm.eq .res (.lit (.bool true))).value [] { args := args, res := some (.bool true), after := args } = some (.bool (true == true)) from w_eq_bool (w_res rfl) w_lit) rfl

/-! ### the attachment: holds_open's last premise (the goal 'hc' behind k_head) from a wpAny of the law's body -/
theorem attach {l : OpenLaw} {n : Nat} {q : Program} {loose : List Str} {XP : (Str → Option Value) → Heap → Prop} {YP : World → Heap → Prop} {d : DefRec} {x : Str}
    (hn : l.most = some n) (hdf : d.params.defaults = [])
    (hbind : ∀ pm cd doc v : Value, bindArgs (docDef d.name d.params d.body d.scope pm cd doc) ⟨[v], []⟩ = pure [(x, v)])
    (hx : d.scope.names.lookup x = some .local ∨ d.scope.names.lookup x = some .cell)
    (hk : d.scope.kind = .function) (hco : d.scope.isCoroutine = false) (hgen : d.scope.isGenerator = false)
    (body : ∀ (w : World) (s₀ s₁ s : Shared) (mg mb : Str → Option Value) (fa : Addr) (o : Obj) (pm cd doc : Value) (a : Addr) (vs : List Value) (ns : List Int),
      Ground q loose [] XP w s₀ mg mb s₁.heap → YP w s₁.heap →
      s₁.heap.get? fa = some o → o.data = .func (docDef d.name d.params d.body d.scope pm cd doc) → s₁.heap.CodeRec cd d.name → mg d.name = some (.ref fa) →
      s₁.heap.get? a = some { cls := .type "list", data := .seq vs.toArray } → IntsAre vs ns → ns.length ≤ n →
      s.gens = #[] → s.os = s₁.os →
      Fr s₁.heap s₁.heap.objs.size s.heap (bindL (envOfC d.name d.scope s₁.heap.objs.size fa cd).kindOf [(x, .ref a)] fun _ => none) →
      Cl s₁.heap.objs.size (cellsFrom (s₁.heap.objs.size + 1) d.scope.names []) s.heap (bindC (envOfC d.name d.scope s₁.heap.objs.size fa cd).kindOf [(x, .ref a)] fun _ => none) →
      wpAny (model l.prog w) (callerA.deeper (envOfC d.name d.scope s₁.heap.objs.size fa cd)) (execs d.body (envOfC d.name d.scope s₁.heap.objs.size fa cd))
        (fun f s' => f = .ret (.bool true) ∧ OldK s₁.heap s'.heap ∧ s'.os = s₁.os ∧ AllBare s'.gens) (fun _ _ => False) s) :
    WalkO q loose XP YP l.row.toRowW d [] (fun f vs => PySem.call f vs) := by
  intro w s₀ s₁ mg mb G Y fa o pm cd doc dV kV ho hd hcd hD hmg hg args vals as hpre hlay hrd hwl hlo
  obtain rfl : dV = .none := Dflts.none hD hdf
  obtain rfl : kV = .none := Dflts.noKw hD
  obtain ⟨a, vs, ns, rfl, rfl, hobj, hints, hlen⟩ := script_of hn hpre hwl
  refine enter_call ?_
  refine call_cells_ret (o := o) (by rw [depth_caller]; decide) ho (fd_plain hd) G.T.nolimit hcd (hbind pm cd doc (.ref a)) (fun y hy => ?_) (fun h₁ tk F X => ?_) hco hgen hk
  · obtain rfl : y = (x, Value.ref a) := List.mem_singleton.mp hy
    rcases hx with e | e
    · exact .inl e
    · exact .inr ⟨e, cellsFrom_some _ _ _ (.inl e)⟩
  · refine wpAny_mono (body w s₀ s₁ { s₁ with heap := h₁, toks := tk } mg mb fa o pm cd doc a vs ns G Y ho (fd_plain hd) hcd hmg hobj hints hlen hg rfl F X) (fun f s' hq => ?_) (fun _ _ hq => hq)
    obtain ⟨rfl, h2, h3, h4⟩ := hq
    exact ⟨.inl ⟨.bool true, .bool true, [], rfl, fun _ => rfl, .bool true, post_true l _, fun _ => ⟨List.Pairwise.nil, fun _ hm => (nomatch hm)⟩⟩, h2, h3, h4⟩

/-- the same from a codeAny of the CALL (for a layer whose function contracts speak of calls) -/
theorem attach_call {l : OpenLaw} {n : Nat} {q : Program} {loose : List Str} {XP : (Str → Option Value) → Heap → Prop} {YP : World → Heap → Prop} {d : DefRec}
    (hn : l.most = some n) (hdf : d.params.defaults = [])
    (call : ∀ (w : World) (s₀ s₁ : Shared) (mg mb : Str → Option Value) (fa : Addr) (o : Obj) (pm cd doc : Value) (a : Addr) (vs : List Value) (ns : List Int),
      Ground q loose [] XP w s₀ mg mb s₁.heap → YP w s₁.heap →
      s₁.heap.get? fa = some o → o.data = .func (docDef d.name d.params d.body d.scope pm cd doc) → s₁.heap.CodeRec cd d.name → mg d.name = some (.ref fa) →
      s₁.heap.get? a = some { cls := .type "list", data := .seq vs.toArray } → IntsAre vs ns → ns.length ≤ n → s₁.gens = #[] →
      codeAny (model l.prog w) callerA (.call (.ref fa) ⟨[.ref a], []⟩) (fun r s' => r = .ok (.ret (.bool true)) ∧ OldK s₁.heap s'.heap ∧ s'.os = s₁.os ∧ AllBare s'.gens) s₁) :
    WalkO q loose XP YP l.row.toRowW d [] (fun f vs => PySem.call f vs) := by
  intro w s₀ s₁ mg mb G Y fa o pm cd doc dV kV ho hd hcd hD hmg hg args vals as hpre hlay hrd hwl hlo
  obtain rfl : dV = .none := Dflts.none hD hdf
  obtain rfl : kV = .none := Dflts.noKw hD
  obtain ⟨a, vs, ns, rfl, rfl, hobj, hints, hlen⟩ := script_of hn hpre hwl
  refine enter_call (codeAny_mono (call w s₀ s₁ mg mb fa o pm cd doc a vs ns G Y ho (fd_plain hd) hcd hmg hobj hints hlen hg) fun r s' hq => ?_)
  obtain ⟨rfl, h2, h3, h4⟩ := hq
  exact ⟨.inl ⟨.bool true, .bool true, [], rfl, fun _ => rfl, .bool true, post_true l _, fun _ => ⟨List.Pairwise.nil, fun _ hm => (nomatch hm)⟩⟩, h2, h3, h4⟩

/-- the same where the top left finished generators (o_head chose holds_openN): nothing may have changed at all and no generator may be left -/
theorem attachN {l : OpenLaw} {n : Nat} {q : Program} {loose : List Str} {XP : (Str → Option Value) → Heap → Prop} {YP : World → Heap → Prop} {d : DefRec} {x : Str}
    (hn : l.most = some n) (hdf : d.params.defaults = [])
    (hbind : ∀ pm cd doc v : Value, bindArgs (docDef d.name d.params d.body d.scope pm cd doc) ⟨[v], []⟩ = pure [(x, v)])
    (hx : d.scope.names.lookup x = some .local ∨ d.scope.names.lookup x = some .cell)
    (hk : d.scope.kind = .function) (hco : d.scope.isCoroutine = false) (hgen : d.scope.isGenerator = false)
    (body : ∀ (w : World) (s₀ s₁ s : Shared) (mg mb : Str → Option Value) (fa : Addr) (o : Obj) (pm cd doc : Value) (a : Addr) (vs : List Value) (ns : List Int),
      Ground q loose [] XP w s₀ mg mb s₁.heap → YP w s₁.heap →
      s₁.heap.get? fa = some o → o.data = .func (docDef d.name d.params d.body d.scope pm cd doc) → s₁.heap.CodeRec cd d.name → mg d.name = some (.ref fa) →
      s₁.heap.get? a = some { cls := .type "list", data := .seq vs.toArray } → IntsAre vs ns → ns.length ≤ n →
      s.gens = #[] → s.os = s₁.os →
      Fr s₁.heap s₁.heap.objs.size s.heap (bindL (envOfC d.name d.scope s₁.heap.objs.size fa cd).kindOf [(x, .ref a)] fun _ => none) →
      Cl s₁.heap.objs.size (cellsFrom (s₁.heap.objs.size + 1) d.scope.names []) s.heap (bindC (envOfC d.name d.scope s₁.heap.objs.size fa cd).kindOf [(x, .ref a)] fun _ => none) →
      wpAny (model l.prog w) (callerA.deeper (envOfC d.name d.scope s₁.heap.objs.size fa cd)) (execs d.body (envOfC d.name d.scope s₁.heap.objs.size fa cd))
        (fun f s' => f = .ret (.bool true) ∧ (∀ b o, s₁.heap.get? b = some o → s'.heap.get? b = some o) ∧ s'.os = s₁.os ∧ s'.gens = #[]) (fun _ _ => False) s) :
    WalkN q loose XP YP l.row.toRowW d [] (fun f vs => PySem.call f vs) := by
  intro w s₀ s₁ mg mb G Y fa o pm cd doc dV kV ho hd hcd hD hmg hg args vals as hpre hlay hrd hwl hlo
  obtain rfl : dV = .none := Dflts.none hD hdf
  obtain rfl : kV = .none := Dflts.noKw hD
  obtain ⟨a, vs, ns, rfl, rfl, hobj, hints, hlen⟩ := script_of hn hpre hwl
  refine enter_callW ?_
  refine call_cells_ret (o := o) (by rw [depth_caller]; decide) ho (fd_plain hd) G.T.nolimit hcd (hbind pm cd doc (.ref a)) (fun y hy => ?_) (fun h₁ tk F X => ?_) hco hgen hk
  · obtain rfl : y = (x, Value.ref a) := List.mem_singleton.mp hy
    rcases hx with e | e
    · exact .inl e
    · exact .inr ⟨e, cellsFrom_some _ _ _ (.inl e)⟩
  · refine wpAny_mono (body w s₀ s₁ { s₁ with heap := h₁, toks := tk } mg mb fa o pm cd doc a vs ns G Y ho (fd_plain hd) hcd hmg hobj hints hlen hg rfl F X) (fun f s' hq => ?_) (fun _ _ hq => hq)
    obtain ⟨rfl, h2, h3, h4⟩ := hq
    exact ⟨.inl ⟨.bool true, .bool true, [], rfl, fun _ => rfl, .bool true, post_true l _, fun _ => ⟨List.Pairwise.nil, fun _ hm => (nomatch hm)⟩⟩, h2, h3, h4⟩

/-! ### rules over ANY heap (no ledger) from facts about the written part K: the library's own take a ledger (News) for what they write -/
section
variable {prog : Program} {w : World} {A : Around} {E : Value → Shared → Prop} {s : Shared} {K : Frag}

/-- a def of the module, or a method (qual 'C.m'), entered: the frame is the next address; cells behind it -/
theorem call_fn {R : Result → Shared → Prop} {name qual : Str} {params : Arguments} {body : List Stmt} {scope : Scope} {dV kV doc pm cdv ct oc : Value} {an od : Option Addr} {osl : Array (Option Value)} {f : Addr} {args : Args} {binds : List (Str × Value)}
    (X : K.In s.heap) (hlim : s.heap.NoLimit) (ho : K.lookup f = some ⟨oc, od, .func (fnOf name qual params body scope dV kV doc pm an cdv ct), osl⟩) (hcd : codeIn K cdv qual = true) (hroom : A.depth < recursionLimit)
    (hbind : BindsTo s (fnOf name qual params body scope dV kV doc pm an cdv ct) args binds)
    (hkind : (binds.all fun y => scope.names.lookup y.1 == some .local || scope.names.lookup y.1 == some .cell) = true)
    (h : ∀ s₁, InCallC s s.heap.objs.size (bindL (envOfC qual scope s.heap.objs.size f cdv).kindOf binds fun _ => none) (cellsFrom (s.heap.objs.size + 1) scope.names [])
        (bindC (envOfC qual scope s.heap.objs.size f cdv).kindOf binds fun _ => none) s₁ →
      wpAny (model prog w) (A.deeper (envOfC qual scope s.heap.objs.size f cdv)) (execs body (envOfC qual scope s.heap.objs.size f cdv))
        (fun fl s' => R (.ok (.ret (match fl with | .ret v => v | _ => .none))) s')
        (fun e s' => wpAny (model prog w) (A.deeper (envOfC qual scope s.heap.objs.size f cdv)) (leaving (envOfC qual scope s.heap.objs.size f cdv) e) (fun _ s'' => R (.error e) s'') (fun e' s'' => R (.error e') s'') s') s₁)
    (hco : scope.isCoroutine = false) (hgen : scope.isGenerator = false) (hk : scope.kind = .function) : codeAny (model prog w) A (.call (.ref f) args) R s := by
  refine codeAny_call_function hroom (X _ _ ho) rfl hco hgen rfl (codeRec_of X hcd) (hbind _ _ _ _ ?_)
  refine wpAny_newFunctionEnv_cells hk (kindsX hkind _) fun env he s₁ x => ?_
  subst he
  exact ⟨hlim.keeps x.toInCall.keep, codeAny_func (h s₁ x)⟩

/-- C(..): dict at size, instance at size + 1, then __init__ -/
theorem make_obj {R : Result → Shared → Prop} {C fI : Addr} {rest : List Value} {kw : List (Str × Value)}
    (X : K.In s.heap) (hm : makesIn K C = true) (hi : findIn K (.ref C) "__init__" = some (some (.ref fI))) (hf : isFn K (.ref fI) = true)
    (h : codeAny (model prog w) (A.under (.builtin "type.__call__" ⟨.ref C :: rest, kw⟩)) (.call (.ref fI) ⟨.ref (s.heap.objs.size + 1) :: rest, kw⟩) (InitBack (s.heap.objs.size + 1) R)
      { s with heap := (s.heap.push emptyDict).push (instObj C s.heap.objs.size) }) : codeAny (model prog w) A (.call (.ref C) ⟨rest, kw⟩) R s := by
  obtain ⟨hh, g, d, t, os⟩ := s
  exact make_core (makes_of X hm) (looks_findIn X hi) (fun self => bind_fn X self (beq_iff_eq.mp hf)) (.inl rfl) h

/-- x.name where the instance's dict holds the name and the class does not -/
theorem get_field {x C : Addr} {ox : Obj} {es : List DictEntry} {n : Nat} {name : Str} {expr : Bool} {v : Value} {Q : Value → Shared → Prop}
    (X : K.In s.heap) (I : PySem.W.InstAt s.heap x ox C (some (dictOf es n))) (hg : plainGet K C name = true) (hh : hasDictIn K C = true) (ha : findIn K (.ref C) name = some none)
    (hl : getL name es = some (some v)) (hv : handedIn v = true) (h : Q v { s with toks := s.toks + 1 }) : wpAny (model prog w) A (getAttr (.ref x) name expr) Q E s :=
  get_value X I (plainGet_of hg).1 (findObj_own hh ha rfl hl) hv h

/-- x.m(..): the method found in the class -/
theorem get_method {x C f : Addr} {ox : Obj} {es : List DictEntry} {n : Nat} {name : Str} {pl : Sem Bool} {Q : Value × List Value → Shared → Prop}
    (X : K.In s.heap) (I : PySem.W.InstAt s.heap x ox C (some (dictOf es n))) (hg : plainGet K C name = true) (hf : findIn K (.ref C) name = some (some (.ref f))) (ht : isFn K (.ref f) = true)
    (hl : getL name es = some none) (h : Q (.ref f, [.ref x]) s) : wpAny (model prog w) A (getMethod (.ref x) name pl) Q E s :=
  method_fn X I (plainGet_of hg).1 (plainGet_of hg).2 hf (beq_iff_eq.mp ht) (by show (lookIn name (dictOf es n)).map _ = _; rw [lookIn_dict, hl]; rfl) h

/-! the whole heap as the ledger: makes every rule that writes through a ledger a rule over any heap -/
def noObjs (h : Heap) : Heap := { h with objs := #[] }
theorem noObjs_get (h : Heap) (b : Addr) : (noObjs h).get? b = none := by
  cases e : (noObjs h).get? b with
  | none => rfl
  | some o => exact absurd (Heap.lt_size e) (Nat.not_lt_zero _)
def ledger (h : Heap) (L d : Addr) : List (Addr × Obj) := (List.range h.objs.size).filterMap fun a => if a = L ∨ a = d then none else (h.get? a).map fun o => (a, o)
theorem mem_ledger {h : Heap} {L d a : Addr} {o : Obj} : (a, o) ∈ ledger h L d ↔ a ≠ L ∧ a ≠ d ∧ h.get? a = some o := by
  unfold ledger
  rw [List.mem_filterMap]
  constructor
  · rintro ⟨b, _, e⟩
    split at e
    · cases e
    · rename_i hb
      obtain ⟨o', ho, e'⟩ := Option.map_eq_some_iff.mp e
      cases e'
      exact ⟨fun q => hb (.inl q), fun q => hb (.inr q), ho⟩
  · rintro ⟨n1, n2, ho⟩
    refine ⟨a, List.mem_range.mpr (Heap.lt_size ho), ?_⟩
    rw [if_neg (show ¬ (a = L ∨ a = d) from fun q => q.elim n1 n2), ho] <;> rfl
theorem news_ledger {h : Heap} {L d : Addr} {od : Obj} (hne : d ≠ L) (ho : h.get? d = some od) : News (noObjs h) L h ([] ++ (d, od) :: ledger h L d) := by
  rintro ⟨a, o⟩ hp
  rcases List.mem_cons.mp hp with e | hp
  · cases e
    exact ⟨ho, hne, noObjs_get _ _⟩
  · obtain ⟨n1, n2, e⟩ := mem_ledger.mp hp
    exact ⟨e, n1, noObjs_get _ _⟩
theorem fr_all {h : Heap} {L : Addr} {m : Str → Option Value} (n : h.Ns L m) : Fr (noObjs h) L h m :=
  ⟨n, fun b o e => (by rw [noObjs_get] at e; cases e), Nat.zero_le _⟩
/-- Upd of the head entry (for append_K, setItem_K ..) -/
theorem upd_ledger {h : Heap} {L d : Addr} {o o' : Obj} : Upd d o o' ((d, o) :: ledger h L d) ((d, o') :: ledger h L d) :=
  .head fun ⟨_, _⟩ hp => (mem_ledger.mp hp).2.1

/-- x.name = v over any heap: L is any namespace of the heap (the frame's, say): its map stays, its object is not told; all else but the dict stays -/
theorem set_field {x C dx L : Addr} {ox : Obj} {m : Str → Option Value} {es es' : List DictEntry} {n n' : Nat} {name : Str} {v : Value} {Q : Unit → Shared → Prop}
    (X : K.In s.heap) (I : PySem.W.InstAt s.heap x ox C (some (dictOf es n))) (hd : ox.dict = some dx) (hL : s.heap.Ns L m) (hne : dx ≠ L)
    (hs : findIn K (.ref C) "__setattr__" = some (some (.builtin "object.__setattr__"))) (hp : plainOver K C = true) (ht : takerIn K C name = some none) (hh : hasDictIn K C = true) (hl : (getL name es).isSome = true)
    (e : (putL name (PyData.keyHash w.params name) (.str name (s.toks + 1)) v es, putN name es n) = (es', n')) (hz : es'.length ≤ 1000)
    (h : ∀ h' : Heap, h'.Ns L m → h'.get? dx = some (dictOf es' n') → (∀ b o, b ≠ dx → b ≠ L → s.heap.get? b = some o → h'.get? b = some o) → Q () { s with heap := h', toks := s.toks + 2 }) :
    wpAny (model prog w) A (setAttr (.ref x) name v) Q E s := by
  obtain ⟨e1, e2⟩ := Prod.mk.inj e
  have hdx : s.heap.get? dx = some (dictOf es n) := by
    have := I.dict
    rw [hd] at this
    exact this
  refine set_plain X I hs (osa_dict (s := { s with toks := s.toks + 1 }) (h₀ := noObjs s.heap) (L := L) (m := m) (od := dictOf es n) (od' := dictOf es' n') (es := es') (n := n') (pre := []) (post := ledger s.heap L dx)
    (fr_all hL) (news_ledger hne hdx) X I hd hp ht hh hl (fun _ q => nomatch q) (fun ⟨_, _⟩ q => (mem_ledger.mp q).2.1) (by rw [putName_dict, e1, e2]) rfl hz fun h' F' N' => ?_)
  exact h h' F'.ns (N'.get (List.Mem.head _)) fun b o n1 n2 ho => N'.get (List.Mem.tail _ (mem_ledger.mpr ⟨n2, n1, ho⟩))
end
end Att

namespace L2
open PySem PySem.Spec PyProof.Rows

theorem vals_ints : ∀ {vs : List Value} {ns : List Int}, IntsAre vs ns → Vals (ns.map V.int) vs
  | _, _, .nil => .nil
  | _, _, .cons n t h => .cons ⟨t, rfl⟩ (vals_ints h)

/-- nothing is tracked but the script, known to the object (or it is an object of the module) -/
def Only (H : Hp) : Prop := ∀ b, H b = none ∨ ∃ o xs, H b = some (.frz o (.lst xs))

/-- THE HEAD: the law's promise, at the heap behind the top. F, the promise of the law's def, may use that base is part of the heap (so K.In base, base.Ns mainGlobals mg stand in Mod) -/
theorem law_call {P : Program} {w : World} {K : PySem.W.Frag} {mg mb : Str → Option Value} {CX : CXT} {k : Nat} {fa a : Addr} {fd : FuncData} {x : Str} {sp : Sp} {s₁ : Shared} {vs : List Value} {ns : List Int}
    (KX : K.In s₁.heap) (hns : s₁.heap.Ns mainGlobals mg) (hb : s₁.heap.Ns builtinsNs mb) (hbb : ∀ x : Str, x ≠ "__name__" → mb x = bootBuiltins x) (hlim : s₁.heap.NoLimit) (hg : s₁.gens = #[])
    (ha : s₁.heap.get? a = some { cls := .type "list", data := .seq vs.toArray }) (hi : IntsAre vs ns) (hl : ns.length ≤ sizeLine) (hr : Room k callerA)
    (F : ∀ base : Heap, K.In base → base.Ns mainGlobals mg → FnOk P w K mg base CX k fa fd [x] sp) (hbind : ∀ (s : Shared) (u : Value), BindsTo s fd ⟨[u], []⟩ [(x, u)])
    (hsp : ∀ H : Hp, Only H → SqL K H a (ns.map V.int) → sp [.ref a] H (fun v _ => v = .bl true) fun _ _ _ => False)
    (hCX : ∀ H e s', CX [] H s₁ (fun _ _ _ => False) e s' → False) :
    codeAny (model P w) callerA (.call (.ref fa) ⟨[.ref a], []⟩) (fun r s' => r = .ok (.ret (.bool true)) ∧ OldK s₁.heap s'.heap ∧ s'.os = s₁.os ∧ AllBare s'.gens) s₁ := by
  have rv := vals_ints hi
  have lenV := hi.length
  -- from an abstract heap in which nothing but the script may be tracked
  have core : ∀ H : Hp, Only H → SqL K H a (ns.map V.int) → HOk P w H s₁.heap → (∀ b, H b ≠ none → b = a) → (H a ≠ none → K.lookup a = none) →
      codeAny (model P w) callerA (.call (.ref fa) ⟨[.ref a], []⟩) (fun r s' => r = .ok (.ret (.bool true)) ∧ OldK s₁.heap s'.heap ∧ s'.os = s₁.os ∧ AllBare s'.gens) s₁ := by
    intro H hO hS hok hA hK
    have base_of : ∀ {b : Addr} {o : Obj}, s₁.heap.get? b = some o → H b = none → (hidT s₁.heap H).get? b = some o := fun e n => hidT_get e n
    have noA : ∀ {b : Addr} {o : Obj} {es : Array DictEntry} {ep : Nat}, s₁.heap.get? b = some o → o.data = .dict es ep → H b = none := fun {b o es ep} e d => by
      cases q : H b with
      | none => rfl
      | some u =>
        have e' : b = a := hA b (by rw [q]; simp)
        subst e'
        rw [ha] at e; cases e
        have d' : Data.seq vs.toArray _ = Data.dict es ep := d
        cases d'
    have nsK : ∀ {b : Addr} {m : Str → Option Value}, s₁.heap.Ns b m → (hidT s₁.heap H).Ns b m := fun {b m} ⟨o, es, ep, e, d, r⟩ => ⟨o, es, ep, base_of e (noA e d), d, r⟩
    have hKb : K.In (hidT s₁.heap H) := fun b o e => base_of (KX b o e) (by
      cases q : H b with
      | none => rfl
      | some u =>
        have e' : b = a := hA b (by rw [q]; simp)
        subst e'
        rw [hK (by rw [q]; simp)] at e; cases e)
    have hM : Mod K mg (hidT s₁.heap H) := ⟨hKb, nsK hns, ⟨mb, nsK hb, hbb⟩, let ⟨mc, h1, h2⟩ := hlim; ⟨mc, nsK h1, h2⟩⟩
    have e0 : Env0 P w K mg (hidT s₁.heap H) callerA [] s₁ H := ⟨rfl, hM, fun b o e => of_hidT e, Nat.le_of_eq (hidT_size _ _), trivial, fun b hb => absurd (show b ∈ ([] : List Addr) from hb) (by simp), hok, .of_eq hg⟩
    refine codeAny_mono ((F _ hKb (nsK hns)).run callerA [] s₁ H ⟨[.ref a], []⟩ [.ref a] [.ref a] _ _ hr e0 (hbind s₁ (.ref a)) (.cons rfl .nil) (hsp H hO hS)) fun r s' h => ?_
    cases r with
    | error e => exact (hCX H e s' h).elim
    | ok fl =>
      cases fl with
      | next => exact False.elim h
      | brk => exact False.elim h
      | cont => exact False.elim h
      | ret u =>
        obtain ⟨v, H', os, bare, un, hok', r', q⟩ := h
        have q' : v = .bl true := q
        subst q'
        obtain rfl : u = Value.bool true := r'
        refine ⟨rfl, OldK.of_keep fun b o e => ?_, os, bare⟩
        cases q : H b with
        | none => exact un.keep b o e q (by intro z; exact absurd (show b ∈ ([] : List Addr) from z) (by simp)) (by simp)
        | some u =>
          rcases hO b with z | ⟨ob, xs, z⟩
          · rw [q] at z; cases z
          · have z2 := un.frzs b ob _ z
            obtain ⟨e1, _⟩ := hok b _ z
            obtain ⟨e2, _⟩ := hok' b _ z2
            rw [e] at e1; cases e1
            exact e2
  cases hk : K.lookup a with
  | some o =>
    -- the script is one of the module's own objects
    have e := KX a o hk
    rw [ha] at e
    cases e
    refine core (fun _ => none) (fun _ => .inl rfl) (.inr ⟨_, vs.toArray, _, hk, rfl, rfl, rfl, by rw [List.size_toArray, lenV]; exact hl, by simpa using rv⟩) (fun b u z => by have z' : (none : Option HO) = some u := z; cases z') (fun b z => absurd rfl z) fun z => absurd rfl z
  | none =>
    refine core (fun b => if b = a then some (.frz { cls := .type "list", data := .seq vs.toArray } (.lst (ns.map V.int))) else none) (fun b => ?_) (.inl (.inr ⟨{ cls := .type "list", data := .seq vs.toArray }, if_pos rfl⟩)) (fun b u z => ?_) (fun b z => ?_) fun _ => hk
    · by_cases hb : b = a
      · exact .inr ⟨_, _, if_pos hb⟩
      · exact .inl (if_neg hb)
    · by_cases hb : b = a
      · have z' := (if_pos hb).symm.trans z
        cases z'
        subst hb
        exact ⟨ha, by rw [List.length_map]; exact hl, vs, _, rv, ha⟩
      · have z' := (if_neg hb).symm.trans z
        cases z'
    · by_cases hb : b = a
      · exact hb
      · exact absurd (if_neg hb) z
end L2

namespace L2
open PySem PySem.Spec PyProof.Rows

abbrev KOf {K : PySem.W.Frag} {h : Heap} (_ : K.In h) : PySem.W.Frag := K

/-- the goal that k_head leaves (case hc), from the law's promise. F gives the function object fd (K's own) once, then the promise over every base -/
theorem walk_of {l : PySem.W.OpenLaw} {n k : Nat} {q : Program} {loose : List Str} {XP : (Str → Option Value) → Heap → Prop} {YP : World → Heap → Prop} {d : DefRec} {K : Params → PySem.W.Frag} {CX : World → CXT} {sp : World → Sp} {x : Str}
    (hn : l.most = some n) (hn2 : n ≤ sizeLine) (hdf : d.params.defaults = []) (hr : Room k callerA)
    (hY : ∀ (w : World) (h : Heap), YP w h → (K w.params).In h)
    (F : ∀ (w : World) (mg : Str → Option Value) (fa : Addr) (h : Heap), (K w.params).In h → h.Ns mainGlobals mg → mg d.name = some (.ref fa) →
      ∃ fd : FuncData, (∀ (s : Shared) (u : Value), BindsTo s fd ⟨[u], []⟩ [(x, u)]) ∧
        ∀ base : Heap, (K w.params).In base → base.Ns mainGlobals mg → FnOk l.prog w (K w.params) mg base (CX w) k fa fd [x] (sp w))
    (hsp : ∀ (w : World) (H : Hp) (a : Addr) (ns : List Int), ns.length ≤ n → Only H → SqL (K w.params) H a (ns.map V.int) → sp w [.ref a] H (fun v _ => v = .bl true) fun _ _ _ => False)
    (hCX : ∀ (w : World) (H : Hp) (s : Shared) (e : Value) (s' : Shared), CX w [] H s (fun _ _ _ => False) e s' → False) :
    PySem.W.WalkO q loose XP YP l.row.toRowW d [] (fun f vs => PySem.call f vs) := by
  refine Att.attach_call hn hdf fun w s₀ s₁ mg mb fa o pm cd doc a vs ns G Y ho hd hcd hmg hobj hints hlen hg => ?_
  have KX := hY w _ Y
  obtain ⟨fd, hb, hF⟩ := F w mg fa _ KX G.T.g hmg
  exact law_call KX G.T.g G.T.b G.T.builtins G.T.nolimit hg hobj hints (Nat.le_trans hlen hn2) hr hF hb (fun H hO hS => hsp w H a ns hlen hO hS) fun H e s' => hCX w H s₁ e s'
/-- the same where the promise hangs on the written part alone: (sp := My.sp_law), no hole under a binder -/
theorem walk_ofK {l : PySem.W.OpenLaw} {n k : Nat} {q : Program} {loose : List Str} {XP : (Str → Option Value) → Heap → Prop} {YP : World → Heap → Prop} {d : DefRec} {K : Params → PySem.W.Frag} {CX : CXT} {sp : PySem.W.Frag → Sp} {x : Str}
    (hn : l.most = some n) (hn2 : n ≤ sizeLine) (hdf : d.params.defaults = []) (hr : Room k callerA)
    (hY : ∀ (w : World) (h : Heap), YP w h → (K w.params).In h)
    (F : ∀ (w : World) (mg : Str → Option Value) (fa : Addr) (h : Heap), (K w.params).In h → h.Ns mainGlobals mg → mg d.name = some (.ref fa) →
      ∃ fd : FuncData, (∀ (s : Shared) (u : Value), BindsTo s fd ⟨[u], []⟩ [(x, u)]) ∧
        ∀ base : Heap, (K w.params).In base → base.Ns mainGlobals mg → FnOk l.prog w (K w.params) mg base CX k fa fd [x] (sp (K w.params)))
    (hsp : ∀ (K : PySem.W.Frag) (H : Hp) (a : Addr) (ns : List Int), ns.length ≤ n → Only H → SqL K H a (ns.map V.int) → sp K [.ref a] H (fun v _ => v = .bl true) fun _ _ _ => False)
    (hCX : ∀ (H : Hp) (s : Shared) (e : Value) (s' : Shared), CX [] H s (fun _ _ _ => False) e s' → False) :
    PySem.W.WalkO q loose XP YP l.row.toRowW d [] (fun f vs => PySem.call f vs) :=
  walk_of (K := K) (CX := fun _ => CX) (sp := fun w => sp (K w.params)) hn hn2 hdf hr hY F (fun w H a ns h1 h2 h3 => hsp (K w.params) H a ns h1 h2 h3) fun _ H s e s' => hCX H s e s'
end L2

/- THE LAST THEOREM (shape; LID, My.* are yours):
   My.Adr: a structure of the addresses that your layer names (classes, functions); My.Txt K t: a structure (Prop) of the equations over K;
   My.txt_mk : {K} {implicit addresses ..} (e1 : nsIn K mainGlobals "law" = some (some (.ref f))) (e2 : K.lookup f = some ⟨oc, od, .func (fnOf "law" "law" params body scope dV kV doc pm an cdv ct), sl⟩) (e3 : codeIn K cdv "law" = true) .. : ∃ t, My.Txt K t

set_option maxRecDepth 100000 in
set_option maxHeartbeats 0 in
theorem PySem.Challenge.cw_LID_holds : PySem.Challenge.rw_LID.Holds := by
  w_on; o_law; k_head; (case hw => w_witness2)
  k_fill
  refine L2.walk_of (l := PySem.Challenge.rw_LID) (n := 63) (k := 40) (x := "script") (CX := fun w => ..) (sp := fun _ => My.sp_law) rfl (by decide) rfl ⟨rfl, by decide, by decide⟩ (fun w h Y => PySem.W.kIn_of Y) ?F ?S ?C
  case F =>
    intro w mg fa h KX G hmg
    have T : ∃ t, My.Txt (L2.KOf KX) t := by
      dsimp only [L2.KOf]                          -- K must stand as «<heap const> w.params» for k_is
      refine' My.txt_mk ?e1 ?e2 ?e3 ..
      (case e1 => PySem.W.k_is)                    -- in the order: a name -> its address -> its object -> its parts
      (case e2 => PySem.W.k_is)
      ..
    obtain ⟨t, T⟩ := T
    have e0 := hmg.symm.trans (PySem.W.mg_of KX G T.law)
    cases e0                                       -- fa is the law's own address
    exact ⟨_, fun s u => .of_eq rfl, fun base kb nb => My.law_fn T kb nb⟩     -- if «.of_eq rfl» comes too early: refine' ⟨_, ?b, fun base kb nb => My.law_fn T kb nb⟩; exact fun s u => .of_eq rfl
  case S => exact fun w H a ns hl hO hS => ..
  case C => exact ..
(the tactic k_is has no namespace: write k_is) -/

/-! SHORT WORDS over the layer: a def of the text, its body, what a loop and a test want. -/
namespace L2
open PySem PySem.Spec PyProof.Rows

/-! ### the text by places -/
/-- the j-th statement of a class's body -/
def inClass (s : Stmt) (j : Nat) : Stmt := match s with
  | .ClassDef _ _ _ body _ _ _ _ _ _ _ => body.getD j (.Pass ⟨0, 0, 0, 0⟩)
  | _ => .Pass ⟨0, 0, 0, 0⟩
def defArgs (s : Stmt) : Arguments := match s with
  | .FunctionDef _ a _ _ _ _ _ _ _ _ => a
  | _ => { posonlyargs := [], args := [], vararg := none, kwonlyargs := [], kw_defaults := [], kwarg := none, defaults := [] }
def defBody (s : Stmt) : List Stmt := match s with
  | .FunctionDef _ _ b _ _ _ _ _ _ _ => b
  | _ => []
def defScope (s : Stmt) : Scope := match s with
  | .FunctionDef _ _ _ _ _ _ sc _ _ _ => sc
  | _ => { kind := .function, names := [], isGenerator := false, isCoroutine := false }

/-! ### no exception leaves a def -/
abbrev CX0 : CXT := fun _ _ _ _ _ _ => False
abbrev E0 : XK := fun _ _ _ => False
theorem pass0 {X : Cx} : Passes CX0 X E0 := fun _ _ _ _ _ _ _ h => h.elim

/-! ### a def (or method) of the text as it stands behind the top -/
structure Fun (K : PySem.W.Frag) (x qual : Str) (st : Stmt) (f : Addr) (fd : FuncData) : Prop where
  ex : ∃ (oc : Value) (od : Option Addr) (kV doc pm : Value) (an : Option Addr) (cdv ct : Value) (osl : Array (Option Value)),
    fd = PySem.W.fnOf x qual (defArgs st) (defBody st) (defScope st) .none kV doc pm an cdv ct ∧ K.lookup f = some ⟨oc, od, .func fd, osl⟩ ∧ PySem.W.codeIn K cdv qual = true
  kp : PySem.W.keepIn K (.ref f) = true
section
variable {P : Program} {w : World} {K : PySem.W.Frag} {mg : Str → Option Value} {base : Heap}
/-- THE RULE for a def: its body as a term of rules, and the reading of that term -/
theorem Fun.ok {x qual : Str} {st : Stmt} {f : Addr} {fd : FuncData} {N ps : List Str} {k : Nat} {sp : Sp} (F : Fun K x qual st f fd) (S : FnScope N ps (defScope st)) (len : ∀ vs H Q E, sp vs H Q E → vs.length = ps.length)
    (hbody : ∀ (cdv : Value) (A : Around) (outer : List Env) (s : Shared) (H : Hp) (vs : List V) (Q : VK) (E : XK), Room k (A.deeper (envOfC qual (defScope st) s.heap.objs.size f cdv)) → sp vs H Q E →
      ∃ t, PSs (cxOf CX0 P w K mg base N qual (defScope st) f cdv A outer s H E).nox (defBody st) t ∧ t { nx := fun _ H' => Q .non H', rt := Q } (start N vs) H) : FnOk P w K mg base CX0 (k + 1) f fd ps sp := by
  obtain ⟨oc, od, kV, doc, pm, an, cdv, ct, osl, rfl, lk, hcd⟩ := F.ex
  refine fn_of lk hcd S len fun A outer s H vs Q E hr hsp => ?_
  obtain ⟨t, h, q⟩ := hbody cdv A outer s H vs Q E hr hsp
  exact ⟨t, h.nox, q⟩
/-- how its arguments bind (no defaults): h is «fun _ _ _ _ _ _ us hl => match us, hl with | [_, _], _ => rfl», one _ a parameter -/
theorem Fun.binds {x qual : Str} {st : Stmt} {f : Addr} {fd : FuncData} {ps : List Str} (F : Fun K x qual st f fd)
    (h : ∀ (kV doc pm : Value) (an : Option Addr) (cdv ct : Value) (us : List Value), us.length = ps.length → bindArgs (PySem.W.fnOf x qual (defArgs st) (defBody st) (defScope st) .none kV doc pm an cdv ct) ⟨us, []⟩ = pure (ps.zip us)) : Binds K fd ps [] := by
  obtain ⟨oc, od, kV, doc, pm, an, cdv, ct, osl, rfl, lk, hcd⟩ := F.ex
  exact .all (h kV doc pm an cdv ct)
theorem fun_mk {x qual : Str} {st : Stmt} {f : Addr} {oc : Value} {od an : Option Addr} {osl : Array (Option Value)} {kV doc pm cdv ct : Value} (l : K.lookup f = some ⟨oc, od, .func (PySem.W.fnOf x qual (defArgs st) (defBody st) (defScope st) .none kV doc pm an cdv ct), osl⟩)
    (c : PySem.W.codeIn K cdv qual = true) (k : PySem.W.keepIn K (.ref f) = true) : Fun K x qual st f (PySem.W.fnOf x qual (defArgs st) (defBody st) (defScope st) .none kV doc pm an cdv ct) := ⟨⟨oc, od, kV, doc, pm, an, cdv, ct, osl, rfl, l, c⟩, k⟩
end
theorem hu_of {A : Around} {k : Nat} (hr : Room k A) : A.units + 1 < cLine := Nat.lt_of_le_of_lt (Nat.add_le_add_left (by decide : 1 ≤ 64) _) hr.units
theorem small1000 {n : Nat} (h : n ≤ 1000) : n < sizeLine := Nat.lt_of_le_of_lt h (by decide)

/-! ### expressions in short: the name that stands in the i-th slot -/
section
variable {X : Cx}
theorem pv (i : Nat) {x : Str} {pos : Pos} (hN : X.N[i]? = some x := by rfl) (hv : Vis X.env.scope x := by first | exact Or.inl rfl | exact Or.inr (Or.inl rfl) | exact Or.inr (Or.inr rfl)) (hd : (x == ("__debug__" : Str)) = false := by decide)
    (hcd : (x == ("__classdict__" : Str)) = false := by decide) : PE X (.Name x pos) (tVar i) := pe_var hN hv hd hcd
end

/-! ### tests -/
theorem iteF {A B : Prop} (h : B) : if false = true then A else B := by
  rw [if_neg Bool.false_ne_true]
  exact h
theorem iteT {A B : Prop} (h : A) : if true = true then A else B := by
  rw [if_pos rfl]
  exact h
theorem ite2 {c A B : Prop} [Decidable c] (h1 : c → A) (h2 : ¬ c → B) : if c then A else B := by
  by_cases h : c
  · rw [if_pos h]
    exact h1 h
  · rw [if_neg h]
    exact h2 h
theorem iteNS {c A B : Prop} [Decidable c] (hc : c) (h : B) : if (!decide c) = true then A else B := by
  rw [decide_eq_true hc]
  exact iteF h

/-! ### heaps -/
/-- all that was tracked is as it was -/
def Same (H H' : Hp) : Prop := ∀ b o, H b = some o → H' b = some o
theorem Same.refl (H : Hp) : Same H H := fun _ _ h => h
theorem Same.trans {H H1 H2 : Hp} (a : Same H H1) (b : Same H1 H2) : Same H H2 := fun c o h => b c o (a c o h)
theorem Same.free {H H' : Hp} (e : Same H H') {l : Addr} (h : H' l = Option.none) : H l = Option.none := by
  cases q : H l with
  | none => rfl
  | some o =>
    rw [e l o q] at h
    cases h
theorem Same.seq {K : PySem.W.Frag} {H H' : Hp} {a : Addr} {xs : List V} (e : Same H H') (h : SqL K H a xs) : SqL K H' a xs := by
  rcases h with (h | ⟨o, h⟩) | h
  · exact .inl (.inl (e _ _ h))
  · exact .inl (.inr ⟨o, e _ _ h⟩)
  · exact .inr h

end L2

set_option Elab.async false
set_option linter.all false
set_option maxRecDepth 100000
namespace L2
open PySem PySem.Spec PyProof.Rows

/-! ### a comprehension's block -/
/-- what the block's names must be -/
def scOk (sc outer : Scope) : Bool :=
  decide (sc.kind = .function) && sc.names.all fun y => decide (y.2 ≠ .cell) && (decide (y.2 ≠ .free) || decide (outer.names.lookup y.1 = some .cell) || decide (outer.names.lookup y.1 = some .free)) && (decide (y.2 ≠ .local) || decide (sc.names.lookup y.1 = some .local))
/-- the block's names, each with its place among the names around it (none: its own) -/
def muOk (N NB : List Str) (sc : Scope) (μ : List (Option Nat)) : Bool :=
  decide (NB.length = μ.length) && (NB.zip μ).all fun p => match p.2 with
    | none => true
    | some i => decide (N[i]? = some p.1) && decide (sc.names.lookup p.1 = some .free)
def muSt (μ : List (Option Nat)) (σ : St) : St := μ.map fun o => o.bind fun i => (σ[i]?).join
def clGo (cells : List (Str × Addr)) : List (Str × NameKind) → List (Str × Addr) → List (Str × Addr)
  | [], cs => cs
  | (n, k) :: r, cs => clGo cells r (if (k == .free) = true then (n, (cells.lookup n).getD 0) :: cs else cs)
theorem closureFor_eq {scope : Scope} {env : Env} (h : ∀ y ∈ scope.names, y.2 = .free → ∃ c, env.cells.lookup y.1 = some c) : closureFor scope env = pure (clGo env.cells scope.names []) := by
  unfold closureFor
  have key : ∀ (names : List (Str × NameKind)) (cs : List (Str × Addr)), (∀ y ∈ names, y.2 = .free → ∃ c, env.cells.lookup y.1 = some c) →
      (forIn names cs fun (x : Str × NameKind) r => match x with
        | (name, kind) => if (kind == NameKind.free) = true then do
            let __do_lift ← cellOf env name
            pure (ForInStep.yield ((name, __do_lift) :: r))
          else pure (ForInStep.yield r) : Sem _) = pure (clGo env.cells names cs) := by
    intro names
    induction names with
    | nil => intro cs _; rfl
    | cons y r ih =>
      intro cs hy
      obtain ⟨n, k⟩ := y
      rw [List.forIn_cons]
      by_cases hk : k = .free
      · subst hk
        obtain ⟨c, hc⟩ := hy (n, .free) List.mem_cons_self rfl
        have e : cellOf env n = pure c := by unfold cellOf; rw [show env.cells.lookup n = some c from hc]
        simp only [e, beq_self_eq_true, if_true, pure_bind]
        rw [ih _ fun z hz => hy z (List.mem_cons_of_mem _ hz)]
        simp only [clGo, beq_self_eq_true, if_true]
        rw [show env.cells.lookup n = some c from hc]; rfl
      · have hb : (k == NameKind.free) = false := by simpa using hk
        simp only [hb, Bool.false_eq_true, if_false, pure_bind]
        rw [ih _ fun z hz => hy z (List.mem_cons_of_mem _ hz)]
        simp only [clGo, hb, Bool.false_eq_true, if_false]
  have q := key scope.names [] h
  simp only [bind_pure]
  exact q
theorem clGo_mem {cells : List (Str × Addr)} : ∀ {names : List (Str × NameKind)} {cs : List (Str × Addr)} {x : Str} {c : Addr}, (x, c) ∈ clGo cells names cs → (x, c) ∈ cs ∨ ((x, .free) ∈ names ∧ c = (cells.lookup x).getD 0)
  | [], cs, x, c, h => .inl h
  | (n, k) :: r, cs, x, c, h => by
    rcases clGo_mem (names := r) h with q | ⟨q, e⟩
    · by_cases hk : k = .free
      · subst hk
        simp only [beq_self_eq_true, if_true] at q
        rcases List.mem_cons.mp q with z | z
        · cases z; exact .inr ⟨List.mem_cons_self, rfl⟩
        · exact .inl z
      · have hb : (k == NameKind.free) = false := by simpa using hk
        simp only [hb, Bool.false_eq_true, if_false] at q
        exact .inl q
    · exact .inr ⟨List.mem_cons_of_mem _ q, e⟩
theorem clGo_keeps {cells : List (Str × Addr)} : ∀ {names : List (Str × NameKind)} {cs : List (Str × Addr)} {p : Str × Addr}, p ∈ cs → p ∈ clGo cells names cs
  | [], _, _, h => h
  | (n, k) :: r, cs, p, h => by
    show p ∈ clGo cells r _
    refine clGo_keeps ?_
    by_cases hk : (k == NameKind.free) = true
    · rw [if_pos hk]; exact List.mem_cons_of_mem _ h
    · rw [if_neg hk]; exact h
theorem clGo_has {cells : List (Str × Addr)} : ∀ {names : List (Str × NameKind)} {cs : List (Str × Addr)} {x : Str}, (x, .free) ∈ names → ∃ c, (x, c) ∈ clGo cells names cs
  | (n, k) :: r, cs, x, h => by
    rcases List.mem_cons.mp h with z | z
    · cases z
      refine ⟨(cells.lookup n).getD 0, ?_⟩
      show _ ∈ clGo cells r (if (NameKind.free == NameKind.free) = true then _ else _)
      exact clGo_keeps (by rw [if_pos (beq_self_eq_true _)]; exact List.mem_cons_self)
    · exact clGo_has (names := r) z
theorem lookup_of_mem {x : Str} {c : Addr} : ∀ {l : List (Str × Addr)}, (x, c) ∈ l → ∃ c', l.lookup x = some c'
  | (y, d) :: r, h => by
    rw [List.lookup_cons]
    by_cases e : (x == y) = true
    · rw [e]; exact ⟨d, rfl⟩
    · rw [Bool.eq_false_iff.mpr e]
      rcases List.mem_cons.mp h with z | z
      · cases z; exact absurd (beq_self_eq_true x) e
      · exact lookup_of_mem z
/-- the block's names behind relabel -/
theorem relabel_look {scope : Scope} {env : Env} {x : Str} {k : NameKind} (h : (relabel scope env).names.lookup x = some k) : ∃ k', scope.names.lookup x = some k' ∧ (k = k' ∨ (k' = .free ∧ k = .cell)) := by
  unfold relabel at h
  dsimp only at h
  revert h
  induction scope.names with
  | nil => intro h; cases h
  | cons y r ih =>
    obtain ⟨n, k'⟩ := y
    intro h
    rw [List.map_cons, List.lookup_cons] at h
    rw [List.lookup_cons]
    by_cases hc : (k' == NameKind.free && env.scope.kind == .function && env.kindOf n == some .cell) = true
    · dsimp only at h
      rw [if_pos hc] at h
      dsimp only at h
      cases e : x == n with
      | true =>
        rw [e] at h
        have hf : k' = .free := by
          have := hc
          simp only [Bool.and_eq_true] at this
          simpa using this.1.1
        exact ⟨k', rfl, .inr ⟨hf, (Option.some.inj h).symm⟩⟩
      | false => rw [e] at h; exact ih h
    · dsimp only at h
      rw [if_neg hc] at h
      dsimp only at h
      cases e : x == n with
      | true => rw [e] at h; exact ⟨k', rfl, .inl (Option.some.inj h).symm⟩
      | false => rw [e] at h; exact ih h
theorem lookup_mem {α : Type} {x : Str} {k : α} : ∀ {l : List (Str × α)}, l.lookup x = some k → (x, k) ∈ l
  | (y, d) :: r, h => by
    rw [List.lookup_cons] at h
    cases e : x == y with
    | true => rw [e] at h; cases h; have : x = y := by simpa using e
              subst this; exact List.mem_cons_self
    | false => rw [e] at h; exact List.mem_cons_of_mem _ (lookup_mem h)
end L2

set_option Elab.async false
set_option linter.all false
set_option maxRecDepth 100000
namespace L2
open PySem PySem.Spec PyProof.Rows

def blockOf (X : Cx) (s : Shared) (H : Hp) (scope : Scope) (C : Addr) (NB : List Str) (ex : List Addr) : Cx :=
  { X with N := NB, s₀ := s, H₀ := H, env := compEnvC scope (clGo X.env.cells scope.names []) C X.env, outer := X.stack, stack := X.stack, ex := ex, fn := fun _ => false, pn := [], xe := fun _ _ => False }

section
variable {X : Cx} {pins : List (Addr × Obj)} {σ : St} {H : Hp} {s s4 : Shared} {scope : Scope} {NB : List Str} {μ : List (Option Nat)} {fp : List Addr} {C : Addr}

theorem scOk_kind (h : scOk scope X.env.scope = true) : scope.kind = .function := by
  unfold scOk at h
  simp only [Bool.and_eq_true, decide_eq_true_eq] at h
  exact h.1
theorem scOk_at {sc outer : Scope} (h : scOk sc outer = true) {y : Str × NameKind} (hy : y ∈ sc.names) : y.2 ≠ .cell ∧ (y.2 = .free → outer.names.lookup y.1 = some .cell ∨ outer.names.lookup y.1 = some .free) ∧ (y.2 = .local → sc.names.lookup y.1 = some .local) := by
  unfold scOk at h
  simp only [Bool.and_eq_true, decide_eq_true_eq, List.all_eq_true, Bool.or_eq_true] at h
  obtain ⟨⟨h1, h2⟩, h3⟩ := h.2 y hy
  exact ⟨h1, fun e => by rcases h2 with (q | q) | q
                         · exact absurd e q
                         · exact .inl q
                         · exact .inr q, fun e => h3.elim (fun q => absurd e q) id⟩
theorem block_free (I : Inv X pins σ H s) (h : scOk scope X.env.scope = true) {x : Str} (hx : (x, .free) ∈ scope.names) : ∃ c, X.env.cells.lookup x = some c := I.ok.has x ((scOk_at h hx).2.1 rfl)
theorem block_cl (I : Inv X pins σ H s) (h : scOk scope X.env.scope = true) {x : Str} {c : Addr} (e : (clGo X.env.cells scope.names []).lookup x = some c) : X.env.cells.lookup x = some c := by
  rcases clGo_mem (lookup_mem e) with q | ⟨q, r⟩
  · cases q
  · obtain ⟨c', e'⟩ := block_free I h q
    rw [e'] at r
    rw [e', r]; rfl
theorem block_kind {env : Env} (h : scOk scope env.scope = true) {x : Str} {k : NameKind} (hk : (relabel scope env).names.lookup x = some k) (hc : k = .cell ∨ k = .free) : (x, .free) ∈ scope.names := by
  obtain ⟨k', e, q⟩ := relabel_look hk
  have m := lookup_mem e
  have n := (scOk_at h m).1
  rcases q with q | ⟨q, _⟩
  · subst q
    rcases hc with z | z
    · exact absurd z n
    · subst z; exact m
  · subst q; exact m
theorem muOk_at (h : muOk X.N NB scope μ = true) : NB.length = μ.length ∧ ∀ (j i : Nat), μ[j]? = some (some i) → ∃ x, NB[j]? = some x ∧ X.N[i]? = some x ∧ scope.names.lookup x = some .free := by
  unfold muOk at h
  simp only [Bool.and_eq_true, decide_eq_true_eq, List.all_eq_true] at h
  refine ⟨h.1, fun j i e => ?_⟩
  have hj : j < NB.length := by rw [h.1]; exact (List.getElem?_eq_some_iff.mp e).1
  have m : (NB[j], some i) ∈ NB.zip μ := by
    refine List.mem_iff_getElem?.mpr ⟨j, ?_⟩
    rw [List.getElem?_zip_eq_some]
    exact ⟨List.getElem?_eq_getElem hj, e⟩
  have q := h.2 _ m
  dsimp only at q
  simp only [Bool.and_eq_true, decide_eq_true_eq] at q
  exact ⟨NB[j], List.getElem?_eq_getElem hj, q.1, q.2⟩

/-- the block is entered -/
theorem block_start (I : Inv X pins σ H s) (hsc : scOk scope X.env.scope = true) (hmu : muOk X.N NB scope μ = true) (hfp : ∀ b ∈ fp, FpOk X pins H b) (hob : ∀ b ∈ fp, ∃ o, s.heap.get? b = some o)
    (hC : s.heap.objs.size ≤ C) {h4 : Heap} {t4 : Nat} (ns : h4.Ns C fun _ => none) (k : ∀ b o, s.heap.get? b = some o → h4.get? b = some o) :
    Inv (blockOf X s H scope C NB fp) [] (muSt μ σ) H { s with heap := h4, toks := t4 } := by
  obtain ⟨hlen, hmu⟩ := muOk_at hmu
  have ltC : ∀ b o, s.heap.get? b = some o → b ≠ C := fun b o e => Nat.ne_of_lt (Nat.lt_of_lt_of_le (Heap.lt_size e) hC)
  have cellOld : ∀ x c, X.env.cells.lookup x = some c → c ≠ C := fun x c e => by
    obtain ⟨v, o, ho, _⟩ := I.cell x c e
    exact ltC c o ho
  refine ⟨⟨I.ok.mod, (show scope.kind = _ from scOk_kind hsc), I.ok.glob, I.ok.blt, hC, fun x y c h1 h2 => I.ok.inj x y c (block_cl I hsc h1) (block_cl I hsc h2), fun x hx => ?_, fun x c h _ => (by cases h), I.ok.hd, I.ok.frames, .inl rfl, fun b hb => ?_, I.bs, Nat.le_trans I.ok.bsz I.sz, fun b o e hb => ?_, fun b hb hz => ?_, I.stack, I.stkFree⟩,
    rfl, I.bare, Un.kept k, ⟨_, ns, fun j x v e1 e2 e3 => ?_⟩, fun x c e => ?_, I.hok.fresh hC, fun x c e => I.freeC x c (block_cl I hsc e), fun p hp => (by cases hp), I.hok.kept k, ?_⟩
  · have q : (x, NameKind.free) ∈ scope.names := by
      rcases hx with hx | hx
      · exact block_kind hsc hx (.inl rfl)
      · exact block_kind hsc hx (.inr rfl)
    obtain ⟨c, m⟩ := clGo_has (cells := X.env.cells) (cs := []) q
    exact lookup_of_mem m
  · obtain ⟨o, ho⟩ := hob b hb
    refine ⟨ltC b o ho, fun x c e z => ?_⟩
    exact (hfp b hb).2.2.2.2.1 x c (block_cl I hsc e) z
  · rcases (hfp b hb).2.2.2.1 with z | z
    · exact I.ok.noex b o e z
    · exact absurd (Nat.lt_of_lt_of_le (Heap.lt_size (I.ok.bs b o e).1) z) (Nat.lt_irrefl _)
  · rcases List.mem_cons.mp (I.stkSub b hz) with e | e
    · exact (hfp b hb).2.1 e
    · exact (hfp b hb).2.2.1 e
  · have e2' : (μ[j]?).map (fun o => o.bind fun i => (σ[i]?).join) = some (some v) := by
      rw [← List.getElem?_map]; exact e2
    cases q : μ[j]? with
    | none => rw [q] at e2'; cases e2'
    | some o =>
      rw [q] at e2'
      cases o with
      | none => cases e2'
      | some i =>
        have e4 : (σ[i]?).join = some v := by simpa using e2'
        have e5 : σ[i]? = some (some v) := by
          cases z : σ[i]? with
          | none => rw [z] at e4; cases e4
          | some w => rw [z] at e4; simp at e4; rw [e4]
        obtain ⟨x', n1, n2, n3⟩ := hmu j i q
        have ex : x' = x := Option.some.inj (n1.symm.trans e1)
        subst ex
        have m := lookup_mem n3
        have ov := (scOk_at hsc m).2.1 rfl
        obtain ⟨mm, hn, hl⟩ := I.loc
        obtain ⟨u, r, l⟩ := hl i x' v n2 e5 (ov.elim (fun z => .inr (.inl z)) fun z => .inr (.inr z))
        refine ⟨u, r, .inr ⟨?_, ?_⟩⟩
        · rcases e3 with z | z | z
          · obtain ⟨k', z1, z2⟩ := relabel_look (k := .local) z
            rw [n3] at z1
            cases z1
            rcases z2 with z2 | ⟨_, z2⟩ <;> cases z2
          · exact .inl z
          · exact .inr z
        · rcases l with ⟨l, _⟩ | ⟨_, c, l1, l2⟩
          · rcases ov with z | z <;> (rw [show X.env.kindOf x' = _ from z] at l; cases l)
          · obtain ⟨c', m'⟩ := clGo_has (cells := X.env.cells) (cs := []) m
            obtain ⟨c'', l3⟩ := lookup_of_mem m'
            have l4 := block_cl I hsc l3
            rw [l1] at l4
            cases l4
            refine ⟨c, l3, ?_⟩
            obtain ⟨o, ho, hd⟩ := l2
            exact ⟨o, k _ _ ho, hd⟩
  · obtain ⟨v, o, ho, hd⟩ := I.cell x c (block_cl I hsc e)
    exact ⟨v, o, k _ _ ho, hd⟩
  · show (muSt μ σ).length = NB.length
    unfold muSt
    rw [List.length_map, hlen]

/-- an untracked list is tracked from now on -/
theorem HOk.adopt {P : Program} {w : World} {H : Hp} {h : Heap} {a : Addr} {o : HO} (x : HOk P w H h) (hn : H a = none) (new : ObjOk P w (upd H a o) h a o) : HOk P w (upd H a o) h := fun b u e => by
  by_cases hb : b = a
  · subst hb; rw [upd_same] at e; cases e; exact new
  · rw [upd_ne hb] at e
    exact (x b u e).stay (fun c v _ q => q) (fun c q => by rw [upd_ne (ne_of_none q hn)]; exact q) fun c xs q => by rw [upd_ne (ne_of_none q hn)]; exact q

/-- the block is left: its list is the value -/
theorem block_end {H' : Hp} {s' : Shared} {h' : Heap} {D : Addr} {pl : List (Addr × Obj)} {σ' : St} {its : List Value} {ys : List V} {n : Nat} (I : Inv X pins σ H s) (hfp : ∀ b ∈ fp, FpOk X pins H b) (J : Inv (blockOf X s H scope C NB fp) pl σ' H' s')
    (hC : s.heap.objs.size ≤ C) (hD : s.heap.objs.size ≤ D) (hDC : D ≠ C) (eD : s'.heap.get? D = some { cls := .type "list", data := .seq its.toArray n }) (nD : H' D = none) (r : Vals ys its) (hz : ys.length ≤ sizeLine)
    (sb : Heap.SameBut C s'.heap h') : Inv X pins σ (upd H' D (.lst ys)) { s' with heap := h' } := by
  have oldC : ∀ b o, s.heap.get? b = some o → b ≠ C := fun b o e => Nat.ne_of_lt (Nat.lt_of_lt_of_le (Heap.lt_size e) hC)
  have oldD : ∀ b o, s.heap.get? b = some o → b ≠ D := fun b o e => Nat.ne_of_lt (Nat.lt_of_lt_of_le (Heap.lt_size e) hD)
  have freshD : H D = none := I.hok.fresh hD
  have nC : H' C = none := J.free
  have u : Un (frs X.stack) fp H H' s.heap s'.heap := J.base
  have hok' : HOk X.prog X.w H' h' := fun b ob e => (J.hok b ob e).stay (fun c v hc q => (sb.2 c (by
    intro z
    subst z
    rcases hc with rfl | hc
    · rw [nC] at e; cases e
    · rw [nC] at hc; cases hc)).trans q) (fun _ q => q) fun _ _ q => q
  refine I.call' (ch := fp) J.os ⟨fun b o e n hb hx => ?_, fun b o e n hb hx => ?_, fun b o e n hx => ?_, fun b o e hx => ?_, fun b xs e => ?_, fun b o u' e => ?_, fun b ps e => ?_⟩ (hok'.adopt nD ⟨hz, its, n, r, (sb.2 D hDC).trans eD⟩) J.bare fun b hb => ?_
  · exact (sb.2 b (oldC b o e)).trans (u.keep b o e n hb hx)
  · obtain ⟨sl, q⟩ := u.slot b o e n hb hx
    exact ⟨sl, (sb.2 b (oldC b o e)).trans q⟩
  · rw [upd_ne (oldD b o e)]; exact u.free b o e n hx
  · obtain ⟨o', q⟩ := u.there b o e hx
    exact ⟨o', (sb.2 b (oldC b o e)).trans q⟩
  · rw [upd_ne (ne_of_none e freshD)]; exact u.tups b xs e
  · rw [upd_ne (ne_of_none e freshD)]; exact u.frzs b o u' e
  · rw [upd_ne (ne_of_none e freshD)]; exact u.tbls b ps e
  · obtain ⟨_, f1, _, f3, f4, f5⟩ := hfp b hb
    exact ⟨f3, f1, f4, f5⟩
end
end L2

set_option Elab.async false
set_option linter.all false
set_option maxRecDepth 100000
namespace L2
open PySem PySem.Spec PyProof.Rows

theorem compLoop_gen {prog : Program} {w : World} {A : Around} {R : Result → Shared → Prop} {s : Shared} {elt target iter : Expr} {ifs : List Expr} {scope : Scope} {pos : Pos} {it acc : Value} {env : Env} (I : Nat → Shared → Prop)
    (turn : ∀ n s, I n s → wpAny (model prog w) A (pyNext it) (fun r s₁ => match r with
      | none => R (.ok .next) s₁
      | some v => wpAny (model prog w) A (letOwnedTupleGo target it v) (fun _ s₁' => wpAny (model prog w) A (assign target env v) (fun _ s₂ =>
          wpAny (model prog w) A (forIn ifs true fun c r => if r = true then do let ok ← isTrue c env (eval c env); pure (ForInStep.yield ok) else pure (ForInStep.yield r)) (fun ok s₃ =>
            if ok = true then wpAny (model prog w) A (eval elt env) (fun x s₄ =>
              wpAny (model prog w) A (call (.builtin "list.append") [acc, x]) (fun _ s₅ => ∃ m, m < n ∧ I m s₅) (fun _ _ => False) s₄) (fun _ _ => False) s₃
            else ∃ m, m < n ∧ I m s₃) (fun _ _ => False) s₂) (fun _ _ => False) s₁') (fun _ _ => False) s₁) (fun _ _ => False) s)
    (n : Nat) (h : I n s) :
    codeAny (model prog w) A (.compLoop (.ListComp elt [⟨target, iter, ifs, 0⟩] scope pos) 0 it acc env) R s := by
  refine codeAny_loop rfl I (fun n s hI => ?_) n h
  show wpAny _ A ((compTurn (.ListComp elt [⟨target, iter, ifs, 0⟩] scope pos) 0 it acc env).onRaise (fun x => do noteFrame x env; theTreesLotGoes x)) _ _ s
  refine wpAny_noted ?_
  rw [compTurn_list]
  refine wpAny_bind (wpAny_standAt (wpAny_bind (wpAny_mono (turn n s hI) (fun r s₁ h₁ => ?_) fun _ _ h' => h'.elim)))
  cases r with
  | none => exact wpAny_pure h₁
  | some v =>
    refine wpAny_bind (wpAny_mono h₁ (fun _ s₁' h₁' => ?_) fun _ _ h' => h'.elim)
    refine wpAny_bind (wpAny_mono h₁' (fun _ s₂ h₂ => wpAny_bind (wpAny_mono h₂ (fun ok s₃ h₃ => ?_) fun _ _ h' => h'.elim)) fun _ _ h' => h'.elim)
    cases ok with
    | false => exact wpAny_pure ⟨rfl, h₃⟩
    | true =>
      exact wpAny_bind (wpAny_bind (wpAny_mono h₃ (fun x s₄ h₄ => wpAny_bind (wpAny_mono h₄ (fun _ s₅ h₅ => wpAny_pure (wpAny_pure ⟨rfl, h₅⟩)) fun _ _ h' => h'.elim)) fun _ _ h' => h'.elim))

/-- the tests of a comprehension -/
def PTs (X : Cx) (cs : List Expr) (t : TT) : Prop :=
  ∀ (pins : List (Addr × Obj)) (s : Shared) (σ : St) (H : Hp) (Q : Bool → Hp → Prop), Inv X pins σ H s → t σ H Q →
    wpAny (model X.prog X.w) X.A (forIn cs true fun c r => if r = true then do let ok ← isTrue c X.env (eval c X.env); pure (ForInStep.yield ok) else pure (ForInStep.yield r)) (TP X pins σ Q) X.xe s
def tYes : TT := fun _ H Q => Q true H
theorem pts_nil {X : Cx} : PTs X [] tYes := fun _ _ _ H _ I h => wpAny_tests_nil ⟨H, I, h⟩
theorem pts_one {X : Cx} {c : Expr} {t : TT} (h : PT X c t) : PTs X [c] t := fun pins s σ H Q I q => wpAny_tests_one (h pins s σ H Q I q)

/-- a target leaves the names around the block -/
def GKeeps (μ : List (Option Nat)) (g : TG) : Prop := ∀ σ x H Q, g x (muSt μ σ) H Q → g x (muSt μ σ) H fun σ' H' => Q σ' H' ∧ ∀ (j : Nat) v, (muSt μ σ)[j]? = some (some v) → σ'[j]? = some (some v)
theorem gk_name {μ : List (Option Nat)} {i : Nat} (h : μ[i]? = some none) : GKeeps μ (gName i) := fun σ x H Q q => by
  refine ⟨q, fun j v e => ?_⟩
  have hne : j ≠ i := fun z => by
    subst z
    unfold muSt at e
    rw [List.getElem?_map, h] at e
    cases e
  rw [List.getElem?_set_ne (Ne.symm hne)]
  exact e

/-- what a comprehension builds: W, by the turn, a measure, the items so far -/
def cBy (J : It) (H1 : Hp) (Q : VK) (st : V → Hp → (St → Hp → Prop) → Prop) (tc : TT) (te : TE) : Prop :=
  ∃ W : Nat → Nat → List V → Hp → Prop, (∃ m, W 0 m [] H1) ∧ ∀ i m ys H2, W i m ys H2 →
    (J.stop i H2 ∧ ∀ D, H2 D = none → Q (.ref D) (upd H2 D (.lst ys))) ∨
    (J.go i H2 ∧ ys.length < sizeLine ∧ ∃ N : List V → Hp → Prop, (∀ ys' H', N ys' H' → ∃ m', m' < m ∧ W (i + 1) m' ys' H') ∧ ∀ x H3, J.yld i H2 x H3 → st x H3 fun σ4 H4 => tc σ4 H4 fun b H5 => if b = true then te σ4 H5 fun y H6 => N (ys ++ [y]) H6 else N ys H5)
def tComp (wi : TI) (μ : List (Option Nat)) (g : TG) (tc : Shared → Hp → Addr → List Addr → TT) (te : Shared → Hp → Addr → List Addr → TE) : TE := fun σ H Q => wi σ H fun J H1 => ∀ s C ex, cBy J H1 Q (fun x H K => g x (muSt μ σ) H K) (tc s H1 C ex) (te s H1 C ex)

section
variable {X : Cx} {pins : List (Addr × Obj)} {σ : St} {H2 : Hp} {s2 : Shared} {tg elt iter : Expr} {ifs : List Expr} {scope : Scope} {pos : Pos} {NB : List Str} {μ : List (Option Nat)} {g : TG} {tc : Shared → Hp → Addr → List Addr → TT} {te : Shared → Hp → Addr → List Addr → TE} {fp : List Addr} {it : Addr} {tn : Nat → Heap → Prop} {J : It} {Q : VK}

/-- the block of a comprehension over an iterator that has come -/
theorem block_run (hc : X.calm = true) (I2 : Inv X pins σ H2 s2) (T : Turn X.prog X.w X.K tg J fp it tn) (st2 : tn 0 s2.heap) (f2 : ∀ b ∈ fp, FpOk X pins H2 b)
    (hsc : scOk scope X.env.scope = true) (hmu : muOk X.N NB scope μ = true) (hgk : GKeeps μ g)
    (hb : ∀ (s : Shared) (H : Hp) (C : Addr) (ex : List Addr), PG (blockOf X s H scope C NB ex) tg g ∧ PTs (blockOf X s H scope C NB ex) ifs (tc s H C ex) ∧ PE (blockOf X s H scope C NB ex) elt (te s H C ex))
    (q : ∀ C, cBy J H2 Q (fun x H K => g x (muSt μ σ) H K) (tc s2 H2 C fp) (te s2 H2 C fp)) {RR : Value → Addr → Result → Shared → Prop} {E : Value → Shared → Prop}
    (fin : ∀ (D C : Addr) (s' : Shared) (H' : Hp) (ys : List V) (m : Str → Option Value), s2.heap.objs.size ≤ D → s2.heap.objs.size ≤ C → D ≠ C → s'.heap.Ns C m → H' C = none → (∀ h', Heap.SameBut C s'.heap h' → Inv X pins σ (upd H' D (.lst ys)) { s' with heap := h' }) → Q (.ref D) (upd H' D (.lst ys)) → RR (.ref D) C (.ok .next) s') :
    wpAny (model X.prog X.w) X.A (newList []) (fun acc s₃ => wpAny (model X.prog X.w) X.A (newFunctionEnv scope X.env.globals (clGo X.env.cells scope.names []) [] X.env.qual none .none (some X.env)) (fun cenv s₄ =>
      codeAny (model X.prog X.w) X.A (.compStart (.ListComp elt [⟨tg, iter, ifs, 0⟩] scope pos) 0 (.ref it) acc { cenv with scope := relabel scope X.env }) (RR acc cenv.locals) s₄) E s₃) E s2 := by
  have hcell : ∀ y ∈ scope.names, y.2 ≠ .cell := fun y hy => (scOk_at hsc hy).1
  refine wpAny_newObj_type (wpAny_newFunctionEnv hcell (by intro y hy; simp at hy) (fun h₁ hns₁ hsb₁ => ?_) (scOk_kind hsc))
  dsimp only at hns₁ hsb₁ ⊢
  generalize hH2 : s2.heap.push { cls := .type "list", dict := none, data := .seq ([] : List Value).toArray } = Hp2 at hns₁ hsb₁ ⊢
  have hC : Hp2.objs.size = s2.heap.objs.size + 1 := by rw [← hH2, Heap.size_push]
  have hDC : s2.heap.objs.size ≠ Hp2.objs.size := by rw [hC]; exact Nat.ne_of_lt (Nat.lt_succ_self _)
  have hCle : s2.heap.objs.size ≤ Hp2.objs.size := by rw [hC]; exact Nat.le_succ _
  have old : ∀ b o, s2.heap.get? b = some o → h₁.get? b = some o := fun b o e => hsb₁.extBut b o (by rw [hC]; exact Nat.ne_of_lt (Nat.lt_succ_of_lt (Heap.lt_size e))) (Heap.get?_push_of_some _ (hH2 ▸ Heap.get?_push_of_some _ e))
  have eD : h₁.get? s2.heap.objs.size = some { cls := .type "list", data := .seq ([] : List Value).toArray } := hsb₁.extBut _ _ hDC (Heap.get?_push_of_some _ (hH2 ▸ Heap.get?_push_size _ rfl))
  have hob : ∀ b ∈ fp, ∃ o, s2.heap.get? b = some o := fun b hb => let ⟨o, e, _⟩ := T.obj _ _ st2 b hb; ⟨o, e⟩
  have fpD : ∀ b ∈ fp, b ≠ s2.heap.objs.size := fun b hb => let ⟨o, e⟩ := hob b hb; Nat.ne_of_lt (Heap.lt_size e)
  generalize hDD : s2.heap.objs.size = D at hCle hDC eD fpD ⊢
  generalize hCC : Hp2.objs.size = C at *
  have hDle : s2.heap.objs.size ≤ D := by rw [hDD]; exact Nat.le_refl _
  have hCle' : s2.heap.objs.size ≤ C := by rw [hDD]; exact hCle
  have I4 : Inv (blockOf X s2 H2 scope C NB fp) [] (muSt μ σ) H2 { s2 with heap := h₁, toks := s2.toks + ([] : List (Str × Value)).length } := block_start I2 hsc hmu f2 hob hCle' (by simpa using hns₁) old
  have stat : ∀ {H' : Hp} {pl : List (Addr × Obj)}, (∀ b ∈ fp, H' b = none) → (∀ p ∈ pl, p.1 = D) → ∀ b ∈ fp, FpOk (blockOf X s2 H2 scope C NB fp) pl H' b := fun {H' pl} hn hp b hb => by
    refine ⟨hn b hb, (I4.ok.exf b hb).1, I4.ok.exfs b hb, .inl hb, fun x c e z => (I4.ok.exf b hb).2 x c e z, fun p hp' z => ?_⟩
    have hp'' : p ∈ pl := by simpa [blockOf] using hp'
    exact fpD b hb (z ▸ hp p hp'')
  have nDf : D ∉ (blockOf X s2 H2 scope C NB fp).fs := fun z => by
    obtain ⟨_, o, ho, _⟩ := I4.ok.funs.mem z
    exact absurd (Heap.lt_size ho) (Nat.not_lt.mpr hDle)
  obtain ⟨W, ⟨m0, w0⟩, turn⟩ := q C
  have loop : ∀ s₃ : Shared, s₃ = { s2 with heap := h₁, toks := s2.toks + ([] : List (Str × Value)).length } →
      codeAny (model X.prog X.w) X.A (.compLoop (.ListComp elt [⟨tg, iter, ifs, 0⟩] scope pos) 0 (.ref it) (.ref D) (compEnvC scope (clGo X.env.cells scope.names []) C X.env)) (RR (.ref D) C) s₃ := by
    rintro s₃ rfl
    refine compLoop_gen (fun n s' => ∃ i ys its k H', Inv (blockOf X s2 H2 scope C NB fp) [(D, { cls := .type "list", data := .seq its k })] (muSt μ σ) H' s' ∧ tn i s'.heap ∧ (∀ b ∈ fp, H' b = none) ∧ Vals ys its.toList ∧ ys.length ≤ sizeLine ∧ W i n ys H') ?_ m0
      ⟨0, [], #[], 0, H2, I4.pins_of fun p hp => ?_, T.keep _ _ _ st2 fun b hb o e => old b o e, fun b hb => (f2 b hb).1, .nil, Nat.zero_le _, w0⟩
    rotate_left
    · have e := List.mem_singleton.mp hp
      subst e
      exact ⟨eD, I2.hok.fresh hDle, hDC, nDf, fun v => by simp⟩
    rintro n s3 ⟨i, ys, its, k, H3, I3, st3, fr3, rv, hz, w3⟩
    rcases turn i n ys H3 w3 with ⟨stop, qn⟩ | ⟨go, hlt, N, hN, step⟩
    · refine wpAny_mono (T.done (blockOf X s2 H2 scope C NB fp) rfl rfl rfl hc i _ s3 _ H3 (fun _ _ => False) I3 (stat fr3 (by simp)) st3 stop) (fun r s4 ⟨hr, I4'⟩ => ?_) fun _ _ e => e
      subst hr
      obtain ⟨p1, p2, p3, p4, p5⟩ := I4'.pin _ (List.mem_append_right _ List.mem_cons_self)
      obtain ⟨m, hn, _⟩ := id I4'.loc
      have e1 : s4.heap.get? D = some { cls := .type "list", data := .seq its.toList.toArray k } := by simpa using p1
      exact fin D C s4 H3 ys m hDle hCle' hDC hn I4'.free (fun h' sb => block_end I2 f2 I4' hCle' hDle hDC e1 p2 rv hz sb) (qn D p2)
    · refine wpAny_mono (T.item (blockOf X s2 H2 scope C NB fp) rfl rfl rfl hc i _ s3 _ H3 (fun _ _ => False) I3 (stat fr3 (by simp)) st3 go) (fun r s4 ⟨u, hr, h4⟩ => ?_) fun _ _ e => e
      subst hr
      refine thn h4 fun _ s5 ⟨x, H5, I5, r5, y5, st5, fr5⟩ => ?_
      have I5' := I5.pinned (stat fr5 (by simp)) (T.obj _ _ st5)
      have st' := hgk σ x H5 _ (step x H5 y5)
      obtain ⟨hg, ht, he⟩ := hb s2 H2 C fp
      refine thn (hg _ s5 _ H5 x u _ I5' r5 st') fun _ s6 ⟨σ6, H6, I6, q6, k6⟩ => ?_
      refine thn (ht _ s6 σ6 H6 _ I6 q6) fun ok s7 ⟨H7, I7, q7⟩ => ?_
      have again : ∀ {H8 : Hp} {s8 : Shared} {its' : Array Value} {k' : Nat} {ys' : List V}, Inv (blockOf X s2 H2 scope C NB fp) ([(D, { cls := .type "list", data := .seq its' k' })] ++ pinsAt fp s5.heap) σ6 H8 s8 → Vals ys' its'.toList → ys'.length ≤ sizeLine → (∃ m, m < n ∧ W (i + 1) m ys' H8) →
          ∃ m, m < n ∧ ∃ i ys its k H', Inv (blockOf X s2 H2 scope C NB fp) [(D, { cls := .type "list", data := .seq its k })] (muSt μ σ) H' s8 ∧ tn i s8.heap ∧ (∀ b ∈ fp, H' b = none) ∧ Vals ys its.toList ∧ ys.length ≤ sizeLine ∧ W i m ys H' := fun {H8 s8 its' k' ys'} I8 rv' hz' n8 => by
        obtain ⟨m', hm, w8⟩ := n8
        refine ⟨m', hm, i + 1, ys', its', k', H8, (I8.unpinned.weak ?_ k6), T.keep _ _ _ st5 fun b hb o e => (I8.pin (b, o) (List.mem_append_right _ (List.mem_append_right _ (mem_pinsAt hb e)))).1, fun b hb => ?_, rv', hz', w8⟩
        · rw [I8.len]; exact I4.len
        · obtain ⟨o, e, d⟩ := T.obj _ _ st5 b hb
          exact (I8.pin (b, o) (List.mem_append_right _ (List.mem_append_right _ (mem_pinsAt hb e)))).2.1
      cases ok with
      | false =>
        simp only [Bool.false_eq_true, if_false] at q7 ⊢
        exact again I7 rv hz (hN _ _ q7)
      | true =>
        simp only [if_true] at q7 ⊢
        refine thn (he _ s7 σ6 H7 _ I7 q7) fun uy s8 ⟨y, H8, I8, r8, q8⟩ => ?_
        obtain ⟨p1, p2, p3, p4, p5⟩ := I8.pin (D, _) (List.mem_append_right _ (List.mem_append_left _ List.mem_cons_self))
        have e1 : s8.heap.get? D = some { cls := .type "list", data := .seq its k } := p1
        have hsz : its.size = ys.length := by rw [← Array.length_toList]; exact rv.length.symm
        refine call_meets F.slot_list_append ⟨_, e1, rfl⟩ F.entry_list_append (F.args_list_append_2 _ _) (PySem.list_append D its k uy (by rw [hsz]; omega)) ⟨e1, ?_⟩
        have upd1 := PySem.IsL.update e1 (·.push uy)
        have Iu : Inv (blockOf X s2 H2 scope C NB fp) (pinsAt fp s5.heap) σ6 H8 s8 := I8.pins_of fun p hp => I8.pin p (List.mem_append_right _ (List.mem_append_right _ hp))
        have It := Iu.turned (it := D) (h' := s8.heap.update D (Obj.mapSeq (·.push uy))) (t' := s8.toks) (fun b o hb e => (Heap.get?_update_other _ _ (Ne.symm hb)).trans e) p2 p3 (.inr hDle) (fun x c e z => ?_) (fun p hp z => ?_)
        · refine again (its' := its.push uy) (k' := if (its.push uy).size == its.size then k else k + 1) (It.pins_of fun p hp => ?_) (by simpa using rv.append (.cons r8 .nil)) (by rw [List.length_append, List.length_singleton]; omega) (hN _ _ q8)
          rcases List.mem_append.mp hp with hp | hp
          · have e := List.mem_singleton.mp hp
            subst e
            exact ⟨upd1, p2, p3, p4, fun v => by simp⟩
          · exact It.pin p (List.mem_append_right _ hp)
        · have e' := block_cl I2 hsc e
          obtain ⟨v, o, ho, _⟩ := I2.cell x c e'
          exact absurd (Heap.lt_size ho) (by rw [z]; exact Nat.not_lt.mpr hDle)
        · have hp' : p ∈ pinsAt fp s5.heap := by simpa [blockOf] using hp
          exact fpD p.1 (of_pinsAt hp').1 z
  exact codeAny_compStart_list (loop _ rfl) (T.self _ 0 _ _ _ (T.keep _ _ _ st2 fun b hb o e => old b o e) (loop _ rfl))

/-- [elt for tg in iter if ..] -/
theorem pe_comp {wi : TI} (hc : X.calm = true) (hi : PI X tg iter wi) (hsc : scOk scope X.env.scope = true) (hmu : muOk X.N NB scope μ = true) (hgk : GKeeps μ g)
    (hb : ∀ (s : Shared) (H : Hp) (C : Addr) (ex : List Addr), PG (blockOf X s H scope C NB ex) tg g ∧ PTs (blockOf X s H scope C NB ex) ifs (tc s H C ex) ∧ PE (blockOf X s H scope C NB ex) elt (te s H C ex))
    (hs : ∀ x, foldedSetIterable iter X.env x = pure x := by intro _; rfl) : PE X (.ListComp elt [⟨tg, iter, ifs, 0⟩] scope pos) (tComp wi μ g tc te) := by
  intro pins s σ H Q I h
  have hnames : ∀ y ∈ scope.names, y.2 = .local → scope.names.lookup y.1 = some .local := fun y hy => (scOk_at hsc hy).2.2
  have hclos : closureFor scope X.env = pure (clGo X.env.cells scope.names []) := closureFor_eq fun y hy e => block_free I hsc (x := y.1) (by rw [← e]; exact hy)
  rw [eval_ListComp]
  refine wpAny_comprehension_free (use := none) rfl hs hclos (scOk_kind hsc) hnames (thn (hi pins s σ H _ I h) fun v s1 h1 => thn h1 fun itv s2 h2 => ?_)
  obtain ⟨it, fp, tn, J, H2, e, I2, T, st2, f2, q⟩ := h2
  subst e
  refine block_run (RR := fun acc C => compPost (model X.prog X.w) X.A X.xe none (EP X pins σ Q) acc C) hc I2 T st2 f2 hsc hmu hgk hb (fun C => q s2 C fp) ?_
  intro D C s' H' ys m hD hC hDC hn nC hI hq
  exact ⟨m, hn, fun h' sb => ⟨.ref D, _, hI h' sb, rfl, hq⟩⟩

/-- name = [elt for ..] -/
def tAsgC (i : Nat) (te : TE) : TS := fun D σ H => te σ H fun x H1 => D.nx (σ.set i (some x)) H1
theorem ps_setC {wi : TI} {i : Nat} {y : Str} {py spos : Pos} (hN : X.N.Nodup) (hiN : X.N[i]? = some y) (hy : Loc X.env.scope y) (hc : X.calm = true) (hi : PI X tg iter wi) (hsc : scOk scope X.env.scope = true) (hmu : muOk X.N NB scope μ = true) (hgk : GKeeps μ g)
    (hb : ∀ (s : Shared) (H : Hp) (C : Addr) (ex : List Addr), PG (blockOf X s H scope C NB ex) tg g ∧ PTs (blockOf X s H scope C NB ex) ifs (tc s H C ex) ∧ PE (blockOf X s H scope C NB ex) elt (te s H C ex))
    (hsw : swapsWith (.ListComp elt [⟨tg, iter, ifs, 0⟩] scope pos) (some (.Name y py)) spos.line X.env = pure true := by rfl)
    (hs : ∀ x, foldedSetIterable iter X.env x = pure x := by intro _; rfl) (hf : X.fn y = true ∨ X.env.scope.names.lookup y = some .local := by first | exact .inl rfl | exact .inr rfl | assumption) :
    PS X (.Assign [.Name y py] (.ListComp elt [⟨tg, iter, ifs, 0⟩] scope pos) spos) (tAsgC i (tComp wi μ g tc te)) := by
  intro pins s σ H D' I h
  have hnames : ∀ y ∈ scope.names, y.2 = .local → scope.names.lookup y.1 = some .local := fun y hy => (scOk_at hsc hy).2.2
  have hclos : closureFor scope X.env = pure (clGo X.env.cells scope.names []) := closureFor_eq fun y hy e => block_free I hsc (x := y.1) (by rw [← e]; exact hy)
  rw [exec_Assign_Name_used _ _ _ _ hsw]
  refine wpAny_bind (wpAny_standAt (wpAny_bind ?_))
  show wpAny _ X.A (do let _ ← comprehension (.ListComp elt [⟨tg, iter, ifs, 0⟩] scope pos) scope X.env _ (newList []) false (eval iter X.env) (some (assign (.Name y py) X.env))) _ _ s
  refine wpAny_bind (wpAny_mono (wpAny_comprehension_free (use := some (assign (.Name y py) X.env)) (Q := fun _ s' => SP X pins D' .next s') rfl hs hclos (scOk_kind hsc) hnames (thn (hi pins s σ H _ I h) fun v s1 h1 => thn h1 fun itv s2 h2 => ?_)) (fun _ s' hq => wpAny_pure (wpAny_pure hq)) fun _ _ e => e)
  obtain ⟨it, fp, tn, J, H2, e, I2, T, st2, f2, q⟩ := h2
  subst e
  refine block_run (RR := fun acc C => compPost (model X.prog X.w) X.A X.xe (some (assign (.Name y py) X.env)) (fun _ s' => SP X pins D' .next s') acc C) hc I2 T st2 f2 hsc hmu hgk hb (fun C => q s2 C fp) ?_
  intro D C s' H' ys m hD hC hDC hn nC hI hq
  have I' := hI s'.heap (.refl ..)
  show wpAny _ X.A (assign (.Name y py) X.env (.ref D)) _ _ _
  refine wpAny_assign_Name (store_ok2 (i := i) (v := .ref D) I' hN hiN hy rfl (fun s'' I'' hs'' => ?_) hf)
  obtain ⟨a, sb, ha⟩ := hs''
  have neC : a ≠ C := by
    rcases ha with z | z
    · rw [z]; exact Nat.ne_of_lt (Nat.lt_of_lt_of_le I2.lt hC)
    · obtain ⟨v, o, ho, _⟩ := I2.cell y a z
      exact Nat.ne_of_lt (Nat.lt_of_lt_of_le (Heap.lt_size ho) hC)
  refine ⟨m, hn.sameBut sb (Ne.symm neC), fun h' sb' => ?_⟩
  refine ⟨_, _, I''.turned (it := C) (t' := s''.toks) (fun b o hb e => (sb'.2 b hb).trans e) (by rw [upd_ne (Ne.symm hDC)]; exact nC) (Nat.ne_of_gt (Nat.lt_of_lt_of_le I2.lt hC)) (.inr (Nat.le_trans I2.sz hC)) (fun x c e z => ?_) (fun p hp z => ?_), hq⟩
  · obtain ⟨v, o, ho, _⟩ := I2.cell x c e
    exact absurd (Heap.lt_size ho) (by rw [z]; exact Nat.not_lt.mpr hC)
  · exact absurd (Heap.lt_size (I2.pin p hp).1) (by rw [z]; exact Nat.not_lt.mpr hC)

/-- over a list that the items leave as it is: Pv by the turn, the items so far, the heap -/
theorem comp_list {K : PySem.W.Frag} {a : Addr} {xs : List V} {H1 : Hp} {Q : VK} {st : V → Hp → (St → Hp → Prop) → Prop} {tc : TT} {te : TE} (Pv : Nat → List V → Hp → Prop) (h0 : Pv 0 [] H1) (hl : ∀ i ys H, i ≤ xs.length → Pv i ys H → SqL K H a xs ∧ ys.length ≤ i) (hz : xs.length ≤ sizeLine)
    (hs : ∀ i x ys H, xs[i]? = some x → Pv i ys H → st x H fun σ4 H4 => tc σ4 H4 fun b H5 => if b = true then te σ4 H5 fun y H6 => Pv (i + 1) (ys ++ [y]) H6 else Pv (i + 1) ys H5)
    (hd : ∀ ys H, Pv xs.length ys H → ∀ D, H D = none → Q (.ref D) (upd H D (.lst ys))) : cBy (Itl K a) H1 Q st tc te := by
  refine ⟨fun i m ys H => m = xs.length - i ∧ i ≤ xs.length ∧ Pv i ys H, ⟨xs.length, by simp, Nat.zero_le _, h0⟩, ?_⟩
  rintro i m ys H ⟨rfl, hi, p⟩
  obtain ⟨q, hy⟩ := hl i ys H hi p
  by_cases hlt : i < xs.length
  · refine .inr ⟨⟨xs, xs[i], q, by simp [hlt]⟩, by omega, Pv (i + 1), fun ys' H' p' => ⟨xs.length - (i + 1), by omega, rfl, hlt, p'⟩, fun x H' y => ?_⟩
    obtain ⟨e, y⟩ := y
    subst e
    exact hs i x ys _ (y xs q) p
  · have e : i = xs.length := by omega
    subst e
    exact .inl ⟨⟨xs, q, Nat.le_refl _⟩, hd ys H p⟩
end
end L2

set_option Elab.async false
set_option linter.all false
set_option maxRecDepth 100000
namespace L2
open PySem PySem.Spec PyProof.Rows

/-- enumerate of the list at a: new pairs -/
def Ite (K : PySem.W.Frag) (a : Addr) : It :=
  ⟨fun i H => ∃ xs x, SqL K H a xs ∧ xs[i]? = some x, fun i H v H' => ∃ p x, H p = none ∧ v = .ref p ∧ (∀ xs, SqL K H a xs → xs[i]? = some x) ∧ H' = upd H p (.tup [.int i, x]), fun i H => ∃ xs, SqL K H a xs ∧ xs.length ≤ i⟩
theorem two_turned {X : Cx} {pins : List (Addr × Obj)} {σ : St} {H : Hp} {s : Shared} {h' : Heap} {t' : Nat} {e it : Addr} (I : Inv X pins σ H s) (he : FpOk X pins H e) (hi : FpOk X pins H it) (k : ∀ b o, b ≠ e → b ≠ it → s.heap.get? b = some o → h'.get? b = some o) : Inv X pins σ H { s with heap := h', toks := t' } := by
  obtain ⟨e0, e1, e2, e3, e4, e5⟩ := he
  obtain ⟨f0, f1, f2, f3, f4, f5⟩ := hi
  have ne : ∀ b u, H b = some u → b ≠ e ∧ b ≠ it := fun b u q => ⟨fun z => (by rw [z, e0] at q; cases q), fun z => (by rw [z, f0] at q; cases q)⟩
  refine I.step (g' := s.gens) (d' := s.drawn) (ch := [e, it]) (fun b hb => ?_) (fun b o _ _ hc q _ => k b o (fun z => hc (by simp [z])) (fun z => hc (by simp [z])) q) (fun b o _ _ hc q _ => ⟨o.slots, k b o (fun z => hc (by simp [z])) (fun z => hc (by simp [z])) q⟩) (fun _ _ _ _ n => n)
    (fun b o hc q => ⟨o, k b o (fun z => hc (by simp [z])) (fun z => hc (by simp [z])) q⟩) (fun _ _ q => q) (fun _ _ _ q => q) (fun b ps q => ⟨#[], by rw [q]; simp⟩) (fun m hm => ?_) (fun b u q => ?_) I.bare
  · rcases List.mem_cons.mp hb with z | z
    · subst z; exact ⟨e3, e1, e4, e5⟩
    · have z := List.mem_singleton.mp z
      subst z; exact ⟨f3, f1, f4, f5⟩
  · obtain ⟨o, es, ep, ho, r⟩ := hm
    exact ⟨o, es, ep, k _ o (Ne.symm e1) (Ne.symm f1) ho, r⟩
  · refine (I.hok b u q).stay (fun c v hc z => k c v ?_ ?_ z) (fun _ z => z) fun _ _ z => z
    · rcases hc with z | z
      · rw [z]; exact (ne b u q).1
      · exact (ne c _ z).1
    · rcases hc with z | z
      · rw [z]; exact (ne b u q).2
      · exact (ne c _ z).2
theorem turn_enum {P : Program} {w : World} {K : PySem.W.Frag} {elts : List Expr} {x1} {tpos : Pos} (a e it : Addr) (hne : e ≠ it) :
    Turn P w K (.Tuple elts x1 tpos) (Ite K a) [e, it] e (fun i h => (∃ old, IsEnum h e it i old) ∧ h.IsListIter it a i) where
  mem := by simp
  obj := fun i h st b hb => by
    obtain ⟨⟨old, h1⟩, o, h2, c, d⟩ := st
    rcases List.mem_cons.mp hb with z | z
    · subst z; exact ⟨_, h1, fun v z => by cases z⟩
    · have z := List.mem_singleton.mp z
      subst z; exact ⟨o, h2, fun v z => by rw [d] at z; cases z⟩
  keep := fun i h h' st k => ⟨let ⟨old, h1⟩ := st.1; ⟨old, k e (by simp) _ h1⟩, st.2.at fun o e => k it (by simp) o e⟩
  item := by
    intro X hP hw hK hc i pins s σ H E I hf st hg
    subst hP hw hK
    obtain ⟨xs, x, hq, hx⟩ := hg
    obtain ⟨⟨old, he⟩, hit⟩ := st
    obtain ⟨its, rv, p, hz⟩ := I.list hq
    obtain ⟨u, hu, ru⟩ := rv.get hx
    have fe := hf e (by simp)
    have fi := hf it (by simp)
    refine wpAny_pyNext_enum_item he hit p.isList (x := u) (by simpa using hu) hne fun h1 heo hit1 ht hsz hk => ?_
    refine ⟨_, rfl, wpAny_letOwnedTupleGo_enum (s := { s with heap := h1, toks := s.toks + 1 }) heo fun h2 he2 hs2 => ?_⟩
    have hs2' : Heap.SameBut e h1 h2 := hs2
    have nt : s.heap.objs.size ≠ e := Nat.ne_of_gt (Heap.lt_size he)
    have nt2 : s.heap.objs.size ≠ it := by
      obtain ⟨o, ho, _⟩ := hit
      exact Nat.ne_of_gt (Heap.lt_size ho)
    have I1 : Inv X pins σ H { s with heap := h2, toks := s.toks + 1 } := two_turned I fe fi fun b o hb hb' q => (hs2'.2 b hb).trans (hk b o hb hb' q)
    have tup : h2.get? s.heap.objs.size = some { cls := .type "tuple", data := .seq #[.int i s.toks, u] } := (hs2'.2 _ nt).trans ht
    have nH : H s.heap.objs.size = none := I.hok.fresh (Nat.le_refl _)
    have vv : Vals [.int i, x] [.int i s.toks, u] := .cons ⟨_, rfl⟩ (.cons ru .nil)
    have hok2 : HOk X.prog X.w (upd H s.heap.objs.size (.tup [.int i, x])) h2 := I1.hok.adopt nH ⟨by show 2 ≤ sizeLine; decide, _, vv, ⟨_, tup, rfl, _, rfl⟩⟩
    have I2 : Inv X pins σ (upd H s.heap.objs.size (.tup [.int i, x])) { s with heap := h2, toks := s.toks + 1 } := by
      refine I.step (g' := s.gens) (d' := s.drawn) (ch := [e, it]) (fun b hb => ?_) (fun b o _ _ hc q _ => (hs2'.2 b (fun z => hc (by simp [z]))).trans (hk b o (fun z => hc (by simp [z])) (fun z => hc (by simp [z])) q)) (fun b o _ _ hc q _ => ⟨o.slots, (hs2'.2 b (fun z => hc (by simp [z]))).trans (hk b o (fun z => hc (by simp [z])) (fun z => hc (by simp [z])) q)⟩)
        (fun b o hc q n => by rw [upd_ne (Nat.ne_of_lt (Heap.lt_size q))]; exact n) (fun b o hc q => ⟨o, (hs2'.2 b (fun z => hc (by simp [z]))).trans (hk b o (fun z => hc (by simp [z])) (fun z => hc (by simp [z])) q)⟩)
        (fun b xs q => by rw [upd_ne (ne_of_none q nH)]; exact q) (fun b o u q => by rw [upd_ne (ne_of_none q nH)]; exact q) (fun b ps q => ⟨#[], by rw [upd_ne (ne_of_none q nH), q]; simp⟩) (fun m hm => ?_) hok2 I.bare
      · rcases List.mem_cons.mp hb with z | z
        · subst z; exact ⟨fe.2.2.2.1, fe.2.1, fe.2.2.2.2.1, fe.2.2.2.2.2⟩
        · have z := List.mem_singleton.mp z
          subst z; exact ⟨fi.2.2.2.1, fi.2.1, fi.2.2.2.2.1, fi.2.2.2.2.2⟩
      · obtain ⟨o, es, ep, ho, r⟩ := hm
        exact ⟨o, es, ep, (hs2'.2 _ (Ne.symm fe.2.1)).trans (hk _ o (Ne.symm fe.2.1) (Ne.symm fi.2.1) ho), r⟩
    refine ⟨.ref s.heap.objs.size, _, I2, rfl, ⟨_, x, nH, rfl, fun ys hy => by rw [I.list_inj hy hq]; exact hx, rfl⟩, ⟨⟨u, he2⟩, hit1.at fun o q => (hs2'.2 it (Ne.symm hne)).trans q⟩, fun b hb => ?_⟩
    have hb' : b ≠ s.heap.objs.size := by
      rcases List.mem_cons.mp hb with z | z
      · rw [z]; exact Ne.symm nt
      · rw [List.mem_singleton.mp z]; exact Ne.symm nt2
    rw [upd_ne hb']
    exact (hf b hb).1
  done := by
    intro X hP hw hK hc i pins s σ H E I hf st hg
    subst hP hw hK
    obtain ⟨xs, hq, hx⟩ := hg
    obtain ⟨⟨old, he⟩, hit⟩ := st
    obtain ⟨its, rv, p, hz⟩ := I.list hq
    have hl := rv.length
    obtain ⟨f0, f1, f2, f3, f4, f5⟩ := hf it (by simp)
    exact wpAny_pyNext_enum_end (I.ok.hd hc) he hit p.isList (by simp; omega) fun h' eb => ⟨rfl, I.turned (t' := s.toks) (fun b o hb e => eb b o hb e) f0 f1 f3 f4 f5⟩
  self := fun _ _ _ _ _ st h => let ⟨_, he⟩ := st.1; wpAny_pyIter_enum he h

section
variable {X : Cx}
def iEnum (K : PySem.W.Frag) (ta : TA) : TI := fun σ H R => ta σ H fun vs H1 => ∃ a, vs = [.ref a] ∧ (∃ xs, SqL K H1 a xs) ∧ R (Ite K a) H1
theorem pi_enum {elts : List Expr} {x1} {tpos : Pos} {a : Expr} {ta : TA} {p pos : Pos} (hg : Gl X "enumerate") (hm : X.mg "enumerate" = none) (ha : PA X [a] ta) (hb : bootBuiltins "enumerate" = some (.type "enumerate") := by decide +kernel) (hs : starEach [a] X.env = [(false, eval a X.env)] := by rfl) :
    PI X (.Tuple elts x1 tpos) (.Call (.Name "enumerate" p) [a] [] pos) (iEnum X.K ta) := by
  intro pins s σ H R I h
  refine Call_ (ld_blt I hg hm hb (PyProof.Rows.callWith_type1 (thn (ha pos pins s σ H _ I h) fun us s1 ⟨vs, H1, I1, r1, q1⟩ => ?_) hs rfl))
  obtain ⟨j, e, ⟨xs, hq⟩, q⟩ := q1
  subst e
  cases r1 with
  | cons r rr =>
    cases rr
    cases r
    obtain ⟨its, rv, p, hz⟩ := I1.list hq
    refine call_enumerate_list p.isList fun h' he hit hsz hk => ?_
    refine wpAny_pyIter_enum (s := { s1 with heap := h' }) he ?_
    have I2 : Inv X pins σ H1 { s1 with heap := h' } := I1.kept (t' := s1.toks) hk
    refine ⟨_, [s1.heap.objs.size + 1, s1.heap.objs.size], _, _, H1, rfl, I2, turn_enum j _ _ (Nat.succ_ne_self _), ⟨⟨_, he⟩, hit⟩, fun b hb => ?_, q⟩
    rcases List.mem_cons.mp hb with z | z
    · rw [z]; exact I1.fpOk (Nat.le_succ _) (I1.hok.fresh (Nat.le_succ _))
    · rw [List.mem_singleton.mp z]; exact I1.fpOk (Nat.le_refl _) (I1.hok.fresh (Nat.le_refl _))
end

/-- for i, x in enumerate(xs), the body leaves the list -/
theorem for_enum {K : PySem.W.Frag} {a : Addr} {xs : List V} {g : TG} {tb : TS} {D : Ends} {σ : St} {H : Hp} (Pv : Nat → St → Hp → Prop) (h0 : Pv 0 σ H) (hl : ∀ i σ H, i ≤ xs.length → Pv i σ H → SqL K H a xs)
    (hs : ∀ i x σ H p, xs[i]? = some x → Pv i σ H → H p = none → g (.ref p) σ (upd H p (.tup [.int i, x])) fun σ2 H2 => tb { D with nx := Pv (i + 1), ct := Pv (i + 1), bk := D.nx } σ2 H2) (hd : ∀ σ H, Pv xs.length σ H → D.nx σ H) :
    ∃ W : Nat → Nat → St → Hp → Prop, (∃ m, W 0 m σ H) ∧ ∀ i m σ H, W i m σ H →
      ((Ite K a).stop i H ∧ D.nx σ H) ∨ ((Ite K a).go i H ∧ ∃ N : St → Hp → Prop, (∀ σ' H', N σ' H' → ∃ m', m' < m ∧ W (i + 1) m' σ' H') ∧ ∀ x H', (Ite K a).yld i H x H' → g x σ H' fun σ2 H2 => tb { D with nx := N, ct := N, bk := D.nx } σ2 H2) := by
  refine ⟨fun i m σ H => m = xs.length - i ∧ i ≤ xs.length ∧ Pv i σ H, ⟨xs.length, by simp, Nat.zero_le _, h0⟩, ?_⟩
  rintro i m σ H ⟨rfl, hi, p⟩
  have q := hl i σ H hi p
  by_cases hlt : i < xs.length
  · refine .inr ⟨⟨xs, xs[i], q, by simp [hlt]⟩, Pv (i + 1), fun σ' H' p' => ⟨xs.length - (i + 1), by omega, rfl, hlt, p'⟩, fun v H' y => ?_⟩
    obtain ⟨pa, x, hn, e, y, e'⟩ := y
    subst e e'
    exact hs i x σ _ pa (y xs q) p hn
  · have e : i = xs.length := by omega
    subst e
    exact .inl ⟨⟨xs, q, Nat.le_refl _⟩, hd σ H p⟩
end L2

set_option Elab.async false
set_option linter.all false
set_option maxRecDepth 100000
namespace L2
open PySem PySem.Spec PyProof.Rows

/-- the first least one -/
def bstep {α : Type} (o : Option (α × List Int)) (b : α × List Int) : Option (α × List Int) := match o with | none => some b | some c => if HT.lexLt b.2 c.2 = true then some b else some c
def bestA {α : Type} (bs : List (α × List Int)) : Option (α × List Int) := bs.foldl bstep none
def bestS (bs : List (Addr × List Int)) : Array Value := match bestA bs with | none => #[] | some b => #[.ref b.1, .ref b.1]
theorem bestA_snoc {α : Type} (bs : List (α × List Int)) (b : α × List Int) : bestA (bs ++ [b]) = match bestA bs with | none => some b | some c => if HT.lexLt b.2 c.2 = true then some b else some c := by
  unfold bestA; rw [List.foldl_append]; rfl
theorem bestA_mem {α : Type} : ∀ (bs : List (α × List Int)) (b : α × List Int), bestA bs = some b → b ∈ bs := by
  intro bs
  suffices h : ∀ (bs : List (α × List Int)) (o : Option (α × List Int)) (b : α × List Int), bs.foldl bstep o = some b → b ∈ bs ∨ o = some b by
    intro b hb
    rcases h bs none b hb with q | q
    · exact q
    · cases q
  intro bs
  induction bs with
  | nil => intro o b h; exact .inr h
  | cons x r ih =>
    intro o b h
    rw [List.foldl_cons] at h
    rcases ih _ _ h with q | q
    · exact .inl (List.mem_cons_of_mem _ q)
    · cases o with
      | none => cases q; exact .inl List.mem_cons_self
      | some c =>
        unfold bstep at q
        dsimp only at q
        split at q
        · cases q; exact .inl List.mem_cons_self
        · exact .inr q
theorem min_dflt_args (a v : Value) : argsOk "min" ⟨[a], [(Str.ofString "default", v)]⟩ := by unfold argsOk; kernel_rfl

section
variable {prog : Program} {w : World} {A : Around} {R : Result → Shared → Prop}
theorem min_loop (bs : List (Addr × List Int)) (tv : Addr → Array Value) (l I S : Addr) (d : Value) (hh : A.handled = none) (hu : A.in1.units < cLine) (hSI : S ≠ I) (hlI : l ≠ I) (hlS : l ≠ S) (hbI : ∀ b ∈ bs, b.1 ≠ I ∧ b.1 ≠ S)
    (hk : ∀ b ∈ bs, IntsAre (tv b.1).toList b.2) : ∀ (k j : Nat) (s : Shared) (c : Nat), bs.length - j = k → j ≤ bs.length → s.heap.IsListIter I l j → s.heap.IsList l (bs.map fun b => Value.ref b.1).toArray → (∀ b ∈ bs, IsTup s.heap b.1 (tv b.1)) →
      s.heap.get? S = some { cls := .type "list", dict := none, data := .seq (bestS (bs.take j)) c, slots := #[] } →
      (∀ h' tk, (∀ b o, b ≠ I → b ≠ S → s.heap.get? b = some o → h'.get? b = some o) → R (.ok (.ret (match bestA bs with | none => d | some b => .ref b.1))) { s with heap := h', toks := tk }) →
      codeAny (model prog w) A (.builtin "min.loop" ⟨[.ref I, .none, .ref S], [(Str.ofString "default", d)]⟩) R s := by
  have hname : (toString "min" ++ toString ".loop" : String) = "min.loop" := by decide
  intro k
  induction k with
  | zero =>
    intro j s c hr hj hit hl ht hS hR
    have hin : j = bs.length := by omega
    subst hin
    rw [List.take_length] at hS
    refine codeAny_builtin PySem.F.entry_min_loop ?_
    rw [Around.under_plainId PySem.F.plain_min_loop _]
    show wpAny _ A.in1 (seqItems? (.ref S) >>= _) _ _ s
    refine wpAny_bind (wpAny_seqItems hS rfl ?_)
    show wpAny _ A.in1 (tryCatch (pyNext (.ref I)) _ >>= _) _ _ s
    refine wpAny_bind (wpAny_tryCatch (wpAny_pyNext_list_end (A := A.in1) hh hit hl (by simp) fun h' eb => ?_))
    have hS' : h'.get? S = _ := eb S _ hSI hS
    unfold bestS at hS'
    cases hb : bestA bs with
    | none =>
      unfold bestS
      rw [hb]
      show wpAny _ A.in1 (rule _ >>= _) _ _ _
      refine wpAny_bind (wpAny_rule (wpAny_pure ?_))
      have q := hR h' s.toks fun b o h1 h2 e => eb b o h1 e
      rw [hb] at q
      exact q
    | some b =>
      rw [hb] at hS'
      unfold bestS
      rw [hb]
      show wpAny _ A.in1 (updateSeq S (fun _ => #[]) >>= _) _ _ _
      refine wpAny_bind ?_
      refine wpAny_updateSeq hS' rfl (wpAny_bind (wpAny_letGo (wpAny_pure ?_)))
      have q := hR (h'.update S (Obj.mapSeq fun _ => #[])) s.toks fun b o h1 h2 e => (Heap.get?_update_other _ _ (Ne.symm h2)).trans (eb b o h1 e)
      rw [hb] at q
      exact q
  | succ k ih =>
    intro j s c hr hj hit hl ht hS hR
    have hlt : j < bs.length := by omega
    have ej : bs.take (j + 1) = bs.take j ++ [bs[j]] := by rw [List.take_add_one, List.getElem?_eq_getElem hlt]; rfl
    have mj : bs[j] ∈ bs := List.getElem_mem hlt
    refine codeAny_builtin PySem.F.entry_min_loop ?_
    rw [Around.under_plainId PySem.F.plain_min_loop _]
    show wpAny _ A.in1 (seqItems? (.ref S) >>= _) _ _ s
    refine wpAny_bind (wpAny_seqItems hS rfl ?_)
    show wpAny _ A.in1 (tryCatch (pyNext (.ref I)) _ >>= _) _ _ s
    refine wpAny_bind (wpAny_tryCatch (wpAny_pyNext_list_item (A := A.in1) hit hl (x := .ref bs[j].1) (by simp [hlt]) fun h' hit' sb => ?_))
    have sb' : Heap.SameBut I s.heap h' := sb
    have hS' : h'.get? S = _ := (sb'.2 S hSI).trans hS
    have hl' : h'.IsList l (bs.map fun b => Value.ref b.1).toArray := hl.at fun o e => (sb'.2 l hlI).trans e
    have ht' : ∀ b ∈ bs, IsTup h' b.1 (tv b.1) := fun b hb => by
      obtain ⟨o, ho, r⟩ := ht b hb
      exact ⟨o, (sb'.2 b.1 (hbI b hb).1).trans ho, r⟩
    cases hb : bestA (bs.take j) with
    | none =>
      unfold bestS at hS' ⊢
      rw [hb] at hS' ⊢
      show wpAny _ A.in1 (updateSeq S (fun _ => #[.ref bs[j].1, .ref bs[j].1]) >>= _) _ _ _
      refine wpAny_bind ?_
      refine wpAny_updateSeq hS' rfl ?_
      rw [hname]
      have s1 := Heap.SameBut.update h' S (Obj.mapSeq fun _ => (#[.ref bs[j].1, .ref bs[j].1] : Array Value))
      refine wpAny_pure ⟨plainId_quiet PySem.F.plain_min_loop _, ih (j + 1) _ (c + 1) (by omega) hlt (hit'.at fun o e => (s1.2 I (Ne.symm hSI)).trans e) (hl'.at fun o e => (s1.2 l hlS).trans e) (fun b hb => ?_) ?_ fun h'' tk hk'' => ?_⟩
      · obtain ⟨o, ho, r⟩ := ht' b hb
        exact ⟨o, (s1.2 b.1 (hbI b hb).2).trans ho, r⟩
      · refine (Heap.get?_update_self _ hS' rfl).trans ?_
        unfold bestS
        rw [ej, bestA_snoc, hb]
        rfl
      · exact hR h'' tk fun b o h1 h2 e => hk'' b o h1 h2 ((s1.2 b h2).trans ((sb'.2 b h1).trans e))
    | some m =>
      have mm : m ∈ bs := List.mem_of_mem_take (bestA_mem _ _ hb)
      unfold bestS at hS' ⊢
      rw [hb] at hS' ⊢
      show wpAny _ A.in1 (tryCatch (holding [.ref bs[j].1, .ref bs[j].1] (richCompare .Lt (.ref bs[j].1) (.ref m.1) >>= _)) _ >>= _) _ _ _
      refine wpAny_bind (wpAny_tryCatch (wpAny_holding (wpAny_bind (HT.lt_tupInts (ht' _ mj) (ht' _ mm) (hk _ mj) (hk _ mm) hu ?_))))
      refine wpAny_bind (wpAny_holding (wpAny_truthy_bool ?_))
      refine wpAny_bind (wpAny_letGo (wpAny_pure ?_))
      cases hc : HT.lexLt bs[j].2 m.2 with
      | true =>
        simp only [if_true]
        have s1 := Heap.SameBut.update h' S (Obj.mapSeq fun _ => (#[.ref bs[j].1, .ref bs[j].1] : Array Value))
        refine wpAny_bind ?_
        refine wpAny_updateSeq hS' rfl (wpAny_bind (wpAny_letGo ?_))
        rw [hname]
        refine wpAny_pure ⟨plainId_quiet PySem.F.plain_min_loop _, ih (j + 1) _ c (by omega) hlt (hit'.at fun o e => (s1.2 I (Ne.symm hSI)).trans e) (hl'.at fun o e => (s1.2 l hlS).trans e) (fun b hb => ?_) ?_ fun h'' tk hk'' => ?_⟩
        · obtain ⟨o, ho, r⟩ := ht' b hb
          exact ⟨o, (s1.2 b.1 (hbI b hb).2).trans ho, r⟩
        · refine (Heap.get?_update_self _ hS' rfl).trans ?_
          unfold bestS
          rw [ej, bestA_snoc, hb]
          simp only [hc, if_true]
          rfl
        · exact hR h'' tk fun b o h1 h2 e => hk'' b o h1 h2 ((s1.2 b h2).trans ((sb'.2 b h1).trans e))
      | false =>
        simp only [Bool.false_eq_true, if_false]
        refine wpAny_bind (wpAny_letGo ?_)
        rw [hname]
        refine wpAny_pure ⟨plainId_quiet PySem.F.plain_min_loop _, ih (j + 1) _ c (by omega) hlt hit' hl' ht' ?_ fun h'' tk hk'' => ?_⟩
        · refine hS'.trans ?_
          unfold bestS
          rw [ej, bestA_snoc, hb]
          simp only [hc, Bool.false_eq_true, if_false]
        · exact hR h'' tk fun b o h1 h2 e => hk'' b o h1 h2 ((sb'.2 b h1).trans e)

theorem call_min_dflt {E : Value → Shared → Prop} {s : Shared} {Q : Value → Shared → Prop} (bs : List (Addr × List Int)) (tv : Addr → Array Value) (l : Addr) (d : Value) (hh : A.handled = none) (hu : A.in1.units < cLine)
    (hl : s.heap.IsList l (bs.map fun b => Value.ref b.1).toArray) (ht : ∀ b ∈ bs, IsTup s.heap b.1 (tv b.1)) (hk : ∀ b ∈ bs, IntsAre (tv b.1).toList b.2)
    (hQ : ∀ h' tk, (∀ b o, s.heap.get? b = some o → h'.get? b = some o) → Q (match bestA bs with | none => d | some b => .ref b.1) { s with heap := h', toks := tk }) :
    wpAny (model prog w) A (call (.builtin "min") [.ref l] [(Str.ofString "default", d)]) Q E s := by
  have hname : (toString "min" ++ toString ".loop" : String) = "min.loop" := by decide
  obtain ⟨ol, hol, _⟩ := id hl
  have hll : l < s.heap.objs.size := Heap.lt_size hol
  refine kmk_tree PySem.F.kind_min PySem.F.plain_min PySem.F.entry_min (min_dflt_args _ _) ?_
  show wpAny _ A.in1 (Builtin.Builtins.bindParams "min" ["key", "default"] 0 ⟨[], [(Str.ofString "default", d)]⟩ >>= _) _ _ s
  refine wpAny_bind (wpAny_of_eq (show Builtin.Builtins.bindParams "min" ["key", "default"] 0 ⟨[], [(Str.ofString "default", d)]⟩ = pure [none, some d] from rfl) ?_)
  refine wpAny_bind (wpAny_pure ?_)
  refine wpAny_bind (wpAny_pyIter_list hl ?_)
  refine wpAny_bind (wpAny_newList ?_ (Nat.zero_le _))
  rw [hname]
  have hS : (s.heap.push { cls := .type "list_iterator", data := .fields #[.ref l, .int 0 0] }).objs.size = s.heap.objs.size + 1 := Heap.size_push ..
  have old : ∀ b o, s.heap.get? b = some o → b ≠ s.heap.objs.size ∧ b ≠ (s.heap.push { cls := .type "list_iterator", data := .fields #[.ref l, .int 0 0] }).objs.size := fun b o e => ⟨Nat.ne_of_lt (Heap.lt_size e), by rw [hS]; exact Nat.ne_of_lt (Nat.lt_succ_of_lt (Heap.lt_size e))⟩
  have grow : ∀ b o, s.heap.get? b = some o → ((s.heap.push { cls := .type "list_iterator", data := .fields #[.ref l, .int 0 0] }).push { cls := .type "list", data := .seq #[] }).get? b = some o := fun b o e => Heap.get?_push_of_some _ (Heap.get?_push_of_some _ e)
  refine wpAny_pure ⟨plainId_quiet PySem.F.plain_min_loop _, ?_⟩
  refine min_loop bs tv l s.heap.objs.size (s.heap.push { cls := .type "list_iterator", data := .fields #[.ref l, .int 0 0] }).objs.size d hh hu (by rw [hS]; exact Nat.succ_ne_self _) (old l ol hol).1 (old l ol hol).2 (fun b hb => ?_) hk _ 0 _ 0 rfl (Nat.zero_le _) ?_ ?_ (fun b hb => ?_) ?_ ?_
  · obtain ⟨o, ho, _⟩ := ht b hb
    exact old b.1 o ho
  · exact ⟨_, Heap.get?_push_of_some _ (Heap.get?_push_size _ rfl), rfl, rfl⟩
  · exact hl.at fun o e => grow l o e
  · obtain ⟨o, ho, r⟩ := ht b hb
    exact ⟨o, grow b.1 o ho, r⟩
  · exact Heap.get?_push_size _ rfl
  · intro h' tk hk'
    exact hQ h' tk fun b o e => hk' b o (old b o e).1 (old b o e).2 (grow b o e)
end

section
variable {X : Cx} {e e2 : Expr} {te td : TE} {p pos kp : Pos}
/-- min(xs, default=d) of a list of tuples of ints -/
def tMinD (K : PySem.W.Frag) (te td : TE) : TE := fun σ H Q => te σ H fun x H1 => td σ H1 fun d H2 => ∃ (a : Addr) (bs : List (Addr × List Int)), x = .ref a ∧ SqL K H2 a (bs.map fun b => V.ref b.1) ∧ (∀ b ∈ bs, SqT K H2 b.1 (b.2.map V.int)) ∧ Q (match bestA bs with | none => d | some b => .ref b.1) H2
theorem vals_refs : ∀ {bs : List (Addr × List Int)} {us : List Value}, Vals (bs.map fun b => V.ref b.1) us → us = bs.map fun b => Value.ref b.1
  | [], _, .nil => rfl
  | b :: r, _, .cons h t => by cases h; rw [vals_refs t]; rfl
theorem pe_minD (hc : X.calm = true) (hu : X.A.units + 1 < cLine) (hg : Gl X "min") (hm : X.mg "min" = none) (he : PE X e te) (hd : PE X e2 td)
    (hst : starEach [e] X.env = [(false, eval e X.env)] := by rfl) (hall : (backToKw pos (keywordEach [⟨some "default", e2, kp⟩] X.env)).all (·.1.isSome) = true := by rfl) (hks : (backToKw pos (keywordEach [⟨some "default", e2, kp⟩] X.env)).filterMap (·.1) = ([("default" : Str)] : List Str) := by rfl)
    (hkw : (backToKw pos (keywordEach [⟨some "default", e2, kp⟩] X.env)).any (·.1.isNone) = false := by rfl) (heq : backTo pos (starEach [e] X.env) = (false, eval e X.env) :: backTo pos (starEach [] X.env) := by rfl) (hpl : (backTo pos (starEach [e] X.env)).any (·.1) = false := by rfl) :
    PE X (.Call (.Name "min" p) [e] [⟨some "default", e2, kp⟩] pos) (tMinD X.K te td) := by
  intro pins s σ H Q I h
  refine wpAny_Call_Name_kw (ld_blt I hg hm boot_min ?_ (by decide) (by decide))
  refine callWith_kw (thn ((pa_cons he pa_nil (hs := hst)) pos pins s σ H (fun vs H1 => match vs with | [x] => td σ H1 fun d H2 => ∃ (a : Addr) (bs : List (Addr × List Int)), x = .ref a ∧ SqL X.K H2 a (bs.map fun b => V.ref b.1) ∧ (∀ b ∈ bs, SqT X.K H2 b.1 (b.2.map V.int)) ∧ Q (match bestA bs with | none => d | some b => .ref b.1) H2 | _ => False) I h) fun us s1 ⟨vs, H1, I1, r1, q1⟩ => ?_) heq hpl hall hkw
  obtain ⟨x, rfl⟩ : ∃ x, vs = [x] := by
    match vs, q1 with
    | [x], _ => exact ⟨x, rfl⟩
  refine thn ((pk_cons hd pk_nil) pos pins s1 σ H1 (fun zs H2 => match zs with | [d] => ∃ (a : Addr) (bs : List (Addr × List Int)), x = .ref a ∧ SqL X.K H2 a (bs.map fun b => V.ref b.1) ∧ (∀ b ∈ bs, SqT X.K H2 b.1 (b.2.map V.int)) ∧ Q (match bestA bs with | none => d | some b => .ref b.1) H2 | _ => False) I1 q1) fun ws s2 ⟨zs, H2, I2, r2, q2⟩ => ?_
  obtain ⟨d, rfl⟩ : ∃ d, zs = [d] := by
    match zs, q2 with
    | [d], _ => exact ⟨d, rfl⟩
  obtain ⟨a, bs, rfl, hl, hb, q⟩ := q2
  obtain ⟨ua, rfl, ra⟩ := r1.one
  obtain ⟨ud, rfl, rd⟩ := r2.one
  cases ra
  rw [hks]
  obtain ⟨its, rv, pl, hz⟩ := I2.list hl
  have ei := vals_refs rv
  subst ei
  have tv : ∀ a : Addr, ∃ t : Array Value, ∀ b ∈ bs, b.1 = a → IsTup s2.heap a t ∧ IntsAre t.toList b.2 := fun a => by
    by_cases hbm : ∃ b ∈ bs, b.1 = a
    · obtain ⟨b, hbm, rfl⟩ := hbm
      obtain ⟨ts, rt, pt, _⟩ := I2.tuple (hb b hbm)
      refine ⟨ts.toArray, fun b' hb' e => ⟨pt, ?_⟩⟩
      have q2 := hb b' hb'
      rw [e] at q2
      have e2 := I2.tuple_inj q2 (hb b hbm)
      rw [← e2] at rt
      simpa using intsAre_of rt
    · exact ⟨#[], fun b hb' e => absurd ⟨b, hb', e⟩ hbm⟩
  refine call_min_dflt bs (fun b => Classical.choose (tv b)) a ud (I2.ok.hd hc) hu pl.isList (fun b hb' => (Classical.choose_spec (tv b.1) b hb' rfl).1) (fun b hb' => (Classical.choose_spec (tv b.1) b hb' rfl).2) fun h' tk hk => ?_
  refine ⟨match bestA bs with | none => d | some b => .ref b.1, H2, I2.kept (t' := tk) hk, ?_, q⟩
  cases bestA bs with
  | none => exact rd
  | some b => rfl
end
end L2

set_option Elab.async false
set_option linter.all false
set_option maxRecDepth 100000
namespace L2
open PySem PySem.Spec PyProof.Rows

/-! ### data: what a value is, without addresses -/
inductive D where
  | non | bl (b : Bool) | int (i : Int) | str (x : Str) | tup (ds : List D) | lst (ds : List D) | exn (x : Str)
/-- an exception of the class at c stands at a -/
def excP (a c : Addr) (h : Heap) : Prop := ∃ o, h.get? a = some o ∧ o.cls = .ref c ∧ PySem.W.notCls o = true
mutual
inductive Has (K : PySem.W.Frag) (H : Hp) : V → D → Prop
  | non : Has K H .non .non
  | bl (b) : Has K H (.bl b) (.bl b)
  | int (i) : Has K H (.int i) (.int i)
  | str (x) : Has K H (.str x) (.str x)
  | tup {a xs ds} : SqT K H a xs → HasL K H xs ds → Has K H (.ref a) (.tup ds)
  | lst {a xs ds} : SqL K H a xs → HasL K H xs ds → Has K H (.ref a) (.lst ds)
  | exn {a c x} : PySem.W.nsIn K mainGlobals x = some (some (.ref c)) → H a = some (.ext (excP a c)) → Has K H (.ref a) (.exn x)
inductive HasL (K : PySem.W.Frag) (H : Hp) : List V → List D → Prop
  | nil : HasL K H [] []
  | cons {x d xs ds} : Has K H x d → HasL K H xs ds → HasL K H (x :: xs) (d :: ds)
end
theorem HasL.length {K : PySem.W.Frag} {H : Hp} : ∀ {xs : List V} {ds : List D}, HasL K H xs ds → xs.length = ds.length
  | _, _, .nil => rfl
  | _, _, .cons _ t => by rw [List.length_cons, List.length_cons, HasL.length t]
theorem HasL.get {K : PySem.W.Frag} {H : Hp} : ∀ {xs : List V} {ds : List D} {i : Nat} {d : D}, HasL K H xs ds → ds[i]? = some d → ∃ x, xs[i]? = some x ∧ Has K H x d
  | _, _, _, _, .nil, e => by simp at e
  | _, _, 0, _, .cons r _, e => by simp at e; subst e; exact ⟨_, rfl, r⟩
  | _, _, i + 1, d, .cons _ t, e => by
    obtain ⟨u, h1, h2⟩ := HasL.get (i := i) (d := d) t (by simpa using e)
    exact ⟨u, by simpa using h1, h2⟩
theorem HasL.getV {K : PySem.W.Frag} {H : Hp} : ∀ {xs : List V} {ds : List D} {i : Nat} {x : V}, HasL K H xs ds → xs[i]? = some x → ∃ d, ds[i]? = some d ∧ Has K H x d
  | _, _, _, _, .nil, e => by simp at e
  | _, _, 0, _, .cons r _, e => by simp at e; subst e; exact ⟨_, rfl, r⟩
  | _, _, i + 1, d, .cons _ t, e => by
    obtain ⟨u, h1, h2⟩ := HasL.getV (i := i) (x := d) t (by simpa using e)
    exact ⟨u, by simpa using h1, h2⟩
theorem HasL.append {K : PySem.W.Frag} {H : Hp} : ∀ {xs ys : List V} {ds es : List D}, HasL K H xs ds → HasL K H ys es → HasL K H (xs ++ ys) (ds ++ es)
  | _, _, _, _, .nil, h => h
  | _, _, _, _, .cons r t, h => .cons r (HasL.append t h)
theorem HasL.snoc {K : PySem.W.Frag} {H : Hp} {xs : List V} {ds : List D} {x : V} {d : D} (h : HasL K H xs ds) (r : Has K H x d) : HasL K H (xs ++ [x]) (ds ++ [d]) := h.append (.cons r .nil)
theorem HasL.take {K : PySem.W.Frag} {H : Hp} : ∀ {xs : List V} {ds : List D} (n : Nat), HasL K H xs ds → HasL K H (xs.take n) (ds.take n)
  | _, _, 0, _ => .nil
  | _, _, _ + 1, .nil => .nil
  | _, _, n + 1, .cons r t => .cons r (HasL.take n t)
theorem HasL.drop {K : PySem.W.Frag} {H : Hp} : ∀ {xs : List V} {ds : List D} (n : Nat), HasL K H xs ds → HasL K H (xs.drop n) (ds.drop n)
  | _, _, 0, r => r
  | _, _, _ + 1, .nil => .nil
  | _, _, n + 1, .cons _ t => HasL.drop n t
theorem HasL.reverse {K : PySem.W.Frag} {H : Hp} : ∀ {xs : List V} {ds : List D}, HasL K H xs ds → HasL K H xs.reverse ds.reverse
  | _, _, .nil => .nil
  | _, _, .cons r t => by rw [List.reverse_cons, List.reverse_cons]; exact (HasL.reverse t).snoc r
theorem HasL.ints {K : PySem.W.Frag} {H : Hp} : ∀ (ns : List Int), HasL K H (ns.map V.int) (ns.map D.int)
  | [] => .nil
  | n :: r => .cons (.int n) (HasL.ints r)
theorem Same.seqT {K : PySem.W.Frag} {H H' : Hp} {a : Addr} {xs : List V} (e : Same H H') (h : SqT K H a xs) : SqT K H' a xs := by
  rcases h with (h | ⟨o, h⟩) | h
  · exact .inl (.inl (e _ _ h))
  · exact .inl (.inr ⟨o, e _ _ h⟩)
  · exact .inr h
mutual
theorem Has.mono {K : PySem.W.Frag} {H H' : Hp} (e : Same H H') : ∀ {v : V} {d : D}, Has K H v d → Has K H' v d
  | _, _, .non => .non
  | _, _, .bl b => .bl b
  | _, _, .int i => .int i
  | _, _, .str x => .str x
  | _, _, .tup h r => .tup (e.seqT h) (HasL.mono e r)
  | _, _, .lst h r => .lst (e.seq h) (HasL.mono e r)
  | _, _, .exn h r => .exn h (e _ _ r)
theorem HasL.mono {K : PySem.W.Frag} {H H' : Hp} (e : Same H H') : ∀ {vs : List V} {ds : List D}, HasL K H vs ds → HasL K H' vs ds
  | _, _, .nil => .nil
  | _, _, .cons h t => .cons (Has.mono e h) (HasL.mono e t)
end
theorem same_new {H : Hp} {p : Addr} (h : H p = none) (o : HO) : Same H (upd H p o) := fun b u q => by rw [upd_ne (ne_of_none q h)]; exact q

mutual
def eqD : D → D → Bool
  | .non, .non => true
  | .bl a, .bl b => a == b
  | .int a, .int b => a == b
  | .str a, .str b => a == b
  | .bl a, .int b => (if a then 1 else 0) == b
  | .int a, .bl b => a == (if b then 1 else 0)
  | .tup a, .tup b => eqDs a b
  | .lst a, .lst b => eqDs a b
  | .exn a, .exn b => a == b
  | _, _ => false
def eqDs : List D → List D → Bool
  | [], [] => true
  | a :: r, b :: t => eqD a b && eqDs r t
  | _, _ => false
end
mutual
theorem eqD_refl : ∀ d : D, eqD d d = true
  | .non => by simp [eqD]
  | .bl b => by simp [eqD]
  | .int b => by simp [eqD]
  | .str b => by simp [eqD]
  | .tup b => by simp only [eqD]; exact eqDs_refl b
  | .lst b => by simp only [eqD]; exact eqDs_refl b
  | .exn b => by simp [eqD]
theorem eqDs_refl : ∀ d : List D, eqDs d d = true
  | [] => by simp [eqDs]
  | a :: r => by simp only [eqDs, eqD_refl a, eqDs_refl r, Bool.and_true]
end
mutual
def noX : D → Bool
  | .tup a => noXs a
  | .lst a => noXs a
  | .exn _ => false
  | _ => true
def noXs : List D → Bool
  | [] => true
  | a :: r => noX a && noXs r
end
theorem noX_mem : ∀ {ds : List D} {d : D}, d ∈ ds → noXs ds = true → noX d = true
  | a :: r, d, h, q => by
    rw [noXs, Bool.and_eq_true] at q
    rcases List.mem_cons.mp h with z | z
    · subst z; exact q.1
    · exact noX_mem z q.2
mutual
def dep : D → Nat
  | .tup a => deps a + 1
  | .lst a => deps a + 1
  | _ => 0
def deps : List D → Nat
  | [] => 0
  | a :: r => max (dep a) (deps r)
end
theorem dep_mem : ∀ {ds : List D} {d : D}, d ∈ ds → dep d ≤ deps ds
  | a :: r, d, h => by
    rw [deps]
    rcases List.mem_cons.mp h with z | z
    · subst z; exact Nat.le_max_left _ _
    · exact Nat.le_trans (dep_mem z) (Nat.le_max_right _ _)
theorem eqDs_len : ∀ {a b : List D}, eqDs a b = true → a.length = b.length
  | [], [], _ => rfl
  | [], _ :: _, h => by simp [eqDs] at h
  | _ :: _, [], h => by simp [eqDs] at h
  | a :: r, b :: t, h => by
    simp only [eqDs, Bool.and_eq_true] at h
    rw [List.length_cons, List.length_cons, eqDs_len h.2]
theorem eqDs_range : ∀ (a b : List D), a.length = b.length → (List.range a.length).all (fun j => eqD (a.getD j .non) (b.getD j .non)) = eqDs a b
  | [], [], _ => by simp [eqDs]
  | a :: r, b :: t, h => by
    have ih := eqDs_range r t (by simpa using h)
    rw [List.length_cons, List.range_succ_eq_map, List.all_cons, List.all_map, eqDs, ← ih]
    simp [Function.comp_def]
  | [], _ :: _, h => by cases h
  | _ :: _, [], h => by cases h
theorem eqDs_ne {a b : List D} (h : a.length ≠ b.length) : eqDs a b = false := by
  cases e : eqDs a b with
  | false => rfl
  | true => exact absurd (eqDs_len e) h
theorem eqDs_min (a b : List D) : ((List.range (min a.length b.length)).all (fun j => eqD (a.getD j .non) (b.getD j .non)) && (a.length == b.length)) = eqDs a b := by
  by_cases h : a.length = b.length
  · rw [← eqDs_range a b h, h]; simp
  · rw [eqDs_ne h, beq_false_of_ne h, Bool.and_false]

section
variable {X : Cx} {pins : List (Addr × Obj)} {σ : St} {H : Hp} {s : Shared}
theorem lst_tup (I : Inv X pins σ H s) {a : Addr} {xs ys : List V} (h : SqL X.K H a xs) (h' : SqT X.K H a ys) : False := by
  obtain ⟨its, _, ⟨o, n, e, c, _, _⟩, _⟩ := I.list h
  obtain ⟨its', _, ⟨o', e', c', _⟩, _⟩ := I.tuple h'
  rw [e] at e'; cases e'
  rw [c] at c'
  revert c'; decide
mutual
theorem has_inj (I : Inv X pins σ H s) : ∀ {v : V} {d d' : D}, noX d = true → noX d' = true → Has X.K H v d → Has X.K H v d' → d = d'
  | _, _, _, _, _, .non, .non => rfl
  | _, _, _, _, _, .bl _, .bl _ => rfl
  | _, _, _, _, _, .int _, .int _ => rfl
  | _, _, _, _, _, .str _, .str _ => rfl
  | _, _, _, n1, n2, .tup h r, .tup h' r' => by
    have e := I.tuple_inj h h'
    subst e
    rw [hasL_inj I (by rw [noX] at n1; exact n1) (by rw [noX] at n2; exact n2) r r']
  | _, _, _, n1, n2, .lst h r, .lst h' r' => by
    have e := I.list_inj h h'
    subst e
    rw [hasL_inj I (by rw [noX] at n1; exact n1) (by rw [noX] at n2; exact n2) r r']
  | _, _, _, _, _, .tup h _, .lst h' _ => (lst_tup I h' h).elim
  | _, _, _, _, _, .lst h _, .tup h' _ => (lst_tup I h h').elim
  | _, _, _, n1, _, .exn _ _, _ => by rw [noX] at n1; cases n1
  | _, _, _, _, n2, _, .exn _ _ => by rw [noX] at n2; cases n2
theorem hasL_inj (I : Inv X pins σ H s) : ∀ {v : List V} {d d' : List D}, noXs d = true → noXs d' = true → HasL X.K H v d → HasL X.K H v d' → d = d'
  | _, _, _, _, _, .nil, .nil => rfl
  | _, _, _, n1, n2, .cons h r, .cons h' r' => by
    rw [noXs, Bool.and_eq_true] at n1 n2
    rw [has_inj I n1.1 n2.1 h h', hasL_inj I n1.2 n2.2 r r']
end
/-- what the heap has at a datum -/
theorem vat {xs : List V} {its : List Value} (r : Vals xs its) (j : Nat) (h : j < its.toArray.size) : ∃ x, xs[j]? = some x ∧ RelV x its.toArray[j] := by
  have h' : j < its.length := by simpa using h
  have hx : j < xs.length := by rw [r.length]; exact h'
  obtain ⟨u, hu, ru⟩ := r.get (List.getElem?_eq_getElem hx)
  rw [List.getElem?_eq_getElem h'] at hu
  refine ⟨xs[j], List.getElem?_eq_getElem hx, ?_⟩
  have e : its.toArray[j] = u := by simpa using hu
  rw [e]; exact ru
theorem getD_of {ds : List D} {j : Nat} {d : D} (h : ds[j]? = some d) : ds.getD j .non = d := by rw [List.getD_eq_getElem?_getD, h]; rfl
theorem eqAt_D (I : Inv X pins σ H s) : ∀ (n : Nat) (A : Around) (d e : D) (v w : V) (u1 u2 : Value), dep d ≤ n → noX d = true → noX e = true → A.units + n < cLine → Has X.K H v d → Has X.K H w e → RelV v u1 → RelV w u2 → SeqAt.EqAt A s u1 u2 (eqD d e) := by
  intro n
  induction n with
  | zero =>
    intro A d e v w u1 u2 hd hx1 hx2 hu h1 h2 r1 r2
    have hu' : A.units < cLine := by omega
    cases h1 with
    | exn _ _ => simp [noX] at hx1
    | non =>
      cases r1
      cases h2 with
      | exn _ _ => simp [noX] at hx2
      | non => cases r2; simp only [eqD]; exact .same _
      | bl b => cases r2; simp only [eqD]; exact .none_bool _
      | int b => obtain ⟨t, rfl⟩ := r2; simp only [eqD]; exact .none_int _ _
      | str b => obtain ⟨t, rfl⟩ := r2; simp only [eqD]; exact .none_str _ _
      | tup h r => cases r2; simp only [eqD]; obtain ⟨_, _, p, _⟩ := I.tuple h; exact .none_tuple p hu'
      | lst h r => cases r2; simp only [eqD]; obtain ⟨_, _, p, _⟩ := I.list h; exact .none_list p.isList hu'
    | bl a =>
      cases r1
      cases h2 with
      | exn _ _ => simp [noX] at hx2
      | non => cases r2; simp only [eqD]; exact .bool_none _
      | bl b => cases r2; simp only [eqD]; exact .bool_bool _ _
      | int b => obtain ⟨t, rfl⟩ := r2; simp only [eqD]; exact .bool_int _ _ _
      | str b => obtain ⟨t, rfl⟩ := r2; simp only [eqD]; exact .bool_str _ _ _
      | tup h r => cases r2; simp only [eqD]; obtain ⟨_, _, p, _⟩ := I.tuple h; exact .bool_tuple _ p hu'
      | lst h r => cases r2; simp only [eqD]; obtain ⟨_, _, p, _⟩ := I.list h; exact .bool_list _ p.isList hu'
    | int a =>
      obtain ⟨t', rfl⟩ := r1
      cases h2 with
      | exn _ _ => simp [noX] at hx2
      | non => cases r2; simp only [eqD]; exact .int_none _ _
      | bl b => cases r2; simp only [eqD]; exact .int_bool _ _ _
      | int b => obtain ⟨t, rfl⟩ := r2; simp only [eqD]; exact .int_int _ _ _ _
      | str b => obtain ⟨t, rfl⟩ := r2; simp only [eqD]; exact .int_str _ _ _ _
      | tup h r => cases r2; simp only [eqD]; obtain ⟨_, _, p, _⟩ := I.tuple h; exact .int_tuple _ _ p hu'
      | lst h r => cases r2; simp only [eqD]; obtain ⟨_, _, p, _⟩ := I.list h; exact .int_list _ _ p.isList hu'
    | str a =>
      obtain ⟨t', rfl⟩ := r1
      cases h2 with
      | exn _ _ => simp [noX] at hx2
      | non => cases r2; simp only [eqD]; exact .str_none _ _
      | bl b => cases r2; simp only [eqD]; exact .str_bool _ _ _
      | int b => obtain ⟨t, rfl⟩ := r2; simp only [eqD]; exact .str_int _ _ _ _
      | str b => obtain ⟨t, rfl⟩ := r2; simp only [eqD]; exact .str_str _ _ _ _
      | tup h r => cases r2; simp only [eqD]; obtain ⟨_, _, p, _⟩ := I.tuple h; exact .str_tuple _ _ p hu'
      | lst h r => cases r2; simp only [eqD]; obtain ⟨_, _, p, _⟩ := I.list h; exact .str_list _ _ p.isList hu'
    | tup h r => rw [dep] at hd; omega
    | lst h r => rw [dep] at hd; omega
  | succ n ih =>
    intro A d e v w u1 u2 hd hx1 hx2 hu h1 h2 r1 r2
    have hu' : A.units < cLine := by omega
    have hu1 : A.in1.units + n < cLine := by show A.units + 1 + n < cLine; omega
    by_cases hdn : dep d ≤ n
    · exact ih A d e v w u1 u2 hdn hx1 hx2 (by omega) h1 h2 r1 r2
    cases h1 with
    | exn _ _ => simp [noX] at hx1
    | non => exact absurd (by simp [dep]) hdn
    | bl _ => exact absurd (by simp [dep]) hdn
    | int _ => exact absurd (by simp [dep]) hdn
    | str _ => exact absurd (by simp [dep]) hdn
    | @tup a xs ds h r =>
      cases r1
      obtain ⟨its, rv, p, _⟩ := I.tuple h
      cases h2 with
      | exn _ _ => simp [noX] at hx2
      | non => cases r2; simp only [eqD]; exact .tuple_none p hu'
      | bl b => cases r2; simp only [eqD]; exact .tuple_bool _ p hu'
      | int b => obtain ⟨t, rfl⟩ := r2; simp only [eqD]; exact .tuple_int _ _ p hu'
      | str b => obtain ⟨t, rfl⟩ := r2; simp only [eqD]; exact .tuple_str _ _ p hu'
      | @lst a2 xs2 es h' r' => cases r2; simp only [eqD]; obtain ⟨_, _, p', _⟩ := I.list h'; exact .tuple_list p p'.isList hu'
      | @tup a2 xs2 es h' r' =>
        cases r2
        by_cases ha : a = a2
        · subst ha
          have e' := I.tuple_inj h h'
          subst e'
          have e2 := hasL_inj I (by rw [noX] at hx1; exact hx1) (by rw [noX] at hx2; exact hx2) r r'
          subst e2
          rw [eqD_refl]
          exact .same _
        · obtain ⟨its', rv', p', _⟩ := I.tuple h'
          refine .of_refs ha ?_
          have q := SeqAt.RcAt.tuples (A := A) (e := fun j => eqD (ds.getD j .non) (es.getD j .non)) p p' hu' fun j h1 h2 => ?_
          · have z1 : its.toArray.size = ds.length := by rw [List.size_toArray, ← rv.length, r.length]
            have z2 : its'.toArray.size = es.length := by rw [List.size_toArray, ← rv'.length, r'.length]
            rw [z1, z2, eqDs_min] at q
            simp only [eqD]
            exact q
          · obtain ⟨x, hx, rx⟩ := vat rv j h1
            obtain ⟨y, hy, ry⟩ := vat rv' j h2
            obtain ⟨dx, ex, hax⟩ := r.getV hx
            obtain ⟨dy, ey, hay⟩ := r'.getV hy
            rw [getD_of ex, getD_of ey]
            refine ih A.in1 dx dy x y _ _ ?_ (noX_mem (List.mem_of_getElem? ex) (by rw [noX] at hx1; exact hx1)) (noX_mem (List.mem_of_getElem? ey) (by rw [noX] at hx2; exact hx2)) hu1 hax hay rx ry
            rw [dep] at hd
            have := dep_mem (List.mem_of_getElem? ex)
            omega
    | @lst a xs ds h r =>
      cases r1
      obtain ⟨its, rv, p, _⟩ := I.list h
      cases h2 with
      | exn _ _ => simp [noX] at hx2
      | non => cases r2; simp only [eqD]; exact .list_none p.isList hu'
      | bl b => cases r2; simp only [eqD]; exact .list_bool _ p.isList hu'
      | int b => obtain ⟨t, rfl⟩ := r2; simp only [eqD]; exact .list_int _ _ p.isList hu'
      | str b => obtain ⟨t, rfl⟩ := r2; simp only [eqD]; exact .list_str _ _ p.isList hu'
      | @tup a2 xs2 es h' r' => cases r2; simp only [eqD]; obtain ⟨_, _, p', _⟩ := I.tuple h'; exact .list_tuple p.isList p' hu'
      | @lst a2 xs2 es h' r' =>
        cases r2
        by_cases ha : a = a2
        · subst ha
          have e' := I.list_inj h h'
          subst e'
          have e2 := hasL_inj I (by rw [noX] at hx1; exact hx1) (by rw [noX] at hx2; exact hx2) r r'
          subst e2
          rw [eqD_refl]
          exact .same _
        · obtain ⟨its', rv', p', _⟩ := I.list h'
          refine .of_refs ha ?_
          have z1 : its.toArray.size = ds.length := by rw [List.size_toArray, ← rv.length, r.length]
          have z2 : its'.toArray.size = es.length := by rw [List.size_toArray, ← rv'.length, r'.length]
          by_cases hz : its.toArray.size = its'.toArray.size
          · have q := SeqAt.RcAt.lists (A := A) (e := fun j => eqD (ds.getD j .non) (es.getD j .non)) p.isList p'.isList hz hu' fun j h1 h2 => ?_
            · rw [z1, eqDs_range ds es (by rw [← z1, ← z2, hz])] at q
              simp only [eqD]
              exact q
            · obtain ⟨x, hx, rx⟩ := vat rv j h1
              obtain ⟨y, hy, ry⟩ := vat rv' j h2
              obtain ⟨dx, ex, hax⟩ := r.getV hx
              obtain ⟨dy, ey, hay⟩ := r'.getV hy
              rw [getD_of ex, getD_of ey]
              refine ih A.in1 dx dy x y _ _ ?_ (noX_mem (List.mem_of_getElem? ex) (by rw [noX] at hx1; exact hx1)) (noX_mem (List.mem_of_getElem? ey) (by rw [noX] at hx2; exact hx2)) hu1 hax hay rx ry
              rw [dep] at hd
              have := dep_mem (List.mem_of_getElem? ex)
              omega
          · have q := SeqAt.RcAt.lists_lengths (A := A) p.isList p'.isList (by simpa using hz) hu'
            simp only [eqD]
            rw [eqDs_ne (by rw [← z1, ← z2]; exact hz)]
            exact q
theorem rc_D (I : Inv X pins σ H s) (A : Around) (d e : D) (v w : V) (u1 u2 : Value) (hd : A.units + dep d < cLine) (hx1 : noX d = true) (hx2 : noX e = true) (h1 : Has X.K H v d) (h2 : Has X.K H w e) (r1 : RelV v u1) (r2 : RelV w u2) : SeqAt.RcAt A s u1 u2 (eqD d e) := by
  have hu' : A.units < cLine := by omega
  cases h1 with
  | exn _ _ => simp [noX] at hx1
  | non =>
    cases r1
    cases h2 with
    | exn _ _ => simp [noX] at hx2
    | non => cases r2; simp only [eqD]; exact .none_none
    | bl b => cases r2; simp only [eqD]; exact .none_bool _
    | int b => obtain ⟨t, rfl⟩ := r2; simp only [eqD]; exact .none_int _ _
    | str b => obtain ⟨t, rfl⟩ := r2; simp only [eqD]; exact .none_str _ _
    | tup h r => cases r2; simp only [eqD]; obtain ⟨_, _, p, _⟩ := I.tuple h; exact .none_tuple  p hu'
    | lst h r => cases r2; simp only [eqD]; obtain ⟨_, _, p, _⟩ := I.list h; exact .none_list  p.isList hu'
  | bl a =>
    cases r1
    cases h2 with
    | exn _ _ => simp [noX] at hx2
    | non => cases r2; simp only [eqD]; exact .bool_none _
    | bl b => cases r2; simp only [eqD]; exact .bool_bool _ _
    | int b => obtain ⟨t, rfl⟩ := r2; simp only [eqD]; exact .bool_int _ _ _
    | str b => obtain ⟨t, rfl⟩ := r2; simp only [eqD]; exact .bool_str _ _ _
    | tup h r => cases r2; simp only [eqD]; obtain ⟨_, _, p, _⟩ := I.tuple h; exact .bool_tuple _ p hu'
    | lst h r => cases r2; simp only [eqD]; obtain ⟨_, _, p, _⟩ := I.list h; exact .bool_list _ p.isList hu'
  | int a =>
    obtain ⟨t', rfl⟩ := r1
    cases h2 with
    | exn _ _ => simp [noX] at hx2
    | non => cases r2; simp only [eqD]; exact .int_none _ _
    | bl b => cases r2; simp only [eqD]; exact .int_bool _ _ _
    | int b => obtain ⟨t, rfl⟩ := r2; simp only [eqD]; exact .int_int _ _ _ _
    | str b => obtain ⟨t, rfl⟩ := r2; simp only [eqD]; exact .int_str _ _ _ _
    | tup h r => cases r2; simp only [eqD]; obtain ⟨_, _, p, _⟩ := I.tuple h; exact .int_tuple _ _ p hu'
    | lst h r => cases r2; simp only [eqD]; obtain ⟨_, _, p, _⟩ := I.list h; exact .int_list _ _ p.isList hu'
  | str a =>
    obtain ⟨t', rfl⟩ := r1
    cases h2 with
    | exn _ _ => simp [noX] at hx2
    | non => cases r2; simp only [eqD]; exact .str_none _ _
    | bl b => cases r2; simp only [eqD]; exact .str_bool _ _ _
    | int b => obtain ⟨t, rfl⟩ := r2; simp only [eqD]; exact .str_int _ _ _ _
    | str b => obtain ⟨t, rfl⟩ := r2; simp only [eqD]; exact .str_str _ _ _ _
    | tup h r => cases r2; simp only [eqD]; obtain ⟨_, _, p, _⟩ := I.tuple h; exact .str_tuple _ _ p hu'
    | lst h r => cases r2; simp only [eqD]; obtain ⟨_, _, p, _⟩ := I.list h; exact .str_list _ _ p.isList hu'
  | @tup a xs ds h r =>
    cases r1
    obtain ⟨its, rv, p, _⟩ := I.tuple h
    cases h2 with
    | exn _ _ => simp [noX] at hx2
    | non => cases r2; simp only [eqD]; exact .tuple_none  p hu'
    | bl b => cases r2; simp only [eqD]; exact .tuple_bool _ p hu'
    | int b => obtain ⟨t, rfl⟩ := r2; simp only [eqD]; exact .tuple_int _ _ p hu'
    | str b => obtain ⟨t, rfl⟩ := r2; simp only [eqD]; exact .tuple_str _ _ p hu'
    | @lst a2 xs2 es h' r' => cases r2; simp only [eqD]; obtain ⟨_, _, p', _⟩ := I.list h'; exact .tuple_list p p'.isList hu'
    | @tup a2 xs2 es h' r' =>
      cases r2
      obtain ⟨its', rv', p', _⟩ := I.tuple h'
      have z1 : its.toArray.size = ds.length := by rw [List.size_toArray, ← rv.length, r.length]
      have z2 : its'.toArray.size = es.length := by rw [List.size_toArray, ← rv'.length, r'.length]
      have q := SeqAt.RcAt.tuples (A := A) (e := fun j => eqD (ds.getD j .non) (es.getD j .non)) p p' hu' fun j h1 h2 => ?_
      · rw [z1, z2, eqDs_min] at q
        simp only [eqD]
        exact q
      · obtain ⟨x, hx, rx⟩ := vat rv j h1
        obtain ⟨y, hy, ry⟩ := vat rv' j h2
        obtain ⟨dx, ex, hax⟩ := r.getV hx
        obtain ⟨dy, ey, hay⟩ := r'.getV hy
        rw [getD_of ex, getD_of ey]
        rw [dep] at hd
        have := dep_mem (List.mem_of_getElem? ex)
        exact eqAt_D I (deps ds) A.in1 dx dy x y _ _ this (noX_mem (List.mem_of_getElem? ex) (by rw [noX] at hx1; exact hx1)) (noX_mem (List.mem_of_getElem? ey) (by rw [noX] at hx2; exact hx2)) (by show A.units + 1 + _ < cLine; omega) hax hay rx ry
  | @lst a xs ds h r =>
    cases r1
    obtain ⟨its, rv, p, _⟩ := I.list h
    cases h2 with
    | exn _ _ => simp [noX] at hx2
    | non => cases r2; simp only [eqD]; exact .list_none  p.isList hu'
    | bl b => cases r2; simp only [eqD]; exact .list_bool _ p.isList hu'
    | int b => obtain ⟨t, rfl⟩ := r2; simp only [eqD]; exact .list_int _ _ p.isList hu'
    | str b => obtain ⟨t, rfl⟩ := r2; simp only [eqD]; exact .list_str _ _ p.isList hu'
    | @tup a2 xs2 es h' r' => cases r2; simp only [eqD]; obtain ⟨_, _, p', _⟩ := I.tuple h'; exact .list_tuple p.isList p' hu'
    | @lst a2 xs2 es h' r' =>
      cases r2
      obtain ⟨its', rv', p', _⟩ := I.list h'
      have z1 : its.toArray.size = ds.length := by rw [List.size_toArray, ← rv.length, r.length]
      have z2 : its'.toArray.size = es.length := by rw [List.size_toArray, ← rv'.length, r'.length]
      by_cases hz : its.toArray.size = its'.toArray.size
      · have q := SeqAt.RcAt.lists (A := A) (e := fun j => eqD (ds.getD j .non) (es.getD j .non)) p.isList p'.isList hz hu' fun j h1 h2 => ?_
        · rw [z1, eqDs_range ds es (by rw [← z1, ← z2, hz])] at q
          simp only [eqD]
          exact q
        · obtain ⟨x, hx, rx⟩ := vat rv j h1
          obtain ⟨y, hy, ry⟩ := vat rv' j h2
          obtain ⟨dx, ex, hax⟩ := r.getV hx
          obtain ⟨dy, ey, hay⟩ := r'.getV hy
          rw [getD_of ex, getD_of ey]
          rw [dep] at hd
          have := dep_mem (List.mem_of_getElem? ex)
          exact eqAt_D I (deps ds) A.in1 dx dy x y _ _ this (noX_mem (List.mem_of_getElem? ex) (by rw [noX] at hx1; exact hx1)) (noX_mem (List.mem_of_getElem? ey) (by rw [noX] at hx2; exact hx2)) (by show A.units + 1 + _ < cLine; omega) hax hay rx ry
      · have q := SeqAt.RcAt.lists_lengths (A := A) p.isList p'.isList (by simpa using hz) hu'
        simp only [eqD]
        rw [eqDs_ne (by rw [← z1, ← z2]; exact hz)]
        exact q
theorem rcn_D (I : Inv X pins σ H s) (A : Around) (d e : D) (v w : V) (u1 u2 : Value) (hd : A.units + dep d < cLine) (hx1 : noX d = true) (hx2 : noX e = true) (h1 : Has X.K H v d) (h2 : Has X.K H w e) (r1 : RelV v u1) (r2 : RelV w u2) : SeqAt.RcNeAt A s u1 u2 (!eqD d e) := by
  have hu' : A.units < cLine := by omega
  cases h1 with
  | exn _ _ => simp [noX] at hx1
  | non =>
    cases r1
    cases h2 with
    | exn _ _ => simp [noX] at hx2
    | non => cases r2; simp only [eqD]; exact .none_none
    | bl b => cases r2; simp only [eqD]; exact .none_bool _
    | int b => obtain ⟨t, rfl⟩ := r2; simp only [eqD]; exact .none_int _ _
    | str b => obtain ⟨t, rfl⟩ := r2; simp only [eqD]; exact .none_str _ _
    | tup h r => cases r2; simp only [eqD]; obtain ⟨_, _, p, _⟩ := I.tuple h; exact .none_tuple  p hu'
    | lst h r => cases r2; simp only [eqD]; obtain ⟨_, _, p, _⟩ := I.list h; exact .none_list  p.isList hu'
  | bl a =>
    cases r1
    cases h2 with
    | exn _ _ => simp [noX] at hx2
    | non => cases r2; simp only [eqD]; exact .bool_none _
    | bl b => cases r2; simp only [eqD]; exact .bool_bool _ _
    | int b => obtain ⟨t, rfl⟩ := r2; simp only [eqD]; exact .bool_int _ _ _
    | str b => obtain ⟨t, rfl⟩ := r2; simp only [eqD]; exact .bool_str _ _ _
    | tup h r => cases r2; simp only [eqD]; obtain ⟨_, _, p, _⟩ := I.tuple h; exact .bool_tuple _ p hu'
    | lst h r => cases r2; simp only [eqD]; obtain ⟨_, _, p, _⟩ := I.list h; exact .bool_list _ p.isList hu'
  | int a =>
    obtain ⟨t', rfl⟩ := r1
    cases h2 with
    | exn _ _ => simp [noX] at hx2
    | non => cases r2; simp only [eqD]; exact .int_none _ _
    | bl b => cases r2; simp only [eqD]; exact .int_bool _ _ _
    | int b => obtain ⟨t, rfl⟩ := r2; simp only [eqD]; exact .int_int _ _ _ _
    | str b => obtain ⟨t, rfl⟩ := r2; simp only [eqD]; exact .int_str _ _ _ _
    | tup h r => cases r2; simp only [eqD]; obtain ⟨_, _, p, _⟩ := I.tuple h; exact .int_tuple _ _ p hu'
    | lst h r => cases r2; simp only [eqD]; obtain ⟨_, _, p, _⟩ := I.list h; exact .int_list _ _ p.isList hu'
  | str a =>
    obtain ⟨t', rfl⟩ := r1
    cases h2 with
    | exn _ _ => simp [noX] at hx2
    | non => cases r2; simp only [eqD]; exact .str_none _ _
    | bl b => cases r2; simp only [eqD]; exact .str_bool _ _ _
    | int b => obtain ⟨t, rfl⟩ := r2; simp only [eqD]; exact .str_int _ _ _ _
    | str b => obtain ⟨t, rfl⟩ := r2; simp only [eqD]; exact .str_str _ _ _ _
    | tup h r => cases r2; simp only [eqD]; obtain ⟨_, _, p, _⟩ := I.tuple h; exact .str_tuple _ _ p hu'
    | lst h r => cases r2; simp only [eqD]; obtain ⟨_, _, p, _⟩ := I.list h; exact .str_list _ _ p.isList hu'
  | @tup a xs ds h r =>
    cases r1
    obtain ⟨its, rv, p, _⟩ := I.tuple h
    cases h2 with
    | exn _ _ => simp [noX] at hx2
    | non => cases r2; simp only [eqD]; exact .tuple_none  p hu'
    | bl b => cases r2; simp only [eqD]; exact .tuple_bool _ p hu'
    | int b => obtain ⟨t, rfl⟩ := r2; simp only [eqD]; exact .tuple_int _ _ p hu'
    | str b => obtain ⟨t, rfl⟩ := r2; simp only [eqD]; exact .tuple_str _ _ p hu'
    | @lst a2 xs2 es h' r' => cases r2; simp only [eqD]; obtain ⟨_, _, p', _⟩ := I.list h'; exact .tuple_list p p'.isList hu'
    | @tup a2 xs2 es h' r' =>
      cases r2
      obtain ⟨its', rv', p', _⟩ := I.tuple h'
      have z1 : its.toArray.size = ds.length := by rw [List.size_toArray, ← rv.length, r.length]
      have z2 : its'.toArray.size = es.length := by rw [List.size_toArray, ← rv'.length, r'.length]
      have q := SeqAt.RcNeAt.tuples (A := A) (e := fun j => eqD (ds.getD j .non) (es.getD j .non)) p p' hu' fun j h1 h2 => ?_
      · rw [z1, z2, eqDs_min] at q
        simp only [eqD]
        exact q
      · obtain ⟨x, hx, rx⟩ := vat rv j h1
        obtain ⟨y, hy, ry⟩ := vat rv' j h2
        obtain ⟨dx, ex, hax⟩ := r.getV hx
        obtain ⟨dy, ey, hay⟩ := r'.getV hy
        rw [getD_of ex, getD_of ey]
        rw [dep] at hd
        have := dep_mem (List.mem_of_getElem? ex)
        exact eqAt_D I (deps ds) A.in1 dx dy x y _ _ this (noX_mem (List.mem_of_getElem? ex) (by rw [noX] at hx1; exact hx1)) (noX_mem (List.mem_of_getElem? ey) (by rw [noX] at hx2; exact hx2)) (by show A.units + 1 + _ < cLine; omega) hax hay rx ry
  | @lst a xs ds h r =>
    cases r1
    obtain ⟨its, rv, p, _⟩ := I.list h
    cases h2 with
    | exn _ _ => simp [noX] at hx2
    | non => cases r2; simp only [eqD]; exact .list_none  p.isList hu'
    | bl b => cases r2; simp only [eqD]; exact .list_bool _ p.isList hu'
    | int b => obtain ⟨t, rfl⟩ := r2; simp only [eqD]; exact .list_int _ _ p.isList hu'
    | str b => obtain ⟨t, rfl⟩ := r2; simp only [eqD]; exact .list_str _ _ p.isList hu'
    | @tup a2 xs2 es h' r' => cases r2; simp only [eqD]; obtain ⟨_, _, p', _⟩ := I.tuple h'; exact .list_tuple p.isList p' hu'
    | @lst a2 xs2 es h' r' =>
      cases r2
      obtain ⟨its', rv', p', _⟩ := I.list h'
      have z1 : its.toArray.size = ds.length := by rw [List.size_toArray, ← rv.length, r.length]
      have z2 : its'.toArray.size = es.length := by rw [List.size_toArray, ← rv'.length, r'.length]
      by_cases hz : its.toArray.size = its'.toArray.size
      · have q := SeqAt.RcNeAt.lists (A := A) (e := fun j => eqD (ds.getD j .non) (es.getD j .non)) p.isList p'.isList hz hu' fun j h1 h2 => ?_
        · rw [z1, eqDs_range ds es (by rw [← z1, ← z2, hz])] at q
          simp only [eqD]
          exact q
        · obtain ⟨x, hx, rx⟩ := vat rv j h1
          obtain ⟨y, hy, ry⟩ := vat rv' j h2
          obtain ⟨dx, ex, hax⟩ := r.getV hx
          obtain ⟨dy, ey, hay⟩ := r'.getV hy
          rw [getD_of ex, getD_of ey]
          rw [dep] at hd
          have := dep_mem (List.mem_of_getElem? ex)
          exact eqAt_D I (deps ds) A.in1 dx dy x y _ _ this (noX_mem (List.mem_of_getElem? ex) (by rw [noX] at hx1; exact hx1)) (noX_mem (List.mem_of_getElem? ey) (by rw [noX] at hx2; exact hx2)) (by show A.units + 1 + _ < cLine; omega) hax hay rx ry
      · have q := SeqAt.RcNeAt.lists_lengths (A := A) p.isList p'.isList (by simpa using hz) hu'
        simp only [eqD]
        rw [eqDs_ne (by rw [← z1, ← z2]; exact hz)]
        exact q

/-- == and != of data -/
def rEqD (K : PySem.W.Frag) (A : Around) (neg : Bool) : R2 := fun x y H Q => ∃ d e, Has K H x d ∧ Has K H y e ∧ A.units + dep d < cLine ∧ noX d = true ∧ noX e = true ∧ Q (.bl (if neg = true then !eqD d e else eqD d e)) H
theorem op_eqD : OpR X (compareOp .Eq) (rEqD X.K X.A false) := by
  intro pins s σ H x y v u Q I rx ry h
  obtain ⟨d, e, hd, he, hu, n1, n2, q⟩ := h
  exact rc_D I X.A d e x y v u hu n1 n2 hd he rx ry X.prog X.w X.xe _ ⟨.bl _, H, I, rfl, q⟩
theorem op_neD : OpR X (compareOp .NotEq) (rEqD X.K X.A true) := by
  intro pins s σ H x y v u Q I rx ry h
  obtain ⟨d, e, hd, he, hu, n1, n2, q⟩ := h
  exact rcn_D I X.A d e x y v u hu n1 n2 hd he rx ry X.prog X.w X.xe _ ⟨.bl _, H, I, rfl, q⟩
end
end L2

set_option Elab.async false
set_option linter.all false
set_option maxRecDepth 100000
namespace L2
open PySem PySem.Spec PyProof.Rows

/-! ### a layer of data: what an expression is worth, by the data of the names -/
/-- other things of one's own: a list of lists of one's own -/
inductive Ow where
  | rows (dss : List (List D))
/-- a name's content: a datum; or a list (or other thing) of one's own, that only this name has -/
inductive Cl where
  | val (d : D) | own (ds : List D) | ow (o : Ow)
abbrev Rho := List (Option Cl)
/-- a worth; an exception of the class at c; nothing said -/
inductive M (α : Type) where
  | ok (a : α) | ex (c : Str) | bad
def M.bind {α β : Type} (m : M α) (k : α → M β) : M β := match m with
  | .ok a => k a
  | .ex c => .ex c
  | .bad => .bad
@[simp] theorem M.bind_ok {α β : Type} (a : α) (k : α → M β) : (M.ok a).bind k = k a := rfl
@[simp] theorem M.bind_ex {α β : Type} (c : Str) (k : α → M β) : (M.ex c).bind k = .ex c := rfl
@[simp] theorem M.bind_bad {α β : Type} (k : α → M β) : M.bad.bind k = .bad := rfl
/-- the heap without the addresses of P -/
noncomputable def del (H : Hp) (P : Addr → Prop) : Hp := fun a => open Classical in if P a then none else H a
theorem del_of {H : Hp} {P : Addr → Prop} {a : Addr} (h : ¬ P a) : del H P a = H a := by unfold del; rw [if_neg h]
theorem del_in {H : Hp} {P : Addr → Prop} {a : Addr} (h : P a) : del H P a = none := by unfold del; rw [if_pos h]
theorem del_some {H : Hp} {P : Addr → Prop} {a : Addr} {o : HO} (h : del H P a = some o) : ¬ P a ∧ H a = some o := by
  by_cases hp : P a
  · rw [del_in hp] at h; cases h
  · rw [del_of hp] at h; exact ⟨hp, h⟩
theorem Same.del {H H' : Hp} {P : Addr → Prop} (e : Same H H') : Same (del H P) (del H' P) := fun b o h => by
  obtain ⟨h1, h2⟩ := del_some h
  rw [del_of h1]; exact e b o h2
theorem del_sub {H : Hp} {P P' : Addr → Prop} (h : ∀ a, P' a → P a) : Same (L2.del H P) (L2.del H P') := fun b o e => by
  obtain ⟨h1, h2⟩ := del_some e
  rw [del_of fun z => h1 (h b z)]; exact h2
theorem del_full {H : Hp} {P : Addr → Prop} : Same (L2.del H P) H := fun b o e => (del_some e).2
/-- a tracked thing: no tuple -/
def Trk (H : Hp) (a : Addr) : Prop := ∃ o, H a = some o ∧ ∀ xs, o ≠ .tup xs ∧ ∀ z, o ≠ .frz z (.tup xs)
theorem Trk.same {H H' : Hp} {a : Addr} (h : Trk H a) (e : Same H H') : Trk H' a := let ⟨o, q, r⟩ := h; ⟨o, e a o q, r⟩
theorem Trk.no {H : Hp} {a : Addr} (h : Trk H a) (e : H a = none) : False := by
  obtain ⟨o, q, r⟩ := h
  rw [e] at q; cases q
theorem Trk.lst {H : Hp} {a : Addr} {xs : List V} (h : H a = some (.lst xs)) : Trk H a := ⟨_, h, fun _ => ⟨fun z => (by cases z), fun _ z => by cases z⟩⟩
/-- lists of one's own at these addresses -/
inductive RowsH (K : PySem.W.Frag) (H : Hp) (P : Addr → Prop) : List Addr → List (List D) → Prop
  | nil : RowsH K H P [] []
  | cons {q : Addr} {xs : List V} {ds : List D} {ps : List Addr} {dss : List (List D)} : H q = some (.lst xs) → HasL K (del H P) xs ds → RowsH K H P ps dss → RowsH K H P (q :: ps) (ds :: dss)
/-- a content of one's own: the value and the addresses that it takes -/
def OwH (K : PySem.W.Frag) (H : Hp) (P : Addr → Prop) : Cl → V → List Addr → Prop
  | .own ds, v, fp => ∃ p xs, v = .ref p ∧ fp = [p] ∧ H p = some (.lst xs) ∧ HasL K (del H P) xs ds
  | .ow (.rows dss), v, fp => ∃ p ps, v = .ref p ∧ fp = p :: ps ∧ H p = some (.lst (ps.map V.ref)) ∧ RowsH K H P ps dss
  | .val _, _, _ => False
def isOw : Cl → Bool
  | .val _ => false
  | _ => true
theorem RowsH.move {K : PySem.W.Frag} {H H' : Hp} {P P' : Addr → Prop} (sm : Same (del H P) (del H' P')) : ∀ {ps : List Addr} {dss : List (List D)}, (∀ a ∈ ps, H' a = H a) → RowsH K H P ps dss → RowsH K H' P' ps dss
  | _, _, _, .nil => .nil
  | _, _, k, .cons h r t => .cons ((k _ List.mem_cons_self).trans h) (r.mono sm) (RowsH.move sm (fun a ha => k a (List.mem_cons_of_mem _ ha)) t)
theorem RowsH.at {K : PySem.W.Frag} {H : Hp} {P : Addr → Prop} : ∀ {ps : List Addr} {dss : List (List D)}, RowsH K H P ps dss → ∀ a ∈ ps, ∃ xs, H a = some (.lst xs)
  | _, _, .nil, a, h => by cases h
  | _, _, .cons h r t, a, ha => by
    rcases List.mem_cons.mp ha with rfl | ha
    · exact ⟨_, h⟩
    · exact t.at a ha
theorem RowsH.length {K : PySem.W.Frag} {H : Hp} {P : Addr → Prop} : ∀ {ps : List Addr} {dss : List (List D)}, RowsH K H P ps dss → ps.length = dss.length
  | _, _, .nil => rfl
  | _, _, .cons h r t => by rw [List.length_cons, List.length_cons, t.length]
theorem RowsH.get {K : PySem.W.Frag} {H : Hp} {P : Addr → Prop} : ∀ {ps : List Addr} {dss : List (List D)} {i : Nat} {ds : List D}, RowsH K H P ps dss → dss[i]? = some ds → ∃ q xs, ps[i]? = some q ∧ H q = some (.lst xs) ∧ HasL K (del H P) xs ds
  | _, _, _, _, .nil, e => by simp at e
  | _, _, 0, _, .cons h r _, e => by simp at e; subst e; exact ⟨_, _, rfl, h, r⟩
  | _, _, i + 1, ds, .cons _ _ t, e => by
    obtain ⟨q, xs, h1, h2⟩ := RowsH.get (i := i) (ds := ds) t (by simpa using e)
    exact ⟨q, xs, by simpa using h1, h2⟩
theorem refs_inj : ∀ {ps qs : List Addr}, ps.map V.ref = qs.map V.ref → ps = qs
  | [], [], _ => rfl
  | [], _ :: _, h => by cases h
  | _ :: _, [], h => by cases h
  | p :: ps, q :: qs, h => by
    rw [List.map_cons, List.map_cons] at h
    injection h with h1 h2
    injection h1 with h1
    rw [h1, refs_inj h2]
theorem OwH.move {K : PySem.W.Frag} {H H' : Hp} {P P' : Addr → Prop} (sm : Same (del H P) (del H' P')) {c : Cl} {v : V} {fp : List Addr} (k : ∀ a ∈ fp, H' a = H a) (h : OwH K H P c v fp) : OwH K H' P' c v fp := by
  cases c with
  | val d => exact h
  | own ds =>
    obtain ⟨p, xs, rfl, rfl, h1, h2⟩ := h
    exact ⟨p, xs, rfl, rfl, (k p List.mem_cons_self).trans h1, h2.mono sm⟩
  | ow o =>
    cases o with
    | rows dss =>
      obtain ⟨p, ps, rfl, rfl, h1, h2⟩ := h
      exact ⟨p, ps, rfl, rfl, (k p List.mem_cons_self).trans h1, h2.move sm fun a ha => k a (List.mem_cons_of_mem _ ha)⟩
theorem OwH.at {K : PySem.W.Frag} {H : Hp} {P : Addr → Prop} {c : Cl} {v : V} {fp : List Addr} (h : OwH K H P c v fp) : ∀ a ∈ fp, ∃ xs, H a = some (.lst xs) := by
  cases c with
  | val d => exact h.elim
  | own ds =>
    obtain ⟨p, xs, rfl, rfl, h1, h2⟩ := h
    exact fun a ha => ⟨xs, by rw [List.mem_singleton.mp ha]; exact h1⟩
  | ow o =>
    cases o with
    | rows dss =>
      obtain ⟨p, ps, rfl, rfl, h1, h2⟩ := h
      intro a ha
      rcases List.mem_cons.mp ha with rfl | ha
      · exact ⟨_, h1⟩
      · exact h2.at a ha
theorem OwH.same {K : PySem.W.Frag} {H H' : Hp} {P : Addr → Prop} (e : Same H H') {c : Cl} {v : V} {fp : List Addr} (h : OwH K H P c v fp) : OwH K H' P c v fp :=
  h.move e.del fun a ha => by obtain ⟨xs, q⟩ := h.at a ha; rw [q]; exact e _ _ q
theorem OwH.uniq {K : PySem.W.Frag} {H : Hp} {P P' : Addr → Prop} {c : Cl} {v : V} {fp fp' : List Addr} (h : OwH K H P c v fp) (h' : OwH K H P' c v fp') : fp = fp' := by
  cases c with
  | val d => exact h.elim
  | own ds =>
    obtain ⟨p, xs, rfl, rfl, h1, h2⟩ := h
    obtain ⟨p', xs', e, rfl, h1', h2'⟩ := h'
    cases e; rfl
  | ow o =>
    cases o with
    | rows dss =>
      obtain ⟨p, ps, rfl, rfl, h1, h2⟩ := h
      obtain ⟨p', ps', e, rfl, h1', h2'⟩ := h'
      cases e
      rw [h1] at h1'
      injection h1' with e
      injection e with e
      rw [refs_inj e]
structure EnvP (K : PySem.W.Frag) (P0 P : Addr → Prop) (H : Hp) (σ : St) (ρ : Rho) : Prop where
  sub : ∀ a, P0 a → P a
  trk : ∀ a, P a → Trk H a
  val : ∀ (i : Nat) d, ρ[i]? = some (some (.val d)) → ∃ v, σ[i]? = some (some v) ∧ Has K (del H P) v d
  ows : ∀ (i : Nat) c, ρ[i]? = some (some c) → isOw c = true → ∃ v fp, σ[i]? = some (some v) ∧ OwH K H P c v fp ∧ (∀ a ∈ fp, P a ∧ ¬ P0 a) ∧ fp.Nodup
  apart : ∀ (i j : Nat) c c' v v' fp fp', ρ[i]? = some (some c) → ρ[j]? = some (some c') → σ[i]? = some (some v) → σ[j]? = some (some v') → OwH K H P c v fp → OwH K H P c' v' fp' → i ≠ j → ∀ a ∈ fp, a ∉ fp'
  len : σ.length = ρ.length
theorem EnvP.own {K : PySem.W.Frag} {P0 P : Addr → Prop} {H : Hp} {σ : St} {ρ : Rho} (E : EnvP K P0 P H σ ρ) (i : Nat) (ds : List D) (h : ρ[i]? = some (some (.own ds))) :
    ∃ p xs, σ[i]? = some (some (.ref p)) ∧ H p = some (.lst xs) ∧ P p ∧ ¬ P0 p ∧ HasL K (del H P) xs ds := by
  obtain ⟨v, fp, h1, ⟨p, xs, rfl, rfl, h2, h3⟩, h4, _⟩ := E.ows i _ h rfl
  exact ⟨p, xs, h1, h2, (h4 p List.mem_cons_self).1, (h4 p List.mem_cons_self).2, h3⟩
/-- the things of one's own stay apart in a later heap -/
theorem EnvP.apart' {K : PySem.W.Frag} {P0 P P' : Addr → Prop} {H H' : Hp} {σ : St} {ρ : Rho} (E : EnvP K P0 P H σ ρ) (sm : Same (del H P) (del H' P')) {i j : Nat} {c c' : Cl} {v v' : V} {fp fp' : List Addr}
    (ki : ∀ v fp, σ[i]? = some (some v) → OwH K H P c v fp → ∀ a ∈ fp, H' a = H a) (kj : ∀ v fp, σ[j]? = some (some v) → OwH K H P c' v fp → ∀ a ∈ fp, H' a = H a)
    (hi : ρ[i]? = some (some c)) (hj : ρ[j]? = some (some c')) (si : σ[i]? = some (some v)) (sj : σ[j]? = some (some v')) (h : OwH K H' P' c v fp) (h' : OwH K H' P' c' v' fp') (hne : i ≠ j) : ∀ a ∈ fp, a ∉ fp' := by
  have key : ∀ (k : Nat) (d : Cl) (w : V) (fq : List Addr), ρ[k]? = some (some d) → σ[k]? = some (some w) → (∀ v fp, σ[k]? = some (some v) → OwH K H P d v fp → ∀ a ∈ fp, H' a = H a) → OwH K H' P' d w fq → OwH K H P d w fq := fun k d w fq hk sk kk ho => by
    have io : isOw d = true := by cases d <;> first | rfl | exact ho.elim
    obtain ⟨w', fp2, s2, o2, _⟩ := E.ows k d hk io
    rw [sk] at s2; cases s2
    have o3 := o2.move sm (kk _ _ sk o2)
    rw [ho.uniq o3]
    exact o2
  exact E.apart i j c c' v v' fp fp' hi hj si sj (key i c v fp hi si ki h) (key j c' v' fp' hj sj kj h') hne
theorem EnvP.same {K : PySem.W.Frag} {P0 P : Addr → Prop} {H H' : Hp} {σ : St} {ρ : Rho} (E : EnvP K P0 P H σ ρ) (e : Same H H') : EnvP K P0 P H' σ ρ :=
  ⟨E.sub, fun a h => (E.trk a h).same e, fun i d h => let ⟨v, h1, h2⟩ := E.val i d h; ⟨v, h1, h2.mono e.del⟩,
    fun i c h io => let ⟨v, fp, h1, h2, h3, h4⟩ := E.ows i c h io; ⟨v, fp, h1, h2.same e, h3, h4⟩,
    fun i j c c' v v' fp fp' hi hj si sj h h' hne => E.apart' e.del (fun v fp _ o a ha => by obtain ⟨xs, q⟩ := o.at a ha; rw [q]; exact e _ _ q) (fun v fp _ o a ha => by obtain ⟨xs, q⟩ := o.at a ha; rw [q]; exact e _ _ q) hi hj si sj h h' hne, E.len⟩
def gV (K : PySem.W.Frag) (WX : Str → Hp → Prop) (P : Addr → Prop) (H : Hp) (Q : VK) : M D → Prop
  | .ok d => ∀ v H', Same H H' → Has K (del H' P) v d → Q v H'
  | .ex x => ∀ H', Same H H' → WX x H'
  | .bad => False
def gA (K : PySem.W.Frag) (WX : Str → Hp → Prop) (P : Addr → Prop) (H : Hp) (Q : List V → Hp → Prop) : M (List D) → Prop
  | .ok d => ∀ v H', Same H H' → HasL K (del H' P) v d → Q v H'
  | .ex x => ∀ H', Same H H' → WX x H'
  | .bad => False
def gT (WX : Str → Hp → Prop) (H : Hp) (Q : Bool → Hp → Prop) : M Bool → Prop
  | .ok b => ∀ H', Same H H' → Q b H'
  | .ex x => ∀ H', Same H H' → WX x H'
  | .bad => False
section
variable {K : PySem.W.Frag} {WX : Str → Hp → Prop} {P : Addr → Prop} {H H' : Hp}
theorem gV.same {Q : VK} {m : M D} (h : gV K WX P H Q m) (e : Same H H') : gV K WX P H' Q m := by
  cases m with
  | ok d => exact fun v H2 q hv => h v H2 (e.trans q) hv
  | ex x => exact fun H2 q => h H2 (e.trans q)
  | bad => exact h
theorem gA.same {Q : List V → Hp → Prop} {m : M (List D)} (h : gA K WX P H Q m) (e : Same H H') : gA K WX P H' Q m := by
  cases m with
  | ok d => exact fun v H2 q hv => h v H2 (e.trans q) hv
  | ex x => exact fun H2 q => h H2 (e.trans q)
  | bad => exact h
theorem gT.same {Q : Bool → Hp → Prop} {m : M Bool} (h : gT WX H Q m) (e : Same H H') : gT WX H' Q m := by
  cases m with
  | ok d => exact fun H2 q => h H2 (e.trans q)
  | ex x => exact fun H2 q => h H2 (e.trans q)
  | bad => exact h
end
/-- the level: clean (nothing of one's own lists within), or any -/
def Lv (c : Bool) (P0 P : Addr → Prop) : Addr → Prop := if c = true then P else P0
def DE (X : Cx) (WX : Str → Hp → Prop) (c : Bool) (e : Expr) (f : Rho → M D) : Prop :=
  ∃ t, PE X e t ∧ ∀ P0 P σ H Q ρ, EnvP X.K P0 P H σ ρ → gV X.K WX (Lv c P0 P) H Q (f ρ) → t σ H Q
def DA (X : Cx) (WX : Str → Hp → Prop) (c : Bool) (es : List Expr) (f : Rho → M (List D)) : Prop :=
  ∃ t, PA X es t ∧ (∀ P0 P σ H Q ρ, EnvP X.K P0 P H σ ρ → gA X.K WX (Lv c P0 P) H Q (f ρ) → t σ H Q) ∧ ∀ ρ ds, f ρ = .ok ds → ds.length = es.length
def DT (X : Cx) (WX : Str → Hp → Prop) (e : Expr) (f : Rho → M Bool) : Prop :=
  ∃ t, PT X e t ∧ ∀ P0 P σ H Q ρ, EnvP X.K P0 P H σ ρ → gT WX H Q (f ρ) → t σ H Q
def DW (X : Cx) (WX : Str → Hp → Prop) (e : Expr) (f : Rho → M Bool) : Prop :=
  ∃ t, PW X e t ∧ ∀ P0 P σ H Q ρ, EnvP X.K P0 P H σ ρ → gT WX H Q (f ρ) → t σ H Q
theorem DW.dt {X : Cx} {WX : Str → Hp → Prop} {e : Expr} {f : Rho → M Bool} (h : DW X WX e f) : DT X WX e f := let ⟨t, h1, h2⟩ := h; ⟨t, h1.pt, h2⟩

section
variable {X : Cx} {WX : Str → Hp → Prop} {c : Bool} {P0 P : Addr → Prop} {H : Hp} {σ : St} {ρ : Rho}
theorem EnvP.lv (E : EnvP X.K P0 P H σ ρ) (c : Bool) : ∀ a, Lv c P0 P a → P a := fun a h => by
  cases c with
  | true => exact h
  | false => exact E.sub a h
theorem EnvP.lvt (E : EnvP X.K P0 P H σ ρ) (c : Bool) : ∀ a, Lv c P0 P a → Trk H a := fun a h => E.trk a (E.lv c a h)
/-- a clean one is any one -/
theorem de_any {e : Expr} {f : Rho → M D} (h : DE X WX true e f) : DE X WX false e f := by
  obtain ⟨t, h1, h2⟩ := h
  refine ⟨t, h1, fun P0 P σ H Q ρ E g => h2 P0 P σ H Q ρ E ?_⟩
  cases e : f ρ with
  | ok d => rw [e] at g; exact fun v H' s hv => g v H' s (hv.mono (del_sub E.sub))
  | ex x => rw [e] at g; exact g
  | bad => rw [e] at g; exact g
def flatD : D → Bool
  | .tup _ | .lst _ | .exn _ => false
  | _ => true
theorem Has.flat {K : PySem.W.Frag} {H H' : Hp} {v : V} {d : D} (h : Has K H v d) (f : flatD d = true) : Has K H' v d := by
  cases h with
  | non => exact .non
  | bl b => exact .bl b
  | int b => exact .int b
  | str b => exact .str b
  | tup _ _ => cases f
  | lst _ _ => cases f
  | exn _ _ => cases f
def fl (m : M D) : M D := m.bind fun d => if flatD d = true then .ok d else .bad
/-- a flat worth is clean -/
theorem de_flat {e : Expr} {f : Rho → M D} (h : DE X WX false e f) : DE X WX true e (fun ρ => fl (f ρ)) := by
  obtain ⟨t, h1, h2⟩ := h
  refine ⟨t, h1, fun P0 P σ H Q ρ E g => h2 P0 P σ H Q ρ E ?_⟩
  unfold fl at g
  dsimp only at g
  cases e : f ρ with
  | ok d =>
    rw [e] at g
    simp only [M.bind_ok] at g
    by_cases hf : flatD d = true
    · rw [if_pos hf] at g
      exact fun v H' s hv => g v H' s (hv.flat hf)
    · rw [if_neg hf] at g; exact g.elim
  | ex x => rw [e] at g; exact g
  | bad => rw [e] at g; exact g
/-! names, constants -/
def rv (i : Nat) (ρ : Rho) : M D := match ρ[i]? with | some (some (.val d)) => .ok d | _ => .bad
def ra (i : Nat) (ρ : Rho) : M D := match ρ[i]? with | some (some (.val d)) => .ok d | some (some (.own ds)) => .ok (.lst ds) | some (some (.ow (.rows dss))) => .ok (.lst (dss.map D.lst)) | _ => .bad
theorem de_var (i : Nat) {x : Str} {pos : Pos} (h : PE X (.Name x pos) (tVar i)) : DE X WX true (.Name x pos) (rv i) := by
  refine ⟨_, h, fun P0 P σ H Q ρ E g => ?_⟩
  unfold rv at g
  split at g
  · rename_i d e
    obtain ⟨v, h1, h2⟩ := E.val i d e
    exact ⟨v, h1, g v H (Same.refl H) h2⟩
  · exact g.elim
theorem de_name (i : Nat) {x : Str} {pos : Pos} (h : PE X (.Name x pos) (tVar i)) : DE X WX false (.Name x pos) (ra i) := by
  refine ⟨_, h, fun P0 P σ H Q ρ E g => ?_⟩
  unfold ra at g
  split at g
  · rename_i d e
    obtain ⟨v, h1, h2⟩ := E.val i d e
    exact ⟨v, h1, g v H (Same.refl H) (h2.mono (del_sub E.sub))⟩
  · rename_i ds e
    obtain ⟨p, xs, h1, h2, h3, h4, h5⟩ := E.own i ds e
    exact ⟨_, h1, g _ H (Same.refl H) (.lst (.of (show del H P0 p = _ by rw [del_of h4]; exact h2)) (h5.mono (del_sub E.sub)))⟩
  · rename_i dss e
    obtain ⟨v, fp, h1, ⟨p, ps, rfl, rfl, h2, h3⟩, h4, h6⟩ := E.ows i _ e rfl
    clear h6
    refine ⟨_, h1, g _ H (Same.refl H) (.lst (.of (show del H P0 p = _ by rw [del_of (h4 p List.mem_cons_self).2]; exact h2)) ?_)⟩
    have h5 : ∀ a ∈ ps, ¬ P0 a := fun a ha => (h4 a (List.mem_cons_of_mem _ ha)).2
    clear h1 h2 h4 e g
    induction h3 with
    | nil => exact .nil
    | cons hq hr ht ih => exact .cons (.lst (.of (show del H P0 _ = _ by rw [del_of (h5 _ List.mem_cons_self)]; exact hq)) (hr.mono (del_sub E.sub))) (ih fun a ha => h5 a (List.mem_cons_of_mem _ ha))
  · exact g.elim
theorem de_int {i j pos} : DE X WX c (.Constant (.int i) j pos) (fun _ => .ok (.int i)) := ⟨_, pe_int, fun P0 P σ H Q ρ E g => g _ H (Same.refl H) (.int i)⟩
theorem de_bl {b j pos} : DE X WX c (.Constant (.bool b) j pos) (fun _ => .ok (.bl b)) := ⟨_, pe_bl, fun P0 P σ H Q ρ E g => g _ H (Same.refl H) (.bl b)⟩
theorem de_non {j pos} : DE X WX c (.Constant .none j pos) (fun _ => .ok .non) := ⟨_, pe_non, fun P0 P σ H Q ρ E g => g _ H (Same.refl H) .non⟩
theorem de_str {x j pos} : DE X WX c (.Constant (.str x) j pos) (fun _ => .ok (.str x)) := ⟨_, pe_str, fun P0 P σ H Q ρ E g => g _ H (Same.refl H) (.str x)⟩
/-! two parts -/
/-- what an operation on data is worth -/
def OpD (K : PySem.W.Frag) (WX : Str → Hp → Prop) (r : R2) (dop : D → D → M D) : Prop :=
  ∀ (P : Addr → Prop) (H : Hp) (x y : D) (v w : V) (Q : VK), (∀ a, P a → Trk H a) → Has K (del H P) v x → Has K (del H P) w y → gV K WX P H Q (dop x y) → r v w H Q
variable {a b : Expr} {f g : Rho → M D} {pos : Pos}
theorem bin_D {ta tb : TE} {r : R2} {dop : D → D → M D} (ha : ∀ P0 P σ H Q ρ, EnvP X.K P0 P H σ ρ → gV X.K WX (Lv c P0 P) H Q (f ρ) → ta σ H Q) (hb : ∀ P0 P σ H Q ρ, EnvP X.K P0 P H σ ρ → gV X.K WX (Lv c P0 P) H Q (g ρ) → tb σ H Q)
    (hr : OpD X.K WX r dop) {Q : VK} (E : EnvP X.K P0 P H σ ρ) (h : gV X.K WX (Lv c P0 P) H Q ((f ρ).bind fun x => (g ρ).bind fun y => dop x y)) : tOp r ta tb σ H Q := by
  refine ha P0 P σ H _ ρ E ?_
  cases e : f ρ with
  | bad => rw [e] at h; exact h
  | ex x => rw [e] at h; exact h
  | ok x =>
    rw [e] at h
    intro v H1 s1 hv
    refine hb P0 P σ H1 _ ρ (E.same s1) ?_
    cases e2 : g ρ with
    | bad => rw [e2] at h; exact h
    | ex y => rw [e2] at h; exact gV.same (m := .ex y) h s1
    | ok y =>
      rw [e2] at h
      intro w H2 s2 hw
      exact hr _ H2 x y v w Q (fun a q => ((E.same s1).same s2).lvt c a q) (hv.mono s2.del) hw ((gV.same h s1).same s2)
theorem de_op {op : Operator} {r : R2} {dop : D → D → M D} (ho : OpR X (binaryOp op) r) (hr : OpD X.K WX r dop) (ha : DE X WX c a f) (hb : DE X WX c b g) : DE X WX c (.BinOp a op b pos) (fun ρ => (f ρ).bind fun x => (g ρ).bind fun y => dop x y) := by
  obtain ⟨ta, a1, a2⟩ := ha
  obtain ⟨tb, b1, b2⟩ := hb
  exact ⟨_, pe_op ho a1 b1, fun P0 P σ H Q ρ E h => bin_D a2 b2 hr E h⟩
theorem de_cmp {op : CmpOp} {r : R2} {dop : D → D → M D} (ho : OpR X (compareOp op) r) (hr : OpD X.K WX r dop) (ha : DE X WX c a f) (hb : DE X WX c b g) (hm : behindInMarks op b = false) : DE X WX c (.Compare a [op] [b] pos) (fun ρ => (f ρ).bind fun x => (g ρ).bind fun y => dop x y) := by
  obtain ⟨ta, a1, a2⟩ := ha
  obtain ⟨tb, b1, b2⟩ := hb
  exact ⟨_, pe_cmpR ho a1 b1 hm, fun P0 P σ H Q ρ E h => bin_D a2 b2 hr E h⟩
theorem de_ix {r : R2} {dop : D → D → M D} (ho : IxR X r) (hr : OpD X.K WX r dop) (ha : DE X WX c a f) (hb : DE X WX c b g) (hs : PlainIx b) : DE X WX c (.Subscript a b pos) (fun ρ => (f ρ).bind fun x => (g ρ).bind fun y => dop x y) := by
  obtain ⟨ta, a1, a2⟩ := ha
  obtain ⟨tb, b1, b2⟩ := hb
  exact ⟨_, pe_ix ho a1 b1 hs, fun P0 P σ H Q ρ E h => bin_D a2 b2 hr E h⟩
/-! ints -/
def onInts (k : Int → Int → M D) (x y : D) : M D := match x, y with | .int i, .int j => k i j | _, _ => .bad
theorem Has.int_inv {K : PySem.W.Frag} {H : Hp} {v : V} {i : Int} (h : Has K H v (.int i)) : v = .int i := by cases h; rfl
theorem Has.non_inv {K : PySem.W.Frag} {H : Hp} {v : V} (h : Has K H v .non) : v = .non := by cases h; rfl
theorem Has.bl_inv {K : PySem.W.Frag} {H : Hp} {v : V} {i : Bool} (h : Has K H v (.bl i)) : v = .bl i := by cases h; rfl
theorem opd_rI {C : Int → Int → Prop} {gv : Int → Int → V} {gd : Int → Int → D} [∀ i j, Decidable (C i j)] (hg : ∀ i j K H, Has K H (gv i j) (gd i j)) : OpD X.K WX (rI C gv) (onInts fun i j => if C i j then .ok (gd i j) else .bad) := by
  intro P H x y v w Q ht hx hy h
  unfold onInts at h
  split at h
  · rename_i i j
    rw [hx.int_inv, hy.int_inv]
    dsimp only at h
    by_cases hc : C i j
    · rw [if_pos hc] at h
      exact ⟨i, j, rfl, rfl, hc, h _ H (Same.refl H) (hg i j _ _)⟩
    · rw [if_neg hc] at h; exact h.elim
  · exact h.elim
theorem opd_rI0 {gv : Int → Int → V} {gd : Int → Int → D} (hg : ∀ i j K H, Has K H (gv i j) (gd i j)) : OpD X.K WX (rI0 gv) (onInts fun i j => .ok (gd i j)) := by
  intro P H x y v w Q ht hx hy h
  unfold onInts at h
  split at h
  · rename_i i j
    rw [hx.int_inv, hy.int_inv]
    exact ⟨i, j, rfl, rfl, h _ H (Same.refl H) (hg i j _ _)⟩
  · exact h.elim
instance (i j : Int) : Decidable (CDiv i j) := by unfold CDiv; infer_instance
instance (i j : Int) : Decidable (CPow i j) := by unfold CPow; infer_instance
instance (i j : Int) : Decidable (CMul i j) := by unfold CMul; infer_instance
def dAdd := onInts fun i j => .ok (.int (i + j))
def dSub := onInts fun i j => .ok (.int (i - j))
def dMul := onInts fun i j => if CMul i j then .ok (.int (i * j)) else .bad
def dMod := onInts fun i j => if 0 < j then .ok (.int (i % j)) else .bad
def dFdiv := onInts fun i j => if CDiv i j then .ok (.int (i / j)) else .bad
def dPow := onInts fun i j => if CPow i j then .ok (.int (i ^ j.toNat)) else .bad
def dLt := onInts fun i j => .ok (.bl (decide (i < j)))
def dLe := onInts fun i j => .ok (.bl (decide (i ≤ j)))
def dGt := onInts fun i j => .ok (.bl (decide (j < i)))
def dGe := onInts fun i j => .ok (.bl (decide (j ≤ i)))
theorem de_add (ha : DE X WX c a f) (hb : DE X WX c b g) : DE X WX c (.BinOp a .Add b pos) (fun ρ => (f ρ).bind fun x => (g ρ).bind fun y => dAdd x y) := de_op op_add (opd_rI0 fun _ _ _ _ => .int _) ha hb
theorem de_sub (ha : DE X WX c a f) (hb : DE X WX c b g) : DE X WX c (.BinOp a .Sub b pos) (fun ρ => (f ρ).bind fun x => (g ρ).bind fun y => dSub x y) := de_op op_sub (opd_rI0 fun _ _ _ _ => .int _) ha hb
theorem de_mul (ha : DE X WX c a f) (hb : DE X WX c b g) : DE X WX c (.BinOp a .Mult b pos) (fun ρ => (f ρ).bind fun x => (g ρ).bind fun y => dMul x y) := de_op op_mul (opd_rI fun _ _ _ _ => .int _) ha hb
theorem de_mod (ha : DE X WX c a f) (hb : DE X WX c b g) : DE X WX c (.BinOp a .Mod b pos) (fun ρ => (f ρ).bind fun x => (g ρ).bind fun y => dMod x y) := de_op op_mod (opd_rI fun _ _ _ _ => .int _) ha hb
theorem de_fdiv (ha : DE X WX c a f) (hb : DE X WX c b g) : DE X WX c (.BinOp a .FloorDiv b pos) (fun ρ => (f ρ).bind fun x => (g ρ).bind fun y => dFdiv x y) := de_op op_fdiv (opd_rI fun _ _ _ _ => .int _) ha hb
theorem de_pow (ha : DE X WX c a f) (hb : DE X WX c b g) : DE X WX c (.BinOp a .Pow b pos) (fun ρ => (f ρ).bind fun x => (g ρ).bind fun y => dPow x y) := de_op op_pow (opd_rI fun _ _ _ _ => .int _) ha hb
theorem de_lt (ha : DE X WX c a f) (hb : DE X WX c b g) : DE X WX c (.Compare a [.Lt] [b] pos) (fun ρ => (f ρ).bind fun x => (g ρ).bind fun y => dLt x y) := de_cmp op_lt (opd_rI0 fun _ _ _ _ => .bl _) ha hb (nomark _)
theorem de_le (ha : DE X WX c a f) (hb : DE X WX c b g) : DE X WX c (.Compare a [.LtE] [b] pos) (fun ρ => (f ρ).bind fun x => (g ρ).bind fun y => dLe x y) := de_cmp op_le (opd_rI0 fun _ _ _ _ => .bl _) ha hb (nomark _)
theorem de_gt (ha : DE X WX c a f) (hb : DE X WX c b g) : DE X WX c (.Compare a [.Gt] [b] pos) (fun ρ => (f ρ).bind fun x => (g ρ).bind fun y => dGt x y) := de_cmp op_gt (opd_rI0 fun _ _ _ _ => .bl _) ha hb (nomark _)
theorem de_ge (ha : DE X WX c a f) (hb : DE X WX c b g) : DE X WX c (.Compare a [.GtE] [b] pos) (fun ρ => (f ρ).bind fun x => (g ρ).bind fun y => dGe x y) := de_cmp op_ge (opd_rI0 fun _ _ _ _ => .bl _) ha hb (nomark _)
/-! == and != of data -/
def dEq (n : Nat) (x y : D) : M D := if dep x ≤ n ∧ noX x = true ∧ noX y = true then .ok (.bl (eqD x y)) else .bad
def dNe (n : Nat) (x y : D) : M D := if dep x ≤ n ∧ noX x = true ∧ noX y = true then .ok (.bl (!eqD x y)) else .bad
theorem opd_eq {n : Nat} (hu : X.A.units + n < cLine) : OpD X.K WX (rEqD X.K X.A false) (dEq n) := by
  intro P H x y v w Q ht hx hy h
  unfold dEq at h
  by_cases hd : dep x ≤ n ∧ noX x = true ∧ noX y = true
  · rw [if_pos hd] at h
    exact ⟨x, y, hx.mono del_full, hy.mono del_full, by omega, hd.2.1, hd.2.2, h _ H (Same.refl H) (.bl _)⟩
  · rw [if_neg hd] at h; exact h.elim
theorem opd_ne {n : Nat} (hu : X.A.units + n < cLine) : OpD X.K WX (rEqD X.K X.A true) (dNe n) := by
  intro P H x y v w Q ht hx hy h
  unfold dNe at h
  by_cases hd : dep x ≤ n ∧ noX x = true ∧ noX y = true
  · rw [if_pos hd] at h
    exact ⟨x, y, hx.mono del_full, hy.mono del_full, by omega, hd.2.1, hd.2.2, h _ H (Same.refl H) (.bl _)⟩
  · rw [if_neg hd] at h; exact h.elim
theorem de_eq {n : Nat} (hu : X.A.units + n < cLine) (ha : DE X WX c a f) (hb : DE X WX c b g) : DE X WX c (.Compare a [.Eq] [b] pos) (fun ρ => (f ρ).bind fun x => (g ρ).bind fun y => dEq n x y) := de_cmp op_eqD (opd_eq hu) ha hb (nomark _)
theorem de_ne {n : Nat} (hu : X.A.units + n < cLine) (ha : DE X WX c a f) (hb : DE X WX c b g) : DE X WX c (.Compare a [.NotEq] [b] pos) (fun ρ => (f ρ).bind fun x => (g ρ).bind fun y => dNe n x y) := de_cmp op_neD (opd_ne hu) ha hb (nomark _)
/-! is None -/
def isNonD : D → Bool
  | .non => true
  | _ => false
theorem Has.isN {K : PySem.W.Frag} {H : Hp} {v : V} {d : D} (h : Has K H v d) : decide (v = .non) = isNonD d := by
  cases h <;> simp [isNonD]
theorem de_isN {j pos'} (ha : DE X WX c a f) : DE X WX c (.Compare a [.Is] [.Constant .none j pos'] pos) (fun ρ => (f ρ).bind fun x => .ok (.bl (isNonD x))) := by
  obtain ⟨ta, a1, a2⟩ := ha
  refine ⟨_, pe_cmp (pc_isN a1), fun P0 P σ H Q ρ E h => ?_⟩
  dsimp only at h
  refine a2 P0 P σ H _ ρ E ?_
  cases e : f ρ with
  | bad => rw [e] at h; exact h
  | ex x => rw [e] at h; exact h
  | ok x => rw [e] at h; exact fun v H1 s1 hv => h _ H1 s1 (by rw [hv.isN]; exact .bl _)
theorem de_notN {j pos'} (ha : DE X WX c a f) : DE X WX c (.Compare a [.IsNot] [.Constant .none j pos'] pos) (fun ρ => (f ρ).bind fun x => .ok (.bl (!isNonD x))) := by
  obtain ⟨ta, a1, a2⟩ := ha
  refine ⟨_, pe_cmp (pc_notN a1), fun P0 P σ H Q ρ E h => ?_⟩
  dsimp only at h
  refine a2 P0 P σ H _ ρ E ?_
  cases e : f ρ with
  | bad => rw [e] at h; exact h
  | ex x => rw [e] at h; exact h
  | ok x => rw [e] at h; exact fun v H1 s1 hv => h _ H1 s1 (by rw [hv.isN]; exact .bl _)
/-! an item -/
def dIx (x y : D) : M D := match x, y with
  | .tup ds, .int i => (match atI ds i with | some d => .ok d | none => .bad)
  | .lst ds, .int i => (match atI ds i with | some d => .ok d | none => .bad)
  | _, _ => .bad
theorem HasL.atI {K : PySem.W.Frag} {H : Hp} {xs : List V} {ds : List D} {i : Int} {d : D} (h : HasL K H xs ds) (e : L2.atI ds i = some d) : ∃ v, L2.atI xs i = some v ∧ Has K H v d := by
  unfold L2.atI at e ⊢
  rw [← h.length] at e
  cases q : ixN xs.length i with
  | none => rw [q] at e; cases e
  | some j =>
    rw [q] at e
    exact h.get e
theorem SqL.undel {K : PySem.W.Frag} {H : Hp} {P : Addr → Prop} {a : Addr} {xs : List V} (h : SqL K (del H P) a xs) : SqL K H a xs := del_full.seq h
theorem SqT.undel {K : PySem.W.Frag} {H : Hp} {P : Addr → Prop} {a : Addr} {xs : List V} (h : SqT K (del H P) a xs) : SqT K H a xs := del_full.seqT h
theorem opd_ix : OpD X.K WX (fun x y H Q => rIxL X.K x y H Q ∨ rIxT X.K x y H Q) dIx := by
  intro P H x y v w Q ht hx hy h
  unfold dIx at h
  split at h
  · rename_i ds i
    split at h
    · rename_i d e
      cases hy
      cases hx with
      | tup hs hl =>
        obtain ⟨u, h1, h2⟩ := hl.atI e
        exact .inr ⟨_, _, i, u, rfl, rfl, hs.undel, h1, h _ H (Same.refl H) h2⟩
    · exact h.elim
  · rename_i ds i
    split at h
    · rename_i d e
      cases hy
      cases hx with
      | lst hs hl =>
        obtain ⟨u, h1, h2⟩ := hl.atI e
        exact .inl ⟨_, _, i, u, rfl, rfl, hs.undel, h1, h _ H (Same.refl H) h2⟩
    · exact h.elim
  · exact h.elim
theorem de_item (ha : DE X WX c a f) (hb : DE X WX c b g) (hs : PlainIx b := by exact fun _ _ => rfl) : DE X WX c (.Subscript a b pos) (fun ρ => (f ρ).bind fun x => (g ρ).bind fun y => dIx x y) := de_ix (ix_list.or ix_tup) opd_ix ha hb hs
/-! argument lists, tuples, lists -/
theorem da_nil : DA X WX c [] (fun _ => .ok []) := ⟨_, pa_nil, fun P0 P σ H Q ρ E h => h [] H (Same.refl H) .nil, fun ρ ds h => by cases h; rfl⟩
theorem da_cons {e : Expr} {es : List Expr} {f : Rho → M D} {fs : Rho → M (List D)} (he : DE X WX c e f) (hr : DA X WX c es fs) (hs : starEach (e :: es) X.env = (false, eval e X.env) :: starEach es X.env := by rfl) :
    DA X WX c (e :: es) (fun ρ => (f ρ).bind fun d => (fs ρ).bind fun ds => .ok (d :: ds)) := by
  obtain ⟨te, e1, e2⟩ := he
  obtain ⟨tr, r1, r2, r3⟩ := hr
  refine ⟨_, pa_cons e1 r1 hs, fun P0 P σ H Q ρ E h => ?_, fun ρ ds h => ?_⟩
  rotate_left
  · dsimp only at h
    cases q : f ρ with
    | bad => rw [q] at h; cases h
    | ex x => rw [q] at h; cases h
    | ok x =>
      rw [q] at h
      cases q2 : fs ρ with
      | bad => rw [q2] at h; cases h
      | ex x => rw [q2] at h; cases h
      | ok xs =>
        rw [q2] at h
        cases h
        rw [List.length_cons, List.length_cons, r3 ρ xs q2]
  dsimp only at h
  refine e2 P0 P σ H _ ρ E ?_
  cases q : f ρ with
  | bad => rw [q] at h; exact h
  | ex x => rw [q] at h; exact h
  | ok x =>
    rw [q] at h
    intro v H1 s1 hv
    refine r2 P0 P σ H1 _ ρ (E.same s1) ?_
    cases q2 : fs ρ with
    | bad => rw [q2] at h; exact h
    | ex y => rw [q2] at h; exact gA.same (m := .ex y) h s1
    | ok ds =>
      rw [q2] at h
      exact fun vs H2 s2 hvs => h _ H2 (s1.trans s2) (.cons (hv.mono s2.del) hvs)
theorem new_del {H : Hp} {P : Addr → Prop} {p : Addr} {o : HO} (hn : H p = none) (ht : ∀ a, P a → Trk H a) : del (upd H p o) P p = some o := by
  rw [del_of fun z => (ht p z).no hn]
  exact upd_same
theorem de_tup {es : List Expr} {fs : Rho → M (List D)} {x1} (ha : DA X WX c es fs) (hz : es.length ≤ 1000 := by decide) : DE X WX c (.Tuple es x1 pos) (fun ρ => (fs ρ).bind fun ds => if ds.length ≤ 1000 then .ok (.tup ds) else .bad) := by
  obtain ⟨ta, a1, a2, a3⟩ := ha
  refine ⟨_, pe_tup a1, fun P0 P σ H Q ρ E h => ?_⟩
  dsimp only at h
  refine a2 P0 P σ H _ ρ E ?_
  cases q : fs ρ with
  | bad => rw [q] at h; exact h
  | ex y => rw [q] at h; exact h
  | ok ds =>
    rw [q] at h
    simp only [M.bind_ok] at h
    by_cases hd : ds.length ≤ 1000
    · rw [if_pos hd] at h
      intro vs H1 s1 hvs
      refine ⟨Nat.le_of_lt (small1000 (by rw [hvs.length]; exact hd)), fun p hp => h _ _ (s1.trans (same_new hp _)) (.tup (.of (new_del hp fun a q => (E.same s1).lvt c a q)) (hvs.mono (same_new hp _).del))⟩
    · rw [if_neg hd] at h; exact h.elim
theorem de_lst {es : List Expr} {fs : Rho → M (List D)} (ha : DA X WX c es fs) : DE X WX c (.List es pos) (fun ρ => (fs ρ).bind fun ds => if ds.length ≤ 1000 then .ok (.lst ds) else .bad) := by
  obtain ⟨ta, a1, a2, a3⟩ := ha
  refine ⟨_, pe_lst a1, fun P0 P σ H Q ρ E h => ?_⟩
  dsimp only at h
  refine a2 P0 P σ H _ ρ E ?_
  cases q : fs ρ with
  | bad => rw [q] at h; exact h
  | ex y => rw [q] at h; exact h
  | ok ds =>
    rw [q] at h
    simp only [M.bind_ok] at h
    by_cases hd : ds.length ≤ 1000
    · rw [if_pos hd] at h
      intro vs H1 s1 hvs
      refine ⟨Nat.le_of_lt (small1000 (by rw [hvs.length]; exact hd)), fun p hp => h _ _ (s1.trans (same_new hp _)) (.lst (.of (new_del hp fun a q => (E.same s1).lvt c a q)) (hvs.mono (same_new hp _).del))⟩
    · rw [if_neg hd] at h; exact h.elim
end
end L2

set_option Elab.async false
set_option linter.all false
set_option maxRecDepth 100000
namespace L2
open PySem PySem.Spec PyProof.Rows

def asB (d : D) : M Bool := match d with | .bl b => .ok b | _ => .bad
section
variable {X : Cx} {WX : Str → Hp → Prop} {c : Bool} {P0 P : Addr → Prop} {H : Hp} {σ : St} {ρ : Rho} {a b e : Expr} {f g : Rho → M D} {ft gt : Rho → M Bool} {pos : Pos}
/-- from a worth to a test's -/
theorem gT_of {WX : Str → Hp → Prop} {P : Addr → Prop} {K : PySem.W.Frag} {H : Hp} {Q : Bool → Hp → Prop} {m : M D} (h : gT WX H Q (m.bind asB)) : gV K WX P H (fun x H' => ∃ k, x = .bl k ∧ Q k H') m := by
  cases m with
  | bad => exact h
  | ex x => exact h
  | ok d =>
    intro v H' s hv
    simp only [M.bind_ok] at h
    unfold asB at h
    split at h
    · rename_i b
      exact ⟨b, hv.bl_inv, h H' s⟩
    · exact h.elim
theorem dt_val (h : DE X WX c e f) (he : ∀ whole, isTrue e X.env whole = (do let v ← whole; standAt e.pos; holding [v] (truthy v)) := by intro _; rfl) : DT X WX e (fun ρ => (f ρ).bind asB) := by
  obtain ⟨t, h1, h2⟩ := h
  exact ⟨_, pt_val h1 he, fun P0 P σ H Q ρ E q => h2 P0 P σ H _ ρ E (gT_of q)⟩
theorem dt_cmpR {op : CmpOp} {r : R2} {dop : D → D → M D} (ho : OpR X (compareOp op) r) (hr : OpD X.K WX r dop) (ha : DE X WX c a f) (hb : DE X WX c b g) (hm : behindInMarks op b = false) : DT X WX (.Compare a [op] [b] pos) (fun ρ => ((f ρ).bind fun x => (g ρ).bind fun y => dop x y).bind asB) := by
  obtain ⟨ta, a1, a2⟩ := ha
  obtain ⟨tb, b1, b2⟩ := hb
  exact ⟨_, pt_cmpR ho a1 b1 hm, fun P0 P σ H Q ρ E h => bin_D a2 b2 hr E (gT_of h)⟩
theorem dt_lt (ha : DE X WX c a f) (hb : DE X WX c b g) : DT X WX (.Compare a [.Lt] [b] pos) (fun ρ => ((f ρ).bind fun x => (g ρ).bind fun y => dLt x y).bind asB) := dt_cmpR op_lt (opd_rI0 fun _ _ _ _ => .bl _) ha hb (nomark _)
theorem dt_le (ha : DE X WX c a f) (hb : DE X WX c b g) : DT X WX (.Compare a [.LtE] [b] pos) (fun ρ => ((f ρ).bind fun x => (g ρ).bind fun y => dLe x y).bind asB) := dt_cmpR op_le (opd_rI0 fun _ _ _ _ => .bl _) ha hb (nomark _)
theorem dt_gt (ha : DE X WX c a f) (hb : DE X WX c b g) : DT X WX (.Compare a [.Gt] [b] pos) (fun ρ => ((f ρ).bind fun x => (g ρ).bind fun y => dGt x y).bind asB) := dt_cmpR op_gt (opd_rI0 fun _ _ _ _ => .bl _) ha hb (nomark _)
theorem dt_ge (ha : DE X WX c a f) (hb : DE X WX c b g) : DT X WX (.Compare a [.GtE] [b] pos) (fun ρ => ((f ρ).bind fun x => (g ρ).bind fun y => dGe x y).bind asB) := dt_cmpR op_ge (opd_rI0 fun _ _ _ _ => .bl _) ha hb (nomark _)
theorem dt_eq {n : Nat} (hu : X.A.units + n < cLine) (ha : DE X WX c a f) (hb : DE X WX c b g) : DT X WX (.Compare a [.Eq] [b] pos) (fun ρ => ((f ρ).bind fun x => (g ρ).bind fun y => dEq n x y).bind asB) := dt_cmpR op_eqD (opd_eq hu) ha hb (nomark _)
theorem dt_ne {n : Nat} (hu : X.A.units + n < cLine) (ha : DE X WX c a f) (hb : DE X WX c b g) : DT X WX (.Compare a [.NotEq] [b] pos) (fun ρ => ((f ρ).bind fun x => (g ρ).bind fun y => dNe n x y).bind asB) := dt_cmpR op_neD (opd_ne hu) ha hb (nomark _)
theorem dt_isN {j pos'} (ha : DE X WX c a f) : DT X WX (.Compare a [.Is] [.Constant .none j pos'] pos) (fun ρ => (f ρ).bind fun x => .ok (isNonD x)) := by
  obtain ⟨ta, a1, a2⟩ := ha
  refine ⟨_, pt_cmp (pc_isN a1), fun P0 P σ H Q ρ E h => ?_⟩
  dsimp only at h
  refine a2 P0 P σ H _ ρ E ?_
  cases e : f ρ with
  | bad => rw [e] at h; exact h
  | ex x => rw [e] at h; exact h
  | ok x => rw [e] at h; exact fun v H1 s1 hv => ⟨_, rfl, by rw [hv.isN]; exact h H1 s1⟩
theorem dt_notN {j pos'} (ha : DE X WX c a f) : DT X WX (.Compare a [.IsNot] [.Constant .none j pos'] pos) (fun ρ => (f ρ).bind fun x => .ok (!isNonD x)) := by
  obtain ⟨ta, a1, a2⟩ := ha
  refine ⟨_, pt_cmp (pc_notN a1), fun P0 P σ H Q ρ E h => ?_⟩
  dsimp only at h
  refine a2 P0 P σ H _ ρ E ?_
  cases e : f ρ with
  | bad => rw [e] at h; exact h
  | ex x => rw [e] at h; exact h
  | ok x => rw [e] at h; exact fun v H1 s1 hv => ⟨_, rfl, by rw [hv.isN]; exact h H1 s1⟩
theorem dt_not (ha : DT X WX a ft) : DT X WX (.UnaryOp .Not a pos) (fun ρ => (ft ρ).bind fun b => .ok (!b)) := by
  obtain ⟨ta, a1, a2⟩ := ha
  refine ⟨_, pt_not a1, fun P0 P σ H Q ρ E h => ?_⟩
  dsimp only at h
  refine a2 P0 P σ H _ ρ E ?_
  cases e : ft ρ with
  | bad => rw [e] at h; exact h
  | ex x => rw [e] at h; exact h
  | ok x => rw [e] at h; exact fun H1 s1 => h H1 s1
theorem dw_and1 (ha : DT X WX a ft) : DW X WX (.BoolOp .And [a] pos) ft := let ⟨ta, a1, a2⟩ := ha; ⟨_, pw_and1 a1, a2⟩
theorem dw_or1 (ha : DT X WX a ft) : DW X WX (.BoolOp .Or [a] pos) ft := let ⟨ta, a1, a2⟩ := ha; ⟨_, pw_or1 a1, a2⟩
theorem dw_and {rest : List Expr} (ha : DT X WX a ft) (hb : DW X WX (.BoolOp .And (b :: rest) pos) gt) : DW X WX (.BoolOp .And (a :: b :: rest) pos) (fun ρ => (ft ρ).bind fun k => if k = true then gt ρ else .ok false) := by
  obtain ⟨ta, a1, a2⟩ := ha
  obtain ⟨tb, b1, b2⟩ := hb
  refine ⟨_, pw_and a1 b1, fun P0 P σ H Q ρ E h => ?_⟩
  dsimp only at h
  refine a2 P0 P σ H _ ρ E ?_
  cases e : ft ρ with
  | bad => rw [e] at h; exact h
  | ex x => rw [e] at h; exact h
  | ok k =>
    rw [e] at h
    intro H1 s1
    cases k with
    | true =>
      simp only [M.bind_ok, if_true] at h ⊢
      exact b2 P0 P σ H1 _ ρ (E.same s1) (h.same s1)
    | false =>
      simp only [M.bind_ok, Bool.false_eq_true, if_false] at h ⊢
      exact h H1 s1
theorem dw_or {rest : List Expr} (ha : DT X WX a ft) (hb : DW X WX (.BoolOp .Or (b :: rest) pos) gt) : DW X WX (.BoolOp .Or (a :: b :: rest) pos) (fun ρ => (ft ρ).bind fun k => if k = true then .ok true else gt ρ) := by
  obtain ⟨ta, a1, a2⟩ := ha
  obtain ⟨tb, b1, b2⟩ := hb
  refine ⟨_, pw_or a1 b1, fun P0 P σ H Q ρ E h => ?_⟩
  dsimp only at h
  refine a2 P0 P σ H _ ρ E ?_
  cases e : ft ρ with
  | bad => rw [e] at h; exact h
  | ex x => rw [e] at h; exact h
  | ok k =>
    rw [e] at h
    intro H1 s1
    cases k with
    | true =>
      simp only [M.bind_ok, if_true] at h ⊢
      exact h H1 s1
    | false =>
      simp only [M.bind_ok, Bool.false_eq_true, if_false] at h ⊢
      exact b2 P0 P σ H1 _ ρ (E.same s1) (h.same s1)
/-! and, or, not as values of bools -/
theorem de_one {op} (ha : DE X WX c a f) : DE X WX c (.BoolOp op [a] pos) f := let ⟨ta, a1, a2⟩ := ha; ⟨_, pe_one a1, a2⟩
theorem de_and {rest : List Expr} (ha : DE X WX c a f) (hb : DE X WX c (.BoolOp .And (b :: rest) pos) g) : DE X WX c (.BoolOp .And (a :: b :: rest) pos) (fun ρ => ((f ρ).bind asB).bind fun k => if k = true then g ρ else .ok (.bl false)) := by
  obtain ⟨ta, a1, a2⟩ := ha
  obtain ⟨tb, b1, b2⟩ := hb
  refine ⟨_, pe_and a1 b1, fun P0 P σ H Q ρ E h => ?_⟩
  dsimp only at h
  refine a2 P0 P σ H _ ρ E ?_
  cases e : f ρ with
  | bad => rw [e] at h; exact h
  | ex x => rw [e] at h; exact h
  | ok d =>
    rw [e] at h
    simp only [M.bind_ok] at h
    unfold asB at h
    split at h
    · rename_i k
      intro v H1 s1 hv
      refine ⟨k, hv.bl_inv, ?_⟩
      cases k with
      | true =>
        simp only [M.bind_ok, if_true] at h ⊢
        exact b2 P0 P σ H1 _ ρ (E.same s1) (h.same s1)
      | false =>
        simp only [M.bind_ok, Bool.false_eq_true, if_false] at h ⊢
        exact h _ H1 s1 (.bl _)
    · exact h.elim
theorem de_or {rest : List Expr} (ha : DE X WX c a f) (hb : DE X WX c (.BoolOp .Or (b :: rest) pos) g) : DE X WX c (.BoolOp .Or (a :: b :: rest) pos) (fun ρ => ((f ρ).bind asB).bind fun k => if k = true then .ok (.bl true) else g ρ) := by
  obtain ⟨ta, a1, a2⟩ := ha
  obtain ⟨tb, b1, b2⟩ := hb
  refine ⟨_, pe_or a1 b1, fun P0 P σ H Q ρ E h => ?_⟩
  dsimp only at h
  refine a2 P0 P σ H _ ρ E ?_
  cases e : f ρ with
  | bad => rw [e] at h; exact h
  | ex x => rw [e] at h; exact h
  | ok d =>
    rw [e] at h
    simp only [M.bind_ok] at h
    unfold asB at h
    split at h
    · rename_i k
      intro v H1 s1 hv
      refine ⟨k, hv.bl_inv, ?_⟩
      cases k with
      | true =>
        simp only [M.bind_ok, if_true] at h ⊢
        exact h _ H1 s1 (.bl _)
      | false =>
        simp only [M.bind_ok, Bool.false_eq_true, if_false] at h ⊢
        exact b2 P0 P σ H1 _ ρ (E.same s1) (h.same s1)
    · exact h.elim
theorem de_not (ha : DE X WX c a f) : DE X WX c (.UnaryOp .Not a pos) (fun ρ => ((f ρ).bind asB).bind fun k => .ok (.bl (!k))) := by
  obtain ⟨ta, a1, a2⟩ := ha
  refine ⟨_, pe_not a1, fun P0 P σ H Q ρ E h => ?_⟩
  dsimp only at h
  refine a2 P0 P σ H _ ρ E ?_
  cases e : f ρ with
  | bad => rw [e] at h; exact h
  | ex x => rw [e] at h; exact h
  | ok d =>
    rw [e] at h
    simp only [M.bind_ok] at h
    unfold asB at h
    split at h
    · rename_i k
      exact fun v H1 s1 hv => ⟨k, hv.bl_inv, h _ H1 s1 (.bl _)⟩
    · exact h.elim
theorem de_neg (ha : DE X WX c a f) : DE X WX c (.UnaryOp .USub a pos) (fun ρ => (f ρ).bind fun d => match d with | .int i => .ok (.int (-i)) | _ => .bad) := by
  obtain ⟨ta, a1, a2⟩ := ha
  refine ⟨_, pe_un un_neg a1, fun P0 P σ H Q ρ E h => ?_⟩
  dsimp only at h
  refine a2 P0 P σ H _ ρ E ?_
  cases e : f ρ with
  | bad => rw [e] at h; exact h
  | ex x => rw [e] at h; exact h
  | ok d =>
    rw [e] at h
    simp only [M.bind_ok] at h
    split at h
    · rename_i i
      exact fun v H1 s1 hv => ⟨i, hv.int_inv, h _ H1 s1 (.int _)⟩
    · exact h.elim
theorem de_ifE {cnd : Expr} (hc : DT X WX cnd ft) (ha : DE X WX c a f) (hb : DE X WX c b g) : DE X WX c (.IfExp cnd a b pos) (fun ρ => (ft ρ).bind fun k => if k = true then f ρ else g ρ) := by
  obtain ⟨tc, c1, c2⟩ := hc
  obtain ⟨ta, a1, a2⟩ := ha
  obtain ⟨tb, b1, b2⟩ := hb
  refine ⟨_, pe_ifExp c1 a1 b1, fun P0 P σ H Q ρ E h => ?_⟩
  dsimp only at h
  refine c2 P0 P σ H _ ρ E ?_
  cases e : ft ρ with
  | bad => rw [e] at h; exact h
  | ex x => rw [e] at h; exact h
  | ok k =>
    rw [e] at h
    intro H1 s1
    cases k with
    | true =>
      simp only [M.bind_ok, if_true] at h ⊢
      exact a2 P0 P σ H1 _ ρ (E.same s1) (h.same s1)
    | false =>
      simp only [M.bind_ok, Bool.false_eq_true, if_false] at h ⊢
      exact b2 P0 P σ H1 _ ρ (E.same s1) (h.same s1)
/-! chains of ints: a op b op' d -/
theorem de_chainI {d : Expr} {h : Rho → M D} {op op' : CmpOp} {p q : Int → Int → Bool} (ho : OpR X (compareOp op) (rI0 fun i j => .bl (p i j))) (ho' : OpR X (compareOp op') (rI0 fun i j => .bl (q i j))) (ha : DE X WX c a f) (hb : DE X WX c b g) (hd : DE X WX c d h)
    (hm : lastMarks [op, op'] [b, d] = false := by with_unfolding_all rfl) : DE X WX c (.Compare a [op, op'] [b, d] pos) (fun ρ => (f ρ).bind fun x => (g ρ).bind fun y => onInts (fun i j => if p i j = true then (h ρ).bind fun z => onInts (fun _ k => .ok (.bl (q j k))) (.int 0) z else .ok (.bl false)) x y) := by
  obtain ⟨ta, a1, a2⟩ := ha
  obtain ⟨tb, b1, b2⟩ := hb
  obtain ⟨td, d1, d2⟩ := hd
  refine ⟨_, pe_chain ho ho' a1 b1 d1 hm, fun P0 P σ H Q ρ E hh => ?_⟩
  dsimp only at hh
  refine a2 P0 P σ H _ ρ E ?_
  cases e : f ρ with
  | bad => rw [e] at hh; exact hh
  | ex x => rw [e] at hh; exact hh
  | ok x =>
    rw [e] at hh
    intro v H1 s1 hv
    refine b2 P0 P σ H1 _ ρ (E.same s1) ?_
    cases e2 : g ρ with
    | bad => rw [e2] at hh; exact hh
    | ex y => rw [e2] at hh; exact gV.same (m := .ex y) hh s1
    | ok y =>
      rw [e2] at hh
      simp only [M.bind_ok] at hh
      unfold onInts at hh
      split at hh
      · rename_i i j
        intro w H2 s2 hw
        refine ⟨i, j, hv.int_inv, hw.int_inv, p i j, rfl, ?_⟩
        dsimp only at hh
        by_cases hp : p i j = true
        · rw [if_pos hp] at hh ⊢
          refine d2 P0 P σ H2 _ ρ ((E.same s1).same s2) ?_
          cases e3 : h ρ with
          | bad => rw [e3] at hh; exact hh
          | ex z => rw [e3] at hh; exact gV.same (gV.same (m := .ex z) hh s1) s2
          | ok z =>
            rw [e3] at hh
            simp only [M.bind_ok] at hh
            cases z with
            | int k => exact fun u H3 s3 hu => ⟨j, k, hw.int_inv, hu.int_inv, hh _ H3 ((s1.trans s2).trans s3) (.bl _)⟩
            | _ => exact hh.elim
        · rw [if_neg hp] at hh ⊢
          exact hh _ H2 (s1.trans s2) (.bl _)
      · exact hh.elim
/-! calls of what is built in -/
def CallD (K : PySem.W.Frag) (WX : Str → Hp → Prop) (r : List V → Hp → VK → Prop) (dF : List D → M D) : Prop :=
  ∀ (P : Addr → Prop) (H : Hp) (ds : List D) (vs : List V) (Q : VK), (∀ a, P a → Trk H a) → HasL K (del H P) vs ds → gV K WX P H Q (dF ds) → r vs H Q
variable {x : Str} {p : Pos} {es : List Expr} {fs : Rho → M (List D)} {id T : String} {r : List V → Hp → VK → Prop} {dF : List D → M D}
theorem call_D {ta : TA} (ha : ∀ P0 P σ H Q ρ, EnvP X.K P0 P H σ ρ → gA X.K WX (Lv c P0 P) H Q (fs ρ) → ta σ H Q) (hr : CallD X.K WX r dF) {Q : VK} (E : EnvP X.K P0 P H σ ρ) (h : gV X.K WX (Lv c P0 P) H Q ((fs ρ).bind dF)) : tCB r ta σ H Q := by
  refine ha P0 P σ H _ ρ E ?_
  cases e : fs ρ with
  | bad => rw [e] at h; exact h
  | ex x => rw [e] at h; exact h
  | ok ds =>
    rw [e] at h
    exact fun vs H1 s1 hvs => hr _ H1 ds vs Q (fun a q => (E.same s1).lvt c a q) hvs (h.same s1)
theorem de_callB (hc : CallR X (.builtin id) r) (hr : CallD X.K WX r dF) (hg : Gl X x) (hm : X.mg x = none) (hv : bootBuiltins x = some (.builtin id)) (ha : DA X WX c (e :: es) fs) (hn : x ≠ "__name__" := by decide) (hdb : (x == ("__debug__" : Str)) = false := by decide)
    (he : starEach (e :: es) X.env = (false, eval e X.env) :: starEach es X.env := by rfl) (hpl : (backTo pos (starEach es X.env)).any (·.1) = false := by rfl) : DE X WX c (.Call (.Name x p) (e :: es) [] pos) (fun ρ => (fs ρ).bind dF) := by
  obtain ⟨ta, a1, a2, a3⟩ := ha
  exact ⟨_, pe_callB hc hg hm hv a1 hn hdb he hpl, fun P0 P σ H Q ρ E h => call_D a2 hr E h⟩
theorem de_callTy (hc : CallR X (.type T) r) (hr : CallD X.K WX r dF) (hg : Gl X x) (hm : X.mg x = none) (hv : bootBuiltins x = some (.type T)) (ha : DA X WX c (e :: es) fs) (hn : x ≠ "__name__" := by decide) (hdb : (x == ("__debug__" : Str)) = false := by decide)
    (he : starEach (e :: es) X.env = (false, eval e X.env) :: starEach es X.env := by rfl) (hpl : (backTo pos (starEach es X.env)).any (·.1) = false := by rfl) : DE X WX c (.Call (.Name x p) (e :: es) [] pos) (fun ρ => (fs ρ).bind dF) := by
  obtain ⟨ta, a1, a2, a3⟩ := ha
  exact ⟨_, pe_callTy hc hg hm hv a1 hn hdb he hpl, fun P0 P σ H Q ρ E h => call_D a2 hr E h⟩
def dLen (ds : List D) : M D := match ds with
  | [.lst xs] => .ok (.int xs.length)
  | [.tup xs] => .ok (.int xs.length)
  | _ => .bad
theorem HasL.one {K : PySem.W.Frag} {H : Hp} {vs : List V} {d : D} (h : HasL K H vs [d]) : ∃ v, vs = [v] ∧ Has K H v d := by
  cases h with
  | cons h t => cases t; exact ⟨_, rfl, h⟩
theorem HasL.two {K : PySem.W.Frag} {H : Hp} {vs : List V} {d e : D} (h : HasL K H vs [d, e]) : ∃ v w, vs = [v, w] ∧ Has K H v d ∧ Has K H w e := by
  cases h with
  | cons h t =>
    obtain ⟨w, rfl, hw⟩ := t.one
    exact ⟨_, w, rfl, h, hw⟩
theorem cd_len : CallD X.K WX (fun xs H Q => ∃ p ys, xs = [.ref p] ∧ (SqL X.K H p ys ∨ SqT X.K H p ys) ∧ Q (.int ys.length) H) dLen := by
  intro P H ds vs Q ht hl h
  unfold dLen at h
  split at h
  · obtain ⟨v, rfl, hv⟩ := hl.one
    cases hv with
    | lst hs hh => exact ⟨_, _, rfl, .inl hs.undel, by rw [hh.length]; exact h _ H (Same.refl H) (.int _)⟩
  · obtain ⟨v, rfl, hv⟩ := hl.one
    cases hv with
    | tup hs hh => exact ⟨_, _, rfl, .inr hs.undel, by rw [hh.length]; exact h _ H (Same.refl H) (.int _)⟩
  · exact h.elim
theorem de_len (hg : Gl X "len") (hm : X.mg "len" = none) (ha : DE X WX c e f) (hs : starEach [e] X.env = [(false, eval e X.env)] := by rfl) : DE X WX c (.Call (.Name "len" p) [e] [] pos) (fun ρ => ((f ρ).bind fun d => (M.ok []).bind fun ds => .ok (d :: ds)).bind dLen) :=
  de_callB call_len_seq cd_len hg hm PySem.boot_len (da_cons ha da_nil hs) (he := hs)
def dList (ds : List D) : M D := match ds with
  | [.lst xs] => .ok (.lst xs)
  | [.tup xs] => .ok (.lst xs)
  | _ => .bad
theorem cd_list : CallD X.K WX (fun xs H Q => ∃ p ys, xs = [.ref p] ∧ (SqL X.K H p ys ∨ SqT X.K H p ys) ∧ ∀ l, H l = none → Q (.ref l) (upd H l (.lst ys))) dList := by
  intro P H ds vs Q ht hl h
  unfold dList at h
  split at h
  · obtain ⟨v, rfl, hv⟩ := hl.one
    cases hv with
    | lst hs hh => exact ⟨_, _, rfl, .inl hs.undel, fun l hn => h _ _ (same_new hn _) (.lst (.of (new_del hn ht)) (hh.mono (same_new hn _).del))⟩
  · obtain ⟨v, rfl, hv⟩ := hl.one
    cases hv with
    | tup hs hh => exact ⟨_, _, rfl, .inr hs.undel, fun l hn => h _ _ (same_new hn _) (.lst (.of (new_del hn ht)) (hh.mono (same_new hn _).del))⟩
  · exact h.elim
theorem de_list (hg : Gl X "list") (hm : X.mg "list" = none) (ha : DE X WX c e f) (hb : bootBuiltins "list" = some (.type "list") := by decide +kernel) (hs : starEach [e] X.env = [(false, eval e X.env)] := by rfl) : DE X WX c (.Call (.Name "list" p) [e] [] pos) (fun ρ => ((f ρ).bind fun d => (M.ok []).bind fun ds => .ok (d :: ds)).bind dList) :=
  de_callTy call_list_of cd_list hg hm hb (da_cons ha da_nil hs) (he := hs)
def dTuple (ds : List D) : M D := match ds with
  | [.lst xs] => .ok (.tup xs)
  | [.tup xs] => .ok (.tup xs)
  | _ => .bad
theorem cd_tuple : CallD X.K WX (fun xs H Q => ∃ p ys, xs = [.ref p] ∧ ((SqL X.K H p ys ∧ ∀ l, H l = none → Q (.ref l) (upd H l (.tup ys))) ∨ (SqT X.K H p ys ∧ Q (.ref p) H))) dTuple := by
  intro P H ds vs Q ht hl h
  unfold dTuple at h
  split at h
  · obtain ⟨v, rfl, hv⟩ := hl.one
    cases hv with
    | lst hs hh => exact ⟨_, _, rfl, .inl ⟨hs.undel, fun l hn => h _ _ (same_new hn _) (.tup (.of (new_del hn ht)) (hh.mono (same_new hn _).del))⟩⟩
  · obtain ⟨v, rfl, hv⟩ := hl.one
    cases hv with
    | tup hs hh => exact ⟨_, _, rfl, .inr ⟨hs.undel, h _ H (Same.refl H) (.tup hs hh)⟩⟩
  · exact h.elim
theorem de_tuple (hg : Gl X "tuple") (hm : X.mg "tuple" = none) (ha : DE X WX c e f) (hb : bootBuiltins "tuple" = some (.type "tuple") := by decide +kernel) (hs : starEach [e] X.env = [(false, eval e X.env)] := by rfl) : DE X WX c (.Call (.Name "tuple" p) [e] [] pos) (fun ρ => ((f ρ).bind fun d => (M.ok []).bind fun ds => .ok (d :: ds)).bind dTuple) :=
  de_callTy call_tuple_of cd_tuple hg hm hb (da_cons ha da_nil hs) (he := hs)
/-! isinstance -/
def tyD : D → String
  | .non => "NoneType"
  | .bl _ => "bool"
  | .int _ => "int"
  | .str _ => "str"
  | .tup _ => "tuple"
  | .lst _ => "list"
  | .exn _ => "NoneType"
/-- the answer for a built-in type -/
def isTy (T : String) (d : D) : Bool := (tyD d == T) || (tyD d == "bool" && T == "int")
def isTyM (T : String) (d : D) : M D := match d with
  | .exn _ => .bad
  | d => .ok (.bl (isTy T d))
def isX : D → Bool
  | .exn _ => true
  | _ => false
theorem isTyM_of {T : String} {d : D} (h : isX d = false) : isTyM T d = .ok (.bl (isTy T d)) := by cases d <;> first | rfl | cases h
def rIsT (K : PySem.W.Frag) (T : String) : List V → Hp → VK → Prop := fun xs H Q => ∃ x d, xs = [x, .ty T] ∧ Has K H x d ∧ isX d = false ∧ Q (.bl (isTy T d)) H
theorem call_isT {T : String} (hk : ∀ d : D, PySem.W.kitOne X.K (.type (tyD d)) (.type T) = some (isTy T d)) : CallR X (.builtin "isinstance") (rIsT X.K T) := by
  intro pins s σ H xs us Q I r h
  obtain ⟨x, d, rfl, hd, hx, q⟩ := h
  obtain ⟨u, w, rfl, rx, rw'⟩ := r.two
  cases rw'
  have fin : ∀ tk, EP X pins σ Q (.bool (isTy T d)) { s with toks := tk } := fun tk => ⟨.bl _, H, I.tok tk, rfl, q⟩
  have e := hk d
  cases hd with
  | exn _ _ => cases hx
  | non => cases rx; exact PySem.W.kia_one PySem.W.kitx_none I.kIn True.intro e (fun z => nomatch z) fin
  | bl b => cases rx; exact PySem.W.kia_one PySem.W.kitx_bool I.kIn True.intro e (fun z => nomatch z) fin
  | int b => obtain ⟨t, rfl⟩ := rx; exact PySem.W.kia_one PySem.W.kitx_int I.kIn True.intro e (fun z => nomatch z) fin
  | str b => obtain ⟨t, rfl⟩ := rx; exact PySem.W.kia_one PySem.W.kitx_str I.kIn True.intro e (fun z => nomatch z) fin
  | tup hs hl =>
    cases rx
    obtain ⟨_, _, ⟨o, h1, h2, _⟩, _⟩ := I.tuple hs
    exact PySem.W.kia_one PySem.W.kitx_tuple I.kIn ⟨o, h1, h2⟩ e (fun z => nomatch z) fin
  | lst hs hl =>
    cases rx
    obtain ⟨_, _, ⟨o, n, h1, h2, _⟩, _⟩ := I.list hs
    exact PySem.W.kia_one PySem.W.kitx_list I.kIn ⟨o, h1, h2⟩ e (fun z => nomatch z) fin
theorem de_isT {T : String} {x2 : Str} {p2 : Pos} (hk : ∀ d : D, PySem.W.kitOne X.K (.type (tyD d)) (.type T) = some (isTy T d)) (hg : Gl X "isinstance") (hm : X.mg "isinstance" = none) (hg2 : Gl X x2) (hm2 : X.mg x2 = none) (hv2 : bootBuiltins x2 = some (.type T)) (ha : DE X WX c e f)
    (hb : bootBuiltins "isinstance" = some (.builtin "isinstance") := by decide +kernel) (hn2 : x2 ≠ "__name__" := by decide) (hdb2 : (x2 == ("__debug__" : Str)) = false := by decide) (hs : starEach [e, .Name x2 p2] X.env = (false, eval e X.env) :: starEach [.Name x2 p2] X.env := by rfl) (hs2 : starEach [.Name x2 p2] X.env = [(false, eval (.Name x2 p2) X.env)] := by rfl)
    (hpl : (backTo pos (starEach [.Name x2 p2] X.env)).any (·.1) = false := by rfl) :
    DE X WX c (.Call (.Name "isinstance" p) [e, .Name x2 p2] [] pos) (fun ρ => (f ρ).bind fun d => isTyM T d) := by
  obtain ⟨ta, a1, a2⟩ := ha
  refine ⟨_, pe_callB (call_isT hk) hg hm hb (pa_cons a1 (pa_cons (pe_bltn (v := .ty T) hg2 hm2 hv2 rfl hn2 hdb2) pa_nil hs2) hs) (by decide) (by decide) hs hpl, fun P0 P σ H Q ρ E h => ?_⟩
  dsimp only at h
  refine a2 P0 P σ H _ ρ E ?_
  cases q : f ρ with
  | bad => rw [q] at h; exact h
  | ex x => rw [q] at h; exact h
  | ok d =>
    rw [q] at h
    simp only [M.bind_ok] at h
    cases hx : isX d with
    | true => cases d <;> first | exact h.elim | cases hx
    | false =>
      rw [isTyM_of hx] at h
      exact fun v H1 s1 hv => ⟨v, d, rfl, hv.mono del_full, hx, h _ H1 s1 (.bl _)⟩
theorem kit_tuple' (K : PySem.W.Frag) (d : D) : PySem.W.kitOne K (.type (tyD d)) (.type "tuple") = some (isTy "tuple" d) := by cases d <;> rfl
theorem kit_list' (K : PySem.W.Frag) (d : D) : PySem.W.kitOne K (.type (tyD d)) (.type "list") = some (isTy "list" d) := by cases d <;> rfl
theorem kit_bool' (K : PySem.W.Frag) (d : D) : PySem.W.kitOne K (.type (tyD d)) (.type "bool") = some (isTy "bool" d) := by cases d <;> rfl
theorem kit_int' (K : PySem.W.Frag) (d : D) : PySem.W.kitOne K (.type (tyD d)) (.type "int") = some (isTy "int" d) := by cases d <;> rfl
/-! slices -/
def dSl (lo hi : Option Int) (d : D) : M D := match d with
  | .lst ds => .ok (.lst ((ds.drop (HT.sIx ds.length 0 lo)).take (HT.sIx ds.length ds.length hi - HT.sIx ds.length 0 lo)))
  | _ => .bad
theorem opd_sl {K : PySem.W.Frag} {lo hi : Option Int} {d : D} {v : V} {Q : VK} (ht : ∀ a, P a → Trk H a) (hv : Has K (del H P) v d) (h : gV K WX P H Q (dSl lo hi d)) : rSlL K v lo hi H Q := by
  unfold dSl at h
  split at h
  · cases hv with
    | lst hs hl =>
      refine ⟨_, _, rfl, hs.undel, fun p hn => h _ _ (same_new hn _) (.lst (.of (new_del hn ht)) ?_)⟩
      unfold cutV
      rw [hl.length]
      exact ((hl.drop _).take _).mono (same_new hn _).del
  · exact h.elim
def DO (X : Cx) (WX : Str → Hp → Prop) (c : Bool) (e : Option Expr) (f : Rho → M (Option Int)) : Prop :=
  ∃ t, PO X e t ∧ ∀ P0 P σ H Q ρ, EnvP X.K P0 P H σ ρ → (match f ρ with | .ok o => ∀ H', Same H H' → Q o H' | .ex x => ∀ H', Same H H' → WX x H' | .bad => False) → t σ H Q
theorem do_none : DO X WX c none (fun _ => .ok none) := ⟨_, po_none, fun P0 P σ H Q ρ E h => h H (Same.refl H)⟩
def asI (d : D) : M (Option Int) := match d with | .int i => .ok (some i) | _ => .bad
theorem do_some (ha : DE X WX c e f) : DO X WX c (some e) (fun ρ => (f ρ).bind asI) := by
  obtain ⟨ta, a1, a2⟩ := ha
  refine ⟨_, po_some a1, fun P0 P σ H Q ρ E h => ?_⟩
  dsimp only at h
  refine a2 P0 P σ H _ ρ E ?_
  cases q : f ρ with
  | bad => rw [q] at h; exact h
  | ex x => rw [q] at h; exact h
  | ok d =>
    rw [q] at h
    cases d with
    | int i => exact fun v H1 s1 hv => ⟨i, hv.int_inv, h H1 s1⟩
    | _ => exact h.elim
theorem de_slice {lo hi : Option Expr} {fl' fh : Rho → M (Option Int)} {p2 : Pos} (ha : DE X WX c e f) (hl : DO X WX c lo fl') (hh : DO X WX c hi fh) : DE X WX c (.Subscript e (.Slice lo hi none p2) pos) (fun ρ => (f ρ).bind fun d => (fl' ρ).bind fun l => (fh ρ).bind fun u => dSl l u d) := by
  obtain ⟨ta, a1, a2⟩ := ha
  obtain ⟨tl, l1, l2⟩ := hl
  obtain ⟨th, h1, h2⟩ := hh
  refine ⟨_, pe_slice sl_list a1 l1 h1, fun P0 P σ H Q ρ E h => ?_⟩
  dsimp only at h
  refine a2 P0 P σ H _ ρ E ?_
  cases q : f ρ with
  | bad => rw [q] at h; exact h
  | ex x => rw [q] at h; exact h
  | ok d =>
    rw [q] at h
    intro v H1 s1 hv
    refine l2 P0 P σ H1 _ ρ (E.same s1) ?_
    cases q2 : fl' ρ with
    | bad => rw [q2] at h; exact h
    | ex y => rw [q2] at h; exact gV.same (m := .ex y) h s1
    | ok l =>
      rw [q2] at h
      intro H2 s2
      refine h2 P0 P σ H2 _ ρ ((E.same s1).same s2) ?_
      cases q3 : fh ρ with
      | bad => rw [q3] at h; exact h
      | ex y => rw [q3] at h; exact gV.same (gV.same (m := .ex y) h s1) s2
      | ok u =>
        rw [q3] at h
        intro H3 s3
        exact opd_sl (fun a q => (((E.same s1).same s2).same s3).lvt c a q) ((hv.mono s2.del).mono s3.del) (((gV.same h s1).same s2).same s3)
end
end L2

set_option Elab.async false
set_option linter.all false
set_option maxRecDepth 100000
namespace L2
open PySem PySem.Spec PyProof.Rows

inductive Out where
  | ret (d : D) | next (ρ : Rho) | brk (ρ : Rho) | cont (ρ : Rho)
/-- what stays over a statement: all that is not one's own -/
def Tr (P0 P : Addr → Prop) (H : Hp) (P' : Addr → Prop) (H' : Hp) : Prop := Same (del H P) (del H' P') ∧ ∀ a, P0 a → H' a = H a
theorem Tr.refl {P0 P : Addr → Prop} {H : Hp} : Tr P0 P H P H := ⟨Same.refl _, fun _ _ => rfl⟩
theorem Tr.trans {P0 P P1 P2 : Addr → Prop} {H H1 H2 : Hp} (a : Tr P0 P H P1 H1) (b : Tr P0 P1 H1 P2 H2) : Tr P0 P H P2 H2 := ⟨a.1.trans b.1, fun x h => (b.2 x h).trans (a.2 x h)⟩
theorem EnvP.tr {K : PySem.W.Frag} {P0 P : Addr → Prop} {H H' : Hp} {σ : St} {ρ : Rho} (E : EnvP K P0 P H σ ρ) (e : Same H H') : Tr P0 P H P H' :=
  ⟨e.del, fun a h => by obtain ⟨o, q, _⟩ := E.trk a (E.sub a h); rw [e a o q, q]⟩
def gS (K : PySem.W.Frag) (WX : Str → Hp → Prop) (P0 P : Addr → Prop) (H : Hp) (Z : Ends) : M Out → Prop
  | .ok (.ret d) => ∀ v H' P', Tr P0 P H P' H' → Has K (del H' P0) v d → Z.rt v H'
  | .ok (.next ρ) => ∀ σ' H' P', Tr P0 P H P' H' → EnvP K P0 P' H' σ' ρ → Z.nx σ' H'
  | .ok (.brk ρ) => ∀ σ' H' P', Tr P0 P H P' H' → EnvP K P0 P' H' σ' ρ → Z.bk σ' H'
  | .ok (.cont ρ) => ∀ σ' H' P', Tr P0 P H P' H' → EnvP K P0 P' H' σ' ρ → Z.ct σ' H'
  | .ex x => ∀ H' P', Tr P0 P H P' H' → WX x H'
  | .bad => False
theorem gS.tr {K : PySem.W.Frag} {WX : Str → Hp → Prop} {P0 P P' : Addr → Prop} {H H' : Hp} {Z : Ends} {m : M Out} (h : gS K WX P0 P H Z m) (t : Tr P0 P H P' H') : gS K WX P0 P' H' Z m := by
  cases m with
  | bad => exact h
  | ex x => exact fun H2 P2 t2 => h H2 P2 (t.trans t2)
  | ok o =>
    cases o with
    | ret d => exact fun v H2 P2 t2 hv => h v H2 P2 (t.trans t2) hv
    | next ρ => exact fun σ2 H2 P2 t2 hv => h σ2 H2 P2 (t.trans t2) hv
    | brk ρ => exact fun σ2 H2 P2 t2 hv => h σ2 H2 P2 (t.trans t2) hv
    | cont ρ => exact fun σ2 H2 P2 t2 hv => h σ2 H2 P2 (t.trans t2) hv
def DS (X : Cx) (WX : Str → Hp → Prop) (st : Stmt) (g : Rho → M Out) : Prop :=
  ∃ t, PS X st t ∧ ∀ P0 P σ H Z ρ, EnvP X.K P0 P H σ ρ → gS X.K WX P0 P H Z (g ρ) → t Z σ H
def DSs (X : Cx) (WX : Str → Hp → Prop) (st : List Stmt) (g : Rho → M Out) : Prop :=
  ∃ t, PSs X st t ∧ ∀ P0 P σ H Z ρ, EnvP X.K P0 P H σ ρ → gS X.K WX P0 P H Z (g ρ) → t Z σ H
def seqM (m : M Out) (k : Rho → M Out) : M Out := match m with
  | .ok (.next ρ) => k ρ
  | m => m
@[simp] theorem seqM_next (ρ : Rho) (k : Rho → M Out) : seqM (.ok (.next ρ)) k = k ρ := rfl
@[simp] theorem seqM_ret (d : D) (k : Rho → M Out) : seqM (.ok (.ret d)) k = .ok (.ret d) := rfl
section
variable {X : Cx} {WX : Str → Hp → Prop} {c : Bool} {P0 P : Addr → Prop} {H : Hp} {σ : St} {ρ : Rho} {a b e : Expr} {f g : Rho → M D} {ft gt : Rho → M Bool} {pos : Pos} {st : Stmt} {rest : List Stmt} {g1 g2 : Rho → M Out}
theorem dss_nil : DSs X WX [] (fun ρ => .ok (.next ρ)) := ⟨_, pss_nil, fun P0 P σ H Z ρ E h => h σ H P Tr.refl E⟩
theorem dss_one (h : DS X WX st g1) : DSs X WX [st] g1 := let ⟨t, h1, h2⟩ := h; ⟨_, pss_one h1, h2⟩
theorem dss_cons (h : DS X WX st g1) (hr : DSs X WX rest g2) : DSs X WX (st :: rest) (fun ρ => seqM (g1 ρ) g2) := by
  obtain ⟨t, h1, h2⟩ := h
  obtain ⟨u, r1, r2⟩ := hr
  refine ⟨_, pss_cons h1 r1, fun P0 P σ H Z ρ E h => ?_⟩
  dsimp only at h
  refine h2 P0 P σ H { Z with nx := u Z } ρ E ?_
  cases q : g1 ρ with
  | bad => rw [q] at h; exact h
  | ex x => rw [q] at h; exact h
  | ok o =>
    rw [q] at h
    cases o with
    | ret d => exact h
    | brk d => exact h
    | cont d => exact h
    | next ρ' => exact fun σ' H' P' t E' => r2 P0 P' σ' H' Z ρ' E' (gS.tr h t)
theorem ds_pass : DS X WX (.Pass pos) (fun ρ => .ok (.next ρ)) := ⟨_, ps_pass, fun P0 P σ H Z ρ E h => h σ H P Tr.refl E⟩
theorem ds_break : DS X WX (.Break pos) (fun ρ => .ok (.brk ρ)) := ⟨_, ps_break, fun P0 P σ H Z ρ E h => h σ H P Tr.refl E⟩
theorem ds_continue : DS X WX (.Continue pos) (fun ρ => .ok (.cont ρ)) := ⟨_, ps_continue, fun P0 P σ H Z ρ E h => h σ H P Tr.refl E⟩
theorem ds_ret (ha : DE X WX false e f) : DS X WX (.Return (some e) pos) (fun ρ => (f ρ).bind fun d => .ok (.ret d)) := by
  obtain ⟨ta, a1, a2⟩ := ha
  refine ⟨_, ps_ret a1, fun P0 P σ H Z ρ E h => ?_⟩
  dsimp only at h
  refine a2 P0 P σ H _ ρ E ?_
  cases q : f ρ with
  | bad => rw [q] at h; exact h
  | ex x => rw [q] at h; exact fun H' s => h H' P (E.tr s)
  | ok d => rw [q] at h; exact fun v H' s hv => h v H' P (E.tr s) hv
theorem ds_retN : DS X WX (.Return none pos) (fun ρ => .ok (.ret .non)) := ⟨_, ps_retN, fun P0 P σ H Z ρ E h => h _ H P Tr.refl .non⟩
theorem ds_if {c : Expr} {sa sb : List Stmt} (hc : DT X WX c ft) (ha : DSs X WX sa g1) (hb : DSs X WX sb g2) : DS X WX (.If c sa sb pos) (fun ρ => (ft ρ).bind fun k => if k = true then g1 ρ else g2 ρ) := by
  obtain ⟨tc, c1, c2⟩ := hc
  obtain ⟨ta, a1, a2⟩ := ha
  obtain ⟨tb, b1, b2⟩ := hb
  refine ⟨_, ps_if c1 a1 b1, fun P0 P σ H Z ρ E h => ?_⟩
  dsimp only at h
  refine c2 P0 P σ H _ ρ E ?_
  cases q : ft ρ with
  | bad => rw [q] at h; exact h
  | ex x => rw [q] at h; exact fun H' s => h H' P (E.tr s)
  | ok k =>
    rw [q] at h
    intro H1 s1
    cases k with
    | true =>
      simp only [M.bind_ok, if_true] at h ⊢
      exact a2 P0 P σ H1 Z ρ (E.same s1) (h.tr (E.tr s1))
    | false =>
      simp only [M.bind_ok, Bool.false_eq_true, if_false] at h ⊢
      exact b2 P0 P σ H1 Z ρ (E.same s1) (h.tr (E.tr s1))
/-! stores -/
theorem get_set {α : Type} {l : List α} {i j : Nat} {x y : α} (h : (l.set i x)[j]? = some y) : (i = j ∧ i < l.length ∧ x = y) ∨ (i ≠ j ∧ l[j]? = some y) := by
  by_cases e : i = j
  · subst e
    rw [List.getElem?_set_self'] at h
    cases q : l[i]? with
    | none => rw [q] at h; cases h
    | some z =>
      rw [q] at h
      exact .inl ⟨rfl, (List.getElem?_eq_some_iff.mp q).1, by simpa using h⟩
  · rw [List.getElem?_set_ne e] at h
    exact .inr ⟨e, h⟩
theorem EnvP.setv {K : PySem.W.Frag} (E : EnvP K P0 P H σ ρ) {i : Nat} {v : V} {d : D} (hv : Has K (del H P) v d) : EnvP K P0 P H (σ.set i (some v)) (ρ.set i (some (.val d))) := by
  have gs : ∀ {j : Nat}, i ≠ j → (σ.set i (some v))[j]? = σ[j]? := fun h => List.getElem?_set_ne h
  refine ⟨E.sub, E.trk, fun j e h => ?_, fun j c h io => ?_, fun j k c c' u u' fp fp' h1 h2 h3 h4 h5 h6 hne => ?_, by rw [List.length_set, List.length_set]; exact E.len⟩
  · rcases get_set h with ⟨rfl, hl, e1⟩ | ⟨hne, h⟩
    · cases e1
      exact ⟨v, List.getElem?_set_self (by rw [E.len]; exact hl), hv⟩
    · obtain ⟨w, h1, h2⟩ := E.val j e h
      exact ⟨w, by rw [gs hne]; exact h1, h2⟩
  · rcases get_set h with ⟨rfl, hl, e1⟩ | ⟨hne, h⟩
    · cases e1; cases io
    · obtain ⟨w, fp, h1, h2⟩ := E.ows j c h io
      exact ⟨w, fp, by rw [gs hne]; exact h1, h2⟩
  · rcases get_set h1 with ⟨rfl, hl, e1⟩ | ⟨hn1, h1⟩
    · cases e1; exact h5.elim
    · rcases get_set h2 with ⟨rfl, hl, e1⟩ | ⟨hn2, h2⟩
      · cases e1; exact h6.elim
      · rw [gs hn1] at h3
        rw [gs hn2] at h4
        exact E.apart j k c c' u u' fp fp' h1 h2 h3 h4 h5 h6 hne
/-- a name gets a thing of its own, in a later heap where the others' things stay -/
theorem EnvP.putO {K : PySem.W.Frag} (E : EnvP K P0 P H σ ρ) {P' : Addr → Prop} {H' : Hp} {i : Nat} {v : V} {c : Cl} {fp : List Addr} (hs : ∀ a, P a → P' a) (ht : ∀ a, P' a → Trk H' a) (sm : Same (del H P) (del H' P'))
    (keep : ∀ (j : Nat) c' v' fp', i ≠ j → ρ[j]? = some (some c') → σ[j]? = some (some v') → OwH K H P c' v' fp' → ∀ a ∈ fp', H' a = H a ∧ a ∉ fp)
    (new : OwH K H' P' c v fp) (hp : ∀ a ∈ fp, P' a ∧ ¬ P0 a) (nd : fp.Nodup) : EnvP K P0 P' H' (σ.set i (some v)) (ρ.set i (some c)) := by
  have gs : ∀ {j : Nat}, i ≠ j → (σ.set i (some v))[j]? = σ[j]? := fun h => List.getElem?_set_ne h
  refine ⟨fun a h => hs a (E.sub a h), ht, fun j e h => ?_, fun j c' h io => ?_, fun j k c1 c2 u u' fp1 fp2 h1 h2 h3 h4 h5 h6 hne => ?_, by rw [List.length_set, List.length_set]; exact E.len⟩
  · rcases get_set h with ⟨rfl, hl, e1⟩ | ⟨hne, h⟩
    · cases e1; exact new.elim
    · obtain ⟨w, h1, h2⟩ := E.val j e h
      exact ⟨w, by rw [gs hne]; exact h1, h2.mono sm⟩
  · rcases get_set h with ⟨rfl, hl, e1⟩ | ⟨hne, h⟩
    · cases e1
      exact ⟨v, fp, List.getElem?_set_self (by rw [E.len]; exact hl), new, hp, nd⟩
    · obtain ⟨w, fq, h1, h2, h3, h4⟩ := E.ows j c' h io
      exact ⟨w, fq, by rw [gs hne]; exact h1, h2.move sm fun a ha => (keep j c' w fq hne h h1 h2 a ha).1, fun a ha => ⟨hs a (h3 a ha).1, (h3 a ha).2⟩, h4⟩
  · have back : ∀ (l : Nat) (d : Cl) (w : V) (fq : List Addr), i ≠ l → ρ[l]? = some (some d) → σ[l]? = some (some w) → OwH K H' P' d w fq → ∃ fr, OwH K H P d w fr ∧ fr = fq := fun l d w fq hn hk sk ho => by
      have io : isOw d = true := by cases d <;> first | rfl | exact ho.elim
      obtain ⟨w', fp2, s2, o2, _⟩ := E.ows l d hk io
      rw [sk] at s2; cases s2
      exact ⟨fp2, o2, (o2.move sm fun a ha => (keep l d w fp2 hn hk sk o2 a ha).1).uniq ho⟩
    rcases get_set h1 with ⟨rfl, hl, e1⟩ | ⟨hn1, h1⟩
    · cases e1
      rw [List.getElem?_set_self (by rw [E.len]; exact hl)] at h3
      cases h3
      rcases get_set h2 with ⟨e, _⟩ | ⟨hn2, h2⟩
      · exact (hne e).elim
      · rw [gs hn2] at h4
        obtain ⟨fr, o, rfl⟩ := back k c2 u' fp2 hn2 h2 h4 h6
        intro a ha hb
        rw [new.uniq h5] at keep
        exact (keep k c2 u' fr hn2 h2 h4 o a hb).2 ha
    · rw [gs hn1] at h3
      obtain ⟨fr, o, rfl⟩ := back j c1 u fp1 hn1 h1 h3 h5
      rcases get_set h2 with ⟨rfl, hl, e1⟩ | ⟨hn2, h2⟩
      · cases e1
        rw [List.getElem?_set_self (by rw [E.len]; exact hl)] at h4
        cases h4
        intro a ha
        rw [new.uniq h6] at keep
        exact (keep j c1 u fr hn1 h1 h3 o a ha).2
      · rw [gs hn2] at h4
        obtain ⟨fr2, o2, rfl⟩ := back k c2 u' fp2 hn2 h2 h4 h6
        exact E.apart j k c1 c2 u u' fr fr2 h1 h2 h3 h4 o o2 hne
/-- a new list of one's own -/
theorem EnvP.newo {K : PySem.W.Frag} (E : EnvP K P0 P H σ ρ) {i p : Nat} {xs : List V} {ds : List D} (hp : H p = none) (hx : HasL K (del H P) xs ds) :
    EnvP K P0 (fun a => P a ∨ a = p) (upd H p (.lst xs)) (σ.set i (some (.ref p))) (ρ.set i (some (.own ds))) ∧ Tr P0 P H (fun a => P a ∨ a = p) (upd H p (.lst xs)) := by
  have nP : ¬ P p := fun z => (E.trk p z).no hp
  have sm : Same (del H P) (del (upd H p (.lst xs)) (fun a => P a ∨ a = p)) := fun b o e => by
    obtain ⟨h1, h2⟩ := del_some e
    have hb : b ≠ p := ne_of_none h2 hp
    rw [del_of (fun z => z.elim h1 hb), upd_ne hb]; exact h2
  refine ⟨E.putO (fp := [p]) (fun a h => .inl h) (fun a h => ?_) sm (fun j c' v' fp' hne h1 h2 h3 a ha => ?_) ⟨p, xs, rfl, rfl, upd_same, hx.mono sm⟩ (fun a ha => ?_) (by simp), sm, fun a h => ?_⟩
  · by_cases ha : a = p
    · subst ha; exact Trk.lst upd_same
    · rcases h with h | h
      · unfold Trk; rw [upd_ne ha]; exact E.trk a h
      · exact absurd h ha
  · obtain ⟨ys, q⟩ := h3.at a ha
    have hn : a ≠ p := ne_of_none q hp
    exact ⟨upd_ne hn, fun z => hn (List.mem_singleton.mp z)⟩
  · rw [List.mem_singleton.mp ha]
    exact ⟨.inr rfl, fun z => nP (E.sub p z)⟩
  · rw [upd_ne (fun z => nP (by rw [← z]; exact E.sub a h))]
theorem set_at {α : Type} : ∀ {l : List α} {i : Nat} {x : α}, l[i]? = some x → l.set i x = l
  | [], _, _, h => by cases h
  | y :: r, 0, x, h => by cases h; rfl
  | y :: r, i + 1, x, h => by rw [List.set_cons_succ, set_at (by simpa using h)]
/-- one's own list gets other contents -/
theorem EnvP.mut {K : PySem.W.Frag} (E : EnvP K P0 P H σ ρ) {i p : Nat} {xs : List V} {ds ds' : List D} (ho : ρ[i]? = some (some (.own ds))) (hs : σ[i]? = some (some (.ref p))) (pP : P p) (nP0 : ¬ P0 p) (hx : HasL K (del H P) xs ds') :
    EnvP K P0 P (upd H p (.lst xs)) σ (ρ.set i (some (.own ds'))) ∧ Tr P0 P H P (upd H p (.lst xs)) := by
  have sd : del (upd H p (.lst xs)) P = del H P := by
    funext b
    by_cases hb : P b
    · rw [del_in hb, del_in hb]
    · rw [del_of hb, del_of hb, upd_ne (fun z => hb (by rw [z]; exact pP))]
  have sm : Same (del H P) (del (upd H p (.lst xs)) P) := by rw [sd]; exact Same.refl _
  obtain ⟨v, fp, s1, o1, _⟩ := E.ows i _ ho rfl
  rw [hs] at s1; cases s1
  have key := E.putO (P' := P) (H' := upd H p (.lst xs)) (i := i) (v := .ref p) (c := .own ds') (fp := [p]) (fun a h => h) (fun a h => ?_) sm (fun j c' v' fp' hne h1 h2 h3 a ha => ?_) ⟨p, xs, rfl, rfl, upd_same, by rw [sd]; exact hx⟩ (fun a ha => by rw [List.mem_singleton.mp ha]; exact ⟨pP, nP0⟩) (by simp)
  · rw [set_at hs] at key
    exact ⟨key, sm, fun a h => by rw [upd_ne (fun z => nP0 (by rw [← z]; exact h))]⟩
  · by_cases ha : a = p
    · subst ha; exact Trk.lst upd_same
    · unfold Trk; rw [upd_ne ha]; exact E.trk a h
  · obtain ⟨p', xs', e, rfl, _⟩ := o1
    cases e
    have hn : a ≠ p := fun z => E.apart j i c' _ v' _ fp' [p] h1 ho h2 hs h3 ⟨p, xs', rfl, rfl, by assumption⟩ (Ne.symm hne) a ha (by rw [z]; exact List.mem_singleton.mpr rfl)
    exact ⟨upd_ne hn, fun z => hn (List.mem_singleton.mp z)⟩
/-- one's own list grows -/
theorem EnvP.grow {K : PySem.W.Frag} (E : EnvP K P0 P H σ ρ) {i p : Nat} {xs : List V} {ds : List D} {v : V} {d : D} (ho : ρ[i]? = some (some (.own ds))) (hs : σ[i]? = some (some (.ref p))) (hp : H p = some (.lst xs)) (pP : P p) (nP0 : ¬ P0 p) (hx : HasL K (del H P) xs ds) (hv : Has K (del H P) v d) :
    EnvP K P0 P (upd H p (.lst (xs ++ [v]))) σ (ρ.set i (some (.own (ds ++ [d])))) ∧ Tr P0 P H P (upd H p (.lst (xs ++ [v]))) := E.mut ho hs pP nP0 (hx.snoc hv)
/-- name = e -/
theorem ds_set (i : Nat) {x : Str} {pos' : Pos} (hN : X.N.Nodup) (hi : X.N[i]? = some x) (hx : Loc X.env.scope x) (ha : DE X WX true e f) (hs : swapsWith e (some (.Name x pos')) pos.line X.env = pure false := by rfl) (hf : X.fn x = true ∨ X.env.scope.names.lookup x = some .local := by first | exact .inl rfl | exact .inr rfl | assumption) :
    DS X WX (.Assign [.Name x pos'] e pos) (fun ρ => (f ρ).bind fun d => .ok (.next (ρ.set i (some (.val d))))) := by
  obtain ⟨ta, a1, a2⟩ := ha
  refine ⟨_, ps_set hN hi hx a1 hs hf, fun P0 P σ H Z ρ E h => ?_⟩
  dsimp only at h
  refine a2 P0 P σ H _ ρ E ?_
  cases q : f ρ with
  | bad => rw [q] at h; exact h
  | ex x => rw [q] at h; exact fun H' s => h H' P (E.tr s)
  | ok d => rw [q] at h; exact fun v H' s hv => h _ H' P (E.tr s) ((E.same s).setv hv)
/-- name = [..], a list of one's own -/
theorem ds_new (i : Nat) {x : Str} {pos' lpos : Pos} {es : List Expr} {fs : Rho → M (List D)} (hN : X.N.Nodup) (hi : X.N[i]? = some x) (hx : Loc X.env.scope x) (ha : DA X WX true es fs) (hs : swapsWith (.List es lpos) (some (.Name x pos')) pos.line X.env = pure false := by rfl) (hf : X.fn x = true ∨ X.env.scope.names.lookup x = some .local := by first | exact .inl rfl | exact .inr rfl | assumption) :
    DS X WX (.Assign [.Name x pos'] (.List es lpos) pos) (fun ρ => (fs ρ).bind fun ds => if ds.length ≤ 1000 then .ok (.next (ρ.set i (some (.own ds)))) else .bad) := by
  obtain ⟨ta, a1, a2, a3⟩ := ha
  refine ⟨_, ps_set hN hi hx (pe_lst a1) hs hf, fun P0 P σ H Z ρ E h => ?_⟩
  dsimp only at h
  refine a2 P0 P σ H _ ρ E ?_
  cases q : fs ρ with
  | bad => rw [q] at h; exact h
  | ex x => rw [q] at h; exact fun H' s => h H' P (E.tr s)
  | ok ds =>
    rw [q] at h
    simp only [M.bind_ok] at h
    by_cases hd : ds.length ≤ 1000
    · rw [if_pos hd] at h
      intro vs H1 s1 hvs
      refine ⟨Nat.le_of_lt (small1000 (by rw [hvs.length]; exact hd)), fun p hp => ?_⟩
      obtain ⟨E2, t2⟩ := (E.same s1).newo (i := i) hp hvs
      exact h _ _ _ ((E.tr s1).trans t2) E2
    · rw [if_neg hd] at h; exact h.elim
/-- name.append(e) of one's own list -/
def appM (i : Nat) (ρ : Rho) (m : M D) : M Out := match ρ[i]? with
  | some (some (.own ds)) => m.bind fun d => if ds.length < 1000 then .ok (.next (ρ.set i (some (.own (ds ++ [d]))))) else .bad
  | _ => .bad
theorem ds_append (i : Nat) {x : Str} {p1 apos cpos : Pos} (hv : PE X (.Name x p1) (tVar i)) (ha : DE X WX true e f) (hs : starEach [e] X.env = [(false, eval e X.env)] := by rfl)
    (hsw : swapsWith (.Call (.Attribute (.Name x p1) "append" apos) [e] [] cpos) none pos.line X.env = pure false := by rfl)
    (hbase : attributeBase (.Name x p1) "append" X.env (eval (.Name x p1) X.env) = eval (.Name x p1) X.env := by rfl)
    (hfew : ((backTo cpos (starEach [e] X.env)).all (fun x => !x.1) && (backToKw cpos (keywordEach [] X.env)).all (fun x => x.1.isSome) && decide (([e] : List Expr).length + ([] : List Keyword).length + (if ([] : List Keyword).isEmpty then 0 else 1) < 30)) = true := by rfl)
    (hline : (apos.endLine == cpos.line) = true := by rfl) (hplain : (backTo cpos (starEach [] X.env)).any (·.1) = false := by rfl) :
    DS X WX (.Expr (.Call (.Attribute (.Name x p1) "append" apos) [e] [] cpos) pos) (fun ρ => appM i ρ (f ρ)) := by
  obtain ⟨ta, a1, a2⟩ := ha
  refine ⟨_, ps_expr (pe_bm PySem.F.plainAttrs_list PySem.F.slot_list_append PySem.F.type_list_append mt_append hv (pa_cons a1 pa_nil hs) hbase hfew hline hs hplain) hsw, fun P0 P σ H Z ρ E h => ?_⟩
  dsimp only at h
  unfold appM at h
  split at h
  · rename_i ds e1
    obtain ⟨p, xs, h1, h2, h3, h4, h5⟩ := E.own i ds e1
    refine ⟨_, h1, .inl ⟨rfl, xs, .of h2⟩, ?_⟩
    refine a2 P0 P σ H _ ρ E ?_
    cases q : f ρ with
    | bad => rw [q] at h; exact h
    | ex y => rw [q] at h; exact fun H' s => h H' P (E.tr s)
    | ok d =>
      rw [q] at h
      simp only [M.bind_ok] at h
      by_cases hl : ds.length < 1000
      · rw [if_pos hl] at h
        intro v H1 s1 hv
        have E1 := E.same s1
        have h2' : H1 p = some (.lst xs) := s1 _ _ h2
        refine ⟨p, xs, v, rfl, rfl, h2', small1000 (by rw [h5.length]; omega), ?_⟩
        obtain ⟨E2, t2⟩ := E1.grow e1 h1 h2' h3 h4 (h5.mono s1.del) hv
        exact h _ _ _ ((E.tr s1).trans t2) E2
      · rw [if_neg hl] at h; exact h.elim
  · exact h.elim
/-- an expression whose worth is dropped -/
theorem ds_expr (ha : DE X WX c e f) (hs : swapsWith e none pos.line X.env = pure false := by rfl) : DS X WX (.Expr e pos) (fun ρ => (f ρ).bind fun _ => .ok (.next ρ)) := by
  obtain ⟨ta, a1, a2⟩ := ha
  refine ⟨_, ps_expr a1 hs, fun P0 P σ H Z ρ E h => ?_⟩
  dsimp only at h
  refine a2 P0 P σ H _ ρ E ?_
  cases q : f ρ with
  | bad => rw [q] at h; exact h
  | ex x => rw [q] at h; exact fun H' s => h H' P (E.tr s)
  | ok d => rw [q] at h; exact fun v H' s hv => h _ H' P (E.tr s) (E.same s)
end
end L2

set_option Elab.async false
set_option linter.all false
set_option maxRecDepth 100000
namespace L2
open PySem PySem.Spec PyProof.Rows

/-! ### targets -/
def gG (K : PySem.W.Frag) (P0 P : Addr → Prop) (H : Hp) (Q : St → Hp → Prop) : M Rho → Prop
  | .ok ρ => ∀ σ', EnvP K P0 P H σ' ρ → Q σ' H
  | _ => False
def DG (X : Cx) (tg : Expr) (gt : D → Rho → M Rho) : Prop :=
  ∃ g : TG, PG X tg g ∧ ∀ P0 P σ H Q ρ v d, EnvP X.K P0 P H σ ρ → Has X.K (del H P) v d → gG X.K P0 P H Q (gt d ρ) → g v σ H Q
def DGs (X : Cx) (tgs : List Expr) (gt : List D → Rho → M Rho) : Prop :=
  ∃ g : TGs, PGs X tgs g ∧ ∀ P0 P σ H Q ρ v d, EnvP X.K P0 P H σ ρ → HasL X.K (del H P) v d → gG X.K P0 P H Q (gt d ρ) → g v σ H Q
/-! ### iterators -/
structure ItOk (K : PySem.W.Frag) (J : It) (P : Addr → Prop) (H : Hp) (ds : List D) : Prop where
  go : ∀ (i : Nat) P' H', Same (del H P) (del H' P') → i < ds.length → J.go i H'
  stop : ∀ (i : Nat) P' H', Same (del H P) (del H' P') → ds.length ≤ i → J.stop i H'
  yld : ∀ (i : Nat) P' H' v H'' d, Same (del H P) (del H' P') → (∀ a, P' a → Trk H' a) → ds[i]? = some d → J.yld i H' v H'' → Same H' H'' ∧ Has K (del H'' P') v d
def DI (X : Cx) (WX : Str → Hp → Prop) (tg iter : Expr) (f : Rho → M (List D)) : Prop :=
  ∃ wi, PI X tg iter wi ∧ ∀ P0 P σ H R ρ, EnvP X.K P0 P H σ ρ → (match f ρ with | .ok ds => ∀ J H', Same H H' → ItOk X.K J P H' ds → R J H' | .ex x => ∀ H', Same H H' → WX x H' | .bad => False) → wi σ H R
def forM (gt : D → Rho → M Rho) (body : Rho → M Out) : List D → Rho → M Out
  | [], ρ => .ok (.next ρ)
  | d :: r, ρ => match gt d ρ with
    | .ok ρ1 => (match body ρ1 with
      | .ok (.next ρ2) => forM gt body r ρ2
      | .ok (.cont ρ2) => forM gt body r ρ2
      | .ok (.brk ρ2) => .ok (.next ρ2)
      | m => m)
    | _ => .bad
section
variable {X : Cx} {WX : Str → Hp → Prop} {c : Bool} {P0 P : Addr → Prop} {H : Hp} {σ : St} {ρ : Rho} {a b e tg iter : Expr} {f g : Rho → M D} {ft : Rho → M Bool} {pos : Pos} {gt : D → Rho → M Rho} {gts : List D → Rho → M Rho} {gb : Rho → M Out} {fi : Rho → M (List D)}
theorem dg_name (i : Nat) {x : Str} (hN : X.N.Nodup) (hi : X.N[i]? = some x) (hx : Loc X.env.scope x) (hf : X.fn x = true ∨ X.env.scope.names.lookup x = some .local := by first | exact .inl rfl | exact .inr rfl | assumption) : DG X (.Name x pos) (fun d ρ => .ok (ρ.set i (some (.val d)))) :=
  ⟨_, pg_name hN hi hx hf, fun P0 P σ H Q ρ v d E hv h => h _ (E.setv hv)⟩
theorem dgs_nil : DGs X [] (fun ds ρ => match ds with | [] => .ok ρ | _ => .bad) := ⟨_, pgs_nil, fun P0 P σ H Q ρ v d E hv h => by
  cases hv with
  | nil => exact ⟨rfl, h σ E⟩
  | cons _ _ => exact h.elim⟩
theorem dgs_cons {es : List Expr} (h1 : DG X e gt) (h2 : DGs X es gts) (hs : (assignEach (e :: es) X.env).map (·.2) = assign e X.env :: (assignEach es X.env).map (·.2) := by rfl) :
    DGs X (e :: es) (fun ds ρ => match ds with | d :: r => (gt d ρ).bind (gts r) | [] => .bad) := by
  obtain ⟨t, a1, a2⟩ := h1
  obtain ⟨u, b1, b2⟩ := h2
  refine ⟨_, pgs_cons a1 b1 hs, fun P0 P σ H Q ρ v d E hv h => ?_⟩
  cases hv with
  | nil => exact h.elim
  | @cons x d xs ds hx hxs =>
    refine ⟨x, xs, rfl, a2 P0 P σ H _ ρ x d E hx ?_⟩
    dsimp only at h
    cases q : gt d ρ with
    | bad => rw [q] at h; exact h
    | ex y => rw [q] at h; exact h
    | ok ρ1 => rw [q] at h; exact fun σ' E' => b2 P0 P σ' H Q ρ1 xs ds E' hxs h
theorem dg_tup {es : List Expr} {k n : Nat} (hc : X.calm = true) (h : DGs X es gts) (hn : (assignEach es X.env).length = n := by rfl) (hst : (assignEach es X.env).findIdx? (·.1) = none := by rfl) :
    DG X (.Tuple es k pos) (fun d ρ => match d with | .tup ds => if ds.length = n then gts ds ρ else .bad | _ => .bad) := by
  obtain ⟨t, a1, a2⟩ := h
  refine ⟨_, pg_tup hc a1 hn hst, fun P0 P σ H Q ρ v d E hv h => ?_⟩
  cases hv with
  | @tup a xs ds hs hl =>
    dsimp only at h
    by_cases hd : ds.length = n
    · rw [if_pos hd] at h
      exact ⟨a, xs, rfl, hs.undel, by rw [hl.length]; exact hd, a2 P0 P σ H Q ρ xs ds E hl h⟩
    · rw [if_neg hd] at h; exact h.elim
  | _ => exact h.elim
/-- target = e -/
theorem ds_asg (ha : DE X WX true e f) (hg : DG X tg gt) (hs : swapsWithSole [tg] e pos.line X.env = pure false := by rfl) (hw : swappedStores [tg] e X.env = pure none := by rfl) (h1 : (assignEach [tg] X.env).map (·.2) = [assign tg X.env] := by rfl) :
    DS X WX (.Assign [tg] e pos) (fun ρ => (f ρ).bind fun d => match gt d ρ with | .ok ρ' => .ok (.next ρ') | _ => .bad) := by
  obtain ⟨ta, a1, a2⟩ := ha
  obtain ⟨t, b1, b2⟩ := hg
  refine ⟨_, ps_asg a1 b1 hs hw h1, fun P0 P σ H Z ρ E h => ?_⟩
  dsimp only at h
  refine a2 P0 P σ H _ ρ E ?_
  cases q : f ρ with
  | bad => rw [q] at h; exact h
  | ex x => rw [q] at h; exact fun H' s => h H' P (E.tr s)
  | ok d =>
    rw [q] at h
    simp only [M.bind_ok] at h
    intro v H' s hv
    refine b2 P0 P σ H' _ ρ v d (E.same s) hv ?_
    cases q2 : gt d ρ with
    | ok ρ' => rw [q2] at h; exact fun σ' E' => h σ' H' P (E.tr s) E'
    | _ => rw [q2] at h; exact h.elim
/-! iterators -/
theorem di_list (ha : DE X WX true e f) : DI X WX tg e (fun ρ => (f ρ).bind fun d => match d with | .lst ds => .ok ds | _ => .bad) := by
  obtain ⟨ta, a1, a2⟩ := ha
  refine ⟨_, pi_list a1, fun P0 P σ H R ρ E h => ?_⟩
  dsimp only at h
  refine a2 P0 P σ H _ ρ E ?_
  cases q : f ρ with
  | bad => rw [q] at h; exact h
  | ex x => rw [q] at h; exact h
  | ok d =>
    rw [q] at h
    cases d with
    | lst ds =>
      intro v H1 s1 hv
      cases hv with
      | @lst a xs _ hs hl =>
        refine ⟨a, rfl, ⟨xs, hs.undel⟩, h _ H1 s1 ⟨fun i P' H' s hi => ?_, fun i P' H' s hi => ?_, fun i P' H' v H'' d s ht hd y => ?_⟩⟩
        · obtain ⟨x, hx, _⟩ := hl.get (List.getElem?_eq_getElem hi)
          exact ⟨xs, x, (s.seq hs).undel, hx⟩
        · exact ⟨xs, (s.seq hs).undel, by rw [hl.length]; exact hi⟩
        · obtain ⟨rfl, y⟩ := y
          obtain ⟨x, hx, hd'⟩ := hl.get hd
          have e := y xs (s.seq hs).undel
          rw [hx] at e
          cases e
          exact ⟨Same.refl _, hd'.mono s⟩
    | _ => exact h.elim
def rangeD (lo : Int) : Nat → List D
  | 0 => []
  | n + 1 => .int lo :: rangeD (lo + 1) n
theorem rangeD_len (lo : Int) : ∀ n : Nat, (rangeD lo n).length = n := by
  intro n
  induction n generalizing lo with
  | zero => rfl
  | succ n ih => rw [rangeD, List.length_cons, ih]
theorem rangeD_get {lo : Int} {n i : Nat} {d : D} (h : (rangeD lo n)[i]? = some d) : d = .int (lo + i) ∧ i < n := by
  have hi : i < n := by
    have := (List.getElem?_eq_some_iff.mp h).1
    rw [rangeD_len] at this; exact this
  refine ⟨?_, hi⟩
  induction n generalizing lo i with
  | zero => omega
  | succ n ih =>
    cases i with
    | zero => rw [rangeD] at h; simp at h; rw [← h]; simp
    | succ i =>
      rw [rangeD, List.getElem?_cons_succ] at h
      rw [ih h (by omega)]
      congr 1
      omega
theorem itok_range {K : PySem.W.Frag} {P : Addr → Prop} {H : Hp} (lo : Int) (n : Nat) : ItOk K (Itr lo n) P H (rangeD lo n) :=
  ⟨fun i P' H' _ hi => by rw [rangeD_len] at hi; exact hi, fun i P' H' _ hi => by rw [rangeD_len] at hi; exact hi, fun i P' H' v H'' d _ _ hd y => by
    obtain ⟨rfl, rfl⟩ := y
    obtain ⟨rfl, _⟩ := rangeD_get hd
    exact ⟨Same.refl _, .int _⟩⟩
/-- range over one number; the bound is asked by choice, so that no reckoning of the kernel opens it -/
noncomputable def rngM : D → M (List D)
  | .int j => @ite _ (-(2 ^ 62) ≤ j ∧ j < 2 ^ 62) (Classical.propDecidable _) (.ok (rangeD 0 j.toNat)) .bad
  | _ => .bad
theorem rngM_int {j : Int} (h1 : -(2 ^ 62) ≤ j) (h2 : j < 2 ^ 62) : rngM (.int j) = .ok (rangeD 0 j.toNat) := if_pos ⟨h1, h2⟩
theorem rngM_nat {n : Nat} (h : n ≤ 1000) : rngM (.int (n : Int)) = .ok (rangeD 0 n) := by
  rw [rngM_int (by omega) (by omega), Int.toNat_natCast]
theorem di_range1 {p : Pos} (hg : Gl X "range") (hm : X.mg "range" = none) (ha : DE X WX c a f) (hs : starEach [a] X.env = [(false, eval a X.env)] := by rfl) :
    DI X WX tg (.Call (.Name "range" p) [a] [] pos) (fun ρ => (f ρ).bind rngM) := by
  obtain ⟨ta, a1, a2⟩ := ha
  refine ⟨_, pi_range1 hg hm (pa_cons a1 pa_nil hs) hs, fun P0 P σ H R ρ E h => ?_⟩
  dsimp only at h
  refine a2 P0 P σ H _ ρ E ?_
  cases q : f ρ with
  | bad => rw [q] at h; exact h
  | ex x => rw [q] at h; exact h
  | ok d =>
    rw [q] at h
    cases d with
    | int j =>
      simp only [M.bind_ok] at h
      by_cases hj : -(2 ^ 62) ≤ j ∧ j < 2 ^ 62
      · rw [rngM_int hj.1 hj.2] at h
        exact fun v H1 s1 hv => ⟨j, by rw [hv.int_inv], hj.1, hj.2, h _ H1 s1 (itok_range 0 _)⟩
      · have e : rngM (.int j) = .bad := if_neg hj
        rw [e] at h; exact h.elim
    | _ => exact h.elim
def enumD (k : Nat) : List D → List D
  | [] => []
  | d :: r => .tup [.int k, d] :: enumD (k + 1) r
theorem enumD_len (k : Nat) (ds : List D) : (enumD k ds).length = ds.length := by
  induction ds generalizing k with
  | nil => rfl
  | cons d r ih => rw [enumD, List.length_cons, List.length_cons, ih]
theorem enumD_get {k i : Nat} {ds : List D} {e : D} (h : (enumD k ds)[i]? = some e) : ∃ d, ds[i]? = some d ∧ e = .tup [.int ((k + i : Nat) : Int), d] := by
  induction ds generalizing k i with
  | nil => rw [enumD] at h; simp at h
  | cons d r ih =>
    cases i with
    | zero => rw [enumD] at h; simp at h; exact ⟨d, rfl, by rw [← h]; rfl⟩
    | succ i =>
      rw [enumD, List.getElem?_cons_succ] at h
      obtain ⟨d', h1, h2⟩ := ih h
      refine ⟨d', by simpa using h1, ?_⟩
      rw [h2]
      congr 3
      omega
theorem di_enum {elts : List Expr} {x1} {tpos p : Pos} (hg : Gl X "enumerate") (hm : X.mg "enumerate" = none) (ha : DE X WX true a f) (hb : bootBuiltins "enumerate" = some (.type "enumerate") := by decide +kernel) (hs : starEach [a] X.env = [(false, eval a X.env)] := by rfl) :
    DI X WX (.Tuple elts x1 tpos) (.Call (.Name "enumerate" p) [a] [] pos) (fun ρ => (f ρ).bind fun d => match d with | .lst ds => .ok (enumD 0 ds) | _ => .bad) := by
  obtain ⟨ta, a1, a2⟩ := ha
  refine ⟨_, pi_enum hg hm (pa_cons a1 pa_nil hs) hb hs, fun P0 P σ H R ρ E h => ?_⟩
  dsimp only at h
  refine a2 P0 P σ H _ ρ E ?_
  cases q : f ρ with
  | bad => rw [q] at h; exact h
  | ex x => rw [q] at h; exact h
  | ok d =>
    rw [q] at h
    cases d with
    | lst ds =>
      intro v H1 s1 hv
      cases hv with
      | @lst a xs _ hs hl =>
        refine ⟨a, rfl, ⟨xs, hs.undel⟩, h _ H1 s1 ⟨fun i P' H' s hi => ?_, fun i P' H' s hi => ?_, fun i P' H' v H'' d s ht hd y => ?_⟩⟩
        · rw [enumD_len] at hi
          obtain ⟨x, hx, _⟩ := hl.get (List.getElem?_eq_getElem hi)
          exact ⟨xs, x, (s.seq hs).undel, hx⟩
        · rw [enumD_len] at hi
          exact ⟨xs, (s.seq hs).undel, by rw [hl.length]; exact hi⟩
        · obtain ⟨p, x, hn, rfl, y, rfl⟩ := y
          obtain ⟨d', hd1, rfl⟩ := enumD_get hd
          obtain ⟨x', hx, hd'⟩ := hl.get hd1
          have e := y xs (s.seq hs).undel
          rw [hx] at e
          cases e
          refine ⟨same_new hn _, .tup (.of (new_del hn ht)) (.cons ?_ (.cons ((hd'.mono s).mono (same_new hn _).del) .nil))⟩
          rw [Nat.zero_add]
          exact .int _
    | _ => exact h.elim
theorem drop_get {α : Type} {l : List α} {i : Nat} (h : i < l.length) : l.drop i = l[i] :: l.drop (i + 1) := List.drop_eq_getElem_cons h
/-- for -/
theorem ds_for {body : List Stmt} (hp : PassesOwn (model X.prog X.w) X.A X.env X.xe) (hc : X.calm = true) (hi : DI X WX tg iter fi) (hg : DG X tg gt) (hb : DSs X WX body gb) (hs : ∀ x, foldedSetIterable iter X.env x = pure x := by intro _; rfl) :
    DS X WX (.For tg iter body [] pos) (fun ρ => (fi ρ).bind fun ds => forM gt gb ds ρ) := by
  obtain ⟨wi, i1, i2⟩ := hi
  obtain ⟨t, a1, a2⟩ := hg
  obtain ⟨tb, b1, b2⟩ := hb
  refine ⟨_, ps_for hp hc i1 a1 b1 hs, fun P0 P σ H Z ρ E h => ?_⟩
  dsimp only at h
  refine i2 P0 P σ H _ ρ E ?_
  cases q : fi ρ with
  | bad => rw [q] at h; exact h
  | ex x => rw [q] at h; exact fun H' s => h H' P (E.tr s)
  | ok ds =>
    rw [q] at h
    simp only [M.bind_ok] at h
    intro J H1 s1 ok
    refine ⟨fun i m σ' H' => m = ds.length - i ∧ i ≤ ds.length ∧ ∃ P' ρ', Tr P0 P H1 P' H' ∧ EnvP X.K P0 P' H' σ' ρ' ∧ gS X.K WX P0 P' H' Z (forM gt gb (ds.drop i) ρ'),
      ⟨ds.length, by simp, Nat.zero_le _, P, ρ, Tr.refl, E.same s1, by rw [List.drop_zero]; exact h.tr (E.tr s1)⟩, ?_⟩
    rintro i m σ' H' ⟨rfl, hi, P', ρ', t', E', g'⟩
    by_cases hlt : i < ds.length
    · refine .inr ⟨ok.go i P' H' t'.1 hlt, fun σ2 H2 => i + 1 ≤ ds.length ∧ ∃ P2 ρ2, Tr P0 P H1 P2 H2 ∧ EnvP X.K P0 P2 H2 σ2 ρ2 ∧ gS X.K WX P0 P2 H2 Z (forM gt gb (ds.drop (i + 1)) ρ2), fun σ2 H2 hq => ⟨ds.length - (i + 1), by omega, rfl, hq.1, hq.2⟩, fun v H2 y => ?_⟩
      obtain ⟨s2, hv⟩ := ok.yld i P' H' v H2 ds[i] t'.1 E'.trk (List.getElem?_eq_getElem hlt) y
      rw [drop_get hlt, forM] at g'
      have E2 := E'.same s2
      refine a2 P0 P' σ' H2 _ ρ' v ds[i] E2 hv ?_
      cases q1 : gt ds[i] ρ' with
      | bad => rw [q1] at g'; exact g'
      | ex x => rw [q1] at g'; exact g'.elim
      | ok ρ1 =>
        rw [q1] at g'
        dsimp only at g'
        intro σ3 E3
        refine b2 P0 P' σ3 H2 _ ρ1 E3 ?_
        have tt : Tr P0 P H1 P' H2 := t'.trans (E'.tr s2)
        cases q2 : gb ρ1 with
        | bad => rw [q2] at g'; exact g'
        | ex x => rw [q2] at g'; exact gS.tr (m := .ex x) g' (E'.tr s2)
        | ok o =>
          rw [q2] at g'
          cases o with
          | ret d => exact gS.tr (m := .ok (.ret d)) g' (E'.tr s2)
          | next ρ2 => exact fun σ4 H4 P4 t4 E4 => ⟨hlt, P4, ρ2, tt.trans t4, E4, gS.tr g' ((E'.tr s2).trans t4)⟩
          | cont ρ2 => exact fun σ4 H4 P4 t4 E4 => ⟨hlt, P4, ρ2, tt.trans t4, E4, gS.tr g' ((E'.tr s2).trans t4)⟩
          | brk ρ2 => exact fun σ4 H4 P4 t4 E4 => g' σ4 H4 P4 ((E'.tr s2).trans t4) E4
    · have e : i = ds.length := by omega
      subst e
      refine .inl ⟨ok.stop _ P' H' t'.1 (Nat.le_refl _), ?_⟩
      rw [List.drop_length, forM] at g'
      exact g' σ' H' P' Tr.refl E'
end
end L2

set_option Elab.async false
set_option linter.all false
set_option maxRecDepth 100000
namespace L2
open PySem PySem.Spec PyProof.Rows

/-! ### defs -/
def spM0 (K : PySem.W.Frag) (n : Nat) (F : List D → M D) : Sp := fun vs H Q _ => vs.length = n ∧ ∃ P ds, (∀ a, P a → Trk H a) ∧ HasL K (del H P) vs ds ∧ gV K (fun _ _ => False) P H Q (F ds)
def stRho (N : List Str) (ds : List D) : Rho := ds.map (fun d => some (.val d)) ++ List.replicate (N.length - ds.length) none
def fin (m : M Out) : M D := match m with
  | .ok (.ret d) => .ok d
  | .ok (.next _) => .ok .non
  | _ => .bad
theorem env_start {K : PySem.W.Frag} {P : Addr → Prop} {H : Hp} {N : List Str} {vs : List V} {ds : List D} (ht : ∀ a, P a → Trk H a) (h : HasL K (del H P) vs ds) : EnvP K P P H (start N vs) (stRho N ds) := by
  have hl := h.length
  have key : ∀ (i : Nat) (c : Cl), (stRho N ds)[i]? = some (some c) → ∃ d, ds[i]? = some d ∧ c = .val d := fun i c e => by
    unfold stRho at e
    by_cases hi : i < ds.length
    · rw [List.getElem?_append_left (by simpa using hi), List.getElem?_map] at e
      cases q : ds[i]? with
      | none => rw [q] at e; cases e
      | some d => rw [q] at e; cases e; exact ⟨d, rfl, rfl⟩
    · rw [List.getElem?_append_right (by simpa using hi), List.getElem?_replicate] at e
      split at e <;> cases e
  refine ⟨fun _ h => h, ht, fun i d e => ?_, fun i es e io => ?_, fun i j c c' v v' fp fp' e _ _ _ ho _ _ => ?_, ?_⟩
  · obtain ⟨d', q, z⟩ := key i _ e
    cases z
    obtain ⟨v, hv, hd⟩ := h.get q
    refine ⟨v, ?_, hd⟩
    unfold start
    rw [List.getElem?_append_left (by rw [List.length_map]; exact (List.getElem?_eq_some_iff.mp hv).1), List.getElem?_map, hv]
    rfl
  · obtain ⟨d', q, z⟩ := key i _ e
    cases z
    cases io
  · obtain ⟨d', q, z⟩ := key i _ e
    cases z
    exact ho.elim
  · unfold start stRho
    simp [hl]
theorem tr_same {P : Addr → Prop} {H H' : Hp} {P' : Addr → Prop} (t : Tr P P H P' H') : Same H H' := fun b o e => by
  by_cases hb : P b
  · rw [t.2 b hb]; exact e
  · exact (del_some (t.1 b o (by rw [del_of hb]; exact e))).2
section
variable {P : Program} {w : World} {K : PySem.W.Frag} {mg : Str → Option Value} {base : Heap}
/-- a def without exceptions, by its body's worth -/
theorem fn_D0 {x qual : Str} {st : Stmt} {f : Addr} {fd : FuncData} {N ps : List Str} {k : Nat} (F : Fun K x qual st f fd) (S : FnScope N ps (defScope st)) (g : Rho → M Out)
    (hb : ∀ (cdv : Value) (A : Around) (outer : List Env) (s : Shared) (H : Hp) (E : XK), Room k (A.deeper (envOfC qual (defScope st) s.heap.objs.size f cdv)) → DSs (cxOf CX0 P w K mg base N qual (defScope st) f cdv A outer s H E).nox (fun _ _ => False) (defBody st) g) :
    FnOk P w K mg base CX0 (k + 1) f fd ps (spM0 K ps.length fun ds => fin (g (stRho N ds))) := by
  refine F.ok S (fun vs H Q E h => h.1) fun cdv A outer s H vs Q E hr h => ?_
  obtain ⟨hl, P', ds, ht, hv, hq⟩ := h
  obtain ⟨t, h1, h2⟩ := hb cdv A outer s H E hr
  refine ⟨t, h1, h2 P' P' _ H _ _ (env_start ht hv) ?_⟩
  dsimp only at hq
  revert hq
  cases g (stRho N ds) with
  | bad => exact fun h => h.elim
  | ex x => exact fun h => h.elim
  | ok o =>
    cases o with
    | ret d => exact fun h v H' P2 t hv => h v H' (tr_same t) hv
    | next ρ => exact fun h σ' H' P2 t E => h .non H' (tr_same t) .non
    | brk ρ => exact fun h => h.elim
    | cont ρ => exact fun h => h.elim
end
theorem fin_ne (m : M Out) (x : Str) : fin m ≠ .ex x := by
  unfold fin
  split <;> (intro h; cases h)
section
variable {X : Cx} {WX : Str → Hp → Prop} {c : Bool} {P0 P : Addr → Prop} {H : Hp} {σ : St} {ρ : Rho} {a b e tg iter : Expr} {f g : Rho → M D} {ft : Rho → M Bool} {pos : Pos} {gt : D → Rho → M Rho} {fi : Rho → M (List D)} {es : List Expr} {fs : Rho → M (List D)}
theorem de_call {CX : CXT} {k n : Nat} {fa : Addr} {fd : FuncData} {ps : List Str} {F : List D → M D} {x : Str} {p : Pos} {E : XK} (G : FnOk X.prog X.w X.K X.mg X.base CX k fa fd ps (spM0 X.K n F)) (hne : ∀ ds x, F ds ≠ .ex x) (hr : Room k X.A) (hg : Gl X x) (hm : X.mg x = some (.ref fa)) (hk : PySem.W.keepIn X.K (.ref fa) = true) (hb : Binds X.K fd ps []) (hx : Passes CX X E)
    (ha : DA X WX c (e :: es) fs) (hn : (e :: es).length = n) (hdb : (x == ("__debug__" : Str)) = false := by decide) (he : starEach (e :: es) X.env = (false, eval e X.env) :: starEach es X.env := by rfl) (hpl : (backTo pos (starEach es X.env)).any (·.1) = false := by rfl) :
    DE X WX c (.Call (.Name x p) (e :: es) [] pos) (fun ρ => (fs ρ).bind F) := by
  obtain ⟨ta, a1, a2, a3⟩ := ha
  refine ⟨_, pe_call G hr hg hm hk hb .nil hx a1 hdb he hpl, fun P0 P σ H Q ρ E h => ?_⟩
  dsimp only at h
  refine a2 P0 P σ H _ ρ E ?_
  cases q : fs ρ with
  | bad => rw [q] at h; exact h
  | ex x => rw [q] at h; exact h
  | ok ds =>
    rw [q] at h
    simp only [M.bind_ok] at h
    intro vs H1 s1 hvs
    rw [List.append_nil]
    refine ⟨by rw [hvs.length, a3 ρ ds q]; exact hn, _, ds, fun a q => (E.same s1).lvt c a q, hvs, ?_⟩
    have h' := gV.same h s1
    cases q2 : F ds with
    | bad => rw [q2] at h'; exact h'
    | ex x => exact absurd q2 (hne ds x)
    | ok d => rw [q2] at h'; exact h'
/-! ### comprehensions -/
def muRho (μ : List (Option Nat)) (ρ : Rho) : Rho := μ.map fun o => o.bind fun i => match ρ[i]? with | some (some (.val d)) => some (.val d) | _ => none
theorem muRho_get {μ : List (Option Nat)} {ρ : Rho} {j : Nat} {cl : Cl} (h : (muRho μ ρ)[j]? = some (some cl)) : ∃ i d, μ[j]? = some (some i) ∧ ρ[i]? = some (some (.val d)) ∧ cl = .val d := by
  unfold muRho at h
  rw [List.getElem?_map] at h
  cases q : μ[j]? with
  | none => rw [q] at h; cases h
  | some o =>
    rw [q] at h
    cases o with
    | none => cases h
    | some i =>
      simp only [Option.map_some, Option.bind_some, Option.some.injEq] at h
      split at h
      · rename_i d e
        cases h
        exact ⟨i, d, rfl, e, rfl⟩
      · cases h
theorem EnvP.block {K : PySem.W.Frag} (E : EnvP K P0 P H σ ρ) (μ : List (Option Nat)) : EnvP K P0 P H (muSt μ σ) (muRho μ ρ) := by
  refine ⟨E.sub, E.trk, fun j d h => ?_, fun j ds h io => ?_, fun j k c c' v v' fp fp' h _ _ _ ho _ _ => ?_, by unfold muSt muRho; simp⟩
  · obtain ⟨i, d', h1, h2, h3⟩ := muRho_get h
    cases h3
    obtain ⟨v, h4, h5⟩ := E.val i d h2
    refine ⟨v, ?_, h5⟩
    unfold muSt
    rw [List.getElem?_map, h1]
    simp [h4]
  · obtain ⟨i, d', h1, h2, h3⟩ := muRho_get h
    cases h3
    cases io
  · obtain ⟨i, d', h1, h2, h3⟩ := muRho_get h
    cases h3
    exact ho.elim
def compM (gt : D → Rho → M Rho) (ft : Rho → M Bool) (fe : Rho → M D) : List D → Rho → M (List D)
  | [], _ => .ok []
  | d :: r, ρ => match gt d ρ with
    | .ok ρ1 => (match ft ρ1 with
      | .ok k => if k = true then (match fe ρ1 with
        | .ok y => (match compM gt ft fe r ρ with | .ok ys => .ok (y :: ys) | _ => .bad)
        | _ => .bad) else compM gt ft fe r ρ
      | _ => .bad)
    | _ => .bad
/-- a block's target -/
def DGB (X : Cx) (scope : Scope) (NB : List Str) (μ : List (Option Nat)) (tg : Expr) (gt : D → Rho → M Rho) : Prop :=
  ∃ g : TG, (∀ s H C ex, PG (blockOf X s H scope C NB ex) tg g) ∧ GKeeps μ g ∧ ∀ P0 P σ H Q ρ v d, EnvP X.K P0 P H σ ρ → Has X.K (del H P) v d → gG X.K P0 P H Q (gt d ρ) → g v σ H Q
theorem dgb_name {scope : Scope} {NB : List Str} {μ : List (Option Nat)} (i : Nat) {x : Str} (hN : NB.Nodup) (hi : NB[i]? = some x) (hx : (relabel scope X.env).names.lookup x = some .local) (hm : μ[i]? = some none) : DGB X scope NB μ (.Name x pos) (fun d ρ => .ok (ρ.set i (some (.val d)))) :=
  ⟨gName i, fun s H C ex => pg_name (X := blockOf X s H scope C NB ex) hN hi (.inl hx) (.inr hx), gk_name hm, fun P0 P σ H Q ρ v d E hv h => h _ (E.setv hv)⟩
/-- a block's tests -/
def DTs (X : Cx) (cs : List Expr) (f : Rho → M Bool) : Prop :=
  ∃ t, PTs X cs t ∧ ∀ P0 P σ H Q ρ, EnvP X.K P0 P H σ ρ → gT (fun _ _ => False) H Q (f ρ) → t σ H Q
theorem dts_nil : DTs X [] (fun _ => .ok true) := ⟨_, pts_nil, fun P0 P σ H Q ρ E h => h H (Same.refl H)⟩
theorem dts_one (h : DT X (fun _ _ => False) a ft) : DTs X [a] ft := let ⟨t, h1, h2⟩ := h; ⟨_, pts_one h1, h2⟩
def compR (m : M (List D)) : M D := match m with | .ok ys => .ok (.lst ys) | _ => .bad
theorem comp_D {μ : List (Option Nat)} {wi : TI} {gg : TG} {tc : Shared → Hp → Addr → List Addr → TT} {te : Shared → Hp → Addr → List Addr → TE} {fe : Rho → M D}
    (i2 : ∀ P0 P σ H R ρ, EnvP X.K P0 P H σ ρ → (match fi ρ with | .ok ds => ∀ J H', Same H H' → ItOk X.K J P H' ds → R J H' | .ex x => ∀ H', Same H H' → WX x H' | .bad => False) → wi σ H R)
    (g2 : ∀ P0 P σ H Q ρ v d, EnvP X.K P0 P H σ ρ → Has X.K (del H P) v d → gG X.K P0 P H Q (gt d ρ) → gg v σ H Q)
    (t2 : ∀ s H' C ex P0 P σ H Q ρ, EnvP X.K P0 P H σ ρ → gT (fun _ _ => False) H Q (ft ρ) → tc s H' C ex σ H Q)
    (e2 : ∀ s H' C ex P0 P σ H Q ρ, EnvP X.K P0 P H σ ρ → gV X.K (fun _ _ => False) (Lv c P0 P) H Q (fe ρ) → te s H' C ex σ H Q) {Q : VK}
    (E : EnvP X.K P0 P H σ ρ) (h : gV X.K WX (Lv c P0 P) H Q ((fi ρ).bind fun ds => if ds.length ≤ 1000 then compR (compM gt ft fe ds (muRho μ ρ)) else .bad)) : tComp wi μ gg tc te σ H Q := by
  refine i2 P0 P σ H _ ρ E ?_
  cases q : fi ρ with
  | bad => rw [q] at h; exact h
  | ex x => rw [q] at h; exact h
  | ok ds =>
    rw [q] at h
    simp only [M.bind_ok] at h
    by_cases hd : ¬ ds.length ≤ 1000
    · rw [if_neg hd] at h; exact h.elim
    have hd : ds.length ≤ 1000 := by omega
    rw [if_pos hd] at h
    intro J H1 s1 ok s C ex
    cases qc : compM gt ft fe ds (muRho μ ρ) with
    | bad => rw [qc] at h; exact h.elim
    | ex x => rw [qc] at h; exact h.elim
    | ok total =>
      rw [qc] at h
      unfold compR at h
      dsimp only at h
      have E1 := E.same s1
      refine ⟨fun i m ys H2 => m = ds.length - i ∧ i ≤ ds.length ∧ ys.length ≤ i ∧ Same H1 H2 ∧ ∃ es rest, HasL X.K (del H2 (Lv c P0 P)) ys es ∧ compM gt ft fe (ds.drop i) (muRho μ ρ) = .ok rest ∧ es ++ rest = total,
        ⟨ds.length, by simp, Nat.zero_le _, Nat.le_refl _, Same.refl _, [], total, .nil, by rw [List.drop_zero]; exact qc, rfl⟩, ?_⟩
      rintro i m ys H2 ⟨rfl, hi, hy, s2, es, rest, hes, hcm, htot⟩
      by_cases hlt : i < ds.length
      · refine .inr ⟨ok.go i P H2 s2.del hlt, Nat.lt_of_le_of_lt hy (small1000 (by omega)), fun ys' H' => i + 1 ≤ ds.length ∧ ys'.length ≤ i + 1 ∧ Same H1 H' ∧ ∃ es rest, HasL X.K (del H' (Lv c P0 P)) ys' es ∧ compM gt ft fe (ds.drop (i + 1)) (muRho μ ρ) = .ok rest ∧ es ++ rest = total, fun ys' H' hq => ⟨ds.length - (i + 1), by omega, rfl, hq.1, hq.2.1, hq.2.2.1, hq.2.2.2⟩, fun v H3 y => ?_⟩
        have E2 := E1.same s2
        obtain ⟨s3, hv⟩ := ok.yld i P H2 v H3 ds[i] s2.del E2.trk (List.getElem?_eq_getElem hlt) y
        rw [drop_get hlt, compM] at hcm
        have E3 := (E2.same s3).block μ
        refine g2 P0 P _ H3 _ (muRho μ ρ) v ds[i] E3 hv ?_
        cases q1 : gt ds[i] (muRho μ ρ) with
        | bad => rw [q1] at hcm; cases hcm
        | ex x => rw [q1] at hcm; cases hcm
        | ok ρ1 =>
          rw [q1] at hcm
          dsimp only at hcm
          intro σ4 E4
          refine t2 s H1 C ex P0 P σ4 H3 _ ρ1 E4 ?_
          cases q2 : ft ρ1 with
          | bad => rw [q2] at hcm; cases hcm
          | ex x => rw [q2] at hcm; cases hcm
          | ok k =>
            rw [q2] at hcm
            dsimp only at hcm
            intro H5 s5
            cases k with
            | false =>
              simp only [Bool.false_eq_true, if_false] at hcm ⊢
              exact ⟨hlt, by omega, (s2.trans s3).trans s5, es, rest, (hes.mono s3.del).mono s5.del, hcm, htot⟩
            | true =>
              simp only [if_true] at hcm ⊢
              refine e2 s H1 C ex P0 P σ4 H5 _ ρ1 (E4.same s5) ?_
              cases q3 : fe ρ1 with
              | bad => rw [q3] at hcm; cases hcm
              | ex x => rw [q3] at hcm; cases hcm
              | ok y' =>
                rw [q3] at hcm
                dsimp only at hcm
                cases q4 : compM gt ft fe (ds.drop (i + 1)) (muRho μ ρ) with
                | bad => rw [q4] at hcm; cases hcm
                | ex x => rw [q4] at hcm; cases hcm
                | ok ys2 =>
                  rw [q4] at hcm
                  cases hcm
                  intro w H6 s6 hw
                  refine ⟨hlt, by rw [List.length_append, List.length_singleton]; omega, ((s2.trans s3).trans s5).trans s6, es ++ [y'], ys2, (((hes.mono s3.del).mono s5.del).mono s6.del).snoc hw, rfl, ?_⟩
                  rw [List.append_assoc]; exact htot
      · have e : i = ds.length := by omega
        subst e
        rw [List.drop_length, compM] at hcm
        cases hcm
        rw [List.append_nil] at htot
        subst htot
        refine .inl ⟨ok.stop _ P H2 s2.del (Nat.le_refl _), fun D0 hn => h _ _ ((s1.trans s2).trans (same_new hn _)) (.lst (.of (new_del hn fun a q => (E1.same s2).lvt c a q)) (hes.mono (same_new hn _).del))⟩
theorem de_comp {scope : Scope} {NB : List Str} {ifs : List Expr} {elt : Expr} {fe : Rho → M D} (μ : List (Option Nat)) (hc : X.calm = true) (hi : DI X WX tg iter fi) (hsc : scOk scope X.env.scope = true) (hmu : muOk X.N NB scope μ = true) (hg : DGB X scope NB μ tg gt)
    (ht : ∀ s H C ex, DTs (blockOf X s H scope C NB ex) ifs ft) (he : ∀ s H C ex, DE (blockOf X s H scope C NB ex) (fun _ _ => False) c elt fe) (hs : ∀ x, foldedSetIterable iter X.env x = pure x := by intro _; rfl) :
    DE X WX c (.ListComp elt [⟨tg, iter, ifs, 0⟩] scope pos) (fun ρ => (fi ρ).bind fun ds => if ds.length ≤ 1000 then compR (compM gt ft fe ds (muRho μ ρ)) else .bad) := by
  obtain ⟨wi, i1, i2⟩ := hi
  obtain ⟨gg, g1, gk, g2⟩ := hg
  refine ⟨_, pe_comp hc i1 hsc hmu gk (fun s H C ex => ⟨g1 s H C ex, (Classical.choose_spec (ht s H C ex)).1, (Classical.choose_spec (he s H C ex)).1⟩) hs, fun P0 P σ H Q ρ E h => ?_⟩
  exact comp_D i2 g2 (fun s H' C ex P0 P σ H Q ρ E h => (Classical.choose_spec (ht s H' C ex)).2 P0 P σ H Q ρ E h) (fun s H' C ex P0 P σ H Q ρ E h => (Classical.choose_spec (he s H' C ex)).2 P0 P σ H Q ρ E h) E h
/-- name = [elt for ..] on one line -/
theorem ds_setC {scope : Scope} {NB : List Str} {ifs : List Expr} {elt : Expr} {fe : Rho → M D} (i : Nat) {x : Str} {px spos : Pos} (μ : List (Option Nat)) (hN : X.N.Nodup) (hiN : X.N[i]? = some x) (hx : Loc X.env.scope x) (hc : X.calm = true) (hi : DI X WX tg iter fi) (hsc : scOk scope X.env.scope = true) (hmu : muOk X.N NB scope μ = true) (hg : DGB X scope NB μ tg gt)
    (ht : ∀ s H C ex, DTs (blockOf X s H scope C NB ex) ifs ft) (he : ∀ s H C ex, DE (blockOf X s H scope C NB ex) (fun _ _ => False) true elt fe)
    (hsw : swapsWith (.ListComp elt [⟨tg, iter, ifs, 0⟩] scope pos) (some (.Name x px)) spos.line X.env = pure true := by rfl) (hs : ∀ x, foldedSetIterable iter X.env x = pure x := by intro _; rfl) (hf : X.fn x = true ∨ X.env.scope.names.lookup x = some .local := by first | exact .inl rfl | exact .inr rfl | assumption) :
    DS X WX (.Assign [.Name x px] (.ListComp elt [⟨tg, iter, ifs, 0⟩] scope pos) spos) (fun ρ => ((fi ρ).bind fun ds => if ds.length ≤ 1000 then compR (compM gt ft fe ds (muRho μ ρ)) else .bad).bind fun d => .ok (.next (ρ.set i (some (.val d))))) := by
  obtain ⟨wi, i1, i2⟩ := hi
  obtain ⟨gg, g1, gk, g2⟩ := hg
  refine ⟨_, ps_setC hN hiN hx hc i1 hsc hmu gk (fun s H C ex => ⟨g1 s H C ex, (Classical.choose_spec (ht s H C ex)).1, (Classical.choose_spec (he s H C ex)).1⟩) hsw hs hf, fun P0 P σ H Z ρ E h => ?_⟩
  refine comp_D (c := true) i2 g2 (fun s H' C ex P0 P σ H Q ρ E h => (Classical.choose_spec (ht s H' C ex)).2 P0 P σ H Q ρ E h) (fun s H' C ex P0 P σ H Q ρ E h => (Classical.choose_spec (he s H' C ex)).2 P0 P σ H Q ρ E h) E ?_
  dsimp only at h
  revert h
  cases ((fi ρ).bind fun ds => if ds.length ≤ 1000 then compR (compM gt ft fe ds (muRho μ ρ)) else .bad) with
  | bad => exact fun h => h
  | ex y => exact fun h H' s => h H' P (E.tr s)
  | ok d => exact fun h v H' s hv => h _ H' P (E.tr s) ((E.same s).setv hv)
end
end L2

set_option Elab.async false
set_option linter.all false
set_option maxRecDepth 100000
namespace L2
open PySem PySem.Spec PyProof.Rows

section
variable {X : Cx} {WX : Str → Hp → Prop} {c : Bool} {P0 P : Addr → Prop} {H : Hp} {σ : St} {ρ : Rho} {a b e k : Expr} {f g : Rho → M D} {te tk : TE} {pos p2 : Pos}
/-! xs[::k], k = -1 -/
def tRev (K : PySem.W.Frag) (te tk : TE) : TE := fun σ H Q => te σ H fun x H1 => tk σ H1 fun y H2 => ∃ a xs, x = .ref a ∧ y = .int (-1) ∧ SqL K H2 a xs ∧ ∀ p, H2 p = none → Q (.ref p) (upd H2 p (.lst xs.reverse))
theorem pe_rev (he : PE X e te) (hk : PE X k tk) : PE X (.Subscript e (.Slice none none (some k) p2) pos) (tRev X.K te tk) := by
  intro pins s σ H Q I h
  refine Subscript_ (thn (he pins s σ H _ I h) fun v s1 ⟨x, H1, I1, r1, q1⟩ => ?_)
  refine wpAny_Slice ?_
  rw [evalPart_none]
  refine wpAny_pure ?_
  refine wpAny_pure ?_
  rw [evalPart_some]
  refine thn (hk pins s1 σ H1 _ I1 q1) fun vk s3 ⟨y, H3, I3, r3, q3⟩ => ?_
  obtain ⟨a, xs, rfl, rfl, hx, q⟩ := q3
  cases r1
  obtain ⟨t, rfl⟩ := r3
  have I4 : Inv X pins σ H3 { s3 with heap := s3.heap.push { cls := .type "slice", data := .fields #[.none, .none, .int (-1) t] } } := I3.kept (t' := s3.toks) fun b ob q => Heap.get?_push_of_some _ q
  show wpAny (model X.prog X.w) X.A (subscriptTail e (.Slice none none (some k) p2) (.ref a) (.ref s3.heap.objs.size)) (EP X pins σ Q) X.xe { s3 with heap := s3.heap.push { cls := .type "slice", data := .fields #[.none, .none, .int (-1) t] } }
  obtain ⟨its, r, ht, hz⟩ := I4.list hx
  have hlen := r.length
  refine tail_any (ops := [.ref a, .ref s3.heap.objs.size]) ht.isList.typeIs slot_list_getitem.lookup ?_ (by with_unfolding_all rfl)
  refine wpAny_getItem_list_slice ht.isList (Heap.IsSliceOf.new ..) .none .none (.int (-1) t) (by decide) ?_ (by rw [List.size_toArray] <;> omega)
  rw [PySem.W.krv_pick]
  exact ⟨.ref _, _, I4.laid (t' := s3.toks) (o := .lst xs.reverse) (fun b ob q => Heap.get?_push_of_some _ q) (Nat.le_refl _) ⟨by rw [List.length_reverse]; exact hz, its.reverse, 0, r.reverse, Heap.get?_push_size _ rfl⟩, rfl, q _ (I4.hok.fresh (Nat.le_refl _))⟩
def dRev (x y : D) : M D := match x, y with | .lst ds, .int i => if i = -1 then .ok (.lst ds.reverse) else .bad | _, _ => .bad
theorem de_rev (ha : DE X WX c e f) (hb : DE X WX c k g) : DE X WX c (.Subscript e (.Slice none none (some k) p2) pos) (fun ρ => (f ρ).bind fun x => (g ρ).bind fun y => dRev x y) := by
  obtain ⟨ta, a1, a2⟩ := ha
  obtain ⟨tb, b1, b2⟩ := hb
  refine ⟨_, pe_rev a1 b1, fun P0 P σ H Q ρ E h => bin_D (r := fun x y H2 Q => ∃ a xs, x = .ref a ∧ y = .int (-1) ∧ SqL X.K H2 a xs ∧ ∀ p, H2 p = none → Q (.ref p) (upd H2 p (.lst xs.reverse))) a2 b2 ?_ E h⟩
  intro P H x y v w Q ht hx hy h
  unfold dRev at h
  split at h
  · rename_i ds i
    by_cases hi : i = -1
    · rw [if_pos hi] at h
      subst hi
      cases hx with
      | lst hs hl => exact ⟨_, _, rfl, hy.int_inv, hs.undel, fun p hn => h _ _ (same_new hn _) (.lst (.of (new_del hn ht)) (hl.reverse.mono (same_new hn _).del))⟩
    · rw [if_neg hi] at h; exact h.elim
  · exact h.elim
/-! min(xs, default=d) -/
def intsD : List D → Option (List Int)
  | [] => some []
  | .int i :: r => (intsD r).map (i :: ·)
  | _ => none
def keyD : D → Option (List Int)
  | .tup ds => intsD ds
  | _ => none
def keysD : List D → Option (List (D × List Int))
  | [] => some []
  | d :: r => (keyD d).bind fun k => (keysD r).map ((d, k) :: ·)
def dMinD (l d : D) : M D := match l with
  | .lst ds => (match keysD ds with | some ks => .ok (match bestA ks with | none => d | some b => b.1) | none => .bad)
  | _ => .bad
theorem hasL_ints {K : PySem.W.Frag} {H : Hp} : ∀ {xs : List V} {ds : List D} {ns : List Int}, HasL K H xs ds → intsD ds = some ns → xs = ns.map V.int
  | _, _, _, .nil, e => by simp only [intsD] at e; cases e; rfl
  | _, _, _, .cons (d := d) h t, e => by
    cases d with
    | int i =>
      simp only [intsD] at e
      cases q : intsD _ with
      | none => rw [q] at e; cases e
      | some ns =>
        rw [q] at e
        cases e
        rw [h.int_inv, hasL_ints t q]; rfl
    | _ => simp [intsD] at e
/-- addresses beside data, alike in their keys -/
abbrev Alike (K : PySem.W.Frag) (H : Hp) : List (Addr × List Int) → List (D × List Int) → Prop := Paired fun p q => p.2 = q.2 ∧ Has K H (.ref p.1) q.1
theorem keys_alike {K : PySem.W.Frag} {H : Hp} : ∀ {xs : List V} {ds : List D} {ks : List (D × List Int)}, HasL K H xs ds → keysD ds = some ks → ∃ bs : List (Addr × List Int), xs = bs.map (fun b => V.ref b.1) ∧ (∀ b ∈ bs, SqT K H b.1 (b.2.map V.int)) ∧ Alike K H bs ks
  | _, _, _, .nil, e => by simp only [keysD] at e; cases e; exact ⟨[], rfl, by simp, .nil⟩
  | _, _, _, .cons (d := d) h t, e => by
    simp only [keysD] at e
    cases q : keyD d with
    | none => rw [q] at e; cases e
    | some k =>
      rw [q] at e
      simp only [Option.bind_some] at e
      cases q2 : keysD _ with
      | none => rw [q2] at e; cases e
      | some ks =>
        rw [q2] at e
        cases e
        obtain ⟨bs, h1, h2, h3⟩ := keys_alike t q2
        cases d with
        | tup es =>
          have h' := h
          cases h with
          | @tup a xs _ hs hl =>
            simp only [keyD] at q
            have e1 := hasL_ints hl q
            subst e1
            refine ⟨(a, k) :: bs, by rw [h1]; rfl, fun b hb => ?_, .cons ⟨rfl, h'⟩ h3⟩
            rcases List.mem_cons.mp hb with z | z
            · subst z; exact hs
            · exact h2 b z
        | _ => simp [keyD] at q
theorem best_alike {K : PySem.W.Frag} {H : Hp} {bs : List (Addr × List Int)} {ks : List (D × List Int)} (h : Alike K H bs ks) : (bestA bs = none ∧ bestA ks = none) ∨ ∃ b k, bestA bs = some b ∧ bestA ks = some k ∧ b.2 = k.2 ∧ Has K H (.ref b.1) k.1 := by
  unfold bestA
  suffices z : ∀ (o : Option (Addr × List Int)) (o' : Option (D × List Int)), ((o = none ∧ o' = none) ∨ ∃ b k, o = some b ∧ o' = some k ∧ b.2 = k.2 ∧ Has K H (.ref b.1) k.1) →
      ((bs.foldl bstep o = none ∧ ks.foldl bstep o' = none) ∨
        ∃ b k, bs.foldl bstep o = some b ∧ ks.foldl bstep o' = some k ∧ b.2 = k.2 ∧ Has K H (.ref b.1) k.1) from z none none (.inl ⟨rfl, rfl⟩)
  induction h with
  | nil => intro o o' h; exact h
  | @cons b k bs ks hh t ih =>
    intro o o' h
    rw [List.foldl_cons, List.foldl_cons]
    refine ih _ _ ?_
    rcases h with ⟨rfl, rfl⟩ | ⟨b', k', rfl, rfl, e1, e2⟩
    · exact .inr ⟨b, k, rfl, rfl, hh⟩
    · unfold bstep
      dsimp only
      rw [hh.1, e1]
      by_cases hl : HT.lexLt k.2 k'.2 = true
      · rw [if_pos hl, if_pos hl]; exact .inr ⟨b, k, rfl, rfl, hh⟩
      · rw [if_neg hl, if_neg hl]; exact .inr ⟨b', k', rfl, rfl, e1, e2⟩
theorem de_minD {p kp : Pos} {e2 : Expr} (hc : X.calm = true) (hu : X.A.units + 1 < cLine) (hg : Gl X "min") (hm : X.mg "min" = none) (ha : DE X WX c e f) (hb : DE X WX c e2 g)
    (hst : starEach [e] X.env = [(false, eval e X.env)] := by rfl) (hall : (backToKw pos (keywordEach [⟨some "default", e2, kp⟩] X.env)).all (·.1.isSome) = true := by rfl) (hks : (backToKw pos (keywordEach [⟨some "default", e2, kp⟩] X.env)).filterMap (·.1) = ([("default" : Str)] : List Str) := by rfl)
    (hkw : (backToKw pos (keywordEach [⟨some "default", e2, kp⟩] X.env)).any (·.1.isNone) = false := by rfl) (heq : backTo pos (starEach [e] X.env) = (false, eval e X.env) :: backTo pos (starEach [] X.env) := by rfl) (hpl : (backTo pos (starEach [e] X.env)).any (·.1) = false := by rfl) :
    DE X WX c (.Call (.Name "min" p) [e] [⟨some "default", e2, kp⟩] pos) (fun ρ => (f ρ).bind fun x => (g ρ).bind fun y => dMinD x y) := by
  obtain ⟨ta, a1, a2⟩ := ha
  obtain ⟨tb, b1, b2⟩ := hb
  refine ⟨_, pe_minD hc hu hg hm a1 b1 hst hall hks hkw heq hpl, fun P0 P σ H Q ρ E h => bin_D (r := fun x d H2 Q => ∃ (a : Addr) (bs : List (Addr × List Int)), x = .ref a ∧ SqL X.K H2 a (bs.map fun b => V.ref b.1) ∧ (∀ b ∈ bs, SqT X.K H2 b.1 (b.2.map V.int)) ∧ Q (match bestA bs with | none => d | some b => .ref b.1) H2) a2 b2 ?_ E h⟩
  intro P H x y v w Q ht hx hy h
  unfold dMinD at h
  split at h
  · rename_i ds
    split at h
    · rename_i ks e1
      cases hx with
      | @lst a xs _ hs hl =>
        obtain ⟨bs, rfl, h2, h3⟩ := keys_alike hl e1
        refine ⟨a, bs, rfl, hs.undel, fun b hb => (h2 b hb).undel, ?_⟩
        rcases best_alike h3 with ⟨q1, q2⟩ | ⟨b, k, q1, q2, _, q3⟩
        · rw [q1]
          rw [q2] at h
          exact h _ H (Same.refl H) hy
        · rw [q1]
          rw [q2] at h
          exact h _ H (Same.refl H) q3
    · exact h.elim
  · exact h.elim
/-! an item of one's own list is clean -/
def ixOwn (i : Nat) (ρ : Rho) (y : D) : M D := match ρ[i]? with
  | some (some (.own ds)) => dIx (.lst ds) y
  | some (some (.val d)) => dIx d y
  | _ => .bad
theorem de_ixO (i : Nat) {x : Str} {p1 : Pos} (hv : PE X (.Name x p1) (tVar i)) (hb : DE X WX true b g) (hs : PlainIx b := by exact fun _ _ => rfl) : DE X WX true (.Subscript (.Name x p1) b pos) (fun ρ => match ρ[i]? with | some (some _) => (g ρ).bind (ixOwn i ρ) | _ => .bad) := by
  obtain ⟨tb, b1, b2⟩ := hb
  refine ⟨_, pe_ix (ix_list.or ix_tup) hv b1 hs, fun P0 P σ H Q ρ E h => ?_⟩
  dsimp only at h
  split at h
  · rename_i cl e0
    have hx : ∃ v, σ[i]? = some (some v) := by
      cases cl with
      | val d => obtain ⟨v, h1, _⟩ := E.val i d e0; exact ⟨v, h1⟩
      | own ds => obtain ⟨p, xs, h1, _⟩ := E.own i ds e0; exact ⟨_, h1⟩
      | ow o => obtain ⟨v, fp, h1, _⟩ := E.ows i _ e0 rfl; exact ⟨_, h1⟩
    obtain ⟨v, hv1⟩ := hx
    refine ⟨v, hv1, b2 P0 P σ H _ ρ E ?_⟩
    cases q : g ρ with
    | bad => rw [q] at h; exact h
    | ex x => rw [q] at h; exact h
    | ok y =>
      rw [q] at h
      simp only [M.bind_ok] at h
      unfold ixOwn at h
      intro w H1 s1 hw
      have E1 := E.same s1
      cases cl with
      | ow o => rw [e0] at h; exact h.elim
      | val d =>
        rw [e0] at h
        dsimp only at h
        obtain ⟨v', h1, h2⟩ := E1.val i d e0
        rw [hv1] at h1
        cases h1
        exact opd_ix (WX := WX) P H1 d y v w Q E1.trk h2 hw (h.same s1)
      | own ds =>
        rw [e0] at h
        dsimp only at h
        obtain ⟨p, xs, h1, h2, h3, h4, h5⟩ := E1.own i ds e0
        rw [hv1] at h1
        cases h1
        unfold dIx at h
        split at h
        · rename_i ds' i' heq
          cases heq
        · rename_i ds' j heq
          cases heq
          split at h
          · rename_i d e
            obtain ⟨u, k1, k2⟩ := h5.atI e
            exact .inl ⟨p, xs, j, u, rfl, hw.int_inv, .of h2, k1, h _ H1 s1 k2⟩
          · exact h.elim
        · exact h.elim
  · exact h.elim
end
end L2

set_option Elab.async false
set_option linter.all false
set_option maxRecDepth 100000
namespace L2
open PySem PySem.Spec PyProof.Rows

theorem huR {A : Around} {k : Nat} (hr : Room k A) (n : Nat) (hn : n ≤ 64) : A.units + n < cLine := by have := hr.units; omega
/-- a def of the text, as it stands behind the top -/
structure FunAt (K : PySem.W.Frag) (mg : Str → Option Value) (x : Str) (st : Stmt) (ps : List Str) : Prop where
  ex : ∃ f fd, Fun K x x st f fd ∧ mg x = some (.ref f) ∧ Binds K fd ps []
/-- .. and what it is worth -/
structure FnAt (P : Program) (w : World) (K : PySem.W.Frag) (mg : Str → Option Value) (base : Heap) (x : Str) (k n : Nat) (F : List D → M D) : Prop where
  ex : ∃ fa fd ps, FnOk P w K mg base CX0 k fa fd ps (spM0 K n F) ∧ mg x = some (.ref fa) ∧ PySem.W.keepIn K (.ref fa) = true ∧ Binds K fd ps []
  ne : ∀ ds c, F ds ≠ .ex c
theorem fnAt_of {P : Program} {w : World} {K : PySem.W.Frag} {mg : Str → Option Value} {base : Heap} {x : Str} {st : Stmt} {N ps : List Str} {k n : Nat} (T : FunAt K mg x st ps) (S : FnScope N ps (defScope st)) (g : Rho → M Out)
    (hb : ∀ (f : Addr) (cdv : Value) (A : Around) (outer : List Env) (s : Shared) (H : Hp) (E : XK), Room k (A.deeper (envOfC x (defScope st) s.heap.objs.size f cdv)) → DSs (cxOf CX0 P w K mg base N x (defScope st) f cdv A outer s H E).nox (fun _ _ => False) (defBody st) g) (hn : ps.length = n := by rfl) :
    FnAt P w K mg base x (k + 1) n (fun ds => fin (g (stRho N ds))) := by
  obtain ⟨f, fd, F, hm, hB⟩ := T.ex
  subst hn
  exact ⟨⟨f, fd, ps, fn_D0 F S g (hb f), hm, F.kp, hB⟩, fun ds c => fin_ne _ c⟩
section
variable {X : Cx} {WX : Str → Hp → Prop} {c : Bool} {e : Expr} {es : List Expr} {fs : Rho → M (List D)} {pos : Pos}
theorem de_callA {k n : Nat} {F : List D → M D} {x : Str} {p : Pos} (G : FnAt X.prog X.w X.K X.mg X.base x k n F) (hr : Room k X.A) (hg : Gl X x) (ha : DA X WX c (e :: es) fs) (hn : (e :: es).length = n)
    (hdb : (x == ("__debug__" : Str)) = false := by decide) (he : starEach (e :: es) X.env = (false, eval e X.env) :: starEach es X.env := by rfl) (hpl : (backTo pos (starEach es X.env)).any (·.1) = false := by rfl) :
    DE X WX c (.Call (.Name x p) (e :: es) [] pos) (fun ρ => (fs ρ).bind F) := by
  obtain ⟨fa, fd, ps, hF, hm, hk, hb⟩ := G.ex
  exact de_call (E := E0) hF G.ne hr hg hm hk hb pass0 ha hn hdb he hpl
end
theorem law_spM {F : List D → M D} (h : ∀ ns : List Int, ns.length ≤ 63 → F [.lst (ns.map D.int)] = .ok (.bl true)) (K : PySem.W.Frag) (H : Hp) (a : Addr) (ns : List Int) (hl : ns.length ≤ 63) (hS : SqL K H a (ns.map V.int)) : spM0 K 1 F [.ref a] H (fun v _ => v = .bl true) fun _ _ _ => False := by
  refine ⟨rfl, fun _ => False, [.lst (ns.map D.int)], fun _ z => z.elim, .cons (.lst ?_ (HasL.ints ns)) .nil, ?_⟩
  · have e : del H (fun _ => False) = H := by funext b; exact del_of (fun z => z)
    rw [e]; exact hS
  · rw [h ns hl]
    exact fun v H' s hv => hv.bl_inv
end L2

set_option Elab.async false
set_option linter.all false
set_option maxRecDepth 100000
namespace L2
open PySem PySem.Spec PyProof.Rows

/-! ### reckoning with worths -/
theorem fin_for {gt : D → Rho → M Rho} {gb : Rho → M Out} {ds : List D} {ρ : Rho} {k : Rho → M Out} {r : M D} (I : Nat → Rho → Prop) (h0 : I 0 ρ)
    (step : ∀ i d ρ, ds[i]? = some d → I i ρ → ∃ ρ1 ρ2, gt d ρ = .ok ρ1 ∧ gb ρ1 = .ok (.next ρ2) ∧ I (i + 1) ρ2) (hk : ∀ ρ', I ds.length ρ' → fin (k ρ') = r) : fin (seqM (forM gt gb ds ρ) k) = r := by
  have key : ∀ (n i : Nat) (ρ : Rho), i + n = ds.length → I i ρ → ∃ ρ', forM gt gb (ds.drop i) ρ = .ok (.next ρ') ∧ I ds.length ρ' := by
    intro n
    induction n with
    | zero =>
      intro i ρ hi h
      have e : i = ds.length := by omega
      subst e
      exact ⟨ρ, by rw [List.drop_length, forM], h⟩
    | succ n ih =>
      intro i ρ hi h
      have hlt : i < ds.length := by omega
      obtain ⟨ρ1, ρ2, h1, h2, h3⟩ := step i ds[i] ρ (List.getElem?_eq_getElem hlt) h
      obtain ⟨ρ', h4, h5⟩ := ih (i + 1) ρ2 (by omega) h3
      refine ⟨ρ', ?_, h5⟩
      rw [drop_get hlt, forM, h1]
      dsimp only
      rw [h2]
      exact h4
  obtain ⟨ρ', h1, h2⟩ := key ds.length 0 ρ (by omega) h0
  rw [List.drop_zero] at h1
  rw [h1, seqM_next]
  exact hk ρ' h2
theorem compM_map {gt : D → Rho → M Rho} {ft : Rho → M Bool} {fe : Rho → M D} {ρ : Rho} (R : D → D → Prop) : ∀ (ds : List D), (∀ d ∈ ds, ∃ ρ1 y, gt d ρ = .ok ρ1 ∧ ft ρ1 = .ok true ∧ fe ρ1 = .ok y ∧ R d y) → ∃ ys, compM gt ft fe ds ρ = .ok ys ∧ Paired R ds ys
  | [], _ => ⟨[], rfl, .nil⟩
  | d :: r, h => by
    obtain ⟨ρ1, y, h1, h2, h3, h4⟩ := h d List.mem_cons_self
    obtain ⟨ys, h5, h6⟩ := compM_map R r fun d hd => h d (List.mem_cons_of_mem _ hd)
    refine ⟨y :: ys, ?_, .cons h4 h6⟩
    rw [compM, h1]
    dsimp only
    rw [h2]
    dsimp only
    rw [if_pos rfl, h3]
    dsimp only
    rw [h5]
theorem fin_comp {gt : D → Rho → M Rho} {ft : Rho → M Bool} {fe : Rho → M D} {ds : List D} {ρ : Rho} {g : D → Rho} {k : Rho → M Out} {r : M D} (R : D → D → Prop) (h : ∀ d ∈ ds, ∃ ρ1 y, gt d ρ = .ok ρ1 ∧ ft ρ1 = .ok true ∧ fe ρ1 = .ok y ∧ R d y)
    (hk : ∀ ys, Paired R ds ys → fin (k (g (.lst ys))) = r) : fin (seqM ((compR (compM gt ft fe ds ρ)).bind fun d => .ok (.next (g d))) k) = r := by
  obtain ⟨ys, h1, h2⟩ := compM_map R ds h
  rw [h1]
  exact hk ys h2
theorem paired_map {α : Type} {Q : D → Prop} {f : α → D} : ∀ {ds ys : List D}, Paired (fun _ y => ∃ c, y = f c) ds ys → ∃ cs : List α, ys = cs.map f ∧ cs.length = ds.length
  | _, _, .nil => ⟨[], rfl, rfl⟩
  | _, _, .cons ⟨c, e⟩ t => by
    obtain ⟨cs, h1, h2⟩ := paired_map (Q := Q) t
    exact ⟨c :: cs, by rw [e, h1]; rfl, by rw [List.length_cons, List.length_cons, h2]⟩
/-- xs[:n] -/
theorem dSl_take (ds : List D) (n : Nat) : dSl none (some (n : Int)) (.lst ds) = .ok (.lst (ds.take n)) := by
  unfold dSl
  dsimp only
  rw [HT.sIx_none, HT.sIx_nat, List.drop_zero, Nat.sub_zero]
  congr 2
  rw [Nat.min_def]
  split
  · rfl
  · rw [List.take_of_length_le (Nat.le_refl _), List.take_of_length_le (by omega)]
end L2

set_option Elab.async false
set_option linter.all false
set_option maxRecDepth 100000
namespace L2
open PySem PySem.Spec PyProof.Rows

theorem ObjOk.there {P : Program} {w : World} {H : Hp} {h : Heap} {a : Addr} {o : HO} (x : ObjOk P w H h a o) : ∃ ob, h.get? a = some ob := by
  cases o with
  | lst xs => obtain ⟨_, _, _, _, e⟩ := x; exact ⟨_, e⟩
  | tup xs => obtain ⟨_, _, _, o, e, _⟩ := x; exact ⟨o, e⟩
  | dK kvs => obtain ⟨_, _, _, _, o, _, _, e, _⟩ := x; exact ⟨_, e⟩
  | dT kvs => obtain ⟨_, _, _, _, o, _, _, e, _⟩ := x; exact ⟨_, e⟩
  | set S n => obtain ⟨o, _, _, _, e, _⟩ := x; exact ⟨_, e⟩
  | ins C dx fs => obtain ⟨_, _, _, e, _⟩ := x; exact ⟨_, e⟩
  | own y => obtain ⟨_, e⟩ := x; exact ⟨_, e⟩
  | xd fs => obtain ⟨_, ⟨_, _, _, e, _⟩, _⟩ := x; exact ⟨_, e⟩
  | rng lo hi => obtain ⟨_, _, _, e⟩ := x; exact ⟨_, e⟩
  | frz ob u => obtain ⟨e, _⟩ := x; exact ⟨_, e⟩
  | tbl ps => exact ⟨_, (show h.get? a = some _ from x)⟩
  | met f y => exact ⟨_, (show h.get? a = some _ from x)⟩
  | ext φ => obtain ⟨_, ⟨_, e⟩, _⟩ := x; exact ⟨_, e⟩
theorem HOk.gone {P : Program} {w : World} {H : Hp} {h : Heap} {a : Addr} (x : HOk P w H h) (e : h.get? a = none) : H a = none := by
  cases q : H a with
  | none => rfl
  | some o => obtain ⟨ob, z⟩ := (x a o q).there; rw [e] at z; cases z

/-- an exception in flight, as a caller finds it: it and its trace are new, nothing tracked -/
structure Flight (base g : Heap) (H : Hp) (l : List Env) (ea c : Addr) (h : Heap) : Prop where
  fly : ∃ a0, Heap.FlyingW base l ea (.ref c) a0 h
  new : g.get? ea = none
  un : H ea = none
  tr : ∀ oe vs T, h.get? ea = some oe → oe.data = .fields vs → vs[1]? = some (.ref T) → H T = none ∧ g.get? T = none
def CXe (P : Program) (w : World) (base : Heap) : CXT := fun outer H s E ev s' => ∃ (ea c : Addr) (H' : Hp), ev = .ref ea ∧ s'.os = s.os ∧ AllBare s'.gens ∧ Un (frs outer) [] H H' s.heap s'.heap ∧ HOk P w H' s'.heap ∧ Flight base s.heap H' outer ea c s'.heap ∧ E (.ref c) none H'

section
variable {P : Program} {w : World} {K : PySem.W.Frag} {mg : Str → Option Value} {base : Heap} {N : List Str} {qual : Str} {scope : Scope} {f : Addr} {cd : Value} {A : Around} {outer : List Env} {s : Shared} {H : Hp} {E : XK}
abbrev cxE (P : Program) (w : World) (K : PySem.W.Frag) (mg : Str → Option Value) (base : Heap) (N : List Str) (qual : Str) (scope : Scope) (f : Addr) (cd : Value) (A : Around) (outer : List Env) (s : Shared) (H : Hp) (E : XK) : Cx :=
  cxOf (CXe P w base) P w K mg base N qual scope f cd A outer s H E

/-- what is left of a frame that an exception leaves -/
theorem flown {pins : List (Addr × Obj)} {σ : St} {H1 : Hp} {s1 : Shared} {h' B : Heap} {ea c : Addr} {a0 : Value} {hid : List Addr} (J : Inv (cxE P w K mg base N qual scope f cd A outer s H E) pins σ H1 s1)
    (hB : ∀ b o, s1.heap.get? b = some o → b ∉ frs (envOfC qual scope s.heap.objs.size f cd :: outer) → b ∉ hid → (H1 b ≠ none ∨ ∃ o', s.heap.get? b = some o') → B.get? b = some o) (hbB : base.StaysIn B)
    (hh : ∀ b ∈ hid, H1 b = none ∧ s.heap.get? b = none) (hT : ∀ b, B.get? b = none → b ∉ frs (envOfC qual scope s.heap.objs.size f cd :: outer) → H1 b = none ∧ s.heap.get? b = none)
    (hea : s.heap.get? ea = none) (huea : H1 ea = none) (F : Heap.FlyingW B outer ea (.ref c) a0 h') (hsl : s1.heap.UpToSlots h') (q : E (.ref c) none H1) :
    CXe P w base outer H s E (.ref ea) { s1 with heap := h' } := by
  have fsF : ∀ b ∈ frs outer, ∃ o, s1.heap.get? b = some o ∧ ∀ vs, o.data ≠ .fields vs := fun b hb => (J.funs.mem hb).2
  have oldL : ∀ b o, s.heap.get? b = some o → b ≠ s.heap.objs.size := fun b o e => Nat.ne_of_lt (Heap.lt_size e)
  have stk : ∀ b, b ∈ frs (envOfC qual scope s.heap.objs.size f cd :: outer) → b = s.heap.objs.size ∨ b ∈ frs outer := fun b hb => by
    have hb' : b ∈ s.heap.objs.size :: frs outer := hb
    exact List.mem_cons.mp hb'
  have U : Un (frs outer) [] H H1 s.heap s1.heap := J.base
  have notHid : ∀ b o, s.heap.get? b = some o → b ∉ hid := fun b o e hb => by rw [(hh b hb).2] at e; cases e
  have keepH : ∀ b o, H1 b ≠ none → s1.heap.get? b = some o → h'.get? b = some o := fun b o hn e => by
    refine F.1 b o (hB b o e (fun hb => ?_) (fun hb => hn (hh b hb).1) (.inl hn))
    exact hn (J.stkFree b hb)
  refine ⟨ea, c, H1, rfl, J.os, J.bare, ⟨fun b o e n hb hx => ?_, fun b o e n hb hx => ?_, U.free, fun b o e hx => ?_, U.tups, U.frzs, U.tbls⟩, fun b ob e => ?_, ⟨⟨a0, ?_⟩, hea, huea, fun oe vs T h1 h2 h3 => ?_⟩, q⟩
  · refine F.1 b o (hB b o (U.keep b o e n hb hx) (fun z => ?_) (notHid b o e) (.inr ⟨o, e⟩))
    rcases stk b z with z | z
    · exact oldL b o e z
    · exact hb z
  · obtain ⟨sl, e1⟩ := U.slot b o e n hb hx
    obtain ⟨o2, e2, nf⟩ := fsF b hb
    rw [e1] at e2
    obtain ⟨sl', e3⟩ := hsl b _ e1 (by cases e2; exact nf)
    exact ⟨sl', e3⟩
  · obtain ⟨o', e1⟩ := U.there b o e hx
    by_cases hb : b ∈ frs outer
    · obtain ⟨o2, e2, nf⟩ := fsF b hb
      obtain ⟨sl', e3⟩ := hsl b _ e2 nf
      exact ⟨_, e3⟩
    · refine ⟨o', F.1 b o' (hB b o' e1 (fun z => ?_) (notHid b o e) (.inr ⟨o, e⟩))⟩
      rcases stk b z with z | z
      · exact oldL b o e z
      · exact hb z
  · refine (J.hok b ob e).stay (fun x v hx q => keepH x v ?_ q) (fun _ q => q) fun _ _ q => q
    rcases hx with rfl | hx
    · rw [e]; intro z; cases z
    · rw [hx]; intro z; cases z
  · exact PySem.W.flyingW_base hbB F
  · obtain ⟨_, _, ff, oe', vs', T', oT, ts, k1, k2, k3, k4, k5, k6, k7, k8, k9⟩ := F
    rw [show ({ s1 with heap := h' } : Shared).heap.get? ea = h'.get? ea from rfl, k1] at h1
    cases h1
    rw [k3] at h2
    cases h2
    rw [k4] at h3
    cases h3
    refine hT T k5 fun hb => ?_
    rcases stk T hb with z | z
    · obtain ⟨m, ⟨oL, es, ep, hoL, hdL, _⟩, _⟩ := J.loc
      obtain ⟨sl, e3⟩ := hsl s.heap.objs.size oL hoL fun vs zz => by rw [hdL] at zz; cases zz
      rw [← z, k7] at e3
      cases e3
      rw [show oL.data = _ from k8] at hdL
      cases hdL
    · obtain ⟨o2, e2, nf⟩ := fsF T z
      obtain ⟨sl, e3⟩ := hsl T o2 e2 nf
      rw [k7] at e3
      cases e3
      exact nf ts k8

theorem frs_in {l : List Env} : ∀ env ∈ l, ∀ a, env.frame = some a → a ∈ frs l := fun env he a ha => List.mem_filterMap.mpr ⟨env, he, ha⟩
/-- a def's context takes exceptions: made here -/
theorem xe_made {pins : List (Addr × Obj)} {σ : St} {H1 : Hp} {s2 : Shared} {h1 : Heap} {ea C : Addr} {vs : List Value} (J : Inv (cxE P w K mg base N qual scope f cd A outer s H E) pins σ H1 s2) (hx : Heap.MadeExcOf s2.heap h1 ea (.ref C) vs) (q : E (.ref C) none H1) :
    (cxE P w K mg base N qual scope f cd A outer s H E).xe (.ref ea) { s2 with heap := h1 } := by
  have J1 : Inv (cxE P w K mg base N qual scope f cd A outer s H E) pins σ H1 { s2 with heap := h1 } := J.kept (t' := s2.toks) hx.keeps
  have fr := J.stack
  have hcov := frs_in (l := envOfC qual scope s.heap.objs.size f cd :: outer)
  refine wpAny_leaves_madeW (base := PySem.W.hideAll s2.heap (frs (envOfC qual scope s.heap.objs.size f cd :: outer))) (outer := outer) (L := s.heap.objs.size) J.ok.frames rfl (fun b o e => PySem.W.of_hideAll _ e) (PySem.W.funFrames_hide fr hcov) hx fun h' t F ht hbt hsl => ?_
  have gone2 : ∀ b, s2.heap.get? b = none → H1 b = none ∧ s.heap.get? b = none := fun b e => by
    refine ⟨J.hok.gone e, ?_⟩
    cases q : s.heap.get? b with
    | none => rfl
    | some o => obtain ⟨o', z⟩ := J.base.there b o q (by simp [cxOf]); rw [e] at z; cases z
  refine flown (B := PySem.W.hideAll s2.heap (frs (envOfC qual scope s.heap.objs.size f cd :: outer))) (hid := []) J1 (fun b o e hb _ hor => ?_) (fun b o e => ?_) (fun b z => by cases z) (fun b e hb => ?_) (gone2 ea hx.new).2 (gone2 ea hx.new).1 F hsl q
  · have ho2 : ∃ o2, s2.heap.get? b = some o2 := by
      rcases hor with z | ⟨o', z⟩
      · cases q2 : H1 b with
        | none => exact absurd q2 z
        | some u => exact (J.hok b u q2).there
      · exact J.base.there b o' z (by simp [cxOf])
    obtain ⟨o2, e2⟩ := ho2
    have e3 := hx.keeps b o2 e2
    rw [show ({ s2 with heap := h1 } : Shared).heap.get? b = h1.get? b from rfl, e3] at e
    cases e
    exact PySem.W.hideAll_get _ e2 hb
  · refine PySem.W.hideAll_get _ (J.bk b o e) fun hb => ?_
    have z : base.get? b = none := (fr.mem hb).1
    rw [show base.get? b = some o from e] at z; cases z
  · refine gone2 b ?_
    cases q2 : s2.heap.get? b with
    | none => rfl
    | some o => rw [PySem.W.hideAll_get _ q2 hb] at e; cases e
/-- .. coming from a callee -/
theorem xe_call : Passes (CXe P w base) (cxE P w K mg base N qual scope f cd A outer s H E) E := by
  intro pins σ H0 s0 ev s1 I h
  obtain ⟨ea, c, H1, rfl, hos, hba, U, hok, ⟨⟨a0, F⟩, hnew, hun, htr⟩, q⟩ := h
  have J : Inv (cxE P w K mg base N qual scope f cd A outer s H E) pins σ H1 s1 := I.call' (ch := []) hos U hok hba fun b hb => by cases hb
  obtain ⟨f1, f2, f3, oe, vs, T, oT, ts, k1, k2, k3, k4, k5, k6, k7, k8, k9⟩ := F
  have hT := htr oe vs T k1 k3 k4
  have fr := J.stack
  have entry : ∀ b, s0.heap.get? b = none → s.heap.get? b = none := fun b e => by
    cases q : s.heap.get? b with
    | none => rfl
    | some o => obtain ⟨o', z⟩ := I.base.there b o q (by simp [cxOf]); rw [e] at z; cases z
  have hcov : ∀ env ∈ (envOfC qual scope s.heap.objs.size f cd :: outer), ∀ a, env.frame = some a → a ∈ frs (envOfC qual scope s.heap.objs.size f cd :: outer) ++ [ea, T] := fun env he a ha => List.mem_append_left _ (frs_in env he a ha)
  have FB : Heap.FlyingW (PySem.W.hideAll s1.heap (frs (envOfC qual scope s.heap.objs.size f cd :: outer) ++ [ea, T])) (envOfC qual scope s.heap.objs.size f cd :: outer) ea (.ref c) a0 s1.heap :=
    ⟨fun b o e => PySem.W.of_hideAll _ e, PySem.W.hideAll_none _ (by simp), PySem.W.funFrames_hide fr hcov, oe, vs, T, oT, ts, k1, k2, k3, k4, PySem.W.hideAll_none _ (by simp), k6, k7, k8, k9⟩
  refine wpAny_leaves_onW (outer := outer) (L := s.heap.objs.size) J.ok.frames rfl FB fun h' F' hsl => ?_
  have gone1 : ∀ b, s1.heap.get? b = none → H1 b = none ∧ s.heap.get? b = none := fun b e => by
    refine ⟨J.hok.gone e, ?_⟩
    cases q : s.heap.get? b with
    | none => rfl
    | some o => obtain ⟨o', z⟩ := J.base.there b o q (by simp [cxOf]); rw [e] at z; cases z
  have hid : ∀ b ∈ [ea, T], H1 b = none ∧ s.heap.get? b = none := fun b hb => by
    rcases List.mem_cons.mp hb with z | z
    · rw [z]; exact ⟨hun, entry ea hnew⟩
    · rw [List.mem_singleton.mp z]; exact ⟨hT.1, entry T hT.2⟩
  refine flown (hid := [ea, T]) J (fun b o e hb hb2 _ => PySem.W.hideAll_get _ e fun z => (List.mem_append.mp z).elim hb hb2) (fun b o e => ?_) hid (fun b e hb => ?_) (entry ea hnew) hun F' hsl q
  · refine PySem.W.hideAll_get _ (J.bk b o e) fun hb => ?_
    rcases List.mem_append.mp hb with hb | hb
    · have z : base.get? b = none := (fr.mem hb).1
      rw [show base.get? b = some o from e] at z; cases z
    · rcases List.mem_cons.mp hb with z | z
      · rw [z] at e; rw [show base.get? ea = some o from e] at f2; cases f2
      · rw [List.mem_singleton.mp z] at e; rw [show base.get? T = some o from e] at k5; cases k5
  · by_cases hb2 : b ∈ [ea, T]
    · exact hid b hb2
    · refine gone1 b ?_
      cases q2 : s1.heap.get? b with
      | none => rfl
      | some o => rw [PySem.W.hideAll_get _ q2 fun z => (List.mem_append.mp z).elim hb hb2] at e; cases e
end
end L2

set_option Elab.async false
set_option linter.all false
set_option maxRecDepth 100000
namespace L2
open PySem PySem.Spec PyProof.Rows

/-- a context takes the exceptions that E wants -/
structure XCall (X : Cx) (E : XK) : Prop where
  call : Passes (CXe X.prog X.w X.base) X E
  own : PassesOwn (model X.prog X.w) X.A X.env X.xe
structure XOk (X : Cx) (E : XK) : Prop extends XCall X E where
  made : ∀ pins σ H s h' ea C vs, Inv X pins σ H s → Heap.MadeExcOf s.heap h' ea (.ref C) vs → E (.ref C) none H → X.xe (.ref ea) { s with heap := h' }
theorem xok_def {P : Program} {w : World} {K : PySem.W.Frag} {mg : Str → Option Value} {base : Heap} {N : List Str} {qual : Str} {scope : Scope} {f : Addr} {cd : Value} {A : Around} {outer : List Env} {s : Shared} {H : Hp} {E : XK} :
    XOk (cxE P w K mg base N qual scope f cd A outer s H E) E := ⟨⟨xe_call, PassesOwn.leaving⟩, fun _ _ _ _ _ _ _ _ J hx q => xe_made J hx q⟩
theorem xok_no {X : Cx} (h : X.xe = fun _ _ => False) : XOk X E0 := ⟨⟨fun _ _ _ _ _ _ _ h => by obtain ⟨_, _, _, _, _, _, _, _, _, q⟩ := h; exact q.elim, by rw [h]; exact PassesOwn.never⟩, fun _ _ _ _ _ _ _ _ _ _ q => q.elim⟩
def wxOf (K : PySem.W.Frag) (E : XK) : Str → Hp → Prop := fun x H => ∃ c, PySem.W.nsIn K mainGlobals x = some (some (.ref c)) ∧ E (.ref c) none H
def spM (K : PySem.W.Frag) (n : Nat) (F : List D → M D) : Sp := fun vs H Q E => vs.length = n ∧ ∃ P ds, (∀ a, P a → Trk H a) ∧ HasL K (del H P) vs ds ∧ gV K (wxOf K E) P H Q (F ds)
def finX (m : M Out) : M D := match m with
  | .ok (.ret d) => .ok d
  | .ok (.next _) => .ok .non
  | .ex x => .ex x
  | _ => .bad
section
variable {P : Program} {w : World} {K : PySem.W.Frag} {mg : Str → Option Value} {base : Heap}
/-- a def, by its body's worth -/
theorem fn_DX {x qual : Str} {st : Stmt} {f : Addr} {fd : FuncData} {N ps : List Str} {k : Nat} (F : Fun K x qual st f fd) (S : FnScope N ps (defScope st)) (g : Rho → M Out)
    (hb : ∀ (cdv : Value) (A : Around) (outer : List Env) (s : Shared) (H : Hp) (E : XK), Room k (A.deeper (envOfC qual (defScope st) s.heap.objs.size f cdv)) → DSs (cxE P w K mg base N qual (defScope st) f cdv A outer s H E) (wxOf K E) (defBody st) g) :
    FnOk P w K mg base (CXe P w base) (k + 1) f fd ps (spM K ps.length fun ds => finX (g (stRho N ds))) := by
  obtain ⟨oc, od, kV, doc, pm, an, cdv, ct, osl, rfl, lk, hcd⟩ := F.ex
  refine fn_of lk hcd S (fun vs H Q E h => h.1) fun A outer s H vs Q E hr h => ?_
  obtain ⟨hl, P', ds, ht, hv, hq⟩ := h
  obtain ⟨t, h1, h2⟩ := hb cdv A outer s H E hr
  refine ⟨t, h1, h2 P' P' _ H _ _ (env_start ht hv) ?_⟩
  dsimp only at hq
  revert hq
  cases g (stRho N ds) with
  | bad => exact fun h => h.elim
  | ex x => exact fun h H' P2 t => h H' (tr_same t)
  | ok o =>
    cases o with
    | ret d => exact fun h v H' P2 t hv => h v H' (tr_same t) hv
    | next ρ => exact fun h σ' H' P2 t E => h .non H' (tr_same t) .non
    | brk ρ => exact fun h => h.elim
    | cont ρ => exact fun h => h.elim
end
structure FnX (P : Program) (w : World) (K : PySem.W.Frag) (mg : Str → Option Value) (base : Heap) (x : Str) (k n : Nat) (F : List D → M D) : Prop where
  ex : ∃ fa fd ps, FnOk P w K mg base (CXe P w base) k fa fd ps (spM K n F) ∧ mg x = some (.ref fa) ∧ PySem.W.keepIn K (.ref fa) = true ∧ Binds K fd ps []
theorem fnX_of {P : Program} {w : World} {K : PySem.W.Frag} {mg : Str → Option Value} {base : Heap} {x : Str} {st : Stmt} {N ps : List Str} {k n : Nat} (T : FunAt K mg x st ps) (S : FnScope N ps (defScope st)) (g : Rho → M Out)
    (hb : ∀ (f : Addr) (cdv : Value) (A : Around) (outer : List Env) (s : Shared) (H : Hp) (E : XK), Room k (A.deeper (envOfC x (defScope st) s.heap.objs.size f cdv)) → DSs (cxE P w K mg base N x (defScope st) f cdv A outer s H E) (wxOf K E) (defBody st) g) (hn : ps.length = n := by rfl) :
    FnX P w K mg base x (k + 1) n (fun ds => finX (g (stRho N ds))) := by
  obtain ⟨f, fd, F, hm, hB⟩ := T.ex
  subst hn
  exact ⟨⟨f, fd, ps, fn_DX F S g (hb f), hm, F.kp, hB⟩⟩
section
variable {X : Cx} {E : XK} {WX : Str → Hp → Prop} {c : Bool} {e : Expr} {es : List Expr} {fs : Rho → M (List D)} {f : Rho → M D} {ft : Rho → M Bool} {pos : Pos}
theorem de_callX {k n : Nat} {F : List D → M D} {x : Str} {p : Pos} (xo : XCall X E) (G : FnX X.prog X.w X.K X.mg X.base x k n F) (hr : Room k X.A) (hg : Gl X x) (ha : DA X (wxOf X.K E) c (e :: es) fs) (hn : (e :: es).length = n)
    (hdb : (x == ("__debug__" : Str)) = false := by decide) (he : starEach (e :: es) X.env = (false, eval e X.env) :: starEach es X.env := by rfl) (hpl : (backTo pos (starEach es X.env)).any (·.1) = false := by rfl) :
    DE X (wxOf X.K E) c (.Call (.Name x p) (e :: es) [] pos) (fun ρ => (fs ρ).bind F) := by
  obtain ⟨fa, fd, ps, hF, hm, hk, hb⟩ := G.ex
  obtain ⟨ta, a1, a2, a3⟩ := ha
  refine ⟨_, pe_call hF hr hg hm hk hb .nil xo.call a1 hdb he hpl, fun P0 P σ H Q ρ E h => ?_⟩
  dsimp only at h
  refine a2 P0 P σ H _ ρ E ?_
  cases q : fs ρ with
  | bad => rw [q] at h; exact h
  | ex x => rw [q] at h; exact h
  | ok ds =>
    rw [q] at h
    simp only [M.bind_ok] at h
    intro vs H1 s1 hvs
    rw [List.append_nil]
    exact ⟨by rw [hvs.length, a3 ρ ds q]; exact hn, _, ds, fun a q => (E.same s1).lvt c a q, hvs, gV.same h s1⟩
theorem de_noX (h : DE X WX c e f) : DE X (fun _ _ => False) c e f := by
  obtain ⟨t, h1, h2⟩ := h
  refine ⟨t, h1, fun P0 P σ H Q ρ E g => h2 P0 P σ H Q ρ E ?_⟩
  cases q : f ρ with
  | bad => rw [q] at g; exact g
  | ex x => rw [q] at g; exact (g H (Same.refl H)).elim
  | ok d => rw [q] at g; exact g
theorem dt_noX (h : DT X WX e ft) : DT X (fun _ _ => False) e ft := by
  obtain ⟨t, h1, h2⟩ := h
  refine ⟨t, h1, fun P0 P σ H Q ρ E g => h2 P0 P σ H Q ρ E ?_⟩
  cases q : ft ρ with
  | bad => rw [q] at g; exact g
  | ex x => rw [q] at g; exact (g H (Same.refl H)).elim
  | ok d => rw [q] at g; exact g
/-! raise -/
theorem exc_obj {K : PySem.W.Frag} {h₀ : Heap} {C : Addr} {bmB : List Value} {newId : String} (X : K.In h₀) (q : PySem.W.excIn K C bmB newId = true) :
    ∃ bm N nm q bs hdct sn sub ab col dd k0 k1 k2 k3 k5 mN, h₀.get? C = some (excClassObj nm q C N bs bm hdct sn sub ab col dd k0 k1 k2 k3 k5 newId) ∧ h₀.Ns N mN ∧ mN "__init__" = none ∧ OwnTail h₀ bmB bm := by
  unfold PySem.W.excIn at q
  split at q
  · rename_i dd cd sl ho
    split at q
    · rename_i C' bm k0 k1 k2 k3 n k5 hm hs
      simp only [Bool.and_eq_true, beq_iff_eq, Bool.not_eq_true'] at q
      obtain ⟨⟨⟨⟨⟨rfl, rfl⟩, hdel⟩, ht⟩, hok⟩, hni⟩ := q
      obtain ⟨nm, bs, mro, ns, qn, hd, sn, sub, ab, col, del⟩ := cd
      dsimp only at hm hdel hok hni
      subst hm hdel
      have hsl : sl = #[k0, k1, k2, k3, some (.builtin n), k5] := by
        obtain ⟨l⟩ := sl
        simp only at hs
        rw [hs]
      subst hsl
      exact ⟨bm, ns, nm, qn, bs, hd, sn, sub, ab, col, dd, k0, k1, k2, k3, k5, _, X _ _ ho, .of_isNs (PySem.W.isNs_of_in X hok), PySem.W.nsMap_none_of_in X hok hni, PySem.W.tail_of_in X ht⟩
    · cases q
  · cases q
theorem ds_raise {x : Str} {np cpos : Pos} {C : Addr} {B newId initId : String} {bm : List Value} (xo : XOk X E) (hc : X.calm = true) (FB : ExcBaseFacts B newId initId bm) (hns : PySem.W.nsIn X.K mainGlobals x = some (some (.ref C))) (hq : PySem.W.excIn X.K C bm newId = true) (hg : Gl X x) (hm : X.mg x = some (.ref C))
    (ha : DE X (wxOf X.K E) c e f) (hdb : (x == ("__debug__" : Str)) = false := by decide) (he : starEach [e] X.env = [(false, eval e X.env)] := by rfl) (hplain : (backTo cpos (starEach [e] X.env)).any (·.1) = false := by rfl) :
    DS X (wxOf X.K E) (.Raise (some (.Call (.Name x np) [e] [] cpos)) none pos) (fun ρ => (f ρ).bind fun _ => .ex x) := by
  obtain ⟨ta, a1, a2⟩ := ha
  refine ⟨fun Z σ H => ta σ H fun y H1 => (([y] : List V).length = 1 ∧ E (.ref C) none H1), ?_, fun P0 P σ H Z ρ E h => ?_⟩
  · intro pins s σ H D I h
    obtain ⟨tl, N, nm, q, bs, hdct, sn, sub, ab, col, dd, k0, k1, k2, k3, k5, mN, hC, hN, hni, T⟩ := exc_obj I.mod.kin hq
    refine wpAny_Raise_call_subT (C := C) (nm := nm) (q := q) (N := N) (bs := bs) (bm := tl) (hdct := hdct) (sn := sn) (sub := sub) (ab := ab) (col := col) (dd := dd) (k0 := k0) (k1 := k1) (k2 := k2) (k3 := k3) (k5 := k5)
      FB (mN := mN) (T.hasType FB.hasBase) (I.ok.hd hc) hplain hni (ld_glob I hg hm ⟨rfl, ?_⟩ hdb)
    rw [he]
    have pa := (pa_cons a1 pa_nil he) cpos pins s σ H (fun vs H1 => vs.length = 1 ∧ E (.ref C) none H1) I ?_
    · rw [he] at pa
      refine Calls.evalArgs_plain (thn pa fun vs s2 ⟨xs, H2, I2, r2, q2⟩ => ⟨rfl, ?_, I2.bk _ _ hC, hN.keeps I2.bk, T.keeps I2.bk, fun h' ea hx => xo.made pins σ H2 s2 h' ea C _ I2 hx q2.2⟩)
      rw [← r2.length, q2.1]
      exact Nat.le_of_lt (small1000 (by decide))
    · exact h
  · dsimp only at h
    refine a2 P0 P σ H _ ρ E ?_
    cases q : f ρ with
    | bad => rw [q] at h; exact h
    | ex x => rw [q] at h; exact fun H' s => h H' P (E.tr s)
    | ok d =>
      rw [q] at h
      intro v H1 s1 hv
      obtain ⟨c', h1, h2⟩ := h H1 P (E.tr s1)
      rw [hns] at h1
      cases h1
      exact ⟨rfl, h2⟩
end
end L2

set_option Elab.async false
set_option linter.all false
set_option maxRecDepth 100000
namespace L2
open PySem PySem.Spec PySem.Calls PyProof.Rows PySem.W PySem.Builtin PySem.Builtin.ObjectAttr PySem.Builtin.Getset_descriptor
/-! ### exceptions as objects: `isinstance(e, C)`, `except C` -/
/-- what the fragment must tell of an exception's class -/
def xcIn (K : Frag) (D : Addr) : Bool :=
  (findIn K (.ref D) "__getattribute__" == some (some (.builtin "BaseException.__getattribute__"))) && (findIn K (.ref D) "__getattr__" == some none) && (clsIn K D).isSome && (findIn K (.ref D) "__class__" == some (some (.builtin "object.__class__"))) && (specialIn K (.builtin "object.__class__") "__get__" == some (some (.builtin "getset_descriptor.__get__"))) && (takesIn K (.builtin "object.__class__") == some true) && (mroIn K D (.type "object") == some true) && (mroIn K D (.type "BaseException") == some true)
section
variable {K : Frag} {x D : Addr} {name : Str}
theorem exc_ty {M : Model} {h : Heap} (p : excP x D h) : Looks M h (typeOf (.ref x)) (.ref D) := by
  obtain ⟨o, h1, h2, _⟩ := p
  exact h2 ▸ (Looks.ld h1).andThen .now
theorem exc_find {M : Model} {h : Heap} {a g : Value} (X : K.In h) (ha : findIn K (.ref D) name = some (some a)) (hg : specialIn K a "__get__" = some (some g)) (ht : takesIn K a = some true) :
    Looks M h (find (.ref x) (.ref D) name) (.bind g a) := by
  have L1 := looks_findIn (M := M) X ha
  have L2 : Looks M h (getOf (some a)) (some g) := looks_specialIn X hg
  have L3 := looks_takesIn (M := M) X ht
  refine L1.andThen (L2.andThen ?_)
  have L4 : Looks M h (dataDescriptor? (some a) (some g)) (some (g, a)) := L3.andThen .now
  exact L4.andThen (Looks.tag .now)
variable {prog : Program} {w : World} {A : Around} {E : Value → Shared → Prop} {s : Shared}
theorem exc_class {Q : Option Value → Shared → Prop} (hx : xcIn K D = true) (X : K.In s.heap) (p : excP x D s.heap) (h : Q (some (.ref D)) { s with toks := s.toks + 1 }) : wpAny (model prog w) A (getAttr? (.ref x) "__class__") Q E s := by
  unfold xcIn at hx
  simp only [Bool.and_eq_true, beq_iff_eq] at hx
  obtain ⟨⟨⟨⟨⟨⟨⟨g1, g2⟩, hc⟩, ha⟩, hn⟩, ht⟩, hm⟩, hb⟩ := hx
  obtain ⟨hh, gg, d, t, os⟩ := s
  have T0 := exc_ty (M := model prog w) p
  have T1 := looks_findIn (M := model prog w) X g1
  have T2 := exc_find (x := x) (M := model prog w) X ha hn ht
  have T3 := looks_findIn (M := model prog w) X g2
  have T4 := looks_mroIn (M := model prog w) X hm
  have T5 := looks_mroIn (M := model prog w) X hb
  have FG := PySem.F.attrBase_ValueError.ga
  have f3 := FG.bind (.ref x)
  have hx2 : (Value.builtin "BaseException.__getattribute__" == Value.builtin "object.__getattribute__") = false := by decide +kernel
  have hx1 : (onTheHeap (Value.ref D) && Value.builtin "BaseException.__getattribute__" == Value.builtin "object.__getattribute__") = false := by rw [hx2]; rfl
  have hx0 : (false && onTheHeap (Value.builtin "BaseException.__getattribute__")) = false := rfl
  have hk : builtinKind "BaseException.__getattribute__" = some .slot := by decide +kernel
  have hsplit : splitId "BaseException.__getattribute__" = some ("BaseException", "__getattribute__") := by decide +kernel
  unfold getAttr? getAttrBy?
  refine wpAny_bind (wpAny_mkText (wpAny_bind (wpAny_attempt ?_)))
  unfold getAttrBy
  refine wpAny_holding (wpAny_bind (T0.at (wpAny_bind (T1.at ?_))))
  dsimp only
  rw [hx1, if_neg Bool.false_ne_true]
  unfold getAttrByItsOwn hookBefore
  rw [if_pos (show onTheHeap (Value.ref D) = true from rfl)]
  refine wpAny_bind (T3.at (wpAny_bind (wpAny_attempt (wpAny_holding ?_))))
  unfold callGetattribute
  rw [hx0, if_neg Bool.false_ne_true]
  repeat (any_goals (first | assumption | with_reducible refine Looks.at (by assumption) ?_ | wp_step))
  refine codeAny_call_builtin FG.plain PySem.F.entry_bexc_ga ?_
  have hav := PySem.F.args_bexc_ga (.ref x) (.str "__class__" t)
  simp only [checkBuiltinCall, hk, hsplit]
  refine wpAny_bind ?_
  unfold isInstance
  refine wpAny_bind (T0.at (T5.at ?_))
  repeat (any_goals (first | assumption | with_reducible refine Looks.at (by assumption) ?_ | wp_step))
  refine codeAny_call_builtin KF.slot_gs.plain KF.entry_gs (KF.slot_gs.check _ _ _ _ _ _ _ _ KF.type_class (KF.args_gs _ _ _) ?_)
  unfold Builtin.«getset_descriptor.__get__» descrGet
  rw [dga_obj]
  refine wpAny_bind (wpAny_pure ?_)
  unfold descrGetter descrCheckInstance descrNameAndClass isInstance
  simp only [KF.owner_class]
  repeat lk
  refine ⟨Code.quiet_builtin _ (by decide +kernel), codeAny_builtin KF.entry_class ?_⟩
  unfold Builtin.«object.__class__» shownTypeOf
  repeat lk
  exact h
end
theorem cls_there {K : Frag} {D : Addr} {h : Heap} (X : K.In h) (hc : (clsIn K D).isSome = true) : ∃ c' d' cd' sl', h.get? D = some ⟨c', d', .cls cd', sl'⟩ := by
  unfold clsIn at hc
  split at hc
  · rename_i c' d' cd' sl' ho
    exact ⟨_, _, _, _, X _ _ ho⟩
  · cases hc
theorem cls_looks {K : Frag} {D : Addr} {M : Model} {h : Heap} (X : K.In h) (hc : (clsIn K D).isSome = true) : Looks M h (isType (.ref D)) true := by
  obtain ⟨c', d', cd', sl', ho⟩ := cls_there X hc
  intro A' Q' E' s' k q
  unfold isType loadHead
  refine wpAny_bind (wpAny_loadPart (k _ _ ho) ?_)
  exact wpAny_pure q
theorem kitx_exc {K : Frag} {x D : Addr} (hx : xcIn K D = true) : KitX K (.ref x) (.ref D) (excP x D) where
  ty := fun _ _ _ p => exc_ty p
  it := fun _ _ X _ => by
    unfold xcIn at hx
    simp only [Bool.and_eq_true, beq_iff_eq] at hx
    exact cls_looks X hx.1.1.1.1.1.2
  ne := fun h tp dd its n sl X htp => by
    unfold xcIn at hx
    simp only [Bool.and_eq_true, beq_iff_eq] at hx
    obtain ⟨c', d', cd', sl', ho⟩ := cls_there X hx.1.1.1.1.1.2
    refine Bool.eq_false_iff.mpr fun q => ?_
    obtain rfl : D = tp := Value.ref.inj (beq_iff_eq.mp q)
    rw [htp] at ho
    cases ho
  ca := fun X p k => exc_class hx X p k
/-! isinstance(e, C) of an exception -/
def rIsX (K : Frag) (cv : V) (tab : Str → Option Bool) : List V → Hp → VK → Prop := fun xs H Q => ∃ a c x b, xs = [.ref a, cv] ∧ nsIn K mainGlobals x = some (some (.ref c)) ∧ H a = some (.ext (excP a c)) ∧ tab x = some b ∧ Q (.bl b) H
section
variable {X : Cx} {WX : Str → Hp → Prop} {c : Bool} {e : Expr} {f : Rho → M D} {pos p : Pos}
/-- what must be known of the table -/
def TabX (K : Frag) (Cv : Value) (tab : Str → Option Bool) : Prop := ∀ x b c, tab x = some b → nsIn K mainGlobals x = some (some (.ref c)) → kitOne K (.ref c) Cv = some b ∧ xcIn K c = true
theorem call_isX {cv : V} {Cv : Value} {tab : Str → Option Bool} (hr : ∀ u, RelV cv u → u = Cv) (hk : TabX X.K Cv tab) : CallR X (.builtin "isinstance") (rIsX X.K cv tab) := by
  intro pins s σ H xs us Q I r h
  obtain ⟨a, c, x, b, rfl, hn, ha, ht, q⟩ := h
  obtain ⟨u, w, rfl, rx, rw'⟩ := r.two
  obtain rfl := hr w rw'
  cases rx
  obtain ⟨k1, k2⟩ := hk x b c ht hn
  exact kia_one (kitx_exc k2) I.kIn (I.hok a _ ha).1 k1 (fun z => nomatch z) fun tk => ⟨.bl _, H, I.tok tk, rfl, q⟩
def dIsX (tab : Str → Option Bool) (d : D) : M D := match d with
  | .exn x => (match tab x with | some b => .ok (.bl b) | none => .bad)
  | _ => .bad
theorem isX_D {ta : TE} {tab : Str → Option Bool} {cv : V} {P0 P : Addr → Prop} {σ : St} {H : Hp} {ρ : Rho} {Q : VK} (ha : ∀ P0 P σ H Q ρ, EnvP X.K P0 P H σ ρ → gV X.K WX (Lv c P0 P) H Q (f ρ) → ta σ H Q) (E : EnvP X.K P0 P H σ ρ) (h : gV X.K WX (Lv c P0 P) H Q ((f ρ).bind (dIsX tab))) :
    tCB (rIsX X.K cv tab) (tCons ta (tCons (tC cv) tNil)) σ H Q := by
  refine ha P0 P σ H _ ρ E ?_
  cases q : f ρ with
  | bad => rw [q] at h; exact h
  | ex x => rw [q] at h; exact h
  | ok d =>
    rw [q] at h
    simp only [M.bind_ok] at h
    unfold dIsX at h
    split at h
    · rename_i x
      split at h
      · rename_i b hb
        intro v H1 s1 hv
        cases hv with
        | exn h1 h2 => exact ⟨_, _, x, b, rfl, h1, del_full _ _ h2, hb, h _ H1 s1 (.bl _)⟩
      · exact h.elim
    · exact h.elim
theorem de_isXB {T : String} {x2 : Str} {p2 : Pos} {tab : Str → Option Bool} (hk : TabX X.K (.type T) tab) (hg : Gl X "isinstance") (hm : X.mg "isinstance" = none) (hg2 : Gl X x2) (hm2 : X.mg x2 = none) (hv2 : bootBuiltins x2 = some (.type T)) (ha : DE X WX c e f)
    (hb : bootBuiltins "isinstance" = some (.builtin "isinstance") := by decide +kernel) (hn2 : x2 ≠ "__name__" := by decide) (hdb2 : (x2 == ("__debug__" : Str)) = false := by decide) (hs : starEach [e, .Name x2 p2] X.env = (false, eval e X.env) :: starEach [.Name x2 p2] X.env := by rfl) (hs2 : starEach [.Name x2 p2] X.env = [(false, eval (.Name x2 p2) X.env)] := by rfl)
    (hpl : (backTo pos (starEach [.Name x2 p2] X.env)).any (·.1) = false := by rfl) :
    DE X WX c (.Call (.Name "isinstance" p) [e, .Name x2 p2] [] pos) (fun ρ => (f ρ).bind (dIsX tab)) := by
  obtain ⟨ta, a1, a2⟩ := ha
  exact ⟨_, pe_callB (call_isX (cv := .ty T) (fun u r => by cases r; rfl) hk) hg hm hb (pa_cons a1 (pa_cons (pe_bltn (v := .ty T) hg2 hm2 hv2 rfl hn2 hdb2) pa_nil hs2) hs) (by decide) (by decide) hs hpl, fun P0 P σ H Q ρ E h => isX_D a2 E h⟩
theorem de_isXO {C : Addr} {x2 : Str} {p2 : Pos} {tab : Str → Option Bool} (hk : TabX X.K (.ref C) tab) (hg : Gl X "isinstance") (hm : X.mg "isinstance" = none) (hg2 : Gl X x2) (hm2 : X.mg x2 = some (.ref C)) (ha : DE X WX c e f)
    (hb : bootBuiltins "isinstance" = some (.builtin "isinstance") := by decide +kernel) (hdb2 : (x2 == ("__debug__" : Str)) = false := by decide) (hs : starEach [e, .Name x2 p2] X.env = (false, eval e X.env) :: starEach [.Name x2 p2] X.env := by rfl) (hs2 : starEach [.Name x2 p2] X.env = [(false, eval (.Name x2 p2) X.env)] := by rfl)
    (hpl : (backTo pos (starEach [.Name x2 p2] X.env)).any (·.1) = false := by rfl) :
    DE X WX c (.Call (.Name "isinstance" p) [e, .Name x2 p2] [] pos) (fun ρ => (f ρ).bind (dIsX tab)) := by
  obtain ⟨ta, a1, a2⟩ := ha
  exact ⟨_, pe_callB (call_isX (cv := .ref C) (fun u r => by cases r; rfl) hk) hg hm hb (pa_cons a1 (pa_cons (pe_glob (v := .ref C) hg2 hm2 rfl hdb2) pa_nil hs2) hs) (by decide) (by decide) hs hpl, fun P0 P σ H Q ρ E h => isX_D a2 E h⟩
end
/-! `except C`, C an own class -/
def catIn (K : Frag) (C D : Addr) : Bool := (instIn K (.ref C) (.type "tuple") == some false) && (clsIn K C).isSome && (mroIn K C (.type "BaseException") == some true) && (mroIn K D (.ref C) == some true)
theorem exc_match {K : Frag} {M : Model} {A : Around} {E : Value → Shared → Prop} {s : Shared} {C D e : Addr} {oe : Obj} {Q : Bool → Shared → Prop} (X : K.In s.heap) (he : s.heap.get? e = some oe) (hcls : oe.cls = .ref D) (hc : catIn K C D = true) (h : Q true s) : wpAny M A (excMatches (.ref e) (.ref C)) Q E s := by
  unfold catIn at hc
  simp only [Bool.and_eq_true, beq_iff_eq] at hc
  obtain ⟨⟨⟨h1, h2⟩, h3⟩, h4⟩ := hc
  have L1 := looks_instIn (M := M) X h1
  have L2 := cls_looks (M := M) X h2
  have L3 := looks_mroIn (M := M) X h3
  have L4 := looks_mroIn (M := M) X h4
  have L5 : Looks M s.heap (typeOf (.ref e)) (.ref D) := hcls ▸ (Looks.ld he).andThen .now
  have L6 : Looks M s.heap (isExcClass (.ref C)) true := by
    unfold isExcClass
    exact L2.andThen L3
  obtain ⟨hp, g, d, t, os⟩ := s
  unfold excMatches
  repeat (first | lk | wp_step)
  exact h
end L2

set_option Elab.async false
set_option linter.all false
set_option maxRecDepth 100000
namespace L2
open PySem PySem.Spec PyProof.Rows
/-! ### try: .. except C as e: .. -/
section
variable {X : Cx} {pins pins' : List (Addr × Obj)} {σ : St} {H0 H1 H : Hp} {s s0 s1 : Shared} {h4 : Heap} {ea T c : Addr}
theorem land_ok (I : Inv X pins σ H0 s0) (hos : s1.os = s0.os) (hba : AllBare s1.gens) (U : Un (frs X.stack) [] H0 H1 s0.heap s1.heap) (hok : HOk X.prog X.w H1 s1.heap) (hid : ∀ b ∈ [ea, T], H1 b = none ∧ s0.heap.get? b = none)
    (k : (PySem.W.hideAll s1.heap (frs X.stack ++ [ea, T])).StaysIn h4) (sl : s1.heap.UpToSlots h4) : Un (frs X.stack) [] H0 H1 s0.heap h4 ∧ HOk X.prog X.w H1 h4 := by
  have J : Inv X pins σ H1 s1 := I.call' (ch := []) hos U hok hba fun b hb => by cases hb
  have fsF : ∀ b ∈ frs X.stack, ∃ o, s1.heap.get? b = some o ∧ ∀ vs, o.data ≠ .fields vs := fun b hb => (J.stack.mem hb).2
  have notHid : ∀ b o, s0.heap.get? b = some o → b ∉ [ea, T] := fun b o e hb => by rw [(hid b hb).2] at e; cases e
  refine ⟨⟨fun b o e n hb hx => ?_, fun b o e n hb hx => ?_, U.free, fun b o e hx => ?_, U.tups, U.frzs, U.tbls⟩, fun b ob e => ?_⟩
  · exact k b o (PySem.W.hideAll_get _ (U.keep b o e n hb hx) fun z => (List.mem_append.mp z).elim hb (notHid b o e))
  · obtain ⟨sl1, e1⟩ := U.slot b o e n hb hx
    obtain ⟨o2, e2, nf⟩ := fsF b hb
    rw [e1] at e2
    obtain ⟨sl', e3⟩ := sl b _ e1 (by cases e2; exact nf)
    exact ⟨sl', e3⟩
  · obtain ⟨o', e1⟩ := U.there b o e hx
    by_cases hb : b ∈ frs X.stack
    · obtain ⟨o2, e2, nf⟩ := fsF b hb
      obtain ⟨sl', e3⟩ := sl b _ e2 nf
      exact ⟨_, e3⟩
    · exact ⟨o', k b o' (PySem.W.hideAll_get _ e1 fun z => (List.mem_append.mp z).elim hb (notHid b o e))⟩
  · have keepH : ∀ b o, H1 b ≠ none → s1.heap.get? b = some o → h4.get? b = some o := fun b o hn e => by
      refine k b o (PySem.W.hideAll_get _ e fun z => ?_)
      rcases List.mem_append.mp z with z | z
      · exact hn (J.stkFree b z)
      · exact hn (hid b z).1
    refine (hok b ob e).stay (fun x v hx q => keepH x v ?_ q) (fun _ q => q) fun _ _ q => q
    rcases hx with rfl | hx
    · rw [e]; intro z; cases z
    · rw [hx]; intro z; cases z
theorem un_adopt {fs : List Addr} {h h' : Heap} {o : HO} (U : Un fs [] H0 H1 h h') (hn : H0 ea = none) (hh : h.get? ea = none) : Un fs [] H0 (upd H1 ea o) h h' := by
  refine ⟨U.keep, U.slot, fun b o' e n hx => ?_, U.there, fun b xs e => ?_, fun b o' u e => ?_, fun b ps e => ?_⟩
  · rw [upd_ne fun z => by rw [z, hh] at e; cases e]; exact U.free b o' e n hx
  · rw [upd_ne (ne_of_none e hn)]; exact U.tups b xs e
  · rw [upd_ne (ne_of_none e hn)]; exact U.frzs b o' u e
  · rw [upd_ne (ne_of_none e hn)]; exact U.tbls b ps e
theorem Cx.Ok.re (ok : X.Ok) (xe : Value → Shared → Prop) (pn : List (Addr × Obj)) : ({ X with xe := xe, pn := pn } : Cx).Ok :=
  ⟨ok.mod, ok.kind, ok.glob, ok.blt, ok.above, ok.inj, ok.has, ok.cab, ok.hd, ok.frames, ok.stk, ok.exf, ok.bs, ok.bsz, ok.noex, ok.exfs, ok.funs, ok.frf⟩
theorem Cx.Ok.unre {xe : Value → Shared → Prop} {pn : List (Addr × Obj)} (ok : ({ X with xe := xe, pn := pn } : Cx).Ok) : X.Ok :=
  ⟨ok.mod, ok.kind, ok.glob, ok.blt, ok.above, ok.inj, ok.has, ok.cab, ok.hd, ok.frames, ok.stk, ok.exf, ok.bs, ok.bsz, ok.noex, ok.exfs, ok.funs, ok.frf⟩
/-- within an except's suite -/
abbrev Cx.inx (X : Cx) (e : Value) : Cx := { X with A := X.A.mark (some e), calm := false, xe := fun _ _ => False }
theorem Cx.Ok.inx (ok : X.Ok) (e : Value) : (X.inx e).Ok :=
  ⟨ok.mod, ok.kind, ok.glob, ok.blt, ok.above, ok.inj, ok.has, ok.cab, (fun z => by cases z), ok.frames, ok.stk, ok.exf, ok.bs, ok.bsz, ok.noex, ok.exfs, ok.funs, ok.frf⟩
theorem Inv.inx (I : Inv X pins σ H s) (e : Value) : Inv (X.inx e) pins σ H s := ⟨I.ok.inx e, I.os, I.bare, I.base, I.loc, I.cell, I.free, I.freeC, I.pin, I.hok, I.len⟩
theorem Inv.outx {e : Value} (J : Inv (X.inx e) pins σ H s) (ok : X.Ok) : Inv X pins σ H s := ⟨ok, J.os, J.bare, J.base, J.loc, J.cell, J.free, J.freeC, J.pin, J.hok, J.len⟩
/-- a name goes -/
theorem name_goes {M : Model} {A : Around} {E : Value → Shared → Prop} {i : Nat} {x : Str} {pos : Pos} {Q : Unit → Shared → Prop} (I : Inv X pins σ H s) (hN : X.N.Nodup) (hi : X.N[i]? = some x) (hk : X.env.scope.names.lookup x = some .local)
    (h : ∀ s', Inv X pins (σ.set i none) H s' → Q () s') : wpAny M A (do bindName X.env x .none; unbindBehindTheSuite X.env x pos) Q E s := by
  obtain ⟨m, hn, hl⟩ := id I.loc
  have hcls : (X.env.scope.kind == .class || (X.env.scope.kind == .module && X.env.locals != X.env.globals)) = false := by rw [I.ok.kind]; rfl
  have old : ∀ b o, X.s₀.heap.get? b = some o → b ≠ X.env.locals := fun b o e => Nat.ne_of_lt (Nat.lt_of_lt_of_le (Heap.lt_size e) I.ok.above)
  refine wpAny_nameGoes_keeps hk hn hcls fun h' v hn' hs => ?_
  refine h _ ⟨I.ok, I.os, I.bare, ⟨fun b o e n hb hx => (hs.2 b (old b o e)).trans (I.base.keep b o e n hb hx), fun b o e n hb hx => ?_, I.base.free, fun b o e hx => ?_, I.base.tups, I.base.frzs, I.base.tbls⟩, ⟨_, hn', fun j y v' e1 e2 e3 => ?_⟩, fun y c e => ?_, I.free, I.freeC, fun p hp => ?_, fun b ob e => ?_, by simpa using I.len⟩
  · obtain ⟨sl, e1⟩ := I.base.slot b o e n hb hx
    exact ⟨sl, (hs.2 b (old b o e)).trans e1⟩
  · obtain ⟨o', e1⟩ := I.base.there b o e hx
    exact ⟨o', (hs.2 b (old b o e)).trans e1⟩
  · have hj : i ≠ j := fun z => by
      subst z
      rcases get_set e2 with ⟨_, _, z⟩ | ⟨z, _⟩
      · cases z
      · exact z rfl
    rw [List.getElem?_set_ne hj] at e2
    obtain ⟨u, r, l⟩ := hl j y v' e1 e2 e3
    refine ⟨u, r, ?_⟩
    rcases l with ⟨l1, l2⟩ | ⟨k, c, e, o, z, d⟩
    · have hy : y ≠ x := fun z => by
        subst z
        exact hj ((List.getElem?_inj (List.getElem?_eq_some_iff.mp hi).1 hN).mp (hi.trans e1.symm))
      exact .inl ⟨l1, by show (if y = x then v else m y) = some u; rw [if_neg hy]; exact l2⟩
    · exact .inr ⟨k, c, e, o, (hs.2 c (I.cne y c e)).trans z, d⟩
  · obtain ⟨v, o, z, d⟩ := I.cell y c e
    exact ⟨v, o, (hs.2 c (I.cne y c e)).trans z, d⟩
  · obtain ⟨e, n, ne, nf, d⟩ := I.pin p hp
    exact ⟨(hs.2 p.1 ne).trans e, n, ne, nf, d⟩
  · refine (I.hok b ob e).stay (fun c w' hc q => (hs.2 c ?_).trans q) (fun _ q => q) fun _ _ q => q
    rintro rfl
    rcases hc with rfl | hc
    · rw [I.free] at e; cases e
    · rw [I.free] at hc; cases hc
theorem EnvP.drop {K : PySem.W.Frag} {P0 P : Addr → Prop} {ρ : Rho} (E : EnvP K P0 P H σ ρ) (i : Nat) : EnvP K P0 P H (σ.set i none) (ρ.set i none) := by
  have key : ∀ (j : Nat) (cl : Cl), (ρ.set i none)[j]? = some (some cl) → i ≠ j ∧ ρ[j]? = some (some cl) := fun j cl h => by
    rcases get_set h with ⟨_, _, z⟩ | z
    · cases z
    · exact z
  refine ⟨E.sub, E.trk, fun j d h => ?_, fun j ds h io => ?_, fun j k c c' v v' fp fp' h1 h2 h3 h4 h5 h6 hne => ?_, by simpa using E.len⟩
  · obtain ⟨n, h⟩ := key j _ h
    rw [List.getElem?_set_ne n]
    exact E.val j d h
  · obtain ⟨n, h⟩ := key j _ h
    rw [List.getElem?_set_ne n]
    exact E.ows j ds h io
  · obtain ⟨n1, h1⟩ := key j _ h1
    obtain ⟨n2, h2⟩ := key k _ h2
    rw [List.getElem?_set_ne n1] at h3
    rw [List.getElem?_set_ne n2] at h4
    exact E.apart j k c c' v v' fp fp' h1 h2 h3 h4 h5 h6 hne
theorem EnvP.blank {K : PySem.W.Frag} {P0 : Addr → Prop} {n : Nat} (ht : ∀ a, P0 a → Trk H a) : EnvP K P0 P0 H (List.replicate n none) (List.replicate n none) := by
  have key : ∀ {α : Type} (j : Nat) (cl : α), (List.replicate n (none : Option α))[j]? = some (some cl) → False := fun j cl h => by
    rw [List.getElem?_replicate] at h
    split at h <;> cases h
  exact ⟨fun _ h => h, ht, fun j d h => (key j _ h).elim, fun j d h _ => (key j _ h).elim, fun j k c c' v v' fp fp' h1 => (key j _ h1).elim, by simp⟩
/-- an exception caught here: the other names are forgotten -/
def dropM (i : Nat) (m : M Out) : M Out := match m with
  | .ok (.next ρ) => .ok (.next (ρ.set i none))
  | .ok (.ret d) => .ok (.ret d)
  | .ok (.brk ρ) => .ok (.brk (ρ.set i none))
  | .ok (.cont ρ) => .ok (.cont (ρ.set i none))
  | .ex _ => .bad
  | .bad => .bad
def tryM (n i : Nat) (anc : Str → Bool) (gb gs : Rho → M Out) (ρ : Rho) : M Out := match gb ρ with
  | .ok o => .ok o
  | .ex x => if anc x = true then dropM i (gs ((List.replicate n none).set i (some (.val (.exn x))))) else .bad
  | .bad => .bad
theorem ds_try {WX : Str → Hp → Prop} {C : Str} {CA : Addr} {n : Str} {body suite : List Stmt} {b0 : Stmt} {gb gs : Rho → M Out} {anc : Str → Bool} {cp hpos pos : Pos} (i : Nat) (hst : X.stack = X.env :: X.outer) (hfr : X.env.frame = some X.env.locals) (hN : X.N.Nodup) (hi : X.N[i]? = some n) (hx : X.env.scope.names.lookup n = some .local)
    (hg : Gl X C) (hm : X.mg C = some (.ref CA)) (hanc : ∀ x, anc x = true → ∃ c, PySem.W.nsIn X.K mainGlobals x = some (some (.ref c)) ∧ catIn X.K CA c = true)
    (hb : ∀ (xe : Value → Shared → Prop) (pn : List (Addr × Obj)) (E : XK), XCall { X with xe := xe, pn := pn } E → DSs { X with xe := xe, pn := pn } (wxOf X.K E) body gb)
    (hs : ∀ ea : Addr, DSs (X.inx (.ref ea)) (fun _ _ => False) (b0 :: suite) gs) (hdb : (C == ("__debug__" : Str)) = false := by decide) :
    DS X WX (.Try body [.ExceptHandler (some (.Name C cp)) (some n) (b0 :: suite) hpos] [] [] pos) (tryM X.N.length i anc gb gs) := by
  refine ⟨fun Z σ H => ∃ P0 P ρ, EnvP X.K P0 P H σ ρ ∧ gS X.K WX P0 P H Z (tryM X.N.length i anc gb gs ρ), ?_, fun P0 P σ H Z ρ E h => ⟨P0, P, ρ, E, h⟩⟩
  intro pins s σ H Z I ⟨P0, P, ρ, Ev, h⟩
  refine wpAny_Try_except ?_
  let xe : Value → Shared → Prop := fun e s₁ => wpAny (model X.prog X.w) X.A (noteFrame e X.env) (fun _ s₂ => wpAny (model X.prog X.w) X.A (setFlight e none) (fun _ s₃ => wpAny (model X.prog X.w) X.A (handleBy e X.env [.ExceptHandler (some (.Name C cp)) (some n) (b0 :: suite) hpos]) (SP X pins Z) X.xe s₃) X.xe s₂) X.xe s₁
  let Et : XK := fun cv _ H1 => ∃ c x, cv = .ref c ∧ PySem.W.nsIn X.K mainGlobals x = some (some (.ref c)) ∧ gb ρ = .ex x ∧ Tr P0 P H P0 H1
  have xc : XCall { X with xe := xe, pn := X.pn ++ pins } Et := by
    refine ⟨fun pins' σ' H0 s0 ev s1 I0 hcx => ?_, PassesOwn.looking⟩
    obtain ⟨ea, c, H1, rfl, hos, hba, U, hok, ⟨⟨a0, F⟩, hnew, hun, htr⟩, c', x, hcc, hns, hgb, htr'⟩ := hcx
    cases hcc
    have I0' : Inv X pins σ' H0 s0 := ⟨I.ok, I0.os, I0.bare, I0.base, I0.loc, I0.cell, I0.free, I0.freeC, fun p hp => I0.pin p (List.mem_append_left _ hp), I0.hok, I0.len⟩
    have J : Inv X pins σ' H1 s1 := I0'.call' (ch := []) hos U hok hba fun b hb => by cases hb
    obtain ⟨f1, f2, f3, oe, vs, T, oT, ts, k1, k2, k3, k4, k5, k6, k7, k8, k9⟩ := F
    have hT := htr oe vs T k1 k3 k4
    have hid : ∀ b ∈ [ea, T], H1 b = none ∧ s0.heap.get? b = none := fun b hb => by
      rcases List.mem_cons.mp hb with z | z
      · rw [z]; exact ⟨hun, hnew⟩
      · rw [List.mem_singleton.mp z]; exact hT
    have hcov : ∀ env ∈ X.stack, ∀ a, env.frame = some a → a ∈ frs X.stack ++ [ea, T] := fun env he a ha => List.mem_append_left _ (frs_in env he a ha)
    have FB : Heap.FlyingW (PySem.W.hideAll s1.heap (frs X.stack ++ [ea, T])) X.stack ea (.ref c) a0 s1.heap :=
      ⟨fun b o e => PySem.W.of_hideAll _ e, PySem.W.hideAll_none _ (by simp), PySem.W.funFrames_hide J.stack hcov, oe, vs, T, oT, ts, k1, k2, k3, k4, PySem.W.hideAll_none _ (by simp), k6, k7, k8, k9⟩
    obtain ⟨cc, hns2, hcat⟩ : ∃ c, PySem.W.nsIn X.K mainGlobals x = some (some (.ref c)) ∧ catIn X.K CA c = true := by
      unfold tryM at h
      rw [hgb] at h
      dsimp only at h
      by_cases ha : anc x = true
      · exact hanc x ha
      · rw [if_neg ha] at h; exact h.elim
    rw [hns] at hns2
    cases hns2
    have land : ∀ h4 : Heap, Heap.FlyingW (PySem.W.hideAll s1.heap (frs X.stack ++ [ea, T])) X.stack ea (.ref c) a0 h4 → s1.heap.UpToSlots h4 → Un (frs X.stack) [] H0 H1 s0.heap h4 ∧ HOk X.prog X.w H1 h4 := fun h4 F4 sl4 => land_ok I0' hos hba U hok hid F4.1 sl4
    show xe (.ref ea) s1
    refine wpAny_looks_onW (outer := X.outer) (L := X.env.locals) (I.ok.frames.trans (by rw [hst])) hfr (hst ▸ FB) fun h2 Hd sl2 => ?_
    refine wpAny_landsW Hd fun h3 F3 sl3 => ?_
    have F3 : Heap.FlyingW (PySem.W.hideAll s1.heap (frs X.stack ++ [ea, T])) X.stack ea (.ref c) a0 h3 := hst ▸ F3
    have sl13 : s1.heap.UpToSlots h3 := sl2.trans sl3
    obtain ⟨U3, ok3⟩ := land h3 F3 sl13
    have J3 : Inv X pins σ' H1 { s1 with heap := h3 } := I0'.call' (s' := { s1 with heap := h3 }) (ch := []) hos U3 ok3 hba fun b hb => by cases hb
    refine wpAny_handleBy_cons (codeAny_handlers_test ?_) (by intro q; cases q)
    refine ld_glob (X := X.inx (.ref ea)) (J3.inx _) hg hm ?_ hdb
    obtain ⟨oe3, vs3, e31, e32, e33, _⟩ := F3.first
    refine exc_match J3.kIn e31 e32 hcat ?_
    show codeAny _ _ _ _ _
    refine codeAny_handlers_suite_as ?_
    refine lands_againW F3 fun h4 F4 sl4 => ?_
    obtain ⟨U4, ok4⟩ := land h4 F4 (sl13.trans sl4)
    obtain ⟨oe4, vs4, e41, e42, e43, _⟩ := F4.first
    have fresh0 : H0 ea = none := I0'.hok.gone hnew
    have ad : HOk X.prog X.w (upd H1 ea (.ext (excP ea c))) h4 := ok4.adopt hun ⟨⟨oe4, e41, e42, by unfold PySem.W.notCls; rw [e43]⟩, ⟨oe4, e41⟩, fun ha hb2 ⟨o, q1, q2, q3⟩ k => ⟨o, k o q1, q2, q3⟩⟩
    have J4 : Inv X pins σ' (upd H1 ea (.ext (excP ea c))) { s1 with heap := h4 } := I0'.call' (s' := { s1 with heap := h4 }) (ch := []) hos (un_adopt U4 fresh0 hnew) ad hba fun b hb => by cases hb
    have Jw : Inv X pins (List.replicate X.N.length none) (upd H1 ea (.ext (excP ea c))) { s1 with heap := h4 } := J4.weak (by simp [J4.len]) fun j v e => by
      rw [List.getElem?_replicate] at e
      split at e <;> cases e
    refine store_ok (X := X.inx (.ref ea)) (v := .ref ea) (Jw.inx _) hN hi (.inl hx) rfl (fun s5 J5 => ?_) (.inr hx)
    obtain ⟨tsu, u1, u2⟩ := hs ea
    have trk : ∀ a, P0 a → Trk H1 a := fun a ha => by
      obtain ⟨o, q, r⟩ := Ev.trk a (Ev.sub a ha)
      exact ⟨o, (htr'.2 a ha).trans q, r⟩
    have nea : ∀ a, P0 a → a ≠ ea := fun a ha z => by
      obtain ⟨o, q, _⟩ := trk a ha
      rw [z, hun] at q; cases q
    have t5 : Tr P0 P H P0 (upd H1 ea (.ext (excP ea c))) := ⟨htr'.1.trans (same_new hun _).del, fun a ha => by rw [upd_ne (nea a ha)]; exact htr'.2 a ha⟩
    have E5 : EnvP X.K P0 P0 (upd H1 ea (.ext (excP ea c))) ((List.replicate X.N.length none).set i (some (.ref ea))) ((List.replicate X.N.length none).set i (some (.val (.exn x)))) := by
      refine EnvP.setv (EnvP.blank fun a ha => ?_) (.exn hns ?_)
      · unfold Trk; rw [upd_ne (nea a ha)]; exact trk a ha
      · rw [del_of fun z => nea ea z rfl]; exact upd_same
    let Z' : Ends := { nx := fun σ' H' => Z.nx (σ'.set i none) H', rt := Z.rt, bk := fun σ' H' => Z.bk (σ'.set i none) H', ct := fun σ' H' => Z.ct (σ'.set i none) H' }
    refine wpAny_mono (u1 pins s5 _ _ Z' J5 (u2 P0 P0 _ _ Z' _ E5 ?_)) (fun f s6 hf => ?_) fun _ _ z => z.elim
    · unfold tryM at h
      rw [hgb] at h
      dsimp only at h
      by_cases ha : anc x = true
      · rw [if_pos ha] at h
        have g := gS.tr h t5
        unfold dropM at g
        cases q : gs ((List.replicate X.N.length none).set i (some (.val (.exn x)))) with
        | bad => rw [q] at g; exact g
        | ex y => rw [q] at g; exact g.elim
        | ok o =>
          rw [q] at g
          cases o with
          | ret d => exact g
          | next r => exact fun σ2 H2 P2 t2 e2 => g _ H2 P2 t2 (e2.drop i)
          | brk r => exact fun σ2 H2 P2 t2 e2 => g _ H2 P2 t2 (e2.drop i)
          | cont r => exact fun σ2 H2 P2 t2 e2 => g _ H2 P2 t2 (e2.drop i)
      · rw [if_neg ha] at h; exact h.elim
    · show wpAny _ _ _ _ _ _
      cases f with
      | next => obtain ⟨σ2, H2, J, q⟩ := hf; exact name_goes (J.outx I.ok) hN hi hx fun s7 J7 => ⟨_, H2, J7, q⟩
      | brk => obtain ⟨σ2, H2, J, q⟩ := hf; exact name_goes (J.outx I.ok) hN hi hx fun s7 J7 => ⟨_, H2, J7, q⟩
      | cont => obtain ⟨σ2, H2, J, q⟩ := hf; exact name_goes (J.outx I.ok) hN hi hx fun s7 J7 => ⟨_, H2, J7, q⟩
      | ret u => obtain ⟨v, σ2, H2, J, r, q⟩ := hf; exact name_goes (J.outx I.ok) hN hi hx fun s7 J7 => ⟨v, _, H2, J7, r, q⟩
  have Ib : Inv { X with xe := xe, pn := X.pn ++ pins } [] σ H s := ⟨I.ok.re _ _, I.os, I.bare, I.base, I.loc, I.cell, I.free, I.freeC, fun p hp => I.pin p (by simpa using hp), I.hok, I.len⟩
  obtain ⟨tb, b1, b2⟩ := hb xe (X.pn ++ pins) Et xc
  have back : ∀ {σ2 : St} {H2 : Hp} {s2 : Shared}, Inv { X with xe := xe, pn := X.pn ++ pins } [] σ2 H2 s2 → Inv X pins σ2 H2 s2 := fun J => ⟨I.ok, J.os, J.bare, J.base, J.loc, J.cell, J.free, J.freeC, fun p hp => J.pin p (by simpa using hp), J.hok, J.len⟩
  refine wpAny_mono (b1 [] s σ H Z Ib (b2 P0 P σ H Z ρ Ev ?_)) (fun f s2 hf => ?_) fun _ _ z => z
  · unfold tryM at h
    cases q : gb ρ with
    | bad => rw [q] at h; exact h
    | ok o => rw [q] at h; cases o <;> exact h
    | ex x =>
      rw [q] at h
      dsimp only at h
      by_cases ha : anc x = true
      · intro H' P' t
        obtain ⟨c, hns, _⟩ := hanc x ha
        refine ⟨c, hns, c, x, rfl, hns, q, ⟨fun b o e => ?_, t.2⟩⟩
        obtain ⟨e1, e2⟩ := del_some e
        rw [del_of fun z => e1 (Ev.sub b z)]
        exact del_full _ _ (t.1 b o e)
      · rw [if_neg ha] at h; exact h.elim
  · cases f with
    | next => obtain ⟨σ2, H2, J, q⟩ := hf; exact wpAny_execs_nil ⟨σ2, H2, back J, q⟩
    | brk => obtain ⟨σ2, H2, J, q⟩ := hf; exact ⟨σ2, H2, back J, q⟩
    | cont => obtain ⟨σ2, H2, J, q⟩ := hf; exact ⟨σ2, H2, back J, q⟩
    | ret u => obtain ⟨v, σ2, H2, J, r, q⟩ := hf; exact ⟨v, σ2, H2, back J, r, q⟩
end
end L2

set_option Elab.async false
set_option linter.all false
set_option maxRecDepth 100000
namespace L2
open PySem PySem.Spec PyProof.Rows
section
variable {X : Cx} {WX : Str → Hp → Prop} {c : Bool} {a b e : Expr} {f g : Rho → M D} {pos p : Pos}
/-! list + list -/
def rCatS (K : PySem.W.Frag) : R2 := fun x y H Q => ∃ l b xs zs, x = .ref l ∧ y = .ref b ∧ SqL K H l xs ∧ SqL K H b zs ∧ xs.length + zs.length ≤ sizeLine ∧ ∀ p, H p = none → Q (.ref p) (upd H p (.lst (xs ++ zs)))
theorem op_catS : OpR X (binaryOp .Add) (rCatS X.K) := by
  intro pins s σ H x y v u Q I rx ry h
  obtain ⟨l, b, xs, zs, rfl, rfl, h1, h2, hz, q⟩ := h
  cases rx
  cases ry
  obtain ⟨its, r, ⟨⟨c1, d1, t1, sl1⟩, n, e1, q1, q2, q3⟩, hz1⟩ := I.list h1
  obtain ⟨its2, r2, ⟨⟨c2, d2, t2, sl2⟩, n2, e2, q4, q5, q6⟩, hz2⟩ := I.list h2
  dsimp only at q1 q2 q3 q4 q5 q6
  subst q1 q2 q3 q4 q5 q6
  have l1 := r.length
  have l2 := r2.length
  refine concat_meets ⟨_, e1, rfl⟩ ⟨_, e2, rfl⟩ noFill_list_add seq_list_add PySem.F.slot_list_add PySem.F.entry_list_add (PySem.F.args_list_add_2 _ _) (list_addW l b its.toArray its2.toArray n n2 none none sl1 sl2 (by rw [List.size_toArray, List.size_toArray]; omega)) ⟨e1, e2, ?_⟩
  rw [show its.toArray ++ its2.toArray = (its ++ its2).toArray by simp]
  exact ⟨.ref _, _, I.lnew (t' := s.toks) (r.append r2) (by rw [List.length_append]; omega), rfl, q _ I.fresh⟩
def dPlus (x y : D) : M D := match x, y with
  | .int i, .int j => .ok (.int (i + j))
  | .lst ds, .lst es => if ds.length + es.length ≤ 1000 then .ok (.lst (ds ++ es)) else .bad
  | _, _ => .bad
theorem HasL.app {K : PySem.W.Frag} {H : Hp} : ∀ {xs ys : List V} {ds es : List D}, HasL K H xs ds → HasL K H ys es → HasL K H (xs ++ ys) (ds ++ es)
  | _, _, _, _, .nil, h => h
  | _, _, _, _, .cons a t, h => .cons a (t.app h)
theorem opd_plus : OpD X.K WX (fun x y H Q => rI0 (fun i j => .int (i + j)) x y H Q ∨ rCatS X.K x y H Q) dPlus := by
  intro P H x y v w Q ht hx hy h
  unfold dPlus at h
  split at h
  · rename_i i j
    rw [hx.int_inv, hy.int_inv]
    exact .inl ⟨i, j, rfl, rfl, h _ H (Same.refl H) (.int _)⟩
  · rename_i ds es
    by_cases hl : ds.length + es.length ≤ 1000
    · rw [if_pos hl] at h
      cases hx with
      | lst h1 h2 =>
        cases hy with
        | lst h3 h4 =>
          refine .inr ⟨_, _, _, _, rfl, rfl, h1.undel, h3.undel, Nat.le_of_lt (small1000 (by rw [h2.length, h4.length]; exact hl)), fun p hp => h _ _ (same_new hp _) (.lst (.of (new_del hp ht)) ((h2.app h4).mono (same_new hp _).del))⟩
    · rw [if_neg hl] at h; exact h.elim
  · exact h.elim
theorem de_plus (ha : DE X WX c a f) (hb : DE X WX c b g) : DE X WX c (.BinOp a .Add b pos) (fun ρ => (f ρ).bind fun x => (g ρ).bind fun y => dPlus x y) := de_op (op_add.or op_catS) opd_plus ha hb
/-! in, not in: a list of ints -/
def dIn (neg : Bool) (x y : D) : M D := match x, y with
  | .int i, .lst ds => (match intsD ds with | some ns => .ok (.bl (if neg then !ns.contains i else ns.contains i)) | none => .bad)
  | _, _ => .bad
theorem inV_ints (i : Int) (ns : List Int) : inV (.int i) (ns.map V.int) = ns.contains i := by
  unfold inV
  induction ns with
  | nil => rfl
  | cons n r ih =>
    rw [List.map_cons, List.any_cons, ih, List.contains_cons]
    congr 1
    show (n == i) = (i == n)
    rw [Bool.eq_iff_iff, beq_iff_eq, beq_iff_eq]
    exact eq_comm
theorem flat_ints (ns : List Int) : (ns.map V.int).all flatV = true := by
  induction ns with
  | nil => rfl
  | cons n r ih => rw [List.map_cons, List.all_cons, ih]; rfl
theorem opd_in {neg : Bool} : OpD X.K WX (rIn X.K neg) (dIn neg) := by
  intro P H x y v w Q ht hx hy h
  unfold dIn at h
  split at h
  · rename_i i ds
    split at h
    · rename_i ns hn
      cases hx
      cases hy with
      | lst h1 h2 =>
        have e := hasL_ints h2 hn
        subst e
        refine ⟨_, _, rfl, .inl h1.undel, rfl, flat_ints ns, ?_⟩
        rw [inV_ints]
        exact h _ H (Same.refl H) (.bl _)
    · exact h.elim
  · exact h.elim
theorem de_in (ha : DE X WX c a f) (hb : DE X WX c b g) (hm : behindInMarks .In b = false := by rfl) : DE X WX c (.Compare a [.In] [b] pos) (fun ρ => (f ρ).bind fun x => (g ρ).bind fun y => dIn false x y) := de_cmp op_in_seq opd_in ha hb hm
theorem de_notIn (ha : DE X WX c a f) (hb : DE X WX c b g) (hm : behindInMarks .NotIn b = false := by rfl) : DE X WX c (.Compare a [.NotIn] [b] pos) (fun ρ => (f ρ).bind fun x => (g ρ).bind fun y => dIn true x y) := de_cmp op_notIn_seq opd_in ha hb hm
theorem dt_in (ha : DE X WX c a f) (hb : DE X WX c b g) (hm : behindInMarks .In b = false := by rfl) : DT X WX (.Compare a [.In] [b] pos) (fun ρ => ((f ρ).bind fun x => (g ρ).bind fun y => dIn false x y).bind asB) := dt_cmpR op_in_seq opd_in ha hb hm
theorem dt_notIn (ha : DE X WX c a f) (hb : DE X WX c b g) (hm : behindInMarks .NotIn b = false := by rfl) : DT X WX (.Compare a [.NotIn] [b] pos) (fun ρ => ((f ρ).bind fun x => (g ρ).bind fun y => dIn true x y).bind asB) := dt_cmpR op_notIn_seq opd_in ha hb hm
end
/-! own exception classes of the text -/
structure ClsAt (K : PySem.W.Frag) (mg : Str → Option Value) (x : Str) : Prop where
  ex : ∃ C, PySem.W.nsIn K mainGlobals x = some (some (.ref C)) ∧ mg x = some (.ref C) ∧ PySem.W.excIn K C [.type "ValueError", .type "Exception", .type "BaseException", .type "object"] "ValueError.__new__" = true
structure CatAt (K : PySem.W.Frag) (mg : Str → Option Value) (y x : Str) : Prop where
  ex : ∃ C c, mg y = some (.ref C) ∧ PySem.W.nsIn K mainGlobals x = some (some (.ref c)) ∧ catIn K C c = true
structure UpAt (K : PySem.W.Frag) (mg : Str → Option Value) (x y : Str) (b : Bool) : Prop where
  ex : ∃ C c, mg y = some (.ref C) ∧ PySem.W.nsIn K mainGlobals x = some (some (.ref c)) ∧ PySem.W.kitOne K (.ref c) (.ref C) = some b ∧ xcIn K c = true
structure UpB (K : PySem.W.Frag) (x : Str) (T : String) (b : Bool) : Prop where
  ex : ∃ c, PySem.W.nsIn K mainGlobals x = some (some (.ref c)) ∧ PySem.W.kitOne K (.ref c) (.type T) = some b ∧ xcIn K c = true
theorem xcIn_mk {K : PySem.W.Frag} {D : Addr} (h1 : PySem.W.findIn K (.ref D) "__getattribute__" = some (some (.builtin "BaseException.__getattribute__"))) (h0 : PySem.W.findIn K (.ref D) "__getattr__" = some none) (h2 : PySem.W.hasDictIn K D = true) (h3 : PySem.W.findIn K (.ref D) "__class__" = some (some (.builtin "object.__class__")))
    (h4 : PySem.W.specialIn K (.builtin "object.__class__") "__get__" = some (some (.builtin "getset_descriptor.__get__"))) (h5 : PySem.W.takesIn K (.builtin "object.__class__") = some true) (h6 : PySem.W.mroIn K D (.type "object") = some true) (h7 : PySem.W.mroIn K D (.type "BaseException") = some true) : xcIn K D = true := by
  unfold xcIn
  obtain ⟨cd, hc, _⟩ := PySem.W.any_some h2
  rw [h1, h0, hc, h3, h4, h5, h6, h7]
  rfl
theorem catIn_mk {K : PySem.W.Frag} {C D : Addr} (h1 : PySem.W.instIn K (.ref C) (.type "tuple") = some false) (h2 : PySem.W.hasDictIn K C = true) (h3 : PySem.W.mroIn K C (.type "BaseException") = some true) (h4 : PySem.W.mroIn K D (.ref C) = some true) : catIn K C D = true := by
  unfold catIn
  obtain ⟨cd, hc, _⟩ := PySem.W.any_some h2
  rw [h1, hc, h3, h4]
  rfl
def one (x : Str) (b : Bool) : Str → Option Bool := fun y => if y = x then some b else none
section
variable {X : Cx} {E : XK} {WX : Str → Hp → Prop} {c : Bool} {e : Expr} {f : Rho → M D} {pos p : Pos}
theorem ds_raiseT {x : Str} {np cpos : Pos} (T : ClsAt X.K X.mg x) (xo : XOk X E) (hc : X.calm = true) (hg : Gl X x) (ha : DE X (wxOf X.K E) c e f) (hdb : (x == ("__debug__" : Str)) = false := by decide) (he : starEach [e] X.env = [(false, eval e X.env)] := by rfl) (hplain : (backTo cpos (starEach [e] X.env)).any (·.1) = false := by rfl) :
    DS X (wxOf X.K E) (.Raise (some (.Call (.Name x np) [e] [] cpos)) none pos) (fun ρ => (f ρ).bind fun _ => .ex x) := by
  obtain ⟨C, h1, h2, h3⟩ := T.ex
  exact ds_raise xo hc PySem.F.excBase_ValueError h1 h3 hg h2 ha hdb he hplain
theorem tabX_one {K : PySem.W.Frag} {x : Str} {b : Bool} {Cv : Value} (h : ∃ c, PySem.W.nsIn K mainGlobals x = some (some (.ref c)) ∧ PySem.W.kitOne K (.ref c) Cv = some b ∧ xcIn K c = true) : TabX K Cv (one x b) := by
  intro y b' c' h1 h2
  unfold one at h1
  split at h1
  · rename_i e
    subst e
    obtain ⟨c, g1, g2, g3⟩ := h
    rw [h2] at g1
    cases g1
    cases h1
    exact ⟨g2, g3⟩
  · cases h1
theorem de_isxO {x x2 : Str} {b : Bool} {p2 : Pos} (T : UpAt X.K X.mg x x2 b) (hg : Gl X "isinstance") (hm : X.mg "isinstance" = none) (hg2 : Gl X x2) (ha : DE X WX c e f)
    (hb : bootBuiltins "isinstance" = some (.builtin "isinstance") := by decide +kernel) (hdb2 : (x2 == ("__debug__" : Str)) = false := by decide) (hs : starEach [e, .Name x2 p2] X.env = (false, eval e X.env) :: starEach [.Name x2 p2] X.env := by rfl) (hs2 : starEach [.Name x2 p2] X.env = [(false, eval (.Name x2 p2) X.env)] := by rfl)
    (hpl : (backTo pos (starEach [.Name x2 p2] X.env)).any (·.1) = false := by rfl) :
    DE X WX c (.Call (.Name "isinstance" p) [e, .Name x2 p2] [] pos) (fun ρ => (f ρ).bind (dIsX (one x b))) := by
  obtain ⟨C, c, h1, h2, h3, h4⟩ := T.ex
  exact de_isXO (tabX_one ⟨c, h2, h3, h4⟩) hg hm hg2 h1 ha hb hdb2 hs hs2 hpl
theorem de_isxB {x : Str} {Ty : String} {x2 : Str} {b : Bool} {p2 : Pos} (T : UpB X.K x Ty b) (hg : Gl X "isinstance") (hm : X.mg "isinstance" = none) (hg2 : Gl X x2) (hm2 : X.mg x2 = none) (hv2 : bootBuiltins x2 = some (.type Ty)) (ha : DE X WX c e f)
    (hb : bootBuiltins "isinstance" = some (.builtin "isinstance") := by decide +kernel) (hn2 : x2 ≠ "__name__" := by decide) (hdb2 : (x2 == ("__debug__" : Str)) = false := by decide) (hs : starEach [e, .Name x2 p2] X.env = (false, eval e X.env) :: starEach [.Name x2 p2] X.env := by rfl) (hs2 : starEach [.Name x2 p2] X.env = [(false, eval (.Name x2 p2) X.env)] := by rfl)
    (hpl : (backTo pos (starEach [.Name x2 p2] X.env)).any (·.1) = false := by rfl) :
    DE X WX c (.Call (.Name "isinstance" p) [e, .Name x2 p2] [] pos) (fun ρ => (f ρ).bind (dIsX (one x b))) :=
  de_isXB (tabX_one T.ex) hg hm hg2 hm2 hv2 ha hb hn2 hdb2 hs hs2 hpl
theorem ds_tryT {C x : Str} {n : Str} {body suite : List Stmt} {b0 : Stmt} {gb gs : Rho → M Out} {cp hpos : Pos} {i m : Nat} (T : CatAt X.K X.mg C x) (hst : X.stack = X.env :: X.outer) (hfr : X.env.frame = some X.env.locals) (hN : X.N.Nodup) (hi : X.N[i]? = some n) (hx : X.env.scope.names.lookup n = some .local) (hg : Gl X C)
    (hb : ∀ (xe : Value → Shared → Prop) (pn : List (Addr × Obj)) (E : XK), XCall { X with xe := xe, pn := pn } E → DSs { X with xe := xe, pn := pn } (wxOf X.K E) body gb)
    (hs : ∀ ea : Addr, DSs (X.inx (.ref ea)) (fun _ _ => False) (b0 :: suite) gs) (hl : X.N.length = m := by rfl) (hdb : (C == ("__debug__" : Str)) = false := by decide) :
    DS X WX (.Try body [.ExceptHandler (some (.Name C cp)) (some n) (b0 :: suite) hpos] [] [] pos) (tryM m i (fun y => decide (y = x)) gb gs) := by
  obtain ⟨CA, c, h1, h2, h3⟩ := T.ex
  subst hl
  exact ds_try i hst hfr hN hi hx hg h1 (fun y hy => by rw [of_decide_eq_true hy]; exact ⟨c, h2, h3⟩) hb hs hdb
end
end L2

set_option Elab.async false
set_option linter.all false
set_option maxRecDepth 100000
namespace L2
open PySem PySem.Spec PyProof.Rows
/-- a product of numbers that are not too long -/
def CMulB (i j : Int) : Prop := (i.natAbs < 2 ^ 1000 ∧ j.natAbs < 2 ^ 1000) ∨ CMul i j
instance (i j : Int) : Decidable (CMulB i j) := by unfold CMulB; infer_instance
theorem bits_1000 {i : Int} (h : i.natAbs < 2 ^ 1000) : Builtin.Int.intBits i ≤ 2 ^ 20 := by
  unfold Builtin.Int.intBits
  split
  · exact Nat.zero_le _
  · rename_i z
    have h0 : i.natAbs ≠ 0 := fun q => z (by rw [Int.natAbs_eq_zero.mp q]; rfl)
    have := (Nat.log2_lt h0).mpr h
    have h3 : (1000 : Nat) ≤ 2 ^ 20 := by decide
    exact Nat.le_trans this h3
theorem CMulB.ok {i j : Int} (h : CMulB i j) : IntMulOk i j := by
  rcases h with ⟨h1, h2⟩ | h
  · exact IntMulOk.of_bits (bits_1000 h1) (bits_1000 h2)
  · exact h.ok
theorem op_mulB {X : Cx} : OpR X (binaryOp .Mult) (rI CMulB fun i j => .int (i * j)) := opI fun _ _ _ _ _ _ _ hc q => mul_int q hc.ok
def dMulB := onInts fun i j => if CMulB i j then .ok (.int (i * j)) else .bad
theorem de_mulB {X : Cx} {WX : Str → Hp → Prop} {c : Bool} {a b : Expr} {f g : Rho → M D} {pos : Pos} (ha : DE X WX c a f) (hb : DE X WX c b g) : DE X WX c (.BinOp a .Mult b pos) (fun ρ => (f ρ).bind fun x => (g ρ).bind fun y => dMulB x y) := de_op op_mulB (opd_rI fun _ _ _ _ => .int _) ha hb
/-- a loop that an exception may leave -/
theorem finX_for {gt : D → Rho → M Rho} {gb : Rho → M Out} {ds : List D} {ρ : Rho} {k : Rho → M Out} {r : M D} (I : Nat → Rho → Prop) (h0 : I 0 ρ)
    (step : ∀ i d ρ, ds[i]? = some d → I i ρ → (∃ ρ1 ρ2, gt d ρ = .ok ρ1 ∧ gb ρ1 = .ok (.next ρ2) ∧ I (i + 1) ρ2) ∨ ∃ ρ1 x, gt d ρ = .ok ρ1 ∧ gb ρ1 = .ex x ∧ r = .ex x)
    (hk : ∀ ρ', I ds.length ρ' → finX (k ρ') = r) : finX (seqM (forM gt gb ds ρ) k) = r := by
  have key : ∀ (n i : Nat) (ρ : Rho), i + n = ds.length → I i ρ → (∃ ρ', forM gt gb (ds.drop i) ρ = .ok (.next ρ') ∧ I ds.length ρ') ∨ ∃ x, forM gt gb (ds.drop i) ρ = .ex x ∧ r = .ex x := by
    intro n
    induction n with
    | zero =>
      intro i ρ hi h
      have e : i = ds.length := by omega
      subst e
      exact .inl ⟨ρ, by rw [List.drop_length, forM], h⟩
    | succ n ih =>
      intro i ρ hi h
      have hlt : i < ds.length := by omega
      rcases step i ds[i] ρ (List.getElem?_eq_getElem hlt) h with ⟨ρ1, ρ2, h1, h2, h3⟩ | ⟨ρ1, x, h1, h2, h3⟩
      · rcases ih (i + 1) ρ2 (by omega) h3 with ⟨ρ', h4, h5⟩ | ⟨x, h4, h5⟩
        · refine .inl ⟨ρ', ?_, h5⟩
          rw [drop_get hlt, forM, h1]
          dsimp only
          rw [h2]
          exact h4
        · refine .inr ⟨x, ?_, h5⟩
          rw [drop_get hlt, forM, h1]
          dsimp only
          rw [h2]
          exact h4
      · refine .inr ⟨x, ?_, h3⟩
        rw [drop_get hlt, forM, h1]
        dsimp only
        rw [h2]
  rcases key ds.length 0 ρ (by omega) h0 with ⟨ρ', h1, h2⟩ | ⟨x, h1, h2⟩
  · rw [List.drop_zero] at h1
    rw [h1, seqM_next]
    exact hk ρ' h2
  · rw [List.drop_zero] at h1
    rw [h1, h2]
    rfl
/-- fin_for, for any word about the end -/
theorem fin_forE {gt : D → Rho → M Rho} {gb : Rho → M Out} {ds : List D} {ρ : Rho} {k : Rho → M Out} (R : M D → Prop) (I : Nat → Rho → Prop) (h0 : I 0 ρ)
    (step : ∀ i d ρ, ds[i]? = some d → I i ρ → ∃ ρ1 ρ2, gt d ρ = .ok ρ1 ∧ gb ρ1 = .ok (.next ρ2) ∧ I (i + 1) ρ2) (hk : ∀ ρ', I ds.length ρ' → R (fin (k ρ'))) : R (fin (seqM (forM gt gb ds ρ) k)) := by
  have key : ∀ (n i : Nat) (ρ : Rho), i + n = ds.length → I i ρ → ∃ ρ', forM gt gb (ds.drop i) ρ = .ok (.next ρ') ∧ I ds.length ρ' := by
    intro n
    induction n with
    | zero =>
      intro i ρ hi h
      have e : i = ds.length := by omega
      subst e
      exact ⟨ρ, by rw [List.drop_length, forM], h⟩
    | succ n ih =>
      intro i ρ hi h
      have hlt : i < ds.length := by omega
      obtain ⟨ρ1, ρ2, h1, h2, h3⟩ := step i ds[i] ρ (List.getElem?_eq_getElem hlt) h
      obtain ⟨ρ', h4, h5⟩ := ih (i + 1) ρ2 (by omega) h3
      refine ⟨ρ', ?_, h5⟩
      rw [drop_get hlt, forM, h1]
      dsimp only
      rw [h2]
      exact h4
  obtain ⟨ρ', h1, h2⟩ := key ds.length 0 ρ (by omega) h0
  rw [List.drop_zero] at h1
  rw [h1, seqM_next]
  exact hk ρ' h2
theorem fin_seq {m : M Out} {k : Rho → M Out} {ρ : Rho} {r : M D} (h : m = .ok (.next ρ)) (hk : fin (k ρ) = r) : fin (seqM m k) = r := by
  rw [h]
  exact hk
theorem fin_ret {m : M D} {d : D} {r : M D} (h : m = .ok d) (hk : .ok d = r) : fin (m.bind fun d => .ok (.ret d)) = r := by
  rw [h]
  exact hk
theorem compM_filter {gt : D → Rho → M Rho} {ft : Rho → M Bool} {fe : Rho → M D} {ρ : Rho} (p : D → Bool) (f : D → D) : ∀ (ds : List D), (∀ d ∈ ds, ∃ ρ1, gt d ρ = .ok ρ1 ∧ ft ρ1 = .ok (p d) ∧ (p d = true → fe ρ1 = .ok (f d))) → compM gt ft fe ds ρ = .ok ((ds.filter p).map f)
  | [], _ => rfl
  | d :: r, h => by
    obtain ⟨ρ1, h1, h2, h3⟩ := h d List.mem_cons_self
    have ih := compM_filter p f r fun d hd => h d (List.mem_cons_of_mem _ hd)
    rw [compM, h1]
    dsimp only
    rw [h2]
    dsimp only
    by_cases hp : p d = true
    · rw [if_pos hp, h3 hp]
      dsimp only
      rw [ih, List.filter_cons_of_pos hp]
      rfl
    · rw [if_neg hp, ih, List.filter_cons_of_neg hp]
theorem rangeD_map (n : Nat) : rangeD 0 n = (List.range n).map fun i : Nat => D.int (i : Int) := by
  apply List.ext_getElem?
  intro i
  rw [List.getElem?_map]
  by_cases h : i < n
  · have hi : i < (rangeD 0 n).length := by rw [rangeD_len]; exact h
    have e := List.getElem?_eq_getElem hi
    obtain ⟨h1, _⟩ := rangeD_get e
    rw [e, h1, List.getElem?_range h, Int.zero_add]
    rfl
  · rw [List.getElem?_eq_none (by rw [rangeD_len]; omega), List.getElem?_eq_none (by simp; omega)]
    rfl
theorem intsD_map (ns : List Int) : intsD (ns.map D.int) = some ns := by
  induction ns with
  | nil => rfl
  | cons n r ih => rw [List.map_cons, intsD, ih]; rfl
theorem dSl_drop (ds : List D) (n : Nat) : dSl (some (n : Int)) none (.lst ds) = .ok (.lst (ds.drop n)) := by
  unfold dSl
  dsimp only
  rw [HT.sIx_none, HT.sIx_nat]
  congr 2
  by_cases h : n ≤ ds.length
  · rw [Nat.min_eq_left h, List.take_of_length_le (by rw [List.length_drop]; exact Nat.le_refl _)]
  · rw [Nat.min_eq_right (by omega), List.drop_of_length_le (Nat.le_refl _), List.drop_of_length_le (by omega), List.take_nil]
end L2

set_option Elab.async false
set_option linter.all false
set_option maxRecDepth 100000
namespace L2
open PySem PySem.Spec PyProof.Rows

/-! ### plain data: how deep, and no exception within -/
def Pl (n : Nat) (d : D) : Prop := dep d ≤ n ∧ noX d = true
theorem deps_le {n : Nat} : ∀ {ds : List D}, (∀ d ∈ ds, dep d ≤ n) → deps ds ≤ n
  | [], _ => by rw [deps]; exact Nat.zero_le _
  | d :: r, h => by
    rw [deps]
    exact Nat.max_le.mpr ⟨h d List.mem_cons_self, deps_le fun d hd => h d (List.mem_cons_of_mem _ hd)⟩
theorem noXs_of : ∀ {ds : List D}, (∀ d ∈ ds, noX d = true) → noXs ds = true
  | [], _ => by rw [noXs]
  | d :: r, h => by
    rw [noXs, h d List.mem_cons_self, noXs_of fun d hd => h d (List.mem_cons_of_mem _ hd)]
    rfl
theorem pl_int {n : Nat} (i : Int) : Pl n (.int i) := ⟨by rw [dep]; exact Nat.zero_le _; all_goals simp, by rw [noX]; all_goals simp⟩
theorem pl_non {n : Nat} : Pl n .non := ⟨by rw [dep]; exact Nat.zero_le _; all_goals simp, by rw [noX]; all_goals simp⟩
theorem pl_bl {n : Nat} (b : Bool) : Pl n (.bl b) := ⟨by rw [dep]; exact Nat.zero_le _; all_goals simp, by rw [noX]; all_goals simp⟩
theorem pl_str {n : Nat} (x : String) : Pl n (.str x) := ⟨by rw [dep]; exact Nat.zero_le _; all_goals simp, by rw [noX]; all_goals simp⟩
theorem pl_tup {n : Nat} {ds : List D} (h : ∀ d ∈ ds, Pl n d) : Pl (n + 1) (.tup ds) :=
  ⟨by rw [dep]; exact Nat.succ_le_succ (deps_le fun d hd => (h d hd).1), by rw [noX]; exact noXs_of fun d hd => (h d hd).2⟩
theorem pl_lst {n : Nat} {ds : List D} (h : ∀ d ∈ ds, Pl n d) : Pl (n + 1) (.lst ds) :=
  ⟨by rw [dep]; exact Nat.succ_le_succ (deps_le fun d hd => (h d hd).1), by rw [noX]; exact noXs_of fun d hd => (h d hd).2⟩
theorem pl_ints {n : Nat} (ns : List Int) : Pl (n + 1) (.lst (ns.map D.int)) := pl_lst fun d hd => by
  obtain ⟨i, _, rfl⟩ := List.mem_map.mp hd
  exact pl_int i
theorem Pl.le {n m : Nat} {d : D} (h : Pl n d) (k : n ≤ m) : Pl m d := ⟨Nat.le_trans h.1 k, h.2⟩
theorem pl_nil {n : Nat} : ∀ d ∈ ([] : List D), Pl n d := fun d h => by cases h
theorem pl_cons {n : Nat} {d : D} {ds : List D} (h : Pl n d) (t : ∀ d ∈ ds, Pl n d) : ∀ e ∈ d :: ds, Pl n e := fun e he => by
  rcases List.mem_cons.mp he with rfl | he
  · exact h
  · exact t e he
theorem dEq_pl {n : Nat} {x y : D} (h : Pl n x) (k : Pl n y) : dEq n x y = .ok (.bl (eqD x y)) := by
  unfold dEq
  rw [if_pos ⟨h.1, h.2, k.2⟩]
theorem dNe_pl {n : Nat} {x y : D} (h : Pl n x) (k : Pl n y) : dNe n x y = .ok (.bl (!eqD x y)) := by
  unfold dNe
  rw [if_pos ⟨h.1, h.2, k.2⟩]
theorem dEq_same {n : Nat} {x : D} (h : Pl n x) : dEq n x x = .ok (.bl true) := by rw [dEq_pl h h, eqD_refl]
theorem dNe_same {n : Nat} {x : D} (h : Pl n x) : dNe n x x = .ok (.bl false) := by rw [dNe_pl h h, eqD_refl]; rfl
theorem compM_all {gt : D → Rho → M Rho} {ft : Rho → M Bool} {fe : Rho → M D} {ρ : Rho} (f : D → D) (ds : List D) (h : ∀ d ∈ ds, ∃ ρ1, gt d ρ = .ok ρ1 ∧ ft ρ1 = .ok true ∧ fe ρ1 = .ok (f d)) : compM gt ft fe ds ρ = .ok (ds.map f) := by
  rw [compM_filter (fun _ => true) f ds fun d hd => by
    obtain ⟨ρ1, h1, h2, h3⟩ := h d hd
    exact ⟨ρ1, h1, h2, fun _ => h3⟩]
  rw [List.filter_eq_self.mpr fun _ _ => rfl]
theorem dSl_mid (ds : List D) (a b : Nat) : dSl (some (a : Int)) (some (b : Int)) (.lst ds) = .ok (.lst ((ds.drop a).take (b - a))) := by
  unfold dSl
  dsimp only
  rw [HT.sIx_nat, HT.sIx_nat]
  congr 2
  by_cases h : a ≤ ds.length
  · rw [Nat.min_eq_left h]
    by_cases h2 : b ≤ ds.length
    · rw [Nat.min_eq_left h2]
    · rw [Nat.min_eq_right (by omega), List.take_of_length_le (by rw [List.length_drop]; exact Nat.le_refl _), List.take_of_length_le (by rw [List.length_drop]; omega)]
  · rw [Nat.min_eq_right (show ds.length ≤ a by omega), List.drop_of_length_le (Nat.le_refl _), List.drop_of_length_le (show ds.length ≤ a by omega), List.take_nil, List.take_nil]
end L2

set_option Elab.async false
set_option linter.all false
set_option maxRecDepth 100000
namespace L2
open PySem PySem.Spec PyProof.Rows

section
variable {X : Cx} {WX : Str → Hp → Prop} {c : Bool} {P0 P : Addr → Prop} {H : Hp} {σ : St} {ρ : Rho} {a b e : Expr} {f g : Rho → M D} {ft gt : Rho → M Bool} {pos : Pos} {st : Stmt} {rest : List Stmt} {g1 g2 : Rho → M Out}
theorem hasL_rep {K : PySem.W.Frag} {H : Hp} {v : V} {d : D} (h : Has K H v d) : ∀ n : Nat, HasL K H (List.replicate n v) (List.replicate n d)
  | 0 => .nil
  | n + 1 => by rw [List.replicate_succ, List.replicate_succ]; exact .cons h (hasL_rep h n)
theorem hasL_set {K : PySem.W.Frag} {H : Hp} {v : V} {d : D} (h : Has K H v d) : ∀ {vs : List V} {ds : List D} (n : Nat), HasL K H vs ds → HasL K H (vs.set n v) (ds.set n d)
  | _, _, _, .nil => .nil
  | _, _, 0, .cons _ t => .cons h t
  | _, _, n + 1, .cons a t => .cons a (hasL_set h n t)
/-- name = [e] * n, a list of one's own -/
def repM (i : Nat) (ρ : Rho) (d k : D) : M Out := match k with
  | .int j => if 0 ≤ j ∧ j.toNat ≤ 1000 then .ok (.next (ρ.set i (some (.own (List.replicate j.toNat d))))) else .bad
  | _ => .bad
theorem flat_rep1 {α : Type} (v : α) : ∀ n : Nat, (List.replicate n [v]).flatten = List.replicate n v
  | 0 => rfl
  | n + 1 => by rw [List.replicate_succ, List.flatten_cons, flat_rep1 v n]; rfl
theorem ds_rep (i : Nat) {x : Str} {pos' lpos bpos : Pos} (hN : X.N.Nodup) (hi : X.N[i]? = some x) (hx : Loc X.env.scope x) (ha : DE X WX true a f) (hb : DE X WX true b g)
    (hst : starEach [a] X.env = [(false, eval a X.env)] := by rfl) (hs : swapsWith (.BinOp (.List [a] lpos) .Mult b bpos) (some (.Name x pos')) pos.line X.env = pure false := by rfl) (hf : X.fn x = true ∨ X.env.scope.names.lookup x = some .local := by first | exact .inl rfl | exact .inr rfl | assumption) :
    DS X WX (.Assign [.Name x pos'] (.BinOp (.List [a] lpos) .Mult b bpos) pos) (fun ρ => (f ρ).bind fun d => (g ρ).bind fun k => repM i ρ d k) := by
  obtain ⟨ta, a1, a2⟩ := ha
  obtain ⟨tb, b1, b2⟩ := hb
  refine ⟨_, ps_set hN hi hx (pe_op op_rep (pe_lst (pa_cons a1 pa_nil hst)) b1) hs hf, fun P0 P σ H Z ρ E h => ?_⟩
  dsimp only at h
  refine a2 P0 P σ H _ ρ E ?_
  cases q : f ρ with
  | bad => rw [q] at h; exact h
  | ex x => rw [q] at h; exact fun H' s => h H' P (E.tr s)
  | ok d =>
    rw [q] at h
    simp only [M.bind_ok] at h
    intro v H1 s1 hv
    have E1 := E.same s1
    refine ⟨Nat.le_of_lt (small1000 (by simp)), fun p hp => ?_⟩
    have s2 : Same H1 (upd H1 p (.lst [v])) := same_new hp _
    have E2 := E1.same s2
    refine b2 P0 P σ _ _ ρ E2 ?_
    cases q2 : g ρ with
    | bad => rw [q2] at h; exact h
    | ex x => rw [q2] at h; exact fun H' s3 => h H' P ((E.tr s1).trans ((E1.tr s2).trans (E2.tr s3)))
    | ok k =>
      rw [q2] at h
      simp only [M.bind_ok] at h
      unfold repM at h
      intro w H3 s3 hw
      cases k with
      | int j =>
        dsimp only at h
        by_cases hj : 0 ≤ j ∧ j.toNat ≤ 1000
        · rw [if_pos hj] at h
          cases hw
          have E3 := E2.same s3
          refine ⟨p, j, [v], rfl, rfl, s3 _ _ upd_same, by omega, by omega, Nat.le_of_lt (small1000 (by simp; omega)), fun p2 hp2 => ?_⟩
          rw [flat_rep1]
          obtain ⟨E4, t4⟩ := E3.newo (i := i) hp2 (hasL_rep ((hv.mono s2.del).mono s3.del) j.toNat)
          exact h _ _ _ ((E.tr s1).trans ((E1.tr s2).trans ((E2.tr s3).trans t4))) E4
        · rw [if_neg hj] at h; exact h.elim
      | _ => exact h.elim
/-- name[k] = e of one's own list -/
def putI (i : Nat) (ρ : Rho) (ds : List D) (d k : D) : M Out := match k with
  | .int j => (match ixN ds.length j with | some n => .ok (.next (ρ.set i (some (.own (ds.set n d))))) | none => .bad)
  | _ => .bad
def putM (i : Nat) (ρ : Rho) (m : M D) (d : D) : M Out := match ρ[i]? with
  | some (some (.own ds)) => m.bind (putI i ρ ds d)
  | _ => .bad
theorem ds_put (i : Nat) {x : Str} {p1 spos : Pos} (hv : PE X (.Name x p1) (tVar i)) (ha : DE X WX true a f) (hk : DE X WX true b g)
    (hs : swapsWithSole [.Subscript (.Name x p1) b spos] a pos.line X.env = pure false := by rfl) (hw : swappedStores [.Subscript (.Name x p1) b spos] a X.env = pure none := by rfl) (h1 : (assignEach [.Subscript (.Name x p1) b spos] X.env).map (·.2) = [assign (.Subscript (.Name x p1) b spos) X.env] := by rfl)
    (hasg : ∀ v, assign (.Subscript (.Name x p1) b spos) X.env v = (do
      let ov ← holding [v] (eval (.Name x p1) X.env)
      let iv ← holding [v, ov] (eval b X.env)
      standAt spos
      holding [v, ov, iv] (setItem ov iv v)
      release [v, ov, iv] []) := by intro _; rfl) :
    DS X WX (.Assign [.Subscript (.Name x p1) b spos] a pos) (fun ρ => (f ρ).bind (putM i ρ (g ρ))) := by
  obtain ⟨ta, a1, a2⟩ := ha
  obtain ⟨tb, b1, b2⟩ := hk
  refine ⟨_, ps_asg a1 (pg_sub hv b1 set_list hasg) hs hw h1, fun P0 P σ H Z ρ E h => ?_⟩
  dsimp only at h
  refine a2 P0 P σ H _ ρ E ?_
  cases q : f ρ with
  | bad => rw [q] at h; exact h
  | ex x => rw [q] at h; exact fun H' s => h H' P (E.tr s)
  | ok d =>
    rw [q] at h
    simp only [M.bind_ok] at h
    intro v H1 s1 hv
    have E1 := E.same s1
    unfold putM at h
    split at h
    · rename_i ds e1
      obtain ⟨p, xs, h1, h2, h3, h4, h5⟩ := E1.own i ds e1
      refine ⟨_, h1, b2 P0 P σ H1 _ ρ E1 ?_⟩
      cases q2 : g ρ with
      | bad => rw [q2] at h; exact h.elim
      | ex x => rw [q2] at h; exact fun H' s2 => h H' P ((E.tr s1).trans (E1.tr s2))
      | ok k =>
        rw [q2] at h
        simp only [M.bind_ok] at h
        unfold putI at h
        intro w H2 s2 hw
        split at h
        · rename_i j
          cases hw
          split at h
          · rename_i n en
            have E2 := E1.same s2
            refine ⟨p, xs, j, n, rfl, rfl, s2 _ _ h2, by rw [h5.length]; exact en, ?_⟩
            obtain ⟨E3, t3⟩ := E2.mut e1 h1 h3 h4 (hasL_set (hv.mono s2.del) n (h5.mono s2.del))
            exact h _ _ _ ((E.tr s1).trans ((E1.tr s2).trans t3)) E3
          · exact h.elim
        · exact h.elim
    · exact h.elim
/-! ### while -/
def whileM (c : Rho → M Bool) (b : Rho → M Out) : Nat → Rho → M Out
  | 0, _ => .bad
  | n + 1, ρ => match c ρ with
    | .ok true => (match b ρ with
      | .ok (.next ρ') => whileM c b n ρ'
      | .ok (.cont ρ') => whileM c b n ρ'
      | .ok (.brk ρ') => .ok (.next ρ')
      | r => r)
    | .ok false => .ok (.next ρ)
    | .ex x => .ex x
    | .bad => .bad
/-- a while loop: what some number of turns tells -/
noncomputable def loopM (c : Rho → M Bool) (b : Rho → M Out) (ρ : Rho) : M Out :=
  @dite _ (∃ n, whileM c b n ρ ≠ .bad) (Classical.propDecidable _) (fun h => whileM c b (Classical.choose h) ρ) (fun _ => .bad)
theorem whileM_more {c : Rho → M Bool} {b : Rho → M Out} : ∀ {n : Nat} {ρ : Rho}, whileM c b n ρ ≠ .bad → ∀ m, whileM c b (n + m) ρ = whileM c b n ρ
  | 0, ρ, h, m => (h rfl).elim
  | n + 1, ρ, h, m => by
    rw [show n + 1 + m = (n + m) + 1 by omega]
    rw [whileM] at h
    rw [whileM, whileM]
    cases q : c ρ with
    | bad => rfl
    | ex x => rfl
    | ok k =>
      rw [q] at h
      cases k with
      | false => rfl
      | true =>
        dsimp only at h ⊢
        cases q2 : b ρ with
        | bad => rfl
        | ex x => rfl
        | ok o =>
          rw [q2] at h
          cases o with
          | next ρ' => dsimp only at h ⊢; exact whileM_more h m
          | cont ρ' => dsimp only at h ⊢; exact whileM_more h m
          | brk ρ' => rfl
          | ret d => rfl
theorem loopM_of {c : Rho → M Bool} {b : Rho → M Out} {n : Nat} {ρ : Rho} (h : whileM c b n ρ ≠ .bad) : loopM c b ρ = whileM c b n ρ := by
  unfold loopM
  have hx : ∃ n, whileM c b n ρ ≠ .bad := ⟨n, h⟩
  rw [dif_pos hx]
  have hc := Classical.choose_spec hx
  have e1 := whileM_more h (Classical.choose hx)
  have e2 := whileM_more hc n
  rw [Nat.add_comm] at e2
  rw [← e1, e2]
theorem loopM_bad {c : Rho → M Bool} {b : Rho → M Out} {ρ : Rho} (h : loopM c b ρ ≠ .bad) : ∃ n, whileM c b n ρ ≠ .bad ∧ loopM c b ρ = whileM c b n ρ := by
  by_cases hx : ∃ n, whileM c b n ρ ≠ .bad
  · obtain ⟨n, hn⟩ := hx
    exact ⟨n, hn, loopM_of hn⟩
  · exact (h (by unfold loopM; rw [dif_neg hx])).elim
theorem gS_nb {K : PySem.W.Frag} {Z : Ends} {m : M Out} (h : gS K WX P0 P H Z m) : m ≠ .bad := fun e => by rw [e] at h; exact h
theorem ds_while {body : List Stmt} (hp : PassesOwn (model X.prog X.w) X.A X.env X.xe) (hc : DT X WX a ft) (hb : DSs X WX body g1) : DS X WX (.While a body [] pos) (loopM ft g1) := by
  obtain ⟨tc, c1, c2⟩ := hc
  obtain ⟨tb, b1, b2⟩ := hb
  refine ⟨_, ps_while hp c1 b1, fun P0 P σ H Z ρ E h => ?_⟩
  obtain ⟨n, hn, en⟩ := loopM_bad (gS_nb h)
  rw [en] at h
  refine ⟨fun m σ' H' => ∃ ρ' P', EnvP X.K P0 P' H' σ' ρ' ∧ Tr P0 P H P' H' ∧ gS X.K WX P0 P' H' Z (whileM ft g1 m ρ'), ⟨n, ρ, P, E, Tr.refl, h⟩, ?_⟩
  rintro m σ1 H1 ⟨ρ1, P1, E1, t1, h1⟩
  cases m with
  | zero => exact h1.elim
  | succ m =>
    rw [whileM] at h1
    refine c2 P0 P1 σ1 H1 _ ρ1 E1 ?_
    cases q : ft ρ1 with
    | bad => rw [q] at h1; exact h1
    | ex x => rw [q] at h1; exact fun H2 s2 => h1 H2 P1 (E1.tr s2)
    | ok k =>
      rw [q] at h1
      intro H2 s2
      have E2 := E1.same s2
      cases k with
      | false =>
        rw [if_neg (by simp)]
        exact h1 σ1 H2 P1 (E1.tr s2) E2
      | true =>
        rw [if_pos rfl]
        dsimp only at h1
        refine ⟨fun σ' H' => ∃ ρ' P', EnvP X.K P0 P' H' σ' ρ' ∧ Tr P0 P H P' H' ∧ gS X.K WX P0 P' H' Z (whileM ft g1 m ρ'), fun σ' H' z => ⟨m, Nat.lt_succ_self m, z⟩, ?_⟩
        refine b2 P0 P1 σ1 H2 _ ρ1 E2 ?_
        cases q2 : g1 ρ1 with
        | bad => rw [q2] at h1; exact h1
        | ex x => rw [q2] at h1; exact fun H3 P3 t3 => h1 H3 P3 ((E1.tr s2).trans t3)
        | ok o =>
          rw [q2] at h1
          have t2 := t1.trans (E1.tr s2)
          cases o with
          | next ρ' => exact fun σ3 H3 P3 t3 E3 => ⟨ρ', P3, E3, t2.trans t3, h1.tr ((E1.tr s2).trans t3)⟩
          | cont ρ' => exact fun σ3 H3 P3 t3 E3 => ⟨ρ', P3, E3, t2.trans t3, h1.tr ((E1.tr s2).trans t3)⟩
          | brk ρ' => exact fun σ3 H3 P3 t3 E3 => h1 σ3 H3 P3 ((E1.tr s2).trans t3) E3
          | ret d => exact fun v H3 P3 t3 hv => h1 v H3 P3 ((E1.tr s2).trans t3) hv
/-! ### int(..), all(..), any(..) -/
def dInt1 (ds : List D) : M D := match ds with
  | [.int i] => .ok (.int i)
  | [.bl b] => .ok (.int (if b then 1 else 0))
  | _ => .bad
theorem cd_int1 : CallD X.K WX (fun xs H Q => (∃ i, xs = [.int i] ∧ Q (.int i) H) ∨ ∃ k, xs = [.bl k] ∧ Q (.int (if k then 1 else 0)) H) dInt1 := by
  intro P H ds vs Q ht hl h
  unfold dInt1 at h
  split at h
  · obtain ⟨v, rfl, hv⟩ := hl.one
    cases hv
    exact .inl ⟨_, rfl, h _ H (Same.refl H) (.int _)⟩
  · obtain ⟨v, rfl, hv⟩ := hl.one
    cases hv
    exact .inr ⟨_, rfl, h _ H (Same.refl H) (.int _)⟩
  · exact h.elim
theorem de_int1 {p : Pos} (hg : Gl X "int") (hm : X.mg "int" = none) (ha : DE X WX c e f) (hb : bootBuiltins "int" = some (.type "int") := by decide +kernel) (hs : starEach [e] X.env = [(false, eval e X.env)] := by rfl) : DE X WX c (.Call (.Name "int" p) [e] [] pos) (fun ρ => ((f ρ).bind fun d => (M.ok []).bind fun ds => .ok (d :: ds)).bind dInt1) :=
  de_callTy call_int1 cd_int1 hg hm hb (da_cons ha da_nil hs) (he := hs)
def boolsD : List D → Option (List Bool)
  | [] => some []
  | .bl b :: r => (boolsD r).map (b :: ·)
  | _ => none
theorem boolsD_map (bs : List Bool) : boolsD (bs.map D.bl) = some bs := by
  induction bs with
  | nil => rfl
  | cons b r ih => rw [List.map_cons, boolsD, ih]; rfl
theorem boolsD_inv : ∀ {ds : List D} {bs : List Bool}, boolsD ds = some bs → ds = bs.map D.bl
  | [], bs, h => by cases h; rfl
  | .bl b :: r, bs, h => by
    rw [boolsD] at h
    cases q : boolsD r with
    | none => rw [q] at h; cases h
    | some bs' => rw [q] at h; cases h; rw [boolsD_inv q]; rfl
  | .non :: r, bs, h => by cases h
  | .int _ :: r, bs, h => by cases h
  | .str _ :: r, bs, h => by cases h
  | .tup _ :: r, bs, h => by cases h
  | .lst _ :: r, bs, h => by cases h
  | .exn _ :: r, bs, h => by cases h
theorem hasL_bools {K : PySem.W.Frag} {H : Hp} : ∀ {vs : List V} {bs : List Bool}, HasL K H vs (bs.map D.bl) → vs = bs.map V.bl
  | _, [], .nil => rfl
  | _, b :: r, .cons h t => by cases h; rw [hasL_bools t]; rfl
theorem vals_bools : ∀ {bs : List Bool} {us : List Value}, Vals (bs.map V.bl) us → LSm.BoolsAre us bs
  | [], _, .nil => .nil
  | b :: r, _, .cons h t => by cases h; exact .cons b (vals_bools t)
theorem call_all_bools (hc : X.calm = true) : CallR X (.builtin "all") (fun xs H Q => ∃ p bs, xs = [.ref p] ∧ SqL X.K H p (List.map V.bl bs) ∧ Q (.bl (bs.all id)) H) := by
  intro pins s σ H xs us Q I r h
  obtain ⟨p, bs, rfl, hq, q⟩ := h
  obtain ⟨u, rfl, rx⟩ := vals1 r
  cases rx
  obtain ⟨its, r', pl, hz⟩ := I.list hq
  have hl := pl.isList
  have hb := vals_bools r'
  have hlt : p < s.heap.objs.size := by obtain ⟨_, e, _⟩ := hl; exact Heap.lt_size e
  refine call_all_walk (wpAny_pyIter_list hl ?_)
  refine ⟨s.heap.objs.size, [s.heap.objs.size, p], [s.heap.objs.size], its.toArray.size, _, _, fun i => (bs[i]?).getD true, rfl, Walks.list (A := X.A.in1) (I.ok.hd hc) _ p (Nat.ne_of_lt hlt) its.toArray,
    ⟨⟨_, Heap.get?_push_size _ rfl, rfl, rfl⟩, hl.push _⟩, fun i v s' Q' E' hP hQ => ?_, fun h' tk hk => ?_⟩
  · obtain ⟨b, e, rfl⟩ := hb.get i v (by simpa using hP)
    simp only [e, Option.getD_some] at hQ
    exact wpAny_truthy_bool hQ
  · have e : ((List.range its.toArray.size).all fun i => (bs[i]?).getD true) = bs.all id := by
      rw [List.size_toArray, hb.length]; exact LSm.range_all bs
    rw [e]
    exact ⟨.bl _, H, I.kept (t' := tk) (LSm.kept_iter hk), rfl, q⟩
def dAll (ds : List D) : M D := match ds with
  | [.lst xs] => (match boolsD xs with | some bs => .ok (.bl (bs.all id)) | none => .bad)
  | _ => .bad
theorem cd_all : CallD X.K WX (fun xs H Q => ∃ p bs, xs = [.ref p] ∧ SqL X.K H p (List.map V.bl bs) ∧ Q (.bl (bs.all id)) H) dAll := by
  intro P H ds vs Q ht hl h
  unfold dAll at h
  split at h
  · rename_i xs
    obtain ⟨v, rfl, hv⟩ := hl.one
    split at h
    · rename_i bs eb
      have := boolsD_inv eb
      subst this
      cases hv with
      | lst hs hh =>
        have := hasL_bools hh
        subst this
        exact ⟨_, bs, rfl, hs.undel, h _ H (Same.refl H) (.bl _)⟩
    · exact h.elim
  · exact h.elim
theorem de_all {p : Pos} (hc : X.calm = true) (hg : Gl X "all") (hm : X.mg "all" = none) (ha : DE X WX c e f) (hb : bootBuiltins "all" = some (.builtin "all") := by decide +kernel) (hs : starEach [e] X.env = [(false, eval e X.env)] := by rfl) : DE X WX c (.Call (.Name "all" p) [e] [] pos) (fun ρ => ((f ρ).bind fun d => (M.ok []).bind fun ds => .ok (d :: ds)).bind dAll) :=
  de_callB (call_all_bools hc) cd_all hg hm hb (da_cons ha da_nil hs) (he := hs)
end
end L2

set_option Elab.async false
set_option linter.all false
set_option maxRecDepth 100000
namespace PySem
namespace F
theorem lri_no_len : typeLookup (.type "list_reverseiterator") "__len__" = pure none := by rw [typeLookup_type, builtinLookup_eq_fast]; kernel_rfl
theorem lri_hint : typeLookup (.type "list_reverseiterator") "__length_hint__" = pure (some (.builtin "list_reverseiterator.__length_hint__")) := by rw [typeLookup_type, builtinLookup_eq_fast]; kernel_rfl
end F
section
variable {prog : Program} {w : World} {A : Around} {E : Value → Shared → Prop} {s : Shared}
theorem wpAny_hint_rev {it l : Addr} {i : Int} {Q : Bool → Shared → Prop} (hit : s.heap.IsRevIter it l i) (h : Q false s) : wpAny (model prog w) A (Builtin.List.listLengthHint (.ref it)) Q E s := by
  unfold Builtin.List.listLengthHint
  refine wpAny_bind (wpAny_specialOf hit.typeIs F.lri_no_len ?_)
  show wpAny _ A (specialOf (Value.ref it) (Str.ofString "__length_hint__") >>= _) _ _ _
  refine wpAny_bind (wpAny_specialOf hit.typeIs F.lri_hint ?_)
  generalize hid : ("list_reverseiterator.__length_hint__" : String) = id0
  wp_delta
  rw [show splitId id0 = some ("list_reverseiterator", "__length_hint__") from by subst hid; decide +kernel]
  subst hid
  refine wpAny_bind (wpAny_isInstance (T := "list_reverseiterator") (b := true) hit.typeIs (by rw [isSubtype_type]; kernel_rfl) ?_)
  refine wpAny_ite_split (fun hab => absurd hab (by decide)) (fun _ => ?_)
  refine wpAny_ite_split (fun _ => ?_) (fun hab => absurd (by decide +kernel) hab)
  refine wpAny_ite_split (fun hab => absurd hab (by decide +kernel)) (fun _ => ?_)
  exact wpAny_pure h
end
end PySem
namespace PySem
section
variable {prog : Program} {w : World} {A : Around} {E : Value → Shared → Prop} {s : Shared}
def revPl (items : Array Value) : Nat → Value → Prop := fun i v => items[items.size - 1 - i]? = some v
theorem wpAny_extend_rev {R : Result → Shared → Prop} {I l : Addr} {items : Array Value} (hh : A.handled = none) (hne : l ≠ I) (hit : s.heap.IsRevIter I l ((items.size : Int) - 1)) (hl : s.heap.IsList l items) (hn : items.size ≤ sizeLine) (S : Addr) (res : Value) (c₀ : Nat)
    (hSI : S ≠ I) (hSl : S ≠ l) (hS : s.heap.get? S = some { cls := .type "list", data := .seq #[] c₀ })
    (hR : ∀ h' tk acc' c', (∀ b o, b ≠ S → b ≠ I → s.heap.get? b = some o → h'.get? b = some o) → h'.get? S = some { cls := .type "list", dict := none, data := .seq acc' c', slots := #[] } →
      ItemsOf (revPl items) acc' items.size → R (.ok (.ret res)) { s with heap := h', toks := tk }) :
    wpAny (model prog w) A.in1 (Builtin.List.listExtendWith (.ref S) (.ref I) res)
      (fun fin s' => match fin with | .done f => R (.ok f) s' | .again c' => c'.quiet = true ∧ codeAny (model prog w) A c' R s') (fun e s' => R (.error e) s') s := by
  have W := (Walks.listRev (prog := prog) (w := w) (A := A.in1) hh I l hne items).toS
  have hSf : S ∉ [I, l] := fun hm => by
    rcases List.mem_cons.mp hm with e | hm
    · exact hSI e
    · exact hSl (List.mem_singleton.mp hm)
  unfold Builtin.List.listExtendWith
  refine wpAny_bind (wpAny_typeOf (T := "list_reverseiterator") hit.typeIs ?_)
  have h1 : Builtin.List.listSameRef (.ref S) (.ref I) = false := by simp [Builtin.List.listSameRef, hSI]
  have h2 : (Value.type "list_reverseiterator" == Value.type "list") = false := by decide
  have h3 : (Value.type "list_reverseiterator" == Value.type "tuple") = false := by decide
  simp only [h1, h2, h3, Bool.or_false, Bool.false_eq_true, if_false]
  refine wpAny_bind (wpAny_pyIter_revIter hit ?_)
  refine wpAny_bind (wpAny_holding (wpAny_hint_rev hit ?_))
  refine wpAny_ite_split (fun hab => absurd hab (by decide)) (fun _ => wpAny_pure ⟨plainId_quiet F.plain_extend_loop _, ?_⟩)
  refine codeAny_extend_loopS W hn S hSf res items.size 0 _ #[] c₀ rfl (Nat.zero_le _) ⟨Nat.zero_le _, by simpa using hit, hl⟩ hS (ItemsOf.nil _) fun s' acc' c' hm hS' hacc => ?_
  rw [Moved.eq_with hm]
  refine hR s'.heap s'.toks acc' c' (fun b o hb hb2 e => hm.heap b o (fun hmem => ?_) e) hS' hacc
  rcases List.mem_cons.mp hmem with e' | hmem
  · exact hb e'
  · exact hb2 (List.mem_singleton.mp hmem)
theorem wpAny_list_init_rev {R : Result → Shared → Prop} {I l : Addr} {items : Array Value} (hh : A.handled = none) (hne : l ≠ I) (hit : s.heap.IsRevIter I l ((items.size : Int) - 1)) (hl : s.heap.IsList l items) (hn : items.size ≤ sizeLine) (S : Addr)
    (hSI : S ≠ I) (hSl : S ≠ l) (hS : s.heap.get? S = some { cls := .type "list", data := .seq #[] })
    (hR : ∀ h' tk acc' c', (∀ b o, b ≠ S → b ≠ I → s.heap.get? b = some o → h'.get? b = some o) → h'.get? S = some { cls := .type "list", dict := none, data := .seq acc' c', slots := #[] } →
      ItemsOf (revPl items) acc' items.size → R (.ok (.ret .none)) { s with heap := h', toks := tk }) :
    wpAny (model prog w) A.in1 (Builtin.«list.__init__» ⟨[.ref S, .ref I], []⟩)
      (fun fin s' => match fin with | .done f => R (.ok f) s' | .again c' => c'.quiet = true ∧ codeAny (model prog w) A c' R s') (fun e s' => R (.error e) s') s := by
  show wpAny _ _ (do let old ← Builtin.List.listItems (.ref S); Builtin.List.listUpdate (.ref S) (fun _ => #[]); letGo old.toList.reverse; Builtin.List.listExtendWith (.ref S) (.ref I) .none) _ _ s
  refine wpAny_bind ?_
  unfold Builtin.List.listItems
  refine wpAny_bind (wpAny_seqItems hS rfl (wpAny_pure ?_))
  show wpAny _ _ (updateSeq S (fun _ => #[]) >>= fun _ => letGo (#[] : Array Value).toList.reverse >>= fun _ => Builtin.List.listExtendWith (.ref S) (.ref I) .none) _ _ s
  refine wpAny_bind (wpAny_updateSeq hS rfl ?_)
  have hS₂ := Heap.get?_update_self (Obj.mapSeq (fun _ => (#[] : Array Value))) hS rfl
  have oth : ∀ b o, b ≠ S → s.heap.get? b = some o → (s.heap.update S (Obj.mapSeq (fun _ => (#[] : Array Value)))).get? b = some o :=
    fun b o hb e => (Heap.get?_update_other _ _ (Ne.symm hb)).trans e
  refine wpAny_bind (wpAny_letGo ?_)
  refine wpAny_extend_rev hh hne (hit.at fun o e => oth I o (Ne.symm hSI) e) (hl.at fun o e => oth l o (Ne.symm hSl) e) hn S .none _ hSI hSl hS₂ fun h' tk acc' c' hk hS' hacc => ?_
  exact hR h' tk acc' c' (fun b o hb hb2 e => hk b o hb hb2 (oth b o hb e)) hS' hacc
theorem call_list_rev {Q : Value → Shared → Prop} {I l : Addr} {items : Array Value} (hh : A.handled = none) (hne : l ≠ I) (hit : s.heap.IsRevIter I l ((items.size : Int) - 1)) (hl : s.heap.IsList l items) (hn : items.size ≤ sizeLine)
    (hQ : ∀ h' tk acc' c', (∀ b o, b ≠ I → s.heap.get? b = some o → h'.get? b = some o) →
      h'.get? s.heap.objs.size = some { cls := .type "list", dict := none, data := .seq acc' c', slots := #[] } → ItemsOf (revPl items) acc' items.size → Q (.ref s.heap.objs.size) { s with heap := h', toks := tk }) :
    wpAny (model prog w) A (call (.type "list") [.ref I]) Q E s := by
  refine callType_codes (Q₁ := fun obj s₁ => obj = .ref s.heap.objs.size ∧ s₁ = { s with heap := s.heap.push { cls := .type "list", data := .seq #[] } }) F.called_list (F.typeCall_list_1 _) F.entry_list_init
    (code_list_new _ ⟨rfl, rfl⟩) fun obj s₁ h₁ => ?_
  obtain ⟨rfl, rfl⟩ := h₁
  have hS : (s.heap.push { cls := .type "list", data := .seq #[] }).get? s.heap.objs.size = some { cls := .type "list", data := .seq #[] } := Heap.get?_push_size _ rfl
  have lI : I < s.heap.objs.size := by obtain ⟨_, e, _⟩ := hit; exact Heap.lt_size e
  have ll : l < s.heap.objs.size := by obtain ⟨_, e, _⟩ := hl; exact Heap.lt_size e
  refine ⟨⟨_, hS, rfl⟩, F.args_list_init_2 _ _, wpAny_list_init_rev (A := A.in1) hh hne (hit.at fun o e => Heap.get?_push_of_some _ e) (hl.push _) hn _ (Ne.symm (Nat.ne_of_lt lI)) (Ne.symm (Nat.ne_of_lt ll)) hS fun h' tk acc' c' hk hS' hacc => ?_⟩
  exact ⟨rfl, hQ h' tk acc' c' (fun b o hb e => hk b o (Nat.ne_of_lt (Heap.lt_size e)) hb (Heap.get?_push_of_some _ e)) hS' hacc⟩
end
end PySem
namespace L2
open PySem PySem.Spec PyProof.Rows
theorem vals_rev : ∀ {ys : List V} {us : List Value}, Vals ys us → Vals ys.reverse us.reverse
  | _, _, .nil => .nil
  | _, _, .cons h t => by rw [List.reverse_cons, List.reverse_cons]; exact (vals_rev t).append (.cons h .nil)
theorem rev_items {items acc : Array Value} (h : ItemsOf (revPl items) acc items.size) : acc.toList = items.toList.reverse := by
  apply List.ext_getElem?
  intro i
  obtain ⟨h1, h2⟩ := h
  by_cases hi : i < items.size
  · have hi' : i < acc.size := by omega
    have e : acc[i]? = some acc[i] := Array.getElem?_eq_getElem hi'
    have e2 := h2 i _ e
    unfold revPl at e2
    rw [Array.getElem?_toList, e, List.getElem?_reverse (by simpa using hi), Array.length_toList, Array.getElem?_toList, ← e2]
  · rw [List.getElem?_eq_none (by rw [Array.length_toList]; omega), List.getElem?_eq_none (by rw [List.length_reverse, Array.length_toList]; omega)]
section
variable {X : Cx} {WX : Str → Hp → Prop} {c : Bool} {P0 P : Addr → Prop} {H : Hp} {σ : St} {ρ : Rho} {e : Expr} {f : Rho → M D} {pos : Pos} {te : TE}
def tLR (K : PySem.W.Frag) (te : TE) : TE := fun σ H Q => te σ H fun x H1 => ∃ l ys, x = .ref l ∧ SqL K H1 l ys ∧ ∀ r, H1 r = none → Q (.ref r) (upd H1 r (.lst ys.reverse))
theorem pe_listrev {p p2 pos2 : Pos} (hc : X.calm = true) (hg : Gl X "list") (hm : X.mg "list" = none) (hg2 : Gl X "reversed") (hm2 : X.mg "reversed" = none) (he : PE X e te)
    (hv : bootBuiltins "list" = some (.type "list") := by decide +kernel) (hv2 : bootBuiltins "reversed" = some (.type "reversed") := by decide +kernel)
    (hs : starEach [.Call (.Name "reversed" p2) [e] [] pos2] X.env = [(false, eval (.Call (.Name "reversed" p2) [e] [] pos2) X.env)] := by rfl) (hs2 : starEach [e] X.env = [(false, eval e X.env)] := by rfl) :
    PE X (.Call (.Name "list" p) [.Call (.Name "reversed" p2) [e] [] pos2] [] pos) (tLR X.K te) := by
  intro pins s σ H Q I h
  refine wpAny_Call_Name_kw (ld_blt I hg hm hv ?_)
  refine PyProof.Rows.callWith_type1 ?_ hs
  rw [hs]
  refine Calls.spliced_cons ?_
  refine wpAny_Call_Name_kw (ld_blt I hg2 hm2 hv2 ?_)
  refine PyProof.Rows.callWith_type1 ?_ hs2
  rw [hs2]
  refine Calls.spliced_cons (thn (he pins s σ H _ I h) fun u s1 ⟨x, H1, I1, r1, q1⟩ => ?_)
  obtain ⟨l, ys, rfl, hq, q⟩ := q1
  cases r1
  obtain ⟨its, r', pl, hz⟩ := I1.list hq
  refine Calls.spliced_nil ?_
  have hl := pl.isList
  refine call_reversed_list hl ?_
  refine Calls.spliced_nil ?_
  have ll : l < s1.heap.objs.size := by obtain ⟨_, e, _⟩ := hl; exact Heap.lt_size e
  refine call_list_rev (l := l) (items := its.toArray) (I1.ok.hd hc) (Nat.ne_of_lt ll) ⟨_, Heap.get?_push_size _ rfl, rfl, rfl⟩ (hl.push _) (by simpa [r'.length] using hz) fun h' tk acc' c' hk hS' hacc => ?_
  have e1 := rev_items hacc
  have kp : ∀ b o, s1.heap.get? b = some o → h'.get? b = some o := fun b o e => hk b o (Nat.ne_of_lt (Heap.lt_size e)) (Heap.get?_push_of_some _ e)
  have e2 : acc' = its.reverse.toArray := by
    rw [← Array.toArray_toList (xs := acc'), e1]
  have hfr : s1.heap.objs.size ≤ (s1.heap.push (revObj l ((its.toArray.size : Int) - 1))).objs.size := by simp [Heap.push]
  refine ⟨.ref _, _, I1.laid (t' := tk) kp hfr (show ObjOk X.prog X.w _ h' _ (.lst ys.reverse) from ⟨by rw [List.length_reverse]; exact hz, its.reverse, c', vals_rev r', by rw [← e2]; exact hS'⟩), rfl, q _ (I1.hok.fresh hfr)⟩
def dRevL (d : D) : M D := match d with
  | .lst ds => .ok (.lst ds.reverse)
  | _ => .bad
theorem hasL_rev {K : PySem.W.Frag} {H : Hp} : ∀ {vs : List V} {ds : List D}, HasL K H vs ds → HasL K H vs.reverse ds.reverse
  | _, _, .nil => .nil
  | _, _, .cons h t => by rw [List.reverse_cons, List.reverse_cons]; exact (hasL_rev t).snoc h
theorem de_listrev {p p2 pos2 : Pos} (hc : X.calm = true) (hg : Gl X "list") (hm : X.mg "list" = none) (hg2 : Gl X "reversed") (hm2 : X.mg "reversed" = none) (he : DE X WX c e f)
    (hv : bootBuiltins "list" = some (.type "list") := by decide +kernel) (hv2 : bootBuiltins "reversed" = some (.type "reversed") := by decide +kernel)
    (hs : starEach [.Call (.Name "reversed" p2) [e] [] pos2] X.env = [(false, eval (.Call (.Name "reversed" p2) [e] [] pos2) X.env)] := by rfl) (hs2 : starEach [e] X.env = [(false, eval e X.env)] := by rfl) :
    DE X WX c (.Call (.Name "list" p) [.Call (.Name "reversed" p2) [e] [] pos2] [] pos) (fun ρ => (f ρ).bind dRevL) := by
  obtain ⟨te, e1, e2⟩ := he
  refine ⟨_, pe_listrev hc hg hm hg2 hm2 e1 hv hv2 hs hs2, fun P0 P σ H Q ρ E h => ?_⟩
  refine e2 P0 P σ H _ ρ E ?_
  dsimp only at h
  cases q : f ρ with
  | bad => rw [q] at h; exact h
  | ex x => rw [q] at h; exact h
  | ok d =>
    rw [q] at h
    simp only [M.bind_ok] at h
    intro v H1 s1 hv
    unfold dRevL at h
    split at h
    · cases hv with
      | lst hs hh => exact ⟨_, _, rfl, hs.undel, fun l hn => h _ _ (s1.trans (same_new hn _)) (.lst (.of (new_del hn fun a ha => (E.lvt c a ha).same s1)) (hasL_rev (hh.mono (same_new hn _).del)))⟩
    · exact h.elim
end
end L2

set_option Elab.async false
set_option linter.all false
set_option maxRecDepth 100000
/-! ### a script's numbers are of at most 2 ** 20 bits -/
namespace L2
open PySem PySem.Spec PyProof.Rows
/-- a number as a script may hold one -/
def Sm (n : Int) : Prop := Builtin.Int.intBits n ≤ 2 ^ 20
theorem sm_all : ∀ {ns : List Int}, W.WData.weightAll (ns.map W.WData.int) ≤ 2 ^ 20 → ∀ n ∈ ns, Sm n
  | m :: r, h, n, hn => by
    rw [List.map_cons, W.WData.weightAll, W.WData.weight] at h
    rcases List.mem_cons.mp hn with rfl | hn
    · unfold Sm Builtin.Int.intBits
      omega
    · exact sm_all (by omega) n hn
theorem sm_of {ns : List Int} (h : W.WData.layableAll [W.WData.list (ns.map W.WData.int)] = true) : ∀ n ∈ ns, Sm n := by
  unfold W.WData.layableAll at h
  rw [List.all_cons, Bool.and_eq_true] at h
  have h1 := h.1
  unfold W.WData.layable at h1
  rw [Bool.and_eq_true, decide_eq_true_eq, W.WData.weight] at h1
  exact sm_all h1.2
end L2
namespace HT
open PySem PySem.W PyProof.Rows Spec Calls Att
theorem attach_sm {l : OpenLaw} {n : Nat} {q : Program} {loose : List Str} {XP : (Str → Option Value) → Heap → Prop} {YP : World → Heap → Prop} {d : DefRec}
    (hn : l.most = some n) (hdf : d.params.defaults = [])
    (run : ∀ (w : World) (s₀ s₁ : Shared) (mg mb : Str → Option Value) (fa : Addr) (o : Obj) (pm cd doc : Value) (a : Addr) (vs : List Value) (ns : List Int), (∀ n ∈ ns, L2.Sm n) →
      Ground q loose [] XP w s₀ mg mb s₁.heap → YP w s₁.heap → s₁.heap.get? fa = some o → o.data = .func (docDef d.name d.params d.body d.scope pm cd doc) → s₁.heap.CodeRec cd d.name → mg d.name = some (.ref fa) →
      s₁.heap.get? a = some { cls := .type "list", data := .seq vs.toArray } → IntsAre vs ns → ns.length ≤ n → s₁.gens = #[] →
      codeAny (model l.prog w) callerA (.call (.ref fa) ⟨[.ref a], []⟩) (fun r s' => r = .ok (.ret (.bool true)) ∧ OldK s₁.heap s'.heap ∧ s'.os = s₁.os ∧ AllBare s'.gens) s₁) :
    WalkO q loose XP YP l.row.toRowW d [] (fun f vs => PySem.call f vs) := by
  intro w s₀ s₁ mg mb G Y fa o pm cd doc dV kV ho hd hcd hD hmg hg args vals as hpre hlay hrd hwl hlo
  obtain rfl : dV = .none := Dflts.none hD hdf
  obtain rfl : kV = .none := Dflts.noKw hD
  obtain ⟨a, vs, ns, rfl, rfl, hobj, hints, hlen⟩ := script_of hn hpre hwl
  refine enter_call (codeAny_mono (run w s₀ s₁ mg mb fa o pm cd doc a vs ns (L2.sm_of hlay) G Y ho (fd_plain hd) hcd hmg hobj hints hlen hg) fun r s' hq => ?_)
  obtain ⟨rfl, h2, h3, h4⟩ := hq
  exact ⟨.inl ⟨.bool true, .bool true, [], rfl, fun _ => rfl, .bool true, post_true l _, fun _ => ⟨List.Pairwise.nil, fun _ hm => (nomatch hm)⟩⟩, h2, h3, h4⟩
end HT
namespace L2
open PySem PySem.Spec PyProof.Rows
theorem walk_sm {l : PySem.W.OpenLaw} {n k : Nat} {q : Program} {loose : List Str} {XP : (Str → Option Value) → Heap → Prop} {YP : World → Heap → Prop} {d : DefRec} {K : Params → PySem.W.Frag} {CX : World → CXT} {sp : World → Sp} {x : Str}
    (hn : l.most = some n) (hn2 : n ≤ sizeLine) (hdf : d.params.defaults = []) (hr : Room k callerA) (hY : ∀ (w : World) (h : Heap), YP w h → (K w.params).In h)
    (F : ∀ (w : World) (mg : Str → Option Value) (fa : Addr) (h : Heap), (K w.params).In h → h.Ns mainGlobals mg → mg d.name = some (.ref fa) → ∃ fd : FuncData, (∀ (s : Shared) (u : Value), BindsTo s fd ⟨[u], []⟩ [(x, u)]) ∧
        ∀ base : Heap, (K w.params).In base → base.Ns mainGlobals mg → FnOk l.prog w (K w.params) mg base (CX w) k fa fd [x] (sp w))
    (hsp : ∀ (w : World) (H : Hp) (a : Addr) (ns : List Int), (∀ n ∈ ns, Sm n) → ns.length ≤ n → Only H → SqL (K w.params) H a (ns.map V.int) → sp w [.ref a] H (fun v _ => v = .bl true) fun _ _ _ => False)
    (hCX : ∀ (w : World) (H : Hp) (s : Shared) (e : Value) (s' : Shared), CX w [] H s (fun _ _ _ => False) e s' → False) : PySem.W.WalkO q loose XP YP l.row.toRowW d [] (fun f vs => PySem.call f vs) := by
  refine HT.attach_sm hn hdf fun w s₀ s₁ mg mb fa o pm cd doc a vs ns hsm G Y ho hd hcd hmg hobj hints hlen hg => ?_
  have KX := hY w _ Y
  obtain ⟨fd, hb, hF⟩ := F w mg fa _ KX G.T.g hmg
  exact law_call KX G.T.g G.T.b G.T.builtins G.T.nolimit hg hobj hints (Nat.le_trans hlen hn2) hr hF hb (fun H hO hS => hsp w H a ns hsm hlen hO hS) fun H e s' => hCX w H s₁ e s'
theorem law_smM {F : List D → M D} (h : ∀ ns : List Int, ns.length ≤ 63 → (∀ n ∈ ns, Sm n) → F [.lst (ns.map D.int)] = .ok (.bl true)) (K : PySem.W.Frag) (H : Hp) (a : Addr) (ns : List Int) (hsm : ∀ n ∈ ns, Sm n) (hl : ns.length ≤ 63) (hS : SqL K H a (ns.map V.int)) : spM0 K 1 F [.ref a] H (fun v _ => v = .bl true) fun _ _ _ => False := by
  refine ⟨rfl, fun _ => False, [.lst (ns.map D.int)], fun _ z => z.elim, .cons (.lst ?_ (HasL.ints ns)) .nil, ?_⟩
  · have e : del H (fun _ => False) = H := by funext b; exact del_of (fun z => z)
    rw [e]; exact hS
  · rw [h ns hl hsm]
    exact fun v H' s hv => hv.bl_inv
/-! ### products with one great factor -/
def CMulW (i j : Int) : Prop := (Builtin.Int.intBits i ≤ 2 ^ 20 + 1 ∧ Builtin.Int.intBits j ≤ 2 ^ 10) ∨ CMulB i j
theorem mulok_sum {a b : Int} (h : Builtin.Int.intBits a + Builtin.Int.intBits b ≤ 2 ^ 21) : IntMulOk a b := by
  have e : (2 : Nat) ^ 21 = 2097152 := by decide
  have h2 : Builtin.Int.intTooBig (Builtin.Int.intBits a + Builtin.Int.intBits b) = false := by
    unfold Builtin.Int.intTooBig bitsLine
    exact decide_eq_false (by omega)
  unfold IntMulOk
  rw [h2]
  simp
theorem CMulW.ok {i j : Int} (h : CMulW i j) : IntMulOk i j := by
  rcases h with ⟨h1, h2⟩ | h
  · exact mulok_sum (by omega)
  · exact h.ok
theorem op_mulW {X : Cx} : OpR X (binaryOp .Mult) (rI CMulW fun i j => .int (i * j)) := opI fun _ _ _ _ _ _ _ hc q => mul_int q hc.ok
noncomputable instance (i j : Int) : Decidable (CMulW i j) := Classical.propDecidable _
noncomputable def dMulW := onInts fun i j => if CMulW i j then .ok (.int (i * j)) else .bad
theorem dMulW_ok {i j : Int} (h : CMulW i j) : dMulW (.int i) (.int j) = .ok (.int (i * j)) := by
  unfold dMulW onInts
  dsimp only
  rw [if_pos h]
theorem de_mulW {X : Cx} {WX : Str → Hp → Prop} {c : Bool} {a b : Expr} {f g : Rho → M D} {pos : Pos} (ha : DE X WX c a f) (hb : DE X WX c b g) : DE X WX c (.BinOp a .Mult b pos) (fun ρ => (f ρ).bind fun x => (g ρ).bind fun y => dMulW x y) := de_op op_mulW (opd_rI fun _ _ _ _ => .int _) ha hb
theorem bits_le {n : Int} {k : Nat} (h : n.natAbs < 2 ^ k) : Builtin.Int.intBits n ≤ k := by
  unfold Builtin.Int.intBits
  split
  · exact Nat.zero_le _
  · rename_i hn
    have hp : n.natAbs ≠ 0 := by simpa using hn
    exact (Nat.log2_lt hp).mpr h
theorem bits_near {c x : Int} (h : Sm c) (hx : x.natAbs < 2 ^ 20) : Builtin.Int.intBits (c + x) ≤ 2 ^ 20 + 1 := by
  refine bits_le ?_
  have h1 := natAbs_lt_pow_bits c
  have h2 : (2 : Nat) ^ Builtin.Int.intBits c ≤ 2 ^ (2 ^ 20) := Nat.pow_le_pow_right (by omega) h
  have h3 : (2 : Nat) ^ 20 ≤ 2 ^ (2 ^ 20) := Nat.pow_le_pow_right (by omega) (by omega)
  have h4 : (c + x).natAbs ≤ c.natAbs + x.natAbs := Int.natAbs_add_le c x
  rw [Nat.pow_succ]
  omega
end L2

set_option Elab.async false
set_option linter.all false
set_option maxRecDepth 100000
namespace L2
open PySem PySem.Spec PyProof.Rows
/-! ### a worth without a list within it holds whatever is one's own -/
mutual
def noL : D → Bool
  | .tup a => noLs a
  | .lst _ => false
  | .exn _ => false
  | _ => true
def noLs : List D → Bool
  | [] => true
  | a :: r => noL a && noLs r
end
theorem sqT_own {K : PySem.W.Frag} {H : Hp} {P0 P : Addr → Prop} {a : Addr} {xs : List V} (ht : ∀ a, P a → Trk H a) (h : SqT K (del H P0) a xs) : SqT K (del H P) a xs := by
  have key : ∀ o, (∃ ys, o = .tup ys ∨ ∃ z, o = .frz z (.tup ys)) → del H P0 a = some o → del H P a = some o := fun o ho h => by
    obtain ⟨h1, h2⟩ := del_some h
    rw [del_of fun z => by
      obtain ⟨o', q, r⟩ := ht a z
      rw [h2] at q; cases q
      obtain ⟨ys, e | ⟨y, e⟩⟩ := ho
      · exact (r ys).1 e
      · exact (r ys).2 y e]
    exact h2
  rcases h with (h | ⟨o, h⟩) | h
  · exact .inl (.inl (key _ ⟨xs, .inl rfl⟩ h))
  · exact .inl (.inr ⟨o, key _ ⟨xs, .inr ⟨o, rfl⟩⟩ h⟩)
  · exact .inr h
mutual
theorem Has.noL {K : PySem.W.Frag} {H : Hp} {P0 P : Addr → Prop} (ht : ∀ a, P a → Trk H a) : ∀ {v : V} {d : D}, noL d = true → Has K (del H P0) v d → Has K (del H P) v d
  | _, _, _, .non => .non
  | _, _, _, .bl b => .bl b
  | _, _, _, .int i => .int i
  | _, _, _, .str x => .str x
  | _, _, n, .tup h r => .tup (sqT_own ht h) (HasL.noL ht (by rw [L2.noL] at n; exact n) r)
  | _, _, n, .lst h r => by rw [L2.noL] at n; cases n
  | _, _, n, .exn h r => by rw [L2.noL] at n; cases n
theorem HasL.noL {K : PySem.W.Frag} {H : Hp} {P0 P : Addr → Prop} (ht : ∀ a, P a → Trk H a) : ∀ {vs : List V} {ds : List D}, noLs ds = true → HasL K (del H P0) vs ds → HasL K (del H P) vs ds
  | _, _, _, .nil => .nil
  | _, _, n, .cons h t => by
    rw [noLs, Bool.and_eq_true] at n
    exact .cons (Has.noL ht n.1 h) (HasL.noL ht n.2 t)
end
def dp (m : M D) : M D := m.bind fun d => if noL d = true then .ok d else .bad
theorem de_deep {X : Cx} {WX : Str → Hp → Prop} {e : Expr} {f : Rho → M D} (h : DE X WX false e f) : DE X WX true e (fun ρ => dp (f ρ)) := by
  obtain ⟨t, h1, h2⟩ := h
  refine ⟨t, h1, fun P0 P σ H Q ρ E g => h2 P0 P σ H Q ρ E ?_⟩
  unfold dp at g
  dsimp only at g
  cases e : f ρ with
  | ok d =>
    rw [e] at g
    simp only [M.bind_ok] at g
    by_cases hf : noL d = true
    · rw [if_pos hf] at g
      exact fun v H' s hv => g v H' s (hv.noL (E.same s).trk hf)
    · rw [if_neg hf] at g; exact g.elim
  | ex x => rw [e] at g; exact g
  | bad => rw [e] at g; exact g
end L2

set_option Elab.async false
set_option linter.all false
set_option maxRecDepth 100000
namespace L2
open PySem PySem.Spec PyProof.Rows
theorem forM_inv {gt : D → Rho → M Rho} {gb : Rho → M Out} {ds : List D} {ρ : Rho} (I : Nat → Rho → Prop) (h0 : I 0 ρ)
    (step : ∀ i d ρ, ds[i]? = some d → I i ρ → ∃ ρ1 ρ2, gt d ρ = .ok ρ1 ∧ gb ρ1 = .ok (.next ρ2) ∧ I (i + 1) ρ2) : ∃ ρ', forM gt gb ds ρ = .ok (.next ρ') ∧ I ds.length ρ' := by
  have key : ∀ (n i : Nat) (ρ : Rho), i + n = ds.length → I i ρ → ∃ ρ', forM gt gb (ds.drop i) ρ = .ok (.next ρ') ∧ I ds.length ρ' := by
    intro n
    induction n with
    | zero =>
      intro i ρ hi h
      have e : i = ds.length := by omega
      subst e
      exact ⟨ρ, by rw [List.drop_length, forM], h⟩
    | succ n ih =>
      intro i ρ hi h
      have hlt : i < ds.length := by omega
      obtain ⟨ρ1, ρ2, h1, h2, h3⟩ := step i ds[i] ρ (List.getElem?_eq_getElem hlt) h
      obtain ⟨ρ', h4, h5⟩ := ih (i + 1) ρ2 (by omega) h3
      refine ⟨ρ', ?_, h5⟩
      rw [drop_get hlt, forM, h1]
      dsimp only
      rw [h2]
      exact h4
  obtain ⟨ρ', h1, h2⟩ := key ds.length 0 ρ (by omega) h0
  rw [List.drop_zero] at h1
  exact ⟨ρ', h1, h2⟩
theorem forM_ex {gt : D → Rho → M Rho} {gb : Rho → M Out} {ds : List D} {ρ : Rho} {Q : Rho → Prop} (I : Nat → Rho → Prop) (h0 : I 0 ρ)
    (step : ∀ i d ρ, ds[i]? = some d → I i ρ → ∃ ρ1 ρ2, gt d ρ = .ok ρ1 ∧ gb ρ1 = .ok (.next ρ2) ∧ I (i + 1) ρ2) (hk : ∀ ρ', I ds.length ρ' → Q ρ') : ∃ ρ', forM gt gb ds ρ = .ok (.next ρ') ∧ Q ρ' :=
  let ⟨ρ', h1, h2⟩ := forM_inv I h0 step
  ⟨ρ', h1, hk ρ' h2⟩
/-- a while loop whose turns go down -/
theorem loop_acc {α : Type} {lt : α → α → Prop} {c : Rho → M Bool} {b : Rho → M Out} (J : α → Rho → Prop) (E : Rho → Prop)
    (turn : ∀ x ρ, J x ρ → c ρ = .ok true ∧ ∃ ρ1, b ρ = .ok (.next ρ1) ∧ ((∃ y, lt y x ∧ J y ρ1) ∨ (c ρ1 = .ok false ∧ E ρ1))) {x : α} (hx : Acc lt x) : ∀ ρ, J x ρ → ∃ n ρ', whileM c b n ρ = .ok (.next ρ') ∧ E ρ' := by
  induction hx with
  | intro x _ ih =>
    intro ρ h
    obtain ⟨h1, ρ1, h2, h3⟩ := turn x ρ h
    rcases h3 with ⟨y, hl, hj⟩ | ⟨h3, h4⟩
    · obtain ⟨n, ρ', h5, h6⟩ := ih y hl ρ1 hj
      refine ⟨n + 1, ρ', ?_, h6⟩
      rw [whileM, h1]
      dsimp only
      rw [h2]
      exact h5
    · refine ⟨2, ρ1, ?_, h4⟩
      rw [whileM, h1]
      dsimp only
      rw [h2]
      dsimp only
      rw [whileM, h3]
theorem fin_loopA {α : Type} {lt : α → α → Prop} {c : Rho → M Bool} {b : Rho → M Out} {ρ : Rho} {k : Rho → M Out} (R : M D → Prop) (J : α → Rho → Prop) (E : Rho → Prop) {x : α} (hx : Acc lt x) (h0 : J x ρ)
    (turn : ∀ x ρ, J x ρ → c ρ = .ok true ∧ ∃ ρ1, b ρ = .ok (.next ρ1) ∧ ((∃ y, lt y x ∧ J y ρ1) ∨ (c ρ1 = .ok false ∧ E ρ1))) (hk : ∀ ρ', E ρ' → R (fin (k ρ'))) : R (fin (seqM (loopM c b ρ) k)) := by
  obtain ⟨n, ρ', h1, h2⟩ := loop_acc J E turn hx ρ h0
  rw [loopM_of (n := n) (by rw [h1]; intro z; cases z), h1]
  exact hk ρ' h2
theorem fin_seqE {m : M Out} {k : Rho → M Out} (R : M D → Prop) {ρ : Rho} (h : m = .ok (.next ρ)) (hk : R (fin (k ρ))) : R (fin (seqM m k)) := by
  rw [h]
  exact hk
theorem seqM_assoc (m : M Out) (k1 k2 : Rho → M Out) : seqM (seqM m k1) k2 = seqM m fun ρ => seqM (k1 ρ) k2 := by
  cases m with
  | ok o => cases o <;> rfl
  | ex x => rfl
  | bad => rfl
theorem ex_seq {m : M Out} {k : Rho → M Out} {Q : Rho → Prop} {ρ1 : Rho} (h : m = .ok (.next ρ1)) (hk : ∃ ρ2, k ρ1 = .ok (.next ρ2) ∧ Q ρ2) : ∃ ρ2, seqM m k = .ok (.next ρ2) ∧ Q ρ2 := by
  rw [h]
  exact hk
theorem ex_one {m : M Out} {Q : Rho → Prop} {ρ1 : Rho} (h : m = .ok (.next ρ1)) (hk : Q ρ1) : ∃ ρ2, m = .ok (.next ρ2) ∧ Q ρ2 := ⟨ρ1, h, hk⟩
theorem ex_seq_for {gt : D → Rho → M Rho} {gb : Rho → M Out} {ds : List D} {ρ : Rho} {k : Rho → M Out} {Q : Rho → Prop} (I : Nat → Rho → Prop) (h0 : I 0 ρ)
    (step : ∀ i d ρ, ds[i]? = some d → I i ρ → ∃ ρ1 ρ2, gt d ρ = .ok ρ1 ∧ gb ρ1 = .ok (.next ρ2) ∧ I (i + 1) ρ2) (hk : ∀ ρ', I ds.length ρ' → ∃ ρ2, k ρ' = .ok (.next ρ2) ∧ Q ρ2) : ∃ ρ2, seqM (forM gt gb ds ρ) k = .ok (.next ρ2) ∧ Q ρ2 := by
  obtain ⟨ρ', h1, h2⟩ := forM_inv I h0 step
  rw [h1]
  exact hk ρ' h2
theorem fin_loop {c : Rho → M Bool} {b : Rho → M Out} {ρ ρ' : Rho} {k : Rho → M Out} {r : M D} {n : Nat} (h : whileM c b n ρ = .ok (.next ρ')) (hk : fin (k ρ') = r) : fin (seqM (loopM c b ρ) k) = r := by
  rw [loopM_of (n := n) (by rw [h]; intro z; cases z), h]
  exact hk
theorem whileM_end {c : Rho → M Bool} {b : Rho → M Out} {ρ : Rho} (h : c ρ = .ok false) : whileM c b 1 ρ = .ok (.next ρ) := by rw [whileM, h]
theorem whileM_turn {c : Rho → M Bool} {b : Rho → M Out} {ρ ρ1 : Rho} {n : Nat} (h : c ρ = .ok true) (h1 : b ρ = .ok (.next ρ1)) : whileM c b (n + 1) ρ = whileM c b n ρ1 := by
  rw [whileM, h]
  dsimp only
  rw [h1]
/-! ### lists of one length, made less at one place -/
section
variable {α : Type} (lt : α → α → Prop)
def LtL : List α → List α → Prop
  | y :: ys, x :: xs => (lt y x ∧ ys.length = xs.length) ∨ (y = x ∧ LtL ys xs)
  | _, _ => False
theorem LtL.len : ∀ {ys xs : List α}, LtL lt ys xs → ys.length = xs.length
  | y :: ys, x :: xs, h => by
    rcases h with ⟨_, h⟩ | ⟨_, h⟩
    · rw [List.length_cons, List.length_cons, h]
    · rw [List.length_cons, List.length_cons, LtL.len h]
  | [], [], h => h.elim
  | [], _ :: _, h => h.elim
  | _ :: _, [], h => h.elim
theorem acc_cons (n : Nat) (ih : ∀ xs : List α, xs.length = n → Acc (LtL lt) xs) {x : α} (hx : Acc lt x) : ∀ {xs : List α}, xs.length = n → Acc (LtL lt) xs → Acc (LtL lt) (x :: xs) := by
  induction hx with
  | intro x _ ihx =>
    intro xs hl hxs
    induction hxs with
    | intro xs _ ihxs =>
      refine .intro _ fun zs h => ?_
      cases zs with
      | nil => exact h.elim
      | cons y ys =>
        rcases h with ⟨h1, h2⟩ | ⟨h1, h2⟩
        · exact ihx y h1 (h2.trans hl) (ih ys (h2.trans hl))
        · subst h1
          exact ihxs ys h2 ((LtL.len lt h2).trans hl)
theorem acc_list (h : ∀ x, Acc lt x) : ∀ (n : Nat) (xs : List α), xs.length = n → Acc (LtL lt) xs
  | 0, [], _ => .intro _ fun zs h => by cases zs <;> exact h.elim
  | n + 1, x :: xs, e => acc_cons lt n (acc_list h n) (h x) (by simpa using e) (acc_list h n xs (by simpa using e))
theorem ltL_set : ∀ {xs : List α} {i : Nat} {y : α} {x : α}, xs[i]? = some x → lt y x → LtL lt (xs.set i y) xs
  | [], _, _, _, h, _ => by cases h
  | z :: zs, 0, y, x, h, hl => by
    cases h
    exact .inl ⟨hl, rfl⟩
  | z :: zs, i + 1, y, x, h, hl => .inr ⟨rfl, ltL_set (by simpa using h) hl⟩
theorem LtL.trans (ht : ∀ a b c, lt a b → lt b c → lt a c) : ∀ {xs ys zs : List α}, LtL lt xs ys → LtL lt ys zs → LtL lt xs zs
  | x :: xs, y :: ys, z :: zs, h1, h2 => by
    rcases h1 with ⟨a, b⟩ | ⟨rfl, b⟩
    · rcases h2 with ⟨c, d⟩ | ⟨rfl, d⟩
      · exact .inl ⟨ht _ _ _ a c, b.trans d⟩
      · exact .inl ⟨a, b.trans (LtL.len lt d)⟩
    · rcases h2 with ⟨c, d⟩ | ⟨rfl, d⟩
      · exact .inl ⟨c, (LtL.len lt b).trans d⟩
      · exact .inr ⟨rfl, LtL.trans ht b d⟩
  | [], _, _, h, _ => by cases h
  | _ :: _, [], _, h, _ => by cases h
  | _ :: _, _ :: _, [], _, h => by cases h
end
end L2

set_option Elab.async false
set_option linter.all false
set_option maxRecDepth 100000
namespace L2
open PySem PySem.Spec PyProof.Rows
/-! ### a list of lists of one's own -/
section
variable {X : Cx} {WX : Str → Hp → Prop} {c : Bool} {P0 P : Addr → Prop} {H : Hp} {σ : St} {ρ : Rho} {a b e : Expr} {f g g2 : Rho → M D} {pos : Pos}
theorem EnvP.forget {K : PySem.W.Frag} (E : EnvP K P0 P H σ ρ) (k : Nat) : EnvP K P0 P H σ (ρ.set k none) := by
  have key : ∀ (j : Nat) (cl : Cl), (ρ.set k none)[j]? = some (some cl) → k ≠ j ∧ ρ[j]? = some (some cl) := fun j cl h => by
    rcases get_set h with ⟨_, _, z⟩ | z
    · cases z
    · exact z
  exact ⟨E.sub, E.trk, fun j d h => E.val j d (key j _ h).2, fun j d h io => E.ows j d (key j _ h).2 io, fun i j c c' v v' fp fp' h1 h2 => E.apart i j c c' v v' fp fp' (key i _ h1).2 (key j _ h2).2, by rw [List.length_set]; exact E.len⟩
/-- name = [], a list of lists of one's own -/
theorem ds_newR (i : Nat) {x : Str} {pos' lpos : Pos} (hN : X.N.Nodup) (hi : X.N[i]? = some x) (hx : Loc X.env.scope x) (hs : swapsWith (.List [] lpos) (some (.Name x pos')) pos.line X.env = pure false := by rfl) (hf : X.fn x = true ∨ X.env.scope.names.lookup x = some .local := by first | exact .inl rfl | exact .inr rfl | assumption) :
    DS X WX (.Assign [.Name x pos'] (.List [] lpos) pos) (fun ρ => .ok (.next (ρ.set i (some (.ow (.rows [])))))) := by
  refine ⟨_, ps_set hN hi hx (pe_lst pa_nil) hs hf, fun P0 P σ H Z ρ E h => ?_⟩
  refine ⟨Nat.zero_le _, fun p hp => ?_⟩
  have nP : ¬ P p := fun z => (E.trk p z).no hp
  have sm : Same (del H P) (del (upd H p (.lst [])) (fun a => P a ∨ a = p)) := fun b o e => by
    obtain ⟨h1, h2⟩ := del_some e
    have hb : b ≠ p := ne_of_none h2 hp
    rw [del_of (fun z => z.elim h1 hb), upd_ne hb]; exact h2
  refine h _ _ (fun a => P a ∨ a = p) ⟨sm, fun a ha => by rw [upd_ne (fun z => nP (by rw [← z]; exact E.sub a ha))]⟩ (E.putO (fp := [p]) (fun a h => .inl h) (fun a h => ?_) sm (fun j c' v' fp' hne h1 h2 h3 a ha => ?_) ⟨p, [], rfl, rfl, upd_same, .nil⟩ (fun a ha => ?_) (by simp))
  · by_cases ha : a = p
    · subst ha; exact Trk.lst upd_same
    · rcases h with h | h
      · unfold Trk; rw [upd_ne ha]; exact E.trk a h
      · exact absurd h ha
  · obtain ⟨ys, q⟩ := h3.at a ha
    have hn : a ≠ p := ne_of_none q hp
    exact ⟨upd_ne hn, fun z => hn (List.mem_singleton.mp z)⟩
  · rw [List.mem_singleton.mp ha]
    exact ⟨.inr rfl, fun z => nP (E.sub p z)⟩
theorem RowsH.snoc {K : PySem.W.Frag} {H : Hp} {P : Addr → Prop} {q : Addr} {xs : List V} {ds : List D} (hq : H q = some (.lst xs)) (hx : HasL K (del H P) xs ds) : ∀ {ps : List Addr} {dss : List (List D)}, RowsH K H P ps dss → RowsH K H P (ps ++ [q]) (dss ++ [ds])
  | _, _, .nil => .cons hq hx .nil
  | _, _, .cons h r t => .cons h r (t.snoc hq hx)
/-- name.append(other), a list of one's own goes into the list of lists -/
def pushM (i k : Nat) (ρ : Rho) : M Out := match ρ[i]?, ρ[k]? with
  | some (some (.ow (.rows dss))), some (some (.own ds)) => if dss.length < 1000 ∧ i ≠ k then .ok (.next ((ρ.set k none).set i (some (.ow (.rows (dss ++ [ds])))))) else .bad
  | _, _ => .bad
theorem ds_push (i k : Nat) {x y : Str} {p1 p2 apos cpos : Pos} (hv : PE X (.Name x p1) (tVar i)) (hw : PE X (.Name y p2) (tVar k)) (hs : starEach [.Name y p2] X.env = [(false, eval (.Name y p2) X.env)] := by rfl)
    (hsw : swapsWith (.Call (.Attribute (.Name x p1) "append" apos) [.Name y p2] [] cpos) none pos.line X.env = pure false := by rfl)
    (hbase : attributeBase (.Name x p1) "append" X.env (eval (.Name x p1) X.env) = eval (.Name x p1) X.env := by rfl)
    (hfew : ((backTo cpos (starEach [.Name y p2] X.env)).all (fun x => !x.1) && (backToKw cpos (keywordEach [] X.env)).all (fun x => x.1.isSome) && decide (([.Name y p2] : List Expr).length + ([] : List Keyword).length + (if ([] : List Keyword).isEmpty then 0 else 1) < 30)) = true := by rfl)
    (hline : (apos.endLine == cpos.line) = true := by rfl) (hplain : (backTo cpos (starEach [] X.env)).any (·.1) = false := by rfl) :
    DS X WX (.Expr (.Call (.Attribute (.Name x p1) "append" apos) [.Name y p2] [] cpos) pos) (pushM i k) := by
  refine ⟨_, ps_expr (pe_bm PySem.F.plainAttrs_list PySem.F.slot_list_append PySem.F.type_list_append mt_append hv (pa_cons hw pa_nil hs) hbase hfew hline hs hplain) hsw, fun P0 P σ H Z ρ E h => ?_⟩
  unfold pushM at h
  split at h
  · rename_i dss ds e1 e2
    by_cases hl : dss.length < 1000 ∧ i ≠ k
    · rw [if_pos hl] at h
      obtain ⟨v, fp, h1, o1, h4, nd⟩ := E.ows i _ e1 rfl
      obtain ⟨w, fq, k1, o2, k4, _⟩ := E.ows k _ e2 rfl
      have oa := o1
      have ob := o2
      obtain ⟨p, ps, rfl, rfl, h2, h3⟩ := o1
      obtain ⟨q, xs, rfl, rfl, k2, k3⟩ := o2
      refine ⟨_, h1, .inl ⟨rfl, _, .of h2⟩, ⟨_, k1, p, _, _, rfl, rfl, h2, small1000 (by rw [List.length_map, h3.length]; exact Nat.le_of_lt hl.1), ?_⟩⟩
      have pP := h4 p List.mem_cons_self
      have sd : del (upd H p (.lst (ps.map V.ref ++ [V.ref q]))) P = del H P := by
        funext b
        by_cases hb : P b
        · rw [del_in hb, del_in hb]
        · rw [del_of hb, del_of hb, upd_ne (fun z => hb (by rw [z]; exact pP.1))]
      have sm : Same (del H P) (del (upd H p (.lst (ps.map V.ref ++ [V.ref q]))) P) := by rw [sd]; exact Same.refl _
      have qn : q ∉ p :: ps := fun z => E.apart i k _ _ _ _ _ _ e1 e2 h1 k1 oa ob hl.2 q z (List.mem_singleton.mpr rfl)
      have qp : q ≠ p := fun z => qn (by rw [z]; exact List.mem_cons_self)
      have key := (E.forget k).putO (P' := P) (H' := upd H p (.lst (ps.map V.ref ++ [V.ref q]))) (i := i) (v := .ref p) (c := .ow (.rows (dss ++ [ds]))) (fp := p :: (ps ++ [q])) (fun a h => h) (fun a h => ?_) sm (fun j c' v' fp' hne g1 g2 g3 a ha => ?_)
        ⟨p, ps ++ [q], rfl, rfl, by rw [List.map_append]; exact upd_same, ?_⟩ (fun a ha => ?_) ?_
      · rw [set_at h1] at key
        exact h _ _ _ ⟨sm, fun a h => by rw [upd_ne (fun z => pP.2 (by rw [← z]; exact h))]⟩ key
      · by_cases ha : a = p
        · subst ha; exact Trk.lst upd_same
        · unfold Trk; rw [upd_ne ha]; exact E.trk a h
      · have hj : k ≠ j ∧ ρ[j]? = some (some c') := by
          rcases get_set g1 with ⟨_, _, z⟩ | z
          · cases z
          · exact z
        have n1 := E.apart j i _ _ _ _ _ _ hj.2 e1 g2 h1 g3 oa (Ne.symm hne) a ha
        have n2 := E.apart j k _ _ _ _ _ _ hj.2 e2 g2 k1 g3 ob (Ne.symm hj.1) a ha
        have ap : a ≠ p := fun z => n1 (by rw [z]; exact List.mem_cons_self)
        refine ⟨upd_ne ap, fun z => ?_⟩
        rcases List.mem_cons.mp z with z | z
        · exact ap z
        · rcases List.mem_append.mp z with z | z
          · exact n1 (List.mem_cons_of_mem _ z)
          · exact n2 z
      · refine RowsH.snoc (xs := xs) (by rw [upd_ne qp]; exact k2) (by rw [sd]; exact k3) (h3.move sm fun a ha => upd_ne fun z => ?_)
        rw [List.nodup_cons] at nd
        exact nd.1 (by rw [← z]; exact ha)
      · rcases List.mem_cons.mp ha with rfl | ha
        · exact pP
        · rcases List.mem_append.mp ha with ha | ha
          · exact h4 a (List.mem_cons_of_mem _ ha)
          · exact k4 a ha
      · rw [List.nodup_cons] at nd ⊢
        refine ⟨fun z => ?_, ?_⟩
        · rcases List.mem_append.mp z with z | z
          · exact nd.1 z
          · exact qp (List.mem_singleton.mp z).symm
        · rw [List.nodup_append]
          refine ⟨nd.2, by simp, fun x hx y hy z => ?_⟩
          rw [List.mem_singleton.mp hy] at z
          exact qn (List.mem_cons_of_mem _ (z ▸ hx))
    · rw [if_neg hl] at h; exact h.elim
  · exact h.elim
theorem atI_ix {α : Type} {l : List α} {k : Int} {n : Nat} (h : ixN l.length k = some n) : atI l k = l[n]? := by
  unfold atI
  rw [h]
  rfl
theorem ixN_lt {m : Nat} {k : Int} {n : Nat} (h : ixN m k = some n) : n < m := by
  unfold ixN at h
  split at h
  · split at h
    · cases h; omega
    · cases h
  · split at h
    · cases h; omega
    · cases h
/-- name[a][b] -/
def rowAt (dss : List (List D)) (ka : D) : M (List D) := match ka with
  | .int j => (match ixN dss.length j with | some n => (match dss[n]? with | some ds => .ok ds | none => .bad) | none => .bad)
  | _ => .bad
theorem rowAt_inv {dss : List (List D)} {ka : D} {m : M (List D)} (h : rowAt dss ka = m) (hb : m ≠ .bad) : ∃ j n ds, ka = .int j ∧ ixN dss.length j = some n ∧ dss[n]? = some ds ∧ m = .ok ds := by
  subst h
  unfold rowAt at hb ⊢
  split at hb
  · rename_i j
    split at hb
    · rename_i n en
      split at hb
      · rename_i ds ed
        exact ⟨j, n, ds, rfl, en, ed, by simp only [en, ed]⟩
      · exact (hb rfl).elim
    · exact (hb rfl).elim
  · exact (hb rfl).elim
def ix2M (i : Nat) (ρ : Rho) (ma mb : M D) : M D := match ρ[i]? with
  | some (some (.ow (.rows dss))) => ma.bind fun ka => (rowAt dss ka).bind fun ds => mb.bind fun kb => dIx (.lst ds) kb
  | _ => .bad
theorem gV_nb {K : PySem.W.Frag} {P : Addr → Prop} {Q : VK} {m : M D} (h : gV K WX P H Q m) : m ≠ .bad := fun e => by rw [e] at h; exact h
theorem bind_nb {α β : Type} {m : M α} {k : α → M β} (h : m.bind k ≠ .bad) : m ≠ .bad := fun e => by rw [e] at h; exact h rfl
theorem de_ix2 (i : Nat) {x : Str} {p1 p2 : Pos} (hv : PE X (.Name x p1) (tVar i)) (ha : DE X WX true a f) (hb : DE X WX true b g) (hs : PlainIx a := by exact fun _ _ => rfl) (hs2 : PlainIx b := by exact fun _ _ => rfl) :
    DE X WX true (.Subscript (.Subscript (.Name x p1) a p2) b pos) (fun ρ => ix2M i ρ (f ρ) (g ρ)) := by
  obtain ⟨ta, a1, a2⟩ := ha
  obtain ⟨tb, b1, b2⟩ := hb
  refine ⟨_, pe_ix ix_list (pe_ix ix_list hv a1 hs) b1 hs2, fun P0 P σ H Q ρ E h => ?_⟩
  dsimp only at h
  unfold ix2M at h
  split at h
  · rename_i dss e1
    obtain ⟨v, fp, h1, ⟨p, ps, rfl, rfl, h2, h3⟩, h4, nd⟩ := E.ows i _ e1 rfl
    refine ⟨_, h1, a2 P0 P σ H _ ρ E ?_⟩
    cases q : f ρ with
    | bad => rw [q] at h; exact h
    | ex x => rw [q] at h; exact h
    | ok ka =>
      rw [q] at h
      simp only [M.bind_ok] at h
      intro w H1 s1 hw
      obtain ⟨j, n, ds, rfl, en, ed, em⟩ := rowAt_inv rfl (bind_nb (gV_nb h))
      rw [em] at h
      simp only [M.bind_ok] at h
      cases hw
      obtain ⟨r, xs, r1, r2, r3⟩ := h3.get ed
      have hl : ixN (ps.map V.ref).length j = some n := by rw [List.length_map, h3.length]; exact en
      refine ⟨p, _, j, .ref r, rfl, rfl, .of (s1 _ _ h2), by rw [atI_ix hl, List.getElem?_map, r1]; rfl, ?_⟩
      refine b2 P0 P σ H1 _ ρ (E.same s1) ?_
      cases q2 : g ρ with
      | bad => rw [q2] at h; exact h.elim
      | ex x => rw [q2] at h; exact fun H' s' => h H' (s1.trans s')
      | ok kb =>
        rw [q2] at h
        simp only [M.bind_ok] at h
        intro u H2 s2 hu
        unfold dIx at h
        split at h
        · rename_i heq; cases heq
        · rename_i ds' j' heq
          cases heq
          split at h
          · rename_i d e
            cases hu
            obtain ⟨z, k1, k2⟩ := (r3.mono (s1.trans s2).del).atI e
            exact ⟨r, xs, j', z, rfl, rfl, .of (s2 _ _ (s1 _ _ r2)), k1, h _ H2 (s1.trans s2) k2⟩
          · exact h.elim
        · exact h.elim
  · exact h.elim
theorem RowsH.set {K : PySem.W.Frag} {H H' : Hp} {P : Addr → Prop} (sm : Same (del H P) (del H' P)) {r : Addr} {xs : List V} {ds : List D} (hr : H' r = some (.lst xs)) (hx : HasL K (del H' P) xs ds) (k : ∀ a, a ≠ r → H' a = H a) : ∀ {ps : List Addr} {dss : List (List D)} {n : Nat}, ps.Nodup → ps[n]? = some r → RowsH K H P ps dss → RowsH K H' P ps (dss.set n ds)
  | _, _, _, _, e, .nil => by simp at e
  | _, _, 0, nd, e, .cons h1 h2 t => by
    simp at e; subst e
    rw [List.nodup_cons] at nd
    exact .cons hr hx (t.move sm fun a ha => k a fun z => nd.1 (by rw [← z]; exact ha))
  | q :: ps, d :: dss, n + 1, nd, e, .cons h1 h2 t => by
    rw [List.nodup_cons] at nd
    have e' : ps[n]? = some r := by simpa using e
    refine .cons ((k q fun z => nd.1 (by rw [z]; exact List.mem_of_getElem? e')).trans h1) (h2.mono sm) (t.set sm hr hx k nd.2 e')
/-- name[a][b] = e -/
def putJ (i : Nat) (ρ : Rho) (dss : List (List D)) (d ka : D) (ds : List D) (kb : D) : M Out := match ka, kb with
  | .int j, .int l => (match ixN dss.length j, ixN ds.length l with | some n, some m => .ok (.next (ρ.set i (some (.ow (.rows (dss.set n (ds.set m d))))))) | _, _ => .bad)
  | _, _ => .bad
def put2M (i : Nat) (ρ : Rho) (ma mb : M D) (d : D) : M Out := match ρ[i]? with
  | some (some (.ow (.rows dss))) => ma.bind fun ka => (rowAt dss ka).bind fun ds => mb.bind fun kb => putJ i ρ dss d ka ds kb
  | _ => .bad
theorem ds_put2 (i : Nat) {x : Str} {p1 p2 spos : Pos} (hv : PE X (.Name x p1) (tVar i)) (he : DE X WX true e g2) (ha : DE X WX true a f) (hb : DE X WX true b g) (hpx : PlainIx a := by exact fun _ _ => rfl)
    (hs : swapsWithSole [.Subscript (.Subscript (.Name x p1) a p2) b spos] e pos.line X.env = pure false := by rfl) (hw : swappedStores [.Subscript (.Subscript (.Name x p1) a p2) b spos] e X.env = pure none := by rfl) (h1 : (assignEach [.Subscript (.Subscript (.Name x p1) a p2) b spos] X.env).map (·.2) = [assign (.Subscript (.Subscript (.Name x p1) a p2) b spos) X.env] := by rfl)
    (hasg : ∀ v, assign (.Subscript (.Subscript (.Name x p1) a p2) b spos) X.env v = (do
      let ov ← holding [v] (eval (.Subscript (.Name x p1) a p2) X.env)
      let iv ← holding [v, ov] (eval b X.env)
      standAt spos
      holding [v, ov, iv] (setItem ov iv v)
      release [v, ov, iv] []) := by intro _; rfl) :
    DS X WX (.Assign [.Subscript (.Subscript (.Name x p1) a p2) b spos] e pos) (fun ρ => (g2 ρ).bind (put2M i ρ (f ρ) (g ρ))) := by
  obtain ⟨te, e1, e2⟩ := he
  obtain ⟨ta, a1, a2⟩ := ha
  obtain ⟨tb, b1, b2⟩ := hb
  refine ⟨_, ps_asg e1 (pg_sub (pe_ix ix_list hv a1 hpx) b1 set_list hasg) hs hw h1, fun P0 P σ H Z ρ E h => ?_⟩
  dsimp only at h
  refine e2 P0 P σ H _ ρ E ?_
  cases q0 : g2 ρ with
  | bad => rw [q0] at h; exact h
  | ex x => rw [q0] at h; exact fun H' s => h H' P (E.tr s)
  | ok d =>
    rw [q0] at h
    simp only [M.bind_ok] at h
    intro v H0 s0 hvd
    have E0 := E.same s0
    unfold put2M at h
    split at h
    · rename_i dss e1'
      obtain ⟨v', fp, h1, o1, h4, nd⟩ := E0.ows i _ e1' rfl
      have oa := o1
      obtain ⟨p, ps, rfl, rfl, h2, h3⟩ := o1
      refine ⟨_, h1, a2 P0 P σ H0 _ ρ E0 ?_⟩
      cases q : f ρ with
      | bad => rw [q] at h; exact h.elim
      | ex x => rw [q] at h; exact fun H' s => h H' P ((E.tr s0).trans (E0.tr s))
      | ok ka =>
        rw [q] at h
        simp only [M.bind_ok] at h
        intro w H1 s1 hw
        obtain ⟨j, n, ds, rfl, en, ed, em⟩ := rowAt_inv rfl (bind_nb (gS_nb h))
        rw [em] at h
        simp only [M.bind_ok] at h
        cases hw
        obtain ⟨r, xs, r1, r2, r3⟩ := h3.get ed
        have hl : ixN (ps.map V.ref).length j = some n := by rw [List.length_map, h3.length]; exact en
        refine ⟨p, _, j, .ref r, rfl, rfl, .of (s1 _ _ h2), by rw [atI_ix hl, List.getElem?_map, r1]; rfl, ?_⟩
        have E1 := E0.same s1
        refine b2 P0 P σ H1 _ ρ E1 ?_
        cases q2 : g ρ with
        | bad => rw [q2] at h; exact h.elim
        | ex x => rw [q2] at h; exact fun H' s' => h H' P ((E.tr s0).trans ((E0.tr s1).trans (E1.tr s')))
        | ok kb =>
          rw [q2] at h
          simp only [M.bind_ok] at h
          intro u H2 s2 hu
          unfold putJ at h
          split at h
          · rename_i j' l heq
            cases heq
            cases hu
            split at h
            · rename_i n' m em en'
              rw [en] at em; cases em
              have E2 := E1.same s2
              have s12 := s1.trans s2
              have rm : r ∈ ps := List.mem_of_getElem? r1
              have rP := h4 r (List.mem_cons_of_mem _ rm)
              have nd' := List.nodup_cons.mp nd
              have rp : r ≠ p := fun z => nd'.1 (by rw [← z]; exact rm)
              have sd : del (upd H2 r (.lst (xs.set m v))) P = del H2 P := by
                funext b
                by_cases hb : P b
                · rw [del_in hb, del_in hb]
                · rw [del_of hb, del_of hb, upd_ne (fun z => hb (by rw [z]; exact rP.1))]
              have sm : Same (del H2 P) (del (upd H2 r (.lst (xs.set m v))) P) := by rw [sd]; exact Same.refl _
              have ob := oa.same s12
              refine ⟨r, xs, l, m, rfl, rfl, s12 _ _ r2, by rw [r3.length]; exact en', ?_⟩
              have key := E2.putO (P' := P) (H' := upd H2 r (.lst (xs.set m v))) (i := i) (v := .ref p) (c := .ow (.rows (dss.set n (ds.set m d)))) (fp := p :: ps) (fun a h => h) (fun a h => ?_) sm (fun j2 c' v' fp' hne g1 g2 g3 a ha => ?_)
                ⟨p, ps, rfl, rfl, by rw [upd_ne (Ne.symm rp)]; exact s12 _ _ h2, ?_⟩ h4 nd
              · rw [set_at h1] at key
                exact h _ _ _ ((E.tr s0).trans ((E0.tr s12).trans ⟨sm, fun a h => by rw [upd_ne (fun z => rP.2 (by rw [← z]; exact h))]⟩)) key
              · by_cases ha : a = r
                · subst ha; exact Trk.lst upd_same
                · unfold Trk; rw [upd_ne ha]; exact E2.trk a h
              · have n1 := E2.apart j2 i _ _ _ _ _ _ g1 e1' g2 h1 g3 ob (Ne.symm hne) a ha
                exact ⟨upd_ne fun z => n1 (by rw [z]; exact List.mem_cons_of_mem _ rm), n1⟩
              · have h3' : RowsH X.K H2 P ps dss := h3.move s12.del fun a ha => by obtain ⟨ys, z⟩ := h3.at a ha; rw [z]; exact s12 _ _ z
                refine h3'.set sm upd_same ?_ (fun a ha => upd_ne ha) nd'.2 r1
                rw [sd]
                exact hasL_set ((hvd.mono s1.del).mono s2.del) m (r3.mono s12.del)
            · exact h.elim
          · exact h.elim
    · exact h.elim
end
end L2

set_option Elab.async false
set_option linter.all false
set_option maxRecDepth 100000
namespace L2
open PySem PySem.Spec PyProof.Rows
/-! ### min(..) of a list of ints -/
section
variable {X : Cx} {WX : Str → Hp → Prop} {c : Bool} {P0 P : Addr → Prop} {H : Hp} {σ : St} {ρ : Rho} {a b e : Expr} {f g g2 : Rho → M D} {pos : Pos}
theorem ints_of_vals : ∀ {ns : List Int} {us : List Value}, Vals (ns.map V.int) us → IntsAre us ns
  | [], _, .nil => .nil
  | n :: r, _, .cons h t => by obtain ⟨tk, rfl⟩ := h; exact .cons _ _ (ints_of_vals t)
theorem call_min_ints (hc : X.calm = true) : CallR X (.builtin "min") (fun xs H Q => ∃ p ns m, xs = [.ref p] ∧ SqL X.K H p (List.map V.int ns) ∧ List.min? ns = some m ∧ Q (.int m) H) := by
  intro pins s σ H xs us Q I r h
  obtain ⟨p, ns, m, rfl, hq, hm, q⟩ := h
  obtain ⟨u, rfl, rx⟩ := vals1 r
  cases rx
  obtain ⟨its, r', pl, hz⟩ := I.list hq
  have hl := pl.isList
  have hi := ints_of_vals r'
  obtain ⟨ys, e⟩ := hi.allInts.items
  have hns : ns = ys.toList.map (·.1) := by rw [← hi.numsOf, ← nums_intItems, ← e]
  obtain ⟨hm1, hm2⟩ := List.min?_eq_some_iff.mp hm
  have hne : 0 < ns.length := List.length_pos_of_mem hm1
  have hsz : 0 < ys.size := by
    have h3 := hne; rw [hns, List.length_map, Array.length_toList] at h3; exact h3
  rw [e] at hl
  refine min_intList (I.ok.hd hc) hl hsz fun v h' tk hv hk => ?_
  obtain ⟨t, rfl⟩ := intItems_at hv
  obtain ⟨h1, h2⟩ := argBest_lt (numAt ys) (ys.size - 1)
  have em : numAt ys (argBest (fun i j => decide (numAt ys i < numAt ys j)) (ys.size - 1)) = m := by
    have k1 : numAt ys (argBest (fun i j => decide (numAt ys i < numAt ys j)) (ys.size - 1)) ∈ ns := by
      rw [hns, numAt_eq]; exact getD_mem (by rw [List.length_map, Array.length_toList]; omega)
    have k2 := hm2 _ k1
    rw [hns] at hm1
    obtain ⟨j, hj, e2⟩ := mem_getD hm1
    rw [List.length_map, Array.length_toList] at hj
    rw [← numAt_eq] at e2
    have k3 := h2 j (by omega)
    omega
  exact ⟨.int _, H, I.kept (t' := tk) hk, ⟨_, rfl⟩, by rw [em]; exact q⟩
def dMinI (ds : List D) : M D := match ds with
  | [.lst xs] => (match intsD xs with | some ns => (match List.min? ns with | some m => .ok (.int m) | none => .bad) | none => .bad)
  | _ => .bad
theorem intsD_inv : ∀ {ds : List D} {ns : List Int}, intsD ds = some ns → ds = ns.map D.int
  | [], ns, h => by cases h; rfl
  | .int b :: r, bs, h => by
    rw [intsD] at h
    cases q : intsD r with
    | none => rw [q] at h; cases h
    | some bs' => rw [q] at h; cases h; rw [intsD_inv q]; rfl
  | .non :: r, bs, h => by cases h
  | .bl _ :: r, bs, h => by cases h
  | .str _ :: r, bs, h => by cases h
  | .tup _ :: r, bs, h => by cases h
  | .lst _ :: r, bs, h => by cases h
  | .exn _ :: r, bs, h => by cases h
theorem hasL_intsV {K : PySem.W.Frag} {H : Hp} : ∀ {vs : List V} {bs : List Int}, HasL K H vs (bs.map D.int) → vs = bs.map V.int
  | _, [], .nil => rfl
  | _, b :: r, .cons h t => by cases h; rw [hasL_intsV t]; rfl
theorem cd_minI : CallD X.K WX (fun xs H Q => ∃ p ns m, xs = [.ref p] ∧ SqL X.K H p (List.map V.int ns) ∧ List.min? ns = some m ∧ Q (.int m) H) dMinI := by
  intro P H ds vs Q ht hl h
  unfold dMinI at h
  split at h
  · rename_i xs
    obtain ⟨v, rfl, hv⟩ := hl.one
    split at h
    · rename_i ns eb
      have := intsD_inv eb
      subst this
      split at h
      · rename_i m em
        cases hv with
        | lst hs hh =>
          have := hasL_intsV hh
          subst this
          exact ⟨_, ns, m, rfl, hs.undel, em, h _ H (Same.refl H) (.int _)⟩
      · exact h.elim
    · exact h.elim
  · exact h.elim
theorem de_minI {p : Pos} (hc : X.calm = true) (hg : Gl X "min") (hm : X.mg "min" = none) (ha : DE X WX c e f) (hb : bootBuiltins "min" = some (.builtin "min") := by decide +kernel) (hs : starEach [e] X.env = [(false, eval e X.env)] := by rfl) : DE X WX c (.Call (.Name "min" p) [e] [] pos) (fun ρ => ((f ρ).bind fun d => (M.ok []).bind fun ds => .ok (d :: ds)).bind dMinI) :=
  de_callB (call_min_ints hc) cd_minI hg hm hb (da_cons ha da_nil hs) (he := hs)
end
end L2

set_option Elab.async false
set_option linter.all false
set_option maxRecDepth 100000
namespace L2
open PySem PySem.Spec PyProof.Rows
/-! ### costs -/
/-- a cost or none -/
def cst : Option (Int × Int) → D
  | none => .non
  | some p => .tup [.int p.1, .int p.2]
def addC : Option (Int × Int) → Option (Int × Int) → Option (Int × Int)
  | some p, some q => some (p.1 + q.1, p.2 + q.2)
  | _, _ => none
def ls2 (p q : Int × Int) : Int × Int := if p.1 < q.1 ∨ (p.1 = q.1 ∧ p.2 ≤ q.2) then p else q
theorem ls2_comm (p q : Int × Int) : ls2 p q = ls2 q p := by
  obtain ⟨p1, p2⟩ := p
  obtain ⟨q1, q2⟩ := q
  unfold ls2
  dsimp only
  split <;> split <;> first | rfl | (simp only [Prod.mk.injEq]; omega) | (exfalso; omega)
theorem ls2_rc (z x y : Int × Int) : ls2 (ls2 z x) y = ls2 (ls2 z y) x := by
  obtain ⟨z1, z2⟩ := z
  obtain ⟨x1, x2⟩ := x
  obtain ⟨y1, y2⟩ := y
  have h : ∀ a1 a2 b1 b2 : Int, (ls2 (a1, a2) (b1, b2) = (a1, a2) ∧ (a1 < b1 ∨ (a1 = b1 ∧ a2 ≤ b2))) ∨ (ls2 (a1, a2) (b1, b2) = (b1, b2) ∧ (b1 < a1 ∨ (b1 = a1 ∧ b2 < a2))) := by
    intro a1 a2 b1 b2
    unfold ls2
    dsimp only
    by_cases c : a1 < b1 ∨ (a1 = b1 ∧ a2 ≤ b2)
    · rw [if_pos c]; exact .inl ⟨rfl, c⟩
    · rw [if_neg c]; exact .inr ⟨rfl, by omega⟩
  rcases h z1 z2 x1 x2 with ⟨e1, c1⟩ | ⟨e1, c1⟩ <;> rcases h z1 z2 y1 y2 with ⟨e2, c2⟩ | ⟨e2, c2⟩ <;> rcases h x1 x2 y1 y2 with ⟨e3, c3⟩ | ⟨e3, c3⟩ <;> rcases h y1 y2 x1 x2 with ⟨e4, c4⟩ | ⟨e4, c4⟩ <;> simp only [e1, e2, e3, e4, Prod.mk.injEq] <;> omega
def lsC : Option (Int × Int) → Option (Int × Int) → Option (Int × Int)
  | none, b => b
  | some p, none => some p
  | some p, some q => some (ls2 p q)
def minL (cs : List (Option (Int × Int))) : Option (Int × Int) := cs.foldl lsC none
theorem lsC_rc (z x y : Option (Int × Int)) : lsC (lsC z x) y = lsC (lsC z y) x := by
  cases z <;> cases x <;> cases y <;> simp only [lsC] <;> first | rw [ls2_rc] | rw [ls2_comm]
theorem minL_rev (cs : List (Option (Int × Int))) : minL cs.reverse = minL cs := by
  have key : ∀ (l : List (Option (Int × Int))) (z x : Option (Int × Int)), l.foldl lsC (lsC z x) = lsC (l.foldl lsC z) x := by
    intro l
    induction l with
    | nil => intro z x; rfl
    | cons y r ih => intro z x; rw [List.foldl_cons, List.foldl_cons, lsC_rc, ih]
  unfold minL
  induction cs with
  | nil => rfl
  | cons x r ih =>
    rw [List.reverse_cons, List.foldl_append, ih]
    show lsC (r.foldl lsC none) x = r.foldl lsC (lsC none x)
    rw [key]
theorem comp_filter (cs : List (Option (Int × Int))) : compM (fun d ρ => .ok (ρ.set 0 (some (.val d)))) (fun ρ => (rv 0 ρ).bind fun x => .ok (!isNonD x)) (rv 0) (cs.map cst) [none] = .ok ((cs.filterMap id).map fun p => cst (some p)) := by
  induction cs with
  | nil => rfl
  | cons c r ih =>
    rw [List.map_cons, compM]
    cases c with
    | none =>
      show compM _ _ _ (r.map cst) [none] = _
      rw [ih]; rfl
    | some p =>
      show (match compM _ _ _ (r.map cst) [none] with | .ok ys => M.ok (cst (some p) :: ys) | _ => .bad) = _
      rw [ih]; rfl
theorem keys_some (ps : List (Int × Int)) : keysD (ps.map fun p => cst (some p)) = some (ps.map fun p => (cst (some p), [p.1, p.2])) := by
  induction ps with
  | nil => rfl
  | cons p r ih => rw [List.map_cons, keysD, ih]; rfl
theorem best_min (cs : List (Option (Int × Int))) : bestA ((cs.filterMap id).map fun p => (cst (some p), [p.1, p.2])) = (minL cs).map fun p => (cst (some p), [p.1, p.2]) := by
  have key : ∀ (cs : List (Option (Int × Int))) (z : Option (Int × Int)), ((cs.filterMap id).map fun p => (cst (some p), [p.1, p.2])).foldl bstep (z.map fun p => (cst (some p), [p.1, p.2])) = (cs.foldl lsC z).map fun p => (cst (some p), [p.1, p.2]) := by
    intro cs
    induction cs with
    | nil => intro z; rfl
    | cons c r ih =>
      intro z
      cases c with
      | none =>
        rw [show List.filterMap id (none :: r) = List.filterMap id r from rfl, List.foldl_cons, ih z]
        cases z <;> rfl
      | some q =>
        rw [show List.filterMap id (some q :: r) = q :: List.filterMap id r from rfl, List.map_cons, List.foldl_cons, List.foldl_cons, ← ih (lsC z (some q))]
        congr 1
        cases z with
        | none => rfl
        | some p =>
          simp only [Option.map_some, bstep, HT.lexLt_cons, HT.lexLt_nil_nil, lsC, ls2]
          by_cases h1 : q.1 = p.1
          · by_cases h2 : q.2 = p.2
            · rw [if_pos (show p.1 < q.1 ∨ (p.1 = q.1 ∧ p.2 ≤ q.2) by omega)]
              simp [h1, h2]
            · by_cases h3 : q.2 < p.2
              · rw [if_neg (show ¬ (p.1 < q.1 ∨ (p.1 = q.1 ∧ p.2 ≤ q.2)) by omega)]
                simp [h1, h2, h3]
              · rw [if_pos (show p.1 < q.1 ∨ (p.1 = q.1 ∧ p.2 ≤ q.2) by omega)]
                simp [h1, h2, h3]
          · by_cases h3 : q.1 < p.1
            · rw [if_neg (show ¬ (p.1 < q.1 ∨ (p.1 = q.1 ∧ p.2 ≤ q.2)) by omega)]
              simp [h1, h3]
            · rw [if_pos (show p.1 < q.1 ∨ (p.1 = q.1 ∧ p.2 ≤ q.2) by omega)]
              simp [h1, h3]
  exact key cs none
theorem dmin_eq (cs : List (Option (Int × Int))) : dMinD (.lst ((cs.filterMap id).map fun p => cst (some p))) .non = .ok (cst (minL cs)) := by
  simp only [dMinD, keys_some, best_min]
  cases minL cs <;> rfl
theorem least_in (cs : List (Option (Int × Int))) : compR (compM (fun d ρ => .ok (ρ.set 0 (some (.val d)))) (fun ρ => (rv 0 ρ).bind fun x => .ok (!isNonD x)) (rv 0) (cs.map cst) [none]) = .ok (.lst ((cs.filterMap id).map fun p => cst (some p))) := by
  rw [comp_filter]; rfl
abbrev Co := Option (Int × Int)
def leC : Co → Co → Prop
  | _, none => True
  | none, some _ => False
  | some p, some q => p.1 < q.1 ∨ (p.1 = q.1 ∧ p.2 ≤ q.2)
theorem leC_refl : ∀ a : Co, leC a a
  | none => trivial
  | some p => .inr ⟨rfl, Int.le_refl _⟩
theorem leC_trans : ∀ {a b c : Co}, leC a b → leC b c → leC a c
  | _, _, none, _, _ => trivial
  | none, none, some _, _, h => h.elim
  | some _, none, some _, _, h => h.elim
  | none, some _, some _, h, _ => h.elim
  | some p, some q, some r, h1, h2 => by simp only [leC] at *; omega
theorem leC_anti : ∀ {a b : Co}, leC a b → leC b a → a = b
  | none, none, _, _ => rfl
  | none, some _, h, _ => h.elim
  | some _, none, _, h => h.elim
  | some p, some q, h1, h2 => by
    obtain ⟨p1, p2⟩ := p
    obtain ⟨q1, q2⟩ := q
    simp only [leC] at h1 h2
    have e1 : p1 = q1 := by omega
    have e2 : p2 = q2 := by omega
    rw [e1, e2]
theorem lsC_cases : ∀ a b : Co, (lsC a b = a ∧ leC a b) ∨ (lsC a b = b ∧ leC b a ∧ a ≠ b)
  | none, none => .inl ⟨rfl, trivial⟩
  | none, some q => .inr ⟨rfl, trivial, fun h => by cases h⟩
  | some p, none => .inl ⟨rfl, trivial⟩
  | some p, some q => by
    unfold lsC ls2
    by_cases h : p.1 < q.1 ∨ (p.1 = q.1 ∧ p.2 ≤ q.2)
    · dsimp only; rw [if_pos h]; exact .inl ⟨rfl, h⟩
    · dsimp only; rw [if_neg h]
      refine .inr ⟨rfl, ?_, fun e => ?_⟩
      · simp only [leC]; omega
      · cases e; exact h (.inr ⟨rfl, Int.le_refl _⟩)
theorem lsC_le1 (a b : Co) : leC (lsC a b) a := by
  rcases lsC_cases a b with ⟨e, h⟩ | ⟨e, h, _⟩
  · rw [e]; exact leC_refl a
  · rw [e]; exact h
theorem lsC_le2 (a b : Co) : leC (lsC a b) b := by
  rcases lsC_cases a b with ⟨e, h⟩ | ⟨e, h, _⟩
  · rw [e]; exact h
  · rw [e]; exact leC_refl b
theorem minL_gen (cs : List Co) : ∀ z : Co, leC (cs.foldl lsC z) z ∧ (∀ x ∈ cs, leC (cs.foldl lsC z) x) ∧ (cs.foldl lsC z = z ∨ cs.foldl lsC z ∈ cs) := by
  induction cs with
  | nil => intro z; exact ⟨leC_refl z, (fun x h => by cases h), .inl rfl⟩
  | cons c r ih =>
    intro z
    obtain ⟨h1, h2, h3⟩ := ih (lsC z c)
    rw [List.foldl_cons]
    refine ⟨leC_trans h1 (lsC_le1 z c), fun x hx => ?_, ?_⟩
    · rcases List.mem_cons.mp hx with rfl | hx
      · exact leC_trans h1 (lsC_le2 z x)
      · exact h2 x hx
    · rcases h3 with h3 | h3
      · rw [h3]
        rcases lsC_cases z c with ⟨e, _⟩ | ⟨e, _⟩
        · exact .inl e
        · rw [e]; exact .inr List.mem_cons_self
      · exact .inr (List.mem_cons_of_mem _ h3)
theorem minL_le {cs : List Co} {x : Co} (h : x ∈ cs) : leC (minL cs) x := (minL_gen cs none).2.1 x h
theorem minL_mem (cs : List Co) : minL cs = none ∨ minL cs ∈ cs := (minL_gen cs none).2.2
theorem minL_is {cs : List Co} {v : Co} (h1 : ∀ x ∈ cs, leC v x) (h2 : v ≠ none → ∃ x ∈ cs, leC x v) : minL cs = v := by
  refine leC_anti ?_ ?_
  · cases v with
    | none => cases minL cs <;> exact trivial
    | some p =>
      obtain ⟨x, hx, hl⟩ := h2 (by intro z; cases z)
      exact leC_trans (minL_le hx) hl
  · rcases minL_mem cs with h | h
    · rw [h]; cases v <;> exact trivial
    · exact h1 _ h
theorem addC_comm : ∀ a b : Co, addC a b = addC b a
  | none, none => rfl
  | none, some _ => rfl
  | some _, none => rfl
  | some p, some q => by simp only [addC]; rw [Int.add_comm, Int.add_comm p.2]
theorem addC_mono : ∀ {a b : Co} (c : Co), leC a b → leC (addC a c) (addC b c)
  | _, none, c, _ => by cases c <;> exact trivial
  | none, some _, c, h => h.elim
  | some p, some q, none, h => trivial
  | some p, some q, some r, h => by simp only [addC, leC] at *; omega
def NN : Co → Prop
  | none => True
  | some p => 0 ≤ p.1 ∧ 0 ≤ p.2
theorem NN_add : ∀ {a b : Co}, NN a → NN b → NN (addC a b)
  | none, none, _, _ => trivial
  | none, some _, _, _ => trivial
  | some _, none, _, _ => trivial
  | some p, some q, h1, h2 => by simp only [addC, NN] at *; omega
theorem NN_ls {a b : Co} (h1 : NN a) (h2 : NN b) : NN (lsC a b) := by
  rcases lsC_cases a b with ⟨e, _⟩ | ⟨e, _⟩
  · rw [e]; exact h1
  · rw [e]; exact h2
def ltN (a b : Co) : Prop := NN a ∧ leC a b ∧ a ≠ b
theorem ltN_trans (a b c : Co) (h1 : ltN a b) (h2 : ltN b c) : ltN a c :=
  ⟨h1.1, leC_trans h1.2.1 h2.2.1, fun e => by subst e; exact h1.2.2 (leC_anti h1.2.1 h2.2.1)⟩
def rank : Co → Nat × Nat × Nat
  | none => (1, 0, 0)
  | some p => (0, p.1.toNat, p.2.toNat)
theorem acc_NN : ∀ a : Co, NN a → Acc ltN a := by
  have wf : WellFounded (InvImage (Prod.Lex (· < ·) (Prod.Lex (· < ·) (· < ·))) rank) := InvImage.wf rank (Prod.lex Nat.lt_wfRel (Prod.lex Nat.lt_wfRel Nat.lt_wfRel)).wf
  intro a
  induction a using wf.induction with
  | h a ih =>
    intro ha
    refine .intro _ fun b ⟨hb, hl, hne⟩ => ih b ?_ hb
    cases b with
    | none => cases a with
      | none => exact (hne rfl).elim
      | some p => exact hl.elim
    | some q => cases a with
      | none => exact Prod.Lex.left _ _ (by decide)
      | some p =>
        obtain ⟨p1, p2⟩ := p
        obtain ⟨q1, q2⟩ := q
        simp only [leC, NN] at hl ha hb
        show Prod.Lex _ _ (0, q1.toNat, q2.toNat) (0, p1.toNat, p2.toNat)
        refine Prod.Lex.right _ ?_
        by_cases h : q1 < p1
        · exact Prod.Lex.left _ _ (by omega)
        · have e : q1 = p1 := by omega
          subst e
          have h2 : q2 ≠ p2 := fun e => hne (by rw [e])
          exact Prod.Lex.right _ (by omega)
theorem acc_ltN (a : Co) : Acc ltN a := .intro _ fun b h => acc_NN b h.1
theorem acc_costs (cs : List Co) : Acc (LtL ltN) cs := acc_list ltN acc_ltN cs.length cs rfl
/-! ### roads -/
structure Road where
  a : Int
  b : Int
  l : Option Int
  w : Int
def lenD : Option Int → D
  | none => .non
  | some i => .int i
def rdD (r : Road) : D := .tup [.int r.a, .int r.b, lenD r.l, .int r.w]
def netD (m : Int) (rs : List Road) : D := .tup [.int m, .lst (rs.map rdD)]
def rcC (r : Road) : Co := match r.l with | none => none | some l => some (l, 1)
structure OkR (m : Nat) (r : Road) : Prop where
  a0 : 0 ≤ r.a
  a1 : r.a < m
  b0 : 0 ≤ r.b
  b1 : r.b < m
  l0 : ∀ l, r.l = some l → 0 ≤ l
def turnR (r : Road) : Road := ⟨r.b, r.a, r.l, r.w⟩
theorem OkR.turn {m : Nat} {r : Road} (h : OkR m r) : OkR m (turnR r) := ⟨h.b0, h.b1, h.a0, h.a1, h.l0⟩
theorem rc_nn {m : Nat} {r : Road} (h : OkR m r) : NN (rcC r) := by
  unfold rcC
  split
  · trivial
  · rename_i l e
    exact ⟨h.l0 l e, by show (0 : Int) ≤ 1; decide⟩
def atC (cs : List Co) (i : Int) : Co := cs.getD i.toNat none
theorem atC_get {cs : List Co} {i : Int} (h0 : 0 ≤ i) (h1 : i < cs.length) : cs[i.toNat]? = some (atC cs i) := by
  unfold atC
  rw [List.getD_eq_getElem?_getD, List.getElem?_eq_getElem (show i.toNat < cs.length by omega)]
  rfl
theorem set_same {α : Type} : ∀ {l : List α} {i : Nat} {x : α}, l[i]? = some x → l.set i x = l
  | [], _, _, h => by cases h
  | y :: r, 0, x, h => by cases h; rfl
  | y :: r, i + 1, x, h => by rw [List.set_cons_succ, set_same (by simpa using h)]
def stepBF (r : Road) (cs : List Co) : List Co := cs.set r.b.toNat (lsC (atC cs r.b) (addC (atC cs r.a) (rcC r)))
theorem atC_set {cs : List Co} {i j : Int} {v : Co} (hi : 0 ≤ i) (hj : 0 ≤ j) (h1 : i < cs.length) : atC (cs.set i.toNat v) j = if j = i then v else atC cs j := by
  unfold atC
  rw [List.getD_eq_getElem?_getD, List.getD_eq_getElem?_getD]
  by_cases h : j = i
  · subst h
    rw [if_pos rfl, List.getElem?_set_self (by omega)]
    rfl
  · rw [if_neg h, List.getElem?_set_ne (by omega)]
/-- the costs that the loop keeps -/
structure Good (m s : Nat) (rs : List Road) (cs : List Co) : Prop where
  len : cs.length = m
  st : atC cs s = some (0, 0)
  nn : ∀ c ∈ cs, NN c
  sup : ∀ p : Int, 0 ≤ p → p < m → p ≠ s → atC cs p ≠ none → ∃ r ∈ rs, r.b = p ∧ leC (addC (atC cs r.a) (rcC r)) (atC cs p)
theorem Good.at_nn {m s : Nat} {rs : List Road} {cs : List Co} (g : Good m s rs cs) {i : Int} (h0 : 0 ≤ i) (h1 : i < m) : NN (atC cs i) :=
  g.nn _ (List.mem_of_getElem? (atC_get h0 (by rw [g.len]; exact h1)))
theorem good_step {m s : Nat} {rs : List Road} {cs : List Co} {r : Road} (g : Good m s rs cs) (hr : r ∈ rs) (hok : ∀ r ∈ rs, OkR m r) :
    Good m s rs (stepBF r cs) ∧ (∀ i : Int, 0 ≤ i → leC (atC (stepBF r cs) i) (atC cs i)) ∧ (lsC (atC cs r.b) (addC (atC cs r.a) (rcC r)) = atC cs r.b → stepBF r cs = cs) ∧
    (lsC (atC cs r.b) (addC (atC cs r.a) (rcC r)) ≠ atC cs r.b → LtL ltN (stepBF r cs) cs) := by
  have ok := hok r hr
  have hb1 : r.b < cs.length := by rw [g.len]; exact ok.b1
  have hx : NN (addC (atC cs r.a) (rcC r)) := NN_add (g.at_nn ok.a0 ok.a1) (rc_nn ok)
  have hv : NN (lsC (atC cs r.b) (addC (atC cs r.a) (rcC r))) := NN_ls (g.at_nn ok.b0 ok.b1) hx
  have gat : ∀ i : Int, 0 ≤ i → atC (stepBF r cs) i = if i = r.b then lsC (atC cs r.b) (addC (atC cs r.a) (rcC r)) else atC cs i := fun i hi => atC_set ok.b0 hi hb1
  have le : ∀ i : Int, 0 ≤ i → leC (atC (stepBF r cs) i) (atC cs i) := fun i hi => by
    rw [gat i hi]
    by_cases h : i = r.b
    · rw [if_pos h, h]; exact lsC_le1 _ _
    · rw [if_neg h]; exact leC_refl _
  refine ⟨⟨by unfold stepBF; rw [List.length_set]; exact g.len, ?_, fun c hc => ?_, fun p h0 h1 hp hn => ?_⟩, le, fun h => ?_, fun h => ?_⟩
  · rw [gat s (by omega)]
    by_cases h : (s : Int) = r.b
    · rw [if_pos h, ← h, g.st]
      cases q : addC (atC cs r.a) (rcC r) with
      | none => rfl
      | some x =>
        rw [q] at hx
        unfold lsC ls2
        dsimp only
        rw [if_pos (by simp only [NN] at hx; omega)]
    · rw [if_neg h]; exact g.st
  · unfold stepBF at hc
    rcases List.mem_or_eq_of_mem_set hc with h | h
    · exact g.nn c h
    · rw [h]; exact hv
  · rw [gat p h0] at hn ⊢
    by_cases h : p = r.b
    · rw [if_pos h] at hn ⊢
      rcases lsC_cases (atC cs r.b) (addC (atC cs r.a) (rcC r)) with ⟨e, _⟩ | ⟨e, _⟩
      · rw [e] at hn ⊢
        subst h
        obtain ⟨r', h2, h3, h4⟩ := g.sup r.b h0 h1 hp hn
        exact ⟨r', h2, h3, leC_trans (addC_mono _ (le r'.a (hok r' h2).a0)) h4⟩
      · rw [e]
        exact ⟨r, hr, h.symm, addC_mono _ (le r.a ok.a0)⟩
    · rw [if_neg h] at hn ⊢
      obtain ⟨r', h2, h3, h4⟩ := g.sup p h0 h1 hp hn
      exact ⟨r', h2, h3, leC_trans (addC_mono _ (le r'.a (hok r' h2).a0)) h4⟩
  · unfold stepBF
    rw [h]
    exact set_same (atC_get ok.b0 hb1)
  · unfold stepBF
    exact ltL_set ltN (atC_get ok.b0 hb1) ⟨hv, lsC_le1 _ _, h⟩
/-- costs that no road makes less: right ones -/
def Right (m s : Nat) (rs : List Road) (cs : List Co) : Prop :=
  cs.length = m ∧ atC cs s = some (0, 0) ∧ (∀ c ∈ cs, NN c) ∧ ∀ p : Int, 0 ≤ p → p < m → p ≠ s → atC cs p = minL ((rs.filter fun r => decide (r.b = p)).map fun r => addC (rcC r) (atC cs r.a))
theorem right_of {m s : Nat} {rs : List Road} {cs : List Co} (g : Good m s rs cs) (h : ∀ r ∈ rs, lsC (atC cs r.b) (addC (atC cs r.a) (rcC r)) = atC cs r.b) : Right m s rs cs := by
  refine ⟨g.len, g.st, g.nn, fun p h0 h1 hp => ?_⟩
  symm
  refine minL_is (fun x hx => ?_) fun hn => ?_
  · obtain ⟨r, hr, rfl⟩ := List.mem_map.mp hx
    obtain ⟨h2, h3⟩ := List.mem_filter.mp hr
    have e : r.b = p := by simpa using h3
    have := lsC_le2 (atC cs r.b) (addC (atC cs r.a) (rcC r))
    rw [h r h2, e] at this
    rw [addC_comm]
    exact this
  · obtain ⟨r, h2, h3, h4⟩ := g.sup p h0 h1 hp hn
    refine ⟨_, List.mem_map.mpr ⟨r, List.mem_filter.mpr ⟨h2, by simpa using h3⟩, rfl⟩, ?_⟩
    rw [addC_comm]
    exact h4
theorem good_start {m s : Nat} (rs : List Road) (h : s < m) : Good m s rs ((List.replicate m none).set s (some (0, 0))) := by
  have hl : (List.replicate m (none : Co)).length = m := List.length_replicate
  have gat : ∀ i : Int, 0 ≤ i → atC ((List.replicate m none).set s (some (0, 0))) i = if i = s then some (0, 0) else none := fun i hi => by
    have := atC_set (cs := List.replicate m none) (i := (s : Int)) (j := i) (v := some (0, 0)) (by omega) hi (by rw [hl]; omega)
    rw [Int.toNat_natCast] at this
    rw [this]
    by_cases h : i = s
    · rw [if_pos h, if_pos h]
    · rw [if_neg h, if_neg h]
      unfold atC
      rw [List.getD_eq_getElem?_getD, List.getElem?_replicate]
      split <;> rfl
  refine ⟨by rw [List.length_set, hl], ?_, fun c hc => ?_, fun p h0 h1 hp hn => ?_⟩
  · rw [gat s (by omega), if_pos rfl]
  · rcases List.mem_or_eq_of_mem_set hc with h | h
    · rw [List.eq_of_mem_replicate h]; trivial
    · rw [h]; exact ⟨Int.le_refl _, Int.le_refl _⟩
  · rw [gat p h0, if_neg hp] at hn
    exact (hn rfl).elim
/-! ### as data -/
theorem atI_in {α : Type} {l : List α} {n : Int} (h : 0 ≤ n ∧ n < l.length) : atI l n = l[n.toNat]? := by
  unfold atI ixN
  obtain ⟨h1, h2⟩ := h
  simp [h1, h2]
theorem ixN_nat {n : Nat} {j : Int} (h : 0 ≤ j ∧ j < n) : ixN n j = some j.toNat := by
  unfold ixN
  obtain ⟨h1, h2⟩ := h
  simp [h1, h2]
theorem dIx_map {α : Type} {f : α → D} {l : List α} {n : Int} {x : α} (h0 : 0 ≤ n) (h : l[n.toNat]? = some x) : dIx (.lst (l.map f)) (.int n) = .ok (f x) := by
  have h1 := (List.getElem?_eq_some_iff.mp h).1
  unfold dIx
  dsimp only
  rw [atI_in (by rw [List.length_map]; omega), List.getElem?_map, h]
  rfl
theorem dIx_cost {cs : List Co} {i : Int} (h0 : 0 ≤ i) (h1 : i < cs.length) : dIx (.lst (cs.map cst)) (.int i) = .ok (cst (atC cs i)) := dIx_map h0 (atC_get h0 h1)
theorem pl_cst {n : Nat} (c : Co) : Pl (n + 1) (cst c) := by
  cases c with
  | none => exact pl_non
  | some p => exact pl_tup (pl_cons (pl_int _) (pl_cons (pl_int _) pl_nil))
theorem eqD_cst (a b : Co) : eqD (cst a) (cst b) = decide (a = b) := by
  rcases a with _ | ⟨a1, a2⟩ <;> rcases b with _ | ⟨b1, b2⟩
  · simp [cst, eqD]
  · simp [cst, eqD]
  · simp [cst, eqD]
  · rw [Bool.eq_iff_iff]
    simp [cst, eqD, eqDs]
theorem dNe_cst (a b : Co) : dNe 16 (cst a) (cst b) = .ok (.bl (!decide (a = b))) := by rw [dNe_pl (pl_cst (n := 15) a) (pl_cst (n := 15) b), eqD_cst]
theorem dEq_cst (a b : Co) : dEq 16 (cst a) (cst b) = .ok (.bl (decide (a = b))) := by rw [dEq_pl (pl_cst (n := 15) a) (pl_cst (n := 15) b), eqD_cst]
theorem noL_cst (c : Co) : noL (cst c) = true := by
  cases c <;> simp [cst, noL, noLs]
theorem dp_cst (c : Co) : dp (.ok (cst c)) = .ok (cst c) := by
  unfold dp
  rw [M.bind_ok, if_pos (noL_cst c)]
theorem pl_len {n : Nat} (l : Option Int) : Pl n (lenD l) := by
  cases l with
  | none => exact pl_non
  | some i => exact pl_int i
theorem pl_rd (r : Road) : Pl 1 (rdD r) := pl_tup (pl_cons (pl_int _) (pl_cons (pl_int _) (pl_cons (pl_len r.l) (pl_cons (pl_int _) pl_nil))))
theorem pl_net (m : Int) (rs : List Road) : Pl 3 (netD m rs) := pl_tup (pl_cons (pl_int _) (pl_cons (pl_lst fun d hd => by
  obtain ⟨r, _, rfl⟩ := List.mem_map.mp hd
  exact pl_rd r) pl_nil))
def p60 : Int := 10 ^ 60
theorem p60_mod (n : Int) : 0 ≤ n % p60 ∧ n % p60 < 10 ^ 60 := by unfold p60; omega
theorem dPow60 : dPow (.int 10) (.int 60) = .ok (.int p60) := by
  unfold dPow onInts
  dsimp only
  rw [if_pos (by unfold CPow; omega)]
  rfl
theorem dMod_pos {a b : Int} (h : 0 < b) : dMod (.int a) (.int b) = .ok (.int (a % b)) := by
  unfold dMod onInts
  dsimp only
  rw [if_pos h]
theorem dFdiv_lit {a b : Int} (h : CDiv a b) : dFdiv (.int a) (.int b) = .ok (.int (a / b)) := by
  unfold dFdiv onInts
  dsimp only
  rw [if_pos h]
end L2

set_option Elab.async false
set_option linter.all false
set_option maxRecDepth 100000
namespace L2
open PySem PySem.Spec PyProof.Rows
/-! ### ways, and the least that they cost -/
/-- a way from u to w of this cost -/
inductive Wk (rs : List Road) : Int → Int → Int × Int → Prop
  | nil (u : Int) : Wk rs u u (0, 0)
  | cons {r : Road} {l : Int} {w : Int} {c : Int × Int} : r ∈ rs → r.l = some l → Wk rs r.b w c → Wk rs r.a w (l + c.1, 1 + c.2)
theorem Wk.trans {rs : List Road} {u v w : Int} {c d : Int × Int} (h : Wk rs u v c) (k : Wk rs v w d) : Wk rs u w (c.1 + d.1, c.2 + d.2) := by
  induction h with
  | nil u => simpa using k
  | cons hr hl _ ih =>
    have := Wk.cons hr hl (ih k)
    simpa [Int.add_assoc] using this
theorem Wk.one {rs : List Road} {r : Road} {l : Int} (hr : r ∈ rs) (hl : r.l = some l) : Wk rs r.a r.b (l, 1) := by
  have := Wk.cons hr hl (Wk.nil (rs := rs) r.b)
  simpa using this
/-- the least cost of the ways -/
def IsMin (rs : List Road) (u w : Int) (x : Co) : Prop := (∀ c, Wk rs u w c → leC x (some c)) ∧ ∀ p, x = some p → Wk rs u w p
theorem IsMin.uniq {rs : List Road} {u w : Int} {x y : Co} (h : IsMin rs u w x) (k : IsMin rs u w y) : x = y := by
  refine leC_anti ?_ ?_
  · cases y with
    | none => cases x <;> exact trivial
    | some q => exact h.1 q (k.2 q rfl)
  · cases x with
    | none => cases y <;> exact trivial
    | some q => exact k.1 q (h.2 q rfl)
theorem rcC_some {r : Road} {c : Int × Int} (h : rcC r = some c) : ∃ l, r.l = some l ∧ c = (l, 1) := by
  unfold rcC at h
  split at h
  · cases h
  · rename_i l e; cases h; exact ⟨l, e, rfl⟩
theorem addC_some {a b : Co} {c : Int × Int} (h : addC a b = some c) : ∃ p q, a = some p ∧ b = some q ∧ c = (p.1 + q.1, p.2 + q.2) := by
  cases a with
  | none => cases h
  | some p => cases b with
    | none => cases h
    | some q => cases h; exact ⟨p, q, rfl, rfl, rfl⟩
theorem Right.min_le {m s : Nat} {rs : List Road} {cs : List Co} (h : Right m s rs cs) {r : Road} (hr : r ∈ rs) (hok : OkR m r) : leC (atC cs r.b) (addC (rcC r) (atC cs r.a)) := by
  obtain ⟨h1, h2, h3, h4⟩ := h
  by_cases hs : r.b = s
  · rw [hs, h2]
    have hn : NN (addC (rcC r) (atC cs r.a)) := NN_add (rc_nn hok) (h3 _ (List.mem_of_getElem? (atC_get hok.a0 (by rw [h1]; exact hok.a1))))
    cases q : addC (rcC r) (atC cs r.a) with
    | none => exact trivial
    | some p => rw [q] at hn; simp only [NN] at hn; simp only [leC]; omega
  · rw [h4 r.b hok.b0 hok.b1 hs]
    exact minL_le (List.mem_map.mpr ⟨r, List.mem_filter.mpr ⟨hr, by simp⟩, rfl⟩)
theorem right_low {m s : Nat} {rs : List Road} {cs : List Co} (h : Right m s rs cs) (hok : ∀ r ∈ rs, OkR m r) {u w : Int} {c : Int × Int} (k : Wk rs u w c) : leC (atC cs w) (addC (atC cs u) (some c)) := by
  induction k with
  | nil u =>
    cases atC cs u with
    | none => exact trivial
    | some p => simp only [addC, leC]; omega
  | @cons r l w c hr hl _ ih =>
    refine leC_trans ih ?_
    have h1 := h.min_le hr (hok r hr)
    have e : rcC r = some (l, 1) := by unfold rcC; rw [hl]
    rw [e] at h1
    cases q : atC cs r.a with
    | none => exact trivial
    | some p =>
      rw [q] at h1
      cases q2 : atC cs r.b with
      | none => rw [q2] at h1; exact h1.elim
      | some p2 => rw [q2] at h1; simp only [addC, leC] at *; omega
theorem right_hit {m s : Nat} {rs : List Road} {cs : List Co} (h : Right m s rs cs) (hok : ∀ r ∈ rs, OkR m r) : ∀ (n : Nat) (w : Int) (p : Int × Int), 0 ≤ w → w < m → atC cs w = some p → p.2.toNat = n → Wk rs s w p := by
  obtain ⟨h1, h2, h3, h4⟩ := h
  intro n
  induction n with
  | zero =>
    intro w p h0 hw hp hn
    by_cases hs : w = s
    · rw [hs, h2] at hp; cases hp; rw [hs]; exact .nil _
    · exfalso
      have e := h4 w h0 hw hs
      rw [hp] at e
      rcases minL_mem ((rs.filter fun r => decide (r.b = w)).map fun r => addC (rcC r) (atC cs r.a)) with z | z
      · rw [z] at e; cases e
      · rw [← e] at z
        obtain ⟨r, hr, e2⟩ := List.mem_map.mp z
        have hrm := (List.mem_filter.mp hr).1
        obtain ⟨p1, p2, e3, e4, e5⟩ := addC_some e2
        obtain ⟨l, hl, rfl⟩ := rcC_some e3
        have ok := hok r hrm
        have nn := h3 _ (List.mem_of_getElem? (atC_get ok.a0 (by rw [h1]; exact ok.a1)))
        rw [e4] at nn
        simp only [NN] at nn
        rw [e5] at hn
        simp only at hn
        omega
  | succ n ih =>
    intro w p h0 hw hp hn
    by_cases hs : w = s
    · rw [hs, h2] at hp; cases hp; rw [hs]; exact .nil _
    · have e := h4 w h0 hw hs
      rw [hp] at e
      rcases minL_mem ((rs.filter fun r => decide (r.b = w)).map fun r => addC (rcC r) (atC cs r.a)) with z | z
      · rw [z] at e; cases e
      · rw [← e] at z
        obtain ⟨r, hr, e2⟩ := List.mem_map.mp z
        obtain ⟨hrm, hrb⟩ := List.mem_filter.mp hr
        have hrb : r.b = w := by simpa using hrb
        obtain ⟨p1, p2, e3, e4, e5⟩ := addC_some e2
        obtain ⟨l, hl, rfl⟩ := rcC_some e3
        have ok := hok r hrm
        have nn := h3 _ (List.mem_of_getElem? (atC_get ok.a0 (by rw [h1]; exact ok.a1)))
        rw [e4] at nn
        simp only [NN] at nn
        subst e5
        simp only at hn
        have w1 := ih r.a p2 ok.a0 ok.a1 e4 (by omega)
        have w2 := w1.trans (Wk.one hrm hl)
        rw [hrb] at w2
        have e6 : ((l + p2.1, 1 + p2.2) : Int × Int) = (p2.1 + l, p2.2 + 1) := by rw [Int.add_comm l, Int.add_comm 1]
        show Wk rs s w (l + p2.1, 1 + p2.2)
        rw [e6]
        exact w2
theorem Right.isMin {m s : Nat} {rs : List Road} {cs : List Co} (h : Right m s rs cs) (hok : ∀ r ∈ rs, OkR m r) {w : Int} (h0 : 0 ≤ w) (hw : w < m) : IsMin rs s w (atC cs w) := by
  refine ⟨fun c k => ?_, fun p hp => right_hit h hok _ w p h0 hw hp rfl⟩
  have := right_low h hok k
  rw [h.2.1] at this
  have e : addC (some (0, 0)) (some c) = some c := by simp [addC]
  rw [e] at this
  exact this
/-! ### going over all places between -/
theorem addC_mono2 {a b c d : Co} (h : leC a b) (k : leC c d) : leC (addC a c) (addC b d) := by
  refine leC_trans (addC_mono c h) ?_
  rw [addC_comm b c, addC_comm b d]
  exact addC_mono b k
theorem addC_assoc : ∀ a b c : Co, addC (addC a b) c = addC a (addC b c)
  | none, b, c => by cases b <;> cases c <;> rfl
  | some p, none, c => by cases c <;> rfl
  | some p, some q, none => rfl
  | some p, some q, some r => by simp only [addC]; rw [Int.add_assoc, Int.add_assoc]
theorem addC_zero : ∀ a : Co, addC a (some (0, 0)) = a
  | none => rfl
  | some p => by simp [addC]
theorem zero_addC (a : Co) : addC (some (0, 0)) a = a := by rw [addC_comm]; exact addC_zero a
theorem lsC_self (a : Co) : lsC a a = a := by rcases lsC_cases a a with ⟨e, _⟩ | ⟨e, _⟩ <;> exact e
theorem leC_addR {a b : Co} (h : NN b) : leC a (addC a b) := by
  cases a with
  | none => exact trivial
  | some p => cases b with
    | none => exact trivial
    | some q => simp only [NN] at h; simp only [addC, leC]; omega
structure FW (m k : Nat) (rs : List Road) (A : Int → Int → Co) : Prop where
  dg : ∀ x : Int, 0 ≤ x → x < m → A x x = some (0, 0)
  nn : ∀ x y : Int, 0 ≤ x → x < m → 0 ≤ y → y < m → NN (A x y)
  sd : ∀ x y : Int, 0 ≤ x → x < m → 0 ≤ y → y < m → ∀ p, A x y = some p → Wk rs x y p
  ed : ∀ r ∈ rs, leC (A r.a r.b) (rcC r)
  tr : ∀ v x y : Int, 0 ≤ v → v < k → 0 ≤ x → x < m → 0 ≤ y → y < m → leC (A x y) (addC (A x v) (A v y))
def over (k : Int) (A : Int → Int → Co) : Int → Int → Co := fun x y => lsC (A x y) (addC (A x k) (A k y))
theorem over_col {m k : Nat} {rs : List Road} {A : Int → Int → Co} (F : FW m k rs A) (hk : k < m) (x : Int) : over k A x k = A x k := by
  unfold over
  rw [F.dg k (by omega) (by omega), addC_zero, lsC_self]
theorem over_row {m k : Nat} {rs : List Road} {A : Int → Int → Co} (F : FW m k rs A) (hk : k < m) (y : Int) : over k A k y = A k y := by
  unfold over
  rw [F.dg k (by omega) (by omega), zero_addC, lsC_self]
theorem fw_phase {m k : Nat} {rs : List Road} {A : Int → Int → Co} (F : FW m k rs A) (hk : k < m) : FW m (k + 1) rs (over k A) := by
  have k0 : (0 : Int) ≤ k := by omega
  have k1 : (k : Int) < m := by omega
  refine ⟨fun x h0 h1 => ?_, fun x y h0 h1 h2 h3 => NN_ls (F.nn x y h0 h1 h2 h3) (NN_add (F.nn x k h0 h1 k0 k1) (F.nn k y k0 k1 h2 h3)), fun x y h0 h1 h2 h3 p hp => ?_, fun r hr => leC_trans (lsC_le1 _ _) (F.ed r hr), fun v x y v0 v1 h0 h1 h2 h3 => ?_⟩
  · unfold over
    rw [F.dg x h0 h1]
    have hn : NN (addC (A x k) (A k x)) := NN_add (F.nn x k h0 h1 k0 k1) (F.nn k x k0 k1 h0 h1)
    cases q : addC (A x k) (A k x) with
    | none => rfl
    | some z =>
      rw [q] at hn
      simp only [NN] at hn
      unfold lsC ls2
      dsimp only
      rw [if_pos (by omega)]
  · unfold over at hp
    rcases lsC_cases (A x y) (addC (A x k) (A k y)) with ⟨e, _⟩ | ⟨e, _⟩
    · rw [e] at hp; exact F.sd x y h0 h1 h2 h3 p hp
    · rw [e] at hp
      obtain ⟨p1, p2, e1, e2, rfl⟩ := addC_some hp
      exact (F.sd x k h0 h1 k0 k1 p1 e1).trans (F.sd k y k0 k1 h2 h3 p2 e2)
  · by_cases hv : v = k
    · subst hv
      rw [over_col F hk, over_row F hk]
      exact lsC_le2 _ _
    · have vk : v < k := by omega
      have vm : v < m := by omega
      have txy := F.tr v x y v0 vk h0 h1 h2 h3
      have tky := F.tr v k y v0 vk k0 k1 h2 h3
      have txk := F.tr v x k v0 vk h0 h1 k0 k1
      have g1 : leC (over k A x y) (A x y) := lsC_le1 _ _
      have g2 : leC (over k A x y) (addC (A x k) (A k y)) := lsC_le2 _ _
      have nkv := F.nn k v k0 k1 v0 vm
      have nvk := F.nn v k v0 vm k0 k1
      have e1 : over k A x v = lsC (A x v) (addC (A x k) (A k v)) := rfl
      have e2 : over k A v y = lsC (A v y) (addC (A v k) (A k y)) := rfl
      rw [e1, e2]
      rcases lsC_cases (A x v) (addC (A x k) (A k v)) with ⟨e, _⟩ | ⟨e, _⟩ <;> rcases lsC_cases (A v y) (addC (A v k) (A k y)) with ⟨e', _⟩ | ⟨e', _⟩ <;> rw [e, e']
      · exact leC_trans g1 txy
      · refine leC_trans g2 ?_
        rw [← addC_assoc]
        exact addC_mono _ txk
      · refine leC_trans g2 ?_
        rw [addC_assoc, addC_comm (A x k), addC_comm (A x k)]
        exact addC_mono _ tky
      · refine leC_trans g2 ?_
        have e3 : addC (addC (A x k) (A k v)) (addC (A v k) (A k y)) = addC (addC (A x k) (A k y)) (addC (A k v) (A v k)) := by
          rw [addC_assoc, addC_assoc, ← addC_assoc (A k v), addC_comm (addC (A k v) (A v k))]
        rw [e3]
        exact leC_addR (NN_add nkv nvk)
theorem fw_end {m : Nat} {rs : List Road} {A : Int → Int → Co} (F : FW m m rs A) (hok : ∀ r ∈ rs, OkR m r) {x y : Int} (h0 : 0 ≤ x) (h1 : x < m) (h2 : 0 ≤ y) (h3 : y < m) : IsMin rs x y (A x y) := by
  refine ⟨fun c k => ?_, F.sd x y h0 h1 h2 h3⟩
  induction k with
  | nil u => rw [F.dg u h0 h1]; exact leC_refl _
  | @cons r l w c hr hl k' ih =>
    have ok := hok r hr
    have i1 := ih ok.b0 ok.b1 h2 h3
    have t := F.tr r.b r.a w ok.b0 (by have := ok.b1; omega) h0 h1 h2 h3
    have e := F.ed r hr
    have e' : rcC r = some (l, 1) := by unfold rcC; rw [hl]
    rw [e'] at e
    refine leC_trans t (leC_trans (addC_mono2 e i1) ?_)
    exact leC_refl _
/-- the first row of u -/
structure RowU (m : Nat) (rs : List Road) (u : Int) (n : Nat) (R : List Co) : Prop where
  len : R.length = m
  st : atC R u = some (0, 0)
  nn : ∀ c ∈ R, NN c
  sd : ∀ y : Int, 0 ≤ y → y < m → ∀ p, atC R y = some p → Wk rs u y p
  ed : ∀ r ∈ rs.take n, r.a = u → leC (atC R r.b) (rcC r)
theorem row_start {m u : Nat} (rs : List Road) (h : u < m) : RowU m rs u 0 ((List.replicate m none).set u (some (0, 0))) := by
  have g := good_start (m := m) (s := u) rs h
  refine ⟨g.len, g.st, g.nn, fun y h0 h1 p hp => ?_, fun r hr => by rw [List.take_zero] at hr; cases hr⟩
  by_cases hy : y = u
  · rw [hy, g.st] at hp; cases hp; rw [hy]; exact .nil _
  · have := atC_set (cs := List.replicate m none) (i := (u : Int)) (j := y) (v := some (0, 0)) (by omega) h0 (by rw [List.length_replicate]; omega)
    rw [Int.toNat_natCast, if_neg hy] at this
    rw [this] at hp
    unfold atC at hp
    rw [List.getD_eq_getElem?_getD, List.getElem?_replicate] at hp
    split at hp <;> cases hp
theorem row_skip {m : Nat} {rs : List Road} {u : Int} {n : Nat} {R : List Co} {r : Road} (g : RowU m rs u n R) (hr : rs[n]? = some r) (hu : r.a ≠ u) : RowU m rs u (n + 1) R :=
  ⟨g.len, g.st, g.nn, g.sd, fun r' hr' hu' => by
    rw [List.take_add_one, hr] at hr'
    rcases List.mem_append.mp hr' with h | h
    · exact g.ed r' h hu'
    · have : r' = r := by simpa using h
      rw [this] at hu'; exact (hu hu').elim⟩
theorem row_step {m : Nat} {rs : List Road} {u : Int} {n : Nat} {R : List Co} {r : Road} (g : RowU m rs u n R) (hr : rs[n]? = some r) (hu : r.a = u) (hok : ∀ r ∈ rs, OkR m r) : RowU m rs u (n + 1) (R.set r.b.toNat (lsC (atC R r.b) (rcC r))) := by
  have hm := List.mem_of_getElem? hr
  have ok := hok r hm
  have hb1 : r.b < R.length := by rw [g.len]; exact ok.b1
  have gat : ∀ i : Int, 0 ≤ i → atC (R.set r.b.toNat (lsC (atC R r.b) (rcC r))) i = if i = r.b then lsC (atC R r.b) (rcC r) else atC R i := fun i hi => atC_set ok.b0 hi hb1
  have nb : NN (atC R r.b) := g.nn _ (List.mem_of_getElem? (atC_get ok.b0 hb1))
  refine ⟨by rw [List.length_set]; exact g.len, ?_, fun c hc => ?_, fun y h0 h1 p hp => ?_, fun r' hr' hu' => ?_⟩
  · rw [gat u (by rw [← hu]; exact ok.a0)]
    by_cases h : u = r.b
    · rw [if_pos h, ← h, g.st]
      have hx := rc_nn ok
      cases q : rcC r with
      | none => rfl
      | some z =>
        rw [q] at hx
        simp only [NN] at hx
        unfold lsC ls2
        dsimp only
        rw [if_pos (by omega)]
    · rw [if_neg h]; exact g.st
  · rcases List.mem_or_eq_of_mem_set hc with h | h
    · exact g.nn c h
    · rw [h]; exact NN_ls nb (rc_nn ok)
  · rw [gat y h0] at hp
    by_cases h : y = r.b
    · rw [if_pos h] at hp
      rcases lsC_cases (atC R r.b) (rcC r) with ⟨e, _⟩ | ⟨e, _⟩
      · rw [e] at hp; rw [h]; exact g.sd r.b ok.b0 ok.b1 p hp
      · rw [e] at hp
        obtain ⟨l, hl, rfl⟩ := rcC_some hp
        rw [h, ← hu]; exact Wk.one hm hl
    · rw [if_neg h] at hp; exact g.sd y h0 h1 p hp
  · have hr'm : r' ∈ rs := List.mem_of_mem_take hr'
    rw [gat r'.b (hok r' hr'm).b0]
    rw [List.take_add_one, hr] at hr'
    rcases List.mem_append.mp hr' with h | h
    · by_cases hb : r'.b = r.b
      · rw [if_pos hb]
        have := g.ed r' h hu'
        rw [hb] at this
        exact leC_trans (lsC_le1 _ _) this
      · rw [if_neg hb]; exact g.ed r' h hu'
    · have e : r' = r := by simpa using h
      rw [e, if_pos rfl]
      exact lsC_le2 _ _
/-! ### as lists of lists -/
def at2 (css : List (List Co)) (x y : Int) : Co := atC (css.getD x.toNat []) y
def rowsD (css : List (List Co)) : List (List D) := css.map fun R => R.map cst
structure Mat (m : Nat) (css : List (List Co)) : Prop where
  len : css.length = m
  row : ∀ R ∈ css, R.length = m
theorem Mat.get {m : Nat} {css : List (List Co)} (h : Mat m css) {x : Int} (h0 : 0 ≤ x) (h1 : x < m) : css[x.toNat]? = some (css.getD x.toNat []) ∧ (css.getD x.toNat []).length = m := by
  have hl : x.toNat < css.length := by rw [h.len]; omega
  have e : css[x.toNat]? = some (css.getD x.toNat []) := by rw [List.getD_eq_getElem?_getD, List.getElem?_eq_getElem hl]; rfl
  exact ⟨e, h.row _ (List.mem_of_getElem? e)⟩
def put2 (css : List (List Co)) (x y : Int) (v : Co) : List (List Co) := css.set x.toNat ((css.getD x.toNat []).set y.toNat v)
theorem Mat.put {m : Nat} {css : List (List Co)} (h : Mat m css) {x y : Int} (h0 : 0 ≤ x) (h1 : x < m) (h2 : 0 ≤ y) (h3 : y < m) (v : Co) : Mat m (put2 css x y v) ∧ ∀ x' y' : Int, 0 ≤ x' → 0 ≤ y' → at2 (put2 css x y v) x' y' = if x' = x ∧ y' = y then v else at2 css x' y' := by
  obtain ⟨e, hl⟩ := h.get h0 h1
  refine ⟨⟨by unfold put2; rw [List.length_set]; exact h.len, fun R hR => ?_⟩, fun x' y' hx hy => ?_⟩
  · unfold put2 at hR
    rcases List.mem_or_eq_of_mem_set hR with z | z
    · exact h.row R z
    · rw [z, List.length_set]; exact hl
  · unfold at2 put2
    by_cases hxx : x' = x
    · subst hxx
      have e2 : (css.set x'.toNat ((css.getD x'.toNat []).set y.toNat v)).getD x'.toNat [] = (css.getD x'.toNat []).set y.toNat v := by
        rw [List.getD_eq_getElem?_getD (l := css.set _ _), List.getElem?_set_self (by rw [h.len]; omega)]; rfl
      rw [e2, atC_set h2 hy (by rw [hl]; exact h3)]
      by_cases hyy : y' = y
      · rw [if_pos hyy, if_pos ⟨rfl, hyy⟩]
      · rw [if_neg hyy, if_neg (fun z => hyy z.2)]
    · have e2 : (css.set x.toNat ((css.getD x.toNat []).set y.toNat v)).getD x'.toNat [] = css.getD x'.toNat [] := by
        rw [List.getD_eq_getElem?_getD, List.getElem?_set_ne (by omega), List.getD_eq_getElem?_getD]
      rw [e2, if_neg (fun z => hxx z.1)]
theorem rowsD_at {m : Nat} {css : List (List Co)} (h : Mat m css) {x : Int} (h0 : 0 ≤ x) (h1 : x < m) : rowAt (rowsD css) (.int x) = .ok ((css.getD x.toNat []).map cst) := by
  obtain ⟨e, hl⟩ := h.get h0 h1
  have e1 : ixN (rowsD css).length x = some x.toNat := ixN_nat ⟨h0, by unfold rowsD; rw [List.length_map, h.len]; exact h1⟩
  have e2 : (rowsD css)[x.toNat]? = some ((css.getD x.toNat []).map cst) := by unfold rowsD; rw [List.getElem?_map, e]; rfl
  unfold rowAt
  simp only [e1, e2]
theorem dIx_row {m : Nat} {css : List (List Co)} (h : Mat m css) {x y : Int} (h0 : 0 ≤ x) (h1 : x < m) (h2 : 0 ≤ y) (h3 : y < m) : dIx (.lst ((css.getD x.toNat []).map cst)) (.int y) = .ok (cst (at2 css x y)) :=
  dIx_cost h2 (by rw [(h.get h0 h1).2]; exact h3)
theorem putJ_at {m : Nat} {css : List (List Co)} (h : Mat m css) {x y : Int} (h0 : 0 ≤ x) (h1 : x < m) (h2 : 0 ≤ y) (h3 : y < m) (i : Nat) (ρ : Rho) (v : Co) : putJ i ρ (rowsD css) (cst v) (.int x) ((css.getD x.toNat []).map cst) (.int y) = .ok (.next (ρ.set i (some (.ow (.rows (rowsD (put2 css x y v))))))) := by
  have e1 : ixN (rowsD css).length x = some x.toNat := ixN_nat ⟨h0, by unfold rowsD; rw [List.length_map, h.len]; exact h1⟩
  have e2 : ixN ((css.getD x.toNat []).map cst).length y = some y.toNat := ixN_nat ⟨h2, by rw [List.length_map, (h.get h0 h1).2]; exact h3⟩
  unfold putJ
  simp only [e1, e2]
  unfold rowsD put2
  rw [List.map_set, List.map_set]
end L2

set_option Elab.async false
set_option linter.all false
set_option maxRecDepth 100000
namespace L2
open PySem PySem.Spec PyProof.Rows
theorem FW.congr {m k : Nat} {rs : List Road} {A B : Int → Int → Co} (F : FW m k rs A) (hk : k ≤ m) (hok : ∀ r ∈ rs, OkR m r) (h : ∀ x y : Int, 0 ≤ x → x < m → 0 ≤ y → y < m → B x y = A x y) : FW m k rs B := by
  refine ⟨fun x h0 h1 => ?_, fun x y h0 h1 h2 h3 => ?_, fun x y h0 h1 h2 h3 p hp => ?_, fun r hr => ?_, fun v x y v0 v1 h0 h1 h2 h3 => ?_⟩
  · rw [h x x h0 h1 h0 h1]; exact F.dg x h0 h1
  · rw [h x y h0 h1 h2 h3]; exact F.nn x y h0 h1 h2 h3
  · rw [h x y h0 h1 h2 h3] at hp; exact F.sd x y h0 h1 h2 h3 p hp
  · have ok := hok r hr
    rw [h r.a r.b ok.a0 ok.a1 ok.b0 ok.b1]; exact F.ed r hr
  · rw [h x y h0 h1 h2 h3, h x v h0 h1 v0 (by omega), h v y v0 (by omega) h2 h3]
    exact F.tr v x y v0 v1 h0 h1 h2 h3
theorem fw_start {m : Nat} {rs : List Road} {css : List (List Co)} (hM : Mat m css) (hok : ∀ r ∈ rs, OkR m r) (h : ∀ u : Nat, u < m → RowU m rs u rs.length (css.getD u [])) : FW m 0 rs (at2 css) := by
  have key : ∀ x : Int, 0 ≤ x → x < m → RowU m rs x rs.length (css.getD x.toNat []) := fun x h0 h1 => by
    have := h x.toNat (by omega)
    rw [Int.toNat_of_nonneg h0] at this
    exact this
  refine ⟨fun x h0 h1 => (key x h0 h1).st, fun x y h0 h1 h2 h3 => (key x h0 h1).nn _ (List.mem_of_getElem? (atC_get h2 (by rw [(key x h0 h1).len]; exact h3))), fun x y h0 h1 h2 h3 p hp => (key x h0 h1).sd y h2 h3 p hp, fun r hr => ?_, fun v x y v0 v1 => by omega⟩
  have ok := hok r hr
  exact (key r.a ok.a0 ok.a1).ed r (by rw [List.take_length]; exact hr) rfl
theorem forM_ret {gt : D → Rho → M Rho} {gb : Rho → M Out} {ds : List D} {ρ : Rho} {d0 : D} (I : Nat → Rho → Prop) (h0 : I 0 ρ)
    (step : ∀ i d ρ, ds[i]? = some d → I i ρ → (∃ ρ1 ρ2, gt d ρ = .ok ρ1 ∧ gb ρ1 = .ok (.next ρ2) ∧ I (i + 1) ρ2) ∨ (∃ ρ1, gt d ρ = .ok ρ1 ∧ gb ρ1 = .ok (.ret d0))) (hend : ∀ ρ, I ds.length ρ → False) : forM gt gb ds ρ = .ok (.ret d0) := by
  have key : ∀ (n i : Nat) (ρ : Rho), i + n = ds.length → I i ρ → forM gt gb (ds.drop i) ρ = .ok (.ret d0) := by
    intro n
    induction n with
    | zero =>
      intro i ρ hi h
      have e : i = ds.length := by omega
      subst e
      exact (hend ρ h).elim
    | succ n ih =>
      intro i ρ hi h
      have hlt : i < ds.length := by omega
      rw [drop_get hlt, forM]
      rcases step i ds[i] ρ (List.getElem?_eq_getElem hlt) h with ⟨ρ1, ρ2, h1, h2, h3⟩ | ⟨ρ1, h1, h2⟩
      · rw [h1]
        dsimp only
        rw [h2]
        exact ih (i + 1) ρ2 (by omega) h3
      · rw [h1]
        dsimp only
        rw [h2]
  have := key ds.length 0 ρ (by omega) h0
  rwa [List.drop_zero] at this
theorem fin_for_ret {gt : D → Rho → M Rho} {gb : Rho → M Out} {ds : List D} {ρ : Rho} {k : Rho → M Out} {d0 : D} (I : Nat → Rho → Prop) (h0 : I 0 ρ)
    (step : ∀ i d ρ, ds[i]? = some d → I i ρ → (∃ ρ1 ρ2, gt d ρ = .ok ρ1 ∧ gb ρ1 = .ok (.next ρ2) ∧ I (i + 1) ρ2) ∨ (∃ ρ1, gt d ρ = .ok ρ1 ∧ gb ρ1 = .ok (.ret d0))) (hend : ∀ ρ, I ds.length ρ → False) : fin (seqM (forM gt gb ds ρ) k) = .ok d0 := by
  rw [forM_ret I h0 step hend]
  rfl
/-! ### last roads -/
def hit (rs : List Road) (cs : List Co) (p : Nat) (k : Nat) : Bool := match rs[k]? with
  | some r => decide (r.b = (p : Int)) && decide (addC (atC cs r.a) (rcC r) ≠ none) && decide (addC (atC cs r.a) (rcC r) = atC cs (p : Int))
  | none => false
def lastL (m : Nat) (rs : List Road) (cs : List Co) (i : Nat) : List (Option Nat) := (List.range m).map fun p => (List.range i).find? (hit rs cs p)
def optN : Option Nat → D
  | none => .non
  | some k => .int (k : Int)
theorem find_succ (f : Nat → Bool) (i : Nat) : (List.range (i + 1)).find? f = match (List.range i).find? f with | some k => some k | none => if f i = true then some i else none := by
  rw [List.range_succ, List.find?_append]
  cases (List.range i).find? f with
  | some k => rfl
  | none =>
    by_cases h : f i = true
    · simp [h]
    · simp [h]
theorem lastL_len (m : Nat) (rs : List Road) (cs : List Co) (i : Nat) : (lastL m rs cs i).length = m := by unfold lastL; rw [List.length_map, List.length_range]
theorem lastL_get {m : Nat} (rs : List Road) (cs : List Co) (i : Nat) {p : Nat} (h : p < m) : (lastL m rs cs i)[p]? = some ((List.range i).find? (hit rs cs p)) := by
  unfold lastL
  rw [List.getElem?_map, List.getElem?_range h]
  rfl
theorem lastL_skip {m : Nat} {rs : List Road} {cs : List Co} {i : Nat} (h : ∀ p, p < m → hit rs cs p i = false ∨ ∃ k, (List.range i).find? (hit rs cs p) = some k) : lastL m rs cs (i + 1) = lastL m rs cs i := by
  unfold lastL
  apply List.map_congr_left
  intro p hp
  rw [find_succ]
  rcases h p (List.mem_range.mp hp) with h | ⟨k, h⟩
  · rw [h]
    cases (List.range i).find? (hit rs cs p) <;> rfl
  · rw [h]
theorem lastL_put {m : Nat} {rs : List Road} {cs : List Co} {i p : Nat} (hp : p < m) (h : hit rs cs p i = true) (hn : (List.range i).find? (hit rs cs p) = none) (ho : ∀ q, q ≠ p → hit rs cs q i = false) : lastL m rs cs (i + 1) = (lastL m rs cs i).set p (some i) := by
  apply List.ext_getElem?
  intro q
  by_cases hq : q < m
  · rw [lastL_get rs cs (i + 1) hq, find_succ]
    by_cases e : q = p
    · subst e
      rw [List.getElem?_set_self (by rw [lastL_len]; exact hq), hn, if_pos h]
    · rw [List.getElem?_set_ne (fun z => e z.symm), lastL_get rs cs i hq, ho q e]
      cases (List.range i).find? (hit rs cs q) <;> rfl
  · rw [List.getElem?_eq_none (by rw [lastL_len]; omega), List.getElem?_eq_none (by rw [List.length_set, lastL_len]; omega)]
theorem hit_spec {rs : List Road} {cs : List Co} {p k : Nat} (h : hit rs cs p k = true) : ∃ r, rs[k]? = some r ∧ r.b = (p : Int) ∧ addC (atC cs r.a) (rcC r) ≠ none ∧ addC (atC cs r.a) (rcC r) = atC cs (p : Int) := by
  unfold hit at h
  split at h
  · rename_i r e
    simp only [Bool.and_eq_true, decide_eq_true_eq] at h
    exact ⟨r, e, h.1.1, h.1.2, h.2⟩
  · cases h
theorem right_step {m s : Nat} {rs : List Road} {cs : List Co} (h : Right m s rs cs) {p : Nat} (hp : p < m) (hs : p ≠ s) (hn : atC cs (p : Int) ≠ none) : ∃ k, (List.range rs.length).find? (hit rs cs p) = some k := by
  obtain ⟨h1, h2, h3, h4⟩ := h
  have e := h4 p (by omega) (by omega) (by omega)
  rcases minL_mem ((rs.filter fun r => decide (r.b = (p : Int))).map fun r => addC (rcC r) (atC cs r.a)) with z | z
  · rw [z] at e; exact (hn e).elim
  · rw [← e] at z
    obtain ⟨r, hr, e2⟩ := List.mem_map.mp z
    obtain ⟨hrm, hrb⟩ := List.mem_filter.mp hr
    obtain ⟨k, hk, e3⟩ := List.getElem_of_mem hrm
    have hh : hit rs cs p k = true := by
      unfold hit
      rw [List.getElem?_eq_getElem hk, e3]
      dsimp only
      rw [addC_comm, e2]
      simp only [Bool.and_eq_true, decide_eq_true_eq]
      exact ⟨⟨by simpa using hrb, hn⟩, trivial⟩
    cases q : (List.range rs.length).find? (hit rs cs p) with
    | some k => exact ⟨k, rfl⟩
    | none =>
      rw [List.find?_eq_none] at q
      exact (q k (List.mem_range.mpr hk) hh).elim
theorem nodup_le : ∀ (m : Nat) (l : List Nat), l.Nodup → (∀ x ∈ l, x < m) → l.length ≤ m
  | 0, [], _, _ => Nat.le_refl _
  | 0, x :: r, _, h => absurd (h x List.mem_cons_self) (by omega)
  | m + 1, l, nd, h => by
    have := nodup_le m (l.erase m) (nd.erase m) (fun x hx => by
      have h1 := h x (List.mem_of_mem_erase hx)
      have h2 : x ≠ m := fun e => by rw [e] at hx; exact (nd.mem_erase_iff.mp hx).1 rfl
      omega)
    have h2 := List.length_erase (a := m) (l := l)
    split at h2 <;> omega
theorem chain_of {m s : Nat} {rs : List Road} {cs : List Co} (h : Right m s rs cs) (hok : ∀ r ∈ rs, OkR m r) : ∀ (n : Nat) (p : Nat) (d : Int × Int), p < m → atC cs (p : Int) = some d → d.2 = (n : Int) → ∃ l : List Nat, l.length = n + 1 ∧ l.Nodup ∧ ∀ x ∈ l, x < m ∧ ∃ d', atC cs (x : Int) = some d' ∧ d'.2 ≤ (n : Int)
  | 0, p, d, hp, hd, hn => ⟨[p], rfl, by simp, fun x hx => by
      have : x = p := by simpa using hx
      subst this
      exact ⟨hp, d, hd, by omega⟩⟩
  | n + 1, p, d, hp, hd, hn => by
    have hs : p ≠ s := fun e => by
      rw [e, h.2.1] at hd
      cases hd
      simp only at hn
      omega
    obtain ⟨k, hk⟩ := right_step h hp hs (by rw [hd]; intro z; cases z)
    obtain ⟨r, hr, hb, hne, heq⟩ := hit_spec (List.find?_some hk)
    have hrm := List.mem_of_getElem? hr
    have ok := hok r hrm
    rw [hd] at heq
    obtain ⟨p1, p2, e1, e2, e3⟩ := addC_some heq
    obtain ⟨l, hl, rfl⟩ := rcC_some e2
    subst e3
    simp only at hn
    have ha : ((r.a.toNat : Nat) : Int) = r.a := Int.toNat_of_nonneg ok.a0
    obtain ⟨L, h1, h2, h3⟩ := chain_of h hok n r.a.toNat p1 (by have := ok.a1; omega) (by rw [ha]; exact e1) (by omega)
    refine ⟨p :: L, by rw [List.length_cons, h1], List.nodup_cons.mpr ⟨fun z => ?_, h2⟩, fun x hx => ?_⟩
    · obtain ⟨_, d', h4, h5⟩ := h3 p z
      rw [hd] at h4
      cases h4
      simp only at h5
      omega
    · rcases List.mem_cons.mp hx with rfl | hx
      · exact ⟨hp, _, hd, by simp only; omega⟩
      · obtain ⟨h4, d', h5, h6⟩ := h3 x hx
        exact ⟨h4, d', h5, by omega⟩
theorem count_lt {m s : Nat} {rs : List Road} {cs : List Co} (h : Right m s rs cs) (hok : ∀ r ∈ rs, OkR m r) {p : Nat} {d : Int × Int} (hp : p < m) (hd : atC cs (p : Int) = some d) : 0 ≤ d.2 ∧ d.2 < m := by
  have nn := h.2.2.1 _ (List.mem_of_getElem? (atC_get (i := (p : Int)) (by omega) (by rw [h.1]; omega)))
  rw [hd] at nn
  simp only [NN] at nn
  obtain ⟨L, h1, h2, h3⟩ := chain_of h hok d.2.toNat p d hp hd (by omega)
  have := nodup_le m L h2 fun x hx => (h3 x hx).1
  omega
theorem hit_start {m s : Nat} {rs : List Road} {cs : List Co} (h : Right m s rs cs) (hok : ∀ r ∈ rs, OkR m r) (n : Nat) : (List.range n).find? (hit rs cs s) = none := by
  rw [List.find?_eq_none]
  intro k _ hk
  obtain ⟨r, hr, hb, hne, heq⟩ := hit_spec hk
  have ok := hok r (List.mem_of_getElem? hr)
  rw [h.2.1] at heq
  obtain ⟨p1, p2, e1, e2, e3⟩ := addC_some heq
  obtain ⟨l, hl, rfl⟩ := rcC_some e2
  have nn := h.2.2.1 _ (List.mem_of_getElem? (atC_get ok.a0 (by rw [h.1]; exact ok.a1)))
  rw [e1] at nn
  simp only [NN] at nn
  injection e3 with e4 e5
  omega
theorem hit_none {rs : List Road} {cs : List Co} {p : Nat} (h : atC cs (p : Int) = none) (n : Nat) : (List.range n).find? (hit rs cs p) = none := by
  rw [List.find?_eq_none]
  intro k _ hk
  obtain ⟨r, hr, hb, hne, heq⟩ := hit_spec hk
  rw [h] at heq
  exact hne heq
theorem min_filter {f : Nat → Bool} {n k : Nat} (h : (List.range n).find? f = some k) : List.min? (((List.range n).filter f).map fun i : Nat => (i : Int)) = some (k : Int) := by
  rw [List.min?_eq_some_iff]
  have h1 := List.find?_some h
  have h2 := List.mem_of_find?_eq_some h
  refine ⟨List.mem_map.mpr ⟨k, List.mem_filter.mpr ⟨h2, h1⟩, rfl⟩, fun b hb => ?_⟩
  obtain ⟨j, hj, rfl⟩ := List.mem_map.mp hb
  obtain ⟨h3, h4⟩ := List.mem_filter.mp hj
  by_cases hlt : j < k
  · exfalso
    obtain ⟨_, as, bs, e, h5⟩ := List.find?_eq_some_iff_append.mp h
    have hk : k = as.length := by
      have e1 : (List.range n)[as.length]? = some k := by rw [e, List.getElem?_append_right (Nat.le_refl _)]; simp
      have e2 : as.length < n := by
        have := congrArg List.length e
        simp at this
        omega
      rw [List.getElem?_range e2] at e1
      cases e1; rfl
    have e3 : as[j]? = some j := by
      have hj' : j < as.length := by omega
      have : (List.range n)[j]? = some j := List.getElem?_range (List.mem_range.mp h3)
      rw [e, List.getElem?_append_left hj'] at this
      exact this
    have := h5 j (List.mem_of_getElem? e3)
    rw [h4] at this
    simp at this
  · omega
end L2

set_option Elab.async false
set_option linter.all false
set_option maxRecDepth 100000
set_option maxHeartbeats 4000000
namespace K13
open PySem L2
def top (i : Nat) : Stmt := PySem.Challenge.pw_nodeladder_k13_last_roads.main.body.getD i (.Pass ⟨0, 0, 0, 0⟩)
abbrev s_added : Stmt := top 1
theorem sc_added : FnScope ["one", "other"] ["one", "other"] (defScope s_added) := ⟨rfl, rfl, rfl, by decide +kernel, rfl, by decide +kernel, by decide +kernel⟩
abbrev s_least : Stmt := top 2
theorem sc_least : FnScope ["some"] ["some"] (defScope s_least) := ⟨rfl, rfl, rfl, by decide +kernel, rfl, by decide +kernel, by decide +kernel⟩
abbrev s_road_cost : Stmt := top 3
theorem sc_road_cost : FnScope ["road"] ["road"] (defScope s_road_cost) := ⟨rfl, rfl, rfl, by decide +kernel, rfl, by decide +kernel, by decide +kernel⟩
abbrev s_costs_from : Stmt := top 5
theorem sc_costs_from : FnScope ["net", "start", "costs", "changed", "road", "cost"] ["net", "start"] (defScope s_costs_from) := ⟨rfl, rfl, rfl, by decide +kernel, rfl, by decide +kernel, by decide +kernel⟩
abbrev s_last_roads : Stmt := top 6
theorem sc_last_roads : FnScope ["net", "start", "costs", "last", "number", "road", "cost"] ["net", "start"] (defScope s_last_roads) := ⟨rfl, rfl, rfl, by decide +kernel, rfl, by decide +kernel, by decide +kernel⟩
abbrev s_law_cell_at : Stmt := top 8
theorem sc_law_cell_at : FnScope ["_law_script", "_law_k"] ["_law_script", "_law_k"] (defScope s_law_cell_at) := ⟨rfl, rfl, rfl, by decide +kernel, rfl, by decide +kernel, by decide +kernel⟩
abbrev s_law_mix : Stmt := top 9
theorem sc_law_mix : FnScope ["_law_cell", "_law_k", "_law_number"] ["_law_cell", "_law_k"] (defScope s_law_mix) := ⟨rfl, rfl, rfl, by decide +kernel, rfl, by decide +kernel, by decide +kernel⟩
abbrev s_law_great : Stmt := top 10
theorem sc_law_great : FnScope ["_law_cell", "_law_k"] ["_law_cell", "_law_k"] (defScope s_law_great) := ⟨rfl, rfl, rfl, by decide +kernel, rfl, by decide +kernel, by decide +kernel⟩
abbrev s_law_whole : Stmt := top 11
theorem sc_law_whole : FnScope ["_law_found"] ["_law_found"] (defScope s_law_whole) := ⟨rfl, rfl, rfl, by decide +kernel, rfl, by decide +kernel, by decide +kernel⟩
abbrev s_law_roads : Stmt := top 12
theorem sc_law_roads : FnScope ["_law_cells", "_law_many", "_law_roads_here", "_law_k", "_law_mixed", "_law_great_here", "_law_one", "_law_other", "_law_small", "_law_length"] ["_law_cells", "_law_many"] (defScope s_law_roads) := ⟨rfl, rfl, rfl, by decide +kernel, rfl, by decide +kernel, by decide +kernel⟩
abbrev s_law_added : Stmt := top 13
theorem sc_law_added : FnScope ["_law_one", "_law_other"] ["_law_one", "_law_other"] (defScope s_law_added) := ⟨rfl, rfl, rfl, by decide +kernel, rfl, by decide +kernel, by decide +kernel⟩
abbrev s_law_least : Stmt := top 14
theorem sc_law_least : FnScope ["_law_some"] ["_law_some"] (defScope s_law_least) := ⟨rfl, rfl, rfl, by decide +kernel, rfl, by decide +kernel, by decide +kernel⟩
abbrev s_law_open : Stmt := top 15
theorem sc_law_open : FnScope ["_law_road"] ["_law_road"] (defScope s_law_open) := ⟨rfl, rfl, rfl, by decide +kernel, rfl, by decide +kernel, by decide +kernel⟩
abbrev s_law_costs : Stmt := top 16
theorem sc_law_costs : FnScope ["_law_roads_here", "_law_many", "_law_costs_here", "_law_u", "_law_v", "_law_row", "_law_road", "_law_w"] ["_law_roads_here", "_law_many"] (defScope s_law_costs) := ⟨rfl, rfl, rfl, by decide +kernel, rfl, by decide +kernel, by decide +kernel⟩
abbrev s_law_back : Stmt := top 17
theorem sc_law_back : FnScope ["_law_roads_here", "_law_place", "_law_start", "_law_found", "_law_costs_here", "_law_cost", "_law_turn", "_law_road"] ["_law_roads_here", "_law_place", "_law_start", "_law_found", "_law_costs_here"] (defScope s_law_back) := ⟨rfl, rfl, rfl, by decide +kernel, rfl, by decide +kernel, by decide +kernel⟩
abbrev s_law : Stmt := top 18
theorem sc_law : FnScope ["_law_script", "_law_first", "_law_many", "_law_start", "_law_roads_here", "_law_land", "_law_costs_here", "_law_found", "_law_place", "_law_due"] ["_law_script"] (defScope s_law) := ⟨rfl, rfl, rfl, by decide +kernel, rfl, by decide +kernel, by decide +kernel⟩
structure Txt (K : PySem.W.Frag) (mg : Str → Option Value) : Prop where
  f_added : FunAt K mg "added" s_added ["one", "other"]
  f_least : FunAt K mg "least" s_least ["some"]
  f_road_cost : FunAt K mg "road_cost" s_road_cost ["road"]
  f_costs_from : FunAt K mg "costs_from" s_costs_from ["net", "start"]
  f_last_roads : FunAt K mg "last_roads" s_last_roads ["net", "start"]
  f_law_cell_at : FunAt K mg "_law_cell_at" s_law_cell_at ["_law_script", "_law_k"]
  f_law_mix : FunAt K mg "_law_mix" s_law_mix ["_law_cell", "_law_k"]
  f_law_great : FunAt K mg "_law_great" s_law_great ["_law_cell", "_law_k"]
  f_law_whole : FunAt K mg "_law_whole" s_law_whole ["_law_found"]
  f_law_roads : FunAt K mg "_law_roads" s_law_roads ["_law_cells", "_law_many"]
  f_law_added : FunAt K mg "_law_added" s_law_added ["_law_one", "_law_other"]
  f_law_least : FunAt K mg "_law_least" s_law_least ["_law_some"]
  f_law_open : FunAt K mg "_law_open" s_law_open ["_law_road"]
  f_law_costs : FunAt K mg "_law_costs" s_law_costs ["_law_roads_here", "_law_many"]
  f_law_back : FunAt K mg "_law_back" s_law_back ["_law_roads_here", "_law_place", "_law_start", "_law_found", "_law_costs_here"]
  f_law : FunAt K mg "law" s_law ["_law_script"]
  b_bool : mg "bool" = none
  b_enumerate : mg "enumerate" = none
  b_int : mg "int" = none
  b_isinstance : mg "isinstance" = none
  b_len : mg "len" = none
  b_list : mg "list" = none
  b_min : mg "min" = none
  b_range : mg "range" = none

theorem pick8 {a b g i : Int} (ha : 0 ≤ a) (hb : 0 ≤ b) (hg : 0 ≤ g) (h0 : 0 ≤ i) (h1 : i < 8) : ∃ l, dIx (.lst [.non, .int 0, .int 0, .int 1, .int a, .int b, .int g, .int g]) (.int i) = .ok (lenD l) ∧ ∀ x, l = some x → 0 ≤ x := by
  have h : i = 0 ∨ i = 1 ∨ i = 2 ∨ i = 3 ∨ i = 4 ∨ i = 5 ∨ i = 6 ∨ i = 7 := by omega
  rcases h with rfl | rfl | rfl | rfl | rfl | rfl | rfl | rfl
  · exact ⟨none, rfl, fun x h => by cases h⟩
  · exact ⟨some 0, rfl, fun x h => by cases h; decide⟩
  · exact ⟨some 0, rfl, fun x h => by cases h; decide⟩
  · exact ⟨some 1, rfl, fun x h => by cases h; decide⟩
  · exact ⟨some a, rfl, fun x h => by cases h; exact ha⟩
  · exact ⟨some b, rfl, fun x h => by cases h; exact hb⟩
  · exact ⟨some g, rfl, fun x h => by cases h; exact hg⟩
  · exact ⟨some g, rfl, fun x h => by cases h; exact hg⟩
theorem pick2 (a b : Int) {i : Int} (h0 : 0 ≤ i) (h1 : i < 2) : ∃ w : Int, dIx (.lst [.int a, .int b]) (.int i) = .ok (.int w) := by
  have h : i = 0 ∨ i = 1 := by omega
  rcases h with rfl | rfl
  · exact ⟨a, rfl⟩
  · exact ⟨b, rfl⟩
def vR (ah : Int) (r : Road) : Road := if ah = 0 then r else turnR r

theorem ex_added : ∃ F : List D → M D, (∀ {P : Program} {w : World} {K : PySem.W.Frag} {mg : Str → Option Value} {base : Heap}, Txt K mg → FnAt P w K mg base "added" 1 2 F) ∧ (∀ a b, F [cst a, cst b] = .ok (cst (addC a b))) := by
  refine ⟨_, fun T => fnAt_of (k := 0) T.f_added sc_added _ (fun f cdv A outer s H E hr => (dss_cons (ds_if (DW.dt (dw_or (dt_isN (c := true) (de_var 0 (pv 0))) (dw_or1 (dt_isN (c := true) (de_var 1 (pv 1)))))) (dss_one (ds_ret (de_any de_non))) dss_nil) (dss_one (ds_ret (de_any (de_tup (da_cons (de_add (de_item (de_var 0 (pv 0)) de_int) (de_item (de_var 1 (pv 1)) de_int)) (da_cons (de_add (de_item (de_var 0 (pv 0)) de_int) (de_item (de_var 1 (pv 1)) de_int)) da_nil)))))))), ?_⟩
  intro a b
  rcases a with _ | ⟨a1, a2⟩ <;> rcases b with _ | ⟨b1, b2⟩ <;> rfl
noncomputable def addedF : List D → M D := Classical.choose ex_added
theorem added_at {P : Program} {w : World} {K : PySem.W.Frag} {mg : Str → Option Value} {base : Heap} : Txt K mg → FnAt P w K mg base "added" 1 2 addedF := (Classical.choose_spec ex_added).1
theorem added_eq : ∀ a b, addedF [cst a, cst b] = .ok (cst (addC a b)) := (Classical.choose_spec ex_added).2
theorem ex_least : ∃ F : List D → M D, (∀ {P : Program} {w : World} {K : PySem.W.Frag} {mg : Str → Option Value} {base : Heap}, Txt K mg → FnAt P w K mg base "least" 1 1 F) ∧ (∀ cs : List (Option (Int × Int)), cs.length ≤ 1000 → F [.lst (cs.map cst)] = .ok (cst (minL cs))) := by
  refine ⟨_, fun T => fnAt_of (k := 0) T.f_least sc_least _ (fun f cdv A outer s H E hr => (dss_one (ds_ret (de_any (de_minD rfl (huR hr 1 (by decide)) rfl T.b_min (de_comp (NB := ["cost"]) [none] rfl (di_list (de_var 0 (pv 0))) rfl rfl (dgb_name 0 (by decide) rfl rfl rfl) (fun _ _ _ _ => dts_one (dt_notN (c := true) (de_var 0 (pv 0)))) (fun _ _ _ _ => (de_var 0 (pv 0)))) de_non))))), ?_⟩
  intro cs hc
  show fin (((if (cs.map cst).length ≤ 1000 then compR (compM _ _ _ (cs.map cst) [none]) else .bad).bind fun x => (M.ok D.non).bind fun y => dMinD x y).bind fun d => .ok (.ret d)) = _
  rw [if_pos (by rw [List.length_map]; exact hc), comp_filter]
  simp only [compR, M.bind_ok]
  rw [dmin_eq]; rfl
noncomputable def leastF : List D → M D := Classical.choose ex_least
theorem least_at {P : Program} {w : World} {K : PySem.W.Frag} {mg : Str → Option Value} {base : Heap} : Txt K mg → FnAt P w K mg base "least" 1 1 leastF := (Classical.choose_spec ex_least).1
theorem least_eq : ∀ cs : List (Option (Int × Int)), cs.length ≤ 1000 → leastF [.lst (cs.map cst)] = .ok (cst (minL cs)) := (Classical.choose_spec ex_least).2
theorem ex_road_cost : ∃ F : List D → M D, (∀ {P : Program} {w : World} {K : PySem.W.Frag} {mg : Str → Option Value} {base : Heap}, Txt K mg → FnAt P w K mg base "road_cost" 1 1 F) ∧ (∀ r : Road, F [rdD r] = .ok (cst (rcC r))) := by
  refine ⟨_, fun T => fnAt_of (k := 0) T.f_road_cost sc_road_cost _ (fun f cdv A outer s H E hr => (dss_cons (ds_if (dt_isN (c := true) (de_item (de_var 0 (pv 0)) de_int)) (dss_one (ds_ret (de_any de_non))) dss_nil) (dss_one (ds_ret (de_any (de_tup (da_cons (de_item (de_var 0 (pv 0)) de_int) (da_cons de_int da_nil)))))))), ?_⟩
  intro r
  obtain ⟨a, b, l, w⟩ := r
  cases l <;> rfl
noncomputable def road_costF : List D → M D := Classical.choose ex_road_cost
theorem road_cost_at {P : Program} {w : World} {K : PySem.W.Frag} {mg : Str → Option Value} {base : Heap} : Txt K mg → FnAt P w K mg base "road_cost" 1 1 road_costF := (Classical.choose_spec ex_road_cost).1
theorem road_cost_eq : ∀ r : Road, road_costF [rdD r] = .ok (cst (rcC r)) := (Classical.choose_spec ex_road_cost).2
theorem ex_costs_from : ∃ F : List D → M D, (∀ {P : Program} {w : World} {K : PySem.W.Frag} {mg : Str → Option Value} {base : Heap}, Txt K mg → FnAt P w K mg base "costs_from" 2 2 F) ∧ (∀ (m s : Nat) (rs : List Road), s < m → m ≤ 900 → (∀ r ∈ rs, OkR m r) → ∃ cs : List Co, Right m s rs cs ∧ F [netD m rs, .int s] = .ok (.lst (cs.map cst))) := by
  refine ⟨_, fun T => fnAt_of (k := 1) T.f_costs_from sc_costs_from _ (fun f cdv A outer s H E hr => (dss_cons (ds_rep 2 sc_costs_from.nd rfl (Or.inl rfl) de_non (de_item (de_var 0 (pv 0)) de_int)) (dss_cons (ds_put 2 (pv 2) (de_tup (da_cons de_int (da_cons de_int da_nil))) (de_var 1 (pv 1))) (dss_cons (ds_set 3 sc_costs_from.nd rfl (Or.inl rfl) de_bl) (dss_cons (ds_while PassesOwn.never (dt_val (c := true) (de_var 3 (pv 3))) (dss_cons (ds_set 3 sc_costs_from.nd rfl (Or.inl rfl) de_bl) (dss_one (ds_for PassesOwn.never rfl (di_list (de_item (de_var 0 (pv 0)) de_int)) (dg_name 4 sc_costs_from.nd rfl (Or.inl rfl)) (dss_cons (ds_set 5 sc_costs_from.nd rfl (Or.inl rfl) (de_callA (least_at T) (hr.mono (by decide)) rfl (da_cons (de_lst (da_cons (de_ixO 2 (pv 2) (de_item (de_var 4 (pv 4)) de_int)) (da_cons (de_callA (added_at T) (hr.mono (by decide)) rfl (da_cons (de_ixO 2 (pv 2) (de_item (de_var 4 (pv 4)) de_int)) (da_cons (de_callA (road_cost_at T) (hr.mono (by decide)) rfl (da_cons (de_var 4 (pv 4)) da_nil) rfl) da_nil)) rfl) da_nil))) da_nil) rfl)) (dss_one (ds_if (dt_ne (c := true) (huR hr 16 (by decide)) (de_var 5 (pv 5)) (de_ixO 2 (pv 2) (de_item (de_var 4 (pv 4)) de_int))) (dss_cons (ds_put 2 (pv 2) (de_var 5 (pv 5)) (de_item (de_var 4 (pv 4)) de_int)) (dss_one (ds_set 3 sc_costs_from.nd rfl (Or.inl rfl) de_bl))) dss_nil))))))) (dss_one (ds_ret (de_name 2 (pv 2))))))))), ?_⟩
  intro m s rs hs hm hok
  have e0 : stRho ["net", "start", "costs", "changed", "road", "cost"] [netD m rs, .int s] = [some (.val (netD m rs)), some (.val (.int s)), none, none, none, none] := rfl
  rw [e0]
  have n0 : dIx (netD m rs) (.int 0) = .ok (.int m) := rfl
  have n1 : dIx (netD m rs) (.int 1) = .ok (.lst (rs.map rdD)) := rfl
  refine fin_seqE (fun y => ∃ cs : List Co, Right m s rs cs ∧ y = .ok (.lst (cs.map cst))) (ρ := [some (.val (netD m rs)), some (.val (.int s)), some (.own ((List.replicate m none).map cst)), none, none, none]) ?_ ?_
  · have hz : (0 : Int) ≤ (m : Int) ∧ (m : Int).toNat ≤ 1000 := ⟨by omega, by omega⟩
    simp only [rv, List.getElem?_cons_zero, List.getElem?_cons_succ, M.bind_ok, n0, repM, if_pos hz, List.set_cons_zero, List.set_cons_succ]
    rw [Int.toNat_natCast, List.map_replicate]
    rfl
  refine fin_seqE (fun y => ∃ cs : List Co, Right m s rs cs ∧ y = .ok (.lst (cs.map cst))) (ρ := [some (.val (netD m rs)), some (.val (.int s)), some (.own (((List.replicate m none).set s (some (0, 0))).map cst)), none, none, none]) ?_ ?_
  · have hx : ixN (List.map cst (List.replicate m none)).length (s : Int) = some s := by
      rw [ixN_nat (by rw [List.length_map, List.length_replicate]; omega), Int.toNat_natCast]
    have hz2 : [D.int 0, D.int 0].length ≤ 1000 := by decide
    simp only [rv, List.getElem?_cons_zero, List.getElem?_cons_succ, M.bind_ok, if_pos hz2, putM, putI, hx, List.set_cons_zero, List.set_cons_succ, List.map_set]
    rfl
  refine fin_seqE (fun y => ∃ cs : List Co, Right m s rs cs ∧ y = .ok (.lst (cs.map cst))) (ρ := [some (.val (netD m rs)), some (.val (.int s)), some (.own (((List.replicate m none).set s (some (0, 0))).map cst)), some (.val (.bl true)), none, none]) rfl ?_
  refine fin_loopA (lt := LtL ltN) (fun y => ∃ cs : List Co, Right m s rs cs ∧ y = .ok (.lst (cs.map cst)))
    (fun cs ρ => ∃ s4 s5, ρ = [some (.val (netD m rs)), some (.val (.int s)), some (.own (cs.map cst)), some (.val (.bl true)), s4, s5] ∧ Good m s rs cs)
    (fun ρ => ∃ cs s4 s5, ρ = [some (.val (netD m rs)), some (.val (.int s)), some (.own (cs.map cst)), some (.val (.bl false)), s4, s5] ∧ Right m s rs cs)
    (acc_costs _) ⟨none, none, rfl, good_start rs hs⟩ ?_ ?_
  · rintro cs ρ ⟨s4, s5, rfl, g⟩
    refine ⟨rfl, ?_⟩
    show ∃ ρ1, forM _ _ (rs.map rdD) [some (.val (netD m rs)), some (.val (.int s)), some (.own (cs.map cst)), some (.val (.bl false)), s4, s5] = .ok (.next ρ1) ∧ _
    refine forM_ex (fun i ρ => ∃ cs1 ch s4 s5, ρ = [some (.val (netD m rs)), some (.val (.int s)), some (.own (cs1.map cst)), some (.val (.bl ch)), s4, s5] ∧ Good m s rs cs1 ∧ (ch = true → LtL ltN cs1 cs) ∧ (ch = false → cs1 = cs ∧ ∀ r ∈ rs.take i, lsC (atC cs r.b) (addC (atC cs r.a) (rcC r)) = atC cs r.b)) ?_ ?_ ?_
    · exact ⟨cs, false, s4, s5, rfl, g, (fun h => by cases h), fun _ => ⟨rfl, fun r hr => by rw [List.take_zero] at hr; cases hr⟩⟩
    · rintro i d ρ hd ⟨cs1, ch, s4, s5, rfl, g1, h1, h2⟩
      rw [List.getElem?_map] at hd
      cases hq : rs[i]? with
      | none => rw [hq] at hd; cases hd
      | some r =>
        rw [hq] at hd
        cases hd
        have hr := List.mem_of_getElem? hq
        have ok := hok r hr
        obtain ⟨g2, _, g4, g5⟩ := good_step g1 hr hok
        have hb1 : r.b < cs1.length := by rw [g1.len]; exact ok.b1
        have ha1 : r.a < cs1.length := by rw [g1.len]; exact ok.a1
        have r0 : dIx (rdD r) (.int 0) = .ok (.int r.a) := rfl
        have r1 : dIx (rdD r) (.int 1) = .ok (.int r.b) := rfl
        have x0 := dIx_cost ok.a0 ha1
        have x1 := dIx_cost ok.b0 hb1
        have hrc := road_cost_eq r
        have had := added_eq (atC cs1 r.a) (rcC r)
        have hle : leastF [.lst [cst (atC cs1 r.b), cst (addC (atC cs1 r.a) (rcC r))]] = .ok (cst (lsC (atC cs1 r.b) (addC (atC cs1 r.a) (rcC r)))) := least_eq [atC cs1 r.b, addC (atC cs1 r.a) (rcC r)] (by simp)
        have hl2 : [cst (atC cs1 r.b), cst (addC (atC cs1 r.a) (rcC r))].length ≤ 1000 := by simp
        have hne := dNe_cst (lsC (atC cs1 r.b) (addC (atC cs1 r.a) (rcC r))) (atC cs1 r.b)
        have hx : ixN (List.map cst cs1).length r.b = some r.b.toNat := ixN_nat ⟨ok.b0, by rw [List.length_map]; exact hb1⟩
        by_cases hc : lsC (atC cs1 r.b) (addC (atC cs1 r.a) (rcC r)) = atC cs1 r.b
        · rw [decide_eq_true hc] at hne
          refine ⟨_, [some (.val (netD m rs)), some (.val (.int s)), some (.own (cs1.map cst)), some (.val (.bl ch)), some (.val (rdD r)), some (.val (cst (lsC (atC cs1 r.b) (addC (atC cs1 r.a) (rcC r)))))], rfl, ?_, cs1, ch, _, _, rfl, g1, h1, fun hf => ?_⟩
          · simp [rv, ixOwn, r0, r1, x0, x1, hrc, had, hle, hne, asB, seqM]
          · obtain ⟨e1, e2⟩ := h2 hf
            subst e1
            refine ⟨rfl, fun r' hr' => ?_⟩
            rw [List.take_add_one, hq] at hr'
            rcases List.mem_append.mp hr' with hr' | hr'
            · exact e2 r' hr'
            · have : r' = r := by simpa using hr'
              rw [this]; exact hc
        · rw [decide_eq_false hc] at hne
          refine ⟨_, [some (.val (netD m rs)), some (.val (.int s)), some (.own ((stepBF r cs1).map cst)), some (.val (.bl true)), some (.val (rdD r)), some (.val (cst (lsC (atC cs1 r.b) (addC (atC cs1 r.a) (rcC r)))))], rfl, ?_, stepBF r cs1, true, _, _, rfl, g2, fun _ => ?_, fun hf => by cases hf⟩
          · have hx2 : ixN cs1.length r.b = some r.b.toNat := ixN_nat ⟨ok.b0, hb1⟩
            simp [rv, ixOwn, r0, r1, x0, x1, hrc, had, hle, hne, asB, seqM, putM, putI, hx2, stepBF, List.map_set]
          · cases ch with
            | false => obtain ⟨e1, _⟩ := h2 rfl; subst e1; exact g5 hc
            | true => exact LtL.trans ltN ltN_trans (g5 hc) (h1 rfl)
    · rintro ρ' ⟨cs1, ch, s4, s5, rfl, g1, h1, h2⟩
      cases ch with
      | true => exact .inl ⟨cs1, h1 rfl, s4, s5, rfl, g1⟩
      | false =>
        obtain ⟨e1, e2⟩ := h2 rfl
        subst e1
        rw [List.length_map, List.take_length] at e2
        exact .inr ⟨rfl, cs1, s4, s5, rfl, right_of g1 e2⟩
  · rintro ρ' ⟨cs, s4, s5, rfl, hR⟩
    exact ⟨cs, hR, rfl⟩
noncomputable def costs_fromF : List D → M D := Classical.choose ex_costs_from
theorem costs_from_at {P : Program} {w : World} {K : PySem.W.Frag} {mg : Str → Option Value} {base : Heap} : Txt K mg → FnAt P w K mg base "costs_from" 2 2 costs_fromF := (Classical.choose_spec ex_costs_from).1
theorem costs_from_eq : ∀ (m s : Nat) (rs : List Road), s < m → m ≤ 900 → (∀ r ∈ rs, OkR m r) → ∃ cs : List Co, Right m s rs cs ∧ costs_fromF [netD m rs, .int s] = .ok (.lst (cs.map cst)) := (Classical.choose_spec ex_costs_from).2
theorem ex_last_roads : ∃ F : List D → M D, (∀ {P : Program} {w : World} {K : PySem.W.Frag} {mg : Str → Option Value} {base : Heap}, Txt K mg → FnAt P w K mg base "last_roads" 3 2 F) ∧ (∀ (m s : Nat) (rs : List Road), s < m → m ≤ 900 → (∀ r ∈ rs, OkR m r) → ∃ cs : List Co, Right m s rs cs ∧ F [netD m rs, .int s] = .ok (.lst ((lastL m rs cs rs.length).map optN))) := by
  refine ⟨_, fun T => fnAt_of (k := 2) T.f_last_roads sc_last_roads _ (fun f cdv A outer s H E hr => (dss_cons (ds_set 2 sc_last_roads.nd rfl (Or.inl rfl) (de_callA (costs_from_at T) (hr.mono (by decide)) rfl (da_cons (de_var 0 (pv 0)) (da_cons (de_var 1 (pv 1)) da_nil)) rfl)) (dss_cons (ds_rep 3 sc_last_roads.nd rfl (Or.inl rfl) de_non (de_item (de_var 0 (pv 0)) de_int)) (dss_cons (ds_for PassesOwn.never rfl (di_enum rfl T.b_enumerate (de_item (de_var 0 (pv 0)) de_int)) (dg_tup (n := 2) rfl (dgs_cons (dg_name 4 sc_last_roads.nd rfl (Or.inl rfl)) (dgs_cons (dg_name 5 sc_last_roads.nd rfl (Or.inl rfl)) dgs_nil))) (dss_cons (ds_set 6 sc_last_roads.nd rfl (Or.inl rfl) (de_callA (added_at T) (hr.mono (by decide)) rfl (da_cons (de_item (de_var 2 (pv 2)) (de_item (de_var 5 (pv 5)) de_int)) (da_cons (de_callA (road_cost_at T) (hr.mono (by decide)) rfl (da_cons (de_var 5 (pv 5)) da_nil) rfl) da_nil)) rfl)) (dss_one (ds_if (DW.dt (dw_and (dt_notN (c := true) (de_var 6 (pv 6))) (dw_and (dt_eq (c := true) (huR hr 16 (by decide)) (de_var 6 (pv 6)) (de_item (de_var 2 (pv 2)) (de_item (de_var 5 (pv 5)) de_int))) (dw_and1 (dt_isN (c := true) (de_ixO 3 (pv 3) (de_item (de_var 5 (pv 5)) de_int))))))) (dss_one (ds_put 3 (pv 3) (de_var 4 (pv 4)) (de_item (de_var 5 (pv 5)) de_int))) dss_nil)))) (dss_one (ds_ret (de_name 3 (pv 3)))))))), ?_⟩
  intro m s rs hs hm hok
  obtain ⟨cs, hR, hF⟩ := costs_from_eq m s rs hs hm hok
  have e0 : stRho ["net", "start", "costs", "last", "number", "road", "cost"] [netD m rs, .int s] = [some (.val (netD m rs)), some (.val (.int s)), none, none, none, none, none] := rfl
  rw [e0]
  have n0 : dIx (netD m rs) (.int 0) = .ok (.int m) := rfl
  have n1 : dIx (netD m rs) (.int 1) = .ok (.lst (rs.map rdD)) := rfl
  refine ⟨cs, hR, ?_⟩
  refine fin_seq (ρ := [some (.val (netD m rs)), some (.val (.int s)), some (.val (.lst (cs.map cst))), none, none, none, none]) ?_ ?_
  · simp only [rv, List.getElem?_cons_zero, List.getElem?_cons_succ, M.bind_ok, hF, List.set_cons_zero, List.set_cons_succ]
  refine fin_seq (ρ := [some (.val (netD m rs)), some (.val (.int s)), some (.val (.lst (cs.map cst))), some (.own ((lastL m rs cs 0).map optN)), none, none, none]) ?_ ?_
  · have hz : (0 : Int) ≤ (m : Int) ∧ (m : Int).toNat ≤ 1000 := ⟨by omega, by omega⟩
    have hl : (lastL m rs cs 0).map optN = List.replicate m D.non := by
      unfold lastL
      rw [List.map_map]
      refine List.eq_replicate_iff.mpr ⟨by rw [List.length_map, List.length_range], fun b hb => ?_⟩
      obtain ⟨_, _, rfl⟩ := List.mem_map.mp hb
      rfl
    simp only [rv, List.getElem?_cons_zero, List.getElem?_cons_succ, M.bind_ok, n0, repM, if_pos hz, List.set_cons_zero, List.set_cons_succ]
    rw [Int.toNat_natCast, hl]
  show fin (seqM (forM _ _ (enumD 0 (rs.map rdD)) [some (.val (netD m rs)), some (.val (.int s)), some (.val (.lst (cs.map cst))), some (.own ((lastL m rs cs 0).map optN)), none, none, none]) _) = _
  refine fin_for (fun i ρ => ∃ s4 s5 s6, ρ = [some (.val (netD m rs)), some (.val (.int s)), some (.val (.lst (cs.map cst))), some (.own ((lastL m rs cs i).map optN)), s4, s5, s6]) ⟨none, none, none, rfl⟩ ?_ ?_
  · rintro i d ρ hd ⟨s4, s5, s6, rfl⟩
    obtain ⟨d', h1, rfl⟩ := enumD_get hd
    rw [List.getElem?_map] at h1
    cases hq : rs[i]? with
    | none => rw [hq] at h1; cases h1
    | some r =>
      rw [hq] at h1
      cases h1
      rw [Nat.zero_add]
      have hr := List.mem_of_getElem? hq
      have ok := hok r hr
      have hcl := hR.1
      have hb1 : r.b < cs.length := by rw [hcl]; exact ok.b1
      have ha1 : r.a < cs.length := by rw [hcl]; exact ok.a1
      have r0 : dIx (rdD r) (.int 0) = .ok (.int r.a) := rfl
      have r1 : dIx (rdD r) (.int 1) = .ok (.int r.b) := rfl
      have x0 := dIx_cost ok.a0 ha1
      have x1 := dIx_cost ok.b0 hb1
      have hrc := road_cost_eq r
      have had := added_eq (atC cs r.a) (rcC r)
      have hpb : ((r.b.toNat : Nat) : Int) = r.b := Int.toNat_of_nonneg ok.b0
      have hpm : r.b.toNat < m := by have := ok.b1; omega
      have x2 : dIx (.lst ((lastL m rs cs i).map optN)) (.int r.b) = .ok (optN ((List.range i).find? (hit rs cs r.b.toNat))) := dIx_map ok.b0 (lastL_get rs cs i hpm)
      have hoth : ∀ q, q ≠ r.b.toNat → hit rs cs q i = false := fun q hq2 => by
        unfold hit
        rw [hq]
        have : ¬ r.b = (q : Int) := fun z => hq2 (by omega)
        simp [this]
      have hself : hit rs cs r.b.toNat i = (decide (addC (atC cs r.a) (rcC r) ≠ none) && decide (addC (atC cs r.a) (rcC r) = atC cs r.b)) := by
        unfold hit
        rw [hq]
        dsimp only
        rw [hpb]
        simp
      refine ⟨[some (.val (netD m rs)), some (.val (.int s)), some (.val (.lst (cs.map cst))), some (.own ((lastL m rs cs i).map optN)), some (.val (.int i)), some (.val (rdD r)), s6], [some (.val (netD m rs)), some (.val (.int s)), some (.val (.lst (cs.map cst))), some (.own ((lastL m rs cs (i + 1)).map optN)), some (.val (.int i)), some (.val (rdD r)), some (.val (cst (addC (atC cs r.a) (rcC r))))], rfl, ?_, _, _, _, rfl⟩
      cases hx : addC (atC cs r.a) (rcC r) with
      | none =>
        have hsk : lastL m rs cs (i + 1) = lastL m rs cs i := lastL_skip fun p hp => .inl (by
          by_cases e : p = r.b.toNat
          · rw [e, hself, hx]; simp
          · exact hoth p e)
        rw [hsk]
        rw [hx] at had
        have hn0 : isNonD (cst none) = true := rfl
        simp [rv, r0, x0, hrc, had, hn0, asB, seqM]
      | some z =>
        rw [hx] at had
        have heq := dEq_cst (some z) (atC cs r.b)
        have hnn : isNonD (cst (some z)) = false := rfl
        by_cases hc : some z = atC cs r.b
        · rw [decide_eq_true hc] at heq
          cases hf : (List.range i).find? (hit rs cs r.b.toNat) with
          | some k =>
            have hsk : lastL m rs cs (i + 1) = lastL m rs cs i := lastL_skip fun p hp => by
              by_cases e : p = r.b.toNat
              · rw [e]; exact .inr ⟨k, hf⟩
              · exact .inl (hoth p e)
            rw [hsk]
            rw [hf] at x2
            have ho : isNonD (optN (some k)) = false := rfl
            simp [rv, r0, r1, x0, x1, x2, hrc, had, hnn, heq, ho, ixOwn, asB, seqM]
          | none =>
            have hsk : lastL m rs cs (i + 1) = (lastL m rs cs i).set r.b.toNat (some i) := lastL_put hpm (by rw [hself, hx, ← hc]; simp) hf hoth
            rw [hsk]
            rw [hf] at x2
            have ho : isNonD (optN none) = true := rfl
            have hx2 : ixN (lastL m rs cs i).length r.b = some r.b.toNat := ixN_nat ⟨ok.b0, by rw [lastL_len]; exact ok.b1⟩
            simp [rv, r0, r1, x0, x1, x2, hrc, had, hnn, heq, ho, ixOwn, asB, seqM, putM, putI, hx2, List.map_set]
            rfl
        · rw [decide_eq_false hc] at heq
          have hsk : lastL m rs cs (i + 1) = lastL m rs cs i := lastL_skip fun p hp => .inl (by
            by_cases e : p = r.b.toNat
            · rw [e, hself, hx]; simp [hc]
            · exact hoth p e)
          rw [hsk]
          simp [rv, r0, r1, x0, x1, hrc, had, hnn, heq, asB, seqM]
  · rintro ρ ⟨s4, s5, s6, rfl⟩
    rw [enumD_len, List.length_map]
    rfl
noncomputable def last_roadsF : List D → M D := Classical.choose ex_last_roads
theorem last_roads_at {P : Program} {w : World} {K : PySem.W.Frag} {mg : Str → Option Value} {base : Heap} : Txt K mg → FnAt P w K mg base "last_roads" 3 2 last_roadsF := (Classical.choose_spec ex_last_roads).1
theorem last_roads_eq : ∀ (m s : Nat) (rs : List Road), s < m → m ≤ 900 → (∀ r ∈ rs, OkR m r) → ∃ cs : List Co, Right m s rs cs ∧ last_roadsF [netD m rs, .int s] = .ok (.lst ((lastL m rs cs rs.length).map optN)) := (Classical.choose_spec ex_last_roads).2
theorem ex_law_cell_at : ∃ F : List D → M D, (∀ {P : Program} {w : World} {K : PySem.W.Frag} {mg : Str → Option Value} {base : Heap}, Txt K mg → FnAt P w K mg base "_law_cell_at" 1 2 F) ∧ (∀ (ns : List Int) (k : Int), 0 ≤ k → (∀ n ∈ ns, Sm n) → ∃ v : Int, Sm v ∧ F [.lst (ns.map D.int), .int k] = .ok (.int v)) := by
  refine ⟨_, fun T => fnAt_of (k := 0) T.f_law_cell_at sc_law_cell_at _ (fun f cdv A outer s H E hr => (dss_cons (ds_if (dt_lt (c := true) (de_var 1 (pv 1)) (de_len rfl T.b_len (de_var 0 (pv 0)))) (dss_one (ds_ret (de_any (de_item (de_var 0 (pv 0)) (de_var 1 (pv 1)))))) dss_nil) (dss_one (ds_ret (de_any de_int))))), ?_⟩
  intro ns k hk hsm
  have e0 : stRho ["_law_script", "_law_k"] [.lst (ns.map D.int), .int k] = [some (.val (.lst (ns.map D.int))), some (.val (.int k))] := rfl
  rw [e0]
  by_cases h : k < ns.length
  · have hn : k.toNat < ns.length := by omega
    have e2 : dIx (.lst (ns.map D.int)) (.int k) = .ok (.int ns[k.toNat]) := dIx_map hk (List.getElem?_eq_getElem hn)
    exact ⟨ns[k.toNat], hsm _ (List.getElem_mem hn), by simp [rv, dLen, dLt, onInts, asB, h, e2, fin, seqM]⟩
  · exact ⟨0, by unfold Sm; decide, by simp [rv, dLen, dLt, onInts, asB, h, fin, seqM]⟩
noncomputable def law_cell_atF : List D → M D := Classical.choose ex_law_cell_at
theorem law_cell_at_at {P : Program} {w : World} {K : PySem.W.Frag} {mg : Str → Option Value} {base : Heap} : Txt K mg → FnAt P w K mg base "_law_cell_at" 1 2 law_cell_atF := (Classical.choose_spec ex_law_cell_at).1
theorem law_cell_at_eq : ∀ (ns : List Int) (k : Int), 0 ≤ k → (∀ n ∈ ns, Sm n) → ∃ v : Int, Sm v ∧ law_cell_atF [.lst (ns.map D.int), .int k] = .ok (.int v) := (Classical.choose_spec ex_law_cell_at).2
theorem ex_law_mix : ∃ F : List D → M D, (∀ {P : Program} {w : World} {K : PySem.W.Frag} {mg : Str → Option Value} {base : Heap}, Txt K mg → FnAt P w K mg base "_law_mix" 1 2 F) ∧ (∀ c k : Int, 0 ≤ k → k ≤ 1000 → ∃ v : Int, 0 ≤ v ∧ F [.int c, .int k] = .ok (.int v)) := by
  refine ⟨_, fun T => fnAt_of (k := 0) T.f_law_mix sc_law_mix _ (fun f cdv A outer s H E hr => (dss_cons (ds_set 2 sc_law_mix.nd rfl (Or.inl rfl) (de_mod (de_add (de_add (de_add (de_mulW (de_var 0 (pv 0)) de_int) (de_mulW (de_mulW (de_var 1 (pv 1)) (de_var 1 (pv 1))) de_int)) (de_mulW de_int (de_var 1 (pv 1)))) de_int) de_int)) (dss_one (ds_ret (de_any (de_mod (de_mulW (de_var 2 (pv 2)) (de_var 2 (pv 2))) de_int)))))), ?_⟩
  intro c k h0 h1
  have e0 : stRho ["_law_cell", "_law_k", "_law_number"] [.int c, .int k] = [some (.val (.int c)), some (.val (.int k)), none] := rfl
  rw [e0]
  have m1 : dMulW (.int c) (.int 48271) = .ok (.int (c * 48271)) := dMulW_ok (.inr (.inr (.inr (by decide))))
  have m2 : dMulW (.int k) (.int k) = .ok (.int (k * k)) := dMulW_ok (.inr (.inr (.inr ⟨by omega, by omega⟩)))
  have m3 : dMulW (.int (k * k)) (.int 69621) = .ok (.int (k * k * 69621)) := dMulW_ok (.inr (.inr (.inr (by decide))))
  have m4 : dMulW (.int 11) (.int k) = .ok (.int (11 * k)) := dMulW_ok (.inr (.inr (.inr ⟨by omega, by omega⟩)))
  obtain ⟨x, hx⟩ : ∃ x, x = (c * 48271 + k * k * 69621 + 11 * k + 1) % 2147483647 := ⟨_, rfl⟩
  have x0 : 0 ≤ x := by omega
  have x1 : x < 2147483647 := by omega
  have m5 : dMulW (.int x) (.int x) = .ok (.int (x * x)) := dMulW_ok (.inr (.inr (.inr ⟨by omega, by omega⟩)))
  refine ⟨x * x % 2147483629, Int.emod_nonneg _ (by decide), ?_⟩
  simp [rv, m1, m2, m3, m4, dAdd, dMod, onInts, ← hx, m5, fin, seqM]
noncomputable def law_mixF : List D → M D := Classical.choose ex_law_mix
theorem law_mix_at {P : Program} {w : World} {K : PySem.W.Frag} {mg : Str → Option Value} {base : Heap} : Txt K mg → FnAt P w K mg base "_law_mix" 1 2 law_mixF := (Classical.choose_spec ex_law_mix).1
theorem law_mix_eq : ∀ c k : Int, 0 ≤ k → k ≤ 1000 → ∃ v : Int, 0 ≤ v ∧ law_mixF [.int c, .int k] = .ok (.int v) := (Classical.choose_spec ex_law_mix).2
theorem ex_law_great : ∃ F : List D → M D, (∀ {P : Program} {w : World} {K : PySem.W.Frag} {mg : Str → Option Value} {base : Heap}, Txt K mg → FnAt P w K mg base "_law_great" 1 2 F) ∧ (∀ c k : Int, Sm c → 0 ≤ k → k ≤ 100 → ∃ v : Int, 0 ≤ v ∧ F [.int c, .int k] = .ok (.int v)) := by
  refine ⟨_, fun T => fnAt_of (k := 0) T.f_law_great sc_law_great _ (fun f cdv A outer s H E hr => (dss_one (ds_ret (de_any (de_mod (de_mulW (de_add (de_add (de_var 0 (pv 0)) (de_mulW (de_var 1 (pv 1)) (de_var 1 (pv 1)))) de_int) de_int) (de_pow de_int de_int)))))), ?_⟩
  intro c k hs h0 h1
  have e0 : stRho ["_law_cell", "_law_k"] [.int c, .int k] = [some (.val (.int c)), some (.val (.int k))] := rfl
  rw [e0]
  have m2 : dMulW (.int k) (.int k) = .ok (.int (k * k)) := dMulW_ok (.inr (.inr (.inr ⟨by omega, by omega⟩)))
  have hk : 0 ≤ k * k := Int.mul_nonneg h0 h0
  have hk2 : k * k ≤ 100 * 100 := Int.mul_le_mul h1 h1 h0 (by decide)
  have hb : Builtin.Int.intBits (c + (k * k + 1)) ≤ 2 ^ 20 + 1 := bits_near hs (by omega)
  have m3 : dMulW (.int (c + (k * k + 1))) (.int 5172390846617502938471650293846571029384756102938477) = .ok (.int ((c + (k * k + 1)) * 5172390846617502938471650293846571029384756102938477)) := dMulW_ok (.inl ⟨hb, bits_le (by decide)⟩)
  have m4 := dMod_pos (a := (c + (k * k + 1)) * 5172390846617502938471650293846571029384756102938477) (b := p60) (by unfold p60; omega)
  refine ⟨_, (p60_mod ((c + (k * k + 1)) * 5172390846617502938471650293846571029384756102938477)).1, ?_⟩
  have a1 : dAdd (.int c) (.int (k * k)) = .ok (.int (c + k * k)) := rfl
  have a2 : dAdd (.int (c + k * k)) (.int 1) = .ok (.int (c + (k * k + 1))) := by rw [← Int.add_assoc]; rfl
  simp only [rv, List.getElem?_cons_zero, List.getElem?_cons_succ, M.bind_ok, m2, a1, a2, m3, dPow60, m4]
  rfl
noncomputable def law_greatF : List D → M D := Classical.choose ex_law_great
theorem law_great_at {P : Program} {w : World} {K : PySem.W.Frag} {mg : Str → Option Value} {base : Heap} : Txt K mg → FnAt P w K mg base "_law_great" 1 2 law_greatF := (Classical.choose_spec ex_law_great).1
theorem law_great_eq : ∀ c k : Int, Sm c → 0 ≤ k → k ≤ 100 → ∃ v : Int, 0 ≤ v ∧ law_greatF [.int c, .int k] = .ok (.int v) := (Classical.choose_spec ex_law_great).2
theorem ex_law_whole : ∃ F : List D → M D, (∀ {P : Program} {w : World} {K : PySem.W.Frag} {mg : Str → Option Value} {base : Heap}, Txt K mg → FnAt P w K mg base "_law_whole" 1 1 F) ∧ (∀ i : Int, F [.int i] = .ok (.bl true)) := by
  refine ⟨_, fun T => fnAt_of (k := 0) T.f_law_whole sc_law_whole _ (fun f cdv A outer s H E hr => (dss_one (ds_ret (de_any (de_and (de_isT (kit_int' _) rfl T.b_isinstance rfl T.b_int (by decide +kernel) (de_var 0 (pv 0))) (de_one (de_not (de_isT (kit_bool' _) rfl T.b_isinstance rfl T.b_bool (by decide +kernel) (de_var 0 (pv 0)))))))))), ?_⟩
  intro i
  rfl
noncomputable def law_wholeF : List D → M D := Classical.choose ex_law_whole
theorem law_whole_at {P : Program} {w : World} {K : PySem.W.Frag} {mg : Str → Option Value} {base : Heap} : Txt K mg → FnAt P w K mg base "_law_whole" 1 1 law_wholeF := (Classical.choose_spec ex_law_whole).1
theorem law_whole_eq : ∀ i : Int, law_wholeF [.int i] = .ok (.bl true) := (Classical.choose_spec ex_law_whole).2
theorem ex_law_roads : ∃ F : List D → M D, (∀ {P : Program} {w : World} {K : PySem.W.Frag} {mg : Str → Option Value} {base : Heap}, Txt K mg → FnAt P w K mg base "_law_roads" 2 2 F) ∧ (∀ (cells : List Int) (m : Nat), 1 ≤ m → m ≤ 16 → cells.length ≤ 90 → (∀ c ∈ cells, Sm c) → ∃ rs : List Road, rs.length ≤ cells.length ∧ (∀ r ∈ rs, OkR m r) ∧ F [.lst (cells.map D.int), .int m] = .ok (.lst (rs.map rdD))) := by
  refine ⟨_, fun T => fnAt_of (k := 1) T.f_law_roads sc_law_roads _ (fun f cdv A outer s H E hr => (dss_cons (ds_new 2 sc_law_roads.nd rfl (Or.inl rfl) da_nil) (dss_cons (ds_for PassesOwn.never rfl (di_range1 (c := true) rfl T.b_range (de_len rfl T.b_len (de_var 0 (pv 0)))) (dg_name 3 sc_law_roads.nd rfl (Or.inl rfl)) (dss_cons (ds_set 4 sc_law_roads.nd rfl (Or.inl rfl) (de_callA (law_mix_at T) (hr.mono (by decide)) rfl (da_cons (de_item (de_var 0 (pv 0)) (de_var 3 (pv 3))) (da_cons (de_var 3 (pv 3)) da_nil)) rfl)) (dss_cons (ds_set 5 sc_law_roads.nd rfl (Or.inl rfl) (de_callA (law_great_at T) (hr.mono (by decide)) rfl (da_cons (de_item (de_var 0 (pv 0)) (de_var 3 (pv 3))) (da_cons (de_var 3 (pv 3)) da_nil)) rfl)) (dss_one (ds_if (DW.dt (dw_and (dt_gt (c := true) (de_var 1 (pv 1)) de_int) (dw_and (dt_gt (c := true) (de_flat (de_len rfl T.b_len (de_name 2 (pv 2)))) de_int) (dw_and1 (dt_eq (c := true) (huR hr 16 (by decide)) (de_mod (de_var 4 (pv 4)) de_int) de_int))))) (dss_one (ds_append 2 (pv 2) (de_ixO 2 (pv 2) (de_mod (de_fdiv (de_var 4 (pv 4)) de_int) (de_flat (de_len rfl T.b_len (de_name 2 (pv 2)))))))) (dss_one (ds_if (dt_gt (c := true) (de_var 1 (pv 1)) de_int) (dss_cons (ds_set 6 sc_law_roads.nd rfl (Or.inl rfl) (de_mod (de_fdiv (de_var 4 (pv 4)) de_int) (de_var 1 (pv 1)))) (dss_cons (ds_set 7 sc_law_roads.nd rfl (Or.inl rfl) (de_mod (de_add (de_add (de_var 6 (pv 6)) de_int) (de_mod (de_fdiv (de_var 4 (pv 4)) de_int) (de_sub (de_var 1 (pv 1)) de_int))) (de_var 1 (pv 1)))) (dss_cons (ds_set 8 sc_law_roads.nd rfl (Or.inl rfl) (de_fdiv (de_var 4 (pv 4)) de_int)) (dss_cons (ds_set 9 sc_law_roads.nd rfl (Or.inl rfl) (de_item (de_lst (da_cons de_non (da_cons de_int (da_cons de_int (da_cons de_int (da_cons (de_mod (de_var 8 (pv 8)) de_int) (da_cons (de_mod (de_var 8 (pv 8)) de_int) (da_cons (de_var 5 (pv 5)) (da_cons (de_var 5 (pv 5)) da_nil))))))))) (de_mod (de_fdiv (de_var 4 (pv 4)) de_int) de_int))) (dss_one (ds_append 2 (pv 2) (de_tup (da_cons (de_var 6 (pv 6)) (da_cons (de_var 7 (pv 7)) (da_cons (de_var 9 (pv 9)) (da_cons (de_item (de_lst (da_cons (de_mod (de_var 8 (pv 8)) de_int) (da_cons (de_var 5 (pv 5)) da_nil))) (de_mod (de_var 4 (pv 4)) de_int)) da_nil))))))))))) dss_nil))))))) (dss_one (ds_ret (de_name 2 (pv 2))))))), ?_⟩
  intro cells m hm1 hm2 hl hsm
  have e0 : stRho ["_law_cells", "_law_many", "_law_roads_here", "_law_k", "_law_mixed", "_law_great_here", "_law_one", "_law_other", "_law_small", "_law_length"] [.lst (cells.map D.int), .int m] = [some (.val (.lst (cells.map D.int))), some (.val (.int m)), none, none, none, none, none, none, none, none] := rfl
  rw [e0]
  refine fin_seqE (fun y => ∃ rs : List Road, rs.length ≤ cells.length ∧ (∀ r ∈ rs, OkR m r) ∧ y = .ok (.lst (rs.map rdD))) (ρ := [some (.val (.lst (cells.map D.int))), some (.val (.int m)), some (.own []), none, none, none, none, none, none, none]) rfl ?_
  have hlen : dLen [.lst (cells.map D.int)] = .ok (.int cells.length) := by simp [dLen]
  have hrng := rngM_nat (n := cells.length) (by omega)
  simp only [rv, List.getElem?_cons_zero, List.getElem?_cons_succ, M.bind_ok, hlen, hrng]
  refine fin_forE (fun y => ∃ rs : List Road, rs.length ≤ cells.length ∧ (∀ r ∈ rs, OkR m r) ∧ y = .ok (.lst (rs.map rdD))) (fun i ρ => ∃ rs : List Road, ∃ s3 s4 s5 s6 s7 s8 s9, rs.length ≤ i ∧ (∀ r ∈ rs, OkR m r) ∧ ρ = [some (.val (.lst (cells.map D.int))), some (.val (.int m)), some (.own (rs.map rdD)), s3, s4, s5, s6, s7, s8, s9]) ⟨[], none, none, none, none, none, none, none, Nat.le_refl _, (fun r h => by cases h), rfl⟩ ?_ ?_
  · rintro i d ρ hd ⟨rs, s3, s4, s5, s6, s7, s8, s9, hrs, hok, rfl⟩
    obtain ⟨hd1, hi⟩ := rangeD_get hd
    rw [Int.zero_add] at hd1
    subst hd1
    have hq : cells[i]? = some cells[i] := List.getElem?_eq_getElem hi
    have hcm := hsm _ (List.getElem_mem hi)
    have x1 : dIx (.lst (cells.map D.int)) (.int (i : Int)) = .ok (.int cells[i]) := dIx_map (by omega) (by rw [Int.toNat_natCast]; exact hq)
    obtain ⟨v, v0, hv⟩ := law_mix_eq cells[i] i (by omega) (by omega)
    obtain ⟨g, g0, hg⟩ := law_great_eq cells[i] i hcm (by omega) (by omega)
    have hroom : rs.length < 1000 := by omega
    have gl : dGt (.int (rs.length : Int)) (.int 0) = .ok (.bl (decide ((0 : Int) < rs.length))) := rfl
    by_cases hm : 1 < m
    · have hmI : (1 : Int) < (m : Int) := by omega
      have gt1 : dGt (.int (m : Int)) (.int 1) = .ok (.bl true) := by simp [dGt, onInts, hmI]
      have d7 : dFdiv (.int v) (.int 7) = .ok (.int (v / 7)) := dFdiv_lit (by unfold CDiv; omega)
      by_cases hz : 0 < rs.length ∧ v % 7 = 3
      · have hzI : (0 : Int) < (rs.length : Int) := by omega
        obtain ⟨j, hj⟩ : ∃ j, j = v / 7 % (rs.length : Int) := ⟨_, rfl⟩
        have j0 : 0 ≤ j := by rw [hj]; exact Int.emod_nonneg _ (by omega)
        have j1 : j < rs.length := by rw [hj]; exact Int.emod_lt_of_pos _ hzI
        have hjn : j.toNat < rs.length := by omega
        have x2 : dIx (.lst (rs.map rdD)) (.int j) = .ok (rdD rs[j.toNat]) := dIx_map j0 (List.getElem?_eq_getElem hjn)
        refine ⟨_, [some (.val (.lst (cells.map D.int))), some (.val (.int m)), some (.own ((rs ++ [rs[j.toNat]]).map rdD)), some (.val (.int i)), some (.val (.int v)), some (.val (.int g)), s6, s7, s8, s9], rfl, ?_, rs ++ [rs[j.toNat]], _, _, _, _, _, _, _, by simp; omega, fun r hr => ?_, rfl⟩
        · have d77 : dMod (.int (v / 7)) (.int (rs.length : Int)) = .ok (.int j) := by rw [hj]; exact dMod_pos hzI
          simp [rv, ra, x1, hv, hg, gt1, dLen, gl, fl, flatD, onInts, dMod, hz.1, hz.2, dEq, dep, noX, eqD, asB, d7, ixOwn, appM, hroom, seqM, ← hj, x2]
        · rcases List.mem_append.mp hr with hr | hr
          · exact hok r hr
          · have : r = rs[j.toNat] := by simpa using hr
            rw [this]; exact hok _ (List.getElem_mem hjn)
      · have hm1I : (0 : Int) < (m : Int) - 1 := by omega
        have hmp : (0 : Int) < (m : Int) := by omega
        have hmN : 0 < m := by omega
        obtain ⟨o, ho⟩ : ∃ o, o = v / 7 % (m : Int) := ⟨_, rfl⟩
        obtain ⟨o', ho'⟩ : ∃ o', o' = (o + 1 + v / 112 % ((m : Int) - 1)) % (m : Int) := ⟨_, rfl⟩
        have o0 : 0 ≤ o := by rw [ho]; exact Int.emod_nonneg _ (by omega)
        have o1 : o < m := by rw [ho]; exact Int.emod_lt_of_pos _ hmp
        have p0 : 0 ≤ o' := by rw [ho']; exact Int.emod_nonneg _ (by omega)
        have p1 : o' < m := by rw [ho']; exact Int.emod_lt_of_pos _ hmp
        have d112 : dFdiv (.int v) (.int 112) = .ok (.int (v / 112)) := dFdiv_lit (by unfold CDiv; omega)
        have d8064 : dFdiv (.int v) (.int 8064) = .ok (.int (v / 8064)) := dFdiv_lit (by unfold CDiv; omega)
        have d1008 : dFdiv (.int v) (.int 1008) = .ok (.int (v / 1008)) := dFdiv_lit (by unfold CDiv; omega)
        have q1 : dMod (.int (v / 7)) (.int (m : Int)) = .ok (.int o) := by rw [ho]; exact dMod_pos hmp
        have q2 : dMod (.int (v / 112)) (.int ((m : Int) - 1)) = .ok (.int (v / 112 % ((m : Int) - 1))) := dMod_pos hm1I
        have q3 : dMod (.int (o + 1 + v / 112 % ((m : Int) - 1))) (.int (m : Int)) = .ok (.int o') := by rw [ho']; exact dMod_pos hmp
        obtain ⟨l, hpl, l0⟩ := pick8 (a := v / 8064 % 3) (b := v / 8064 % 100) (g := g) (i := v / 1008 % 8) (by omega) (by omega) g0 (by omega) (by omega)
        obtain ⟨w, hpw⟩ := pick2 (v / 8064 % 5) g (i := v % 2) (by omega) (by omega)
        refine ⟨_, [some (.val (.lst (cells.map D.int))), some (.val (.int m)), some (.own ((rs ++ [Road.mk o o' l w]).map rdD)), some (.val (.int i)), some (.val (.int v)), some (.val (.int g)), some (.val (.int o)), some (.val (.int o')), some (.val (.int (v / 8064))), some (.val (lenD l))], rfl, ?_, rs ++ [Road.mk o o' l w], _, _, _, _, _, _, _, by simp; omega, fun r hr => ?_, rfl⟩
        · by_cases hz1 : 0 < rs.length
          · have hz2 : ¬ v % 7 = 3 := fun z => hz ⟨hz1, z⟩
            simp [rv, ra, x1, hv, hg, gt1, dLen, gl, fl, flatD, onInts, dMod, hz1, hz2, dEq, dep, noX, eqD, asB, d7, d112, d8064, d1008, dAdd, dSub, hmp, hm1I, hmN, hmI, hm, ← ho, ← ho', hpl, hpw, appM, hroom, seqM, rdD]
          · simp [rv, ra, x1, hv, hg, gt1, dLen, gl, fl, flatD, onInts, dMod, hz1, asB, d7, d112, d8064, d1008, dAdd, dSub, hmp, hm1I, hmN, hmI, hm, ← ho, ← ho', hpl, hpw, appM, hroom, seqM, rdD]
        · rcases List.mem_append.mp hr with hr | hr
          · exact hok r hr
          · have : r = Road.mk o o' l w := by simpa using hr
            rw [this]; exact ⟨o0, o1, p0, p1, l0⟩
    · have gt1 : dGt (.int (m : Int)) (.int 1) = .ok (.bl false) := by
        have : ¬ (1 : Int) < (m : Int) := by omega
        simp [dGt, onInts, this]
      refine ⟨_, [some (.val (.lst (cells.map D.int))), some (.val (.int m)), some (.own (rs.map rdD)), some (.val (.int i)), some (.val (.int v)), some (.val (.int g)), s6, s7, s8, s9], rfl, ?_, rs, _, _, _, _, _, _, _, by omega, hok, rfl⟩
      simp [rv, x1, hv, hg, gt1, asB, seqM]
  · rintro ρ ⟨rs, s3, s4, s5, s6, s7, s8, s9, hrs, hok, rfl⟩
    rw [rangeD_len] at hrs
    exact ⟨rs, hrs, hok, rfl⟩
noncomputable def law_roadsF : List D → M D := Classical.choose ex_law_roads
theorem law_roads_at {P : Program} {w : World} {K : PySem.W.Frag} {mg : Str → Option Value} {base : Heap} : Txt K mg → FnAt P w K mg base "_law_roads" 2 2 law_roadsF := (Classical.choose_spec ex_law_roads).1
theorem law_roads_eq : ∀ (cells : List Int) (m : Nat), 1 ≤ m → m ≤ 16 → cells.length ≤ 90 → (∀ c ∈ cells, Sm c) → ∃ rs : List Road, rs.length ≤ cells.length ∧ (∀ r ∈ rs, OkR m r) ∧ law_roadsF [.lst (cells.map D.int), .int m] = .ok (.lst (rs.map rdD)) := (Classical.choose_spec ex_law_roads).2
theorem ex_law_added : ∃ F : List D → M D, (∀ {P : Program} {w : World} {K : PySem.W.Frag} {mg : Str → Option Value} {base : Heap}, Txt K mg → FnAt P w K mg base "_law_added" 1 2 F) ∧ (∀ a b, F [cst a, cst b] = .ok (cst (addC a b))) := by
  refine ⟨_, fun T => fnAt_of (k := 0) T.f_law_added sc_law_added _ (fun f cdv A outer s H E hr => (dss_cons (ds_if (DW.dt (dw_or (dt_isN (c := true) (de_var 0 (pv 0))) (dw_or1 (dt_isN (c := true) (de_var 1 (pv 1)))))) (dss_one (ds_ret (de_any de_non))) dss_nil) (dss_one (ds_ret (de_any (de_tup (da_cons (de_add (de_item (de_var 0 (pv 0)) de_int) (de_item (de_var 1 (pv 1)) de_int)) (da_cons (de_add (de_item (de_var 0 (pv 0)) de_int) (de_item (de_var 1 (pv 1)) de_int)) da_nil)))))))), ?_⟩
  intro a b
  rcases a with _ | ⟨a1, a2⟩ <;> rcases b with _ | ⟨b1, b2⟩ <;> rfl
noncomputable def law_addedF : List D → M D := Classical.choose ex_law_added
theorem law_added_at {P : Program} {w : World} {K : PySem.W.Frag} {mg : Str → Option Value} {base : Heap} : Txt K mg → FnAt P w K mg base "_law_added" 1 2 law_addedF := (Classical.choose_spec ex_law_added).1
theorem law_added_eq : ∀ a b, law_addedF [cst a, cst b] = .ok (cst (addC a b)) := (Classical.choose_spec ex_law_added).2
theorem ex_law_least : ∃ F : List D → M D, (∀ {P : Program} {w : World} {K : PySem.W.Frag} {mg : Str → Option Value} {base : Heap}, Txt K mg → FnAt P w K mg base "_law_least" 1 1 F) ∧ (∀ cs : List (Option (Int × Int)), cs.length ≤ 1000 → F [.lst (cs.map cst)] = .ok (cst (minL cs))) := by
  refine ⟨_, fun T => fnAt_of (k := 0) T.f_law_least sc_law_least _ (fun f cdv A outer s H E hr => (dss_one (ds_ret (de_any (de_minD rfl (huR hr 1 (by decide)) rfl T.b_min (de_comp (NB := ["_law_cost"]) [none] rfl (di_list (de_var 0 (pv 0))) rfl rfl (dgb_name 0 (by decide) rfl rfl rfl) (fun _ _ _ _ => dts_one (dt_notN (c := true) (de_var 0 (pv 0)))) (fun _ _ _ _ => (de_var 0 (pv 0)))) de_non))))), ?_⟩
  intro cs hc
  show fin (((if (cs.map cst).length ≤ 1000 then compR (compM _ _ _ (cs.map cst) [none]) else .bad).bind fun x => (M.ok D.non).bind fun y => dMinD x y).bind fun d => .ok (.ret d)) = _
  rw [if_pos (by rw [List.length_map]; exact hc), comp_filter]
  simp only [compR, M.bind_ok]
  rw [dmin_eq]; rfl
noncomputable def law_leastF : List D → M D := Classical.choose ex_law_least
theorem law_least_at {P : Program} {w : World} {K : PySem.W.Frag} {mg : Str → Option Value} {base : Heap} : Txt K mg → FnAt P w K mg base "_law_least" 1 1 law_leastF := (Classical.choose_spec ex_law_least).1
theorem law_least_eq : ∀ cs : List (Option (Int × Int)), cs.length ≤ 1000 → law_leastF [.lst (cs.map cst)] = .ok (cst (minL cs)) := (Classical.choose_spec ex_law_least).2
theorem ex_law_open : ∃ F : List D → M D, (∀ {P : Program} {w : World} {K : PySem.W.Frag} {mg : Str → Option Value} {base : Heap}, Txt K mg → FnAt P w K mg base "_law_open" 1 1 F) ∧ (∀ r : Road, F [rdD r] = .ok (cst (rcC r))) := by
  refine ⟨_, fun T => fnAt_of (k := 0) T.f_law_open sc_law_open _ (fun f cdv A outer s H E hr => (dss_cons (ds_if (dt_isN (c := true) (de_item (de_var 0 (pv 0)) de_int)) (dss_one (ds_ret (de_any de_non))) dss_nil) (dss_one (ds_ret (de_any (de_tup (da_cons (de_item (de_var 0 (pv 0)) de_int) (da_cons de_int da_nil)))))))), ?_⟩
  intro r
  obtain ⟨a, b, l, w⟩ := r
  cases l <;> rfl
noncomputable def law_openF : List D → M D := Classical.choose ex_law_open
theorem law_open_at {P : Program} {w : World} {K : PySem.W.Frag} {mg : Str → Option Value} {base : Heap} : Txt K mg → FnAt P w K mg base "_law_open" 1 1 law_openF := (Classical.choose_spec ex_law_open).1
theorem law_open_eq : ∀ r : Road, law_openF [rdD r] = .ok (cst (rcC r)) := (Classical.choose_spec ex_law_open).2
theorem ex_law_costs : ∃ F : List D → M D, (∀ {P : Program} {w : World} {K : PySem.W.Frag} {mg : Str → Option Value} {base : Heap}, Txt K mg → FnAt P w K mg base "_law_costs" 2 2 F) ∧ (∀ (m : Nat) (rs : List Road), m ≤ 900 → rs.length ≤ 900 → (∀ r ∈ rs, OkR m r) → ∃ css : List (List Co), Mat m css ∧ (∀ x y : Int, 0 ≤ x → x < m → 0 ≤ y → y < m → IsMin rs x y (at2 css x y)) ∧ F [.lst (rs.map rdD), .int m] = .ok (.lst ((rowsD css).map D.lst))) := by
  refine ⟨_, fun T => fnAt_of (k := 1) T.f_law_costs sc_law_costs _ (fun f cdv A outer s H E hr => (dss_cons (ds_newR 2 sc_law_costs.nd rfl (Or.inl rfl)) (dss_cons (ds_for PassesOwn.never rfl (di_range1 (c := true) rfl T.b_range (de_var 1 (pv 1))) (dg_name 3 sc_law_costs.nd rfl (Or.inl rfl)) (dss_cons (ds_rep 5 sc_law_costs.nd rfl (Or.inl rfl) de_non (de_var 1 (pv 1))) (dss_cons (ds_put 5 (pv 5) (de_tup (da_cons de_int (da_cons de_int da_nil))) (de_var 3 (pv 3))) (dss_cons (ds_for PassesOwn.never rfl (di_list (de_var 0 (pv 0))) (dg_name 6 sc_law_costs.nd rfl (Or.inl rfl)) (dss_one (ds_if (dt_eq (c := true) (huR hr 16 (by decide)) (de_item (de_var 6 (pv 6)) de_int) (de_var 3 (pv 3))) (dss_one (ds_put 5 (pv 5) (de_callA (law_least_at T) (hr.mono (by decide)) rfl (da_cons (de_lst (da_cons (de_ixO 5 (pv 5) (de_item (de_var 6 (pv 6)) de_int)) (da_cons (de_callA (law_open_at T) (hr.mono (by decide)) rfl (da_cons (de_var 6 (pv 6)) da_nil) rfl) da_nil))) da_nil) rfl) (de_item (de_var 6 (pv 6)) de_int))) dss_nil))) (dss_one (ds_push 2 5 (pv 2) (pv 5))))))) (dss_cons (ds_for PassesOwn.never rfl (di_range1 (c := true) rfl T.b_range (de_var 1 (pv 1))) (dg_name 4 sc_law_costs.nd rfl (Or.inl rfl)) (dss_one (ds_for PassesOwn.never rfl (di_range1 (c := true) rfl T.b_range (de_var 1 (pv 1))) (dg_name 3 sc_law_costs.nd rfl (Or.inl rfl)) (dss_one (ds_for PassesOwn.never rfl (di_range1 (c := true) rfl T.b_range (de_var 1 (pv 1))) (dg_name 7 sc_law_costs.nd rfl (Or.inl rfl)) (dss_one (ds_put2 2 (pv 2) (de_callA (law_least_at T) (hr.mono (by decide)) rfl (da_cons (de_lst (da_cons (de_ix2 2 (pv 2) (de_var 3 (pv 3)) (de_var 7 (pv 7))) (da_cons (de_callA (law_added_at T) (hr.mono (by decide)) rfl (da_cons (de_ix2 2 (pv 2) (de_var 3 (pv 3)) (de_var 4 (pv 4))) (da_cons (de_ix2 2 (pv 2) (de_var 4 (pv 4)) (de_var 7 (pv 7))) da_nil)) rfl) da_nil))) da_nil) rfl) (de_var 3 (pv 3)) (de_var 7 (pv 7))))))))) (dss_one (ds_ret (de_name 2 (pv 2)))))))), ?_⟩
  intro m rs hm hrl hok
  have e0 : stRho ["_law_roads_here", "_law_many", "_law_costs_here", "_law_u", "_law_v", "_law_row", "_law_road", "_law_w"] [.lst (rs.map rdD), .int m] = [some (.val (.lst (rs.map rdD))), some (.val (.int m)), none, none, none, none, none, none] := rfl
  rw [e0]
  have hrng := rngM_nat (n := m) (by omega)
  refine fin_seqE (fun y => ∃ css : List (List Co), Mat m css ∧ (∀ x y : Int, 0 ≤ x → x < m → 0 ≤ y → y < m → IsMin rs x y (at2 css x y)) ∧ y = .ok (.lst ((rowsD css).map D.lst))) (ρ := [some (.val (.lst (rs.map rdD))), some (.val (.int m)), some (.ow (.rows [])), none, none, none, none, none]) rfl ?_
  simp only [rv, List.getElem?_cons_zero, List.getElem?_cons_succ, M.bind_ok, hrng]
  refine fin_forE (fun y => ∃ css : List (List Co), Mat m css ∧ (∀ x y : Int, 0 ≤ x → x < m → 0 ≤ y → y < m → IsMin rs x y (at2 css x y)) ∧ y = .ok (.lst ((rowsD css).map D.lst)))
    (fun i ρ => ∃ css s3 s6, ρ = [some (.val (.lst (rs.map rdD))), some (.val (.int m)), some (.ow (.rows (rowsD css))), s3, none, none, s6, none] ∧ css.length = i ∧ ∀ u : Nat, u < i → RowU m rs u rs.length (css.getD u [])) ⟨[], none, none, rfl, rfl, fun u h => by omega⟩ ?_ ?_
  · rintro i d ρ hd ⟨css, s3, s6, rfl, hcl, hrow⟩
    obtain ⟨hd1, hi⟩ := rangeD_get hd
    rw [Int.zero_add] at hd1
    subst hd1
    suffices h : ∃ ρ2, _ = M.ok (Out.next ρ2) ∧ ∃ css s3 s6, ρ2 = [some (.val (.lst (rs.map rdD))), some (.val (.int m)), some (.ow (.rows (rowsD css))), s3, none, none, s6, none] ∧ css.length = i + 1 ∧ ∀ u : Nat, u < i + 1 → RowU m rs u rs.length (css.getD u []) from let ⟨ρ2, h1, h2⟩ := h; ⟨_, ρ2, rfl, h1, h2⟩
    refine ex_seq (ρ1 := [some (.val (.lst (rs.map rdD))), some (.val (.int m)), some (.ow (.rows (rowsD css))), some (.val (.int i)), none, some (.own ((List.replicate m none).map cst)), s6, none]) ?_ ?_
    · have hz : (0 : Int) ≤ (m : Int) ∧ (m : Int).toNat ≤ 1000 := ⟨by omega, by omega⟩
      simp only [rv, List.set_cons_zero, List.set_cons_succ, List.getElem?_cons_zero, List.getElem?_cons_succ, M.bind_ok, repM, if_pos hz]
      rw [Int.toNat_natCast, List.map_replicate]
      rfl
    refine ex_seq (ρ1 := [some (.val (.lst (rs.map rdD))), some (.val (.int m)), some (.ow (.rows (rowsD css))), some (.val (.int i)), none, some (.own (((List.replicate m none).set i (some (0, 0))).map cst)), s6, none]) ?_ ?_
    · have hx : ixN (List.map cst (List.replicate m none)).length (i : Int) = some i := by
        rw [ixN_nat (by rw [List.length_map, List.length_replicate]; omega), Int.toNat_natCast]
      have hz2 : [D.int 0, D.int 0].length ≤ 1000 := by decide
      simp only [rv, List.getElem?_cons_zero, List.getElem?_cons_succ, M.bind_ok, if_pos hz2, putM, putI, hx, List.set_cons_zero, List.set_cons_succ, List.map_set]
      rfl
    simp only [rv, List.getElem?_cons_zero, List.getElem?_cons_succ, M.bind_ok]
    refine ex_seq_for (fun j ρ => ∃ R s6, ρ = [some (.val (.lst (rs.map rdD))), some (.val (.int m)), some (.ow (.rows (rowsD css))), some (.val (.int i)), none, some (.own (R.map cst)), s6, none] ∧ RowU m rs i j R) ⟨_, s6, rfl, row_start rs hi⟩ ?_ ?_
    · rintro j d ρ hd ⟨R, s6, rfl, g⟩
      rw [List.getElem?_map] at hd
      cases hq : rs[j]? with
      | none => rw [hq] at hd; cases hd
      | some r =>
        rw [hq] at hd
        cases hd
        have hr := List.mem_of_getElem? hq
        have ok := hok r hr
        have r0 : dIx (rdD r) (.int 0) = .ok (.int r.a) := rfl
        have r1 : dIx (rdD r) (.int 1) = .ok (.int r.b) := rfl
        have hb1 : r.b < R.length := by rw [g.len]; exact ok.b1
        have x1 := dIx_cost ok.b0 hb1
        have hop := law_open_eq r
        have hle : law_leastF [.lst [cst (atC R r.b), cst (rcC r)]] = .ok (cst (lsC (atC R r.b) (rcC r))) := law_least_eq [atC R r.b, rcC r] (by simp)
        have hx2 : ixN R.length r.b = some r.b.toNat := ixN_nat ⟨ok.b0, hb1⟩
        by_cases hu : r.a = (i : Int)
        · refine ⟨_, [some (.val (.lst (rs.map rdD))), some (.val (.int m)), some (.ow (.rows (rowsD css))), some (.val (.int i)), none, some (.own ((R.set r.b.toNat (lsC (atC R r.b) (rcC r))).map cst)), some (.val (rdD r)), none], rfl, ?_, _, _, rfl, row_step g hq hu hok⟩
          simp [rv, r0, r1, dEq, dep, noX, eqD, hu, asB, ixOwn, x1, hop, hle, putM, putI, hx2, List.map_set]
        · refine ⟨_, [some (.val (.lst (rs.map rdD))), some (.val (.int m)), some (.ow (.rows (rowsD css))), some (.val (.int i)), none, some (.own (R.map cst)), some (.val (rdD r)), none], rfl, ?_, _, _, rfl, row_skip g hq hu⟩
          simp [rv, r0, dEq, dep, noX, eqD, hu, asB]
    · rintro ρ' ⟨R, s6, rfl, g⟩
      rw [List.length_map] at g
      refine ex_one (ρ1 := [some (.val (.lst (rs.map rdD))), some (.val (.int m)), some (.ow (.rows (rowsD (css ++ [R])))), some (.val (.int i)), none, none, s6, none]) ?_ ⟨_, _, _, rfl, by simp [hcl], fun u hu => ?_⟩
      · have hl : (rowsD css).length < 1000 ∧ 2 ≠ 5 := ⟨by unfold rowsD; rw [List.length_map]; omega, by decide⟩
        simp only [pushM, List.getElem?_cons_zero, List.getElem?_cons_succ, if_pos hl, List.set_cons_zero, List.set_cons_succ]
        unfold rowsD
        rw [List.map_append]
        rfl
      · by_cases h : u = i
        · subst h
          have e : (css ++ [R]).getD u [] = R := by rw [List.getD_eq_getElem?_getD, List.getElem?_append_right (by omega)]; simp [hcl]
          rw [e]; exact g
        · have e : (css ++ [R]).getD u [] = css.getD u [] := by rw [List.getD_eq_getElem?_getD, List.getElem?_append_left (by omega), List.getD_eq_getElem?_getD]
          rw [e]; exact hrow u (by omega)
  · rintro ρ' ⟨css, s3, s6, rfl, hcl, hrow⟩
    rw [rangeD_len] at hcl hrow
    have hM : Mat m css := ⟨hcl, fun R hR => by
      obtain ⟨u, hu, e⟩ := List.getElem_of_mem hR
      have := (hrow u (by omega)).len
      rw [List.getD_eq_getElem?_getD, List.getElem?_eq_getElem hu] at this
      rw [← e]; exact this⟩
    have hF := fw_start hM hok hrow
    simp only [rv, List.getElem?_cons_zero, List.getElem?_cons_succ, M.bind_ok, hrng]
    refine fin_forE (fun y => ∃ css : List (List Co), Mat m css ∧ (∀ x y : Int, 0 ≤ x → x < m → 0 ≤ y → y < m → IsMin rs x y (at2 css x y)) ∧ y = .ok (.lst ((rowsD css).map D.lst)))
      (fun k ρ => ∃ css s3 s4 s6 s7, ρ = [some (.val (.lst (rs.map rdD))), some (.val (.int m)), some (.ow (.rows (rowsD css))), s3, s4, none, s6, s7] ∧ Mat m css ∧ FW m k rs (at2 css)) ⟨css, s3, none, s6, none, rfl, hM, hF⟩ ?_ ?_
    · rintro k d ρ hd ⟨css0, s3, s4, s6, s7, rfl, hM0, hF0⟩
      obtain ⟨hd1, hk⟩ := rangeD_get hd
      rw [Int.zero_add] at hd1
      subst hd1
      suffices h : ∃ ρ2, _ = M.ok (Out.next ρ2) ∧ ∃ css s3 s4 s6 s7, ρ2 = [some (.val (.lst (rs.map rdD))), some (.val (.int m)), some (.ow (.rows (rowsD css))), s3, s4, none, s6, s7] ∧ Mat m css ∧ FW m (k + 1) rs (at2 css) from let ⟨ρ2, h1, h2⟩ := h; ⟨_, ρ2, rfl, h1, h2⟩
      simp only [List.set_cons_zero, List.set_cons_succ, List.getElem?_cons_zero, List.getElem?_cons_succ, M.bind_ok, hrng]
      have k0 : (0 : Int) ≤ k := by omega
      have k1 : (k : Int) < m := by omega
      have oc := over_col hF0 hk
      have orr := over_row hF0 hk
      refine forM_ex (fun u ρ => ∃ css s3 s6 s7, ρ = [some (.val (.lst (rs.map rdD))), some (.val (.int m)), some (.ow (.rows (rowsD css))), s3, some (.val (.int k)), none, s6, s7] ∧ Mat m css ∧ ∀ x y : Int, 0 ≤ x → x < m → 0 ≤ y → y < m → at2 css x y = if x < u then over k (at2 css0) x y else at2 css0 x y) ⟨css0, s3, s6, s7, rfl, hM0, fun x y h0 h1 h2 h3 => by rw [if_neg (by omega)]⟩ ?_ ?_
      · rintro u d ρ hd ⟨css1, s3, s6, s7, rfl, hM1, hA1⟩
        obtain ⟨hd1, hu⟩ := rangeD_get hd
        rw [Int.zero_add] at hd1
        subst hd1
        have u0 : (0 : Int) ≤ u := by omega
        have u1 : (u : Int) < m := by omega
        suffices h : ∃ ρ2, _ = M.ok (Out.next ρ2) ∧ ∃ css s3 s6 s7, ρ2 = [some (.val (.lst (rs.map rdD))), some (.val (.int m)), some (.ow (.rows (rowsD css))), s3, some (.val (.int k)), none, s6, s7] ∧ Mat m css ∧ ∀ x y : Int, 0 ≤ x → x < m → 0 ≤ y → y < m → at2 css x y = if x < ((u + 1 : Nat) : Int) then over k (at2 css0) x y else at2 css0 x y from let ⟨ρ2, h1, h2⟩ := h; ⟨_, ρ2, rfl, h1, h2⟩
        simp only [List.set_cons_zero, List.set_cons_succ, List.getElem?_cons_zero, List.getElem?_cons_succ, M.bind_ok, hrng]
        refine forM_ex (fun w ρ => ∃ css s6 s7, ρ = [some (.val (.lst (rs.map rdD))), some (.val (.int m)), some (.ow (.rows (rowsD css))), some (.val (.int u)), some (.val (.int k)), none, s6, s7] ∧ Mat m css ∧ ∀ x y : Int, 0 ≤ x → x < m → 0 ≤ y → y < m → at2 css x y = if x < u ∨ (x = u ∧ y < w) then over k (at2 css0) x y else at2 css0 x y) ⟨css1, s6, s7, rfl, hM1, fun x y h0 h1 h2 h3 => ?_⟩ ?_ ?_
        · rw [hA1 x y h0 h1 h2 h3]
          by_cases h : x < u
          · rw [if_pos h, if_pos (.inl h)]
          · rw [if_neg h, if_neg (by omega)]
        · rintro w d ρ hd ⟨css2, s6, s7, rfl, hM2, hA2⟩
          obtain ⟨hd1, hw⟩ := rangeD_get hd
          rw [Int.zero_add] at hd1
          subst hd1
          have w0 : (0 : Int) ≤ w := by omega
          have w1 : (w : Int) < m := by omega
          have a1 : at2 css2 u w = at2 css0 u w := by rw [hA2 u w u0 u1 w0 w1, if_neg (by omega)]
          have a2 : at2 css2 u k = at2 css0 u k := by
            rw [hA2 u k u0 u1 k0 k1]
            split
            · exact oc u
            · rfl
          have a3 : at2 css2 k w = at2 css0 k w := by
            rw [hA2 k w k0 k1 w0 w1]
            split
            · exact orr w
            · rfl
          obtain ⟨hM3, hP⟩ := hM2.put u0 u1 w0 w1 (over k (at2 css0) u w)
          have b1 := rowsD_at hM2 u0 u1
          have b2 := rowsD_at hM2 k0 k1
          have c1 := dIx_row hM2 u0 u1 w0 w1
          have c2 := dIx_row hM2 u0 u1 k0 k1
          have c3 := dIx_row hM2 k0 k1 w0 w1
          rw [a1] at c1
          rw [a2] at c2
          rw [a3] at c3
          have had := law_added_eq (at2 css0 u k) (at2 css0 k w)
          have hle : law_leastF [.lst [cst (at2 css0 u w), cst (addC (at2 css0 u k) (at2 css0 k w))]] = .ok (cst (over k (at2 css0) u w)) := law_least_eq [at2 css0 u w, addC (at2 css0 u k) (at2 css0 k w)] (by simp)
          have hz : [cst (at2 css0 u w), cst (addC (at2 css0 u k) (at2 css0 k w))].length ≤ 1000 := by simp
          have pj := putJ_at hM2 u0 u1 w0 w1 2 [some (.val (.lst (rs.map rdD))), some (.val (.int m)), some (.ow (.rows (rowsD css2))), some (.val (.int u)), some (.val (.int k)), none, s6, some (.val (.int w))] (over k (at2 css0) u w)
          refine ⟨_, [some (.val (.lst (rs.map rdD))), some (.val (.int m)), some (.ow (.rows (rowsD (put2 css2 u w (over k (at2 css0) u w))))), some (.val (.int u)), some (.val (.int k)), none, s6, some (.val (.int w))], rfl, ?_, _, _, _, rfl, hM3, fun x y h0 h1 h2 h3 => ?_⟩
          · simp only [ix2M, rv, List.set_cons_zero, List.set_cons_succ, List.getElem?_cons_zero, List.getElem?_cons_succ, M.bind_ok, b1, b2, c1, c2, c3, had, if_pos hz, hle, put2M]
            rw [pj]
            rfl
          · rw [hP x y h0 h2]
            by_cases h : x = u ∧ y = w
            · rw [if_pos h, if_pos (by omega), h.1, h.2]
            · rw [if_neg h, hA2 x y h0 h1 h2 h3]
              by_cases h' : x < u ∨ (x = u ∧ y < w)
              · rw [if_pos h', if_pos (by omega)]
              · rw [if_neg h', if_neg (by omega)]
        · rintro ρ' ⟨css2, s6, s7, rfl, hM2, hA2⟩
          rw [rangeD_len] at hA2
          refine ⟨css2, _, _, _, rfl, hM2, fun x y h0 h1 h2 h3 => ?_⟩
          rw [hA2 x y h0 h1 h2 h3]
          by_cases h : x < u ∨ (x = u ∧ y < m)
          · rw [if_pos h, if_pos (by omega)]
          · rw [if_neg h, if_neg (by omega)]
      · rintro ρ' ⟨css1, s3, s6, s7, rfl, hM1, hA1⟩
        rw [rangeD_len] at hA1
        refine ⟨css1, _, _, _, _, rfl, hM1, (fw_phase hF0 hk).congr (by omega) hok fun x y h0 h1 h2 h3 => ?_⟩
        rw [hA1 x y h0 h1 h2 h3, if_pos h1]
    · rintro ρ' ⟨css1, s3, s4, s6, s7, rfl, hM1, hF1⟩
      rw [rangeD_len] at hF1
      exact ⟨css1, hM1, fun x y h0 h1 h2 h3 => fw_end hF1 hok h0 h1 h2 h3, rfl⟩
noncomputable def law_costsF : List D → M D := Classical.choose ex_law_costs
theorem law_costs_at {P : Program} {w : World} {K : PySem.W.Frag} {mg : Str → Option Value} {base : Heap} : Txt K mg → FnAt P w K mg base "_law_costs" 2 2 law_costsF := (Classical.choose_spec ex_law_costs).1
theorem law_costs_eq : ∀ (m : Nat) (rs : List Road), m ≤ 900 → rs.length ≤ 900 → (∀ r ∈ rs, OkR m r) → ∃ css : List (List Co), Mat m css ∧ (∀ x y : Int, 0 ≤ x → x < m → 0 ≤ y → y < m → IsMin rs x y (at2 css x y)) ∧ law_costsF [.lst (rs.map rdD), .int m] = .ok (.lst ((rowsD css).map D.lst)) := (Classical.choose_spec ex_law_costs).2
theorem ex_law_back : ∃ F : List D → M D, (∀ {P : Program} {w : World} {K : PySem.W.Frag} {mg : Str → Option Value} {base : Heap}, Txt K mg → FnAt P w K mg base "_law_back" 2 5 F) ∧ (∀ (m s : Nat) (rs : List Road) (cs : List Co) (p : Nat) (tg : Int × Int), m ≤ 900 → (∀ r ∈ rs, OkR m r) → Right m s rs cs → p < m → atC cs (p : Int) = some tg → F [.lst (rs.map rdD), .int p, .int s, .lst ((lastL m rs cs rs.length).map optN), cst (some tg)] = .ok (.bl true)) := by
  refine ⟨_, fun T => fnAt_of (k := 1) T.f_law_back sc_law_back _ (fun f cdv A outer s H E hr => (dss_cons (ds_set 5 sc_law_back.nd rfl (Or.inl rfl) (de_tup (da_cons de_int (da_cons de_int da_nil)))) (dss_cons (ds_for PassesOwn.never rfl (di_range1 (c := true) rfl T.b_range (de_len rfl T.b_len (de_var 3 (pv 3)))) (dg_name 6 sc_law_back.nd rfl (Or.inl rfl)) (dss_cons (ds_if (dt_eq (c := true) (huR hr 16 (by decide)) (de_var 1 (pv 1)) (de_var 2 (pv 2))) (dss_one (ds_ret (de_any (de_eq (huR hr 16 (by decide)) (de_var 5 (pv 5)) (de_var 4 (pv 4)))))) dss_nil) (dss_cons (ds_set 7 sc_law_back.nd rfl (Or.inl rfl) (de_item (de_var 0 (pv 0)) (de_item (de_var 3 (pv 3)) (de_var 1 (pv 1))))) (dss_cons (ds_set 5 sc_law_back.nd rfl (Or.inl rfl) (de_callA (law_added_at T) (hr.mono (by decide)) rfl (da_cons (de_var 5 (pv 5)) (da_cons (de_callA (law_open_at T) (hr.mono (by decide)) rfl (da_cons (de_var 7 (pv 7)) da_nil) rfl) da_nil)) rfl)) (dss_one (ds_set 1 sc_law_back.nd rfl (Or.inl rfl) (de_item (de_var 7 (pv 7)) de_int))))))) (dss_one (ds_ret (de_any (de_and (de_eq (huR hr 16 (by decide)) (de_var 1 (pv 1)) (de_var 2 (pv 2))) (de_one (de_eq (huR hr 16 (by decide)) (de_var 5 (pv 5)) (de_var 4 (pv 4))))))))))), ?_⟩
  intro m s rs cs p tg hm hok hR hp hd0
  have e0 : stRho ["_law_roads_here", "_law_place", "_law_start", "_law_found", "_law_costs_here", "_law_cost", "_law_turn", "_law_road"] [.lst (rs.map rdD), .int p, .int s, .lst ((lastL m rs cs rs.length).map optN), cst (some tg)] = [some (.val (.lst (rs.map rdD))), some (.val (.int p)), some (.val (.int s)), some (.val (.lst ((lastL m rs cs rs.length).map optN))), some (.val (cst (some tg))), none, none, none] := rfl
  rw [e0]
  have hlen : dLen [.lst ((lastL m rs cs rs.length).map optN)] = .ok (.int m) := by simp [dLen, lastL_len]
  have hrng := rngM_nat (n := m) (by omega)
  refine fin_seq (ρ := [some (.val (.lst (rs.map rdD))), some (.val (.int p)), some (.val (.int s)), some (.val (.lst ((lastL m rs cs rs.length).map optN))), some (.val (cst (some tg))), some (.val (cst (some (0, 0)))), none, none]) rfl ?_
  simp only [rv, List.getElem?_cons_zero, List.getElem?_cons_succ, M.bind_ok, hlen, hrng]
  have ht := count_lt hR hok hp hd0
  refine fin_for_ret (fun t ρ => ∃ (q : Nat) (c d : Int × Int) (s6 s7 : Option Cl), ρ = [some (.val (.lst (rs.map rdD))), some (.val (.int q)), some (.val (.int s)), some (.val (.lst ((lastL m rs cs rs.length).map optN))), some (.val (cst (some tg))), some (.val (cst (some c))), s6, s7] ∧ q < m ∧ atC cs (q : Int) = some d ∧ (c.1 + d.1, c.2 + d.2) = tg ∧ c.2 = (t : Int)) ⟨p, (0, 0), tg, none, none, rfl, hp, hd0, by simp, rfl⟩ ?_ ?_
  · rintro t d ρ hd ⟨q, c, d', s6, s7, rfl, hq, hqd, hsum, hct⟩
    obtain ⟨hd1, hti⟩ := rangeD_get hd
    rw [Int.zero_add] at hd1
    subst hd1
    have heqS : dEq 16 (.int (q : Int)) (.int (s : Int)) = .ok (.bl (decide (q = s))) := by
      rw [dEq_pl (pl_int _) (pl_int _)]
      congr 2
      rw [Bool.eq_iff_iff]
      simp [eqD]
      omega
    by_cases hs : q = s
    · rw [decide_eq_true hs] at heqS
      have hz : d' = (0, 0) := by
        rw [hs, hR.2.1] at hqd
        injection hqd with e
        exact e.symm
      subst hz
      have hc : c = tg := by rw [← hsum]; simp
      have heqC := dEq_cst (some c) (some tg)
      rw [decide_eq_true (by rw [hc])] at heqC
      refine .inr ⟨_, rfl, ?_⟩
      simp only [rv, List.set_cons_zero, List.set_cons_succ, List.getElem?_cons_zero, List.getElem?_cons_succ, M.bind_ok, heqS, asB, if_true, heqC]
      rfl
    · rw [decide_eq_false hs] at heqS
      obtain ⟨k, hk⟩ := right_step hR hq hs (by rw [hqd]; intro z; cases z)
      obtain ⟨r, hr, hb, hne, heq⟩ := hit_spec (List.find?_some hk)
      have hrm := List.mem_of_getElem? hr
      have ok := hok r hrm
      rw [hqd] at heq
      obtain ⟨p1, p2, e1, e2, e3⟩ := addC_some heq
      obtain ⟨l, hl, rfl⟩ := rcC_some e2
      subst e3
      have ha : ((r.a.toNat : Nat) : Int) = r.a := Int.toNat_of_nonneg ok.a0
      have x1 : dIx (.lst ((lastL m rs cs rs.length).map optN)) (.int (q : Int)) = .ok (.int (k : Int)) := by
        have := dIx_map (f := optN) (n := (q : Int)) (by omega) (by rw [Int.toNat_natCast]; exact lastL_get rs cs rs.length hq)
        rw [hk] at this
        exact this
      have x2 : dIx (.lst (rs.map rdD)) (.int (k : Int)) = .ok (rdD r) := dIx_map (by omega) (by rw [Int.toNat_natCast]; exact hr)
      have r0 : dIx (rdD r) (.int 0) = .ok (.int (r.a.toNat : Int)) := by rw [ha]; rfl
      have hop := law_open_eq r
      rw [e2] at hop
      have had := law_added_eq (some c) (some (l, 1))
      refine .inl ⟨_, [some (.val (.lst (rs.map rdD))), some (.val (.int (r.a.toNat : Int))), some (.val (.int s)), some (.val (.lst ((lastL m rs cs rs.length).map optN))), some (.val (cst (some tg))), some (.val (cst (some (c.1 + l, c.2 + 1)))), some (.val (.int t)), some (.val (rdD r))], rfl, ?_, r.a.toNat, (c.1 + l, c.2 + 1), p1, _, _, rfl, by have := ok.a1; omega, by rw [ha]; exact e1, ?_, by simp only; omega⟩
      · simp only [rv, List.set_cons_zero, List.set_cons_succ, List.getElem?_cons_zero, List.getElem?_cons_succ, M.bind_ok, heqS, asB, Bool.false_eq_true, if_false, seqM_next, x1, x2, hop, had, r0]
        rfl
      · rw [← hsum]
        simp only [Prod.mk.injEq]
        omega
  · rintro ρ ⟨q, c, d', s6, s7, rfl, hq, hqd, hsum, hct⟩
    rw [rangeD_len] at hct
    have hcq := count_lt hR hok hq hqd
    have e : c.2 + d'.2 = tg.2 := by rw [← hsum]
    omega
noncomputable def law_backF : List D → M D := Classical.choose ex_law_back
theorem law_back_at {P : Program} {w : World} {K : PySem.W.Frag} {mg : Str → Option Value} {base : Heap} : Txt K mg → FnAt P w K mg base "_law_back" 2 5 law_backF := (Classical.choose_spec ex_law_back).1
theorem law_back_eq : ∀ (m s : Nat) (rs : List Road) (cs : List Co) (p : Nat) (tg : Int × Int), m ≤ 900 → (∀ r ∈ rs, OkR m r) → Right m s rs cs → p < m → atC cs (p : Int) = some tg → law_backF [.lst (rs.map rdD), .int p, .int s, .lst ((lastL m rs cs rs.length).map optN), cst (some tg)] = .ok (.bl true) := (Classical.choose_spec ex_law_back).2
theorem ex_law : ∃ F : List D → M D, (∀ {P : Program} {w : World} {K : PySem.W.Frag} {mg : Str → Option Value} {base : Heap} {f : Addr} {fd : FuncData}, Txt K mg → Fun K "law" "law" s_law f fd → FnOk P w K mg base CX0 4 f fd ["_law_script"] (spM0 K 1 F)) ∧ (∀ ns : List Int, ns.length ≤ 63 → (∀ n ∈ ns, Sm n) → F [.lst (ns.map D.int)] = .ok (.bl true)) := by
  refine ⟨_, fun {P w K mg base f fd} T F => fn_D0 (k := 3) F sc_law _ (fun cdv A outer s H E hr => (dss_cons (ds_set 1 sc_law.nd rfl (Or.inl rfl) (de_callA (law_mix_at T) (hr.mono (by decide)) rfl (da_cons (de_callA (law_cell_at_at T) (hr.mono (by decide)) rfl (da_cons (de_var 0 (pv 0)) (da_cons de_int da_nil)) rfl) (da_cons de_int da_nil)) rfl)) (dss_cons (ds_set 2 sc_law.nd rfl (Or.inl rfl) (de_add de_int (de_mod (de_var 1 (pv 1)) de_int))) (dss_cons (ds_set 3 sc_law.nd rfl (Or.inl rfl) (de_mod (de_fdiv (de_var 1 (pv 1)) de_int) (de_var 2 (pv 2)))) (dss_cons (ds_set 4 sc_law.nd rfl (Or.inr rfl) (de_callA (law_roads_at T) (hr.mono (by decide)) rfl (da_cons (de_slice (de_var 0 (pv 0)) (do_some de_int) (do_some de_int)) (da_cons (de_var 2 (pv 2)) da_nil)) rfl)) (dss_cons (ds_set 5 sc_law.nd rfl (Or.inl rfl) (de_tup (da_cons (de_var 2 (pv 2)) (da_cons (de_list rfl T.b_list (de_var 4 (pv 4))) da_nil)))) (dss_cons (ds_set 6 sc_law.nd rfl (Or.inr rfl) (de_item (de_callA (law_costs_at T) (hr.mono (by decide)) rfl (da_cons (de_var 4 (pv 4)) (da_cons (de_var 2 (pv 2)) da_nil)) rfl) (de_var 3 (pv 3)))) (dss_cons (ds_set 7 sc_law.nd rfl (Or.inl rfl) (de_callA (last_roads_at T) (hr.mono (by decide)) rfl (da_cons (de_var 5 (pv 5)) (da_cons (de_var 3 (pv 3)) da_nil)) rfl)) (dss_cons (ds_if (DW.dt (dw_or (dt_not (dt_val (c := true) (de_isT (kit_list' _) rfl T.b_isinstance rfl T.b_list (by decide +kernel) (de_var 7 (pv 7))))) (dw_or (dt_ne (c := true) (huR hr 16 (by decide)) (de_len rfl T.b_len (de_var 7 (pv 7))) (de_var 2 (pv 2))) (dw_or1 (dt_ne (c := true) (huR hr 16 (by decide)) (de_var 5 (pv 5)) (de_tup (da_cons (de_var 2 (pv 2)) (da_cons (de_var 4 (pv 4)) da_nil)))))))) (dss_one (ds_ret (de_any de_bl))) dss_nil) (dss_cons (ds_for PassesOwn.never rfl (di_range1 (c := true) rfl T.b_range (de_var 2 (pv 2))) (dg_name 8 sc_law.nd rfl (Or.inr rfl)) (dss_cons (ds_setC (NB := ["_law_k", "_law_place", "_law_roads_here"]) 9 [none, some 8, some 4] sc_law.nd rfl (Or.inl rfl) rfl (di_range1 (c := true) rfl T.b_range (de_len rfl T.b_len (de_var 4 (pv 4)))) rfl rfl (dgb_name 0 (by decide) rfl rfl rfl) (fun _ _ _ _ => dts_one (DW.dt (dw_and (dt_eq (c := true) (huR hr 16 (by decide)) (de_item (de_item (de_var 2 (pv 2)) (de_var 0 (pv 0))) de_int) (de_var 1 (pv 1))) (dw_and1 (dt_notN (c := true) (de_item (de_item (de_var 2 (pv 2)) (de_var 0 (pv 0))) de_int)))))) (fun _ _ _ _ => (de_var 0 (pv 0)))) (dss_cons (ds_setC (NB := ["_law_k", "_law_costs_here", "_law_place", "_law_roads_here"]) 9 [none, some 6, some 8, some 4] sc_law.nd rfl (Or.inl rfl) rfl (di_list (de_var 9 (pv 9))) rfl rfl (dgb_name 0 (by decide) rfl rfl rfl) (fun _ _ _ _ => dts_one (dt_eq (c := true) (huR hr 16 (by decide)) (de_callA (law_added_at T) (hr.mono (by decide)) rfl (da_cons (de_item (de_var 1 (pv 1)) (de_item (de_item (de_var 3 (pv 3)) (de_var 0 (pv 0))) de_int)) (da_cons (de_callA (law_open_at T) (hr.mono (by decide)) rfl (da_cons (de_item (de_var 3 (pv 3)) (de_var 0 (pv 0))) da_nil) rfl) da_nil)) rfl) (de_item (de_var 1 (pv 1)) (de_var 2 (pv 2))))) (fun _ _ _ _ => (de_var 0 (pv 0)))) (dss_one (ds_if (DW.dt (dw_or (dt_eq (c := true) (huR hr 16 (by decide)) (de_var 8 (pv 8)) (de_var 3 (pv 3))) (dw_or1 (dt_isN (c := true) (de_item (de_var 6 (pv 6)) (de_var 8 (pv 8))))))) (dss_one (ds_if (dt_notN (c := true) (de_item (de_var 7 (pv 7)) (de_var 8 (pv 8)))) (dss_one (ds_ret (de_any de_bl))) dss_nil)) (dss_one (ds_if (DW.dt (dw_or (dt_not (dt_val (c := true) (de_callA (law_whole_at T) (hr.mono (by decide)) rfl (da_cons (de_item (de_var 7 (pv 7)) (de_var 8 (pv 8))) da_nil) rfl))) (dw_or1 (dt_ne (c := true) (huR hr 16 (by decide)) (de_item (de_var 7 (pv 7)) (de_var 8 (pv 8))) (de_minI rfl rfl T.b_min (de_var 9 (pv 9))))))) (dss_one (ds_ret (de_any de_bl))) (dss_one (ds_if (dt_not (dt_val (c := true) (de_callA (law_back_at T) (hr.mono (by decide)) rfl (da_cons (de_var 4 (pv 4)) (da_cons (de_var 8 (pv 8)) (da_cons (de_var 3 (pv 3)) (da_cons (de_var 7 (pv 7)) (da_cons (de_item (de_var 6 (pv 6)) (de_var 8 (pv 8))) da_nil))))) rfl))) (dss_one (ds_ret (de_any de_bl))) dss_nil))))))))) (dss_one (ds_ret (de_any de_bl))))))))))))), ?_⟩
  intro ns hns hsm
  have e0 : stRho ["_law_script", "_law_first", "_law_many", "_law_start", "_law_roads_here", "_law_land", "_law_costs_here", "_law_found", "_law_place", "_law_due"] [.lst (ns.map D.int)] = [some (.val (.lst (ns.map D.int))), none, none, none, none, none, none, none, none, none] := rfl
  rw [e0]
  obtain ⟨v, _, hv⟩ := law_cell_at_eq ns 0 (by omega) hsm
  obtain ⟨x, x0, hx⟩ := law_mix_eq v 0 (by omega) (by omega)
  obtain ⟨m, hm⟩ : ∃ m : Nat, (m : Int) = 1 + x % 9 := ⟨(1 + x % 9).toNat, by omega⟩
  have hm1 : 1 ≤ m := by omega
  have hm2 : m ≤ 16 := by omega
  have hmp : (0 : Int) < (m : Int) := by omega
  obtain ⟨s, hs⟩ : ∃ s : Nat, (s : Int) = x / 9 % (m : Int) := ⟨(x / 9 % (m : Int)).toNat, Int.toNat_of_nonneg (Int.emod_nonneg _ (by omega))⟩
  have hsm' : s < m := by
    have := Int.emod_lt_of_pos (x / 9) hmp
    omega
  obtain ⟨rs, l2, hok, hc2⟩ := law_roads_eq ((ns.drop 1).take 30) m hm1 hm2 (by rw [List.length_take]; omega) (fun c hc => hsm c (List.mem_of_mem_drop (List.mem_of_mem_take hc)))
  have hl : rs.length ≤ 30 := Nat.le_trans l2 (List.length_take_le _ _)
  obtain ⟨css, hM, hmin, hF1⟩ := law_costs_eq m rs (by omega) (by omega) hok
  obtain ⟨cs, hR, hF2⟩ := last_roads_eq m s rs hsm' (by omega) hok
  have hrow := hM.get (x := (s : Int)) (by omega) (by omega)
  rw [Int.toNat_natCast] at hrow
  have hcs : css.getD s [] = cs := by
    apply List.ext_getElem?
    intro i
    by_cases hi : i < m
    · have e1 := atC_get (cs := css.getD s []) (i := (i : Int)) (by omega) (by rw [hrow.2]; omega)
      have e2 := atC_get (cs := cs) (i := (i : Int)) (by omega) (by rw [hR.1]; omega)
      rw [Int.toNat_natCast] at e1 e2
      rw [e1, e2]
      have k1 := hmin s i (by omega) (by omega) (by omega) (by omega)
      have k2 := hR.isMin hok (w := (i : Int)) (by omega) (by omega)
      unfold at2 at k1
      rw [Int.toNat_natCast] at k1
      rw [k1.uniq k2]
    · rw [List.getElem?_eq_none (by rw [hrow.2]; omega), List.getElem?_eq_none (by rw [hR.1]; omega)]
  have x1 : dIx (.lst ((rowsD css).map D.lst)) (.int (s : Int)) = .ok (.lst (cs.map cst)) := by
    have := dIx_map (f := D.lst) (l := rowsD css) (n := (s : Int)) (x := cs.map cst) (by omega) (by rw [Int.toNat_natCast]; unfold rowsD; rw [List.getElem?_map, hrow.1, hcs]; rfl)
    exact this
  have a1 : dMod (.int x) (.int 9) = .ok (.int (x % 9)) := dMod_pos (by decide)
  have a2 : dAdd (.int 1) (.int (x % 9)) = .ok (.int (m : Int)) := by rw [hm]; rfl
  have a3 : dFdiv (.int x) (.int 9) = .ok (.int (x / 9)) := dFdiv_lit (by unfold CDiv; omega)
  have a4 : dMod (.int (x / 9)) (.int (m : Int)) = .ok (.int (s : Int)) := by rw [hs]; exact dMod_pos hmp
  have a5 : dSl (some 1) (some 31) (.lst (ns.map D.int)) = .ok (.lst (((ns.drop 1).take 30).map D.int)) := by
    rw [List.map_take, List.map_drop]
    exact dSl_mid _ 1 31
  obtain ⟨fd, hfd⟩ : ∃ fd, fd = D.lst ((lastL m rs cs rs.length).map optN) := ⟨_, rfl⟩
  rw [← hfd] at hF2
  refine fin_seq (ρ := [some (.val (.lst (ns.map D.int))), some (.val (.int x)), none, none, none, none, none, none, none, none]) ?_ ?_
  · simp only [rv, List.getElem?_cons_zero, List.getElem?_cons_succ, M.bind_ok, hv, hx, List.set_cons_zero, List.set_cons_succ]
  refine fin_seq (ρ := [some (.val (.lst (ns.map D.int))), some (.val (.int x)), some (.val (.int m)), none, none, none, none, none, none, none]) ?_ ?_
  · simp only [rv, List.getElem?_cons_zero, List.getElem?_cons_succ, M.bind_ok, a1, a2, List.set_cons_zero, List.set_cons_succ]
  refine fin_seq (ρ := [some (.val (.lst (ns.map D.int))), some (.val (.int x)), some (.val (.int m)), some (.val (.int s)), none, none, none, none, none, none]) ?_ ?_
  · simp only [rv, List.getElem?_cons_zero, List.getElem?_cons_succ, M.bind_ok, a3, a4, List.set_cons_zero, List.set_cons_succ]
  refine fin_seq (ρ := [some (.val (.lst (ns.map D.int))), some (.val (.int x)), some (.val (.int m)), some (.val (.int s)), some (.val (.lst (rs.map rdD))), none, none, none, none, none]) ?_ ?_
  · simp only [rv, List.getElem?_cons_zero, List.getElem?_cons_succ, M.bind_ok, asI, a5, hc2, List.set_cons_zero, List.set_cons_succ]
  refine fin_seq (ρ := [some (.val (.lst (ns.map D.int))), some (.val (.int x)), some (.val (.int m)), some (.val (.int s)), some (.val (.lst (rs.map rdD))), some (.val (netD m rs)), none, none, none, none]) rfl ?_
  refine fin_seq (ρ := [some (.val (.lst (ns.map D.int))), some (.val (.int x)), some (.val (.int m)), some (.val (.int s)), some (.val (.lst (rs.map rdD))), some (.val (netD m rs)), some (.val (.lst (cs.map cst))), none, none, none]) ?_ ?_
  · simp only [rv, List.getElem?_cons_zero, List.getElem?_cons_succ, M.bind_ok, hF1, x1, List.set_cons_zero, List.set_cons_succ]
  refine fin_seq (ρ := [some (.val (.lst (ns.map D.int))), some (.val (.int x)), some (.val (.int m)), some (.val (.int s)), some (.val (.lst (rs.map rdD))), some (.val (netD m rs)), some (.val (.lst (cs.map cst))), some (.val fd), none, none]) ?_ ?_
  · simp only [rv, List.getElem?_cons_zero, List.getElem?_cons_succ, M.bind_ok, hF2, List.set_cons_zero, List.set_cons_succ]
  have t1 : isTyM "list" fd = .ok (.bl true) := by rw [hfd]; rfl
  have t2 : dLen [fd] = .ok (.int m) := by rw [hfd]; simp [dLen, lastL_len]
  have t3 : dNe 16 (.int (m : Int)) (.int (m : Int)) = .ok (.bl false) := dNe_same (pl_int _)
  have t4 := dNe_same ((pl_net m rs).le (show 3 ≤ 16 by decide))
  have hz : [D.int (m : Int), D.lst (rs.map rdD)].length ≤ 1000 := by simp
  refine fin_seq (ρ := [some (.val (.lst (ns.map D.int))), some (.val (.int x)), some (.val (.int m)), some (.val (.int s)), some (.val (.lst (rs.map rdD))), some (.val (netD m rs)), some (.val (.lst (cs.map cst))), some (.val fd), none, none]) ?_ ?_
  · simp only [rv, List.getElem?_cons_zero, List.getElem?_cons_succ, M.bind_ok, t1, t2, t3, asB, if_pos hz]
    have t5 : dNe 16 (netD m rs) (.tup [.int m, .lst (rs.map rdD)]) = .ok (.bl false) := t4
    simp [t3, t5, asB]
  have hrng := rngM_nat (n := m) (by omega)
  have hrng2 := rngM_nat (n := rs.length) (by omega)
  have hrl : dLen [.lst (rs.map rdD)] = .ok (.int rs.length) := by simp [dLen]
  simp only [rv, List.getElem?_cons_zero, List.getElem?_cons_succ, M.bind_ok, hrng]
  refine fin_for (fun i ρ => ∃ s8 s9, ρ = [some (.val (.lst (ns.map D.int))), some (.val (.int x)), some (.val (.int m)), some (.val (.int s)), some (.val (.lst (rs.map rdD))), some (.val (netD m rs)), some (.val (.lst (cs.map cst))), some (.val fd), s8, s9]) ⟨none, none, rfl⟩ ?_ ?_
  · rintro p d ρ hd ⟨s8, s9, rfl⟩
    obtain ⟨hd1, hp⟩ := rangeD_get hd
    rw [Int.zero_add] at hd1
    subst hd1
    suffices h : ∃ ρ2, _ = M.ok (Out.next ρ2) ∧ ∃ s8 s9, ρ2 = [some (.val (.lst (ns.map D.int))), some (.val (.int x)), some (.val (.int m)), some (.val (.int s)), some (.val (.lst (rs.map rdD))), some (.val (netD m rs)), some (.val (.lst (cs.map cst))), some (.val fd), s8, s9] from let ⟨ρ2, h1, h2⟩ := h; ⟨_, ρ2, rfl, h1, h2⟩
    have hr1 : (rangeD 0 rs.length).length ≤ 1000 := by rw [rangeD_len]; omega
    obtain ⟨f1, hf1⟩ : ∃ f1 : Nat → Bool, f1 = fun k => (match rs[k]? with | some r => decide (r.b = (p : Int)) && (match r.l with | none => false | some _ => true) | none => false) := ⟨_, rfl⟩
    obtain ⟨f2, hf2⟩ : ∃ f2 : Nat → Bool, f2 = fun k => (match rs[k]? with | some r => decide (addC (atC cs r.a) (rcC r) = atC cs (p : Int)) | none => false) := ⟨_, rfl⟩
    refine ex_seq (ρ1 := [some (.val (.lst (ns.map D.int))), some (.val (.int x)), some (.val (.int m)), some (.val (.int s)), some (.val (.lst (rs.map rdD))), some (.val (netD m rs)), some (.val (.lst (cs.map cst))), some (.val fd), some (.val (.int p)), some (.val (.lst (((List.range rs.length).filter f1).map fun i : Nat => D.int (i : Int))))]) ?_ ?_
    · simp only [List.set_cons_zero, List.set_cons_succ, List.getElem?_cons_zero, List.getElem?_cons_succ, M.bind_ok, hrl, hrng2, if_pos hr1]
      rw [rangeD_map, compM_filter (fun d : D => (match d with | D.int k => f1 k.toNat | _ => false : Bool)) id _ (fun d hd => by
        obtain ⟨k, hk, rfl⟩ := List.mem_map.mp hd
        have hk := List.mem_range.mp hk
        have y1 : dIx (.lst (rs.map rdD)) (.int (k : Int)) = .ok (rdD rs[k]) := dIx_map (by omega) (by rw [Int.toNat_natCast]; exact List.getElem?_eq_getElem hk)
        have y2 : dIx (rdD rs[k]) (.int 1) = .ok (.int rs[k].b) := rfl
        have y3 : dIx (rdD rs[k]) (.int 2) = .ok (lenD rs[k].l) := rfl
        refine ⟨_, rfl, ?_, fun _ => rfl⟩
        rw [hf1]
        dsimp only
        rw [Int.toNat_natCast, List.getElem?_eq_getElem hk]
        dsimp only
        by_cases hb : rs[k].b = (p : Int)
        · cases hl : rs[k].l with
          | none => rw [hl] at y3; simp [muRho, y1, y2, y3, hb, dEq, dep, noX, eqD, asB, lenD, isNonD]
          | some z => rw [hl] at y3; simp [muRho, y1, y2, y3, hb, dEq, dep, noX, eqD, asB, lenD, isNonD]
        · simp [muRho, y1, y2, hb, dEq, dep, noX, eqD, asB])]
      rw [List.filter_map, List.map_map]
      rfl
    have hpc : (p : Int) < cs.length := by rw [hR.1]; omega
    have z1 := dIx_cost (cs := cs) (i := (p : Int)) (by omega) hpc
    have hr2 : (((List.range rs.length).filter f1).map fun i : Nat => D.int (i : Int)).length ≤ 1000 := by
      rw [List.length_map]
      exact Nat.le_trans (List.length_filter_le _ _) (by rw [List.length_range]; omega)
    refine ex_seq (ρ1 := [some (.val (.lst (ns.map D.int))), some (.val (.int x)), some (.val (.int m)), some (.val (.int s)), some (.val (.lst (rs.map rdD))), some (.val (netD m rs)), some (.val (.lst (cs.map cst))), some (.val fd), some (.val (.int p)), some (.val (.lst (((List.range rs.length).filter fun k => f2 k && f1 k).map fun i : Nat => D.int (i : Int))))]) ?_ ?_
    · simp only [List.set_cons_zero, List.set_cons_succ, List.getElem?_cons_zero, List.getElem?_cons_succ, M.bind_ok, if_pos hr2]
      rw [compM_filter (fun d : D => (match d with | D.int k => f2 k.toNat | _ => false : Bool)) id _ (fun d hd => by
        obtain ⟨k, hk, rfl⟩ := List.mem_map.mp hd
        have hk := List.mem_range.mp (List.mem_filter.mp hk).1
        have ok := hok rs[k] (List.getElem_mem hk)
        have y1 : dIx (.lst (rs.map rdD)) (.int (k : Int)) = .ok (rdD rs[k]) := dIx_map (by omega) (by rw [Int.toNat_natCast]; exact List.getElem?_eq_getElem hk)
        have y2 : dIx (rdD rs[k]) (.int 0) = .ok (.int rs[k].a) := rfl
        have y3 := dIx_cost (cs := cs) ok.a0 (by rw [hR.1]; exact ok.a1)
        have y4 := law_open_eq rs[k]
        have y5 := law_added_eq (atC cs rs[k].a) (rcC rs[k])
        have y6 := dEq_cst (addC (atC cs rs[k].a) (rcC rs[k])) (atC cs (p : Int))
        refine ⟨_, rfl, ?_, fun _ => rfl⟩
        rw [hf2]
        dsimp only
        rw [Int.toNat_natCast, List.getElem?_eq_getElem hk]
        simp [muRho, y1, y2, y3, y4, y5, y6, z1, asB])]
      rw [List.filter_map, List.map_map, List.filter_filter]
      rfl
    have heqS : dEq 16 (.int (p : Int)) (.int (s : Int)) = .ok (.bl (decide (p = s))) := by
      rw [dEq_pl (pl_int _) (pl_int _)]
      congr 2
      rw [Bool.eq_iff_iff]
      simp [eqD]
      omega
    have w1 : dIx fd (.int (p : Int)) = .ok (optN ((List.range rs.length).find? (hit rs cs p))) := by
      rw [hfd]
      exact dIx_map (by omega) (by rw [Int.toNat_natCast]; exact lastL_get rs cs rs.length hp)
    refine ex_one (ρ1 := [some (.val (.lst (ns.map D.int))), some (.val (.int x)), some (.val (.int m)), some (.val (.int s)), some (.val (.lst (rs.map rdD))), some (.val (netD m rs)), some (.val (.lst (cs.map cst))), some (.val fd), some (.val (.int p)), some (.val (.lst (((List.range rs.length).filter fun k => f2 k && f1 k).map fun i : Nat => D.int (i : Int))))]) ?_ ⟨_, _, rfl⟩
    have hn0 : isNonD (optN none) = true := rfl
    by_cases hps : p = s
    · rw [decide_eq_true hps] at heqS
      have hno : (List.range rs.length).find? (hit rs cs p) = none := by rw [hps]; exact hit_start hR hok _
      rw [hno] at w1
      simp [heqS, asB, w1, hn0]
    · rw [decide_eq_false hps] at heqS
      cases hcp : atC cs (p : Int) with
      | none =>
        have hno : (List.range rs.length).find? (hit rs cs p) = none := hit_none hcp _
        rw [hno] at w1
        rw [hcp] at z1
        have hn1 : isNonD (cst none) = true := rfl
        simp [heqS, asB, w1, z1, hn0, hn1]
      | some tg =>
        obtain ⟨k, hk⟩ := right_step hR hp hps (by rw [hcp]; intro z; cases z)
        rw [hk] at w1
        have w1' : dIx fd (.int (p : Int)) = .ok (.int (k : Int)) := w1
        have z1' := z1
        rw [hcp] at z1'
        have hn1 : isNonD (cst (some tg)) = false := rfl
        have hff : (fun k => f2 k && f1 k) = hit rs cs p := by
          funext j
          rw [hf1, hf2]
          unfold hit
          dsimp only
          cases hj : rs[j]? with
          | none => rfl
          | some r =>
            dsimp only
            rw [Bool.eq_iff_iff]
            cases hl : r.l with
            | none =>
              have : rcC r = none := by unfold rcC; rw [hl]
              rw [this]
              have e : addC (atC cs r.a) none = none := by cases atC cs r.a <;> rfl
              rw [e]
              simp
            | some z =>
              simp only [Bool.and_eq_true, decide_eq_true_eq]
              constructor
              · rintro ⟨h1, h2, _⟩
                exact ⟨⟨h2, by rw [h1, hcp]; intro z; cases z⟩, h1⟩
              · rintro ⟨⟨h1, _⟩, h2⟩
                exact ⟨h2, h1, trivial⟩
        have hmn : dMinI [.lst (((List.range rs.length).filter fun k => f2 k && f1 k).map fun i : Nat => D.int (i : Int))] = .ok (.int (k : Int)) := by
          rw [hff]
          have e : ((List.range rs.length).filter (hit rs cs p)).map (fun i : Nat => D.int (i : Int)) = (((List.range rs.length).filter (hit rs cs p)).map fun i : Nat => (i : Int)).map D.int := by rw [List.map_map]; rfl
          unfold dMinI
          simp only [e, intsD_map, min_filter hk]
        have hwh := law_whole_eq (k : Int)
        have hnk : dNe 16 (.int (k : Int)) (.int (k : Int)) = .ok (.bl false) := dNe_same (pl_int _)
        have hbk := law_back_eq m s rs cs p tg (by omega) hok hR hp hcp
        rw [← hfd] at hbk
        simp [heqS, asB, w1', z1', hn1, hwh, hmn, hnk, hbk]
  · rintro ρ ⟨s8, s9, rfl⟩
    rfl
noncomputable def lawF : List D → M D := Classical.choose ex_law
theorem law_fn {P : Program} {w : World} {K : PySem.W.Frag} {mg : Str → Option Value} {base : Heap} {f : Addr} {fd : FuncData} : Txt K mg → Fun K "law" "law" s_law f fd → FnOk P w K mg base CX0 4 f fd ["_law_script"] (spM0 K 1 lawF) := (Classical.choose_spec ex_law).1
theorem law_eq : ∀ ns : List Int, ns.length ≤ 63 → (∀ n ∈ ns, Sm n) → lawF [.lst (ns.map D.int)] = .ok (.bl true) := (Classical.choose_spec ex_law).2
theorem law_true : ∀ ns : List Int, ns.length ≤ 63 → (∀ n ∈ ns, Sm n) → lawF [.lst (ns.map D.int)] = .ok (.bl true) := law_eq

theorem all_mk {l : PySem.W.OpenLaw} {w : World} {K : PySem.W.Frag} {h : Heap} {mg : Str → Option Value} {fa : Addr} (X : K.In h) (G : h.Ns mainGlobals mg) (hfa : mg "law" = some (.ref fa))
    {f1 : Addr} {od1 an1 : Option Addr} {sl1 : Array (Option Value)} {oc1 kV1 dc1 pm1 cd1 ct1 : Value} {f2 : Addr} {od2 an2 : Option Addr} {sl2 : Array (Option Value)} {oc2 kV2 dc2 pm2 cd2 ct2 : Value} {f3 : Addr} {od3 an3 : Option Addr} {sl3 : Array (Option Value)} {oc3 kV3 dc3 pm3 cd3 ct3 : Value} {f4 : Addr} {od4 an4 : Option Addr} {sl4 : Array (Option Value)} {oc4 kV4 dc4 pm4 cd4 ct4 : Value} {f5 : Addr} {od5 an5 : Option Addr} {sl5 : Array (Option Value)} {oc5 kV5 dc5 pm5 cd5 ct5 : Value} {f6 : Addr} {od6 an6 : Option Addr} {sl6 : Array (Option Value)} {oc6 kV6 dc6 pm6 cd6 ct6 : Value} {f7 : Addr} {od7 an7 : Option Addr} {sl7 : Array (Option Value)} {oc7 kV7 dc7 pm7 cd7 ct7 : Value} {f8 : Addr} {od8 an8 : Option Addr} {sl8 : Array (Option Value)} {oc8 kV8 dc8 pm8 cd8 ct8 : Value} {f9 : Addr} {od9 an9 : Option Addr} {sl9 : Array (Option Value)} {oc9 kV9 dc9 pm9 cd9 ct9 : Value} {f10 : Addr} {od10 an10 : Option Addr} {sl10 : Array (Option Value)} {oc10 kV10 dc10 pm10 cd10 ct10 : Value} {f11 : Addr} {od11 an11 : Option Addr} {sl11 : Array (Option Value)} {oc11 kV11 dc11 pm11 cd11 ct11 : Value} {f12 : Addr} {od12 an12 : Option Addr} {sl12 : Array (Option Value)} {oc12 kV12 dc12 pm12 cd12 ct12 : Value} {f13 : Addr} {od13 an13 : Option Addr} {sl13 : Array (Option Value)} {oc13 kV13 dc13 pm13 cd13 ct13 : Value} {f14 : Addr} {od14 an14 : Option Addr} {sl14 : Array (Option Value)} {oc14 kV14 dc14 pm14 cd14 ct14 : Value} {f15 : Addr} {od15 an15 : Option Addr} {sl15 : Array (Option Value)} {oc15 kV15 dc15 pm15 cd15 ct15 : Value} {f16 : Addr} {od16 an16 : Option Addr} {sl16 : Array (Option Value)} {oc16 kV16 dc16 pm16 cd16 ct16 : Value}
    (a1 : PySem.W.nsIn K mainGlobals "added" = some (some (.ref f1))) (l1 : K.lookup f1 = some ⟨oc1, od1, .func (PySem.W.fnOf "added" "added" (defArgs s_added) (defBody s_added) (defScope s_added) .none kV1 dc1 pm1 an1 cd1 ct1), sl1⟩) (c1 : PySem.W.codeIn K cd1 "added" = true) (k1 : PySem.W.keepIn K (.ref f1) = true)
    (a2 : PySem.W.nsIn K mainGlobals "least" = some (some (.ref f2))) (l2 : K.lookup f2 = some ⟨oc2, od2, .func (PySem.W.fnOf "least" "least" (defArgs s_least) (defBody s_least) (defScope s_least) .none kV2 dc2 pm2 an2 cd2 ct2), sl2⟩) (c2 : PySem.W.codeIn K cd2 "least" = true) (k2 : PySem.W.keepIn K (.ref f2) = true)
    (a3 : PySem.W.nsIn K mainGlobals "road_cost" = some (some (.ref f3))) (l3 : K.lookup f3 = some ⟨oc3, od3, .func (PySem.W.fnOf "road_cost" "road_cost" (defArgs s_road_cost) (defBody s_road_cost) (defScope s_road_cost) .none kV3 dc3 pm3 an3 cd3 ct3), sl3⟩) (c3 : PySem.W.codeIn K cd3 "road_cost" = true) (k3 : PySem.W.keepIn K (.ref f3) = true)
    (a4 : PySem.W.nsIn K mainGlobals "costs_from" = some (some (.ref f4))) (l4 : K.lookup f4 = some ⟨oc4, od4, .func (PySem.W.fnOf "costs_from" "costs_from" (defArgs s_costs_from) (defBody s_costs_from) (defScope s_costs_from) .none kV4 dc4 pm4 an4 cd4 ct4), sl4⟩) (c4 : PySem.W.codeIn K cd4 "costs_from" = true) (k4 : PySem.W.keepIn K (.ref f4) = true)
    (a5 : PySem.W.nsIn K mainGlobals "last_roads" = some (some (.ref f5))) (l5 : K.lookup f5 = some ⟨oc5, od5, .func (PySem.W.fnOf "last_roads" "last_roads" (defArgs s_last_roads) (defBody s_last_roads) (defScope s_last_roads) .none kV5 dc5 pm5 an5 cd5 ct5), sl5⟩) (c5 : PySem.W.codeIn K cd5 "last_roads" = true) (k5 : PySem.W.keepIn K (.ref f5) = true)
    (a6 : PySem.W.nsIn K mainGlobals "_law_cell_at" = some (some (.ref f6))) (l6 : K.lookup f6 = some ⟨oc6, od6, .func (PySem.W.fnOf "_law_cell_at" "_law_cell_at" (defArgs s_law_cell_at) (defBody s_law_cell_at) (defScope s_law_cell_at) .none kV6 dc6 pm6 an6 cd6 ct6), sl6⟩) (c6 : PySem.W.codeIn K cd6 "_law_cell_at" = true) (k6 : PySem.W.keepIn K (.ref f6) = true)
    (a7 : PySem.W.nsIn K mainGlobals "_law_mix" = some (some (.ref f7))) (l7 : K.lookup f7 = some ⟨oc7, od7, .func (PySem.W.fnOf "_law_mix" "_law_mix" (defArgs s_law_mix) (defBody s_law_mix) (defScope s_law_mix) .none kV7 dc7 pm7 an7 cd7 ct7), sl7⟩) (c7 : PySem.W.codeIn K cd7 "_law_mix" = true) (k7 : PySem.W.keepIn K (.ref f7) = true)
    (a8 : PySem.W.nsIn K mainGlobals "_law_great" = some (some (.ref f8))) (l8 : K.lookup f8 = some ⟨oc8, od8, .func (PySem.W.fnOf "_law_great" "_law_great" (defArgs s_law_great) (defBody s_law_great) (defScope s_law_great) .none kV8 dc8 pm8 an8 cd8 ct8), sl8⟩) (c8 : PySem.W.codeIn K cd8 "_law_great" = true) (k8 : PySem.W.keepIn K (.ref f8) = true)
    (a9 : PySem.W.nsIn K mainGlobals "_law_whole" = some (some (.ref f9))) (l9 : K.lookup f9 = some ⟨oc9, od9, .func (PySem.W.fnOf "_law_whole" "_law_whole" (defArgs s_law_whole) (defBody s_law_whole) (defScope s_law_whole) .none kV9 dc9 pm9 an9 cd9 ct9), sl9⟩) (c9 : PySem.W.codeIn K cd9 "_law_whole" = true) (k9 : PySem.W.keepIn K (.ref f9) = true)
    (a10 : PySem.W.nsIn K mainGlobals "_law_roads" = some (some (.ref f10))) (l10 : K.lookup f10 = some ⟨oc10, od10, .func (PySem.W.fnOf "_law_roads" "_law_roads" (defArgs s_law_roads) (defBody s_law_roads) (defScope s_law_roads) .none kV10 dc10 pm10 an10 cd10 ct10), sl10⟩) (c10 : PySem.W.codeIn K cd10 "_law_roads" = true) (k10 : PySem.W.keepIn K (.ref f10) = true)
    (a11 : PySem.W.nsIn K mainGlobals "_law_added" = some (some (.ref f11))) (l11 : K.lookup f11 = some ⟨oc11, od11, .func (PySem.W.fnOf "_law_added" "_law_added" (defArgs s_law_added) (defBody s_law_added) (defScope s_law_added) .none kV11 dc11 pm11 an11 cd11 ct11), sl11⟩) (c11 : PySem.W.codeIn K cd11 "_law_added" = true) (k11 : PySem.W.keepIn K (.ref f11) = true)
    (a12 : PySem.W.nsIn K mainGlobals "_law_least" = some (some (.ref f12))) (l12 : K.lookup f12 = some ⟨oc12, od12, .func (PySem.W.fnOf "_law_least" "_law_least" (defArgs s_law_least) (defBody s_law_least) (defScope s_law_least) .none kV12 dc12 pm12 an12 cd12 ct12), sl12⟩) (c12 : PySem.W.codeIn K cd12 "_law_least" = true) (k12 : PySem.W.keepIn K (.ref f12) = true)
    (a13 : PySem.W.nsIn K mainGlobals "_law_open" = some (some (.ref f13))) (l13 : K.lookup f13 = some ⟨oc13, od13, .func (PySem.W.fnOf "_law_open" "_law_open" (defArgs s_law_open) (defBody s_law_open) (defScope s_law_open) .none kV13 dc13 pm13 an13 cd13 ct13), sl13⟩) (c13 : PySem.W.codeIn K cd13 "_law_open" = true) (k13 : PySem.W.keepIn K (.ref f13) = true)
    (a14 : PySem.W.nsIn K mainGlobals "_law_costs" = some (some (.ref f14))) (l14 : K.lookup f14 = some ⟨oc14, od14, .func (PySem.W.fnOf "_law_costs" "_law_costs" (defArgs s_law_costs) (defBody s_law_costs) (defScope s_law_costs) .none kV14 dc14 pm14 an14 cd14 ct14), sl14⟩) (c14 : PySem.W.codeIn K cd14 "_law_costs" = true) (k14 : PySem.W.keepIn K (.ref f14) = true)
    (a15 : PySem.W.nsIn K mainGlobals "_law_back" = some (some (.ref f15))) (l15 : K.lookup f15 = some ⟨oc15, od15, .func (PySem.W.fnOf "_law_back" "_law_back" (defArgs s_law_back) (defBody s_law_back) (defScope s_law_back) .none kV15 dc15 pm15 an15 cd15 ct15), sl15⟩) (c15 : PySem.W.codeIn K cd15 "_law_back" = true) (k15 : PySem.W.keepIn K (.ref f15) = true)
    (a16 : PySem.W.nsIn K mainGlobals "law" = some (some (.ref f16))) (l16 : K.lookup f16 = some ⟨oc16, od16, .func (PySem.W.fnOf "law" "law" (defArgs s_law) (defBody s_law) (defScope s_law) .none kV16 dc16 pm16 an16 cd16 ct16), sl16⟩) (c16 : PySem.W.codeIn K cd16 "law" = true) (k16 : PySem.W.keepIn K (.ref f16) = true)
    (z1 : PySem.W.nsIn K mainGlobals "bool" = some none)
    (z2 : PySem.W.nsIn K mainGlobals "enumerate" = some none)
    (z3 : PySem.W.nsIn K mainGlobals "int" = some none)
    (z4 : PySem.W.nsIn K mainGlobals "isinstance" = some none)
    (z5 : PySem.W.nsIn K mainGlobals "len" = some none)
    (z6 : PySem.W.nsIn K mainGlobals "list" = some none)
    (z7 : PySem.W.nsIn K mainGlobals "min" = some none)
    (z8 : PySem.W.nsIn K mainGlobals "range" = some none) :
    ∃ fd : FuncData, (∀ (s : Shared) (v : Value), BindsTo s fd ⟨[v], []⟩ [("_law_script", v)]) ∧ ∀ base : Heap, K.In base → base.Ns mainGlobals mg → FnOk l.prog w K mg base CX0 4 fa fd ["_law_script"] (spM0 K 1 lawF) := by
  have e := hfa.symm.trans (PySem.W.mg_of X G a16)
  cases e
  have F1 := fun_mk (st := s_added) l1 c1 k1
  have T1 : FunAt K mg "added" s_added ["one", "other"] := ⟨_, _, F1, PySem.W.mg_of X G a1, F1.binds fun _ _ _ _ _ _ us hl => match us, hl with | [_, _], _ => rfl⟩
  have F2 := fun_mk (st := s_least) l2 c2 k2
  have T2 : FunAt K mg "least" s_least ["some"] := ⟨_, _, F2, PySem.W.mg_of X G a2, F2.binds fun _ _ _ _ _ _ us hl => match us, hl with | [_], _ => rfl⟩
  have F3 := fun_mk (st := s_road_cost) l3 c3 k3
  have T3 : FunAt K mg "road_cost" s_road_cost ["road"] := ⟨_, _, F3, PySem.W.mg_of X G a3, F3.binds fun _ _ _ _ _ _ us hl => match us, hl with | [_], _ => rfl⟩
  have F4 := fun_mk (st := s_costs_from) l4 c4 k4
  have T4 : FunAt K mg "costs_from" s_costs_from ["net", "start"] := ⟨_, _, F4, PySem.W.mg_of X G a4, F4.binds fun _ _ _ _ _ _ us hl => match us, hl with | [_, _], _ => rfl⟩
  have F5 := fun_mk (st := s_last_roads) l5 c5 k5
  have T5 : FunAt K mg "last_roads" s_last_roads ["net", "start"] := ⟨_, _, F5, PySem.W.mg_of X G a5, F5.binds fun _ _ _ _ _ _ us hl => match us, hl with | [_, _], _ => rfl⟩
  have F6 := fun_mk (st := s_law_cell_at) l6 c6 k6
  have T6 : FunAt K mg "_law_cell_at" s_law_cell_at ["_law_script", "_law_k"] := ⟨_, _, F6, PySem.W.mg_of X G a6, F6.binds fun _ _ _ _ _ _ us hl => match us, hl with | [_, _], _ => rfl⟩
  have F7 := fun_mk (st := s_law_mix) l7 c7 k7
  have T7 : FunAt K mg "_law_mix" s_law_mix ["_law_cell", "_law_k"] := ⟨_, _, F7, PySem.W.mg_of X G a7, F7.binds fun _ _ _ _ _ _ us hl => match us, hl with | [_, _], _ => rfl⟩
  have F8 := fun_mk (st := s_law_great) l8 c8 k8
  have T8 : FunAt K mg "_law_great" s_law_great ["_law_cell", "_law_k"] := ⟨_, _, F8, PySem.W.mg_of X G a8, F8.binds fun _ _ _ _ _ _ us hl => match us, hl with | [_, _], _ => rfl⟩
  have F9 := fun_mk (st := s_law_whole) l9 c9 k9
  have T9 : FunAt K mg "_law_whole" s_law_whole ["_law_found"] := ⟨_, _, F9, PySem.W.mg_of X G a9, F9.binds fun _ _ _ _ _ _ us hl => match us, hl with | [_], _ => rfl⟩
  have F10 := fun_mk (st := s_law_roads) l10 c10 k10
  have T10 : FunAt K mg "_law_roads" s_law_roads ["_law_cells", "_law_many"] := ⟨_, _, F10, PySem.W.mg_of X G a10, F10.binds fun _ _ _ _ _ _ us hl => match us, hl with | [_, _], _ => rfl⟩
  have F11 := fun_mk (st := s_law_added) l11 c11 k11
  have T11 : FunAt K mg "_law_added" s_law_added ["_law_one", "_law_other"] := ⟨_, _, F11, PySem.W.mg_of X G a11, F11.binds fun _ _ _ _ _ _ us hl => match us, hl with | [_, _], _ => rfl⟩
  have F12 := fun_mk (st := s_law_least) l12 c12 k12
  have T12 : FunAt K mg "_law_least" s_law_least ["_law_some"] := ⟨_, _, F12, PySem.W.mg_of X G a12, F12.binds fun _ _ _ _ _ _ us hl => match us, hl with | [_], _ => rfl⟩
  have F13 := fun_mk (st := s_law_open) l13 c13 k13
  have T13 : FunAt K mg "_law_open" s_law_open ["_law_road"] := ⟨_, _, F13, PySem.W.mg_of X G a13, F13.binds fun _ _ _ _ _ _ us hl => match us, hl with | [_], _ => rfl⟩
  have F14 := fun_mk (st := s_law_costs) l14 c14 k14
  have T14 : FunAt K mg "_law_costs" s_law_costs ["_law_roads_here", "_law_many"] := ⟨_, _, F14, PySem.W.mg_of X G a14, F14.binds fun _ _ _ _ _ _ us hl => match us, hl with | [_, _], _ => rfl⟩
  have F15 := fun_mk (st := s_law_back) l15 c15 k15
  have T15 : FunAt K mg "_law_back" s_law_back ["_law_roads_here", "_law_place", "_law_start", "_law_found", "_law_costs_here"] := ⟨_, _, F15, PySem.W.mg_of X G a15, F15.binds fun _ _ _ _ _ _ us hl => match us, hl with | [_, _, _, _, _], _ => rfl⟩
  have F16 := fun_mk (st := s_law) l16 c16 k16
  have T16 : FunAt K mg "law" s_law ["_law_script"] := ⟨_, _, F16, PySem.W.mg_of X G a16, F16.binds fun _ _ _ _ _ _ us hl => match us, hl with | [_], _ => rfl⟩
  have T : Txt K mg := ⟨T1, T2, T3, T4, T5, T6, T7, T8, T9, T10, T11, T12, T13, T14, T15, T16, PySem.W.mg_none_of X G z1, PySem.W.mg_none_of X G z2, PySem.W.mg_none_of X G z3, PySem.W.mg_none_of X G z4, PySem.W.mg_none_of X G z5, PySem.W.mg_none_of X G z6, PySem.W.mg_none_of X G z7, PySem.W.mg_none_of X G z8⟩
  refine ⟨PySem.W.fnOf "law" "law" (defArgs s_law) (defBody s_law) (defScope s_law) .none kV16 dc16 pm16 an16 cd16 ct16, fun s v => .of_eq rfl, fun base _ _ => ?_⟩
  exact law_fn T F16
theorem walk {l : PySem.W.OpenLaw} {q : Program} {loose : List Str} {XP : (Str → Option Value) → Heap → Prop} {YP : World → Heap → Prop} {d : DefRec} {K : Params → PySem.W.Frag} (hn : l.most = some 63) (hdf : d.params.defaults = [])
    (hY : ∀ (w : World) (h : Heap), YP w h → (K w.params).In h)
    (F : ∀ (w : World) (mg : Str → Option Value) (fa : Addr) (h : Heap), (K w.params).In h → h.Ns mainGlobals mg → mg d.name = some (.ref fa) →
      ∃ fd : FuncData, (∀ (s : Shared) (u : Value), BindsTo s fd ⟨[u], []⟩ [("_law_script", u)]) ∧ ∀ base : Heap, (K w.params).In base → base.Ns mainGlobals mg → FnOk l.prog w (K w.params) mg base CX0 4 fa fd ["_law_script"] (spM0 (K w.params) 1 lawF)) :
    PySem.W.WalkO q loose XP YP l.row.toRowW d [] (fun f vs => PySem.call f vs) :=
  L2.walk_sm (n := 63) (k := 4) (x := "_law_script") (CX := fun _ => CX0) (sp := fun w => spM0 (K w.params) 1 lawF) hn (by decide) hdf ⟨rfl, by decide, by decide⟩ hY F (fun w H a ns hsm hl _ hS => law_smM law_true (K w.params) H a ns hsm hl hS) fun _ _ _ _ _ z => z
end K13
open PySem PySem.W PyProof.Rows
set_option maxRecDepth 100000 in
set_option maxHeartbeats 0 in
theorem PySem.Challenge.cw_nodeladder_k13_last_roads_holds : PySem.Challenge.rw_nodeladder_k13_last_roads.Holds := by
  w_on; o_law; k_head; (case hw => w_witness2)
  k_fill
  refine K13.walk (l := PySem.Challenge.rw_nodeladder_k13_last_roads) rfl rfl (fun w h Y => PySem.W.kIn_of Y) ?F
  case F =>
    intro w mg fa h KX G hmg
    refine' K13.all_mk KX G hmg ?a1 ?l1 ?c1 ?k1 ?a2 ?l2 ?c2 ?k2 ?a3 ?l3 ?c3 ?k3 ?a4 ?l4 ?c4 ?k4 ?a5 ?l5 ?c5 ?k5 ?a6 ?l6 ?c6 ?k6 ?a7 ?l7 ?c7 ?k7 ?a8 ?l8 ?c8 ?k8 ?a9 ?l9 ?c9 ?k9 ?a10 ?l10 ?c10 ?k10 ?a11 ?l11 ?c11 ?k11 ?a12 ?l12 ?c12 ?k12 ?a13 ?l13 ?c13 ?k13 ?a14 ?l14 ?c14 ?k14 ?a15 ?l15 ?c15 ?k15 ?a16 ?l16 ?c16 ?k16 ?z1 ?z2 ?z3 ?z4 ?z5 ?z6 ?z7 ?z8
    (case a1 => k_is); (case l1 => k_is); (case c1 => k_is); (case k1 => k_is); (case a2 => k_is); (case l2 => k_is); (case c2 => k_is); (case k2 => k_is); (case a3 => k_is); (case l3 => k_is); (case c3 => k_is); (case k3 => k_is); (case a4 => k_is); (case l4 => k_is); (case c4 => k_is); (case k4 => k_is); (case a5 => k_is); (case l5 => k_is); (case c5 => k_is); (case k5 => k_is); (case a6 => k_is); (case l6 => k_is); (case c6 => k_is); (case k6 => k_is); (case a7 => k_is); (case l7 => k_is); (case c7 => k_is); (case k7 => k_is); (case a8 => k_is); (case l8 => k_is); (case c8 => k_is); (case k8 => k_is); (case a9 => k_is); (case l9 => k_is); (case c9 => k_is); (case k9 => k_is); (case a10 => k_is); (case l10 => k_is); (case c10 => k_is); (case k10 => k_is); (case a11 => k_is); (case l11 => k_is); (case c11 => k_is); (case k11 => k_is); (case a12 => k_is); (case l12 => k_is); (case c12 => k_is); (case k12 => k_is); (case a13 => k_is); (case l13 => k_is); (case c13 => k_is); (case k13 => k_is); (case a14 => k_is); (case l14 => k_is); (case c14 => k_is); (case k14 => k_is); (case a15 => k_is); (case l15 => k_is); (case c15 => k_is); (case k15 => k_is); (case a16 => k_is); (case l16 => k_is); (case c16 => k_is); (case k16 => k_is); (case z1 => k_is); (case z2 => k_is); (case z3 => k_is); (case z4 => k_is); (case z5 => k_is); (case z6 => k_is); (case z7 => k_is); (case z8 => k_is)
