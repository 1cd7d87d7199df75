import PyProof.Rows.All
import Wide.All
import OpenK.AllK
import Wide.FinOn
import Lean
import PyProof.EqAt
import PyProof.EqKinds
import PyProof.TupleCall
import PyProof.AttrMissHeap
import PySem.Challenge.RW_keepsakes_k51_two_made_one
set_option Elab.async false
set_option linter.all false
set_option maxRecDepth 100000
/-! THE HAND LAYER, for ints, bools, texts, own classes, LISTS and tuples (index, slices, in, append, pop ..), calls, loops. Paste it whole ahead of your own text; what your proof does not reach may be deleted. -/
namespace L2
open PySem PySem.Spec PyProof.Rows

/-- a key: an int or a str -/
abbrev Key := Sum Int Str
def keyIs : Key → Value → Bool
  | .inl k, v => Value.isInt k v
  | .inr x, v => Value.isStrOf x v
def keyH (w : World) : Key → Int
  | .inl k => hashInt k
  | .inr x => hashStr w x
theorem keyIs_shape : ∀ {k : Key} {v : Value}, keyIs k v = true → (∃ i t, k = Sum.inl i ∧ v = Value.int i t) ∨ (∃ x t, k = Sum.inr x ∧ v = Value.str x t)
  | .inl i, v, h => by
    obtain ⟨t, e⟩ := Value.isInt_shape (k := i) (v := v) h
    exact .inl ⟨i, t, rfl, e⟩
  | .inr x, v, h => by
    obtain ⟨t, e⟩ := Value.isStrOf_shape (x := x) (v := v) h
    exact .inr ⟨x, t, rfl, e⟩
theorem keyIs_int (i : Int) (t : Tok) : keyIs (.inl i) (.int i t) = true := by simp [keyIs, Value.isInt]
theorem keyIs_str (x : Str) (t : Tok) : keyIs (.inr x) (.str x t) = true := by simp [keyIs, Value.isStrOf]
theorem key_ll (a b : Int) : decide ((Sum.inl a : Key) = Sum.inl b) = (a == b) := by
  by_cases e : a = b
  · subst e; simp
  · have h : ¬ (Sum.inl a : Key) = Sum.inl b := fun q => e (Sum.inl.inj q)
    rw [decide_eq_false h]
    exact (beq_eq_false_iff_ne.mpr e).symm
theorem key_rr (a b : Str) : decide ((Sum.inr a : Key) = Sum.inr b) = decide (a = b) := by
  by_cases e : a = b
  · subst e; simp
  · have h : ¬ (Sum.inr a : Key) = Sum.inr b := fun q => e (Sum.inr.inj q)
    rw [decide_eq_false h, decide_eq_false e]
theorem key_lr (a : Int) (b : Str) : decide ((Sum.inl a : Key) = Sum.inr b) = false := decide_eq_false (fun q => nomatch q)
theorem key_rl (a : Str) (b : Int) : decide ((Sum.inr a : Key) = Sum.inl b) = false := decide_eq_false (fun q => nomatch q)

def mixKind (prog : Program) (w : World) : PySem.KeyKind prog w Key where
  is := keyIs
  hash := keyH w
  inj := fun v a b ha hb => by
    rcases keyIs_shape ha with ⟨i, t, rfl, rfl⟩ | ⟨x, t, rfl, rfl⟩
    · rcases keyIs_shape hb with ⟨j, u, rfl, e⟩ | ⟨y, u, rfl, e⟩
      · injection e with e1 _; rw [e1]
      · exact nomatch e
    · rcases keyIs_shape hb with ⟨j, u, rfl, e⟩ | ⟨y, u, rfl, e⟩
      · exact nomatch e
      · injection e with e1 _; rw [e1]
  byValue := fun k v h => by
    rcases keyIs_shape h with ⟨i, t, rfl, rfl⟩ | ⟨x, t, rfl, rfl⟩ <;> rfl
  pyHash := fun hv h => by
    rcases keyIs_shape hv with ⟨i, t, rfl, rfl⟩ | ⟨x, t, rfl, rfl⟩
    · exact wpAny_pyHash_int h
    · exact wpAny_pyHash_str h
  eqBool := fun hu hv h => by
    rcases keyIs_shape hu with ⟨i, t, rfl, rfl⟩ | ⟨x, t, rfl, rfl⟩
    · rcases keyIs_shape hv with ⟨j, u, rfl, rfl⟩ | ⟨y, u, rfl, rfl⟩
      · rw [key_ll] at h; exact wpAny_eqBool_int h
      · rw [key_lr] at h; exact SeqAt.EqAt.int_str i t y u _ _ _ _ h
    · rcases keyIs_shape hv with ⟨j, u, rfl, rfl⟩ | ⟨y, u, rfl, rfl⟩
      · rw [key_rl] at h; exact SeqAt.EqAt.str_int x t j u _ _ _ _ h
      · rw [key_rr] at h; exact wpAny_eqBool_str h
  «strs» := fun k x t v h => by
    rcases keyIs_shape h with ⟨i, u, rfl, e⟩ | ⟨y, u, rfl, e⟩
    · exact nomatch e
    · injection e with e1 _
      subst e1
      cases v <;> rfl

theorem mixKind_int (prog : Program) (w : World) (i : Int) (t : Tok) : (mixKind prog w).is (.inl i) (.int i t) = true := keyIs_int i t
theorem mixKind_str (prog : Program) (w : World) (x : Str) (t : Tok) : (mixKind prog w).is (.inr x) (.str x t) = true := keyIs_str x t
end L2

namespace L2
open PySem PySem.Spec PyProof.Rows

/-- a value, without the heap -/
inductive V where
  | non | bl (b : Bool) | int (i : Int) | str (x : Str) | byt (b : Array UInt8) | flt (b : UInt64) | ref (a : Addr) | ty (n : String)
  deriving DecidableEq

def RelV : V → Value → Prop
  | .non, u => u = Value.none
  | .bl b, u => u = Value.bool b
  | .int i, u => ∃ t, u = Value.int i t
  | .str x, u => ∃ t, u = Value.str x t
  | .byt b, u => ∃ t, u = Value.bytes b t
  | .flt b, u => ∃ t, u = Value.float b t
  | .ref a, u => u = Value.ref a
  | .ty n, u => u = Value.type n

abbrev Vals : List V → List Value → Prop := Paired RelV
theorem Vals.length {xs : List V} {us : List Value} (r : Vals xs us) : xs.length = us.length := Paired.length r
theorem Vals.get : ∀ {xs : List V} {us : List Value} {i : Nat} {x : V}, Vals xs us → xs[i]? = some x → ∃ u, us[i]? = some u ∧ RelV x u
  | _, _, _, _, .nil, e => by simp at e
  | _, _, 0, _, .cons r _, e => by simp at e; subst e; exact ⟨_, rfl, r⟩
  | _, _, i + 1, x, .cons _ t, e => by
    obtain ⟨u, h1, h2⟩ := Vals.get (i := i) (x := x) t (by simpa using e)
    exact ⟨u, by simpa using h1, h2⟩
theorem Vals.set {x : V} {u : Value} (r : RelV x u) : ∀ {xs : List V} {us : List Value} (i : Nat), Vals xs us → Vals (xs.set i x) (us.set i u)
  | _, _, _, .nil => .nil
  | _, _, 0, .cons _ t => .cons r t
  | _, _, i + 1, .cons q t => .cons q (Vals.set r i t)
theorem Vals.append : ∀ {xs ys : List V} {us ws : List Value}, Vals xs us → Vals ys ws → Vals (xs ++ ys) (us ++ ws)
  | _, _, _, _, .nil, s => s
  | _, _, _, _, .cons r t, s => .cons r (Vals.append t s)
theorem Vals.take : ∀ {xs : List V} {us : List Value} (n : Nat), Vals xs us → Vals (xs.take n) (us.take n)
  | _, _, 0, _ => .nil
  | _, _, _ + 1, .nil => .nil
  | _, _, n + 1, .cons r t => .cons r (Vals.take n t)
theorem Vals.drop : ∀ {xs : List V} {us : List Value} (n : Nat), Vals xs us → Vals (xs.drop n) (us.drop n)
  | _, _, 0, r => r
  | _, _, _ + 1, .nil => .nil
  | _, _, n + 1, .cons _ t => Vals.drop n t
theorem Vals.none_of : ∀ {xs : List V} {us : List Value} {i : Nat}, Vals xs us → xs[i]? = none → us[i]? = none := fun {xs us i} r e => by
  have h1 := r.length
  have h2 : xs.length ≤ i := List.getElem?_eq_none_iff.mp e
  exact List.getElem?_eq_none_iff.mpr (by omega)

def RelO : Option V → Option Value → Prop
  | some v, some u => RelV v u
  | none, none => True
  | _, _ => False
def KV {κ : Type} : List (κ × V) → List (κ × Value) → Prop := Paired fun (p : κ × V) (q : κ × Value) => p.1 = q.1 ∧ RelV p.2 q.2

/-- a key of a dict (00_mix): an int or a text -/
def kV : Key → V
  | .inl i => .int i
  | .inr x => .str x

/-- what stands at a tracked address -/
inductive HO where
  /-- a list -/
  | lst (xs : List V)
  /-- a tuple (never changes) -/
  | tup (xs : List V)
  /-- a dict whose keys are ints and texts; one whose keys are tuples of ints and texts (the empty one is both) -/
  | dK (kvs : List (Key × V)) | dT (kvs : List (List Key × V))
  /-- a set of ints: its members, its size -/
  | set (S : Int → Bool) (n : Nat)
  /-- an instance of the class at C, its dict at dx, its attributes -/
  | ins (C dx : Addr) (fs : List (Str × V))
  /-- the dict of the instance at x -/
  | own (x : Addr)
  /-- the dict of an exception -/
  | xd (fs : List (Str × V))
  /-- a bound method, f of x -/
  | met (f x : Addr)
  /-- a range object lo, lo + 1, .. below hi -/
  | rng (lo hi : Int)
  /-- a thing that is known to the object (the script; a dict while a loop walks it): read, never written while it is so -/
  | frz (o : Obj) (u : HO)
  /-- a code object's table -/
  | tbl (ps : Array Value)
  /-- any other thing, by what is true of its one object (a def of one's own: SetO a S n := HO.ext fun h => ..) -/
  | ext (φ : Heap → Prop)

abbrev Hp := Addr → Option HO
def upd (H : Hp) (a : Addr) (o : HO) : Hp := fun b => if b = a then some o else H b
theorem upd_same {H : Hp} {a : Addr} {o : HO} : upd H a o a = some o := by unfold upd; rw [if_pos rfl]
theorem upd_ne {H : Hp} {a b : Addr} {o : HO} (h : b ≠ a) : upd H a o b = H b := by unfold upd; rw [if_neg h]
theorem upd_upd {H : Hp} {a : Addr} {o u : HO} : upd (upd H a o) a u = upd H a u := by
  funext b; unfold upd; split <;> rfl
/-- two objects of different content stand apart -/
theorem ne_of {H : Hp} {a b : Addr} {o u : HO} (h : H a = some o) (h' : H b = some u) (d : o ≠ u) : a ≠ b := by
  intro e; subst e; rw [h] at h'; exact d (Option.some.inj h')
theorem ne_of_none {H : Hp} {a b : Addr} {o : HO} (h : H a = some o) (h' : H b = none) : a ≠ b := by
  intro e; subst e; rw [h] at h'; cases h'

section
variable (P : Program) (w : World)
def ObjOk (H : Hp) (h : Heap) (a : Addr) : HO → Prop
  | .lst xs => xs.length ≤ sizeLine ∧ ∃ (its : List Value) (n : Nat), Vals xs its ∧ h.get? a = some { cls := .type "list", data := .seq its.toArray n }
  | .tup xs => xs.length ≤ sizeLine ∧ ∃ its : List Value, Vals xs its ∧ IsTup h a its.toArray
  | .dK kvs => kvs.length ≤ sizeLine ∧ (a == sysModules) = false ∧ ∃ vs, KV kvs vs ∧ h.DictOf (mixKind P w) a vs
  | .dT kvs => kvs.length ≤ sizeLine ∧ (a == sysModules) = false ∧ ∃ xs : List (List Key × Addr × Value),
      Paired (fun (p : List Key × V) (q : List Key × Addr × Value) => p.1 = q.1 ∧ H q.2.1 = some (.tup (p.1.map kV)) ∧ RelV p.2 q.2.2) kvs xs ∧
      ∃ o es ep, h.get? a = some o ∧ o.ExactDict ∧ o.data = .dict es ep ∧ es.toList = xs.map (entryOfKey (tupleKind (mixKind P w))) ∧ (xs.map (·.1)).Nodup
  | .set S n => h.SetOf (intKind P w) a S n
  | .ins C dx fs => H dx = some (.own a) ∧ fs.length ≤ 1000 ∧ dx ≠ a ∧ h.get? a = some (PySem.W.instObj C dx) ∧
      ∃ mA, h.Ns1 dx mA ∧ (∀ f, RelO (fs.lookup f) (mA f)) ∧ PySem.Within mA (fs.map (·.1))
  | .own _ => ∃ o, h.get? a = some o
  | .xd fs => ∃ mA, h.Ns1 a mA ∧ ∀ f, RelO (fs.lookup f) (mA f)
  | .rng lo hi => ∃ t u v, h.get? a = some { cls := .type "range", data := .fields #[.int lo t, .int hi u, .int 1 v] }
  | .frz o u => h.get? a = some o ∧ ObjOk H h a u
  | .tbl ps => h.get? a = some { cls := .none, data := .fields ps }
  | .met f x => h.get? a = some (PySem.W.methodObj (.ref f) (.ref x))
  | .ext φ => φ h ∧ (∃ o, h.get? a = some o) ∧ ∀ h1 h2 : Heap, φ h1 → (∀ o, h1.get? a = some o → h2.get? a = some o) → φ h2
/-- the abstract heap is held -/
def HOk (H : Hp) (h : Heap) : Prop := ∀ a o, H a = some o → ObjOk P w H h a o
end

section
variable {P : Program} {w : World} {H H' : Hp} {h h' : Heap} {a : Addr} {o : HO}
theorem ObjOk.lt (x : ObjOk P w H h a o) : a < h.objs.size := by
  cases o with
  | lst xs => obtain ⟨_, _, _, _, e⟩ := x; exact Heap.lt_size e
  | tup xs => obtain ⟨_, _, _, p⟩ := x; exact p.lt
  | dK kvs => obtain ⟨_, _, _, _, o, _, _, e, _⟩ := x; exact Heap.lt_size e
  | dT kvs => obtain ⟨_, _, _, _, o, _, _, e, _⟩ := x; exact Heap.lt_size e
  | set S n => obtain ⟨o, _, _, _, e, _⟩ := x; exact Heap.lt_size e
  | ins C dx fs => obtain ⟨_, _, _, e, _⟩ := x; exact Heap.lt_size e
  | own y => obtain ⟨_, e⟩ := x; exact Heap.lt_size e
  | xd fs => obtain ⟨_, ⟨_, _, _, e, _⟩, _⟩ := x; exact Heap.lt_size e
  | rng lo hi => obtain ⟨_, _, _, e⟩ := x; exact Heap.lt_size e
  | frz ob u => obtain ⟨e, _⟩ := x; exact Heap.lt_size e
  | tbl ps => exact Heap.lt_size (show h.get? a = some _ from x)
  | met f y => exact Heap.lt_size (show h.get? a = some _ from x)
  | ext φ => obtain ⟨_, ⟨_, e⟩, _⟩ := x; exact Heap.lt_size e
theorem Paired.mapP {α β : Type} {F G : α → β → Prop} : ∀ {l₁ : List α} {l₂ : List β}, Paired F l₁ l₂ → (∀ a b, F a b → G a b) → Paired G l₁ l₂
  | _, _, .nil, _ => .nil
  | _, _, .cons r t, f => .cons (f _ _ r) (Paired.mapP t f)
/-- what an object's description leans on: its own object, its own dict, the tuples -/
theorem ObjOk.stay (x : ObjOk P w H h a o) (k : ∀ b u, (b = a ∨ H b = some (.own a)) → h.get? b = some u → h'.get? b = some u)
    (ho : ∀ b, H b = some (.own a) → H' b = some (.own a)) (ht : ∀ b xs, H b = some (.tup xs) → H' b = some (.tup xs)) : ObjOk P w H' h' a o := by
  induction o with
  | lst xs => obtain ⟨z, its, n, r, e⟩ := x; exact ⟨z, its, n, r, k _ _ (.inl rfl) e⟩
  | tup xs => obtain ⟨z, its, r, ob, e, c⟩ := x; exact ⟨z, its, r, ob, k _ _ (.inl rfl) e, c⟩
  | dK kvs => obtain ⟨z, y, vs, r, ob, es, ep, e, c⟩ := x; exact ⟨z, y, vs, r, ob, es, ep, k _ _ (.inl rfl) e, c⟩
  | dT kvs =>
    obtain ⟨z, y, xs, r, ob, es, ep, e, c⟩ := x
    exact ⟨z, y, xs, Paired.mapP r fun p q z => ⟨z.1, ht _ _ z.2.1, z.2.2⟩, ob, es, ep, k _ _ (.inl rfl) e, c⟩
  | set S n => obtain ⟨ob, es, ep, t, e, c⟩ := x; exact ⟨ob, es, ep, t, k _ _ (.inl rfl) e, c⟩
  | ins C dx fs =>
    obtain ⟨d, z, ne, e, mA, ⟨od, es, ep, e2, c⟩, r⟩ := x
    exact ⟨ho _ d, z, ne, k _ _ (.inl rfl) e, mA, ⟨od, es, ep, k _ _ (.inr d) e2, c⟩, r⟩
  | own y => obtain ⟨ob, e⟩ := x; exact ⟨ob, k _ _ (.inl rfl) e⟩
  | xd fs => obtain ⟨mA, ⟨od, es, ep, e, c⟩, r⟩ := x; exact ⟨mA, ⟨od, es, ep, k _ _ (.inl rfl) e, c⟩, r⟩
  | rng lo hi => obtain ⟨t, u, v, e⟩ := x; exact ⟨t, u, v, k _ _ (.inl rfl) e⟩
  | frz ob u ih => obtain ⟨e, q⟩ := x; exact ⟨k _ _ (.inl rfl) e, ih q⟩
  | tbl ps =>
    have e : h.get? a = some { cls := .none, data := .fields ps } := x
    show h'.get? a = some { cls := .none, data := .fields ps }
    exact k a _ (.inl rfl) e
  | met f y =>
    have e : h.get? a = some (PySem.W.methodObj (.ref f) (.ref y)) := x
    show h'.get? a = some (PySem.W.methodObj (.ref f) (.ref y))
    exact k a _ (.inl rfl) e
  | ext φ => obtain ⟨p, ⟨o, e⟩, st⟩ := x; exact ⟨st _ _ p fun o q => k _ _ (.inl rfl) q, ⟨o, k _ _ (.inl rfl) e⟩, st⟩
theorem HOk.lt (x : HOk P w H h) (e : H a = some o) : a < h.objs.size := (x a o e).lt
theorem HOk.fresh (x : HOk P w H h) (e : h.objs.size ≤ a) : H a = none := by
  cases q : H a with
  | none => rfl
  | some u => exact absurd (Nat.lt_of_lt_of_le (x.lt q) e) (Nat.lt_irrefl _)
/-- every object of the heap is kept -/
theorem HOk.kept (x : HOk P w H h) (k : ∀ b u, h.get? b = some u → h'.get? b = some u) : HOk P w H h' := fun a o e =>
  (x a o e).stay (fun b u _ q => k b u q) (fun _ q => q) fun _ _ q => q
/-- a new object is laid and tracked -/
theorem HOk.laid (x : HOk P w H h) (k : ∀ b u, h.get? b = some u → h'.get? b = some u) (hp : h.objs.size ≤ a) (new : ObjOk P w (upd H a o) h' a o) : HOk P w (upd H a o) h' := fun b u e => by
  have hn := x.fresh hp
  by_cases hb : b = a
  · subst hb; rw [upd_same] at e; cases e; exact new
  · rw [upd_ne hb] at e
    exact (x b u e).stay (fun c v _ q => k c v q) (fun c q => by rw [upd_ne (ne_of_none q hn)]; exact q) fun c xs q => by rw [upd_ne (ne_of_none q hn)]; exact q
end

/-- what may be read as u: it is u, or a known u -/
def Rd (H : Hp) (a : Addr) (u : HO) : Prop := H a = some u ∨ ∃ o, H a = some (.frz o u)
theorem Rd.of {H : Hp} {a : Addr} {u : HO} (h : H a = some u) : Rd H a u := .inl h
theorem Rd.ok {P : Program} {w : World} {H : Hp} {h : Heap} {a : Addr} {u : HO} (r : Rd H a u) (x : HOk P w H h) : ObjOk P w H h a u := by
  rcases r with r | ⟨o, r⟩
  · exact x a u r
  · obtain ⟨_, q⟩ := x a _ r
    exact q
/-- what may be written -/
def Mut : Option HO → Prop
  | some (.lst _) => True
  | some (.dK _) => True
  | some (.dT _) => True
  | some (.set _ _) => True
  | some (.ins _ _ _) => True
  | some (.ext _) => True
  | _ => False
section
variable {P : Program} {w : World} {H : Hp} {h h' : Heap} {x e : Addr} {o' : HO}
/-- the object at e is changed: x itself, or the dict of the instance x -/
theorem HOk.write (ok : HOk P w H h) (mu : Mut (H x)) (he : e = x ∨ H e = some (.own x)) (k : ∀ b u, b ≠ e → h.get? b = some u → h'.get? b = some u) (heo : ∃ u, h'.get? e = some u)
    (new : ObjOk P w (upd H x o') h' x o') : HOk P w (upd H x o') h' := fun b u q => by
  have nown : ∀ c y, H c = some (.own y) → c ≠ x := fun c y r z => by subst z; rw [r] at mu; exact mu
  have ntup : ∀ c xs, H c = some (.tup xs) → c ≠ x := fun c xs r z => by subst z; rw [r] at mu; exact mu
  by_cases hb : b = x
  · subst hb; rw [upd_same] at q; cases q; exact new
  · rw [upd_ne hb] at q
    by_cases hbe : b = e
    · have q' : H b = some (.own x) := by
        rcases he with z | z
        · exact absurd (hbe.trans z) hb
        · rw [hbe]; exact z
      rw [q] at q'; cases q'
      obtain ⟨v, hv⟩ := heo
      exact ⟨v, by rw [hbe]; exact hv⟩
    · refine (ok b u q).stay (fun c v hc r => k c v ?_ r) (fun c r => by rw [upd_ne (nown c b r)]; exact r) fun c xs r => by rw [upd_ne (ntup c xs r)]; exact r
      rcases hc with rfl | hc
      · exact hbe
      · rintro rfl
        rcases he with z | z
        · exact nown c b hc z
        · rw [hc] at z; cases z; exact hb rfl
end

/-! ### kept unless tracked; of the frames at fs (the callers') the slots may change (an exception that passes writes there); of the records at ex (iterators) nothing is said -/
structure Un (fs ex : List Addr) (H H' : Hp) (h h' : Heap) : Prop where
  keep : ∀ b o, h.get? b = some o → H b = none → b ∉ fs → b ∉ ex → h'.get? b = some o
  slot : ∀ b o, h.get? b = some o → H b = none → b ∈ fs → b ∉ ex → ∃ sl, h'.get? b = some { o with slots := sl }
  free : ∀ b o, h.get? b = some o → H b = none → b ∉ ex → H' b = none
  there : ∀ b o, h.get? b = some o → b ∉ ex → ∃ o', h'.get? b = some o'
  tups : ∀ b xs, H b = some (.tup xs) → H' b = some (.tup xs)
  frzs : ∀ b o u, H b = some (.frz o u) → H' b = some (.frz o u)
  tbls : ∀ b ps, H b = some (.tbl ps) → ∃ more, H' b = some (.tbl (ps ++ more))
section
variable {fs fs' ex ex' : List Addr} {H H1 H2 : Hp} {h h1 h2 h' : Heap} {a x e : Addr} {o : HO}
theorem Un.any (u : Un fs ex H H1 h h1) {b : Addr} {ob : Obj} (q : h.get? b = some ob) (n : H b = none) (hx : b ∉ ex) : ∃ sl, h1.get? b = some { ob with slots := sl } := by
  by_cases hb : b ∈ fs
  · exact u.slot b ob q n hb hx
  · exact ⟨ob.slots, u.keep b ob q n hb hx⟩
theorem Un.trans (a : Un fs ex H H1 h h1) (b : Un fs ex H1 H2 h1 h2) : Un fs ex H H2 h h2 where
  keep := fun c ob q n hc hx => b.keep c ob (a.keep c ob q n hc hx) (a.free c ob q n hx) hc hx
  slot := fun c ob q n hc hx => by
    obtain ⟨sl, e1⟩ := a.slot c ob q n hc hx
    obtain ⟨sl', e2⟩ := b.slot c _ e1 (a.free c ob q n hx) hc hx
    exact ⟨sl', e2⟩
  free := fun c ob q n hx => by
    obtain ⟨o', e1⟩ := a.there c ob q hx
    exact b.free c o' e1 (a.free c ob q n hx) hx
  there := fun c ob q hx => by
    obtain ⟨o', e1⟩ := a.there c ob q hx
    exact b.there c o' e1 hx
  tups := fun c xs q => b.tups c xs (a.tups c xs q)
  frzs := fun c ob xs q => b.frzs c ob xs (a.frzs c ob xs q)
  tbls := fun c ps q => by
    obtain ⟨m1, e1⟩ := a.tbls c ps q
    obtain ⟨m2, e2⟩ := b.tbls c _ e1
    exact ⟨m1 ++ m2, by rw [e2, Array.append_assoc]⟩
theorem Un.kept (k : ∀ b u, h.get? b = some u → h'.get? b = some u) : Un fs ex H H h h' :=
  ⟨fun b ob q _ _ _ => k b ob q, fun b ob q _ _ _ => ⟨ob.slots, k b ob q⟩, fun _ _ _ n _ => n, fun b ob q _ => ⟨ob, k b ob q⟩, fun _ _ q => q, fun _ _ _ q => q, fun _ ps q => ⟨#[], by rw [q]; simp⟩⟩
theorem Un.refl : Un fs ex H H h h := Un.kept fun _ _ q => q
theorem Un.laid (k : ∀ b u, h.get? b = some u → h'.get? b = some u) (hp : h.objs.size ≤ a) (hn : H a = none) : Un fs ex H (upd H a o) h h' where
  keep := fun b u q _ _ _ => k b u q
  slot := fun b u q _ _ _ => ⟨u.slots, k b u q⟩
  free := fun b u q n _ => by rw [upd_ne (Nat.ne_of_lt (Nat.lt_of_lt_of_le (Heap.lt_size q) hp))]; exact n
  there := fun b u q _ => ⟨u, k b u q⟩
  tups := fun b xs q => by rw [upd_ne (ne_of_none q hn)]; exact q
  frzs := fun b u xs q => by rw [upd_ne (ne_of_none q hn)]; exact q
  tbls := fun b ps q => ⟨#[], by rw [upd_ne (ne_of_none q hn), q]; simp⟩
theorem Un.write (mu : Mut (H x)) (he : e = x ∨ H e = some (.own x)) (k : ∀ b u, b ≠ e → h.get? b = some u → h'.get? b = some u) (heo : ∃ u, h'.get? e = some u) : Un fs ex H (upd H x o) h h' := by
  have hx : ∀ b, H b = none → b ≠ x := fun b n z => by subst z; rw [n] at mu; exact mu
  have hb : ∀ b, H b = none → b ≠ e := fun b n z => by
    subst z
    rcases he with r | r
    · exact hx b n r
    · rw [n] at r; cases r
  have hm : ∀ b u, H b = some u → ¬ Mut (some u) → b ≠ x := fun b u q nm z => by subst z; rw [q] at mu; exact nm mu
  refine ⟨fun b u q n _ _ => k b u (hb b n) q, fun b u q n _ _ => ⟨u.slots, k b u (hb b n) q⟩, fun b u q n _ => by rw [upd_ne (hx b n)]; exact n, fun b u q _ => ?_,
    fun b xs q => by rw [upd_ne (hm b _ q fun z => z)]; exact q, fun b u xs q => by rw [upd_ne (hm b _ q fun z => z)]; exact q, fun b ps q => ⟨#[], by rw [upd_ne (hm b _ q fun z => z), q]; simp⟩⟩
  by_cases hbe : b = e
  · subst hbe; exact heo
  · exact ⟨u, k b u hbe q⟩
theorem Un.mono (u : Un fs ex H H1 h h1) (hs : ∀ b ∈ fs, b ∈ fs') (hx : ∀ b ∈ ex, b ∈ ex') : Un fs' ex' H H1 h h1 :=
  ⟨fun b ob q n hb he => u.keep b ob q n (fun z => hb (hs b z)) fun z => he (hx b z), fun _ _ q n _ he => u.any q n fun z => he (hx _ z), fun b ob q n he => u.free b ob q n fun z => he (hx b z), fun b ob q he => u.there b ob q fun z => he (hx b z), u.tups, u.frzs, u.tbls⟩
end

/-! ### the heap without what is tracked -/
def trk (h : Heap) (H : Hp) : List Addr := (List.range h.objs.size).filter fun a => (H a).isSome
def hidT (h : Heap) (H : Hp) : Heap := PySem.W.hideAll h (trk h H)
theorem hidT_size (h : Heap) (H : Hp) : (hidT h H).objs.size = h.objs.size := PySem.W.hideAll_size _ _
theorem hidT_get {h : Heap} {H : Hp} {b : Addr} {o : Obj} (e : h.get? b = some o) (n : H b = none) : (hidT h H).get? b = some o :=
  PySem.W.hideAll_get _ e fun hm => by
    have q : (H b).isSome = true := (List.mem_filter.mp hm).2
    rw [n] at q; simp at q
theorem of_hidT {h : Heap} {H : Hp} {b : Addr} {o : Obj} (e : (hidT h H).get? b = some o) : h.get? b = some o ∧ H b = none := by
  have e' : h.get? b = some o := PySem.W.of_hideAll (trk h H) e
  refine ⟨e', ?_⟩
  cases q : H b with
  | none => rfl
  | some x =>
    have hm : b ∈ trk h H := List.mem_filter.mpr ⟨List.mem_range.mpr (Heap.lt_size e'), by simp [q]⟩
    have z : (hidT h H).get? b = none := PySem.W.hideAll_none (trk h H) hm
    rw [z] at e; cases e

/-! ### OpenK's ledger, filled with every new object but one -/
def allNews (g h : Heap) (L : Addr) : List (Addr × Obj) := (List.range h.objs.size).filterMap fun a => if a = L ∨ (g.get? a).isSome = true then none else (h.get? a).map fun o => (a, o)
def rest (g h : Heap) (L d : Addr) : List (Addr × Obj) := (allNews g h L).filter fun p => decide (p.1 ≠ d)
end L2

namespace L2
open PySem PySem.Spec PyProof.Rows

/-- the module's facts, over the base: the heap at the law's entry without what is tracked there -/
structure Mod (K : PySem.W.Frag) (mg : Str → Option Value) (base : Heap) : Prop where
  kin : K.In base
  glob : base.Ns mainGlobals mg
  blt : ∃ mb, base.Ns builtinsNs mb ∧ ∀ x : Str, x ≠ "__name__" → mb x = bootBuiltins x
  nolimit : base.NoLimit

/-- the context: a def's body (or a comprehension's block) running. base: fixed through the whole law; s₀, H₀: the entry; outer: the frames whose slots others may change (a def's callers); stack: all frames that run;
   ex: iterators that were made ahead of the entry and are walked here (a comprehension's); fn: the names whose cells were made at the entry (a def: all; a comprehension's block: its own); calm: not within an except suite; pn: pins that every state bears; xe: what is wanted of an exception that leaves the code -/
structure Cx where
  prog : Program
  w : World
  K : PySem.W.Frag
  mg : Str → Option Value
  base : Heap
  A : Around
  N : List Str
  s₀ : Shared
  H₀ : Hp
  env : Env
  outer : List Env
  stack : List Env
  ex : List Addr
  fn : Str → Bool
  calm : Bool
  pn : List (Addr × Obj)
  xe : Value → Shared → Prop
/-- the callers' frames -/
def frs (l : List Env) : List Addr := l.filterMap (·.frame)
abbrev Cx.fs (X : Cx) : List Addr := frs X.outer

def Vis (sc : Scope) (x : Str) : Prop := sc.names.lookup x = some .local ∨ sc.names.lookup x = some .cell ∨ sc.names.lookup x = some .free
def Loc (sc : Scope) (x : Str) : Prop := sc.names.lookup x = some .local ∨ sc.names.lookup x = some .cell
def Look (env : Env) (h : Heap) (m : Str → Option Value) (x : Str) (u : Value) : Prop :=
  (env.kindOf x = some .local ∧ m x = some u) ∨ ((env.kindOf x = some .cell ∨ env.kindOf x = some .free) ∧ ∃ c, env.cells.lookup x = some c ∧ h.IsCell c (some u))

structure Cx.Ok (X : Cx) : Prop where
  mod : Mod X.K X.mg X.base
  kind : X.env.scope.kind = .function
  glob : X.env.globals = mainGlobals
  blt : X.env.builtins = builtinsNs
  above : X.s₀.heap.objs.size ≤ X.env.locals
  inj : ∀ x y c, X.env.cells.lookup x = some c → X.env.cells.lookup y = some c → x = y
  has : ∀ x, (X.env.kindOf x = some .cell ∨ X.env.kindOf x = some .free) → ∃ c, X.env.cells.lookup x = some c
  cab : ∀ x c, X.fn x = true → X.env.cells.lookup x = some c → X.s₀.heap.objs.size ≤ c
  hd : X.calm = true → X.A.handled = none
  frames : X.A.frames = some X.stack
  stk : X.stack = X.outer ∨ (X.stack = X.env :: X.outer ∧ X.env.frame = some X.env.locals)
  exf : ∀ b ∈ X.ex, b ≠ X.env.locals ∧ ∀ x c, X.env.cells.lookup x = some c → c ≠ b
  bs : ∀ b o, X.base.get? b = some o → X.s₀.heap.get? b = some o ∧ X.H₀ b = none
  bsz : X.base.objs.size ≤ X.s₀.heap.objs.size
  noex : ∀ b o, X.base.get? b = some o → b ∉ X.ex
  exfs : ∀ b ∈ X.ex, b ∉ X.fs
  funs : X.s₀.heap.FunFrames X.base X.outer
  frf : ∀ b ∈ X.fs, X.H₀ b = none

structure Inv (X : Cx) (pins : List (Addr × Obj)) (σ : List (Option V)) (H : Hp) (s : Shared) : Prop where
  ok : X.Ok
  os : s.os = X.s₀.os
  bare : AllBare s.gens
  base : Un X.fs X.ex X.H₀ H X.s₀.heap s.heap
  loc : ∃ m, s.heap.Ns X.env.locals m ∧ ∀ (i : Nat) (x : Str) (v : V), X.N[i]? = some x → σ[i]? = some (some v) → Vis X.env.scope x → ∃ u, RelV v u ∧ Look X.env s.heap m x u
  cell : ∀ x c, X.env.cells.lookup x = some c → ∃ v, s.heap.IsCell c v
  free : H X.env.locals = none
  freeC : ∀ x c, X.env.cells.lookup x = some c → H c = none
  pin : ∀ p ∈ X.pn ++ pins, s.heap.get? p.1 = some p.2 ∧ H p.1 = none ∧ p.1 ≠ X.env.locals ∧ p.1 ∉ X.fs ∧ ∀ v, p.2.data ≠ .cell v
  hok : HOk X.prog X.w H s.heap
  len : σ.length = X.N.length

section
variable {X : Cx} {pins : List (Addr × Obj)} {σ : List (Option V)} {H H' : Hp} {s : Shared} {h' : Heap}

theorem Cx.Ok.nofr (ok : X.Ok) {b : Addr} {o : Obj} (e : X.base.get? b = some o) : b ∉ X.fs := fun hb => by
  have := (ok.funs.mem hb).1
  rw [e] at this; cases this
theorem Inv.bs (I : Inv X pins σ H s) : ∀ b o, X.base.get? b = some o → s.heap.get? b = some o ∧ H b = none := fun b o e =>
  ⟨I.base.keep b o (I.ok.bs b o e).1 (I.ok.bs b o e).2 (I.ok.nofr e) (I.ok.noex b o e), I.base.free b o (I.ok.bs b o e).1 (I.ok.bs b o e).2 (I.ok.noex b o e)⟩
theorem Inv.bk (I : Inv X pins σ H s) : ∀ b o, X.base.get? b = some o → s.heap.get? b = some o := fun b o e => (I.bs b o e).1
theorem Inv.mod (I : Inv X pins σ H s) : Mod X.K X.mg X.base := I.ok.mod
theorem Inv.kIn (I : Inv X pins σ H s) : X.K.In s.heap := I.ok.mod.kin.keeps I.bk
theorem Inv.nolimit (I : Inv X pins σ H s) : s.heap.NoLimit := I.ok.mod.nolimit.keeps I.bk
theorem Inv.lt (I : Inv X pins σ H s) : X.env.locals < s.heap.objs.size := let ⟨_, hn, _⟩ := I.loc; hn.lt
theorem Inv.sz (I : Inv X pins σ H s) : X.s₀.heap.objs.size ≤ s.heap.objs.size := Nat.le_trans I.ok.above (Nat.le_of_lt I.lt)
theorem Inv.nofs (I : Inv X pins σ H s) {a : Addr} (h : s.heap.objs.size ≤ a) : a ∉ X.fs := fun hb => by
  obtain ⟨_, o, ho, _⟩ := I.ok.funs.mem hb
  exact absurd (Nat.lt_of_lt_of_le (Heap.lt_size ho) (Nat.le_trans I.sz h)) (Nat.lt_irrefl _)
theorem Inv.cne (I : Inv X pins σ H s) : ∀ x c, X.env.cells.lookup x = some c → c ≠ X.env.locals := fun x c e z => by
  obtain ⟨v, o, ho, hd⟩ := I.cell x c e
  obtain ⟨m, ⟨o', es, ep, ho', hd', _⟩, _⟩ := I.loc
  rw [z, ho'] at ho; cases ho; rw [hd'] at hd; cases hd
theorem Inv.funs (I : Inv X pins σ H s) : s.heap.FunFrames X.base X.outer := by
  have all : ∀ (l : List Env), (∀ b ∈ frs l, b ∈ X.fs) → X.s₀.heap.FunFrames X.base l → s.heap.FunFrames X.base l := by
    intro l
    induction l with
    | nil => intro _ _; trivial
    | cons env r ih =>
      intro hs hl
      obtain ⟨hk, ⟨L, o, hf, hn, ho, hd⟩, hr⟩ := hl
      have hL : L ∈ X.fs := hs L (by unfold frs; rw [List.filterMap_cons, hf]; exact List.mem_cons_self)
      obtain ⟨sl, e⟩ := I.base.slot L o ho (I.ok.frf L hL) hL fun z => I.ok.exfs L z hL
      exact ⟨hk, ⟨L, _, hf, hn, e, hd⟩, ih (fun b hb => hs b (by unfold frs; rw [List.filterMap_cons, hf]; exact List.mem_cons_of_mem _ hb)) hr⟩
  exact all X.outer (fun _ hb => hb) I.ok.funs

/-- the frames that run, for a call -/
theorem Inv.stack (I : Inv X pins σ H s) : s.heap.FunFrames X.base X.stack := by
  rcases I.ok.stk with e | ⟨e, hf⟩
  · rw [e]; exact I.funs
  · rw [e]
    obtain ⟨m, hn, _⟩ := I.loc
    refine .cons (by rw [I.ok.kind]; decide) hf hn ?_ I.funs
    exact Heap.get?_none_of_le (Nat.le_trans I.ok.bsz I.ok.above)
theorem Inv.stkSub (I : Inv X pins σ H s) : ∀ b ∈ frs X.stack, b ∈ X.env.locals :: X.fs := fun b hb => by
  rcases I.ok.stk with e | ⟨e, hf⟩
  · rw [e] at hb; exact List.mem_cons_of_mem _ hb
  · rw [e] at hb
    unfold frs at hb
    rw [List.filterMap_cons, hf] at hb
    exact hb
theorem Inv.stkFree (I : Inv X pins σ H s) : ∀ b ∈ frs X.stack, H b = none := fun b hb => by
  rcases List.mem_cons.mp (I.stkSub b hb) with e | hb
  · rw [e]; exact I.free
  · obtain ⟨_, o, ho, _⟩ := I.ok.funs.mem hb
    exact I.base.free b o ho (I.ok.frf b hb) fun z => I.ok.exfs b z hb

/-- THE STEP: the untracked objects but the frame and the records at ch are kept (the callers' frames up to slots), the frame's map is kept, the new abstract heap is held -/
theorem Inv.step {g' : Array GenState} {t' : Nat} {d' : Drawn} {ch : List Addr} (I : Inv X pins σ H s)
    (hch : ∀ b ∈ ch, (b ∈ X.ex ∨ X.s₀.heap.objs.size ≤ b) ∧ b ≠ X.env.locals ∧ (∀ x c, X.env.cells.lookup x = some c → c ≠ b) ∧ ∀ p ∈ X.pn ++ pins, p.1 ≠ b)
    (keep : ∀ b o, b ≠ X.env.locals → b ∉ X.fs → b ∉ ch → s.heap.get? b = some o → H b = none → h'.get? b = some o)
    (slot : ∀ b o, b ≠ X.env.locals → b ∈ X.fs → b ∉ ch → s.heap.get? b = some o → H b = none → ∃ sl, h'.get? b = some { o with slots := sl }) (free : ∀ b o, b ∉ ch → s.heap.get? b = some o → H b = none → H' b = none)
    (there : ∀ b o, b ∉ ch → s.heap.get? b = some o → ∃ o', h'.get? b = some o')
    (tups : ∀ b xs, H b = some (.tup xs) → H' b = some (.tup xs)) (frzs : ∀ b o u, H b = some (.frz o u) → H' b = some (.frz o u)) (tbls : ∀ b ps, H b = some (.tbl ps) → ∃ more, H' b = some (.tbl (ps ++ more)))
    (ns : ∀ m, s.heap.Ns X.env.locals m → h'.Ns X.env.locals m) (hok : HOk X.prog X.w H' h') (hg : AllBare g') :
    Inv X pins σ H' { s with heap := h', gens := g', drawn := d', toks := t' } := by
  have neL : ∀ b o, X.s₀.heap.get? b = some o → b ≠ X.env.locals := fun b o e => Nat.ne_of_lt (Nat.lt_of_lt_of_le (Heap.lt_size e) I.ok.above)
  have neC : ∀ b o, X.s₀.heap.get? b = some o → b ∉ X.ex → b ∉ ch := fun b o e hx hb => by
    rcases (hch b hb).1 with z | z
    · exact hx z
    · exact absurd (Nat.lt_of_lt_of_le (Heap.lt_size e) z) (Nat.lt_irrefl _)
  have cellK : ∀ x c, X.env.cells.lookup x = some c → ∀ v, s.heap.IsCell c v → h'.IsCell c v := fun x c e v ⟨o, ho, hd⟩ => by
    have nch : c ∉ ch := fun z => (hch c z).2.2.1 x c e rfl
    by_cases hc : c ∈ X.fs
    · obtain ⟨sl, q⟩ := slot c o (I.cne x c e) hc nch ho (I.freeC x c e)
      exact ⟨_, q, hd⟩
    · exact ⟨o, keep c o (I.cne x c e) hc nch ho (I.freeC x c e), hd⟩
  refine ⟨I.ok, I.os, hg, ⟨fun b o e n hb hx => ?_, fun b o e n hb hx => ?_, fun b o e n hx => ?_, fun b o e hx => ?_, fun b xs e => tups b xs (I.base.tups b xs e), fun b o xs e => frzs b o xs (I.base.frzs b o xs e), fun b ps e => ?_⟩, ?_, fun x c e => ?_, ?_, fun x c e => ?_, fun p hp => ?_, hok, I.len⟩
  · exact keep b o (neL b o e) hb (neC b o e hx) (I.base.keep b o e n hb hx) (I.base.free b o e n hx)
  · obtain ⟨sl, e1⟩ := I.base.slot b o e n hb hx
    obtain ⟨sl', e2⟩ := slot b _ (neL b o e) hb (neC b o e hx) e1 (I.base.free b o e n hx)
    exact ⟨sl', e2⟩
  · obtain ⟨o', e1⟩ := I.base.there b o e hx
    exact free b o' (neC b o e hx) e1 (I.base.free b o e n hx)
  · obtain ⟨o', e1⟩ := I.base.there b o e hx
    exact there b o' (neC b o e hx) e1
  · obtain ⟨m1, e1⟩ := I.base.tbls b ps e
    obtain ⟨m2, e2⟩ := tbls b _ e1
    exact ⟨m1 ++ m2, by rw [e2, Array.append_assoc]⟩
  · obtain ⟨m, hn, hl⟩ := I.loc
    refine ⟨m, ns m hn, fun i x v e1 e2 e3 => ?_⟩
    obtain ⟨u, r, l⟩ := hl i x v e1 e2 e3
    refine ⟨u, r, ?_⟩
    rcases l with l | ⟨k, c, e, z⟩
    · exact .inl l
    · exact .inr ⟨k, c, e, cellK x c e _ z⟩
  · obtain ⟨v, z⟩ := I.cell x c e
    exact ⟨v, cellK x c e v z⟩
  · obtain ⟨m, ⟨o, _, _, ho, _⟩, _⟩ := I.loc
    exact free _ o (fun z => (hch _ z).2.1 rfl) ho I.free
  · obtain ⟨v, o, ho, hd⟩ := I.cell x c e
    exact free c o (fun z => (hch c z).2.2.1 x c e rfl) ho (I.freeC x c e)
  · obtain ⟨e, n, ne, nf, d⟩ := I.pin p hp
    have nch : p.1 ∉ ch := fun z => (hch p.1 z).2.2.2 p hp rfl
    exact ⟨keep p.1 p.2 ne nf nch e n, free p.1 p.2 nch e n, ne, nf, d⟩
/-- .. where the frame's own object is kept too -/
theorem Inv.un {t' : Nat} (I : Inv X pins σ H s) (u : Un X.fs [] H H' s.heap h') (hok : HOk X.prog X.w H' h') : Inv X pins σ H' { s with heap := h', toks := t' } := by
  obtain ⟨m, ⟨o, es, ep, ho, r⟩, _⟩ := id I.loc
  obtain ⟨sl, hL⟩ := u.any ho I.free (by simp)
  exact I.step (g' := s.gens) (d' := s.drawn) (ch := []) (fun _ z => nomatch z) (fun b o _ hb _ e n => u.keep b o e n hb (by simp)) (fun b o _ hb _ e n => u.slot b o e n hb (by simp)) (fun b o _ e n => u.free b o e n (by simp)) (fun b o _ e => u.there b o e (by simp)) u.tups u.frzs u.tbls (fun m' hm => by
    obtain ⟨o', es', ep', ho', r'⟩ := hm
    rw [ho] at ho'; cases ho'
    exact ⟨_, es', ep', hL, r'⟩) hok I.bare
/-- behind a call (or a comprehension's block): the slots of this frame may have changed too, the records at ch may have turned -/
theorem Inv.call {g' : Array GenState} {t' : Nat} {d' : Drawn} {ch : List Addr} (I : Inv X pins σ H s) (u : Un (frs X.stack) ch H H' s.heap h') (hok : HOk X.prog X.w H' h') (hg : AllBare g')
    (hch : ∀ b ∈ ch, (b ∈ X.ex ∨ X.s₀.heap.objs.size ≤ b) ∧ b ≠ X.env.locals ∧ (∀ x c, X.env.cells.lookup x = some c → c ≠ b) ∧ ∀ p ∈ X.pn ++ pins, p.1 ≠ b) :
    Inv X pins σ H' { s with heap := h', gens := g', drawn := d', toks := t' } := by
  obtain ⟨m, ⟨o, es, ep, ho, r⟩, _⟩ := id I.loc
  obtain ⟨sl, hL⟩ := u.any ho I.free fun z => (hch _ z).2.1 rfl
  exact I.step (ch := ch) hch (fun b o hL hb hc e n => u.keep b o e n (fun z => (List.mem_cons.mp (I.stkSub b z)).elim hL hb) hc) (fun b o _ _ hc e n => u.any e n hc) (fun b o hc e n => u.free b o e n hc) (fun b o hc e => u.there b o e hc) u.tups u.frzs u.tbls (fun m' hm => by
    obtain ⟨o', es', ep', ho', r'⟩ := hm
    rw [ho] at ho'; cases ho'
    exact ⟨_, es', ep', hL, r'⟩) hok hg
/-- an untracked record of ours (an iterator) has turned -/
theorem Inv.turned {t' : Nat} {it : Addr} (I : Inv X pins σ H s) (k : ∀ b o, b ≠ it → s.heap.get? b = some o → h'.get? b = some o) (hn : H it = none) (hL : it ≠ X.env.locals)
    (h1 : it ∈ X.ex ∨ X.s₀.heap.objs.size ≤ it) (h2 : ∀ x c, X.env.cells.lookup x = some c → c ≠ it) (h3 : ∀ p ∈ X.pn ++ pins, p.1 ≠ it) : Inv X pins σ H { s with heap := h', toks := t' } := by
  have nit : ∀ b u, H b = some u → b ≠ it := fun b u e z => by rw [z, hn] at e; cases e
  refine I.step (g' := s.gens) (d' := s.drawn) (ch := [it]) (fun b hb => ?_) (fun b o _ _ hc e _ => k b o (fun z => hc (by simp [z])) e) (fun b o _ _ hc e _ => ⟨o.slots, k b o (fun z => hc (by simp [z])) e⟩) (fun _ _ _ _ n => n)
    (fun b o hc e => ⟨o, k b o (fun z => hc (by simp [z])) e⟩) (fun _ _ e => e) (fun _ _ _ e => e) (fun b ps e => ⟨#[], by rw [e]; simp⟩) (fun m hm => ?_) (fun b u e => ?_) I.bare
  · have e : b = it := by simpa using hb
    subst e
    exact ⟨h1, hL, h2, h3⟩
  · obtain ⟨o, es, ep, ho, r⟩ := hm
    exact ⟨o, es, ep, k _ o (Ne.symm hL) ho, r⟩
  · refine (I.hok b u e).stay (fun c v hc q => k c v ?_ q) (fun _ q => q) fun _ _ q => q
    rcases hc with z | z
    · rw [z]; exact nit b u e
    · exact nit c _ z
theorem Inv.tok (I : Inv X pins σ H s) (t : Nat) : Inv X pins σ H { s with toks := t } := I.un (h' := s.heap) (t' := t) Un.refl I.hok
/-- all objects kept -/
theorem Inv.kept {t' : Nat} (I : Inv X pins σ H s) (k : ∀ b u, s.heap.get? b = some u → h'.get? b = some u) : Inv X pins σ H { s with heap := h', toks := t' } := I.un (Un.kept k) (I.hok.kept k)
/-- a new object laid and tracked -/
theorem Inv.laid {a : Addr} {o : HO} {t' : Nat} (I : Inv X pins σ H s) (k : ∀ b u, s.heap.get? b = some u → h'.get? b = some u) (hp : s.heap.objs.size ≤ a) (new : ObjOk X.prog X.w (upd H a o) h' a o) :
    Inv X pins σ (upd H a o) { s with heap := h', toks := t' } := I.un (Un.laid k hp (I.hok.fresh hp)) (I.hok.laid k hp new)
/-- an object written -/
theorem Inv.write {x e : Addr} {o : HO} {t' : Nat} (I : Inv X pins σ H s) (mu : Mut (H x)) (he : e = x ∨ H e = some (.own x)) (k : ∀ b u, b ≠ e → s.heap.get? b = some u → h'.get? b = some u) (heo : ∃ u, h'.get? e = some u)
    (new : ObjOk X.prog X.w (upd H x o) h' x o) : Inv X pins σ (upd H x o) { s with heap := h', toks := t' } := I.un (Un.write mu he k heo) (I.hok.write mu he k heo new)
theorem Inv.pins_of {pins' : List (Addr × Obj)} (I : Inv X pins σ H s) (h : ∀ p ∈ pins', s.heap.get? p.1 = some p.2 ∧ H p.1 = none ∧ p.1 ≠ X.env.locals ∧ p.1 ∉ X.fs ∧ ∀ v, p.2.data ≠ .cell v) : Inv X pins' σ H s :=
  ⟨I.ok, I.os, I.bare, I.base, I.loc, I.cell, I.free, I.freeC, fun p hp => (List.mem_append.mp hp).elim (fun z => I.pin p (List.mem_append_left _ z)) (h p), I.hok, I.len⟩

theorem nodup_ix {N : List Str} (hN : N.Nodup) {i j : Nat} {x : Str} (a : N[i]? = some x) (b : N[j]? = some x) : i = j := by
  obtain ⟨h1, e1⟩ := List.getElem?_eq_some_iff.mp a
  obtain ⟨h2, e2⟩ := List.getElem?_eq_some_iff.mp b
  exact (List.getElem_inj hN).mp (e1.trans e2.symm)

/-- a name is stored; what changed -/
theorem store_ok2 {M : Model} {A : Around} {E : Value → Shared → Prop} {i : Nat} {x : Str} {v : V} {u : Value} {Q : Unit → Shared → Prop} (I : Inv X pins σ H s) (hN : X.N.Nodup) (hi : X.N[i]? = some x) (hx : Loc X.env.scope x) (r : RelV v u)
    (h : ∀ s', Inv X pins (σ.set i (some v)) H s' → (∃ a, Heap.SameBut a s.heap s'.heap ∧ (a = X.env.locals ∨ X.env.cells.lookup x = some a)) → Q () s') (hf : X.fn x = true ∨ X.env.scope.names.lookup x = some .local := by first | exact .inl rfl | exact .inr rfl | assumption) : wpAny M A (storeName X.env x u) Q E s := by
  obtain ⟨m, hn, hl⟩ := id I.loc
  have hcls : (X.env.scope.kind == .class || (X.env.scope.kind == .module && X.env.locals != X.env.globals)) = false := by rw [I.ok.kind]; rfl
  have hiσ : i < σ.length := by rw [I.len]; exact (List.getElem?_eq_some_iff.mp hi).1
  have cne := I.cne
  have tracked : ∀ {a : Addr} {h' : Heap}, (∃ o, s.heap.get? a = some o ∧ H a = none) → Heap.SameBut a s.heap h' → HOk X.prog X.w H h' := fun {a h'} ha hs b ob e => by
    obtain ⟨_, _, hfree⟩ := ha
    refine (I.hok b ob e).stay (fun c w' hc q => (hs.2 c ?_).trans q) (fun _ q => q) fun _ _ q => q
    rintro rfl
    rcases hc with rfl | hc
    · rw [hfree] at e; cases e
    · rw [hfree] at hc; cases hc
  rcases hx with hk | hk
  · refine wpAny_storeName_local hk hn (fun h' hn' hs => ?_) hcls
    obtain ⟨oL, _, _, hoL, _⟩ := id hn
    refine h _ ⟨I.ok, I.os, I.bare, ⟨fun b o e n hb hx => ?_, fun b o e n hb hx => ?_, I.base.free, fun b o e hx => ?_, I.base.tups, I.base.frzs, I.base.tbls⟩, ⟨_, hn', fun j y v' e1 e2 e3 => ?_⟩, fun y c e => ?_, I.free, I.freeC, fun p hp => ?_, tracked ⟨oL, hoL, I.free⟩ hs, by simpa using I.len⟩ ⟨_, hs, .inl rfl⟩
    · exact (hs.2 b (Nat.ne_of_lt (Nat.lt_of_lt_of_le (Heap.lt_size e) I.ok.above))).trans (I.base.keep b o e n hb hx)
    · obtain ⟨sl, e1⟩ := I.base.slot b o e n hb hx
      exact ⟨sl, (hs.2 b (Nat.ne_of_lt (Nat.lt_of_lt_of_le (Heap.lt_size e) I.ok.above))).trans e1⟩
    · obtain ⟨o', e1⟩ := I.base.there b o e hx
      exact ⟨o', (hs.2 b (Nat.ne_of_lt (Nat.lt_of_lt_of_le (Heap.lt_size e) I.ok.above))).trans e1⟩
    · by_cases hj : j = i
      · subst hj
        rw [hi] at e1; cases e1
        rw [List.getElem?_set_self hiσ] at e2
        cases e2
        exact ⟨u, r, .inl ⟨hk, by simp⟩⟩
      · rw [List.getElem?_set_ne (Ne.symm hj)] at e2
        obtain ⟨u', r', q⟩ := hl j y v' e1 e2 e3
        refine ⟨u', r', ?_⟩
        rcases q with ⟨k, e⟩ | ⟨k, c, e, z⟩
        · refine .inl ⟨k, ?_⟩
          have : y ≠ x := fun e => hj (nodup_ix hN e1 (e ▸ hi))
          simp [this, e]
        · exact .inr ⟨k, c, e, z.sameBut hs (cne y c e)⟩
    · obtain ⟨w', z⟩ := I.cell y c e
      exact ⟨w', z.sameBut hs (cne y c e)⟩
    · obtain ⟨e, n, ne, nf, d⟩ := I.pin p hp
      exact ⟨(hs.2 p.1 ne).trans e, n, ne, nf, d⟩
  · have hfn : X.fn x = true := by
      rcases hf with z | z
      · exact z
      · rw [z] at hk; cases hk
    obtain ⟨c, hc⟩ := I.ok.has x (.inl hk)
    obtain ⟨w', z⟩ := I.cell x c hc
    refine wpAny_storeName_cell I.ok.kind hk hc z (fun h' hc' hs => ?_)
    obtain ⟨oc, hoc, hocd⟩ := id z
    refine h { s with heap := h' } ⟨I.ok, I.os, I.bare, ⟨fun b o e n hb hx => ?_, fun b o e n hb hx => ?_, I.base.free, fun b o e hx => ?_, I.base.tups, I.base.frzs, I.base.tbls⟩, ⟨m, hn.sameBut hs (Ne.symm (cne x c hc)), fun j y v' e1 e2 e3 => ?_⟩, fun y c' e => ?_, I.free, I.freeC, fun p hp => ?_, tracked ⟨oc, hoc, I.freeC x c hc⟩ hs, by simpa using I.len⟩ ⟨c, hs, .inr hc⟩
    · exact (hs.2 b (Nat.ne_of_lt (Nat.lt_of_lt_of_le (Heap.lt_size e) (I.ok.cab x c hfn hc)))).trans (I.base.keep b o e n hb hx)
    · obtain ⟨sl, e1⟩ := I.base.slot b o e n hb hx
      exact ⟨sl, (hs.2 b (Nat.ne_of_lt (Nat.lt_of_lt_of_le (Heap.lt_size e) (I.ok.cab x c hfn hc)))).trans e1⟩
    · obtain ⟨o', e1⟩ := I.base.there b o e hx
      exact ⟨o', (hs.2 b (Nat.ne_of_lt (Nat.lt_of_lt_of_le (Heap.lt_size e) (I.ok.cab x c hfn hc)))).trans e1⟩
    · by_cases hj : j = i
      · subst hj
        rw [hi] at e1; cases e1
        rw [List.getElem?_set_self hiσ] at e2
        cases e2
        exact ⟨u, r, .inr ⟨.inl hk, c, hc, hc'⟩⟩
      · rw [List.getElem?_set_ne (Ne.symm hj)] at e2
        obtain ⟨u', r', q⟩ := hl j y v' e1 e2 e3
        refine ⟨u', r', ?_⟩
        rcases q with q | ⟨k, c', e, z'⟩
        · exact .inl q
        · refine .inr ⟨k, c', e, z'.sameBut hs ?_⟩
          rintro rfl
          exact hj (nodup_ix hN e1 (I.ok.inj _ _ _ e hc ▸ hi))
    · by_cases hcc : c' = c
      · subst hcc; exact ⟨_, hc'⟩
      · obtain ⟨w2, z2⟩ := I.cell y c' e
        exact ⟨w2, z2.sameBut hs hcc⟩
    · obtain ⟨e, n, ne, nf, d⟩ := I.pin p hp
      refine ⟨(hs.2 p.1 ?_).trans e, n, ne, nf, d⟩
      intro q
      rw [q, hoc] at e
      have q' : oc = p.2 := Option.some.inj e
      exact d w' (by rw [← q']; exact hocd)
theorem store_ok {M : Model} {A : Around} {E : Value → Shared → Prop} {i : Nat} {x : Str} {v : V} {u : Value} {Q : Unit → Shared → Prop} (I : Inv X pins σ H s) (hN : X.N.Nodup) (hi : X.N[i]? = some x) (hx : Loc X.env.scope x) (r : RelV v u)
    (h : ∀ s', Inv X pins (σ.set i (some v)) H s' → Q () s') (hf : X.fn x = true ∨ X.env.scope.names.lookup x = some .local := by first | exact .inl rfl | exact .inr rfl | assumption) : wpAny M A (storeName X.env x u) Q E s :=
  store_ok2 I hN hi hx r (fun s' I' _ => h s' I') hf
/-- behind a call or a block, the state as it is -/
theorem Inv.call' {s' : Shared} {ch : List Addr} (I : Inv X pins σ H s) (ho : s'.os = s.os) (u : Un (frs X.stack) ch H H' s.heap s'.heap) (hok : HOk X.prog X.w H' s'.heap) (hg : AllBare s'.gens)
    (hch : ∀ b ∈ ch, (b ∈ X.ex ∨ X.s₀.heap.objs.size ≤ b) ∧ b ≠ X.env.locals ∧ (∀ x c, X.env.cells.lookup x = some c → c ≠ b) ∧ ∀ p ∈ X.pn ++ pins, p.1 ≠ b) : Inv X pins σ H' s' := by
  obtain ⟨h', g', d', t', o'⟩ := s'
  have e : o' = s.os := ho
  subst e
  exact I.call (g' := g') (t' := t') (d' := d') u hok hg hch
end

/-! ### the judgements -/
/-- an exception: its class, its own dict's address (where it has one), the abstract heap behind it -/
abbrev XK := Value → Option Addr → Hp → Prop
abbrev St := List (Option V)
abbrev VK := V → Hp → Prop
/-- an expression's reading; a test's; an argument list's -/
abbrev TE := St → Hp → VK → Prop
abbrev TT := St → Hp → (Bool → Hp → Prop) → Prop
abbrev TA := St → Hp → (List V → Hp → Prop) → Prop
/-- what is wanted behind a statement -/
structure Ends where
  nx : St → Hp → Prop
  rt : VK
  bk : St → Hp → Prop := fun _ _ => False
  ct : St → Hp → Prop := fun _ _ => False
abbrev TS := Ends → St → Hp → Prop

def EP (X : Cx) (pins : List (Addr × Obj)) (σ : St) (Q : VK) (u : Value) (s' : Shared) : Prop := ∃ v H', Inv X pins σ H' s' ∧ RelV v u ∧ Q v H'
def TP (X : Cx) (pins : List (Addr × Obj)) (σ : St) (Q : Bool → Hp → Prop) (b : Bool) (s' : Shared) : Prop := ∃ H', Inv X pins σ H' s' ∧ Q b H'
def AP (X : Cx) (pins : List (Addr × Obj)) (σ : St) (Q : List V → Hp → Prop) (us : List Value) (s' : Shared) : Prop := ∃ vs H', Inv X pins σ H' s' ∧ Vals vs us ∧ Q vs H'
def SP (X : Cx) (pins : List (Addr × Obj)) (D : Ends) (f : Flow) (s' : Shared) : Prop :=
  match f with
  | .next => ∃ σ' H', Inv X pins σ' H' s' ∧ D.nx σ' H'
  | .brk => ∃ σ' H', Inv X pins σ' H' s' ∧ D.bk σ' H'
  | .cont => ∃ σ' H', Inv X pins σ' H' s' ∧ D.ct σ' H'
  | .ret u => ∃ v σ' H', Inv X pins σ' H' s' ∧ RelV v u ∧ D.rt v H'

def PE (X : Cx) (e : Expr) (t : TE) : Prop :=
  ∀ (pins : List (Addr × Obj)) (s : Shared) (σ : St) (H : Hp) (Q : VK), Inv X pins σ H s → t σ H Q → wpAny (model X.prog X.w) X.A (eval e X.env) (EP X pins σ Q) X.xe s
def PT (X : Cx) (e : Expr) (t : TT) : Prop :=
  ∀ (pins : List (Addr × Obj)) (s : Shared) (σ : St) (H : Hp) (Q : Bool → Hp → Prop), Inv X pins σ H s → t σ H Q → wpAny (model X.prog X.w) X.A (isTrue e X.env (eval e X.env)) (TP X pins σ Q) X.xe s
/-- a test whatever its 'whole' is (and, or) -/
def PW (X : Cx) (e : Expr) (t : TT) : Prop :=
  ∀ (whole : Sem Value) (pins : List (Addr × Obj)) (s : Shared) (σ : St) (H : Hp) (Q : Bool → Hp → Prop), Inv X pins σ H s → t σ H Q → wpAny (model X.prog X.w) X.A (isTrue e X.env whole) (TP X pins σ Q) X.xe s
theorem PW.pt {X : Cx} {e : Expr} {t : TT} (h : PW X e t) : PT X e t := h _
/-- an argument list (no star), from the left -/
def PA (X : Cx) (es : List Expr) (t : TA) : Prop :=
  ∀ (pos : Pos) (pins : List (Addr × Obj)) (s : Shared) (σ : St) (H : Hp) (Q : List V → Hp → Prop), Inv X pins σ H s → t σ H Q → wpAny (model X.prog X.w) X.A (spliced (backTo pos (starEach es X.env))) (AP X pins σ Q) X.xe s
def PS (X : Cx) (st : Stmt) (t : TS) : Prop :=
  ∀ (pins : List (Addr × Obj)) (s : Shared) (σ : St) (H : Hp) (D : Ends), Inv X pins σ H s → t D σ H → wpAny (model X.prog X.w) X.A (exec st X.env) (SP X pins D) X.xe s
def PSs (X : Cx) (st : List Stmt) (t : TS) : Prop :=
  ∀ (pins : List (Addr × Obj)) (s : Shared) (σ : St) (H : Hp) (D : Ends), Inv X pins σ H s → t D σ H → wpAny (model X.prog X.w) X.A (execs st X.env) (SP X pins D) X.xe s
/-- weaken the end -/
theorem thn {α : Type} {t : Sem α} {Q Q' : α → Shared → Prop} {M : Model} {A : Around} {E : Value → Shared → Prop} {s : Shared} (h : wpAny M A t Q E s) (hQ : ∀ a s, Q a s → Q' a s) : wpAny M A t Q' E s := wpAny_mono h hQ fun _ _ x => x
end L2

namespace L2
open PySem PySem.Spec PyProof.Rows
section
variable {X : Cx}


/-! ### names and constants -/
def tVar (i : Nat) : TE := fun σ H Q => ∃ v, σ[i]? = some (some v) ∧ Q v H
def tC (v : V) : TE := fun _ H Q => Q v H
theorem pe_var {i : Nat} {x : Str} {pos : Pos} (hN : X.N[i]? = some x) (hv : Vis X.env.scope x) (hd : (x == ("__debug__" : Str)) = false := by decide) (hcd : (x == ("__classdict__" : Str)) = false := by decide) : PE X (.Name x pos) (tVar i) := by
  intro pins s σ H Q I h
  obtain ⟨v, e, h⟩ := h
  obtain ⟨m, hn, hl⟩ := I.loc
  obtain ⟨u, r, l⟩ := hl i x v hN e hv
  have fin : EP X pins σ Q u s := ⟨v, H, I, r, h⟩
  rcases l with ⟨hk, hm⟩ | ⟨hk, c, hc, hcell⟩
  · exact wpAny_Name (wpAny_loadName_local I.ok.kind hk hn hm fin) hd
  · rcases hk with hk | hk
    · exact wpAny_Name (wpAny_loadName_cell I.ok.kind hk hc hcell fin) hd
    · exact wpAny_Name (wpAny_loadName_free I.ok.kind hk hc hcell fin hcd) hd
theorem pe_int {i j pos} : PE X (.Constant (.int i) j pos) (tC (.int i)) := fun _ _ _ H _ I h => wpAny_Constant_int ⟨.int i, H, I.tok _, ⟨_, rfl⟩, h⟩
theorem pe_bl {b j pos} : PE X (.Constant (.bool b) j pos) (tC (.bl b)) := fun _ _ _ H _ I h => Constant_bool ⟨.bl b, H, I, rfl, h⟩
theorem pe_non {j pos} : PE X (.Constant .none j pos) (tC .non) := fun _ _ _ H _ I h => Constant_none ⟨.non, H, I, rfl, h⟩
theorem pe_str {x j pos} : PE X (.Constant (.str x) j pos) (tC (.str x)) := fun _ _ _ H _ I h => Calls.Constant_str ⟨.str x, H, I.tok _, ⟨_, rfl⟩, h⟩

/-- a global name of the def -/
def Gl (X : Cx) (x : Str) : Prop := X.env.kindOf x = some .globalImplicit
theorem ld_glob {E : Value → Shared → Prop} {pins : List (Addr × Obj)} {s : Shared} {σ : St} {H : Hp} {x : Str} {u : Value} {pos : Pos} {Q : Value → Shared → Prop} (I : Inv X pins σ H s) (hg : Gl X x) (hm : X.mg x = some u) (h : Q u s)
    (hd : (x == ("__debug__" : Str)) = false := by decide) : wpAny (model X.prog X.w) X.A (eval (.Name x pos) X.env) Q E s :=
  Calls.Name_function_global I.ok.kind hg (Calls.loadGlobal_global (by rw [I.ok.glob]; exact I.mod.glob.keeps I.bk) hm h) hd
theorem ld_blt {E : Value → Shared → Prop} {pins : List (Addr × Obj)} {s : Shared} {σ : St} {H : Hp} {x : Str} {u : Value} {pos : Pos} {Q : Value → Shared → Prop} (I : Inv X pins σ H s) (hg : Gl X x) (hm : X.mg x = none) (hv : bootBuiltins x = some u) (h : Q u s)
    (hn : x ≠ "__name__" := by decide) (hd : (x == ("__debug__" : Str)) = false := by decide) : wpAny (model X.prog X.w) X.A (eval (.Name x pos) X.env) Q E s := by
  obtain ⟨mb, h1, h2⟩ := I.mod.blt
  exact Calls.Name_function_global I.ok.kind hg (Calls.loadGlobal_builtin (by rw [I.ok.glob]; exact I.mod.glob.keeps I.bk) hm (by rw [I.ok.blt]; exact h1.keeps I.bk) ((h2 x hn).trans hv) h) hd
/-- a module's constant, a class, a function, as a value -/
theorem pe_glob {x : Str} {v : V} {u : Value} {pos : Pos} (hg : Gl X x) (hm : X.mg x = some u) (r : RelV v u) (hd : (x == ("__debug__" : Str)) = false := by decide) : PE X (.Name x pos) (tC v) :=
  fun _ _ _ H _ I h => ld_glob I hg hm ⟨v, H, I, r, h⟩ hd
theorem pe_bltn {x : Str} {v : V} {u : Value} {pos : Pos} (hg : Gl X x) (hm : X.mg x = none) (hv : bootBuiltins x = some u) (r : RelV v u) (hn : x ≠ "__name__" := by decide) (hd : (x == ("__debug__" : Str)) = false := by decide) : PE X (.Name x pos) (tC v) :=
  fun _ _ _ H _ I h => ld_blt I hg hm hv ⟨v, H, I, r, h⟩ hn hd

/-! ### arithmetic -/
/-- two ints -/
def t2I (ta tb : TE) (k : Int → Int → Hp → Prop) : St → Hp → Prop := fun σ H => ta σ H fun x H1 => tb σ H1 fun y H2 => ∃ i j, x = .int i ∧ y = .int j ∧ k i j H2
def tAdd (ta tb : TE) : TE := fun σ H Q => t2I ta tb (fun i j H2 => Q (.int (i + j)) H2) σ H
def tSub (ta tb : TE) : TE := fun σ H Q => t2I ta tb (fun i j H2 => Q (.int (i - j)) H2) σ H
/-- the left factor below 2^64 -/
def tMul (ta tb : TE) : TE := fun σ H Q => t2I ta tb (fun i j H2 => (-(2 ^ 64) < i ∧ i < 2 ^ 64) ∧ Q (.int (i * j)) H2) σ H
variable {a b : Expr} {ta tb : TE} {pos : Pos}

/-! ### comparisons -/
def PC (X : Cx) (op : CmpOp) (a b : Expr) (t : TE) : Prop :=
  ∀ (pins : List (Addr × Obj)) (s : Shared) (σ : St) (H : Hp) (Q : VK), Inv X pins σ H s → t σ H Q →
    wpAny (model X.prog X.w) X.A (eval a X.env) (fun v s₁ => wpAny (model X.prog X.w) X.A (eval b X.env) (fun u s₂ => wpAny (model X.prog X.w) X.A (compareOp op v u) (EP X pins σ Q) X.xe s₂) X.xe s₁) X.xe s
def tCmp (p : Int → Int → Bool) (ta tb : TE) : TE := fun σ H Q => t2I ta tb (fun i j H2 => Q (.bl (p i j)) H2) σ H
abbrev tLt : TE → TE → TE := tCmp fun i j => decide (i < j)
abbrev tLe : TE → TE → TE := tCmp fun i j => decide (i ≤ j)
abbrev tGt : TE → TE → TE := tCmp fun i j => decide (j < i)
abbrev tGe : TE → TE → TE := tCmp fun i j => decide (j ≤ i)
abbrev tEqI : TE → TE → TE := tCmp fun i j => decide (i = j)
abbrev tNeI : TE → TE → TE := tCmp fun i j => !decide (i = j)
/-- is None -/
def tIsN (ta : TE) : TE := fun σ H Q => ta σ H fun x H1 => Q (.bl (decide (x = .non))) H1
def tNotN (ta : TE) : TE := fun σ H Q => ta σ H fun x H1 => Q (.bl (!decide (x = .non))) H1
/-- a comparison as a value, as a test -/
def tB (t : TE) : TT := fun σ H Q => t σ H fun x H1 => ∃ c, x = .bl c ∧ Q c H1
/-- an expression whose value is a bool, as a test -/
theorem pt_val {e : Expr} {t : TE} (h : PE X e t) (he : ∀ whole, isTrue e X.env whole = (do let v ← whole; standAt e.pos; holding [v] (truthy v)) := by intro _; rfl) : PT X e (tB t) := by
  intro pins s σ H Q I hw
  refine isTrue_plain (thn (h pins s σ H _ I hw) fun v s1 ⟨x, H1, I1, r1, q1⟩ => ?_) (he _)
  obtain ⟨d, rfl, q⟩ := q1
  cases r1
  exact wpAny_truthy_bool ⟨H1, I1, q⟩

/-! ### and, or, not -/
variable {tA tB' : TT} {rest : List Expr}
def tAnd (t u : TT) : TT := fun σ H Q => t σ H fun c H1 => if c = true then u σ H1 Q else Q false H1
def tOr (t u : TT) : TT := fun σ H Q => t σ H fun c H1 => if c = true then Q true H1 else u σ H1 Q
def tNot (t : TT) : TT := fun σ H Q => t σ H fun c H1 => Q (!c) H1
theorem pw_and1 (ha : PT X a tA) : PW X (.BoolOp .And [a] pos) tA := by
  intro wh pins s σ H Q I h
  refine isTrue_and (thn (ha pins s σ H Q I h) fun c s1 e => ?_)
  cases c with
  | true => exact isTrue_and_nil e
  | false => exact e
theorem pw_or1 (ha : PT X a tA) : PW X (.BoolOp .Or [a] pos) tA := by
  intro wh pins s σ H Q I h
  refine isTrue_or (thn (ha pins s σ H Q I h) fun c s1 e => ?_)
  cases c with
  | false => exact isTrue_or_nil e
  | true => exact e
theorem pw_and (ha : PT X a tA) (hb : PW X (.BoolOp .And (b :: rest) pos) tB') : PW X (.BoolOp .And (a :: b :: rest) pos) (tAnd tA tB') := by
  intro wh pins s σ H Q I h
  refine isTrue_and (thn (ha pins s σ H _ I h) fun c s1 ⟨H1, I1, q1⟩ => ?_)
  cases c with
  | true => exact hb wh pins s1 σ H1 Q I1 q1
  | false => exact ⟨H1, I1, q1⟩
theorem pw_or (ha : PT X a tA) (hb : PW X (.BoolOp .Or (b :: rest) pos) tB') : PW X (.BoolOp .Or (a :: b :: rest) pos) (tOr tA tB') := by
  intro wh pins s σ H Q I h
  refine isTrue_or (thn (ha pins s σ H _ I h) fun c s1 ⟨H1, I1, q1⟩ => ?_)
  cases c with
  | true => exact ⟨H1, I1, q1⟩
  | false => exact hb wh pins s1 σ H1 Q I1 q1
theorem pt_not (ha : PT X a tA) : PT X (.UnaryOp .Not a pos) (tNot tA) := by
  intro pins s σ H Q I h
  exact isTrue_not (ha pins s σ H (fun c H1 => Q (!c) H1) I h)
/-- .. as values (bools) -/
def tAndV (ta tb : TE) : TE := fun σ H Q => ta σ H fun x H1 => ∃ c, x = .bl c ∧ if c = true then tb σ H1 Q else Q (.bl false) H1
def tOrV (ta tb : TE) : TE := fun σ H Q => ta σ H fun x H1 => ∃ c, x = .bl c ∧ if c = true then Q (.bl true) H1 else tb σ H1 Q
def tNotV (ta : TE) : TE := fun σ H Q => ta σ H fun x H1 => ∃ c, x = .bl c ∧ Q (.bl (!c)) H1
theorem pe_one {op} {t : TE} (h : PE X a t) : PE X (.BoolOp op [a] pos) t := fun pins s σ H Q I hw => BoolOp_one (h pins s σ H Q I hw)
theorem pe_and (ha : PE X a ta) (hb : PE X (.BoolOp .And (b :: rest) pos) tb) : PE X (.BoolOp .And (a :: b :: rest) pos) (tAndV ta tb) := by
  intro pins s σ H Q I h
  refine BoolOp_and (thn (ha pins s σ H _ I h) fun v s1 ⟨x, H1, I1, r1, q1⟩ => ?_)
  obtain ⟨c, rfl, q1⟩ := q1
  cases r1
  refine wpAny_truthy_bool ?_
  cases c with
  | true => exact hb pins s1 σ H1 Q I1 q1
  | false => exact ⟨.bl false, H1, I1, rfl, q1⟩
theorem pe_not (ha : PE X a ta) : PE X (.UnaryOp .Not a pos) (tNotV ta) := by
  intro pins s σ H Q I h
  refine UnaryOp_ (thn (ha pins s σ H _ I h) fun v s1 ⟨x, H1, I1, r1, q1⟩ => ?_)
  obtain ⟨c, rfl, q1⟩ := q1
  cases r1
  exact not_of (wpAny_truthy_bool ⟨.bl (!c), H1, I1, rfl, q1⟩)
/-- a if t else b -/
def tIf (t : TT) (ta tb : TE) : TE := fun σ H Q => t σ H fun c H1 => if c = true then ta σ H1 Q else tb σ H1 Q
theorem pe_ifExp {c : Expr} (hc : PT X c tA) (ha : PE X a ta) (hb : PE X b tb) : PE X (.IfExp c a b pos) (tIf tA ta tb) := by
  intro pins s σ H Q I h
  refine wpAny_IfExp (thn (hc pins s σ H _ I h) fun d s1 ⟨H1, I1, q1⟩ => ?_)
  cases d with
  | true => exact ha pins s1 σ H1 Q I1 q1
  | false => exact hb pins s1 σ H1 Q I1 q1
end
end L2

namespace L2
open PySem PySem.Spec PyProof.Rows

/-! ### a list, a tuple that is read: tracked, frozen, or an object of the module -/
def SqL (K : PySem.W.Frag) (H : Hp) (a : Addr) (xs : List V) : Prop :=
  Rd H a (.lst xs) ∨
    ∃ (o : Obj) (its : Array Value) (n : Nat), K.lookup a = some o ∧ o.cls = .type "list" ∧ o.dict = none ∧ o.data = .seq its n ∧ its.size ≤ sizeLine ∧ Vals xs its.toList
def SqT (K : PySem.W.Frag) (H : Hp) (a : Addr) (xs : List V) : Prop :=
  Rd H a (.tup xs) ∨
    ∃ (o : Obj) (its : Array Value) (n : Nat), K.lookup a = some o ∧ o.cls = .type "tuple" ∧ o.data = .seq its n ∧ its.size ≤ sizeLine ∧ Vals xs its.toList
def absV : Value → Option V
  | .none => some .non
  | .bool b => some (.bl b)
  | .int i _ => some (.int i)
  | .str x _ => some (.str x)
  | .bytes b _ => some (.byt b)
  | .float b _ => some (.flt b)
  | .ref a => some (.ref a)
  | .type n => some (.ty n)
  | _ => none
theorem RelV.abs {x : V} {u : Value} (r : RelV x u) : absV u = some x := by
  cases x with
  | non => cases r; rfl
  | bl _ => cases r; rfl
  | int _ => obtain ⟨t, rfl⟩ := r; rfl
  | str _ => obtain ⟨t, rfl⟩ := r; rfl
  | byt _ => obtain ⟨t, rfl⟩ := r; rfl
  | flt _ => obtain ⟨t, rfl⟩ := r; rfl
  | ref _ => cases r; rfl
  | ty _ => cases r; rfl
theorem RelV.inj {x y : V} {u : Value} (r : RelV x u) (q : RelV y u) : x = y := Option.some.inj (r.abs.symm.trans q.abs)
theorem Vals.inj : ∀ {xs ys : List V} {us : List Value}, Vals xs us → Vals ys us → xs = ys
  | _, _, _, .nil, .nil => rfl
  | _, _, _, .cons r t, .cons r' t' => by rw [r.inj r', Vals.inj t t']
section
variable {X : Cx} {pins : List (Addr × Obj)} {σ : St} {H : Hp} {s : Shared} {a : Addr} {xs ys : List V}
theorem SqL.of {K : PySem.W.Frag} (h : H a = some (.lst xs)) : SqL K H a xs := .inl (.inl h)
theorem SqT.of {K : PySem.W.Frag} (h : H a = some (.tup xs)) : SqT K H a xs := .inl (.inl h)
theorem Inv.list (I : Inv X pins σ H s) (h : SqL X.K H a xs) : ∃ its : List Value, Vals xs its ∧ PlainL s.heap a its.toArray ∧ xs.length ≤ sizeLine := by
  rcases h with h | ⟨o, its, n, hk, hc, hd, hs, hz, r⟩
  · obtain ⟨z, its, n, r, e⟩ := h.ok I.hok
    exact ⟨its, r, ⟨_, n, e, rfl, rfl, rfl⟩, z⟩
  · refine ⟨its.toList, r, ⟨o, n, I.kIn a o hk, hc, hd, by simpa using hs⟩, ?_⟩
    have e := r.length
    simp only [Array.length_toList] at e
    omega
theorem Inv.tuple (I : Inv X pins σ H s) (h : SqT X.K H a xs) : ∃ its : List Value, Vals xs its ∧ IsTup s.heap a its.toArray ∧ xs.length ≤ sizeLine := by
  rcases h with h | ⟨o, its, n, hk, hc, hs, hz, r⟩
  · obtain ⟨z, its, r, p⟩ := h.ok I.hok
    exact ⟨its, r, p, z⟩
  · refine ⟨its.toList, r, ⟨o, I.kIn a o hk, hc, n, by simpa using hs⟩, ?_⟩
    have e := r.length
    simp only [Array.length_toList] at e
    omega
theorem Inv.list_inj (I : Inv X pins σ H s) (h : SqL X.K H a xs) (h' : SqL X.K H a ys) : xs = ys := by
  obtain ⟨its, r, ⟨o, n, e, _, _, d⟩, _⟩ := I.list h
  obtain ⟨its', r', ⟨o', n', e', _, _, d'⟩, _⟩ := I.list h'
  rw [e] at e'; cases e'
  rw [d] at d'
  injection d' with d1 _
  have : its = its' := by simpa using congrArg Array.toList d1
  subst this
  exact r.inj r'
theorem Inv.tuple_inj (I : Inv X pins σ H s) (h : SqT X.K H a xs) (h' : SqT X.K H a ys) : xs = ys := by
  obtain ⟨its, r, ⟨o, e, _, n, d⟩, _⟩ := I.tuple h
  obtain ⟨its', r', ⟨o', e', _, n', d'⟩, _⟩ := I.tuple h'
  rw [e] at e'; cases e'
  rw [d] at d'
  injection d' with d1 _
  have : its = its' := by simpa using congrArg Array.toList d1
  subst this
  exact r.inj r'
end

/-! ### another wish about exceptions -/
abbrev Cx.wish (X : Cx) (E : Value → Shared → Prop) : Cx := { X with xe := E }
/-- no exception leaves -/
abbrev Cx.nox (X : Cx) : Cx := X.wish fun _ _ => False
theorem Cx.Ok.wish {X : Cx} (ok : X.Ok) (E : Value → Shared → Prop) : (X.wish E).Ok :=
  ⟨ok.mod, ok.kind, ok.glob, ok.blt, ok.above, ok.inj, ok.has, ok.cab, ok.hd, ok.frames, ok.stk, ok.exf, ok.bs, ok.bsz, ok.noex, ok.exfs, ok.funs, ok.frf⟩
theorem Cx.Ok.unwish {X : Cx} {E : Value → Shared → Prop} (ok : (X.wish E).Ok) : X.Ok :=
  ⟨ok.mod, ok.kind, ok.glob, ok.blt, ok.above, ok.inj, ok.has, ok.cab, ok.hd, ok.frames, ok.stk, ok.exf, ok.bs, ok.bsz, ok.noex, ok.exfs, ok.funs, ok.frf⟩
section
variable {X : Cx} {pins : List (Addr × Obj)} {σ : St} {H : Hp} {s : Shared} {E : Value → Shared → Prop}
theorem Inv.wish (I : Inv X pins σ H s) (E : Value → Shared → Prop) : Inv (X.wish E) pins σ H s := ⟨I.ok.wish E, I.os, I.bare, I.base, I.loc, I.cell, I.free, I.freeC, I.pin, I.hok, I.len⟩
theorem Inv.unwish (I : Inv (X.wish E) pins σ H s) : Inv X pins σ H s := ⟨I.ok.unwish, I.os, I.bare, I.base, I.loc, I.cell, I.free, I.freeC, I.pin, I.hok, I.len⟩
theorem SP.unwish {D : Ends} {f : Flow} {s' : Shared} (h : SP (X.wish E) pins D f s') : SP X pins D f s' := by
  cases f with
  | next => obtain ⟨σ', H', I, q⟩ := h; exact ⟨σ', H', I.unwish, q⟩
  | brk => obtain ⟨σ', H', I, q⟩ := h; exact ⟨σ', H', I.unwish, q⟩
  | cont => obtain ⟨σ', H', I, q⟩ := h; exact ⟨σ', H', I.unwish, q⟩
  | ret u => obtain ⟨v, σ', H', I, r, q⟩ := h; exact ⟨v, σ', H', I.unwish, r, q⟩
theorem PE.nox {e : Expr} {t : TE} (h : PE X.nox e t) : PE X e t := fun pins s σ H Q I hw =>
  wpAny_mono (h pins s σ H Q (I.wish _) hw) (fun _ _ ⟨v, H', I', r, q⟩ => ⟨v, H', I'.unwish, r, q⟩) fun _ _ z => False.elim z
theorem PT.nox {e : Expr} {t : TT} (h : PT X.nox e t) : PT X e t := fun pins s σ H Q I hw =>
  wpAny_mono (h pins s σ H Q (I.wish _) hw) (fun _ _ ⟨H', I', q⟩ => ⟨H', I'.unwish, q⟩) fun _ _ z => False.elim z
theorem PSs.nox {st : List Stmt} {t : TS} (h : PSs X.nox st t) : PSs X st t := fun pins s σ H D I hw =>
  wpAny_mono (h pins s σ H D (I.wish _) hw) (fun _ _ q => q.unwish) fun _ _ z => False.elim z
end

/-! ### blocks and small statements -/
section
variable {X : Cx} {st : Stmt} {rest : List Stmt} {t u : TS} {e : Expr} {te : TE} {pos : Pos}
def tNext : TS := fun D σ H => D.nx σ H
def tSeq (t u : TS) : TS := fun D σ H => t { D with nx := u D } σ H
theorem pss_nil : PSs X [] tNext := fun _ _ σ H _ I h => wpAny_execs_nil ⟨σ, H, I, h⟩
theorem pss_cons (h1 : PS X st t) (h2 : PSs X rest u) : PSs X (st :: rest) (tSeq t u) := by
  intro pins s σ H D I h
  refine wpAny_execs_cons (thn (h1 pins s σ H { D with nx := u D } I h) fun f s1 q => ?_)
  cases f with
  | next =>
    obtain ⟨σ', H', I', q⟩ := q
    exact h2 pins s1 σ' H' D I' q
  | ret v => exact q
  | brk => exact q
  | cont => exact q
theorem pss_one (h1 : PS X st t) : PSs X [st] t := by
  intro pins s σ H D I h
  refine wpAny_execs_cons (thn (h1 pins s σ H D I h) fun f s1 q => ?_)
  cases f with
  | next => exact wpAny_execs_nil q
  | ret v => exact q
  | brk => exact q
  | cont => exact q
def tBreak : TS := fun D σ H => D.bk σ H
def tCont : TS := fun D σ H => D.ct σ H
/-- in a def's body nothing is shown -/
theorem Inv.quiet {pins : List (Addr × Obj)} {σ : St} {H : Hp} {s : Shared} (I : Inv X pins σ H s) : interactive X.env = false := by simp [interactive, I.ok.kind]
/-- an expression whose value is dropped -/
def tDrop (te : TE) : TS := fun D σ H => te σ H fun _ H1 => D.nx σ H1
theorem ps_expr (he : PE X e te) (hs : swapsWith e none pos.line X.env = pure false := by rfl) : PS X (.Expr e pos) (tDrop te) := by
  intro pins s σ H D I h
  exact wpAny_Expr_any (thn (he pins s σ H _ I h) fun v s1 ⟨x, H1, I1, r1, q1⟩ => ⟨σ, H1, I1, q1⟩) I.quiet hs
def tRet (te : TE) : TS := fun D σ H => te σ H D.rt
theorem ps_ret (he : PE X e te) : PS X (.Return (some e) pos) (tRet te) := by
  intro pins s σ H D I h
  exact wpAny_Return_some (thn (he pins s σ H _ I h) fun v s1 ⟨x, H1, I1, r1, q1⟩ => ⟨x, σ, H1, I1, r1, q1⟩)
def tRetN : TS := fun D _ H => D.rt .non H
def tIfS (c : TT) (t u : TS) : TS := fun D σ H => c σ H fun b H1 => if b = true then t D σ H1 else u D σ H1
theorem ps_if {c : Expr} {a b : List Stmt} {tc : TT} (hc : PT X c tc) (ha : PSs X a t) (hb : PSs X b u) : PS X (.If c a b pos) (tIfS tc t u) := by
  intro pins s σ H D I h
  refine wpAny_If (thn (hc pins s σ H _ I h) fun d s1 ⟨H1, I1, q1⟩ => ?_)
  cases d with
  | true => exact ha pins s1 σ H1 D I1 q1
  | false => exact hb pins s1 σ H1 D I1 q1
/-- code that the proof never comes to -/
def tNever : TS := fun _ _ _ => False
end

/-! ### targets -/
abbrev TG := V → St → Hp → (St → Hp → Prop) → Prop
abbrev TGs := List V → St → Hp → (St → Hp → Prop) → Prop
def PG (X : Cx) (target : Expr) (t : TG) : Prop :=
  ∀ (pins : List (Addr × Obj)) (s : Shared) (σ : St) (H : Hp) (v : V) (u : Value) (Q : St → Hp → Prop), Inv X pins σ H s → RelV v u → t v σ H Q →
    wpAny (model X.prog X.w) X.A (assign target X.env u) (fun _ s' => ∃ σ' H', Inv X pins σ' H' s' ∧ Q σ' H') X.xe s
/-- several targets, one after another -/
def PGs (X : Cx) (ts : List Expr) (t : TGs) : Prop :=
  ∀ (pins : List (Addr × Obj)) (s : Shared) (σ : St) (H : Hp) (vs : List V) (us : List Value) (Q : St → Hp → Prop), Inv X pins σ H s → Vals vs us → t vs σ H Q →
    wpAny (model X.prog X.w) X.A (assignInOrder ((assignEach ts X.env).map (·.2)) us) (fun _ s' => ∃ σ' H', Inv X pins σ' H' s' ∧ Q σ' H') X.xe s
/-- o[i] = v, by values -/
abbrev TSet := V → V → V → Hp → (Hp → Prop) → Prop
def PSet (X : Cx) (t : TSet) : Prop :=
  ∀ (pins : List (Addr × Obj)) (s : Shared) (σ : St) (H : Hp) (o i v : V) (ov iv u : Value) (Q : Hp → Prop), Inv X pins σ H s → RelV o ov → RelV i iv → RelV v u → t o i v H Q →
    wpAny (model X.prog X.w) X.A (setItem ov iv u) (fun _ s' => ∃ H', Inv X pins σ H' s' ∧ Q H') X.xe s
/-- a op= b, by values -/
abbrev TIp := V → V → Hp → VK → Prop
def PIp (X : Cx) (op : Operator) (t : TIp) : Prop :=
  ∀ (pins : List (Addr × Obj)) (s : Shared) (σ : St) (H : Hp) (x y : V) (v u : Value) (Q : VK), Inv X pins σ H s → RelV x v → RelV y u → t x y H Q →
    wpAny (model X.prog X.w) X.A (inplaceOp op v u) (EP X pins σ Q) X.xe s
section
variable {X : Cx} {pos : Pos}
def gName (i : Nat) : TG := fun v σ H Q => Q (σ.set i (some v)) H
theorem pg_name {i : Nat} {x : Str} (hN : X.N.Nodup) (hi : X.N[i]? = some x) (hx : Loc X.env.scope x) (hf : X.fn x = true ∨ X.env.scope.names.lookup x = some .local := by first | exact .inl rfl | exact .inr rfl | assumption) : PG X (.Name x pos) (gName i) := by
  intro pins s σ H v u Q I r h
  exact wpAny_assign_Name (store_ok I hN hi hx r (fun s' I' => ⟨_, H, I', h⟩) hf)
def gNil : TGs := fun vs σ H Q => vs = [] ∧ Q σ H
def gCons (t : TG) (u : TGs) : TGs := fun vs σ H Q => ∃ v r, vs = v :: r ∧ t v σ H fun σ' H' => u r σ' H' Q
theorem pgs_nil : PGs X [] gNil := by
  intro pins s σ H vs us Q I r h
  obtain ⟨e, h⟩ := h
  subst e
  cases r
  exact assignInOrder_nil ⟨σ, H, I, h⟩
theorem pgs_cons {e : Expr} {es : List Expr} {t : TG} {u : TGs} (h1 : PG X e t) (h2 : PGs X es u)
    (hs : (assignEach (e :: es) X.env).map (·.2) = assign e X.env :: (assignEach es X.env).map (·.2) := by rfl) : PGs X (e :: es) (gCons t u) := by
  intro pins s σ H vs us Q I r h
  obtain ⟨v, vr, e1, h⟩ := h
  subst e1
  cases r with
  | cons r rr =>
    rw [hs]
    refine assignInOrder_cons (thn (h1 pins s σ H _ _ _ I r h) fun _ s1 ⟨σ1, H1, I1, q1⟩ => ?_)
    exact h2 pins s1 σ1 H1 _ _ Q I1 rr q1
/-- (a, b, ..) = a tuple of that length -/
def gTup (K : PySem.W.Frag) (n : Nat) (t : TGs) : TG := fun v σ H Q => ∃ a xs, v = .ref a ∧ SqT K H a xs ∧ xs.length = n ∧ t xs σ H Q
theorem pg_tup {es : List Expr} {k : Nat} {t : TGs} {n : Nat} (hc : X.calm = true) (h : PGs X es t)
    (hn : (assignEach es X.env).length = n := by rfl) (hst : (assignEach es X.env).findIdx? (·.1) = none := by rfl) : PG X (.Tuple es k pos) (gTup X.K n t) := by
  intro pins s σ H v u Q I r hw
  obtain ⟨a, xs, e1, hq, hl, hw⟩ := hw
  subst e1
  cases r
  obtain ⟨its, rv, ht, hz⟩ := I.tuple hq
  refine assign_Tuple_tuple (I.ok.hd hc) ht (by simp [hn, ← hl, rv.length]) hst fun h' hx => ?_
  have I1 : Inv X pins σ H { s with heap := h' } := I.kept (t' := s.toks) fun b o e => hx b o (Nat.ne_of_lt (Heap.lt_size e)) e
  exact h pins _ σ H xs _ Q I1 (by simpa using rv) hw
/-- o[i] = .. -/
def gSub (to ti : TE) (t : TSet) : TG := fun v σ H Q => to σ H fun o H1 => ti σ H1 fun i H2 => t o i v H2 fun H3 => Q σ H3
theorem pg_sub {o i : Expr} {to ti : TE} {t : TSet} (ho : PE X o to) (hi : PE X i ti) (hs : PSet X t)
    (ha : ∀ v, assign (.Subscript o i pos) X.env v = (do
      let ov ← holding [v] (eval o X.env)
      let iv ← holding [v, ov] (eval i X.env)
      standAt pos
      holding [v, ov, iv] (setItem ov iv v)
      release [v, ov, iv] []) := by intro _; rfl) : PG X (.Subscript o i pos) (gSub to ti t) := by
  intro pins s σ H v u Q I r h
  rw [ha]
  refine wpAny_bind (wpAny_holding (thn (ho pins s σ H _ I h) fun ov s1 ⟨x, H1, I1, r1, q1⟩ => ?_))
  refine wpAny_bind (wpAny_holding (thn (hi pins s1 σ H1 _ I1 q1) fun iv s2 ⟨y, H2, I2, r2, q2⟩ => ?_))
  refine wpAny_bind (wpAny_standAt (wpAny_bind (wpAny_holding (thn (hs pins s2 σ H2 x y v ov iv u _ I2 r1 r2 r q2) fun _ s3 ⟨H3, I3, q3⟩ => ?_))))
  exact wpAny_release ⟨σ, H3, I3, q3⟩
/-- target = value -/
def tAsg (te : TE) (g : TG) : TS := fun D σ H => te σ H fun x H1 => g x σ H1 D.nx
theorem ps_asg {tg e : Expr} {te : TE} {g : TG} (he : PE X e te) (hg : PG X tg g) (hs : swapsWithSole [tg] e pos.line X.env = pure false := by rfl) (hw : swappedStores [tg] e X.env = pure none := by rfl)
    (h1 : (assignEach [tg] X.env).map (·.2) = [assign tg X.env] := by rfl) : PS X (.Assign [tg] e pos) (tAsg te g) := by
  intro pins s σ H D I h
  refine wpAny_Assign_stores (thn (he pins s σ H _ I h) fun v s1 ⟨x, H1, I1, r1, q1⟩ => ?_) hs hw
  rw [h1]
  exact thn (hg pins s1 σ H1 x v _ I1 r1 q1) fun _ s2 q => q
/-- name = value -/
theorem ps_set {i : Nat} {x : Str} {e : Expr} {te : TE} {pos' : Pos} (hN : X.N.Nodup) (hi : X.N[i]? = some x) (hx : Loc X.env.scope x) (he : PE X e te) (hs : swapsWith e (some (.Name x pos')) pos.line X.env = pure false := by rfl) (hf : X.fn x = true ∨ X.env.scope.names.lookup x = some .local := by first | exact .inl rfl | exact .inr rfl | assumption) :
    PS X (.Assign [.Name x pos'] e pos) (tAsg te (gName i)) := by
  intro pins s σ H D I h
  refine wpAny_Assign_Name (thn (he pins s σ H _ I h) fun v s1 ⟨y, H1, I1, r1, q1⟩ => ?_) hs
  exact store_ok I1 hN hi hx r1 (fun s2 I2 => ⟨_, H1, I2, q1⟩) hf
/-- a, b = x, y with plain local names: stored from the right; the pair itself is not tracked (the opening rows as in PyProof/Rows/TupAssign.lean:23) -/
def tPar (i j : Nat) (ta : TA) : TS := fun D σ H => ta σ H fun vs H1 => ∃ v w, vs = [v, w] ∧ D.nx ((σ.set i (some v)).set j (some w)) H1
/-- name op= e -/
def tAug (i : Nat) (te : TE) (ti : TIp) : TS := fun D σ H => ∃ x, σ[i]? = some (some x) ∧ te σ H fun y H1 => ti x y H1 fun z H2 => D.nx (σ.set i (some z)) H2
/-- o[i] op= e -/
def tAugS (to ti te : TE) (tget : V → V → Hp → VK → Prop) (tip : TIp) (tset : TSet) : TS := fun D σ H => to σ H fun o H1 => ti σ H1 fun i H2 => tget o i H2 fun x H3 => te σ H3 fun y H4 => tip x y H4 fun z H5 => tset o i z H5 fun H6 => D.nx σ H6
/-- o[i], by values -/
def PGet (X : Cx) (t : V → V → Hp → VK → Prop) : Prop :=
  ∀ (pins : List (Addr × Obj)) (s : Shared) (σ : St) (H : Hp) (o i : V) (ov iv : Value) (Q : VK), Inv X pins σ H s → RelV o ov → RelV i iv → t o i H Q →
    wpAny (model X.prog X.w) X.A (getItem ov iv) (EP X pins σ Q) X.xe s
/-- ints -/
def ipI (f : Int → Int → Int) : TIp := fun x y H Q => ∃ i j, x = .int i ∧ y = .int j ∧ Q (.int (f i j)) H
end

/-! ### while -/
section
variable {X : Cx} {pos : Pos}
/-- the invariant W with its measure -/
def tWhile (c : TT) (tb : TS) : TS := fun D σ H => ∃ W : Nat → St → Hp → Prop, (∃ m, W m σ H) ∧ ∀ m σ H, W m σ H →
  c σ H fun b H1 => if b = true then ∃ N : St → Hp → Prop, (∀ σ' H', N σ' H' → ∃ m', m' < m ∧ W m' σ' H') ∧ tb { D with nx := N, ct := N, bk := D.nx } σ H1 else D.nx σ H1
end

/-! ### what a loop or a comprehension walks -/
/-- at turn i: it yields x (the heap may grow), or it stops -/
structure It where
  go : Nat → Hp → Prop
  yld : Nat → Hp → V → Hp → Prop
  stop : Nat → Hp → Prop
/-- the iterator's own objects may turn: they are not the frame's, not pinned, younger than the entry (or a comprehension's own) -/
def FpOk (X : Cx) (pins : List (Addr × Obj)) (H : Hp) (b : Addr) : Prop :=
  H b = none ∧ b ≠ X.env.locals ∧ b ∉ X.fs ∧ (b ∈ X.ex ∨ X.s₀.heap.objs.size ≤ b) ∧ (∀ x c, X.env.cells.lookup x = some c → c ≠ b) ∧ ∀ p ∈ X.pn ++ pins, p.1 ≠ b
theorem Inv.fpOk {X : Cx} {pins : List (Addr × Obj)} {σ : St} {H H' : Hp} {s : Shared} {b : Addr} (I : Inv X pins σ H s) (hb : s.heap.objs.size ≤ b) (hn : H' b = none) : FpOk X pins H' b := by
  refine ⟨hn, Nat.ne_of_gt (Nat.lt_of_lt_of_le I.lt hb), I.nofs hb, .inr (Nat.le_trans I.sz hb), fun x c e z => ?_, fun p hp z => ?_⟩
  · obtain ⟨v, q⟩ := I.cell x c e
    exact absurd (Nat.lt_of_lt_of_le q.lt (by rw [z]; exact hb)) (Nat.lt_irrefl _)
  · exact absurd (Nat.lt_of_lt_of_le (Heap.lt_size (I.pin p hp).1) (by rw [z]; exact hb)) (Nat.lt_irrefl _)
structure Turn (P : Program) (w : World) (K : PySem.W.Frag) (tg : Expr) (J : It) (fp : List Addr) (it : Addr) (tn : Nat → Heap → Prop) : Prop where
  mem : it ∈ fp
  obj : ∀ i h, tn i h → ∀ b ∈ fp, ∃ o, h.get? b = some o ∧ ∀ v, o.data ≠ .cell v
  keep : ∀ i h h', tn i h → (∀ b ∈ fp, ∀ o, h.get? b = some o → h'.get? b = some o) → tn i h'
  item : ∀ (X : Cx), X.prog = P → X.w = w → X.K = K → X.calm = true → ∀ (i : Nat) (pins : List (Addr × Obj)) (s : Shared) (σ : St) (H : Hp) (E : Value → Shared → Prop), Inv X pins σ H s → (∀ b ∈ fp, FpOk X pins H b) → tn i s.heap → J.go i H →
    wpAny (model P w) X.A (pyNext (.ref it)) (fun r s1 => ∃ u, r = some u ∧
      wpAny (model P w) X.A (letOwnedTupleGo tg (.ref it) u) (fun _ s2 => ∃ x H', Inv X pins σ H' s2 ∧ RelV x u ∧ J.yld i H x H' ∧ tn (i + 1) s2.heap ∧ ∀ b ∈ fp, H' b = none) E s1) E s
  done : ∀ (X : Cx), X.prog = P → X.w = w → X.K = K → X.calm = true → ∀ (i : Nat) (pins : List (Addr × Obj)) (s : Shared) (σ : St) (H : Hp) (E : Value → Shared → Prop), Inv X pins σ H s → (∀ b ∈ fp, FpOk X pins H b) → tn i s.heap → J.stop i H →
    wpAny (model P w) X.A (pyNext (.ref it)) (fun r s1 => r = none ∧ Inv X pins σ H s1) E s
  self : ∀ (A : Around) (i : Nat) (s : Shared) (Q : Value → Shared → Prop) (E : Value → Shared → Prop), tn i s.heap → Q (.ref it) s → wpAny (model P w) A (pyIter (.ref it)) Q E s
abbrev TI := St → Hp → (It → Hp → Prop) → Prop
/-- an iterator has come -/
def PIE (X : Cx) (pins : List (Addr × Obj)) (σ : St) (tg : Expr) (R : It → Hp → Prop) (itv : Value) (s2 : Shared) : Prop :=
  ∃ (it : Addr) (fp : List Addr) (tn : Nat → Heap → Prop) (J : It) (H' : Hp), itv = .ref it ∧ Inv X pins σ H' s2 ∧ Turn X.prog X.w X.K tg J fp it tn ∧ tn 0 s2.heap ∧ (∀ b ∈ fp, FpOk X pins H' b) ∧ R J H'
def PI (X : Cx) (tg iter : Expr) (wi : TI) : Prop :=
  ∀ (pins : List (Addr × Obj)) (s : Shared) (σ : St) (H : Hp) (R : It → Hp → Prop), Inv X pins σ H s → wi σ H R →
    wpAny (model X.prog X.w) X.A (eval iter X.env) (fun v s1 => wpAny (model X.prog X.w) X.A (pyIter v) (PIE X pins σ tg R) X.xe s1) X.xe s

/-- the step ahead of the store is nothing for an iterator that keeps no tuple -/
theorem go_of {M : Model} {A : Around} {E : Value → Shared → Prop} {s : Shared} {tg : Expr} {it : Addr} {u : Value} {o : Obj} {n : String} {vs : Array Value} {Q : Unit → Shared → Prop} (ho : s.heap.get? it = some o) (hc : o.cls = .type n) (hd : o.data = .fields vs)
    (hn : ["enumerate", "zip", "dict_itemiterator", "dict_reverseitemiterator", "odict_iterator", "itertools.zip_longest", "itertools.pairwise"].contains n = false) (hQ : Q () s) : wpAny M A (letOwnedTupleGo tg (.ref it) u) Q E s := by
  unfold letOwnedTupleGo
  cases tg <;> first
    | exact wpAny_pure hQ
    | (cases u <;> first
        | exact wpAny_pure hQ
        | (refine wpAny_bind (wpAny_load ho ?_)
           rw [hc, hd]
           show wpAny M A (if (["enumerate", "zip", "dict_itemiterator", "dict_reverseitemiterator", "odict_iterator", "itertools.zip_longest", "itertools.pairwise"].contains n && vs[0]? == some (rawInt _)) = true then _ else _) Q E s
           rw [if_neg (by intro h; rw [hn, Bool.false_and] at h; cases h)]
           exact wpAny_pure hQ))

/-- the list at a, as it stands at each turn (a loop may append to it) -/
def Itl (K : PySem.W.Frag) (a : Addr) : It :=
  ⟨fun i H => ∃ xs x, SqL K H a xs ∧ xs[i]? = some x, fun i H x H' => H' = H ∧ ∀ xs, SqL K H a xs → xs[i]? = some x, fun i H => ∃ xs, SqL K H a xs ∧ xs.length ≤ i⟩
def Itt (K : PySem.W.Frag) (a : Addr) : It :=
  ⟨fun i H => ∃ xs x, SqT K H a xs ∧ xs[i]? = some x, fun i H x H' => H' = H ∧ ∀ xs, SqT K H a xs → xs[i]? = some x, fun i H => ∃ xs, SqT K H a xs ∧ xs.length ≤ i⟩
/-- lo, lo + 1, .. (n of them) -/
def Itr (lo : Int) (n : Nat) : It := ⟨fun i _ => i < n, fun i H x H' => H' = H ∧ x = .int (lo + i), fun i _ => n ≤ i⟩
theorem turn_list {P : Program} {w : World} {K : PySem.W.Frag} {tg : Expr} (a it : Addr) : Turn P w K tg (Itl K a) [it] it (fun i h => h.IsListIter it a i) where
  mem := by simp
  obj := fun i h st b hb => by
    have e : b = it := by simpa using hb
    subst e
    obtain ⟨o, e, c, d⟩ := st
    exact ⟨o, e, fun v z => by rw [d] at z; cases z⟩
  keep := fun i h h' st k => st.at fun o e => k it (by simp) o e
  item := by
    intro X hP hw hK hc i pins s σ H E I hf st hg
    subst hP hw hK
    obtain ⟨xs, x, hq, hx⟩ := hg
    obtain ⟨its, rv, p, hz⟩ := I.list hq
    obtain ⟨u, hu, ru⟩ := rv.get hx
    obtain ⟨f0, f1, f2, f3, f4, f5⟩ := hf it (by simp)
    refine wpAny_pyNext_list_item st p.isList (x := u) (by simpa using hu) fun h' st' sb => ?_
    have I1 : Inv X pins σ H { s with heap := h' } := I.turned (t' := s.toks) (fun b o hb e => (sb.2 b hb).trans e) f0 f1 f3 f4 f5
    obtain ⟨o, e, c, d⟩ := id st'
    exact ⟨u, rfl, go_of (s := { s with heap := h' }) e c d (by decide) ⟨x, H, I1, ru, ⟨rfl, fun ys hy => by rw [I.list_inj hy hq]; exact hx⟩, st', fun b hb => (hf b hb).1⟩⟩
  done := by
    intro X hP hw hK hc i pins s σ H E I hf st hg
    subst hP hw hK
    obtain ⟨xs, hq, hx⟩ := hg
    obtain ⟨its, rv, p, hz⟩ := I.list hq
    obtain ⟨f0, f1, f2, f3, f4, f5⟩ := hf it (by simp)
    have hl := rv.length
    exact wpAny_pyNext_list_end (I.ok.hd hc) st p.isList (by simp; omega) fun h' eb => ⟨rfl, I.turned (t' := s.toks) (fun b o hb e => eb b o hb e) f0 f1 f3 f4 f5⟩
  self := fun _ _ _ _ _ st h => wpAny_pyIter_listiter st h
theorem turn_tuple {P : Program} {w : World} {K : PySem.W.Frag} {tg : Expr} (a it : Addr) : Turn P w K tg (Itt K a) [it] it (fun i h => h.IsTupleIter it a i) where
  mem := by simp
  obj := fun i h st b hb => by
    have e : b = it := by simpa using hb
    subst e
    obtain ⟨o, e, c, d⟩ := st
    exact ⟨o, e, fun v z => by rw [d] at z; cases z⟩
  keep := fun i h h' st k => st.at fun o e => k it (by simp) o e
  item := by
    intro X hP hw hK hc i pins s σ H E I hf st hg
    subst hP hw hK
    obtain ⟨xs, x, hq, hx⟩ := hg
    obtain ⟨its, rv, p, hz⟩ := I.tuple hq
    obtain ⟨u, hu, ru⟩ := rv.get hx
    obtain ⟨f0, f1, f2, f3, f4, f5⟩ := hf it (by simp)
    refine wpAny_pyNext_tuple_item st (show s.heap.IsTuple a its.toArray from p) (x := u) (by simpa using hu) fun h' st' sb => ?_
    have I1 : Inv X pins σ H { s with heap := h' } := I.turned (t' := s.toks) (fun b o hb e => (sb.2 b hb).trans e) f0 f1 f3 f4 f5
    obtain ⟨o, e, c, d⟩ := id st'
    exact ⟨u, rfl, go_of (s := { s with heap := h' }) e c d (by decide) ⟨x, H, I1, ru, ⟨rfl, fun ys hy => by rw [I.tuple_inj hy hq]; exact hx⟩, st', fun b hb => (hf b hb).1⟩⟩
  done := by
    intro X hP hw hK hc i pins s σ H E I hf st hg
    subst hP hw hK
    obtain ⟨xs, hq, hx⟩ := hg
    obtain ⟨its, rv, p, hz⟩ := I.tuple hq
    obtain ⟨f0, f1, f2, f3, f4, f5⟩ := hf it (by simp)
    have hl := rv.length
    exact wpAny_pyNext_tuple_end (I.ok.hd hc) st (show s.heap.IsTuple a its.toArray from p) (by simp; omega) fun h' eb => ⟨rfl, I.turned (t' := s.toks) (fun b o hb e => eb b o hb e) f0 f1 f3 f4 f5⟩
  self := fun _ _ _ _ _ st h => wpAny_pyIter_tupleiter st h
theorem turn_range {P : Program} {w : World} {K : PySem.W.Frag} {tg : Expr} (it : Addr) (lo : Int) (n : Nat) : Turn P w K tg (Itr lo n) [it] it (fun i h => IsRangeIter h it (lo + (i : Nat) * 1) ((n : Int) - (i : Nat)) 1) where
  mem := by simp
  obj := fun i h st b hb => by
    have e : b = it := by simpa using hb
    subst e
    exact ⟨_, st, fun v z => by
      have z' : Data.fields _ = Data.cell v := z
      cases z'⟩
  keep := fun i h h' st k => k it (by simp) _ st
  item := by
    intro X hP hw hK hc i pins s σ H E I hf st hg
    subst hP hw hK
    obtain ⟨f0, f1, f2, f3, f4, f5⟩ := hf it (by simp)
    have W := Walks.range (prog := X.prog) (w := X.w) (I.ok.hd hc) it lo 1 n
    refine W.item i s _ _ hg st fun v h' tk hv st' kk => ?_
    obtain ⟨t, rfl⟩ := hv
    have I1 : Inv X pins σ H { s with heap := h', toks := tk } := I.turned (fun b o hb e => kk b o (by simpa using hb) e) f0 f1 f3 f4 f5
    refine ⟨_, rfl, go_of (s := { s with heap := h', toks := tk }) (n := "range_iterator") st' rfl rfl (by decide) ⟨.int (lo + i), H, I1, ⟨t, ?_⟩, ⟨rfl, rfl⟩, st', fun b hb => (hf b hb).1⟩⟩
    rw [Int.mul_one]
  done := by
    intro X hP hw hK hc i pins s σ H E I hf st hg
    subst hP hw hK
    obtain ⟨f0, f1, f2, f3, f4, f5⟩ := hf it (by simp)
    exact wpAny_pyNext_range_end (I.ok.hd hc) st (by have : n ≤ i := hg; omega) fun h' eb => ⟨rfl, I.turned (t' := s.toks) (fun b o hb e => eb b o hb e) f0 f1 f3 f4 f5⟩
  self := fun _ _ _ _ _ st h => wpAny_pyIter_rangeiter st h
end L2

namespace L2
open PySem PySem.Spec PyProof.Rows
section
variable {X : Cx} {tg : Expr}
def iList (K : PySem.W.Frag) (tl : TE) : TI := fun σ H R => tl σ H fun x H1 => ∃ a, x = .ref a ∧ (∃ xs, SqL K H1 a xs) ∧ R (Itl K a) H1
def iTup (K : PySem.W.Frag) (tl : TE) : TI := fun σ H R => tl σ H fun x H1 => ∃ a, x = .ref a ∧ (∃ xs, SqT K H1 a xs) ∧ R (Itt K a) H1
theorem pi_list {l : Expr} {tl : TE} (hl : PE X l tl) : PI X tg l (iList X.K tl) := by
  intro pins s σ H R I h
  refine thn (hl pins s σ H _ I h) fun v s1 ⟨x, H1, I1, r1, q1⟩ => ?_
  obtain ⟨a, e, ⟨xs, hq⟩, q⟩ := q1
  subst e
  cases r1
  obtain ⟨its, rv, p, hz⟩ := I1.list hq
  refine wpAny_pyIter_list p.isList ?_
  refine ⟨s1.heap.objs.size, [s1.heap.objs.size], _, _, H1, rfl, I1.kept (t' := s1.toks) fun b o e => Heap.get?_push_of_some _ e, turn_list a _, ⟨_, Heap.get?_push_size _ rfl, rfl, rfl⟩, fun b hb => ?_, q⟩
  have e : b = s1.heap.objs.size := by simpa using hb
  subst e
  exact I1.fpOk (Nat.le_refl _) (I1.hok.fresh (Nat.le_refl _))
theorem pi_tup {l : Expr} {tl : TE} (hl : PE X l tl) : PI X tg l (iTup X.K tl) := by
  intro pins s σ H R I h
  refine thn (hl pins s σ H _ I h) fun v s1 ⟨x, H1, I1, r1, q1⟩ => ?_
  obtain ⟨a, e, ⟨xs, hq⟩, q⟩ := q1
  subst e
  cases r1
  obtain ⟨its, rv, p, hz⟩ := I1.tuple hq
  refine wpAny_pyIter_tuple (show s1.heap.IsTuple a its.toArray from p) ?_
  refine ⟨s1.heap.objs.size, [s1.heap.objs.size], _, _, H1, rfl, I1.kept (t' := s1.toks) fun b o e => Heap.get?_push_of_some _ e, turn_tuple a _, ⟨_, Heap.get?_push_size _ rfl, rfl, rfl⟩, fun b hb => ?_, q⟩
  have e : b = s1.heap.objs.size := by simpa using hb
  subst e
  exact I1.fpOk (Nat.le_refl _) (I1.hok.fresh (Nat.le_refl _))
/-- a range object just made, walked -/
theorem range_it {pins : List (Addr × Obj)} {σ : St} {H : Hp} {s : Shared} {R : It → Hp → Prop} {E : Value → Shared → Prop} {lo hi : Int} {t u v : Tok} {tk : Nat} (I : Inv X pins σ H s) (h1 : -(2 ^ 62) ≤ lo) (h2 : lo < 2 ^ 62) (h3 : -(2 ^ 62) ≤ hi) (h4 : hi < 2 ^ 62)
    (q : R (Itr lo (hi - lo).toNat) H) : wpAny (model X.prog X.w) X.A (pyIter (.ref s.heap.objs.size)) (PIE X pins σ tg R) E { s with heap := s.heap.push { cls := .type "range", data := .fields #[.int lo t, .int hi u, .int 1 v] }, toks := tk } := by
  refine wpAny_pyIter_range (IsRange.new ..) (small_one h1 h2 h3 h4) ?_
  have I1 : Inv X pins σ H { s with heap := s.heap.push { cls := .type "range", data := .fields #[.int lo t, .int hi u, .int 1 v] }, toks := tk } := I.kept fun b o e => Heap.get?_push_of_some _ e
  refine ⟨(s.heap.push { cls := .type "range", data := .fields #[.int lo t, .int hi u, .int 1 v] }).objs.size, [(s.heap.push { cls := .type "range", data := .fields #[.int lo t, .int hi u, .int 1 v] }).objs.size], _, _, H, rfl,
    I1.kept (t' := tk) fun b o e => Heap.get?_push_of_some _ e, turn_range _ lo (hi - lo).toNat, ?_, fun b hb => ?_, q⟩
  · have e1 : lo + ((0 : Nat) : Int) * 1 = lo := by simp
    have e2 : (((hi - lo).toNat : Nat) : Int) - ((0 : Nat) : Int) = Builtin.Range.rangeSize lo hi 1 := by rw [rangeSize_one]; split <;> omega
    show IsRangeIter _ _ (lo + ((0 : Nat) : Int) * 1) ((((hi - lo).toNat : Nat) : Int) - ((0 : Nat) : Int)) 1
    rw [e1, e2]
    exact Heap.get?_push_size _ rfl
  · have e : b = (s.heap.push { cls := .type "range", data := .fields #[.int lo t, .int hi u, .int 1 v] }).objs.size := by simpa using hb
    subst e
    exact I1.fpOk (Nat.le_refl _) (I1.hok.fresh (Nat.le_refl _))
def iRng1 (ta : TA) : TI := fun σ H R => ta σ H fun vs H1 => ∃ j : Int, vs = [.int j] ∧ -(2 ^ 62) ≤ j ∧ j < 2 ^ 62 ∧ R (Itr 0 j.toNat) H1
def iRng2 (ta : TA) : TI := fun σ H R => ta σ H fun vs H1 => ∃ i j : Int, vs = [.int i, .int j] ∧ (-(2 ^ 62) ≤ i ∧ i < 2 ^ 62 ∧ -(2 ^ 62) ≤ j ∧ j < 2 ^ 62) ∧ R (Itr i (j - i).toNat) H1
theorem pi_range1 {a : Expr} {ta : TA} {p pos : Pos} (hg : Gl X "range") (hm : X.mg "range" = none) (ha : PA X [a] ta) (hs : starEach [a] X.env = [(false, eval a X.env)] := by rfl) : PI X tg (.Call (.Name "range" p) [a] [] pos) (iRng1 ta) := by
  intro pins s σ H R I h
  refine Call_ (ld_blt I hg hm boot_range (PyProof.Rows.callWith_type1 (thn (ha pos pins s σ H _ I h) fun us s1 ⟨vs, H1, I1, r1, q1⟩ => ?_) hs rfl))
  obtain ⟨j, e, q1, q2, q⟩ := q1
  subst e
  cases r1 with
  | cons r rr =>
    cases rr
    obtain ⟨t, rfl⟩ := r
    exact call_range_1 (range_it I1 (by omega) (by omega) q1 q2 (by simpa using q))

/-! ### for -/
/-- W: the invariant by the turn and a measure; N: what the body is to reach -/
def tFor (wi : TI) (g : TG) (tb : TS) : TS := fun D σ H => wi σ H fun J H1 => ∃ W : Nat → Nat → St → Hp → Prop, (∃ m, W 0 m σ H1) ∧ ∀ i m σ H, W i m σ H →
  (J.stop i H ∧ D.nx σ H) ∨ (J.go i H ∧ ∃ N : St → Hp → Prop, (∀ σ' H', N σ' H' → ∃ m', m' < m ∧ W (i + 1) m' σ' H') ∧ ∀ x H', J.yld i H x H' → g x σ H' fun σ2 H2 => tb { D with nx := N, ct := N, bk := D.nx } σ2 H2)
/-- the records at fp as they stand -/
def pinsAt (fp : List Addr) (h : Heap) : List (Addr × Obj) := fp.filterMap fun b => (h.get? b).map fun o => (b, o)
theorem mem_pinsAt {fp : List Addr} {h : Heap} {b : Addr} {o : Obj} (hb : b ∈ fp) (e : h.get? b = some o) : (b, o) ∈ pinsAt fp h := List.mem_filterMap.mpr ⟨b, hb, by rw [e]; rfl⟩
theorem of_pinsAt {fp : List Addr} {h : Heap} {p : Addr × Obj} (hp : p ∈ pinsAt fp h) : p.1 ∈ fp ∧ h.get? p.1 = some p.2 := by
  obtain ⟨b, hb, e⟩ := List.mem_filterMap.mp hp
  cases q : h.get? b with
  | none => rw [q] at e; cases e
  | some o =>
    rw [q] at e
    have e' : (b, o) = p := Option.some.inj e
    subst e'
    exact ⟨hb, q⟩
theorem Inv.pinned {pins : List (Addr × Obj)} {σ : St} {H : Hp} {s : Shared} {fp : List Addr} (I : Inv X pins σ H s) (hf : ∀ b ∈ fp, FpOk X pins H b) (ho : ∀ b ∈ fp, ∃ o, s.heap.get? b = some o ∧ ∀ v, o.data ≠ .cell v) : Inv X (pins ++ pinsAt fp s.heap) σ H s :=
  I.pins_of fun p hp => (List.mem_append.mp hp).elim (fun z => I.pin p (List.mem_append_right _ z)) fun z => by
    obtain ⟨hb, e⟩ := of_pinsAt z
    obtain ⟨f0, f1, f2, _⟩ := hf p.1 hb
    obtain ⟨o, e', d⟩ := ho p.1 hb
    rw [e] at e'; cases e'
    exact ⟨e, f0, f1, f2, d⟩
theorem Inv.unpinned {pins pl : List (Addr × Obj)} {σ : St} {H : Hp} {s : Shared} (I : Inv X (pins ++ pl) σ H s) : Inv X pins σ H s := I.pins_of fun p hp => I.pin p (List.mem_append_right _ (List.mem_append_left _ hp))
theorem ps_for {iter : Expr} {body : List Stmt} {wi : TI} {g : TG} {tb : TS} {pos : Pos} (hp : PassesOwn (model X.prog X.w) X.A X.env X.xe) (hc : X.calm = true) (hi : PI X tg iter wi) (hg : PG X tg g) (hb : PSs X body tb)
    (hs : ∀ x, foldedSetIterable iter X.env x = pure x := by intro _; rfl) : PS X (.For tg iter body [] pos) (tFor wi g tb) := by
  intro pins s σ H D I h
  refine wpAny_For (thn (hi pins s σ H _ I h) fun v s1 h1 => thn h1 fun itv s2 h2 => ?_) hs
  obtain ⟨it, fp, tn, J, H2, e, I2, T, st2, f2, W, ⟨m0, w0⟩, turn⟩ := h2
  subst e
  -- what stays true of the iterator's objects through the loop
  have stat : ∀ {H' : Hp}, (∀ b ∈ fp, H' b = none) → ∀ b ∈ fp, FpOk X pins H' b := fun hn b hb => ⟨hn b hb, (f2 b hb).2⟩
  refine codeAny_forLoop_any (fun n s' => ∃ i σ' H', Inv X pins σ' H' s' ∧ tn i s'.heap ∧ (∀ b ∈ fp, H' b = none) ∧ W i n σ' H') ?_ m0 ⟨0, σ, H2, I2, st2, fun b hb => (f2 b hb).1, w0⟩
  rintro n s3 ⟨i, σ3, H3, I3, st3, fr3, w3⟩
  rcases turn i n σ3 H3 w3 with ⟨stop, qn⟩ | ⟨go, N, hN, step⟩
  · refine wpAny_passesOwn hp (thn (T.done X rfl rfl rfl hc i pins s3 σ3 H3 X.xe I3 (stat fr3) st3 stop) fun r s4 ⟨hr, I4⟩ => ?_)
    subst hr
    exact wpAny_execs_nil ⟨σ3, H3, I4, qn⟩
  · refine wpAny_passesOwn hp (thn (T.item X rfl rfl rfl hc i pins s3 σ3 H3 X.xe I3 (stat fr3) st3 go) fun r s4 ⟨u, hr, h4⟩ => ?_)
    subst hr
    refine wpAny_passesOwn hp (thn h4 fun _ s5 ⟨x, H5, I5, r5, y5, st5, fr5⟩ => ?_)
    have I5' := I5.pinned (stat fr5) (T.obj _ _ st5)
    refine wpAny_passesOwn hp (thn (hg _ s5 σ3 H5 x u _ I5' r5 (step x H5 y5)) fun _ s6 ⟨σ6, H6, I6, q6⟩ => ?_)
    refine wpAny_passesOwn hp (thn (hb _ s6 σ6 H6 _ I6 q6) fun f s7 q7 => ?_)
    have again : ∀ {σ7 : St} {H7 : Hp}, Inv X (pins ++ pinsAt fp s5.heap) σ7 H7 s7 → N σ7 H7 → ∃ m, m < n ∧ ∃ i σ' H', Inv X pins σ' H' s7 ∧ tn i s7.heap ∧ (∀ b ∈ fp, H' b = none) ∧ W i m σ' H' := fun {σ7 H7} I7 n7 => by
      obtain ⟨m', hm, w7⟩ := hN σ7 H7 n7
      refine ⟨m', hm, i + 1, σ7, H7, I7.unpinned, T.keep _ _ _ st5 fun b hb o e => (I7.pin (b, o) (List.mem_append_right _ (List.mem_append_right _ (mem_pinsAt hb e)))).1, fun b hb => ?_, w7⟩
      obtain ⟨o, e, d⟩ := T.obj _ _ st5 b hb
      exact (I7.pin (b, o) (List.mem_append_right _ (List.mem_append_right _ (mem_pinsAt hb e)))).2.1
    cases f with
    | next => obtain ⟨σ7, H7, I7, n7⟩ := q7; exact again I7 n7
    | cont => obtain ⟨σ7, H7, I7, n7⟩ := q7; exact again I7 n7
    | brk => obtain ⟨σ7, H7, I7, q7⟩ := q7; exact ⟨σ7, H7, I7.unpinned, q7⟩
    | ret v => obtain ⟨x7, σ7, H7, I7, r7, q7⟩ := q7; exact ⟨x7, σ7, H7, I7.unpinned, r7, q7⟩
end

/-! ### the forms one uses -/
/-- over a list that the body leaves as it is -/
theorem for_list {K : PySem.W.Frag} {a : Addr} {xs : List V} {g : TG} {tb : TS} {D : Ends} {σ : St} {H : Hp} (Pv : Nat → St → Hp → Prop) (h0 : Pv 0 σ H) (hl : ∀ i σ H, i ≤ xs.length → Pv i σ H → SqL K H a xs)
    (hs : ∀ i x σ H, xs[i]? = some x → Pv i σ H → g x σ H fun σ2 H2 => tb { D with nx := Pv (i + 1), ct := Pv (i + 1), bk := D.nx } σ2 H2) (hd : ∀ σ H, Pv xs.length σ H → D.nx σ H) :
    ∃ W : Nat → Nat → St → Hp → Prop, (∃ m, W 0 m σ H) ∧ ∀ i m σ H, W i m σ H →
      ((Itl K a).stop i H ∧ D.nx σ H) ∨ ((Itl K a).go i H ∧ ∃ N : St → Hp → Prop, (∀ σ' H', N σ' H' → ∃ m', m' < m ∧ W (i + 1) m' σ' H') ∧ ∀ x H', (Itl K a).yld i H x H' → g x σ H' fun σ2 H2 => tb { D with nx := N, ct := N, bk := D.nx } σ2 H2) := by
  refine ⟨fun i m σ H => m = xs.length - i ∧ i ≤ xs.length ∧ Pv i σ H, ⟨xs.length, by simp, Nat.zero_le _, h0⟩, ?_⟩
  rintro i m σ H ⟨rfl, hi, p⟩
  have q := hl i σ H hi p
  by_cases hlt : i < xs.length
  · refine .inr ⟨⟨xs, xs[i], q, by simp [hlt]⟩, Pv (i + 1), fun σ' H' p' => ⟨xs.length - (i + 1), by omega, rfl, hlt, p'⟩, fun x H' y => ?_⟩
    obtain ⟨e, y⟩ := y
    subst e
    exact hs i x σ _ (y xs q) p
  · have e : i = xs.length := by omega
    subst e
    exact .inl ⟨⟨xs, q, Nat.le_refl _⟩, hd σ H p⟩
theorem for_tup {K : PySem.W.Frag} {a : Addr} {xs : List V} {g : TG} {tb : TS} {D : Ends} {σ : St} {H : Hp} (Pv : Nat → St → Hp → Prop) (h0 : Pv 0 σ H) (hl : ∀ i σ H, i ≤ xs.length → Pv i σ H → SqT K H a xs)
    (hs : ∀ i x σ H, xs[i]? = some x → Pv i σ H → g x σ H fun σ2 H2 => tb { D with nx := Pv (i + 1), ct := Pv (i + 1), bk := D.nx } σ2 H2) (hd : ∀ σ H, Pv xs.length σ H → D.nx σ H) :
    ∃ W : Nat → Nat → St → Hp → Prop, (∃ m, W 0 m σ H) ∧ ∀ i m σ H, W i m σ H →
      ((Itt K a).stop i H ∧ D.nx σ H) ∨ ((Itt K a).go i H ∧ ∃ N : St → Hp → Prop, (∀ σ' H', N σ' H' → ∃ m', m' < m ∧ W (i + 1) m' σ' H') ∧ ∀ x H', (Itt K a).yld i H x H' → g x σ H' fun σ2 H2 => tb { D with nx := N, ct := N, bk := D.nx } σ2 H2) := by
  refine ⟨fun i m σ H => m = xs.length - i ∧ i ≤ xs.length ∧ Pv i σ H, ⟨xs.length, by simp, Nat.zero_le _, h0⟩, ?_⟩
  rintro i m σ H ⟨rfl, hi, p⟩
  have q := hl i σ H hi p
  by_cases hlt : i < xs.length
  · refine .inr ⟨⟨xs, xs[i], q, by simp [hlt]⟩, Pv (i + 1), fun σ' H' p' => ⟨xs.length - (i + 1), by omega, rfl, hlt, p'⟩, fun x H' y => ?_⟩
    obtain ⟨e, y⟩ := y
    subst e
    exact hs i x σ _ (y xs q) p
  · have e : i = xs.length := by omega
    subst e
    exact .inl ⟨⟨xs, q, Nat.le_refl _⟩, hd σ H p⟩
theorem for_range {lo : Int} {n : Nat} {g : TG} {tb : TS} {D : Ends} {σ : St} {H : Hp} (Pv : Nat → St → Hp → Prop) (h0 : Pv 0 σ H)
    (hs : ∀ i σ H, i < n → Pv i σ H → g (.int (lo + i)) σ H fun σ2 H2 => tb { D with nx := Pv (i + 1), ct := Pv (i + 1), bk := D.nx } σ2 H2) (hd : ∀ σ H, Pv n σ H → D.nx σ H) :
    ∃ W : Nat → Nat → St → Hp → Prop, (∃ m, W 0 m σ H) ∧ ∀ i m σ H, W i m σ H →
      ((Itr lo n).stop i H ∧ D.nx σ H) ∨ ((Itr lo n).go i H ∧ ∃ N : St → Hp → Prop, (∀ σ' H', N σ' H' → ∃ m', m' < m ∧ W (i + 1) m' σ' H') ∧ ∀ x H', (Itr lo n).yld i H x H' → g x σ H' fun σ2 H2 => tb { D with nx := N, ct := N, bk := D.nx } σ2 H2) := by
  refine ⟨fun i m σ H => m = n - i ∧ i ≤ n ∧ Pv i σ H, ⟨n, by simp, Nat.zero_le _, h0⟩, ?_⟩
  rintro i m σ H ⟨rfl, hi, p⟩
  by_cases hlt : i < n
  · refine .inr ⟨hlt, Pv (i + 1), fun σ' H' p' => ⟨n - (i + 1), by omega, rfl, hlt, p'⟩, fun x H' y => ?_⟩
    obtain ⟨e, y⟩ := y
    subst e y
    exact hs i σ _ hlt p
  · have e : i = n := by omega
    subst e
    exact .inl ⟨Nat.le_refl _, hd σ H p⟩
end L2

namespace L2
open PySem PySem.Spec PyProof.Rows

abbrev R2 := V → V → Hp → VK → Prop
/-- a two-place operation on values: f is binaryOp op, inplaceOp op or compareOp op -/
def OpR (X : Cx) (f : Value → Value → Sem Value) (r : R2) : Prop :=
  ∀ (pins : List (Addr × Obj)) (s : Shared) (σ : St) (H : Hp) (x y : V) (v u : Value) (Q : VK), Inv X pins σ H s → RelV x v → RelV y u → r x y H Q →
    wpAny (model X.prog X.w) X.A (f v u) (EP X pins σ Q) X.xe s
/-- a one-place operation -/
def UnR (X : Cx) (f : Value → Sem Value) (r : V → Hp → VK → Prop) : Prop :=
  ∀ (pins : List (Addr × Obj)) (s : Shared) (σ : St) (H : Hp) (x : V) (v : Value) (Q : VK), Inv X pins σ H s → RelV x v → r x H Q →
    wpAny (model X.prog X.w) X.A (f v) (EP X pins σ Q) X.xe s
/-- a call of a value that is known (a builtin, a type) with values -/
def CallR (X : Cx) (f : Value) (r : List V → Hp → VK → Prop) : Prop :=
  ∀ (pins : List (Addr × Obj)) (s : Shared) (σ : St) (H : Hp) (xs : List V) (us : List Value) (Q : VK), Inv X pins σ H s → Vals xs us → r xs H Q →
    wpAny (model X.prog X.w) X.A (call f us) (EP X pins σ Q) X.xe s
/-- a value's truth -/
def TruR (X : Cx) (r : V → Hp → (Bool → Hp → Prop) → Prop) : Prop :=
  ∀ (pins : List (Addr × Obj)) (s : Shared) (σ : St) (H : Hp) (x : V) (v : Value) (Q : Bool → Hp → Prop), Inv X pins σ H s → RelV x v → r x H Q →
    wpAny (model X.prog X.w) X.A (truthy v) (TP X pins σ Q) X.xe s

def tOp (r : R2) (ta tb : TE) : TE := fun σ H Q => ta σ H fun x H1 => tb σ H1 fun y H2 => r x y H2 Q
def tUn (r : V → Hp → VK → Prop) (ta : TE) : TE := fun σ H Q => ta σ H fun x H1 => r x H1 Q
/-- ints in, under C, and a value out -/
def rI (C : Int → Int → Prop) (g : Int → Int → V) : R2 := fun x y H Q => ∃ i j, x = .int i ∧ y = .int j ∧ C i j ∧ Q (g i j) H
def rI0 (g : Int → Int → V) : R2 := fun x y H Q => ∃ i j, x = .int i ∧ y = .int j ∧ Q (g i j) H
def rU (g : Int → V) : V → Hp → VK → Prop := fun x H Q => ∃ i, x = .int i ∧ Q (g i) H

section
variable {X : Cx} {a b c : Expr} {ta tb tc : TE} {pos : Pos}

theorem binT (ha : PE X a ta) (hb : PE X b tb) {pins : List (Addr × Obj)} {s : Shared} {σ : St} {H : Hp} {R : V → V → Hp → Prop} (I : Inv X pins σ H s)
    (h : ta σ H fun x H1 => tb σ H1 fun y H2 => R x y H2) {Q : Value → Shared → Prop} {f : Value → Value → Sem Value}
    (hf : ∀ v u s2 x y H2, Inv X pins σ H2 s2 → RelV x v → RelV y u → R x y H2 → wpAny (model X.prog X.w) X.A (f v u) Q X.xe s2) :
    wpAny (model X.prog X.w) X.A (eval a X.env) (fun v s₁ => wpAny (model X.prog X.w) X.A (eval b X.env) (fun u s₂ => wpAny (model X.prog X.w) X.A (f v u) Q X.xe s₂) X.xe s₁) X.xe s := by
  refine thn (ha pins s σ H _ I h) fun v s1 ⟨x, H1, I1, r1, q1⟩ => ?_
  refine thn (hb pins s1 σ H1 _ I1 q1) fun u s2 ⟨y, H2, I2, r2, q2⟩ => ?_
  exact hf v u s2 x y H2 I2 r1 r2 q2

theorem pe_op {op : Operator} {r : R2} (ho : OpR X (binaryOp op) r) (ha : PE X a ta) (hb : PE X b tb) : PE X (.BinOp a op b pos) (tOp r ta tb) := by
  intro pins s σ H Q I h
  exact wpAny_BinOp (binT ha hb I h fun v u s2 x y H2 I2 rx ry q => ho pins s2 σ H2 x y v u Q I2 rx ry q)
theorem pe_un {op : UnaryOp} {r : V → Hp → VK → Prop} (ho : UnR X (unaryOp op) r) (ha : PE X a ta) : PE X (.UnaryOp op a pos) (tUn r ta) := by
  intro pins s σ H Q I h
  exact UnaryOp_ (thn (ha pins s σ H _ I h) fun v s1 ⟨x, H1, I1, r1, q1⟩ => ho pins s1 σ H1 x v Q I1 r1 q1)

/-! ### ints -/
theorem opI {f : Value → Value → Sem Value} {C : Int → Int → Prop} {g : Int → Int → Int}
    (rule : ∀ (i j : Int) (t u : Tok) (s : Shared) (Q : Value → Shared → Prop) (E : Value → Shared → Prop), C i j → Q (.int (g i j) s.toks) { s with toks := s.toks + 1 } → wpAny (model X.prog X.w) X.A (f (.int i t) (.int j u)) Q E s) :
    OpR X f (rI C fun i j => .int (g i j)) := by
  intro pins s σ H x y v u Q I rx ry h
  obtain ⟨i, j, rfl, rfl, hc, q⟩ := h
  obtain ⟨t, rfl⟩ := rx
  obtain ⟨t', rfl⟩ := ry
  exact rule i j t t' s _ _ hc ⟨.int (g i j), H, I.tok _, ⟨_, rfl⟩, q⟩
theorem opI0 {f : Value → Value → Sem Value} {g : Int → Int → Int}
    (rule : ∀ (i j : Int) (t u : Tok) (s : Shared) (Q : Value → Shared → Prop) (E : Value → Shared → Prop), Q (.int (g i j) s.toks) { s with toks := s.toks + 1 } → wpAny (model X.prog X.w) X.A (f (.int i t) (.int j u)) Q E s) :
    OpR X f (rI0 fun i j => .int (g i j)) := by
  intro pins s σ H x y v u Q I rx ry h
  obtain ⟨i, j, rfl, rfl, q⟩ := h
  obtain ⟨t, rfl⟩ := rx
  obtain ⟨t', rfl⟩ := ry
  exact rule i j t t' s _ _ ⟨.int (g i j), H, I.tok _, ⟨_, rfl⟩, q⟩
theorem opB0 {f : Value → Value → Sem Value} {g : Int → Int → Bool}
    (rule : ∀ (i j : Int) (t u : Tok) (s : Shared) (Q : Value → Shared → Prop) (E : Value → Shared → Prop), Q (.bool (g i j)) s → wpAny (model X.prog X.w) X.A (f (.int i t) (.int j u)) Q E s) :
    OpR X f (rI0 fun i j => .bl (g i j)) := by
  intro pins s σ H x y v u Q I rx ry h
  obtain ⟨i, j, rfl, rfl, q⟩ := h
  obtain ⟨t, rfl⟩ := rx
  obtain ⟨t', rfl⟩ := ry
  exact rule i j t t' s _ _ ⟨.bl (g i j), H, I, rfl, q⟩

def CDiv (i j : Int) : Prop := 0 < j ∧ j < 1073741824
def CDivN (i j : Int) : Prop := j ≠ 0 ∧ j.natAbs < 1073741824
def CPow (i j : Int) : Prop := 0 ≤ j ∧ j ≤ 1000000 ∧ i.natAbs < 2 ^ 64
def CMul (i j : Int) : Prop := (-(2 ^ 64) < i ∧ i < 2 ^ 64) ∨ (-(2 ^ 64) < j ∧ j < 2 ^ 64)
theorem CMul.ok {i j : Int} (h : CMul i j) : IntMulOk i j := by
  rcases h with ⟨h1, h2⟩ | ⟨h1, h2⟩
  · exact .of_left (intBits_le_64 h1 h2)
  · exact .of_right (intBits_le_64 h1 h2)

theorem op_add : OpR X (binaryOp .Add) (rI0 fun i j => .int (i + j)) := opI0 fun _ _ _ _ _ _ _ q => add_int q
theorem op_sub : OpR X (binaryOp .Sub) (rI0 fun i j => .int (i - j)) := opI0 fun _ _ _ _ _ _ _ q => sub_int q
theorem op_mul : OpR X (binaryOp .Mult) (rI CMul fun i j => .int (i * j)) := opI fun _ _ _ _ _ _ _ hc q => mul_int q hc.ok
/-- % by a positive divisor of any size -/
theorem op_mod : OpR X (binaryOp .Mod) (rI (fun _ j => 0 < j) fun i j => .int (i % j)) := opI fun i j _ _ _ _ _ hc q => by
  have h1 : (0 : Int) < j := hc
  exact mod_int' (by omega) (by rw [Int.fmod_eq_emod_of_nonneg i (by omega)]; exact q)
theorem op_pow : OpR X (binaryOp .Pow) (rI CPow fun i j => .int (i ^ j.toNat)) := opI fun _ _ _ _ _ _ _ hc q => pow_int_small hc.1 hc.2.1 hc.2.2 q
theorem op_xor : OpR X (binaryOp .BitXor) (rI0 fun i j => .int (Builtin.bitXor i j)) := opI0 fun _ _ _ _ _ _ _ q => xor_int q


theorem unI {f : Value → Sem Value} {g : Int → Int}
    (rule : ∀ (i : Int) (t : Tok) (s : Shared) (Q : Value → Shared → Prop) (E : Value → Shared → Prop), Q (.int (g i) s.toks) { s with toks := s.toks + 1 } → wpAny (model X.prog X.w) X.A (f (.int i t)) Q E s) :
    UnR X f (rU fun i => .int (g i)) := by
  intro pins s σ H x v Q I rx h
  obtain ⟨i, rfl, q⟩ := h
  obtain ⟨t, rfl⟩ := rx
  exact rule i t s _ _ ⟨.int (g i), H, I.tok _, ⟨_, rfl⟩, q⟩
theorem un_neg : UnR X (unaryOp .USub) (rU fun i => .int (-i)) := unI fun _ _ _ _ _ q => neg_int q

/-! ### bools among ints: n += (a < b) -/
end

/-! ### comparisons -/
/-- the scalars that == tells apart as data does -/
def scal : V → V → Bool
  | .non, .non => true | .non, .int _ => true | .int _, .non => true | .non, .bl _ => true | .bl _, .non => true | .non, .str _ => true | .str _, .non => true
  | .int _, .int _ => true | .bl _, .bl _ => true | .str _, .str _ => true | .byt _, .byt _ => true
  | .int _, .str _ => true | .str _, .int _ => true | .bl _, .str _ => true | .str _, .bl _ => true
  | _, _ => false
def rEq : R2 := fun x y H Q => scal x y = true ∧ Q (.bl (decide (x = y))) H
def rNe : R2 := fun x y H Q => scal x y = true ∧ Q (.bl (!decide (x = y))) H

theorem dec_int {i j : Int} : decide (V.int i = V.int j) = (i == j) := by
  rw [Bool.eq_iff_iff]
  simp
theorem dec_bl {i j : Bool} : decide (V.bl i = V.bl j) = (i == j) := by
  rw [Bool.eq_iff_iff]
  simp
theorem dec_str {i j : Str} : decide (V.str i = V.str j) = (i == j) := by
  rw [Bool.eq_iff_iff]
  simp
theorem dec_byt {i j : Array UInt8} : decide (V.byt i = V.byt j) = (i.toList == j.toList) := by
  rw [Bool.eq_iff_iff]
  cases i
  cases j
  simp

section
variable {X : Cx} {a b c : Expr} {ta tb tc : TE} {pos : Pos}
theorem fin_bl {pins : List (Addr × Obj)} {σ : St} {H : Hp} {s : Shared} {Q : VK} {k k' : Bool} (I : Inv X pins σ H s) (q : Q (.bl k) H) (e : k = k') : EP X pins σ Q (.bool k') s := by
  subst e
  exact ⟨.bl k, H, I, rfl, q⟩
theorem op_eq : OpR X (compareOp .Eq) rEq := by
  intro pins s σ H x y v u Q I rx ry h
  obtain ⟨hs, q⟩ := h
  cases x with
  | non =>
    cases rx
    cases y with
    | non => cases ry; exact PySem.EqNone.eq_none_none (fin_bl I q (by simp))
    | bl j => cases ry; exact PySem.EqNone.eq_none_bool (fin_bl I q (by simp))
    | int j => obtain ⟨t', rfl⟩ := ry; exact PySem.EqNone.eq_none_int (fin_bl I q (by simp))
    | str j => obtain ⟨t', rfl⟩ := ry; exact PySem.EqNone.eq_none_str (fin_bl I q (by simp))
    | _ => exact absurd (show false = true from hs) Bool.false_ne_true
  | bl i =>
    cases rx
    cases y with
    | non => cases ry; exact PySem.EqNone.eq_bool_none (fin_bl I q (by simp))
    | bl j => cases ry; exact eq_bool (fin_bl I q dec_bl)
    | str j => obtain ⟨t', rfl⟩ := ry; exact PySem.EqMixed.eq_bool_str (fin_bl I q (by simp))
    | _ => exact absurd (show false = true from hs) Bool.false_ne_true
  | int i =>
    obtain ⟨t, rfl⟩ := rx
    cases y with
    | non => cases ry; exact PySem.EqNone.eq_int_none (fin_bl I q (by simp))
    | int j => obtain ⟨t', rfl⟩ := ry; exact eq_int (fin_bl I q dec_int)
    | str j => obtain ⟨t', rfl⟩ := ry; exact PySem.EqMixed.eq_int_str (fin_bl I q (by simp))
    | _ => exact absurd (show false = true from hs) Bool.false_ne_true
  | str i =>
    obtain ⟨t, rfl⟩ := rx
    cases y with
    | non => cases ry; exact PySem.EqNone.eq_str_none (fin_bl I q (by simp))
    | bl j => cases ry; exact PySem.EqMixed.eq_str_bool (fin_bl I q (by simp))
    | int j => obtain ⟨t', rfl⟩ := ry; exact PySem.EqMixed.eq_str_int (fin_bl I q (by simp))
    | str j => obtain ⟨t', rfl⟩ := ry; exact eq_str (fin_bl I q dec_str)
    | _ => exact absurd (show false = true from hs) Bool.false_ne_true
  | byt i =>
    obtain ⟨t, rfl⟩ := rx
    cases y with
    | byt j => obtain ⟨t', rfl⟩ := ry; exact PySem.W.eq_bytes (fin_bl I q dec_byt)
    | _ => exact absurd (show false = true from hs) Bool.false_ne_true
  | _ => cases y <;> exact absurd (show false = true from hs) Bool.false_ne_true
theorem op_ne : OpR X (compareOp .NotEq) rNe := by
  intro pins s σ H x y v u Q I rx ry h
  obtain ⟨hs, q⟩ := h
  cases x with
  | non =>
    cases rx
    cases y with
    | non => cases ry; exact PySem.EqNone.ne_none_none (fin_bl I q (by simp))
    | bl j => cases ry; exact PySem.EqNone.ne_none_bool (fin_bl I q (by simp))
    | int j => obtain ⟨t', rfl⟩ := ry; exact PySem.EqNone.ne_none_int (fin_bl I q (by simp))
    | str j => obtain ⟨t', rfl⟩ := ry; exact PySem.EqNone.ne_none_str (fin_bl I q (by simp))
    | _ => exact absurd (show false = true from hs) Bool.false_ne_true
  | bl i =>
    cases rx
    cases y with
    | non => cases ry; exact PySem.EqNone.ne_bool_none (fin_bl I q (by simp))
    | bl j => cases ry; exact ne_bool (fin_bl I q (congrArg not dec_bl))
    | str j => obtain ⟨t', rfl⟩ := ry; exact PySem.EqMixed.ne_bool_str (fin_bl I q (by simp))
    | _ => exact absurd (show false = true from hs) Bool.false_ne_true
  | int i =>
    obtain ⟨t, rfl⟩ := rx
    cases y with
    | non => cases ry; exact PySem.EqNone.ne_int_none (fin_bl I q (by simp))
    | int j => obtain ⟨t', rfl⟩ := ry; exact ne_int (fin_bl I q (congrArg not dec_int))
    | str j => obtain ⟨t', rfl⟩ := ry; exact PySem.EqMixed.ne_int_str (fin_bl I q (by simp))
    | _ => exact absurd (show false = true from hs) Bool.false_ne_true
  | str i =>
    obtain ⟨t, rfl⟩ := rx
    cases y with
    | non => cases ry; exact PySem.EqNone.ne_str_none (fin_bl I q (by simp))
    | bl j => cases ry; exact PySem.EqMixed.ne_str_bool (fin_bl I q (by simp))
    | int j => obtain ⟨t', rfl⟩ := ry; exact PySem.EqMixed.ne_str_int (fin_bl I q (by simp))
    | str j => obtain ⟨t', rfl⟩ := ry; exact ne_str (fin_bl I q (congrArg not dec_str))
    | _ => exact absurd (show false = true from hs) Bool.false_ne_true
  | byt i =>
    obtain ⟨t, rfl⟩ := rx
    cases y with
    | byt j => obtain ⟨t', rfl⟩ := ry; exact PySem.W.ne_bytes (fin_bl I q (congrArg not dec_byt))
    | _ => exact absurd (show false = true from hs) Bool.false_ne_true
  | _ => cases y <;> exact absurd (show false = true from hs) Bool.false_ne_true

theorem op_lt : OpR X (compareOp .Lt) (rI0 fun i j => .bl (decide (i < j))) := opB0 fun _ _ _ _ _ _ _ q => lt_int q
theorem op_gt : OpR X (compareOp .Gt) (rI0 fun i j => .bl (decide (j < i))) := opB0 fun _ _ _ _ _ _ _ q => gt_int q

/-- is None, is not None: the right side a value none -/
theorem op_isN : OpR X (compareOp .Is) (fun x y H Q => y = .non ∧ Q (.bl (decide (x = .non))) H) := by
  intro pins s σ H x y v u Q I rx ry h
  obtain ⟨rfl, q⟩ := h
  cases ry
  refine is_none_gen (fin_bl I q ?_)
  cases x <;> first
    | (cases rx; rfl)
    | (obtain ⟨t, rfl⟩ := rx; rfl)

/-- is, is not of two objects that are tracked lists or instances -/
def isObj : HO → Bool
  | .lst _ => true
  | .ins _ _ _ => true
  | _ => false

/-- two rules for one operation: by cases -/
theorem OpR.or {f : Value → Value → Sem Value} {r r' : R2} (h : OpR X f r) (h' : OpR X f r') : OpR X f (fun x y H Q => r x y H Q ∨ r' x y H Q) := by
  intro pins s σ H x y v u Q I rx ry q
  rcases q with q | q
  · exact h pins s σ H x y v u Q I rx ry q
  · exact h' pins s σ H x y v u Q I rx ry q

theorem nomark (b : Expr) {op : CmpOp} (h : op ≠ .In := by decide) (h2 : op ≠ .NotIn := by decide) : behindInMarks op b = false := by
  have e1 : (op == CmpOp.In) = false := by cases op <;> first | rfl | exact absurd rfl h
  have e2 : (op == CmpOp.NotIn) = false := by cases op <;> first | rfl | exact absurd rfl h2
  cases b <;> simp [behindInMarks, e1, e2]
/-- a comparison as a value; hm: nomark b, or (for in, not in) by with_unfolding_all rfl -/
theorem pe_cmpR {op : CmpOp} {r : R2} (ho : OpR X (compareOp op) r) (ha : PE X a ta) (hb : PE X b tb) (hm : behindInMarks op b = false) : PE X (.Compare a [op] [b] pos) (tOp r ta tb) := by
  intro pins s σ H Q I h
  exact wpAny_Compare1 (binT ha hb I h fun v u s2 x y H2 I2 rx ry q => ho pins s2 σ H2 x y v u Q I2 rx ry q) hm
/-- a reading of a value as a test -/
def tTest (t : TE) : TT := fun σ H Q => t σ H fun x H' => ∃ k, x = .bl k ∧ Q k H'
theorem pt_cmpR {op : CmpOp} {r : R2} (ho : OpR X (compareOp op) r) (ha : PE X a ta) (hb : PE X b tb) (hm : behindInMarks op b = false) : PT X (.Compare a [op] [b] pos) (tTest (tOp r ta tb)) := by
  intro pins s σ H Q I h
  refine wpAny_isTrue_Compare1 (thn (ha pins s σ H _ I h) fun v s1 ⟨x, H1, I1, r1, q1⟩ => thn (hb pins s1 σ H1 _ I1 q1) fun u s2 ⟨y, H2, I2, r2, q2⟩ =>
    thn (ho pins s2 σ H2 x y v u _ I2 r1 r2 q2) fun c s3 ⟨z, H3, I3, r3, k, e, q3⟩ => ?_) hm
  subst e
  cases r3
  exact wpAny_truthy_bool ⟨H3, I3, q3⟩
/-- a op1 b op2 c -/
def tChain (r r' : R2) (ta tb tc : TE) : TE := fun σ H Q => ta σ H fun x H1 => tb σ H1 fun y H2 => r x y H2 fun z H3 => ∃ k, z = .bl k ∧
  (if k = true then tc σ H3 fun w' H4 => r' y w' H4 Q else Q (.bl false) H3)

/-! ### truth -/
/-- a value's truth by the abstract heap -/
def TruV (K : PySem.W.Frag) (x : V) (H : Hp) (k : Bool) : Prop :=
  match x with
  | .non => k = false
  | .bl b => k = b
  | .int i => k = (i != 0)
  | .str y => y.length ≤ sizeLine ∧ k = ((y.length : Int) != 0)
  | .byt y => y.size ≤ sizeLine ∧ k = ((y.size : Int) != 0)
  | .ref p => (∃ xs, SqL K H p xs ∧ k = !xs.isEmpty) ∨ (∃ xs, SqT K H p xs ∧ k = !xs.isEmpty) ∨ ∃ kvs, H p = some (.dK kvs) ∧ k = !kvs.isEmpty
  | _ => False
theorem line63 : (sizeLine : Nat) < 2 ^ 63 := by rw [sizeLine_eq]; decide

/-! ### strs and bytes -/

def PlainIxT (b : Expr) : Prop := ∀ o i, subscripted b false o i = operate [o, i] (getItem o i)

/-! ### scalar builtins, by CallR -/
theorem vals1 {x : V} {us : List Value} (r : Vals [x] us) : ∃ u, us = [u] ∧ RelV x u := by
  cases r with
  | cons r1 r2 => cases r2; exact ⟨_, rfl, r1⟩
theorem vals2 {x y : V} {us : List Value} (r : Vals [x, y] us) : ∃ u w', us = [u, w'] ∧ RelV x u ∧ RelV y w' := by
  cases r with
  | cons r1 r2 =>
    cases r2 with
    | cons r3 r4 => cases r4; exact ⟨_, _, rfl, r1, r3⟩
/-- len of a str, a bytes, a list, a tuple -/
def LenV (K : PySem.W.Frag) (x : V) (H : Hp) (n : Nat) : Prop :=
  match x with
  | .str y => y.length ≤ sizeLine ∧ n = y.length
  | .byt y => y.size ≤ sizeLine ∧ n = y.size
  | .ref p => (∃ xs, SqL K H p xs ∧ n = xs.length) ∨ ∃ xs, SqT K H p xs ∧ n = xs.length
  | _ => False
end
end L2

namespace L2
open PySem PySem.Spec PyProof.Rows

/-! ### an instance, its attributes a map -/
structure ObjM (h : Heap) (x dx C : Addr) (mA : Str → Option Value) : Prop where
  obj : h.get? x = some (PySem.W.instObj C dx)
  ns : h.Ns1 dx mA
  ne : dx ≠ x

theorem lookIn_ns {h : Heap} {dx : Addr} {mA : Str → Option Value} (n : h.Ns1 dx mA) : ∃ od, h.get? dx = some od ∧ ∀ name, PySem.W.lookIn name od = some (mA name) := by
  obtain ⟨o, es, ep, ho, hd, hk, _, hm⟩ := n
  refine ⟨o, ho, fun name => ?_⟩
  have e := hm name
  unfold nsFind findBy at e
  rw [← Array.find?_toList] at e
  unfold PySem.W.lookIn
  rw [hd]
  dsimp only
  split
  · rename_i y q
    rw [q] at e
    exact congrArg some e
  · rename_i q
    rw [q] at e
    have a : es.toList.any (·.refKey) = false := by
      rw [List.any_eq_false]
      intro y hy
      obtain ⟨z, t, hkey⟩ := hk y (Array.mem_toList_iff.mp hy)
      simp [DictEntry.refKey, hkey]
    have a' : ¬ es.toList.any (·.refKey) = true := by rw [a]; exact Bool.false_ne_true
    rw [if_neg a']
    exact congrArg some e

theorem ObjM.look {h : Heap} {x dx C : Addr} {mA : Str → Option Value} (I : ObjM h x dx C mA) : ∃ od, PySem.W.InstAt h x (PySem.W.instObj C dx) C (some od) ∧ ∀ name, PySem.W.lookIn name od = some (mA name) :=
  let ⟨od, ho, hl⟩ := lookIn_ns I.ns
  ⟨od, ⟨I.obj, rfl, rfl, ho⟩, hl⟩

section
variable {prog : Program} {w : World} {A : Around} {E : Value → Shared → Prop} {s : Shared} {K : PySem.W.Frag} {x dx C f : Addr} {mA : Str → Option Value} {name : Str} {v : Value}

theorem get_map {expr : Bool} {Q : Value → Shared → Prop} (X : K.In s.heap) (I : ObjM s.heap x dx C mA) (hg : PySem.W.plainGet K C name = true) (hh : PySem.W.hasDictIn K C = true)
    (ha : PySem.W.findIn K (.ref C) name = some none) (hv : mA name = some v) (hv' : PySem.W.handedIn v = true) (h : Q v { s with toks := s.toks + 1 }) :
    wpAny (model prog w) A (getAttr (.ref x) name expr) Q E s := by
  obtain ⟨od, J, hl⟩ := I.look
  exact PySem.W.get_value X J (PySem.W.plainGet_of hg).1 (PySem.W.findObj_own hh ha rfl (by rw [hl, hv])) hv' h


theorem get_meth {pl : Sem Bool} {Q : Value × List Value → Shared → Prop} (X : K.In s.heap) (I : ObjM s.heap x dx C mA) (hg : PySem.W.plainGet K C name = true)
    (hf : PySem.W.findIn K (.ref C) name = some (some (.ref f))) (ht : PySem.W.isFn K (.ref f) = true) (hv : mA name = none) (h : Q (.ref f, [.ref x]) s) :
    wpAny (model prog w) A (getMethod (.ref x) name pl) Q E s := by
  obtain ⟨od, J, hl⟩ := I.look
  exact PySem.W.method_fn X J (PySem.W.plainGet_of hg).1 (PySem.W.plainGet_of hg).2 hf (beq_iff_eq.mp ht) (by show (PySem.W.lookIn name od).map (·.isSome) = some false; rw [hl, hv]; rfl) h

theorem set_map {ns : List Str} {Q : Unit → Shared → Prop} (X : K.In s.heap) (I : ObjM s.heap x dx C mA)
    (hs : PySem.W.findIn K (.ref C) "__setattr__" = some (some (.builtin "object.__setattr__"))) (hp : PySem.W.plainOver K C = true) (ht : PySem.W.takerIn K C name = some none) (hh : PySem.W.hasDictIn K C = true)
    (hw : PySem.Within mA ns) (hsz : ns.length ≤ sizeLine)
    (h : ∀ h', ObjM h' x dx C (fun y => if y = name then some v else mA y) → Heap.SameBut dx s.heap h' → Q () { s with heap := h', toks := s.toks + 2 }) :
    wpAny (model prog w) A (setAttr (.ref x) name v) Q E s := by
  obtain ⟨od, J, hl⟩ := I.look
  refine PySem.W.set_plain X J hs (PySem.W.osa_open (s := { s with toks := s.toks + 1 }) (r := none) X J hp ht fun b => ?_)
  obtain ⟨cd, hc, hd'⟩ := PySem.W.any_some hh
  have hx : s.heap.get? x = some ⟨.ref C, some dx, .plain, #[]⟩ := I.obj
  refine wpAny_bind (wpAny_pure (wpAny_bind (wpAny_bind (wpAny_loadPart hx (wpAny_bind (PySem.W.Looks.here (s := { s with toks := s.toks + 1 }) (PySem.W.looks_clsIn X hc) ?_))))))
  rw [hd']
  refine wpAny_pure (a := some dx) (wpAny_bind (wpAny_pure (wpAny_bind ?_)))
  refine wpAny_nsSet1 (s := { s with toks := s.toks + 1 }) I.ns fun h' hn2 hs2 => ?_
  obtain ⟨oD, esD, epD, hoD, hdD, hcD⟩ := hn2.count (PySem.Within.cons name v hw)
  refine wpAny_bind (wpAny_lookBehind hoD (by rw [hdD]; exact pastItsLine_dict (Nat.le_trans hcD (by rw [List.length_cons]; omega))) ?_)
  exact wpAny_pure (h _ ⟨(hs2.2 _ (Ne.symm I.ne)).trans I.obj, hn2, I.ne⟩ hs2)

/-- C(..): the dict at the heap's end, the instance behind it; then its __init__ -/
theorem make_map {R : Result → Shared → Prop} {vs : List Value} {kw : List (Str × Value)} (X : K.In s.heap) (hm : PySem.W.makesIn K C = true)
    (hi : PySem.W.findIn K (.ref C) "__init__" = some (some (.ref f))) (hf : PySem.W.typeIn K (.ref f) = some (.type "function"))
    (h : codeAny (model prog w) (A.under (.builtin "type.__call__" ⟨.ref C :: vs, kw⟩)) (.call (.ref f) ⟨.ref (s.heap.objs.size + 1) :: vs, kw⟩) (PySem.W.InitBack (s.heap.objs.size + 1) R)
      { s with heap := (s.heap.push PySem.W.emptyDict).push (PySem.W.instObj C s.heap.objs.size) }) :
    codeAny (model prog w) A (.call (.ref C) ⟨vs, kw⟩) R s := by
  obtain ⟨hh, g, d, t, os⟩ := s
  exact PySem.W.make_core (PySem.W.makes_of X hm) (PySem.W.looks_findIn X hi) (fun self => PySem.W.bind_fn X self hf) (.inl rfl) h
end

/-! ### the attributes as a list of pairs -/
def putF (f : Str) (v : V) : List (Str × V) → List (Str × V)
  | [] => [(f, v)]
  | (g, x) :: r => if g = f then (g, v) :: r else (g, x) :: putF f v r
theorem lookup_putF (f g : Str) (v : V) : ∀ fs : List (Str × V), (putF f v fs).lookup g = if g = f then some v else fs.lookup g
  | [] => by
    show List.lookup g [(f, v)] = _
    by_cases h : g = f
    · have hb : (g == f) = true := beq_iff_eq.mpr h
      simp only [List.lookup, hb, if_pos h]
    · have hb : (g == f) = false := beq_eq_false_iff_ne.mpr h
      simp only [List.lookup, hb, if_neg h]
  | (k, x) :: r => by
    have ih := lookup_putF f g v r
    rw [show putF f v ((k, x) :: r) = (if k = f then (k, v) :: r else (k, x) :: putF f v r) from rfl]
    by_cases hk : k = f
    · rw [if_pos hk]
      by_cases h : g = k
      · have hb : (g == k) = true := beq_iff_eq.mpr h
        simp only [List.lookup, hb, if_pos (h.trans hk)]
      · have hb : (g == k) = false := beq_eq_false_iff_ne.mpr h
        simp only [List.lookup, hb, if_neg (fun e : g = f => h (e.trans hk.symm))]
    · rw [if_neg hk]
      by_cases h : g = k
      · have hb : (g == k) = true := beq_iff_eq.mpr h
        simp only [List.lookup, hb, if_neg (fun e : g = f => hk (h.symm.trans e))]
      · have hb : (g == k) = false := beq_eq_false_iff_ne.mpr h
        simp only [List.lookup, hb]
        exact ih
theorem keys_putF (f : Str) (v : V) : ∀ fs : List (Str × V), f ∈ (putF f v fs).map (·.1) ∧ ∀ g, g ∈ fs.map (·.1) → g ∈ (putF f v fs).map (·.1)
  | [] => ⟨by simp [putF], fun g h => by simp at h⟩
  | (k, x) :: r => by
    obtain ⟨i1, i2⟩ := keys_putF f v r
    rw [show putF f v ((k, x) :: r) = (if k = f then (k, v) :: r else (k, x) :: putF f v r) from rfl]
    by_cases hk : k = f
    · rw [if_pos hk]
      subst hk
      exact ⟨by simp, fun g h => by simpa using h⟩
    · rw [if_neg hk]
      refine ⟨?_, fun g h => ?_⟩
      · rw [List.map_cons]
        exact List.mem_cons_of_mem _ i1
      · rw [List.map_cons] at h ⊢
        rcases List.mem_cons.mp h with e | e
        · exact List.mem_cons.mpr (.inl e)
        · exact List.mem_cons_of_mem _ (i2 g e)
theorem length_putF (f : Str) (v : V) : ∀ fs : List (Str × V), (putF f v fs).length ≤ fs.length + 1
  | [] => by simp [putF]
  | (k, x) :: r => by
    have ih := length_putF f v r
    rw [show putF f v ((k, x) :: r) = (if k = f then (k, v) :: r else (k, x) :: putF f v r) from rfl]
    by_cases hk : k = f
    · rw [if_pos hk, List.length_cons, List.length_cons]; omega
    · rw [if_neg hk, List.length_cons, List.length_cons]; omega

theorem RelO.some_of {v : V} {o : Option Value} (r : RelO (some v) o) : ∃ u, o = some u ∧ RelV v u := by
  cases o with
  | none => exact (show False from r).elim
  | some u => exact ⟨u, rfl, r⟩
theorem RelO.none_of {o : Option Value} (r : RelO none o) : o = none := by
  cases o with
  | none => rfl
  | some u => exact (show False from r).elim
theorem handed_of {v : V} {u : Value} (r : RelV v u) : PySem.W.handedIn u = true := by
  cases v with
  | non => cases (show u = Value.none from r); rfl
  | bl b => cases (show u = Value.bool b from r); rfl
  | int i => obtain ⟨t, e⟩ := (show ∃ t, u = Value.int i t from r); cases e; rfl
  | str x => obtain ⟨t, e⟩ := (show ∃ t, u = Value.str x t from r); cases e; rfl
  | byt b => obtain ⟨t, e⟩ := (show ∃ t, u = Value.bytes b t from r); cases e; rfl
  | flt b => obtain ⟨t, e⟩ := (show ∃ t, u = Value.float b t from r); cases e; rfl
  | ref a => cases (show u = Value.ref a from r); rfl
  | ty n => cases (show u = Value.type n from r); rfl

section
variable {P : Program} {w : World} {H H' : Hp} {h h' : Heap} {a C dx : Addr} {fs fs' : List (Str × V)}
theorem ins_get (hok : HOk P w H h) (e : H a = some (.ins C dx fs)) : ∃ mA, ObjM h a dx C mA ∧ (∀ f, RelO (fs.lookup f) (mA f)) ∧ PySem.Within mA (fs.map (·.1)) ∧ fs.length ≤ 1000 ∧ H dx = some (.own a) := by
  obtain ⟨d, z, ne, ob, mA, n, r, q⟩ := (show ObjOk P w H h a (.ins C dx fs) from hok a _ e)
  exact ⟨mA, ⟨ob, n, ne⟩, r, q, z, d⟩
end

/-! ### what of the text a class must have -/
structure Cls (K : PySem.W.Frag) (C : Addr) : Prop where
  pg : PySem.W.plainGet K C Str.empty = true
  hd : PySem.W.hasDictIn K C = true
  po : PySem.W.plainOver K C = true
  sa : PySem.W.findIn K (.ref C) "__setattr__" = some (some (.builtin "object.__setattr__"))
theorem Cls.get {K : PySem.W.Frag} {C : Addr} (c : Cls K C) (f : Str) : PySem.W.plainGet K C f = true := c.pg
/-- no class of it has the name -/
def NoAttr (K : PySem.W.Frag) (C : Addr) (f : Str) : Prop := PySem.W.findIn K (.ref C) f = some none
theorem NoAttr.taker {K : PySem.W.Frag} {C : Addr} {f : Str} (n : NoAttr K C f) : PySem.W.takerIn K C f = some none := by
  unfold PySem.W.takerIn
  rw [show PySem.W.findIn K (.ref C) f = some none from n]
  rfl
/-- a constant of the class -/
structure Con (K : PySem.W.Frag) (C : Addr) (f : Str) (v : V) (u : Value) : Prop where
  at_ : PySem.W.findIn K (.ref C) f = some (some u)
  rel : RelV v u
  get : PySem.W.specialIn K u "__get__" = some none
  cp : PySem.W.copiedNames.contains f = false
/-- a method: a plain def of the class or of one above it -/
structure Meth (K : PySem.W.Frag) (C : Addr) (m : Str) (f : Addr) : Prop where
  at_ : PySem.W.findIn K (.ref C) m = some (some (.ref f))
  fn : PySem.W.isFn K (.ref f) = true
  kp : PySem.W.keepIn K (.ref f) = true

section
variable {X : Cx} {pins : List (Addr × Obj)} {σ : St} {H : Hp} {s : Shared} {a C dx : Addr} {fs : List (Str × V)} {f : Str} {v : V} {A : Around} {E : Value → Shared → Prop}

theorem getattr_ok {b : Bool} {Q : Value → Shared → Prop} (I : Inv X pins σ H s) (e : H a = some (.ins C dx fs)) (c : Cls X.K C) (n : NoAttr X.K C f) (l : fs.lookup f = some v)
    (h : ∀ u s', Inv X pins σ H s' → RelV v u → Q u s') : wpAny (model X.prog X.w) A (getAttr (.ref a) f b) Q E s := by
  obtain ⟨mA, O, r, _, _, _⟩ := ins_get I.hok e
  obtain ⟨u, hu, ru⟩ := RelO.some_of (v := v) (o := mA f) (by rw [← l]; exact r f)
  exact get_map I.kIn O (c.get f) c.hd n hu (handed_of ru) (h u _ (I.tok _) ru)


theorem getmeth_ok {m : Str} {g : Addr} {pl : Sem Bool} {Q : Value × List Value → Shared → Prop} (I : Inv X pins σ H s) (e : H a = some (.ins C dx fs)) (c : Cls X.K C) (k : Meth X.K C m g) (l : fs.lookup m = none)
    (h : Q (.ref g, [.ref a]) s) : wpAny (model X.prog X.w) A (getMethod (.ref a) m pl) Q E s := by
  obtain ⟨mA, O, r, _, _, _⟩ := ins_get I.hok e
  have hn : mA m = none := RelO.none_of (by rw [← l]; exact r m)
  exact get_meth I.kIn O (c.get m) k.at_ k.fn hn h

theorem setattr_ok {y : V} {u : Value} {Q : Unit → Shared → Prop} (I : Inv X pins σ H s) (e : H a = some (.ins C dx fs)) (c : Cls X.K C) (n : NoAttr X.K C f) (hl : fs.length < 1000) (ry : RelV y u)
    (h : ∀ s', Inv X pins σ (upd H a (.ins C dx (putF f y fs))) s' → Q () s') : wpAny (model X.prog X.w) A (setAttr (.ref a) f u) Q E s := by
  obtain ⟨mA, O, r, wi, _, ho⟩ := ins_get I.hok e
  have hz : (fs.map (·.1)).length ≤ sizeLine := by rw [List.length_map, sizeLine_eq]; omega
  refine set_map I.kIn O c.sa c.po n.taker c.hd wi hz fun h' O' sb => h _ ?_
  have hd : ∃ o, h'.get? dx = some o := let ⟨o, _, _, e', _⟩ := O'.ns; ⟨o, e'⟩
  refine I.write (x := a) (e := dx) (by rw [e]; exact True.intro) (.inr ho) (fun b q hb z => (sb.2 b hb).trans z) hd ?_
  refine ⟨by rw [upd_ne O.ne]; exact ho, ?_, O.ne, O'.obj, _, O'.ns, fun g => ?_, fun g hg => ?_⟩
  · have := length_putF f y fs; omega
  · show RelO ((putF f y fs).lookup g) (if g = f then some u else mA g)
    rw [lookup_putF]
    by_cases q : g = f
    · rw [if_pos q, if_pos q]; exact ry
    · rw [if_neg q, if_neg q]; exact r g
  · by_cases q : g = f
    · rw [q]; exact (keys_putF f y fs).1
    · refine (keys_putF f y fs).2 g (wi g fun z => hg ?_)
      show (if g = f then some u else mA g) = none
      rw [if_neg q]; exact z

/-- a new instance, tracked, without attributes -/
theorem Inv.made (I : Inv X pins σ H s) : Inv X pins σ (upd (upd H s.heap.objs.size (.own (s.heap.objs.size + 1))) (s.heap.objs.size + 1) (.ins C s.heap.objs.size []))
    { s with heap := (s.heap.push PySem.W.emptyDict).push (PySem.W.instObj C s.heap.objs.size) } := by
  have e1 : (s.heap.push PySem.W.emptyDict).get? s.heap.objs.size = some PySem.W.emptyDict := Heap.get?_push_size s.heap rfl
  have e2 : ((s.heap.push PySem.W.emptyDict).push (PySem.W.instObj C s.heap.objs.size)).get? (s.heap.objs.size + 1) = some (PySem.W.instObj C s.heap.objs.size) := by
    have := Heap.get?_push_size (s.heap.push PySem.W.emptyDict) (o := PySem.W.instObj C s.heap.objs.size) rfl
    rwa [Heap.size_push] at this
  have e3 : (s.heap.push PySem.W.emptyDict).Ns s.heap.objs.size (fun _ => none) := ⟨PySem.W.emptyDict, #[], _, e1, rfl, (fun e he => absurd he (by simp)), fun _ => rfl⟩
  have I1 := I.laid (a := s.heap.objs.size) (o := .own (s.heap.objs.size + 1)) (h' := s.heap.push PySem.W.emptyDict) (t' := s.toks) (fun b u q => Heap.get?_push_of_some _ q) (Nat.le_refl _) ⟨_, e1⟩
  refine I1.laid (a := s.heap.objs.size + 1) (o := .ins C s.heap.objs.size []) (t' := s.toks) (fun b u q => Heap.get?_push_of_some _ q) (Nat.le_of_eq (Heap.size_push _ _)) ?_
  have ne : s.heap.objs.size ≠ s.heap.objs.size + 1 := Nat.ne_of_lt (Nat.lt_succ_self _)
  refine ⟨by rw [upd_ne ne, upd_same], Nat.zero_le _, ne, e2, fun _ => none, (Heap.Ns1.of_empty e3).at fun o q => Heap.get?_push_of_some _ q, fun _ => True.intro, fun y hy => absurd rfl hy⟩

/-- e.f where nothing but the object is asked: through attributeBase (super) and the last hold -/
theorem attr_of {prog : Program} {w : World} {env : Env} {e : Expr} {f : Str} {pos : Pos} {s : Shared} {Q : Value → Shared → Prop} (hb : attributeBase e f env (eval e env) = eval e env)
    (h : wpAny (model prog w) A (eval e env) (fun o s₁ => wpAny (model prog w) A (getAttr o f true) Q E s₁) E s) : wpAny (model prog w) A (eval (.Attribute e f pos) env) Q E s :=
  Attribute_any_ h (by rw [arm_eval_Attribute, hb])
end

/-! ### readings and rules -/
/-- e.f, an attribute of the instance -/
def tFld (K : PySem.W.Frag) (ta : TE) (f : Str) : TE := fun σ H Q => ta σ H fun x H1 => ∃ a C dx fs v, x = .ref a ∧ H1 a = some (.ins C dx fs) ∧ Cls K C ∧ NoAttr K C f ∧ fs.lookup f = some v ∧ Q v H1
/-- e.f, a constant of the class -/
def tCon (K : PySem.W.Frag) (ta : TE) (f : Str) : TE := fun σ H Q => ta σ H fun x H1 => ∃ a C dx fs v u, x = .ref a ∧ H1 a = some (.ins C dx fs) ∧ Cls K C ∧ Con K C f v u ∧ fs.lookup f = none ∧ Q v H1
/-- e.f = value -/
def sFld (K : PySem.W.Frag) (ta tv : TE) (f : Str) : TS := fun D σ H => tv σ H fun y H1 => ta σ H1 fun x H2 => ∃ a C dx fs, x = .ref a ∧ H2 a = some (.ins C dx fs) ∧ Cls K C ∧ NoAttr K C f ∧ fs.length < 1000 ∧
  D.nx σ (upd H2 a (.ins C dx (putF f y fs)))
/-- an augmented operator on two values -/
def InOp (X : Cx) (op : Operator) (rd : V → V → Hp → VK → Prop) : Prop :=
  ∀ (pins : List (Addr × Obj)) (s : Shared) (σ : St) (H : Hp) (x y : V) (u v : Value) (Q : VK), Inv X pins σ H s → RelV x u → RelV y v → rd x y H Q → wpAny (model X.prog X.w) X.A (inplaceOp op u v) (EP X pins σ Q) X.xe s
/-- e.f op= value -/
def sFldAug (K : PySem.W.Frag) (ta tv : TE) (rd : V → V → Hp → VK → Prop) (f : Str) : TS := fun D σ H => ta σ H fun x H1 => ∃ a C dx fs v, x = .ref a ∧ H1 a = some (.ins C dx fs) ∧ Cls K C ∧ NoAttr K C f ∧ fs.lookup f = some v ∧
  tv σ H1 fun y H2 => rd v y H2 fun z H3 => ∃ dx' fs', H3 a = some (.ins C dx' fs') ∧ fs'.length < 1000 ∧ D.nx σ (upd H3 a (.ins C dx' (putF f z fs')))

section
variable {X : Cx} {o e value : Expr} {f : Str} {pos pos' tpos : Pos} {ta tv : TE}
theorem pe_fld (he : PE X e ta) (hb : attributeBase e f X.env (eval e X.env) = eval e X.env) : PE X (.Attribute e f pos) (tFld X.K ta f) := by
  intro pins s σ H Q I h
  refine attr_of hb (thn (he pins s σ H _ I h) fun u s1 ⟨x, H1, I1, rx, a, C, dx, fs, v, ex, ea, c, n, l, q⟩ => ?_)
  subst ex
  obtain rfl : u = Value.ref a := rx
  exact getattr_ok I1 ea c n l fun u' s2 I2 ru => ⟨v, H1, I2, ru, q⟩
theorem ps_fld (ha : PE X o ta) (hv : PE X value tv) (hs : swapsWith value (some (.Attribute o f pos')) pos.line X.env = pure false) : PS X (.Assign [.Attribute o f pos'] value pos) (sFld X.K ta tv f) := by
  intro pins s σ H D I h
  refine plainObj_wpAny_Assign_Attribute (thn (hv pins s σ H _ I h) fun u s1 ⟨y, H1, I1, ry, q⟩ => thn (ha pins s1 σ H1 _ I1 q) fun ov s2 ⟨x, H2, I2, rx, a, C, dx, fs, ex, ea, c, n, l, q2⟩ => ?_) hs
  subst ex
  obtain rfl : ov = Value.ref a := rx
  exact setattr_ok I2 ea c n l ry fun s3 I3 => ⟨σ, _, I3, q2⟩
def rAdd : V → V → Hp → VK → Prop := fun x y H Q => ∃ i j, x = .int i ∧ y = .int j ∧ Q (.int (i + j)) H
def rSub : V → V → Hp → VK → Prop := fun x y H Q => ∃ i j, x = .int i ∧ y = .int j ∧ Q (.int (i - j)) H

end

/-! ### isinstance -/
section
variable {X : Cx} {pins : List (Addr × Obj)} {σ : St} {H : Hp} {s : Shared} {A : Around} {E : Value → Shared → Prop} {Q : Value → Shared → Prop} {c : Value} {b : Bool}
/-- the type of a value, as the fragment's deciders take it; for an instance its class -/
inductive TyOf (K : PySem.W.Frag) (H : Hp) : V → Value → Prop where
  | non : TyOf K H .non (.type "NoneType")
  | bl (x : Bool) : TyOf K H (.bl x) (.type "bool")
  | int (i : Int) : TyOf K H (.int i) (.type "int")
  | str (x : Str) : TyOf K H (.str x) (.type "str")
  | flt (x : UInt64) : TyOf K H (.flt x) (.type "float")
  | lst {a : Addr} {xs : List V} (e : H a = some (.lst xs)) : TyOf K H (.ref a) (.type "list")
  | frz {a : Addr} {o : Obj} {xs : List V} (e : H a = some (.frz o (.lst xs))) : TyOf K H (.ref a) (.type "list")
  | tup {a : Addr} {xs : List V} (e : H a = some (.tup xs)) : TyOf K H (.ref a) (.type "tuple")
  | dK {a : Addr} {kvs : List (Key × V)} (e : H a = some (.dK kvs)) : TyOf K H (.ref a) (.type "dict")
  | dT {a : Addr} {kvs : List (List Key × V)} (e : H a = some (.dT kvs)) : TyOf K H (.ref a) (.type "dict")
  | ins {a C dx : Addr} {fs : List (Str × V)} (e : H a = some (.ins C dx fs)) (cl : Cls K C) (ha : PySem.W.findIn K (.ref C) "__class__" = some (some (.builtin "object.__class__")))
      (hn : PySem.W.specialIn K (.builtin "object.__class__") "__get__" = some (some (.builtin "getset_descriptor.__get__"))) (htk : PySem.W.takesIn K (.builtin "object.__class__") = some true)
      (hm : PySem.W.mroIn K C (.type "object") = some true) : TyOf K H (.ref a) (.ref C)
/-- isinstance(x, c) for one class c, a built-in or an own one: kitOne's answer -/
theorem isinst_ok {x : V} {u t : Value} (I : Inv X pins σ H s) (rx : RelV x u) (ty : TyOf X.K H x t) (e : PySem.W.kitOne X.K t c = some b) (h : ∀ tk, Q (.bool b) { s with toks := tk }) :
    wpAny (model X.prog X.w) A (call (.builtin "isinstance") [u, c]) Q E s := by
  cases ty with
  | non => cases (show u = Value.none from rx); exact PySem.W.kia_one PySem.W.kitx_none I.kIn True.intro e (fun z => nomatch z) h
  | bl y => cases (show u = Value.bool y from rx); exact PySem.W.kia_one PySem.W.kitx_bool I.kIn True.intro e (fun z => nomatch z) h
  | int i => obtain ⟨t, q⟩ := (show ∃ t, u = Value.int i t from rx); cases q; exact PySem.W.kia_one PySem.W.kitx_int I.kIn True.intro e (fun z => nomatch z) h
  | str y => obtain ⟨t, q⟩ := (show ∃ t, u = Value.str y t from rx); cases q; exact PySem.W.kia_one PySem.W.kitx_str I.kIn True.intro e (fun z => nomatch z) h
  | flt y => obtain ⟨t, q⟩ := (show ∃ t, u = Value.float y t from rx); cases q; exact PySem.W.kia_one PySem.W.kitx_float I.kIn True.intro e (fun z => nomatch z) h
  | @lst a xs ea =>
    cases (show u = Value.ref a from rx)
    obtain ⟨_, _, n, _, h1⟩ := (show ObjOk X.prog X.w H s.heap a (.lst xs) from I.hok a _ ea)
    exact PySem.W.kia_one PySem.W.kitx_list I.kIn ⟨_, h1, rfl⟩ e (fun z => nomatch z) h
  | @frz a ob xs ea =>
    cases (show u = Value.ref a from rx)
    obtain ⟨_, _, _, n, _, h1⟩ := (show ObjOk X.prog X.w H s.heap a (.frz ob (.lst xs)) from I.hok a _ ea)
    exact PySem.W.kia_one PySem.W.kitx_list I.kIn ⟨_, h1, rfl⟩ e (fun z => nomatch z) h
  | @tup a xs ea =>
    cases (show u = Value.ref a from rx)
    obtain ⟨_, _, _, p⟩ := (show ObjOk X.prog X.w H s.heap a (.tup xs) from I.hok a _ ea)
    obtain ⟨o, h1, h2, _⟩ := p
    exact PySem.W.kia_one PySem.W.kitx_tuple I.kIn ⟨o, h1, h2⟩ e (fun z => nomatch z) h
  | @dK a kvs ea =>
    cases (show u = Value.ref a from rx)
    obtain ⟨_, _, vs, _, p⟩ := (show ObjOk X.prog X.w H s.heap a (.dK kvs) from I.hok a _ ea)
    obtain ⟨o, es, ep, h1, h2, _⟩ := p
    exact PySem.W.kia_one PySem.W.kitx_dict I.kIn ⟨o, h1, h2.1⟩ e (fun z => nomatch z) h
  | @dT a kvs ea =>
    cases (show u = Value.ref a from rx)
    obtain ⟨_, _, xs, _, o, es, ep, h1, h2, _⟩ := (show ObjOk X.prog X.w H s.heap a (.dT kvs) from I.hok a _ ea)
    exact PySem.W.kia_one PySem.W.kitx_dict I.kIn ⟨o, h1, h2.1⟩ e (fun z => nomatch z) h
  | @ins a C dx fs ea cl ha hn htk hm =>
    cases (show u = Value.ref a from rx)
    obtain ⟨mA, O, _⟩ := ins_get I.hok ea
    obtain ⟨od, J, _⟩ := O.look
    exact PySem.W.kia_one (PySem.W.kitx_own (cl.get _) cl.hd ha hn htk hm) I.kIn J e (fun z => nomatch z) h
end
end L2

namespace L2
open PySem PySem.Spec PyProof.Rows

/-! ### room -/
structure Room (k : Nat) (A : Around) : Prop where
  hd : A.handled = none
  dp : A.depth + 3 * k + 5 < recursionLimit
  un : A.units + 16 * k + 200 < cLine
theorem Room.mono {j k : Nat} {A : Around} (r : Room k A) (h : j ≤ k) : Room j A := ⟨r.hd, by have := r.dp; omega, by have := r.un; omega⟩
theorem Room.deeper {k : Nat} {A : Around} (r : Room (k + 1) A) (env : Env) : Room k (A.deeper env) :=
  ⟨r.hd, by have := r.dp; show A.depth + 1 + 3 * k + 5 < _; omega, by have := r.un; show A.units + 3 + 16 * k + 200 < _; omega⟩
theorem Room.in1 {k : Nat} {A : Around} (r : Room (k + 1) A) : Room k A.in1 :=
  ⟨r.hd, by have := r.dp; show A.depth + 3 * k + 5 < _; omega, by have := r.un; show A.units + 1 + 16 * k + 200 < _; omega⟩
theorem make_depth {A : Around} {C : Addr} {us : List Value} {kw : List (Str × Value)} : (A.under (.builtin "type.__call__" ⟨.ref C :: us, kw⟩)).depth = A.depth + 1 := by
  first | rfl | simp [Around.under, Code.weight, Code.isCreation, Code.isGuard, Code.isCaller, Code.frames, Code.isFrame, guardIds]
theorem make_units {A : Around} {C : Addr} {us : List Value} {kw : List (Str × Value)} : (A.under (.builtin "type.__call__" ⟨.ref C :: us, kw⟩)).units = A.units + 1 := by
  first | rfl | simp [Around.under, Code.cUnits, Code.frames, Code.isFrame]
theorem Room.make {k : Nat} {A : Around} (r : Room (k + 1) A) (C : Addr) (us : List Value) (kw : List (Str × Value)) : Room k (A.under (.builtin "type.__call__" ⟨.ref C :: us, kw⟩)) :=
  ⟨r.hd, by have := r.dp; rw [make_depth]; omega, by have := r.un; rw [make_units]; omega⟩
theorem Room.depth {k : Nat} {A : Around} (r : Room k A) : A.depth < recursionLimit := by have := r.dp; omega
theorem Room.units {k : Nat} {A : Around} (r : Room k A) : A.units + 64 < cLine := by have := r.un; omega

/-! ### argument lists and displays -/
def tNil : TA := fun _ H Q => Q [] H
def tCons (ta : TE) (tr : TA) : TA := fun σ H Q => ta σ H fun x H1 => tr σ H1 fun xs H2 => Q (x :: xs) H2
section
variable {X : Cx} {e : Expr} {es : List Expr} {te : TE} {t : TA} {pos : Pos}
theorem pa_nil : PA X [] tNil := fun _ _ _ _ H Q I h => Calls.spliced_nil ⟨[], H, I, .nil, h⟩
theorem pa_cons (ha : PE X e te) (hr : PA X es t) (hs : starEach (e :: es) X.env = (false, eval e X.env) :: starEach es X.env := by rfl) : PA X (e :: es) (tCons te t) := by
  intro pos pins s σ H Q I h
  rw [hs]
  show wpAny _ _ (spliced ((false, eval e X.env) :: backTo pos (starEach es X.env))) _ _ s
  refine Calls.spliced_cons (thn (ha pins s σ H _ I h) fun u s1 ⟨x, H1, I1, r1, q1⟩ => ?_)
  exact thn (hr pos pins s1 σ H1 _ I1 q1) fun us s2 ⟨xs, H2, I2, r2, q2⟩ => ⟨x :: xs, H2, I2, .cons r1 r2, q2⟩

/-- a tuple, a list of written items -/
def tTup (t : TA) : TE := fun σ H Q => t σ H fun xs H1 => xs.length ≤ sizeLine ∧ ∀ p, H1 p = none → Q (.ref p) (upd H1 p (.tup xs))
def tLst (t : TA) : TE := fun σ H Q => t σ H fun xs H1 => xs.length ≤ sizeLine ∧ ∀ p, H1 p = none → Q (.ref p) (upd H1 p (.lst xs))
theorem pe_tup {x1} (h : PA X es t) : PE X (.Tuple es x1 pos) (tTup t) := by
  intro pins s σ H Q I hq
  refine wpAny_Tuple_spliced (thn (h pos pins s σ H _ I hq) fun us s1 ⟨xs, H1, I1, r, z, q⟩ => ⟨by rw [← r.length]; exact z, ?_⟩)
  have hf : H1 s1.heap.objs.size = none := I1.hok.fresh (Nat.le_refl _)
  refine ⟨.ref s1.heap.objs.size, upd H1 s1.heap.objs.size (.tup xs), I1.laid (t' := s1.toks) (fun b u e => Heap.get?_push_of_some _ e) (Nat.le_refl _) ?_, rfl, q _ hf⟩
  exact ⟨z, us, r, ⟨_, Heap.get?_push_size _ rfl, rfl, _, rfl⟩⟩
theorem pe_lst (h : PA X es t) : PE X (.List es pos) (tLst t) := by
  intro pins s σ H Q I hq
  refine wpAny_List_spliced (thn (h pos pins s σ H _ I hq) fun us s1 ⟨xs, H1, I1, r, z, q⟩ => ⟨by rw [← r.length]; exact z, ?_⟩)
  have hf : H1 s1.heap.objs.size = none := I1.hok.fresh (Nat.le_refl _)
  refine ⟨.ref s1.heap.objs.size, upd H1 s1.heap.objs.size (.lst xs), I1.laid (t' := s1.toks) (fun b u e => Heap.get?_push_of_some _ e) (Nat.le_refl _) ?_, rfl, q _ hf⟩
  exact ⟨z, us, 0, r, Heap.get?_push_size _ rfl⟩
end

/-! ### what a def promises -/
/-- a def's promise: the bound arguments in the parameters' order, the heap, the wanted end, the wanted exception -/
abbrev Sp := List V → Hp → VK → XK → Prop
/-- how an exception lies behind a call (file 08 gives it): the callers' frames, abstract heap and state ahead of the call, the wish, the exception, the state -/
abbrev CXT := List Env → Hp → Shared → XK → Value → Shared → Prop

/-- the state at a call -/
structure Env0 (P : Program) (w : World) (K : PySem.W.Frag) (mg : Str → Option Value) (base : Heap) (A : Around) (outer : List Env) (s : Shared) (H : Hp) : Prop where
  frames : A.frames = some outer
  mod : Mod K mg base
  bs : ∀ b o, base.get? b = some o → s.heap.get? b = some o ∧ H b = none
  bsz : base.objs.size ≤ s.heap.objs.size
  funs : s.heap.FunFrames base outer
  frf : ∀ b ∈ frs outer, H b = none
  hok : HOk P w H s.heap
  bare : AllBare s.gens
/-- a call's end -/
def CE (outer : List Env) (P : Program) (w : World) (H : Hp) (s : Shared) (Q : VK) (u : Value) (s' : Shared) : Prop :=
  ∃ v H', s'.os = s.os ∧ AllBare s'.gens ∧ Un (frs outer) [] H H' s.heap s'.heap ∧ HOk P w H' s'.heap ∧ RelV v u ∧ Q v H'
def CR (CX : CXT) (outer : List Env) (P : Program) (w : World) (H : Hp) (s : Shared) (Q : VK) (E : XK) (r : Result) (s' : Shared) : Prop :=
  match r with
  | .ok (.ret u) => CE outer P w H s Q u s'
  | .ok _ => False
  | .error e => CX outer H s E e s'
structure FnOk (P : Program) (w : World) (K : PySem.W.Frag) (mg : Str → Option Value) (base : Heap) (CX : CXT) (k : Nat) (f : Addr) (fd : FuncData) (ps : List Str) (sp : Sp) : Prop where
  len : ∀ vs H Q E, sp vs H Q E → vs.length = ps.length
  run : ∀ (A : Around) (outer : List Env) (s : Shared) (H : Hp) (args : Args) (us : List Value) (vs : List V) (Q : VK) (E : XK), Room k A → Env0 P w K mg base A outer s H → BindsTo s fd args (ps.zip us) → Vals vs us → sp vs H Q E →
    codeAny (model P w) A (.call (.ref f) args) (CR CX outer P w H s Q E) s
theorem FnOk.mono {P : Program} {w : World} {K : PySem.W.Frag} {mg : Str → Option Value} {base : Heap} {CX : CXT} {j k : Nat} {f : Addr} {fd : FuncData} {ps : List Str} {sp : Sp} (F : FnOk P w K mg base CX j f fd ps sp) (h : j ≤ k) :
    FnOk P w K mg base CX k f fd ps sp := ⟨F.len, fun A outer s H args us vs Q E hr => F.run A outer s H args us vs Q E (hr.mono h)⟩
/-- a weaker promise -/
theorem FnOk.imp {P : Program} {w : World} {K : PySem.W.Frag} {mg : Str → Option Value} {base : Heap} {CX : CXT} {k : Nat} {f : Addr} {fd : FuncData} {ps : List Str} {sp sp' : Sp} (F : FnOk P w K mg base CX k f fd ps sp)
    (h : ∀ vs H Q E, sp' vs H Q E → sp vs H Q E) : FnOk P w K mg base CX k f fd ps sp' :=
  ⟨fun vs H Q E q => F.len vs H Q E (h _ _ _ _ q), fun A outer s H args us vs Q E hr he hb hv hs => F.run A outer s H args us vs Q E hr he hb hv (h _ _ _ _ hs)⟩

theorem Env0.make {P : Program} {w : World} {K : PySem.W.Frag} {mg : Str → Option Value} {base : Heap} {A : Around} {outer : List Env} {s : Shared} {H : Hp} (e : Env0 P w K mg base A outer s H) (C : Addr) (us : List Value) (kw : List (Str × Value)) :
    Env0 P w K mg base (A.under (.builtin "type.__call__" ⟨.ref C :: us, kw⟩)) outer s H := ⟨by first | exact e.frames | (simpa [Around.under, Code.envs, Code.isFrame, pushEnvs] using e.frames), e.mod, e.bs, e.bsz, e.funs, e.frf, e.hok, e.bare⟩
theorem Env0.in1 {P : Program} {w : World} {K : PySem.W.Frag} {mg : Str → Option Value} {base : Heap} {A : Around} {outer : List Env} {s : Shared} {H : Hp} (e : Env0 P w K mg base A outer s H) :
    Env0 P w K mg base A.in1 outer s H := ⟨e.frames, e.mod, e.bs, e.bsz, e.funs, e.frf, e.hok, e.bare⟩

section
variable {X : Cx} {pins : List (Addr × Obj)} {σ : St} {H : Hp} {s s' : Shared}
/-- from a body: what a callee wants -/
theorem Inv.env0 (I : Inv X pins σ H s) : Env0 X.prog X.w X.K X.mg X.base X.A X.stack s H :=
  ⟨I.ok.frames, I.ok.mod, I.bs, Nat.le_trans I.ok.bsz I.sz, I.stack, I.stkFree, I.hok, I.bare⟩
/-- behind a call -/
theorem Inv.after {Q : VK} {u : Value} (I : Inv X pins σ H s) (h : CE X.stack X.prog X.w H s Q u s') : EP X pins σ Q u s' := by
  obtain ⟨v, H', os, bare, un, hok, r, q⟩ := h
  obtain ⟨hh, g, d, t, os'⟩ := s'
  obtain rfl : os' = s.os := os
  exact ⟨v, H', I.call (h' := hh) (g' := g) (d' := d) (t' := t) (ch := []) un hok bare (fun b z => absurd z (by simp)), r, q⟩
end

/-! ### calls -/
/-- f(..): the written arguments, then the defaults dvs; E: what is wanted of an exception -/
def tCall (sp : Sp) (dvs : List V) (E : XK) (t : TA) : TE := fun σ H Q => t σ H fun vs H1 => sp (vs ++ dvs) H1 Q E
/-- o.m(..) of an instance of the class at C -/
def tMeth (C : Addr) (m : Str) (sp : Sp) (dvs : List V) (E : XK) (ta : TE) (t : TA) : TE := fun σ H Q => ta σ H fun x H1 => ∃ a dx fs, x = .ref a ∧ H1 a = some (.ins C dx fs) ∧ fs.lookup m = none ∧
  t σ H1 fun vs H2 => sp (x :: (vs ++ dvs)) H2 Q E
/-- C(..): a new instance and its dict, then __init__ -/
def tMake (C : Addr) (sp : Sp) (dvs : List V) (E : XK) (t : TA) : TE := fun σ H Q => t σ H fun vs H1 => ∀ x dx, H1 x = none → H1 dx = none → dx ≠ x →
  sp (.ref x :: (vs ++ dvs)) (upd (upd H1 dx (.own x)) x (.ins C dx [])) (fun v H2 => v = .non ∧ Q (.ref x) H2) E

/-- how the parameters are bound: us the positional arguments, kw the keywords' values by name, ds the defaults that fill up -/
def Binds (K : PySem.W.Frag) (fd : FuncData) (ps : List Str) (ds : List Value) : Prop :=
  ∀ (s : Shared) (us : List Value), K.In s.heap → (us ++ ds).length = ps.length → BindsTo s fd ⟨us, []⟩ (ps.zip (us ++ ds))
/-- every parameter is given -/
theorem Binds.all {K : PySem.W.Frag} {fd : FuncData} {ps : List Str} (h : ∀ us : List Value, us.length = ps.length → bindArgs fd ⟨us, []⟩ = pure (ps.zip us)) : Binds K fd ps [] := fun s us _ hl => by
  rw [List.append_nil] at hl ⊢
  exact .of_eq (h us hl)

/-- an exception of a callee reaches what this body wants of exceptions -/
def Passes (CX : CXT) (X : Cx) (E : XK) : Prop := ∀ (pins : List (Addr × Obj)) (σ : St) (H : Hp) (s : Shared) (e : Value) (s' : Shared), Inv X pins σ H s → CX X.stack H s E e s' → X.xe e s'

section
variable {X : Cx} {CX : CXT} {k : Nat} {f C : Addr} {fd : FuncData} {ps : List Str} {sp : Sp} {dvs : List V} {ds : List Value} {E : XK} {x m : Str} {p pos apos : Pos} {e o : Expr} {es : List Expr} {ta : TE} {t : TA}




/-- what a class must have to be made -/
structure Mk (K : PySem.W.Frag) (C f : Addr) : Prop where
  makes : PySem.W.makesIn K C = true
  init : PySem.W.findIn K (.ref C) "__init__" = some (some (.ref f))
  fn : PySem.W.isFn K (.ref f) = true
  kp : PySem.W.keepIn K (.ref C) = true

end

/-! ### keywords -/
/-- the values of the keywords, from the left -/
def PK (X : Cx) (kws : List Keyword) (t : TA) : Prop :=
  ∀ (pos : Pos) (pins : List (Addr × Obj)) (s : Shared) (σ : St) (H : Hp) (Q : List V → Hp → Prop), Inv X pins σ H s → t σ H Q → wpAny (model X.prog X.w) X.A (evalAll ((backToKw pos (keywordEach kws X.env)).map (·.2))) (AP X pins σ Q) X.xe s
section
variable {X : Cx} {CX : CXT} {k : Nat} {f C : Addr} {fd : FuncData} {ps ks : List Str} {sp : Sp} {E : XK} {x m : Str} {p pos apos kpos : Pos} {e o : Expr} {es : List Expr} {kws : List Keyword} {te ta : TE} {t tk : TA} {nm : Option Str}

/-- how a call with keywords binds: g puts the positional values us and the keywords' values ws (names ks) in the parameters' order, defaults among them -/
structure KBinds (K : PySem.W.Frag) (fd : FuncData) (ps ks : List Str) (g : List Value → List Value → List Value) (gV : List V → List V → List V) : Prop where
  to : ∀ (s : Shared) (us ws : List Value), K.In s.heap → (g us ws).length = ps.length → BindsTo s fd ⟨us, ks.zip ws⟩ (ps.zip (g us ws))
  rel : ∀ {vs : List V} {us : List Value} {zs : List V} {ws : List Value}, Vals vs us → Vals zs ws → Vals (gV vs zs) (g us ws)
def tCallK (sp : Sp) (gV : List V → List V → List V) (E : XK) (t tk : TA) : TE := fun σ H Q => t σ H fun vs H1 => tk σ H1 fun zs H2 => sp (gV vs zs) H2 Q E
variable {g : List Value → List Value → List Value} {gV : List V → List V → List V}
end

/-! ### a def's body keeps its promise -/
/-- names: the parameters first -/
structure FnScope (N P : List Str) (sc : Scope) : Prop where
  kind : sc.kind = .function
  co : sc.isCoroutine = false
  gen : sc.isGenerator = false
  nd : N.Nodup
  pre : N.take P.length = P
  par : ∀ x ∈ P, sc.names.lookup x = some .local ∨ sc.names.lookup x = some .cell
  nofree : ∀ y ∈ sc.names, y.2 ≠ .free

theorem bindL_out {kindOf : Str → Option NameKind} {x : Str} : ∀ {binds : List (Str × Value)} {m : Str → Option Value}, (∀ v, (x, v) ∉ binds) → bindL kindOf binds m x = m x
  | [], _, _ => rfl
  | (n, v) :: r, m, h => by
    unfold bindL
    rw [bindL_out fun w hw => h w (List.mem_cons_of_mem _ hw)]
    split
    · have : x ≠ n := by rintro rfl; exact h v List.mem_cons_self
      simp [this]
    · rfl
theorem bindC_out {kindOf : Str → Option NameKind} {x : Str} : ∀ {binds : List (Str × Value)} {m : Str → Option Value}, (∀ v, (x, v) ∉ binds) → bindC kindOf binds m x = m x
  | [], _, _ => rfl
  | (n, v) :: r, m, h => by
    unfold bindC
    rw [bindC_out fun w hw => h w (List.mem_cons_of_mem _ hw)]
    split
    · rfl
    · have : x ≠ n := by rintro rfl; exact h v List.mem_cons_self
      simp [this]
theorem bindL_get {kindOf : Str → Option NameKind} {x : Str} {v : Value} : ∀ {P : List Str} {vs : List Value} {i : Nat} {m : Str → Option Value}, P.Nodup → P[i]? = some x → vs[i]? = some v → kindOf x = some .local →
    bindL kindOf (P.zip vs) m x = some v
  | [], _, _, _, _, h, _, _ => by simp at h
  | _ :: _, [], _, _, _, _, h, _ => by simp at h
  | p :: P, w :: vs, 0, m, nd, h1, h2, hk => by
    simp at h1 h2; subst h1; subst h2
    show bindL kindOf ((p, w) :: P.zip vs) m p = _
    unfold bindL
    rw [bindL_out fun v hv => (List.nodup_cons.mp nd).1 (List.of_mem_zip hv).1, if_pos hk]
    simp
  | p :: P, w :: vs, i + 1, m, nd, h1, h2, hk => by
    show bindL kindOf ((p, w) :: P.zip vs) m x = _
    unfold bindL
    exact bindL_get (i := i) (List.nodup_cons.mp nd).2 (by simpa using h1) (by simpa using h2) hk
theorem bindC_get {kindOf : Str → Option NameKind} {x : Str} {v : Value} : ∀ {P : List Str} {vs : List Value} {i : Nat} {m : Str → Option Value}, P.Nodup → P[i]? = some x → vs[i]? = some v → kindOf x ≠ some .local →
    bindC kindOf (P.zip vs) m x = some v
  | [], _, _, _, _, h, _, _ => by simp at h
  | _ :: _, [], _, _, _, _, h, _ => by simp at h
  | p :: P, w :: vs, 0, m, nd, h1, h2, hk => by
    simp at h1 h2; subst h1; subst h2
    show bindC kindOf ((p, w) :: P.zip vs) m p = _
    unfold bindC
    rw [bindC_out fun v hv => (List.nodup_cons.mp nd).1 (List.of_mem_zip hv).1, if_neg hk]
    simp
  | p :: P, w :: vs, i + 1, m, nd, h1, h2, hk => by
    show bindC kindOf ((p, w) :: P.zip vs) m x = _
    unfold bindC
    exact bindC_get (i := i) (List.nodup_cons.mp nd).2 (by simpa using h1) (by simpa using h2) hk

/-- the names' values at the entry -/
def start (N : List Str) (vs : List V) : St := vs.map some ++ List.replicate (N.length - vs.length) none

/-- the context of a def's body, at its entry; an exception leaves the frame, then lies as CX says -/
def cxOf (CX : CXT) (P : Program) (w : World) (K : PySem.W.Frag) (mg : Str → Option Value) (base : Heap) (N : List Str) (qual : Str) (scope : Scope) (f : Addr) (cd : Value) (A : Around) (outer : List Env) (s : Shared) (H : Hp) (E : XK) : Cx where
  prog := P
  w := w
  K := K
  mg := mg
  base := base
  A := A.deeper (envOfC qual scope s.heap.objs.size f cd)
  N := N
  s₀ := s
  H₀ := H
  env := envOfC qual scope s.heap.objs.size f cd
  outer := outer
  stack := envOfC qual scope s.heap.objs.size f cd :: outer
  ex := []
  calm := true
  fn := fun _ => true
  pn := []
  xe := fun e s' => wpAny (model P w) (A.deeper (envOfC qual scope s.heap.objs.size f cd)) (leaving (envOfC qual scope s.heap.objs.size f cd) e) (fun _ s'' => CX outer H s E e s'') (fun e' s'' => CX outer H s E e' s'') s'

theorem cell_has {sc : Scope} {n : Nat} {x : Str} (h : sc.names.lookup x = some .cell) : ∃ c, (cellsFrom n sc.names []).lookup x = some c := by
  have q := PySem.W.cellsFrom_some sc.names n [] (.inl h)
  exact Option.isSome_iff_exists.mp q

theorem inv_start {CX : CXT} {P : Program} {w : World} {K : PySem.W.Frag} {mg : Str → Option Value} {base : Heap} {N ps : List Str} {qual : Str} {scope : Scope} {f : Addr} {cd : Value} {A : Around} {outer : List Env} {s s1 : Shared} {H : Hp} {E : XK} {us : List Value} {vs : List V}
    (S : FnScope N ps scope) (hd : A.handled = none) (e0 : Env0 P w K mg base A outer s H) (hl : vs.length = ps.length) (r : Vals vs us)
    (x : InCallC s s.heap.objs.size (bindL (envOfC qual scope s.heap.objs.size f cd).kindOf (ps.zip us) fun _ => none) (cellsFrom (s.heap.objs.size + 1) scope.names []) (bindC (envOfC qual scope s.heap.objs.size f cd).kindOf (ps.zip us) fun _ => none) s1) :
    Inv (cxOf CX P w K mg base N qual scope f cd A outer s H E) [] (start N vs) H s1 := by
  have hpl : ps.length ≤ N.length := by have := congrArg List.length S.pre; rw [List.length_take] at this; omega
  obtain ⟨h1, tk, rfl, hk⟩ := x.done
  have noA : ∀ b : Addr, b ∉ (cxOf CX P w K mg base N qual scope f cd A outer s H E).ex := fun b z => absurd (show b ∈ ([] : List Addr) from z) (by simp)
  refine ⟨⟨e0.mod, S.kind, rfl, rfl, Nat.le_refl _, fun y z c h1 h2 => ?_, fun y hy => ?_, fun y c _ h => ?_, fun _ => hd, Around.frames_deeper e0.frames, .inr ⟨rfl, rfl⟩, fun b z => absurd z (noA b), e0.bs, e0.bsz, fun b _ _ => noA b, fun b z => absurd z (noA b), e0.funs, e0.frf⟩,
    rfl, e0.bare, Un.kept hk, ⟨_, x.toInCall.ns, fun i y v h1 h2 h3 => ?_⟩, fun y c h => ⟨_, x.cell y c h⟩, e0.hok.fresh (Nat.le_refl _), fun y c h => ?_, fun p hp => absurd (show p ∈ ([] : List (Addr × Obj)) from hp) (by simp), e0.hok.kept hk, ?_⟩
  · exact name_of_addr x.apart (PySem.mem_of_lookup h1) (PySem.mem_of_lookup h2)
  · have hy : scope.names.lookup y = some .cell ∨ scope.names.lookup y = some .free := hy
    rcases hy with hy | hy
    · exact cell_has hy
    · exact absurd rfl (S.nofree _ (PySem.mem_of_lookup hy))
  · exact Nat.le_of_lt (x.above y c (PySem.mem_of_lookup h))
  · have hi : i < vs.length := by
      unfold start at h2
      by_cases hi : i < vs.length
      · exact hi
      · rw [List.getElem?_append_right (by simpa using hi)] at h2
        rw [List.getElem?_replicate] at h2
        split at h2 <;> cases h2
    have ha : vs[i]? = some v := by
      unfold start at h2
      rw [List.getElem?_append_left (by simpa using hi), List.getElem?_map] at h2
      cases e : vs[i]? with
      | none => rw [e] at h2; cases h2
      | some a => rw [e] at h2; cases h2; rfl
    obtain ⟨u, hu, rv⟩ := r.get ha
    have hp : ps[i]? = some y := by
      rw [← S.pre, List.getElem?_take_of_lt (by omega)]; exact h1
    have ndP : ps.Nodup := by rw [← S.pre]; exact S.nd.sublist (List.take_sublist _ _)
    refine ⟨u, rv, ?_⟩
    rcases S.par y (List.mem_of_getElem? hp) with k | k
    · exact .inl ⟨k, bindL_get ndP hp hu k⟩
    · obtain ⟨c, e⟩ := cell_has (n := s.heap.objs.size + 1) k
      refine .inr ⟨.inl k, c, e, ?_⟩
      have q := x.cell y c e
      rw [bindC_get ndP hp hu (by show scope.names.lookup y ≠ _; rw [k]; decide)] at q
      exact q
  · exact e0.hok.fresh (Nat.le_of_lt (x.above y c (PySem.mem_of_lookup h)))
  · unfold start
    show _ = N.length
    rw [List.length_append, List.length_map, List.length_replicate]
    omega

/-- THE RULE: a def (or a method) of the text, by its body. The body's reading t is chosen for each entry; it is run at the parameters' values -/
theorem fn_of {CX : CXT} {P : Program} {w : World} {K : PySem.W.Frag} {mg : Str → Option Value} {base : Heap} {k : Nat} {f : Addr} {name qual : Str} {params : Arguments} {body : List Stmt} {scope : Scope} {dV kV doc pm cdv ct oc : Value} {an od : Option Addr}
    {osl : Array (Option Value)} {N ps : List Str} {sp : Sp} (lk : K.lookup f = some ⟨oc, od, .func (PySem.W.fnOf name qual params body scope dV kV doc pm an cdv ct), osl⟩) (hcd : PySem.W.codeIn K cdv qual = true) (S : FnScope N ps scope)
    (len : ∀ vs H Q E, sp vs H Q E → vs.length = ps.length)
    (hbody : ∀ (A : Around) (outer : List Env) (s : Shared) (H : Hp) (vs : List V) (Q : VK) (E : XK), Room k (A.deeper (envOfC qual scope s.heap.objs.size f cdv)) → sp vs H Q E →
      ∃ t, PSs (cxOf CX P w K mg base N qual scope f cdv A outer s H E) body t ∧ t { nx := fun _ H' => Q .non H', rt := Q } (start N vs) H) :
    FnOk P w K mg base CX (k + 1) f (PySem.W.fnOf name qual params body scope dV kV doc pm an cdv ct) ps sp := by
  refine ⟨len, fun A outer s H args us vs Q E hr e0 hb r hsp => ?_⟩
  have hl := len _ _ _ _ hsp
  have KX : K.In s.heap := e0.mod.kin.keeps fun b o e => (e0.bs b o e).1
  have lim : s.heap.NoLimit := e0.mod.nolimit.keeps fun b o e => (e0.bs b o e).1
  have hkind : ∀ y ∈ ps.zip us, scope.names.lookup y.1 = some .local ∨ (scope.names.lookup y.1 = some .cell ∧ ((cellsFrom (s.heap.objs.size + 1) scope.names []).lookup y.1).isSome = true) := fun ⟨n, v⟩ hy => by
    rcases S.par n (List.of_mem_zip hy).1 with q | q
    · exact .inl q
    · exact .inr ⟨q, PySem.W.cellsFrom_some _ _ _ (.inl q)⟩
  refine codeAny_call_function hr.depth (KX _ _ lk) rfl S.co S.gen rfl (PySem.W.codeRec_of KX hcd) (hb _ _ _ _ ?_)
  refine wpAny_newFunctionEnv_cells S.kind hkind fun env he s1 x => ?_
  subst he
  refine ⟨lim.keeps x.toInCall.keep, codeAny_func ?_⟩
  obtain ⟨t, ht, hq⟩ := hbody A outer s H vs Q E (hr.deeper _) hsp
  have I : Inv (cxOf CX P w K mg base N qual scope f cdv A outer s H E) [] (start N vs) H s1 := inv_start S hr.hd e0 hl r x
  refine wpAny_mono (ht [] s1 (start N vs) H _ I hq) (fun fl s' hs => ?_) fun e s' hs => hs
  have fin : ∀ {σ' : St} {H' : Hp} {v : V} {u : Value}, Inv (cxOf CX P w K mg base N qual scope f cdv A outer s H E) [] σ' H' s' → RelV v u → Q v H' → CE outer P w H s Q u s' :=
    fun {σ' H' v u} J rv q => ⟨v, H', J.os, J.bare, J.base, J.hok, rv, q⟩
  cases fl with
  | ret u =>
    obtain ⟨v, σ', H', J, rv, q⟩ := hs
    exact fin J rv q
  | next =>
    obtain ⟨σ', H', J, q⟩ := hs
    exact fin (v := V.non) (u := Value.none) J rfl q
  | brk =>
    obtain ⟨_, _, _, q⟩ := hs
    exact False.elim q
  | cont =>
    obtain ⟨_, _, _, q⟩ := hs
    exact False.elim q
end L2

namespace L2
open PySem PySem.Spec PyProof.Rows
section
variable {X : Cx} {x : Str} {p pos : Pos} {e : Expr} {es : List Expr} {t : TA} {id T : String} {r : List V → Hp → VK → Prop}

def tCB (r : List V → Hp → VK → Prop) (t : TA) : TE := fun σ H Q => t σ H fun vs H1 => r vs H1 Q
/-- f(e, ..), f a built-in function -/
theorem pe_callB (hc : CallR X (.builtin id) r) (hg : Gl X x) (hm : X.mg x = none) (hv : bootBuiltins x = some (.builtin id)) (ha : PA X (e :: es) t) (hn : x ≠ "__name__" := by decide) (hdb : (x == ("__debug__" : Str)) = false := by decide)
    (he : starEach (e :: es) X.env = (false, eval e X.env) :: starEach es X.env := by rfl) (hpl : (backTo pos (starEach es X.env)).any (·.1) = false := by rfl) : PE X (.Call (.Name x p) (e :: es) [] pos) (tCB r t) := by
  intro pins s σ H Q I h
  refine wpAny_Call_Name_kw (ld_blt I hg hm hv ?_ hn hdb)
  exact PyProof.Rows.callWith_builtin1 (thn (ha pos pins s σ H _ I h) fun us s1 ⟨vs, H1, I1, r1, q1⟩ => hc pins s1 σ H1 vs us Q I1 r1 q1) he hpl
/-- T(e, ..), T a built-in type -/
theorem pe_callTy (hc : CallR X (.type T) r) (hg : Gl X x) (hm : X.mg x = none) (hv : bootBuiltins x = some (.type T)) (ha : PA X (e :: es) t) (hn : x ≠ "__name__" := by decide) (hdb : (x == ("__debug__" : Str)) = false := by decide)
    (he : starEach (e :: es) X.env = (false, eval e X.env) :: starEach es X.env := by rfl) (hpl : (backTo pos (starEach es X.env)).any (·.1) = false := by rfl) : PE X (.Call (.Name x p) (e :: es) [] pos) (tCB r t) := by
  intro pins s σ H Q I h
  refine wpAny_Call_Name_kw (ld_blt I hg hm hv ?_ hn hdb)
  exact PyProof.Rows.callWith_type1 (thn (ha pos pins s σ H _ I h) fun us s1 ⟨vs, H1, I1, r1, q1⟩ => hc pins s1 σ H1 vs us Q I1 r1 q1) he hpl
end
end L2

namespace HT
open PySem PyProof.Rows

/-- t < u of tuples of ints -/
def lexLt : List Int → List Int → Bool
  | [], [] => false
  | [], _ :: _ => true
  | _ :: _, [] => false
  | x :: xs, y :: ys => if x = y then lexLt xs ys else decide (x < y)


section
open PySem.SeqAt
open PySem.AutoSeq1 (wpAny_loadPart')
open PySem.MeetsSeq PySem.MeetsSeq2 PySem.MeetsSeq3

end

section
variable {prog : Program} {w : World} {A : Around} {E : Value → Shared → Prop} {s : Shared}



/-! ### t[a:b], not the whole -/
/-- a slice's bound as a place among n (d where it is left out) -/
def sIx (n d : Nat) : Option Int → Nat
  | none => d
  | some v => if v < 0 then (v + (n : Int)).toNat else min v.toNat n

end
end HT

namespace L2
open PySem PySem.Spec PyProof.Rows

/-! ### the parts of a slice -/
abbrev TO := St → Hp → (Option Int → Hp → Prop) → Prop
/-- a slice's part (left out, or an int) -/
def PO (X : Cx) (e : Option Expr) (t : TO) : Prop :=
  ∀ (pins : List (Addr × Obj)) (s : Shared) (σ : St) (H : Hp) (Q : Option Int → Hp → Prop), Inv X pins σ H s → t σ H Q →
    wpAny (model X.prog X.w) X.A (evalPart e X.env) (fun u s' => ∃ o H', Inv X pins σ H' s' ∧ IsPart u o ∧ Q o H') X.xe s
def tNoPart : TO := fun _ H Q => Q none H
def tPart (t : TE) : TO := fun σ H Q => t σ H fun x H1 => ∃ i, x = .int i ∧ Q (some i) H1

theorem intsAre_of {ns : List Int} : ∀ {us : List Value}, Vals (ns.map V.int) us → IntsAre us ns := by
  induction ns with
  | nil => intro us r; rw [List.map_nil] at r; cases r; exact .nil
  | cons n ns ih =>
    intro us r
    rw [List.map_cons] at r
    cases r with
    | cons r1 r2 =>
      obtain ⟨t, e⟩ := r1
      subst e
      exact .cons n t (ih r2)

section
variable {X : Cx} {e : Expr} {te : TE} {lo hi : Option Expr} {tl th : TO} {pos p2 : Pos}


/-- what a slice of a value is, by values: the slice object stands at sl -/
def SlR (X : Cx) (r : V → Option Int → Option Int → Hp → VK → Prop) : Prop :=
  ∀ (pins : List (Addr × Obj)) (s : Shared) (σ : St) (H : Hp) (x : V) (v vl vu : Value) (lo hi : Option Int) (sl : Addr) (Q : VK), Inv X pins σ H s → RelV x v → s.heap.IsSliceOf sl vl vu .none → IsPart vl lo → IsPart vu hi → r x lo hi H Q →
    ∃ T id, typeLookup (.type T) "__getitem__" = pure (some (.builtin id)) ∧ s.TypeIs v T ∧ wpAny (model X.prog X.w) X.A (getItem v (.ref sl)) (EP X pins σ Q) X.xe s
theorem SlR.or {r r' : V → Option Int → Option Int → Hp → VK → Prop} (h : SlR X r) (h' : SlR X r') : SlR X (fun x lo hi H Q => r x lo hi H Q ∨ r' x lo hi H Q) := by
  intro pins s σ H x v vl vu lo hi sl Q I rx hs pl pu q
  rcases q with q | q
  · exact h pins s σ H x v vl vu lo hi sl Q I rx hs pl pu q
  · exact h' pins s σ H x v vl vu lo hi sl Q I rx hs pl pu q
def tSl (r : V → Option Int → Option Int → Hp → VK → Prop) (te : TE) (tl th : TO) : TE := fun σ H Q => te σ H fun x H1 => tl σ H1 fun l H2 => th σ H2 fun u H3 => r x l u H3 Q

/-- the items of xs[lo:hi] -/
def cutV (xs : List V) (lo hi : Option Int) : List V := (xs.drop (HT.sIx xs.length 0 lo)).take (HT.sIx xs.length xs.length hi - HT.sIx xs.length 0 lo)
/-- t[lo:hi], not the whole of it (the whole would be t itself) -/
def rSlT (K : PySem.W.Frag) : V → Option Int → Option Int → Hp → VK → Prop := fun x lo hi H Q => ∃ a xs, x = .ref a ∧ SqT K H a xs ∧
  ¬ (HT.sIx xs.length 0 lo = 0 ∧ HT.sIx xs.length xs.length hi = xs.length) ∧ ∀ p, H p = none → Q (.ref p) (upd H p (.tup (cutV xs lo hi)))

/-! ### t < u, t + u -/
def rLtT (K : PySem.W.Frag) : R2 := fun x y H Q => ∃ a b ns ms, x = .ref a ∧ y = .ref b ∧ SqT K H a (ns.map V.int) ∧ SqT K H b (ms.map V.int) ∧ Q (.bl (HT.lexLt ns ms)) H
/-- t + u, t not empty: u empty gives t itself -/
def rCatT (K : PySem.W.Frag) : R2 := fun x y H Q => ∃ a b xs ys, x = .ref a ∧ y = .ref b ∧ SqT K H a xs ∧ SqT K H b ys ∧ xs ≠ [] ∧ xs.length + ys.length ≤ sizeLine ∧
  (ys = [] → Q (.ref a) H) ∧ (ys ≠ [] → ∀ p, H p = none → Q (.ref p) (upd H p (.tup (xs ++ ys))))
end
end L2

namespace L2
open PySem PySem.Spec PyProof.Rows

/-! ### places -/
/-- the place that an index of any sign means -/
def ixN (n : Nat) (i : Int) : Option Nat := if 0 ≤ i then (if i < n then some i.toNat else none) else if -(n : Int) ≤ i then some (i + n).toNat else none
def atI {α : Type} (xs : List α) (i : Int) : Option α := (ixN xs.length i).bind fun j => xs[j]?
theorem ixN_seq {n : Nat} {i : Int} {j : Nat} (h : ixN n i = some j) : seqIndex? i n = some j ∧ j < n ∧ -(n : Int) ≤ i ∧ i < n := by
  unfold ixN at h
  by_cases h0 : 0 ≤ i
  · rw [if_pos h0] at h
    by_cases h1 : i < n
    · rw [if_pos h1] at h
      have e : i.toNat = j := Option.some.inj h
      exact ⟨by rw [seqIndex_of h0 h1, e], by omega, by omega, h1⟩
    · rw [if_neg h1] at h; cases h
  · rw [if_neg h0] at h
    by_cases h1 : -(n : Int) ≤ i
    · rw [if_pos h1] at h
      have e : (i + n).toNat = j := Option.some.inj h
      exact ⟨by rw [seqIndex_neg (by omega) h1, e], by omega, h1, by omega⟩
    · rw [if_neg h1] at h; cases h
theorem atI_get {α : Type} {xs : List α} {i : Int} {v : α} (h : atI xs i = some v) : ∃ j, seqIndex? i xs.length = some j ∧ xs[j]? = some v ∧ j < xs.length ∧ -(xs.length : Int) ≤ i ∧ i < xs.length := by
  unfold atI at h
  cases e : ixN xs.length i with
  | none => rw [e] at h; cases h
  | some j =>
    rw [e] at h
    obtain ⟨h1, h2, h3, h4⟩ := ixN_seq e
    exact ⟨j, h1, h, h2, h3, h4⟩
theorem atI_nat {α : Type} {xs : List α} {j : Nat} {v : α} (h : xs[j]? = some v) : atI xs (j : Int) = some v := by
  have hj : j < xs.length := (List.getElem?_eq_some_iff.mp h).1
  have e : ixN xs.length (j : Int) = some j := by
    unfold ixN
    rw [if_pos (by omega), if_pos (by omega)]; simp
  unfold atI; rw [e]; exact h

/-! ### what may be subscripted -/
/-- what stands as an index of a plain subscript -/
def PlainIx (b : Expr) : Prop := ∀ o i, subscripted b false o i = operate [o, i] (getItem o i)
/-- a subscript by values -/
def IxR (X : Cx) (r : R2) : Prop :=
  ∀ (value slice : Expr) (pins : List (Addr × Obj)) (s : Shared) (σ : St) (H : Hp) (x y : V) (v u : Value) (Q : VK), Inv X pins σ H s → RelV x v → RelV y u → r x y H Q →
    subscripted slice false v u = operate [v, u] (getItem v u) → wpAny (model X.prog X.w) X.A (subscriptTail value slice v u) (EP X pins σ Q) X.xe s
/-- a call of a builtin's method by values: the receiver, the arguments -/
def MtR (X : Cx) (id : String) (r : V → List V → Hp → VK → Prop) : Prop :=
  ∀ (pins : List (Addr × Obj)) (s : Shared) (σ : St) (H : Hp) (x : V) (xs : List V) (v : Value) (us : List Value) (Q : VK), Inv X pins σ H s → RelV x v → Vals xs us → r x xs H Q →
    wpAny (model X.prog X.w) X.A (call (.builtin id) (v :: us)) (EP X pins σ Q) X.xe s
section
variable {X : Cx} {a b : Expr} {ta tb : TE} {pos : Pos}
theorem IxR.or {r r' : R2} (h : IxR X r) (h' : IxR X r') : IxR X (fun x y H Q => r x y H Q ∨ r' x y H Q) := by
  intro value slice pins s σ H x y v u Q I rx ry q hs
  rcases q with q | q
  · exact h value slice pins s σ H x y v u Q I rx ry q hs
  · exact h' value slice pins s σ H x y v u Q I rx ry q hs
theorem MtR.or {id : String} {r r' : V → List V → Hp → VK → Prop} (h : MtR X id r) (h' : MtR X id r') : MtR X id (fun x xs H Q => r x xs H Q ∨ r' x xs H Q) := by
  intro pins s σ H x xs v us Q I rx rs q
  rcases q with q | q
  · exact h pins s σ H x xs v us Q I rx rs q
  · exact h' pins s σ H x xs v us Q I rx rs q
/-- a[b] -/
theorem pe_ix {r : R2} (hr : IxR X r) (ha : PE X a ta) (hb : PE X b tb) (hs : PlainIx b) : PE X (.Subscript a b pos) (tOp r ta tb) := by
  intro pins s σ H Q I h
  exact Subscript_ (binT ha hb I h fun v u s2 x y H2 I2 rx ry q => hr a b pins s2 σ H2 x y v u Q I2 rx ry q (hs _ _))

def rIxL (K : PySem.W.Frag) : R2 := fun x y H Q => ∃ p xs i v, x = .ref p ∧ y = .int i ∧ SqL K H p xs ∧ atI xs i = some v ∧ Q v H
def rIxT (K : PySem.W.Frag) : R2 := fun x y H Q => ∃ p xs i v, x = .ref p ∧ y = .int i ∧ SqT K H p xs ∧ atI xs i = some v ∧ Q v H
def rIxS : R2 := fun x y H Q => ∃ z i c, x = .str z ∧ y = .int i ∧ z.length ≤ sizeLine ∧ atI z.cps.toList i = some c ∧ Q (.str ⟨#[c]⟩) H
theorem ix_list : IxR X (rIxL X.K) := by
  intro value slice pins s σ H x y v u Q I rx ry h hs
  obtain ⟨p, xs, i, z, rfl, rfl, hq, he, q⟩ := h
  cases rx
  obtain ⟨t, rfl⟩ := ry
  obtain ⟨its, r, pl, hz⟩ := I.list hq
  obtain ⟨j, h1, h2, h3, h4, h5⟩ := atI_get he
  obtain ⟨w, ew, rw'⟩ := r.get h2
  have hl := r.length
  have hn := line63
  have fin : EP X pins σ Q w s := ⟨z, H, I, rw', q⟩
  by_cases h0 : 0 ≤ i
  · have hj : i.toNat = j := by
      rw [seqIndex_of h0 h5] at h1
      exact Option.some.inj h1
    exact item_listR pl.isList h0 (by omega) (by rw [hj]; simpa using ew) fin hs
  · have hj : (i + (its.toArray.size : Int)).toNat = j := by
      rw [seqIndex_neg (by omega) h4] at h1
      rw [List.size_toArray, ← hl]
      exact Option.some.inj h1
    exact subscriptTail_builtinR (x := w) pl.isList.typeIs slot_list_getitem.lookup
      (wpAny_getItem_list_neg (Q := fun r s' => r = w ∧ EP X pins σ Q r s') pl.isList (by omega) (by rw [List.size_toArray] <;> omega) (by omega) (by rw [hj]; simpa using ew) ⟨rfl, fin⟩) hs
theorem ix_tup : IxR X (rIxT X.K) := by
  intro value slice pins s σ H x y v u Q I rx ry h hs
  obtain ⟨p, xs, i, z, rfl, rfl, hq, he, q⟩ := h
  cases rx
  obtain ⟨t, rfl⟩ := ry
  obtain ⟨its, r, pl, hz⟩ := I.tuple hq
  obtain ⟨j, h1, h2, h3, h4, h5⟩ := atI_get he
  obtain ⟨w, ew, rw'⟩ := r.get h2
  have hl := r.length
  have hn := line63
  have fin : EP X pins σ Q w s := ⟨z, H, I, rw', q⟩
  exact subscriptTail_builtinR (x := w) pl.typeIs slot_tuple_getitem.lookup
    (getItem_tuple (j := j) (Q := fun r s' => r = w ∧ EP X pins σ Q r s') pl (by omega) (by omega) (by rw [List.size_toArray, ← hl]; exact h1) (by simpa using ew) ⟨rfl, fin⟩) hs
/-- list, tuple or str -/
def rIx (K : PySem.W.Frag) : R2 := fun x y H Q => rIxL K x y H Q ∨ rIxT K x y H Q ∨ rIxS x y H Q

/-! ### xs[i] = v, any sign -/
/-- the list's object behind a store -/
theorem mapSeq_set (its : List Value) (n j : Nat) (u : Value) : Obj.mapSeq (·.setIfInBounds j u) { cls := .type "list", data := .seq its.toArray n } = { cls := .type "list", data := .seq (its.set j u).toArray n } := by
  simp [Obj.mapSeq]
theorem Inv.lst {pins : List (Addr × Obj)} {σ : St} {H : Hp} {s : Shared} {p : Addr} {xs : List V} (I : Inv X pins σ H s) (h : H p = some (.lst xs)) :
    ∃ (its : List Value) (n : Nat), Vals xs its ∧ s.heap.get? p = some { cls := .type "list", data := .seq its.toArray n } ∧ xs.length ≤ sizeLine := by
  obtain ⟨z, its, n, r, e⟩ := I.hok p _ h
  exact ⟨its, n, r, e, z⟩
/-- the list at p is written by an update of its object -/
theorem Inv.lstUpd {pins : List (Addr × Obj)} {σ : St} {H : Hp} {s : Shared} {p : Addr} {xs ys : List V} {its its' : List Value} {n n' : Nat} {f : Obj → Obj} (I : Inv X pins σ H s) (h : H p = some (.lst xs))
    (ho : s.heap.get? p = some { cls := .type "list", data := .seq its.toArray n }) (hf : f { cls := .type "list", data := .seq its.toArray n } = { cls := .type "list", data := .seq its'.toArray n' }) (r : Vals ys its') (hz : ys.length ≤ sizeLine) (t : Nat) :
    Inv X pins σ (upd H p (.lst ys)) { s with heap := s.heap.update p f, toks := t } := by
  have e : (s.heap.update p f).get? p = some { cls := .type "list", data := .seq its'.toArray n' } := by
    rw [Heap.get?_update_self f ho (by rw [hf] <;> rfl), hf]
  refine I.write (x := p) (e := p) (by rw [h]; trivial) (.inl rfl) (fun b u hb q => (Heap.get?_update_other _ _ (Ne.symm hb)).trans q) ⟨_, e⟩ ?_
  exact ⟨hz, its', n', r, e⟩
def rSetL : V → V → V → Hp → (Hp → Prop) → Prop := fun o i v H Q => ∃ p xs k j, o = .ref p ∧ i = .int k ∧ H p = some (.lst xs) ∧ ixN xs.length k = some j ∧ Q (upd H p (.lst (xs.set j v)))
theorem set_list : PSet X rSetL := by
  intro pins s σ H o i v ov iv u Q I ro ri rv h
  obtain ⟨p, xs, k, j, rfl, rfl, hp, hj, q⟩ := h
  cases ro
  obtain ⟨t, rfl⟩ := ri
  obtain ⟨its, n, r, ho, hz⟩ := I.lst hp
  obtain ⟨h1, h2, h3, h4⟩ := ixN_seq hj
  have hl := r.length
  have hn := line63
  have I' : Inv X pins σ (upd H p (.lst (xs.set j v))) { s with heap := s.heap.update p (Obj.mapSeq (·.setIfInBounds j u)) } :=
    I.lstUpd hp ho (mapSeq_set its n j u) (r.set rv j) (by rw [List.length_set]; exact hz) s.toks
  by_cases h0 : 0 ≤ k
  · have hk : k.toNat = j := by
      rw [seqIndex_of h0 h4] at h1
      exact Option.some.inj h1
    exact PySem.W.ki_setAt ho h0 (by omega) (by rw [List.size_toArray, ← hl]; exact h4) (by rw [hk]; exact ⟨_, I', q⟩)
  · have hk : (k + (its.toArray.size : Int)).toNat = j := by
      rw [seqIndex_neg (by omega) h3] at h1
      rw [List.size_toArray, ← hl]
      exact Option.some.inj h1
    exact PySem.W.ki_setBack ho (by omega) (by rw [List.size_toArray, ← hl]; exact h3) (by omega) (by rw [hk]; exact ⟨_, I', q⟩)

/-! ### slices -/
/-- xs[lo:hi] of a list: a new list -/
def rSlL (K : PySem.W.Frag) : V → Option Int → Option Int → Hp → VK → Prop := fun x lo hi H Q => ∃ a xs, x = .ref a ∧ SqL K H a xs ∧ ∀ p, H p = none → Q (.ref p) (upd H p (.lst (cutV xs lo hi)))

/-! ### in, not in: flat items -/
def flatV : V → Bool
  | .non => true
  | .bl _ => true
  | .int _ => true
  | .str _ => true
  | _ => false
/-- == of flat values -/
def eqV : V → V → Bool
  | .non, .non => true
  | .bl a, .bl b => a == b
  | .bl a, .int b => (if a then 1 else 0) == b
  | .int a, .bl b => a == (if b then 1 else 0)
  | .int a, .int b => a == b
  | .str a, .str b => a == b
  | _, _ => false
theorem eqAt_V {A : Around} {s : Shared} {y x : V} {u v : Value} (ry : RelV y u) (rx : RelV x v) (fy : flatV y = true) (fx : flatV x = true) : SeqAt.EqAt A s u v (eqV y x) := by
  cases y with
  | non =>
    cases ry
    cases x with
    | non => cases rx; exact SeqAt.EqAt.same _
    | bl b => cases rx; exact SeqAt.EqAt.none_bool b
    | int b => obtain ⟨t, rfl⟩ := rx; exact SeqAt.EqAt.none_int b t
    | str b => obtain ⟨t, rfl⟩ := rx; exact SeqAt.EqAt.none_str b t
    | _ => exact absurd (show false = true from fx) Bool.false_ne_true
  | bl a =>
    cases ry
    cases x with
    | non => cases rx; exact SeqAt.EqAt.bool_none a
    | bl b => cases rx; exact SeqAt.EqAt.bool_bool a b
    | int b => obtain ⟨t, rfl⟩ := rx; exact SeqAt.EqAt.bool_int a b t
    | str b => obtain ⟨t, rfl⟩ := rx; exact SeqAt.EqAt.bool_str a b t
    | _ => exact absurd (show false = true from fx) Bool.false_ne_true
  | int a =>
    obtain ⟨t', rfl⟩ := ry
    cases x with
    | non => cases rx; exact SeqAt.EqAt.int_none a t'
    | bl b => cases rx; exact SeqAt.EqAt.int_bool a t' b
    | int b => obtain ⟨t, rfl⟩ := rx; exact SeqAt.EqAt.int_int a t' b t
    | str b => obtain ⟨t, rfl⟩ := rx; exact SeqAt.EqAt.int_str a t' b t
    | _ => exact absurd (show false = true from fx) Bool.false_ne_true
  | str a =>
    obtain ⟨t', rfl⟩ := ry
    cases x with
    | non => cases rx; exact SeqAt.EqAt.str_none a t'
    | bl b => cases rx; exact SeqAt.EqAt.str_bool a t' b
    | int b => obtain ⟨t, rfl⟩ := rx; exact SeqAt.EqAt.str_int a t' b t
    | str b => obtain ⟨t, rfl⟩ := rx; exact SeqAt.EqAt.str_str a t' b t
    | _ => exact absurd (show false = true from fx) Bool.false_ne_true
  | _ => exact absurd (show false = true from fy) Bool.false_ne_true
/-- the items' answers, read off the values (a value's own answer does not lean on its token) -/
def eqU (x : V) (u : Value) : Bool := match u with
  | .none => eqV .non x
  | .bool b => eqV (.bl b) x
  | .int i _ => eqV (.int i) x
  | .str z _ => eqV (.str z) x
  | _ => false
def inV (x : V) (xs : List V) : Bool := xs.any fun y => eqV y x
/-- x in a list or tuple of flat items -/
def rIn (K : PySem.W.Frag) (neg : Bool) : R2 := fun x y H Q => ∃ p xs, y = .ref p ∧ (SqL K H p xs ∨ SqT K H p xs) ∧ flatV x = true ∧ xs.all flatV = true ∧ Q (.bl (if neg then !inV x xs else inV x xs)) H

/-! ### len, list(x), tuple(x) of any list or tuple that is read -/
theorem call_len_seq : CallR X (.builtin "len") (fun xs H Q => ∃ p ys, xs = [.ref p] ∧ (SqL X.K H p ys ∨ SqT X.K H p ys) ∧ Q (.int ys.length) H) := by
  intro pins s σ H xs us Q I r h
  obtain ⟨p, ys, rfl, hq, q⟩ := h
  obtain ⟨u, rfl, rx⟩ := vals1 r
  cases rx
  have hn := line63
  rcases hq with hq | hq
  · obtain ⟨its, r', pl, hz⟩ := I.list hq
    have hlen := r'.length
    exact Calls.call_len_list pl.isList (by simp only [List.size_toArray] <;> omega) ⟨.int ys.length, H, I.tok _, ⟨s.toks + 1, by rw [List.size_toArray, hlen]⟩, q⟩
  · obtain ⟨its, r', pl, hz⟩ := I.tuple hq
    have hlen := r'.length
    exact len_tuple pl (by simp only [List.size_toArray] <;> omega) ⟨.int ys.length, H, I.tok _, ⟨s.toks + 1, by rw [List.size_toArray, hlen]⟩, q⟩
theorem CallR.or {f : Value} {r r' : List V → Hp → VK → Prop} (h : CallR X f r) (h' : CallR X f r') : CallR X f (fun xs H Q => r xs H Q ∨ r' xs H Q) := by
  intro pins s σ H xs us Q I rs q
  rcases q with q | q
  · exact h pins s σ H xs us Q I rs q
  · exact h' pins s σ H xs us Q I rs q
theorem call_list_of : CallR X (.type "list") (fun xs H Q => ∃ p ys, xs = [.ref p] ∧ (SqL X.K H p ys ∨ SqT X.K H p ys) ∧ ∀ l, H l = none → Q (.ref l) (upd H l (.lst ys))) := by
  intro pins s σ H xs us Q I r h
  obtain ⟨p, ys, rfl, hq, q⟩ := h
  obtain ⟨u, rfl, rx⟩ := vals1 r
  cases rx
  have fin : ∀ (its : List Value), Vals ys its → ys.length ≤ sizeLine → ∀ (h' : Heap) (c' : Nat), (∀ b o', s.heap.get? b = some o' → h'.get? b = some o') →
      h'.get? s.heap.objs.size = some { cls := .type "list", dict := none, data := .seq its.toArray c', slots := #[] } → EP X pins σ Q (.ref s.heap.objs.size) { s with heap := h' } := fun its r' hz h' c' kp e =>
    ⟨.ref s.heap.objs.size, _, I.laid (t' := s.toks) kp (Nat.le_refl _) (show ObjOk X.prog X.w _ h' _ (.lst ys) from ⟨hz, its, c', r', e⟩), rfl, q _ (I.hok.fresh (Nat.le_refl _))⟩
  rcases hq with hq | hq
  · obtain ⟨its, r', pl, hz⟩ := I.list hq
    have hlen := r'.length
    obtain ⟨o, ho, hc, n, hd⟩ := pl.isList
    exact call_list_seq p (.inl rfl) ho hc hd (fun h' c' kp e => fin its r' hz h' c' kp e) (by simp only [List.size_toArray] <;> omega)
  · obtain ⟨its, r', pl, hz⟩ := I.tuple hq
    have hlen := r'.length
    obtain ⟨o, ho, hc, n, hd⟩ := pl
    exact call_list_seq p (.inr rfl) ho hc hd (fun h' c' kp e => fin its r' hz h' c' kp e) (by simp only [List.size_toArray] <;> omega)

/-! ### the call of a builtin's method: o.m(..) -/
/-- the value is of that builtin type -/
def tyV (K : PySem.W.Frag) (T : String) (x : V) (H : Hp) : Prop := match x with
  | .str _ => T = "str"
  | .int _ => T = "int"
  | .ref p => (T = "list" ∧ ∃ xs, SqL K H p xs) ∨ (T = "tuple" ∧ ∃ o, K.lookup p = some o ∧ o.cls = .type "tuple" ∧ o.dict = none) ∨
      (T = "dict" ∧ ((∃ kvs, H p = some (.dK kvs)) ∨ ∃ kvs, H p = some (.dT kvs))) ∨ (T = "set" ∧ ∃ S n, H p = some (.set S n))
  | _ => False
theorem tyV_is {pins : List (Addr × Obj)} {σ : St} {H : Hp} {s : Shared} {T : String} {x : V} {v : Value} (I : Inv X pins σ H s) (r : RelV x v) (ty : tyV X.K T x H) :
    s.TypeIs v T ∧ ∀ a, v = .ref a → ∃ ob, s.heap.get? a = some ob ∧ ob.dict = none := by
  cases x with
  | str z =>
    obtain ⟨t, rfl⟩ := r
    cases (show T = "str" from ty)
    exact ⟨typeIs_str s z t, fun _ e => nomatch e⟩
  | int i =>
    obtain ⟨t, rfl⟩ := r
    cases (show T = "int" from ty)
    exact ⟨typeIs_int s i t, fun _ e => nomatch e⟩
  | ref p =>
    cases r
    rcases ty with ⟨rfl, xs, hq⟩ | ⟨rfl, o, hk, hc, hd⟩ | ⟨rfl, hk⟩ | ⟨rfl, S, n, hk⟩
    · obtain ⟨its, _, pl, _⟩ := I.list hq
      refine ⟨pl.isList.typeIs, fun a e => ?_⟩
      cases e
      obtain ⟨o, n, e, c, hd, _⟩ := pl
      exact ⟨o, e, hd⟩
    · refine ⟨⟨o, I.kIn p o hk, hc⟩, fun a e => ?_⟩
      cases e
      exact ⟨o, I.kIn _ o hk, hd⟩
    · have z : ∃ o, s.heap.get? p = some o ∧ o.ExactDict := by
        rcases hk with ⟨kvs, hk⟩ | ⟨kvs, hk⟩
        · obtain ⟨_, _, _, _, o, _, _, e, ex, _⟩ := I.hok p _ hk
          exact ⟨o, e, ex⟩
        · obtain ⟨_, _, _, _, o, _, _, e, ex, _⟩ := I.hok p _ hk
          exact ⟨o, e, ex⟩
      obtain ⟨o, e, ex⟩ := z
      refine ⟨⟨o, e, ex.1⟩, fun a e2 => ?_⟩
      cases e2
      exact ⟨o, e, ex.2.1⟩
    · obtain ⟨o, _, _, _, e, ex, _⟩ := I.hok p _ hk
      refine ⟨⟨o, e, ex.1⟩, fun a e2 => ?_⟩
      cases e2
      exact ⟨o, e, ex.2.1⟩
  | _ => exact False.elim ty
def tBM0 (K : PySem.W.Frag) (T : String) (r : V → List V → Hp → VK → Prop) (to : TE) : TE := fun σ H Q => to σ H fun x H1 => tyV K T x H1 ∧ r x [] H1 Q
def tBM (K : PySem.W.Frag) (T : String) (r : V → List V → Hp → VK → Prop) (to : TE) (t : TA) : TE := fun σ H Q => to σ H fun x H1 => tyV K T x H1 ∧ t σ H1 fun xs H2 => r x xs H2 Q
variable {o e : Expr} {es : List Expr} {to : TE} {t : TA} {name : Str} {apos cpos : Pos} {T id : String} {r : V → List V → Hp → VK → Prop}
theorem pe_bm (pa : PlainAttrs T) (slot : Slot T name id) (hty : typeOf (.builtin id) = pure (.type "method_descriptor")) (hm : MtR X id r) (ho : PE X o to) (ha : PA X (e :: es) t)
    (hbase : attributeBase o name X.env (eval o X.env) = eval o X.env := by rfl)
    (hfew : ((backTo cpos (starEach (e :: es) X.env)).all (fun x => !x.1) && (backToKw cpos (keywordEach [] X.env)).all (fun x => x.1.isSome)
      && decide ((e :: es).length + ([] : List Keyword).length + (if ([] : List Keyword).isEmpty then 0 else 1) < 30)) = true := by rfl)
    (hline : (apos.endLine == cpos.line) = true := by rfl) (hs : starEach (e :: es) X.env = (false, eval e X.env) :: starEach es X.env := by rfl) (hplain : (backTo cpos (starEach es X.env)).any (·.1) = false := by rfl) :
    PE X (.Call (.Attribute o name apos) (e :: es) [] cpos) (tBM X.K T r to t) := by
  intro pins s σ H Q I h
  refine wpAny_Call_method_late hbase hfew hline rfl (thn (ho pins s σ H _ I h) fun v s1 ⟨x, H1, I1, r1, ty, q1⟩ => ?_)
  obtain ⟨h1, h2⟩ := tyV_is I1 r1 ty
  refine ⟨T, id, pa, slot, hty, h1, h2, ?_⟩
  have hA := ha cpos pins s1 σ H1 _ I1 q1
  rw [hs] at hA ⊢
  refine Calls.callWith_builtin (by show (false || (backTo cpos (starEach es X.env)).any (·.1)) = false; rw [hplain] <;> rfl) (Calls.evalArgs_plain ?_)
  exact thn hA fun us s2 ⟨vs, H2, I2, r2, q2⟩ => hm pins s2 σ H2 x vs v us Q I2 r1 r2 q2
/- xs.append(e), list.index on a module's tuple .. are MtR facts of 06m -/
end
end L2

namespace L2
open PySem PySem.Spec PyProof.Rows

def MtM (X : Cx) (id : String) (r : V → List V → Hp → VK → Prop) : Prop :=
  ∀ (pins : List (Addr × Obj)) (s : Shared) (σ : St) (H : Hp) (x : V) (xs : List V) (v : Value) (us : List Value) (Q : VK), Inv X pins σ H s → RelV x v → Vals xs us → r x xs H Q →
    wpAny (model X.prog X.w) X.A (call (.builtin id) (v :: us)) (EP X pins σ Q) X.xe s

/-! ### lists of values -/
theorem Vals.one : ∀ {x : V} {us : List Value}, Vals [x] us → ∃ u, us = [u] ∧ RelV x u
  | _, _, .cons r .nil => ⟨_, rfl, r⟩
theorem Vals.two : ∀ {x y : V} {us : List Value}, Vals [x, y] us → ∃ u v, us = [u, v] ∧ RelV x u ∧ RelV y v
  | _, _, _, .cons r (.cons q .nil) => ⟨_, _, rfl, r, q⟩
theorem Vals.zero : ∀ {us : List Value}, Vals [] us → us = []
  | _, .nil => rfl
theorem Vals.dropLast {xs : List V} {us : List Value} (h : Vals xs us) : Vals xs.dropLast us.dropLast := by
  induction h with
  | nil => exact .nil
  | cons r t ih =>
    cases t with
    | nil => exact .nil
    | cons q t' => exact .cons r ih
theorem Vals.eraseIdx : ∀ {xs : List V} {us : List Value} (i : Nat), Vals xs us → Vals (xs.eraseIdx i) (us.eraseIdx i)
  | _, _, _, .nil => .nil
  | _, _, 0, .cons _ t => t
  | _, _, i + 1, .cons r t => .cons r (Vals.eraseIdx i t)
theorem Vals.reverse {xs : List V} {us : List Value} (h : Vals xs us) : Vals xs.reverse us.reverse := by
  induction h with
  | nil => exact .nil
  | cons r t ih => rw [List.reverse_cons, List.reverse_cons]; exact Vals.append ih (.cons r .nil)

section
variable {X : Cx} {pins : List (Addr × Obj)} {σ : St} {H : Hp} {s : Shared} {l b : Addr} {xs ys zs : List V}

/-! ### the two steps: a tracked list is rewritten, a new list is laid -/
theorem Inv.lset {its its' : List Value} {n : Nat} {f : Array Value → Array Value} {t' : Nat} (I : Inv X pins σ H s) (hH : H l = some (.lst xs))
    (e : s.heap.get? l = some { cls := .type "list", data := .seq its.toArray n }) (hf : f its.toArray = its'.toArray) (hv : Vals ys its') (hz : ys.length ≤ sizeLine) :
    Inv X pins σ (upd H l (.lst ys)) { s with heap := s.heap.update l (Obj.mapSeq f), toks := t' } := by
  have q := PySem.IsL.update e f
  rw [hf] at q
  refine I.write (x := l) (e := l) (by rw [hH]; exact trivial) (.inl rfl) (fun b' u hb hu => (Heap.get?_update_other s.heap (Obj.mapSeq f) (Ne.symm hb)).trans hu) ⟨_, q⟩ ?_
  exact ⟨hz, its', _, hv, q⟩
theorem Inv.lnew {its : List Value} {t' : Nat} (I : Inv X pins σ H s) (hv : Vals ys its) (hz : ys.length ≤ sizeLine) :
    Inv X pins σ (upd H s.heap.objs.size (.lst ys)) { s with heap := s.heap.push { cls := .type "list", data := .seq its.toArray }, toks := t' } :=
  I.laid (fun _ _ q => Heap.get?_push_of_some _ q) (Nat.le_refl _) ⟨hz, its, 0, hv, Heap.get?_push_size _ rfl⟩
theorem Inv.fresh (I : Inv X pins σ H s) : H s.heap.objs.size = none := I.hok.fresh (Nat.le_refl _)
theorem Inv.lstM (I : Inv X pins σ H s) (hH : H l = some (.lst xs)) : xs.length ≤ sizeLine ∧ ∃ (its : List Value) (n : Nat), Vals xs its ∧ xs.length = its.length ∧ s.heap.get? l = some { cls := .type "list", data := .seq its.toArray n } := by
  obtain ⟨z, its, n, r, e⟩ := I.hok l _ hH
  exact ⟨z, its, n, r, r.length, e⟩

theorem notLongL {n : Nat} (h : n ≤ sizeLine) : Builtin.List.listTooLong n = false := by
  unfold Builtin.List.listTooLong
  exact decide_eq_false (by omega)
end

section
variable {X : Cx}

/-! ### methods -/
def rAppend : V → List V → Hp → VK → Prop := fun x vs H Q => ∃ l xs y, x = .ref l ∧ vs = [y] ∧ H l = some (.lst xs) ∧ xs.length < sizeLine ∧ Q .non (upd H l (.lst (xs ++ [y])))
theorem mt_append : MtM X "list.append" rAppend := by
  intro pins s σ H x vs v us Q I rx rv h
  obtain ⟨l, xs, y, rfl, rfl, hH, hz, q⟩ := h
  cases rx
  obtain ⟨u, rfl, ru⟩ := rv.one
  obtain ⟨z, its, n, r, hl, e⟩ := I.lstM hH
  refine call_meets F.slot_list_append ⟨_, e, rfl⟩ F.entry_list_append (F.args_list_append_2 _ _) (PySem.list_append l its.toArray n u (by rw [List.size_toArray]; omega)) ⟨e, ?_⟩
  refine ⟨.non, _, I.lset (its' := its ++ [u]) hH e (by simp) (r.append (.cons ru .nil)) ?_, rfl, q⟩
  rw [List.length_append, List.length_singleton]
  omega

def rExtend : V → List V → Hp → VK → Prop := fun x vs H Q => ∃ l b xs zs, x = .ref l ∧ vs = [.ref b] ∧ H l = some (.lst xs) ∧ H b = some (.lst zs) ∧ xs.length + zs.length ≤ sizeLine ∧ Q .non (upd H l (.lst (xs ++ zs)))
theorem mt_extend : MtM X "list.extend" rExtend := by
  intro pins s σ H x vs v us Q I rx rv h
  obtain ⟨l, b, xs, zs, rfl, rfl, hH, hB, hz, q⟩ := h
  cases rx
  obtain ⟨u, rfl, ru⟩ := rv.one
  cases ru
  obtain ⟨z, its, n, r, hl, e⟩ := I.lstM hH
  obtain ⟨z2, its2, n2, r2, hl2, e2⟩ := I.lstM hB
  have hsz : its.toArray.size + its2.toArray.size ≤ sizeLine := by rw [List.size_toArray, List.size_toArray]; omega
  have hlong : ¬ (!its.toArray.isEmpty && Builtin.List.listTooLong (its.toArray.size + its2.toArray.size)) = true := by
    rw [notLongL hsz, Bool.and_false]
    exact Bool.false_ne_true
  refine call_meets F.slot_list_extend ⟨_, e, rfl⟩ F.entry_list_extend (F.args_list_extend_2 _ _)
    (AutoSeq1.list_extend_list_list_0 l its.toArray n b its2.toArray n2 hlong (by rw [List.size_toArray]; omega) (by omega)) ⟨e, e2, ?_⟩
  refine ⟨.non, _, I.lset (its' := its ++ its2) hH e (by simp) (r.append r2) ?_, rfl, q⟩
  rw [List.length_append]
  omega

def rPop : V → List V → Hp → VK → Prop := fun x vs H Q => ∃ l xs y, x = .ref l ∧ vs = [] ∧ H l = some (.lst xs) ∧ xs[xs.length - 1]? = some y ∧ Q y (upd H l (.lst xs.dropLast))

def rPopAt : V → List V → Hp → VK → Prop := fun x vs H Q => ∃ l xs i k y, x = .ref l ∧ vs = [.int i] ∧ H l = some (.lst xs) ∧ -(2 ^ 63) ≤ i ∧ i < 2 ^ 63 ∧ seqIndex? i xs.length = some k ∧ xs[k]? = some y ∧ Q y (upd H l (.lst (xs.eraseIdx k)))

def rReverse : V → List V → Hp → VK → Prop := fun x vs H Q => ∃ l xs, x = .ref l ∧ vs = [] ∧ H l = some (.lst xs) ∧ Q .non (upd H l (.lst xs.reverse))

def rClear : V → List V → Hp → VK → Prop := fun x vs H Q => ∃ l xs, x = .ref l ∧ vs = [] ∧ H l = some (.lst xs) ∧ Q .non (upd H l (.lst []))

/-! ### list + list, list += list, list * int -/
def rCat : R2 := fun x y H Q => ∃ l b xs zs, x = .ref l ∧ y = .ref b ∧ H l = some (.lst xs) ∧ H b = some (.lst zs) ∧ xs.length + zs.length ≤ sizeLine ∧ ∀ p, H p = none → Q (.ref p) (upd H p (.lst (xs ++ zs)))
theorem op_cat : OpR X (binaryOp .Add) rCat := by
  intro pins s σ H x y v u Q I rx ry h
  obtain ⟨l, b, xs, zs, rfl, rfl, hH, hB, hz, q⟩ := h
  cases rx
  cases ry
  obtain ⟨z, its, n, r, hl, e⟩ := I.lstM hH
  obtain ⟨z2, its2, n2, r2, hl2, e2⟩ := I.lstM hB
  refine PySem.P.add_list e e2 ?_ (by rw [List.size_toArray, List.size_toArray]; omega)
  have ea : its.toArray ++ its2.toArray = (its ++ its2).toArray := by simp
  rw [ea]
  exact ⟨.ref _, _, I.lnew (t' := s.toks) (r.append r2) (by rw [List.length_append]; omega), rfl, q _ I.fresh⟩
/-- a list times an int (a negative one is nothing) -/
def rRep : R2 := fun x y H Q => ∃ l k xs, x = .ref l ∧ y = .int k ∧ H l = some (.lst xs) ∧ -(2 ^ 63) ≤ k ∧ k < 2 ^ 63 ∧ xs.length * k.toNat ≤ sizeLine ∧
  ∀ p, H p = none → Q (.ref p) (upd H p (.lst (List.replicate k.toNat xs).flatten))

/-! ### del xs[i] -/
end

/-! ### xs[a:b] = ys -/
section
variable {prog : Program} {w : World} {A : Around} {E : Value → Shared → Prop} {s : Shared}
set_option maxRecDepth 100000 in
end

section
variable {X : Cx}
end
end L2

namespace Att
open PySem PySem.W PySem.Calls PyProof.Rows

/-! ### the script -/
theorem ints_of_wellAll {P : Params} {h : Heap} : ∀ (ns : List Int) (vs : List Value), WellAll P h vs (ns.map WData.int) → IntsAre vs ns := by
  intro ns
  induction ns with
  | nil =>
    intro vs w
    rw [List.map_nil] at w
    cases w
    exact .nil
  | cons n ns ih =>
    intro vs w
    rw [List.map_cons] at w
    cases w with
    | cons a b =>
      cases a
      exact .cons _ _ (ih _ b)

theorem script_of {l : OpenLaw} {n : Nat} (hn : l.most = some n) {P : Params} {h : Heap} {args : List WData} {vals : List Value}
    (hpre : l.row.toRowW.claim.pre args = true) (hwl : WellAll P h vals args) :
    ∃ a vs ns, vals = [Value.ref a] ∧ args = [WData.list (ns.map WData.int)] ∧ h.get? a = some { cls := .type "list", data := .seq vs.toArray } ∧ IntsAre vs ns ∧ ns.length ≤ n := by
  have hsh : WShape.hasAll [] args [.list .int] = true := (pre_splitW hpre).1
  have hc : l.pre.holds [] { args := args } = true := (pre_splitW hpre).2
  obtain ⟨d, r, rfl, h1, h2⟩ := hasAllW_cons hsh
  obtain rfl := hasAllW_nil h2
  obtain ⟨xs, rfl, h3⟩ := hasW_list h1
  obtain ⟨ns, rfl⟩ := items_int h3
  have hlen : ns.length ≤ n := by
    unfold OpenLaw.pre at hc
    have h4 : (WTm.not (.lt (.lit (.int (n : Int))) (.len (.arg 0)))).holds [] { args := [.list (ns.map .int)] } = true := by
      have h4 := (holds_andW hc).1
      rw [hn] at h4
      exact h4
    have h5 := condW_of h4 (w_not (w_lt w_lit (w_len_list (w_arg rfl))))
    rw [List.length_map] at h5
    refine Nat.le_of_not_lt fun q => ?_
    have q' : (n : Int) < ((ns.length : Nat) : Int) := by omega
    first
      | (rw [decide_eq_true q'] at h5; exact absurd h5 (by decide))
      | (simp at h5; omega)
  cases hwl with
  | cons w1 w2 =>
    cases w2
    cases w1 with
    | list ho hall => exact ⟨_, _, ns, rfl, rfl, ho, ints_of_wellAll ns _ hall, hlen⟩

theorem post_true (l : OpenLaw) (args : List WData) : l.row.toRowW.claim.post args (.bool true) args = true :=
  postW_of (r := l.row.toRowW) (X := (true == true))
    (show WShape.has [] (.bool true) .bool = true by first | rfl | decide | simp [WShape.has, WShape.arms, WShape.armsAll])
    (show (WTm.eq .res (.lit (.bool true))).value [] { args := args, res := some (.bool true), after := args } = some (.bool (true == true)) from w_eq_bool (w_res rfl) w_lit) rfl

/-! ### the attachment: holds_open's last premise (the goal 'hc' behind k_head) from a wpAny of the law's body -/

/-- the same from a codeAny of the CALL (for a layer whose function contracts speak of calls) -/
theorem attach_call {l : OpenLaw} {n : Nat} {q : Program} {loose : List Str} {XP : (Str → Option Value) → Heap → Prop} {YP : World → Heap → Prop} {d : DefRec}
    (hn : l.most = some n) (hdf : d.params.defaults = [])
    (call : ∀ (w : World) (s₀ s₁ : Shared) (mg mb : Str → Option Value) (fa : Addr) (o : Obj) (pm cd doc : Value) (a : Addr) (vs : List Value) (ns : List Int),
      Ground q loose [] XP w s₀ mg mb s₁.heap → YP w s₁.heap →
      s₁.heap.get? fa = some o → o.data = .func (docDef d.name d.params d.body d.scope pm cd doc) → s₁.heap.CodeRec cd d.name → mg d.name = some (.ref fa) →
      s₁.heap.get? a = some { cls := .type "list", data := .seq vs.toArray } → IntsAre vs ns → ns.length ≤ n → s₁.gens = #[] →
      codeAny (model l.prog w) callerA (.call (.ref fa) ⟨[.ref a], []⟩) (fun r s' => r = .ok (.ret (.bool true)) ∧ OldK s₁.heap s'.heap ∧ s'.os = s₁.os ∧ AllBare s'.gens) s₁) :
    WalkO q loose XP YP l.row.toRowW d [] (fun f vs => PySem.call f vs) := by
  intro w s₀ s₁ mg mb G Y fa o pm cd doc dV kV ho hd hcd hD hmg hg args vals as hpre hlay hrd hwl hlo
  obtain rfl : dV = .none := Dflts.none hD hdf
  obtain rfl : kV = .none := Dflts.noKw hD
  obtain ⟨a, vs, ns, rfl, rfl, hobj, hints, hlen⟩ := script_of hn hpre hwl
  refine enter_call (codeAny_mono (call w s₀ s₁ mg mb fa o pm cd doc a vs ns G Y ho (fd_plain hd) hcd hmg hobj hints hlen hg) fun r s' hq => ?_)
  obtain ⟨rfl, h2, h3, h4⟩ := hq
  exact ⟨.inl ⟨.bool true, .bool true, [], rfl, fun _ => rfl, .bool true, post_true l _, fun _ => ⟨List.Pairwise.nil, fun _ hm => (nomatch hm)⟩⟩, h2, h3, h4⟩


/-! ### rules over ANY heap (no ledger) from facts about the written part K: the library's own take a ledger (News) for what they write -/
section
variable {prog : Program} {w : World} {A : Around} {E : Value → Shared → Prop} {s : Shared} {K : Frag}





/-! the whole heap as the ledger: makes every rule that writes through a ledger a rule over any heap -/
def noObjs (h : Heap) : Heap := { h with objs := #[] }
def ledger (h : Heap) (L d : Addr) : List (Addr × Obj) := (List.range h.objs.size).filterMap fun a => if a = L ∨ a = d then none else (h.get? a).map fun o => (a, o)

end
end Att

namespace L2
open PySem PySem.Spec PyProof.Rows

theorem vals_ints : ∀ {vs : List Value} {ns : List Int}, IntsAre vs ns → Vals (ns.map V.int) vs
  | _, _, .nil => .nil
  | _, _, .cons n t h => .cons ⟨t, rfl⟩ (vals_ints h)

/-- nothing is tracked but the script, known to the object (or it is an object of the module) -/
def Only (H : Hp) : Prop := ∀ b, H b = none ∨ ∃ o xs, H b = some (.frz o (.lst xs))

/-- THE HEAD: the law's promise, at the heap behind the top. F, the promise of the law's def, may use that base is part of the heap (so K.In base, base.Ns mainGlobals mg stand in Mod) -/
theorem law_call {P : Program} {w : World} {K : PySem.W.Frag} {mg mb : Str → Option Value} {CX : CXT} {k : Nat} {fa a : Addr} {fd : FuncData} {x : Str} {sp : Sp} {s₁ : Shared} {vs : List Value} {ns : List Int}
    (KX : K.In s₁.heap) (hns : s₁.heap.Ns mainGlobals mg) (hb : s₁.heap.Ns builtinsNs mb) (hbb : ∀ x : Str, x ≠ "__name__" → mb x = bootBuiltins x) (hlim : s₁.heap.NoLimit) (hg : s₁.gens = #[])
    (ha : s₁.heap.get? a = some { cls := .type "list", data := .seq vs.toArray }) (hi : IntsAre vs ns) (hl : ns.length ≤ sizeLine) (hr : Room k callerA)
    (F : ∀ base : Heap, K.In base → base.Ns mainGlobals mg → FnOk P w K mg base CX k fa fd [x] sp) (hbind : ∀ (s : Shared) (u : Value), BindsTo s fd ⟨[u], []⟩ [(x, u)])
    (hsp : ∀ H : Hp, Only H → SqL K H a (ns.map V.int) → sp [.ref a] H (fun v _ => v = .bl true) fun _ _ _ => False)
    (hCX : ∀ H e s', CX [] H s₁ (fun _ _ _ => False) e s' → False) :
    codeAny (model P w) callerA (.call (.ref fa) ⟨[.ref a], []⟩) (fun r s' => r = .ok (.ret (.bool true)) ∧ OldK s₁.heap s'.heap ∧ s'.os = s₁.os ∧ AllBare s'.gens) s₁ := by
  have rv := vals_ints hi
  have lenV := hi.length
  -- from an abstract heap in which nothing but the script may be tracked
  have core : ∀ H : Hp, Only H → SqL K H a (ns.map V.int) → HOk P w H s₁.heap → (∀ b, H b ≠ none → b = a) → (H a ≠ none → K.lookup a = none) →
      codeAny (model P w) callerA (.call (.ref fa) ⟨[.ref a], []⟩) (fun r s' => r = .ok (.ret (.bool true)) ∧ OldK s₁.heap s'.heap ∧ s'.os = s₁.os ∧ AllBare s'.gens) s₁ := by
    intro H hO hS hok hA hK
    have base_of : ∀ {b : Addr} {o : Obj}, s₁.heap.get? b = some o → H b = none → (hidT s₁.heap H).get? b = some o := fun e n => hidT_get e n
    have noA : ∀ {b : Addr} {o : Obj} {es : Array DictEntry} {ep : Nat}, s₁.heap.get? b = some o → o.data = .dict es ep → H b = none := fun {b o es ep} e d => by
      cases q : H b with
      | none => rfl
      | some u =>
        have e' : b = a := hA b (by rw [q]; simp)
        subst e'
        rw [ha] at e; cases e
        have d' : Data.seq vs.toArray _ = Data.dict es ep := d
        cases d'
    have nsK : ∀ {b : Addr} {m : Str → Option Value}, s₁.heap.Ns b m → (hidT s₁.heap H).Ns b m := fun {b m} ⟨o, es, ep, e, d, r⟩ => ⟨o, es, ep, base_of e (noA e d), d, r⟩
    have hKb : K.In (hidT s₁.heap H) := fun b o e => base_of (KX b o e) (by
      cases q : H b with
      | none => rfl
      | some u =>
        have e' : b = a := hA b (by rw [q]; simp)
        subst e'
        rw [hK (by rw [q]; simp)] at e; cases e)
    have hM : Mod K mg (hidT s₁.heap H) := ⟨hKb, nsK hns, ⟨mb, nsK hb, hbb⟩, let ⟨mc, h1, h2⟩ := hlim; ⟨mc, nsK h1, h2⟩⟩
    have e0 : Env0 P w K mg (hidT s₁.heap H) callerA [] s₁ H := ⟨rfl, hM, fun b o e => of_hidT e, Nat.le_of_eq (hidT_size _ _), trivial, fun b hb => absurd (show b ∈ ([] : List Addr) from hb) (by simp), hok, .of_eq hg⟩
    refine codeAny_mono ((F _ hKb (nsK hns)).run callerA [] s₁ H ⟨[.ref a], []⟩ [.ref a] [.ref a] _ _ hr e0 (hbind s₁ (.ref a)) (.cons rfl .nil) (hsp H hO hS)) fun r s' h => ?_
    cases r with
    | error e => exact (hCX H e s' h).elim
    | ok fl =>
      cases fl with
      | next => exact False.elim h
      | brk => exact False.elim h
      | cont => exact False.elim h
      | ret u =>
        obtain ⟨v, H', os, bare, un, hok', r', q⟩ := h
        have q' : v = .bl true := q
        subst q'
        obtain rfl : u = Value.bool true := r'
        refine ⟨rfl, OldK.of_keep fun b o e => ?_, os, bare⟩
        cases q : H b with
        | none => exact un.keep b o e q (by intro z; exact absurd (show b ∈ ([] : List Addr) from z) (by simp)) (by simp)
        | some u =>
          rcases hO b with z | ⟨ob, xs, z⟩
          · rw [q] at z; cases z
          · have z2 := un.frzs b ob _ z
            obtain ⟨e1, _⟩ := hok b _ z
            obtain ⟨e2, _⟩ := hok' b _ z2
            rw [e] at e1; cases e1
            exact e2
  cases hk : K.lookup a with
  | some o =>
    -- the script is one of the module's own objects
    have e := KX a o hk
    rw [ha] at e
    cases e
    refine core (fun _ => none) (fun _ => .inl rfl) (.inr ⟨_, vs.toArray, _, hk, rfl, rfl, rfl, by rw [List.size_toArray, lenV]; exact hl, by simpa using rv⟩) (fun b u z => by have z' : (none : Option HO) = some u := z; cases z') (fun b z => absurd rfl z) fun z => absurd rfl z
  | none =>
    refine core (fun b => if b = a then some (.frz { cls := .type "list", data := .seq vs.toArray } (.lst (ns.map V.int))) else none) (fun b => ?_) (.inl (.inr ⟨{ cls := .type "list", data := .seq vs.toArray }, if_pos rfl⟩)) (fun b u z => ?_) (fun b z => ?_) fun _ => hk
    · by_cases hb : b = a
      · exact .inr ⟨_, _, if_pos hb⟩
      · exact .inl (if_neg hb)
    · by_cases hb : b = a
      · have z' := (if_pos hb).symm.trans z
        cases z'
        subst hb
        exact ⟨ha, by rw [List.length_map]; exact hl, vs, _, rv, ha⟩
      · have z' := (if_neg hb).symm.trans z
        cases z'
    · by_cases hb : b = a
      · exact hb
      · exact absurd (if_neg hb) z
end L2

namespace L2
open PySem PySem.Spec PyProof.Rows

abbrev KOf {K : PySem.W.Frag} {h : Heap} (_ : K.In h) : PySem.W.Frag := K

/-- the goal that k_head leaves (case hc), from the law's promise. F gives the function object fd (K's own) once, then the promise over every base -/
theorem walk_of {l : PySem.W.OpenLaw} {n k : Nat} {q : Program} {loose : List Str} {XP : (Str → Option Value) → Heap → Prop} {YP : World → Heap → Prop} {d : DefRec} {K : Params → PySem.W.Frag} {CX : World → CXT} {sp : World → Sp} {x : Str}
    (hn : l.most = some n) (hn2 : n ≤ sizeLine) (hdf : d.params.defaults = []) (hr : Room k callerA)
    (hY : ∀ (w : World) (h : Heap), YP w h → (K w.params).In h)
    (F : ∀ (w : World) (mg : Str → Option Value) (fa : Addr) (h : Heap), (K w.params).In h → h.Ns mainGlobals mg → mg d.name = some (.ref fa) →
      ∃ fd : FuncData, (∀ (s : Shared) (u : Value), BindsTo s fd ⟨[u], []⟩ [(x, u)]) ∧
        ∀ base : Heap, (K w.params).In base → base.Ns mainGlobals mg → FnOk l.prog w (K w.params) mg base (CX w) k fa fd [x] (sp w))
    (hsp : ∀ (w : World) (H : Hp) (a : Addr) (ns : List Int), ns.length ≤ n → Only H → SqL (K w.params) H a (ns.map V.int) → sp w [.ref a] H (fun v _ => v = .bl true) fun _ _ _ => False)
    (hCX : ∀ (w : World) (H : Hp) (s : Shared) (e : Value) (s' : Shared), CX w [] H s (fun _ _ _ => False) e s' → False) :
    PySem.W.WalkO q loose XP YP l.row.toRowW d [] (fun f vs => PySem.call f vs) := by
  refine Att.attach_call hn hdf fun w s₀ s₁ mg mb fa o pm cd doc a vs ns G Y ho hd hcd hmg hobj hints hlen hg => ?_
  have KX := hY w _ Y
  obtain ⟨fd, hb, hF⟩ := F w mg fa _ KX G.T.g hmg
  exact law_call KX G.T.g G.T.b G.T.builtins G.T.nolimit hg hobj hints (Nat.le_trans hlen hn2) hr hF hb (fun H hO hS => hsp w H a ns hlen hO hS) fun H e s' => hCX w H s₁ e s'
end L2

/- THE LAST THEOREM (shape; LID, My.* are yours):
   My.Adr: a structure of the addresses that your layer names (classes, functions); My.Txt K t: a structure (Prop) of the equations over K;
   My.txt_mk : {K} {implicit addresses ..} (e1 : nsIn K mainGlobals "law" = some (some (.ref f))) (e2 : K.lookup f = some ⟨oc, od, .func (fnOf "law" "law" params body scope dV kV doc pm an cdv ct), sl⟩) (e3 : codeIn K cdv "law" = true) .. : ∃ t, My.Txt K t

set_option maxRecDepth 100000 in
set_option maxHeartbeats 0 in
theorem PySem.Challenge.cw_LID_holds : PySem.Challenge.rw_LID.Holds := by
  w_on; o_law; k_head; (case hw => w_witness2)
  k_fill
  refine L2.walk_of (l := PySem.Challenge.rw_LID) (n := 63) (k := 40) (x := "script") (CX := fun w => ..) (sp := fun _ => My.sp_law) rfl (by decide) rfl ⟨rfl, by decide, by decide⟩ (fun w h Y => PySem.W.kIn_of Y) ?F ?S ?C
  case F =>
    intro w mg fa h KX G hmg
    have T : ∃ t, My.Txt (L2.KOf KX) t := by
      dsimp only [L2.KOf]                          -- K must stand as «<heap const> w.params» for k_is
      refine' My.txt_mk ?e1 ?e2 ?e3 ..
      (case e1 => PySem.W.k_is)                    -- in the order: a name -> its address -> its object -> its parts
      (case e2 => PySem.W.k_is)
      ..
    obtain ⟨t, T⟩ := T
    have e0 := hmg.symm.trans (PySem.W.mg_of KX G T.law)
    cases e0                                       -- fa is the law's own address
    exact ⟨_, fun s u => .of_eq rfl, fun base kb nb => My.law_fn T kb nb⟩     -- if «.of_eq rfl» comes too early: refine' ⟨_, ?b, fun base kb nb => My.law_fn T kb nb⟩; exact fun s u => .of_eq rfl
  case S => exact fun w H a ns hl hO hS => ..
  case C => exact ..
(the tactic k_is has no namespace: write k_is) -/

/-! SHORT WORDS over the layer: a def of the text, its body, what a loop and a test want. -/
namespace L2
open PySem PySem.Spec PyProof.Rows

/-! ### the text by places -/
/-- the j-th statement of a class's body -/
def inClass (s : Stmt) (j : Nat) : Stmt := match s with
  | .ClassDef _ _ _ body _ _ _ _ _ _ _ => body.getD j (.Pass ⟨0, 0, 0, 0⟩)
  | _ => .Pass ⟨0, 0, 0, 0⟩
def defArgs (s : Stmt) : Arguments := match s with
  | .FunctionDef _ a _ _ _ _ _ _ _ _ => a
  | _ => { posonlyargs := [], args := [], vararg := none, kwonlyargs := [], kw_defaults := [], kwarg := none, defaults := [] }
def defBody (s : Stmt) : List Stmt := match s with
  | .FunctionDef _ _ b _ _ _ _ _ _ _ => b
  | _ => []
def defScope (s : Stmt) : Scope := match s with
  | .FunctionDef _ _ _ _ _ _ sc _ _ _ => sc
  | _ => { kind := .function, names := [], isGenerator := false, isCoroutine := false }

/-! ### no exception leaves a def -/
abbrev CX0 : CXT := fun _ _ _ _ _ _ => False
abbrev E0 : XK := fun _ _ _ => False

/-! ### a def (or method) of the text as it stands behind the top -/
structure Fun (K : PySem.W.Frag) (x qual : Str) (st : Stmt) (f : Addr) (fd : FuncData) : Prop where
  ex : ∃ (oc : Value) (od : Option Addr) (kV doc pm : Value) (an : Option Addr) (cdv ct : Value) (osl : Array (Option Value)),
    fd = PySem.W.fnOf x qual (defArgs st) (defBody st) (defScope st) .none kV doc pm an cdv ct ∧ K.lookup f = some ⟨oc, od, .func fd, osl⟩ ∧ PySem.W.codeIn K cdv qual = true
  kp : PySem.W.keepIn K (.ref f) = true
section
variable {P : Program} {w : World} {K : PySem.W.Frag} {mg : Str → Option Value} {base : Heap}
/-- THE RULE for a def: its body as a term of rules, and the reading of that term -/
theorem Fun.ok {x qual : Str} {st : Stmt} {f : Addr} {fd : FuncData} {N ps : List Str} {k : Nat} {sp : Sp} (F : Fun K x qual st f fd) (S : FnScope N ps (defScope st)) (len : ∀ vs H Q E, sp vs H Q E → vs.length = ps.length)
    (hbody : ∀ (cdv : Value) (A : Around) (outer : List Env) (s : Shared) (H : Hp) (vs : List V) (Q : VK) (E : XK), Room k (A.deeper (envOfC qual (defScope st) s.heap.objs.size f cdv)) → sp vs H Q E →
      ∃ t, PSs (cxOf CX0 P w K mg base N qual (defScope st) f cdv A outer s H E).nox (defBody st) t ∧ t { nx := fun _ H' => Q .non H', rt := Q } (start N vs) H) : FnOk P w K mg base CX0 (k + 1) f fd ps sp := by
  obtain ⟨oc, od, kV, doc, pm, an, cdv, ct, osl, rfl, lk, hcd⟩ := F.ex
  refine fn_of lk hcd S len fun A outer s H vs Q E hr hsp => ?_
  obtain ⟨t, h, q⟩ := hbody cdv A outer s H vs Q E hr hsp
  exact ⟨t, h.nox, q⟩
/-- how its arguments bind (no defaults): h is «fun _ _ _ _ _ _ us hl => match us, hl with | [_, _], _ => rfl», one _ a parameter -/
theorem Fun.binds {x qual : Str} {st : Stmt} {f : Addr} {fd : FuncData} {ps : List Str} (F : Fun K x qual st f fd)
    (h : ∀ (kV doc pm : Value) (an : Option Addr) (cdv ct : Value) (us : List Value), us.length = ps.length → bindArgs (PySem.W.fnOf x qual (defArgs st) (defBody st) (defScope st) .none kV doc pm an cdv ct) ⟨us, []⟩ = pure (ps.zip us)) : Binds K fd ps [] := by
  obtain ⟨oc, od, kV, doc, pm, an, cdv, ct, osl, rfl, lk, hcd⟩ := F.ex
  exact .all (h kV doc pm an cdv ct)
theorem fun_mk {x qual : Str} {st : Stmt} {f : Addr} {oc : Value} {od an : Option Addr} {osl : Array (Option Value)} {kV doc pm cdv ct : Value} (l : K.lookup f = some ⟨oc, od, .func (PySem.W.fnOf x qual (defArgs st) (defBody st) (defScope st) .none kV doc pm an cdv ct), osl⟩)
    (c : PySem.W.codeIn K cdv qual = true) (k : PySem.W.keepIn K (.ref f) = true) : Fun K x qual st f (PySem.W.fnOf x qual (defArgs st) (defBody st) (defScope st) .none kV doc pm an cdv ct) := ⟨⟨oc, od, kV, doc, pm, an, cdv, ct, osl, rfl, l, c⟩, k⟩
end
theorem hu_of {A : Around} {k : Nat} (hr : Room k A) : A.units + 1 < cLine := Nat.lt_of_le_of_lt (Nat.add_le_add_left (by decide : 1 ≤ 64) _) hr.units
theorem small1000 {n : Nat} (h : n ≤ 1000) : n < sizeLine := Nat.lt_of_le_of_lt h (by decide)

/-! ### expressions in short: the name that stands in the i-th slot -/
section
variable {X : Cx}
theorem pv (i : Nat) {x : Str} {pos : Pos} (hN : X.N[i]? = some x := by rfl) (hv : Vis X.env.scope x := by first | exact Or.inl rfl | exact Or.inr (Or.inl rfl) | exact Or.inr (Or.inr rfl)) (hd : (x == ("__debug__" : Str)) = false := by decide)
    (hcd : (x == ("__classdict__" : Str)) = false := by decide) : PE X (.Name x pos) (tVar i) := pe_var hN hv hd hcd
end

/-! ### tests -/
theorem iteF {A B : Prop} (h : B) : if false = true then A else B := by
  rw [if_neg Bool.false_ne_true]
  exact h
theorem iteT {A B : Prop} (h : A) : if true = true then A else B := by
  rw [if_pos rfl]
  exact h
theorem ite2 {c A B : Prop} [Decidable c] (h1 : c → A) (h2 : ¬ c → B) : if c then A else B := by
  by_cases h : c
  · rw [if_pos h]
    exact h1 h
  · rw [if_neg h]
    exact h2 h
theorem iteNS {c A B : Prop} [Decidable c] (hc : c) (h : B) : if (!decide c) = true then A else B := by
  rw [decide_eq_true hc]
  exact iteF h

/-! ### heaps -/
/-- all that was tracked is as it was -/
def Same (H H' : Hp) : Prop := ∀ b o, H b = some o → H' b = some o
theorem Same.refl (H : Hp) : Same H H := fun _ _ h => h
theorem Same.trans {H H1 H2 : Hp} (a : Same H H1) (b : Same H1 H2) : Same H H2 := fun c o h => b c o (a c o h)
theorem Same.free {H H' : Hp} (e : Same H H') {l : Addr} (h : H' l = Option.none) : H l = Option.none := by
  cases q : H l with
  | none => rfl
  | some o =>
    rw [e l o q] at h
    cases h
theorem Same.seq {K : PySem.W.Frag} {H H' : Hp} {a : Addr} {xs : List V} (e : Same H H') (h : SqL K H a xs) : SqL K H' a xs := by
  rcases h with (h | ⟨o, h⟩) | h
  · exact .inl (.inl (e _ _ h))
  · exact .inl (.inr ⟨o, e _ _ h⟩)
  · exact .inr h

end L2
set_option maxHeartbeats 4000000
/-! THE HAND LAYER, for ints, bools, texts, own classes, DICTS (int and text keys), calls, loops. Paste it whole ahead of your own text; what your proof does not reach may be deleted. -/
namespace L2
open PySem PySem.Spec PyProof.Rows

end L2

namespace L2
open PySem PySem.Spec PyProof.Rows

section
variable (P : Program) (w : World)
end

section
variable {P : Program} {w : World} {H H' : Hp} {h h' : Heap} {a : Addr} {o : HO}
end

section
variable {P : Program} {w : World} {H : Hp} {h h' : Heap} {x e : Addr} {o' : HO}
end

section
variable {fs fs' ex ex' : List Addr} {H H1 H2 : Hp} {h h1 h2 h' : Heap} {a x e : Addr} {o : HO}
end

end L2

namespace L2
open PySem PySem.Spec PyProof.Rows

section
variable {X : Cx} {pins : List (Addr × Obj)} {σ : List (Option V)} {H H' : Hp} {s : Shared} {h' : Heap}

end

end L2

namespace L2
open PySem PySem.Spec PyProof.Rows
section
variable {X : Cx}

variable {a b : Expr} {ta tb : TE} {pos : Pos}
/-! ### and, or, not -/
variable {tA tB' : TT} {rest : List Expr}
end
end L2

namespace L2
open PySem PySem.Spec PyProof.Rows

section
variable {X : Cx} {pins : List (Addr × Obj)} {σ : St} {H : Hp} {s : Shared} {a : Addr} {xs ys : List V}
end

section
variable {X : Cx} {pins : List (Addr × Obj)} {σ : St} {H : Hp} {s : Shared} {E : Value → Shared → Prop}
end

/-! ### blocks and small statements -/
section
variable {X : Cx} {st : Stmt} {rest : List Stmt} {t u : TS} {e : Expr} {te : TE} {pos : Pos}
end

section
variable {X : Cx} {pos : Pos}
end

/-! ### while -/
section
variable {X : Cx} {pos : Pos}
end

end L2

namespace L2
open PySem PySem.Spec PyProof.Rows
section
variable {X : Cx} {tg : Expr}
end

end L2

namespace L2
open PySem PySem.Spec PyProof.Rows

section
variable {X : Cx} {a b c : Expr} {ta tb tc : TE} {pos : Pos}

end

section
variable {X : Cx} {a b c : Expr} {ta tb tc : TE} {pos : Pos}
end
end L2

namespace L2
open PySem PySem.Spec PyProof.Rows

section
variable {prog : Program} {w : World} {A : Around} {E : Value → Shared → Prop} {s : Shared} {K : PySem.W.Frag} {x dx C f : Addr} {mA : Str → Option Value} {name : Str} {v : Value}

end

section
variable {P : Program} {w : World} {H H' : Hp} {h h' : Heap} {a C dx : Addr} {fs fs' : List (Str × V)}
end

section
variable {X : Cx} {pins : List (Addr × Obj)} {σ : St} {H : Hp} {s : Shared} {a C dx : Addr} {fs : List (Str × V)} {f : Str} {v : V} {A : Around} {E : Value → Shared → Prop}

end

section
variable {X : Cx} {o e value : Expr} {f : Str} {pos pos' tpos : Pos} {ta tv : TE}
end

/-! ### isinstance -/
section
variable {X : Cx} {pins : List (Addr × Obj)} {σ : St} {H : Hp} {s : Shared} {A : Around} {E : Value → Shared → Prop} {Q : Value → Shared → Prop} {c : Value} {b : Bool}
end
end L2

namespace L2
open PySem PySem.Spec PyProof.Rows

section
variable {X : Cx} {e : Expr} {es : List Expr} {te : TE} {t : TA} {pos : Pos}
end

section
variable {X : Cx} {pins : List (Addr × Obj)} {σ : St} {H : Hp} {s s' : Shared}
end

section
variable {X : Cx} {CX : CXT} {k : Nat} {f C : Addr} {fd : FuncData} {ps : List Str} {sp : Sp} {dvs : List V} {ds : List Value} {E : XK} {x m : Str} {p pos apos : Pos} {e o : Expr} {es : List Expr} {ta : TE} {t : TA}

end

section
variable {X : Cx} {CX : CXT} {k : Nat} {f C : Addr} {fd : FuncData} {ps ks : List Str} {sp : Sp} {E : XK} {x m : Str} {p pos apos kpos : Pos} {e o : Expr} {es : List Expr} {kws : List Keyword} {te ta : TE} {t tk : TA} {nm : Option Str}
variable {g : List Value → List Value → List Value} {gV : List V → List V → List V}
end

end L2

namespace L2
open PySem PySem.Spec PyProof.Rows
section
variable {X : Cx} {x : Str} {p pos : Pos} {e : Expr} {es : List Expr} {t : TA} {id T : String} {r : List V → Hp → VK → Prop}

end
end L2

namespace L2
open PySem PySem.Spec PyProof.Rows

/-! ### lists of pairs as tables -/
section
variable {κ : Type} [DecidableEq κ]
def valV (kvs : List (κ × V)) (k : κ) : Option V := (kvs.find? fun kv => decide (kv.1 = k)).map (·.2)
/-- in its place, or at the end -/
def putK (kvs : List (κ × V)) (k : κ) (v : V) : List (κ × V) :=
  if (kvs.any fun kv => decide (kv.1 = k)) = true then kvs.map (fun kv => if kv.1 = k then (kv.1, v) else kv) else kvs ++ [(k, v)]
def dropK (kvs : List (κ × V)) (k : κ) : List (κ × V) := kvs.filter fun kv => decide (kv.1 ≠ k)

theorem valV_pos {p : κ × V} {r : List (κ × V)} {k : κ} (e : p.1 = k) : valV (p :: r) k = some p.2 := by simp [valV, List.find?_cons, e]
theorem valV_neg {p : κ × V} {r : List (κ × V)} {k : κ} (e : ¬ p.1 = k) : valV (p :: r) k = valV r k := by simp [valV, List.find?_cons, e]
theorem valV_any (k : κ) : ∀ kvs : List (κ × V), (kvs.any fun kv => decide (kv.1 = k)) = (valV kvs k).isSome
  | [] => rfl
  | p :: r => by
    rw [List.any_cons]
    by_cases e : p.1 = k
    · simp only [valV_pos e, decide_eq_true e, Bool.true_or, Option.isSome_some]
    · rw [valV_neg e, decide_eq_false e, Bool.false_or]; exact valV_any k r
theorem valV_map (k j : κ) (y : V) : ∀ kvs : List (κ × V), valV (kvs.map fun kv => if kv.1 = k then (kv.1, y) else kv) j = (valV kvs j).map fun x => if j = k then y else x
  | [] => rfl
  | p :: r => by
    have ih := valV_map k j y r
    rw [List.map_cons]
    by_cases h : p.1 = k
    · rw [if_pos h]
      by_cases e : p.1 = j
      · rw [valV_pos (p := (p.1, y)) e, valV_pos e, Option.map_some, if_pos (e.symm.trans h)]
      · rw [valV_neg (p := (p.1, y)) e, valV_neg e, ih]
    · rw [if_neg h]
      by_cases e : p.1 = j
      · rw [valV_pos (p := p) e, valV_pos e, Option.map_some, if_neg (fun z => h (e.trans z))]
      · rw [valV_neg (p := p) e, valV_neg e, ih]
theorem valV_snoc (k j : κ) (y : V) : ∀ kvs : List (κ × V), valV kvs k = none → valV (kvs ++ [(k, y)]) j = if j = k then some y else valV kvs j
  | [], _ => by
    by_cases e : k = j
    · rw [if_pos e.symm]; exact valV_pos (p := (k, y)) e
    · rw [if_neg (fun z => e z.symm)]; exact valV_neg (p := (k, y)) e
  | p :: r, hn => by
    rw [List.cons_append]
    have hk : ¬ p.1 = k := fun z => by rw [valV_pos z] at hn; cases hn
    rw [valV_neg hk] at hn
    have ih := valV_snoc k j y r hn
    by_cases e : p.1 = j
    · rw [valV_pos e, valV_pos e, if_neg (fun z => hk (e.trans z))]
    · rw [valV_neg e, valV_neg e, ih]
theorem valV_put (kvs : List (κ × V)) (k j : κ) (y : V) : valV (putK kvs k y) j = if j = k then some y else valV kvs j := by
  unfold putK
  by_cases a : (kvs.any fun kv => decide (kv.1 = k)) = true
  · rw [if_pos a, valV_map]
    rw [valV_any] at a
    by_cases e : j = k
    · obtain ⟨x, hx⟩ := Option.isSome_iff_exists.mp a
      rw [if_pos e, e, hx, Option.map_some, if_pos rfl]
    · rw [if_neg e]
      cases valV kvs j with
      | none => rfl
      | some x => rw [Option.map_some, if_neg e]
  · rw [if_neg a]
    refine valV_snoc k j y kvs ?_
    rw [valV_any] at a
    cases q : valV kvs k with
    | none => rfl
    | some x => rw [q] at a; exact (a rfl).elim
theorem length_putK (kvs : List (κ × V)) (k : κ) (v : V) : (putK kvs k v).length ≤ kvs.length + 1 := by
  unfold putK
  split
  · rw [List.length_map]; omega
  · rw [List.length_append, List.length_cons, List.length_nil]; omega

theorem RelO.isSome_eq {o : Option V} {u : Option Value} (r : RelO o u) : o.isSome = u.isSome := by
  cases o with
  | none => cases u with
    | none => rfl
    | some _ => exact (show False from r).elim
  | some _ => cases u with
    | none => exact (show False from r).elim
    | some _ => rfl
theorem RelO.getD {o : Option V} {u : Option Value} {d : V} {d' : Value} (r : RelO o u) (rd : RelV d d') : RelV (o.getD d) (u.getD d') := by
  cases o with
  | none => cases u with
    | none => exact rd
    | some _ => exact (show False from r).elim
  | some _ => cases u with
    | none => exact (show False from r).elim
    | some _ => exact r

/-- raw tables of the same keys -/
theorem KV.val {kvs : List (κ × V)} {vs : List (κ × Value)} (r : KV kvs vs) (k : κ) : RelO (valV kvs k) (valueAt vs k) := by
  unfold KV at r
  induction r with
  | nil => exact True.intro
  | @cons p q ps qs h t ih =>
    obtain ⟨h1, h2⟩ := h
    by_cases e : p.1 = k
    · have e' : q.1 = k := h1.symm.trans e
      have b : valueAt (q :: qs) k = some q.2 := by simp [valueAt, List.find?_cons, e']
      rw [valV_pos e, b]; exact h2
    · have e' : ¬ q.1 = k := fun z => e (h1.trans z)
      have b : valueAt (q :: qs) k = valueAt qs k := by simp [valueAt, List.find?_cons, e']
      rw [valV_neg e, b]; exact ih
theorem KV.any {kvs : List (κ × V)} {vs : List (κ × Value)} (r : KV kvs vs) (k : κ) : (kvs.any fun kv => decide (kv.1 = k)) = vs.any fun kv => decide (kv.1 = k) := by
  unfold KV at r
  induction r with
  | nil => rfl
  | cons h t ih => rw [List.any_cons, List.any_cons, ih, h.1]
theorem KV.repl {kvs : List (κ × V)} {vs : List (κ × Value)} (r : KV kvs vs) (k : κ) {y : V} {u : Value} (ry : RelV y u) :
    KV (kvs.map fun kv => if kv.1 = k then (kv.1, y) else kv) (vs.map fun kv => if kv.1 = k then (kv.1, u) else kv) := by
  unfold KV at r ⊢
  induction r with
  | nil => exact .nil
  | @cons p q ps qs h t ih =>
    rw [List.map_cons, List.map_cons]
    refine .cons ?_ ih
    obtain ⟨h1, h2⟩ := h
    by_cases e : p.1 = k
    · rw [if_pos e, if_pos (h1.symm.trans e)]; exact ⟨h1, ry⟩
    · rw [if_neg e, if_neg (fun z => e (h1.trans z))]; exact ⟨h1, h2⟩
theorem KV.put {kvs : List (κ × V)} {vs : List (κ × Value)} (r : KV kvs vs) (k : κ) {y : V} {u : Value} (ry : RelV y u) : KV (putK kvs k y) (stored vs k u) := by
  unfold putK stored
  rw [r.any k]
  by_cases e : (vs.any fun kv => decide (kv.1 = k)) = true
  · rw [if_pos e, if_pos e]; exact r.repl k ry
  · rw [if_neg e, if_neg e]; exact Paired.snoc r ⟨rfl, ry⟩
theorem KV.drop {kvs : List (κ × V)} {vs : List (κ × Value)} (r : KV kvs vs) (k : κ) : KV (dropK kvs k) (without vs k) := by
  unfold KV at r ⊢
  unfold dropK without
  induction r with
  | nil => exact .nil
  | @cons p q ps qs h t ih =>
    obtain ⟨h1, h2⟩ := h
    rw [List.filter_cons, List.filter_cons]
    by_cases e : p.1 = k
    · have a : ¬ decide (p.1 ≠ k) = true := by simp [e]
      have b : ¬ decide (q.1 ≠ k) = true := by simp [h1.symm.trans e]
      rw [if_neg a, if_neg b]; exact ih
    · have e' : ¬ q.1 = k := fun z => e (h1.trans z)
      have a : decide (p.1 ≠ k) = true := by simp [e]
      have b : decide (q.1 ≠ k) = true := by simp [e']
      rw [if_pos a, if_pos b]; exact .cons ⟨h1, h2⟩ ih
theorem KV.keys {kvs : List (κ × V)} {vs : List (κ × Value)} (r : KV kvs vs) : kvs.map (·.1) = vs.map (·.1) := by
  unfold KV at r
  induction r with
  | nil => rfl
  | cons h t ih => rw [List.map_cons, List.map_cons, ih, h.1]
theorem KV.length {kvs : List (κ × V)} {vs : List (κ × Value)} (r : KV kvs vs) : kvs.length = vs.length := Paired.length r
end


/-! ### a tracked dict, its keys ints and texts or tuples of these -/
theorem kV_is {P : Program} {w : World} {k : Key} {u : Value} (r : RelV (kV k) u) : (mixKind P w).is k u = true := by
  cases k with
  | inl i => obtain ⟨t, e⟩ := (show ∃ t, u = Value.int i t from r); subst e; exact mixKind_int P w i t
  | inr x => obtain ⟨t, e⟩ := (show ∃ t, u = Value.str x t from r); subst e; exact mixKind_str P w x t
theorem items_are {P : Program} {w : World} : ∀ {ks : List Key} {us : List Value}, Vals (ks.map kV) us → ItemsAre (mixKind P w) ks us
  | [], _, r => by rw [List.map_nil] at r; cases r; exact .nil
  | k :: ks, _, r => by
    rw [List.map_cons] at r
    cases r with
    | cons h t => exact .cons (kV_is h) (items_are t)

/-- raw entries of a dict with tuple keys -/
abbrev KT (H : Hp) : List (List Key × V) → List (List Key × Addr × Value) → Prop := Paired fun p q => p.1 = q.1 ∧ H q.2.1 = some (.tup (p.1.map kV)) ∧ RelV p.2 q.2.2
theorem KT.val {H : Hp} {kvs : List (List Key × V)} {xs : List (List Key × Addr × Value)} (r : KT H kvs xs) (k : List Key) : RelO (valV kvs k) ((atKey xs k).map (·.2)) := by
  induction r with
  | nil => exact True.intro
  | @cons p q ps qs h t ih =>
    obtain ⟨h1, _, h2⟩ := h
    by_cases e : p.1 = k
    · have e' : q.1 = k := h1.symm.trans e
      have b : atKey (q :: qs) k = some q.2 := by simp [atKey, List.find?_cons, e']
      rw [valV_pos e, b]; exact h2
    · have e' : ¬ q.1 = k := fun z => e (h1.trans z)
      have b : atKey (q :: qs) k = atKey qs k := by simp [atKey, List.find?_cons, e']
      rw [valV_neg e, b]; exact ih
theorem KT.repl {H : Hp} {kvs : List (List Key × V)} {xs : List (List Key × Addr × Value)} (r : KT H kvs xs) (k : List Key) {y : V} {u : Value} (ry : RelV y u) :
    KT H (kvs.map fun kv => if kv.1 = k then (kv.1, y) else kv) (xs.map (putAt k u)) := by
  induction r with
  | nil => exact .nil
  | @cons p q ps qs h t ih =>
    rw [List.map_cons, List.map_cons]
    refine .cons ?_ ih
    obtain ⟨h1, h2, h3⟩ := h
    unfold putAt
    by_cases e : p.1 = k
    · rw [if_pos e, if_pos (h1.symm.trans e)]; exact ⟨h1, h2, ry⟩
    · rw [if_neg e, if_neg (fun z => e (h1.trans z))]; exact ⟨h1, h2, h3⟩
theorem KT.put {H : Hp} {kvs : List (List Key × V)} {xs : List (List Key × Addr × Value)} (r : KT H kvs xs) (k : List Key) {b : Addr} {y : V} {u : Value} (hb : H b = some (.tup (k.map kV))) (ry : RelV y u) :
    KT H (putK kvs k y) (storedH xs k b u) := by
  have e : (kvs.any fun kv => decide (kv.1 = k)) = (atKey xs k).isSome := by
    rw [valV_any, (r.val k).isSome_eq, Option.isSome_map]
  unfold putK storedH
  rw [e]
  by_cases q : (atKey xs k).isSome = true
  · rw [if_pos q, if_pos q]; exact r.repl k ry
  · rw [if_neg q, if_neg q]; exact Paired.snoc r ⟨rfl, hb, ry⟩
theorem KT.keeps {H H' : Hp} {kvs : List (List Key × V)} {xs : List (List Key × Addr × Value)} (r : KT H kvs xs) (ht : ∀ b ys, H b = some (.tup ys) → H' b = some (.tup ys)) : KT H' kvs xs :=
  Paired.mapP r fun _ _ z => ⟨z.1, ht _ _ z.2.1, z.2.2⟩

section
variable {P : Program} {w : World} {H : Hp} {h : Heap} {a : Addr}
theorem rd_of {u : HO} (ok : HOk P w H h) (e : Rd H a u) : ObjOk P w H h a u := e.ok ok
theorem dk_rd {kvs : List (Key × V)} (ok : HOk P w H h) (e : Rd H a (.dK kvs)) : kvs.length ≤ sizeLine ∧ (a == sysModules) = false ∧ ∃ vs, KV kvs vs ∧ h.DictOf (mixKind P w) a vs :=
  show ObjOk P w H h a (.dK kvs) from rd_of ok e
theorem dk_of {kvs : List (Key × V)} (ok : HOk P w H h) (e : H a = some (.dK kvs)) : kvs.length ≤ sizeLine ∧ (a == sysModules) = false ∧ ∃ vs, KV kvs vs ∧ h.DictOf (mixKind P w) a vs := dk_rd ok (.inl e)
/-- a tracked tuple of ints and texts is a key -/
theorem key_of {ks : List Key} (ok : HOk P w H h) (e : H a = some (.tup (ks.map kV))) : (tupleKind (mixKind P w)).is h ks a := by
  obtain ⟨_, its, r, o, h1, h2, n, h3⟩ := (show ObjOk P w H h a (.tup (ks.map kV)) from ok a _ e)
  exact ⟨o, its.toArray, n, h1, h2, h3, by simpa using items_are r⟩
theorem dt_rd {kvs : List (List Key × V)} (ok : HOk P w H h) (e : Rd H a (.dT kvs)) : kvs.length ≤ sizeLine ∧ (a == sysModules) = false ∧
    ∃ xs, KT H kvs xs ∧ h.DictOfH (tupleKind (mixKind P w)) a xs := by
  obtain ⟨z, y, xs, r, o, es, ep, h1, h2, h3, h4, h5⟩ := (show ObjOk P w H h a (.dT kvs) from rd_of ok e)
  refine ⟨z, y, xs, r, o, es, ep, h1, h2, h3, h4, fun x hx => ?_, h5⟩
  have all : ∀ {l : List (List Key × V)} {m : List (List Key × Addr × Value)}, KT H l m → ∀ x ∈ m, (tupleKind (mixKind P w)).is h x.1 x.2.1 := by
    intro l m q
    induction q with
    | nil => intro x hx; exact nomatch hx
    | @cons p q ps qs hq t ih =>
      intro x hx
      rcases List.mem_cons.mp hx with e | hx
      · subst e
        exact key_of ok (by rw [← hq.1]; exact hq.2.1)
      · exact ih x hx
  exact all r x hx
theorem dt_of {kvs : List (List Key × V)} (ok : HOk P w H h) (e : H a = some (.dT kvs)) : kvs.length ≤ sizeLine ∧ (a == sysModules) = false ∧
    ∃ xs, KT H kvs xs ∧ h.DictOfH (tupleKind (mixKind P w)) a xs := dt_rd ok (.inl e)
end

/-- what the dict at a holds at the key y -/
def DGet (H : Hp) (a : Addr) (y : V) (r : Option V) : Prop :=
  (∃ kvs k, Rd H a (.dK kvs) ∧ y = kV k ∧ r = valV kvs k) ∨ ∃ kvs k b, Rd H a (.dT kvs) ∧ y = .ref b ∧ H b = some (.tup (k.map kV)) ∧ r = valV kvs k
/-- the heap behind a[y] = v -/
def DPut (H : Hp) (a : Addr) (y v : V) (H' : Hp) : Prop :=
  (∃ kvs k, H a = some (.dK kvs) ∧ y = kV k ∧ kvs.length < sizeLine ∧ H' = upd H a (.dK (putK kvs k v))) ∨
  ∃ kvs k b, H a = some (.dT kvs) ∧ y = .ref b ∧ H b = some (.tup (k.map kV)) ∧ kvs.length < sizeLine ∧ H' = upd H a (.dT (putK kvs k v))
theorem DGet.k {H : Hp} {a : Addr} {kvs : List (Key × V)} {k : Key} (e : H a = some (.dK kvs)) : DGet H a (kV k) (valV kvs k) := .inl ⟨kvs, k, .inl e, rfl, rfl⟩
theorem DGet.t {H : Hp} {a b : Addr} {kvs : List (List Key × V)} {k : List Key} (e : H a = some (.dT kvs)) (eb : H b = some (.tup (k.map kV))) : DGet H a (.ref b) (valV kvs k) := .inr ⟨kvs, k, b, .inl e, rfl, eb, rfl⟩
theorem DPut.k {H : Hp} {a : Addr} {kvs : List (Key × V)} {k : Key} {v : V} (e : H a = some (.dK kvs)) (hl : kvs.length < sizeLine) : DPut H a (kV k) v (upd H a (.dK (putK kvs k v))) := .inl ⟨kvs, k, e, rfl, hl, rfl⟩
theorem DPut.t {H : Hp} {a b : Addr} {kvs : List (List Key × V)} {k : List Key} {v : V} (e : H a = some (.dT kvs)) (eb : H b = some (.tup (k.map kV))) (hl : kvs.length < sizeLine) :
    DPut H a (.ref b) v (upd H a (.dT (putK kvs k v))) := .inr ⟨kvs, k, b, e, rfl, eb, hl, rfl⟩


section
variable {X : Cx} {pins : List (Addr × Obj)} {σ : St} {H : Hp} {s : Shared} {a : Addr} {y v : V} {u r : Value} {o : Option V} {A : Around} {E : Value → Shared → Prop}

theorem Inv.big (I : Inv X pins σ H s) : sysModules < s.heap.objs.size := by
  have h : mainGlobals < s.heap.objs.size := (I.mod.glob.keeps I.bk).lt
  exact Nat.lt_trans (by decide) h

/-- d[y], there -/
theorem d_getItem {Q : Value → Shared → Prop} (hu : A.units + 1 < cLine) (I : Inv X pins σ H s) (g : DGet H a y (some v)) (ry : RelV y u) (h : ∀ w' s', Inv X pins σ H s' → RelV v w' → Q w' s') :
    wpAny (model X.prog X.w) A (getItem (.ref a) u) Q E s := by
  rcases g with ⟨kvs, k, e, ey, l⟩ | ⟨kvs, k, b, e, ey, eb, l⟩
  · subst ey
    obtain ⟨z, hd, vs, rel, dd⟩ := dk_rd I.hok e
    obtain ⟨w', hw, rw'⟩ := RelO.some_of (v := v) (o := valueAt vs k) (by rw [l]; exact rel.val k)
    exact wpAny_getItem_of (kV_is ry) dd.mapOf hw (h w' _ (I.tok _) rw')
  · subst ey
    cases (show u = Value.ref b from ry)
    obtain ⟨z, hd, xs, rel, dd⟩ := dt_rd I.hok e
    obtain ⟨w', hw, rw'⟩ := RelO.some_of (v := v) (o := (atKey xs k).map (·.2)) (by rw [l]; exact rel.val k)
    obtain ⟨p, hp, hp2⟩ := Option.map_eq_some_iff.mp hw
    refine wpAny_getItem_heap (tupleKind_room_in1 hu) (key_of I.hok eb) dd hp ?_
    rw [hp2]
    exact h w' _ (I.tok _) rw'
/-- a dict's object is replaced -/
theorem d_write {h' : Heap} {t' : Nat} {ob : HO} (I : Inv X pins σ H s) (mu : Mut (H a)) (hs : Heap.SameBut a s.heap h') (he : ∃ q, h'.get? a = some q) (new : ObjOk X.prog X.w (upd H a ob) h' a ob) :
    Inv X pins σ (upd H a ob) { s with heap := h', toks := t' } :=
  I.write (x := a) (e := a) mu (.inl rfl) (fun b q hb z => (hs.2 b hb).trans z) he new
theorem dk_new {P : Program} {w : World} {H' : Hp} {h' : Heap} {kvs : List (Key × V)} {vs : List (Key × Value)} (z : kvs.length ≤ sizeLine) (hd : (a == sysModules) = false) (rel : KV kvs vs) (dd : h'.DictOf (mixKind P w) a vs) :
    ObjOk P w H' h' a (.dK kvs) := ⟨z, hd, vs, rel, dd⟩
/-- d[y] = v -/
theorem d_setItem {H' : Hp} {Q : Unit → Shared → Prop} (hu : A.units + 1 < cLine) (I : Inv X pins σ H s) (g : DPut H a y v H') (ry : RelV y u) (rv : RelV v r) (h : ∀ s', Inv X pins σ H' s' → Q () s') :
    wpAny (model X.prog X.w) A (setItem (.ref a) u r) Q E s := by
  rcases g with ⟨kvs, k, e, ey, l, eH⟩ | ⟨kvs, k, b, e, ey, eb, l, eH⟩
  · subst ey eH
    obtain ⟨z, hd, vs, rel, dd⟩ := dk_of I.hok e
    have hz : vs.length ≤ sizeLine := by rw [← rel.length]; exact z
    have hl : (putK kvs k v).length ≤ sizeLine := by have := length_putK kvs k v; omega
    refine wpAny_setItem_pairs (hsz := hz) (kV_is ry) dd fun h' dd' hs => h _ ?_
    have he : ∃ q, h'.get? a = some q := let ⟨q, _, _, hq, _⟩ := dd'; ⟨q, hq⟩
    exact d_write I (by rw [e]; exact True.intro) hs he (dk_new hl hd (rel.put k rv) dd')
  · subst ey eH
    cases (show u = Value.ref b from ry)
    obtain ⟨z, hd, xs, rel, dd⟩ := dt_of I.hok e
    have hz : xs.length ≤ sizeLine := by rw [← Paired.length rel]; exact z
    have hl : (putK kvs k v).length ≤ sizeLine := by have := length_putK kvs k v; omega
    refine wpAny_setItem_heap (hsz := hz) (tupleKind_room_in1 hu) (key_of I.hok eb) dd fun h' dd' hs => h _ ?_
    obtain ⟨q, es, ep, hq, h2, h3, h4, _, h5⟩ := dd'
    refine d_write I (by rw [e]; exact True.intro) hs ⟨q, hq⟩ ⟨hl, hd, _, (rel.put k eb rv).keeps fun c ys ec => ?_, q, es, ep, hq, h2, h3, h4, h5⟩
    rw [upd_ne (ne_of ec e (fun z => nomatch z))]
    exact ec
end

section
variable {X : Cx} {pins : List (Addr × Obj)} {σ : St} {H : Hp} {s : Shared} {a : Addr} {kvs : List (Key × V)} {k : Key} {u : Value} {A : Around} {E : Value → Shared → Prop}
end


/-! ### readings and rules -/
/-- the element of a subscription, not a slice -/
def NoSl (i : Expr) : Prop := ∀ ov iv, subscripted i false ov iv = operate [ov, iv] (getItem ov iv)
theorem subD_of {prog : Program} {w : World} {A : Around} {E : Value → Shared → Prop} {s : Shared} {env : Env} {value slice : Expr} {pos : Pos} {T id : String} {Q : Value → Shared → Prop}
    (hl : typeLookup (.type T) "__getitem__" = pure (some (.builtin id))) (hs : NoSl slice)
    (h : wpAny (model prog w) A (eval value env) (fun o s₁ => wpAny (model prog w) A (eval slice env) (fun i s₂ => s₂.TypeIs o T ∧ wpAny (model prog w) A (getItem o i) Q E s₂) E s₁) E s) :
    wpAny (model prog w) A (eval (.Subscript value slice pos) env) Q E s := by
  refine Subscript_ (wpAny_mono h (fun o s₁ h₁ => wpAny_mono h₁ (fun i s₂ h₂ => ?_) fun _ _ x => x) fun _ _ x => x)
  obtain ⟨hT, h₂⟩ := h₂
  unfold subscriptTail
  refine wpAny_bind ?_
  rw [getitemInPython_of_ne hT.not_modules]
  refine wpAny_bind (wpAny_specialOf hT hl ?_)
  have fin : wpAny (model prog w) A (subscripted slice false o i) (fun r s₃ => wpAny (model prog w) A (letTemporaryGo value o r >>= fun _ => pure r) Q E s₃) E s₂ := by
    rw [hs o i]
    exact wpAny_operating (wpAny_mono h₂ (fun r s₃ h₃ => wpAny_bind (wpAny_letTemporaryGo (wpAny_pure h₃))) fun _ _ x => x)
  first
    | exact wpAny_pure (wpAny_bind fin)
    | exact wpAny_bind (wpAny_pure (wpAny_bind fin))
    | exact wpAny_bind fin

theorem dict_typeIs {X : Cx} {pins : List (Addr × Obj)} {σ : St} {H : Hp} {s : Shared} {a : Addr} {y : V} {o : Option V} (I : Inv X pins σ H s) (g : DGet H a y o) : s.TypeIs (.ref a) "dict" := by
  rcases g with ⟨kvs, k, e, _, _⟩ | ⟨kvs, k, b, e, _, _, _⟩
  · obtain ⟨_, _, vs, _, dd⟩ := dk_rd I.hok e
    exact dd.typeIs
  · obtain ⟨_, _, xs, _, dd⟩ := dt_rd I.hok e
    exact dd.typeIs

/-- d[y] -/
def tDGet (td ty : TE) : TE := fun σ H Q => td σ H fun x H1 => ty σ H1 fun y H2 => ∃ a v, x = .ref a ∧ DGet H2 a y (some v) ∧ Q v H2
/-- y in d, y not in d -/
def tDIn (ty td : TE) : TE := fun σ H Q => ty σ H fun y H1 => td σ H1 fun x H2 => ∃ a o, x = .ref a ∧ DGet H2 a y o ∧ Q (.bl o.isSome) H2
def tDNotIn (ty td : TE) : TE := fun σ H Q => ty σ H fun y H1 => td σ H1 fun x H2 => ∃ a o, x = .ref a ∧ DGet H2 a y o ∧ Q (.bl (!o.isSome)) H2
/-- d[y] = v -/
def sDPut (td ty tv : TE) : TS := fun D σ H => tv σ H fun v H1 => td σ H1 fun x H2 => ty σ H2 fun y H3 => ∃ a H4, x = .ref a ∧ DPut H3 a y v H4 ∧ D.nx σ H4
/-- d[y] op= v -/
def sDAug (td ty tv : TE) (rd : V → V → Hp → VK → Prop) : TS := fun D σ H => td σ H fun x H1 => ty σ H1 fun y H2 => ∃ a v, x = .ref a ∧ DGet H2 a y (some v) ∧
  tv σ H2 fun y2 H3 => rd v y2 H3 fun z H4 => ∃ H5, DPut H4 a y z H5 ∧ D.nx σ H5
/-- del d[y] -/
def sDDel (td ty : TE) : TS := fun D σ H => td σ H fun x H1 => ty σ H1 fun y H2 => ∃ a kvs k, x = .ref a ∧ H2 a = some (.dK kvs) ∧ y = kV k ∧ (valV kvs k).isSome = true ∧ D.nx σ (upd H2 a (.dK (dropK kvs k)))

section
variable {X : Cx} {o i e value : Expr} {pos pos' tpos : Pos} {td ty tv : TE}
theorem pe_dget (hu : X.A.units + 1 < cLine) (ho : PE X o td) (hi : PE X i ty) (hs : NoSl i) : PE X (.Subscript o i pos) (tDGet td ty) := by
  intro pins s σ H Q I h
  refine subD_of PySem.F.slot_dict_getitem.lookup hs (thn (ho pins s σ H _ I h) fun u s1 ⟨x, H1, I1, rx, q1⟩ => thn (hi pins s1 σ H1 _ I1 q1) fun iv s2 ⟨y, H2, I2, ry, a, v, ex, g, q2⟩ => ?_)
  subst ex
  obtain rfl : u = Value.ref a := rx
  exact ⟨dict_typeIs I2 g, d_getItem hu I2 g ry fun w' s3 I3 rw' => ⟨v, H2, I3, rw', q2⟩⟩
theorem ps_dput (hu : X.A.units + 1 < cLine) (ho : PE X o td) (hi : PE X i ty) (hv : PE X value tv) (hs : swapsWith value (some (.Subscript o i pos')) pos.line X.env = pure false) :
    PS X (.Assign [.Subscript o i pos'] value pos) (sDPut td ty tv) := by
  intro pins s σ H D I h
  refine wpAny_Assign_Subscript (thn (hv pins s σ H _ I h) fun r s1 ⟨v, H1, I1, rv, q1⟩ => thn (ho pins s1 σ H1 _ I1 q1) fun u s2 ⟨x, H2, I2, rx, q2⟩ => thn (hi pins s2 σ H2 _ I2 q2) fun iv s3 ⟨y, H3, I3, ry, a, H4, ex, g, q3⟩ => ?_) hs
  subst ex
  obtain rfl : u = Value.ref a := rx
  exact d_setItem hu I3 g ry rv fun s4 I4 => ⟨σ, H4, I4, q3⟩
end


/-! ### displays -/
theorem dk_empty {P : Program} {w : World} {H : Hp} (h : Heap) (hb : sysModules < h.objs.size) : ObjOk P w H (h.push { cls := .type "dict", data := .dict #[] }) h.objs.size (.dK []) :=
  ⟨Nat.zero_le _, beq_eq_false_iff_ne.mpr (Ne.symm (Nat.ne_of_lt hb)), [], .nil, Heap.DictOf.new h⟩
/-- {}, to be a dict of the kind that is wanted -/
def tDNewK : TE := fun _ H Q => ∀ p, H p = none → Q (.ref p) (upd H p (.dK []))
def tDNewT : TE := fun _ H Q => ∀ p, H p = none → Q (.ref p) (upd H p (.dT []))
section
variable {X : Cx} {pos : Pos}
theorem pe_dnewK : PE X (.Dict [] [] pos) tDNewK := fun pins s σ H Q I h =>
  wpAny_Dict_empty ⟨.ref s.heap.objs.size, _, I.laid (a := s.heap.objs.size) (o := .dK []) (t' := s.toks) (fun _ _ q => Heap.get?_push_of_some _ q) (Nat.le_refl _) (dk_empty s.heap I.big), rfl, h _ (I.hok.fresh (Nat.le_refl _))⟩
end

/-- the pairs of a display, from the left -/
def tPairs : List (TE × TE) → St → Hp → (List (V × V) → Hp → Prop) → Prop
  | [], _, H, Q => Q [] H
  | (tk, tv) :: r, σ, H, Q => tk σ H fun x H1 => tv σ H1 fun y H2 => tPairs r σ H2 fun ps H3 => Q ((x, y) :: ps) H3
abbrev VV : List (V × V) → List (Value × Value) → Prop := Paired fun p q => RelV p.1 q.1 ∧ RelV p.2 q.2
def PPs (X : Cx) (pos : Pos) (keys : List (Option Expr)) (values : List Expr) (trs : List (TE × TE)) : Prop :=
  ∀ (pins : List (Addr × Obj)) (s : Shared) (σ : St) (H : Hp) (Q : List (V × V) → Hp → Prop), Inv X pins σ H s → tPairs trs σ H Q →
    wpAny (model X.prog X.w) X.A (evalPairs (pairTrees keys values X.env pos)) (fun vs s' => ∃ ps H', Inv X pins σ H' s' ∧ VV ps vs ∧ Q ps H') X.xe s

def mergeK (kvs more : List (Key × V)) : List (Key × V) := more.foldl (fun acc kv => putK acc kv.1 kv.2) kvs
theorem KV.merge : ∀ {more : List (Key × V)} {rs : List (Key × Value)} {kvs : List (Key × V)} {vs : List (Key × Value)}, KV more rs → KV kvs vs → KV (mergeK kvs more) (merged vs rs) := by
  intro more rs kvs vs r
  unfold KV at r
  induction r generalizing kvs vs with
  | nil => intro q; exact q
  | @cons p q ps qs h t ih =>
    intro r0
    have e : KV (putK kvs p.1 p.2) (stored vs q.1 q.2) := by
      have := r0.put p.1 h.2
      rw [← h.1]; exact this
    exact ih e
theorem length_mergeK : ∀ (more kvs : List (Key × V)), (mergeK kvs more).length ≤ kvs.length + more.length
  | [], kvs => by show kvs.length ≤ kvs.length + 0; omega
  | p :: r, kvs => by
    have h1 := length_mergeK r (putK kvs p.1 p.2)
    have h2 := length_putK kvs p.1 p.2
    show (mergeK (putK kvs p.1 p.2) r).length ≤ _
    rw [List.length_cons]; omega
/-- {k: v, ..} with keys ints and texts; the new dict stands empty while the pairs are made -/
def tDisp (trs : List (TE × TE)) : TE := fun σ H Q => ∀ p, H p = none → tPairs trs σ (upd H p (.dK [])) fun ps H2 => H2 p = some (.dK []) ∧ ∃ kvs : List (Key × V), ps = kvs.map (fun kv => (kV kv.1, kv.2)) ∧ kvs.length ≤ 15 ∧ Q (.ref p) (upd H2 p (.dK (mergeK [] kvs)))


/-! ### methods -/
/-- a method call o.m(e) of a built-in, with one argument: what must be seen of the text -/
structure M1 (X : Cx) (o : Expr) (m : Str) (apos : Pos) (e : Expr) (cpos : Pos) : Prop where
  base : attributeBase o m X.env (eval o X.env) = eval o X.env
  few : ((backTo cpos (starEach [e] X.env)).all (fun x => !x.1) && (backToKw cpos (keywordEach [] X.env)).all (fun x => x.1.isSome)
    && decide (([e] : List Expr).length + ([] : List Keyword).length + (if ([] : List Keyword).isEmpty then 0 else 1) < 30)) = true
  line : (apos.endLine == cpos.line) = true
  trees : backTo cpos (starEach [e] X.env) = [(false, eval e X.env)]
structure M2 (X : Cx) (o : Expr) (m : Str) (apos : Pos) (e f : Expr) (cpos : Pos) : Prop where
  base : attributeBase o m X.env (eval o X.env) = eval o X.env
  few : ((backTo cpos (starEach [e, f] X.env)).all (fun x => !x.1) && (backToKw cpos (keywordEach [] X.env)).all (fun x => x.1.isSome)
    && decide (([e, f] : List Expr).length + ([] : List Keyword).length + (if ([] : List Keyword).isEmpty then 0 else 1) < 30)) = true
  line : (apos.endLine == cpos.line) = true
  trees : backTo cpos (starEach [e, f] X.env) = [(false, eval e X.env), (false, eval f X.env)]

/-- a is a dict, whatever its keys -/
def IsD (H : Hp) (a : Addr) : Prop := (∃ kvs, Rd H a (.dK kvs)) ∨ ∃ kvs, Rd H a (.dT kvs)
theorem isD_at {X : Cx} {pins : List (Addr × Obj)} {σ : St} {H : Hp} {s : Shared} {a : Addr} (I : Inv X pins σ H s) (d : IsD H a) :
    s.TypeIs (.ref a) "dict" ∧ (∀ b, Value.ref a = .ref b → ∃ ob, s.heap.get? b = some ob ∧ ob.dict = none) ∧ (a == sysModules) = false := by
  rcases d with ⟨kvs, e⟩ | ⟨kvs, e⟩
  · obtain ⟨_, hd, vs, _, dd⟩ := dk_rd I.hok e
    refine ⟨dd.typeIs, fun b q => ?_, hd⟩
    cases q
    obtain ⟨ob, _, _, h1, h2, _⟩ := dd
    exact ⟨ob, h1, h2.2.1⟩
  · obtain ⟨_, hd, xs, _, dd⟩ := dt_rd I.hok e
    refine ⟨dd.typeIs, fun b q => ?_, hd⟩
    cases q
    obtain ⟨ob, _, _, h1, h2, _⟩ := dd
    exact ⟨ob, h1, h2.2.1⟩

section
variable {X : Cx} {pins : List (Addr × Obj)} {σ : St} {H : Hp} {s : Shared} {a : Addr} {y d : V} {u r : Value} {o : Option V} {A : Around} {E : Value → Shared → Prop}
end

def tDGet1 (td ty : TE) : TE := fun σ H Q => td σ H fun x H1 => ∃ a, x = .ref a ∧ IsD H1 a ∧ ty σ H1 fun y H2 => ∃ o, DGet H2 a y o ∧ Q (o.getD .non) H2
def tDGet2 (td ty tx : TE) : TE := fun σ H Q => td σ H fun x H1 => ∃ a, x = .ref a ∧ IsD H1 a ∧ ty σ H1 fun y H2 => tx σ H2 fun z H3 => ∃ o, DGet H3 a y o ∧ Q (o.getD z) H3
/-- d.pop(k): there; d.pop(k, x): there or not -/
def tDPop1 (td ty : TE) : TE := fun σ H Q => td σ H fun x H1 => ∃ a, x = .ref a ∧ IsD H1 a ∧ ty σ H1 fun y H2 => ∃ kvs k v, H2 a = some (.dK kvs) ∧ y = kV k ∧ valV kvs k = some v ∧ Q v (upd H2 a (.dK (dropK kvs k)))
def tDPop2 (td ty tx : TE) : TE := fun σ H Q => td σ H fun x H1 => ∃ a, x = .ref a ∧ IsD H1 a ∧ ty σ H1 fun y H2 => tx σ H2 fun z H3 => ∃ kvs k, H3 a = some (.dK kvs) ∧ y = kV k ∧
  (∀ v, valV kvs k = some v → Q v (upd H3 a (.dK (dropK kvs k)))) ∧ (valV kvs k = none → Q z H3)
section
variable {X : Cx} {o e f : Expr} {apos cpos : Pos} {td ty tx : TE}
end

/-! ### dict(d): a copy -/
section
variable {X : Cx} {pins : List (Addr × Obj)} {σ : St} {H : Hp} {s : Shared} {a : Addr} {kvs : List (Key × V)} {A : Around} {E : Value → Shared → Prop}
end


section
variable {X : Cx} {pins : List (Addr × Obj)} {σ : St} {H : Hp} {s : Shared} {a : Addr} {y : V} {u : Value} {A : Around} {E : Value → Shared → Prop}
end
end L2

namespace Att
open PySem PySem.W PySem.Calls PyProof.Rows

/-! ### rules over ANY heap (no ledger) from facts about the written part K: the library's own take a ledger (News) for what they write -/
section
variable {prog : Program} {w : World} {A : Around} {E : Value → Shared → Prop} {s : Shared} {K : Frag}

end
end Att

namespace L2
open PySem PySem.Spec PyProof.Rows

end L2

namespace L2
open PySem PySem.Spec PyProof.Rows

end L2

/-! SHORT WORDS over the layer: a def of the text, its body, what a loop and a test want. -/
namespace L2
open PySem PySem.Spec PyProof.Rows

section
variable {P : Program} {w : World} {K : PySem.W.Frag} {mg : Str → Option Value} {base : Heap}
end
/-! ### expressions in short: the name that stands in the i-th slot -/
section
variable {X : Cx}
end

/-! ### a dict's pairs: keys that differ -/
section
variable {κ : Type} [DecidableEq κ]
end
end L2
namespace Chk
/-- the number turned, on naturals -/
def T (n : Nat) : Nat := n * 128 % 2 ^ 64 + n / 2 ^ 57
def Tn : Nat → Nat → Nat
  | 0, n => n
  | k + 1, n => T (Tn k n)
def D (n : Nat) : Nat := if n * 2 ≥ 2 ^ 64 then n * 2 - 2 ^ 64 + 1 else n * 2
end Chk
namespace Chk
theorem xor_add : ∀ a b : Nat, (a ^^^ b) + 2 * (a &&& b) = a + b := by
  intro a
  induction a using Nat.strongRecOn with
  | ind a ih =>
    intro b
    by_cases ha : a = 0
    · subst ha; simp
    · have h := ih (a / 2) (by omega) (b / 2)
      have e1 : (a ^^^ b) / 2 = a / 2 ^^^ b / 2 := Nat.xor_div_two
      have e2 : (a &&& b) / 2 = a / 2 &&& b / 2 := Nat.and_div_two
      have m0 : (a ^^^ b) % 2 = (a % 2) ^^^ (b % 2) := by
        have := Nat.xor_mod_two_pow (a := a) (b := b) (n := 1)
        simpa using this
      have m1 : (a ^^^ b) % 2 = (a + b) % 2 := by
        rw [m0]
        rcases Nat.mod_two_eq_zero_or_one a with h1 | h1 <;> rcases Nat.mod_two_eq_zero_or_one b with h2 | h2 <;> rw [h1, h2, Nat.add_mod, h1, h2] <;> rfl
      have m2 : (a &&& b) % 2 = (a % 2) &&& (b % 2) := by
        have := Nat.and_mod_two_pow (a := a) (b := b) (n := 1)
        simpa using this
      have m3 : (a % 2) &&& (b % 2) = if a % 2 = 1 ∧ b % 2 = 1 then 1 else 0 := by
        rcases Nat.mod_two_eq_zero_or_one a with h1 | h1 <;> rcases Nat.mod_two_eq_zero_or_one b with h2 | h2 <;> rw [h1, h2] <;> rfl
      rw [m3] at m2
      rw [← e1, ← e2] at h
      split at m2 <;> omega
end Chk
namespace Chk
def stp (c n : Nat) : Nat := T c ^^^ n
def chk (l : List Nat) : Nat := l.foldl stp 0
end Chk
namespace L2
open PySem PySem.Spec PyProof.Rows
section
variable {X : Cx}
/-- // by a positive divisor of any usual size -/
theorem op_fdivB : OpR X (binaryOp .FloorDiv) (rI (fun _ j => 0 < j ∧ j.natAbs.log2 < 9000) fun i j => .int (i / j)) := opI fun i j _ _ _ _ _ hc q => by
  have h1 : (0 : Int) < j := hc.1
  exact floordiv_int (by omega) (by rw [Int.fdiv_eq_ediv_of_nonneg i (by omega)]; exact q) (.inl (PyProof.noPylong_of_log2 hc.2))
/-- a written power -/
theorem pe_powc {a b n : Int} {j1 j2 p1 p2 pos} (h : 0 ≤ b ∧ b ≤ 1000000 ∧ a.natAbs < 2 ^ 64 := by decide) (e : a ^ b.toNat = n := by first | rfl | decide +kernel) :
    PE X (.BinOp (.Constant (.int a) j1 p1) .Pow (.Constant (.int b) j2 p2) pos) (tC (.int n)) := fun pins s σ H Q I hw =>
  pe_op op_pow pe_int pe_int pins s σ H Q I ⟨_, _, rfl, rfl, h, by subst e; exact hw⟩
def clsV : V → Option Value
  | .ty n => some (.type n)
  | .ref a => some (.ref a)
  | _ => none
theorem call_isinst : CallR X (.builtin "isinstance") (fun xs H Q => ∃ x c cv t b, xs = [x, c] ∧ clsV c = some cv ∧ TyOf X.K H x t ∧ PySem.W.kitOne X.K t cv = some b ∧ Q (.bl b) H) := by
  rintro pins s σ H xs us Q I r ⟨x, c, cv, t, b, rfl, hc, ty, e, q⟩
  obtain ⟨u, v, rfl, ru, rv⟩ := vals2 r
  have hv : v = cv := by
    cases c <;> simp [clsV] at hc <;> subst hc <;> exact rv
  subst hv
  exact isinst_ok I ru ty e fun tk => ⟨.bl b, H, I.tok tk, rfl, q⟩
end
/-! ### defs, methods, classes by their promises -/
section
variable (P : Program) (w : World) (K : PySem.W.Frag) (mg : Str → Option Value) (base : Heap)
structure DefOk (x : Str) (k : Nat) (ps : List Str) (sp : Sp) : Prop where
  ex : ∃ (f : Addr) (fd : FuncData), mg x = some (.ref f) ∧ FnOk P w K mg base CX0 k f fd ps sp ∧ PySem.W.keepIn K (.ref f) = true ∧ Binds K fd ps []
structure MethOk (C : Addr) (m : Str) (k : Nat) (ps : List Str) (sp : Sp) : Prop where
  ex : ∃ (f : Addr) (fd : FuncData), Meth K C m f ∧ FnOk P w K mg base CX0 k f fd ps sp ∧ Binds K fd ps []
structure MakeOk (x : Str) (C : Addr) (k : Nat) (ps : List Str) (sp : Sp) : Prop where
  ex : ∃ (f : Addr) (fd : FuncData), mg x = some (.ref C) ∧ Mk K C f ∧ FnOk P w K mg base CX0 k f fd ps sp ∧ Binds K fd ps []
end
section
variable {X : Cx} {k : Nat} {C : Addr} {ps : List Str} {sp : Sp} {x m : Str} {p pos apos : Pos} {e o : Expr} {es : List Expr} {ta : TE} {t : TA}
end
theorem iteY {c A B : Prop} [Decidable c] (hc : c) (h : A) : if decide c = true then A else B := by
  rw [if_pos (decide_eq_true hc)]; exact h
theorem iteN {c A B : Prop} [Decidable c] (hc : ¬ c) (h : B) : if decide c = true then A else B := by
  rw [if_neg (by rw [decide_eq_false hc]; decide)]; exact h
end L2
namespace L2
open PySem
def clos (cells : List (Str × Addr)) : List (Str × NameKind) → List (Str × Addr) → List (Str × Addr)
  | [], acc => acc
  | (n, k) :: r, acc => clos cells r (if k == .free then (n, (cells.lookup n).getD 0) :: acc else acc)
theorem clos_loop {env : Env} : ∀ (l : List (Str × NameKind)) (acc : List (Str × Addr)), (∀ y ∈ l, y.2 = .free → ∃ c, env.cells.lookup y.1 = some c) →
    (forIn l acc fun (x : Str × NameKind) (cs : List (Str × Addr)) => if (x.2 == NameKind.free) = true then do let a ← cellOf env x.1; pure (ForInStep.yield ((x.1, a) :: cs)) else pure (ForInStep.yield cs) : Sem (List (Str × Addr))) = pure (clos env.cells l acc)
  | [], acc, _ => by simp only [List.forIn_nil]; rfl
  | (n, k) :: r, acc, h => by
    simp only [List.forIn_cons]
    cases hk : (k == NameKind.free) with
    | false =>
      simp only [Bool.false_eq_true, if_false]
      have ih := clos_loop (env := env) r acc fun y hy => h y (List.mem_cons_of_mem _ hy)
      simp only [pure_bind, ih, clos, hk, Bool.false_eq_true, if_false]
    | true =>
      obtain ⟨c, hc⟩ := h (n, k) List.mem_cons_self (by simpa using hk)
      have e : cellOf env n = pure c := by
        unfold cellOf; rw [show env.cells.lookup n = some c from hc]
      simp only [if_true, e, pure_bind]
      have ih := clos_loop (env := env) r ((n, c) :: acc) fun y hy => h y (List.mem_cons_of_mem _ hy)
      rw [ih]
      simp only [clos, hk, if_true]
      rw [show env.cells.lookup n = some c from hc]; rfl
theorem closureFor_eq {scope : Scope} {env : Env} (h : ∀ y ∈ scope.names, y.2 = .free → ∃ c, env.cells.lookup y.1 = some c) : closureFor scope env = pure (clos env.cells scope.names []) := by
  have := clos_loop (env := env) scope.names [] h
  unfold closureFor
  simp only [bind_pure]
  exact this
theorem clos_sub {cells : List (Str × Addr)} : ∀ {names : List (Str × NameKind)} {acc : List (Str × Addr)}, (∀ y ∈ names, y.2 = .free → ∃ c, cells.lookup y.1 = some c) → (∀ x c, acc.lookup x = some c → cells.lookup x = some c) →
    ∀ x c, (clos cells names acc).lookup x = some c → cells.lookup x = some c
  | [], _, _, ha, x, c, h => ha x c h
  | (n, k) :: r, acc, hn, ha, x, c, h => by
    refine clos_sub (names := r) (fun y hy => hn y (List.mem_cons_of_mem _ hy)) ?_ x c h
    intro x c h
    split at h
    · rename_i hk
      obtain ⟨d, hd⟩ := hn (n, k) List.mem_cons_self (by simpa using hk)
      rw [show cells.lookup n = some d from hd, List.lookup_cons] at h
      split at h
      · rename_i e
        rw [eq_of_beq e, show cells.lookup n = some d from hd]; exact h
      · exact ha x c h
    · exact ha x c h
theorem clos_has {cells : List (Str × Addr)} : ∀ {names : List (Str × NameKind)} {acc : List (Str × Addr)} {x : Str}, ((x, NameKind.free) ∈ names ∨ ∃ c, acc.lookup x = some c) → ∃ c, (clos cells names acc).lookup x = some c
  | [], acc, x, h => by
    rcases h with h | h
    · cases h
    · exact h
  | (n, k) :: r, acc, x, h => by
    refine clos_has (names := r) ?_
    rcases h with h | ⟨c, h⟩
    · rcases List.mem_cons.mp h with h | h
      · injection h with h1 h2
        subst h1; subst h2
        exact .inr ⟨(cells.lookup x).getD 0, by simp [List.lookup_cons]⟩
      · exact .inl h
    · right
      split
      · rw [List.lookup_cons]
        split
        · exact ⟨_, rfl⟩
        · exact ⟨c, h⟩
      · exact ⟨c, h⟩
theorem mem_of_lookup {α : Type} {x : Str} {a : α} : ∀ {l : List (Str × α)}, l.lookup x = some a → (x, a) ∈ l
  | [], h => by simp at h
  | (n, k) :: r, h => by
    rw [List.lookup_cons] at h
    split at h
    · rename_i e
      injection h with h
      rw [eq_of_beq e, h]; exact List.mem_cons_self
    · exact List.mem_cons_of_mem _ (mem_of_lookup h)
/-- the names of a comprehension's block, by kinds -/
theorem lookup_relabel {env : Env} {x : Str} : ∀ (names : List (Str × NameKind)),
    (names.map fun (n, k) => if (k == NameKind.free && env.scope.kind == .function && env.kindOf n == some .cell) then (n, NameKind.cell) else (n, k)).lookup x =
      (names.lookup x).map fun k => if (k == NameKind.free && env.scope.kind == .function && env.kindOf x == some .cell) then NameKind.cell else k
  | [] => rfl
  | (n, k) :: r => by
    have ih := lookup_relabel (env := env) (x := x) r
    simp only [List.map_cons]
    by_cases e : x = n
    · subst e
      split <;> rename_i hc
      · simp only [List.lookup_cons, beq_self_eq_true, Option.map_some, hc, if_true]
      · simp only [List.lookup_cons, beq_self_eq_true, Option.map_some]
        rw [if_neg hc]
    · have e' : (x == n) = false := by simpa using e
      split <;> simp only [List.lookup_cons, e'] <;> exact ih
end L2
namespace L2
open PySem PySem.Spec PyProof.Rows
theorem anelt {a b n : Nat} (h1 : a < n) (h2 : n ≤ b) : a ≠ b := by omega
/-! ### comprehensions -/
/-- the block's own context: its names are N, its namespace stands at C, its iterator's records at ex -/
def Cx.comp (X : Cx) (scope : Scope) (N : List Str) (C : Addr) (s₀ : Shared) (H₀ : Hp) (ex : List Addr) : Cx :=
  { X with N := N, s₀ := s₀, H₀ := H₀, env := compEnvC scope (clos X.env.cells scope.names []) C X.env, outer := X.stack, stack := X.stack, ex := ex, fn := fun _ => false, pn := [] }
/-- the block's names at its entry: k of its own, then those of the def at the slots cap -/
def st0 (k : Nat) (cap : List Nat) (σ : St) : St := List.replicate k none ++ cap.map fun j => (σ[j]?).getD none
def compOk (XN : List Str) (fs sc : Scope) (N : List Str) (k : Nat) (cap : List Nat) : Bool :=
  decide (sc.kind = .function) && sc.names.all (fun y => decide (y.2 ≠ .cell)) && sc.names.all (fun y => decide (y.2 ≠ .local) || decide (sc.names.lookup y.1 = some .local)) &&
  sc.names.all (fun y => decide (y.2 ≠ .free) || decide (fs.names.lookup y.1 = some .cell)) && decide (N.length = k + cap.length) &&
  (cap.zip (N.drop k)).all (fun p => decide (XN[p.1]? = some p.2) && decide (sc.names.lookup p.2 = some .free))
structure CompOk (XN : List Str) (fs sc : Scope) (N : List Str) (k : Nat) (cap : List Nat) : Prop where
  kind : sc.kind = .function
  nocell : ∀ y ∈ sc.names, y.2 ≠ .cell
  locs : ∀ y ∈ sc.names, y.2 = .local → sc.names.lookup y.1 = some .local
  frees : ∀ y ∈ sc.names, y.2 = .free → fs.names.lookup y.1 = some .cell
  len : N.length = k + cap.length
  caps : ∀ p ∈ cap.zip (N.drop k), XN[p.1]? = some p.2 ∧ sc.names.lookup p.2 = some .free
theorem CompOk.of {XN : List Str} {fs sc : Scope} {N : List Str} {k : Nat} {cap : List Nat} (h : compOk XN fs sc N k cap = true) : CompOk XN fs sc N k cap := by
  unfold compOk at h
  simp only [Bool.and_eq_true, List.all_eq_true, decide_eq_true_eq, Bool.or_eq_true] at h
  obtain ⟨⟨⟨⟨⟨h1, h2⟩, h3⟩, h4⟩, h5⟩, h6⟩ := h
  exact ⟨h1, h2, fun y hy e => (h3 y hy).resolve_left fun z => z e, fun y hy e => (h4 y hy).resolve_left fun z => z e, h5, h6⟩
section
variable {X : Cx} {pins : List (Addr × Obj)} {σ : St} {H : Hp} {s : Shared} {scope : Scope} {N : List Str} {k : Nat} {cap : List Nat} {fp : List Addr}
theorem Cx.comp_kind {x : Str} {C : Addr} {s₀ : Shared} {H₀ : Hp} {ex : List Addr} (hk : X.env.scope.kind = .function) :
    (X.comp scope N C s₀ H₀ ex).env.kindOf x = (scope.names.lookup x).map fun k => if (k == NameKind.free && X.env.kindOf x == some .cell) then NameKind.cell else k := by
  show (relabel scope X.env).names.lookup x = _
  unfold relabel
  rw [lookup_relabel]
  congr 1
  funext k
  rw [hk]; simp
theorem Inv.freeCells (I : Inv X pins σ H s) (c : CompOk X.N X.env.scope scope N k cap) : ∀ y ∈ scope.names, y.2 = .free → ∃ d, X.env.cells.lookup y.1 = some d :=
  fun y hy e => I.ok.has y.1 (.inl (c.frees y hy e))
/-- the block begins -/
theorem Inv.block (I : Inv X pins σ H s) (c : CompOk X.N X.env.scope scope N k cap) (hf : ∀ b ∈ fp, FpOk X pins H b) (ho : ∀ b ∈ fp, ∃ o, s.heap.get? b = some o) {D C : Addr} {s1 : Shared}
    (hD : s.heap.objs.size ≤ D) (hC : s.heap.objs.size ≤ C) (hDC : D ≠ C) (hos : s1.os = s.os) (hg : s1.gens = s.gens) (keep : ∀ b o, s.heap.get? b = some o → s1.heap.get? b = some o)
    (hl : s1.heap.get? D = some { cls := .type "list", data := .seq #[] }) (hn : s1.heap.Ns C fun _ => none) :
    Inv (X.comp scope N C s H fp) [] (st0 k cap σ) (upd H D (.lst [])) s1 := by
  have hfc := I.freeCells c
  have lt : ∀ b ∈ fp, b < s.heap.objs.size := fun b hb => let ⟨o, e⟩ := ho b hb; Heap.lt_size e
  have clt : ∀ x d, X.env.cells.lookup x = some d → d < s.heap.objs.size := fun x d e => let ⟨v, o, q, _⟩ := I.cell x d e; Heap.lt_size q
  have sub := clos_sub (cells := X.env.cells) (names := scope.names) (acc := []) hfc (fun x c h => by simp at h)
  have fresh : ∀ a, s.heap.objs.size ≤ a → H a = none := fun a h => I.hok.fresh h
  have kindf : ∀ x, ((X.comp scope N C s H fp).env.kindOf x = some .cell ∨ (X.comp scope N C s H fp).env.kindOf x = some .free) → (x, NameKind.free) ∈ scope.names := fun x h => by
    rw [Cx.comp_kind I.ok.kind] at h
    cases e : scope.names.lookup x with
    | none => rw [e] at h; simp at h
    | some kd =>
      have m := mem_of_lookup e
      rw [e] at h
      cases kd with
      | free => exact m
      | cell => exact absurd rfl (c.nocell _ m)
      | «local» => simp at h
      | globalExplicit => simp at h
      | globalImplicit => simp at h
  have ok : (X.comp scope N C s H fp).Ok :=
    { mod := I.ok.mod
      kind := c.kind
      glob := I.ok.glob
      blt := I.ok.blt
      above := hC
      inj := fun x y d hx hy => I.ok.inj x y d (sub x d hx) (sub y d hy)
      has := fun x h => clos_has (.inl (kindf x h))
      cab := fun x d h => by cases h
      hd := I.ok.hd
      frames := I.ok.frames
      stk := .inl rfl
      exf := fun b hb => ⟨fun z => anelt (lt b hb) hC z, fun x d hx => (hf b hb).2.2.2.2.1 x d (sub x d hx)⟩
      bs := I.bs
      bsz := Nat.le_trans I.ok.bsz I.sz
      noex := fun b o e hb => by
        rcases (hf b hb).2.2.2.1 with h | h
        · exact I.ok.noex b o e h
        · exact absurd (Heap.lt_size (I.ok.bs b o e).1) (Nat.not_lt.mpr h)
      exfs := fun b hb hm => by
        rcases List.mem_cons.mp (I.stkSub b hm) with h | h
        · exact (hf b hb).2.1 h
        · exact (hf b hb).2.2.1 h
      funs := I.stack
      frf := I.stkFree }
  have nD : H D = none := fresh D hD
  refine
    { ok := ok
      os := hos
      bare := by rw [hg]; exact I.bare
      base := Un.laid keep hD nD
      loc := ⟨_, hn, ?_⟩
      cell := fun x d h => let ⟨v, q⟩ := I.cell x d (sub x d h); ⟨v, q.keeps keep⟩
      free := by
        show upd H D _ C = none
        rw [upd_ne (Ne.symm hDC)]; exact fresh C hC
      freeC := fun x d h => by
        have h' := sub x d h
        rw [upd_ne (anelt (clt x d h') hD)]; exact I.freeC x d h'
      pin := fun p hp => by cases hp
      hok := I.hok.laid keep hD ⟨Nat.zero_le _, [], 0, .nil, hl⟩
      len := by
        show (st0 k cap σ).length = N.length
        unfold st0; rw [List.length_append, List.length_replicate, List.length_map, c.len] }
  intro i x v hi hv _
  have hi : N[i]? = some x := hi
  unfold st0 at hv
  by_cases hik : i < k
  · rw [List.getElem?_append_left (by rw [List.length_replicate]; exact hik), List.getElem?_replicate, if_pos hik] at hv
    cases hv
  · rw [List.getElem?_append_right (by rw [List.length_replicate]; omega), List.length_replicate, List.getElem?_map] at hv
    cases ej : cap[i - k]? with
    | none => rw [ej] at hv; cases hv
    | some j =>
      rw [ej] at hv
      have hv : (σ[j]?).getD none = some v := Option.some.inj hv
      have hσ : σ[j]? = some (some v) := by
        cases e : σ[j]? with
        | none => rw [e] at hv; cases hv
        | some z => rw [e] at hv; exact congrArg some hv
      have hm : (j, x) ∈ cap.zip (N.drop k) := by
        refine List.mem_iff_getElem?.mpr ⟨i - k, ?_⟩
        rw [List.getElem?_zip_eq_some]
        refine ⟨ej, ?_⟩
        rw [List.getElem?_drop, show k + (i - k) = i by omega]; exact hi
      obtain ⟨hX, hfree⟩ := c.caps _ hm
      have mf := mem_of_lookup hfree
      have hcell := c.frees _ mf rfl
      obtain ⟨m, _, q⟩ := I.loc
      obtain ⟨u, ru, lk⟩ := q j x v hX hσ (.inr (.inl hcell))
      refine ⟨u, ru, .inr ⟨.inl ?_, ?_⟩⟩
      · rw [Cx.comp_kind I.ok.kind, hfree]
        have : (X.env.kindOf x == some NameKind.cell) = true := by
          show (X.env.scope.names.lookup x == some NameKind.cell) = true
          rw [hcell]; rfl
        simp [this]
      · rcases lk with ⟨hloc, _⟩ | ⟨_, d, hd, hcv⟩
        · have hloc : X.env.scope.names.lookup x = some .local := hloc
          rw [hcell] at hloc; cases hloc
        · obtain ⟨d', hd'⟩ := clos_has (cells := X.env.cells) (acc := []) (.inl mf : (x, NameKind.free) ∈ scope.names ∨ _)
          have := sub x d' hd'
          rw [hd] at this; cases this
          exact ⟨d, hd', hcv.keeps keep⟩
/-- the block has ended -/
theorem Inv.unblock {H' : Hp} {σ' : St} {s1 : Shared} {C : Addr} {ps : List (Addr × Obj)} (I : Inv X pins σ H s) (hf : ∀ b ∈ fp, FpOk X pins H b) (J : Inv (X.comp scope N C s H fp) ps σ' H' s1) : Inv X pins σ H' s1 :=
  I.call' (ch := fp) J.os J.base J.hok J.bare fun b hb => ⟨(hf b hb).2.2.2.1, (hf b hb).2.1, (hf b hb).2.2.2.2.1, (hf b hb).2.2.2.2.2⟩
end
/-- [elt for tg in iter if ..]: D the new list, W what holds between two turns (turn, measure, names, heap, items so far) -/
def tComp (k : Nat) (cap : List Nat) (wi : TI) (g : TG) (tt : TT) (te : TE) : TE := fun σ H Q => wi σ H fun J H1 => ∀ D, H1 D = none → ∃ W : Nat → Nat → St → Hp → List V → Prop,
  (∃ m, W 0 m (st0 k cap σ) (upd H1 D (.lst [])) []) ∧ ∀ i m σ' H' ys, W i m σ' H' ys → (J.stop i H' ∧ Q (.ref D) H') ∨
    (J.go i H' ∧ ∃ N : St → Hp → List V → Prop, (∀ σ' H' ys', N σ' H' ys' → ∃ m', m' < m ∧ W (i + 1) m' σ' H' ys') ∧ ∀ x H2, J.yld i H' x H2 → g x σ' H2 fun σ3 H3 => tt σ3 H3 fun b H4 => if b = true then
      te σ3 H4 fun y H5 => H5 D = some (.lst ys) ∧ ys.length < sizeLine ∧ N σ3 (upd H5 D (.lst (ys ++ [y]))) (ys ++ [y])
      else N σ3 H4 ys)
/-- no test -/
def tYes : TT := fun _ H Q => Q true H
def PTs (X : Cx) (ifs : List Expr) (t : TT) : Prop :=
  ∀ (pins : List (Addr × Obj)) (s : Shared) (σ : St) (H : Hp) (Q : Bool → Hp → Prop), Inv X pins σ H s → t σ H Q →
    wpAny (model X.prog X.w) X.A (forIn ifs true fun c r => if r = true then do let ok ← isTrue c X.env (eval c X.env); pure (ForInStep.yield ok) else pure (ForInStep.yield r)) (TP X pins σ Q) X.xe s
theorem pts_nil {X : Cx} : PTs X [] tYes := fun _ _ _ H _ I h => wpAny_tests_nil ⟨H, I, h⟩
section
variable {prog : Program} {w : World} {A : Around} {R : Result → Shared → Prop} {s : Shared}
theorem codeAny_compLoop_go {elt target iter : Expr} {ifs : List Expr} {scope : Scope} {pos : Pos} {it acc : Value} {env : Env} (I : Nat → Shared → Prop)
    (turn : ∀ n s, I n s → wpAny (model prog w) A (pyNext it) (fun r s₁ => match r with
      | none => R (.ok .next) s₁
      | some v => wpAny (model prog w) A (letOwnedTupleGo target it v) (fun _ s₀ => wpAny (model prog w) A (assign target env v) (fun _ s₂ =>
          wpAny (model prog w) A (forIn ifs true fun c r => if r = true then do let ok ← isTrue c env (eval c env); pure (ForInStep.yield ok) else pure (ForInStep.yield r)) (fun ok s₃ =>
            if ok = true then wpAny (model prog w) A (eval elt env) (fun x s₄ =>
              wpAny (model prog w) A (call (.builtin "list.append") [acc, x]) (fun _ s₅ => ∃ m, m < n ∧ I m s₅) (notedBy (model prog w) A env fun e s' => R (.error e) s') s₄) (notedBy (model prog w) A env fun e s' => R (.error e) s') s₃
            else ∃ m, m < n ∧ I m s₃) (notedBy (model prog w) A env fun e s' => R (.error e) s') s₂) (notedBy (model prog w) A env fun e s' => R (.error e) s') s₀) (notedBy (model prog w) A env fun e s' => R (.error e) s') s₁) (notedBy (model prog w) A env fun e s' => R (.error e) s') s)
    (n : Nat) (h : I n s) :
    codeAny (model prog w) A (.compLoop (.ListComp elt [⟨target, iter, ifs, 0⟩] scope pos) 0 it acc env) R s := by
  refine codeAny_loop rfl I (fun n s hI => ?_) n h
  show wpAny _ A ((compTurn (.ListComp elt [⟨target, iter, ifs, 0⟩] scope pos) 0 it acc env).onRaise (fun x => do noteFrame x env; theTreesLotGoes x)) _ _ s
  refine wpAny_noted ?_
  rw [compTurn_list]
  refine wpAny_bind (wpAny_standAt (wpAny_bind (wpAny_mono (turn n s hI) (fun r s₁ h₁ => ?_) fun _ _ h' => h')))
  cases r with
  | none => exact wpAny_pure h₁
  | some v =>
    refine wpAny_bind (wpAny_mono h₁ (fun _ s₀ h₀ => ?_) fun _ _ h' => h')
    refine wpAny_bind (wpAny_mono h₀ (fun _ s₂ h₂ => wpAny_bind (wpAny_mono h₂ (fun ok s₃ h₃ => ?_) fun _ _ h' => h')) fun _ _ h' => h')
    cases ok with
    | false => exact wpAny_pure ⟨rfl, h₃⟩
    | true =>
      exact wpAny_bind (wpAny_bind (wpAny_mono h₃ (fun x s₄ h₄ => wpAny_bind (wpAny_mono h₄ (fun _ s₅ h₅ => wpAny_pure (wpAny_pure ⟨rfl, h₅⟩)) fun _ _ h' => h')) fun _ _ h' => h'))
end
section
variable {X : Cx} {scope : Scope} {N : List Str} {k : Nat} {cap : List Nat} {tg iter elt : Expr} {ifs : List Expr} {wi : TI} {g : TG} {tt : TT} {te : TE} {pos : Pos}
/-- the loop of the block -/
theorem comp_loop {E : Value → Shared → Prop} {use : Option (Value → Sem Unit)} {QQ : Value → Shared → Prop} {pins : List (Addr × Obj)} {s : Shared} {σ : St} {H : Hp} {it : Addr} {fp : List Addr} {tn : Nat → Heap → Prop} {J : It} {Q : VK}
    (hc : X.calm = true) (c : CompOk X.N X.env.scope scope N k cap)
    (hg : ∀ C s₀ H₀ ex, PG (X.comp scope N C s₀ H₀ ex).nox tg g) (ht : ∀ C s₀ H₀ ex, PTs (X.comp scope N C s₀ H₀ ex).nox ifs tt) (he : ∀ C s₀ H₀ ex, PE (X.comp scope N C s₀ H₀ ex).nox elt te)
    (I : Inv X pins σ H s) (T : Turn X.prog X.w X.K tg J fp it tn) (st : tn 0 s.heap) (hf : ∀ b ∈ fp, FpOk X pins H b)
    (h : ∀ D, H D = none → ∃ W : Nat → Nat → St → Hp → List V → Prop, (∃ m, W 0 m (st0 k cap σ) (upd H D (.lst [])) []) ∧ ∀ i m σ' H' ys, W i m σ' H' ys → (J.stop i H' ∧ Q (.ref D) H') ∨
      (J.go i H' ∧ ∃ N : St → Hp → List V → Prop, (∀ σ' H' ys', N σ' H' ys' → ∃ m', m' < m ∧ W (i + 1) m' σ' H' ys') ∧ ∀ x H2, J.yld i H' x H2 → g x σ' H2 fun σ3 H3 => tt σ3 H3 fun b H4 => if b = true then
        te σ3 H4 fun y H5 => H5 D = some (.lst ys) ∧ ys.length < sizeLine ∧ N σ3 (upd H5 D (.lst (ys ++ [y]))) (ys ++ [y])
        else N σ3 H4 ys))
    (hQ : ∀ D C s1 H', Inv X pins σ H' s1 → Q (.ref D) H' → (∃ m, s1.heap.Ns C m) → H' C = none → X.s₀.heap.objs.size ≤ C → C ≠ X.env.locals → (∀ x c, X.env.cells.lookup x = some c → c ≠ C) → (∀ p ∈ X.pn ++ pins, p.1 ≠ C) →
      compPost (model X.prog X.w) X.A E use QQ (.ref D) C (.ok .next) s1) :
    wpAny (model X.prog X.w) X.A (newList []) (fun acc s₃ => wpAny (model X.prog X.w) X.A (newFunctionEnv scope X.env.globals (clos X.env.cells scope.names []) [] X.env.qual none .none (some X.env)) (fun cenv s₄ =>
      codeAny (model X.prog X.w) X.A (.compStart (.ListComp elt [⟨tg, iter, ifs, 0⟩] scope pos) 0 (.ref it) acc { cenv with scope := relabel scope X.env }) (compPost (model X.prog X.w) X.A E use QQ acc cenv.locals) s₄) E s₃) E s := by
  refine wpAny_newObj_type (wpAny_newFunctionEnv c.nocell (by intro y hy; simp at hy) (fun h₁ hns₁ hsb₁ => ?_) c.kind)
  dsimp only at hns₁ hsb₁ ⊢
  generalize hH2 : s.heap.push { cls := .type "list", dict := none, data := .seq ([] : List Value).toArray } = H2 at hns₁ hsb₁ ⊢
  have hC : H2.objs.size = s.heap.objs.size + 1 := by rw [← hH2, Heap.size_push]
  have hDC : s.heap.objs.size ≠ H2.objs.size := by rw [hC]; exact Nat.ne_of_lt (Nat.lt_succ_self _)
  have hle : s.heap.objs.size ≤ H2.objs.size := by rw [hC]; exact Nat.le_succ _
  have keep : ∀ b o, s.heap.get? b = some o → h₁.get? b = some o := fun b o e => by
    exact hsb₁.extBut b o (anelt (Heap.lt_size e) hle) (Heap.get?_push_of_some _ (hH2 ▸ Heap.get?_push_of_some _ e))
  have hl : h₁.get? s.heap.objs.size = some { cls := .type "list", data := .seq #[] } := hsb₁.extBut _ _ hDC (Heap.get?_push_of_some _ (hH2 ▸ Heap.get?_push_size _ rfl))
  have nD : H s.heap.objs.size = none := I.hok.fresh (Nat.le_refl _)
  obtain ⟨W, ⟨m0, w0⟩, turn⟩ := h _ nD
  have ho : ∀ b ∈ fp, ∃ o, s.heap.get? b = some o := fun b hb => let ⟨o, e, _⟩ := T.obj _ _ st b hb; ⟨o, e⟩
  have hCs : X.s₀.heap.objs.size ≤ H2.objs.size := Nat.le_trans I.sz hle
  have hCl : H2.objs.size ≠ X.env.locals := (anelt I.lt hle).symm
  have hCc : ∀ x d, X.env.cells.lookup x = some d → d ≠ H2.objs.size := fun x d e => by
    obtain ⟨v, o, q, _⟩ := I.cell x d e
    exact anelt (Heap.lt_size q) hle
  have hCp : ∀ p ∈ X.pn ++ pins, p.1 ≠ H2.objs.size := fun p hp => by
    exact anelt (Heap.lt_size (I.pin p hp).1) hle
  have loop : ∀ s₃ : Shared, s₃ = { s with heap := h₁, toks := s.toks + ([] : List (Str × Value)).length } →
      codeAny (model X.prog X.w) X.A (.compLoop (.ListComp elt [⟨tg, iter, ifs, 0⟩] scope pos) 0 (.ref it) (.ref s.heap.objs.size) (compEnvC scope (clos X.env.cells scope.names []) H2.objs.size X.env))
        (compPost (model X.prog X.w) X.A E use QQ (.ref s.heap.objs.size) H2.objs.size) s₃ := by
    rintro s₃ rfl
    have I0 : Inv (X.comp scope N H2.objs.size s H fp) [] (st0 k cap σ) (upd H s.heap.objs.size (.lst [])) { s with heap := h₁, toks := s.toks + ([] : List (Str × Value)).length } :=
      I.block c hf ho (Nat.le_refl _) hle hDC rfl rfl keep hl (by simpa using hns₁)
    have stat : ∀ {H' : Hp} {ps : List (Addr × Obj)}, (∀ b ∈ fp, H' b = none) → ps = [] → ∀ b ∈ fp, FpOk (X.comp scope N H2.objs.size s H fp).nox ps H' b := fun hn hp b hb => by
      subst hp
      exact ⟨hn b hb, (I0.ok.exf b hb).1, I0.ok.exfs b hb, .inl hb, (I0.ok.exf b hb).2, fun p hp => by cases hp⟩
    have nok : ∀ b ∈ fp, upd H s.heap.objs.size (.lst []) b = none := fun b hb => by
      obtain ⟨o, e⟩ := ho b hb
      rw [upd_ne (anelt (Heap.lt_size e) (Nat.le_refl _))]; exact (hf b hb).1
    refine codeAny_compLoop_go (fun n s' => ∃ i σ' H' ys, Inv (X.comp scope N H2.objs.size s H fp).nox [] σ' H' s' ∧ tn i s'.heap ∧ (∀ b ∈ fp, H' b = none) ∧ W i n σ' H' ys) ?_ m0
      ⟨0, _, _, [], I0.wish _, T.keep _ _ _ st fun b _ o e => keep b o e, nok, w0⟩
    rintro n s' ⟨i, σ', H', ys, I', st', fr', w'⟩
    rcases turn i n σ' H' ys w' with ⟨stop, q⟩ | ⟨go, NN, hNN, step⟩
    · refine wpAny_mono (T.done (X.comp scope N H2.objs.size s H fp).nox rfl rfl rfl hc i [] s' σ' H' (fun _ _ => False) I' (stat fr' rfl) st' stop) (fun r s4 ⟨hr, I4⟩ => ?_) (fun _ _ x => x.elim)
      subst hr
      exact hQ _ _ s4 H' (I.unblock hf I4.unwish) q (let ⟨m, hn, _⟩ := I4.loc; ⟨m, hn⟩) I4.free hCs hCl hCc hCp
    · refine wpAny_mono (T.item (X.comp scope N H2.objs.size s H fp).nox rfl rfl rfl hc i [] s' σ' H' (fun _ _ => False) I' (stat fr' rfl) st' go) (fun r s4 ⟨u, hr, h4⟩ => ?_) (fun _ _ x => x.elim)
      subst hr
      refine wpAny_mono h4 (fun _ s5 ⟨x, H5, I5, r5, y5, st5, fr5⟩ => ?_) (fun _ _ x => x.elim)
      have I5' := I5.pinned (stat fr5 rfl) (T.obj _ _ st5)
      refine wpAny_mono (hg _ _ _ _ _ s5 σ' H5 x u _ I5' r5 (step x H5 y5)) (fun _ s6 ⟨σ6, H6, I6, q6⟩ => ?_) (fun _ _ x => x.elim)
      refine wpAny_mono (ht _ _ _ _ _ s6 σ6 H6 _ I6 q6) (fun ok s7 ⟨H7, I7, q7⟩ => ?_) (fun _ _ x => x.elim)
      have again : ∀ {H8 : Hp} {s8 : Shared} {ys8 : List V}, Inv (X.comp scope N H2.objs.size s H fp).nox ([] ++ pinsAt fp s5.heap) σ6 H8 s8 → NN σ6 H8 ys8 →
          ∃ m, m < n ∧ ∃ i σ' H' ys, Inv (X.comp scope N H2.objs.size s H fp).nox [] σ' H' s8 ∧ tn i s8.heap ∧ (∀ b ∈ fp, H' b = none) ∧ W i m σ' H' ys := fun {H8 s8 ys8} I8 n8 => by
        obtain ⟨m', hm, w8⟩ := hNN _ _ _ n8
        refine ⟨m', hm, i + 1, σ6, H8, ys8, I8.unpinned, T.keep _ _ _ st5 fun b hb o e => (I8.pin (b, o) (List.mem_append_right _ (List.mem_append_right _ (mem_pinsAt hb e)))).1, fun b hb => ?_, w8⟩
        obtain ⟨o, e, d⟩ := T.obj _ _ st5 b hb
        exact (I8.pin (b, o) (List.mem_append_right _ (List.mem_append_right _ (mem_pinsAt hb e)))).2.1
      cases ok with
      | false => exact again I7 q7
      | true =>
        refine wpAny_mono (he _ _ _ _ _ s7 σ6 H7 _ I7 q7) (fun y s8 ⟨v, H8, I8, rv, hD, hlen, w8⟩ => ?_) (fun _ _ x => x.elim)
        refine wpAny_mono (mt_append (X := (X.comp scope N H2.objs.size s H fp).nox) _ s8 σ6 H8 (.ref s.heap.objs.size) [v] (.ref s.heap.objs.size) [y] (fun _ H9 => H9 = upd H8 s.heap.objs.size (.lst (ys ++ [v]))) I8 rfl (.cons rv .nil) ⟨_, ys, v, rfl, rfl, hD, hlen, rfl⟩) (fun _ s9 ⟨_, H9, I9, _, e9⟩ => ?_) (fun _ _ x => x.elim)
        subst e9
        exact again I9 w8
  exact codeAny_compStart_list (loop _ rfl) (T.self _ 0 _ _ _ (T.keep _ _ _ st fun b _ o e => keep b o e) (loop _ rfl))
theorem pe_comp (hc : X.calm = true) (hco : compOk X.N X.env.scope scope N k cap = true) (hi : PI X tg iter wi)
    (hg : ∀ C s₀ H₀ ex, PG (X.comp scope N C s₀ H₀ ex).nox tg g) (ht : ∀ C s₀ H₀ ex, PTs (X.comp scope N C s₀ H₀ ex).nox ifs tt) (he : ∀ C s₀ H₀ ex, PE (X.comp scope N C s₀ H₀ ex).nox elt te)
    (hs : ∀ x, foldedSetIterable iter X.env x = pure x := by intro _; rfl) : PE X (.ListComp elt [⟨tg, iter, ifs, 0⟩] scope pos) (tComp k cap wi g tt te) := by
  intro pins s σ H Q I h
  have c := CompOk.of hco
  rw [eval_ListComp]
  refine wpAny_comprehension_free (use := none) (cl := clos X.env.cells scope.names []) rfl hs (closureFor_eq (I.freeCells c)) c.kind c.locs (thn (hi pins s σ H _ I h) fun xv s₁ h₁ => thn h₁ fun itv s₂ h₂ => ?_)
  obtain ⟨it, fp, tn, J, H2, e, I2, T, st, hf, q⟩ := h₂
  subst e
  exact comp_loop (use := none) hc c hg ht he I2 T st hf q fun D C s1 H' I1 q1 ⟨m, hn⟩ hCn hCs hCl hCc hCp =>
    ⟨m, hn, fun h' hs' => ⟨.ref D, H', I1.turned (t' := s1.toks) (fun b o hb e => hs'.extBut b o hb e) hCn hCl (.inr hCs) hCc hCp, rfl, q1⟩⟩
/-- x = [..] -/
theorem ps_setComp {i : Nat} {x : Str} {pos' spos : Pos} (hN : X.N.Nodup) (hi' : X.N[i]? = some x) (hx : Loc X.env.scope x) (hc : X.calm = true) (hco : compOk X.N X.env.scope scope N k cap = true) (hi : PI X tg iter wi)
    (hg : ∀ C s₀ H₀ ex, PG (X.comp scope N C s₀ H₀ ex).nox tg g) (ht : ∀ C s₀ H₀ ex, PTs (X.comp scope N C s₀ H₀ ex).nox ifs tt) (he : ∀ C s₀ H₀ ex, PE (X.comp scope N C s₀ H₀ ex).nox elt te)
    (hsw : swapsWith (.ListComp elt [⟨tg, iter, ifs, 0⟩] scope pos) (some (.Name x pos')) spos.line X.env = pure true := by rfl)
    (hs : ∀ x, foldedSetIterable iter X.env x = pure x := by intro _; rfl) (hf' : X.fn x = true ∨ X.env.scope.names.lookup x = some .local := by first | exact .inl rfl | exact .inr rfl | assumption) :
    PS X (.Assign [.Name x pos'] (.ListComp elt [⟨tg, iter, ifs, 0⟩] scope pos) spos) (tAsg (tComp k cap wi g tt te) (gName i)) := by
  intro pins s σ H D I h
  have c := CompOk.of hco
  rw [exec_Assign_Name_used _ _ _ _ hsw]
  refine wpAny_bind (wpAny_standAt (wpAny_bind ?_))
  show wpAny _ X.A (do let _ ← comprehension (.ListComp elt [⟨tg, iter, ifs, 0⟩] scope pos) scope X.env _ (newList []) false (eval iter X.env) (some (assign (.Name x pos') X.env))) _ _ s
  refine wpAny_bind (wpAny_mono (wpAny_comprehension_free (use := some (assign (.Name x pos') X.env)) (Q := fun _ s' => SP X pins D .next s') (cl := clos X.env.cells scope.names []) rfl hs (closureFor_eq (I.freeCells c)) c.kind c.locs
    (thn (hi pins s σ H _ I h) fun xv s₁ h₁ => thn h₁ fun itv s₂ h₂ => ?_)) (fun _ s' hq => wpAny_pure (wpAny_pure hq)) fun _ _ e => e)
  obtain ⟨it, fp, tn, J, H2, e, I2, T, st, hf, q⟩ := h₂
  subst e
  refine comp_loop (use := some (assign (.Name x pos') X.env)) (Q := fun v H1 => gName i v σ H1 D.nx) hc c hg ht he I2 T st hf q fun L C s1 H' I1 q1 ⟨m, hn⟩ hCn hCs hCl hCc hCp => ?_
  show wpAny _ X.A (assign (.Name x pos') X.env (.ref L)) _ _ s1
  refine wpAny_assign_Name (store_ok2 (v := .ref L) I1 hN hi' hx rfl (fun s2 I3 ⟨a, sb, ha⟩ => ⟨m, ?_, fun h' hs' => ?_⟩) hf')
  · refine hn.sameBut sb ?_
    rcases ha with z | z
    · rw [z]; exact hCl
    · exact (hCc _ _ z).symm
  · exact ⟨_, H', I3.turned (t' := s2.toks) (fun b o hb e => hs'.extBut b o hb e) hCn hCl (.inr hCs) hCc hCp, q1⟩
end
/-! ### the forms one uses -/
theorem comp_list {K : PySem.W.Frag} {a : Addr} (D : Addr) {xs : List V} {g : TG} {tt : TT} {te : TE} {σ : St} {H : Hp} {R : Hp → Prop} (Pv : Nat → St → Hp → List V → Prop) (h0 : Pv 0 σ H []) (hl : ∀ i σ H ys, i ≤ xs.length → Pv i σ H ys → SqL K H a xs)
    (hs : ∀ i x σ H ys, xs[i]? = some x → Pv i σ H ys → g x σ H fun σ3 H3 => tt σ3 H3 fun b H4 => if b = true then
      te σ3 H4 fun y H5 => H5 D = some (.lst ys) ∧ ys.length < sizeLine ∧ Pv (i + 1) σ3 (upd H5 D (.lst (ys ++ [y]))) (ys ++ [y]) else Pv (i + 1) σ3 H4 ys) (hd : ∀ σ H ys, Pv xs.length σ H ys → R H) :
    ∃ W : Nat → Nat → St → Hp → List V → Prop, (∃ m, W 0 m σ H []) ∧ ∀ i m σ' H' ys, W i m σ' H' ys → ((Itl K a).stop i H' ∧ R H') ∨
      ((Itl K a).go i H' ∧ ∃ N : St → Hp → List V → Prop, (∀ σ' H' ys', N σ' H' ys' → ∃ m', m' < m ∧ W (i + 1) m' σ' H' ys') ∧ ∀ x H2, (Itl K a).yld i H' x H2 → g x σ' H2 fun σ3 H3 => tt σ3 H3 fun b H4 => if b = true then
        te σ3 H4 fun y H5 => H5 D = some (.lst ys) ∧ ys.length < sizeLine ∧ N σ3 (upd H5 D (.lst (ys ++ [y]))) (ys ++ [y])
        else N σ3 H4 ys) := by
  refine ⟨fun i m σ H ys => m = xs.length - i ∧ i ≤ xs.length ∧ Pv i σ H ys, ⟨xs.length, by simp, Nat.zero_le _, h0⟩, ?_⟩
  rintro i m σ H ys ⟨rfl, hi, p⟩
  have q := hl i σ H ys hi p
  by_cases hlt : i < xs.length
  · refine .inr ⟨⟨xs, xs[i], q, by simp [hlt]⟩, Pv (i + 1), fun σ' H' ys' p' => ⟨xs.length - (i + 1), by omega, rfl, hlt, p'⟩, fun x H' y => ?_⟩
    obtain ⟨e, y⟩ := y
    subst e
    exact hs i x σ _ ys (y xs q) p
  · have e : i = xs.length := by omega
    subst e
    exact .inl ⟨⟨xs, q, Nat.le_refl _⟩, hd σ H ys p⟩
theorem comp_range {lo : Int} {n : Nat} (D : Addr) {g : TG} {tt : TT} {te : TE} {σ : St} {H : Hp} {R : Hp → Prop} (Pv : Nat → St → Hp → List V → Prop) (h0 : Pv 0 σ H [])
    (hs : ∀ i σ H ys, i < n → Pv i σ H ys → g (.int (lo + i)) σ H fun σ3 H3 => tt σ3 H3 fun b H4 => if b = true then
      te σ3 H4 fun y H5 => H5 D = some (.lst ys) ∧ ys.length < sizeLine ∧ Pv (i + 1) σ3 (upd H5 D (.lst (ys ++ [y]))) (ys ++ [y]) else Pv (i + 1) σ3 H4 ys) (hd : ∀ σ H ys, Pv n σ H ys → R H) :
    ∃ W : Nat → Nat → St → Hp → List V → Prop, (∃ m, W 0 m σ H []) ∧ ∀ i m σ' H' ys, W i m σ' H' ys → ((Itr lo n).stop i H' ∧ R H') ∨
      ((Itr lo n).go i H' ∧ ∃ N : St → Hp → List V → Prop, (∀ σ' H' ys', N σ' H' ys' → ∃ m', m' < m ∧ W (i + 1) m' σ' H' ys') ∧ ∀ x H2, (Itr lo n).yld i H' x H2 → g x σ' H2 fun σ3 H3 => tt σ3 H3 fun b H4 => if b = true then
        te σ3 H4 fun y H5 => H5 D = some (.lst ys) ∧ ys.length < sizeLine ∧ N σ3 (upd H5 D (.lst (ys ++ [y]))) (ys ++ [y])
        else N σ3 H4 ys) := by
  refine ⟨fun i m σ H ys => m = n - i ∧ i ≤ n ∧ Pv i σ H ys, ⟨n, by simp, Nat.zero_le _, h0⟩, ?_⟩
  rintro i m σ H ys ⟨rfl, hi, p⟩
  by_cases hlt : i < n
  · refine .inr ⟨hlt, Pv (i + 1), fun σ' H' ys' p' => ⟨n - (i + 1), by omega, rfl, hlt, p'⟩, fun x H' y => ?_⟩
    obtain ⟨e, y⟩ := y
    subst e y
    exact hs i σ _ ys hlt p
  · have e : i = n := by omega
    subst e
    exact .inl ⟨Nat.le_refl _, hd σ H ys p⟩
/-! ### rules whose reading names the written part: for a block's own context -/
section
variable {X : Cx} {K : PySem.W.Frag}
theorem pg_tupK {es : List Expr} {k : Nat} {t : TGs} {n : Nat} {pos : Pos} (hK : X.K = K) (hc : X.calm = true) (h : PGs X es t) (hn : (assignEach es X.env).length = n := by rfl) (hst : (assignEach es X.env).findIdx? (·.1) = none := by rfl) :
    PG X (.Tuple es k pos) (gTup K n t) := by subst hK; exact pg_tup hc h hn hst
end
end L2
namespace L2
open PySem PySem.Spec PyProof.Rows
/-! ### range(a, b, c) -/
def Itrs (lo c : Int) (n : Nat) : It := ⟨fun i _ => i < n, fun i H x H' => H' = H ∧ x = .int (lo + i * c), fun i _ => n ≤ i⟩
section
variable {X : Cx} {tg : Expr}
def iRng3 (ta : TA) : TI := fun σ H R => ta σ H fun vs H1 => ∃ (i j c : Int) (n : Nat), vs = [.int i, .int j, .int c] ∧ (0 < c ∧ c < 1073741824) ∧ Builtin.Range.small i j c = true ∧ Builtin.Range.rangeSize i j c = (n : Int) ∧ R (Itrs i c n) H1
end
theorem Same.new {H : Hp} {p : Addr} {o : HO} (h : H p = none) : Same H (upd H p o) := fun b u e => by rw [upd_ne (ne_of_none e h)]; exact e
theorem Same.upd {H H' : Hp} {p : Addr} {o : HO} (s : Same H H') (h : H p = none) : Same H (upd H' p o) := fun b u e => by rw [upd_ne (ne_of_none e h)]; exact s b u e
end L2
namespace L2
open PySem PySem.Spec PyProof.Rows PySem.SeqAt
/-! ### == and != of lists and tuples -/
def SeqEq (K : PySem.W.Frag) (H : Hp) (R : V → V → Bool → Prop) (x y : V) (b : Bool) : Prop :=
  ∃ (a c : Addr) (xs ys : List V) (e : Nat → Bool), x = .ref a ∧ y = .ref c ∧
    ((SqL K H a xs ∧ SqL K H c ys ∧ xs.length = ys.length ∧ (∀ (j : Nat) x' y', xs[j]? = some x' → ys[j]? = some y' → R x' y' (e j)) ∧ b = (List.range xs.length).all e) ∨
     (SqL K H a xs ∧ SqL K H c ys ∧ xs.length ≠ ys.length ∧ b = false) ∨
     (SqT K H a xs ∧ SqT K H c ys ∧ (∀ (j : Nat) x' y', xs[j]? = some x' → ys[j]? = some y' → R x' y' (e j)) ∧ b = ((List.range (min xs.length ys.length)).all e && xs.length == ys.length)))
/-- == within a list or tuple, to the depth n -/
def EqI (K : PySem.W.Frag) (H : Hp) : Nat → V → V → Bool → Prop
  | 0 => fun x y b => (flatV x = true ∧ flatV y = true ∧ b = eqV x y) ∨ ∃ a, x = .ref a ∧ y = .ref a ∧ b = true
  | n + 1 => fun x y b => EqI K H n x y b ∨ (x ≠ y ∧ SeqEq K H (EqI K H n) x y b)
section
variable {X : Cx} {pins : List (Addr × Obj)} {σ : St} {H : Hp} {s : Shared} {A : Around}
theorem items_at {xs ys : List V} {us vs : List Value} {R : V → V → Bool → Prop} {e : Nat → Bool} (r : Vals xs us) (q : Vals ys vs) (he : ∀ (j : Nat) x' y', xs[j]? = some x' → ys[j]? = some y' → R x' y' (e j))
    (hR : ∀ x y b u v, R x y b → RelV x u → RelV y v → EqAt A s u v b) : ∀ j (h1 : j < us.toArray.size) (h2 : j < vs.toArray.size), EqAt A s us.toArray[j] vs.toArray[j] (e j) := fun j h1 h2 => by
  have h1' : j < us.length := by simpa using h1
  have h2' : j < vs.length := by simpa using h2
  have l1 := r.length
  have l2 := q.length
  have ex : xs[j]? = some (xs[j]'(by omega)) := List.getElem?_eq_getElem (by omega)
  have ey : ys[j]? = some (ys[j]'(by omega)) := List.getElem?_eq_getElem (by omega)
  obtain ⟨u, eu, ru⟩ := Vals.get r ex
  obtain ⟨v, ev, rv⟩ := Vals.get q ey
  have e1 : us.toArray[j] = u := by
    have := (List.getElem?_eq_some_iff.mp eu).2
    simpa using this
  have e2 : vs.toArray[j] = v := by
    have := (List.getElem?_eq_some_iff.mp ev).2
    simpa using this
  rw [e1, e2]
  exact hR _ _ _ _ _ (he j _ _ ex ey) ru rv
theorem SeqEq.rc {R : V → V → Bool → Prop} {x y : V} {b : Bool} {u v : Value} (I : Inv X pins σ H s) (hR : ∀ x y b u v, R x y b → RelV x u → RelV y v → EqAt A.in1 s u v b) (hu : A.units < cLine)
    (h : SeqEq X.K H R x y b) (rx : RelV x u) (ry : RelV y v) : RcAt A s u v b := by
  obtain ⟨a, c, xs, ys, e, rfl, rfl, h⟩ := h
  cases rx
  cases ry
  rcases h with ⟨h1, h2, hl, he, rfl⟩ | ⟨h1, h2, hl, rfl⟩ | ⟨h1, h2, he, rfl⟩
  · obtain ⟨us, r, p, _⟩ := I.list h1
    obtain ⟨vs, q, p2, _⟩ := I.list h2
    have l1 := r.length
    have l2 := q.length
    have z := RcAt.lists (A := A) (e := e) p.isList p2.isList (by simp; omega) hu (items_at r q he hR)
    rw [show us.toArray.size = xs.length by simp; omega] at z
    exact z
  · obtain ⟨us, r, p, _⟩ := I.list h1
    obtain ⟨vs, q, p2, _⟩ := I.list h2
    have l1 := r.length
    have l2 := q.length
    exact RcAt.lists_lengths p.isList p2.isList (by simp; omega) hu
  · obtain ⟨us, r, p, _⟩ := I.tuple h1
    obtain ⟨vs, q, p2, _⟩ := I.tuple h2
    have l1 := r.length
    have l2 := q.length
    have z := RcAt.tuples (A := A) (e := e) (show s.heap.IsTuple a us.toArray from p) (show s.heap.IsTuple c vs.toArray from p2) hu (items_at r q he hR)
    rw [show us.toArray.size = xs.length by simp; omega, show vs.toArray.size = ys.length by simp; omega] at z
    exact z
theorem SeqEq.rcNe {R : V → V → Bool → Prop} {x y : V} {b : Bool} {u v : Value} (I : Inv X pins σ H s) (hR : ∀ x y b u v, R x y b → RelV x u → RelV y v → EqAt A.in1 s u v b) (hu : A.units < cLine)
    (h : SeqEq X.K H R x y b) (rx : RelV x u) (ry : RelV y v) : RcNeAt A s u v (!b) := by
  obtain ⟨a, c, xs, ys, e, rfl, rfl, h⟩ := h
  cases rx
  cases ry
  rcases h with ⟨h1, h2, hl, he, rfl⟩ | ⟨h1, h2, hl, rfl⟩ | ⟨h1, h2, he, rfl⟩
  · obtain ⟨us, r, p, _⟩ := I.list h1
    obtain ⟨vs, q, p2, _⟩ := I.list h2
    have l1 := r.length
    have l2 := q.length
    have z := RcNeAt.lists (A := A) (e := e) p.isList p2.isList (by simp; omega) hu (items_at r q he hR)
    rw [show us.toArray.size = xs.length by simp; omega] at z
    exact z
  · obtain ⟨us, r, p, _⟩ := I.list h1
    obtain ⟨vs, q, p2, _⟩ := I.list h2
    have l1 := r.length
    have l2 := q.length
    exact RcNeAt.lists_lengths p.isList p2.isList (by simp; omega) hu
  · obtain ⟨us, r, p, _⟩ := I.tuple h1
    obtain ⟨vs, q, p2, _⟩ := I.tuple h2
    have l1 := r.length
    have l2 := q.length
    have z := RcNeAt.tuples (A := A) (e := e) (show s.heap.IsTuple a us.toArray from p) (show s.heap.IsTuple c vs.toArray from p2) hu (items_at r q he hR)
    rw [show us.toArray.size = xs.length by simp; omega, show vs.toArray.size = ys.length by simp; omega] at z
    exact z
theorem EqI.at (I : Inv X pins σ H s) : ∀ (n : Nat) {A : Around} {x y : V} {b : Bool} {u v : Value}, A.units + n < cLine → EqI X.K H n x y b → RelV x u → RelV y v → EqAt A s u v b
  | 0, A, x, y, b, u, v, hu, h, rx, ry => by
    rcases h with ⟨fx, fy, rfl⟩ | ⟨a, rfl, rfl, rfl⟩
    · exact eqAt_V rx ry fx fy
    · cases rx
      cases ry
      exact EqAt.same _
  | n + 1, A, x, y, b, u, v, hu, h, rx, ry => by
    rcases h with h | ⟨hne, h⟩
    · exact EqI.at I n (by omega) h rx ry
    · have z := SeqEq.rc (A := A) I (fun x y b u v h rx ry => EqI.at I n (A := A.in1) (by show A.units + 1 + n < cLine; omega) h rx ry) (by omega) h rx ry
      obtain ⟨a, c, xs, ys, e, rfl, rfl, _⟩ := h
      cases rx
      cases ry
      exact EqAt.of_refs (fun e => hne (by rw [e])) z
/-- == of two lists or tuples -/
def rEqR (K : PySem.W.Frag) : R2 := fun x y H Q => ∃ (n : Nat) (b : Bool), n ≤ 8 ∧ SeqEq K H (EqI K H n) x y b ∧ Q (.bl b) H
def rNeR (K : PySem.W.Frag) : R2 := fun x y H Q => ∃ (n : Nat) (b : Bool), n ≤ 8 ∧ SeqEq K H (EqI K H n) x y b ∧ Q (.bl (!b)) H
theorem op_ne_ref (hu : X.A.units + 64 < cLine) : OpR X (compareOp .NotEq) (rNeR X.K) := by
  rintro pins s σ H x y v u Q I rx ry ⟨n, b, hn, h, q⟩
  exact SeqEq.rcNe (A := X.A) I (fun x y b u v h rx ry => EqI.at I n (A := X.A.in1) (by show X.A.units + 1 + n < cLine; omega) h rx ry) (by omega) h rx ry X.prog X.w X.xe _ ⟨.bl (!b), H, I, rfl, q⟩
end
/-- two lists (tuples) of the same items -/
theorem SeqEq.sameL {K : PySem.W.Frag} {H : Hp} {a c : Addr} {xs : List V} (h1 : SqL K H a xs) (h2 : SqL K H c xs) (hx : ∀ x ∈ xs, EqI K H n x x true) : SeqEq K H (EqI K H n) (.ref a) (.ref c) true :=
  ⟨a, c, xs, xs, fun _ => true, rfl, rfl, .inl ⟨h1, h2, rfl, fun j x y e1 e2 => by
    rw [e1] at e2; cases e2
    exact hx x (List.mem_of_getElem? e1), by simp⟩⟩
theorem SeqEq.sameT {K : PySem.W.Frag} {H : Hp} {a c : Addr} {xs : List V} (h1 : SqT K H a xs) (h2 : SqT K H c xs) (hx : ∀ x ∈ xs, EqI K H n x x true) : SeqEq K H (EqI K H n) (.ref a) (.ref c) true :=
  ⟨a, c, xs, xs, fun _ => true, rfl, rfl, .inr (.inr ⟨h1, h2, fun j x y e1 e2 => by
    rw [e1] at e2; cases e2
    exact hx x (List.mem_of_getElem? e1), by simp⟩)⟩
theorem eqI_int {K : PySem.W.Frag} {H : Hp} (i : Int) : EqI K H 0 (.int i) (.int i) true := .inl ⟨rfl, rfl, by simp [eqV]⟩
end L2
namespace L2
theorem anelt' {a b n : Nat} (h1 : a < n) (h2 : n ≤ b) : a ≠ b := by omega
open PySem PySem.Spec PyProof.Rows
/-! ### for a, b in zip(xs, ys): two lists that the body leaves as they are -/
def Itz (K : PySem.W.Frag) (l1 l2 : Addr) : It :=
  ⟨fun i H => ∃ xs ys x y, SqL K H l1 xs ∧ SqL K H l2 ys ∧ xs[i]? = some x ∧ ys[i]? = some y,
   fun i H v H' => ∃ T x y, H T = none ∧ v = .ref T ∧ H' = upd H T (.tup [x, y]) ∧ (∀ xs, SqL K H l1 xs → xs[i]? = some x) ∧ ∀ ys, SqL K H l2 ys → ys[i]? = some y,
   fun i H => ∃ xs ys, SqL K H l1 xs ∧ SqL K H l2 ys ∧ (xs.length ≤ i ∨ ys.length ≤ i)⟩
def ZipSt (z TI TO i1 i2 l1 l2 : Addr) (i : Nat) (h : Heap) : Prop :=
  IsZip h z TI TO .none ∧ IsPair h TI (.ref i1) (.ref i2) ∧ (∃ a b, IsPair h TO a b) ∧ h.IsListIter i1 l1 i ∧ h.IsListIter i2 l2 i
theorem Inv.turnedMany {X : Cx} {pins : List (Addr × Obj)} {σ : St} {H : Hp} {s : Shared} {h' : Heap} {t' : Nat} {ch : List Addr} (I : Inv X pins σ H s) (k : ∀ b o, b ∉ ch → s.heap.get? b = some o → h'.get? b = some o) (hf : ∀ b ∈ ch, FpOk X pins H b) :
    Inv X pins σ H { s with heap := h', toks := t' } := by
  have nit : ∀ b u, H b = some u → b ∉ ch := fun b u e z => by rw [(hf b z).1] at e; cases e
  refine I.step (g' := s.gens) (d' := s.drawn) (ch := ch) (fun b hb => ⟨(hf b hb).2.2.2.1, (hf b hb).2.1, (hf b hb).2.2.2.2.1, (hf b hb).2.2.2.2.2⟩) (fun b o _ _ hc e _ => k b o hc e) (fun b o _ _ hc e _ => ⟨o.slots, k b o hc e⟩) (fun _ _ _ _ n => n)
    (fun b o hc e => ⟨o, k b o hc e⟩) (fun _ _ e => e) (fun _ _ _ e => e) (fun b ps e => ⟨#[], by rw [e]; simp⟩) (fun m hm => ?_) (fun b u e => ?_) I.bare
  · obtain ⟨o, es, ep, ho, r⟩ := hm
    exact ⟨o, es, ep, k _ o (fun z => (hf _ z).2.1 rfl) ho, r⟩
  · refine (I.hok b u e).stay (fun c v hc q => k c v ?_ q) (fun _ q => q) fun _ _ q => q
    rcases hc with z | z
    · rw [z]; exact nit b u e
    · exact nit c _ z
/-- .. and a new object is laid and tracked -/
theorem Inv.turnedLaid {X : Cx} {pins : List (Addr × Obj)} {σ : St} {H : Hp} {s : Shared} {h' : Heap} {t' : Nat} {ch : List Addr} {T : Addr} {u : HO} (I : Inv X pins σ H s) (k : ∀ b o, b ∉ ch → s.heap.get? b = some o → h'.get? b = some o) (hf : ∀ b ∈ ch, FpOk X pins H b)
    (hT : s.heap.objs.size ≤ T) (new : ObjOk X.prog X.w (upd H T u) h' T u) : Inv X pins σ (upd H T u) { s with heap := h', toks := t' } := by
  have hn : H T = none := I.hok.fresh hT
  have nit : ∀ b u, H b = some u → b ∉ ch := fun b u e z => by rw [(hf b z).1] at e; cases e
  have nT : ∀ b o, s.heap.get? b = some o → b ≠ T := fun b o e => anelt' (Heap.lt_size e) hT
  refine I.step (g' := s.gens) (d' := s.drawn) (ch := ch) (fun b hb => ⟨(hf b hb).2.2.2.1, (hf b hb).2.1, (hf b hb).2.2.2.2.1, (hf b hb).2.2.2.2.2⟩) (fun b o _ _ hc e _ => k b o hc e) (fun b o _ _ hc e _ => ⟨o.slots, k b o hc e⟩) (fun b o _ e n => by rw [upd_ne (nT b o e)]; exact n)
    (fun b o hc e => ⟨o, k b o hc e⟩) (fun b xs e => by rw [upd_ne (ne_of_none e hn)]; exact e) (fun b o xs e => by rw [upd_ne (ne_of_none e hn)]; exact e) (fun b ps e => ⟨#[], by rw [upd_ne (ne_of_none e hn), e]; simp⟩) (fun m hm => ?_) (fun b v e => ?_) I.bare
  · obtain ⟨o, es, ep, ho, r⟩ := hm
    exact ⟨o, es, ep, k _ o (fun z => (hf _ z).2.1 rfl) ho, r⟩
  · by_cases hb : b = T
    · subst hb; rw [upd_same] at e; cases e; exact new
    · rw [upd_ne hb] at e
      refine (I.hok b v e).stay (fun c v hc q => k c v ?_ q) (fun c q => by rw [upd_ne (ne_of_none q hn)]; exact q) fun c xs q => by rw [upd_ne (ne_of_none q hn)]; exact q
      rcases hc with z | z
      · rw [z]; exact nit b _ e
      · exact nit c _ z
theorem zip_apart {n l1 l2 : Nat} (h1 : l1 < n) (h2 : l2 < n) : ZipApart (n + 4) (n + 2) (n + 3) n (n + 1) l1 l2 := by
  constructor <;> (show ¬ (_ : Nat) = _) <;> omega
def iZip (K : PySem.W.Frag) (ta : TA) : TI := fun σ H R => ta σ H fun vs H1 => ∃ l1 l2, vs = [.ref l1, .ref l2] ∧ (∃ xs, SqL K H1 l1 xs) ∧ (∃ ys, SqL K H1 l2 ys) ∧ R (Itz K l1 l2) H1
end L2
namespace L2
open PySem PySem.Spec PyProof.Rows
/-! ### exceptions of own classes: attributes -/
def veTail : List Value := [.type "ValueError", .type "Exception", .type "BaseException", .type "object"]
def isRefV : Value → Bool
  | .ref _ => true
  | _ => false
/-- an own class under ValueError: own ones, then ValueError's row -/
def excMro (l : List Value) : Bool := l.dropWhile isRefV == veTail
theorem excMro_at {l : List Value} (h : excMro l = true) : ∃ rs : List Addr, l = rs.map Value.ref ++ veTail := by
  induction l with
  | nil => exact absurd h (by decide)
  | cons x r ih =>
    unfold excMro at h
    by_cases hx : isRefV x = true
    · rw [List.dropWhile_cons, if_pos hx] at h
      obtain ⟨rs, e⟩ := ih h
      cases x <;> first | cases hx | skip
      rename_i a
      exact ⟨a :: rs, by rw [e]; rfl⟩
    · rw [List.dropWhile_cons, if_neg hx] at h
      exact ⟨[], by rw [beq_iff_eq.mp h]; rfl⟩
theorem excMro_has {T : String} (hT : veTail.contains (.type T) = true) {l : List Value} (h : excMro l = true) : l.contains (.type T) = true := by
  obtain ⟨rs, rfl⟩ := excMro_at h
  rw [List.contains_eq_mem]
  simp only [List.contains_eq_mem, decide_eq_true_eq] at hT ⊢
  exact List.mem_append_right _ hT
theorem excMro_ne {l : List Value} (h : excMro l = true) : l.isEmpty = false := by
  cases l with
  | nil => exact absurd h (by decide)
  | cons _ _ => rfl
theorem refuse_exc (self : Value) {l : List Value} (h : excMro l = true) : refuseLoop self "__setattr__" l = pure () := by
  obtain ⟨rs, rfl⟩ := excMro_at h
  induction rs with
  | nil => exact PySem.F.store_ValueError.passes self
  | cons a r ih =>
    show refuseLoop self "__setattr__" (.ref a :: (r.map Value.ref ++ veTail)) = _
    rw [refuseLoop_ref]
    refine ih ?_
    have : ∀ r : List Addr, excMro (r.map Value.ref ++ veTail) = true := fun r => by
      induction r with
      | nil => decide
      | cons b r ih => exact ih
    exact this r
/-- what of the text an own exception's class must have -/
def xobjIn (K : PySem.W.Frag) (C : Addr) : Bool := match K.lookup C with
  | some ⟨.type "type", _, .cls cd, sl⟩ => (match cd.mro, sl.toList with
    | .ref D :: bm, [_, _, _, _, some (.builtin n), _] => D == C && !cd.hasDel && excMro bm && n == "ValueError.__new__" && cd.hasDict
    | _, _ => false)
  | _ => false
structure XObj (h : Heap) (C : Addr) : Prop where
  ex : ∃ nm q N bs bm sn sub ab col dd k0 k1 k2 k3 k5, h.get? C = some (excClassObj nm q C N bs bm true sn sub ab col dd k0 k1 k2 k3 k5 "ValueError.__new__") ∧ excMro bm = true
theorem xobj_of {K : PySem.W.Frag} {C : Addr} (q : xobjIn K C = true) : ∃ nm qn N bs bm sn sub ab col dd k0 k1 k2 k3 k5, K.lookup C = some (excClassObj nm qn C N bs bm true sn sub ab col dd k0 k1 k2 k3 k5 "ValueError.__new__") ∧ excMro bm = true := by
  unfold xobjIn at q
  split at q
  · rename_i dd cd sl ho
    split at q
    · rename_i D bm k0 k1 k2 k3 n k5 hm hs
      simp only [Bool.and_eq_true, beq_iff_eq, Bool.not_eq_true'] at q
      obtain ⟨⟨⟨⟨rfl, hdel⟩, hb⟩, rfl⟩, hd⟩ := q
      obtain ⟨nm, bs, mro, ns, qn, hd', sn, sub, ab, col, del⟩ := cd
      dsimp only at hm hdel hd
      subst hm hdel hd
      have hsl : sl = #[k0, k1, k2, k3, some (.builtin "ValueError.__new__"), k5] := by
        obtain ⟨l⟩ := sl
        simp only at hs
        rw [hs]
      subst hsl
      exact ⟨nm, qn, ns, bs, bm, sn, sub, ab, col, dd, k0, k1, k2, k3, k5, ho, hb⟩
    · cases q
  · cases q
structure XCls (K : PySem.W.Frag) (C : Addr) : Prop where
  obj : xobjIn K C = true
  sa : PySem.W.findIn K (.ref C) "__setattr__" = some (some (.builtin "object.__setattr__"))
  ga : PySem.W.findIn K (.ref C) "__getattribute__" = some (some (.builtin "BaseException.__getattribute__"))
  gh : PySem.W.findIn K (.ref C) "__getattr__" = some none
  cl : PySem.W.findIn K (.ref C) "__class__" = some (some (.builtin "object.__class__"))
  clg : PySem.W.specialIn K (.builtin "object.__class__") "__get__" = some (some (.builtin "getset_descriptor.__get__"))
  clt : PySem.W.takesIn K (.builtin "object.__class__") = some true
theorem excMro_cons {C : Addr} {bm : List Value} (h : excMro bm = true) : excMro (.ref C :: bm) = true := h
theorem XCls.mro {K : PySem.W.Frag} {C : Addr} (c : XCls K C) : ∃ cd, PySem.W.clsIn K C = some cd ∧ excMro cd.mro = true ∧ cd.hasDict = true := by
  obtain ⟨nm, qn, N, bs, bm, sn, sub, ab, col, dd, k0, k1, k2, k3, k5, ho, hb⟩ := xobj_of c.obj
  refine ⟨{ name := nm, bases := bs, mro := .ref C :: bm, ns := N, qualname := qn, hasDict := true, slotNames := sn, subclasses := sub, abstract := ab, collection := col, hasDel := false }, ?_, excMro_cons (C := C) hb, rfl⟩
  unfold PySem.W.clsIn
  rw [ho]
theorem XCls.at {K : PySem.W.Frag} {C : Addr} {h : Heap} (c : XCls K C) (X : K.In h) : XObj h C := by
  obtain ⟨nm, qn, N, bs, bm, sn, sub, ab, col, dd, k0, k1, k2, k3, k5, ho, hb⟩ := xobj_of c.obj
  exact ⟨nm, qn, N, bs, bm, sn, sub, ab, col, dd, k0, k1, k2, k3, k5, X _ _ ho, hb⟩
theorem XCls.has {K : PySem.W.Frag} {C : Addr} (c : XCls K C) {T : String} (hT : veTail.contains (.type T) = true) : PySem.W.mroIn K C (.type T) = some true := by
  obtain ⟨cd, h1, h2, _⟩ := c.mro
  unfold PySem.W.mroIn
  rw [h1, Option.bind_some, if_neg (by rw [excMro_ne h2]; decide), excMro_has hT h2]
section
variable {prog : Program} {w : World} {A : Around} {E : Value → Shared → Prop} {s : Shared} {K : PySem.W.Frag} {x C : Addr} {ox : Obj} {od : Option Obj} {name : Str} {v : Value}
end
end L2
namespace L2
open PySem PySem.Spec PyProof.Rows
section
variable {prog : Program} {w : World} {A : Around} {E : Value → Shared → Prop} {s : Shared} {K : PySem.W.Frag} {x C : Addr} {ox : Obj} {od : Option Obj} {name : Str} {v : Value}
/-- object.__setattr__ of an exception, up to its own dict -/
theorem xset_open {Q : Unit → Shared → Prop} (X : K.In s.heap) (I : PySem.W.InstAt s.heap x ox C od) (c : XCls K C) (n : NoAttr K C name)
    (h : ∀ b, wpAny (model prog w) A.in1 (Builtin.ObjectAttr.storeInOwnDict (.ref x) (.ref C) (.str name s.toks) name v b)
      (fun fin s' => match fin with | .done (.ret _) => Q () s' | _ => False) (fun e s' => E e s') { s with toks := s.toks + 1 }) :
    wpAny (model prog w) A (setAttr (.ref x) name v) Q E s := by
  obtain ⟨hp, g, d, t, os⟩ := s
  have SF := PySem.F.store_ValueError
  obtain ⟨cd, hc, ho, _⟩ := c.mro
  refine PySem.W.set_plain X I c.sa ?_
  have sub : PySem.W.Looks (model prog w) hp (isInstance (.ref x) (.type "object")) true := I.type.andThen (PySem.W.looks_mroIn X (c.has (by decide)))
  refine codeAny_call_builtin SF.slot.plain SF.entry (@PySem.W.check_slot (model prog w) _ _ _ "object.__setattr__" "object" "__setattr__" (.ref x) [.str name t, v] [] _ SF.kind SF.split sub (SF.args (.ref x) (.str name t) v) ?_)
  have hm : PySem.W.Looks (model prog w) hp (mroOf (.ref C)) cd.mro := (PySem.W.looks_clsIn X hc).andThen .now
  have LN := PySem.W.looks_findIn (M := model prog w) X (show PySem.W.findIn K (.ref C) name = some none from n)
  rw [PySem.W.osa_eq, refuse_eq]
  refine wpAny_bind (wpAny_bind (I.type.at (wpAny_bind (hm.at ?_))))
  rw [refuse_exc _ ho]
  refine wpAny_pure (wpAny_bind (I.type.at (wpAny_bind (LN.at (wpAny_bind (wpAny_pure ?_))))))
  refine wpAny_mono (h false) (fun fin s' z => ?_) fun _ _ z => z
  rcases fin with (_ | _ | _ | _) | _ <;> first | exact z | exact z.elim
/-- the first attribute: the dict is made -/
theorem xset_first {vs : Array Value} {sl : Array (Option Value)} {Q : Unit → Shared → Prop} (X : K.In s.heap) (hx : s.heap.get? x = some ⟨.ref C, none, .fields vs, sl⟩) (c : XCls K C) (n : NoAttr K C name)
    (h : ∀ h' tk', h'.get? x = some ⟨.ref C, some s.heap.objs.size, .fields vs, sl⟩ → h'.Ns1 s.heap.objs.size (fun y => if y = name then some v else none) → (∀ b o, b ≠ x → s.heap.get? b = some o → h'.get? b = some o) →
      Q () { s with heap := h', toks := tk' }) :
    wpAny (model prog w) A (setAttr (.ref x) name v) Q E s := by
  have I : PySem.W.InstAt s.heap x ⟨.ref C, none, .fields vs, sl⟩ C none := ⟨hx, rfl, rfl, trivial⟩
  refine xset_open X I c n fun b => ?_
  obtain ⟨hp, g, d, t, os⟩ := s
  obtain ⟨cd, hc, ho, hd⟩ := c.mro
  have LC := PySem.W.looks_clsIn (M := model prog w) X hc
  unfold Builtin.ObjectAttr.storeInOwnDict
  refine wpAny_bind (wpAny_pure ?_)
  refine wpAny_bind (m := Builtin.ObjectAttr.ownDictForStores _) ?_
  show wpAny _ _ (instanceDict x true) _ _ _
  unfold instanceDict
  refine wpAny_bind (wpAny_loadPart hx ?_)
  dsimp only
  refine wpAny_bind (LC.at ?_)
  rw [hd]
  have hx1 : (hp.push { cls := .type "dict", data := .dict #[] }).get? x = some ⟨.ref C, none, .fields vs, sl⟩ := Heap.get?_push_of_some _ hx
  have hxs : x ≠ hp.objs.size := Nat.ne_of_lt (Heap.lt_size hx)
  show wpAny _ _ (do let dd ← alloc { cls := .type "dict", data := .dict #[] }; update x (fun o => { o with dict := some dd }); dictMade (.ref C) x dd) _ _ _
  refine wpAny_bind (wpAny_alloc' ?_)
  refine wpAny_bind (wpAny_update' hx1 ?_)
  refine wpAny_pure ?_
  have hgd : ((hp.push { cls := .type "dict", data := .dict #[] }).update x fun o => { o with dict := some hp.objs.size }).get? hp.objs.size = some { cls := .type "dict", data := .dict #[] } :=
    (Heap.get?_update_ne _ _ _ _ hxs.symm).trans (Heap.get?_push_at rfl rfl)
  have hnd : ((hp.push { cls := .type "dict", data := .dict #[] }).update x fun o => { o with dict := some hp.objs.size }).Ns hp.objs.size (fun _ => none) := ⟨_, #[], _, hgd, rfl, fun e he => absurd he (by simp), fun _ => rfl⟩
  show wpAny _ _ (Builtin.ObjectAttr.storeInDict hp.objs.size (.str name t) name v) _ _ _
  unfold Builtin.ObjectAttr.storeInDict Builtin.ObjectAttr.newKeyGuard
  refine wpAny_bind (wpAny_pure (wpAny_bind (wpAny_nsSet1 (Heap.Ns1.of_empty hnd) fun h' hn' hs => ?_)))
  obtain ⟨oD, esD, epD, hoD, hdD, hcD⟩ := hn'.count (Within.cons name v Within.nil)
  refine wpAny_bind (wpAny_lookBehind hoD (by rw [hdD]; exact pastItsLine_dict (Nat.le_trans hcD (by rw [List.length_cons, List.length_nil, sizeLine_eq]; omega))) ?_)
  refine wpAny_pure (h h' _ ?_ hn' fun b o hb e => ?_)
  · exact (hs.2 x hxs).trans (Heap.get?_update_self _ hx1 rfl)
  · exact (hs.2 b (Nat.ne_of_lt (Heap.lt_size e))).trans ((Heap.get?_update_ne _ _ _ _ hb).trans (Heap.get?_push_of_some _ e))
/-- a further one -/
theorem xset_more {dx : Addr} {vs : Array Value} {sl : Array (Option Value)} {mA : Str → Option Value} {ns : List Str} {Q : Unit → Shared → Prop} (X : K.In s.heap) (hx : s.heap.get? x = some ⟨.ref C, some dx, .fields vs, sl⟩) (hn : s.heap.Ns1 dx mA) (c : XCls K C) (n : NoAttr K C name)
    (hw : PySem.Within mA ns) (hsz : ns.length ≤ sizeLine)
    (h : ∀ h' tk', h'.Ns1 dx (fun y => if y = name then some v else mA y) → Heap.SameBut dx s.heap h' → Q () { s with heap := h', toks := tk' }) :
    wpAny (model prog w) A (setAttr (.ref x) name v) Q E s := by
  obtain ⟨od, hod, _⟩ := lookIn_ns hn
  have I : PySem.W.InstAt s.heap x ⟨.ref C, some dx, .fields vs, sl⟩ C (some od) := ⟨hx, rfl, rfl, hod⟩
  refine xset_open X I c n fun b => ?_
  obtain ⟨hp, g, d, t, os⟩ := s
  obtain ⟨cd, hc, ho, hd⟩ := c.mro
  have LC := PySem.W.looks_clsIn (M := model prog w) X hc
  unfold Builtin.ObjectAttr.storeInOwnDict
  refine wpAny_bind (wpAny_pure ?_)
  refine wpAny_bind (m := Builtin.ObjectAttr.ownDictForStores _) ?_
  show wpAny _ _ (instanceDict x true) _ _ _
  unfold instanceDict
  refine wpAny_bind (wpAny_loadPart hx ?_)
  dsimp only
  refine wpAny_bind (LC.at ?_)
  rw [hd]
  refine wpAny_pure (a := some dx) ?_
  show wpAny _ _ (Builtin.ObjectAttr.storeInDict dx (.str name t) name v) _ _ _
  unfold Builtin.ObjectAttr.storeInDict Builtin.ObjectAttr.newKeyGuard
  refine wpAny_bind (wpAny_pure (wpAny_bind (wpAny_nsSet1 hn fun h' hn' hs => ?_)))
  obtain ⟨oD, esD, epD, hoD, hdD, hcD⟩ := hn'.count (Within.cons name v hw)
  refine wpAny_bind (wpAny_lookBehind hoD (by rw [hdD]; exact pastItsLine_dict (Nat.le_trans hcD (by rw [List.length_cons]; omega))) ?_)
  exact wpAny_pure (h h' _ hn' hs)
end
end L2
namespace L2
open PySem PySem.Spec PyProof.Rows
/-! ### an exception is made -/
abbrev excNew (C t : Addr) : Obj := { cls := .ref C, data := .fields #[.ref t, .none, .none, .none, .bool false, .none] }
abbrev tupNew (rest : List Value) : Obj := { cls := .type "tuple", data := .seq rest.toArray }
theorem own_has {C : Addr} {bm : List Value} (hb : excMro bm = true) {T : String} (hT : veTail.contains (.type T) = true) : (Value.ref C :: bm).contains (.type T) = true := by
  rw [List.contains_cons, excMro_has hT hb, Bool.or_true]
theorem own_not {C : Addr} {bm : List Value} (hb : excMro bm = true) {T : String} (hT : veTail.contains (.type T) = false) : (Value.ref C :: bm).contains (.type T) = false := by
  obtain ⟨rs, rfl⟩ := excMro_at hb
  rw [List.contains_cons, List.contains_eq_mem, decide_eq_false, Bool.or_false]
  · rfl
  · intro hm
    rcases List.mem_append.mp hm with h | h
    · obtain ⟨a, _, e⟩ := List.mem_map.mp h
      cases e
    · rw [List.contains_eq_mem] at hT
      exact (of_decide_eq_false hT) h
section
variable {prog : Program} {w : World} {A : Around} {E : Value → Shared → Prop} {h : Heap} {g : Array GenState} {d : Drawn} {t : Nat} {os : OsState} {K : PySem.W.Frag} {C f : Addr}
variable {nm q : Str} {N : Addr} {bs bm : List Value} {sn : List Str} {sub : List Value} {ab : Bool} {col : Option Bool} {dd : Option Addr} {k0 k1 k2 k3 k5 : Option Value}
theorem xcheck_new {M : Model} {rest : List Value} {Q : Unit → Shared → Prop} (hb : excMro bm = true) (hC : h.get? C = some (excClassObj nm q C N bs bm true sn sub ab col dd k0 k1 k2 k3 k5 "ValueError.__new__")) (hq : Q () ⟨h, g, d, t, os⟩) :
    wpAny M A (checkBuiltinCall "ValueError.__new__" ⟨.ref C :: rest, []⟩) Q E ⟨h, g, d, t, os⟩ := by
  have F := PySem.F.excBase_ValueError
  have hcont := own_has (C := C) hb (T := "ValueError") (by decide)
  have hstar := F.noStar
  simp only [checkBuiltinCall, F.newKind, F.newSplit, F.newRow]
  repeat (first
    | refine wpAny_loadPart_at hC ?_
    | (refine wpAny_isSubtype_exc hC ?_; rw [hcont])
    | refine wpAny_staticBase_exc hC ?_
    | refine wpAny_madeBy_exc hC ?_
    | simp only [bne_self_eq_false, Bool.false_eq_true, if_false]
    | wp_step)
  exact hq
theorem xcode_new {R : Result → Shared → Prop} {rest : List Value} (hb : excMro bm = true) (hC : h.get? C = some (excClassObj nm q C N bs bm true sn sub ab col dd k0 k1 k2 k3 k5 "ValueError.__new__")) (hrest : rest.length ≤ sizeLine)
    (hq : R (.ok (.ret (.ref (h.objs.size + 1)))) ⟨(h.push (tupNew rest)).push (excNew C h.objs.size), g, d, t, os⟩) :
    codeAny (model prog w) A (.builtin "ValueError.__new__" ⟨.ref C :: rest, []⟩) R ⟨h, g, d, t, os⟩ := by
  have F := PySem.F.excBase_ValueError
  have hends := F.ends
  have hcB := own_has (C := C) hb (T := "ValueError") (by decide)
  have hcA := own_not (C := C) hb (T := "AttributeError") (by decide)
  have hcN := own_not (C := C) hb (T := "NameError") (by decide)
  refine codeAny_builtinAt F.entry ?_
  unfold Builtin.«BaseException.__new__»
  refine PySem.wpAt_bind ?_
  show PySem.wpAt _ _ _ (stack >>= _) _ _ _
  refine PySem.wpAt_bind (PySem.wpAt_stack fun p below => PySem.wpAt_of_wpAny ?_)
  wp_walk
  refine PySem.wpAt_of_wpAny ?_
  rw [F.owner]
  repeat (first
    | with_reducible refine wpAny_madeHere_exc F.canon hC ?_
    | with_reducible refine wpAny_loadPart_at hC ?_
    | (with_reducible refine wpAny_isSubtype_exc hC ?_; first | rw [hcB] | rw [hcA] | rw [hcN])
    | wp_step)
  show R _ _
  rw [Heap.size_push]
  exact hq
theorem xkeeps {rest : List Value} : ∀ b o, h.get? b = some o → ((h.push (tupNew rest)).push (excNew C h.objs.size)).get? b = some o := fun b o e => Heap.get?_push_of_some _ (Heap.get?_push_of_some _ e)
theorem xnew_at {rest : List Value} : ((h.push (tupNew rest)).push (excNew C h.objs.size)).get? (h.objs.size + 1) = some (excNew C h.objs.size) := by
  have := Heap.get?_push_size (h.push (tupNew rest)) (o := excNew C h.objs.size) rfl
  rwa [Heap.size_push] at this
theorem xtype_call {rest : List Value} {Q : Fin → Shared → Prop} (hb : excMro bm = true) (hC : h.get? C = some (excClassObj nm q C N bs bm true sn sub ab col dd k0 k1 k2 k3 k5 "ValueError.__new__")) (hrest : rest.length ≤ sizeLine) (X : K.In h)
    (hi : PySem.W.findIn K (.ref C) "__init__" = some (some (.ref f))) (hf : PySem.W.typeIn K (.ref f) = some (.type "function"))
    (hq : wpAny (model prog w) A (call (.ref f) (.ref (h.objs.size + 1) :: rest)) (fun r s' => r = .none ∧ Q (.done (.ret (.ref (h.objs.size + 1)))) s') E ⟨(h.push (tupNew rest)).push (excNew C h.objs.size), g, d, t, os⟩) :
    wpAny (model prog w) A (Builtin.«type.__call__» ⟨.ref C :: rest, []⟩) Q E ⟨h, g, d, t, os⟩ := by
  have F := PySem.F.excBase_ValueError
  repeat (first | with_reducible refine wpAny_loadPart_at hC ?_ | with_reducible refine wpAny_madeBy_exc hC ?_ | wp_step)
  refine codeAny_call_builtin_code (Code.quiet_builtin _ F.quiet) (xcheck_new hb hC ?_)
  refine xcode_new hb hC hrest ?_
  show wpAny _ _ _ _ _ _
  have X1 : K.In ((h.push (tupNew rest)).push (excNew C h.objs.size)) := X.keeps xkeeps
  have hC1 := xkeeps (C := C) (rest := rest) _ _ hC
  have hcC : (Value.ref C :: bm).contains (.ref C) = true := by simp
  have L1 := PySem.W.looks_findIn (M := model prog w) X1 hi
  have L2 := PySem.W.bind_fn (M := model prog w) X1 (.ref (h.objs.size + 1)) hf
  unfold isInstance
  repeat (first | with_reducible refine wpAny_loadPart_at xnew_at ?_ | (with_reducible refine wpAny_isSubtype_exc hC1 ?_; rw [hcC]) | wp_step)
  show wpAny _ _ (typeLookup (.ref C) _) _ _ _
  refine L1.at ?_
  refine wpAny_holding (wpAny_bind (L2.at ?_))
  refine wpAny_bind (wpAny_mono hq (fun r s' hr => ?_) fun _ _ x => x)
  obtain ⟨rfl, hQ⟩ := hr
  wp_walk
  exact hQ
theorem xcall_init {rest : List Value} {Q : Value → Shared → Prop} (X : K.In h) (c : XCls K C) (hrest : rest.length ≤ sizeLine)
    (hi : PySem.W.findIn K (.ref C) "__init__" = some (some (.ref f))) (hf : PySem.W.typeIn K (.ref f) = some (.type "function"))
    (hq : wpAny (model prog w) (A.under (.builtin "type.__call__" ⟨.ref C :: rest, []⟩)) (call (.ref f) (.ref (h.objs.size + 1) :: rest)) (fun r s' => r = .none ∧ Q (.ref (h.objs.size + 1)) s') E ⟨(h.push (tupNew rest)).push (excNew C h.objs.size), g, d, t, os⟩) :
    wpAny (model prog w) A (call (.ref C) rest) Q E ⟨h, g, d, t, os⟩ := by
  obtain ⟨nm, qn, N, bs, bm, sn, sub, ab, col, dd, k0, k1, k2, k3, k5, hC, hb⟩ := (c.at X).ex
  have f1 := tc_lookup
  have f2 := tc_bind (.ref C)
  have hT : (⟨h, g, d, t, os⟩ : Shared).TypeIs (.ref C) "type" := ⟨_, hC, rfl⟩
  refine wpAny_call (codeAny_of_tree ?_)
  show wpAny _ _ (callAny (.ref C) _) _ _ _
  repeat (any_goals (first | assumption | with_reducible refine wpAny_loadPart_at hC ?_ | wp_step))
  refine ⟨rfl, ?_⟩
  exact codeAny_call_builtin_at (Code.quiet_builtin _ (by decide +kernel)) entry_typeCall (wpAny_check_type_call_sub hC (xtype_call hb hC hrest X hi hf hq))
end
end L2
namespace L2
open PySem PySem.Spec PyProof.Rows
/-! ### exceptions on the abstract heap: the object (raw: it has never flown), and its dict -/
def IsExc (raw : Bool) (e C : Addr) (od : Option Addr) (h : Heap) : Prop := ∃ vs sl, h.get? e = some ⟨.ref C, od, .fields vs, sl⟩ ∧ vs.size = 6 ∧ (raw = true → vs[1]? = some .none)
def IsXd (dx : Addr) (fs : List (Str × V)) (h : Heap) : Prop := ∃ mA, h.Ns1 dx mA ∧ (∀ f, RelO (fs.lookup f) (mA f)) ∧ PySem.Within mA (fs.map (·.1))
abbrev exO (raw : Bool) (e C : Addr) (od : Option Addr) : HO := .ext (IsExc raw e C od)
abbrev xdO (dx : Addr) (fs : List (Str × V)) : HO := .ext (IsXd dx fs)
/-- an exception of class C with the attributes fs -/
def ExcAt (H : Hp) (e C : Addr) (fs : List (Str × V)) : Prop := ∃ raw od, H e = some (exO raw e C od) ∧ match od with
  | none => fs = []
  | some dx => H dx = some (xdO dx fs) ∧ dx ≠ e
section
variable {P : Program} {w : World} {H : Hp} {h : Heap} {e C dx : Addr} {od : Option Addr} {raw : Bool} {fs : List (Str × V)}
theorem objOk_exc (x : IsExc raw e C od h) : ObjOk P w H h e (exO raw e C od) := by
  refine ⟨x, ?_, ?_⟩
  · obtain ⟨vs, sl, q, _⟩ := x
    exact ⟨_, q⟩
  · rintro h1 h2 ⟨vs, sl, q, r⟩ k
    exact ⟨vs, sl, k _ q, r⟩
theorem objOk_xd (x : IsXd dx fs h) : ObjOk P w H h dx (xdO dx fs) := by
  refine ⟨x, ?_, ?_⟩
  · obtain ⟨mA, ⟨o, es, ep, q, _⟩, _⟩ := x
    exact ⟨o, q⟩
  · rintro h1 h2 ⟨mA, ⟨o, es, ep, q, r⟩, z⟩ k
    exact ⟨mA, ⟨o, es, ep, k _ q, r⟩, z⟩
theorem exc_of (x : HOk P w H h) (q : H e = some (exO raw e C od)) : IsExc raw e C od h := (x e _ q).1
theorem xd_of (x : HOk P w H h) (q : H dx = some (xdO dx fs)) : IsXd dx fs h := (x dx _ q).1
end
section
variable {X : Cx} {pins : List (Addr × Obj)} {σ : St} {H : Hp} {s : Shared} {a C dx : Addr} {od : Option Addr} {raw : Bool} {fs : List (Str × V)} {f : Str} {v : V} {A : Around} {E : Value → Shared → Prop}
theorem xsetattr_first {y : V} {u : Value} {Q : Unit → Shared → Prop} (I : Inv X pins σ H s) (e : H a = some (exO raw a C none)) (c : XCls X.K C) (n : NoAttr X.K C f) (ry : RelV y u)
    (h : ∀ dx s', H dx = none → Inv X pins σ (upd (upd H dx (xdO dx [(f, y)])) a (exO raw a C (some dx))) s' → Q () s') : wpAny (model X.prog X.w) A (setAttr (.ref a) f u) Q E s := by
  obtain ⟨vs, sl, q, hv⟩ := exc_of I.hok e
  refine xset_first I.kIn q c n fun h' tk' h1 h2 h3 => ?_
  have hn : H s.heap.objs.size = none := I.hok.fresh (Nat.le_refl _)
  have hna : a ≠ s.heap.objs.size := Nat.ne_of_lt (Heap.lt_size q)
  refine h s.heap.objs.size _ hn ?_
  -- the dict is laid, then the object written
  have hd2 : IsXd s.heap.objs.size [(f, y)] h' := by
    refine ⟨_, h2, fun g => ?_, fun g hg => ?_⟩
    · show RelO (List.lookup g [(f, y)]) (if g = f then some u else none)
      rw [List.lookup_cons]
      by_cases z : g = f
      · subst z; rw [if_pos rfl]; simp; exact ry
      · rw [if_neg z, show (g == f) = false by simpa using z]; exact True.intro
    · by_cases z : g = f
      · subst z; simp
      · exact absurd (if_neg z) hg
  have hE : IsExc raw a C (some s.heap.objs.size) h' := ⟨vs, sl, h1, hv⟩
  have hu : Un X.fs [] H (upd (upd H s.heap.objs.size (xdO s.heap.objs.size [(f, y)])) a (exO raw a C (some s.heap.objs.size))) s.heap h' := by
    have nn : ∀ b o, s.heap.get? b = some o → b ≠ s.heap.objs.size := fun b o e => Nat.ne_of_lt (Heap.lt_size e)
    refine ⟨fun b o e' n' _ _ => h3 b o (fun z => by rw [z, e] at n'; cases n') e', fun b o e' n' _ _ => ⟨o.slots, h3 b o (fun z => by rw [z, e] at n'; cases n') e'⟩, fun b o e' n' _ => ?_, fun b o e' _ => ?_, fun b xs e' => ?_, fun b o u' e' => ?_, fun b ps e' => ⟨#[], ?_⟩⟩
    · rw [upd_ne (fun z => by rw [z, e] at n'; cases n'), upd_ne (nn b o e')]; exact n'
    · by_cases z : b = a
      · subst z; exact ⟨_, h1⟩
      · exact ⟨o, h3 b o z e'⟩
    · rw [upd_ne (fun z => by rw [z, e] at e'; cases e'), upd_ne (ne_of_none e' hn)]; exact e'
    · rw [upd_ne (fun z => by rw [z, e] at e'; cases e'), upd_ne (ne_of_none e' hn)]; exact e'
    · rw [upd_ne (fun z => by rw [z, e] at e'; cases e'), upd_ne (ne_of_none e' hn), e']; simp
  refine I.un hu fun b o e' => ?_
  by_cases z : b = a
  · subst z; rw [upd_same] at e'; cases e'; exact objOk_exc hE
  · rw [upd_ne z] at e'
    by_cases z2 : b = s.heap.objs.size
    · subst z2; rw [upd_same] at e'; cases e'; exact objOk_xd hd2
    · rw [upd_ne z2] at e'
      refine (I.hok b o e').stay (fun c' v' hc q' => h3 c' v' ?_ q') (fun c' q' => ?_) fun c' xs q' => ?_
      · rcases hc with hc | hc
        · rw [hc]; exact z
        · intro z3; rw [z3, e] at hc; cases hc
      · rw [upd_ne (fun z3 => by rw [z3, e] at q'; cases q'), upd_ne (ne_of_none q' hn)]; exact q'
      · rw [upd_ne (fun z3 => by rw [z3, e] at q'; cases q'), upd_ne (ne_of_none q' hn)]; exact q'
theorem xsetattr_more {y : V} {u : Value} {Q : Unit → Shared → Prop} (I : Inv X pins σ H s) (e : H a = some (exO raw a C (some dx))) (ed : H dx = some (xdO dx fs)) (c : XCls X.K C) (n : NoAttr X.K C f) (hl : fs.length < 1000) (ry : RelV y u)
    (h : ∀ s', Inv X pins σ (upd H dx (xdO dx (putF f y fs))) s' → Q () s') : wpAny (model X.prog X.w) A (setAttr (.ref a) f u) Q E s := by
  obtain ⟨vs, sl, q, hv⟩ := exc_of I.hok e
  obtain ⟨mA, hn, r, wi⟩ := xd_of I.hok ed
  have hz : (fs.map (·.1)).length ≤ sizeLine := by rw [List.length_map, sizeLine_eq]; omega
  refine xset_more I.kIn q hn c n wi hz fun h' tk' h1 sb => h _ ?_
  refine I.write (x := dx) (e := dx) (by rw [ed]; exact True.intro) (.inl rfl) (fun b o hb z => (sb.2 b hb).trans z) (let ⟨o, _, _, e', _⟩ := h1; ⟨o, e'⟩) (objOk_xd ⟨_, h1, fun g => ?_, fun g hg => ?_⟩)
  · show RelO ((putF f y fs).lookup g) (if g = f then some u else mA g)
    rw [lookup_putF]
    by_cases q : g = f
    · rw [if_pos q, if_pos q]; exact ry
    · rw [if_neg q, if_neg q]; exact r g
  · by_cases q : g = f
    · rw [q]; exact (keys_putF f y fs).1
    · refine (keys_putF f y fs).2 g (wi g fun z => hg ?_)
      show (if g = f then some u else mA g) = none
      rw [if_neg q]; exact z
end
/-! ### readings -/
def tXFld (K : PySem.W.Frag) (ta : TE) (f : Str) : TE := fun σ H Q => ta σ H fun x H1 => ∃ a C fs v, x = .ref a ∧ ExcAt H1 a C fs ∧ XCls K C ∧ NoAttr K C f ∧ fs.lookup f = some v ∧ Q v H1
def sXFld1 (K : PySem.W.Frag) (ta tv : TE) (f : Str) : TS := fun D σ H => tv σ H fun y H1 => ta σ H1 fun x H2 => ∃ a C raw, x = .ref a ∧ H2 a = some (exO raw a C none) ∧ XCls K C ∧ NoAttr K C f ∧
  ∀ dx, H2 dx = none → D.nx σ (upd (upd H2 dx (xdO dx [(f, y)])) a (exO raw a C (some dx)))
def sXFld2 (K : PySem.W.Frag) (ta tv : TE) (f : Str) : TS := fun D σ H => tv σ H fun y H1 => ta σ H1 fun x H2 => ∃ a C raw dx fs, x = .ref a ∧ H2 a = some (exO raw a C (some dx)) ∧ H2 dx = some (xdO dx fs) ∧ XCls K C ∧ NoAttr K C f ∧ fs.length < 1000 ∧
  D.nx σ (upd H2 dx (xdO dx (putF f y fs)))
section
variable {X : Cx} {o e value : Expr} {f : Str} {pos pos' : Pos} {ta tv : TE}
theorem ps_xfld1 (ha : PE X o ta) (hv : PE X value tv) (hs : swapsWith value (some (.Attribute o f pos')) pos.line X.env = pure false) : PS X (.Assign [.Attribute o f pos'] value pos) (sXFld1 X.K ta tv f) := by
  intro pins s σ H D I h
  refine plainObj_wpAny_Assign_Attribute (thn (hv pins s σ H _ I h) fun u s1 ⟨y, H1, I1, ry, q⟩ => thn (ha pins s1 σ H1 _ I1 q) fun ov s2 ⟨x, H2, I2, rx, a, C, raw, ex, ea, c, n, q2⟩ => ?_) hs
  subst ex
  obtain rfl : ov = Value.ref a := rx
  exact xsetattr_first I2 ea c n ry fun dx s3 hdx I3 => ⟨σ, _, I3, q2 dx hdx⟩
theorem ps_xfld2 (ha : PE X o ta) (hv : PE X value tv) (hs : swapsWith value (some (.Attribute o f pos')) pos.line X.env = pure false) : PS X (.Assign [.Attribute o f pos'] value pos) (sXFld2 X.K ta tv f) := by
  intro pins s σ H D I h
  refine plainObj_wpAny_Assign_Attribute (thn (hv pins s σ H _ I h) fun u s1 ⟨y, H1, I1, ry, q⟩ => thn (ha pins s1 σ H1 _ I1 q) fun ov s2 ⟨x, H2, I2, rx, a, C, raw, dx, fs, ex, ea, ed, c, n, l, q2⟩ => ?_) hs
  subst ex
  obtain rfl : ov = Value.ref a := rx
  exact xsetattr_more I2 ea ed c n l ry fun s3 I3 => ⟨σ, _, I3, q2⟩
end
end L2
namespace L2
open PySem PySem.Spec PyProof.Rows
/-! ### an exception in flight -/
/-- the exception at e has the traceback T, whose mark is fl -/
def Fly (h : Heap) (e T : Addr) (fl : Value) : Prop := ∃ oe vs oT ts, h.get? e = some oe ∧ oe.data = .fields vs ∧ vs[1]? = some (.ref T) ∧ h.get? T = some oT ∧ oT.data = .fields ts ∧ ts[3]? = some fl ∧ T ≠ e
/-- what a note of a frame changes -/
structure Noted (fs ch : List Addr) (e T : Addr) (fl : Value) (h h' : Heap) : Prop where
  keep : ∀ b o, b ∉ fs → b ∉ ch → b ≠ e → h.get? b = some o → h'.get? b = some o
  slot : ∀ b o, b ∈ fs → b ∉ ch → b ≠ e → h.get? b = some o → ∃ sl, h'.get? b = some { o with slots := sl }
  new : h.objs.size ≤ T
  exc : ∀ oe vs, h.get? e = some oe → oe.data = .fields vs → h'.get? e = some (oe.mapFields (·.setIfInBounds 1 (.ref T)))
  fly : Fly h' e T fl
section
variable {M : Model} {A : Around} {E : Value → Shared → Prop} {s : Shared} {base : Heap} {env : Env} {outer : List Env} {L e : Addr} {oe : Obj} {vs : Array Value} {Q : Unit → Shared → Prop}
theorem entry_ok {head : Value} {b : Bool} (hfr : A.frames = some (env :: outer)) (hl : s.heap.FunFrames base (env :: outer)) (hf : env.frame = some L) (he : s.heap.get? e = some oe) (hd : oe.data = .fields vs) (hsz : 1 < vs.size)
    (h : ∀ h' T, Noted (frs (env :: outer)) [] e T (rawInt L) s.heap h' → Q () { s with heap := h' }) :
    wpAny M A (do let a ← frameOf env; let pl ← entryPlaceOf L b; let x ← EntryCells.newEntry head a .none (rawInt L) .none pl; setField (.ref e) 1 x) Q E s := by
  have hene : e ∉ frs (env :: outer) := fun hm => by
    obtain ⟨_, o, ho, hnf⟩ := hl.mem hm
    rw [he] at ho
    cases ho
    exact hnf vs hd
  refine wpAny_bind (wpAny_frameOf_fun hfr hl hf fun h1 hs => ?_)
  refine wpAny_bind (wpAny_entryPlaceOf fun pl hpl => ?_)
  unfold EntryCells.newEntry newFields
  refine wpAny_bind (wpAny_newObj_type ?_ (hpl.sizeOk5 _ _ _ _ _))
  have he1 : h1.get? e = some oe := (hs.2.1 e hene).trans he
  generalize hT : ({ cls := .type "traceback", dict := none, data := .fields ([head, .ref L, .none, rawInt L, .none] ++ (if pl.isEmpty then List.replicate 6 Value.none else pl)).toArray } : Obj) = oT
  have he2 := Heap.get?_push_of_some (h := h1) oT he1
  refine wpAny_setField he2 hd hsz (h _ h1.objs.size ?_)
  have hTe : h1.objs.size ≠ e := Nat.ne_of_gt (Heap.lt_size he1)
  have hd3 := Obj.data_mapFields hd (·.setIfInBounds 1 (Value.ref h1.objs.size))
  have he3 := Heap.get?_update_self (Obj.mapFields (·.setIfInBounds 1 (Value.ref h1.objs.size))) he2 (Obj.isFreed_of_fields hd3)
  have hT3 : ((h1.push oT).update e (Obj.mapFields (·.setIfInBounds 1 (Value.ref h1.objs.size)))).get? h1.objs.size = some oT :=
    (Heap.get?_update_other _ _ (Ne.symm hTe)).trans (Heap.get?_push_size h1 (by rw [← hT]; rfl))
  have keep : ∀ b o, b ≠ e → h1.get? b = some o → ((h1.push oT).update e (Obj.mapFields (·.setIfInBounds 1 (Value.ref h1.objs.size)))).get? b = some o := fun b o hb q => by
    rw [Heap.get?_update_other _ _ (Ne.symm hb)]
    exact Heap.get?_push_of_some _ q
  refine ⟨fun b o hb _ hbe q => keep b o hbe ((hs.2.1 b hb).trans q), fun b o hb _ hbe q => ?_, ?_, fun oe' vs' q' d' => ?_, ?_⟩
  · obtain ⟨sl, z⟩ := hs.2.2 b o q
    exact ⟨sl, keep b _ hbe z⟩
  · rw [hs.1]; exact Nat.le_refl _
  · rw [he] at q'; cases q'; exact he3
  · refine ⟨_, _, oT, _, he3, hd3, by simp [hsz], hT3, by rw [← hT], ?_, hTe⟩
    simp
theorem note_new (hfr : A.frames = some (env :: outer)) (hl : s.heap.FunFrames base (env :: outer)) (hf : env.frame = some L) (he : s.heap.get? e = some oe) (hd : oe.data = .fields vs) (h1 : vs[1]? = some .none)
    (h : ∀ h' T, Noted (frs (env :: outer)) [] e T (rawInt L) s.heap h' → Q () { s with heap := h' }) : wpAny M A (noteFrame (.ref e) env) Q E s := by
  unfold noteFrame
  simp only [hf]
  refine wpAny_bind (wpAny_field he hd h1 ?_)
  rw [if_neg (by decide)]
  exact entry_ok hfr hl hf he hd (Array.getElem?_eq_some_iff.mp h1).1 h
theorem note_next {T : Addr} (hfr : A.frames = some (env :: outer)) (hl : s.heap.FunFrames base (env :: outer)) (hf : env.frame = some L) (hF : Fly s.heap e T .none)
    (h : ∀ h' T', Noted (frs (env :: outer)) [T] e T' (rawInt L) s.heap h' → Q () { s with heap := h' }) : wpAny M A (noteFrame (.ref e) env) Q E s := by
  obtain ⟨oe, vs, oT, ts, he, hd, h1, hT, hdT, h3, hTe⟩ := hF
  unfold noteFrame
  simp only [hf]
  refine wpAny_bind (wpAny_field he hd h1 ?_)
  rw [if_pos (show (Value.ref T != Value.none) = true from by simp)]
  refine wpAny_bind (wpAny_field hT hdT h3 ?_)
  rw [if_neg (show ¬ ((Value.none == rawInt L) = true) from by simp [rawInt])]
  refine wpAny_bind (wpAny_setField hT hdT (Array.getElem?_eq_some_iff.mp h3).1 ?_)
  have other : ∀ b, b ≠ T → (s.heap.update T (Obj.mapFields (·.setIfInBounds 3 Value.none))).get? b = s.heap.get? b := fun b hb => Heap.get?_update_other _ _ (Ne.symm hb)
  have nrec : ∀ b o, s.heap.get? b = some o → (∀ vs, o.data ≠ .fields vs) → b ≠ T := fun b o hb hnf q => by
    rw [q, hT] at hb
    cases hb
    exact hnf ts hdT
  have sz : (s.heap.update T (Obj.mapFields (·.setIfInBounds 3 Value.none))).objs.size = s.heap.objs.size := Heap.size_after_update _ _ _
  refine entry_ok hfr (hl.of_keeps fun b o hb hnf => ⟨o, (other b (nrec b o hb hnf)).trans hb, rfl⟩) hf ((other e (Ne.symm hTe)).trans he) hd (Array.getElem?_eq_some_iff.mp h1).1 fun h' T' N => h h' T' ?_
  dsimp only at N
  refine ⟨fun b o hb hc hbe q => N.keep b o hb (by simp) hbe ((other b (by simpa using hc)).trans q), fun b o hb hc hbe q => N.slot b o hb (by simp) hbe ((other b (by simpa using hc)).trans q), ?_, fun oe' vs' q d => N.exc oe' vs' ((other e (Ne.symm hTe)).trans q) d, N.fly⟩
  rw [← sz]; exact N.new
theorem flight_none {T : Addr} {fl : Value} (hF : Fly s.heap e T fl) (h : ∀ h', (∀ b o, b ≠ T → s.heap.get? b = some o → h'.get? b = some o) → h'.objs.size = s.heap.objs.size → Fly h' e T .none → Q () { s with heap := h' }) : wpAny M A (setFlight (.ref e) none) Q E s := by
  obtain ⟨oe, vs, oT, ts, he, hd, h1, hT, hdT, h3, hTe⟩ := hF
  have hsz : 3 < ts.size := (Array.getElem?_eq_some_iff.mp h3).1
  have other : ∀ b, b ≠ T → (s.heap.update T (Obj.mapFields (·.setIfInBounds 3 ((none : Option Addr).elim Value.none fun f => rawInt f)))).get? b = s.heap.get? b := fun b hb => Heap.get?_update_other _ _ (Ne.symm hb)
  unfold setFlight
  refine wpAny_bind (wpAny_field he hd h1 ?_)
  rw [if_pos (show (Value.ref T != Value.none) = true from by simp)]
  refine wpAny_setField hT hdT hsz (h _ (fun b o hb q => (other b hb).trans q) (Heap.size_after_update _ _ _) ?_)
  exact ⟨oe, vs, _, _, (other e (Ne.symm hTe)).trans he, hd, h1, Heap.get?_update_self _ hT (Obj.isFreed_of_fields (Obj.data_mapFields hdT _)), Obj.data_mapFields hdT _, by simp [hsz], hTe⟩
/-- both: a frame is left -/
theorem Noted.landed {fs ch : List Addr} {T : Addr} {fl : Value} {h h1 h2 : Heap} (N : Noted fs ch e T fl h h1) (k : ∀ b o, b ≠ T → h1.get? b = some o → h2.get? b = some o) (F : Fly h2 e T .none) : Noted fs ch e T .none h h2 := by
  have nT : ∀ b o, h.get? b = some o → b ≠ T := fun b o q => Nat.ne_of_lt (Nat.lt_of_lt_of_le (Heap.lt_size q) N.new)
  refine ⟨fun b o hb hc hbe q => k b o (nT b o q) (N.keep b o hb hc hbe q), fun b o hb hc hbe q => ?_, N.new, fun oe vs q d => k e _ (nT e oe q) (N.exc oe vs q d), F⟩
  obtain ⟨sl, z⟩ := N.slot b o hb hc hbe q
  exact ⟨sl, k b _ (nT b o q) z⟩
theorem leave_new (hfr : A.frames = some (env :: outer)) (hl : s.heap.FunFrames base (env :: outer)) (hf : env.frame = some L) (he : s.heap.get? e = some oe) (hd : oe.data = .fields vs) (h1 : vs[1]? = some .none)
    (h : ∀ h' T, Noted (frs (env :: outer)) [] e T .none s.heap h' → Q () { s with heap := h' }) : wpAny M A (leaving env (.ref e)) Q E s := by
  unfold leaving
  exact wpAny_bind (note_new hfr hl hf he hd h1 fun h' T N => flight_none (s := { s with heap := h' }) N.fly fun h2 k _ F => h h2 T (N.landed k F))
theorem leave_next {T : Addr} (hfr : A.frames = some (env :: outer)) (hl : s.heap.FunFrames base (env :: outer)) (hf : env.frame = some L) (hF : Fly s.heap e T .none)
    (h : ∀ h' T', Noted (frs (env :: outer)) [T] e T' .none s.heap h' → Q () { s with heap := h' }) : wpAny M A (leaving env (.ref e)) Q E s := by
  unfold leaving
  exact wpAny_bind (note_next hfr hl hf hF fun h' T' N => flight_none (s := { s with heap := h' }) N.fly fun h2 k _ F => h h2 T' (N.landed k F))
end
end L2
namespace L2
open PySem PySem.Spec PyProof.Rows
section
variable {X : Cx} {pins : List (Addr × Obj)} {σ : St} {H : Hp} {s : Shared} {e C T : Addr} {od : Option Addr} {raw : Bool} {fl : Value} {h' : Heap} {ch : List Addr}
theorem upd_id {o : HO} (q : H e = some o) : upd H e o = H := by
  funext b
  unfold upd
  split
  · rename_i z; rw [z]; exact q.symm
  · rfl
/-- a frame is noted: what holds behind it -/
theorem Inv.noted (I : Inv X pins σ H s) (q : H e = some (exO raw e C od)) (N : Noted (frs X.stack) ch e T fl s.heap h') (hc : ∀ b ∈ ch, FpOk X pins H b) :
    Inv X pins σ (upd H e (exO false e C od)) { s with heap := h' } := by
  obtain ⟨vs, sl, g, hz, _⟩ := exc_of I.hok q
  have ne : ∀ b, H b = none → b ≠ e := fun b n z => by rw [z, q] at n; cases n
  have tfs : ∀ b o, H b = some o → b ∉ frs X.stack := fun b o z hm => by rw [I.stkFree b hm] at z; cases z
  have tch : ∀ b o, H b = some o → b ∉ ch := fun b o z hm => by rw [(hc b hm).1] at z; cases z
  have hE : IsExc false e C od h' := by
    have := N.exc _ vs g rfl
    refine ⟨vs.setIfInBounds 1 (.ref T), sl, this, by simpa using hz, fun z => by cases z⟩
  refine I.call' (s' := { s with heap := h' }) (ch := ch) rfl ⟨fun b o e' n hf hx => N.keep b o hf hx (ne b n) e', fun b o e' n hf hx => N.slot b o hf hx (ne b n) e', fun b o e' n hx => ?_, fun b o e' hx => ?_, fun b xs e' => ?_, fun b o u e' => ?_, fun b ps e' => ⟨#[], ?_⟩⟩ (fun b o e' => ?_) I.bare fun b hb => ⟨(hc b hb).2.2.2.1, (hc b hb).2.1, (hc b hb).2.2.2.2.1, (hc b hb).2.2.2.2.2⟩
  · rw [upd_ne (ne b n)]; exact n
  · by_cases z : b = e
    · subst z; obtain ⟨vs', sl', g', _⟩ := hE; exact ⟨_, g'⟩
    · by_cases hf : b ∈ frs X.stack
      · obtain ⟨sl', g'⟩ := N.slot b o hf hx z e'; exact ⟨_, g'⟩
      · exact ⟨o, N.keep b o hf hx z e'⟩
  · rw [upd_ne (fun z => by rw [z, q] at e'; cases e')]; exact e'
  · rw [upd_ne (fun z => by rw [z, q] at e'; cases e')]; exact e'
  · rw [upd_ne (fun z => by rw [z, q] at e'; cases e'), e']; simp
  · by_cases z : b = e
    · subst z; rw [upd_same] at e'; cases e'; exact objOk_exc hE
    · rw [upd_ne z] at e'
      refine (I.hok b o e').stay (fun c v hcv g' => ?_) (fun c g' => ?_) fun c xs g' => ?_
      · have hcH : ∃ u, H c = some u := by
          rcases hcv with z | z
          · exact ⟨o, by rw [z]; exact e'⟩
          · exact ⟨_, z⟩
        obtain ⟨u, hu⟩ := hcH
        have hce : c ≠ e := by
          rcases hcv with z' | z'
          · rw [z']; exact z
          · intro z2; rw [z2, q] at z'; cases z'
        exact N.keep c v (tfs c u hu) (tch c u hu) hce g'
      · rw [upd_ne (fun z2 => by rw [z2, q] at g'; cases g')]; exact g'
      · rw [upd_ne (fun z2 => by rw [z2, q] at g'; cases g')]; exact g'
theorem Inv.landed {T : Addr} (I : Inv X pins σ H s) (f : FpOk X pins H T) (k : ∀ b o, b ≠ T → s.heap.get? b = some o → h'.get? b = some o) : Inv X pins σ H { s with heap := h' } :=
  I.turned (it := T) (t' := s.toks) k f.1 f.2.1 f.2.2.2.1 f.2.2.2.2.1 f.2.2.2.2.2
end
/-- how an exception of an own class lies behind a call -/
def CXx (P : Program) (w : World) : CXT := fun outer H s E v s' => ∃ e C od T H', v = .ref e ∧ s'.os = s.os ∧ AllBare s'.gens ∧ Un (frs outer) [] H H' s.heap s'.heap ∧ HOk P w H' s'.heap ∧
  H' e = some (exO false e C od) ∧ s.heap.objs.size ≤ T ∧ H' T = none ∧ Fly s'.heap e T .none ∧ E (.ref C) (some e) H'
/-- what is wanted of exceptions, by the names' values -/
abbrev XS := St → XK
def PassesS (X : Cx) (E : XS) : Prop := ∀ (pins : List (Addr × Obj)) (σ : St) (H : Hp) (s : Shared) (v : Value) (s' : Shared), Inv X pins σ H s → CXx X.prog X.w X.stack H s (E σ) v s' → X.xe v s'
def RaisesS (X : Cx) (E : XS) : Prop := ∀ (pins : List (Addr × Obj)) (σ : St) (H : Hp) (s : Shared) (e C : Addr) (od : Option Addr), Inv X pins σ H s → H e = some (exO true e C od) → E σ (.ref C) (some e) (upd H e (exO false e C od)) → X.xe (.ref e) s
theorem passesN {X : Cx} : PassesS X (fun _ => E0) := fun _ _ _ _ _ _ _ ⟨_, _, _, _, _, _, _, _, _, _, _, _, _, _, h⟩ => h.elim
section
variable {P : Program} {w : World} {K : PySem.W.Frag} {mg : Str → Option Value} {base : Heap} {N : List Str} {qual : Str} {scope : Scope} {f : Addr} {cd : Value} {A : Around} {outer : List Env} {s₀ : Shared} {H₀ : Hp} {E : XK}
theorem passesB : PassesS (cxOf (CXx P w) P w K mg base N qual scope f cd A outer s₀ H₀ E) (fun _ => E) := by
  rintro pins σ H s v s' I ⟨e, C, od, T, H', rfl, os, bare, un, hok, he, hT, nT, fly, hE⟩
  have I' := I.call' (ch := []) os un hok bare (fun b z => absurd z (by simp))
  have hTn : FpOk (cxOf (CXx P w) P w K mg base N qual scope f cd A outer s₀ H₀ E) pins H' T := I.fpOk hT nT
  show wpAny _ _ (leaving _ (.ref e)) _ _ _
  refine leave_next I.ok.frames I'.stack rfl fly fun h2 T2 Nd => ?_
  have J := I'.noted (ch := [T]) he Nd (fun b hb => by have := List.mem_singleton.mp hb; subst this; exact hTn)
  rw [upd_id he] at J
  exact ⟨e, C, od, T2, H', rfl, J.os, J.bare, J.base, J.hok, he, Nat.le_trans I'.sz Nd.new, I'.hok.fresh Nd.new, Nd.fly, hE⟩
theorem raisesB : RaisesS (cxOf (CXx P w) P w K mg base N qual scope f cd A outer s₀ H₀ E) (fun _ => E) := by
  rintro pins σ H s e C od I he hE
  obtain ⟨vs, sl, g, hz, hr⟩ := exc_of I.hok he
  show wpAny _ _ (leaving _ (.ref e)) _ _ _
  refine leave_new I.ok.frames I.stack rfl g rfl (hr rfl) fun h2 T2 Nd => ?_
  have J := I.noted (ch := []) he Nd (fun b hb => by cases hb)
  exact ⟨e, C, od, T2, _, rfl, J.os, J.bare, J.base, J.hok, upd_same, Nat.le_trans I.sz Nd.new, by rw [upd_ne (fun z => by rw [← z] at g; exact absurd (Heap.lt_size g) (Nat.not_lt.mpr Nd.new))]; exact I.hok.fresh Nd.new, Nd.fly, hE⟩
/-- the rule for a def that may raise -/
theorem Fun.okX {x qual : Str} {st : Stmt} {f : Addr} {fd : FuncData} {N ps : List Str} {k : Nat} {sp : Sp} (F : Fun K x qual st f fd) (S : FnScope N ps (defScope st)) (len : ∀ vs H Q E, sp vs H Q E → vs.length = ps.length)
    (hbody : ∀ (cdv : Value) (A : Around) (outer : List Env) (s : Shared) (H : Hp) (vs : List V) (Q : VK) (E : XK), Room k (A.deeper (envOfC qual (defScope st) s.heap.objs.size f cdv)) → sp vs H Q E →
      ∃ t, PSs (cxOf (CXx P w) P w K mg base N qual (defScope st) f cdv A outer s H E) (defBody st) t ∧ t { nx := fun _ H' => Q .non H', rt := Q } (start N vs) H) : FnOk P w K mg base (CXx P w) (k + 1) f fd ps sp := by
  obtain ⟨oc, od, kV, doc, pm, an, cdv, ct, osl, rfl, lk, hcd⟩ := F.ex
  exact fn_of lk hcd S len fun A outer s H vs Q E hr hsp => hbody cdv A outer s H vs Q E hr hsp
end
end L2
namespace L2
open PySem PySem.Spec PyProof.Rows
/-! ### calls that may raise -/
section
variable (P : Program) (w : World) (K : PySem.W.Frag) (mg : Str → Option Value) (base : Heap)
structure DefX (x : Str) (k : Nat) (ps : List Str) (sp : Sp) : Prop where
  ex : ∃ (f : Addr) (fd : FuncData), mg x = some (.ref f) ∧ FnOk P w K mg base (CXx P w) k f fd ps sp ∧ PySem.W.keepIn K (.ref f) = true ∧ Binds K fd ps []
structure MethX (C : Addr) (m : Str) (k : Nat) (ps : List Str) (sp : Sp) : Prop where
  ex : ∃ (f : Addr) (fd : FuncData), Meth K C m f ∧ FnOk P w K mg base (CXx P w) k f fd ps sp ∧ Binds K fd ps []
structure MakeX (x : Str) (C : Addr) (k : Nat) (ps : List Str) (sp : Sp) : Prop where
  ex : ∃ (f : Addr) (fd : FuncData), mg x = some (.ref C) ∧ Mk K C f ∧ FnOk P w K mg base (CXx P w) k f fd ps sp ∧ Binds K fd ps []
/-- an exception's class and its __init__ -/
structure XMk (K : PySem.W.Frag) (C f : Addr) : Prop where
  cls : XCls K C
  init : PySem.W.findIn K (.ref C) "__init__" = some (some (.ref f))
  fn : PySem.W.isFn K (.ref f) = true
  kp : PySem.W.keepIn K (.ref C) = true
structure ExcX (x : Str) (C : Addr) (k : Nat) (ps : List Str) (sp : Sp) : Prop where
  ex : ∃ (f : Addr) (fd : FuncData), mg x = some (.ref C) ∧ XMk K C f ∧ FnOk P w K mg base (CXx P w) k f fd ps sp ∧ Binds K fd ps []
end
def tCallS (sp : Sp) (E : XS) (t : TA) : TE := fun σ H Q => t σ H fun vs H1 => sp vs H1 Q (E σ)
def tMethS (C : Addr) (m : Str) (sp : Sp) (E : XS) (ta : TE) (t : TA) : TE := fun σ H Q => ta σ H fun x H1 => ∃ a dx fs, x = .ref a ∧ H1 a = some (.ins C dx fs) ∧ fs.lookup m = none ∧ t σ H1 fun vs H2 => sp (x :: vs) H2 Q (E σ)
def tMakeS (C : Addr) (sp : Sp) (E : XS) (t : TA) : TE := fun σ H Q => t σ H fun vs H1 => ∀ x dx, H1 x = none → H1 dx = none → dx ≠ x →
  sp (.ref x :: vs) (upd (upd H1 dx (.own x)) x (.ins C dx [])) (fun v H2 => v = .non ∧ Q (.ref x) H2) (E σ)
/-- C(..) of an exception's class -/
def tExc (C : Addr) (sp : Sp) (t : TA) : TE := fun σ H Q => t σ H fun vs H1 => vs.length ≤ sizeLine ∧ ∀ x, H1 x = none → sp (.ref x :: vs) (upd H1 x (exO true x C none)) (fun v H2 => v = .non ∧ Q (.ref x) H2) E0
section
variable {X : Cx} {k : Nat} {f C : Addr} {fd : FuncData} {ps : List Str} {sp : Sp} {E : XS} {x m : Str} {p pos apos : Pos} {e o : Expr} {es : List Expr} {ta : TE} {t : TA}
theorem run_fnS {pins : List (Addr × Obj)} {σ : St} {H : Hp} {s : Shared} {Q : VK} {us : List Value} {vs : List V} (F : FnOk X.prog X.w X.K X.mg X.base (CXx X.prog X.w) k f fd ps sp) (hr : Room k X.A) (hb : Binds X.K fd ps []) (hx : PassesS X E)
    (I : Inv X pins σ H s) (r : Vals vs us) (h : sp vs H Q (E σ)) : wpAny (model X.prog X.w) X.A (call (.ref f) us) (EP X pins σ Q) X.xe s := by
  have hl : us.length = ps.length := by rw [← r.length]; exact F.len _ _ _ _ h
  have hb' := hb s us I.kIn (by rw [List.append_nil]; exact hl)
  rw [List.append_nil] at hb'
  refine wpAny_call (codeAny_mono (F.run X.A X.stack s H ⟨us, []⟩ us vs Q (E σ) hr I.env0 hb' r h) fun r s' hq => ?_)
  cases r with
  | error e => exact hx pins σ H s e s' I hq
  | ok fl =>
    cases fl with
    | ret u => exact I.after hq
    | next => exact False.elim hq
    | brk => exact False.elim hq
    | cont => exact False.elim hq
theorem pe_callS (D : DefX X.prog X.w X.K X.mg X.base x k ps sp) (hx : PassesS X E) (hr : Room k X.A) (hg : Gl X x) (ha : PA X (e :: es) t)
    (hdb : (x == ("__debug__" : Str)) = false := by decide) (he : starEach (e :: es) X.env = (false, eval e X.env) :: starEach es X.env := by rfl) (hpl : (backTo pos (starEach es X.env)).any (·.1) = false := by rfl) :
    PE X (.Call (.Name x p) (e :: es) [] pos) (tCallS sp E t) := by
  obtain ⟨f, fd, m, F, kp, b⟩ := D.ex
  intro pins s σ H Q I h
  refine wpAny_Call_Name_kw (ld_glob I hg m ?_ hdb)
  refine PySem.W.callWith_K (h₀ := X.base) I.ok.mod.kin kp (thn (ha pos pins s σ H _ I h) fun us s1 ⟨vs, H1, I1, r, q⟩ => ⟨I1.kIn, ?_⟩) he hpl
  exact run_fnS F hr b hx I1 r q
theorem pe_methS {pl : Sem Bool} (he : PE X o ta) (c : Cls X.K C) (D : MethX X.prog X.w X.K X.mg X.base C m k ps sp) (hx : PassesS X E) (hr : Room k X.A) (ha : PA X (e :: es) t)
    (hst : starEach (e :: es) X.env = (false, eval e X.env) :: starEach es X.env := by rfl) (hpl : (backTo pos (starEach es X.env)).any (·.1) = false := by rfl)
    (ht : eval (.Call (.Attribute o m apos) (e :: es) [] pos) X.env = (do
      let ov ← eval o X.env
      standAt apos.atName
      let (f, first) ← holding [ov] (getMethod ov m pl)
      callWith pos f first (backTo pos (starEach (e :: es) X.env)) (backToKw pos (keywordEach [] X.env))) := by rfl) :
    PE X (.Call (.Attribute o m apos) (e :: es) [] pos) (tMethS C m sp E ta t) := by
  obtain ⟨f, fd, hm, F, b⟩ := D.ex
  intro pins s σ H Q I h
  refine PySem.W.methodCall_KW (pl := pl) (thn (he pins s σ H _ I h) fun u s1 ⟨x, H1, I1, rx, a, dx, fs, ex, ea, l, q⟩ => ?_) ht
  subst ex
  obtain rfl : u = Value.ref a := rx
  refine getmeth_ok I1 ea c hm l ?_
  refine PySem.W.callWith_K (first := [.ref a]) (h₀ := X.base) I.ok.mod.kin hm.kp (thn (ha pos pins s1 σ H1 _ I1 q) fun us s2 ⟨vs, H2, I2, r, q2⟩ => ⟨I2.kIn, ?_⟩) hst hpl
  exact run_fnS (us := .ref a :: us) (vs := .ref a :: vs) F hr b hx I2 (.cons rfl r) q2
theorem pe_methS0 {pl : Sem Bool} (he : PE X o ta) (c : Cls X.K C) (D : MethX X.prog X.w X.K X.mg X.base C m k ps sp) (hx : PassesS X E) (hr : Room k X.A)
    (ht : eval (.Call (.Attribute o m apos) [] [] pos) X.env = (do
      let ov ← eval o X.env
      standAt apos.atName
      let (f, first) ← holding [ov] (getMethod ov m pl)
      callWith pos f first (backTo pos (starEach [] X.env)) (backToKw pos (keywordEach [] X.env))) := by rfl) :
    PE X (.Call (.Attribute o m apos) [] [] pos) (tMethS C m sp E ta tNil) := by
  obtain ⟨f, fd, hm, F, b⟩ := D.ex
  intro pins s σ H Q I h
  refine PySem.W.methodCall_KW (pl := pl) (thn (he pins s σ H _ I h) fun u s1 ⟨x, H1, I1, rx, a, dx, fs, ex, ea, l, q⟩ => ?_) ht
  subst ex
  obtain rfl : u = Value.ref a := rx
  refine getmeth_ok I1 ea c hm l ?_
  exact PySem.W.callWith_K0 (first := [.ref a]) I1.kIn hm.kp (run_fnS (us := [.ref a]) (vs := [.ref a]) F hr b hx I1 (.cons rfl .nil) q)
/-- a new exception, tracked -/
theorem Inv.xmade {pins : List (Addr × Obj)} {σ : St} {H : Hp} {s : Shared} {rest : List Value} (I : Inv X pins σ H s) :
    Inv X pins σ (upd H (s.heap.objs.size + 1) (exO true (s.heap.objs.size + 1) C none)) { s with heap := (s.heap.push (tupNew rest)).push (excNew C s.heap.objs.size) } := by
  refine I.laid (a := s.heap.objs.size + 1) (t' := s.toks) (fun b u q => xkeeps b u q) (Nat.le_succ _) (objOk_exc ⟨_, _, xnew_at, rfl, fun _ => rfl⟩)
theorem run_exc {pins : List (Addr × Obj)} {σ : St} {H : Hp} {s : Shared} {Q : VK} {us : List Value} {vs : List V} (M : XMk X.K C f) (F : FnOk X.prog X.w X.K X.mg X.base (CXx X.prog X.w) k f fd ps sp) (hr : Room (k + 1) X.A) (hb : Binds X.K fd ps [])
    (I : Inv X pins σ H s) (r : Vals vs us) (hlen : vs.length ≤ sizeLine) (h : ∀ x, H x = none → sp (.ref x :: vs) (upd H x (exO true x C none)) (fun v H2 => v = .non ∧ Q (.ref x) H2) E0) :
    wpAny (model X.prog X.w) X.A (call (.ref C) us) (EP X pins σ Q) X.xe s := by
  have hq := h (s.heap.objs.size + 1) (I.hok.fresh (Nat.le_succ _))
  have I2 := Inv.xmade (C := C) (rest := us) I
  have r2 : Vals (V.ref (s.heap.objs.size + 1) :: vs) (Value.ref (s.heap.objs.size + 1) :: us) := .cons rfl r
  have hl : (Value.ref (s.heap.objs.size + 1) :: us).length = ps.length := by
    have e := r2.length
    rw [F.len _ _ _ _ hq] at e
    exact e.symm
  have hb' := hb _ (Value.ref (s.heap.objs.size + 1) :: us) I2.kIn (by rw [List.append_nil]; exact hl)
  rw [List.append_nil] at hb'
  have run := F.run _ X.stack _ _ ⟨Value.ref (s.heap.objs.size + 1) :: us, []⟩ (Value.ref (s.heap.objs.size + 1) :: us) _ _ E0 (hr.make C us []) (I2.env0.make C us []) hb' r2 hq
  obtain ⟨hp, g, d, t, os⟩ := s
  refine xcall_init I.kIn M.cls (by rw [← r.length]; exact hlen) M.init (beq_iff_eq.mp M.fn) (wpAny_call (codeAny_mono run fun r s' hq' => ?_))
  cases r with
  | error e =>
    obtain ⟨_, _, _, _, _, _, _, _, _, _, _, _, _, _, z⟩ := hq'
    exact z.elim
  | ok fl =>
    cases fl with
    | ret u =>
      obtain ⟨v, H', I3, rv, ev, q3⟩ := I2.after hq'
      subst ev
      exact ⟨rv, ⟨V.ref (hp.objs.size + 1), H', I3, rfl, q3⟩⟩
    | next => exact False.elim hq'
    | brk => exact False.elim hq'
    | cont => exact False.elim hq'
theorem pe_exc (D : ExcX X.prog X.w X.K X.mg X.base x C k ps sp) (hr : Room (k + 1) X.A) (hg : Gl X x) (ha : PA X (e :: es) t)
    (hdb : (x == ("__debug__" : Str)) = false := by decide) (he : starEach (e :: es) X.env = (false, eval e X.env) :: starEach es X.env := by rfl) (hpl : (backTo pos (starEach es X.env)).any (·.1) = false := by rfl) :
    PE X (.Call (.Name x p) (e :: es) [] pos) (tExc C sp t) := by
  obtain ⟨f, fd, m, M, F, b⟩ := D.ex
  intro pins s σ H Q I h
  refine wpAny_Call_Name_kw (ld_glob I hg m ?_ hdb)
  refine PySem.W.callWith_K (h₀ := X.base) I.ok.mod.kin M.kp (thn (ha pos pins s σ H _ I h) fun us s1 ⟨vs, H1, I1, r, hlen, q⟩ => ⟨I1.kIn, ?_⟩) he hpl
  exact run_exc M F hr b I1 r hlen q
end
/-! ### raise -/
def sRaise (K : PySem.W.Frag) (te : TE) (E : XS) : TS := fun _ σ H => te σ H fun v H1 => ∃ e C od, v = .ref e ∧ H1 e = some (exO true e C od) ∧ XCls K C ∧ E σ (.ref C) (some e) (upd H1 e (exO false e C od))
section
variable {X : Cx} {x : Expr} {te : TE} {E : XS} {pos : Pos}
theorem raise_ok {M : Model} {A : Around} {E : Value → Shared → Prop} {env : Env} {s : Shared} {x : Sem Value} {Q : Flow → Shared → Prop} (hh : A.handled = none)
    (h : wpAny M A x (fun v s₁ => ∃ e vs sl C od, v = .ref e ∧ s₁.heap.get? e = some ⟨.ref C, od, .fields vs, sl⟩ ∧ vs[1]? = some .none ∧ XObj s₁.heap C ∧ E (.ref e) s₁) E s) :
    wpAny M A (raiseStmt env (some x) none) Q E s := by
  unfold raiseStmt
  refine wpAny_bind (wpAny_mono h (fun v s₁ h₁ => ?_) fun _ _ x => x)
  obtain ⟨e, vs, sl, C, od, rfl, he, h1, hC, hE⟩ := h₁
  obtain ⟨nm, qn, N, bs, bm, sn, sub, ab, col, dd, k0, k1, k2, k3, k5, hC, hb⟩ := hC.ex
  have hcB := own_has (C := C) hb (T := "BaseException") (by decide)
  obtain ⟨hp, g, d, tk, os⟩ := s₁
  repeat (first
    | with_reducible refine wpAny_loadPart_at he ?_
    | with_reducible refine wpAny_loadPart_at hC ?_
    | (with_reducible refine wpAny_isSubtype_exc hC ?_; rw [hcB])
    | with_reducible refine wpAny_field he rfl h1 ?_
    | wp_step)
  exact wpAny_raiseNew_none hh hE
theorem ps_raise (hc : X.calm = true) (hx : RaisesS X E) (he : PE X x te) : PS X (.Raise (some x) none pos) (sRaise X.K te E) := by
  intro pins s σ H D I h
  rw [arm_exec_Raise]
  have hh := I.ok.hd hc
  have key : wpAny (model X.prog X.w) X.A (eval x X.env) (fun v s₁ => ∃ e vs sl C od, v = .ref e ∧ s₁.heap.get? e = some ⟨.ref C, od, .fields vs, sl⟩ ∧ vs[1]? = some .none ∧ XObj s₁.heap C ∧ X.xe (.ref e) s₁) X.xe s := by
    refine thn (he pins s σ H _ I h) fun u s1 ⟨v, H1, I1, rv, e, C, od, ev, eo, hcl, hE⟩ => ?_
    subst ev
    cases (show u = Value.ref e from rv)
    obtain ⟨vs, sl, g, hz, hr⟩ := exc_of I1.hok eo
    exact ⟨e, vs, sl, C, od, rfl, g, hr rfl, hcl.at I1.kIn, hx pins σ H1 s1 e C od I1 eo hE⟩
  exact wpAny_bind (wpAny_standAt (raise_ok hh (wpAny_bind (wpAny_mono key (fun v s₁ h₁ => wpAny_bind (wpAny_standAt (wpAny_pure h₁))) fun _ _ x => x))))
end
end L2
namespace L2
open PySem PySem.Spec PyProof.Rows
/-! ### try .. except C as e -/
section
variable {M : Model} {A : Around} {E : Value → Shared → Prop} {s : Shared} {K : PySem.W.Frag} {e C DC : Addr} {b : Bool}
end
/-- the context of a suite behind except: e is being handled, no exception leaves it -/
abbrev Cx.held (X : Cx) (e : Addr) (pn : List (Addr × Obj)) : Cx := { X with A := X.A.mark (some (.ref e)), calm := false, pn := pn, xe := fun _ _ => False }
/-- .. of a try's body -/
abbrev Cx.tried (X : Cx) (pn : List (Addr × Obj)) (xe : Value → Shared → Prop) : Cx := { X with pn := pn, xe := xe }
section
variable {X : Cx} {pins : List (Addr × Obj)} {σ : St} {H : Hp} {s : Shared} {e : Addr} {xe : Value → Shared → Prop}
theorem Inv.held (I : Inv X pins σ H s) (e : Addr) : Inv (X.held e (X.pn ++ pins)) [] σ H s :=
  ⟨⟨I.ok.mod, I.ok.kind, I.ok.glob, I.ok.blt, I.ok.above, I.ok.inj, I.ok.has, I.ok.cab, (fun z => by cases z), I.ok.frames, I.ok.stk, I.ok.exf, I.ok.bs, I.ok.bsz, I.ok.noex, I.ok.exfs, I.ok.funs, I.ok.frf⟩,
    I.os, I.bare, I.base, I.loc, I.cell, I.free, I.freeC, fun p hp => I.pin p (by simpa using hp), I.hok, I.len⟩
theorem Inv.tried (I : Inv X pins σ H s) : Inv (X.tried (X.pn ++ pins) xe) [] σ H s :=
  ⟨⟨I.ok.mod, I.ok.kind, I.ok.glob, I.ok.blt, I.ok.above, I.ok.inj, I.ok.has, I.ok.cab, I.ok.hd, I.ok.frames, I.ok.stk, I.ok.exf, I.ok.bs, I.ok.bsz, I.ok.noex, I.ok.exfs, I.ok.funs, I.ok.frf⟩,
    I.os, I.bare, I.base, I.loc, I.cell, I.free, I.freeC, fun p hp => I.pin p (by simpa using hp), I.hok, I.len⟩
end
/-- the handlers' reading: the exception, its class, the ends -/
abbrev TH := Addr → Addr → TS
def PH (X : Cx) (hs : List ExceptHandler) (th : TH) : Prop :=
  ∀ (pins : List (Addr × Obj)) (s : Shared) (σ : St) (H : Hp) (D : Ends) (e C : Addr) (od : Option Addr) (T : Addr), Inv X pins σ H s → H e = some (exO false e C od) → Fly s.heap e T .none → FpOk X pins H T → th e C D σ H →
    wpAny (model X.prog X.w) X.A (handleBy (.ref e) X.env hs) (SP X pins D) X.xe s
def hNil : TH := fun _ _ _ _ _ => False
/-- except C as n: .. -/
def hAs (K : PySem.W.Frag) (DC : Addr) (i : Nat) (ts : Addr → List (Addr × Obj) → TS) (tr : TH) : TH := fun e C D σ H => ∃ b, PySem.W.mroIn K C (.ref DC) = some b ∧ if b = true then
  ∀ pn, ts e pn { nx := fun σ' H' => D.nx (σ'.set i none) H', rt := D.rt, bk := fun σ' H' => D.bk (σ'.set i none) H', ct := fun σ' H' => D.ct (σ'.set i none) H' } (σ.set i (some (.ref e))) H else tr e C D σ H
/-- except C: .. -/
def hPl (K : PySem.W.Frag) (DC : Addr) (ts : Addr → List (Addr × Obj) → TS) (tr : TH) : TH := fun e C D σ H => ∃ b, PySem.W.mroIn K C (.ref DC) = some b ∧ if b = true then (∀ pn, ts e pn D σ H) else tr e C D σ H
section
variable {X : Cx} {x n : Str} {i : Nat} {DC : Addr} {np pos : Pos} {b0 : Stmt} {suite : List Stmt} {rest : List ExceptHandler} {ts : Addr → List (Addr × Obj) → TS} {tr : TH}
/-- try: .. except .. -/
def tTry (tb : List (Addr × Obj) → (Value → Shared → Prop) → XS → TS) (th : TH) : TS := fun D σ H => ∀ pn xe, tb pn xe (fun σ' cls oe H' => ∃ e C, cls = .ref C ∧ oe = some e ∧ th e C D σ' H') D σ H
end
end L2
namespace L2
open PySem PySem.Spec PyProof.Rows
theorem cxx_no {P : Program} {w : World} {o : List Env} {H : Hp} {s s' : Shared} {e : Value} (h : CXx P w o H s (fun _ _ _ => False) e s') : False := by
  obtain ⟨_, _, _, _, _, _, _, _, _, _, _, _, _, _, z⟩ := h
  exact z
/-- the promise of an exception's __init__, with one value, with two -/
def sp_x1 (C : Addr) (f : Str) : Sp := fun vs H Q _ => ∃ p y, vs = [.ref p, y] ∧ H p = some (exO true p C none) ∧ ∀ dx, H dx = none → Q .non (upd (upd H dx (xdO dx [(f, y)])) p (exO true p C (some dx)))
def sp_x2 (C : Addr) (f g : Str) : Sp := fun vs H Q _ => ∃ p y z, vs = [.ref p, y, z] ∧ H p = some (exO true p C none) ∧ ∀ dx, H dx = none → Q .non (upd (upd H dx (xdO dx [(f, y), (g, z)])) p (exO true p C (some dx)))
theorem x2_swap {H : Hp} {p dx C : Addr} {f g : Str} {y z : V} {Q : Hp → Prop} (hne : p ≠ dx) (hfg : ¬ f = g) (h : Q (upd (upd H dx (xdO dx [(f, y), (g, z)])) p (exO true p C (some dx)))) :
    Q (upd (upd (upd H dx (xdO dx [(f, y)])) p (exO true p C (some dx))) dx (xdO dx (putF g z [(f, y)]))) := by
  have e : putF g z [(f, y)] = [(f, y), (g, z)] := by
    show (if f = g then _ else _) = _
    rw [if_neg hfg]; rfl
  rw [e]
  have : upd (upd (upd H dx (xdO dx [(f, y)])) p (exO true p C (some dx))) dx (xdO dx [(f, y), (g, z)]) = upd (upd H dx (xdO dx [(f, y), (g, z)])) p (exO true p C (some dx)) := by
    funext b
    unfold upd
    by_cases h1 : b = dx
    · subst h1; simp [hne.symm]
    · by_cases h2 : b = p <;> simp [h1, h2, hne]
  rw [this]; exact h
section
variable {K : PySem.W.Frag} {C : Addr} {f g : Str} {y z : V} {H1 : Hp} {E : XK}
theorem excAt_made {H1 : Hp} {x dx C : Addr} {fs : List (Str × V)} (hx : H1 x = none) (hdx : upd H1 x (exO true x C none) dx = none) :
    ExcAt (upd (upd (upd (upd H1 x (exO true x C none)) dx (xdO dx fs)) x (exO true x C (some dx))) x (exO false x C (some dx))) x C fs ∧ Same H1 (upd (upd (upd (upd H1 x (exO true x C none)) dx (xdO dx fs)) x (exO true x C (some dx))) x (exO false x C (some dx))) := by
  have hne : dx ≠ x := fun e => by rw [e, upd_same] at hdx; cases hdx
  have hn : H1 dx = none := by rw [upd_ne hne] at hdx; exact hdx
  refine ⟨⟨false, some dx, upd_same, ?_, hne⟩, fun b o q => ?_⟩
  · rw [upd_ne hne, upd_ne hne, upd_same]
  · have h1 := ne_of_none q hx
    have h2 := ne_of_none q hn
    rw [upd_ne h1, upd_ne h1, upd_ne h2, upd_ne h1]; exact q
theorem raise1 (c : XCls K C) (h : ∀ e H', ExcAt H' e C [(f, y)] → Same H1 H' → E (.ref C) (some e) H') :
    [y].length ≤ sizeLine ∧ ∀ x, H1 x = none → sp_x1 C f (.ref x :: [y]) (upd H1 x (exO true x C none)) (fun v H2 => v = .non ∧ ∃ e C' od, V.ref x = .ref e ∧ H2 e = some (exO true e C' od) ∧ XCls K C' ∧ E (.ref C') (some e) (upd H2 e (exO false e C' od))) E0 :=
  ⟨by show 1 ≤ sizeLine; decide, fun x hx => ⟨x, y, rfl, upd_same, fun dx hdx => ⟨rfl, x, C, some dx, rfl, upd_same, c, let ⟨a, b⟩ := excAt_made hx hdx; h x _ a b⟩⟩⟩
theorem raise2 (c : XCls K C) (h : ∀ e H', ExcAt H' e C [(f, y), (g, z)] → Same H1 H' → E (.ref C) (some e) H') :
    [y, z].length ≤ sizeLine ∧ ∀ x, H1 x = none → sp_x2 C f g (.ref x :: [y, z]) (upd H1 x (exO true x C none)) (fun v H2 => v = .non ∧ ∃ e C' od, V.ref x = .ref e ∧ H2 e = some (exO true e C' od) ∧ XCls K C' ∧ E (.ref C') (some e) (upd H2 e (exO false e C' od))) E0 :=
  ⟨by show 2 ≤ sizeLine; decide, fun x hx => ⟨x, y, z, rfl, upd_same, fun dx hdx => ⟨rfl, x, C, some dx, rfl, upd_same, c, let ⟨a, b⟩ := excAt_made hx hdx; h x _ a b⟩⟩⟩
end
end L2
namespace L2
open PySem
/-! ### little things -/
theorem decV {i j : Int} (h : decide (V.int i = V.int j) = true) : i = j := V.int.inj (of_decide_eq_true h)
theorem decVn {i j : Int} (h : ¬ decide (V.int i = V.int j) = true) : ¬ i = j := fun e => h (decide_eq_true (congrArg V.int e))
theorem putF_ne {f g : Str} {v x : V} {r : List (Str × V)} (h : ¬ g = f) : putF f v ((g, x) :: r) = (g, x) :: putF f v r := by
  show (if g = f then _ else _) = _
  rw [if_neg h]
/-- all but the addresses of F is as it was -/
def Keep (F : List Addr) (H H' : Hp) : Prop := ∀ b o, H b = some o → b ∉ F → H' b = some o
theorem Keep.of_same {F : List Addr} {H H' : Hp} (h : Same H H') : Keep F H H' := fun b o e _ => h b o e
theorem Keep.trans {F G : List Addr} {H H1 H2 : Hp} (a : Keep F H H1) (b : Keep G H1 H2) : Keep (F ++ G) H H2 := fun c o e hc => b c o (a c o e fun z => hc (List.mem_append_left _ z)) fun z => hc (List.mem_append_right _ z)
theorem keep_upd {F : List Addr} {H H' : Hp} {p : Addr} {o : HO} (s : Keep F H H') (h : p ∈ F ∨ H p = none) : Keep F H (upd H' p o) := fun b u e hb => by
  rw [upd_ne]
  · exact s b u e hb
  · rintro rfl
    rcases h with h | h
    · exact hb h
    · rw [h] at e; cases e
theorem Keep.refl {F : List Addr} {H : Hp} : Keep F H H := fun _ _ e _ => e
/-- lists of numbers at addresses -/
structure Rows (H : Hp) (L : List Addr) (xss : List (List Int)) : Prop where
  len : L.length = xss.length
  get : ∀ (i : Nat) a xs, L[i]? = some a → xss[i]? = some xs → H a = some (.lst (xs.map V.int))
theorem Rows.mono {H H' : Hp} {L : List Addr} {xss : List (List Int)} (R : Rows H L xss) (h : ∀ a ∈ L, ∀ o, H a = some o → H' a = some o) : Rows H' L xss :=
  ⟨R.len, fun i a xs e1 e2 => h a (List.mem_of_getElem? e1) _ (R.get i a xs e1 e2)⟩
theorem Rows.snoc {H : Hp} {L : List Addr} {xss : List (List Int)} (R : Rows H L xss) {a : Addr} {xs : List Int} (h : H a = some (.lst (xs.map V.int))) : Rows H (L ++ [a]) (xss ++ [xs]) :=
  ⟨by simp [R.len], fun i b ys e1 e2 => by
    have l := R.len
    by_cases hi : i < L.length
    · rw [List.getElem?_append_left hi] at e1
      rw [List.getElem?_append_left (by omega)] at e2
      exact R.get i b ys e1 e2
    · rw [List.getElem?_append_right (by omega)] at e1
      rw [List.getElem?_append_right (by omega)] at e2
      have hi2 : i - L.length = 0 := by
        have := (List.getElem?_eq_some_iff.mp e1).1
        simp at this; omega
      rw [hi2] at e1
      rw [show i - xss.length = 0 by omega] at e2
      have e1 : a = b := by simpa using e1
      have e2 : xs = ys := by simpa using e2
      rw [← e1, ← e2]; exact h⟩
theorem Rows.at_ {H : Hp} {L : List Addr} {xss : List (List Int)} (R : Rows H L xss) {i : Nat} {xs : List Int} (h : xss[i]? = some xs) : ∃ a, L[i]? = some a ∧ a ∈ L ∧ H a = some (.lst (xs.map V.int)) := by
  have hi : i < L.length := by rw [R.len]; exact (List.getElem?_eq_some_iff.mp h).1
  exact ⟨L[i], List.getElem?_eq_getElem hi, List.getElem_mem hi, R.get i _ xs (List.getElem?_eq_getElem hi) h⟩
theorem Rows.here {H : Hp} {L : List Addr} {xss : List (List Int)} (R : Rows H L xss) : ∀ a ∈ L, ∃ o, H a = some o := fun a ha => by
  obtain ⟨i, hi⟩ := List.mem_iff_getElem?.mp ha
  have hl : i < xss.length := by rw [← R.len]; exact (List.getElem?_eq_some_iff.mp hi).1
  exact ⟨_, R.get i a _ hi (List.getElem?_eq_getElem hl)⟩
/-- changes in the heap: a list of pairs -/
structure ChAt (H : Hp) (L : List V) (chs : List (Int × Int)) : Prop where
  len : L.length = chs.length
  get : ∀ (i : Nat) v, L[i]? = some v → ∃ t r, v = V.ref t ∧ chs[i]? = some r ∧ H t = some (.tup [.int r.1, .int r.2])
theorem ChAt.nil {H : Hp} : ChAt H [] [] := ⟨rfl, fun i v e => by simp at e⟩
theorem ChAt.mono {H H' : Hp} {L : List V} {chs : List (Int × Int)} (R : ChAt H L chs) (h : ∀ t xs, H t = some (.tup xs) → H' t = some (.tup xs)) : ChAt H' L chs :=
  ⟨R.len, fun i v e => let ⟨t, r, a, b, c⟩ := R.get i v e; ⟨t, r, a, b, h t _ c⟩⟩
theorem ChAt.snoc {H : Hp} {L : List V} {chs : List (Int × Int)} (R : ChAt H L chs) {t : Addr} {r : Int × Int} (h : H t = some (.tup [.int r.1, .int r.2])) : ChAt H (L ++ [.ref t]) (chs ++ [r]) :=
  ⟨by simp [R.len], fun i v e => by
    by_cases hi : i < L.length
    · rw [List.getElem?_append_left hi] at e
      obtain ⟨t, r, a, b, c⟩ := R.get i v e
      exact ⟨t, r, a, by rw [List.getElem?_append_left (by rw [← R.len]; exact hi)]; exact b, c⟩
    · rw [List.getElem?_append_right (by omega)] at e
      have hi2 : i - L.length = 0 := by
        have := (List.getElem?_eq_some_iff.mp e).1
        simp at this; omega
      rw [hi2] at e
      have e : V.ref t = v := by simpa using e
      refine ⟨t, r, e.symm, ?_, h⟩
      rw [List.getElem?_append_right (by rw [← R.len]; omega), ← R.len, hi2]; rfl⟩
/-! ### a Days object -/
def fl (wd ls : Int) (ta sa : Addr) : List (Str × V) := [("wide", .int wd), ("last", .int ls), ("tables", .ref ta), ("set_places", .ref sa)]
theorem s1 : ¬ (("wide" : Str) = "last") := by decide +kernel
theorem s2 : ¬ (("wide" : Str) = "tables") := by decide +kernel
theorem s3 : ¬ (("wide" : Str) = "set_places") := by decide +kernel
theorem s4 : ¬ (("last" : Str) = "tables") := by decide +kernel
theorem s5 : ¬ (("last" : Str) = "set_places") := by decide +kernel
theorem s6 : ¬ (("tables" : Str) = "set_places") := by decide +kernel
/-- the first thing wrong with a change: a place (true), a block (false) -/
def badC (wd : Nat) (c : Int × Int) : Option (Bool × Int) := if c.1 < 0 ∨ (wd : Int) ≤ c.1 then some (true, c.1) else if c.2 < 0 ∨ 18446744073709551615 < c.2 then some (false, c.2) else none
def firstBad (wd : Nat) (chs : List (Int × Int)) : Option (Bool × Int) := chs.findSome? (badC wd)
/-- the table of the next day -/
def nextT (tab : List Int) (chs : List (Int × Int)) : List Int := chs.foldl (fun t c => t.set c.1.toNat c.2) tab
/-- a row of days stands at p; its parts' addresses -/
structure DaysAt (C : Addr) (H : Hp) (p ta sa : Addr) (TL SL : List Addr) (wd : Nat) (tabs sets : List (List Int)) : Prop where
  ob : ∃ dx, H p = some (.ins C dx (fl (wd : Int) ((tabs.length : Int) - 1) ta sa))
  tl : H ta = some (.lst (TL.map V.ref))
  sl : H sa = some (.lst (SL.map V.ref))
  tls : Rows H TL tabs
  sls : Rows H SL sets
  nd : (p :: ta :: sa :: (TL ++ SL)).Nodup
  ne : tabs.length ≠ 0
  lens : sets.length = tabs.length
  wds : ∀ t ∈ tabs, t.length = wd
  w1 : 0 < wd
  w2 : wd ≤ 40
abbrev foot (p ta sa : Addr) (TL SL : List Addr) : List Addr := p :: ta :: sa :: (TL ++ SL)
section
variable {C : Addr} {H H' : Hp} {p ta sa : Addr} {TL SL : List Addr} {wd : Nat} {tabs sets : List (List Int)}
theorem DaysAt.here (D : DaysAt C H p ta sa TL SL wd tabs sets) : ∀ b ∈ foot p ta sa TL SL, ∃ o, H b = some o := by
  intro b hb
  simp only [foot, List.mem_cons, List.mem_append] at hb
  obtain ⟨dx, ob⟩ := D.ob
  rcases hb with rfl | rfl | rfl | hb | hb
  · exact ⟨_, ob⟩
  · exact ⟨_, D.tl⟩
  · exact ⟨_, D.sl⟩
  · exact D.tls.here b hb
  · exact D.sls.here b hb
theorem DaysAt.mono (D : DaysAt C H p ta sa TL SL wd tabs sets) (h : ∀ b ∈ foot p ta sa TL SL, ∀ o, H b = some o → H' b = some o) : DaysAt C H' p ta sa TL SL wd tabs sets := by
  obtain ⟨dx, ob⟩ := D.ob
  exact ⟨⟨dx, h _ (by simp [foot]) _ ob⟩, h _ (by simp [foot]) _ D.tl, h _ (by simp [foot]) _ D.sl, D.tls.mono fun a ha => h a (by simp [foot, ha]), D.sls.mono fun a ha => h a (by simp [foot, ha]), D.nd, D.ne, D.lens, D.wds, D.w1, D.w2⟩
theorem DaysAt.same (D : DaysAt C H p ta sa TL SL wd tabs sets) (h : Same H H') : DaysAt C H' p ta sa TL SL wd tabs sets := D.mono fun b _ o e => h b o e
theorem DaysAt.fresh (D : DaysAt C H p ta sa TL SL wd tabs sets) {a : Addr} (h : H a = none) : a ∉ foot p ta sa TL SL := fun hb => by
  obtain ⟨o, e⟩ := D.here a hb
  rw [h] at e; cases e
theorem DaysAt.lists (D : DaysAt C H p ta sa TL SL wd tabs sets) {b : Addr} (hb : b ∈ foot p ta sa TL SL) : (∃ dx fs, H b = some (.ins C dx fs)) ∨ ∃ xs, H b = some (.lst xs) := by
  simp only [foot, List.mem_cons, List.mem_append] at hb
  obtain ⟨dx, ob⟩ := D.ob
  have rw_ : ∀ {L : List Addr} {xss : List (List Int)}, Rows H L xss → b ∈ L → ∃ xs, H b = some (.lst xs) := fun {L xss} R hm => by
    obtain ⟨i, hi⟩ := List.mem_iff_getElem?.mp hm
    have hl : i < xss.length := by rw [← R.len]; exact (List.getElem?_eq_some_iff.mp hi).1
    exact ⟨_, R.get i b _ hi (List.getElem?_eq_getElem hl)⟩
  rcases hb with rfl | rfl | rfl | hb | hb
  · exact .inl ⟨dx, _, ob⟩
  · exact .inr ⟨_, D.tl⟩
  · exact .inr ⟨_, D.sl⟩
  · exact .inr (rw_ D.tls hb)
  · exact .inr (rw_ D.sls hb)
/-- a row that other doings leave alone -/
theorem DaysAt.apart {F : List Addr} (D : DaysAt C H p ta sa TL SL wd tabs sets) (k : Keep F H H') (h : ∀ b ∈ foot p ta sa TL SL, b ∉ F) : DaysAt C H' p ta sa TL SL wd tabs sets := D.mono fun b hb o e => k b o e (h b hb)
end
end L2
namespace L2
open PySem PySem.Spec PyProof.Rows
/-! ### texts -/
def rSlS : V → Option Int → Option Int → Hp → VK → Prop := fun x lo hi H Q => ∃ z, x = .str z ∧ z.length ≤ sizeLine ∧ Q (.str (Txt.slice z lo hi)) H
section
variable {X : Cx}
end
/-! ### for c in text -/
def Itx (x : Str) : It := ⟨fun i _ => i < x.cps.size, fun i H v H' => H' = H ∧ ∃ c, x.cps[i]? = some c ∧ v = .str ⟨#[c]⟩, fun i _ => x.cps.size ≤ i⟩
def iStr (tl : TE) : TI := fun σ H R => tl σ H fun x H1 => ∃ z, x = .str z ∧ R (Itx z) H1
/-! ### all([..]) of truths -/
def blOf : V → Bool
  | .bl b => b
  | _ => false
end L2
namespace L2
open PySem PySem.Spec PyProof.Rows
/-! ### words that write a number -/
abbrev FIGS : Str := Str.ofString "0123456789"
def figB (c : Nat) : Bool := !(Builtin.Str.occurrences FIGS ⟨#[c]⟩ 0 FIGS.length 1).isEmpty
def isNum (z : Str) : Bool := z.cps.toList.all figB
def okW (z : Str) : Bool := decide (1 ≤ z.length) && decide (z.length ≤ 20) && (decide (z.length = 1) || !decide (z.cps.toList[0]? = some 48)) && isNum z
def intOf (z : Str) : Int := (intText? z).getD 0
theorem ExcAt.same {H H' : Hp} {e C : Addr} {fs : List (Str × V)} (h : ExcAt H e C fs) (s : Same H H') : ExcAt H' e C fs := by
  obtain ⟨raw, od, h1, h2⟩ := h
  refine ⟨raw, od, s _ _ h1, ?_⟩
  cases od with
  | none => exact h2
  | some dx => exact ⟨s _ _ h2.1, h2.2⟩
theorem args2 {a : Addr} {m k : Int} (h : m = k) : [V.ref a, V.int m] = [V.ref a, V.int k] := by rw [h]
end L2
namespace L2
open PySem PySem.Spec PyProof.Rows
/-! ### an exception of a class without __init__ -/
section
variable {prog : Program} {w : World} {A : Around} {E : Value → Shared → Prop} {h : Heap} {g : Array GenState} {d : Drawn} {t : Nat} {os : OsState} {K : PySem.W.Frag} {C f : Addr}
variable {nm q : Str} {N : Addr} {bs bm : List Value} {sn : List Str} {sub : List Value} {ab : Bool} {col : Option Bool} {dd : Option Addr} {k0 k1 k2 k3 k5 : Option Value}
end
/-- C() of an exception's class -/
def tExc0 (C : Addr) : TE := fun σ H Q => ∀ x, H x = none → Q (.ref x) (upd H x (exO true x C none))
section
variable {C : Addr} {f g : Str} {y z : V} {H1 : Hp} {Q : VK}
end
end L2
namespace L2
open PySem PySem.Spec PyProof.Rows
/-! ### an exception that passes a comprehension -/
section
variable {M : Model} {A : Around} {E : Value → Shared → Prop} {s : Shared} {base : Heap} {env : Env} {outer : List Env} {L e : Addr} {Q : Unit → Shared → Prop}
end
/-- an exception in flight leaves as E wants -/
def PassesI (X : Cx) (E : XS) : Prop := ∀ (pins : List (Addr × Obj)) (σ : St) (H : Hp) (s : Shared) (e C : Addr) (od : Option Addr) (T : Addr) (fl : Value), Inv X pins σ H s → H e = some (exO false e C od) → FpOk X pins H T → Fly s.heap e T fl → E σ (.ref C) (some e) H → X.xe (.ref e) s
section
variable {P : Program} {w : World} {K : PySem.W.Frag} {mg : Str → Option Value} {base : Heap} {N : List Str} {qual : Str} {scope : Scope} {f : Addr} {cd : Value} {A : Around} {outer : List Env} {s₀ : Shared} {H₀ : Hp} {E : XK}
end
theorem Fly.but {h h' : Heap} {e T C : Addr} {fl : Value} (F : Fly h e T fl) (hs : Heap.SameBut C h h') (n1 : e ≠ C) (n2 : T ≠ C) : Fly h' e T fl := by
  obtain ⟨oe, vs, oT, ts, he, hd, h1, hT, hdT, h3, hTe⟩ := F
  exact ⟨oe, vs, oT, ts, hs.extBut _ _ n1 he, hd, h1, hs.extBut _ _ n2 hT, hdT, h3, hTe⟩
section
variable {X : Cx} {scope : Scope} {N : List Str} {k : Nat} {cap : List Nat} {tg iter elt : Expr} {ifs : List Expr} {wi : TI} {g : TG} {tt : TT} {te : TE} {pos : Pos}
end
end L2
namespace L2
open PySem PySem.Spec PyProof.Rows
/-! ### defs with defaults, a base class's method by the class's name, two classes for one call -/
/-- a def whose defaults are dV -/
structure FunD (K : PySem.W.Frag) (x qual : Str) (st : Stmt) (f : Addr) (fd : FuncData) (dV : Value) : Prop where
  ex : ∃ (oc : Value) (od : Option Addr) (kV doc pm : Value) (an : Option Addr) (cdv ct : Value) (osl : Array (Option Value)),
    fd = PySem.W.fnOf x qual (defArgs st) (defBody st) (defScope st) dV kV doc pm an cdv ct ∧ K.lookup f = some ⟨oc, od, .func fd, osl⟩ ∧ PySem.W.codeIn K cdv qual = true
  kp : PySem.W.keepIn K (.ref f) = true
section
variable {P : Program} {w : World} {K : PySem.W.Frag} {mg : Str → Option Value} {base : Heap}
theorem FunD.okX {x qual : Str} {st : Stmt} {f : Addr} {fd : FuncData} {dV : Value} {N ps : List Str} {k : Nat} {sp : Sp} (F : FunD K x qual st f fd dV) (S : FnScope N ps (defScope st)) (len : ∀ vs H Q E, sp vs H Q E → vs.length = ps.length)
    (hbody : ∀ (cdv : Value) (A : Around) (outer : List Env) (s : Shared) (H : Hp) (vs : List V) (Q : VK) (E : XK), Room k (A.deeper (envOfC qual (defScope st) s.heap.objs.size f cdv)) → sp vs H Q E →
      ∃ t, PSs (cxOf (CXx P w) P w K mg base N qual (defScope st) f cdv A outer s H E) (defBody st) t ∧ t { nx := fun _ H' => Q .non H', rt := Q } (start N vs) H) : FnOk P w K mg base (CXx P w) (k + 1) f fd ps sp := by
  obtain ⟨oc, od, kV, doc, pm, an, cdv, ct, osl, rfl, lk, hcd⟩ := F.ex
  exact fn_of lk hcd S len fun A outer s H vs Q E hr hsp => hbody cdv A outer s H vs Q E hr hsp
theorem fund_mk {x qual : Str} {st : Stmt} {f : Addr} {oc dV : Value} {od an : Option Addr} {osl : Array (Option Value)} {kV doc pm cdv ct : Value} (l : K.lookup f = some ⟨oc, od, .func (PySem.W.fnOf x qual (defArgs st) (defBody st) (defScope st) dV kV doc pm an cdv ct), osl⟩)
    (c : PySem.W.codeIn K cdv qual = true) (k : PySem.W.keepIn K (.ref f) = true) : FunD K x qual st f (PySem.W.fnOf x qual (defArgs st) (defBody st) (defScope st) dV kV doc pm an cdv ct) dV := ⟨⟨oc, od, kV, doc, pm, an, cdv, ct, osl, rfl, l, c⟩, k⟩
/-- every call of it, the last ds.length values being the defaults' -/
theorem FunD.binds {x qual : Str} {st : Stmt} {f T : Addr} {fd : FuncData} {ps : List Str} {o : Obj} {its : Array Value} {n : Nat} {ds : List Value} (F : FunD K x qual st f fd (.ref T)) (ho : K.lookup T = some o) (hs : o.data = .seq its n)
    (h : ∀ (kV doc pm : Value) (an : Option Addr) (cdv ct : Value) (us : List Value), us.length + ds.length = ps.length → ∃ k : Option (Array Value) → Sem (List (Str × Value)),
      bindArgs (PySem.W.fnOf x qual (defArgs st) (defBody st) (defScope st) (.ref T) kV doc pm an cdv ct) ⟨us, []⟩ = seqItems? (.ref T) >>= k ∧ k (some its) = pure (ps.zip (us ++ ds))) : Binds K fd ps ds := by
  obtain ⟨oc, od, kV, doc, pm, an, cdv, ct, osl, rfl, lk, hcd⟩ := F.ex
  intro s us X hl
  obtain ⟨k, h1, h2⟩ := h kV doc pm an cdv ct us (by rw [← List.length_append]; exact hl)
  exact PySem.W.binds_K X rfl ho hs h1 h2
end
section
variable (P : Program) (w : World) (K : PySem.W.Frag) (mg : Str → Option Value) (base : Heap)
structure DefXd (x : Str) (k : Nat) (ps : List Str) (ds : List Value) (sp : Sp) : Prop where
  ex : ∃ (f : Addr) (fd : FuncData), mg x = some (.ref f) ∧ FnOk P w K mg base (CXx P w) k f fd ps sp ∧ PySem.W.keepIn K (.ref f) = true ∧ Binds K fd ps ds
structure MakeXd (x : Str) (C : Addr) (k : Nat) (ps : List Str) (ds : List Value) (sp : Sp) : Prop where
  ex : ∃ (f : Addr) (fd : FuncData), mg x = some (.ref C) ∧ Mk K C f ∧ FnOk P w K mg base (CXx P w) k f fd ps sp ∧ Binds K fd ps ds
/-- the function that stands in the class C under m -/
structure ClsFn (C : Addr) (m : Str) (f : Addr) : Prop where
  ga : PySem.W.specialIn K (.ref C) "__getattribute__" = some (some (.builtin "type.__getattribute__"))
  rd : PySem.W.readsIn K C (.type "type") = true
  fc : PySem.W.findCls K (.ref C) (.type "type") m = some (.val (.ref f))
  kp : PySem.W.keepIn K (.ref f) = true
structure ClsX (x : Str) (C : Addr) (m : Str) (k : Nat) (ps : List Str) (sp : Sp) : Prop where
  ex : ∃ (f : Addr) (fd : FuncData), mg x = some (.ref C) ∧ ClsFn K C m f ∧ FnOk P w K mg base (CXx P w) k f fd ps sp ∧ Binds K fd ps []
end
def tCallSd (sp : Sp) (E : XS) (dvs : List V) (t : TA) : TE := fun σ H Q => t σ H fun vs H1 => sp (vs ++ dvs) H1 Q (E σ)
def tMakeSd (C : Addr) (sp : Sp) (E : XS) (dvs : List V) (t : TA) : TE := fun σ H Q => t σ H fun vs H1 => ∀ x dx, H1 x = none → H1 dx = none → dx ≠ x →
  sp (.ref x :: (vs ++ dvs)) (upd (upd H1 dx (.own x)) x (.ins C dx [])) (fun v H2 => v = .non ∧ Q (.ref x) H2) (E σ)
def tEither (t1 t2 : TE) : TE := fun σ H Q => t1 σ H Q ∨ t2 σ H Q
section
variable {X : Cx} {k : Nat} {f C : Addr} {fd : FuncData} {ps : List Str} {sp : Sp} {E : XS} {x m : Str} {p pos apos : Pos} {e o : Expr} {es : List Expr} {ta : TE} {t : TA} {ds : List Value} {dvs : List V}
theorem pe_or2 {t1 t2 : TE} (h1 : PE X e t1) (h2 : PE X e t2) : PE X e (tEither t1 t2) := fun pins s σ H Q I h => h.elim (h1 pins s σ H Q I) (h2 pins s σ H Q I)
theorem op_isB : OpR X (compareOp .Is) (fun x y H Q => ∃ b c, x = .bl b ∧ y = .bl c ∧ Q (.bl (decide (b = c))) H) := by
  intro pins s σ H x y v u Q I rx ry h
  obtain ⟨b, c, rfl, rfl, q⟩ := h
  cases rx
  cases ry
  refine wpAny_is_plain rfl (fin_bl I q ?_)
  cases b <;> cases c <;> rfl
theorem call_int_bl : CallR X (.type "int") (fun xs H Q => ∃ b : Bool, xs = [.bl b] ∧ Q (.int (if b then 1 else 0)) H) := by
  rintro pins s σ H xs us Q I r ⟨b, rfl, q⟩
  obtain ⟨u, rfl, ru⟩ := vals1 r
  cases (show u = Value.bool b from ru)
  exact call_int_bool ⟨.int _, H, I.tok _, ⟨_, rfl⟩, q⟩
theorem run_makeSd {pins : List (Addr × Obj)} {σ : St} {H : Hp} {s : Shared} {Q : VK} {us : List Value} {vs : List V} (M : Mk X.K C f) (F : FnOk X.prog X.w X.K X.mg X.base (CXx X.prog X.w) k f fd ps sp) (hr : Room (k + 1) X.A) (hb : Binds X.K fd ps ds) (rd : Vals dvs ds)
    (hx : PassesS X E) (I : Inv X pins σ H s) (r : Vals vs us)
    (h : ∀ x dx, H x = none → H dx = none → dx ≠ x → sp (.ref x :: (vs ++ dvs)) (upd (upd H dx (.own x)) x (.ins C dx [])) (fun v H2 => v = .non ∧ Q (.ref x) H2) (E σ)) :
    wpAny (model X.prog X.w) X.A (call (.ref C) us) (EP X pins σ Q) X.xe s := by
  have hq := h (s.heap.objs.size + 1) s.heap.objs.size (I.hok.fresh (Nat.le_succ _)) (I.hok.fresh (Nat.le_refl _)) (Nat.ne_of_lt (Nat.lt_succ_self _))
  have I2 := Inv.made (C := C) I
  have r2 : Vals (V.ref (s.heap.objs.size + 1) :: (vs ++ dvs)) (Value.ref (s.heap.objs.size + 1) :: us ++ ds) := .cons rfl (Vals.append r rd)
  have hl : (Value.ref (s.heap.objs.size + 1) :: us ++ ds).length = ps.length := by
    have e := r2.length
    rw [F.len _ _ _ _ hq] at e
    exact e.symm
  have hb' := hb _ (Value.ref (s.heap.objs.size + 1) :: us) I2.kIn hl
  refine wpAny_call (make_map (f := f) I.kIn M.makes M.init (beq_iff_eq.mp M.fn) (codeAny_mono (F.run _ X.stack _ _ ⟨Value.ref (s.heap.objs.size + 1) :: us, []⟩ (Value.ref (s.heap.objs.size + 1) :: us ++ ds) _ _ (E σ) (hr.make C us [])
    (I2.env0.make C us []) hb' r2 hq) fun r s' hq' => ?_))
  cases r with
  | error e => exact hx pins σ _ _ e s' I2 hq'
  | ok fl =>
    cases fl with
    | ret u =>
      obtain ⟨v, H', I3, rv, ev, q3⟩ := I2.after hq'
      subst ev
      exact ⟨rv, ⟨V.ref (s.heap.objs.size + 1), H', I3, rfl, q3⟩⟩
    | next => exact False.elim hq'
    | brk => exact False.elim hq'
    | cont => exact False.elim hq'
theorem pe_makeSd (D : MakeXd X.prog X.w X.K X.mg X.base x C k ps ds sp) (rd : Vals dvs ds) (hx : PassesS X E) (hr : Room (k + 1) X.A) (hg : Gl X x) (ha : PA X (e :: es) t)
    (hdb : (x == ("__debug__" : Str)) = false := by decide) (he : starEach (e :: es) X.env = (false, eval e X.env) :: starEach es X.env := by rfl) (hpl : (backTo pos (starEach es X.env)).any (·.1) = false := by rfl) :
    PE X (.Call (.Name x p) (e :: es) [] pos) (tMakeSd C sp E dvs t) := by
  obtain ⟨f, fd, m, M, F, b⟩ := D.ex
  intro pins s σ H Q I h
  refine wpAny_Call_Name_kw (ld_glob I hg m ?_ hdb)
  refine PySem.W.callWith_K (h₀ := X.base) I.ok.mod.kin M.kp (thn (ha pos pins s σ H _ I h) fun us s1 ⟨vs, H1, I1, r, q⟩ => ⟨I1.kIn, ?_⟩) he hpl
  exact run_makeSd M F hr b rd hx I1 r q
/-- C.m(self, ..), C an own class -/
theorem pe_clsS {pl : Sem Bool} (he : PE X o (tC (.ref C))) (D : ClsX X.prog X.w X.K X.mg X.base x C m k ps sp) (hx : PassesS X E) (hr : Room k X.A) (ha : PA X (e :: es) t)
    (hst : starEach (e :: es) X.env = (false, eval e X.env) :: starEach es X.env := by rfl) (hpl : (backTo pos (starEach es X.env)).any (·.1) = false := by rfl)
    (ht : eval (.Call (.Attribute o m apos) (e :: es) [] pos) X.env = (do
      let ov ← eval o X.env
      standAt apos.atName
      let (f, first) ← holding [ov] (getMethod ov m pl)
      callWith pos f first (backTo pos (starEach (e :: es) X.env)) (backToKw pos (keywordEach [] X.env))) := by rfl) :
    PE X (.Call (.Attribute o m apos) (e :: es) [] pos) (tCallS sp E t) := by
  obtain ⟨f, fd, _, c, F, b⟩ := D.ex
  intro pins s σ H Q I h
  refine PySem.W.methodCall_KW (pl := pl) (thn (he pins s σ H (fun v H' => v = .ref C ∧ H' = H) I ⟨rfl, rfl⟩) fun u s1 ⟨x, H1, I1, rx, ex, eH⟩ => ?_) ht
  subst ex eH
  obtain rfl : u = Value.ref C := rx
  refine PySem.W.method_cls I1.kIn c.ga (PySem.W.cls_value I1.kIn c.rd c.fc rfl ?_)
  refine PySem.W.callWith_K (first := []) (h₀ := X.base) I.ok.mod.kin c.kp (thn (ha pos pins _ σ H1 _ (I1.tok _) h) fun us s2 ⟨vs, H2, I2, r, q2⟩ => ⟨I2.kIn, ?_⟩) hst hpl
  exact run_fnS F hr b hx I2 r q2
end
end L2
namespace L2
open PySem PySem.Spec PyProof.Rows
/-! ### for a, b in zip(t, l): a tuple (or a list) and a list that the body leaves as they are -/
/-- an iterator over a list or a tuple, at its k-th item -/
def Src (i l : Addr) (its : Array Value) (k : Nat) (h : Heap) : Prop := (h.IsListIter i l k ∧ h.IsList l its) ∨ (h.IsTupleIter i l k ∧ h.IsTuple l its)
theorem Src.mv {i l : Addr} {its : Array Value} {k : Nat} {h h' : Heap} (x : Src i l its k h) (e1 : ∀ o, h.get? i = some o → h'.get? i = some o) (e2 : ∀ o, h.get? l = some o → h'.get? l = some o) : Src i l its k h' := by
  rcases x with ⟨⟨o, a, b⟩, ⟨p, c, d⟩⟩ | ⟨⟨o, a, b⟩, ⟨p, c, d⟩⟩
  · exact .inl ⟨⟨o, e1 o a, b⟩, ⟨p, e2 p c, d⟩⟩
  · exact .inr ⟨⟨o, e1 o a, b⟩, ⟨p, e2 p c, d⟩⟩
theorem Src.lt {i l : Addr} {its : Array Value} {k : Nat} {h : Heap} (x : Src i l its k h) : i < h.objs.size := by
  rcases x with ⟨⟨o, a, b⟩, _⟩ | ⟨⟨o, a, b⟩, _⟩ <;> exact Heap.lt_size a
section
variable {prog : Program} {w : World} {A : Around} {E : Value → Shared → Prop} {s : Shared} {i l : Addr} {its : Array Value} {k : Nat}
theorem tup_next {x : Value} {Q : Value → Shared → Prop} (h1 : s.heap.IsTupleIter i l k) (h2 : s.heap.IsTuple l its) (hx : its[k]? = some x) (hQ : ∀ h', h'.IsTupleIter i l (k + 1) → Heap.SameBut i s.heap h' → Q x { s with heap := h' }) :
    wpAny (model prog w) A (Builtin.SmallTypes.nextOf (.ref i)) Q E s := by
  obtain ⟨o, ho, hc, hd⟩ := id h1
  obtain ⟨ot, hot, _, nt, hdt⟩ := h2
  have S := PySem.F.slot_tuple_iterator_next
  unfold Builtin.SmallTypes.nextOf
  refine wpAny_bind (wpAny_callSpecial?_slot (name := Str.ofString "__next__") h1.typeIs S (wpAny_call_entry S h1.typeIs PySem.F.entry_tuple_iterator_next ?_ (PySem.F.args_tuple_iterator_next_1 _)))
  show wpAny _ _ (field (Value.ref i) 0 >>= _) _ _ s
  refine wpAny_bind (wpAny_field ho hd (x := Value.ref l) rfl ?_)
  show wpAny _ _ (if (Value.ref l == .none) = true then _ else _) _ _ s
  rw [if_neg (by simp)]
  show wpAny _ _ (field (Value.ref i) 1 >>= _) _ _ s
  refine wpAny_bind (wpAny_field ho hd (x := Value.int k 0) rfl ?_)
  show wpAny _ _ (seqItems? (Value.ref l) >>= _) _ _ s
  refine wpAny_bind (wpAny_seqItems hot hdt ?_)
  simp only [Int.toNat_natCast, hx]
  refine wpAny_bind (wpAny_setField ho hd (by simp) (wpAny_pure ⟨x, rfl, wpAny_pure (hQ _ ⟨_, Heap.get?_update_self _ ho (Obj.isFreed_of_fields (Obj.data_mapFields hd _)), (Obj.cls_mapFields ..).trans hc, ?_⟩ (Heap.SameBut.update ..))⟩))
  rw [Obj.data_mapFields hd]
  simp [rawInt]
theorem tup_end {Q : Value → Shared → Prop} (hh : A.handled = none) (h1 : s.heap.IsTupleIter i l k) (h2 : s.heap.IsTuple l its) (hx : its[k]? = none) (hE : ∀ h' e, Heap.ExtBut i s.heap h' → (∃ o, h'.get? e = some o ∧ o.cls = .type "StopIteration") → E (.ref e) { s with heap := h' }) :
    wpAny (model prog w) A (Builtin.SmallTypes.nextOf (.ref i)) Q E s := by
  obtain ⟨o, ho, hc, hd⟩ := id h1
  obtain ⟨ot, hot, _, nt, hdt⟩ := h2
  have S := PySem.F.slot_tuple_iterator_next
  unfold Builtin.SmallTypes.nextOf
  refine wpAny_bind (wpAny_callSpecial?_slot (name := Str.ofString "__next__") h1.typeIs S (wpAny_call_entry S h1.typeIs PySem.F.entry_tuple_iterator_next ?_ (PySem.F.args_tuple_iterator_next_1 _)))
  show wpAny _ _ (field (Value.ref i) 0 >>= _) _ _ s
  refine wpAny_bind (wpAny_field ho hd (x := Value.ref l) rfl ?_)
  show wpAny _ _ (if (Value.ref l == .none) = true then _ else _) _ _ s
  rw [if_neg (by simp)]
  show wpAny _ _ (field (Value.ref i) 1 >>= _) _ _ s
  refine wpAny_bind (wpAny_field ho hd (x := Value.int k 0) rfl ?_)
  show wpAny _ _ (seqItems? (Value.ref l) >>= _) _ _ s
  refine wpAny_bind (wpAny_seqItems hot hdt ?_)
  simp only [Int.toNat_natCast, hx]
  refine wpAny_bind (wpAny_rule (wpAny_bind (wpAny_setField ho hd (by simp) ?_)))
  show wpAny _ _ (newExc (Value.type "StopIteration") [] >>= _) _ _ _
  refine wpAny_bind ?_
  simp only [newExc, newTuple]
  refine wpAny_bind (wpAny_newObj_type ?_ (by size_fits))
  refine wpAny_bind (m := firstArgMember _ _) (wpAny_of_eq (a := Value.none) (by simp only [firstArgMember]; rfl) (wpAny_newObj_type ?_ (by size_fits)))
  simp only [raiseNew]
  refine wpAny_bind (wpAny_handled ?_)
  rw [show A.in1.handled = none from hh]
  exact wpAny_bind (wpAny_pure (wpAny_throw (hE _ _ (((Heap.SameBut.update ..).extBut.push _).push _) ⟨_, Heap.get?_push_size _ rfl, rfl⟩)))
theorem Src.item {x : Value} {Q : Value → Shared → Prop} (S : Src i l its k s.heap) (ne : l ≠ i) (hx : its[k]? = some x) (hQ : ∀ h', Src i l its (k + 1) h' → Heap.SameBut i s.heap h' → Q x { s with heap := h' }) :
    wpAny (model prog w) A (Builtin.SmallTypes.nextOf (.ref i)) Q E s := by
  rcases S with ⟨a, b⟩ | ⟨a, b⟩
  · exact wpAny_nextOf_list_item a b hx fun h' a' sb => hQ h' (.inl ⟨a', let ⟨p, c, d⟩ := b; ⟨p, sb.extBut _ _ ne c, d⟩⟩) sb
  · exact tup_next a b hx fun h' a' sb => hQ h' (.inr ⟨a', let ⟨p, c, d⟩ := b; ⟨p, sb.extBut _ _ ne c, d⟩⟩) sb
theorem Src.fin {Q : Value → Shared → Prop} (hh : A.handled = none) (S : Src i l its k s.heap) (hx : its[k]? = none) (hE : ∀ h' e, Heap.ExtBut i s.heap h' → (∃ o, h'.get? e = some o ∧ o.cls = .type "StopIteration") → E (.ref e) { s with heap := h' }) :
    wpAny (model prog w) A (Builtin.SmallTypes.nextOf (.ref i)) Q E s := by
  rcases S with ⟨a, b⟩ | ⟨a, b⟩
  · exact wpAny_nextOf_list_end hh a b hx hE
  · exact tup_end hh a b hx hE
end
section
variable {prog : Program} {w : World} {A : Around} {E : Value → Shared → Prop} {s : Shared} {z TI TO i1 i2 l1 l2 : Addr} {k1 k2 : Nat} {xs ys : Array Value} {x y a b : Value}
theorem zipS_item {Q : Value → Shared → Prop} (D : ZipApart z TI TO i1 i2 l1 l2) (hz : IsZip s.heap z TI TO .none) (hI : IsPair s.heap TI (.ref i1) (.ref i2)) (hO : IsPair s.heap TO a b) (S1 : Src i1 l1 xs k1 s.heap) (S2 : Src i2 l2 ys k2 s.heap) (hx : xs[k1]? = some x) (hy : ys[k2]? = some y)
    (hQ : ∀ h', IsZip h' z TI TO (rawInt s.heap.objs.size) → IsPair h' TO x y → Src i1 l1 xs (k1 + 1) h' → Src i2 l2 ys (k2 + 1) h' → IsPair h' s.heap.objs.size x y → h'.objs.size = s.heap.objs.size + 1 → (∀ c o, c ≠ z → c ≠ TO → c ≠ i1 → c ≠ i2 → s.heap.get? c = some o → h'.get? c = some o) → Q (.ref s.heap.objs.size) { s with heap := h' }) :
    wpAny (model prog w) A (Builtin.«zip.__next__» ⟨[.ref z], []⟩) (fun fin s' => ∃ v, fin = .done (.ret v) ∧ Q v s') E s := by
  show wpAny _ _ (field (Value.ref z) 2 >>= _) _ _ s
  refine wpAny_bind (wpAny_field hz rfl (x := Value.bool false) rfl ?_)
  show wpAny _ _ (field (Value.ref z) 3 >>= _) _ _ s
  refine wpAny_bind (wpAny_field hz rfl (x := Value.ref TI) rfl (wpAny_bind (wpAny_seqItems hI rfl ?_)))
  show wpAny _ _ (Builtin.SmallTypes.ownedTupleIsFree (Value.ref z) >>= _) _ _ s
  unfold Builtin.SmallTypes.ownedTupleIsFree
  refine wpAny_bind (wpAny_bind (wpAny_field hz rfl (x := Value.none) rfl (wpAny_pure ?_)))
  simp only [if_true]
  refine wpAny_bind (wpAny_rule (wpAny_bind (wpAny_field hz rfl (x := Value.ref TO) rfl (wpAny_bind (wpAny_setField_rec hz (by simp) fun h1 hz1 b1 => ?_)))))
  replace hz1 : IsZip h1 z TI TO Value.ellipsis := hz1
  refine wpAny_bind ?_
  simp only [List.zipIdx_cons, List.zipIdx_nil, List.forIn_cons, List.forIn_nil]
  refine wpAny_bind (wpAny_bind (wpAny_onRaise ?_))
  show wpAny _ _ (Builtin.SmallTypes.nextOf (Value.ref i1) >>= _) _ _ _
  refine wpAny_bind (Src.item (S1.mv (fun o e => b1.extBut _ _ D.i1z e) fun o e => b1.extBut _ _ D.l1z e) D.l1i1 hx fun h2 S12 b2 => wpAny_pure ?_)
  have hO2 : IsPair h2 TO a b := b2.extBut _ _ D.TOi1 (b1.extBut _ _ D.TOz hO)
  refine wpAny_bind (wpAny_seqItems hO2 rfl (wpAny_bind (wpAny_updateSeq_pair hO2 fun h3 hO3 b3 => ?_)))
  replace hO3 : IsPair h3 TO x b := hO3
  refine wpAny_bind (wpAny_letGo (wpAny_pure (wpAny_bind (wpAny_bind (wpAny_onRaise ?_)))))
  show wpAny _ _ (Builtin.SmallTypes.nextOf (Value.ref i2) >>= _) _ _ _
  refine wpAny_bind (Src.item (S2.mv (fun o e => b3.extBut _ _ D.TOi2.symm (b2.extBut _ _ D.i12.symm (b1.extBut _ _ D.i2z e))) fun o e => b3.extBut _ _ D.l2TO (b2.extBut _ _ D.l2i1 (b1.extBut _ _ D.l2z e))) D.l2i2 hy fun h4 S24 b4 => wpAny_pure ?_)
  have hO4 : IsPair h4 TO x b := b4.extBut _ _ D.TOi2 hO3
  refine wpAny_bind (wpAny_seqItems hO4 rfl (wpAny_bind (wpAny_updateSeq_pair hO4 fun h5 hO5 b5 => ?_)))
  replace hO5 : IsPair h5 TO x y := hO5
  refine wpAny_bind (wpAny_letGo (wpAny_pure (wpAny_pure (wpAny_bind (wpAny_seqItems hO5 rfl (wpAny_bind (wpAny_newTuple ?_)))))))
  have sz : h5.objs.size = s.heap.objs.size := by rw [b5.1, b4.1, b3.1, b2.1, b1.1]
  have hz5 : IsZip h5 z TI TO Value.ellipsis := b5.extBut _ _ D.TOz.symm (b4.extBut _ _ D.i2z.symm (b3.extBut _ _ D.TOz.symm (b2.extBut _ _ D.i1z.symm hz1)))
  have k5 : ∀ c o, c ≠ z → c ≠ TO → c ≠ i1 → c ≠ i2 → s.heap.get? c = some o → h5.get? c = some o := fun c o n1 n2 n3 n4 e => b5.extBut _ _ n2 (b4.extBut _ _ n4 (b3.extBut _ _ n2 (b2.extBut _ _ n3 (b1.extBut _ _ n1 e))))
  have S15 : Src i1 l1 xs (k1 + 1) h5 := S12.mv (fun o e => b5.extBut _ _ D.TOi1.symm (b4.extBut _ _ D.i12 (b3.extBut _ _ D.TOi1.symm e))) fun o e => b5.extBut _ _ D.l1TO (b4.extBut _ _ D.l1i2 (b3.extBut _ _ D.l1TO e))
  have S25 : Src i2 l2 ys (k2 + 1) h5 := S24.mv (fun o e => b5.extBut _ _ D.TOi2.symm e) fun o e => b5.extBut _ _ D.l2TO e
  have zlt := Heap.lt_size hz5
  show wpAny _ _ (Builtin.SmallTypes.ownedTupleHandOut (Value.ref z) (Value.ref h5.objs.size) >>= _) _ _ _
  unfold Builtin.SmallTypes.ownedTupleHandOut
  have hz6 : IsZip (h5.push { cls := .type "tuple", data := .seq #[x, y] }) z TI TO Value.ellipsis := Heap.get?_push_of_some _ hz5
  refine wpAny_bind (wpAny_bind (wpAny_setField_rec hz6 (by simp) fun h7 hz7 b7 => ?_))
  replace hz7 : IsZip h7 z TI TO (rawInt h5.objs.size) := hz7
  refine wpAny_setField_rec hz7 (by simp) fun h8 hz8 b8 => ?_
  replace hz8 : IsZip h8 z TI TO (rawInt h5.objs.size) := hz8
  have up : ∀ c o, c ≠ z → h5.get? c = some o → h8.get? c = some o := fun c o n1 e => b8.extBut _ _ n1 (b7.extBut _ _ n1 (Heap.get?_push_of_some _ e))
  have hT8 : IsPair h8 h5.objs.size x y := b8.extBut _ _ (Nat.ne_of_gt zlt) (b7.extBut _ _ (Nat.ne_of_gt zlt) (Heap.get?_push_size _ rfl))
  have sz8 : h8.objs.size = h5.objs.size + 1 := by rw [b8.1, b7.1, Heap.size_push]
  rw [sz] at hz8 hT8 sz8
  refine wpAny_pure ⟨_, rfl, ?_⟩
  show Q (Value.ref h5.objs.size) _
  rw [sz]
  exact hQ h8 hz8 (up _ _ D.TOz hO5) (S15.mv (fun o e => up _ o D.i1z e) fun o e => up _ o D.l1z e) (S25.mv (fun o e => up _ o D.i2z e) fun o e => up _ o D.l2z e) hT8 sz8 fun c o n1 n2 n3 n4 e => up c o n1 (k5 c o n1 n2 n3 n4 e)
theorem zipS_end {Q : Fin → Shared → Prop} (hh : A.handled = none) (D : ZipApart z TI TO i1 i2 l1 l2) (hz : IsZip s.heap z TI TO .none) (hI : IsPair s.heap TI (.ref i1) (.ref i2)) (hO : IsPair s.heap TO a b) (S1 : Src i1 l1 xs k1 s.heap) (S2 : Src i2 l2 ys k2 s.heap) (hend : xs[k1]? = none ∨ ys[k2]? = none)
    (hE : ∀ h' e, (∀ c o, c ≠ z → c ≠ TO → c ≠ i1 → c ≠ i2 → s.heap.get? c = some o → h'.get? c = some o) → (∃ o, h'.get? e = some o ∧ o.cls = .type "StopIteration") → E (.ref e) { s with heap := h' }) :
    wpAny (model prog w) A (Builtin.«zip.__next__» ⟨[.ref z], []⟩) Q E s := by
  show wpAny _ _ (field (Value.ref z) 2 >>= _) _ _ s
  refine wpAny_bind (wpAny_field hz rfl (x := Value.bool false) rfl ?_)
  show wpAny _ _ (field (Value.ref z) 3 >>= _) _ _ s
  refine wpAny_bind (wpAny_field hz rfl (x := Value.ref TI) rfl (wpAny_bind (wpAny_seqItems hI rfl ?_)))
  show wpAny _ _ (Builtin.SmallTypes.ownedTupleIsFree (Value.ref z) >>= _) _ _ s
  unfold Builtin.SmallTypes.ownedTupleIsFree
  refine wpAny_bind (wpAny_bind (wpAny_field hz rfl (x := Value.none) rfl (wpAny_pure ?_)))
  simp only [if_true]
  refine wpAny_bind (wpAny_rule (wpAny_bind (wpAny_field hz rfl (x := Value.ref TO) rfl (wpAny_bind (wpAny_setField_rec hz (by simp) fun h1 hz1 b1 => ?_)))))
  replace hz1 : IsZip h1 z TI TO Value.ellipsis := hz1
  refine wpAny_bind ?_
  simp only [List.zipIdx_cons, List.zipIdx_nil, List.forIn_cons, List.forIn_nil]
  refine wpAny_bind (wpAny_bind (wpAny_onRaise ?_))
  show wpAny _ _ (Builtin.SmallTypes.nextOf (Value.ref i1) >>= _) _ _ _
  have S1' := S1.mv (h' := h1) (fun o e => b1.extBut _ _ D.i1z e) fun o e => b1.extBut _ _ D.l1z e
  cases hx : xs[k1]? with
  | none =>
    refine wpAny_bind (Src.fin hh S1' hx fun h2 e b2 he => ?_)
    obtain ⟨oe, hoe, hce⟩ := he
    have hz2 : IsZip h2 z TI TO Value.ellipsis := b2 _ _ D.i1z.symm hz1
    have hez : e ≠ z := fun q => by rw [q, hz2] at hoe; cases hoe; simp at hce
    exact wpAny_setField_rec hz2 (by simp) fun h3 _ b3 => hE h3 e (fun c o n1 _ n3 _ q => b3.extBut _ _ n1 (b2 _ _ n3 (b1.extBut _ _ n1 q))) ⟨oe, b3.extBut _ _ hez hoe, hce⟩
  | some x =>
    have hy : ys[k2]? = none := hend.resolve_left fun h => by rw [hx] at h; cases h
    refine wpAny_bind (Src.item S1' D.l1i1 hx fun h2 S12 b2 => wpAny_pure ?_)
    have hO2 : IsPair h2 TO a b := b2.extBut _ _ D.TOi1 (b1.extBut _ _ D.TOz hO)
    refine wpAny_bind (wpAny_seqItems hO2 rfl (wpAny_bind (wpAny_updateSeq_pair hO2 fun h3 hO3 b3 => ?_)))
    refine wpAny_bind (wpAny_letGo (wpAny_pure (wpAny_bind (wpAny_bind (wpAny_onRaise ?_)))))
    show wpAny _ _ (Builtin.SmallTypes.nextOf (Value.ref i2) >>= _) _ _ _
    refine wpAny_bind (Src.fin hh (S2.mv (fun o e => b3.extBut _ _ D.TOi2.symm (b2.extBut _ _ D.i12.symm (b1.extBut _ _ D.i2z e))) fun o e => b3.extBut _ _ D.l2TO (b2.extBut _ _ D.l2i1 (b1.extBut _ _ D.l2z e))) hy fun h4 e b4 he => ?_)
    obtain ⟨oe, hoe, hce⟩ := he
    have hz4 : IsZip h4 z TI TO Value.ellipsis := b4 _ _ D.i2z.symm (b3.extBut _ _ D.TOz.symm (b2.extBut _ _ D.i1z.symm hz1))
    have hez : e ≠ z := fun q => by rw [q, hz4] at hoe; cases hoe; simp at hce
    exact wpAny_setField_rec hz4 (by simp) fun h5 _ b5 => hE h5 e (fun c o n1 n2 n3 n4 q => b5.extBut _ _ n1 (b4 _ _ n4 (b3.extBut _ _ n2 (b2.extBut _ _ n3 (b1.extBut _ _ n1 q))))) ⟨oe, b5.extBut _ _ hez hoe, hce⟩
theorem nextS_item {Q : Option Value → Shared → Prop} (D : ZipApart z TI TO i1 i2 l1 l2) (hz : IsZip s.heap z TI TO .none) (hI : IsPair s.heap TI (.ref i1) (.ref i2)) (hO : IsPair s.heap TO a b) (S1 : Src i1 l1 xs k1 s.heap) (S2 : Src i2 l2 ys k2 s.heap) (hx : xs[k1]? = some x) (hy : ys[k2]? = some y)
    (hQ : ∀ h', IsZip h' z TI TO (rawInt s.heap.objs.size) → IsPair h' TO x y → Src i1 l1 xs (k1 + 1) h' → Src i2 l2 ys (k2 + 1) h' → IsPair h' s.heap.objs.size x y → h'.objs.size = s.heap.objs.size + 1 → (∀ c o, c ≠ z → c ≠ TO → c ≠ i1 → c ≠ i2 → s.heap.get? c = some o → h'.get? c = some o) → Q (some (.ref s.heap.objs.size)) { s with heap := h' }) :
    wpAny (model prog w) A (pyNext (.ref z)) Q E s := by
  have T : s.TypeIs (.ref z) "zip" := ⟨_, hz, rfl⟩
  have S := PySem.F.slot_zip_next
  unfold pyNext
  exact wpAny_bind (wpAny_attempt (wpAny_callSpecial?_slot (name := Str.ofString "__next__") T S (wpAny_call_entry S T PySem.F.entry_zip_next (zipS_item D hz hI hO S1 S2 hx hy fun h' a1 a2 a3 a4 a5 a6 a7 => wpAny_pure (hQ h' a1 a2 a3 a4 a5 a6 a7)) (PySem.F.args_zip_next_1 _))))
theorem nextS_end {Q : Option Value → Shared → Prop} (hh : A.handled = none) (D : ZipApart z TI TO i1 i2 l1 l2) (hz : IsZip s.heap z TI TO .none) (hI : IsPair s.heap TI (.ref i1) (.ref i2)) (hO : IsPair s.heap TO a b) (S1 : Src i1 l1 xs k1 s.heap) (S2 : Src i2 l2 ys k2 s.heap) (hend : xs[k1]? = none ∨ ys[k2]? = none)
    (hQ : ∀ h', (∀ c o, c ≠ z → c ≠ TO → c ≠ i1 → c ≠ i2 → s.heap.get? c = some o → h'.get? c = some o) → Q none { s with heap := h' }) : wpAny (model prog w) A (pyNext (.ref z)) Q E s := by
  have T : s.TypeIs (.ref z) "zip" := ⟨_, hz, rfl⟩
  have S := PySem.F.slot_zip_next
  unfold pyNext
  refine wpAny_bind (wpAny_attempt (wpAny_callSpecial?_slot (name := Str.ofString "__next__") T S (wpAny_call_entry S T PySem.F.entry_zip_next (zipS_end hh D hz hI hO S1 S2 hend fun h' e hk he => ?_) (PySem.F.args_zip_next_1 _))))
  obtain ⟨o, ho, hc⟩ := he
  exact wpAny_bind (wpAny_isInstance (T := "StopIteration") (b := true) ⟨o, ho, hc⟩ isSubtype_stop (wpAny_pure (hQ _ hk)))
end
/-! zip(t, l) made -/
abbrev zS1 (h : Heap) (t : Addr) : Heap := h.push { cls := .type "tuple_iterator", data := .fields #[.ref t, .int 0 0] }
abbrev zS2 (h : Heap) (t l : Addr) : Heap := (zS1 h t).push { cls := .type "list_iterator", data := .fields #[.ref l, .int 0 0] }
abbrev zS3 (h : Heap) (t l : Addr) : Heap := (zS2 h t l).push { cls := .type "tuple", data := .seq #[.ref h.objs.size, .ref (zS1 h t).objs.size] }
abbrev zS4 (h : Heap) (t l : Addr) : Heap := (zS3 h t l).push { cls := .type "tuple", data := .seq #[.none, .none] }
abbrev zS5 (h : Heap) (t l : Addr) : Heap := (zS4 h t l).push { cls := .type "zip", data := .fields #[.none, .bool false, .bool false, .ref (zS2 h t l).objs.size, .ref (zS3 h t l).objs.size] }
theorem zipS_new (t l : Addr) (xs ys : Array Value) : Meets (Builtin.«zip.__new__» ⟨[.type "zip", .ref t, .ref l], []⟩) (fun _ R s => s.heap.IsTuple t xs ∧ s.heap.IsList l ys ∧ R (.ok (.ret (.ref (zS4 s.heap t l).objs.size))) { s with heap := zS5 s.heap t l }) :=
  .of_wp fun prog w A R s hyp => by
    obtain ⟨hp, g, d, tk, os⟩ := s
    obtain ⟨ht, hl, q⟩ := hyp
    have hsub := sub_zip
    have hT : Heap.IsTuple (Shared.heap ⟨hp, g, d, tk, os⟩) t xs := ht
    have hL : Heap.IsList (Shared.heap ⟨hp.push { cls := .type "tuple_iterator", data := .fields #[.ref t, .int 0 0] }, g, d, tk, os⟩) l ys := Heap.IsList.push hl _
    wp_walk using wpAny_pyIter_tuple hT, wpAny_pyIter_list hL
    exact ⟨_, rfl, q⟩
theorem call_zipS {prog : Program} {w : World} {A : Around} {E : Value → Shared → Prop} {s : Shared} {t l : Addr} {xs ys : Array Value} {Q : Value → Shared → Prop} (ht : s.heap.IsTuple t xs) (hl : s.heap.IsList l ys)
    (h : ∀ h', IsZip h' (s.heap.objs.size + 4) (s.heap.objs.size + 2) (s.heap.objs.size + 3) .none → IsPair h' (s.heap.objs.size + 2) (.ref s.heap.objs.size) (.ref (s.heap.objs.size + 1)) → IsPair h' (s.heap.objs.size + 3) .none .none → Src s.heap.objs.size t xs 0 h' → Src (s.heap.objs.size + 1) l ys 0 h' →
      (∀ c o, s.heap.get? c = some o → h'.get? c = some o) → Q (.ref (s.heap.objs.size + 4)) { s with heap := h' }) : wpAny (model prog w) A (call (.type "zip") [.ref t, .ref l]) Q E s := by
  refine callType_new PySem.F.called_zip (by decide) (PySem.F.typeCall_zip_2 _ _) (PySem.F.newCall_zip_2 _ _) (fun obj => PySem.F.args_object_init_3 obj _ _) PySem.F.entry_zip_new (zipS_new t l xs ys) ⟨ht, hl, ?_⟩
  have n1 : (zS1 s.heap t).objs.size = s.heap.objs.size + 1 := Heap.size_push ..
  have n2 : (zS2 s.heap t l).objs.size = s.heap.objs.size + 2 := by rw [Heap.size_push, n1]
  have n3 : (zS3 s.heap t l).objs.size = s.heap.objs.size + 3 := by rw [Heap.size_push, n2]
  have n4 : (zS4 s.heap t l).objs.size = s.heap.objs.size + 4 := by rw [Heap.size_push, n3]
  have up : ∀ c o, s.heap.get? c = some o → (zS5 s.heap t l).get? c = some o := fun c o e => Heap.get?_push_of_some _ (Heap.get?_push_of_some _ (Heap.get?_push_of_some _ (Heap.get?_push_of_some _ (Heap.get?_push_of_some _ e))))
  have g5 : (zS5 s.heap t l).get? (zS4 s.heap t l).objs.size = some _ := Heap.get?_push_size _ rfl
  have g4 : (zS5 s.heap t l).get? (zS3 s.heap t l).objs.size = some _ := Heap.get?_push_of_some _ (Heap.get?_push_size _ rfl)
  have g3 : (zS5 s.heap t l).get? (zS2 s.heap t l).objs.size = some _ := Heap.get?_push_of_some _ (Heap.get?_push_of_some _ (Heap.get?_push_size _ rfl))
  have g2 : (zS5 s.heap t l).get? (zS1 s.heap t).objs.size = some _ := Heap.get?_push_of_some _ (Heap.get?_push_of_some _ (Heap.get?_push_of_some _ (Heap.get?_push_size _ rfl)))
  have g1 : (zS5 s.heap t l).get? s.heap.objs.size = some _ := Heap.get?_push_of_some _ (Heap.get?_push_of_some _ (Heap.get?_push_of_some _ (Heap.get?_push_of_some _ (Heap.get?_push_size _ rfl))))
  rw [n2, n3, n4] at g5
  rw [n1, n2] at g3
  rw [n3] at g4
  rw [n1] at g2
  obtain ⟨ot, het, rt⟩ := ht
  obtain ⟨ol, hel, rl⟩ := hl
  show _ ∧ _
  rw [n4]
  exact ⟨⟨_, g5, rfl⟩, h _ g5 g3 g4 (.inr ⟨⟨_, g1, rfl, rfl⟩, ⟨ot, up _ _ het, rt⟩⟩) (.inl ⟨⟨_, g2, rfl, rfl⟩, ⟨ol, up _ _ hel, rl⟩⟩) up⟩
theorem Src.tup {i l : Addr} {its us : Array Value} {k : Nat} {h : Heap} (x : Src i l its k h) (t : h.IsTuple l us) : h.IsTupleIter i l k := by
  rcases x with ⟨_, ⟨p, c, d, _⟩⟩ | ⟨a, _⟩
  · obtain ⟨q, e, f, _⟩ := t
    rw [c] at e; cases e; rw [d] at f; simp at f
  · exact a
theorem Src.lst {i l : Addr} {its us : Array Value} {k : Nat} {h : Heap} (x : Src i l its k h) (t : h.IsList l us) : h.IsListIter i l k := by
  rcases x with ⟨a, _⟩ | ⟨_, ⟨p, c, d, _⟩⟩
  · exact a
  · obtain ⟨q, e, f, _⟩ := t
    rw [c] at e; cases e; rw [d] at f; simp at f
def ItzS (K : PySem.W.Frag) (l1 l2 : Addr) : It :=
  ⟨fun i H => ∃ xs ys x y, SqT K H l1 xs ∧ SqL K H l2 ys ∧ xs[i]? = some x ∧ ys[i]? = some y,
   fun i H v H' => ∃ T x y, H T = none ∧ v = .ref T ∧ H' = upd H T (.tup [x, y]) ∧ (∀ xs, SqT K H l1 xs → xs[i]? = some x) ∧ ∀ ys, SqL K H l2 ys → ys[i]? = some y,
   fun i H => ∃ xs ys, SqT K H l1 xs ∧ SqL K H l2 ys ∧ (xs.length ≤ i ∨ ys.length ≤ i)⟩
def ZipStS (z TI TO i1 i2 l1 l2 : Addr) (i : Nat) (h : Heap) : Prop :=
  IsZip h z TI TO .none ∧ IsPair h TI (.ref i1) (.ref i2) ∧ (∃ a b, IsPair h TO a b) ∧ h.IsTupleIter i1 l1 i ∧ h.IsListIter i2 l2 i
theorem turn_zipS {P : Program} {w : World} {K : PySem.W.Frag} {es : List Expr} {x1} {tp : Pos} (z TI TO i1 i2 l1 l2 : Addr) (D : ZipApart z TI TO i1 i2 l1 l2) :
    Turn P w K (.Tuple es x1 tp) (ItzS K l1 l2) [z, TI, TO, i1, i2] z (ZipStS z TI TO i1 i2 l1 l2) where
  mem := by simp
  obj := fun i h st b hb => by
    obtain ⟨h1, h2, ⟨_, _, h3⟩, h4, h5⟩ := st
    simp only [List.mem_cons, List.not_mem_nil, or_false] at hb
    rcases hb with rfl | rfl | rfl | rfl | rfl
    · exact ⟨_, h1, fun v q => nomatch q⟩
    · exact ⟨_, h2, fun v q => nomatch q⟩
    · exact ⟨_, h3, fun v q => nomatch q⟩
    · obtain ⟨o, e, _, d⟩ := h4
      exact ⟨o, e, fun v q => by rw [d] at q; cases q⟩
    · obtain ⟨o, e, _, d⟩ := h5
      exact ⟨o, e, fun v q => by rw [d] at q; cases q⟩
  keep := fun i h h' st k => by
    obtain ⟨h1, h2, ⟨a, b, h3⟩, ⟨o4, e4, r4⟩, ⟨o5, e5, r5⟩⟩ := st
    exact ⟨k z (by simp) _ h1, k TI (by simp) _ h2, ⟨a, b, k TO (by simp) _ h3⟩, ⟨o4, k i1 (by simp) _ e4, r4⟩, ⟨o5, k i2 (by simp) _ e5, r5⟩⟩
  item := by
    intro X hP hw hK hc i pins s σ H E I hf st hg
    subst hP hw hK
    obtain ⟨h1, h2, ⟨a, b, h3⟩, h4, h5⟩ := st
    obtain ⟨xs, ys, x, y, hx, hy, ex, ey⟩ := hg
    obtain ⟨us, rx, px, _⟩ := I.tuple hx
    obtain ⟨vs, ry, py, _⟩ := I.list hy
    obtain ⟨u, eu, ru⟩ := Vals.get rx ex
    obtain ⟨v, ev, rv⟩ := Vals.get ry ey
    have px' : s.heap.IsTuple l1 us.toArray := px
    refine nextS_item D h1 h2 h3 (.inr ⟨h4, px'⟩) (.inl ⟨h5, py.isList⟩) (by simpa using eu) (by simpa using ev) fun h' z1 z2 z3 z4 z5 z6 kk => ?_
    have px2 : h'.IsTuple l1 us.toArray := let ⟨o, e, r⟩ := px'; ⟨o, kk _ o D.l1z D.l1TO D.l1i1 D.l1i2 e, r⟩
    have py2 : h'.IsList l2 vs.toArray := let ⟨o, e, r⟩ := py.isList; ⟨o, kk _ o D.l2z D.l2TO D.l2i1 D.l2i2 e, r⟩
    replace z3 := z3.tup px2
    replace z4 := z4.lst py2
    refine ⟨_, rfl, wpAny_letOwnedTupleGo_zip z1 fun h'' y1 sb => ?_⟩
    have lt : ∀ b ∈ [z, TI, TO, i1, i2], b < s.heap.objs.size := fun b hb => by
      simp only [List.mem_cons, List.not_mem_nil, or_false] at hb
      rcases hb with rfl | rfl | rfl | rfl | rfl
      · exact Heap.lt_size h1
      · exact Heap.lt_size h2
      · exact Heap.lt_size h3
      · obtain ⟨o, e, _⟩ := h4; exact Heap.lt_size e
      · obtain ⟨o, e, _⟩ := h5; exact Heap.lt_size e
    have nz : s.heap.objs.size ≠ z := (anelt' (lt z (by simp)) (Nat.le_refl _)).symm
    have keep : ∀ c o, c ∉ [z, TI, TO, i1, i2] → s.heap.get? c = some o → h''.get? c = some o := fun c o hc e => by
      simp only [List.mem_cons, List.not_mem_nil, or_false, not_or] at hc
      exact sb.extBut c o hc.1 (kk c o hc.1 hc.2.2.1 hc.2.2.2.1 hc.2.2.2.2 e)
    have nT : H s.heap.objs.size = none := I.hok.fresh (Nat.le_refl _)
    have hT : h''.get? s.heap.objs.size = some { cls := .type "tuple", data := .seq #[u, v] } := sb.extBut _ _ nz z5
    -- the new pair is tracked
    have I2 : Inv X pins σ (upd H s.heap.objs.size (.tup [x, y])) { s with heap := h'', toks := s.toks } :=
      I.turnedLaid (ch := [z, TI, TO, i1, i2]) keep hf (Nat.le_refl _) ⟨by show 2 ≤ sizeLine; decide, [u, v], .cons ru (.cons rv .nil), ⟨_, hT, rfl, 0, rfl⟩⟩
    refine ⟨.ref s.heap.objs.size, _, I2, rfl, ⟨_, x, y, nT, rfl, rfl, fun xs' h => ?_, fun ys' h => ?_⟩, ⟨y1, ?_, ⟨u, v, ?_⟩, ?_, ?_⟩, fun b hb => ?_⟩
    · rw [I.tuple_inj h hx]; exact ex
    · rw [I.list_inj h hy]; exact ey
    · exact sb.extBut _ _ D.TIz (kk _ _ D.TIz D.TITO D.TIi1 D.TIi2 h2)
    · exact sb.extBut _ _ D.TOz z2
    · obtain ⟨o, e, r⟩ := z3; exact ⟨o, sb.extBut _ _ D.i1z e, r⟩
    · obtain ⟨o, e, r⟩ := z4; exact ⟨o, sb.extBut _ _ D.i2z e, r⟩
    · rw [upd_ne (anelt' (lt b hb) (Nat.le_refl _))]; exact (hf b hb).1
  done := by
    intro X hP hw hK hc i pins s σ H E I hf st hg
    subst hP hw hK
    obtain ⟨h1, h2, ⟨a, b, h3⟩, h4, h5⟩ := st
    obtain ⟨xs, ys, hx, hy, hl⟩ := hg
    obtain ⟨us, rx, px, _⟩ := I.tuple hx
    obtain ⟨vs, ry, py, _⟩ := I.list hy
    have le1 := rx.length
    have le2 := ry.length
    have px' : s.heap.IsTuple l1 us.toArray := px
    refine nextS_end (I.ok.hd hc) D h1 h2 h3 (.inr ⟨h4, px'⟩) (.inl ⟨h5, py.isList⟩) (by simp; omega) fun h' kk => ⟨rfl, ?_⟩
    exact I.turnedMany (t' := s.toks) (ch := [z, TI, TO, i1, i2]) (fun c o hc e => by
      simp only [List.mem_cons, List.not_mem_nil, or_false, not_or] at hc
      exact kk c o hc.1 hc.2.2.1 hc.2.2.2.1 hc.2.2.2.2 e) hf
  self := fun _ _ _ _ _ st h => wpAny_pyIter_zip st.1 h
def iZipS (K : PySem.W.Frag) (ta : TA) : TI := fun σ H R => ta σ H fun vs H1 => ∃ l1 l2, vs = [.ref l1, .ref l2] ∧ (∃ xs, SqT K H1 l1 xs) ∧ (∃ ys, SqL K H1 l2 ys) ∧ R (ItzS K l1 l2) H1
theorem pi_zipS {X : Cx} {a b : Expr} {ta : TA} {p pos : Pos} {es : List Expr} {x1} {tp : Pos} (hg : Gl X "zip") (hm : X.mg "zip" = none) (ha : PA X [a, b] ta) (hs : starEach [a, b] X.env = (false, eval a X.env) :: starEach [b] X.env := by rfl) (hs2 : (backTo pos (starEach [b] X.env)).any (·.1) = false := by rfl) :
    PI X (.Tuple es x1 tp) (.Call (.Name "zip" p) [a, b] [] pos) (iZipS X.K ta) := by
  intro pins s σ H R I h
  refine Call_ (ld_blt I hg hm boot_zip (PyProof.Rows.callWith_type1 (thn (ha pos pins s σ H _ I h) fun us s1 ⟨vs, H1, I1, r1, q1⟩ => ?_) hs hs2))
  obtain ⟨l1, l2, e, ⟨xs, hx⟩, ⟨ys, hy⟩, q⟩ := q1
  subst e
  obtain ⟨u, v, rfl, ru, rv⟩ := vals2 r1
  cases ru
  cases rv
  obtain ⟨us1, rx, px, _⟩ := I1.tuple hx
  have px' : s1.heap.IsTuple l1 us1.toArray := px
  obtain ⟨vs1, ry, py, _⟩ := I1.list hy
  have ll1 : l1 < s1.heap.objs.size := by obtain ⟨o, e, _⟩ := px'; exact Heap.lt_size e
  have ll2 : l2 < s1.heap.objs.size := by obtain ⟨o, e, _⟩ := py.isList; exact Heap.lt_size e
  refine call_zipS px' py.isList fun h' z1 z2 z3 z4 z5 kk => ?_
  replace z4 := z4.tup (let ⟨o, e, r⟩ := px'; ⟨o, kk _ o e, r⟩)
  replace z5 := z5.lst (let ⟨o, e, r⟩ := py.isList; ⟨o, kk _ o e, r⟩)
  refine wpAny_pyIter_zip z1 ?_
  have I2 : Inv X pins σ H1 { s1 with heap := h', toks := s1.toks } := I1.kept kk
  refine ⟨s1.heap.objs.size + 4, _, _, _, H1, rfl, I2, turn_zipS (s1.heap.objs.size + 4) (s1.heap.objs.size + 2) (s1.heap.objs.size + 3) s1.heap.objs.size (s1.heap.objs.size + 1) l1 l2 (zip_apart ll1 ll2), ⟨z1, z2, ⟨_, _, z3⟩, z4, z5⟩, fun b hb => ?_, q⟩
  have hbs : s1.heap.objs.size ≤ b := by
    simp only [List.mem_cons, List.not_mem_nil, or_false] at hb
    rcases hb with h | h | h | h | h <;> rw [h] <;> first | exact Nat.le_refl _ | exact Nat.le_add_right _ _
  exact I1.fpOk hbs (I1.hok.fresh hbs)
theorem for_zipS {K : PySem.W.Frag} {l1 l2 : Addr} {xs ys : List V} {g : TG} {tb : TS} {D : Ends} {σ : St} {H : Hp} (Pv : Nat → St → Hp → Prop) (h0 : Pv 0 σ H) (hl : ∀ i σ H, Pv i σ H → SqT K H l1 xs ∧ SqL K H l2 ys) (hlen : xs.length = ys.length)
    (hs : ∀ i x y σ H T, xs[i]? = some x → ys[i]? = some y → Pv i σ H → H T = none → g (.ref T) σ (upd H T (.tup [x, y])) fun σ2 H2 => tb { D with nx := Pv (i + 1), ct := Pv (i + 1), bk := D.nx } σ2 H2) (hd : ∀ σ H, Pv xs.length σ H → D.nx σ H) :
    ∃ W : Nat → Nat → St → Hp → Prop, (∃ m, W 0 m σ H) ∧ ∀ i m σ H, W i m σ H →
      ((ItzS K l1 l2).stop i H ∧ D.nx σ H) ∨ ((ItzS K l1 l2).go i H ∧ ∃ N : St → Hp → Prop, (∀ σ' H', N σ' H' → ∃ m', m' < m ∧ W (i + 1) m' σ' H') ∧ ∀ x H', (ItzS K l1 l2).yld i H x H' → g x σ H' fun σ2 H2 => tb { D with nx := N, ct := N, bk := D.nx } σ2 H2) := by
  refine ⟨fun i m σ H => m = xs.length - i ∧ i ≤ xs.length ∧ Pv i σ H, ⟨xs.length, by simp, Nat.zero_le _, h0⟩, ?_⟩
  rintro i m σ H ⟨rfl, hi, p⟩
  obtain ⟨q1, q2⟩ := hl i σ H p
  by_cases hlt : i < xs.length
  · have ex : xs[i]? = some xs[i] := List.getElem?_eq_getElem hlt
    have ey : ys[i]? = some (ys[i]'(by omega)) := List.getElem?_eq_getElem (by omega)
    refine .inr ⟨⟨xs, ys, _, _, q1, q2, ex, ey⟩, Pv (i + 1), fun σ' H' p' => ⟨xs.length - (i + 1), by omega, rfl, hlt, p'⟩, ?_⟩
    rintro v H' ⟨T, x, y, nT, rfl, rfl, hx, hy⟩
    exact hs i x y σ H T (hx xs q1) (hy ys q2) p nT
  · have e : i = xs.length := by omega
    subst e
    exact .inl ⟨⟨xs, ys, q1, q2, .inl (Nat.le_refl _)⟩, hd σ H p⟩
end L2
namespace L2
open PySem PySem.Spec PyProof.Rows
theorem comp_tup {K : PySem.W.Frag} {a : Addr} (D : Addr) {xs : List V} {g : TG} {tt : TT} {te : TE} {σ : St} {H : Hp} {R : Hp → Prop} (Pv : Nat → St → Hp → List V → Prop) (h0 : Pv 0 σ H []) (hl : ∀ i σ H ys, i ≤ xs.length → Pv i σ H ys → SqT K H a xs)
    (hs : ∀ i x σ H ys, xs[i]? = some x → Pv i σ H ys → g x σ H fun σ3 H3 => tt σ3 H3 fun b H4 => if b = true then
      te σ3 H4 fun y H5 => H5 D = some (.lst ys) ∧ ys.length < sizeLine ∧ Pv (i + 1) σ3 (upd H5 D (.lst (ys ++ [y]))) (ys ++ [y]) else Pv (i + 1) σ3 H4 ys) (hd : ∀ σ H ys, Pv xs.length σ H ys → R H) :
    ∃ W : Nat → Nat → St → Hp → List V → Prop, (∃ m, W 0 m σ H []) ∧ ∀ i m σ' H' ys, W i m σ' H' ys → ((Itt K a).stop i H' ∧ R H') ∨
      ((Itt K a).go i H' ∧ ∃ N : St → Hp → List V → Prop, (∀ σ' H' ys', N σ' H' ys' → ∃ m', m' < m ∧ W (i + 1) m' σ' H' ys') ∧ ∀ x H2, (Itt K a).yld i H' x H2 → g x σ' H2 fun σ3 H3 => tt σ3 H3 fun b H4 => if b = true then
        te σ3 H4 fun y H5 => H5 D = some (.lst ys) ∧ ys.length < sizeLine ∧ N σ3 (upd H5 D (.lst (ys ++ [y]))) (ys ++ [y])
        else N σ3 H4 ys) := by
  refine ⟨fun i m σ H ys => m = xs.length - i ∧ i ≤ xs.length ∧ Pv i σ H ys, ⟨xs.length, by simp, Nat.zero_le _, h0⟩, ?_⟩
  rintro i m σ H ys ⟨rfl, hi, p⟩
  have q := hl i σ H ys hi p
  by_cases hlt : i < xs.length
  · refine .inr ⟨⟨xs, xs[i], q, by simp [hlt]⟩, Pv (i + 1), fun σ' H' ys' p' => ⟨xs.length - (i + 1), by omega, rfl, hlt, p'⟩, fun x H' y => ?_⟩
    obtain ⟨e, y⟩ := y
    subst e
    exact hs i x σ _ ys (y xs q) p
  · have e : i = xs.length := by omega
    subst e
    exact .inl ⟨⟨xs, q, Nat.le_refl _⟩, hd σ H ys p⟩
/-! ### checks, rows, pieces -/
def tI (n : Int) : Int := n * 128 % 18446744073709551616 + n / 144115188075855872
theorem tI_nat (n : Nat) : tI (n : Int) = (Chk.T n : Nat) := by
  unfold tI Chk.T; omega
theorem xor_nat (a b : Nat) : Builtin.bitXor (a : Int) (b : Int) = ((a ^^^ b : Nat) : Int) := by
  rw [PyProof.Rows.bitXor_and]
  have e : Builtin.bitAnd (a : Int) (b : Int) = ((a &&& b : Nat) : Int) := by
    unfold Builtin.bitAnd
    simp
  rw [e]
  have := Chk.xor_add a b
  omega
def flat (rows : List (Nat × Nat)) : List Nat := rows.flatMap fun r => [r.1, r.2]
theorem flat_snoc (rows : List (Nat × Nat)) (r : Nat × Nat) : flat (rows ++ [r]) = flat rows ++ [r.1, r.2] := by simp [flat]
/-- rows of tuples in the heap -/
structure RowsAt (H : Hp) (L : List V) (rows : List (Nat × Nat)) : Prop where
  len : L.length = rows.length
  get : ∀ (i : Nat) v, L[i]? = some v → ∃ t r, v = V.ref t ∧ rows[i]? = some r ∧ H t = some (.tup [.int (r.1 : Int), .int (r.2 : Int)])
theorem RowsAt.mono {H H' : Hp} {L : List V} {rows : List (Nat × Nat)} (R : RowsAt H L rows) (h : ∀ t xs, H t = some (.tup xs) → H' t = some (.tup xs)) : RowsAt H' L rows :=
  ⟨R.len, fun i v e => let ⟨t, r, a, b, c⟩ := R.get i v e; ⟨t, r, a, b, h t _ c⟩⟩
theorem RowsAt.snoc {H : Hp} {L : List V} {rows : List (Nat × Nat)} (R : RowsAt H L rows) {t : Addr} {r : Nat × Nat} (h : H t = some (.tup [.int (r.1 : Int), .int (r.2 : Int)])) : RowsAt H (L ++ [.ref t]) (rows ++ [r]) :=
  ⟨by simp [R.len], fun i v e => by
    by_cases hi : i < L.length
    · rw [List.getElem?_append_left hi] at e
      obtain ⟨t, r, a, b, c⟩ := R.get i v e
      exact ⟨t, r, a, by rw [List.getElem?_append_left (by rw [← R.len]; exact hi)]; exact b, c⟩
    · rw [List.getElem?_append_right (by omega)] at e
      have hi2 : i - L.length = 0 := by
        have := (List.getElem?_eq_some_iff.mp e).1
        simp at this; omega
      rw [hi2] at e
      have e : V.ref t = v := by simpa using e
      refine ⟨t, r, e.symm, ?_, h⟩
      rw [List.getElem?_append_right (by rw [← R.len]; omega), ← R.len, hi2]; rfl⟩
theorem flat_len (l : List (Nat × Nat)) : (flat l).length = 2 * l.length := by
  induction l with
  | nil => rfl
  | cons r l ih =>
    have : flat (r :: l) = r.1 :: r.2 :: flat l := rfl
    rw [this]; simp only [List.length_cons, ih]; omega
/-- the law's own turn is the same -/
theorem law_turn (c n : Nat) : Builtin.bitXor ((c : Int) * 128 % 18446744073709551616 + (c : Int) * 128 / 18446744073709551616) (n : Int) = (Chk.stp c n : Nat) := by
  have e : (c : Int) * 128 % 18446744073709551616 + (c : Int) * 128 / 18446744073709551616 = (Chk.T c : Nat) := by
    unfold Chk.T; omega
  rw [e, xor_nat]; rfl
theorem put_rows {x v : V} : putF "rows" v [("day", x)] = ([("day", x), ("rows", v)] : List (Str × V)) := by
  rw [putF_ne (by decide +kernel)]; rfl
theorem put_check {x y v : V} : putF "check" v [("day", x), ("rows", y)] = ([("day", x), ("rows", y), ("check", v)] : List (Str × V)) := by
  rw [putF_ne (by decide +kernel), putF_ne (by decide +kernel)]; rfl
theorem put_fits {x y z v : V} : putF "fits" v [("day", x), ("rows", y), ("check", z)] = ([("day", x), ("rows", y), ("check", z), ("fits", v)] : List (Str × V)) := by
  rw [putF_ne (by decide +kernel), putF_ne (by decide +kernel), putF_ne (by decide +kernel)]; rfl
theorem put_base {x y z f v : V} : putF "base" v [("day", x), ("rows", y), ("check", z), ("fits", f)] = ([("day", x), ("rows", y), ("check", z), ("fits", f), ("base", v)] : List (Str × V)) := by
  rw [putF_ne (by decide +kernel), putF_ne (by decide +kernel), putF_ne (by decide +kernel), putF_ne (by decide +kernel)]; rfl
theorem lk_day {x : V} {r : List (Str × V)} : List.lookup ("day" : Str) (("day", x) :: r) = some x := by rw [List.lookup_cons]; simp
theorem lk_rows {x y : V} {r : List (Str × V)} : List.lookup ("rows" : Str) (("day", x) :: ("rows", y) :: r) = some y := by
  rw [List.lookup_cons, show (("rows" : Str) == "day") = false by decide +kernel, List.lookup_cons]; simp
theorem lk_check {x y z : V} {r : List (Str × V)} : List.lookup ("check" : Str) (("day", x) :: ("rows", y) :: ("check", z) :: r) = some z := by
  rw [List.lookup_cons, show (("check" : Str) == "day") = false by decide +kernel, List.lookup_cons, show (("check" : Str) == "rows") = false by decide +kernel, List.lookup_cons]; simp
theorem lk_fits {x y z f : V} {r : List (Str × V)} : List.lookup ("fits" : Str) (("day", x) :: ("rows", y) :: ("check", z) :: ("fits", f) :: r) = some f := by
  rw [List.lookup_cons, show (("fits" : Str) == "day") = false by decide +kernel, List.lookup_cons, show (("fits" : Str) == "rows") = false by decide +kernel, List.lookup_cons, show (("fits" : Str) == "check") = false by decide +kernel, List.lookup_cons]; simp
theorem lk_base {x y z f v : V} {r : List (Str × V)} : List.lookup ("base" : Str) (("day", x) :: ("rows", y) :: ("check", z) :: ("fits", f) :: ("base", v) :: r) = some v := by
  rw [List.lookup_cons, show (("base" : Str) == "day") = false by decide +kernel, List.lookup_cons, show (("base" : Str) == "rows") = false by decide +kernel, List.lookup_cons, show (("base" : Str) == "check") = false by decide +kernel, List.lookup_cons, show (("base" : Str) == "fits") = false by decide +kernel, List.lookup_cons]; simp
def pfs (wh : Bool) (b d : Nat) (r : Addr) (c : Int) (f : Bool) : List (Str × V) := match wh with
  | true => [("day", V.int (d : Int)), ("rows", V.ref r), ("check", V.int c), ("fits", V.bl f)]
  | false => [("day", V.int (d : Int)), ("rows", V.ref r), ("check", V.int c), ("fits", V.bl f), ("base", V.int (b : Int))]
theorem lk_no {m : Str} {wh : Bool} {b d : Nat} {r : Addr} {c : Int} {f : Bool} (h1 : (m == "day") = false) (h2 : (m == "rows") = false) (h3 : (m == "check") = false) (h4 : (m == "base") = false) (h5 : (m == "fits") = false := by decide +kernel) : List.lookup m (pfs wh b d r c f) = none := by
  cases wh
  · show List.lookup m [_, _, _, _, _] = none
    rw [List.lookup_cons, h1, List.lookup_cons, h2, List.lookup_cons, h3, List.lookup_cons, h5, List.lookup_cons, h4]; rfl
  · show List.lookup m [_, _, _, _] = none
    rw [List.lookup_cons, h1, List.lookup_cons, h2, List.lookup_cons, h3, List.lookup_cons, h5]; rfl
/-- the number that goes into the check for the start -/
def stN (wh : Bool) (b : Nat) : Nat := cond wh 0 (b + 1)
def ckOf (wh : Bool) (b d : Nat) (rows : List (Nat × Nat)) : Nat := Chk.chk (stN wh b :: d :: flat rows)
/-- a piece: a whole one of the class CW, a gain of CG; its base, day, rows, check -/
def PAt (CW CG : Addr) (H : Hp) (p : Addr) (wh : Bool) (b d : Nat) (rows : List (Nat × Nat)) (c : Int) : Prop :=
  ∃ dx r R, H p = some (.ins (cond wh CW CG) dx (pfs wh b d r c (decide (c = (ckOf wh b d rows : Nat))))) ∧ H r = some (.tup R) ∧ RowsAt H R rows
theorem PAt.keep {CW CG : Addr} {H H' : Hp} {p : Addr} {wh : Bool} {b d : Nat} {rows : List (Nat × Nat)} {c : Int} (h : PAt CW CG H p wh b d rows c) (s : Same H H') : PAt CW CG H' p wh b d rows c := by
  obtain ⟨dx, r, R, h1, h2, h3⟩ := h
  exact ⟨dx, r, R, s _ _ h1, s _ _ h2, h3.mono fun t xs e => s _ _ e⟩
theorem made_same {H H' : Hp} {x dx : Addr} {o : HO} (hx : H x = none) (hd : H dx = none) (k : Keep [x] (upd (upd H dx (.own x)) x o) H') : Same H H' := fun b u e => by
  have n1 := ne_of_none e hx
  have n2 := ne_of_none e hd
  exact k b u (by rw [upd_ne n1, upd_ne n2]; exact e) (by simpa using n1)
theorem decI {i j : Int} : decide (V.int i = V.int j) = decide (i = j) := decide_eq_decide.mpr ⟨V.int.inj, fun e => by rw [e]⟩
/-! the promises of the checks and pieces -/
def sp_turned : Sp := fun vs H Q _ => ∃ n : Int, vs = [.int n] ∧ Q (.int (tI n)) H
def sp_check : Sp := fun vs H Q _ => ∃ (s d : Nat) (a : Addr) (L : List V) (rows : List (Nat × Nat)), vs = [.int ((s : Int) - 1), .int (d : Int), .ref a] ∧ (H a = some (.lst L) ∨ H a = some (.tup L)) ∧ RowsAt H L rows ∧ rows.length ≤ 100 ∧ ∀ H', Same H H' → Q (.int (Chk.chk (s :: d :: flat rows) : Nat)) H'
def sp_lawcheck : Sp := fun vs H Q _ => ∃ (s d : Nat) (a : Addr) (L : List V) (rows : List (Nat × Nat)), vs = [.int ((s : Int) - 1), .int (d : Int), .ref a] ∧ H a = some (.lst L) ∧ RowsAt H L rows ∧ rows.length ≤ 100 ∧ ∀ H', Same H H' → Q (.int (Chk.chk (s :: d :: flat rows) : Nat)) H'
def sp_pinit (K : PySem.W.Frag) : Sp := fun vs H Q _ => ∃ (p C dx a : Addr) (s d : Nat) (L : List V) (rows : List (Nat × Nat)) (cv : V) (c : Int), vs = [.ref p, .int ((s : Int) - 1), .int (d : Int), .ref a, cv] ∧ H p = some (.ins C dx []) ∧ Cls K C ∧ NoAttr K C "day" ∧ NoAttr K C "rows" ∧ NoAttr K C "check" ∧ NoAttr K C "fits" ∧
  (H a = some (.lst L) ∨ H a = some (.tup L)) ∧ RowsAt H L rows ∧ rows.length ≤ 100 ∧ ((cv = .non ∧ c = (Chk.chk (s :: d :: flat rows) : Nat)) ∨ cv = .int c) ∧
  ∀ r R H', H' p = some (.ins C dx [("day", V.int (d : Int)), ("rows", V.ref r), ("check", V.int c), ("fits", V.bl (decide (c = (Chk.chk (s :: d :: flat rows) : Nat))))]) → H' r = some (.tup R) → RowsAt H' R rows → Keep [p] H H' → Q .non H'
def sp_winit (CW CG : Addr) : Sp := fun vs H Q _ => ∃ (p dx a : Addr) (d : Nat) (L : List V) (rows : List (Nat × Nat)) (cv : V) (c : Int), vs = [.ref p, .int (d : Int), .ref a, cv] ∧ H p = some (.ins CW dx []) ∧
  (H a = some (.lst L) ∨ H a = some (.tup L)) ∧ RowsAt H L rows ∧ rows.length ≤ 100 ∧ ((cv = .non ∧ c = (ckOf true 0 d rows : Nat)) ∨ cv = .int c) ∧ ∀ H', PAt CW CG H' p true 0 d rows c → Keep [p] H H' → Q .non H'
def sp_ginit (CW CG : Addr) : Sp := fun vs H Q _ => ∃ (p dx a : Addr) (b d : Nat) (L : List V) (rows : List (Nat × Nat)) (cv : V) (c : Int), vs = [.ref p, .int (b : Int), .int (d : Int), .ref a, cv] ∧ H p = some (.ins CG dx []) ∧
  (H a = some (.lst L) ∨ H a = some (.tup L)) ∧ RowsAt H L rows ∧ rows.length ≤ 100 ∧ ((cv = .non ∧ c = (ckOf false b d rows : Nat)) ∨ cv = .int c) ∧ ∀ H', PAt CW CG H' p false b d rows c → Keep [p] H H' → Q .non H'
def sp_size (CW CG : Addr) : Sp := fun vs H Q _ => ∃ (p : Addr) (wh : Bool) (b d : Nat) (rows : List (Nat × Nat)) (c : Int), vs = [.ref p] ∧ PAt CW CG H p wh b d rows c ∧ Q (.int (rows.length : Int)) H
def sp_good (CW CG : Addr) : Sp := fun vs H Q _ => ∃ (p : Addr) (wh : Bool) (b d : Nat) (rows : List (Nat × Nat)) (c : Int), vs = [.ref p] ∧ PAt CW CG H p wh b d rows c ∧ rows.length ≤ 100 ∧ ∀ H', Same H H' → Q (.bl (decide (c = (ckOf wh b d rows : Nat)))) H'
def sp_wstart : Sp := fun vs H Q _ => ∃ p : Addr, vs = [.ref p] ∧ Q (.int (-1)) H
def sp_gstart (CW CG : Addr) : Sp := fun vs H Q _ => ∃ (p : Addr) (b d : Nat) (rows : List (Nat × Nat)) (c : Int), vs = [.ref p] ∧ PAt CW CG H p false b d rows c ∧ Q (.int (b : Int)) H
def sp_wkind : Sp := fun vs H Q _ => ∃ p : Addr, vs = [.ref p] ∧ Q (.str (Str.ofString "whole")) H
def sp_gkind : Sp := fun vs H Q _ => ∃ p : Addr, vs = [.ref p] ∧ Q (.str (Str.ofString "gain")) H
end L2
namespace L2
open PySem PySem.Spec PyProof.Rows
/-! ### sorted(xs), sorted(d): fewer than 64 ints -/
theorem vals_of : ∀ {us : List Value} {ns : List Int}, IntsAre us ns → Vals (ns.map V.int) us
  | _, _, .nil => .nil
  | _, _, .cons _ t r => .cons ⟨t, rfl⟩ (vals_of r)
theorem ints_len {us : List Value} {ns : List Int} (h : IntsAre us ns) : us.length = ns.length := by
  have := (vals_of h).length
  rw [List.length_map] at this
  exact this.symm
theorem objOk_there {P : Program} {w : World} {H : Hp} {h : Heap} {a : Addr} {o : HO} (x : ObjOk P w H h a o) : ∃ ob, h.get? a = some ob := by
  cases o with
  | lst xs => obtain ⟨_, _, _, _, e⟩ := x; exact ⟨_, e⟩
  | tup xs => obtain ⟨_, _, _, ob, e, _⟩ := x; exact ⟨_, e⟩
  | dK kvs => obtain ⟨_, _, _, _, o, _, _, e, _⟩ := x; exact ⟨_, e⟩
  | dT kvs => obtain ⟨_, _, _, _, o, _, _, e, _⟩ := x; exact ⟨_, e⟩
  | set S n => obtain ⟨o, _, _, _, e, _⟩ := x; exact ⟨_, e⟩
  | ins C dx fs => obtain ⟨_, _, _, e, _⟩ := x; exact ⟨_, e⟩
  | own y => exact x
  | xd fs => obtain ⟨_, ⟨_, _, _, e, _⟩, _⟩ := x; exact ⟨_, e⟩
  | rng lo hi => obtain ⟨_, _, _, e⟩ := x; exact ⟨_, e⟩
  | frz ob u => exact ⟨_, x.1⟩
  | tbl ps => exact ⟨_, x⟩
  | met f y => exact ⟨_, x⟩
  | ext φ => exact x.2.1
section
variable {X : Cx} {pins : List (Addr × Obj)} {σ : St} {H : Hp} {s : Shared}
/-- a list laid where nothing stood -/
theorem Inv.laidAt {a : Addr} {h' : Heap} {t' : Nat} {vs : List V} (I : Inv X pins σ H s) (hn : s.heap.get? a = none) (k : ∀ b o, s.heap.get? b = some o → h'.get? b = some o) (new : ObjOk X.prog X.w (upd H a (.lst vs)) h' a (.lst vs)) :
    ∃ _ : H a = none, Inv X pins σ (upd H a (.lst vs)) { s with heap := h', toks := t' } ∧ True := by
  have hHn : H a = none := by
    cases z : H a with
    | none => rfl
    | some o =>
      obtain ⟨ob, hob⟩ := objOk_there (I.hok a o z)
      rw [hn] at hob; cases hob
  refine ⟨hHn, ?_, trivial⟩
  have na : ∀ b o, s.heap.get? b = some o → b ≠ a := fun b o e z => by rw [z, hn] at e; cases e
  have hu : Un X.fs [] H (upd H a (.lst vs)) s.heap h' := by
    refine ⟨fun b o e _ _ _ => k b o e, fun b o e _ _ _ => ⟨o.slots, k b o e⟩, fun b o e n _ => ?_, fun b o e _ => ⟨o, k b o e⟩, fun b xs e => ?_, fun b o u e => ?_, fun b ps e => ⟨#[], ?_⟩⟩
    · rw [upd_ne (na b o e)]; exact n
    · rw [upd_ne (ne_of_none e hHn)]; exact e
    · rw [upd_ne (ne_of_none e hHn)]; exact e
    · rw [upd_ne (ne_of_none e hHn), e]; simp
  refine I.un hu fun b o e => ?_
  by_cases z : b = a
  · subst z; rw [upd_same] at e; cases e; exact new
  · rw [upd_ne z] at e
    exact (I.hok b o e).stay (fun c v _ q => k c v q) (fun c q => by rw [upd_ne (ne_of_none q hHn)]; exact q) fun c xs q => by rw [upd_ne (ne_of_none q hHn)]; exact q
end
section
variable {X : Cx}
/-- the keys of a dict of ints -/
theorem call_sortedD (hc : X.calm = true) : CallR X (.builtin "sorted") (fun xs H Q => ∃ (a : Addr) (kvs : List (Key × V)) (ns : List Int), xs = [.ref a] ∧ H a = some (.dK kvs) ∧ kvs.map (·.1) = ns.map Sum.inl ∧ ns.length < 64 ∧
    ∀ (l : Addr) (ns' : List Int), H l = none → ns'.Perm ns → ns'.Pairwise (· ≤ ·) → Q (.ref l) (upd H l (.lst (ns'.map V.int)))) := by
  rintro pins s σ H xs us Q I r ⟨a, kvs, ns, rfl, hD, hk, h64, q⟩
  obtain ⟨u, rfl, ru⟩ := vals1 r
  cases (show u = Value.ref a from ru)
  obtain ⟨hsz, lo, vs, kv, hd⟩ := dk_of I.hok hD
  obtain ⟨ep, hat⟩ := hd.dictAt
  have hkeys := kv.keys
  have hvl : vs.length = ns.length := by
    have := congrArg List.length (hkeys.symm.trans hk)
    simpa using this
  refine Calls.call_function_entry kind_sorted plain_sorted entry_sorted (args_sorted1 _) ?_
  unfold Builtin.«sorted»
  refine wpAny_bind (m := checkCount "sorted" 1 1 _) (wpAny_pure ?_)
  refine wpAny_bind (PySem.W.kdu_collect (A := X.A.in1) (PySem.W.kdl_dict (knd := mixKind X.prog X.w) (kvs := vs) (ep := ep) lo) (I.ok.hd hc) hat (by rw [hvl]; exact Nat.le_of_lt (small1000 (by omega))) fun h' tk acc keep hacc => ?_)
  have hI : IntsAre acc.toList ns := by
    refine intsAre_of ?_
    have hal : acc.toList.length = ns.length := by rw [Array.length_toList, hacc.1, hvl]
    have key : ∀ (j : Nat) v, acc.toList[j]? = some v → ∃ n t, ns[j]? = some n ∧ v = Value.int n t := fun j v e => by
      obtain ⟨k, x, h1, h2⟩ := hacc.2 j v (by rw [← Array.getElem?_toList]; exact e)
      have e1 : (vs.map (·.1))[j]? = some k := by rw [List.getElem?_map, h1]; rfl
      rw [← hkeys, hk, List.getElem?_map] at e1
      obtain ⟨n, e2, e3⟩ := Option.map_eq_some_iff.mp e1
      subst e3
      have h2 : keyIs (Sum.inl n) v = true := h2
      rcases keyIs_shape h2 with ⟨i, t, e5, e4⟩ | ⟨y, t, e5, e4⟩
      · first | (cases e4; subst e5; exact ⟨n, t, e2, rfl⟩) | (cases e5; subst e4; exact ⟨n, t, e2, rfl⟩)
      · first | (cases e4; done) | (cases e5; done)
    clear hacc
    generalize acc.toList = us at hal key
    clear hk hvl h64 q
    induction us generalizing ns with
    | nil => cases ns with
      | nil => exact .nil
      | cons n ns => simp at hal
    | cons u us ih => cases ns with
      | nil => simp at hal
      | cons n ns =>
        obtain ⟨m, t, e1, e2⟩ := key 0 u rfl
        have e1 : n = m := by simpa using e1
        subst e1
        exact .cons ⟨t, e2⟩ (ih (ns := ns) (by simpa using hal) fun j v e => by
          obtain ⟨m, t, a1, a2⟩ := key (j + 1) v (by simpa using e)
          exact ⟨m, t, by simpa using a1, a2⟩)
  have hal : acc.toList.length < 64 := by rw [ints_len hI]; exact h64
  refine wpAny_bind (wpAny_newList ?_ (Nat.le_of_lt (small1000 (by omega))))
  have hoL : (h'.push (seqObj "list" acc.toList.toArray 0)).get? h'.objs.size = some (seqObj "list" acc.toList.toArray 0) := Heap.get?_push_size _ rfl
  refine wpAny_bind (wpAny_holding (wpAny_call_entry slot_list_sort ⟨_, hoL, rfl⟩ entry_list_sort (list_sort_tree hoL hI hal fun out ns' b1 b2 b3 => ⟨_, rfl, ?_⟩) (args_list_sort _)))
  refine wpAny_pure ⟨_, rfl, ?_⟩
  obtain ⟨e, hat2⟩ := sortedHeap_at (out := out) hoL
  have hno : s.heap.get? h'.objs.size = none := by
    cases z : s.heap.get? h'.objs.size with
    | none => rfl
    | some o => exact absurd (Heap.lt_size (keep _ _ z)) (Nat.lt_irrefl _)
  have hlen : ns'.length ≤ sizeLine := by rw [b2.length_eq]; exact Nat.le_of_lt (small1000 (by omega))
  have keep2 : ∀ b o, s.heap.get? b = some o → (sortedHeap (h'.push (seqObj "list" acc.toList.toArray 0)) h'.objs.size acc.toList out).get? b = some o := fun b o z => by
    have hb := keep b o z
    have hlt := Heap.lt_size hb
    rw [sortedHeap_old (Nat.ne_of_lt hlt) (by rw [size_push']; exact Nat.lt_succ_of_lt hlt)]
    exact Heap.get?_push_of_some _ hb
  obtain ⟨H', I', _⟩ := I.laidAt (t' := tk) (vs := ns'.map V.int) hno keep2 ⟨by rw [List.length_map]; exact hlen, out.toList, e, vals_of b1, by simpa using hat2⟩
  exact ⟨.ref h'.objs.size, _, I', rfl, q _ ns' H' b2 b3⟩
end
end L2
namespace L2
open PySem PySem.Spec PyProof.Rows
/-! ### a shelf on the abstract heap -/
def sfs (d : Addr) (fl : Int) : List (Str × V) := [("pieces", V.ref d), ("follows", V.int fl)]
def ShAt (C : Addr) (H : Hp) (p d : Addr) (fl : Int) (kvs : List (Key × V)) : Prop := ∃ dx, H p = some (.ins C dx (sfs d fl)) ∧ H d = some (.dK kvs)
theorem ShAt.keep {C : Addr} {H H' : Hp} {p d : Addr} {fl : Int} {kvs : List (Key × V)} (h : ShAt C H p d fl kvs) (s : Same H H') : ShAt C H' p d fl kvs := by
  obtain ⟨dx, h1, h2⟩ := h
  exact ⟨dx, s _ _ h1, s _ _ h2⟩
def sp_sinit (C : Addr) : Sp := fun vs H Q _ => ∃ (p dx : Addr), vs = [.ref p] ∧ H p = some (.ins C dx []) ∧ ∀ d H', ShAt C H' p d 0 [] → H d = none → Keep [p] H H' → Q .non H'
def sp_lay (C : Addr) : Sp := fun vs H Q _ => ∃ (p d : Addr) (fl : Int) (kvs : List (Key × V)) (n : Int) (a : Addr), vs = [.ref p, .int n, .ref a] ∧ ShAt C H p d fl kvs ∧ kvs.length < 1000 ∧
  ∀ H', ShAt C H' p d (if n + 1 > fl then n + 1 else fl) (putK kvs (.inl n) (.ref a)) → Keep [p, d] H H' → Q .non H'
def sp_put (C : Addr) : Sp := fun vs H Q _ => ∃ (p d : Addr) (fl : Int) (kvs : List (Key × V)) (a : Addr), vs = [.ref p, .ref a] ∧ ShAt C H p d fl kvs ∧ kvs.length < 1000 ∧
  ∀ H', ShAt C H' p d (fl + 1) (putK kvs (.inl fl) (.ref a)) → Keep [p, d] H H' → Q (.int fl) H'
def sp_piece (C CN : Addr) : Sp := fun vs H Q E => ∃ (p d : Addr) (fl : Int) (kvs : List (Key × V)) (n : Int), vs = [.ref p, .int n] ∧ ShAt C H p d fl kvs ∧ (∀ v, valV kvs (.inl n) = some v → Q v H) ∧
  (valV kvs (.inl n) = none → ∀ e H', ExcAt H' e CN [("number", .int n)] → Same H H' → E (.ref CN) (some e) H')
def sp_drop (C CN : Addr) : Sp := fun vs H Q E => ∃ (p d : Addr) (fl : Int) (kvs : List (Key × V)) (n : Int), vs = [.ref p, .int n] ∧ ShAt C H p d fl kvs ∧
  (∀ v, valV kvs (.inl n) = some v → ∀ H', ShAt C H' p d fl (dropK kvs (.inl n)) → Keep [p, d] H H' → Q v H') ∧
  (valV kvs (.inl n) = none → ∀ e H', ExcAt H' e CN [("number", .int n)] → Same H H' → E (.ref CN) (some e) H')
end L2
namespace L2
open PySem PySem.Spec PyProof.Rows
def wayGo (M : Int → Option (Int × Int)) : Int → List Int → Option Int
  | at', [] => some at'
  | at', n :: r => match M n with
    | none => none
    | some (s, d) => if s = at' then wayGo M d r else none
theorem iteNN {c A B : Prop} [Decidable c] (hc : ¬ c) (h : A) : if (!decide c) = true then A else B := by
  rw [decide_eq_false hc, if_pos (by decide)]; exact h
def wayB (M : Int → Option (Int × Int)) (way : List Int) (day : Int) : Bool := !way.isEmpty && decide (wayGo M (-1) way = some day)
def PRep (CW CG : Addr) (H : Hp) (v : V) (s d : Int) : Prop := ∃ (a : Addr) (wh : Bool) (b dd : Nat) (rows : List (Nat × Nat)) (c : Int), v = .ref a ∧ PAt CW CG H a wh b dd rows c ∧ d = (dd : Int) ∧ s = (stN wh b : Int) - 1
def SRep (CW CG : Addr) (H : Hp) (kvs : List (Key × V)) (M : Int → Option (Int × Int)) : Prop := ∀ n : Int, match M n with
  | none => valV kvs (Sum.inl n) = none
  | some (s, d) => ∃ v, valV kvs (Sum.inl n) = some v ∧ PRep CW CG H v s d
theorem SRep.keep {CW CG : Addr} {H H' : Hp} {kvs : List (Key × V)} {M : Int → Option (Int × Int)} (h : SRep CW CG H kvs M) (s : Same H H') : SRep CW CG H' kvs M := fun n => by
  have := h n
  cases e : M n with
  | none => rw [e] at this; exact this
  | some sd =>
    rw [e] at this
    obtain ⟨v, hv, a, wh, b, dd, rows, c, h1, h2, h3, h4⟩ := this
    exact ⟨v, hv, a, wh, b, dd, rows, c, h1, h2.keep s, h3, h4⟩
def AI (n : Nat) (L : List V) : Prop := ∃ ys : List Int, L = ys.map V.int ∧ ys.length ≤ n
theorem AI.len {n : Nat} {L : List V} (h : AI n L) : L.length ≤ n := by
  obtain ⟨ys, rfl, h⟩ := h; rw [List.length_map]; exact h
theorem AI.one (o : Int) : AI 1 [V.int o] := ⟨[o], rfl, by simp⟩
theorem AI.cut {lo hi : Option Int} (way : List Int) : AI way.length (cutV (way.map V.int) lo hi) := by
  unfold cutV
  refine ⟨_, by rw [← List.map_drop, ← List.map_take], ?_⟩
  rw [List.length_take, List.length_drop]; omega

theorem SeqEq.ints {K : PySem.W.Frag} {H : Hp} {a c : Addr} {xs ys : List Int} (h1 : SqL K H a (xs.map V.int)) (h2 : SqL K H c (ys.map V.int)) : SeqEq K H (EqI K H 0) (.ref a) (.ref c) (decide (xs = ys)) := by
  by_cases hl : xs.length = ys.length
  · refine ⟨a, c, _, _, fun j => decide (xs[j]? = ys[j]?), rfl, rfl, .inl ⟨h1, h2, by simpa using hl, fun j x' y' e1 e2 => ?_, ?_⟩⟩
    · rw [List.getElem?_map] at e1 e2
      obtain ⟨x, ex, rfl⟩ := Option.map_eq_some_iff.mp e1
      obtain ⟨y, ey, rfl⟩ := Option.map_eq_some_iff.mp e2
      refine .inl ⟨rfl, rfl, ?_⟩
      show decide (xs[j]? = ys[j]?) = eqV (.int x) (.int y)
      rw [ex, ey]
      show decide (some x = some y) = (x == y)
      rw [Bool.eq_iff_iff, decide_eq_true_iff, beq_iff_eq]
      exact ⟨fun h => Option.some.inj h, fun h => by rw [h]⟩
    · rw [List.length_map, Bool.eq_iff_iff, decide_eq_true_iff, List.all_eq_true]
      constructor
      · rintro rfl j _; simp
      · intro h
        refine List.ext_getElem? fun j => ?_
        by_cases hj : j < xs.length
        · exact of_decide_eq_true (h j (List.mem_range.mpr hj))
        · rw [List.getElem?_eq_none (by omega), List.getElem?_eq_none (by omega)]
  · refine ⟨a, c, _, _, fun _ => true, rfl, rfl, .inr (.inl ⟨h1, h2, by simpa using hl, ?_⟩)⟩
    exact decide_eq_false (fun e => hl (by rw [e]))
/-! ### dicts with int keys -/
theorem valV_drop (kvs : List (Key × V)) (k j : Key) : valV (dropK kvs k) j = if j = k then none else valV kvs j := by
  induction kvs with
  | nil => show none = _; split <;> rfl
  | cons p r ih =>
    have e : dropK (p :: r) k = if p.1 = k then dropK r k else p :: dropK r k := by
      unfold dropK; rw [List.filter_cons]; by_cases h : p.1 = k <;> simp [h]
    rw [e]
    by_cases h : p.1 = k
    · rw [if_pos h, ih]
      by_cases hj : j = k
      · rw [if_pos hj, if_pos hj]
      · rw [if_neg hj, if_neg hj, valV_neg (fun z => hj (z.symm.trans h))]
    · rw [if_neg h]
      by_cases hp : p.1 = j
      · rw [valV_pos hp, valV_pos hp, if_neg (fun z => h (hp.trans z))]
      · rw [valV_neg hp, valV_neg hp, ih]
def AllI (lkv : List (Key × V)) : Prop := ∀ kv ∈ lkv, ∃ n : Int, kv.1 = Sum.inl n
theorem AllI.nil : AllI [] := fun _ h => by cases h
theorem AllI.put {kvs : List (Key × V)} (h : AllI kvs) (n : Int) (v : V) : AllI (putK kvs (Sum.inl n) v) := fun kv hm => by
  unfold putK at hm
  split at hm
  · obtain ⟨kv', h1, rfl⟩ := List.mem_map.mp hm
    obtain ⟨m, e⟩ := h kv' h1
    split
    · exact ⟨m, e⟩
    · exact ⟨m, e⟩
  · rcases List.mem_append.mp hm with h1 | h1
    · exact h kv h1
    · have : kv = (Sum.inl n, v) := by simpa using h1
      exact ⟨n, by rw [this]⟩
theorem AllI.drop {kvs : List (Key × V)} (h : AllI kvs) (k : Key) : AllI (dropK kvs k) := fun kv hm => h kv (List.mem_filter.mp hm).1
theorem AllI.ints : ∀ {kvs : List (Key × V)}, AllI kvs → ∃ ns : List Int, kvs.map (·.1) = ns.map Sum.inl ∧ ns.length = kvs.length
  | [], _ => ⟨[], rfl, rfl⟩
  | kv :: r, h => by
    obtain ⟨n, e⟩ := h kv (List.mem_cons_self ..)
    obtain ⟨ns, e1, e2⟩ := AllI.ints (kvs := r) fun x hx => h x (List.mem_cons_of_mem _ hx)
    exact ⟨n :: ns, by simp [e, e1], by simp [e2]⟩
abbrev Lies := Int → Option (Int × Int)
def mput (M : Lies) (n : Int) (x : Option (Int × Int)) : Lies := fun m => if m = n then x else M m
theorem mput_eq {M : Lies} {n : Int} {x : Option (Int × Int)} : mput M n x n = x := if_pos rfl
theorem mput_ne {M : Lies} {n m : Int} {x : Option (Int × Int)} (h : m ≠ n) : mput M n x m = M m := if_neg h
/-- the law's own dict: the start and the day of each number -/
def LRep (H : Hp) (lkv : List (Key × V)) (M : Lies) : Prop := ∀ n : Int, match M n with
  | none => valV lkv (Sum.inl n) = none
  | some (s, d) => ∃ t, valV lkv (Sum.inl n) = some (.ref t) ∧ H t = some (.tup [.int s, .int d])
theorem LRep.mono {H H' : Hp} {lkv : List (Key × V)} {M : Lies} (h : LRep H lkv M) (s : ∀ t xs, H t = some (.tup xs) → H' t = some (.tup xs)) : LRep H' lkv M := fun n => by
  have := h n
  cases e : M n with
  | none => rw [e] at this; exact this
  | some sd =>
    rw [e] at this
    obtain ⟨t, hv, ht⟩ := this
    exact ⟨t, hv, s t _ ht⟩
theorem LRep.put {H : Hp} {lkv : List (Key × V)} {M : Lies} (h : LRep H lkv M) {n s d : Int} {t : Addr} (ht : H t = some (.tup [.int s, .int d])) : LRep H (putK lkv (Sum.inl n) (.ref t)) (mput M n (some (s, d))) := fun m => by
  by_cases e : m = n
  · subst e; rw [mput_eq]; exact ⟨t, by rw [valV_put, if_pos rfl], ht⟩
  · rw [mput_ne e, valV_put, if_neg (fun z => e (Sum.inl.inj z))]; exact h m
theorem LRep.drop {H : Hp} {lkv : List (Key × V)} {M : Lies} (h : LRep H lkv M) (n : Int) : LRep H (dropK lkv (Sum.inl n)) (mput M n none) := fun m => by
  by_cases e : m = n
  · subst e; rw [mput_eq]; show valV _ _ = none; rw [valV_drop, if_pos rfl]
  · rw [mput_ne e, valV_drop, if_neg (fun z => e (Sum.inl.inj z))]; exact h m
theorem SRep.put {CW CG : Addr} {H : Hp} {kvs : List (Key × V)} {M : Lies} (h : SRep CW CG H kvs M) {n s d : Int} {v : V} (hv : PRep CW CG H v s d) : SRep CW CG H (putK kvs (Sum.inl n) v) (mput M n (some (s, d))) := fun m => by
  by_cases e : m = n
  · subst e; rw [mput_eq]; exact ⟨v, by rw [valV_put, if_pos rfl], hv⟩
  · rw [mput_ne e, valV_put, if_neg (fun z => e (Sum.inl.inj z))]; exact h m
theorem SRep.drop {CW CG : Addr} {H : Hp} {kvs : List (Key × V)} {M : Lies} (h : SRep CW CG H kvs M) (n : Int) : SRep CW CG H (dropK kvs (Sum.inl n)) (mput M n none) := fun m => by
  by_cases e : m = n
  · subst e; rw [mput_eq]; show valV _ _ = none; rw [valV_drop, if_pos rfl]
  · rw [mput_ne e, valV_drop, if_neg (fun z => e (Sum.inl.inj z))]; exact h m
/-- cells that are no part of a piece -/
def NoPart (H : Hp) (F : List Addr) : Prop := ∀ x ∈ F, (∃ kv, H x = some (.dK kv)) ∨ (∃ C dx d fl, H x = some (.ins C dx (sfs d fl)))
theorem NoPart.tup {H : Hp} {F : List Addr} (h : NoPart H F) {t : Addr} {xs : List V} (e : H t = some (.tup xs)) : t ∉ F := fun hm => by
  rcases h t hm with ⟨kv, e'⟩ | ⟨C, dx, d, fl, e'⟩ <;> (rw [e] at e'; cases e')
theorem NoPart.lst {H : Hp} {F : List Addr} (h : NoPart H F) {t : Addr} {xs : List V} (e : H t = some (.lst xs)) : t ∉ F := fun hm => by
  rcases h t hm with ⟨kv, e'⟩ | ⟨C, dx, d, fl, e'⟩ <;> (rw [e] at e'; cases e')
theorem NoPart.seq {K : PySem.W.Frag} {H H' : Hp} {F : List Addr} (hF : NoPart H F) (k : Keep F H H') {a : Addr} {xs : List V} (h : SqL K H a xs) : SqL K H' a xs := by
  rcases h with (h | ⟨o, h⟩) | h
  · exact .inl (.inl (k _ _ h (hF.lst h)))
  · refine .inl (.inr ⟨o, k _ _ h (fun hm => ?_)⟩)
    rcases hF _ hm with ⟨kv, e⟩ | ⟨C, dx, d, fl, e⟩ <;> (rw [h] at e; cases e)
  · exact .inr h
theorem PRep.keep {CW CG : Addr} {H H' : Hp} {v : V} {s d : Int} (h : PRep CW CG H v s d) (k : Same H H') : PRep CW CG H' v s d := by
  obtain ⟨a, wh, b, dd, rows, c, h1, h2, h3, h4⟩ := h
  exact ⟨a, wh, b, dd, rows, c, h1, h2.keep k, h3, h4⟩
theorem ShAt.part {C : Addr} {H : Hp} {p d : Addr} {fl : Int} {kvs : List (Key × V)} (h : ShAt C H p d fl kvs) : NoPart H [p, d] := fun x hx => by
  obtain ⟨dx, h1, h2⟩ := h
  simp only [List.mem_cons, List.not_mem_nil, or_false] at hx
  rcases hx with rfl | rfl
  · exact .inr ⟨C, dx, _, _, h1⟩
  · exact .inl ⟨_, h2⟩
theorem NoPart.one {H : Hp} {a : Addr} {kv : List (Key × V)} (h : H a = some (.dK kv)) : NoPart H [a] := fun x hx => by
  have : x = a := by simpa using hx
  subst this; exact .inl ⟨_, h⟩
/-! ### a way, by its starts and ends -/
theorem int_at {xs : List Int} {j : Nat} {y : V} (h : (xs.map V.int)[j]? = some y) : ∃ n, xs[j]? = some n ∧ V.int n = y := by
  rw [List.getElem?_map] at h
  obtain ⟨c, h1, h2⟩ := Option.map_eq_some_iff.mp h
  exact ⟨c, h1, h2⟩
end L2
namespace L2
open PySem PySem.Spec PyProof.Rows
/-! ### for k, x in enumerate(xs): a list or a tuple that the body leaves as it is -/
def SqB (K : PySem.W.Frag) (tu : Bool) (H : Hp) (l : Addr) (xs : List V) : Prop := cond tu (SqT K H l xs) (SqL K H l xs)
def IterB (tu : Bool) (h : Heap) (it l : Addr) (i : Nat) : Prop := cond tu (h.IsTupleIter it l i) (h.IsListIter it l i)
def HasB (tu : Bool) (h : Heap) (l : Addr) (us : Array Value) : Prop := cond tu (h.IsTuple l us) (h.IsList l us)
theorem IterB.mv {tu : Bool} {h h' : Heap} {it l : Addr} {i : Nat} (a : IterB tu h it l i) (k : ∀ o, h.get? it = some o → h'.get? it = some o) : IterB tu h' it l i := by
  cases tu <;> (obtain ⟨o, e, r⟩ := a; exact ⟨o, k o e, r⟩)
theorem IterB.obj {tu : Bool} {h : Heap} {it l : Addr} {i : Nat} (a : IterB tu h it l i) : ∃ o, h.get? it = some o ∧ ∀ v, o.data ≠ .cell v := by
  cases tu <;> (obtain ⟨o, e, _, d⟩ := a; exact ⟨o, e, fun v q => by rw [d] at q; cases q⟩)
theorem HasB.mv {tu : Bool} {h h' : Heap} {l : Addr} {us : Array Value} (a : HasB tu h l us) (k : ∀ o, h.get? l = some o → h'.get? l = some o) : HasB tu h' l us := by
  cases tu <;> (obtain ⟨o, e, r⟩ := a; exact ⟨o, k o e, r⟩)
theorem HasB.lt {tu : Bool} {h : Heap} {l : Addr} {us : Array Value} (a : HasB tu h l us) : l < h.objs.size := by
  cases tu <;> (obtain ⟨o, e, r⟩ := a; exact Heap.lt_size e)
theorem SqB.items {X : Cx} {pins : List (Addr × Obj)} {σ : St} {H : Hp} {s : Shared} {tu : Bool} {l : Addr} {xs : List V} (I : Inv X pins σ H s) (h : SqB X.K tu H l xs) : ∃ us : List Value, Vals xs us ∧ HasB tu s.heap l us.toArray := by
  cases tu
  · obtain ⟨us, r, p, _⟩ := I.list h
    exact ⟨us, r, p.isList⟩
  · obtain ⟨us, r, p, _⟩ := I.tuple h
    exact ⟨us, r, p⟩
theorem SqB.inj {X : Cx} {pins : List (Addr × Obj)} {σ : St} {H : Hp} {s : Shared} {tu : Bool} {l : Addr} {xs ys : List V} (I : Inv X pins σ H s) (h : SqB X.K tu H l xs) (h' : SqB X.K tu H l ys) : xs = ys := by
  cases tu
  · exact I.list_inj h h'
  · exact I.tuple_inj h h'
def Ite (K : PySem.W.Frag) (tu : Bool) (l : Addr) : It :=
  ⟨fun i H => ∃ xs x, SqB K tu H l xs ∧ xs[i]? = some x,
   fun i H v H' => ∃ T x, H T = none ∧ v = .ref T ∧ H' = upd H T (.tup [.int (i : Int), x]) ∧ ∀ xs, SqB K tu H l xs → xs[i]? = some x,
   fun i H => ∃ xs, SqB K tu H l xs ∧ xs.length = i⟩
def EnSt (tu : Bool) (e it l : Addr) (i : Nat) (h : Heap) : Prop := (∃ old, IsEnum h e it (i : Int) old) ∧ IterB tu h it l i
/-! enumerate(t) made -/
def iEnum (K : PySem.W.Frag) (tu : Bool) (ta : TA) : TI := fun σ H R => ta σ H fun vs H1 => ∃ l, vs = [.ref l] ∧ (∃ xs, SqB K tu H1 l xs) ∧ R (Ite K tu l) H1
end L2
namespace L2
open PySem PySem.Spec PyProof.Rows
/-! ### dict(pairs) -/
theorem miss_keysT : typeLookup (.type "tuple") "keys" = pure none := by rw [typeLookup_type, builtinLookup_eq_fast]; kernel_rfl
section
variable {prog : Program} {w : World} {A : Around} {E : Value → Shared → Prop} {s : Shared} {a : Addr} {its : Array Value} {n : Nat} {sl : Array (Option Value)}
theorem keys_noneT {Q : Option Value → Shared → Prop} (hx : s.heap.get? a = some { cls := .type "tuple", dict := none, data := .seq its n, slots := sl }) (hA : A.handled = none)
    (h : ∀ h' tk, (∀ b ob, s.heap.get? b = some ob → h'.get? b = some ob) → Q none { s with heap := h', toks := tk }) : wpAny (model prog w) A (getAttr? (.ref a) "keys") Q E s := by
  obtain ⟨hp, g, dr, tk, os⟩ := s
  have hT : ∀ tk', (⟨hp, g, dr, tk', os⟩ : Shared).TypeIs (.ref a) "tuple" := fun _ => ⟨_, hx, rfl⟩
  have u1 := sub_AttributeError
  have u2 := F.slot_tuple_getattribute.lookup
  have u3 := F.slot_tuple_getattribute.bind (.ref a)
  have u4 := am_tuple_getattr_none
  unfold getAttr? getAttrBy? getAttrBy
  repeat (any_goals first | ((with_reducible show wpAny _ _ (call (Value.builtin "tuple.__getattribute__") _ _) _ _ _); refine call_meets F.slot_tuple_getattribute (hT _) am_entry_tuple_getattribute (F.args_tuple_getattribute_2 _ _) (meets_getattribute_miss_tuple a its n sl "keys" _ miss_keysT (by decide +kernel)) ⟨hx, hA, fun h' tk' e hx' => ?_⟩) | exact hT _ | wp_step | assumption)
  obtain ⟨t', u', he⟩ := hx'.there
  show wpAny _ _ (getattributeRaised _ _ _ _ _ _ _) _ _ _
  unfold getattributeRaised
  repeat (any_goals first | wp_step | assumption)
  exact h _ _ hx'.keeps
end
theorem entry_dul : entryFor table "dict.update.loop" = some Builtin.«dict.update.loop» := entryFor_of_tree (by kernel_rfl)
theorem plain_dul : plainId "dict.update.loop" = true := by decide +kernel
section
variable {prog : Program} {w : World} {κ : Type} [DecidableEq κ] {knd : KeyKind prog w κ} {A : Around} {R : Result → Shared → Prop} {I l d : Addr} {its : Array Value} {St : Nat → Heap → Prop}
/-- the items are pairs of keys and values -/
def PairsIn (knd : KeyKind prog w κ) (its : Array Value) (ps : List (κ × Value)) (h : Heap) : Prop := ∀ (i : Nat) (v : Value), its[i]? = some v → ∃ t key x n ob k, v = .ref t ∧ h.get? t = some ob ∧ ob.cls = .type "tuple" ∧ ob.data = .seq #[key, x] n ∧ ps[i]? = some (k, x) ∧ knd.is k key = true
theorem dul_loop (W : Walks prog w A.in1 I [I, l] [I] its.size (fun i v => its[i]? = some v) St) (hI : ∀ i h, St i h → ∃ o, h.get? I = some o ∧ o.cls ≠ .type "tuple") (hdI : d ≠ I) (hdl : d ≠ l) {ps : List (κ × Value)} (hps : ps.length = its.size) :
    ∀ (k i : Nat) (s : Shared) (kvs : List (κ × Value)), its.size - i = k → i ≤ its.size → St i s.heap → s.heap.DictOf knd d kvs → PairsIn knd its ps s.heap → kvs.length + its.size ≤ sizeLine + i →
    (∀ h' tk, (∀ b o, b ≠ I → b ≠ d → s.heap.get? b = some o → h'.get? b = some o) → h'.DictOf knd d (merged kvs (ps.drop i)) → R (.ok (.ret .none)) { s with heap := h', toks := tk }) →
    codeAny (model prog w) A (.builtin "dict.update.loop" ⟨[.ref d, .ref I, rawInt i, .none], []⟩) R s := by
  intro k
  induction k with
  | zero =>
    intro i s kvs hk hi hst hD hP hsz hR
    have e : i = its.size := by omega
    subst e
    refine codeAny_builtin entry_dul ?_
    rw [Around.under_plainId plain_dul _]
    show wpAny _ A.in1 (pyNext (.ref I) >>= _) _ _ s
    refine wpAny_bind (W.done s _ _ hst fun h' tk hk' => ?_)
    refine wpAny_bind (wpAny_pure ?_)
    refine wpAny_pure (hR h' tk (fun b o n1 _ e => hk' b o (by simpa using n1) e) ?_)
    rw [List.drop_of_length_le (by omega)]
    obtain ⟨o, es, ep, ho, r⟩ := hD
    exact ⟨o, es, ep, hk' _ _ (by simpa using hdI) ho, r⟩
  | succ k ih =>
    intro i s kvs hk hi hst hD hP hsz hR
    have hlt : i < its.size := by omega
    refine codeAny_builtin entry_dul ?_
    rw [Around.under_plainId plain_dul _]
    show wpAny _ A.in1 (pyNext (.ref I) >>= _) _ _ s
    refine wpAny_bind (W.item i s _ _ hlt hst fun v h' tk hv hst' hk' => ?_)
    obtain ⟨t, key, x, n, ob, kk, rfl, ht, hc, hdt, hpi, hkey⟩ := hP i v hv
    obtain ⟨oI, hoI, hcI⟩ := hI i _ hst
    have ntI : t ≠ I := fun z => by subst z; rw [ht] at hoI; cases hoI; exact hcI hc
    obtain ⟨od, es, ep, hod, hcd, hdd, r⟩ := id hD
    have hD' : h'.DictOf knd d kvs := ⟨od, es, ep, hk' _ _ (by simpa using hdI) hod, hcd, hdd, r⟩
    have ht' := hk' t _ (by simpa using ntI) ht
    refine wpAny_bind (wpAny_holding ?_)
    refine wpAny_bind (wpAny_tryCatch ?_)
    unfold Builtin.Dict.pairItems
    have hTt : ({ s with heap := h', toks := tk } : Shared).TypeIs (.ref t) "tuple" := ⟨ob, ht', hc⟩
    refine wpAny_bind (wpAny_typeOf hTt ?_)
    rw [if_pos (by decide)]
    refine wpAny_bind (wpAny_seqItems ht' hdt (wpAny_pure ?_))
    show wpAny _ A.in1 (holding [key, x] (dictSet d key x)) _ _ _
    refine wpAny_holding (wpAny_dictSet_pairs hkey hD' (fun h2 hD2 sb => ?_) (by omega))
    refine wpAny_pure ⟨plainId_quiet plain_dul _, ?_⟩
    have ndt : t ≠ d := fun z => by
      subst z
      rw [ht] at hod; cases hod
      rw [hdt] at hdd; cases hdd
    have up : ∀ b o, b ≠ I → b ≠ d → s.heap.get? b = some o → h2.get? b = some o := fun b o n1 n2 e => sb.extBut b o n2 (hk' b o (by simpa using n1) e)
    refine ih (i + 1) _ (stored kvs kk x) (by omega) (by omega) ?_ hD2 ?_ ?_ ?_
    · refine W.frame (i + 1) h' h2 hst' fun b hb o e => sb.extBut b o (fun z => ?_) e
      subst z
      simp only [List.mem_cons, List.not_mem_nil, or_false] at hb
      rcases hb with h | h
      · exact hdI h
      · exact hdl h
    · intro j v hj
      obtain ⟨t2, key2, x2, n2, ob2, k2, rfl, a1, a2, a3, a4, a5⟩ := hP j v hj
      refine ⟨t2, key2, x2, n2, ob2, k2, rfl, up t2 ob2 (fun z => ?_) (fun z => ?_) a1, a2, a3, a4, a5⟩
      · subst z; rw [a1] at hoI; cases hoI; exact hcI a2
      · subst z; rw [a1] at hod; cases hod; rw [a3] at hdd; cases hdd
    · have : (stored kvs kk x).length ≤ kvs.length + 1 := by unfold stored; split <;> simp
      omega
    · intro h3 tk3 hk3 hD3
      refine hR h3 tk3 (fun b o n1 n2 e => hk3 b o n1 n2 (up b o n1 n2 e)) ?_
      have e : ps.drop i = (kk, x) :: ps.drop (i + 1) := by
        have hil : i < ps.length := by omega
        rw [List.drop_eq_getElem_cons hil]
        rw [List.getElem?_eq_getElem hil] at hpi
        rw [Option.some.inj hpi]
      rw [e]
      exact hD3
end

theorem pairs_vals {P : Program} {w : World} {H : Hp} {h : Heap} (ok : HOk P w H h) : ∀ {L : List V} {its : List Value} {ps : List (Key × V)}, Vals L its → L.length = ps.length → (∀ (i : Nat) v, L[i]? = some v → ∃ t k x, v = V.ref t ∧ H t = some (.tup [kV k, x]) ∧ ps[i]? = some (k, x)) → ∃ pv, KV ps pv ∧ PairsIn (mixKind P w) its.toArray pv h
  | [], _, [], .nil, _, _ => ⟨[], .nil, fun i v e => by simp at e⟩
  | [], _, _ :: _, _, hl, _ => by simp at hl
  | _ :: _, _, [], _, hl, _ => by simp at hl
  | v :: L, u :: its, p :: ps, .cons r rr, hl, hp => by
    obtain ⟨t, k, x, rfl, ht, e0⟩ := hp 0 v rfl
    have e0 : p = (k, x) := by simpa using e0
    subst e0
    have r : u = Value.ref t := r
    subst r
    obtain ⟨pv, kv, pin⟩ := pairs_vals ok rr (by simpa using hl) (fun i v e => by
      obtain ⟨t, k, x, a, b, c⟩ := hp (i + 1) v (by simpa using e)
      exact ⟨t, k, x, a, b, by simpa using c⟩)
    obtain ⟨_, its2, r2, ob, h1, h2, n, h3⟩ := (show ObjOk P w H h t (.tup [kV k, x]) from ok t _ ht)
    cases r2 with
    | @cons _ ku _ _ ra rb =>
      cases rb with
      | @cons _ xu _ _ rx rn =>
        cases rn
        refine ⟨(k, xu) :: pv, .cons ⟨rfl, rx⟩ kv, fun i v e => ?_⟩
        cases i with
        | zero =>
          have e : Value.ref t = v := by simpa using e
          exact ⟨t, ku, xu, n, ob, k, e.symm, h1, h2, h3, rfl, kV_is ra⟩
        | succ i =>
          obtain ⟨t2, k2, x2, n2, o2, kk, a1, a2, a3, a4, a5, a6⟩ := pin i v (by simpa using e)
          exact ⟨t2, k2, x2, n2, o2, kk, a1, a2, a3, a4, by simpa using a5, a6⟩
end L2
namespace L2
open PySem PySem.Spec PyProof.Rows
theorem vals_len' : ∀ {L : List V} {its : List Value}, Vals L its → its.length = L.length
  | _, _, .nil => rfl
  | _, _, .cons _ r => by simp [vals_len' r]
theorem KV.len' : ∀ {ps : List (Key × V)} {pv : List (Key × Value)}, KV ps pv → pv.length = ps.length
  | _, _, .nil => rfl
  | _, _, .cons _ r => by simp [KV.len' r]
end L2
namespace L2
open PySem PySem.Spec PyProof.Rows
/-! ### range with the step -1 -/
section
variable {X : Cx} {tg : Expr}
def iRng3n (ta : TA) : TI := fun σ H R => ta σ H fun vs H1 => ∃ (i j : Int) (n : Nat), vs = [.int i, .int j, .int (-1)] ∧ Builtin.Range.small i j (-1) = true ∧ Builtin.Range.rangeSize i j (-1) = (n : Int) ∧ R (Itrs i (-1) n) H1
end
/-! ### an int counted in a list -/
/-! ### an object of a class without an __init__ -/
def tNew0 (C : Addr) : TE := fun _ H Q => ∀ x dx, H x = none → H dx = none → dx ≠ x → Q (.ref x) (upd (upd H dx (.own x)) x (.ins C dx []))
end L2
namespace L2
open PySem PySem.Spec PyProof.Rows
/-! ### what the rules pick -/
def lastN (m : Int) (L : List Int) : List Int := L.drop ((L.length : Int) - m).toNat
def limO : Option Int → List Int → List Int
  | none, L => L
  | some m, L => lastN m L
def frS (s : Int) (acc : List Int) (d : Int) : List Int := match acc.getLast? with | none => acc ++ [d] | some p => if d / s = p / s then acc else acc ++ [d]
def frF (s : Int) (L : List Int) : List Int := L.foldl (frS s) []
def frG (s : Int) : Option Int → List Int → List Int
  | _, [] => []
  | p, d :: r => if p = some (d / s) then frG s (some (d / s)) r else d :: frG s (some (d / s)) r
def apS (g : Int) (acc : List Int) (d : Int) : List Int := match acc.getLast? with | none => acc ++ [d] | some p => if d - p ≥ g then acc ++ [d] else acc
def apF (g : Int) (L : List Int) : List Int := L.foldl (apS g) []
/-- the quotient before place j -/
def prQ (s : Int) (L : List Int) (j : Nat) : Option Int := if j = 0 then none else some (L.getD (j - 1) 0 / s)
def frB (s : Int) (L : List Int) (j : Nat) : List Int := frG s (prQ s L j) (L.drop j)
end L2
namespace L2
open PySem PySem.Spec PyProof.Rows
end L2
namespace L2
open PySem PySem.Spec PyProof.Rows
end L2
namespace L2
open PySem PySem.Spec PyProof.Rows
/-! ### a tuple whose object is known: dict() asks it for 'keys' -/
def TupO (ob : Obj) : Prop := ∃ (its : Array Value) (n : Nat) (sl : Array (Option Value)), ob = { cls := .type "tuple", dict := none, data := .seq its n, slots := sl }
def FT (H : Hp) (a : Addr) (xs : List V) : Prop := ∃ ob, TupO ob ∧ H a = some (.frz ob (.tup xs))
theorem FT.sq {K : PySem.W.Frag} {H : Hp} {a : Addr} {xs : List V} (h : FT H a xs) : SqT K H a xs := let ⟨ob, _, e⟩ := h; .inl (.inr ⟨ob, e⟩)
theorem FT.keep {H H' : Hp} {a : Addr} {xs : List V} (s : Same H H') (h : FT H a xs) : FT H' a xs := let ⟨ob, t, e⟩ := h; ⟨ob, t, s _ _ e⟩
theorem FT.new {H : Hp} {a : Addr} {xs : List V} {ob : Obj} (t : TupO ob) : FT (upd H a (.frz ob (.tup xs))) a xs := ⟨ob, t, upd_same⟩
section
variable {X : Cx}
theorem call_tuple_ofF : CallR X (.type "tuple") (fun xs H Q => ∃ p ys, xs = [.ref p] ∧ SqL X.K H p ys ∧ ∀ l ob, H l = none → TupO ob → Q (.ref l) (upd H l (.frz ob (.tup ys)))) := by
  intro pins s σ H xs us Q I r h
  obtain ⟨p, ys, rfl, hq, q⟩ := h
  obtain ⟨u, rfl, rx⟩ := vals1 r
  cases rx
  obtain ⟨its, r', pl, hz⟩ := I.list hq
  have hlen := r'.length
  refine call_tuple_list pl.isList (fun h' kp => ?_) (by simp only [List.size_toArray] <;> omega)
  have I1 : Inv X pins σ H { s with heap := h' } := I.kept (t' := s.toks) kp
  refine ⟨.ref h'.objs.size, _, I1.laid (t' := s.toks) (o := .frz { cls := .type "tuple", data := .seq its.toArray } (.tup ys)) (fun b o e => Heap.get?_push_of_some _ e) (Nat.le_refl _) ⟨Heap.get?_push_size _ rfl, hz, its, r', IsTup.new _ _⟩, rfl, q _ _ (I1.hok.fresh (Nat.le_refl _)) ⟨_, _, _, rfl⟩⟩
end
theorem call_dictT {prog : Program} {w : World} {κ : Type} [DecidableEq κ] {knd : KeyKind prog w κ} {A : Around} {E : Value → Shared → Prop} {s : Shared} {a : Addr} {its : Array Value} {n : Nat} {sl : Array (Option Value)} {ps : List (κ × Value)} {Q : Value → Shared → Prop}
    (hx : s.heap.get? a = some { cls := .type "tuple", dict := none, data := .seq its n, slots := sl }) (hA : A.handled = none) (hP : PairsIn knd its ps s.heap) (hps : ps.length = its.size) (hsz : its.size ≤ sizeLine)
    (h : ∀ h' tk, (∀ b o, s.heap.get? b = some o → h'.get? b = some o) → h'.DictOf knd s.heap.objs.size (merged [] ps) → Q (.ref s.heap.objs.size) { s with heap := h', toks := tk }) :
    wpAny (model prog w) A (call (.type "dict") [.ref a]) Q E s := by
  refine callType_codes (Q₁ := fun obj s₁ => obj = .ref s.heap.objs.size ∧ s₁ = { s with heap := s.heap.push { cls := .type "dict", data := .dict #[] } }) F.kt_called_dict (F.kt_typeCall_dict_1 _) F.entry_dict_init (kt_code_dict_new _ ⟨rfl, rfl⟩) ?_
  rintro obj s₁ ⟨rfl, rfl⟩
  have hnew : (s.heap.push { cls := .type "dict", data := .dict #[] }).DictOf knd s.heap.objs.size [] := Heap.DictOf.new s.heap
  have hx1 := Heap.get?_push_of_some { cls := .type "dict", data := .dict #[] } hx
  have hlt : a < s.heap.objs.size := Heap.lt_size hx
  refine ⟨hnew.typeIs, F.args_dict_init_2 _ _, ?_⟩
  unfold Builtin.«dict.__init__»
  refine wpAny_bind ?_
  unfold Builtin.Dict.selfAndRest
  refine wpAny_bind (wpAny_notOrdered_dict hnew.typeIs (wpAny_pure ?_))
  show wpAny _ _ (Builtin.Dict.updateFrom "dict.__init__" s.heap.objs.size (.ref a) [] .none) _ _ _
  unfold Builtin.Dict.updateFrom
  have hTl : ({ s with heap := s.heap.push { cls := .type "dict", data := .dict #[] } } : Shared).TypeIs (.ref a) "tuple" := ⟨_, hx1, rfl⟩
  refine wpAny_bind (wpAny_typeOf hTl ?_)
  rw [if_pos (by decide)]
  refine wpAny_bind (keys_noneT hx1 hA fun h2 tk2 hk2 => ?_)
  rw [if_pos (show (none : Option Value).isNone = true from rfl)]
  refine wpAny_bind (wpAny_rule ?_)
  have hx2 := hk2 _ _ hx1
  have hT2 : h2.IsTuple a its := ⟨_, hx2, rfl, _, rfl⟩
  refine wpAny_bind (wpAny_pyIter_tuple (items := its) hT2 ?_)
  have hnew2 : h2.DictOf knd s.heap.objs.size [] := by
    obtain ⟨o, es, ep, ho, r⟩ := hnew
    exact ⟨o, es, ep, hk2 _ _ ho, r⟩
  obtain ⟨od, es, ep, hod, hcd, hdd, r⟩ := id hnew2
  have hltd : s.heap.objs.size < h2.objs.size := Heap.lt_size hod
  have hlta : a < h2.objs.size := Heap.lt_size hx2
  refine wpAny_pure ⟨plainId_quiet plain_dul _, ?_⟩
  refine dul_loop (A := A.in1) (its := its) (knd := knd) (I := h2.objs.size) (l := a) (Walks.tuple (prog := prog) (w := w) (A := A.in1.in1) (show A.in1.in1.handled = none from hA) h2.objs.size a (Nat.ne_of_lt hlta) its) ?_ (Nat.ne_of_lt hltd) (fun z => by subst z; exact absurd hlt (Nat.lt_irrefl _)) hps its.size 0 _ [] (by omega) (by omega) ⟨?_, ?_⟩ ?_ ?_ (by simp; omega) ?_
  · rintro i h ⟨⟨o, ho, hc, _⟩, _⟩
    exact ⟨o, ho, by rw [hc]; decide⟩
  · exact ⟨_, Heap.get?_push_size _ rfl, rfl, rfl⟩
  · exact ⟨_, Heap.get?_push_of_some _ hx2, rfl, _, rfl⟩
  · exact ⟨od, es, ep, Heap.get?_push_of_some _ hod, hcd, hdd, r⟩
  · intro i v hv
    obtain ⟨t, key, x, n, ob, k, e1, e2, r⟩ := hP i v hv
    exact ⟨t, key, x, n, ob, k, e1, Heap.get?_push_of_some _ (hk2 _ _ (Heap.get?_push_of_some _ e2)), r⟩
  · intro h' tk hk hD
    refine ⟨rfl, h h' tk (fun b o e => hk b o (fun z => ?_) (fun z => ?_) (Heap.get?_push_of_some _ (hk2 _ _ (Heap.get?_push_of_some _ e)))) (by simpa using hD)⟩
    · subst z
      exact Nat.lt_asymm hltd (Heap.lt_size e)
    · subst z
      exact Nat.lt_irrefl _ (Heap.lt_size e)
/-- dict(a tuple of pairs) -/
theorem call_dictPT {X : Cx} (hc : X.calm = true) : CallR X (.type "dict") (fun xs H Q => ∃ (a : Addr) (L : List V) (ps : List (Key × V)), xs = [.ref a] ∧ FT H a L ∧ L.length = ps.length ∧ (∀ (i : Nat) v, L[i]? = some v → ∃ t k x, v = V.ref t ∧ H t = some (.tup [kV k, x]) ∧ ps[i]? = some (k, x)) ∧
    ∀ d, H d = none → Q (.ref d) (upd H d (.dK (mergeK [] ps)))) := by
  rintro pins s σ H xs us Q I r ⟨a, L, ps, rfl, hL, hl, hp, q⟩
  obtain ⟨u, rfl, ru⟩ := vals1 r
  cases (show u = Value.ref a from ru)
  obtain ⟨ob, ⟨its, n, sl, rfl⟩, hLa⟩ := hL
  obtain ⟨hx, hsz, its2, rv, ⟨o2, ho2, hc2, n2, hd2⟩⟩ := (show ObjOk X.prog X.w H s.heap a (.frz _ (.tup L)) from I.hok a _ hLa)
  rw [hx] at ho2
  cases ho2
  have hd2 : (Data.seq its n) = .seq its2.toArray n2 := hd2
  cases hd2
  obtain ⟨pv, kv, pin⟩ := pairs_vals I.hok rv hl hp
  have e1 := vals_len' rv
  have e2 := KV.len' kv
  refine call_dictT (knd := mixKind X.prog X.w) (ps := pv) hx (I.ok.hd hc) pin (by simp; omega) (by simp; omega) fun h' tk keep hD => ?_
  have hno := I.hok.fresh (Nat.le_refl s.heap.objs.size)
  refine ⟨.ref s.heap.objs.size, _, I.laid (a := s.heap.objs.size) (o := .dK (mergeK [] ps)) (t' := tk) keep (Nat.le_refl _) (dk_new ?_ (beq_eq_false_iff_ne.mpr (Ne.symm (Nat.ne_of_lt I.big))) (KV.merge kv .nil) hD), rfl, q _ hno⟩
  have := length_mergeK ps []
  simp at this
  omega
/-! ### d.update(another dict) -/
section
variable {X : Cx} {o e : Expr} {apos cpos : Pos} {td ty : TE}
def tDUpd (td ty : TE) : TE := fun σ H Q => td σ H fun x H1 => ∃ a, x = .ref a ∧ IsD H1 a ∧ ty σ H1 fun y H2 => ∃ b kvs more, y = .ref b ∧ a ≠ b ∧ H2 a = some (.dK kvs) ∧ H2 b = some (.dK more) ∧ kvs.length + more.length ≤ sizeLine ∧ Q .non (upd H2 a (.dK (mergeK kvs more)))
theorem d_upd {pins : List (Addr × Obj)} {σ : St} {H : Hp} {s : Shared} {a b : Addr} {kvs more : List (Key × V)} {A : Around} {E : Value → Shared → Prop} {Q : Value → Shared → Prop} (I : Inv X pins σ H s) (n : a ≠ b) (ea : H a = some (.dK kvs)) (eb : H b = some (.dK more)) (hz : kvs.length + more.length ≤ sizeLine)
    (h : ∀ s', Inv X pins σ (upd H a (.dK (mergeK kvs more))) s' → Q .none s') : wpAny (model X.prog X.w) A (call (.builtin "dict.update") [.ref a, .ref b]) Q E s := by
  obtain ⟨za, hda, vs, rel, dd⟩ := dk_of I.hok ea
  obtain ⟨zb, hdb, ws, rel2, dd2⟩ := dk_of I.hok eb
  refine call_meetsIn PySem.F.slot_dict_update dd.typeIs PySem.F.entry_dict_update (PySem.F.args_dict_update_2 _ _) (meets_dict_update (mixKind X.prog X.w) a b n hdb) ⟨vs, ws, dd, dd2, by rw [← rel.length, ← rel2.length]; exact hz, fun h' d1 d2 hs => h _ ?_⟩
  have he : ∃ q, h'.get? a = some q := let ⟨q, _, _, hq, _⟩ := d1; ⟨q, hq⟩
  exact d_write I (by rw [ea]; exact True.intro) hs he (dk_new (by have := length_mergeK more kvs; omega) hda (KV.merge rel2 rel) d1)
theorem pe_dupd (ho : PE X o td) (he : PE X e ty) (m : M1 X o "update" apos e cpos) : PE X (.Call (.Attribute o "update" apos) [e] [] cpos) (tDUpd td ty) := by
  intro pins s σ H Q I h
  refine wpAny_Call_method m.base m.few m.line PySem.F.plainAttrs_dict PySem.F.slot_dict_update PySem.F.type_dict_update (thn (ho pins s σ H _ I h) fun u s1 ⟨x, H1, I1, rx, a, ex, d, q1⟩ => ?_)
  subst ex
  obtain rfl : u = Value.ref a := rx
  obtain ⟨t1, t2, _⟩ := isD_at I1 d
  refine ⟨t1, t2, ?_⟩
  rw [m.trees]
  refine Calls.callWith_builtin rfl (Calls.evalArgs_plain (Calls.spliced_cons (thn (he pins s1 σ H1 _ I1 q1) fun iv s2 ⟨y, H2, I2, ry, b, kvs, more, ey, n, ea, eb, hz, q2⟩ => Calls.spliced_nil ?_)))
  subst ey
  obtain rfl : iv = Value.ref b := ry
  exact d_upd I2 n ea eb hz fun s3 I3 => ⟨.non, _, I3, rfl, q2⟩
end
end L2
namespace L2
open PySem PySem.Spec PyProof.Rows
/-! ### rows in a dict: place to block -/
def kvR (rs : List (Nat × Nat)) : List (Key × V) := rs.map fun r => (Sum.inl (r.1 : Int), V.int (r.2 : Int))
def putR (rs : List (Nat × Nat)) (k v : Nat) : List (Nat × Nat) := if (rs.any fun r => decide (r.1 = k)) = true then rs.map (fun r => if r.1 = k then (r.1, v) else r) else rs ++ [(k, v)]
def mergeR (rs more : List (Nat × Nat)) : List (Nat × Nat) := more.foldl (fun acc r => putR acc r.1 r.2) rs
def getR (rs : List (Nat × Nat)) (k : Nat) : Option Nat := (rs.find? fun r => decide (r.1 = k)).map (·.2)
theorem inlN {a b : Nat} : ((Sum.inl (a : Int) : Key) = Sum.inl (b : Int)) ↔ a = b := ⟨fun h => by have := Sum.inl.inj h; omega, fun h => by rw [h]⟩
theorem kvR_put (rs : List (Nat × Nat)) (k v : Nat) : putK (kvR rs) (Sum.inl (k : Int)) (V.int (v : Int)) = kvR (putR rs k v) := by
  unfold putK putR kvR
  have e : ((rs.map fun r => ((Sum.inl (r.1 : Int) : Key), V.int (r.2 : Int))).any fun kv => decide (kv.1 = Sum.inl (k : Int))) = rs.any fun r => decide (r.1 = k) := by
    rw [List.any_map]
    congr 1
    funext r
    show decide ((Sum.inl (r.1 : Int) : Key) = Sum.inl (k : Int)) = decide (r.1 = k)
    by_cases h : r.1 = k
    · rw [decide_eq_true h, decide_eq_true (inlN.mpr h)]
    · rw [decide_eq_false h, decide_eq_false (fun z => h (inlN.mp z))]
  rw [e]
  split
  · rw [List.map_map, List.map_map]
    apply List.map_congr_left
    intro r _
    show (if (Sum.inl (r.1 : Int) : Key) = Sum.inl (k : Int) then _ else _) = _
    by_cases h : r.1 = k
    · rw [if_pos (inlN.mpr h)]
      simp [h]
    · rw [if_neg (fun z => h (inlN.mp z))]
      simp [h]
  · rw [List.map_append]; rfl
theorem kvR_merge : ∀ (more rs : List (Nat × Nat)), mergeK (kvR rs) (kvR more) = kvR (mergeR rs more)
  | [], rs => rfl
  | r :: more, rs => by
    show mergeK (putK (kvR rs) (Sum.inl (r.1 : Int)) (V.int (r.2 : Int))) (kvR more) = kvR (mergeR (putR rs r.1 r.2) more)
    rw [kvR_put, kvR_merge more]
theorem putR_len (rs : List (Nat × Nat)) (k v : Nat) : (putR rs k v).length ≤ rs.length + 1 := by
  unfold putR
  split
  · rw [List.length_map]; omega
  · rw [List.length_append]; exact Nat.le_refl _
theorem mergeR_len : ∀ (more rs : List (Nat × Nat)), (mergeR rs more).length ≤ rs.length + more.length
  | [], rs => Nat.le_refl _
  | r :: more, rs => by
    have h1 := mergeR_len more (putR rs r.1 r.2)
    have h2 := putR_len rs r.1 r.2
    show (mergeR (putR rs r.1 r.2) more).length ≤ _
    rw [List.length_cons]; omega
theorem putR_keys (rs : List (Nat × Nat)) (k v : Nat) : (putR rs k v).map (·.1) = if k ∈ rs.map (·.1) then rs.map (·.1) else rs.map (·.1) ++ [k] := by
  unfold putR
  have e : (rs.any fun r => decide (r.1 = k)) = decide (k ∈ rs.map (·.1)) := by
    rw [Bool.eq_iff_iff, List.any_eq_true, decide_eq_true_eq, List.mem_map]
    constructor
    · rintro ⟨r, hr, h⟩; exact ⟨r, hr, of_decide_eq_true h⟩
    · rintro ⟨r, hr, h⟩; exact ⟨r, hr, decide_eq_true h⟩
  rw [e]
  by_cases h : k ∈ rs.map (·.1)
  · rw [if_pos (decide_eq_true h), if_pos h, List.map_map]
    apply List.map_congr_left
    intro r _
    show (if r.1 = k then (r.1, v) else r).1 = r.1
    split <;> rfl
  · rw [if_neg (by simpa using h), if_neg h, List.map_append]; rfl
theorem putR_nodup {rs : List (Nat × Nat)} (h : (rs.map (·.1)).Nodup) (k v : Nat) : ((putR rs k v).map (·.1)).Nodup := by
  rw [putR_keys]
  split
  · exact h
  · rename_i hk
    rw [List.nodup_append]
    exact ⟨h, by simp, fun a ha b hb => by have : b = k := by simpa using hb
                                           rw [this]; exact fun e => hk (e ▸ ha)⟩
theorem mergeR_nodup : ∀ (more : List (Nat × Nat)) {rs : List (Nat × Nat)}, (rs.map (·.1)).Nodup → ((mergeR rs more).map (·.1)).Nodup
  | [], _, h => h
  | r :: more, _, h => mergeR_nodup more (putR_nodup h r.1 r.2)
theorem getR_mem {rs : List (Nat × Nat)} (hn : (rs.map (·.1)).Nodup) {r : Nat × Nat} (h : r ∈ rs) : getR rs r.1 = some r.2 := by
  induction rs with
  | nil => simp at h
  | cons x rs ih =>
    rw [List.map_cons, List.nodup_cons] at hn
    unfold getR
    rw [List.find?_cons]
    by_cases e : x.1 = r.1
    · rw [decide_eq_true e]
      rcases List.mem_cons.mp h with h | h
      · rw [h]; rfl
      · exact absurd (e ▸ List.mem_map_of_mem (f := (·.1)) h) hn.1
    · rw [decide_eq_false e]
      rcases List.mem_cons.mp h with h | h
      · exact absurd (by rw [h]) e
      · exact ih hn.2 h
theorem getR_val (rs : List (Nat × Nat)) (k : Nat) : valV (kvR rs) (Sum.inl (k : Int)) = (getR rs k).map fun v => V.int (v : Int) := by
  induction rs with
  | nil => rfl
  | cons x rs ih =>
    show valV (((Sum.inl (x.1 : Int) : Key), V.int (x.2 : Int)) :: kvR rs) _ = _
    unfold getR
    rw [List.find?_cons]
    by_cases e : x.1 = k
    · rw [valV_pos (by simp [e]), decide_eq_true e]; rfl
    · rw [valV_neg (fun z => e (inlN.mp z)), decide_eq_false e, ih]; rfl
/-- the rows by rising places -/
def rowsBy (rs : List (Nat × Nat)) (ks : List Int) : List (Nat × Nat) := ks.map fun n => (n.toNat, (getR rs n.toNat).getD 0)
theorem rowsBy_perm {rs : List (Nat × Nat)} {ks : List Int} (hn : (rs.map (·.1)).Nodup) (hp : ks.Perm (rs.map fun r => (r.1 : Int))) : (rowsBy rs ks).Perm rs := by
  have h := hp.map (fun n : Int => (n.toNat, (getR rs n.toNat).getD 0))
  rw [List.map_map] at h
  have e : rs.map ((fun n : Int => (n.toNat, (getR rs n.toNat).getD 0)) ∘ fun r => (r.1 : Int)) = rs := by
    conv => rhs; rw [← List.map_id rs]
    apply List.map_congr_left
    intro r hr
    show (((r.1 : Int)).toNat, (getR rs ((r.1 : Int)).toNat).getD 0) = r
    rw [Int.toNat_natCast, getR_mem hn hr]; rfl
  rw [e] at h
  exact h
theorem rowsBy_at {rs : List (Nat × Nat)} {ks : List Int} (hn : (rs.map (·.1)).Nodup) (hp : ks.Perm (rs.map fun r => (r.1 : Int))) {n : Int} (h : n ∈ ks) : ∃ k v : Nat, n = (k : Int) ∧ (k, v) ∈ rs ∧ getR rs k = some v := by
  obtain ⟨r, hr, e⟩ := List.mem_map.mp (hp.mem_iff.mp h)
  exact ⟨r.1, r.2, e.symm, hr, getR_mem hn hr⟩
theorem kvR_keys (rs : List (Nat × Nat)) : (kvR rs).map (·.1) = (rs.map fun r => (r.1 : Int)).map Sum.inl := by unfold kvR; rw [List.map_map, List.map_map]; rfl
/-- what comes of two rows of rows -/
def mrgOk (rows1 rows2 rows : List (Nat × Nat)) : Prop := rows.Perm (mergeR (mergeR [] rows1) (mergeR [] rows2)) ∧ (rows.map (·.1)).Pairwise (· ≤ ·)
/-! ### pieces whose rows are a known tuple -/
def PAtF (CW CG : Addr) (H : Hp) (p : Addr) (wh : Bool) (b d : Nat) (rows : List (Nat × Nat)) (c : Int) : Prop :=
  ∃ dx r R, H p = some (.ins (cond wh CW CG) dx (pfs wh b d r c (decide (c = (ckOf wh b d rows : Nat))))) ∧ FT H r R ∧ RowsAt H R rows
theorem PAtF.keep {CW CG : Addr} {H H' : Hp} {p : Addr} {wh : Bool} {b d : Nat} {rows : List (Nat × Nat)} {c : Int} (h : PAtF CW CG H p wh b d rows c) (s : Same H H') : PAtF CW CG H' p wh b d rows c := by
  obtain ⟨dx, r, R, h1, h2, h3⟩ := h
  exact ⟨dx, r, R, s _ _ h1, h2.keep s, h3.mono fun t xs e => s _ _ e⟩
def sp_checkF : Sp := fun vs H Q _ => ∃ (s d : Nat) (a : Addr) (L : List V) (rows : List (Nat × Nat)), vs = [.int ((s : Int) - 1), .int (d : Int), .ref a] ∧ FT H a L ∧ RowsAt H L rows ∧ rows.length ≤ 100 ∧ ∀ H', Same H H' → Q (.int (Chk.chk (s :: d :: flat rows) : Nat)) H'
def sp_pinitF (K : PySem.W.Frag) : Sp := fun vs H Q _ => ∃ (p C dx a : Addr) (s d : Nat) (L : List V) (rows : List (Nat × Nat)) (cv : V) (c : Int), vs = [.ref p, .int ((s : Int) - 1), .int (d : Int), .ref a, cv] ∧ H p = some (.ins C dx []) ∧ Cls K C ∧ NoAttr K C "day" ∧ NoAttr K C "rows" ∧ NoAttr K C "check" ∧ NoAttr K C "fits" ∧
  H a = some (.lst L) ∧ RowsAt H L rows ∧ rows.length ≤ 100 ∧ ((cv = .non ∧ c = (Chk.chk (s :: d :: flat rows) : Nat)) ∨ cv = .int c) ∧
  ∀ r R H', H' p = some (.ins C dx [("day", V.int (d : Int)), ("rows", V.ref r), ("check", V.int c), ("fits", V.bl (decide (c = (Chk.chk (s :: d :: flat rows) : Nat))))]) → FT H' r R → RowsAt H' R rows → Keep [p] H H' → Q .non H'
def sp_winitF (CW CG : Addr) : Sp := fun vs H Q _ => ∃ (p dx a : Addr) (d : Nat) (L : List V) (rows : List (Nat × Nat)) (cv : V) (c : Int), vs = [.ref p, .int (d : Int), .ref a, cv] ∧ H p = some (.ins CW dx []) ∧
  H a = some (.lst L) ∧ RowsAt H L rows ∧ rows.length ≤ 100 ∧ ((cv = .non ∧ c = (ckOf true 0 d rows : Nat)) ∨ cv = .int c) ∧ ∀ H', PAtF CW CG H' p true 0 d rows c → Keep [p] H H' → Q .non H'
def sp_ginitF (CW CG : Addr) : Sp := fun vs H Q _ => ∃ (p dx a : Addr) (b d : Nat) (L : List V) (rows : List (Nat × Nat)) (cv : V) (c : Int), vs = [.ref p, .int (b : Int), .int (d : Int), .ref a, cv] ∧ H p = some (.ins CG dx []) ∧
  H a = some (.lst L) ∧ RowsAt H L rows ∧ rows.length ≤ 100 ∧ ((cv = .non ∧ c = (ckOf false b d rows : Nat)) ∨ cv = .int c) ∧ ∀ H', PAtF CW CG H' p false b d rows c → Keep [p] H H' → Q .non H'
def sp_goodF (CW CG : Addr) : Sp := fun vs H Q _ => ∃ (p : Addr) (wh : Bool) (b d : Nat) (rows : List (Nat × Nat)) (c : Int), vs = [.ref p] ∧ PAtF CW CG H p wh b d rows c ∧ Q (.bl (decide (c = (ckOf wh b d rows : Nat)))) H
def sp_gstartF (CW CG : Addr) : Sp := fun vs H Q _ => ∃ (p : Addr) (b d : Nat) (rows : List (Nat × Nat)) (c : Int), vs = [.ref p] ∧ PAtF CW CG H p false b d rows c ∧ Q (.int (b : Int)) H
/-- the day that a piece starts from -/
def stI (wh : Bool) (b : Nat) : Int := cond wh (-1) (b : Int)
/-- the fields of a piece that is made -/
theorem lk_noP {m : Str} {wh : Bool} {b d : Nat} {r : Addr} {c : Int} {f : Bool} (h1 : (m == "day") = false := by decide +kernel) (h2 : (m == "rows") = false := by decide +kernel) (h3 : (m == "check") = false := by decide +kernel) (h4 : (m == "base") = false := by decide +kernel) (h5 : (m == "fits") = false := by decide +kernel) : List.lookup m (pfs wh b d r c f) = none := lk_no h1 h2 h3 h4 h5
theorem lk_dayP {wh : Bool} {b d : Nat} {r : Addr} {c : Int} {f : Bool} : List.lookup ("day" : Str) (pfs wh b d r c f) = some (V.int (d : Int)) := by cases wh <;> exact lk_day
theorem lk_rowsP {wh : Bool} {b d : Nat} {r : Addr} {c : Int} {f : Bool} : List.lookup ("rows" : Str) (pfs wh b d r c f) = some (V.ref r) := by cases wh <;> exact lk_rows
theorem lk_checkP {wh : Bool} {b d : Nat} {r : Addr} {c : Int} {f : Bool} : List.lookup ("check" : Str) (pfs wh b d r c f) = some (V.int c) := by cases wh <;> exact lk_check
theorem pairs_rows {H : Hp} {L : List V} {rows : List (Nat × Nat)} (R : RowsAt H L rows) : ∀ (i : Nat) v, L[i]? = some v → ∃ t k x, v = V.ref t ∧ H t = some (.tup [kV k, x]) ∧ (kvR rows)[i]? = some (k, x) := fun i v h => by
  obtain ⟨t, r, e, hr, ht⟩ := R.get i v h
  exact ⟨t, Sum.inl (r.1 : Int), V.int (r.2 : Int), e, ht, by unfold kvR; rw [List.getElem?_map, hr]; rfl⟩
/-! ### a def cut between two statements: what holds there is named, the rest is proved once -/
section
variable {S1 S2 S3 R : TS} {D : Ends} {σ : St} {H : Hp}
theorem cut1 (Post : St → Hp → Prop) (h : ∀ N : St → Hp → Prop, (∀ σ' H', Post σ' H' → N σ' H') → S1 { D with nx := N } σ H) (hr : ∀ σ' H', Post σ' H' → R D σ' H') : tSeq S1 R D σ H := h (R D) hr
theorem cut2 (Post : St → Hp → Prop) (h : ∀ N : St → Hp → Prop, (∀ σ' H', Post σ' H' → N σ' H') → tSeq S1 S2 { D with nx := N } σ H) (hr : ∀ σ' H', Post σ' H' → R D σ' H') : tSeq S1 (tSeq S2 R) D σ H := h (R D) hr
theorem cut3 (Post : St → Hp → Prop) (h : ∀ N : St → Hp → Prop, (∀ σ' H', Post σ' H' → N σ' H') → tSeq S1 (tSeq S2 S3) { D with nx := N } σ H) (hr : ∀ σ' H', Post σ' H' → R D σ' H') : tSeq S1 (tSeq S2 (tSeq S3 R)) D σ H := h (R D) hr
end
end L2
namespace L2
open PySem PySem.Spec PyProof.Rows
/-! ### two rows of rows laid one on the other -/
def lastR (rows : List (Nat × Nat)) (k : Nat) : Option Nat := rows.foldl (fun o r => if r.1 = k then some r.2 else o) none
theorem lastR_fold (k : Nat) : ∀ (rows : List (Nat × Nat)) (o : Option Nat), rows.foldl (fun o r => if r.1 = k then some r.2 else o) o = (lastR rows k).or o
  | [], o => by cases o <;> rfl
  | r :: rows, o => by
    unfold lastR
    rw [List.foldl_cons, List.foldl_cons, lastR_fold k rows, lastR_fold k rows]
    by_cases h : r.1 = k
    · rw [if_pos h, if_pos h]; cases lastR rows k <;> rfl
    · rw [if_neg h, if_neg h]; cases lastR rows k <;> rfl
theorem lastR_cons (r : Nat × Nat) (rows : List (Nat × Nat)) (k : Nat) : lastR (r :: rows) k = (lastR rows k).or (if r.1 = k then some r.2 else none) := by
  show rows.foldl _ (if r.1 = k then some r.2 else none) = _
  rw [lastR_fold]
theorem lastR_app (a b : List (Nat × Nat)) (k : Nat) : lastR (a ++ b) k = (lastR b k).or (lastR a k) := by
  show (a ++ b).foldl _ none = _
  rw [List.foldl_append, lastR_fold]; rfl
theorem getR_put (rs : List (Nat × Nat)) (k v j : Nat) : getR (putR rs k v) j = if j = k then some v else getR rs j := by
  have h := valV_put (kvR rs) (Sum.inl (k : Int)) (Sum.inl (j : Int)) (V.int (v : Int))
  rw [kvR_put, getR_val, getR_val] at h
  by_cases e : j = k
  · rw [if_pos e]
    rw [if_pos (inlN.mpr e)] at h
    cases hg : getR (putR rs k v) j with
    | none => rw [hg] at h; cases h
    | some x =>
      rw [hg] at h
      have : V.int (x : Int) = V.int (v : Int) := Option.some.inj h
      have := V.int.inj this
      congr 1; omega
  · rw [if_neg e]
    rw [if_neg (fun z => e (inlN.mp z))] at h
    cases hg : getR (putR rs k v) j with
    | none =>
      rw [hg] at h
      cases hh : getR rs j with
      | none => rfl
      | some y => rw [hh] at h; cases h
    | some x =>
      rw [hg] at h
      cases hh : getR rs j with
      | none => rw [hh] at h; cases h
      | some y =>
        rw [hh] at h
        have : V.int (x : Int) = V.int (y : Int) := Option.some.inj h
        have := V.int.inj this
        congr 1; omega
theorem getR_merge : ∀ (more rs : List (Nat × Nat)) (k : Nat), getR (mergeR rs more) k = (lastR more k).or (getR rs k)
  | [], rs, k => rfl
  | r :: more, rs, k => by
    show getR (mergeR (putR rs r.1 r.2) more) k = _
    rw [getR_merge more, getR_put, lastR_cons]
    by_cases e : k = r.1
    · rw [if_pos e, if_pos e.symm]; cases lastR more k <;> rfl
    · rw [if_neg e, if_neg (fun z => e z.symm)]; cases lastR more k <;> rfl
theorem getR_all (rows : List (Nat × Nat)) (k : Nat) : getR (mergeR [] rows) k = lastR rows k := by
  rw [getR_merge]; cases lastR rows k <;> rfl
/-- with each place once, the last is the one -/
theorem lastR_get : ∀ {rows : List (Nat × Nat)} {k : Nat}, (rows.map (·.1)).Nodup → lastR rows k = getR rows k
  | [], _, _ => rfl
  | r :: rows, k, hn => by
    rw [List.map_cons, List.nodup_cons] at hn
    rw [lastR_cons, lastR_get hn.2]
    unfold getR
    rw [List.find?_cons]
    by_cases e : r.1 = k
    · rw [if_pos e, decide_eq_true e]
      have : rows.find? (fun r => decide (r.1 = k)) = none := by
        rw [List.find?_eq_none]
        intro x hx hd
        exact hn.1 (by rw [e, ← of_decide_eq_true hd]; exact List.mem_map_of_mem (f := (·.1)) hx)
      rw [this]; rfl
    · rw [if_neg e, decide_eq_false e]
      cases (List.find? (fun r => decide (r.1 = k)) rows).map (·.2) <;> rfl
theorem getR_two (rows1 rows2 : List (Nat × Nat)) (k : Nat) : getR (mergeR (mergeR [] rows1) (mergeR [] rows2)) k = lastR (rows1 ++ rows2) k := by
  rw [getR_merge, getR_all, lastR_get (mergeR_nodup rows2 (rs := []) (by simp)), getR_all, lastR_app]
theorem getR_iff {rs : List (Nat × Nat)} (hn : (rs.map (·.1)).Nodup) {k v : Nat} : getR rs k = some v ↔ (k, v) ∈ rs := by
  refine ⟨fun h => ?_, fun h => getR_mem hn h⟩
  unfold getR at h
  obtain ⟨r, hr, e⟩ := Option.map_eq_some_iff.mp h
  have h1 := List.find?_some hr
  have h2 := List.mem_of_find?_eq_some hr
  have h1 : r.1 = k := of_decide_eq_true h1
  rw [← h1, ← e]; exact h2
theorem nat_lt {l : List Nat} (h : l.Pairwise (· ≤ ·)) (hn : l.Nodup) : l.Pairwise (· < ·) := by
  induction l with
  | nil => exact List.Pairwise.nil
  | cons a r ih =>
    obtain ⟨ha, hr⟩ := List.pairwise_cons.mp h
    obtain ⟨na, nr⟩ := List.nodup_cons.mp hn
    refine List.pairwise_cons.mpr ⟨fun b hb => ?_, ih hr nr⟩
    have := ha b hb
    have : a ≠ b := fun e => na (by rw [e]; exact hb)
    omega
theorem rows_ext : ∀ {l m : List (Nat × Nat)}, (l.map (·.1)).Pairwise (· < ·) → (m.map (·.1)).Pairwise (· < ·) → (∀ a, a ∈ l ↔ a ∈ m) → l = m
  | [], [], _, _, _ => rfl
  | [], b :: m, _, _, h => by have := (h b).mpr (by simp); simp at this
  | a :: l, [], _, _, h => by have := (h a).mp (by simp); simp at this
  | a :: l, b :: m, hl, hm, h => by
    rw [List.map_cons] at hl hm
    obtain ⟨la, ll⟩ := List.pairwise_cons.mp hl
    obtain ⟨mb, mm⟩ := List.pairwise_cons.mp hm
    have e : a = b := by
      rcases List.mem_cons.mp ((h a).mp (by simp)) with e | e
      · exact e
      · rcases List.mem_cons.mp ((h b).mpr (by simp)) with e' | e'
        · exact e'.symm
        · have := la b.1 (List.mem_map_of_mem (f := (·.1)) e'); have := mb a.1 (List.mem_map_of_mem (f := (·.1)) e); omega
    subst e
    rw [rows_ext ll mm fun c => ?_]
    constructor
    · intro hc
      rcases List.mem_cons.mp ((h c).mp (List.mem_cons_of_mem _ hc)) with e | e
      · have := la c.1 (List.mem_map_of_mem (f := (·.1)) hc); rw [e] at this; omega
      · exact e
    · intro hc
      rcases List.mem_cons.mp ((h c).mpr (List.mem_cons_of_mem _ hc)) with e | e
      · have := mb c.1 (List.mem_map_of_mem (f := (·.1)) hc); rw [e] at this; omega
      · exact e
/-- rows by rising places that hold what the last of them tell -/
def isM (all rows : List (Nat × Nat)) : Prop := (rows.map (·.1)).Pairwise (· < ·) ∧ ∀ k v, (k, v) ∈ rows ↔ lastR all k = some v
theorem isM.eq {all a b : List (Nat × Nat)} (h1 : isM all a) (h2 : isM all b) : a = b := rows_ext h1.1 h2.1 fun r => by rw [show r = (r.1, r.2) from rfl, h1.2, h2.2]
theorem perm_nodup {rs rows : List (Nat × Nat)} (hp : rows.Perm rs) (hn : (rs.map (·.1)).Nodup) : (rows.map (·.1)).Nodup := (hp.map (·.1)).nodup_iff.mpr hn
theorem isM_of {all rs rows : List (Nat × Nat)} (hn : (rs.map (·.1)).Nodup) (hg : ∀ k, getR rs k = lastR all k) (hp : rows.Perm rs) (hs : (rows.map (·.1)).Pairwise (· ≤ ·)) : isM all rows :=
  ⟨nat_lt hs (perm_nodup hp hn), fun k v => by rw [hp.mem_iff, ← getR_iff hn, hg]⟩
theorem mrgOk.isM {rows1 rows2 rows : List (Nat × Nat)} (h : mrgOk rows1 rows2 rows) : isM (rows1 ++ rows2) rows :=
  isM_of (mergeR_nodup _ (mergeR_nodup rows1 (rs := []) (by simp))) (getR_two rows1 rows2) h.1 h.2
theorem lastR_some {rows : List (Nat × Nat)} {k : Nat} (h : k ∈ rows.map (·.1)) : ∃ v, lastR rows k = some v := by
  induction rows with
  | nil => simp at h
  | cons r rows ih =>
    rw [lastR_cons]
    rw [List.map_cons] at h
    rcases List.mem_cons.mp h with h | h
    · rw [if_pos h.symm]
      cases lastR rows k with
      | none => exact ⟨_, rfl⟩
      | some v => exact ⟨v, rfl⟩
    · obtain ⟨v, e⟩ := ih h
      exact ⟨v, by rw [e]; rfl⟩
theorem lastR_in {rows : List (Nat × Nat)} {k v : Nat} (h : lastR rows k = some v) : (k, v) ∈ rows := by
  induction rows with
  | nil => cases h
  | cons r rows ih =>
    rw [lastR_cons] at h
    cases e : lastR rows k with
    | some x => rw [e] at h; cases h; exact List.mem_cons_of_mem _ (ih e)
    | none =>
      rw [e] at h
      by_cases hk : r.1 = k
      · rw [if_pos hk] at h
        have h : some r.2 = some v := h
        cases h
        rw [← hk]; simp
      · rw [if_neg hk] at h; cases h
/-! ### a table with rows laid on it -/
def setT (t : List V) (rows : List (Nat × Nat)) : List V := rows.foldl (fun t r => t.set r.1 (V.int (r.2 : Int))) t
theorem setT_len : ∀ (rows : List (Nat × Nat)) (t : List V), (setT t rows).length = t.length
  | [], _ => rfl
  | r :: rows, t => by
    show (setT (t.set r.1 _) rows).length = _
    rw [setT_len rows, List.length_set]
theorem setT_at : ∀ (rows : List (Nat × Nat)) (t : List V) (k : Nat), (setT t rows)[k]? = if k < t.length then (match lastR rows k with | some v => some (V.int (v : Int)) | none => t[k]?) else none
  | [], t, k => by
    show t[k]? = if k < t.length then t[k]? else none
    split
    · rfl
    · rename_i h; exact List.getElem?_eq_none (by omega)
  | r :: rows, t, k => by
    show (setT (t.set r.1 _) rows)[k]? = _
    rw [setT_at rows, List.length_set, lastR_cons]
    by_cases h : k < t.length
    · rw [if_pos h, if_pos h]
      cases lastR rows k with
      | some v => rfl
      | none =>
        by_cases e : r.1 = k
        · rw [if_pos e]
          show (t.set r.1 _)[k]? = _
          rw [List.getElem?_set, if_pos e, if_pos (by omega)]; rfl
        · rw [if_neg e]
          show (t.set r.1 _)[k]? = _
          rw [List.getElem?_set, if_neg e]; rfl
    · rw [if_neg h, if_neg h]
theorem setT_app (t : List V) (a b : List (Nat × Nat)) : setT (setT t a) b = setT t (a ++ b) := by unfold setT; rw [List.foldl_append]
theorem isM.last {all rows : List (Nat × Nat)} (h : isM all rows) (k : Nat) : lastR rows k = lastR all k := by
  have hn : (rows.map (·.1)).Nodup := h.1.imp (fun h => by omega)
  rw [lastR_get hn]
  cases e : lastR all k with
  | some v => exact (getR_iff hn).mpr ((h.2 k v).mpr e)
  | none =>
    cases g : getR rows k with
    | none => rfl
    | some v => have := (h.2 k v).mp ((getR_iff hn).mp g); rw [e] at this; cases this
theorem isM.set {all rows : List (Nat × Nat)} (h : isM all rows) (t : List V) : setT t rows = setT t all := by
  apply List.ext_getElem?
  intro k
  rw [setT_at, setT_at, h.last]
theorem range_ext : ∀ {l : List Nat} {s n : Nat}, l.Pairwise (· < ·) → (∀ k, k ∈ l ↔ s ≤ k ∧ k < s + n) → l = List.range' s n
  | [], s, 0, _, _ => rfl
  | [], s, n + 1, _, h => by have := (h s).mpr ⟨by omega, by omega⟩; simp at this
  | a :: l, s, 0, _, h => by have := (h a).mp (by simp); omega
  | a :: l, s, n + 1, hp, h => by
    obtain ⟨ha, hl⟩ := List.pairwise_cons.mp hp
    have e : a = s := by
      have h1 := (h a).mp (by simp)
      rcases List.mem_cons.mp ((h s).mpr ⟨by omega, by omega⟩) with e | e
      · exact e.symm
      · have := ha s e; omega
    subst e
    rw [List.range'_succ, range_ext (l := l) (s := a + 1) (n := n) hl fun k => ?_]
    constructor
    · intro hk
      have := (h k).mp (List.mem_cons_of_mem _ hk)
      have := ha k hk
      omega
    · intro hk
      rcases List.mem_cons.mp ((h k).mpr ⟨by omega, by omega⟩) with e | e
      · omega
      · exact e
/-- a whole table's rows -/
theorem isM.whole {all rows : List (Nat × Nat)} {wd : Nat} {t : List V} (h : isM all rows) (ht : t.length = wd) (hall : ∀ k, (∃ v, lastR all k = some v) ↔ k < wd) : rows.map (fun r => V.int (r.2 : Int)) = setT t all := by
  have hk : rows.map (·.1) = List.range' 0 wd := range_ext h.1 fun k => by
    rw [List.mem_map]
    constructor
    · rintro ⟨r, hr, rfl⟩
      have := (hall r.1).mp ⟨r.2, (h.2 r.1 r.2).mp hr⟩
      omega
    · intro hk
      obtain ⟨v, hv⟩ := (hall k).mpr (by omega)
      exact ⟨(k, v), (h.2 k v).mpr hv, rfl⟩
  have hlen : rows.length = wd := by have := congrArg List.length hk; simpa using this
  apply List.ext_getElem?
  intro k
  rw [setT_at, List.getElem?_map, ht]
  by_cases hlt : k < wd
  · rw [if_pos hlt]
    have e1 : (rows.map (·.1))[k]? = some k := by rw [hk, List.getElem?_range' hlt]; simp
    rw [List.getElem?_map] at e1
    obtain ⟨r, hr, e⟩ := Option.map_eq_some_iff.mp e1
    rw [hr]
    have := (h.2 r.1 r.2).mp (List.mem_of_getElem? hr)
    have e : r.1 = k := e
    rw [e] at this
    rw [this]; rfl
  · rw [if_neg hlt, List.getElem?_eq_none (by omega)]; rfl
theorem len_lt {l : List Nat} {n : Nat} (hn : l.Nodup) (h : ∀ k ∈ l, k < n) : l.length ≤ n := by
  induction n generalizing l with
  | zero => cases l with
    | nil => exact Nat.le_refl _
    | cons a r => exact absurd (h a (by simp)) (by omega)
  | succ n ih =>
    have h2 := ih (l := l.erase n) (hn.erase n) fun k hk => by
      have h1 := h k (List.mem_of_mem_erase hk)
      have : k ≠ n := fun e => by subst e; exact (List.Nodup.not_mem_erase hn) hk
      omega
    have := List.length_erase (a := n) (l := l)
    split at this <;> omega
theorem mergeR_in : ∀ (more rs : List (Nat × Nat)) (k : Nat), k ∈ (mergeR rs more).map (·.1) → k ∈ rs.map (·.1) ∨ k ∈ more.map (·.1)
  | [], rs, k, h => .inl h
  | r :: more, rs, k, h => by
    rcases mergeR_in more (putR rs r.1 r.2) k h with h | h
    · rw [putR_keys] at h
      split at h
      · exact .inl h
      · rcases List.mem_append.mp h with h | h
        · exact .inl h
        · exact .inr (by have : k = r.1 := by simpa using h
                         rw [this]; simp)
    · exact .inr (by rw [List.map_cons]; exact List.mem_cons_of_mem _ h)
/-! ### isinstance(a known tuple, tuple) -/
theorem call_isinstFT {X : Cx} : CallR X (.builtin "isinstance") (fun xs H Q => ∃ a L, xs = [.ref a, .ty "tuple"] ∧ FT H a L ∧ Q (.bl true) H) := by
  rintro pins s σ H xs us Q I r ⟨a, L, rfl, ⟨ob, ⟨its, n, sl, rfl⟩, e⟩, q⟩
  obtain ⟨u, v, rfl, ru, rv⟩ := vals2 r
  cases (show u = Value.ref a from ru)
  cases (show v = Value.type "tuple" from rv)
  obtain ⟨h1, _⟩ := (show ObjOk X.prog X.w H s.heap a (.frz _ (.tup L)) from I.hok a _ e)
  exact PySem.W.kia_one PySem.W.kitx_tuple I.kIn ⟨_, h1, rfl⟩ (show PySem.W.kitOne X.K (.type "tuple") (.type "tuple") = some true from rfl) (fun z => nomatch z) fun tk => ⟨.bl true, H, I.tok _, rfl, q⟩
end L2
namespace Mine
open PySem L2
def top (i : Nat) : Stmt := PySem.Challenge.pw_keepsakes_k51_two_made_one.main.body.getD i (.Pass ⟨0, 0, 0, 0⟩)
abbrev s_BadPiece___init__ : Stmt := inClass (top 3) 0
abbrev s_NoMerge___init__ : Stmt := inClass (top 4) 0
abbrev s_turned : Stmt := top 7
abbrev s_check_of : Stmt := top 8
abbrev s_Piece___init__ : Stmt := inClass (top 10) 0
abbrev s_Piece_is_good : Stmt := inClass (top 10) 2
abbrev s_Whole___init__ : Stmt := inClass (top 11) 0
abbrev s_Whole_start : Stmt := inClass (top 11) 1
abbrev s_Whole_kind : Stmt := inClass (top 11) 2
abbrev s_Whole_laid : Stmt := inClass (top 11) 3
abbrev s_Gain___init__ : Stmt := inClass (top 12) 0
abbrev s_Gain_start : Stmt := inClass (top 12) 1
abbrev s_Gain_kind : Stmt := inClass (top 12) 2
abbrev s_Gain_laid : Stmt := inClass (top 12) 3
abbrev s_merged : Stmt := top 14
abbrev s__law_cell : Stmt := top 16
abbrev s__law_whole : Stmt := top 17
abbrev s__law_stir : Stmt := top 18
abbrev s__law_block : Stmt := top 19
abbrev s__law_check : Stmt := top 20
abbrev s__law_same_rows : Stmt := top 21
abbrev s__law_rows : Stmt := top 22
abbrev s__law_laid : Stmt := top 23
abbrev s__law_is_it : Stmt := top 24
abbrev s_law : Stmt := top 25
theorem sc_BadPiece___init__ : FnScope ["self", "day"] ["self", "day"] (defScope s_BadPiece___init__) := ⟨rfl, rfl, rfl, by decide +kernel, rfl, by decide +kernel, by decide +kernel⟩
theorem sc_NoMerge___init__ : FnScope ["self", "day", "base"] ["self", "day", "base"] (defScope s_NoMerge___init__) := ⟨rfl, rfl, rfl, by decide +kernel, rfl, by decide +kernel, by decide +kernel⟩
theorem sc_turned : FnScope ["number"] ["number"] (defScope s_turned) := ⟨rfl, rfl, rfl, by decide +kernel, rfl, by decide +kernel, by decide +kernel⟩
theorem sc_check_of : FnScope ["start", "day", "rows", "numbers", "place", "block", "check", "number"] ["start", "day", "rows"] (defScope s_check_of) := ⟨rfl, rfl, rfl, by decide +kernel, rfl, by decide +kernel, by decide +kernel⟩
theorem sc_Piece___init__ : FnScope ["self", "start", "day", "rows", "check", "fitting"] ["self", "start", "day", "rows", "check"] (defScope s_Piece___init__) := ⟨rfl, rfl, rfl, by decide +kernel, rfl, by decide +kernel, by decide +kernel⟩
theorem sc_Piece_is_good : FnScope ["self"] ["self"] (defScope s_Piece_is_good) := ⟨rfl, rfl, rfl, by decide +kernel, rfl, by decide +kernel, by decide +kernel⟩
theorem sc_Whole___init__ : FnScope ["self", "day", "rows", "check"] ["self", "day", "rows", "check"] (defScope s_Whole___init__) := ⟨rfl, rfl, rfl, by decide +kernel, rfl, by decide +kernel, by decide +kernel⟩
theorem sc_Whole_start : FnScope ["self"] ["self"] (defScope s_Whole_start) := ⟨rfl, rfl, rfl, by decide +kernel, rfl, by decide +kernel, by decide +kernel⟩
theorem sc_Whole_kind : FnScope ["self"] ["self"] (defScope s_Whole_kind) := ⟨rfl, rfl, rfl, by decide +kernel, rfl, by decide +kernel, by decide +kernel⟩
theorem sc_Whole_laid : FnScope ["self", "table"] ["self", "table"] (defScope s_Whole_laid) := ⟨rfl, rfl, rfl, by decide +kernel, rfl, by decide +kernel, by decide +kernel⟩
theorem sc_Gain___init__ : FnScope ["self", "base", "day", "rows", "check"] ["self", "base", "day", "rows", "check"] (defScope s_Gain___init__) := ⟨rfl, rfl, rfl, by decide +kernel, rfl, by decide +kernel, by decide +kernel⟩
theorem sc_Gain_start : FnScope ["self"] ["self"] (defScope s_Gain_start) := ⟨rfl, rfl, rfl, by decide +kernel, rfl, by decide +kernel, by decide +kernel⟩
theorem sc_Gain_kind : FnScope ["self"] ["self"] (defScope s_Gain_kind) := ⟨rfl, rfl, rfl, by decide +kernel, rfl, by decide +kernel, by decide +kernel⟩
theorem sc_Gain_laid : FnScope ["self", "table", "blocks", "place", "block"] ["self", "table"] (defScope s_Gain_laid) := ⟨rfl, rfl, rfl, by decide +kernel, rfl, by decide +kernel, by decide +kernel⟩
theorem sc_merged : FnScope ["first", "second", "piece", "blocks", "rows"] ["first", "second"] (defScope s_merged) := ⟨rfl, rfl, rfl, by decide +kernel, rfl, by decide +kernel, by decide +kernel⟩
theorem sc__law_cell : FnScope ["_law_script", "_law_k"] ["_law_script", "_law_k"] (defScope s__law_cell) := ⟨rfl, rfl, rfl, by decide +kernel, rfl, by decide +kernel, by decide +kernel⟩
theorem sc__law_whole : FnScope ["_law_found"] ["_law_found"] (defScope s__law_whole) := ⟨rfl, rfl, rfl, by decide +kernel, rfl, by decide +kernel, by decide +kernel⟩
theorem sc__law_stir : FnScope ["_law_cell_here", "_law_k", "_law_number"] ["_law_cell_here", "_law_k"] (defScope s__law_stir) := ⟨rfl, rfl, rfl, by decide +kernel, rfl, by decide +kernel, by decide +kernel⟩
theorem sc__law_block : FnScope ["_law_cell_here", "_law_k"] ["_law_cell_here", "_law_k"] (defScope s__law_block) := ⟨rfl, rfl, rfl, by decide +kernel, rfl, by decide +kernel, by decide +kernel⟩
theorem sc__law_check : FnScope ["_law_start", "_law_day", "_law_rows_here", "_law_numbers", "_law_place", "_law_block_here", "_law_total", "_law_number"] ["_law_start", "_law_day", "_law_rows_here"] (defScope s__law_check) := ⟨rfl, rfl, rfl, by decide +kernel, rfl, by decide +kernel, by decide +kernel⟩
theorem sc__law_same_rows : FnScope ["_law_found", "_law_rows_here", "_law_one", "_law_row"] ["_law_found", "_law_rows_here"] (defScope s__law_same_rows) := ⟨rfl, rfl, rfl, by decide +kernel, rfl, by decide +kernel, by decide +kernel⟩
theorem sc__law_rows : FnScope ["_law_script", "_law_begin", "_law_wide", "_law_whole_here", "_law_rows_here", "_law_k", "_law_cell_here"] ["_law_script", "_law_begin", "_law_wide", "_law_whole_here"] (defScope s__law_rows) := ⟨rfl, rfl, rfl, by decide +kernel, rfl, by decide +kernel, by decide +kernel⟩
theorem sc__law_laid : FnScope ["_law_table", "_law_rows_here", "_law_due", "_law_place", "_law_block_here"] ["_law_table", "_law_rows_here"] (defScope s__law_laid) := ⟨rfl, rfl, rfl, by decide +kernel, rfl, by decide +kernel, by decide +kernel⟩
theorem sc__law_is_it : FnScope ["_law_piece", "_law_whole_here", "_law_day", "_law_rows_here", "_law_due"] ["_law_piece", "_law_whole_here", "_law_day", "_law_rows_here"] (defScope s__law_is_it) := ⟨rfl, rfl, rfl, by decide +kernel, rfl, by decide +kernel, by decide +kernel⟩
theorem sc_law : FnScope ["_law_script", "_law_first", "_law_whole_here", "_law_wide", "_law_rows_here", "_law_later", "_law_day", "_law_one", "_law_other", "_law_blocks", "_law_place", "_law_block_here", "_law_due", "_law_piece", "_law_table"] ["_law_script"] (defScope s_law) := ⟨rfl, rfl, rfl, by decide +kernel, rfl, by decide +kernel, by decide +kernel⟩
def cellI (ns : List Int) (k : Int) : Int := if k < (ns.length : Int) then ns.getD k.toNat 0 else 37 * k + 11
def stirI (c k : Int) : Int := (c + 7919 * k) * 48271 % 2147483647 * ((c + 7919 * k) * 48271 % 2147483647) % 2147483629
theorem stir_bd (c k : Int) : 0 ≤ stirI c k ∧ stirI c k < 2147483629 := by
  unfold stirI
  exact ⟨Int.emod_nonneg _ (by first | decide | (dsimp only; decide)), Int.emod_lt_of_pos _ (by first | decide | (dsimp only; decide))⟩
def blockI (c k : Int) : Int := if (c + k) % 4 = 0 then (c / 4 + k) % 3 else if (c + k) % 4 = 1 then 18446744073709551616 - 1 - (c / 4 + k) % 3 else if (c + k) % 4 = 2 then c % 18446744073709551616 else
  (stirI c k * 8589934592 + stirI c (k + 50)) % 18446744073709551616
theorem block_bd (c k : Int) : 0 ≤ blockI c k ∧ blockI c k < 2 ^ 64 := by
  unfold blockI
  split
  · omega
  · split
    · omega
    · split
      · omega
      · exact ⟨Int.emod_nonneg _ (by first | decide | (dsimp only; decide)), Int.emod_lt_of_pos _ (by first | decide | (dsimp only; decide))⟩
def sp_cell (K : PySem.W.Frag) : Sp := fun vs H Q _ => ∃ (a : Addr) (ns : List Int) (k : Nat), vs = [.ref a, .int (k : Int)] ∧ SqL K H a (ns.map V.int) ∧ Q (.int (cellI ns k)) H
def sp_whole : Sp := fun vs H Q _ => ∃ n : Int, vs = [.int n] ∧ Q (.bl true) H
def sp_stir : Sp := fun vs H Q _ => ∃ c k : Int, vs = [.int c, .int k] ∧ Q (.int (stirI c k)) H
def sp_block : Sp := fun vs H Q _ => ∃ c k : Int, vs = [.int c, .int k] ∧ Q (.int (blockI c k)) H
def sp_merged (CW CG CN CB : Addr) : Sp := fun vs H Q E => ∃ (p1 p2 : Addr) (w1 w2 : Bool) (b1 d1 b2 d2 : Nat) (rows1 rows2 : List (Nat × Nat)) (c1 c2 : Int), vs = [.ref p1, .ref p2] ∧ PAtF CW CG H p1 w1 b1 d1 rows1 c1 ∧ PAtF CW CG H p2 w2 b2 d2 rows2 c2 ∧ (rows1.length ≤ 100 ∧ rows2.length ≤ 100 ∧ (mergeR (mergeR [] rows1) (mergeR [] rows2)).length < 64) ∧
  (stI w2 b2 ≠ (d1 : Int) → ∀ e H', ExcAt H' e CN [("day", .int (d1 : Int)), ("base", .int (stI w2 b2))] → Same H H' → E (.ref CN) (some e) H') ∧
  (stI w2 b2 = (d1 : Int) → c1 ≠ (ckOf w1 b1 d1 rows1 : Nat) → ∀ e H', ExcAt H' e CB [("day", .int (d1 : Int))] → Same H H' → E (.ref CB) (some e) H') ∧
  (stI w2 b2 = (d1 : Int) → c1 = (ckOf w1 b1 d1 rows1 : Nat) → c2 ≠ (ckOf w2 b2 d2 rows2 : Nat) → ∀ e H', ExcAt H' e CB [("day", .int (d2 : Int))] → Same H H' → E (.ref CB) (some e) H') ∧
  (stI w2 b2 = (d1 : Int) → c1 = (ckOf w1 b1 d1 rows1 : Nat) → c2 = (ckOf w2 b2 d2 rows2 : Nat) → ∀ x b rows H', (w1 = false → b = b1) → mrgOk rows1 rows2 rows → PAtF CW CG H' x w1 b d2 rows (ckOf w1 b d2 rows : Nat) → Same H H' → Q (.ref x) H')
def sp_lrows (K : PySem.W.Frag) : Sp := fun vs H Q _ => ∃ (a : Addr) (ns : List Int) (g wd : Nat) (wh : Bool), vs = [.ref a, .int (g : Int), .int (wd : Int), .bl wh] ∧ SqL K H a (ns.map V.int) ∧ wd ≤ 40 ∧ ∀ l L rows H', H' l = some (.lst L) → H l = none → RowsAt H' L rows → (∀ r ∈ rows, r.1 < wd) → (wh = true → rows.map (·.1) = List.range wd) → rows.length ≤ 40 → Same H H' → Q (.ref l) H'
def sp_srows : Sp := fun vs H Q _ => ∃ (f l : Addr) (R L : List V) (rows : List (Nat × Nat)), vs = [.ref f, .ref l] ∧ FT H f R ∧ H l = some (.lst L) ∧ RowsAt H R rows ∧ RowsAt H L rows ∧ ∀ H', Same H H' → Q (.bl true) H'
def sp_wlaid (CW CG : Addr) : Sp := fun vs H Q _ => ∃ (p tb : Addr) (b d : Nat) (rows : List (Nat × Nat)) (c : Int), vs = [.ref p, .ref tb] ∧ PAtF CW CG H p true b d rows c ∧ rows.length ≤ 100 ∧ ∀ r H', H' r = some (.lst (rows.map fun r => V.int (r.2 : Int))) → H r = none → Same H H' → Q (.ref r) H'
def sp_glaid (CW CG : Addr) : Sp := fun vs H Q _ => ∃ (p tb : Addr) (b d : Nat) (rows : List (Nat × Nat)) (c : Int) (t : List V), vs = [.ref p, .ref tb] ∧ PAtF CW CG H p false b d rows c ∧ H tb = some (.lst t) ∧ (∀ r ∈ rows, r.1 < t.length) ∧ ∀ r H', H' r = some (.lst (setT t rows)) → H r = none → Same H H' → Q (.ref r) H'
def sp_llaid : Sp := fun vs H Q _ => ∃ (tb l : Addr) (L t : List V) (rows : List (Nat × Nat)), vs = [.ref tb, .ref l] ∧ H tb = some (.lst t) ∧ H l = some (.lst L) ∧ RowsAt H L rows ∧ (∀ r ∈ rows, r.1 < t.length) ∧ ∀ r H', H' r = some (.lst (setT t rows)) → H r = none → Same H H' → Q (.ref r) H'
def sp_isit (CW CG : Addr) : Sp := fun vs H Q _ => ∃ (p l : Addr) (wh : Bool) (b d : Nat) (L : List V) (rows : List (Nat × Nat)), vs = [.ref p, .bl wh, .int (d : Int), .ref l] ∧ PAtF CW CG H p wh b d rows (ckOf wh b d rows : Nat) ∧ (wh = false → b = 3) ∧ H l = some (.lst L) ∧ RowsAt H L rows ∧ rows.length ≤ 100 ∧ ∀ H', Same H H' → Q (.bl true) H'
def sp_law (K : PySem.W.Frag) : Sp := fun vs H Q _ => ∃ (a : Addr) (ns : List Int), vs = [.ref a] ∧ SqL K H a (ns.map V.int) ∧ ns.length ≤ 63 ∧ ∀ H', Q (.bl true) H'
structure Txt (K : PySem.W.Frag) (mg : Str → Option Value) (t_W : Tok) (C_KeepError : Addr) (C_BadPiece : Addr) (C_NoMerge : Addr) (C_Piece : Addr) (C_Whole : Addr) (C_Gain : Addr) : Prop where
  m_W : mg "W" = some (.int 18446744073709551615 t_W)
  mg_KeepError : mg "KeepError" = some (.ref C_KeepError)
  x_KeepError : XCls K C_KeepError
  mg_BadPiece : mg "BadPiece" = some (.ref C_BadPiece)
  x_BadPiece : XCls K C_BadPiece
  n_BadPiece_day : NoAttr K C_BadPiece "day"
  mg_NoMerge : mg "NoMerge" = some (.ref C_NoMerge)
  x_NoMerge : XCls K C_NoMerge
  n_NoMerge_day : NoAttr K C_NoMerge "day"
  n_NoMerge_base : NoAttr K C_NoMerge "base"
  mg_Piece : mg "Piece" = some (.ref C_Piece)
  mg_Whole : mg "Whole" = some (.ref C_Whole)
  cl_Whole : Cls K C_Whole
  n_Whole_day : NoAttr K C_Whole "day"
  n_Whole_rows : NoAttr K C_Whole "rows"
  n_Whole_check : NoAttr K C_Whole "check"
  n_Whole_fits : NoAttr K C_Whole "fits"
  mg_Gain : mg "Gain" = some (.ref C_Gain)
  cl_Gain : Cls K C_Gain
  n_Gain_day : NoAttr K C_Gain "day"
  n_Gain_rows : NoAttr K C_Gain "rows"
  n_Gain_check : NoAttr K C_Gain "check"
  n_Gain_fits : NoAttr K C_Gain "fits"
  n_Gain_base : NoAttr K C_Gain "base"
  b_len : mg "len" = none
  b_isinstance : mg "isinstance" = none
  b_int : mg "int" = none
  b_bool : mg "bool" = none
  b_list : mg "list" = none
  b_tuple : mg "tuple" = none
  b_range : mg "range" = none
  b_dict : mg "dict" = none
  b_sorted : mg "sorted" = none
  b_zip : mg "zip" = none
  clgX : PySem.W.specialIn K (.builtin "object.__class__") "__get__" = some (some (.builtin "getset_descriptor.__get__"))
  cltX : PySem.W.takesIn K (.builtin "object.__class__") = some true
  ic_Whole : PySem.W.findIn K (.ref C_Whole) "__class__" = some (some (.builtin "object.__class__"))
  io_Whole : PySem.W.mroIn K C_Whole (.type "object") = some true
  k_Whole_Whole : PySem.W.kitOne K (.ref C_Whole) (.ref C_Whole) = some true
  k_Whole_Gain : PySem.W.kitOne K (.ref C_Whole) (.ref C_Gain) = some false
  ic_Gain : PySem.W.findIn K (.ref C_Gain) "__class__" = some (some (.builtin "object.__class__"))
  io_Gain : PySem.W.mroIn K C_Gain (.type "object") = some true
  k_Gain_Whole : PySem.W.kitOne K (.ref C_Gain) (.ref C_Whole) = some false
  k_Gain_Gain : PySem.W.kitOne K (.ref C_Gain) (.ref C_Gain) = some true
section
variable {P : Program} {w : World} {K : PySem.W.Frag} {mg : Str → Option Value} {base : Heap} {t_W : Tok} {C_KeepError : Addr} {C_BadPiece : Addr} {C_NoMerge : Addr} {C_Piece : Addr} {C_Whole : Addr} {C_Gain : Addr}
theorem ok_BadPiece___init__ {f : Addr} {fd : FuncData} (F : Fun K "__init__" "BadPiece.__init__" s_BadPiece___init__ f fd) (T : Txt K mg t_W C_KeepError C_BadPiece C_NoMerge C_Piece C_Whole C_Gain) : FnOk P w K mg base (CXx P w) 1 f fd ["self", "day"] (sp_x1 C_BadPiece "day") := by
  refine F.okX sc_BadPiece___init__ (fun vs H Q E h => ?_) (fun cdv A outer s H vs Q E hr h => ?_)
  · obtain ⟨p, y0, rfl, hp, q⟩ := h; rfl
  · obtain ⟨p, y0, rfl, hp, q⟩ := h
    refine ⟨_, (pss_one (ps_xfld1 (pv 0) (pv 1) rfl)), ?_⟩
    exact ⟨_, rfl, _, rfl, p, C_BadPiece, true, rfl, hp, T.x_BadPiece, T.n_BadPiece_day, fun dx hdx => q dx hdx⟩
theorem ok_NoMerge___init__ {f : Addr} {fd : FuncData} (F : Fun K "__init__" "NoMerge.__init__" s_NoMerge___init__ f fd) (T : Txt K mg t_W C_KeepError C_BadPiece C_NoMerge C_Piece C_Whole C_Gain) : FnOk P w K mg base (CXx P w) 1 f fd ["self", "day", "base"] (sp_x2 C_NoMerge "day" "base") := by
  refine F.okX sc_NoMerge___init__ (fun vs H Q E h => ?_) (fun cdv A outer s H vs Q E hr h => ?_)
  · obtain ⟨p, y0, y1, rfl, hp, q⟩ := h; rfl
  · obtain ⟨p, y0, y1, rfl, hp, q⟩ := h
    refine ⟨_, (pss_cons (ps_xfld1 (pv 0) (pv 1) rfl)
      (pss_one (ps_xfld2 (pv 0) (pv 2) rfl))), ?_⟩
    refine ⟨_, rfl, _, rfl, p, C_NoMerge, true, rfl, hp, T.x_NoMerge, T.n_NoMerge_day, fun dx hdx => ?_⟩
    refine ⟨_, rfl, _, rfl, p, C_NoMerge, true, dx, _, rfl, upd_same, by rw [upd_ne (ne_of_none hp hdx).symm, upd_same], T.x_NoMerge, T.n_NoMerge_base, (by show 1 < 1000; decide), ?_⟩
    exact x2_swap (ne_of_none hp hdx) (by decide +kernel) (q dx hdx)
theorem ok_turned {f : Addr} {fd : FuncData} (F : Fun K "turned" "turned" s_turned f fd) (T : Txt K mg t_W C_KeepError C_BadPiece C_NoMerge C_Piece C_Whole C_Gain)  : FnOk P w K mg base (CXx P w) 1 f fd ["number"] (sp_turned) := by
  refine F.okX sc_turned (fun vs H Q E h => ?_) (fun cdv A outer s H vs Q E hr h => ?_)
  · obtain ⟨n, rfl, q⟩ := h; rfl
  · obtain ⟨n, rfl, q⟩ := h
    refine ⟨_, (pss_one (ps_ret (pe_op op_add (pe_op op_mod (pe_op op_mul (pv 0) pe_int) (pe_op op_add (pe_glob (v := .int 18446744073709551615) rfl T.m_W ⟨_, rfl⟩) pe_int)) (pe_op op_fdivB (pv 0) (pe_powc (n := 144115188075855872)))))), ?_⟩
    refine ⟨_, rfl, _, _, rfl, rfl, .inr ⟨by first | decide | (dsimp only; decide), by first | decide | (dsimp only; decide)⟩, _, _, rfl, rfl, _, _, rfl, rfl, (by first | decide | (dsimp only; decide)), _, rfl, _, _, rfl, rfl, ⟨by first | decide | (dsimp only; decide), by first | decide | (dsimp only; decide)⟩, _, _, rfl, rfl, ?_⟩
    exact q
theorem ok_check_of {f : Addr} {fd : FuncData} (F : Fun K "check_of" "check_of" s_check_of f fd) (T : Txt K mg t_W C_KeepError C_BadPiece C_NoMerge C_Piece C_Whole C_Gain) (D_turned : DefX P w K mg base "turned" 1 ["number"] sp_turned) : FnOk P w K mg base (CXx P w) 2 f fd ["start", "day", "rows"] (sp_checkF) := by
  refine F.okX sc_check_of (fun vs H Q E h => ?_) (fun cdv A outer s H vs Q E hr h => ?_)
  · obtain ⟨s1, d, a, L, rows, rfl, hA, R, hlen, q⟩ := h; rfl
  · obtain ⟨s1, d, a, L, rows, rfl, hA, R, hlen, q⟩ := h
    refine ⟨_, (pss_cons (ps_set (i := 3) sc_check_of.nd rfl (Or.inl rfl) (pe_lst (pa_cons (pe_op op_add (pv 0) pe_int) (pa_cons (pv 1) pa_nil))))
      (pss_cons (ps_for PassesOwn.leaving rfl (pi_tup (pv 2)) (pg_tup rfl (pgs_cons (pg_name (i := 4) sc_check_of.nd rfl (Or.inl rfl)) (pgs_cons (pg_name (i := 5) sc_check_of.nd rfl (Or.inl rfl)) pgs_nil)))
      (pss_one (ps_expr (pe_bm PySem.F.plainAttrs_list PySem.F.slot_list_extend PySem.F.type_list_extend mt_extend (pv 3) (pa_cons (pe_lst (pa_cons (pv 4) (pa_cons (pv 5) pa_nil))) pa_nil)))))
      (pss_cons (ps_set (i := 6) sc_check_of.nd rfl (Or.inl rfl) pe_int)
      (pss_cons (ps_for PassesOwn.leaving rfl (pi_list (pv 3)) (pg_name (i := 7) sc_check_of.nd rfl (Or.inl rfl))
      (pss_one (ps_set (i := 6) sc_check_of.nd rfl (Or.inl rfl) (pe_op op_xor (pe_callS D_turned passesN (hr.mono (by decide)) rfl (pa_cons (pv 6) pa_nil)) (pv 7)))))
      (pss_one (ps_ret (pv 6))))))), ?_⟩
    refine ⟨_, rfl, _, _, rfl, rfl, _, rfl, (by show 2 ≤ sizeLine; decide), fun m hm => ?_⟩
    refine ⟨_, rfl, a, rfl, ⟨_, (hA.keep (Same.new hm)).sq⟩, for_tup (K := K) (a := a) (xs := L) (fun i σ H2 => ∃ v4 v5 : Option V, σ = [some (.int ((s1 : Int) - 1)), some (.int (d : Int)), some (.ref a), some (.ref m), v4, v5, none, none] ∧ Same H H2 ∧
      H2 m = some (.lst ((s1 :: d :: flat (rows.take i)).map fun z : Nat => V.int (z : Int))))
    ⟨none, none, rfl, Same.new hm, by rw [upd_same]; show some (HO.lst [V.int ((s1 : Int) - 1 + 1), V.int (d : Int)]) = _; rw [Int.sub_add_cancel]; rfl⟩ (fun i σ H2 _ ⟨_, _, _, s2, _⟩ => (hA.keep s2).sq) ?_ ?_⟩
    · rintro i v σ H2 hi ⟨v4, v5, rfl, s2, h2⟩
      obtain ⟨t, r, rfl, hr2, ht⟩ := R.get i v hi
      have hil : i < rows.length := (List.getElem?_eq_some_iff.mp hr2).1
      refine ⟨t, _, rfl, SqT.of (s2 t _ ht), rfl, _, _, rfl, _, _, rfl, rfl, ?_⟩
      refine ⟨_, rfl, .inl ⟨rfl, _, SqL.of h2⟩, _, rfl, _, rfl, (by show 2 ≤ sizeLine; decide), fun l hl => ?_⟩
      have nml : m ≠ l := ne_of_none h2 hl
      have hml : H l = none := s2.free hl
      refine ⟨m, l, _, _, rfl, rfl, (by rw [upd_ne nml]; exact h2), upd_same, ?_, ?_⟩
      · have e1 : (flat (rows.take i)).length = 2 * i := by rw [flat_len, List.length_take]; omega
        show _ ≤ sizeLine
        simp only [List.length_map, List.length_cons, e1, List.length_nil]
        exact Nat.le_of_lt (small1000 (by omega))
      · refine ⟨_, _, rfl, fun b o e => ?_, ?_⟩
        · rw [upd_ne (ne_of_none e hm), upd_ne (ne_of_none e hml)]; exact s2 b o e
        · rw [upd_same]
          have e : rows.take (i + 1) = rows.take i ++ [r] := by rw [List.take_add_one, hr2]; rfl
          rw [e, flat_snoc]; simp
    · rintro σ H2 ⟨v4, v5, rfl, s2, h2⟩
      have h2 : H2 m = some (.lst ((s1 :: d :: flat rows).map fun z : Nat => V.int (z : Int))) := by
        rw [h2, R.len, List.take_length]
      refine ⟨_, rfl, m, rfl, ⟨_, SqL.of h2⟩, for_list (K := K) (a := m) (xs := (s1 :: d :: flat rows).map fun z : Nat => V.int (z : Int)) (fun i σ H3 => ∃ v7 : Option V, σ = [some (.int ((s1 : Int) - 1)), some (.int (d : Int)), some (.ref a), some (.ref m), v4, v5, some (.int ((((s1 :: d :: flat rows).take i).foldl Chk.stp 0 : Nat) : Int)), v7] ∧ H3 = H2)
        ⟨none, rfl, rfl⟩ (fun i σ H3 _ ⟨_, _, e⟩ => by rw [e]; exact SqL.of h2) ?_ ?_⟩
      · rintro i v σ H3 hi ⟨v7, rfl, rfl⟩
        rw [List.getElem?_map] at hi
        cases ez : (s1 :: d :: flat rows)[i]? with
        | none => rw [ez] at hi; cases hi
        | some z =>
          rw [ez] at hi
          have hi : V.int (z : Int) = v := Option.some.inj hi
          subst hi
          refine ⟨_, rfl, _, rfl, _, rfl, _, _, rfl, rfl, ?_⟩
          have e : Builtin.bitXor (tI ((((s1 :: d :: flat rows).take i).foldl Chk.stp 0 : Nat) : Int)) (z : Int) = ((((s1 :: d :: flat rows).take (i + 1)).foldl Chk.stp 0 : Nat) : Int) := by
            rw [tI_nat, xor_nat, List.take_add_one, ez]
            simp only [Option.toList, List.foldl_append, List.foldl_cons, List.foldl_nil]
            rfl
          exact ⟨some (V.int (z : Int)), by rw [← e]; rfl, rfl⟩
      · rintro σ H3 ⟨v7, rfl, rfl⟩
        refine ⟨_, rfl, ?_⟩
        rw [List.length_map, List.take_length]
        exact q H3 s2
theorem ok_Piece___init__ {f : Addr} {fd : FuncData} (F : Fun K "__init__" "Piece.__init__" s_Piece___init__ f fd) (T : Txt K mg t_W C_KeepError C_BadPiece C_NoMerge C_Piece C_Whole C_Gain) (D_check_of : DefX P w K mg base "check_of" 2 ["start", "day", "rows"] sp_checkF) : FnOk P w K mg base (CXx P w) 3 f fd ["self", "start", "day", "rows", "check"] (sp_pinitF K) := by
  refine F.okX sc_Piece___init__ (fun vs H Q E h => ?_) (fun cdv A outer s H vs Q E hr h => ?_)
  · obtain ⟨p, C, dx, a, s1, d, L, rows, cv, c, rfl, hp, cl, n1, n2, n3, n4, hA, R, hlen, hcv, q⟩ := h; rfl
  · obtain ⟨p, C, dx, a, s1, d, L, rows, cv, c, rfl, hp, cl, n1, n2, n3, n4, hA, R, hlen, hcv, q⟩ := h
    refine ⟨_, (pss_cons (ps_fld (pv 0) (pv 2) rfl)
      (pss_cons (ps_fld (pv 0) (pe_callTy call_tuple_ofF (by rfl) T.b_tuple PyProof.Rows.boot_tuple (pa_cons (pe_comp (N := ["place", "block"]) (k := 2) (cap := []) rfl rfl (pi_list (pv 3)) (fun _ _ _ _ => (pg_tupK (K := K) (n := 2) rfl rfl (pgs_cons (pg_name (i := 0) (show (["place", "block"] : List Str).Nodup from by decide +kernel) rfl (Or.inl rfl) (.inr rfl)) (pgs_cons (pg_name (i := 1) (show (["place", "block"] : List Str).Nodup from by decide +kernel) rfl (Or.inl rfl) (.inr rfl)) pgs_nil)))) (fun _ _ _ _ => pts_nil) (fun _ _ _ _ => (pe_tup (pa_cons (pv 0) (pa_cons (pv 1) pa_nil))))) pa_nil)) rfl)
      (pss_cons (ps_set (i := 5) sc_Piece___init__.nd rfl (Or.inl rfl) (pe_callS D_check_of passesN (hr.mono (by decide)) rfl (pa_cons (pv 1) (pa_cons (pv 2) (pa_cons (pe_fld (pv 0) rfl) pa_nil)))))
      (pss_cons (ps_fld (pv 0) (pe_ifExp (pt_cmpR op_isN (pv 4) pe_non (nomark _)) (pv 5) (pv 4)) rfl)
      (pss_one (ps_fld (pv 0) (pe_cmpR op_eq (pe_fld (pv 0) rfl) (pv 5) (nomark _)) rfl)))))), ?_⟩
    have npa : a ≠ p := ne_of hA hp (by intro z; cases z)
    refine ⟨_, rfl, _, rfl, p, C, dx, _, rfl, hp, cl, n1, (by show 0 < 1000; decide), ?_⟩
    have hp1 : upd H p (.ins C dx (putF "day" (V.int (d : Int)) [])) p = some (.ins C dx [("day", V.int (d : Int))]) := upd_same
    have k1 : Keep [p] H (upd H p (.ins C dx (putF "day" (V.int (d : Int)) []))) := keep_upd Keep.refl (.inl (by simp))
    generalize upd H p (.ins C dx (putF "day" (V.int (d : Int)) [])) = H1 at hp1 k1
    have hA1 : H1 a = some (.lst L) := k1 a _ hA (by simpa using npa)
    have R1 : RowsAt H1 L rows := R.mono fun t xs e => k1 t _ e (by have := ne_of e hp (by intro z; cases z); simpa using this)
    refine ⟨_, rfl, a, rfl, ⟨_, SqL.of hA1⟩, fun D hD => ?_⟩
    refine comp_list D (K := K) (a := a) (xs := L) (fun i σ H5 ys => ∃ v v' : Option V, σ = [v, v'] ∧ Same H1 H5 ∧ H5 D = some (.lst ys) ∧ RowsAt H5 ys (rows.take i)) ⟨none, none, rfl, Same.new hD, upd_same, ⟨rfl, fun i v e => by simp at e⟩⟩ (fun i σ H5 ys _ ⟨_, _, _, s5, _⟩ => SqL.of (s5 a _ hA1)) ?_ ?_
    · rintro i x σ H5 ys hi ⟨v, v', rfl, s5, hy, R5⟩
      obtain ⟨t, r, rfl, hr2, ht⟩ := R1.get i x hi
      refine ⟨t, _, rfl, SqT.of (s5 t _ ht), rfl, _, _, rfl, _, _, rfl, rfl, _, rfl, _, rfl, (by show 2 ≤ sizeLine; decide), fun t2 ht2 => ?_⟩
      have nD : D ≠ t2 := ne_of_none hy ht2
      refine ⟨by rw [upd_ne nD]; exact hy, (by rw [R5.len, List.length_take]; exact small1000 (by omega)), _, _, rfl, fun b o e => ?_, upd_same, ?_⟩
      · rw [upd_ne (ne_of_none e hD)]; exact Same.new ht2 b _ (s5 b _ e)
      · rw [List.take_add_one, hr2]
        refine (R5.mono fun b xs e => ?_).snoc ?_
        · rw [upd_ne (ne_of e hy (by intro z; cases z))]; exact Same.new ht2 b _ e
        · rw [upd_ne nD.symm, upd_same]
    · rintro σ H5 ys ⟨v, v', rfl, s5, hy, R5⟩
      rw [show rows.take L.length = rows by rw [R1.len, List.take_length]] at R5
      refine ⟨D, _, rfl, SqL.of hy, fun r ob hr hob => ?_⟩
      have hp5 := s5 p _ hp1
      have npr : p ≠ r := ne_of_none hp5 hr
      refine ⟨_, rfl, p, C, dx, _, rfl, Same.new hr p _ hp5, cl, n2, (by show 1 < 1000; decide), ?_⟩
      rw [put_rows]
      have hp6 : upd (upd H5 r (.frz ob (.tup ys))) p (.ins C dx [("day", V.int (d : Int)), ("rows", V.ref r)]) p = some (.ins C dx [("day", V.int (d : Int)), ("rows", V.ref r)]) := upd_same
      have hr6 : upd (upd H5 r (.frz ob (.tup ys))) p (.ins C dx [("day", V.int (d : Int)), ("rows", V.ref r)]) r = some (.frz ob (.tup ys)) := by rw [upd_ne npr.symm, upd_same]
      have k6 : Keep [p] H5 (upd (upd H5 r (.frz ob (.tup ys))) p (.ins C dx [("day", V.int (d : Int)), ("rows", V.ref r)])) := keep_upd (Keep.of_same (Same.new hr)) (.inl (by simp))
      have R6 : RowsAt (upd (upd H5 r (.frz ob (.tup ys))) p (.ins C dx [("day", V.int (d : Int)), ("rows", V.ref r)])) ys rows := R5.mono fun t xs e => k6 t _ e (by have := ne_of e hp5 (by intro z; cases z); simpa using this)
      generalize upd (upd H5 r (.frz ob (.tup ys))) p (.ins C dx [("day", V.int (d : Int)), ("rows", V.ref r)]) = H6 at hp6 hr6 k6 R6
      have k06 : Keep [p] H H6 := fun b o e hb => k6 b o (s5 b o (k1 b o e hb)) hb
      have npr6 : r ≠ p := npr.symm
      refine ⟨_, rfl, _, rfl, _, rfl, p, C, dx, _, _, rfl, hp6, cl, n2, lk_rows, s1, d, r, ys, rows, rfl, ⟨ob, hob, hr6⟩, R6, hlen, fun H7 s7 => ?_⟩
      have last : Q V.non (upd (upd H7 p (.ins C dx [("day", V.int (d : Int)), ("rows", V.ref r), ("check", V.int c)])) p (.ins C dx (putF "fits" (V.bl (decide (V.int c = V.int ((Chk.chk (s1 :: d :: flat rows) : Nat) : Int)))) [("day", V.int (d : Int)), ("rows", V.ref r), ("check", V.int c)]))) := by
        rw [put_fits, upd_upd, decI]
        refine q r ys _ upd_same ⟨ob, hob, by rw [upd_ne npr6]; exact s7 r _ hr6⟩ (R6.mono fun t xs e => ?_) fun b o e hb => ?_
        · rw [upd_ne (ne_of e hp6 (by intro z; cases z))]; exact s7 t _ e
        · rw [upd_ne (by simpa using hb)]; exact s7 b _ (k06 b o e hb)
      rcases hcv with ⟨rfl, hc⟩ | rfl
      · subst hc
        refine ⟨_, rfl, rfl, _, rfl, ?_⟩
        refine iteY rfl ?_
        refine ⟨_, rfl, _, rfl, p, C, dx, _, rfl, s7 p _ hp6, cl, n3, (by show 2 < 1000; decide), ?_⟩
        rw [put_check]
        refine ⟨_, rfl, p, C, dx, _, _, rfl, upd_same, cl, n3, lk_check, _, rfl, rfl, _, rfl, p, C, dx, _, rfl, upd_same, cl, n4, (by show 3 < 1000; decide), ?_⟩
        exact last
      · refine ⟨_, rfl, rfl, _, rfl, ?_⟩
        refine iteN (by intro h; cases h) ?_
        refine ⟨_, rfl, _, rfl, p, C, dx, _, rfl, s7 p _ hp6, cl, n3, (by show 2 < 1000; decide), ?_⟩
        rw [put_check]
        refine ⟨_, rfl, p, C, dx, _, _, rfl, upd_same, cl, n3, lk_check, _, rfl, rfl, _, rfl, p, C, dx, _, rfl, upd_same, cl, n4, (by show 3 < 1000; decide), ?_⟩
        exact last
theorem ok_Whole___init__ {f : Addr} {fd : FuncData} {dV : Value} (F : FunD K "__init__" "Whole.__init__" s_Whole___init__ f fd dV) (T : Txt K mg t_W C_KeepError C_BadPiece C_NoMerge C_Piece C_Whole C_Gain) (D_Piece___init__ : ClsX P w K mg base "Piece" C_Piece "__init__" 3 ["self", "start", "day", "rows", "check"] (sp_pinitF K)) : FnOk P w K mg base (CXx P w) 4 f fd ["self", "day", "rows", "check"] (sp_winitF C_Whole C_Gain) := by
  refine F.okX sc_Whole___init__ (fun vs H Q E h => ?_) (fun cdv A outer s H vs Q E hr h => ?_)
  · obtain ⟨p, dx, a, d, L, rows, cv, c, rfl, hp, hA, R, hlen, hcv, q⟩ := h; rfl
  · obtain ⟨p, dx, a, d, L, rows, cv, c, rfl, hp, hA, R, hlen, hcv, q⟩ := h
    refine ⟨_, (pss_one (ps_expr (pe_clsS (pe_glob (v := .ref C_Piece) rfl T.mg_Piece rfl) D_Piece___init__ passesN (hr.mono (by decide)) (pa_cons (pv 0) (pa_cons (pe_un un_neg pe_int) (pa_cons (pv 1) (pa_cons (pv 2) (pa_cons (pv 3) pa_nil)))))))), ?_⟩
    refine ⟨_, rfl, _, rfl, _, rfl, _, rfl, _, rfl, p, C_Whole, dx, a, 0, d, L, rows, cv, c, rfl, hp, T.cl_Whole, T.n_Whole_day, T.n_Whole_rows, T.n_Whole_check, T.n_Whole_fits, hA, R, hlen, hcv, fun r Rr H1 h1 h2 h3 k1 => ?_⟩
    exact q H1 ⟨dx, r, Rr, h1, h2, h3⟩ k1
theorem ok_Gain___init__ {f : Addr} {fd : FuncData} {dV : Value} (F : FunD K "__init__" "Gain.__init__" s_Gain___init__ f fd dV) (T : Txt K mg t_W C_KeepError C_BadPiece C_NoMerge C_Piece C_Whole C_Gain) (D_Piece___init__ : ClsX P w K mg base "Piece" C_Piece "__init__" 3 ["self", "start", "day", "rows", "check"] (sp_pinitF K)) : FnOk P w K mg base (CXx P w) 4 f fd ["self", "base", "day", "rows", "check"] (sp_ginitF C_Whole C_Gain) := by
  refine F.okX sc_Gain___init__ (fun vs H Q E h => ?_) (fun cdv A outer s H vs Q E hr h => ?_)
  · obtain ⟨p, dx, a, b, d, L, rows, cv, c, rfl, hp, hA, R, hlen, hcv, q⟩ := h; rfl
  · obtain ⟨p, dx, a, b, d, L, rows, cv, c, rfl, hp, hA, R, hlen, hcv, q⟩ := h
    refine ⟨_, (pss_cons (ps_expr (pe_clsS (pe_glob (v := .ref C_Piece) rfl T.mg_Piece rfl) D_Piece___init__ passesN (hr.mono (by decide)) (pa_cons (pv 0) (pa_cons (pv 1) (pa_cons (pv 2) (pa_cons (pv 3) (pa_cons (pv 4) pa_nil)))))))
      (pss_one (ps_fld (pv 0) (pv 1) rfl))), ?_⟩
    refine ⟨_, rfl, _, rfl, _, rfl, _, rfl, _, rfl, p, C_Gain, dx, a, b + 1, d, L, rows, cv, c, (by rw [show (((b + 1 : Nat) : Int) - 1) = (b : Int) by omega]), hp, T.cl_Gain, T.n_Gain_day, T.n_Gain_rows, T.n_Gain_check, T.n_Gain_fits, hA, R, hlen, hcv, fun r Rr H1 h1 h2 h3 k1 => ?_⟩
    refine ⟨_, rfl, _, rfl, p, C_Gain, dx, _, rfl, h1, T.cl_Gain, T.n_Gain_base, (by show 4 < 1000; decide), ?_⟩
    rw [put_base]
    refine q _ ⟨dx, r, Rr, upd_same, ?_, h3.mono fun t xs e => ?_⟩ (keep_upd k1 (.inl (by simp)))
    · obtain ⟨ob, hob, h2⟩ := h2
      exact ⟨ob, hob, by rw [upd_ne (ne_of h2 h1 (by intro z; cases z))]; exact h2⟩
    · rw [upd_ne (ne_of e h1 (by intro z; cases z))]; exact e
theorem ok_Whole_start {f : Addr} {fd : FuncData} (F : Fun K "start" "Whole.start" s_Whole_start f fd) (T : Txt K mg t_W C_KeepError C_BadPiece C_NoMerge C_Piece C_Whole C_Gain)  : FnOk P w K mg base (CXx P w) 1 f fd ["self"] (sp_wstart) := by
  refine F.okX sc_Whole_start (fun vs H Q E h => ?_) (fun cdv A outer s H vs Q E hr h => ?_)
  · obtain ⟨p, rfl, q⟩ := h; rfl
  · obtain ⟨p, rfl, q⟩ := h
    refine ⟨_, (pss_one (ps_ret (pe_un un_neg pe_int))), ?_⟩
    exact ⟨_, rfl, q⟩
theorem ok_Whole_kind {f : Addr} {fd : FuncData} (F : Fun K "kind" "Whole.kind" s_Whole_kind f fd) (T : Txt K mg t_W C_KeepError C_BadPiece C_NoMerge C_Piece C_Whole C_Gain)  : FnOk P w K mg base (CXx P w) 1 f fd ["self"] (sp_wkind) := by
  refine F.okX sc_Whole_kind (fun vs H Q E h => ?_) (fun cdv A outer s H vs Q E hr h => ?_)
  · obtain ⟨p, rfl, q⟩ := h; rfl
  · obtain ⟨p, rfl, q⟩ := h
    refine ⟨_, (pss_one (ps_ret pe_str)), ?_⟩
    exact q
theorem ok_Gain_start {f : Addr} {fd : FuncData} (F : Fun K "start" "Gain.start" s_Gain_start f fd) (T : Txt K mg t_W C_KeepError C_BadPiece C_NoMerge C_Piece C_Whole C_Gain)  : FnOk P w K mg base (CXx P w) 1 f fd ["self"] (sp_gstartF C_Whole C_Gain) := by
  refine F.okX sc_Gain_start (fun vs H Q E h => ?_) (fun cdv A outer s H vs Q E hr h => ?_)
  · obtain ⟨p, b, d, rows, c, rfl, ⟨dx, r, R, h1, h2, h3⟩, q⟩ := h; rfl
  · obtain ⟨p, b, d, rows, c, rfl, ⟨dx, r, R, h1, h2, h3⟩, q⟩ := h
    refine ⟨_, (pss_one (ps_ret (pe_fld (pv 0) rfl))), ?_⟩
    exact ⟨_, rfl, p, C_Gain, dx, _, _, rfl, h1, T.cl_Gain, T.n_Gain_base, lk_base, q⟩
theorem ok_Gain_kind {f : Addr} {fd : FuncData} (F : Fun K "kind" "Gain.kind" s_Gain_kind f fd) (T : Txt K mg t_W C_KeepError C_BadPiece C_NoMerge C_Piece C_Whole C_Gain)  : FnOk P w K mg base (CXx P w) 1 f fd ["self"] (sp_gkind) := by
  refine F.okX sc_Gain_kind (fun vs H Q E h => ?_) (fun cdv A outer s H vs Q E hr h => ?_)
  · obtain ⟨p, rfl, q⟩ := h; rfl
  · obtain ⟨p, rfl, q⟩ := h
    refine ⟨_, (pss_one (ps_ret pe_str)), ?_⟩
    exact q
theorem ok_Piece_is_good {f : Addr} {fd : FuncData} (F : Fun K "is_good" "Piece.is_good" s_Piece_is_good f fd) (T : Txt K mg t_W C_KeepError C_BadPiece C_NoMerge C_Piece C_Whole C_Gain)  : FnOk P w K mg base (CXx P w) 3 f fd ["self"] (sp_goodF C_Whole C_Gain) := by
  refine F.okX sc_Piece_is_good (fun vs H Q E h => ?_) (fun cdv A outer s H vs Q E hr h => ?_)
  · obtain ⟨p, wh, b, d, rows, c, rfl, hP, q⟩ := h; rfl
  · obtain ⟨p, wh, b, d, rows, c, rfl, hP, q⟩ := h
    refine ⟨_, (pss_one (ps_ret (pe_fld (pv 0) rfl))), ?_⟩
    obtain ⟨dx, r, R, h1, h2, h3⟩ := id hP
    cases wh
    · exact ⟨_, rfl, p, C_Gain, dx, _, _, rfl, h1, T.cl_Gain, T.n_Gain_fits, lk_fits, q⟩
    · exact ⟨_, rfl, p, C_Whole, dx, _, _, rfl, h1, T.cl_Whole, T.n_Whole_fits, lk_fits, q⟩
theorem ok__law_cell {f : Addr} {fd : FuncData} (F : Fun K "_law_cell" "_law_cell" s__law_cell f fd) (T : Txt K mg t_W C_KeepError C_BadPiece C_NoMerge C_Piece C_Whole C_Gain)  : FnOk P w K mg base (CXx P w) 1 f fd ["_law_script", "_law_k"] (sp_cell K) := by
  refine F.okX sc__law_cell (fun vs H Q E h => ?_) (fun cdv A outer s H vs Q E hr h => ?_)
  · obtain ⟨a, ns, k, rfl, hS, q⟩ := h; rfl
  · obtain ⟨a, ns, k, rfl, hS, q⟩ := h
    refine ⟨_, (pss_cons (ps_if (pt_cmpR op_lt (pv 1) (pe_callB call_len_seq (by rfl) T.b_len PySem.boot_len (pa_cons (pv 0) pa_nil)) (nomark _)) (pss_one (ps_ret (pe_ix ix_list (pv 0) (pv 1) (fun _ _ => rfl)))) pss_nil)
      (pss_one (ps_ret (pe_op op_add (pe_op op_mul pe_int (pv 1)) pe_int)))), ?_⟩
    refine ⟨_, rfl, _, rfl, a, _, rfl, .inl hS, _, _, rfl, rfl, _, rfl, ?_⟩
    refine ite2 (fun h => ?_) (fun h => ?_)
    · have h : k < ns.length := by simpa using h
      refine ⟨_, rfl, _, rfl, a, _, _, V.int (ns.getD k 0), rfl, rfl, hS, atI_nat ?_, ?_⟩
      · simp [h]
      · have e : cellI ns k = ns.getD k 0 := by unfold cellI; rw [if_pos (by omega)]; rfl
        rw [e] at q; exact q
    · have h : ¬ k < ns.length := by simpa using h
      refine ⟨_, rfl, _, _, rfl, rfl, .inl ⟨by first | decide | (dsimp only; decide), by first | decide | (dsimp only; decide)⟩, _, _, rfl, rfl, ?_⟩
      have e : cellI ns k = 37 * k + 11 := by unfold cellI; rw [if_neg (by omega)]
      rw [e] at q; exact q
theorem ok__law_whole {f : Addr} {fd : FuncData} (F : Fun K "_law_whole" "_law_whole" s__law_whole f fd) (T : Txt K mg t_W C_KeepError C_BadPiece C_NoMerge C_Piece C_Whole C_Gain)  : FnOk P w K mg base (CXx P w) 1 f fd ["_law_found"] (sp_whole) := by
  refine F.okX sc__law_whole (fun vs H Q E h => ?_) (fun cdv A outer s H vs Q E hr h => ?_)
  · obtain ⟨n, rfl, q⟩ := h; rfl
  · obtain ⟨n, rfl, q⟩ := h
    refine ⟨_, (pss_one (ps_ret (pe_and (pe_callB call_isinst (by rfl) T.b_isinstance PyProof.Rows.boot_isinstance (pa_cons (pv 0) (pa_cons (pe_bltn (v := .ty "int") rfl T.b_int PyProof.Rows.boot_int rfl) pa_nil))) (pe_one (pe_not (pe_callB call_isinst (by rfl) T.b_isinstance PyProof.Rows.boot_isinstance (pa_cons (pv 0) (pa_cons (pe_bltn (v := .ty "bool") rfl T.b_bool PyProof.Rows.boot_bool rfl) pa_nil)))))))), ?_⟩
    refine ⟨_, rfl, _, _, _, _, true, rfl, rfl, .int _, rfl, _, rfl, ?_⟩
    refine iteT ?_
    refine ⟨_, rfl, _, _, _, _, false, rfl, rfl, .int _, (by with_unfolding_all rfl), _, rfl, ?_⟩
    exact q
theorem ok__law_stir {f : Addr} {fd : FuncData} (F : Fun K "_law_stir" "_law_stir" s__law_stir f fd) (T : Txt K mg t_W C_KeepError C_BadPiece C_NoMerge C_Piece C_Whole C_Gain)  : FnOk P w K mg base (CXx P w) 1 f fd ["_law_cell_here", "_law_k"] (sp_stir) := by
  refine F.okX sc__law_stir (fun vs H Q E h => ?_) (fun cdv A outer s H vs Q E hr h => ?_)
  · obtain ⟨c, k, rfl, q⟩ := h; rfl
  · obtain ⟨c, k, rfl, q⟩ := h
    refine ⟨_, (pss_cons (ps_set (i := 2) sc__law_stir.nd rfl (Or.inl rfl) (pe_op op_mod (pe_op op_mul (pe_op op_add (pv 0) (pe_op op_mul pe_int (pv 1))) pe_int) pe_int))
      (pss_one (ps_ret (pe_op op_mod (pe_op op_mul (pv 2) (pv 2)) pe_int)))), ?_⟩
    refine ⟨_, rfl, _, rfl, _, _, rfl, rfl, .inl ⟨by first | decide | (dsimp only; decide), by first | decide | (dsimp only; decide)⟩, _, _, rfl, rfl, _, _, rfl, rfl, .inr ⟨by first | decide | (dsimp only; decide), by first | decide | (dsimp only; decide)⟩, _, _, rfl, rfl, (by first | decide | (dsimp only; decide)), ?_⟩
    have h1 : 0 ≤ (c + 7919 * k) * 48271 % 2147483647 := Int.emod_nonneg _ (by first | decide | (dsimp only; decide))
    have h2 : (c + 7919 * k) * 48271 % 2147483647 < 2147483647 := Int.emod_lt_of_pos _ (by first | decide | (dsimp only; decide))
    refine ⟨_, rfl, _, rfl, _, _, rfl, rfl, .inl ⟨by omega, by omega⟩, _, _, rfl, rfl, (by first | decide | (dsimp only; decide)), ?_⟩
    exact q
theorem ok__law_block {f : Addr} {fd : FuncData} (F : Fun K "_law_block" "_law_block" s__law_block f fd) (T : Txt K mg t_W C_KeepError C_BadPiece C_NoMerge C_Piece C_Whole C_Gain) (D__law_stir : DefX P w K mg base "_law_stir" 1 ["_law_cell_here", "_law_k"] sp_stir) : FnOk P w K mg base (CXx P w) 2 f fd ["_law_cell_here", "_law_k"] (sp_block) := by
  refine F.okX sc__law_block (fun vs H Q E h => ?_) (fun cdv A outer s H vs Q E hr h => ?_)
  · obtain ⟨c, k, rfl, q⟩ := h; rfl
  · obtain ⟨c, k, rfl, q⟩ := h
    refine ⟨_, (pss_cons (ps_if (pt_cmpR op_eq (pe_op op_mod (pe_op op_add (pv 0) (pv 1)) pe_int) pe_int (nomark _)) (pss_one (ps_ret (pe_op op_mod (pe_op op_add (pe_op op_fdivB (pv 0) pe_int) (pv 1)) pe_int))) pss_nil)
      (pss_cons (ps_if (pt_cmpR op_eq (pe_op op_mod (pe_op op_add (pv 0) (pv 1)) pe_int) pe_int (nomark _)) (pss_one (ps_ret (pe_op op_sub (pe_op op_sub (pe_powc (n := 18446744073709551616)) pe_int) (pe_op op_mod (pe_op op_add (pe_op op_fdivB (pv 0) pe_int) (pv 1)) pe_int)))) pss_nil)
      (pss_cons (ps_if (pt_cmpR op_eq (pe_op op_mod (pe_op op_add (pv 0) (pv 1)) pe_int) pe_int (nomark _)) (pss_one (ps_ret (pe_op op_mod (pv 0) (pe_powc (n := 18446744073709551616))))) pss_nil)
      (pss_one (ps_ret (pe_op op_mod (pe_op op_add (pe_op op_mul (pe_callS D__law_stir passesN (hr.mono (by decide)) rfl (pa_cons (pv 0) (pa_cons (pv 1) pa_nil))) (pe_powc (n := 8589934592))) (pe_callS D__law_stir passesN (hr.mono (by decide)) rfl (pa_cons (pv 0) (pa_cons (pe_op op_add (pv 1) pe_int) pa_nil)))) (pe_powc (n := 18446744073709551616)))))))), ?_⟩
    refine ⟨_, rfl, _, rfl, _, _, rfl, rfl, _, _, rfl, rfl, (by first | decide | (dsimp only; decide)), rfl, _, rfl, ?_⟩
    refine ite2 (fun h => ?_) (fun h => ?_)
    · have h := decV h
      refine ⟨_, rfl, _, _, rfl, rfl, ⟨by first | decide | (dsimp only; decide), by first | decide | (dsimp only; decide)⟩, _, rfl, _, _, rfl, rfl, _, _, rfl, rfl, (by first | decide | (dsimp only; decide)), ?_⟩
      have e : blockI c k = (c / 4 + k) % 3 := by unfold blockI; rw [if_pos h]
      rw [e] at q; exact q
    have h := decVn h
    refine ⟨_, rfl, _, rfl, _, _, rfl, rfl, _, _, rfl, rfl, (by first | decide | (dsimp only; decide)), rfl, _, rfl, ?_⟩
    refine ite2 (fun h1 => ?_) (fun h1 => ?_)
    · have h1 := decV h1
      refine ⟨_, _, rfl, rfl, _, rfl, _, _, rfl, rfl, ⟨by first | decide | (dsimp only; decide), by first | decide | (dsimp only; decide)⟩, _, rfl, _, _, rfl, rfl, _, _, rfl, rfl, (by first | decide | (dsimp only; decide)), _, _, rfl, rfl, ?_⟩
      have e : blockI c k = 18446744073709551616 - 1 - (c / 4 + k) % 3 := by unfold blockI; rw [if_neg h, if_pos h1]
      rw [e] at q; exact q
    have h1 := decVn h1
    refine ⟨_, rfl, _, rfl, _, _, rfl, rfl, _, _, rfl, rfl, (by first | decide | (dsimp only; decide)), rfl, _, rfl, ?_⟩
    refine ite2 (fun h2 => ?_) (fun h2 => ?_)
    · have h2 := decV h2
      refine ⟨_, rfl, _, _, rfl, rfl, (by first | decide | (dsimp only; decide)), ?_⟩
      have e : blockI c k = c % 18446744073709551616 := by unfold blockI; rw [if_neg h, if_neg h1, if_pos h2]
      rw [e] at q; exact q
    have h2 := decVn h2
    refine ⟨_, rfl, _, rfl, _, _, rfl, _, _, rfl, rfl, .inr ⟨by first | decide | (dsimp only; decide), by first | decide | (dsimp only; decide)⟩, _, rfl, _, rfl, _, _, rfl, rfl, _, _, rfl, _, _, rfl, rfl, _, _, rfl, rfl, (by first | decide | (dsimp only; decide)), ?_⟩
    have e : blockI c k = (stirI c k * 8589934592 + stirI c (k + 50)) % 18446744073709551616 := by unfold blockI; rw [if_neg h, if_neg h1, if_neg h2]
    rw [e] at q; exact q
theorem ok__law_check {f : Addr} {fd : FuncData} (F : Fun K "_law_check" "_law_check" s__law_check f fd) (T : Txt K mg t_W C_KeepError C_BadPiece C_NoMerge C_Piece C_Whole C_Gain)  : FnOk P w K mg base (CXx P w) 1 f fd ["_law_start", "_law_day", "_law_rows_here"] (sp_lawcheck) := by
  refine F.okX sc__law_check (fun vs H Q E h => ?_) (fun cdv A outer s H vs Q E hr h => ?_)
  · obtain ⟨s1, d, a, L, rows, rfl, hA, R, hlen, q⟩ := h; rfl
  · obtain ⟨s1, d, a, L, rows, rfl, hA, R, hlen, q⟩ := h
    refine ⟨_, (pss_cons (ps_set (i := 3) sc__law_check.nd rfl (Or.inl rfl) (pe_lst (pa_cons (pe_op op_add (pv 0) pe_int) (pa_cons (pv 1) pa_nil))))
      (pss_cons (ps_for PassesOwn.leaving rfl (pi_list (pv 2)) (pg_tup rfl (pgs_cons (pg_name (i := 4) sc__law_check.nd rfl (Or.inl rfl)) (pgs_cons (pg_name (i := 5) sc__law_check.nd rfl (Or.inl rfl)) pgs_nil)))
      (pss_one (ps_set (i := 3) sc__law_check.nd rfl (Or.inl rfl) (pe_op op_cat (pv 3) (pe_lst (pa_cons (pv 4) (pa_cons (pv 5) pa_nil)))))))
      (pss_cons (ps_set (i := 6) sc__law_check.nd rfl (Or.inl rfl) pe_int)
      (pss_cons (ps_for PassesOwn.leaving rfl (pi_list (pv 3)) (pg_name (i := 7) sc__law_check.nd rfl (Or.inl rfl))
      (pss_cons (ps_set (i := 6) sc__law_check.nd rfl (Or.inl rfl) (pe_op op_mul (pv 6) pe_int))
      (pss_one (ps_set (i := 6) sc__law_check.nd rfl (Or.inl rfl) (pe_op op_xor (pe_op op_add (pe_op op_mod (pv 6) (pe_powc (n := 18446744073709551616))) (pe_op op_fdivB (pv 6) (pe_powc (n := 18446744073709551616)))) (pv 7))))))
      (pss_one (ps_ret (pv 6))))))), ?_⟩
    refine ⟨_, rfl, _, _, rfl, rfl, _, rfl, (by show 2 ≤ sizeLine; decide), fun m hm => ?_⟩
    have nam : a ≠ m := ne_of_none hA hm
    refine ⟨_, rfl, a, rfl, ⟨_, SqL.of (by rw [upd_ne nam]; exact hA)⟩, for_list (K := K) (a := a) (xs := L) (fun i σ H2 => ∃ (m : Addr) (v4 v5 : Option V), σ = [some (.int ((s1 : Int) - 1)), some (.int (d : Int)), some (.ref a), some (.ref m), v4, v5, none, none] ∧ Same H H2 ∧
        H2 m = some (.lst ((s1 :: d :: flat (rows.take i)).map fun z : Nat => V.int (z : Int))))
      ⟨m, none, none, rfl, Same.new hm, by rw [upd_same]; show some (HO.lst [V.int ((s1 : Int) - 1 + 1), V.int (d : Int)]) = _; rw [Int.sub_add_cancel]; rfl⟩ (fun i σ H2 _ ⟨_, _, _, _, s2, _⟩ => SqL.of (s2 a _ hA)) ?_ ?_⟩
    · rintro i v σ H2 hi ⟨m, v4, v5, rfl, s2, h2⟩
      obtain ⟨t, r, rfl, hr2, ht⟩ := R.get i v hi
      have hil : i < rows.length := (List.getElem?_eq_some_iff.mp hr2).1
      refine ⟨t, _, rfl, SqT.of (s2 t _ ht), rfl, _, _, rfl, _, _, rfl, rfl, ?_⟩
      refine ⟨_, rfl, _, rfl, _, rfl, (by show 2 ≤ sizeLine; decide), fun l hl => ?_⟩
      have nml : m ≠ l := ne_of_none h2 hl
      refine ⟨m, l, _, _, rfl, rfl, (by rw [upd_ne nml]; exact h2), upd_same, ?_, fun m2 hm2 => ?_⟩
      · have e1 : (flat (rows.take i)).length = 2 * i := by rw [flat_len, List.length_take]; omega
        show _ ≤ sizeLine
        simp only [List.length_map, List.length_cons, e1, List.length_nil]
        exact Nat.le_of_lt (small1000 (by omega))
      · refine ⟨m2, _, _, rfl, (s2.trans (Same.new hl)).trans (Same.new hm2), ?_⟩
        rw [upd_same]
        have e : rows.take (i + 1) = rows.take i ++ [r] := by rw [List.take_add_one, hr2]; rfl
        rw [e, flat_snoc]; simp
    · rintro σ H2 ⟨m, v4, v5, rfl, s2, h2⟩
      have h2 : H2 m = some (.lst ((s1 :: d :: flat rows).map fun z : Nat => V.int (z : Int))) := by
        rw [h2, R.len, List.take_length]
      refine ⟨_, rfl, m, rfl, ⟨_, SqL.of h2⟩, for_list (K := K) (a := m) (xs := (s1 :: d :: flat rows).map fun z : Nat => V.int (z : Int)) (fun i σ H3 => ∃ v7 : Option V, σ = [some (.int ((s1 : Int) - 1)), some (.int (d : Int)), some (.ref a), some (.ref m), v4, v5, some (.int ((((s1 :: d :: flat rows).take i).foldl Chk.stp 0 : Nat) : Int)), v7] ∧ H3 = H2)
        ⟨none, rfl, rfl⟩ (fun i σ H3 _ ⟨_, _, e⟩ => by rw [e]; exact SqL.of h2) ?_ ?_⟩
      · rintro i v σ H3 hi ⟨v7, rfl, rfl⟩
        rw [List.getElem?_map] at hi
        cases ez : (s1 :: d :: flat rows)[i]? with
        | none => rw [ez] at hi; cases hi
        | some z =>
          rw [ez] at hi
          have hi : V.int (z : Int) = v := Option.some.inj hi
          subst hi
          refine ⟨_, rfl, _, _, rfl, rfl, .inr ⟨by first | decide | (dsimp only; decide), by first | decide | (dsimp only; decide)⟩, ?_⟩
          refine ⟨_, rfl, _, _, rfl, rfl, (by first | decide | (dsimp only; decide)), _, rfl, _, _, rfl, rfl, ⟨by first | decide | (dsimp only; decide), by first | decide | (dsimp only; decide)⟩, _, _, rfl, rfl, _, rfl, _, _, rfl, rfl, ?_⟩
          have e : Builtin.bitXor (((((s1 :: d :: flat rows).take i).foldl Chk.stp 0 : Nat) : Int) * 128 % 18446744073709551616 + ((((s1 :: d :: flat rows).take i).foldl Chk.stp 0 : Nat) : Int) * 128 / 18446744073709551616) (z : Int) = ((((s1 :: d :: flat rows).take (i + 1)).foldl Chk.stp 0 : Nat) : Int) := by
            rw [law_turn, List.take_add_one, ez]
            simp only [Option.toList, List.foldl_append, List.foldl_cons, List.foldl_nil]
          exact ⟨some (V.int (z : Int)), by rw [← e]; rfl, rfl⟩
      · rintro σ H3 ⟨v7, rfl, rfl⟩
        refine ⟨_, rfl, ?_⟩
        rw [List.length_map, List.take_length]
        exact q H3 s2
theorem stE {C_W C_G : Addr} {σ : St} {H : Hp} {i : Nat} {p : Addr} {w : Bool} {b d : Nat} {rows : List (Nat × Nat)} {c : Int} {Qc : VK} (hv : σ[i]? = some (some (.ref p))) (hP : PAtF C_W C_G H p w b d rows c) (q : Qc (.int (stI w b)) H) : tEither (tMethS C_W "start" sp_wstart (fun _ => E0) (tVar i) tNil) (tMethS C_G "start" (sp_gstartF C_W C_G) (fun _ => E0) (tVar i) tNil) σ H Qc := by
  obtain ⟨dx, r, R, h1, h2, h3⟩ := id hP
  cases w
  · exact .inr ⟨_, hv, p, dx, _, rfl, h1, lk_noP, p, b, d, rows, c, rfl, hP, q⟩
  · exact .inl ⟨_, hv, p, dx, _, rfl, h1, lk_noP, p, rfl, q⟩
theorem gdE {C_W C_G : Addr} {σ : St} {H : Hp} {i : Nat} {p : Addr} {w : Bool} {b d : Nat} {rows : List (Nat × Nat)} {c : Int} {Qc : VK} (hv : σ[i]? = some (some (.ref p))) (hP : PAtF C_W C_G H p w b d rows c) (q : Qc (.bl (decide (c = (ckOf w b d rows : Nat)))) H) : tEither (tMethS C_W "is_good" (sp_goodF C_W C_G) (fun _ => E0) (tVar i) tNil) (tMethS C_G "is_good" (sp_goodF C_W C_G) (fun _ => E0) (tVar i) tNil) σ H Qc := by
  obtain ⟨dx, r, R, h1, h2, h3⟩ := id hP
  cases w
  · exact .inr ⟨_, hv, p, dx, _, rfl, h1, lk_noP, p, false, b, d, rows, c, rfl, hP, q⟩
  · exact .inl ⟨_, hv, p, dx, _, rfl, h1, lk_noP, p, true, b, d, rows, c, rfl, hP, q⟩
def kdS (w : Bool) : Str := cond w (Str.ofString "whole") (Str.ofString "gain")
theorem kdE {C_W C_G : Addr} {σ : St} {H : Hp} {i : Nat} {p : Addr} {w : Bool} {b d : Nat} {rows : List (Nat × Nat)} {c : Int} {Qc : VK} (hv : σ[i]? = some (some (.ref p))) (hP : PAtF C_W C_G H p w b d rows c) (q : Qc (.str (kdS w)) H) : tEither (tMethS C_W "kind" sp_wkind (fun _ => E0) (tVar i) tNil) (tMethS C_G "kind" sp_gkind (fun _ => E0) (tVar i) tNil) σ H Qc := by
  obtain ⟨dx, r, R, h1, h2, h3⟩ := id hP
  cases w
  · exact .inr ⟨_, hv, p, dx, _, rfl, h1, lk_noP, p, rfl, q⟩
  · exact .inl ⟨_, hv, p, dx, _, rfl, h1, lk_noP, p, rfl, q⟩
theorem noneF {H H2 : Hp} {r : Addr} (s : Same H H2) (h : H2 r = none) : H r = none := by
  cases e : H r with
  | none => rfl
  | some o => rw [s r o e] at h; cases h
theorem ok_merged {f : Addr} {fd : FuncData} (F : Fun K "merged" "merged" s_merged f fd) (T : Txt K mg t_W C_KeepError C_BadPiece C_NoMerge C_Piece C_Whole C_Gain) (D_Gain_start : MethX P w K mg base C_Gain "start" 1 ["self"] (sp_gstartF C_Whole C_Gain)) (D_Whole_start : MethX P w K mg base C_Whole "start" 1 ["self"] sp_wstart) (D_NoMerge : ExcX P w K mg base "NoMerge" C_NoMerge 1 ["self", "day", "base"] (sp_x2 C_NoMerge "day" "base")) (D_Gain_is_good : MethX P w K mg base C_Gain "is_good" 3 ["self"] (sp_goodF C_Whole C_Gain)) (D_Whole_is_good : MethX P w K mg base C_Whole "is_good" 3 ["self"] (sp_goodF C_Whole C_Gain)) (D_BadPiece : ExcX P w K mg base "BadPiece" C_BadPiece 1 ["self", "day"] (sp_x1 C_BadPiece "day")) (D_Gain_kind : MethX P w K mg base C_Gain "kind" 1 ["self"] sp_gkind) (D_Whole_kind : MethX P w K mg base C_Whole "kind" 1 ["self"] sp_wkind) (D_Whole_d1 : MakeXd P w K mg base "Whole" C_Whole 4 ["self", "day", "rows", "check"] [Value.none] (sp_winitF C_Whole C_Gain)) (D_Gain_d1 : MakeXd P w K mg base "Gain" C_Gain 4 ["self", "base", "day", "rows", "check"] [Value.none] (sp_ginitF C_Whole C_Gain)) : FnOk P w K mg base (CXx P w) 6 f fd ["first", "second"] (sp_merged C_Whole C_Gain C_NoMerge C_BadPiece) := by
  refine F.okX sc_merged (fun vs H Q E h => ?_) (fun cdv A outer s H vs Q E hr h => ?_)
  · obtain ⟨p1, p2, w1, w2, b1, d1, b2, d2, rows1, rows2, c1, c2, rfl, hP1, hP2, hlen, qa, qb1, qb2, qg⟩ := h; rfl
  · obtain ⟨p1, p2, w1, w2, b1, d1, b2, d2, rows1, rows2, c1, c2, rfl, hP1, hP2, hlen, qa, qb1, qb2, qg⟩ := h
    refine ⟨_, (pss_cons (ps_if (pt_cmpR op_ne (pe_or2 (pe_methS0 (pv 1) T.cl_Whole D_Whole_start passesN (hr.mono (by decide))) (pe_methS0 (pv 1) T.cl_Gain D_Gain_start passesN (hr.mono (by decide)))) (pe_fld (pv 0) rfl) (nomark _)) (pss_one (ps_raise rfl raisesB (pe_exc D_NoMerge (hr.mono (by decide)) rfl (pa_cons (pe_fld (pv 0) rfl) (pa_cons (pe_or2 (pe_methS0 (pv 1) T.cl_Whole D_Whole_start passesN (hr.mono (by decide))) (pe_methS0 (pv 1) T.cl_Gain D_Gain_start passesN (hr.mono (by decide)))) pa_nil))))) pss_nil)
      (pss_cons (ps_for PassesOwn.leaving rfl (pi_tup (pe_tup (pa_cons (pv 0) (pa_cons (pv 1) pa_nil)))) (pg_name (i := 2) sc_merged.nd rfl (Or.inl rfl))
      (pss_one (ps_if (pt_not (pt_val (pe_or2 (pe_methS0 (pv 2) T.cl_Whole D_Whole_is_good passesN (hr.mono (by decide))) (pe_methS0 (pv 2) T.cl_Gain D_Gain_is_good passesN (hr.mono (by decide)))))) (pss_one (ps_raise rfl raisesB (pe_exc D_BadPiece (hr.mono (by decide)) rfl (pa_cons (pe_fld (pv 2) rfl) pa_nil)))) pss_nil)))
      (pss_cons (ps_set (i := 3) sc_merged.nd rfl (Or.inr rfl) (pe_callTy (call_dictPT rfl) (by rfl) T.b_dict PyProof.Rows.boot_dict (pa_cons (pe_fld (pv 0) rfl) pa_nil)))
      (pss_cons (ps_expr (pe_dupd (pv 3) (pe_callTy (call_dictPT rfl) (by rfl) T.b_dict PyProof.Rows.boot_dict (pa_cons (pe_fld (pv 1) rfl) pa_nil)) ⟨rfl, rfl, rfl, rfl⟩))
      (pss_cons (ps_setComp (i := 4) sc_merged.nd rfl (Or.inl rfl) (N := ["place", "blocks"]) (k := 1) (cap := [3]) rfl rfl (pi_list (pe_callB (call_sortedD rfl) (by rfl) T.b_sorted PyProof.Rows.boot_sorted (pa_cons (pv 3) pa_nil))) (fun _ _ _ _ => (pg_name (i := 0) (show (["place", "blocks"] : List Str).Nodup from by decide +kernel) rfl (Or.inl rfl) (.inr rfl))) (fun _ _ _ _ => pts_nil) (fun _ _ _ _ => (pe_tup (pa_cons (pv 0) (pa_cons (pe_dget (hu_of hr) (pv 1) (pv 0) (fun _ _ => rfl)) pa_nil)))))
      (pss_cons (ps_if (pt_cmpR op_eq (pe_or2 (pe_methS0 (pv 0) T.cl_Whole D_Whole_kind passesN (hr.mono (by decide))) (pe_methS0 (pv 0) T.cl_Gain D_Gain_kind passesN (hr.mono (by decide)))) pe_str (nomark _)) (pss_one (ps_ret (pe_makeSd (dvs := [V.non]) D_Whole_d1 (Paired.cons rfl Paired.nil) passesN (hr.mono (by decide)) rfl (pa_cons (pe_fld (pv 1) rfl) (pa_cons (pv 4) pa_nil))))) pss_nil)
      (pss_one (ps_ret (pe_makeSd (dvs := [V.non]) D_Gain_d1 (Paired.cons rfl Paired.nil) passesN (hr.mono (by decide)) rfl (pa_cons (pe_fld (pv 0) rfl) (pa_cons (pe_fld (pv 1) rfl) (pa_cons (pv 4) pa_nil)))))))))))), ?_⟩
    have hcl : ∀ w, Cls K (cond w C_Whole C_Gain) := fun w => by cases w; exact T.cl_Gain; exact T.cl_Whole
    have nday : ∀ w, NoAttr K (cond w C_Whole C_Gain) "day" := fun w => by cases w; exact T.n_Gain_day; exact T.n_Whole_day
    have nrows : ∀ w, NoAttr K (cond w C_Whole C_Gain) "rows" := fun w => by cases w; exact T.n_Gain_rows; exact T.n_Whole_rows
    obtain ⟨dx1, r1, R1, h1, f1, hr1⟩ := id hP1
    obtain ⟨dx2, r2, R2, h2, f2, hr2⟩ := id hP2
    refine stE (i := 1) rfl hP2 ?_
    refine ⟨_, rfl, p1, _, dx1, _, _, rfl, h1, hcl w1, nday w1, lk_dayP, rfl, _, rfl, ?_⟩
    by_cases hst : stI w2 b2 = (d1 : Int)
    rotate_left
    · refine iteNN (fun h => hst (V.int.inj h)) ?_
      exact ⟨_, rfl, p1, _, dx1, _, _, rfl, h1, hcl w1, nday w1, lk_dayP, stE (i := 1) rfl hP2 (raise2 (E := E) T.x_NoMerge (qa hst))⟩
    refine iteNS (by rw [hst]) ?_
    refine ⟨_, rfl, _, rfl, (by show 2 ≤ sizeLine; decide), fun tp htp => ?_⟩
    refine ⟨tp, rfl, ⟨_, SqT.of upd_same⟩, for_tup (K := K) (a := tp) (xs := [V.ref p1, V.ref p2]) (fun i σ H2 => ∃ v : Option V, σ = [some (.ref p1), some (.ref p2), v, none, none] ∧ Same H H2 ∧ H2 tp = some (.tup [V.ref p1, V.ref p2]) ∧ (1 ≤ i → c1 = (ckOf w1 b1 d1 rows1 : Nat)) ∧ (2 ≤ i → c2 = (ckOf w2 b2 d2 rows2 : Nat))) ⟨none, rfl, Same.new htp, upd_same, fun h => absurd h (by omega), fun h => absurd h (by omega)⟩ (fun i σ H2 _ ⟨_, _, _, t2, _⟩ => SqT.of t2) ?_ ?_⟩
    · rintro i y σ H2 hi ⟨v, rfl, s2, ht2, g1, g2⟩
      match i, hi with
      | 0, hi =>
        have : V.ref p1 = y := by simpa using hi
        subst this
        refine gdE (i := 2) rfl (hP1.keep s2) ⟨_, rfl, ?_⟩
        by_cases hc : c1 = (ckOf w1 b1 d1 rows1 : Nat)
        · refine iteNS hc ?_
          exact ⟨_, rfl, s2, ht2, fun _ => hc, fun h => absurd h (by omega)⟩
        · refine iteNN hc ?_
          exact ⟨_, rfl, p1, _, dx1, _, _, rfl, s2 p1 _ h1, hcl w1, nday w1, lk_dayP, raise1 (E := E) T.x_BadPiece fun e H' he hs => qb1 hst hc e H' he (s2.trans hs)⟩
      | 1, hi =>
        have : V.ref p2 = y := by simpa using hi
        subst this
        refine gdE (i := 2) rfl (hP2.keep s2) ⟨_, rfl, ?_⟩
        by_cases hc : c2 = (ckOf w2 b2 d2 rows2 : Nat)
        · refine iteNS hc ?_
          exact ⟨_, rfl, s2, ht2, fun _ => g1 (by omega), fun _ => hc⟩
        · refine iteNN hc ?_
          exact ⟨_, rfl, p2, _, dx2, _, _, rfl, s2 p2 _ h2, hcl w2, nday w2, lk_dayP, raise1 (E := E) T.x_BadPiece fun e H' he hs => qb2 hst (g1 (by omega)) hc e H' he (s2.trans hs)⟩
      | i + 2, hi => simp at hi
    rintro σ H2 ⟨v, rfl, s2, ht2, g1, g2⟩
    have hc1 := g1 (by show 1 ≤ 2; omega)
    have hc2 := g2 (by show 2 ≤ 2; omega)
    have en : ([] : List (Key × V)) = kvR [] := rfl
    -- blocks = dict(first.rows)
    refine ⟨_, rfl, p1, _, dx1, _, _, rfl, s2 p1 _ h1, hcl w1, nrows w1, lk_rowsP, r1, R1, kvR rows1, rfl, f1.keep s2, (by unfold kvR; rw [List.length_map]; exact hr1.len), pairs_rows (hr1.mono fun t xs e => s2 t _ e), fun dd hdd => ?_⟩
    rw [show mergeK [] (kvR rows1) = kvR (mergeR [] rows1) from kvR_merge rows1 []]
    have s3 : Same H2 (upd H2 dd (.dK (kvR (mergeR [] rows1)))) := Same.new hdd
    have hd3 : upd H2 dd (.dK (kvR (mergeR [] rows1))) dd = some (.dK (kvR (mergeR [] rows1))) := upd_same
    generalize upd H2 dd (.dK (kvR (mergeR [] rows1))) = H3 at s3 hd3
    have s03 := s2.trans s3
    have fdd : H dd = none := noneF s2 hdd
    have l1 := mergeR_len rows1 []
    have l2 := mergeR_len rows2 []
    simp only [List.length_nil, Nat.zero_add] at l1 l2
    -- blocks.update(dict(second.rows))
    refine ⟨_, rfl, dd, rfl, .inl ⟨_, Rd.of hd3⟩, _, rfl, p2, _, dx2, _, _, rfl, s03 p2 _ h2, hcl w2, nrows w2, lk_rowsP, r2, R2, kvR rows2, rfl, f2.keep s03, (by unfold kvR; rw [List.length_map]; exact hr2.len), pairs_rows (hr2.mono fun t xs e => s03 t _ e), fun de hde => ?_⟩
    rw [show mergeK [] (kvR rows2) = kvR (mergeR [] rows2) from kvR_merge rows2 []]
    have nde : dd ≠ de := ne_of_none hd3 hde
    refine ⟨de, _, _, rfl, nde, Same.new hde dd _ hd3, upd_same, (by unfold kvR; rw [List.length_map, List.length_map]; exact Nat.le_of_lt (small1000 (by have := hlen.1; have := hlen.2.1; omega))), ?_⟩
    rw [kvR_merge]
    have hrs : (mergeR (mergeR [] rows1) (mergeR [] rows2)).length < 64 := hlen.2.2
    obtain ⟨hlen1, hlen2, _⟩ := id hlen
    have hnd := mergeR_nodup (mergeR [] rows2) (mergeR_nodup rows1 (rs := []) (by simp))
    generalize hgrs : mergeR (mergeR [] rows1) (mergeR [] rows2) = rs at hrs hnd
    have s04 : Same H (upd (upd H3 de (.dK (kvR (mergeR [] rows2)))) dd (.dK (kvR rs))) := fun b o e => by rw [upd_ne (ne_of_none e fdd), upd_ne (ne_of_none (s03 b _ e) hde)]; exact s03 b _ e
    have hd4 : upd (upd H3 de (.dK (kvR (mergeR [] rows2)))) dd (.dK (kvR rs)) dd = some (.dK (kvR rs)) := upd_same
    generalize upd (upd H3 de (.dK (kvR (mergeR [] rows2)))) dd (.dK (kvR rs)) = H4 at s04 hd4
    -- rows
    refine ⟨_, rfl, dd, kvR rs, rs.map (fun r => (r.1 : Int)), rfl, hd4, kvR_keys rs, (by rw [List.length_map, ← hgrs]; exact hlen.2.2), fun l ks hl hperm hsort => ?_⟩
    have s5 : Same H4 (upd H4 l (.lst (ks.map V.int))) := Same.new hl
    have hl5 : upd H4 l (.lst (ks.map V.int)) l = some (.lst (ks.map V.int)) := upd_same
    generalize upd H4 l (.lst (ks.map V.int)) = H5 at s5 hl5
    have hd5 := s5 dd _ hd4
    have hkl : ks.length = rs.length := by rw [hperm.length_eq, List.length_map]
    refine ⟨l, rfl, ⟨_, SqL.of hl5⟩, fun D hD => ?_⟩
    refine comp_list D (K := K) (a := l) (xs := ks.map V.int) (fun j σ H6 ys => ∃ (v : Option V), σ = [v, some (.ref dd)] ∧ Same H5 H6 ∧ H6 D = some (.lst ys) ∧ RowsAt H6 ys ((rowsBy rs ks).take j)) ⟨none, rfl, Same.new hD, upd_same, ⟨rfl, fun i v e => by simp at e⟩⟩ (fun j σ H6 ys _ ⟨_, _, s6, _⟩ => SqL.of (s6 l _ hl5)) ?_ ?_
    · rintro j y σ H6 ys hj ⟨v, rfl, s6, hy, Rj⟩
      obtain ⟨n, hnj, rfl⟩ := int_at hj
      have hjl : j < ks.length := (List.getElem?_eq_some_iff.mp hnj).1
      obtain ⟨k, bl, rfl, _, hg⟩ := rowsBy_at hnd hperm (List.mem_of_getElem? hnj)
      have hval : valV (kvR rs) (Sum.inl (k : Int)) = some (V.int (bl : Int)) := by rw [getR_val, hg]; rfl
      have hrow : (rowsBy rs ks)[j]? = some (k, bl) := by unfold rowsBy; rw [List.getElem?_map, hnj]; show some (((k : Int)).toNat, (getR rs ((k : Int)).toNat).getD 0) = _; rw [Int.toNat_natCast, hg]; rfl
      refine ⟨_, rfl, _, rfl, _, rfl, dd, V.int (bl : Int), rfl, hval ▸ DGet.k (k := Sum.inl (k : Int)) (s6 dd _ hd5), (by show 2 ≤ sizeLine; decide), fun t2 ht2 => ?_⟩
      have nD : D ≠ t2 := ne_of_none hy ht2
      refine ⟨by rw [upd_ne nD]; exact hy, (by rw [Rj.len, List.length_take]; exact small1000 (by omega)), _, rfl, fun b o e => ?_, upd_same, ?_⟩
      · rw [upd_ne (ne_of_none e hD)]; exact Same.new ht2 b _ (s6 b _ e)
      · rw [List.take_add_one, hrow]
        refine (Rj.mono fun b xs e => ?_).snoc ?_
        · rw [upd_ne (ne_of e hy (by intro z; cases z))]; exact Same.new ht2 b _ e
        · rw [upd_ne nD.symm, upd_same]
    rintro σ H6 ys ⟨v', rfl, s6, hy, Rj⟩
    have hrl : (rowsBy rs ks).length = ks.length := by unfold rowsBy; rw [List.length_map]
    rw [List.length_map, List.take_of_length_le (by omega)] at Rj
    have s06 := (s04.trans s5).trans s6
    have hmo : mrgOk rows1 rows2 (rowsBy rs ks) := by
      refine ⟨by rw [hgrs]; exact rowsBy_perm hnd hperm, ?_⟩
      have e : (rowsBy rs ks).map (·.1) = ks.map Int.toNat := by unfold rowsBy; rw [List.map_map]; rfl
      rw [e, List.pairwise_map]
      exact hsort.imp (fun h => by omega)
    -- the piece
    refine kdE (i := 0) rfl (hP1.keep s06) ?_
    refine ⟨rfl, _, rfl, ?_⟩
    cases w1
    · refine iteN (fun h => absurd (V.str.inj h) (by decide +kernel)) ?_
      refine ⟨_, rfl, p1, _, dx1, _, _, rfl, s06 p1 _ h1, T.cl_Gain, T.n_Gain_base, lk_base, _, rfl, p2, _, dx2, _, _, rfl, s06 p2 _ h2, hcl w2, nday w2, lk_dayP, _, rfl, fun x dx hx hdx hne => ?_⟩
      have sM : Same H6 (upd (upd H6 dx (.own x)) x (.ins C_Gain dx [])) := (Same.new hdx).trans (Same.new (by rw [upd_ne hne.symm]; exact hx))
      refine ⟨x, dx, D, b1, d2, ys, rowsBy rs ks, .non, _, rfl, upd_same, sM D _ hy, Rj.mono (fun t xs e => sM t _ e), by omega, .inl ⟨rfl, rfl⟩, fun H7 hPx kp => ⟨rfl, ?_⟩⟩
      exact qg hst hc1 hc2 x b1 _ H7 (fun _ => rfl) hmo hPx (s06.trans (made_same hx hdx kp))
    · refine iteY rfl ?_
      refine ⟨_, rfl, p2, _, dx2, _, _, rfl, s06 p2 _ h2, hcl w2, nday w2, lk_dayP, _, rfl, fun x dx hx hdx hne => ?_⟩
      have sM : Same H6 (upd (upd H6 dx (.own x)) x (.ins C_Whole dx [])) := (Same.new hdx).trans (Same.new (by rw [upd_ne hne.symm]; exact hx))
      refine ⟨x, dx, D, d2, ys, rowsBy rs ks, .non, _, rfl, upd_same, sM D _ hy, Rj.mono (fun t xs e => sM t _ e), by omega, .inl ⟨rfl, rfl⟩, fun H7 hPx kp => ⟨rfl, ?_⟩⟩
      exact qg hst hc1 hc2 x 0 _ H7 (fun h => by cases h) hmo hPx (s06.trans (made_same hx hdx kp))
theorem ok__law_same_rows {f : Addr} {fd : FuncData} (F : Fun K "_law_same_rows" "_law_same_rows" s__law_same_rows f fd) (T : Txt K mg t_W C_KeepError C_BadPiece C_NoMerge C_Piece C_Whole C_Gain) (D__law_whole : DefX P w K mg base "_law_whole" 1 ["_law_found"] sp_whole) : FnOk P w K mg base (CXx P w) 2 f fd ["_law_found", "_law_rows_here"] (sp_srows) := by
  refine F.okX sc__law_same_rows (fun vs H Q E h => ?_) (fun cdv A outer s H vs Q E hr h => ?_)
  · obtain ⟨f, l, R, L, rows, rfl, hf, hl, R1, R2, q⟩ := h; rfl
  · obtain ⟨f, l, R, L, rows, rfl, hf, hl, R1, R2, q⟩ := h
    refine ⟨_, (pss_cons (ps_if (PW.pt (pw_or (pt_not (pt_val (pe_callB call_isinstFT (by rfl) T.b_isinstance PyProof.Rows.boot_isinstance (pa_cons (pv 0) (pa_cons (pe_bltn (v := .ty "tuple") rfl T.b_tuple PyProof.Rows.boot_tuple rfl) pa_nil))))) (pw_or1 (pt_cmpR op_ne (pe_callB call_len_seq (by rfl) T.b_len PySem.boot_len (pa_cons (pv 0) pa_nil)) (pe_callB call_len_seq (by rfl) T.b_len PySem.boot_len (pa_cons (pv 1) pa_nil)) (nomark _))))) (pss_one (ps_ret pe_bl)) pss_nil)
      (pss_cons (ps_for PassesOwn.leaving rfl (pi_zipS rfl T.b_zip (pa_cons (pv 0) (pa_cons (pv 1) pa_nil))) (pg_tup rfl (pgs_cons (pg_name (i := 2) sc__law_same_rows.nd rfl (Or.inl rfl)) (pgs_cons (pg_name (i := 3) sc__law_same_rows.nd rfl (Or.inl rfl)) pgs_nil)))
      (pss_cons (ps_if (PW.pt (pw_or (pt_not (pt_val (pe_callB call_isinst (by rfl) T.b_isinstance PyProof.Rows.boot_isinstance (pa_cons (pv 2) (pa_cons (pe_bltn (v := .ty "tuple") rfl T.b_tuple PyProof.Rows.boot_tuple rfl) pa_nil))))) (pw_or (pt_cmpR op_ne (pe_callB call_len_seq (by rfl) T.b_len PySem.boot_len (pa_cons (pv 2) pa_nil)) pe_int (nomark _)) (pw_or1 (pt_cmpR (op_ne_ref hr.units) (pv 2) (pv 3) (nomark _)))))) (pss_one (ps_ret pe_bl)) pss_nil)
      (pss_one (ps_if (PW.pt (pw_or (pt_not (pt_val (pe_callS D__law_whole passesN (hr.mono (by decide)) rfl (pa_cons (pe_ix ix_tup (pv 2) pe_int (fun _ _ => rfl)) pa_nil)))) (pw_or1 (pt_not (pt_val (pe_callS D__law_whole passesN (hr.mono (by decide)) rfl (pa_cons (pe_ix ix_tup (pv 2) pe_int (fun _ _ => rfl)) pa_nil))))))) (pss_one (ps_ret pe_bl)) pss_nil))))
      (pss_one (ps_ret pe_bl)))), ?_⟩
    refine ⟨_, rfl, f, R, rfl, hf, _, rfl, ?_⟩
    refine iteF ?_
    refine ⟨_, rfl, f, _, rfl, .inr (hf.sq), _, rfl, l, _, rfl, .inl (SqL.of hl), rfl, _, rfl, ?_⟩
    refine iteNS (by rw [R1.len, R2.len]) ?_
    refine ⟨_, rfl, _, rfl, f, l, rfl, ⟨_, hf.sq⟩, ⟨_, SqL.of hl⟩, for_zipS (K := K) (l1 := f) (l2 := l) (xs := R) (ys := L) (fun i σ H2 => ∃ v2 v3 : Option V, σ = [some (.ref f), some (.ref l), v2, v3] ∧ Same H H2) ⟨none, none, rfl, Same.refl _⟩ (fun i σ H2 ⟨_, _, _, s2⟩ => ⟨(hf.keep s2).sq, SqL.of (s2 l _ hl)⟩) (by rw [R1.len, R2.len]) ?_ ?_⟩
    · rintro i x y σ H2 TT hx hy ⟨v2, v3, rfl, s2⟩ hT
      obtain ⟨t1, r, rfl, hr, ht1⟩ := R1.get i x hx
      obtain ⟨t2, r2, rfl, hr2, ht2⟩ := R2.get i y hy
      rw [hr] at hr2; cases hr2
      have s3 := s2.trans (Same.new (o := .tup [V.ref t1, V.ref t2]) hT)
      have hT3 : upd H2 TT (.tup [V.ref t1, V.ref t2]) TT = some (.tup [V.ref t1, V.ref t2]) := upd_same
      generalize upd H2 TT (.tup [V.ref t1, V.ref t2]) = H3 at s3 hT3
      have ht1' := s3 t1 _ ht1
      have ht2' := s3 t2 _ ht2
      refine ⟨TT, _, rfl, SqT.of hT3, rfl, _, _, rfl, _, _, rfl, rfl, ?_⟩
      refine ⟨_, rfl, _, _, _, _, true, rfl, rfl, .tup ht1', rfl, _, rfl, ?_⟩
      refine iteF ?_
      refine ⟨_, rfl, t1, _, rfl, .inr (SqT.of ht1'), rfl, _, rfl, ?_⟩
      refine iteNS rfl ?_
      refine ⟨_, rfl, _, rfl, 0, true, by decide, SeqEq.sameT (SqT.of ht1') (SqT.of ht2') (fun x hx => ?_), _, rfl, ?_⟩
      · simp only [List.mem_cons, List.not_mem_nil, or_false] at hx
        rcases hx with rfl | rfl <;> exact eqI_int _
      refine iteF ?_
      refine ⟨_, rfl, t1, _, _, V.int (r.1 : Int), rfl, rfl, SqT.of ht1', atI_nat (j := 0) rfl, _, rfl, _, rfl, ?_⟩
      refine iteF ?_
      refine ⟨_, rfl, t1, _, _, V.int (r.2 : Int), rfl, rfl, SqT.of ht1', atI_nat (j := 1) rfl, _, rfl, _, rfl, ?_⟩
      refine iteF ?_
      exact ⟨_, _, rfl, s3⟩
    · rintro σ H2 ⟨v2, v3, rfl, s2⟩
      exact q H2 s2
theorem ok_Whole_laid {f : Addr} {fd : FuncData} (F : Fun K "laid" "Whole.laid" s_Whole_laid f fd) (T : Txt K mg t_W C_KeepError C_BadPiece C_NoMerge C_Piece C_Whole C_Gain)  : FnOk P w K mg base (CXx P w) 1 f fd ["self", "table"] (sp_wlaid C_Whole C_Gain) := by
  refine F.okX sc_Whole_laid (fun vs H Q E h => ?_) (fun cdv A outer s H vs Q E hr h => ?_)
  · obtain ⟨p, tb, b, d, rows, c, rfl, ⟨dx, r, R, h1, h2, h3⟩, hl, q⟩ := h; rfl
  · obtain ⟨p, tb, b, d, rows, c, rfl, ⟨dx, r, R, h1, h2, h3⟩, hl, q⟩ := h
    refine ⟨_, (pss_one (ps_ret (pe_comp (N := ["place", "block"]) (k := 2) (cap := []) rfl rfl (pi_tup (pe_fld (pv 0) rfl)) (fun _ _ _ _ => (pg_tupK (K := K) (n := 2) rfl rfl (pgs_cons (pg_name (i := 0) (show (["place", "block"] : List Str).Nodup from by decide +kernel) rfl (Or.inl rfl) (.inr rfl)) (pgs_cons (pg_name (i := 1) (show (["place", "block"] : List Str).Nodup from by decide +kernel) rfl (Or.inl rfl) (.inr rfl)) pgs_nil)))) (fun _ _ _ _ => pts_nil) (fun _ _ _ _ => (pv 1))))), ?_⟩
    refine ⟨_, rfl, p, C_Whole, dx, _, _, rfl, h1, T.cl_Whole, T.n_Whole_rows, lk_rows, r, rfl, ⟨_, h2.sq⟩, fun D hD => ?_⟩
    refine comp_tup D (K := K) (a := r) (xs := R) (fun i σ H5 ys => ∃ v v' : Option V, σ = [v, v'] ∧ Same H H5 ∧ H5 D = some (.lst ys) ∧ ys = (rows.take i).map (fun r => V.int (r.2 : Int))) ⟨none, none, rfl, Same.new hD, upd_same, rfl⟩ (fun i σ H5 ys _ ⟨_, _, _, s5, _⟩ => (h2.keep s5).sq) ?_ ?_
    · rintro i x σ H5 ys hi ⟨v, v', rfl, s5, hy, rfl⟩
      obtain ⟨t, rr, rfl, hr2, ht⟩ := h3.get i x hi
      have hil : i < rows.length := (List.getElem?_eq_some_iff.mp hr2).1
      refine ⟨t, _, rfl, SqT.of (s5 t _ ht), rfl, _, _, rfl, _, _, rfl, rfl, _, rfl, hy, (by rw [List.length_map, List.length_take]; exact small1000 (by omega)), _, _, rfl, fun b o e => ?_, upd_same, by rw [List.take_add_one, hr2]; simp⟩
      rw [upd_ne (ne_of_none e hD)]; exact s5 b _ e
    · rintro σ H5 ys ⟨v, v', rfl, s5, hy, rfl⟩
      rw [h3.len, List.take_length] at hy
      exact q D H5 hy hD s5
theorem ok_Gain_laid {f : Addr} {fd : FuncData} (F : Fun K "laid" "Gain.laid" s_Gain_laid f fd) (T : Txt K mg t_W C_KeepError C_BadPiece C_NoMerge C_Piece C_Whole C_Gain)  : FnOk P w K mg base (CXx P w) 1 f fd ["self", "table"] (sp_glaid C_Whole C_Gain) := by
  refine F.okX sc_Gain_laid (fun vs H Q E h => ?_) (fun cdv A outer s H vs Q E hr h => ?_)
  · obtain ⟨p, tb, b, d, rows, c, tt, rfl, ⟨dx, r, R, h1, h2, h3⟩, htb, hin, q⟩ := h; rfl
  · obtain ⟨p, tb, b, d, rows, c, tt, rfl, ⟨dx, r, R, h1, h2, h3⟩, htb, hin, q⟩ := h
    refine ⟨_, (pss_cons (ps_set (i := 2) sc_Gain_laid.nd rfl (Or.inl rfl) (pe_callTy call_list_of (by rfl) T.b_list PyProof.Rows.boot_list (pa_cons (pv 1) pa_nil)))
      (pss_cons (ps_for PassesOwn.leaving rfl (pi_tup (pe_fld (pv 0) rfl)) (pg_tup rfl (pgs_cons (pg_name (i := 3) sc_Gain_laid.nd rfl (Or.inl rfl)) (pgs_cons (pg_name (i := 4) sc_Gain_laid.nd rfl (Or.inl rfl)) pgs_nil)))
      (pss_one (ps_asg (pv 4) (pg_sub (pv 2) (pv 3) set_list))))
      (pss_one (ps_ret (pv 2))))), ?_⟩
    refine ⟨_, rfl, tb, _, rfl, .inl (SqL.of htb), fun m hm => ?_⟩
    have s1 : Same H (upd H m (.lst tt)) := Same.new hm
    refine ⟨_, rfl, p, C_Gain, dx, _, _, rfl, s1 p _ h1, T.cl_Gain, T.n_Gain_rows, lk_rows, r, rfl, ⟨_, (h2.keep s1).sq⟩, for_tup (K := K) (a := r) (xs := R) (fun i σ H2 => ∃ v3 v4 : Option V, σ = [some (.ref p), some (.ref tb), some (.ref m), v3, v4] ∧ Same H H2 ∧ H2 m = some (.lst (setT tt (rows.take i)))) ⟨none, none, rfl, s1, upd_same⟩ (fun i σ H2 _ ⟨_, _, _, s2, _⟩ => (h2.keep s2).sq) ?_ ?_⟩
    · rintro i v σ H2 hi ⟨v3, v4, rfl, s2, hm2⟩
      obtain ⟨t, rr, rfl, hr2, ht⟩ := h3.get i v hi
      have hrl := hin rr (List.mem_of_getElem? hr2)
      refine ⟨t, _, rfl, SqT.of (s2 t _ ht), rfl, _, _, rfl, _, _, rfl, rfl, ?_⟩
      refine ⟨_, rfl, _, rfl, _, rfl, m, _, _, rr.1, rfl, rfl, hm2, ?_, ?_⟩
      · unfold ixN; rw [setT_len, if_pos (by omega), if_pos (by omega)]; simp
      · refine ⟨_, _, rfl, fun b o e => ?_, ?_⟩
        · rw [upd_ne (ne_of_none e hm)]; exact s2 b _ e
        · rw [upd_same, show rows.take (i + 1) = rows.take i ++ [rr] by rw [List.take_add_one, hr2]; rfl, ← setT_app]; rfl
    · rintro σ H2 ⟨v3, v4, rfl, s2, hm2⟩
      rw [h3.len, List.take_length] at hm2
      exact ⟨_, rfl, q m H2 hm2 hm s2⟩
theorem ok__law_laid {f : Addr} {fd : FuncData} (F : Fun K "_law_laid" "_law_laid" s__law_laid f fd) (T : Txt K mg t_W C_KeepError C_BadPiece C_NoMerge C_Piece C_Whole C_Gain)  : FnOk P w K mg base (CXx P w) 1 f fd ["_law_table", "_law_rows_here"] (sp_llaid) := by
  refine F.okX sc__law_laid (fun vs H Q E h => ?_) (fun cdv A outer s H vs Q E hr h => ?_)
  · obtain ⟨tb, l, L, tt, rows, rfl, htb, hl, R, hin, q⟩ := h; rfl
  · obtain ⟨tb, l, L, tt, rows, rfl, htb, hl, R, hin, q⟩ := h
    refine ⟨_, (pss_cons (ps_set (i := 2) sc__law_laid.nd rfl (Or.inl rfl) (pe_callTy call_list_of (by rfl) T.b_list PyProof.Rows.boot_list (pa_cons (pv 0) pa_nil)))
      (pss_cons (ps_for PassesOwn.leaving rfl (pi_list (pv 1)) (pg_tup rfl (pgs_cons (pg_name (i := 3) sc__law_laid.nd rfl (Or.inl rfl)) (pgs_cons (pg_name (i := 4) sc__law_laid.nd rfl (Or.inl rfl)) pgs_nil)))
      (pss_one (ps_asg (pv 4) (pg_sub (pv 2) (pv 3) set_list))))
      (pss_one (ps_ret (pv 2))))), ?_⟩
    refine ⟨_, rfl, tb, _, rfl, .inl (SqL.of htb), fun m hm => ?_⟩
    have s1 : Same H (upd H m (.lst tt)) := Same.new hm
    refine ⟨_, rfl, l, rfl, ⟨_, SqL.of (s1 l _ hl)⟩, for_list (K := K) (a := l) (xs := L) (fun i σ H2 => ∃ v3 v4 : Option V, σ = [some (.ref tb), some (.ref l), some (.ref m), v3, v4] ∧ Same H H2 ∧ H2 m = some (.lst (setT tt (rows.take i)))) ⟨none, none, rfl, s1, upd_same⟩ (fun i σ H2 _ ⟨_, _, _, s2, _⟩ => SqL.of (s2 l _ hl)) ?_ ?_⟩
    · rintro i v σ H2 hi ⟨v3, v4, rfl, s2, hm2⟩
      obtain ⟨t, rr, rfl, hr2, ht⟩ := R.get i v hi
      have hrl := hin rr (List.mem_of_getElem? hr2)
      refine ⟨t, _, rfl, SqT.of (s2 t _ ht), rfl, _, _, rfl, _, _, rfl, rfl, ?_⟩
      refine ⟨_, rfl, _, rfl, _, rfl, m, _, _, rr.1, rfl, rfl, hm2, ?_, ?_⟩
      · unfold ixN; rw [setT_len, if_pos (by omega), if_pos (by omega)]; simp
      · refine ⟨_, _, rfl, fun b o e => ?_, ?_⟩
        · rw [upd_ne (ne_of_none e hm)]; exact s2 b _ e
        · rw [upd_same, show rows.take (i + 1) = rows.take i ++ [rr] by rw [List.take_add_one, hr2]; rfl, ← setT_app]; rfl
    · rintro σ H2 ⟨v3, v4, rfl, s2, hm2⟩
      rw [R.len, List.take_length] at hm2
      exact ⟨_, rfl, q m H2 hm2 hm s2⟩
theorem ok__law_rows {f : Addr} {fd : FuncData} (F : Fun K "_law_rows" "_law_rows" s__law_rows f fd) (T : Txt K mg t_W C_KeepError C_BadPiece C_NoMerge C_Piece C_Whole C_Gain) (D__law_cell : DefX P w K mg base "_law_cell" 1 ["_law_script", "_law_k"] (sp_cell K)) (D__law_stir : DefX P w K mg base "_law_stir" 1 ["_law_cell_here", "_law_k"] sp_stir) (D__law_block : DefX P w K mg base "_law_block" 2 ["_law_cell_here", "_law_k"] sp_block) : FnOk P w K mg base (CXx P w) 3 f fd ["_law_script", "_law_begin", "_law_wide", "_law_whole_here"] (sp_lrows K) := by
  refine F.okX sc__law_rows (fun vs H Q E h => ?_) (fun cdv A outer s H vs Q E hr h => ?_)
  · obtain ⟨a, ns, g, wd, wh, rfl, hS, hw, q⟩ := h; rfl
  · obtain ⟨a, ns, g, wd, wh, rfl, hS, hw, q⟩ := h
    refine ⟨_, (pss_cons (ps_set (i := 4) sc__law_rows.nd rfl (Or.inl rfl) (pe_lst pa_nil))
      (pss_cons (ps_for PassesOwn.leaving rfl (pi_range1 rfl T.b_range (pa_cons (pv 2) pa_nil)) (pg_name (i := 5) sc__law_rows.nd rfl (Or.inl rfl))
      (pss_cons (ps_set (i := 6) sc__law_rows.nd rfl (Or.inl rfl) (pe_callS D__law_cell passesN (hr.mono (by decide)) rfl (pa_cons (pv 0) (pa_cons (pe_op op_add (pv 1) (pe_op op_fdivB (pv 5) pe_int)) pa_nil))))
      (pss_one (ps_if (PW.pt (pw_or (pt_val (pv 3)) (pw_or1 (pt_cmpR op_gt (pe_op op_mod (pe_callS D__law_stir passesN (hr.mono (by decide)) rfl (pa_cons (pv 6) (pa_cons (pe_op op_add (pv 1) (pv 5)) pa_nil))) pe_int) pe_int (nomark _))))) (pss_one (ps_expr (pe_bm PySem.F.plainAttrs_list PySem.F.slot_list_append PySem.F.type_list_append mt_append (pv 4) (pa_cons (pe_tup (pa_cons (pv 5) (pa_cons (pe_callS D__law_block passesN (hr.mono (by decide)) rfl (pa_cons (pv 6) (pa_cons (pv 5) pa_nil))) pa_nil))) pa_nil)))) pss_nil))))
      (pss_one (ps_ret (pv 4))))), ?_⟩
    refine ⟨Nat.zero_le _, fun l hl => ?_⟩
    refine ⟨_, rfl, _, rfl, by omega, by omega, for_range (lo := 0) (n := (wd : Int).toNat) (fun i σ H2 => ∃ (v5 v6 : Option V) (L : List V) (rows : List (Nat × Nat)), σ = [some (.ref a), some (.int (g : Int)), some (.int (wd : Int)), some (.bl wh), some (.ref l), v5, v6] ∧ Same H H2 ∧ H2 l = some (.lst L) ∧ RowsAt H2 L rows ∧ rows.length ≤ i ∧ (∀ r ∈ rows, r.1 < i) ∧ (wh = true → rows.map (·.1) = List.range i))
      ⟨none, none, [], [], rfl, Same.new hl, upd_same, ⟨rfl, fun i v e => by simp at e⟩, Nat.le_refl _, by simp, fun _ => rfl⟩ ?_ ?_⟩
    · rintro i σ H2 hi ⟨v5, v6, L, rows, rfl, s2, h2, R, hr, hrb, hrw⟩
      have hS2 := s2.seq hS
      refine ⟨_, rfl, _, rfl, _, rfl, _, _, rfl, rfl, ⟨by decide, by decide⟩, _, _, rfl, rfl, a, ns, g + i / 2, args2 (by omega), hS2, ?_⟩
      generalize cellI ns ((g + i / 2 : Nat) : Int) = ch
      obtain ⟨b0, b1⟩ := block_bd ch (i : Int)
      obtain ⟨bk, eb⟩ : ∃ bk : Nat, blockI ch (i : Int) = (bk : Int) := ⟨(blockI ch (i : Int)).toNat, by omega⟩
      have add : ∀ t, H2 t = none → Same H (upd (upd H2 t (.tup [V.int (0 + (i : Int)), V.int (blockI ch (0 + (i : Int)))])) l (.lst (L ++ [.ref t]))) ∧ RowsAt (upd (upd H2 t (.tup [V.int (0 + (i : Int)), V.int (blockI ch (0 + (i : Int)))])) l (.lst (L ++ [.ref t]))) (L ++ [.ref t]) (rows ++ [(i, bk)]) := fun t ht => by
        have nlt : l ≠ t := ne_of_none h2 ht
        refine ⟨fun b o e => ?_, (R.mono fun b xs e => ?_).snoc ?_⟩
        · rw [upd_ne (ne_of_none e hl)]; exact Same.new ht b _ (s2 b _ e)
        · rw [upd_ne (ne_of e h2 (by intro z; cases z))]; exact Same.new ht b _ e
        · rw [upd_ne nlt.symm, upd_same, Int.zero_add, ← eb]
      have hb1 : ∀ r ∈ rows ++ [(i, bk)], r.1 < i + 1 := fun r hr' => by
        rcases List.mem_append.mp hr' with h | h
        · have := hrb r h; omega
        · have : r = (i, bk) := by simpa using h
          rw [this]; show i < i + 1; omega
      refine ⟨_, rfl, _, rfl, ?_⟩
      cases wh
      · refine iteF ?_
        refine ⟨_, rfl, _, rfl, _, rfl, _, _, rfl, rfl, _, _, rfl, _, _, rfl, rfl, (by first | decide | (dsimp only; decide)), _, _, rfl, rfl, _, rfl, ?_⟩
        refine ite2 (fun h5 => ?_) (fun h5 => ?_)
        · refine ⟨_, rfl, .inl ⟨rfl, _, SqL.of h2⟩, _, rfl, _, rfl, _, rfl, _, _, rfl, (by show 2 ≤ sizeLine; decide), fun t ht => ?_⟩
          refine ⟨l, L, _, rfl, rfl, Same.new ht l _ h2, (by rw [R.len]; exact small1000 (by omega)), ?_⟩
          exact ⟨_, _, L ++ [.ref t], rows ++ [(i, bk)], rfl, (add t ht).1, upd_same, (add t ht).2, by simp; omega, hb1, fun h => by cases h⟩
        · exact ⟨_, _, L, rows, rfl, s2, h2, R, by omega, fun r h => by have := hrb r h; omega, fun h => by cases h⟩
      · refine iteT ?_
        refine iteT ?_
        refine ⟨_, rfl, .inl ⟨rfl, _, SqL.of h2⟩, _, rfl, _, rfl, _, rfl, _, _, rfl, (by show 2 ≤ sizeLine; decide), fun t ht => ?_⟩
        refine ⟨l, L, _, rfl, rfl, Same.new ht l _ h2, (by rw [R.len]; exact small1000 (by omega)), ?_⟩
        exact ⟨_, _, L ++ [.ref t], rows ++ [(i, bk)], rfl, (add t ht).1, upd_same, (add t ht).2, by simp; omega, hb1, fun _ => by rw [List.map_append, hrw rfl, List.range_succ]; rfl⟩
    · rintro σ H2 ⟨v5, v6, L, rows, rfl, s2, h2, R, hr, hrb, hrw⟩
      exact ⟨_, rfl, q l L rows H2 h2 hl R (fun r h => by have := hrb r h; omega) (fun h => by rw [hrw h, Int.toNat_natCast]) (by omega) s2⟩
theorem ok__law_is_it {f : Addr} {fd : FuncData} (F : Fun K "_law_is_it" "_law_is_it" s__law_is_it f fd) (T : Txt K mg t_W C_KeepError C_BadPiece C_NoMerge C_Piece C_Whole C_Gain) (D__law_whole : DefX P w K mg base "_law_whole" 1 ["_law_found"] sp_whole) (D__law_same_rows : DefX P w K mg base "_law_same_rows" 2 ["_law_found", "_law_rows_here"] sp_srows) (D__law_check : DefX P w K mg base "_law_check" 1 ["_law_start", "_law_day", "_law_rows_here"] sp_lawcheck) (D_Gain_is_good : MethX P w K mg base C_Gain "is_good" 3 ["self"] (sp_goodF C_Whole C_Gain)) (D_Whole_is_good : MethX P w K mg base C_Whole "is_good" 3 ["self"] (sp_goodF C_Whole C_Gain)) : FnOk P w K mg base (CXx P w) 4 f fd ["_law_piece", "_law_whole_here", "_law_day", "_law_rows_here"] (sp_isit C_Whole C_Gain) := by
  refine F.okX sc__law_is_it (fun vs H Q E h => ?_) (fun cdv A outer s H vs Q E hr h => ?_)
  · obtain ⟨p, l, wh, b, d, L, rows, rfl, hP, hb, hl, R, hlen, q⟩ := h; rfl
  · obtain ⟨p, l, wh, b, d, L, rows, rfl, hP, hb, hl, R, hlen, q⟩ := h
    refine ⟨_, (pss_cons (ps_if (PW.pt (pw_or (pt_cmpR op_ne (pe_callB call_isinst (by rfl) T.b_isinstance PyProof.Rows.boot_isinstance (pa_cons (pv 0) (pa_cons (pe_glob (v := .ref C_Whole) rfl T.mg_Whole rfl) pa_nil))) (pv 1) (nomark _)) (pw_or1 (pt_cmpR op_eq (pe_callB call_isinst (by rfl) T.b_isinstance PyProof.Rows.boot_isinstance (pa_cons (pv 0) (pa_cons (pe_glob (v := .ref C_Gain) rfl T.mg_Gain rfl) pa_nil))) (pv 1) (nomark _))))) (pss_one (ps_ret pe_bl)) pss_nil)
      (pss_cons (ps_if (PW.pt (pw_and (pt_not (pt_val (pv 1))) (pw_and1 (PW.pt (pw_or (pt_not (pt_val (pe_callS D__law_whole passesN (hr.mono (by decide)) rfl (pa_cons (pe_fld (pv 0) rfl) pa_nil)))) (pw_or1 (pt_cmpR op_ne (pe_fld (pv 0) rfl) pe_int (nomark _)))))))) (pss_one (ps_ret pe_bl)) pss_nil)
      (pss_cons (ps_if (PW.pt (pw_or (pt_not (pt_val (pe_callS D__law_whole passesN (hr.mono (by decide)) rfl (pa_cons (pe_fld (pv 0) rfl) pa_nil)))) (pw_or (pt_cmpR op_ne (pe_fld (pv 0) rfl) (pv 2) (nomark _)) (pw_or1 (pt_not (pt_val (pe_callS D__law_same_rows passesN (hr.mono (by decide)) rfl (pa_cons (pe_fld (pv 0) rfl) (pa_cons (pv 3) pa_nil))))))))) (pss_one (ps_ret pe_bl)) pss_nil)
      (pss_cons (ps_set (i := 4) sc__law_is_it.nd rfl (Or.inl rfl) (pe_callS D__law_check passesN (hr.mono (by decide)) rfl (pa_cons (pe_ix ix_list (pe_lst (pa_cons pe_int (pa_cons (pe_un un_neg pe_int) pa_nil))) (pe_callTy call_int_bl (by rfl) T.b_int PyProof.Rows.boot_int (pa_cons (pv 1) pa_nil)) (fun _ _ => rfl)) (pa_cons (pv 2) (pa_cons (pv 3) pa_nil)))))
      (pss_one (ps_ret (pe_and (pe_callS D__law_whole passesN (hr.mono (by decide)) rfl (pa_cons (pe_fld (pv 0) rfl) pa_nil)) (pe_and (pe_cmpR op_eq (pe_fld (pv 0) rfl) (pv 4) (nomark _)) (pe_one (pe_cmpR op_isB (pe_or2 (pe_methS0 (pv 0) T.cl_Whole D_Whole_is_good passesN (hr.mono (by decide))) (pe_methS0 (pv 0) T.cl_Gain D_Gain_is_good passesN (hr.mono (by decide)))) pe_bl (nomark _))))))))))), ?_⟩
    have hcl : Cls K (cond wh C_Whole C_Gain) := by cases wh; exact T.cl_Gain; exact T.cl_Whole
    have nday : NoAttr K (cond wh C_Whole C_Gain) "day" := by cases wh; exact T.n_Gain_day; exact T.n_Whole_day
    have nrows : NoAttr K (cond wh C_Whole C_Gain) "rows" := by cases wh; exact T.n_Gain_rows; exact T.n_Whole_rows
    have nchk : NoAttr K (cond wh C_Whole C_Gain) "check" := by cases wh; exact T.n_Gain_check; exact T.n_Whole_check
    obtain ⟨dx, r, Rr, h1, h2, h3⟩ := id hP
    refine cut2 (fun σ' H' => σ' = [some (.ref p), some (.bl wh), some (.int (d : Int)), some (.ref l), none] ∧ H' = H) (fun N hN => ?_) ?_
    · cases wh
      · have hb3 := hb rfl
        subst hb3
        refine ⟨_, rfl, _, _, _, _, false, rfl, rfl, .ins h1 T.cl_Gain T.ic_Gain T.clgX T.cltX T.io_Gain, T.k_Gain_Whole, _, rfl, rfl, _, rfl, ?_⟩
        refine iteNS rfl ?_
        refine ⟨_, rfl, _, _, _, _, true, rfl, rfl, .ins h1 T.cl_Gain T.ic_Gain T.clgX T.cltX T.io_Gain, T.k_Gain_Gain, _, rfl, rfl, _, rfl, ?_⟩
        refine iteN (by intro h; cases h) ?_
        refine ⟨_, rfl, _, rfl, ?_⟩
        refine iteT ?_
        refine ⟨_, rfl, p, C_Gain, dx, _, _, rfl, h1, T.cl_Gain, T.n_Gain_base, lk_base, _, rfl, _, rfl, ?_⟩
        refine iteF ?_
        refine ⟨_, rfl, p, C_Gain, dx, _, _, rfl, h1, T.cl_Gain, T.n_Gain_base, lk_base, rfl, _, rfl, ?_⟩
        refine iteNS rfl ?_
        exact hN _ _ ⟨rfl, rfl⟩
      · refine ⟨_, rfl, _, _, _, _, true, rfl, rfl, .ins h1 T.cl_Whole T.ic_Whole T.clgX T.cltX T.io_Whole, T.k_Whole_Whole, _, rfl, rfl, _, rfl, ?_⟩
        refine iteNS rfl ?_
        refine ⟨_, rfl, _, _, _, _, false, rfl, rfl, .ins h1 T.cl_Whole T.ic_Whole T.clgX T.cltX T.io_Whole, T.k_Whole_Gain, _, rfl, rfl, _, rfl, ?_⟩
        refine iteN (by intro h; cases h) ?_
        refine ⟨_, rfl, _, rfl, ?_⟩
        refine iteF ?_
        refine iteF ?_
        exact hN _ _ ⟨rfl, rfl⟩
    rintro σ' H' ⟨rfl, rfl⟩
    refine cut1 (fun σ' H1 => σ' = [some (.ref p), some (.bl wh), some (.int (d : Int)), some (.ref l), none] ∧ Same H' H1) (fun N hN => ?_) ?_
    · refine ⟨_, rfl, p, _, dx, _, _, rfl, h1, hcl, nday, lk_dayP, _, rfl, _, rfl, ?_⟩
      refine iteF ?_
      refine ⟨_, rfl, p, _, dx, _, _, rfl, h1, hcl, nday, lk_dayP, _, rfl, rfl, _, rfl, ?_⟩
      refine iteNS rfl ?_
      refine ⟨_, rfl, p, _, dx, _, _, rfl, h1, hcl, nrows, lk_rowsP, _, rfl, r, l, Rr, L, rows, rfl, h2, hl, h3, R, fun H1 s1 => ⟨_, rfl, ?_⟩⟩
      refine iteF ?_
      exact hN _ _ ⟨rfl, s1⟩
    rintro σ' H1 ⟨rfl, s1⟩
    have hst : (if wh = true then (-1 : Int) else 3) = ((stN wh b : Nat) : Int) - 1 := by
      cases wh
      · have hb3 := hb rfl
        subst hb3
        rfl
      · rfl
    refine cut1 (fun σ' H2 => σ' = [some (.ref p), some (.bl wh), some (.int (d : Int)), some (.ref l), some (.int ((ckOf wh b d rows : Nat) : Int))] ∧ Same H' H2) (fun N hN => ?_) ?_
    · refine ⟨_, rfl, (by show 2 ≤ sizeLine; decide), fun l3 hl3 => ?_⟩
      have s2 : Same H1 (upd H1 l3 (.lst [V.int 3, V.int (-1)])) := Same.new hl3
      have s02 := s1.trans s2
      refine ⟨_, rfl, wh, rfl, l3, _, _, V.int (if wh = true then (-1 : Int) else 3), rfl, rfl, SqL.of upd_same, (by cases wh <;> rfl), _, rfl, _, rfl, ?_⟩
      refine ⟨stN wh b, d, l, L, rows, by rw [hst], s02 l _ hl, R.mono (fun t xs e => s02 t _ e), hlen, fun H3 s3 => ?_⟩
      exact hN _ _ ⟨rfl, s02.trans s3⟩
    rintro σ' H2 ⟨rfl, s2⟩
    have h1' := s2 p _ h1
    refine ⟨_, rfl, p, _, dx, _, _, rfl, h1', hcl, nchk, lk_checkP, _, rfl, _, rfl, ?_⟩
    refine iteT ?_
    refine ⟨_, rfl, p, _, dx, _, _, rfl, h1', hcl, nchk, lk_checkP, _, rfl, rfl, _, rfl, ?_⟩
    refine iteY rfl ?_
    refine gdE (i := 0) rfl (hP.keep s2) ?_
    refine ⟨_, _, rfl, rfl, ?_⟩
    rw [decide_eq_true rfl]
    exact q H2 s2
theorem rows_app {H : Hp} {L1 L2 : List V} {r1 r2 : List (Nat × Nat)} (R1 : RowsAt H L1 r1) (R2 : RowsAt H L2 r2) : RowsAt H (L1 ++ L2) (r1 ++ r2) :=
  ⟨by rw [List.length_append, List.length_append, R1.len, R2.len], fun i v e => by
    by_cases hi : i < L1.length
    · rw [List.getElem?_append_left hi] at e
      obtain ⟨t, r, a, b, c⟩ := R1.get i v e
      exact ⟨t, r, a, by rw [List.getElem?_append_left (by rw [← R1.len]; exact hi)]; exact b, c⟩
    · rw [List.getElem?_append_right (by omega)] at e
      obtain ⟨t, r, a, b, c⟩ := R2.get _ v e
      exact ⟨t, r, a, by rw [List.getElem?_append_right (by rw [← R1.len]; omega), ← R1.len]; exact b, c⟩⟩
theorem setT_ints : ∀ (rows : List (Nat × Nat)) (t : List V), (∀ x ∈ t, ∃ n : Int, x = V.int n) → ∀ x ∈ setT t rows, ∃ n : Int, x = V.int n
  | [], _, h => h
  | r :: rows, t, h => setT_ints rows (t.set r.1 (V.int (r.2 : Int))) fun x hx => by
    rcases List.mem_or_eq_of_mem_set hx with h' | h'
    · exact h x h'
    · exact ⟨_, h'⟩
theorem ok_law {f : Addr} {fd : FuncData} (F : Fun K "law" "law" s_law f fd) (T : Txt K mg t_W C_KeepError C_BadPiece C_NoMerge C_Piece C_Whole C_Gain) (D__law_cell : DefX P w K mg base "_law_cell" 1 ["_law_script", "_law_k"] (sp_cell K)) (D__law_rows : DefX P w K mg base "_law_rows" 3 ["_law_script", "_law_begin", "_law_wide", "_law_whole_here"] (sp_lrows K)) (D_Gain_d1 : MakeXd P w K mg base "Gain" C_Gain 4 ["self", "base", "day", "rows", "check"] [Value.none] (sp_ginitF C_Whole C_Gain)) (D_Whole_d1 : MakeXd P w K mg base "Whole" C_Whole 4 ["self", "day", "rows", "check"] [Value.none] (sp_winitF C_Whole C_Gain)) (D_merged : DefX P w K mg base "merged" 6 ["first", "second"] (sp_merged C_Whole C_Gain C_NoMerge C_BadPiece)) (D__law_is_it : DefX P w K mg base "_law_is_it" 4 ["_law_piece", "_law_whole_here", "_law_day", "_law_rows_here"] (sp_isit C_Whole C_Gain)) (D__law_block : DefX P w K mg base "_law_block" 2 ["_law_cell_here", "_law_k"] sp_block) (D_Gain_laid : MethX P w K mg base C_Gain "laid" 1 ["self", "table"] (sp_glaid C_Whole C_Gain)) (D_Whole_laid : MethX P w K mg base C_Whole "laid" 1 ["self", "table"] (sp_wlaid C_Whole C_Gain)) (D__law_laid : DefX P w K mg base "_law_laid" 1 ["_law_table", "_law_rows_here"] sp_llaid) (D__law_same_rows : DefX P w K mg base "_law_same_rows" 2 ["_law_found", "_law_rows_here"] sp_srows) : FnOk P w K mg base (CXx P w) 7 f fd ["_law_script"] (sp_law K) := by
  refine F.okX sc_law (fun vs H Q E h => ?_) (fun cdv A outer s H vs Q E hr h => ?_)
  · obtain ⟨a, ns, rfl, hS, hlen, q⟩ := h; rfl
  · obtain ⟨a, ns, rfl, hS, hlen, q⟩ := h
    refine ⟨_, (pss_cons (ps_set (i := 1) sc_law.nd rfl (Or.inl rfl) (pe_callS D__law_cell passesN (hr.mono (by decide)) rfl (pa_cons (pv 0) (pa_cons pe_int pa_nil))))
      (pss_cons (ps_set (i := 2) sc_law.nd rfl (Or.inl rfl) (pe_cmpR op_eq (pe_op op_mod (pv 1) pe_int) pe_int (nomark _)))
      (pss_cons (ps_set (i := 3) sc_law.nd rfl (Or.inl rfl) (pe_op op_add pe_int (pe_op op_mod (pe_op op_fdivB (pv 1) pe_int) (pe_ix ix_list (pe_lst (pa_cons pe_int (pa_cons pe_int pa_nil))) (pe_op op_mod (pe_op op_fdivB (pv 1) pe_int) pe_int) (fun _ _ => rfl)))))
      (pss_cons (ps_set (i := 4) sc_law.nd rfl (Or.inl rfl) (pe_callS D__law_rows passesN (hr.mono (by decide)) rfl (pa_cons (pv 0) (pa_cons pe_int (pa_cons (pv 3) (pa_cons (pv 2) pa_nil))))))
      (pss_cons (ps_set (i := 5) sc_law.nd rfl (Or.inl rfl) (pe_callS D__law_rows passesN (hr.mono (by decide)) rfl (pa_cons (pv 0) (pa_cons pe_int (pa_cons (pv 3) (pa_cons pe_bl pa_nil))))))
      (pss_cons (ps_set (i := 6) sc_law.nd rfl (Or.inl rfl) (pe_op op_add pe_int (pe_op op_mod (pe_callS D__law_cell passesN (hr.mono (by decide)) rfl (pa_cons (pv 0) (pa_cons pe_int pa_nil))) (pe_ix ix_list (pe_lst (pa_cons pe_int (pa_cons (pe_op op_sub (pe_powc (n := 1000000000)) pe_int) pa_nil))) (pe_op op_mod (pe_op op_fdivB (pv 1) pe_int) pe_int) (fun _ _ => rfl)))))
      (pss_cons (ps_set (i := 7) sc_law.nd rfl (Or.inl rfl) (pe_makeSd (dvs := [V.non]) D_Gain_d1 (Paired.cons rfl Paired.nil) passesN (hr.mono (by decide)) rfl (pa_cons pe_int (pa_cons pe_int (pa_cons (pv 4) pa_nil)))))
      (pss_cons (ps_if (pt_val (pv 2)) (pss_one (ps_set (i := 7) sc_law.nd rfl (Or.inl rfl) (pe_makeSd (dvs := [V.non]) D_Whole_d1 (Paired.cons rfl Paired.nil) passesN (hr.mono (by decide)) rfl (pa_cons pe_int (pa_cons (pv 4) pa_nil))))) pss_nil)
      (pss_cons (ps_set (i := 8) sc_law.nd rfl (Or.inl rfl) (pe_makeSd (dvs := [V.non]) D_Gain_d1 (Paired.cons rfl Paired.nil) passesN (hr.mono (by decide)) rfl (pa_cons pe_int (pa_cons (pv 6) (pa_cons (pv 5) pa_nil)))))
      (pss_cons (ps_set (i := 9) sc_law.nd rfl (Or.inr rfl) pe_dnewK)
      (pss_cons (ps_for PassesOwn.leaving rfl (pi_list (pe_op op_cat (pv 4) (pv 5))) (pg_tup rfl (pgs_cons (pg_name (i := 10) sc_law.nd rfl (Or.inl rfl)) (pgs_cons (pg_name (i := 11) sc_law.nd rfl (Or.inl rfl)) pgs_nil)))
      (pss_one (ps_dput (hu_of hr) (pv 9) (pv 10) (pv 11) rfl)))
      (pss_cons (ps_setComp (i := 12) sc_law.nd rfl (Or.inl rfl) (N := ["_law_place", "_law_blocks"]) (k := 1) (cap := [9]) rfl rfl (pi_list (pe_callB (call_sortedD rfl) (by rfl) T.b_sorted PyProof.Rows.boot_sorted (pa_cons (pv 9) pa_nil))) (fun _ _ _ _ => (pg_name (i := 0) (show (["_law_place", "_law_blocks"] : List Str).Nodup from by decide +kernel) rfl (Or.inl rfl) (.inr rfl))) (fun _ _ _ _ => pts_nil) (fun _ _ _ _ => (pe_tup (pa_cons (pv 0) (pa_cons (pe_dget (hu_of hr) (pv 1) (pv 0) (fun _ _ => rfl)) pa_nil)))))
      (pss_cons (ps_set (i := 13) sc_law.nd rfl (Or.inl rfl) (pe_callS D_merged passesB (hr.mono (by decide)) rfl (pa_cons (pv 7) (pa_cons (pv 8) pa_nil))))
      (pss_cons (ps_if (pt_not (pt_val (pe_callS D__law_is_it passesN (hr.mono (by decide)) rfl (pa_cons (pv 13) (pa_cons (pv 2) (pa_cons (pv 6) (pa_cons (pv 12) pa_nil))))))) (pss_one (ps_ret pe_bl)) pss_nil)
      (pss_cons (ps_setComp (i := 14) sc_law.nd rfl (Or.inl rfl) (N := ["_law_k", "_law_script"]) (k := 1) (cap := [0]) rfl rfl (pi_range1 rfl T.b_range (pa_cons (pv 3) pa_nil)) (fun _ _ _ _ => (pg_name (i := 0) (show (["_law_k", "_law_script"] : List Str).Nodup from by decide +kernel) rfl (Or.inl rfl) (.inr rfl))) (fun _ _ _ _ => pts_nil) (fun _ _ _ _ => (pe_callS D__law_block passesN (hr.mono (by decide)) rfl (pa_cons (pe_callS D__law_cell passesN (hr.mono (by decide)) rfl (pa_cons (pv 1) (pa_cons pe_int pa_nil))) (pa_cons (pv 0) pa_nil)))))
      (pss_cons (ps_if (pt_cmpR (op_ne_ref hr.units) (pe_or2 (pe_methS (pv 13) T.cl_Whole D_Whole_laid passesN (hr.mono (by decide)) (pa_cons (pv 14) pa_nil)) (pe_methS (pv 13) T.cl_Gain D_Gain_laid passesN (hr.mono (by decide)) (pa_cons (pv 14) pa_nil))) (pe_callS D__law_laid passesN (hr.mono (by decide)) rfl (pa_cons (pe_callS D__law_laid passesN (hr.mono (by decide)) rfl (pa_cons (pv 14) (pa_cons (pv 4) pa_nil))) (pa_cons (pv 5) pa_nil))) (nomark _)) (pss_one (ps_ret pe_bl)) pss_nil)
      (pss_cons (ps_if (PW.pt (pw_or (pt_not (pt_val (pe_callS D__law_is_it passesN (hr.mono (by decide)) rfl (pa_cons (pv 7) (pa_cons (pv 2) (pa_cons pe_int (pa_cons (pv 4) pa_nil))))))) (pw_or (pt_not (pt_val (pe_callS D__law_same_rows passesN (hr.mono (by decide)) rfl (pa_cons (pe_fld (pv 8) rfl) (pa_cons (pv 5) pa_nil))))) (pw_or1 (pt_cmpR op_ne (pe_fld (pv 8) rfl) (pv 6) (nomark _)))))) (pss_one (ps_ret pe_bl)) pss_nil)
      (pss_one (ps_ret (pe_and (pe_callS D__law_is_it passesN (hr.mono (by decide)) rfl (pa_cons (pe_callS D_merged passesB (hr.mono (by decide)) rfl (pa_cons (pv 7) (pa_cons (pv 8) pa_nil))) (pa_cons (pv 2) (pa_cons (pv 6) (pa_cons (pv 12) pa_nil))))) (pe_one (pe_callS D__law_is_it passesN (hr.mono (by decide)) rfl (pa_cons (pv 13) (pa_cons (pv 2) (pa_cons (pv 6) (pa_cons (pv 12) pa_nil)))))))))))))))))))))))))), ?_⟩
    refine cut3 (fun σ' H1 => ∃ (first : Int) (wh : Bool) (wd : Nat), σ' = [some (.ref a), some (.int first), some (.bl wh), some (.int (wd : Int)), none, none, none, none, none, none, none, none, none, none, none] ∧ 1 ≤ wd ∧ wd ≤ 40 ∧ Same H H1) (fun N hN => ?_) ?_
    · refine ⟨_, rfl, a, ns, 0, rfl, hS, ?_⟩
      generalize cellI ns ((0 : Nat) : Int) = first
      refine ⟨_, rfl, _, _, rfl, rfl, (by first | decide | (dsimp only; decide)), rfl, ?_⟩
      obtain ⟨m, hm, hm0, hm40⟩ : ∃ m : Int, atI [V.int 5, V.int 40] (first / 2 % 2) = some (V.int m) ∧ 0 < m ∧ m ≤ 40 := by
        rcases (show first / 2 % 2 = 0 ∨ first / 2 % 2 = 1 by omega) with h | h <;> rw [h]
        · exact ⟨5, rfl, by omega, by omega⟩
        · exact ⟨40, rfl, by omega, by omega⟩
      have e0 := Int.emod_nonneg (first / 4) (show m ≠ 0 by omega)
      have e1 := Int.emod_lt_of_pos (first / 4) hm0
      obtain ⟨wd, hwd, hw1, hw40⟩ : ∃ wd : Nat, 1 + first / 4 % m = (wd : Int) ∧ 1 ≤ wd ∧ wd ≤ 40 := ⟨(1 + first / 4 % m).toNat, by omega, by omega, by omega⟩
      refine ⟨_, rfl, _, _, rfl, rfl, ⟨by decide, by decide⟩, (by show 2 ≤ sizeLine; decide), fun l0 hl0 => ?_⟩
      refine ⟨_, rfl, _, _, rfl, rfl, ⟨by decide, by decide⟩, _, _, rfl, rfl, (by first | decide | (dsimp only; decide)), l0, _, _, V.int m, rfl, rfl, SqL.of upd_same, hm, _, _, rfl, rfl, hm0, _, _, rfl, rfl, ?_⟩
      refine hN _ _ ⟨first, decide (V.int (first % 2) = V.int 0), wd, ?_, hw1, hw40, Same.new hl0⟩
      rw [← hwd]; rfl
    rintro σ' H1 ⟨first, wh, wd, rfl, hw1, hw40, s1⟩
    have hS1 := s1.seq hS
    clear s1 hS
    refine cut2 (fun σ' H2 => ∃ (lr ll : Addr) (Lr Ll : List V) (rows1 rows2 : List (Nat × Nat)), σ' = [some (.ref a), some (.int first), some (.bl wh), some (.int (wd : Int)), some (.ref lr), some (.ref ll), none, none, none, none, none, none, none, none, none] ∧ Same H1 H2 ∧ H2 lr = some (.lst Lr) ∧ H2 ll = some (.lst Ll) ∧ RowsAt H2 Lr rows1 ∧ RowsAt H2 Ll rows2 ∧ (∀ r ∈ rows1, r.1 < wd) ∧ (∀ r ∈ rows2, r.1 < wd) ∧ (wh = true → rows1.map (·.1) = List.range wd) ∧ rows1.length ≤ 40 ∧ rows2.length ≤ 40) (fun N hN => ?_) ?_
    · refine ⟨_, rfl, _, rfl, _, rfl, a, ns, 2, wd, wh, rfl, hS1, hw40, fun lr Lr rows1 H2 h2 _ R2 hr1 hr2 hr3 s2 => ?_⟩
      refine ⟨_, rfl, _, rfl, a, ns, 22, wd, false, rfl, s2.seq hS1, hw40, fun ll Ll rows2 H3 h3 _ R3 hq1 _ hq3 s3 => ?_⟩
      exact hN _ _ ⟨lr, ll, Lr, Ll, rows1, rows2, rfl, s2.trans s3, s3 lr _ h2, h3, R2.mono (fun t xs e => s3 t _ e), R3, hr1, hq1, hr2, hr3, hq3⟩
    rintro σ' H2 ⟨lr, ll, Lr, Ll, rows1, rows2, rfl, s2, hlr, hll, R1, R2, hb1, hb2, hwr, hl1, hl2⟩
    have hS2 := s2.seq hS1
    clear s2 hS1
    refine cut1 (fun σ' H3 => ∃ d : Nat, σ' = [some (.ref a), some (.int first), some (.bl wh), some (.int (wd : Int)), some (.ref lr), some (.ref ll), some (.int (d : Int)), none, none, none, none, none, none, none, none] ∧ Same H2 H3) (fun N hN => ?_) ?_
    · refine ⟨_, rfl, a, ns, 1, rfl, hS2, ?_⟩
      generalize cellI ns ((1 : Nat) : Int) = c1
      obtain ⟨m, hm, hm0⟩ : ∃ m : Int, atI [V.int 4, V.int (1000000000 - 8)] (first / 160 % 2) = some (V.int m) ∧ 0 < m := by
        rcases (show first / 160 % 2 = 0 ∨ first / 160 % 2 = 1 by omega) with h | h <;> rw [h]
        · exact ⟨4, rfl, by omega⟩
        · exact ⟨1000000000 - 8, rfl, by omega⟩
      have e0 := Int.emod_nonneg c1 (show m ≠ 0 by omega)
      refine ⟨_, _, rfl, rfl, (by show 2 ≤ sizeLine; decide), fun l0 hl0 => ?_⟩
      refine ⟨_, rfl, _, _, rfl, rfl, ⟨by decide, by decide⟩, _, _, rfl, rfl, (by first | decide | (dsimp only; decide)), l0, _, _, V.int m, rfl, rfl, SqL.of upd_same, hm, _, _, rfl, rfl, hm0, _, _, rfl, rfl, ?_⟩
      refine hN _ _ ⟨(9 + c1 % m).toNat, ?_, Same.new hl0⟩
      rw [show (((9 + c1 % m).toNat : Nat) : Int) = 9 + c1 % m by omega]; rfl
    rintro σ' H3 ⟨d, rfl, s3⟩
    have hS3 := s3.seq hS2
    have hlr3 := s3 lr _ hlr
    have hll3 := s3 ll _ hll
    have R13 := R1.mono fun t xs e => s3 t _ e
    have R23 := R2.mono fun t xs e => s3 t _ e
    clear s3 hS2 hlr hll R1 R2
    refine cut3 (fun σ' H4 => ∃ (p1 p2 : Addr) (b1 : Nat), σ' = [some (.ref a), some (.int first), some (.bl wh), some (.int (wd : Int)), some (.ref lr), some (.ref ll), some (.int (d : Int)), some (.ref p1), some (.ref p2), none, none, none, none, none, none] ∧ Same H3 H4 ∧ PAtF C_Whole C_Gain H4 p1 wh b1 8 rows1 (ckOf wh b1 8 rows1 : Nat) ∧ (wh = false → b1 = 3) ∧ PAtF C_Whole C_Gain H4 p2 false 8 d rows2 (ckOf false 8 d rows2 : Nat)) (fun N hN => ?_) ?_
    · refine ⟨_, rfl, fun x dx hx hdx hne => ?_⟩
      have sM : Same H3 (upd (upd H3 dx (.own x)) x (.ins C_Gain dx [])) := (Same.new hdx).trans (Same.new (by rw [upd_ne hne.symm]; exact hx))
      refine ⟨x, dx, lr, 3, 8, Lr, rows1, .non, _, rfl, upd_same, sM lr _ hlr3, R13.mono (fun t xs e => sM t _ e), by omega, .inl ⟨rfl, rfl⟩, fun H4 hP1 kp => ⟨rfl, ?_⟩⟩
      have s4 := made_same hx hdx kp
      have fin : ∀ (p1 : Addr) (b1 : Nat) (H5 : Hp) (N2 : St → Hp → Prop), Same H3 H5 → PAtF C_Whole C_Gain H5 p1 wh b1 8 rows1 (ckOf wh b1 8 rows1 : Nat) → (wh = false → b1 = 3) → (∀ σ' H', (∃ (p1 p2 : Addr) (b1 : Nat), σ' = [some (.ref a), some (.int first), some (.bl wh), some (.int (wd : Int)), some (.ref lr), some (.ref ll), some (.int (d : Int)), some (.ref p1), some (.ref p2), none, none, none, none, none, none] ∧ Same H3 H' ∧ PAtF C_Whole C_Gain H' p1 wh b1 8 rows1 (ckOf wh b1 8 rows1 : Nat) ∧ (wh = false → b1 = 3) ∧ PAtF C_Whole C_Gain H' p2 false 8 d rows2 (ckOf false 8 d rows2 : Nat)) → N2 σ' H') → ∀ (y dy : Addr), H5 y = none → H5 dy = none → y ≠ dy → ∀ (H6 : Hp), PAtF C_Whole C_Gain H6 y false 8 d rows2 (ckOf false 8 d rows2 : Nat) → Keep [y] (upd (upd H5 dy (.own y)) y (.ins C_Gain dy [])) H6 → N2 [some (.ref a), some (.int first), some (.bl wh), some (.int (wd : Int)), some (.ref lr), some (.ref ll), some (.int (d : Int)), some (.ref p1), some (.ref y), none, none, none, none, none, none] H6 := fun p1 b1 H5 N2 s5 hP hb hN2 y dy hy hdy hn H6 hP2 kp2 => by
        have s6 := made_same hy hdy kp2
        exact hN2 _ _ ⟨p1, y, b1, rfl, s5.trans s6, hP.keep s6, hb, hP2⟩
      refine ⟨_, rfl, _, rfl, ?_⟩
      cases wh
      · refine iteF ?_
        have hll4 := s4 ll _ hll3
        refine ⟨_, rfl, _, rfl, fun y dy hy hdy hny => ?_⟩
        have sM2 : Same H4 (upd (upd H4 dy (.own y)) y (.ins C_Gain dy [])) := (Same.new hdy).trans (Same.new (by rw [upd_ne hny.symm]; exact hy))
        refine ⟨y, dy, ll, 8, d, Ll, rows2, .non, _, rfl, upd_same, sM2 ll _ hll4, (R23.mono fun t xs e => s4 t _ e).mono (fun t xs e => sM2 t _ e), by omega, .inl ⟨rfl, rfl⟩, fun H6 hP2 kp2 => ⟨rfl, ?_⟩⟩
        exact fin x 3 H4 N s4 hP1 (fun _ => rfl) hN y dy hy hdy (fun z => hny z.symm) H6 hP2 kp2
      · refine iteT ?_
        refine ⟨_, rfl, fun z dz hz hdz hnz => ?_⟩
        have sM3 : Same H4 (upd (upd H4 dz (.own z)) z (.ins C_Whole dz [])) := (Same.new hdz).trans (Same.new (by rw [upd_ne hnz.symm]; exact hz))
        refine ⟨z, dz, lr, 8, Lr, rows1, .non, _, rfl, upd_same, sM3 lr _ (s4 lr _ hlr3), (R13.mono fun t xs e => s4 t _ e).mono (fun t xs e => sM3 t _ e), by omega, .inl ⟨rfl, rfl⟩, fun H5 hP1w kp3 => ⟨rfl, ?_⟩⟩
        have s5 := s4.trans (made_same hz hdz kp3)
        have hll5 := s5 ll _ hll3
        refine ⟨_, rfl, _, rfl, fun y dy hy hdy hny => ?_⟩
        have sM2 : Same H5 (upd (upd H5 dy (.own y)) y (.ins C_Gain dy [])) := (Same.new hdy).trans (Same.new (by rw [upd_ne hny.symm]; exact hy))
        refine ⟨y, dy, ll, 8, d, Ll, rows2, .non, _, rfl, upd_same, sM2 ll _ hll5, (R23.mono fun t xs e => s5 t _ e).mono (fun t xs e => sM2 t _ e), by omega, .inl ⟨rfl, rfl⟩, fun H6 hP2 kp2 => ⟨rfl, ?_⟩⟩
        exact fin z 0 H5 N s5 hP1w (fun h => by cases h) hN y dy hy hdy (fun z => hny z.symm) H6 hP2 kp2
    rintro σ' H4 ⟨p1, p2, b1, rfl, s4, hP1, hb3, hP2⟩
    have hS4 := s4.seq hS3
    have hlr4 := s4 lr _ hlr3
    have hll4 := s4 ll _ hll3
    have R14 := R13.mono fun t xs e => s4 t _ e
    have R24 := R23.mono fun t xs e => s4 t _ e
    clear s4 hS3 hlr3 hll3 R13 R23
    have RA := rows_app R14 R24
    have hall : ∀ r ∈ rows1 ++ rows2, r.1 < wd := fun r hr => (List.mem_append.mp hr).elim (hb1 r) (hb2 r)
    have hnd := mergeR_nodup (rows1 ++ rows2) (rs := []) (by simp)
    have hmr : ∀ more : List (Nat × Nat), (∀ r ∈ more, r.1 < wd) → ((mergeR [] more).map (·.1)).length ≤ wd := fun more hm => len_lt (mergeR_nodup more (rs := []) (by simp)) fun k hk => by
      rcases mergeR_in more [] k hk with h | h
      · simp at h
      · obtain ⟨r, hr, e⟩ := List.mem_map.mp h
        have := hm r hr
        omega
    refine cut2 (fun σ' H5 => ∃ (bd : Addr) (v10 v11 : Option V), σ' = [some (.ref a), some (.int first), some (.bl wh), some (.int (wd : Int)), some (.ref lr), some (.ref ll), some (.int (d : Int)), some (.ref p1), some (.ref p2), some (.ref bd), v10, v11, none, none, none] ∧ Same H4 H5 ∧ H5 bd = some (.dK (kvR (mergeR [] (rows1 ++ rows2))))) (fun N hN => ?_) ?_
    · refine fun bd hbd => ?_
      have s5 : Same H4 (upd H4 bd (.dK [])) := Same.new hbd
      refine ⟨_, rfl, _, rfl, lr, ll, _, _, rfl, rfl, s5 lr _ hlr4, s5 ll _ hll4, (by rw [R14.len, R24.len]; exact Nat.le_of_lt (small1000 (by omega))), fun lc hlc => ?_⟩
      have s6 : Same H4 (upd (upd H4 bd (.dK [])) lc (.lst (Lr ++ Ll))) := s5.trans (Same.new hlc)
      have hbd6 : upd (upd H4 bd (.dK [])) lc (.lst (Lr ++ Ll)) bd = some (.dK (kvR [])) := Same.new hlc bd _ upd_same
      refine ⟨lc, rfl, ⟨_, SqL.of upd_same⟩, for_list (K := K) (a := lc) (xs := Lr ++ Ll) (fun i σ H2 => ∃ (v10 v11 : Option V), σ = [some (.ref a), some (.int first), some (.bl wh), some (.int (wd : Int)), some (.ref lr), some (.ref ll), some (.int (d : Int)), some (.ref p1), some (.ref p2), some (.ref bd), v10, v11, none, none, none] ∧ Same H4 H2 ∧ H2 lc = some (.lst (Lr ++ Ll)) ∧ H2 bd = some (.dK (kvR (mergeR [] ((rows1 ++ rows2).take i))))) ⟨none, none, rfl, s6, upd_same, hbd6⟩ (fun i σ H2 _ ⟨_, _, _, _, h, _⟩ => SqL.of h) ?_ ?_⟩
      · rintro i v σ H5 hi ⟨v10, v11, rfl, s5', hlc5, hbd5⟩
        obtain ⟨t, r, rfl, hr2, ht⟩ := RA.get i v hi
        refine ⟨t, _, rfl, SqT.of (s5' t _ ht), rfl, _, _, rfl, _, _, rfl, rfl, ?_⟩
        have hsz := mergeR_len ((rows1 ++ rows2).take i) []
        rw [List.length_take, List.length_append, List.length_nil] at hsz
        refine ⟨_, rfl, _, rfl, _, rfl, bd, _, rfl, DPut.k (k := Sum.inl (r.1 : Int)) hbd5 (by unfold kvR; rw [List.length_map]; exact small1000 (by omega)), _, _, rfl, fun b o e => ?_, ?_, ?_⟩
        · rw [upd_ne (ne_of_none e hbd)]; exact s5' b _ e
        · rw [upd_ne (ne_of hlc5 hbd5 (by intro z; cases z))]; exact hlc5
        · rw [upd_same, kvR_put, show (rows1 ++ rows2).take (i + 1) = (rows1 ++ rows2).take i ++ [r] by rw [List.take_add_one, hr2]; rfl]
          unfold mergeR; rw [List.foldl_append]; rfl
      · rintro σ H5 ⟨v10, v11, rfl, s5', hlc5, hbd5⟩
        rw [RA.len, List.take_length] at hbd5
        exact hN _ _ ⟨bd, v10, v11, rfl, s5', hbd5⟩
    rintro σ' H5 ⟨bd, v10, v11, rfl, s5, hbd5⟩
    have hS5 := s5.seq hS4
    have hlr5 := s5 lr _ hlr4
    have hll5 := s5 ll _ hll4
    have R15 := R14.mono fun t xs e => s5 t _ e
    have R25 := R24.mono fun t xs e => s5 t _ e
    have hP15 := hP1.keep s5
    have hP25 := hP2.keep s5
    clear s5 hS4 hlr4 hll4 R14 R24 hP1 hP2 RA
    have hrsl := hmr _ hall
    rw [List.length_map] at hrsl
    generalize hgrs : mergeR [] (rows1 ++ rows2) = rs at hbd5 hnd hrsl
    refine cut1 (fun σ' H6 => ∃ (ld : Addr) (Ld : List V) (rowsD : List (Nat × Nat)), σ' = [some (.ref a), some (.int first), some (.bl wh), some (.int (wd : Int)), some (.ref lr), some (.ref ll), some (.int (d : Int)), some (.ref p1), some (.ref p2), some (.ref bd), v10, v11, some (.ref ld), none, none] ∧ Same H5 H6 ∧ H6 ld = some (.lst Ld) ∧ RowsAt H6 Ld rowsD ∧ isM (rows1 ++ rows2) rowsD ∧ rowsD.length ≤ 40) (fun N hN => ?_) ?_
    · refine ⟨_, rfl, bd, kvR rs, rs.map (fun r => (r.1 : Int)), rfl, hbd5, kvR_keys rs, (by rw [List.length_map]; omega), fun l ks hl hperm hsort => ?_⟩
      have s6 : Same H5 (upd H5 l (.lst (ks.map V.int))) := Same.new hl
      have hl6 : upd H5 l (.lst (ks.map V.int)) l = some (.lst (ks.map V.int)) := upd_same
      generalize upd H5 l (.lst (ks.map V.int)) = H6 at s6 hl6
      have hd6 := s6 bd _ hbd5
      have hkl : ks.length = rs.length := by rw [hperm.length_eq, List.length_map]
      refine ⟨l, rfl, ⟨_, SqL.of hl6⟩, fun D hD => ?_⟩
      refine comp_list D (K := K) (a := l) (xs := ks.map V.int) (fun j σ H7 ys => ∃ (v : Option V), σ = [v, some (.ref bd)] ∧ Same H6 H7 ∧ H7 D = some (.lst ys) ∧ RowsAt H7 ys ((rowsBy rs ks).take j)) ⟨none, rfl, Same.new hD, upd_same, ⟨rfl, fun i v e => by simp at e⟩⟩ (fun j σ H7 ys _ ⟨_, _, s7, _⟩ => SqL.of (s7 l _ hl6)) ?_ ?_
      · rintro j y σ H7 ys hj ⟨v, rfl, s7, hy, Rj⟩
        obtain ⟨n, hnj, rfl⟩ := int_at hj
        have hjl : j < ks.length := (List.getElem?_eq_some_iff.mp hnj).1
        obtain ⟨k, bl, rfl, _, hg⟩ := rowsBy_at hnd hperm (List.mem_of_getElem? hnj)
        have hval : valV (kvR rs) (Sum.inl (k : Int)) = some (V.int (bl : Int)) := by rw [getR_val, hg]; rfl
        have hrow : (rowsBy rs ks)[j]? = some (k, bl) := by unfold rowsBy; rw [List.getElem?_map, hnj]; show some (((k : Int)).toNat, (getR rs ((k : Int)).toNat).getD 0) = _; rw [Int.toNat_natCast, hg]; rfl
        refine ⟨_, rfl, _, rfl, _, rfl, bd, V.int (bl : Int), rfl, hval ▸ DGet.k (k := Sum.inl (k : Int)) (s7 bd _ hd6), (by show 2 ≤ sizeLine; decide), fun t2 ht2 => ?_⟩
        have nD : D ≠ t2 := ne_of_none hy ht2
        refine ⟨by rw [upd_ne nD]; exact hy, (by rw [Rj.len, List.length_take]; exact small1000 (by omega)), _, rfl, fun b o e => ?_, upd_same, ?_⟩
        · rw [upd_ne (ne_of_none e hD)]; exact Same.new ht2 b _ (s7 b _ e)
        · rw [List.take_add_one, hrow]
          refine (Rj.mono fun b xs e => ?_).snoc ?_
          · rw [upd_ne (ne_of e hy (by intro z; cases z))]; exact Same.new ht2 b _ e
          · rw [upd_ne nD.symm, upd_same]
      rintro σ H7 ys ⟨v', rfl, s7, hy, Rj⟩
      have hrl : (rowsBy rs ks).length = ks.length := by unfold rowsBy; rw [List.length_map]
      rw [List.length_map, List.take_of_length_le (by omega)] at Rj
      refine hN _ _ ⟨D, ys, rowsBy rs ks, rfl, s6.trans s7, hy, Rj, isM_of hnd (fun k => by rw [← hgrs, getR_all]) (rowsBy_perm hnd hperm) ?_, by omega⟩
      have e : (rowsBy rs ks).map (·.1) = ks.map Int.toNat := by unfold rowsBy; rw [List.map_map]; rfl
      rw [e, List.pairwise_map]
      exact hsort.imp (fun h => by omega)
    rintro σ' H6 ⟨ld, Ld, rowsD, rfl, s6, hld, RD, hMD, hlD⟩
    have hS6 := s6.seq hS5
    have hlr6 := s6 lr _ hlr5
    have hll6 := s6 ll _ hll5
    have R16 := R15.mono fun t xs e => s6 t _ e
    have R26 := R25.mono fun t xs e => s6 t _ e
    have hP16 := hP15.keep s6
    have hP26 := hP25.keep s6
    clear s6 hS5 hlr5 hll5 R15 R25 hP15 hP25 hbd5 hgrs hnd hrsl
    have hmg : (mergeR (mergeR [] rows1) (mergeR [] rows2)).length < 64 := by
      have h := len_lt (mergeR_nodup (mergeR [] rows2) (mergeR_nodup rows1 (rs := []) (by simp))) (n := wd) fun k hk => by
        rcases mergeR_in (mergeR [] rows2) (mergeR [] rows1) k hk with h | h
        · rcases mergeR_in rows1 [] k h with h | h
          · simp at h
          · obtain ⟨r, hr, e⟩ := List.mem_map.mp h
            have := hb1 r hr
            omega
        · rcases mergeR_in rows2 [] k h with h | h
          · simp at h
          · obtain ⟨r, hr, e⟩ := List.mem_map.mp h
            have := hb2 r hr
            omega
      rw [List.length_map] at h
      omega
    refine cut1 (fun σ' H7 => ∃ (px : Addr) (bx : Nat), σ' = [some (.ref a), some (.int first), some (.bl wh), some (.int (wd : Int)), some (.ref lr), some (.ref ll), some (.int (d : Int)), some (.ref p1), some (.ref p2), some (.ref bd), v10, v11, some (.ref ld), some (.ref px), none] ∧ Same H6 H7 ∧ PAtF C_Whole C_Gain H7 px wh bx d rowsD (ckOf wh bx d rowsD : Nat) ∧ (wh = false → bx = 3)) (fun N hN => ?_) ?_
    · refine ⟨_, rfl, _, rfl, p1, p2, wh, false, b1, 8, 8, d, rows1, rows2, _, _, rfl, hP16.keep (Same.refl _), hP26.keep (Same.refl _), ⟨by omega, by omega, hmg⟩, fun h => absurd rfl h, fun _ h => absurd rfl h, fun _ _ h => absurd rfl h, fun _ _ _ x b rows H' hb hmo hPx hs => ?_⟩
      have e : rows = rowsD := hmo.isM.eq hMD
      subst e
      exact hN _ _ ⟨x, b, rfl, hs, hPx, fun h => by rw [hb h, hb3 h]⟩
    rintro σ' H7 ⟨px, bx, rfl, s7, hPx, hbx⟩
    refine cut1 (fun σ' H8 => σ' = [some (.ref a), some (.int first), some (.bl wh), some (.int (wd : Int)), some (.ref lr), some (.ref ll), some (.int (d : Int)), some (.ref p1), some (.ref p2), some (.ref bd), v10, v11, some (.ref ld), some (.ref px), none] ∧ Same H6 H8 ∧ PAtF C_Whole C_Gain H8 px wh bx d rowsD (ckOf wh bx d rowsD : Nat)) (fun N hN => ?_) ?_
    · refine ⟨_, rfl, _, rfl, _, rfl, _, rfl, px, ld, wh, bx, d, Ld, rowsD, rfl, hPx, hbx, s7 ld _ hld, RD.mono (fun t xs e => s7 t _ e), by omega, fun H8 s8 => ⟨_, rfl, ?_⟩⟩
      refine iteF ?_
      exact hN _ _ ⟨rfl, s7.trans s8, hPx.keep s8⟩
    rintro σ' H8 ⟨rfl, s8, hPx8⟩
    have hS8 := s8.seq hS6
    refine cut1 (fun σ' H9 => ∃ (tb : Addr) (ti : List Int), σ' = [some (.ref a), some (.int first), some (.bl wh), some (.int (wd : Int)), some (.ref lr), some (.ref ll), some (.int (d : Int)), some (.ref p1), some (.ref p2), some (.ref bd), v10, v11, some (.ref ld), some (.ref px), some (.ref tb)] ∧ Same H8 H9 ∧ H9 tb = some (.lst (ti.map V.int)) ∧ ti.length = wd) (fun N hN => ?_) ?_
    · refine ⟨_, rfl, _, rfl, by omega, by omega, fun D hD => ?_⟩
      refine comp_range (lo := 0) (n := (wd : Int).toNat) D (fun j σ H9 ys => ∃ (v : Option V) (ti : List Int), σ = [v, some (.ref a)] ∧ Same H8 H9 ∧ H9 D = some (.lst ys) ∧ ys = ti.map V.int ∧ ti.length = j) ⟨none, [], rfl, Same.new hD, upd_same, rfl, rfl⟩ ?_ ?_
      · rintro j σ H9 ys hj ⟨v, ti, rfl, s9, hy, rfl, htl⟩
        refine ⟨_, rfl, a, ns, 1, rfl, s9.seq hS8, _, rfl, _, _, rfl, hy, (by rw [List.length_map]; exact small1000 (by omega)), _, ti ++ [blockI (cellI ns ((1 : Nat) : Int)) (0 + (j : Int))], rfl, fun b o e => ?_, upd_same, by simp, by simp [htl]⟩
        rw [upd_ne (ne_of_none e hD)]; exact s9 b _ e
      · rintro σ H9 ys ⟨v, ti, rfl, s9, hy, rfl, htl⟩
        exact hN _ _ ⟨D, ti, rfl, s9, hy, by omega⟩
    rintro σ' H9 ⟨tb, ti, rfl, s9, htb, htl⟩
    have s69 := s8.trans s9
    have hlr9 := s69 lr _ hlr6
    have hll9 := s69 ll _ hll6
    have R19 := R16.mono fun t xs e => s69 t _ e
    have R29 := R26.mono fun t xs e => s69 t _ e
    have hPx9 := hPx8.keep s9
    have html : (ti.map V.int).length = wd := by rw [List.length_map]; exact htl
    refine cut1 (fun σ' H10 => σ' = [some (.ref a), some (.int first), some (.bl wh), some (.int (wd : Int)), some (.ref lr), some (.ref ll), some (.int (d : Int)), some (.ref p1), some (.ref p2), some (.ref bd), v10, v11, some (.ref ld), some (.ref px), some (.ref tb)] ∧ Same H9 H10) (fun N hN => ?_) ?_
    · have key : ∀ (Qc : VK), (∀ r H', H' r = some (.lst (setT (ti.map V.int) (rows1 ++ rows2))) → Same H9 H' → Qc (.ref r) H') → tEither (tMethS C_Whole "laid" (sp_wlaid C_Whole C_Gain) (fun _ => E0) (tVar 13) (tCons (tVar 14) tNil)) (tMethS C_Gain "laid" (sp_glaid C_Whole C_Gain) (fun _ => E0) (tVar 13) (tCons (tVar 14) tNil)) [some (.ref a), some (.int first), some (.bl wh), some (.int (wd : Int)), some (.ref lr), some (.ref ll), some (.int (d : Int)), some (.ref p1), some (.ref p2), some (.ref bd), v10, v11, some (.ref ld), some (.ref px), some (.ref tb)] H9 Qc := fun Qc hQ => by
        obtain ⟨dx, r, R, h1, h2, h3⟩ := id hPx9
        cases wh
        · refine .inr ⟨_, rfl, px, dx, _, rfl, h1, lk_noP, _, rfl, px, tb, bx, d, rowsD, _, ti.map V.int, rfl, hPx9, htb, fun r hr => ?_, fun r H' hr _ hs => hQ r H' (by rw [hr, hMD.set]) hs⟩
          rw [html]
          exact hall _ (lastR_in ((hMD.2 r.1 r.2).mp hr))
        · have hwk : ∀ k, (∃ v, lastR (rows1 ++ rows2) k = some v) ↔ k < wd := fun k => by
            constructor
            · rintro ⟨v, hv⟩
              exact hall _ (lastR_in hv)
            · intro hk
              exact lastR_some (by rw [List.map_append, hwr rfl]; exact List.mem_append_left _ (by simpa using hk))
          exact .inl ⟨_, rfl, px, dx, _, rfl, h1, lk_noP, _, rfl, px, tb, bx, d, rowsD, _, rfl, hPx9, by omega, fun r H' hr _ hs => hQ r H' (by rw [hr, hMD.whole html hwk]) hs⟩
      refine key _ fun r1 H10 hr1 s10 => ?_
      refine ⟨_, rfl, _, rfl, tb, lr, Lr, _, rows1, rfl, s10 tb _ htb, s10 lr _ hlr9, R19.mono (fun t xs e => s10 t _ e), (fun r hr => by rw [html]; exact hb1 r hr), fun r2 H11 hr2 _ s11 => ?_⟩
      have s911 := s10.trans s11
      refine ⟨_, rfl, r2, ll, Ll, _, rows2, rfl, hr2, s911 ll _ hll9, R29.mono (fun t xs e => s911 t _ e), (fun r hr => by rw [setT_len, html]; exact hb2 r hr), fun r3 H12 hr3 _ s12 => ?_⟩
      rw [setT_app] at hr3
      refine ⟨0, true, by decide, SeqEq.sameL (SqL.of (s12 _ _ (s11 _ _ hr1))) (SqL.of hr3) (fun x hx => ?_), _, rfl, ?_⟩
      · obtain ⟨n, rfl⟩ := setT_ints (rows1 ++ rows2) (ti.map V.int) (fun x hx => by obtain ⟨n, _, e⟩ := List.mem_map.mp hx; exact ⟨n, e.symm⟩) x hx
        exact eqI_int _
      refine iteF ?_
      exact hN _ _ ⟨rfl, s911.trans s12⟩
    rintro σ' H10 ⟨rfl, s10⟩
    have s610 := s69.trans s10
    have hP110 := hP16.keep s610
    have hP210 := hP26.keep s610
    have hlr10 := s610 lr _ hlr6
    have hll10 := s610 ll _ hll6
    have R110 := R16.mono fun t xs e => s610 t _ e
    have R210 := R26.mono fun t xs e => s610 t _ e
    refine cut1 (fun σ' H11 => σ' = [some (.ref a), some (.int first), some (.bl wh), some (.int (wd : Int)), some (.ref lr), some (.ref ll), some (.int (d : Int)), some (.ref p1), some (.ref p2), some (.ref bd), v10, v11, some (.ref ld), some (.ref px), some (.ref tb)] ∧ Same H10 H11) (fun N hN => ?_) ?_
    · refine ⟨_, rfl, _, rfl, _, rfl, p1, lr, wh, b1, 8, Lr, rows1, rfl, hP110, hb3, hlr10, R110, by omega, fun H11 s11 => ⟨_, rfl, ?_⟩⟩
      refine iteF ?_
      obtain ⟨dx2, r2, Rr2, h1, h2, h3⟩ := hP210.keep s11
      refine ⟨_, rfl, p2, C_Gain, dx2, _, _, rfl, h1, T.cl_Gain, T.n_Gain_rows, lk_rows, _, rfl, r2, ll, Rr2, Ll, rows2, rfl, h2, s11 ll _ hll10, h3, R210.mono (fun t xs e => s11 t _ e), fun H12 s12 => ⟨_, rfl, ?_⟩⟩
      refine iteF ?_
      refine ⟨_, rfl, p2, C_Gain, dx2, _, _, rfl, s12 _ _ h1, T.cl_Gain, T.n_Gain_day, lk_day, _, rfl, rfl, _, rfl, ?_⟩
      refine iteNS rfl ?_
      exact hN _ _ ⟨rfl, s11.trans s12⟩
    rintro σ' H11 ⟨rfl, s11⟩
    have s611 := s610.trans s11
    have hPx11 := (hPx9.keep s10).keep s11
    refine ⟨_, rfl, _, rfl, p1, p2, wh, false, b1, 8, 8, d, rows1, rows2, _, _, rfl, hP16.keep s611, hP26.keep s611, ⟨by omega, by omega, hmg⟩, fun h => absurd rfl h, fun _ h => absurd rfl h, fun _ _ h => absurd rfl h, fun _ _ _ x b rows H12 hb' hmo hPy s12 => ?_⟩
    have e : rowsD = rows := hMD.eq hmo.isM
    subst e
    have hb : wh = false → b = 3 := fun h => by rw [hb' h, hb3 h]
    have s612 := s611.trans s12
    refine ⟨_, rfl, _, rfl, _, rfl, x, ld, wh, b, d, Ld, rowsD, rfl, hPy, hb, s612 ld _ hld, RD.mono (fun t xs e => s612 t _ e), by omega, fun H13 s13 => ⟨_, rfl, ?_⟩⟩
    refine iteT ?_
    have s613 := s612.trans s13
    exact ⟨_, rfl, _, rfl, _, rfl, _, rfl, px, ld, wh, bx, d, Ld, rowsD, rfl, (hPx11.keep s12).keep s13, hbx, s613 ld _ hld, RD.mono (fun t xs e => s613 t _ e), by omega, fun H14 _ => q H14⟩
end
theorem all_mk {l : PySem.W.OpenLaw} {w : World} {K : PySem.W.Frag} {h : Heap} {mg : Str → Option Value} {fa : Addr} (X : K.In h) (G : h.Ns mainGlobals mg) (hfa : mg "law" = some (.ref fa))
    {t_W : Tok} (g_W : PySem.W.nsIn K mainGlobals "W" = some (some (.int 18446744073709551615 t_W)))
    {C_KeepError : Addr} (a_KeepError : PySem.W.nsIn K mainGlobals "KeepError" = some (some (.ref C_KeepError)))
    {C_BadPiece : Addr} (a_BadPiece : PySem.W.nsIn K mainGlobals "BadPiece" = some (some (.ref C_BadPiece)))
    {C_NoMerge : Addr} (a_NoMerge : PySem.W.nsIn K mainGlobals "NoMerge" = some (some (.ref C_NoMerge)))
    {C_Piece : Addr} (a_Piece : PySem.W.nsIn K mainGlobals "Piece" = some (some (.ref C_Piece)))
    {C_Whole : Addr} (a_Whole : PySem.W.nsIn K mainGlobals "Whole" = some (some (.ref C_Whole)))
    {C_Gain : Addr} (a_Gain : PySem.W.nsIn K mainGlobals "Gain" = some (some (.ref C_Gain)))
    (clg : PySem.W.specialIn K (.builtin "object.__class__") "__get__" = some (some (.builtin "getset_descriptor.__get__"))) (clt : PySem.W.takesIn K (.builtin "object.__class__") = some true)
    (xo_KeepError : xobjIn K C_KeepError = true) (xs_KeepError : PySem.W.findIn K (.ref C_KeepError) "__setattr__" = some (some (.builtin "object.__setattr__"))) (xg_KeepError : PySem.W.findIn K (.ref C_KeepError) "__getattribute__" = some (some (.builtin "BaseException.__getattribute__"))) (xh_KeepError : PySem.W.findIn K (.ref C_KeepError) "__getattr__" = some none) (xc_KeepError : PySem.W.findIn K (.ref C_KeepError) "__class__" = some (some (.builtin "object.__class__"))) (kc_KeepError : PySem.W.keepIn K (.ref C_KeepError) = true)
    (xo_BadPiece : xobjIn K C_BadPiece = true) (xs_BadPiece : PySem.W.findIn K (.ref C_BadPiece) "__setattr__" = some (some (.builtin "object.__setattr__"))) (xg_BadPiece : PySem.W.findIn K (.ref C_BadPiece) "__getattribute__" = some (some (.builtin "BaseException.__getattribute__"))) (xh_BadPiece : PySem.W.findIn K (.ref C_BadPiece) "__getattr__" = some none) (xc_BadPiece : PySem.W.findIn K (.ref C_BadPiece) "__class__" = some (some (.builtin "object.__class__"))) (kc_BadPiece : PySem.W.keepIn K (.ref C_BadPiece) = true)
    (n_BadPiece_day : PySem.W.findIn K (.ref C_BadPiece) "day" = some none)
    (xo_NoMerge : xobjIn K C_NoMerge = true) (xs_NoMerge : PySem.W.findIn K (.ref C_NoMerge) "__setattr__" = some (some (.builtin "object.__setattr__"))) (xg_NoMerge : PySem.W.findIn K (.ref C_NoMerge) "__getattribute__" = some (some (.builtin "BaseException.__getattribute__"))) (xh_NoMerge : PySem.W.findIn K (.ref C_NoMerge) "__getattr__" = some none) (xc_NoMerge : PySem.W.findIn K (.ref C_NoMerge) "__class__" = some (some (.builtin "object.__class__"))) (kc_NoMerge : PySem.W.keepIn K (.ref C_NoMerge) = true)
    (n_NoMerge_day : PySem.W.findIn K (.ref C_NoMerge) "day" = some none)
    (n_NoMerge_base : PySem.W.findIn K (.ref C_NoMerge) "base" = some none)
    (pg_Whole : PySem.W.plainGet K C_Whole Str.empty = true) (hd_Whole : PySem.W.hasDictIn K C_Whole = true) (po_Whole : PySem.W.plainOver K C_Whole = true) (sa_Whole : PySem.W.findIn K (.ref C_Whole) "__setattr__" = some (some (.builtin "object.__setattr__"))) (mk_Whole : PySem.W.makesIn K C_Whole = true) (kc_Whole : PySem.W.keepIn K (.ref C_Whole) = true)
    (n_Whole_day : PySem.W.findIn K (.ref C_Whole) "day" = some none)
    (n_Whole_rows : PySem.W.findIn K (.ref C_Whole) "rows" = some none)
    (n_Whole_check : PySem.W.findIn K (.ref C_Whole) "check" = some none)
    (n_Whole_fits : PySem.W.findIn K (.ref C_Whole) "fits" = some none)
    (pg_Gain : PySem.W.plainGet K C_Gain Str.empty = true) (hd_Gain : PySem.W.hasDictIn K C_Gain = true) (po_Gain : PySem.W.plainOver K C_Gain = true) (sa_Gain : PySem.W.findIn K (.ref C_Gain) "__setattr__" = some (some (.builtin "object.__setattr__"))) (mk_Gain : PySem.W.makesIn K C_Gain = true) (kc_Gain : PySem.W.keepIn K (.ref C_Gain) = true)
    (n_Gain_day : PySem.W.findIn K (.ref C_Gain) "day" = some none)
    (n_Gain_rows : PySem.W.findIn K (.ref C_Gain) "rows" = some none)
    (n_Gain_check : PySem.W.findIn K (.ref C_Gain) "check" = some none)
    (n_Gain_fits : PySem.W.findIn K (.ref C_Gain) "fits" = some none)
    (n_Gain_base : PySem.W.findIn K (.ref C_Gain) "base" = some none)
    {f_BadPiece___init__ : Addr} {od_BadPiece___init__ an_BadPiece___init__ : Option Addr} {sl_BadPiece___init__ : Array (Option Value)} {oc_BadPiece___init__ kV_BadPiece___init__ dc_BadPiece___init__ pm_BadPiece___init__ cd_BadPiece___init__ ct_BadPiece___init__ : Value}
    (a_BadPiece___init__ : PySem.W.findIn K (.ref C_BadPiece) "__init__" = some (some (.ref f_BadPiece___init__))) (i_BadPiece___init__ : PySem.W.isFn K (.ref f_BadPiece___init__) = true)
    (l_BadPiece___init__ : K.lookup f_BadPiece___init__ = some ⟨oc_BadPiece___init__, od_BadPiece___init__, .func (PySem.W.fnOf "__init__" "BadPiece.__init__" (defArgs s_BadPiece___init__) (defBody s_BadPiece___init__) (defScope s_BadPiece___init__) .none kV_BadPiece___init__ dc_BadPiece___init__ pm_BadPiece___init__ an_BadPiece___init__ cd_BadPiece___init__ ct_BadPiece___init__), sl_BadPiece___init__⟩) (c_BadPiece___init__ : PySem.W.codeIn K cd_BadPiece___init__ "BadPiece.__init__" = true) (k_BadPiece___init__ : PySem.W.keepIn K (.ref f_BadPiece___init__) = true)
    {f_NoMerge___init__ : Addr} {od_NoMerge___init__ an_NoMerge___init__ : Option Addr} {sl_NoMerge___init__ : Array (Option Value)} {oc_NoMerge___init__ kV_NoMerge___init__ dc_NoMerge___init__ pm_NoMerge___init__ cd_NoMerge___init__ ct_NoMerge___init__ : Value}
    (a_NoMerge___init__ : PySem.W.findIn K (.ref C_NoMerge) "__init__" = some (some (.ref f_NoMerge___init__))) (i_NoMerge___init__ : PySem.W.isFn K (.ref f_NoMerge___init__) = true)
    (l_NoMerge___init__ : K.lookup f_NoMerge___init__ = some ⟨oc_NoMerge___init__, od_NoMerge___init__, .func (PySem.W.fnOf "__init__" "NoMerge.__init__" (defArgs s_NoMerge___init__) (defBody s_NoMerge___init__) (defScope s_NoMerge___init__) .none kV_NoMerge___init__ dc_NoMerge___init__ pm_NoMerge___init__ an_NoMerge___init__ cd_NoMerge___init__ ct_NoMerge___init__), sl_NoMerge___init__⟩) (c_NoMerge___init__ : PySem.W.codeIn K cd_NoMerge___init__ "NoMerge.__init__" = true) (k_NoMerge___init__ : PySem.W.keepIn K (.ref f_NoMerge___init__) = true)
    {f_turned : Addr} {od_turned an_turned : Option Addr} {sl_turned : Array (Option Value)} {oc_turned kV_turned dc_turned pm_turned cd_turned ct_turned : Value}
    (a_turned : PySem.W.nsIn K mainGlobals "turned" = some (some (.ref f_turned)))
    (l_turned : K.lookup f_turned = some ⟨oc_turned, od_turned, .func (PySem.W.fnOf "turned" "turned" (defArgs s_turned) (defBody s_turned) (defScope s_turned) .none kV_turned dc_turned pm_turned an_turned cd_turned ct_turned), sl_turned⟩) (c_turned : PySem.W.codeIn K cd_turned "turned" = true) (k_turned : PySem.W.keepIn K (.ref f_turned) = true)
    {f_check_of : Addr} {od_check_of an_check_of : Option Addr} {sl_check_of : Array (Option Value)} {oc_check_of kV_check_of dc_check_of pm_check_of cd_check_of ct_check_of : Value}
    (a_check_of : PySem.W.nsIn K mainGlobals "check_of" = some (some (.ref f_check_of)))
    (l_check_of : K.lookup f_check_of = some ⟨oc_check_of, od_check_of, .func (PySem.W.fnOf "check_of" "check_of" (defArgs s_check_of) (defBody s_check_of) (defScope s_check_of) .none kV_check_of dc_check_of pm_check_of an_check_of cd_check_of ct_check_of), sl_check_of⟩) (c_check_of : PySem.W.codeIn K cd_check_of "check_of" = true) (k_check_of : PySem.W.keepIn K (.ref f_check_of) = true)
    {f_Piece___init__ : Addr} {od_Piece___init__ an_Piece___init__ : Option Addr} {sl_Piece___init__ : Array (Option Value)} {oc_Piece___init__ kV_Piece___init__ dc_Piece___init__ pm_Piece___init__ cd_Piece___init__ ct_Piece___init__ : Value}
    (a_Piece___init__ : PySem.W.findIn K (.ref C_Piece) "__init__" = some (some (.ref f_Piece___init__))) (i_Piece___init__ : PySem.W.isFn K (.ref f_Piece___init__) = true)
    (l_Piece___init__ : K.lookup f_Piece___init__ = some ⟨oc_Piece___init__, od_Piece___init__, .func (PySem.W.fnOf "__init__" "Piece.__init__" (defArgs s_Piece___init__) (defBody s_Piece___init__) (defScope s_Piece___init__) .none kV_Piece___init__ dc_Piece___init__ pm_Piece___init__ an_Piece___init__ cd_Piece___init__ ct_Piece___init__), sl_Piece___init__⟩) (c_Piece___init__ : PySem.W.codeIn K cd_Piece___init__ "Piece.__init__" = true) (k_Piece___init__ : PySem.W.keepIn K (.ref f_Piece___init__) = true)
    {f_Piece_is_good : Addr} {od_Piece_is_good an_Piece_is_good : Option Addr} {sl_Piece_is_good : Array (Option Value)} {oc_Piece_is_good kV_Piece_is_good dc_Piece_is_good pm_Piece_is_good cd_Piece_is_good ct_Piece_is_good : Value}
    (a_Piece_is_good : PySem.W.findIn K (.ref C_Piece) "is_good" = some (some (.ref f_Piece_is_good))) (i_Piece_is_good : PySem.W.isFn K (.ref f_Piece_is_good) = true)
    (l_Piece_is_good : K.lookup f_Piece_is_good = some ⟨oc_Piece_is_good, od_Piece_is_good, .func (PySem.W.fnOf "is_good" "Piece.is_good" (defArgs s_Piece_is_good) (defBody s_Piece_is_good) (defScope s_Piece_is_good) .none kV_Piece_is_good dc_Piece_is_good pm_Piece_is_good an_Piece_is_good cd_Piece_is_good ct_Piece_is_good), sl_Piece_is_good⟩) (c_Piece_is_good : PySem.W.codeIn K cd_Piece_is_good "Piece.is_good" = true) (k_Piece_is_good : PySem.W.keepIn K (.ref f_Piece_is_good) = true)
    {f_Whole___init__ : Addr} {od_Whole___init__ an_Whole___init__ : Option Addr} {sl_Whole___init__ : Array (Option Value)} {oc_Whole___init__ kV_Whole___init__ dc_Whole___init__ pm_Whole___init__ cd_Whole___init__ ct_Whole___init__ : Value}
    (a_Whole___init__ : PySem.W.findIn K (.ref C_Whole) "__init__" = some (some (.ref f_Whole___init__))) (i_Whole___init__ : PySem.W.isFn K (.ref f_Whole___init__) = true)
    {td_Whole___init__ : Addr} {yc_Whole___init__ : Value} {yd_Whole___init__ : Option Addr} {yn_Whole___init__ : Nat} {yl_Whole___init__ : Array (Option Value)}
    (l_Whole___init__ : K.lookup f_Whole___init__ = some ⟨oc_Whole___init__, od_Whole___init__, .func (PySem.W.fnOf "__init__" "Whole.__init__" (defArgs s_Whole___init__) (defBody s_Whole___init__) (defScope s_Whole___init__) (.ref td_Whole___init__) kV_Whole___init__ dc_Whole___init__ pm_Whole___init__ an_Whole___init__ cd_Whole___init__ ct_Whole___init__), sl_Whole___init__⟩) (c_Whole___init__ : PySem.W.codeIn K cd_Whole___init__ "Whole.__init__" = true) (k_Whole___init__ : PySem.W.keepIn K (.ref f_Whole___init__) = true)
    (y_Whole___init__ : K.lookup td_Whole___init__ = some ⟨yc_Whole___init__, yd_Whole___init__, .seq #[.none] yn_Whole___init__, yl_Whole___init__⟩)
    {f_Whole_start : Addr} {od_Whole_start an_Whole_start : Option Addr} {sl_Whole_start : Array (Option Value)} {oc_Whole_start kV_Whole_start dc_Whole_start pm_Whole_start cd_Whole_start ct_Whole_start : Value}
    (a_Whole_start : PySem.W.findIn K (.ref C_Whole) "start" = some (some (.ref f_Whole_start))) (i_Whole_start : PySem.W.isFn K (.ref f_Whole_start) = true)
    (l_Whole_start : K.lookup f_Whole_start = some ⟨oc_Whole_start, od_Whole_start, .func (PySem.W.fnOf "start" "Whole.start" (defArgs s_Whole_start) (defBody s_Whole_start) (defScope s_Whole_start) .none kV_Whole_start dc_Whole_start pm_Whole_start an_Whole_start cd_Whole_start ct_Whole_start), sl_Whole_start⟩) (c_Whole_start : PySem.W.codeIn K cd_Whole_start "Whole.start" = true) (k_Whole_start : PySem.W.keepIn K (.ref f_Whole_start) = true)
    {f_Whole_kind : Addr} {od_Whole_kind an_Whole_kind : Option Addr} {sl_Whole_kind : Array (Option Value)} {oc_Whole_kind kV_Whole_kind dc_Whole_kind pm_Whole_kind cd_Whole_kind ct_Whole_kind : Value}
    (a_Whole_kind : PySem.W.findIn K (.ref C_Whole) "kind" = some (some (.ref f_Whole_kind))) (i_Whole_kind : PySem.W.isFn K (.ref f_Whole_kind) = true)
    (l_Whole_kind : K.lookup f_Whole_kind = some ⟨oc_Whole_kind, od_Whole_kind, .func (PySem.W.fnOf "kind" "Whole.kind" (defArgs s_Whole_kind) (defBody s_Whole_kind) (defScope s_Whole_kind) .none kV_Whole_kind dc_Whole_kind pm_Whole_kind an_Whole_kind cd_Whole_kind ct_Whole_kind), sl_Whole_kind⟩) (c_Whole_kind : PySem.W.codeIn K cd_Whole_kind "Whole.kind" = true) (k_Whole_kind : PySem.W.keepIn K (.ref f_Whole_kind) = true)
    {f_Whole_laid : Addr} {od_Whole_laid an_Whole_laid : Option Addr} {sl_Whole_laid : Array (Option Value)} {oc_Whole_laid kV_Whole_laid dc_Whole_laid pm_Whole_laid cd_Whole_laid ct_Whole_laid : Value}
    (a_Whole_laid : PySem.W.findIn K (.ref C_Whole) "laid" = some (some (.ref f_Whole_laid))) (i_Whole_laid : PySem.W.isFn K (.ref f_Whole_laid) = true)
    (l_Whole_laid : K.lookup f_Whole_laid = some ⟨oc_Whole_laid, od_Whole_laid, .func (PySem.W.fnOf "laid" "Whole.laid" (defArgs s_Whole_laid) (defBody s_Whole_laid) (defScope s_Whole_laid) .none kV_Whole_laid dc_Whole_laid pm_Whole_laid an_Whole_laid cd_Whole_laid ct_Whole_laid), sl_Whole_laid⟩) (c_Whole_laid : PySem.W.codeIn K cd_Whole_laid "Whole.laid" = true) (k_Whole_laid : PySem.W.keepIn K (.ref f_Whole_laid) = true)
    {f_Gain___init__ : Addr} {od_Gain___init__ an_Gain___init__ : Option Addr} {sl_Gain___init__ : Array (Option Value)} {oc_Gain___init__ kV_Gain___init__ dc_Gain___init__ pm_Gain___init__ cd_Gain___init__ ct_Gain___init__ : Value}
    (a_Gain___init__ : PySem.W.findIn K (.ref C_Gain) "__init__" = some (some (.ref f_Gain___init__))) (i_Gain___init__ : PySem.W.isFn K (.ref f_Gain___init__) = true)
    {td_Gain___init__ : Addr} {yc_Gain___init__ : Value} {yd_Gain___init__ : Option Addr} {yn_Gain___init__ : Nat} {yl_Gain___init__ : Array (Option Value)}
    (l_Gain___init__ : K.lookup f_Gain___init__ = some ⟨oc_Gain___init__, od_Gain___init__, .func (PySem.W.fnOf "__init__" "Gain.__init__" (defArgs s_Gain___init__) (defBody s_Gain___init__) (defScope s_Gain___init__) (.ref td_Gain___init__) kV_Gain___init__ dc_Gain___init__ pm_Gain___init__ an_Gain___init__ cd_Gain___init__ ct_Gain___init__), sl_Gain___init__⟩) (c_Gain___init__ : PySem.W.codeIn K cd_Gain___init__ "Gain.__init__" = true) (k_Gain___init__ : PySem.W.keepIn K (.ref f_Gain___init__) = true)
    (y_Gain___init__ : K.lookup td_Gain___init__ = some ⟨yc_Gain___init__, yd_Gain___init__, .seq #[.none] yn_Gain___init__, yl_Gain___init__⟩)
    {f_Gain_start : Addr} {od_Gain_start an_Gain_start : Option Addr} {sl_Gain_start : Array (Option Value)} {oc_Gain_start kV_Gain_start dc_Gain_start pm_Gain_start cd_Gain_start ct_Gain_start : Value}
    (a_Gain_start : PySem.W.findIn K (.ref C_Gain) "start" = some (some (.ref f_Gain_start))) (i_Gain_start : PySem.W.isFn K (.ref f_Gain_start) = true)
    (l_Gain_start : K.lookup f_Gain_start = some ⟨oc_Gain_start, od_Gain_start, .func (PySem.W.fnOf "start" "Gain.start" (defArgs s_Gain_start) (defBody s_Gain_start) (defScope s_Gain_start) .none kV_Gain_start dc_Gain_start pm_Gain_start an_Gain_start cd_Gain_start ct_Gain_start), sl_Gain_start⟩) (c_Gain_start : PySem.W.codeIn K cd_Gain_start "Gain.start" = true) (k_Gain_start : PySem.W.keepIn K (.ref f_Gain_start) = true)
    {f_Gain_kind : Addr} {od_Gain_kind an_Gain_kind : Option Addr} {sl_Gain_kind : Array (Option Value)} {oc_Gain_kind kV_Gain_kind dc_Gain_kind pm_Gain_kind cd_Gain_kind ct_Gain_kind : Value}
    (a_Gain_kind : PySem.W.findIn K (.ref C_Gain) "kind" = some (some (.ref f_Gain_kind))) (i_Gain_kind : PySem.W.isFn K (.ref f_Gain_kind) = true)
    (l_Gain_kind : K.lookup f_Gain_kind = some ⟨oc_Gain_kind, od_Gain_kind, .func (PySem.W.fnOf "kind" "Gain.kind" (defArgs s_Gain_kind) (defBody s_Gain_kind) (defScope s_Gain_kind) .none kV_Gain_kind dc_Gain_kind pm_Gain_kind an_Gain_kind cd_Gain_kind ct_Gain_kind), sl_Gain_kind⟩) (c_Gain_kind : PySem.W.codeIn K cd_Gain_kind "Gain.kind" = true) (k_Gain_kind : PySem.W.keepIn K (.ref f_Gain_kind) = true)
    {f_Gain_laid : Addr} {od_Gain_laid an_Gain_laid : Option Addr} {sl_Gain_laid : Array (Option Value)} {oc_Gain_laid kV_Gain_laid dc_Gain_laid pm_Gain_laid cd_Gain_laid ct_Gain_laid : Value}
    (a_Gain_laid : PySem.W.findIn K (.ref C_Gain) "laid" = some (some (.ref f_Gain_laid))) (i_Gain_laid : PySem.W.isFn K (.ref f_Gain_laid) = true)
    (l_Gain_laid : K.lookup f_Gain_laid = some ⟨oc_Gain_laid, od_Gain_laid, .func (PySem.W.fnOf "laid" "Gain.laid" (defArgs s_Gain_laid) (defBody s_Gain_laid) (defScope s_Gain_laid) .none kV_Gain_laid dc_Gain_laid pm_Gain_laid an_Gain_laid cd_Gain_laid ct_Gain_laid), sl_Gain_laid⟩) (c_Gain_laid : PySem.W.codeIn K cd_Gain_laid "Gain.laid" = true) (k_Gain_laid : PySem.W.keepIn K (.ref f_Gain_laid) = true)
    {f_merged : Addr} {od_merged an_merged : Option Addr} {sl_merged : Array (Option Value)} {oc_merged kV_merged dc_merged pm_merged cd_merged ct_merged : Value}
    (a_merged : PySem.W.nsIn K mainGlobals "merged" = some (some (.ref f_merged)))
    (l_merged : K.lookup f_merged = some ⟨oc_merged, od_merged, .func (PySem.W.fnOf "merged" "merged" (defArgs s_merged) (defBody s_merged) (defScope s_merged) .none kV_merged dc_merged pm_merged an_merged cd_merged ct_merged), sl_merged⟩) (c_merged : PySem.W.codeIn K cd_merged "merged" = true) (k_merged : PySem.W.keepIn K (.ref f_merged) = true)
    {f__law_cell : Addr} {od__law_cell an__law_cell : Option Addr} {sl__law_cell : Array (Option Value)} {oc__law_cell kV__law_cell dc__law_cell pm__law_cell cd__law_cell ct__law_cell : Value}
    (a__law_cell : PySem.W.nsIn K mainGlobals "_law_cell" = some (some (.ref f__law_cell)))
    (l__law_cell : K.lookup f__law_cell = some ⟨oc__law_cell, od__law_cell, .func (PySem.W.fnOf "_law_cell" "_law_cell" (defArgs s__law_cell) (defBody s__law_cell) (defScope s__law_cell) .none kV__law_cell dc__law_cell pm__law_cell an__law_cell cd__law_cell ct__law_cell), sl__law_cell⟩) (c__law_cell : PySem.W.codeIn K cd__law_cell "_law_cell" = true) (k__law_cell : PySem.W.keepIn K (.ref f__law_cell) = true)
    {f__law_whole : Addr} {od__law_whole an__law_whole : Option Addr} {sl__law_whole : Array (Option Value)} {oc__law_whole kV__law_whole dc__law_whole pm__law_whole cd__law_whole ct__law_whole : Value}
    (a__law_whole : PySem.W.nsIn K mainGlobals "_law_whole" = some (some (.ref f__law_whole)))
    (l__law_whole : K.lookup f__law_whole = some ⟨oc__law_whole, od__law_whole, .func (PySem.W.fnOf "_law_whole" "_law_whole" (defArgs s__law_whole) (defBody s__law_whole) (defScope s__law_whole) .none kV__law_whole dc__law_whole pm__law_whole an__law_whole cd__law_whole ct__law_whole), sl__law_whole⟩) (c__law_whole : PySem.W.codeIn K cd__law_whole "_law_whole" = true) (k__law_whole : PySem.W.keepIn K (.ref f__law_whole) = true)
    {f__law_stir : Addr} {od__law_stir an__law_stir : Option Addr} {sl__law_stir : Array (Option Value)} {oc__law_stir kV__law_stir dc__law_stir pm__law_stir cd__law_stir ct__law_stir : Value}
    (a__law_stir : PySem.W.nsIn K mainGlobals "_law_stir" = some (some (.ref f__law_stir)))
    (l__law_stir : K.lookup f__law_stir = some ⟨oc__law_stir, od__law_stir, .func (PySem.W.fnOf "_law_stir" "_law_stir" (defArgs s__law_stir) (defBody s__law_stir) (defScope s__law_stir) .none kV__law_stir dc__law_stir pm__law_stir an__law_stir cd__law_stir ct__law_stir), sl__law_stir⟩) (c__law_stir : PySem.W.codeIn K cd__law_stir "_law_stir" = true) (k__law_stir : PySem.W.keepIn K (.ref f__law_stir) = true)
    {f__law_block : Addr} {od__law_block an__law_block : Option Addr} {sl__law_block : Array (Option Value)} {oc__law_block kV__law_block dc__law_block pm__law_block cd__law_block ct__law_block : Value}
    (a__law_block : PySem.W.nsIn K mainGlobals "_law_block" = some (some (.ref f__law_block)))
    (l__law_block : K.lookup f__law_block = some ⟨oc__law_block, od__law_block, .func (PySem.W.fnOf "_law_block" "_law_block" (defArgs s__law_block) (defBody s__law_block) (defScope s__law_block) .none kV__law_block dc__law_block pm__law_block an__law_block cd__law_block ct__law_block), sl__law_block⟩) (c__law_block : PySem.W.codeIn K cd__law_block "_law_block" = true) (k__law_block : PySem.W.keepIn K (.ref f__law_block) = true)
    {f__law_check : Addr} {od__law_check an__law_check : Option Addr} {sl__law_check : Array (Option Value)} {oc__law_check kV__law_check dc__law_check pm__law_check cd__law_check ct__law_check : Value}
    (a__law_check : PySem.W.nsIn K mainGlobals "_law_check" = some (some (.ref f__law_check)))
    (l__law_check : K.lookup f__law_check = some ⟨oc__law_check, od__law_check, .func (PySem.W.fnOf "_law_check" "_law_check" (defArgs s__law_check) (defBody s__law_check) (defScope s__law_check) .none kV__law_check dc__law_check pm__law_check an__law_check cd__law_check ct__law_check), sl__law_check⟩) (c__law_check : PySem.W.codeIn K cd__law_check "_law_check" = true) (k__law_check : PySem.W.keepIn K (.ref f__law_check) = true)
    {f__law_same_rows : Addr} {od__law_same_rows an__law_same_rows : Option Addr} {sl__law_same_rows : Array (Option Value)} {oc__law_same_rows kV__law_same_rows dc__law_same_rows pm__law_same_rows cd__law_same_rows ct__law_same_rows : Value}
    (a__law_same_rows : PySem.W.nsIn K mainGlobals "_law_same_rows" = some (some (.ref f__law_same_rows)))
    (l__law_same_rows : K.lookup f__law_same_rows = some ⟨oc__law_same_rows, od__law_same_rows, .func (PySem.W.fnOf "_law_same_rows" "_law_same_rows" (defArgs s__law_same_rows) (defBody s__law_same_rows) (defScope s__law_same_rows) .none kV__law_same_rows dc__law_same_rows pm__law_same_rows an__law_same_rows cd__law_same_rows ct__law_same_rows), sl__law_same_rows⟩) (c__law_same_rows : PySem.W.codeIn K cd__law_same_rows "_law_same_rows" = true) (k__law_same_rows : PySem.W.keepIn K (.ref f__law_same_rows) = true)
    {f__law_rows : Addr} {od__law_rows an__law_rows : Option Addr} {sl__law_rows : Array (Option Value)} {oc__law_rows kV__law_rows dc__law_rows pm__law_rows cd__law_rows ct__law_rows : Value}
    (a__law_rows : PySem.W.nsIn K mainGlobals "_law_rows" = some (some (.ref f__law_rows)))
    (l__law_rows : K.lookup f__law_rows = some ⟨oc__law_rows, od__law_rows, .func (PySem.W.fnOf "_law_rows" "_law_rows" (defArgs s__law_rows) (defBody s__law_rows) (defScope s__law_rows) .none kV__law_rows dc__law_rows pm__law_rows an__law_rows cd__law_rows ct__law_rows), sl__law_rows⟩) (c__law_rows : PySem.W.codeIn K cd__law_rows "_law_rows" = true) (k__law_rows : PySem.W.keepIn K (.ref f__law_rows) = true)
    {f__law_laid : Addr} {od__law_laid an__law_laid : Option Addr} {sl__law_laid : Array (Option Value)} {oc__law_laid kV__law_laid dc__law_laid pm__law_laid cd__law_laid ct__law_laid : Value}
    (a__law_laid : PySem.W.nsIn K mainGlobals "_law_laid" = some (some (.ref f__law_laid)))
    (l__law_laid : K.lookup f__law_laid = some ⟨oc__law_laid, od__law_laid, .func (PySem.W.fnOf "_law_laid" "_law_laid" (defArgs s__law_laid) (defBody s__law_laid) (defScope s__law_laid) .none kV__law_laid dc__law_laid pm__law_laid an__law_laid cd__law_laid ct__law_laid), sl__law_laid⟩) (c__law_laid : PySem.W.codeIn K cd__law_laid "_law_laid" = true) (k__law_laid : PySem.W.keepIn K (.ref f__law_laid) = true)
    {f__law_is_it : Addr} {od__law_is_it an__law_is_it : Option Addr} {sl__law_is_it : Array (Option Value)} {oc__law_is_it kV__law_is_it dc__law_is_it pm__law_is_it cd__law_is_it ct__law_is_it : Value}
    (a__law_is_it : PySem.W.nsIn K mainGlobals "_law_is_it" = some (some (.ref f__law_is_it)))
    (l__law_is_it : K.lookup f__law_is_it = some ⟨oc__law_is_it, od__law_is_it, .func (PySem.W.fnOf "_law_is_it" "_law_is_it" (defArgs s__law_is_it) (defBody s__law_is_it) (defScope s__law_is_it) .none kV__law_is_it dc__law_is_it pm__law_is_it an__law_is_it cd__law_is_it ct__law_is_it), sl__law_is_it⟩) (c__law_is_it : PySem.W.codeIn K cd__law_is_it "_law_is_it" = true) (k__law_is_it : PySem.W.keepIn K (.ref f__law_is_it) = true)
    {f_law : Addr} {od_law an_law : Option Addr} {sl_law : Array (Option Value)} {oc_law kV_law dc_law pm_law cd_law ct_law : Value}
    (a_law : PySem.W.nsIn K mainGlobals "law" = some (some (.ref f_law)))
    (l_law : K.lookup f_law = some ⟨oc_law, od_law, .func (PySem.W.fnOf "law" "law" (defArgs s_law) (defBody s_law) (defScope s_law) .none kV_law dc_law pm_law an_law cd_law ct_law), sl_law⟩) (c_law : PySem.W.codeIn K cd_law "law" = true) (k_law : PySem.W.keepIn K (.ref f_law) = true)
    (h_Whole_is_good : PySem.W.findIn K (.ref C_Whole) "is_good" = some (some (.ref f_Piece_is_good)))
    (h_Gain_is_good : PySem.W.findIn K (.ref C_Gain) "is_good" = some (some (.ref f_Piece_is_good)))
    (ga_Piece : PySem.W.specialIn K (.ref C_Piece) "__getattribute__" = some (some (.builtin "type.__getattribute__"))) (rd_Piece : PySem.W.readsIn K C_Piece (.type "type") = true) (fc_Piece___init__ : PySem.W.findCls K (.ref C_Piece) (.type "type") "__init__" = some (.val (.ref f_Piece___init__)))
    (z_len : PySem.W.nsIn K mainGlobals "len" = some none)
    (z_isinstance : PySem.W.nsIn K mainGlobals "isinstance" = some none)
    (z_int : PySem.W.nsIn K mainGlobals "int" = some none)
    (z_bool : PySem.W.nsIn K mainGlobals "bool" = some none)
    (z_list : PySem.W.nsIn K mainGlobals "list" = some none)
    (z_tuple : PySem.W.nsIn K mainGlobals "tuple" = some none)
    (z_range : PySem.W.nsIn K mainGlobals "range" = some none)
    (z_dict : PySem.W.nsIn K mainGlobals "dict" = some none)
    (z_sorted : PySem.W.nsIn K mainGlobals "sorted" = some none)
    (z_zip : PySem.W.nsIn K mainGlobals "zip" = some none)
    (clgX : PySem.W.specialIn K (.builtin "object.__class__") "__get__" = some (some (.builtin "getset_descriptor.__get__")))
    (cltX : PySem.W.takesIn K (.builtin "object.__class__") = some true)
    (ic_Whole : PySem.W.findIn K (.ref C_Whole) "__class__" = some (some (.builtin "object.__class__")))
    (io_Whole : PySem.W.mroIn K C_Whole (.type "object") = some true)
    (k_Whole_Whole : PySem.W.kitOne K (.ref C_Whole) (.ref C_Whole) = some true)
    (k_Whole_Gain : PySem.W.kitOne K (.ref C_Whole) (.ref C_Gain) = some false)
    (ic_Gain : PySem.W.findIn K (.ref C_Gain) "__class__" = some (some (.builtin "object.__class__")))
    (io_Gain : PySem.W.mroIn K C_Gain (.type "object") = some true)
    (k_Gain_Whole : PySem.W.kitOne K (.ref C_Gain) (.ref C_Whole) = some false)
    (k_Gain_Gain : PySem.W.kitOne K (.ref C_Gain) (.ref C_Gain) = some true)
    : ∃ fd : FuncData, (∀ (s : Shared) (v : Value), BindsTo s fd ⟨[v], []⟩ [("_law_script", v)]) ∧ ∀ base : Heap, K.In base → base.Ns mainGlobals mg → FnOk l.prog w K mg base (CXx l.prog w) 7 fa fd ["_law_script"] (sp_law K) := by
  have e := hfa.symm.trans (PySem.W.mg_of X G a_law)
  cases e
  have T : Txt K mg t_W C_KeepError C_BadPiece C_NoMerge C_Piece C_Whole C_Gain := ⟨PySem.W.mg_of X G g_W, PySem.W.mg_of X G a_KeepError, ⟨xo_KeepError, xs_KeepError, xg_KeepError, xh_KeepError, xc_KeepError, clg, clt⟩, PySem.W.mg_of X G a_BadPiece, ⟨xo_BadPiece, xs_BadPiece, xg_BadPiece, xh_BadPiece, xc_BadPiece, clg, clt⟩, n_BadPiece_day, PySem.W.mg_of X G a_NoMerge, ⟨xo_NoMerge, xs_NoMerge, xg_NoMerge, xh_NoMerge, xc_NoMerge, clg, clt⟩, n_NoMerge_day, n_NoMerge_base, PySem.W.mg_of X G a_Piece, PySem.W.mg_of X G a_Whole, ⟨pg_Whole, hd_Whole, po_Whole, sa_Whole⟩, n_Whole_day, n_Whole_rows, n_Whole_check, n_Whole_fits, PySem.W.mg_of X G a_Gain, ⟨pg_Gain, hd_Gain, po_Gain, sa_Gain⟩, n_Gain_day, n_Gain_rows, n_Gain_check, n_Gain_fits, n_Gain_base, PySem.W.mg_none_of X G z_len, PySem.W.mg_none_of X G z_isinstance, PySem.W.mg_none_of X G z_int, PySem.W.mg_none_of X G z_bool, PySem.W.mg_none_of X G z_list, PySem.W.mg_none_of X G z_tuple, PySem.W.mg_none_of X G z_range, PySem.W.mg_none_of X G z_dict, PySem.W.mg_none_of X G z_sorted, PySem.W.mg_none_of X G z_zip, clgX, cltX, ic_Whole, io_Whole, k_Whole_Whole, k_Whole_Gain, ic_Gain, io_Gain, k_Gain_Whole, k_Gain_Gain⟩
  have F_BadPiece___init__ := fun_mk (st := s_BadPiece___init__) l_BadPiece___init__ c_BadPiece___init__ k_BadPiece___init__
  have b_BadPiece___init__ := F_BadPiece___init__.binds (ps := ["self", "day"]) fun _ _ _ _ _ _ us hl => match us, hl with | [_, _], _ => rfl
  have F_NoMerge___init__ := fun_mk (st := s_NoMerge___init__) l_NoMerge___init__ c_NoMerge___init__ k_NoMerge___init__
  have b_NoMerge___init__ := F_NoMerge___init__.binds (ps := ["self", "day", "base"]) fun _ _ _ _ _ _ us hl => match us, hl with | [_, _, _], _ => rfl
  have F_turned := fun_mk (st := s_turned) l_turned c_turned k_turned
  have b_turned := F_turned.binds (ps := ["number"]) fun _ _ _ _ _ _ us hl => match us, hl with | [_], _ => rfl
  have F_check_of := fun_mk (st := s_check_of) l_check_of c_check_of k_check_of
  have b_check_of := F_check_of.binds (ps := ["start", "day", "rows"]) fun _ _ _ _ _ _ us hl => match us, hl with | [_, _, _], _ => rfl
  have F_Piece___init__ := fun_mk (st := s_Piece___init__) l_Piece___init__ c_Piece___init__ k_Piece___init__
  have b_Piece___init__ := F_Piece___init__.binds (ps := ["self", "start", "day", "rows", "check"]) fun _ _ _ _ _ _ us hl => match us, hl with | [_, _, _, _, _], _ => rfl
  have F_Piece_is_good := fun_mk (st := s_Piece_is_good) l_Piece_is_good c_Piece_is_good k_Piece_is_good
  have b_Piece_is_good := F_Piece_is_good.binds (ps := ["self"]) fun _ _ _ _ _ _ us hl => match us, hl with | [_], _ => rfl
  have F_Whole___init__ := fund_mk (st := s_Whole___init__) l_Whole___init__ c_Whole___init__ k_Whole___init__
  have b_Whole___init__ := F_Whole___init__.binds (ps := ["self", "day", "rows", "check"]) (ds := []) y_Whole___init__ rfl fun _ _ _ _ _ _ us hl => match us, hl with | [_, _, _, _], _ => ⟨_, rfl, rfl⟩
  have b_Whole___init___d1 := F_Whole___init__.binds (ps := ["self", "day", "rows", "check"]) (ds := [Value.none]) y_Whole___init__ rfl fun _ _ _ _ _ _ us hl => match us, hl with | [_, _, _], _ => ⟨_, rfl, rfl⟩
  have F_Whole_start := fun_mk (st := s_Whole_start) l_Whole_start c_Whole_start k_Whole_start
  have b_Whole_start := F_Whole_start.binds (ps := ["self"]) fun _ _ _ _ _ _ us hl => match us, hl with | [_], _ => rfl
  have F_Whole_kind := fun_mk (st := s_Whole_kind) l_Whole_kind c_Whole_kind k_Whole_kind
  have b_Whole_kind := F_Whole_kind.binds (ps := ["self"]) fun _ _ _ _ _ _ us hl => match us, hl with | [_], _ => rfl
  have F_Whole_laid := fun_mk (st := s_Whole_laid) l_Whole_laid c_Whole_laid k_Whole_laid
  have b_Whole_laid := F_Whole_laid.binds (ps := ["self", "table"]) fun _ _ _ _ _ _ us hl => match us, hl with | [_, _], _ => rfl
  have F_Gain___init__ := fund_mk (st := s_Gain___init__) l_Gain___init__ c_Gain___init__ k_Gain___init__
  have b_Gain___init__ := F_Gain___init__.binds (ps := ["self", "base", "day", "rows", "check"]) (ds := []) y_Gain___init__ rfl fun _ _ _ _ _ _ us hl => match us, hl with | [_, _, _, _, _], _ => ⟨_, rfl, rfl⟩
  have b_Gain___init___d1 := F_Gain___init__.binds (ps := ["self", "base", "day", "rows", "check"]) (ds := [Value.none]) y_Gain___init__ rfl fun _ _ _ _ _ _ us hl => match us, hl with | [_, _, _, _], _ => ⟨_, rfl, rfl⟩
  have F_Gain_start := fun_mk (st := s_Gain_start) l_Gain_start c_Gain_start k_Gain_start
  have b_Gain_start := F_Gain_start.binds (ps := ["self"]) fun _ _ _ _ _ _ us hl => match us, hl with | [_], _ => rfl
  have F_Gain_kind := fun_mk (st := s_Gain_kind) l_Gain_kind c_Gain_kind k_Gain_kind
  have b_Gain_kind := F_Gain_kind.binds (ps := ["self"]) fun _ _ _ _ _ _ us hl => match us, hl with | [_], _ => rfl
  have F_Gain_laid := fun_mk (st := s_Gain_laid) l_Gain_laid c_Gain_laid k_Gain_laid
  have b_Gain_laid := F_Gain_laid.binds (ps := ["self", "table"]) fun _ _ _ _ _ _ us hl => match us, hl with | [_, _], _ => rfl
  have F_merged := fun_mk (st := s_merged) l_merged c_merged k_merged
  have b_merged := F_merged.binds (ps := ["first", "second"]) fun _ _ _ _ _ _ us hl => match us, hl with | [_, _], _ => rfl
  have F__law_cell := fun_mk (st := s__law_cell) l__law_cell c__law_cell k__law_cell
  have b__law_cell := F__law_cell.binds (ps := ["_law_script", "_law_k"]) fun _ _ _ _ _ _ us hl => match us, hl with | [_, _], _ => rfl
  have F__law_whole := fun_mk (st := s__law_whole) l__law_whole c__law_whole k__law_whole
  have b__law_whole := F__law_whole.binds (ps := ["_law_found"]) fun _ _ _ _ _ _ us hl => match us, hl with | [_], _ => rfl
  have F__law_stir := fun_mk (st := s__law_stir) l__law_stir c__law_stir k__law_stir
  have b__law_stir := F__law_stir.binds (ps := ["_law_cell_here", "_law_k"]) fun _ _ _ _ _ _ us hl => match us, hl with | [_, _], _ => rfl
  have F__law_block := fun_mk (st := s__law_block) l__law_block c__law_block k__law_block
  have b__law_block := F__law_block.binds (ps := ["_law_cell_here", "_law_k"]) fun _ _ _ _ _ _ us hl => match us, hl with | [_, _], _ => rfl
  have F__law_check := fun_mk (st := s__law_check) l__law_check c__law_check k__law_check
  have b__law_check := F__law_check.binds (ps := ["_law_start", "_law_day", "_law_rows_here"]) fun _ _ _ _ _ _ us hl => match us, hl with | [_, _, _], _ => rfl
  have F__law_same_rows := fun_mk (st := s__law_same_rows) l__law_same_rows c__law_same_rows k__law_same_rows
  have b__law_same_rows := F__law_same_rows.binds (ps := ["_law_found", "_law_rows_here"]) fun _ _ _ _ _ _ us hl => match us, hl with | [_, _], _ => rfl
  have F__law_rows := fun_mk (st := s__law_rows) l__law_rows c__law_rows k__law_rows
  have b__law_rows := F__law_rows.binds (ps := ["_law_script", "_law_begin", "_law_wide", "_law_whole_here"]) fun _ _ _ _ _ _ us hl => match us, hl with | [_, _, _, _], _ => rfl
  have F__law_laid := fun_mk (st := s__law_laid) l__law_laid c__law_laid k__law_laid
  have b__law_laid := F__law_laid.binds (ps := ["_law_table", "_law_rows_here"]) fun _ _ _ _ _ _ us hl => match us, hl with | [_, _], _ => rfl
  have F__law_is_it := fun_mk (st := s__law_is_it) l__law_is_it c__law_is_it k__law_is_it
  have b__law_is_it := F__law_is_it.binds (ps := ["_law_piece", "_law_whole_here", "_law_day", "_law_rows_here"]) fun _ _ _ _ _ _ us hl => match us, hl with | [_, _, _, _], _ => rfl
  have F_law := fun_mk (st := s_law) l_law c_law k_law
  have b_law := F_law.binds (ps := ["_law_script"]) fun _ _ _ _ _ _ us hl => match us, hl with | [_], _ => rfl
  refine ⟨PySem.W.fnOf "law" "law" (defArgs s_law) (defBody s_law) (defScope s_law) .none kV_law dc_law pm_law an_law cd_law ct_law, fun s v => .of_eq rfl, fun base _ _ => ?_⟩
  have D_BadPiece : ExcX l.prog w K mg base "BadPiece" C_BadPiece 1 ["self", "day"] (sp_x1 C_BadPiece "day") := ⟨_, _, PySem.W.mg_of X G a_BadPiece, ⟨T.x_BadPiece, a_BadPiece___init__, i_BadPiece___init__, kc_BadPiece⟩, ok_BadPiece___init__ F_BadPiece___init__ T , b_BadPiece___init__⟩
  have D_NoMerge : ExcX l.prog w K mg base "NoMerge" C_NoMerge 1 ["self", "day", "base"] (sp_x2 C_NoMerge "day" "base") := ⟨_, _, PySem.W.mg_of X G a_NoMerge, ⟨T.x_NoMerge, a_NoMerge___init__, i_NoMerge___init__, kc_NoMerge⟩, ok_NoMerge___init__ F_NoMerge___init__ T , b_NoMerge___init__⟩
  have D_turned : DefX l.prog w K mg base "turned" 1 ["number"] sp_turned := ⟨_, _, PySem.W.mg_of X G a_turned, ok_turned F_turned T , k_turned, b_turned⟩
  have D_check_of : DefX l.prog w K mg base "check_of" 2 ["start", "day", "rows"] sp_checkF := ⟨_, _, PySem.W.mg_of X G a_check_of, ok_check_of F_check_of T D_turned, k_check_of, b_check_of⟩
  have D_Piece___init__ : ClsX l.prog w K mg base "Piece" C_Piece "__init__" 3 ["self", "start", "day", "rows", "check"] (sp_pinitF K) := ⟨_, _, PySem.W.mg_of X G a_Piece, ⟨ga_Piece, rd_Piece, fc_Piece___init__, k_Piece___init__⟩, ok_Piece___init__ F_Piece___init__ T D_check_of, b_Piece___init__⟩
  have D_Whole_is_good : MethX l.prog w K mg base C_Whole "is_good" 3 ["self"] (sp_goodF C_Whole C_Gain) := ⟨_, _, ⟨h_Whole_is_good, i_Piece_is_good, k_Piece_is_good⟩, ok_Piece_is_good F_Piece_is_good T , b_Piece_is_good⟩
  have D_Gain_is_good : MethX l.prog w K mg base C_Gain "is_good" 3 ["self"] (sp_goodF C_Whole C_Gain) := ⟨_, _, ⟨h_Gain_is_good, i_Piece_is_good, k_Piece_is_good⟩, ok_Piece_is_good F_Piece_is_good T , b_Piece_is_good⟩
  have D_Whole : MakeX l.prog w K mg base "Whole" C_Whole 4 ["self", "day", "rows", "check"] (sp_winitF C_Whole C_Gain) := ⟨_, _, PySem.W.mg_of X G a_Whole, ⟨mk_Whole, a_Whole___init__, i_Whole___init__, kc_Whole⟩, ok_Whole___init__ F_Whole___init__ T D_Piece___init__, b_Whole___init__⟩
  have D_Whole_d1 : MakeXd l.prog w K mg base "Whole" C_Whole 4 ["self", "day", "rows", "check"] [Value.none] (sp_winitF C_Whole C_Gain) := ⟨_, _, PySem.W.mg_of X G a_Whole, ⟨mk_Whole, a_Whole___init__, i_Whole___init__, kc_Whole⟩, ok_Whole___init__ F_Whole___init__ T D_Piece___init__, b_Whole___init___d1⟩
  have D_Whole_start : MethX l.prog w K mg base C_Whole "start" 1 ["self"] sp_wstart := ⟨_, _, ⟨a_Whole_start, i_Whole_start, k_Whole_start⟩, ok_Whole_start F_Whole_start T , b_Whole_start⟩
  have D_Whole_kind : MethX l.prog w K mg base C_Whole "kind" 1 ["self"] sp_wkind := ⟨_, _, ⟨a_Whole_kind, i_Whole_kind, k_Whole_kind⟩, ok_Whole_kind F_Whole_kind T , b_Whole_kind⟩
  have D_Whole_laid : MethX l.prog w K mg base C_Whole "laid" 1 ["self", "table"] (sp_wlaid C_Whole C_Gain) := ⟨_, _, ⟨a_Whole_laid, i_Whole_laid, k_Whole_laid⟩, ok_Whole_laid F_Whole_laid T , b_Whole_laid⟩
  have D_Gain : MakeX l.prog w K mg base "Gain" C_Gain 4 ["self", "base", "day", "rows", "check"] (sp_ginitF C_Whole C_Gain) := ⟨_, _, PySem.W.mg_of X G a_Gain, ⟨mk_Gain, a_Gain___init__, i_Gain___init__, kc_Gain⟩, ok_Gain___init__ F_Gain___init__ T D_Piece___init__, b_Gain___init__⟩
  have D_Gain_d1 : MakeXd l.prog w K mg base "Gain" C_Gain 4 ["self", "base", "day", "rows", "check"] [Value.none] (sp_ginitF C_Whole C_Gain) := ⟨_, _, PySem.W.mg_of X G a_Gain, ⟨mk_Gain, a_Gain___init__, i_Gain___init__, kc_Gain⟩, ok_Gain___init__ F_Gain___init__ T D_Piece___init__, b_Gain___init___d1⟩
  have D_Gain_start : MethX l.prog w K mg base C_Gain "start" 1 ["self"] (sp_gstartF C_Whole C_Gain) := ⟨_, _, ⟨a_Gain_start, i_Gain_start, k_Gain_start⟩, ok_Gain_start F_Gain_start T , b_Gain_start⟩
  have D_Gain_kind : MethX l.prog w K mg base C_Gain "kind" 1 ["self"] sp_gkind := ⟨_, _, ⟨a_Gain_kind, i_Gain_kind, k_Gain_kind⟩, ok_Gain_kind F_Gain_kind T , b_Gain_kind⟩
  have D_Gain_laid : MethX l.prog w K mg base C_Gain "laid" 1 ["self", "table"] (sp_glaid C_Whole C_Gain) := ⟨_, _, ⟨a_Gain_laid, i_Gain_laid, k_Gain_laid⟩, ok_Gain_laid F_Gain_laid T , b_Gain_laid⟩
  have D_merged : DefX l.prog w K mg base "merged" 6 ["first", "second"] (sp_merged C_Whole C_Gain C_NoMerge C_BadPiece) := ⟨_, _, PySem.W.mg_of X G a_merged, ok_merged F_merged T D_Gain_start D_Whole_start D_NoMerge D_Gain_is_good D_Whole_is_good D_BadPiece D_Gain_kind D_Whole_kind D_Whole_d1 D_Gain_d1, k_merged, b_merged⟩
  have D__law_cell : DefX l.prog w K mg base "_law_cell" 1 ["_law_script", "_law_k"] (sp_cell K) := ⟨_, _, PySem.W.mg_of X G a__law_cell, ok__law_cell F__law_cell T , k__law_cell, b__law_cell⟩
  have D__law_whole : DefX l.prog w K mg base "_law_whole" 1 ["_law_found"] sp_whole := ⟨_, _, PySem.W.mg_of X G a__law_whole, ok__law_whole F__law_whole T , k__law_whole, b__law_whole⟩
  have D__law_stir : DefX l.prog w K mg base "_law_stir" 1 ["_law_cell_here", "_law_k"] sp_stir := ⟨_, _, PySem.W.mg_of X G a__law_stir, ok__law_stir F__law_stir T , k__law_stir, b__law_stir⟩
  have D__law_block : DefX l.prog w K mg base "_law_block" 2 ["_law_cell_here", "_law_k"] sp_block := ⟨_, _, PySem.W.mg_of X G a__law_block, ok__law_block F__law_block T D__law_stir, k__law_block, b__law_block⟩
  have D__law_check : DefX l.prog w K mg base "_law_check" 1 ["_law_start", "_law_day", "_law_rows_here"] sp_lawcheck := ⟨_, _, PySem.W.mg_of X G a__law_check, ok__law_check F__law_check T , k__law_check, b__law_check⟩
  have D__law_same_rows : DefX l.prog w K mg base "_law_same_rows" 2 ["_law_found", "_law_rows_here"] sp_srows := ⟨_, _, PySem.W.mg_of X G a__law_same_rows, ok__law_same_rows F__law_same_rows T D__law_whole, k__law_same_rows, b__law_same_rows⟩
  have D__law_rows : DefX l.prog w K mg base "_law_rows" 3 ["_law_script", "_law_begin", "_law_wide", "_law_whole_here"] (sp_lrows K) := ⟨_, _, PySem.W.mg_of X G a__law_rows, ok__law_rows F__law_rows T D__law_cell D__law_stir D__law_block, k__law_rows, b__law_rows⟩
  have D__law_laid : DefX l.prog w K mg base "_law_laid" 1 ["_law_table", "_law_rows_here"] sp_llaid := ⟨_, _, PySem.W.mg_of X G a__law_laid, ok__law_laid F__law_laid T , k__law_laid, b__law_laid⟩
  have D__law_is_it : DefX l.prog w K mg base "_law_is_it" 4 ["_law_piece", "_law_whole_here", "_law_day", "_law_rows_here"] (sp_isit C_Whole C_Gain) := ⟨_, _, PySem.W.mg_of X G a__law_is_it, ok__law_is_it F__law_is_it T D__law_whole D__law_same_rows D__law_check D_Gain_is_good D_Whole_is_good, k__law_is_it, b__law_is_it⟩
  exact ok_law F_law T D__law_cell D__law_rows D_Gain_d1 D_Whole_d1 D_merged D__law_is_it D__law_block D_Gain_laid D_Whole_laid D__law_laid D__law_same_rows
theorem walk {l : PySem.W.OpenLaw} {q : Program} {loose : List Str} {XP : (Str → Option Value) → Heap → Prop} {YP : World → Heap → Prop} {d : DefRec} {K : Params → PySem.W.Frag} (hn : l.most = some 63) (hdf : d.params.defaults = [])
    (hY : ∀ (w : World) (h : Heap), YP w h → (K w.params).In h)
    (F : ∀ (w : World) (mg : Str → Option Value) (fa : Addr) (h : Heap), (K w.params).In h → h.Ns mainGlobals mg → mg d.name = some (.ref fa) →
      ∃ fd : FuncData, (∀ (s : Shared) (u : Value), BindsTo s fd ⟨[u], []⟩ [("_law_script", u)]) ∧ ∀ base : Heap, (K w.params).In base → base.Ns mainGlobals mg → FnOk l.prog w (K w.params) mg base (CXx l.prog w) 7 fa fd ["_law_script"] (sp_law (K w.params))) :
    PySem.W.WalkO q loose XP YP l.row.toRowW d [] (fun f vs => PySem.call f vs) :=
  L2.walk_of (n := 63) (k := 7) (x := "_law_script") (CX := fun w => CXx l.prog w) (sp := fun w => sp_law (K w.params)) hn (by decide) hdf ⟨rfl, by decide, by decide⟩ hY F (fun _ _ a ns hl _ hS => ⟨a, ns, rfl, hS, hl, fun _ => rfl⟩) fun _ _ _ _ _ z => L2.cxx_no z
end Mine
open PySem PySem.W PyProof.Rows
set_option maxRecDepth 100000 in
set_option maxHeartbeats 0 in
theorem PySem.Challenge.cw_keepsakes_k51_two_made_one_holds : PySem.Challenge.rw_keepsakes_k51_two_made_one.Holds := by
  w_on; o_law; k_head; (case hw => w_witness2)
  k_fill
  refine Mine.walk (l := PySem.Challenge.rw_keepsakes_k51_two_made_one) rfl rfl (fun w h Y => PySem.W.kIn_of Y) ?F
  case F =>
    intro w mg fa h KX G hmg
    refine' Mine.all_mk KX G hmg ?g_W ?a_KeepError ?a_BadPiece ?a_NoMerge ?a_Piece ?a_Whole ?a_Gain ?clg ?clt ?xo_KeepError ?xs_KeepError ?xg_KeepError ?xh_KeepError ?xc_KeepError ?kc_KeepError ?xo_BadPiece ?xs_BadPiece ?xg_BadPiece ?xh_BadPiece ?xc_BadPiece ?kc_BadPiece ?n_BadPiece_day ?xo_NoMerge ?xs_NoMerge ?xg_NoMerge ?xh_NoMerge ?xc_NoMerge ?kc_NoMerge ?n_NoMerge_day ?n_NoMerge_base ?pg_Whole ?hd_Whole ?po_Whole ?sa_Whole ?mk_Whole ?kc_Whole ?n_Whole_day ?n_Whole_rows ?n_Whole_check ?n_Whole_fits ?pg_Gain ?hd_Gain ?po_Gain ?sa_Gain ?mk_Gain ?kc_Gain ?n_Gain_day ?n_Gain_rows ?n_Gain_check ?n_Gain_fits ?n_Gain_base ?a_BadPiece___init__ ?i_BadPiece___init__ ?l_BadPiece___init__ ?c_BadPiece___init__ ?k_BadPiece___init__ ?a_NoMerge___init__ ?i_NoMerge___init__ ?l_NoMerge___init__ ?c_NoMerge___init__ ?k_NoMerge___init__ ?a_turned ?l_turned ?c_turned ?k_turned ?a_check_of ?l_check_of ?c_check_of ?k_check_of ?a_Piece___init__ ?i_Piece___init__ ?l_Piece___init__ ?c_Piece___init__ ?k_Piece___init__ ?a_Piece_is_good ?i_Piece_is_good ?l_Piece_is_good ?c_Piece_is_good ?k_Piece_is_good ?a_Whole___init__ ?i_Whole___init__ ?l_Whole___init__ ?c_Whole___init__ ?k_Whole___init__ ?y_Whole___init__ ?a_Whole_start ?i_Whole_start ?l_Whole_start ?c_Whole_start ?k_Whole_start ?a_Whole_kind ?i_Whole_kind ?l_Whole_kind ?c_Whole_kind ?k_Whole_kind ?a_Whole_laid ?i_Whole_laid ?l_Whole_laid ?c_Whole_laid ?k_Whole_laid ?a_Gain___init__ ?i_Gain___init__ ?l_Gain___init__ ?c_Gain___init__ ?k_Gain___init__ ?y_Gain___init__ ?a_Gain_start ?i_Gain_start ?l_Gain_start ?c_Gain_start ?k_Gain_start ?a_Gain_kind ?i_Gain_kind ?l_Gain_kind ?c_Gain_kind ?k_Gain_kind ?a_Gain_laid ?i_Gain_laid ?l_Gain_laid ?c_Gain_laid ?k_Gain_laid ?a_merged ?l_merged ?c_merged ?k_merged ?a__law_cell ?l__law_cell ?c__law_cell ?k__law_cell ?a__law_whole ?l__law_whole ?c__law_whole ?k__law_whole ?a__law_stir ?l__law_stir ?c__law_stir ?k__law_stir ?a__law_block ?l__law_block ?c__law_block ?k__law_block ?a__law_check ?l__law_check ?c__law_check ?k__law_check ?a__law_same_rows ?l__law_same_rows ?c__law_same_rows ?k__law_same_rows ?a__law_rows ?l__law_rows ?c__law_rows ?k__law_rows ?a__law_laid ?l__law_laid ?c__law_laid ?k__law_laid ?a__law_is_it ?l__law_is_it ?c__law_is_it ?k__law_is_it ?a_law ?l_law ?c_law ?k_law ?h_Whole_is_good ?h_Gain_is_good ?ga_Piece ?rd_Piece ?fc_Piece___init__ ?z_len ?z_isinstance ?z_int ?z_bool ?z_list ?z_tuple ?z_range ?z_dict ?z_sorted ?z_zip ?clgX ?cltX ?ic_Whole ?io_Whole ?k_Whole_Whole ?k_Whole_Gain ?ic_Gain ?io_Gain ?k_Gain_Whole ?k_Gain_Gain
    (case g_W => first | k_is | kit_is | kernel_rfl)
    (case a_KeepError => first | k_is | kit_is | kernel_rfl)
    (case a_BadPiece => first | k_is | kit_is | kernel_rfl)
    (case a_NoMerge => first | k_is | kit_is | kernel_rfl)
    (case a_Piece => first | k_is | kit_is | kernel_rfl)
    (case a_Whole => first | k_is | kit_is | kernel_rfl)
    (case a_Gain => first | k_is | kit_is | kernel_rfl)
    (case clg => first | k_is | kit_is | kernel_rfl)
    (case clt => first | k_is | kit_is | kernel_rfl)
    (case xo_KeepError => first | k_is | kit_is | kernel_rfl)
    (case xs_KeepError => first | k_is | kit_is | kernel_rfl)
    (case xg_KeepError => first | k_is | kit_is | kernel_rfl)
    (case xh_KeepError => first | k_is | kit_is | kernel_rfl)
    (case xc_KeepError => first | k_is | kit_is | kernel_rfl)
    (case kc_KeepError => first | k_is | kit_is | kernel_rfl)
    (case xo_BadPiece => first | k_is | kit_is | kernel_rfl)
    (case xs_BadPiece => first | k_is | kit_is | kernel_rfl)
    (case xg_BadPiece => first | k_is | kit_is | kernel_rfl)
    (case xh_BadPiece => first | k_is | kit_is | kernel_rfl)
    (case xc_BadPiece => first | k_is | kit_is | kernel_rfl)
    (case kc_BadPiece => first | k_is | kit_is | kernel_rfl)
    (case n_BadPiece_day => first | k_is | kit_is | kernel_rfl)
    (case xo_NoMerge => first | k_is | kit_is | kernel_rfl)
    (case xs_NoMerge => first | k_is | kit_is | kernel_rfl)
    (case xg_NoMerge => first | k_is | kit_is | kernel_rfl)
    (case xh_NoMerge => first | k_is | kit_is | kernel_rfl)
    (case xc_NoMerge => first | k_is | kit_is | kernel_rfl)
    (case kc_NoMerge => first | k_is | kit_is | kernel_rfl)
    (case n_NoMerge_day => first | k_is | kit_is | kernel_rfl)
    (case n_NoMerge_base => first | k_is | kit_is | kernel_rfl)
    (case pg_Whole => first | k_is | kit_is | kernel_rfl)
    (case hd_Whole => first | k_is | kit_is | kernel_rfl)
    (case po_Whole => first | k_is | kit_is | kernel_rfl)
    (case sa_Whole => first | k_is | kit_is | kernel_rfl)
    (case mk_Whole => first | k_is | kit_is | kernel_rfl)
    (case kc_Whole => first | k_is | kit_is | kernel_rfl)
    (case n_Whole_day => first | k_is | kit_is | kernel_rfl)
    (case n_Whole_rows => first | k_is | kit_is | kernel_rfl)
    (case n_Whole_check => first | k_is | kit_is | kernel_rfl)
    (case n_Whole_fits => first | k_is | kit_is | kernel_rfl)
    (case pg_Gain => first | k_is | kit_is | kernel_rfl)
    (case hd_Gain => first | k_is | kit_is | kernel_rfl)
    (case po_Gain => first | k_is | kit_is | kernel_rfl)
    (case sa_Gain => first | k_is | kit_is | kernel_rfl)
    (case mk_Gain => first | k_is | kit_is | kernel_rfl)
    (case kc_Gain => first | k_is | kit_is | kernel_rfl)
    (case n_Gain_day => first | k_is | kit_is | kernel_rfl)
    (case n_Gain_rows => first | k_is | kit_is | kernel_rfl)
    (case n_Gain_check => first | k_is | kit_is | kernel_rfl)
    (case n_Gain_fits => first | k_is | kit_is | kernel_rfl)
    (case n_Gain_base => first | k_is | kit_is | kernel_rfl)
    (case a_BadPiece___init__ => first | k_is | kit_is | kernel_rfl)
    (case i_BadPiece___init__ => first | k_is | kit_is | kernel_rfl)
    (case l_BadPiece___init__ => first | k_is | kit_is | kernel_rfl)
    (case c_BadPiece___init__ => first | k_is | kit_is | kernel_rfl)
    (case k_BadPiece___init__ => first | k_is | kit_is | kernel_rfl)
    (case a_NoMerge___init__ => first | k_is | kit_is | kernel_rfl)
    (case i_NoMerge___init__ => first | k_is | kit_is | kernel_rfl)
    (case l_NoMerge___init__ => first | k_is | kit_is | kernel_rfl)
    (case c_NoMerge___init__ => first | k_is | kit_is | kernel_rfl)
    (case k_NoMerge___init__ => first | k_is | kit_is | kernel_rfl)
    (case a_turned => first | k_is | kit_is | kernel_rfl)
    (case l_turned => first | k_is | kit_is | kernel_rfl)
    (case c_turned => first | k_is | kit_is | kernel_rfl)
    (case k_turned => first | k_is | kit_is | kernel_rfl)
    (case a_check_of => first | k_is | kit_is | kernel_rfl)
    (case l_check_of => first | k_is | kit_is | kernel_rfl)
    (case c_check_of => first | k_is | kit_is | kernel_rfl)
    (case k_check_of => first | k_is | kit_is | kernel_rfl)
    (case a_Piece___init__ => first | k_is | kit_is | kernel_rfl)
    (case i_Piece___init__ => first | k_is | kit_is | kernel_rfl)
    (case l_Piece___init__ => first | k_is | kit_is | kernel_rfl)
    (case c_Piece___init__ => first | k_is | kit_is | kernel_rfl)
    (case k_Piece___init__ => first | k_is | kit_is | kernel_rfl)
    (case a_Piece_is_good => first | k_is | kit_is | kernel_rfl)
    (case i_Piece_is_good => first | k_is | kit_is | kernel_rfl)
    (case l_Piece_is_good => first | k_is | kit_is | kernel_rfl)
    (case c_Piece_is_good => first | k_is | kit_is | kernel_rfl)
    (case k_Piece_is_good => first | k_is | kit_is | kernel_rfl)
    (case a_Whole___init__ => first | k_is | kit_is | kernel_rfl)
    (case i_Whole___init__ => first | k_is | kit_is | kernel_rfl)
    (case l_Whole___init__ => first | k_is | kit_is | kernel_rfl)
    (case c_Whole___init__ => first | k_is | kit_is | kernel_rfl)
    (case k_Whole___init__ => first | k_is | kit_is | kernel_rfl)
    (case y_Whole___init__ => first | k_is | kit_is | kernel_rfl)
    (case a_Whole_start => first | k_is | kit_is | kernel_rfl)
    (case i_Whole_start => first | k_is | kit_is | kernel_rfl)
    (case l_Whole_start => first | k_is | kit_is | kernel_rfl)
    (case c_Whole_start => first | k_is | kit_is | kernel_rfl)
    (case k_Whole_start => first | k_is | kit_is | kernel_rfl)
    (case a_Whole_kind => first | k_is | kit_is | kernel_rfl)
    (case i_Whole_kind => first | k_is | kit_is | kernel_rfl)
    (case l_Whole_kind => first | k_is | kit_is | kernel_rfl)
    (case c_Whole_kind => first | k_is | kit_is | kernel_rfl)
    (case k_Whole_kind => first | k_is | kit_is | kernel_rfl)
    (case a_Whole_laid => first | k_is | kit_is | kernel_rfl)
    (case i_Whole_laid => first | k_is | kit_is | kernel_rfl)
    (case l_Whole_laid => first | k_is | kit_is | kernel_rfl)
    (case c_Whole_laid => first | k_is | kit_is | kernel_rfl)
    (case k_Whole_laid => first | k_is | kit_is | kernel_rfl)
    (case a_Gain___init__ => first | k_is | kit_is | kernel_rfl)
    (case i_Gain___init__ => first | k_is | kit_is | kernel_rfl)
    (case l_Gain___init__ => first | k_is | kit_is | kernel_rfl)
    (case c_Gain___init__ => first | k_is | kit_is | kernel_rfl)
    (case k_Gain___init__ => first | k_is | kit_is | kernel_rfl)
    (case y_Gain___init__ => first | k_is | kit_is | kernel_rfl)
    (case a_Gain_start => first | k_is | kit_is | kernel_rfl)
    (case i_Gain_start => first | k_is | kit_is | kernel_rfl)
    (case l_Gain_start => first | k_is | kit_is | kernel_rfl)
    (case c_Gain_start => first | k_is | kit_is | kernel_rfl)
    (case k_Gain_start => first | k_is | kit_is | kernel_rfl)
    (case a_Gain_kind => first | k_is | kit_is | kernel_rfl)
    (case i_Gain_kind => first | k_is | kit_is | kernel_rfl)
    (case l_Gain_kind => first | k_is | kit_is | kernel_rfl)
    (case c_Gain_kind => first | k_is | kit_is | kernel_rfl)
    (case k_Gain_kind => first | k_is | kit_is | kernel_rfl)
    (case a_Gain_laid => first | k_is | kit_is | kernel_rfl)
    (case i_Gain_laid => first | k_is | kit_is | kernel_rfl)
    (case l_Gain_laid => first | k_is | kit_is | kernel_rfl)
    (case c_Gain_laid => first | k_is | kit_is | kernel_rfl)
    (case k_Gain_laid => first | k_is | kit_is | kernel_rfl)
    (case a_merged => first | k_is | kit_is | kernel_rfl)
    (case l_merged => first | k_is | kit_is | kernel_rfl)
    (case c_merged => first | k_is | kit_is | kernel_rfl)
    (case k_merged => first | k_is | kit_is | kernel_rfl)
    (case a__law_cell => first | k_is | kit_is | kernel_rfl)
    (case l__law_cell => first | k_is | kit_is | kernel_rfl)
    (case c__law_cell => first | k_is | kit_is | kernel_rfl)
    (case k__law_cell => first | k_is | kit_is | kernel_rfl)
    (case a__law_whole => first | k_is | kit_is | kernel_rfl)
    (case l__law_whole => first | k_is | kit_is | kernel_rfl)
    (case c__law_whole => first | k_is | kit_is | kernel_rfl)
    (case k__law_whole => first | k_is | kit_is | kernel_rfl)
    (case a__law_stir => first | k_is | kit_is | kernel_rfl)
    (case l__law_stir => first | k_is | kit_is | kernel_rfl)
    (case c__law_stir => first | k_is | kit_is | kernel_rfl)
    (case k__law_stir => first | k_is | kit_is | kernel_rfl)
    (case a__law_block => first | k_is | kit_is | kernel_rfl)
    (case l__law_block => first | k_is | kit_is | kernel_rfl)
    (case c__law_block => first | k_is | kit_is | kernel_rfl)
    (case k__law_block => first | k_is | kit_is | kernel_rfl)
    (case a__law_check => first | k_is | kit_is | kernel_rfl)
    (case l__law_check => first | k_is | kit_is | kernel_rfl)
    (case c__law_check => first | k_is | kit_is | kernel_rfl)
    (case k__law_check => first | k_is | kit_is | kernel_rfl)
    (case a__law_same_rows => first | k_is | kit_is | kernel_rfl)
    (case l__law_same_rows => first | k_is | kit_is | kernel_rfl)
    (case c__law_same_rows => first | k_is | kit_is | kernel_rfl)
    (case k__law_same_rows => first | k_is | kit_is | kernel_rfl)
    (case a__law_rows => first | k_is | kit_is | kernel_rfl)
    (case l__law_rows => first | k_is | kit_is | kernel_rfl)
    (case c__law_rows => first | k_is | kit_is | kernel_rfl)
    (case k__law_rows => first | k_is | kit_is | kernel_rfl)
    (case a__law_laid => first | k_is | kit_is | kernel_rfl)
    (case l__law_laid => first | k_is | kit_is | kernel_rfl)
    (case c__law_laid => first | k_is | kit_is | kernel_rfl)
    (case k__law_laid => first | k_is | kit_is | kernel_rfl)
    (case a__law_is_it => first | k_is | kit_is | kernel_rfl)
    (case l__law_is_it => first | k_is | kit_is | kernel_rfl)
    (case c__law_is_it => first | k_is | kit_is | kernel_rfl)
    (case k__law_is_it => first | k_is | kit_is | kernel_rfl)
    (case a_law => first | k_is | kit_is | kernel_rfl)
    (case l_law => first | k_is | kit_is | kernel_rfl)
    (case c_law => first | k_is | kit_is | kernel_rfl)
    (case k_law => first | k_is | kit_is | kernel_rfl)
    (case h_Whole_is_good => first | k_is | kit_is | kernel_rfl)
    (case h_Gain_is_good => first | k_is | kit_is | kernel_rfl)
    (case ga_Piece => first | k_is | kit_is | kernel_rfl)
    (case rd_Piece => first | k_is | kit_is | kernel_rfl)
    (case fc_Piece___init__ => first | k_is | kit_is | kernel_rfl)
    (case z_len => first | k_is | kit_is | kernel_rfl)
    (case z_isinstance => first | k_is | kit_is | kernel_rfl)
    (case z_int => first | k_is | kit_is | kernel_rfl)
    (case z_bool => first | k_is | kit_is | kernel_rfl)
    (case z_list => first | k_is | kit_is | kernel_rfl)
    (case z_tuple => first | k_is | kit_is | kernel_rfl)
    (case z_range => first | k_is | kit_is | kernel_rfl)
    (case z_dict => first | k_is | kit_is | kernel_rfl)
    (case z_sorted => first | k_is | kit_is | kernel_rfl)
    (case z_zip => first | k_is | kit_is | kernel_rfl)
    (case clgX => first | k_is | kit_is | kernel_rfl)
    (case cltX => first | k_is | kit_is | kernel_rfl)
    (case ic_Whole => first | k_is | kit_is | kernel_rfl)
    (case io_Whole => first | k_is | kit_is | kernel_rfl)
    (case k_Whole_Whole => first | k_is | kit_is | kernel_rfl)
    (case k_Whole_Gain => first | k_is | kit_is | kernel_rfl)
    (case ic_Gain => first | k_is | kit_is | kernel_rfl)
    (case io_Gain => first | k_is | kit_is | kernel_rfl)
    (case k_Gain_Whole => first | k_is | kit_is | kernel_rfl)
    (case k_Gain_Gain => first | k_is | kit_is | kernel_rfl)
