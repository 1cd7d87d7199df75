import PyProof.Rows.All
import Wide.All
import OpenK.AllK
import Wide.FinOn
import Lean
import PyProof.EqAt
import PyProof.EqKinds
import PyProof.TupleCall
import PyProof.Rows.SetFrom
import PyProof.FactsAll.set_1
import PyProof.FactsAll.set_2
import KE.KDictSum
import PySem.Challenge.RW_keepsakes_k06_written_places
set_option Elab.async false
set_option linter.all false
set_option maxRecDepth 100000
/-! THE HAND LAYER, for ints, bools, texts, own classes, LISTS and tuples (index, slices, in, append, pop ..), calls, loops. Paste it whole ahead of your own text; what your proof does not reach may be deleted. -/
namespace L2
open PySem PySem.Spec PyProof.Rows

/-- a key: an int or a str -/
abbrev Key := Sum Int Str
def keyIs : Key → Value → Bool
  | .inl k, v => Value.isInt k v
  | .inr x, v => Value.isStrOf x v
def keyH (w : World) : Key → Int
  | .inl k => hashInt k
  | .inr x => hashStr w x
theorem keyIs_shape : ∀ {k : Key} {v : Value}, keyIs k v = true → (∃ i t, k = Sum.inl i ∧ v = Value.int i t) ∨ (∃ x t, k = Sum.inr x ∧ v = Value.str x t)
  | .inl i, v, h => by
    obtain ⟨t, e⟩ := Value.isInt_shape (k := i) (v := v) h
    exact .inl ⟨i, t, rfl, e⟩
  | .inr x, v, h => by
    obtain ⟨t, e⟩ := Value.isStrOf_shape (x := x) (v := v) h
    exact .inr ⟨x, t, rfl, e⟩
theorem key_ll (a b : Int) : decide ((Sum.inl a : Key) = Sum.inl b) = (a == b) := by
  by_cases e : a = b
  · subst e; simp
  · have h : ¬ (Sum.inl a : Key) = Sum.inl b := fun q => e (Sum.inl.inj q)
    rw [decide_eq_false h]
    exact (beq_eq_false_iff_ne.mpr e).symm
theorem key_rr (a b : Str) : decide ((Sum.inr a : Key) = Sum.inr b) = decide (a = b) := by
  by_cases e : a = b
  · subst e; simp
  · have h : ¬ (Sum.inr a : Key) = Sum.inr b := fun q => e (Sum.inr.inj q)
    rw [decide_eq_false h, decide_eq_false e]
theorem key_lr (a : Int) (b : Str) : decide ((Sum.inl a : Key) = Sum.inr b) = false := decide_eq_false (fun q => nomatch q)
theorem key_rl (a : Str) (b : Int) : decide ((Sum.inr a : Key) = Sum.inl b) = false := decide_eq_false (fun q => nomatch q)

def mixKind (prog : Program) (w : World) : PySem.KeyKind prog w Key where
  is := keyIs
  hash := keyH w
  inj := fun v a b ha hb => by
    rcases keyIs_shape ha with ⟨i, t, rfl, rfl⟩ | ⟨x, t, rfl, rfl⟩
    · rcases keyIs_shape hb with ⟨j, u, rfl, e⟩ | ⟨y, u, rfl, e⟩
      · injection e with e1 _; rw [e1]
      · exact nomatch e
    · rcases keyIs_shape hb with ⟨j, u, rfl, e⟩ | ⟨y, u, rfl, e⟩
      · exact nomatch e
      · injection e with e1 _; rw [e1]
  byValue := fun k v h => by
    rcases keyIs_shape h with ⟨i, t, rfl, rfl⟩ | ⟨x, t, rfl, rfl⟩ <;> rfl
  pyHash := fun hv h => by
    rcases keyIs_shape hv with ⟨i, t, rfl, rfl⟩ | ⟨x, t, rfl, rfl⟩
    · exact wpAny_pyHash_int h
    · exact wpAny_pyHash_str h
  eqBool := fun hu hv h => by
    rcases keyIs_shape hu with ⟨i, t, rfl, rfl⟩ | ⟨x, t, rfl, rfl⟩
    · rcases keyIs_shape hv with ⟨j, u, rfl, rfl⟩ | ⟨y, u, rfl, rfl⟩
      · rw [key_ll] at h; exact wpAny_eqBool_int h
      · rw [key_lr] at h; exact SeqAt.EqAt.int_str i t y u _ _ _ _ h
    · rcases keyIs_shape hv with ⟨j, u, rfl, rfl⟩ | ⟨y, u, rfl, rfl⟩
      · rw [key_rl] at h; exact SeqAt.EqAt.str_int x t j u _ _ _ _ h
      · rw [key_rr] at h; exact wpAny_eqBool_str h
  «strs» := fun k x t v h => by
    rcases keyIs_shape h with ⟨i, u, rfl, e⟩ | ⟨y, u, rfl, e⟩
    · exact nomatch e
    · injection e with e1 _
      subst e1
      cases v <;> rfl

end L2

namespace L2
open PySem PySem.Spec PyProof.Rows

/-- a value, without the heap -/
inductive V where
  | non | bl (b : Bool) | int (i : Int) | str (x : Str) | byt (b : Array UInt8) | flt (b : UInt64) | ref (a : Addr) | ty (n : String)
  deriving DecidableEq

def RelV : V → Value → Prop
  | .non, u => u = Value.none
  | .bl b, u => u = Value.bool b
  | .int i, u => ∃ t, u = Value.int i t
  | .str x, u => ∃ t, u = Value.str x t
  | .byt b, u => ∃ t, u = Value.bytes b t
  | .flt b, u => ∃ t, u = Value.float b t
  | .ref a, u => u = Value.ref a
  | .ty n, u => u = Value.type n

abbrev Vals : List V → List Value → Prop := Paired RelV
theorem Vals.length {xs : List V} {us : List Value} (r : Vals xs us) : xs.length = us.length := Paired.length r
theorem Vals.get : ∀ {xs : List V} {us : List Value} {i : Nat} {x : V}, Vals xs us → xs[i]? = some x → ∃ u, us[i]? = some u ∧ RelV x u
  | _, _, _, _, .nil, e => by simp at e
  | _, _, 0, _, .cons r _, e => by simp at e; subst e; exact ⟨_, rfl, r⟩
  | _, _, i + 1, x, .cons _ t, e => by
    obtain ⟨u, h1, h2⟩ := Vals.get (i := i) (x := x) t (by simpa using e)
    exact ⟨u, by simpa using h1, h2⟩
theorem Vals.set {x : V} {u : Value} (r : RelV x u) : ∀ {xs : List V} {us : List Value} (i : Nat), Vals xs us → Vals (xs.set i x) (us.set i u)
  | _, _, _, .nil => .nil
  | _, _, 0, .cons _ t => .cons r t
  | _, _, i + 1, .cons q t => .cons q (Vals.set r i t)
theorem Vals.append : ∀ {xs ys : List V} {us ws : List Value}, Vals xs us → Vals ys ws → Vals (xs ++ ys) (us ++ ws)
  | _, _, _, _, .nil, s => s
  | _, _, _, _, .cons r t, s => .cons r (Vals.append t s)
theorem Vals.take : ∀ {xs : List V} {us : List Value} (n : Nat), Vals xs us → Vals (xs.take n) (us.take n)
  | _, _, 0, _ => .nil
  | _, _, _ + 1, .nil => .nil
  | _, _, n + 1, .cons r t => .cons r (Vals.take n t)
theorem Vals.drop : ∀ {xs : List V} {us : List Value} (n : Nat), Vals xs us → Vals (xs.drop n) (us.drop n)
  | _, _, 0, r => r
  | _, _, _ + 1, .nil => .nil
  | _, _, n + 1, .cons _ t => Vals.drop n t
theorem Vals.none_of : ∀ {xs : List V} {us : List Value} {i : Nat}, Vals xs us → xs[i]? = none → us[i]? = none := fun {xs us i} r e => by
  have h1 := r.length
  have h2 : xs.length ≤ i := List.getElem?_eq_none_iff.mp e
  exact List.getElem?_eq_none_iff.mpr (by omega)

def RelO : Option V → Option Value → Prop
  | some v, some u => RelV v u
  | none, none => True
  | _, _ => False
def KV {κ : Type} : List (κ × V) → List (κ × Value) → Prop := Paired fun (p : κ × V) (q : κ × Value) => p.1 = q.1 ∧ RelV p.2 q.2

/-- a key of a dict (00_mix): an int or a text -/
def kV : Key → V
  | .inl i => .int i
  | .inr x => .str x

/-- what stands at a tracked address -/
inductive HO where
  /-- a list -/
  | lst (xs : List V)
  /-- a tuple (never changes) -/
  | tup (xs : List V)
  /-- a dict whose keys are ints and texts; one whose keys are tuples of ints and texts (the empty one is both) -/
  | dK (kvs : List (Key × V)) | dT (kvs : List (List Key × V))
  /-- a set of ints: its members, its size -/
  | set (S : Int → Bool) (n : Nat)
  /-- an instance of the class at C, its dict at dx, its attributes -/
  | ins (C dx : Addr) (fs : List (Str × V))
  /-- the dict of the instance at x -/
  | own (x : Addr)
  /-- the dict of an exception -/
  | xd (fs : List (Str × V))
  /-- a bound method, f of x -/
  | met (f x : Addr)
  /-- a range object lo, lo + 1, .. below hi -/
  | rng (lo hi : Int)
  /-- a thing that is known to the object (the script; a dict while a loop walks it): read, never written while it is so -/
  | frz (o : Obj) (u : HO)
  /-- a code object's table -/
  | tbl (ps : Array Value)
  /-- any other thing, by what is true of its one object (a def of one's own: SetO a S n := HO.ext fun h => ..) -/
  | ext (φ : Heap → Prop)

abbrev Hp := Addr → Option HO
def upd (H : Hp) (a : Addr) (o : HO) : Hp := fun b => if b = a then some o else H b
theorem upd_same {H : Hp} {a : Addr} {o : HO} : upd H a o a = some o := by unfold upd; rw [if_pos rfl]
theorem upd_ne {H : Hp} {a b : Addr} {o : HO} (h : b ≠ a) : upd H a o b = H b := by unfold upd; rw [if_neg h]
theorem upd_upd {H : Hp} {a : Addr} {o u : HO} : upd (upd H a o) a u = upd H a u := by
  funext b; unfold upd; split <;> rfl
/-- two objects of different content stand apart -/
theorem ne_of {H : Hp} {a b : Addr} {o u : HO} (h : H a = some o) (h' : H b = some u) (d : o ≠ u) : a ≠ b := by
  intro e; subst e; rw [h] at h'; exact d (Option.some.inj h')
theorem ne_of_none {H : Hp} {a b : Addr} {o : HO} (h : H a = some o) (h' : H b = none) : a ≠ b := by
  intro e; subst e; rw [h] at h'; cases h'

section
variable (P : Program) (w : World)
def ObjOk (H : Hp) (h : Heap) (a : Addr) : HO → Prop
  | .lst xs => xs.length ≤ sizeLine ∧ ∃ (its : List Value) (n : Nat), Vals xs its ∧ h.get? a = some { cls := .type "list", data := .seq its.toArray n }
  | .tup xs => xs.length ≤ sizeLine ∧ ∃ its : List Value, Vals xs its ∧ IsTup h a its.toArray
  | .dK kvs => kvs.length ≤ sizeLine ∧ (a == sysModules) = false ∧ ∃ vs, KV kvs vs ∧ h.DictOf (mixKind P w) a vs
  | .dT kvs => kvs.length ≤ sizeLine ∧ (a == sysModules) = false ∧ ∃ xs : List (List Key × Addr × Value),
      Paired (fun (p : List Key × V) (q : List Key × Addr × Value) => p.1 = q.1 ∧ H q.2.1 = some (.tup (p.1.map kV)) ∧ RelV p.2 q.2.2) kvs xs ∧
      ∃ o es ep, h.get? a = some o ∧ o.ExactDict ∧ o.data = .dict es ep ∧ es.toList = xs.map (entryOfKey (tupleKind (mixKind P w))) ∧ (xs.map (·.1)).Nodup
  | .set S n => h.SetOf (intKind P w) a S n
  | .ins C dx fs => H dx = some (.own a) ∧ fs.length ≤ 1000 ∧ dx ≠ a ∧ h.get? a = some (PySem.W.instObj C dx) ∧
      ∃ mA, h.Ns1 dx mA ∧ (∀ f, RelO (fs.lookup f) (mA f)) ∧ PySem.Within mA (fs.map (·.1))
  | .own _ => ∃ o, h.get? a = some o
  | .xd fs => ∃ mA, h.Ns1 a mA ∧ ∀ f, RelO (fs.lookup f) (mA f)
  | .rng lo hi => ∃ t u v, h.get? a = some { cls := .type "range", data := .fields #[.int lo t, .int hi u, .int 1 v] }
  | .frz o u => h.get? a = some o ∧ ObjOk H h a u
  | .tbl ps => h.get? a = some { cls := .none, data := .fields ps }
  | .met f x => h.get? a = some (PySem.W.methodObj (.ref f) (.ref x))
  | .ext φ => φ h ∧ (∃ o, h.get? a = some o) ∧ ∀ h1 h2 : Heap, φ h1 → (∀ o, h1.get? a = some o → h2.get? a = some o) → φ h2
/-- the abstract heap is held -/
def HOk (H : Hp) (h : Heap) : Prop := ∀ a o, H a = some o → ObjOk P w H h a o
end

section
variable {P : Program} {w : World} {H H' : Hp} {h h' : Heap} {a : Addr} {o : HO}
theorem ObjOk.lt (x : ObjOk P w H h a o) : a < h.objs.size := by
  cases o with
  | lst xs => obtain ⟨_, _, _, _, e⟩ := x; exact Heap.lt_size e
  | tup xs => obtain ⟨_, _, _, p⟩ := x; exact p.lt
  | dK kvs => obtain ⟨_, _, _, _, o, _, _, e, _⟩ := x; exact Heap.lt_size e
  | dT kvs => obtain ⟨_, _, _, _, o, _, _, e, _⟩ := x; exact Heap.lt_size e
  | set S n => obtain ⟨o, _, _, _, e, _⟩ := x; exact Heap.lt_size e
  | ins C dx fs => obtain ⟨_, _, _, e, _⟩ := x; exact Heap.lt_size e
  | own y => obtain ⟨_, e⟩ := x; exact Heap.lt_size e
  | xd fs => obtain ⟨_, ⟨_, _, _, e, _⟩, _⟩ := x; exact Heap.lt_size e
  | rng lo hi => obtain ⟨_, _, _, e⟩ := x; exact Heap.lt_size e
  | frz ob u => obtain ⟨e, _⟩ := x; exact Heap.lt_size e
  | tbl ps => exact Heap.lt_size (show h.get? a = some _ from x)
  | met f y => exact Heap.lt_size (show h.get? a = some _ from x)
  | ext φ => obtain ⟨_, ⟨_, e⟩, _⟩ := x; exact Heap.lt_size e
theorem Paired.mapP {α β : Type} {F G : α → β → Prop} : ∀ {l₁ : List α} {l₂ : List β}, Paired F l₁ l₂ → (∀ a b, F a b → G a b) → Paired G l₁ l₂
  | _, _, .nil, _ => .nil
  | _, _, .cons r t, f => .cons (f _ _ r) (Paired.mapP t f)
/-- what an object's description leans on: its own object, its own dict, the tuples -/
theorem ObjOk.stay (x : ObjOk P w H h a o) (k : ∀ b u, (b = a ∨ H b = some (.own a)) → h.get? b = some u → h'.get? b = some u)
    (ho : ∀ b, H b = some (.own a) → H' b = some (.own a)) (ht : ∀ b xs, H b = some (.tup xs) → H' b = some (.tup xs)) : ObjOk P w H' h' a o := by
  induction o with
  | lst xs => obtain ⟨z, its, n, r, e⟩ := x; exact ⟨z, its, n, r, k _ _ (.inl rfl) e⟩
  | tup xs => obtain ⟨z, its, r, ob, e, c⟩ := x; exact ⟨z, its, r, ob, k _ _ (.inl rfl) e, c⟩
  | dK kvs => obtain ⟨z, y, vs, r, ob, es, ep, e, c⟩ := x; exact ⟨z, y, vs, r, ob, es, ep, k _ _ (.inl rfl) e, c⟩
  | dT kvs =>
    obtain ⟨z, y, xs, r, ob, es, ep, e, c⟩ := x
    exact ⟨z, y, xs, Paired.mapP r fun p q z => ⟨z.1, ht _ _ z.2.1, z.2.2⟩, ob, es, ep, k _ _ (.inl rfl) e, c⟩
  | set S n => obtain ⟨ob, es, ep, t, e, c⟩ := x; exact ⟨ob, es, ep, t, k _ _ (.inl rfl) e, c⟩
  | ins C dx fs =>
    obtain ⟨d, z, ne, e, mA, ⟨od, es, ep, e2, c⟩, r⟩ := x
    exact ⟨ho _ d, z, ne, k _ _ (.inl rfl) e, mA, ⟨od, es, ep, k _ _ (.inr d) e2, c⟩, r⟩
  | own y => obtain ⟨ob, e⟩ := x; exact ⟨ob, k _ _ (.inl rfl) e⟩
  | xd fs => obtain ⟨mA, ⟨od, es, ep, e, c⟩, r⟩ := x; exact ⟨mA, ⟨od, es, ep, k _ _ (.inl rfl) e, c⟩, r⟩
  | rng lo hi => obtain ⟨t, u, v, e⟩ := x; exact ⟨t, u, v, k _ _ (.inl rfl) e⟩
  | frz ob u ih => obtain ⟨e, q⟩ := x; exact ⟨k _ _ (.inl rfl) e, ih q⟩
  | tbl ps =>
    have e : h.get? a = some { cls := .none, data := .fields ps } := x
    show h'.get? a = some { cls := .none, data := .fields ps }
    exact k a _ (.inl rfl) e
  | met f y =>
    have e : h.get? a = some (PySem.W.methodObj (.ref f) (.ref y)) := x
    show h'.get? a = some (PySem.W.methodObj (.ref f) (.ref y))
    exact k a _ (.inl rfl) e
  | ext φ => obtain ⟨p, ⟨o, e⟩, st⟩ := x; exact ⟨st _ _ p fun o q => k _ _ (.inl rfl) q, ⟨o, k _ _ (.inl rfl) e⟩, st⟩
theorem HOk.lt (x : HOk P w H h) (e : H a = some o) : a < h.objs.size := (x a o e).lt
theorem HOk.fresh (x : HOk P w H h) (e : h.objs.size ≤ a) : H a = none := by
  cases q : H a with
  | none => rfl
  | some u => exact absurd (Nat.lt_of_lt_of_le (x.lt q) e) (Nat.lt_irrefl _)
/-- every object of the heap is kept -/
theorem HOk.kept (x : HOk P w H h) (k : ∀ b u, h.get? b = some u → h'.get? b = some u) : HOk P w H h' := fun a o e =>
  (x a o e).stay (fun b u _ q => k b u q) (fun _ q => q) fun _ _ q => q
/-- a new object is laid and tracked -/
theorem HOk.laid (x : HOk P w H h) (k : ∀ b u, h.get? b = some u → h'.get? b = some u) (hp : h.objs.size ≤ a) (new : ObjOk P w (upd H a o) h' a o) : HOk P w (upd H a o) h' := fun b u e => by
  have hn := x.fresh hp
  by_cases hb : b = a
  · subst hb; rw [upd_same] at e; cases e; exact new
  · rw [upd_ne hb] at e
    exact (x b u e).stay (fun c v _ q => k c v q) (fun c q => by rw [upd_ne (ne_of_none q hn)]; exact q) fun c xs q => by rw [upd_ne (ne_of_none q hn)]; exact q
end

/-- what may be read as u: it is u, or a known u -/
def Rd (H : Hp) (a : Addr) (u : HO) : Prop := H a = some u ∨ ∃ o, H a = some (.frz o u)
theorem Rd.of {H : Hp} {a : Addr} {u : HO} (h : H a = some u) : Rd H a u := .inl h
theorem Rd.ok {P : Program} {w : World} {H : Hp} {h : Heap} {a : Addr} {u : HO} (r : Rd H a u) (x : HOk P w H h) : ObjOk P w H h a u := by
  rcases r with r | ⟨o, r⟩
  · exact x a u r
  · obtain ⟨_, q⟩ := x a _ r
    exact q
/-- what may be written -/
def Mut : Option HO → Prop
  | some (.lst _) => True
  | some (.dK _) => True
  | some (.dT _) => True
  | some (.set _ _) => True
  | some (.ins _ _ _) => True
  | some (.ext _) => True
  | _ => False
section
variable {P : Program} {w : World} {H : Hp} {h h' : Heap} {x e : Addr} {o' : HO}
/-- the object at e is changed: x itself, or the dict of the instance x -/
theorem HOk.write (ok : HOk P w H h) (mu : Mut (H x)) (he : e = x ∨ H e = some (.own x)) (k : ∀ b u, b ≠ e → h.get? b = some u → h'.get? b = some u) (heo : ∃ u, h'.get? e = some u)
    (new : ObjOk P w (upd H x o') h' x o') : HOk P w (upd H x o') h' := fun b u q => by
  have nown : ∀ c y, H c = some (.own y) → c ≠ x := fun c y r z => by subst z; rw [r] at mu; exact mu
  have ntup : ∀ c xs, H c = some (.tup xs) → c ≠ x := fun c xs r z => by subst z; rw [r] at mu; exact mu
  by_cases hb : b = x
  · subst hb; rw [upd_same] at q; cases q; exact new
  · rw [upd_ne hb] at q
    by_cases hbe : b = e
    · have q' : H b = some (.own x) := by
        rcases he with z | z
        · exact absurd (hbe.trans z) hb
        · rw [hbe]; exact z
      rw [q] at q'; cases q'
      obtain ⟨v, hv⟩ := heo
      exact ⟨v, by rw [hbe]; exact hv⟩
    · refine (ok b u q).stay (fun c v hc r => k c v ?_ r) (fun c r => by rw [upd_ne (nown c b r)]; exact r) fun c xs r => by rw [upd_ne (ntup c xs r)]; exact r
      rcases hc with rfl | hc
      · exact hbe
      · rintro rfl
        rcases he with z | z
        · exact nown c b hc z
        · rw [hc] at z; cases z; exact hb rfl
end

/-! ### kept unless tracked; of the frames at fs (the callers') the slots may change (an exception that passes writes there); of the records at ex (iterators) nothing is said -/
structure Un (fs ex : List Addr) (H H' : Hp) (h h' : Heap) : Prop where
  keep : ∀ b o, h.get? b = some o → H b = none → b ∉ fs → b ∉ ex → h'.get? b = some o
  slot : ∀ b o, h.get? b = some o → H b = none → b ∈ fs → b ∉ ex → ∃ sl, h'.get? b = some { o with slots := sl }
  free : ∀ b o, h.get? b = some o → H b = none → b ∉ ex → H' b = none
  there : ∀ b o, h.get? b = some o → b ∉ ex → ∃ o', h'.get? b = some o'
  tups : ∀ b xs, H b = some (.tup xs) → H' b = some (.tup xs)
  frzs : ∀ b o u, H b = some (.frz o u) → H' b = some (.frz o u)
  tbls : ∀ b ps, H b = some (.tbl ps) → ∃ more, H' b = some (.tbl (ps ++ more))
section
variable {fs fs' ex ex' : List Addr} {H H1 H2 : Hp} {h h1 h2 h' : Heap} {a x e : Addr} {o : HO}
theorem Un.any (u : Un fs ex H H1 h h1) {b : Addr} {ob : Obj} (q : h.get? b = some ob) (n : H b = none) (hx : b ∉ ex) : ∃ sl, h1.get? b = some { ob with slots := sl } := by
  by_cases hb : b ∈ fs
  · exact u.slot b ob q n hb hx
  · exact ⟨ob.slots, u.keep b ob q n hb hx⟩
theorem Un.trans (a : Un fs ex H H1 h h1) (b : Un fs ex H1 H2 h1 h2) : Un fs ex H H2 h h2 where
  keep := fun c ob q n hc hx => b.keep c ob (a.keep c ob q n hc hx) (a.free c ob q n hx) hc hx
  slot := fun c ob q n hc hx => by
    obtain ⟨sl, e1⟩ := a.slot c ob q n hc hx
    obtain ⟨sl', e2⟩ := b.slot c _ e1 (a.free c ob q n hx) hc hx
    exact ⟨sl', e2⟩
  free := fun c ob q n hx => by
    obtain ⟨o', e1⟩ := a.there c ob q hx
    exact b.free c o' e1 (a.free c ob q n hx) hx
  there := fun c ob q hx => by
    obtain ⟨o', e1⟩ := a.there c ob q hx
    exact b.there c o' e1 hx
  tups := fun c xs q => b.tups c xs (a.tups c xs q)
  frzs := fun c ob xs q => b.frzs c ob xs (a.frzs c ob xs q)
  tbls := fun c ps q => by
    obtain ⟨m1, e1⟩ := a.tbls c ps q
    obtain ⟨m2, e2⟩ := b.tbls c _ e1
    exact ⟨m1 ++ m2, by rw [e2, Array.append_assoc]⟩
theorem Un.kept (k : ∀ b u, h.get? b = some u → h'.get? b = some u) : Un fs ex H H h h' :=
  ⟨fun b ob q _ _ _ => k b ob q, fun b ob q _ _ _ => ⟨ob.slots, k b ob q⟩, fun _ _ _ n _ => n, fun b ob q _ => ⟨ob, k b ob q⟩, fun _ _ q => q, fun _ _ _ q => q, fun _ ps q => ⟨#[], by rw [q]; simp⟩⟩
theorem Un.refl : Un fs ex H H h h := Un.kept fun _ _ q => q
theorem Un.laid (k : ∀ b u, h.get? b = some u → h'.get? b = some u) (hp : h.objs.size ≤ a) (hn : H a = none) : Un fs ex H (upd H a o) h h' where
  keep := fun b u q _ _ _ => k b u q
  slot := fun b u q _ _ _ => ⟨u.slots, k b u q⟩
  free := fun b u q n _ => by rw [upd_ne (Nat.ne_of_lt (Nat.lt_of_lt_of_le (Heap.lt_size q) hp))]; exact n
  there := fun b u q _ => ⟨u, k b u q⟩
  tups := fun b xs q => by rw [upd_ne (ne_of_none q hn)]; exact q
  frzs := fun b u xs q => by rw [upd_ne (ne_of_none q hn)]; exact q
  tbls := fun b ps q => ⟨#[], by rw [upd_ne (ne_of_none q hn), q]; simp⟩
theorem Un.write (mu : Mut (H x)) (he : e = x ∨ H e = some (.own x)) (k : ∀ b u, b ≠ e → h.get? b = some u → h'.get? b = some u) (heo : ∃ u, h'.get? e = some u) : Un fs ex H (upd H x o) h h' := by
  have hx : ∀ b, H b = none → b ≠ x := fun b n z => by subst z; rw [n] at mu; exact mu
  have hb : ∀ b, H b = none → b ≠ e := fun b n z => by
    subst z
    rcases he with r | r
    · exact hx b n r
    · rw [n] at r; cases r
  have hm : ∀ b u, H b = some u → ¬ Mut (some u) → b ≠ x := fun b u q nm z => by subst z; rw [q] at mu; exact nm mu
  refine ⟨fun b u q n _ _ => k b u (hb b n) q, fun b u q n _ _ => ⟨u.slots, k b u (hb b n) q⟩, fun b u q n _ => by rw [upd_ne (hx b n)]; exact n, fun b u q _ => ?_,
    fun b xs q => by rw [upd_ne (hm b _ q fun z => z)]; exact q, fun b u xs q => by rw [upd_ne (hm b _ q fun z => z)]; exact q, fun b ps q => ⟨#[], by rw [upd_ne (hm b _ q fun z => z), q]; simp⟩⟩
  by_cases hbe : b = e
  · subst hbe; exact heo
  · exact ⟨u, k b u hbe q⟩
theorem Un.mono (u : Un fs ex H H1 h h1) (hs : ∀ b ∈ fs, b ∈ fs') (hx : ∀ b ∈ ex, b ∈ ex') : Un fs' ex' H H1 h h1 :=
  ⟨fun b ob q n hb he => u.keep b ob q n (fun z => hb (hs b z)) fun z => he (hx b z), fun _ _ q n _ he => u.any q n fun z => he (hx _ z), fun b ob q n he => u.free b ob q n fun z => he (hx b z), fun b ob q he => u.there b ob q fun z => he (hx b z), u.tups, u.frzs, u.tbls⟩
end

/-! ### the heap without what is tracked -/
def trk (h : Heap) (H : Hp) : List Addr := (List.range h.objs.size).filter fun a => (H a).isSome
def hidT (h : Heap) (H : Hp) : Heap := PySem.W.hideAll h (trk h H)
theorem hidT_size (h : Heap) (H : Hp) : (hidT h H).objs.size = h.objs.size := PySem.W.hideAll_size _ _
theorem hidT_get {h : Heap} {H : Hp} {b : Addr} {o : Obj} (e : h.get? b = some o) (n : H b = none) : (hidT h H).get? b = some o :=
  PySem.W.hideAll_get _ e fun hm => by
    have q : (H b).isSome = true := (List.mem_filter.mp hm).2
    rw [n] at q; simp at q
theorem of_hidT {h : Heap} {H : Hp} {b : Addr} {o : Obj} (e : (hidT h H).get? b = some o) : h.get? b = some o ∧ H b = none := by
  have e' : h.get? b = some o := PySem.W.of_hideAll (trk h H) e
  refine ⟨e', ?_⟩
  cases q : H b with
  | none => rfl
  | some x =>
    have hm : b ∈ trk h H := List.mem_filter.mpr ⟨List.mem_range.mpr (Heap.lt_size e'), by simp [q]⟩
    have z : (hidT h H).get? b = none := PySem.W.hideAll_none (trk h H) hm
    rw [z] at e; cases e

/-! ### OpenK's ledger, filled with every new object but one -/
def allNews (g h : Heap) (L : Addr) : List (Addr × Obj) := (List.range h.objs.size).filterMap fun a => if a = L ∨ (g.get? a).isSome = true then none else (h.get? a).map fun o => (a, o)
def rest (g h : Heap) (L d : Addr) : List (Addr × Obj) := (allNews g h L).filter fun p => decide (p.1 ≠ d)
end L2

namespace L2
open PySem PySem.Spec PyProof.Rows

/-- the module's facts, over the base: the heap at the law's entry without what is tracked there -/
structure Mod (K : PySem.W.Frag) (mg : Str → Option Value) (base : Heap) : Prop where
  kin : K.In base
  glob : base.Ns mainGlobals mg
  blt : ∃ mb, base.Ns builtinsNs mb ∧ ∀ x : Str, x ≠ "__name__" → mb x = bootBuiltins x
  nolimit : base.NoLimit

/-- the context: a def's body (or a comprehension's block) running. base: fixed through the whole law; s₀, H₀: the entry; outer: the frames whose slots others may change (a def's callers); stack: all frames that run;
   ex: iterators that were made ahead of the entry and are walked here (a comprehension's); fn: the names whose cells were made at the entry (a def: all; a comprehension's block: its own); calm: not within an except suite; pn: pins that every state bears; xe: what is wanted of an exception that leaves the code -/
structure Cx where
  prog : Program
  w : World
  K : PySem.W.Frag
  mg : Str → Option Value
  base : Heap
  A : Around
  N : List Str
  s₀ : Shared
  H₀ : Hp
  env : Env
  outer : List Env
  stack : List Env
  ex : List Addr
  fn : Str → Bool
  calm : Bool
  pn : List (Addr × Obj)
  xe : Value → Shared → Prop
/-- the callers' frames -/
def frs (l : List Env) : List Addr := l.filterMap (·.frame)
abbrev Cx.fs (X : Cx) : List Addr := frs X.outer

def Vis (sc : Scope) (x : Str) : Prop := sc.names.lookup x = some .local ∨ sc.names.lookup x = some .cell ∨ sc.names.lookup x = some .free
def Loc (sc : Scope) (x : Str) : Prop := sc.names.lookup x = some .local ∨ sc.names.lookup x = some .cell
def Look (env : Env) (h : Heap) (m : Str → Option Value) (x : Str) (u : Value) : Prop :=
  (env.kindOf x = some .local ∧ m x = some u) ∨ ((env.kindOf x = some .cell ∨ env.kindOf x = some .free) ∧ ∃ c, env.cells.lookup x = some c ∧ h.IsCell c (some u))

structure Cx.Ok (X : Cx) : Prop where
  mod : Mod X.K X.mg X.base
  kind : X.env.scope.kind = .function
  glob : X.env.globals = mainGlobals
  blt : X.env.builtins = builtinsNs
  above : X.s₀.heap.objs.size ≤ X.env.locals
  inj : ∀ x y c, X.env.cells.lookup x = some c → X.env.cells.lookup y = some c → x = y
  has : ∀ x, (X.env.kindOf x = some .cell ∨ X.env.kindOf x = some .free) → ∃ c, X.env.cells.lookup x = some c
  cab : ∀ x c, X.fn x = true → X.env.cells.lookup x = some c → X.s₀.heap.objs.size ≤ c
  hd : X.calm = true → X.A.handled = none
  frames : X.A.frames = some X.stack
  stk : X.stack = X.outer ∨ (X.stack = X.env :: X.outer ∧ X.env.frame = some X.env.locals)
  exf : ∀ b ∈ X.ex, b ≠ X.env.locals ∧ ∀ x c, X.env.cells.lookup x = some c → c ≠ b
  bs : ∀ b o, X.base.get? b = some o → X.s₀.heap.get? b = some o ∧ X.H₀ b = none
  bsz : X.base.objs.size ≤ X.s₀.heap.objs.size
  noex : ∀ b o, X.base.get? b = some o → b ∉ X.ex
  exfs : ∀ b ∈ X.ex, b ∉ X.fs
  funs : X.s₀.heap.FunFrames X.base X.outer
  frf : ∀ b ∈ X.fs, X.H₀ b = none

structure Inv (X : Cx) (pins : List (Addr × Obj)) (σ : List (Option V)) (H : Hp) (s : Shared) : Prop where
  ok : X.Ok
  os : s.os = X.s₀.os
  bare : AllBare s.gens
  base : Un X.fs X.ex X.H₀ H X.s₀.heap s.heap
  loc : ∃ m, s.heap.Ns X.env.locals m ∧ ∀ (i : Nat) (x : Str) (v : V), X.N[i]? = some x → σ[i]? = some (some v) → Vis X.env.scope x → ∃ u, RelV v u ∧ Look X.env s.heap m x u
  cell : ∀ x c, X.env.cells.lookup x = some c → ∃ v, s.heap.IsCell c v
  free : H X.env.locals = none
  freeC : ∀ x c, X.env.cells.lookup x = some c → H c = none
  pin : ∀ p ∈ X.pn ++ pins, s.heap.get? p.1 = some p.2 ∧ H p.1 = none ∧ p.1 ≠ X.env.locals ∧ p.1 ∉ X.fs ∧ ∀ v, p.2.data ≠ .cell v
  hok : HOk X.prog X.w H s.heap
  len : σ.length = X.N.length

section
variable {X : Cx} {pins : List (Addr × Obj)} {σ : List (Option V)} {H H' : Hp} {s : Shared} {h' : Heap}

theorem Cx.Ok.nofr (ok : X.Ok) {b : Addr} {o : Obj} (e : X.base.get? b = some o) : b ∉ X.fs := fun hb => by
  have := (ok.funs.mem hb).1
  rw [e] at this; cases this
theorem Inv.bs (I : Inv X pins σ H s) : ∀ b o, X.base.get? b = some o → s.heap.get? b = some o ∧ H b = none := fun b o e =>
  ⟨I.base.keep b o (I.ok.bs b o e).1 (I.ok.bs b o e).2 (I.ok.nofr e) (I.ok.noex b o e), I.base.free b o (I.ok.bs b o e).1 (I.ok.bs b o e).2 (I.ok.noex b o e)⟩
theorem Inv.bk (I : Inv X pins σ H s) : ∀ b o, X.base.get? b = some o → s.heap.get? b = some o := fun b o e => (I.bs b o e).1
theorem Inv.mod (I : Inv X pins σ H s) : Mod X.K X.mg X.base := I.ok.mod
theorem Inv.kIn (I : Inv X pins σ H s) : X.K.In s.heap := I.ok.mod.kin.keeps I.bk
theorem Inv.nolimit (I : Inv X pins σ H s) : s.heap.NoLimit := I.ok.mod.nolimit.keeps I.bk
/-- the frame over the base: for OpenK's rules (K.In X.base is I.mod.kin) -/
theorem Inv.fr (I : Inv X pins σ H s) : ∃ m, Fr X.base X.env.locals s.heap m :=
  let ⟨m, hn, _⟩ := I.loc
  ⟨m, hn, I.bk, Nat.le_trans I.ok.bsz I.ok.above⟩
theorem Inv.lt (I : Inv X pins σ H s) : X.env.locals < s.heap.objs.size := let ⟨_, hn, _⟩ := I.loc; hn.lt
theorem Inv.sz (I : Inv X pins σ H s) : X.s₀.heap.objs.size ≤ s.heap.objs.size := Nat.le_trans I.ok.above (Nat.le_of_lt I.lt)
theorem Inv.nofs (I : Inv X pins σ H s) {a : Addr} (h : s.heap.objs.size ≤ a) : a ∉ X.fs := fun hb => by
  obtain ⟨_, o, ho, _⟩ := I.ok.funs.mem hb
  exact absurd (Nat.lt_of_lt_of_le (Heap.lt_size ho) (Nat.le_trans I.sz h)) (Nat.lt_irrefl _)
theorem Inv.cne (I : Inv X pins σ H s) : ∀ x c, X.env.cells.lookup x = some c → c ≠ X.env.locals := fun x c e z => by
  obtain ⟨v, o, ho, hd⟩ := I.cell x c e
  obtain ⟨m, ⟨o', es, ep, ho', hd', _⟩, _⟩ := I.loc
  rw [z, ho'] at ho; cases ho; rw [hd'] at hd; cases hd
theorem Inv.funs (I : Inv X pins σ H s) : s.heap.FunFrames X.base X.outer := by
  have all : ∀ (l : List Env), (∀ b ∈ frs l, b ∈ X.fs) → X.s₀.heap.FunFrames X.base l → s.heap.FunFrames X.base l := by
    intro l
    induction l with
    | nil => intro _ _; trivial
    | cons env r ih =>
      intro hs hl
      obtain ⟨hk, ⟨L, o, hf, hn, ho, hd⟩, hr⟩ := hl
      have hL : L ∈ X.fs := hs L (by unfold frs; rw [List.filterMap_cons, hf]; exact List.mem_cons_self)
      obtain ⟨sl, e⟩ := I.base.slot L o ho (I.ok.frf L hL) hL fun z => I.ok.exfs L z hL
      exact ⟨hk, ⟨L, _, hf, hn, e, hd⟩, ih (fun b hb => hs b (by unfold frs; rw [List.filterMap_cons, hf]; exact List.mem_cons_of_mem _ hb)) hr⟩
  exact all X.outer (fun _ hb => hb) I.ok.funs

/-- the frames that run, for a call -/
theorem Inv.stack (I : Inv X pins σ H s) : s.heap.FunFrames X.base X.stack := by
  rcases I.ok.stk with e | ⟨e, hf⟩
  · rw [e]; exact I.funs
  · rw [e]
    obtain ⟨m, hn, _⟩ := I.loc
    refine .cons (by rw [I.ok.kind]; decide) hf hn ?_ I.funs
    exact Heap.get?_none_of_le (Nat.le_trans I.ok.bsz I.ok.above)
theorem Inv.stkSub (I : Inv X pins σ H s) : ∀ b ∈ frs X.stack, b ∈ X.env.locals :: X.fs := fun b hb => by
  rcases I.ok.stk with e | ⟨e, hf⟩
  · rw [e] at hb; exact List.mem_cons_of_mem _ hb
  · rw [e] at hb
    unfold frs at hb
    rw [List.filterMap_cons, hf] at hb
    exact hb
theorem Inv.stkFree (I : Inv X pins σ H s) : ∀ b ∈ frs X.stack, H b = none := fun b hb => by
  rcases List.mem_cons.mp (I.stkSub b hb) with e | hb
  · rw [e]; exact I.free
  · obtain ⟨_, o, ho, _⟩ := I.ok.funs.mem hb
    exact I.base.free b o ho (I.ok.frf b hb) fun z => I.ok.exfs b z hb

/-- THE STEP: the untracked objects but the frame and the records at ch are kept (the callers' frames up to slots), the frame's map is kept, the new abstract heap is held -/
theorem Inv.step {g' : Array GenState} {t' : Nat} {d' : Drawn} {ch : List Addr} (I : Inv X pins σ H s)
    (hch : ∀ b ∈ ch, (b ∈ X.ex ∨ X.s₀.heap.objs.size ≤ b) ∧ b ≠ X.env.locals ∧ (∀ x c, X.env.cells.lookup x = some c → c ≠ b) ∧ ∀ p ∈ X.pn ++ pins, p.1 ≠ b)
    (keep : ∀ b o, b ≠ X.env.locals → b ∉ X.fs → b ∉ ch → s.heap.get? b = some o → H b = none → h'.get? b = some o)
    (slot : ∀ b o, b ≠ X.env.locals → b ∈ X.fs → b ∉ ch → s.heap.get? b = some o → H b = none → ∃ sl, h'.get? b = some { o with slots := sl }) (free : ∀ b o, b ∉ ch → s.heap.get? b = some o → H b = none → H' b = none)
    (there : ∀ b o, b ∉ ch → s.heap.get? b = some o → ∃ o', h'.get? b = some o')
    (tups : ∀ b xs, H b = some (.tup xs) → H' b = some (.tup xs)) (frzs : ∀ b o u, H b = some (.frz o u) → H' b = some (.frz o u)) (tbls : ∀ b ps, H b = some (.tbl ps) → ∃ more, H' b = some (.tbl (ps ++ more)))
    (ns : ∀ m, s.heap.Ns X.env.locals m → h'.Ns X.env.locals m) (hok : HOk X.prog X.w H' h') (hg : AllBare g') :
    Inv X pins σ H' { s with heap := h', gens := g', drawn := d', toks := t' } := by
  have neL : ∀ b o, X.s₀.heap.get? b = some o → b ≠ X.env.locals := fun b o e => Nat.ne_of_lt (Nat.lt_of_lt_of_le (Heap.lt_size e) I.ok.above)
  have neC : ∀ b o, X.s₀.heap.get? b = some o → b ∉ X.ex → b ∉ ch := fun b o e hx hb => by
    rcases (hch b hb).1 with z | z
    · exact hx z
    · exact absurd (Nat.lt_of_lt_of_le (Heap.lt_size e) z) (Nat.lt_irrefl _)
  have cellK : ∀ x c, X.env.cells.lookup x = some c → ∀ v, s.heap.IsCell c v → h'.IsCell c v := fun x c e v ⟨o, ho, hd⟩ => by
    have nch : c ∉ ch := fun z => (hch c z).2.2.1 x c e rfl
    by_cases hc : c ∈ X.fs
    · obtain ⟨sl, q⟩ := slot c o (I.cne x c e) hc nch ho (I.freeC x c e)
      exact ⟨_, q, hd⟩
    · exact ⟨o, keep c o (I.cne x c e) hc nch ho (I.freeC x c e), hd⟩
  refine ⟨I.ok, I.os, hg, ⟨fun b o e n hb hx => ?_, fun b o e n hb hx => ?_, fun b o e n hx => ?_, fun b o e hx => ?_, fun b xs e => tups b xs (I.base.tups b xs e), fun b o xs e => frzs b o xs (I.base.frzs b o xs e), fun b ps e => ?_⟩, ?_, fun x c e => ?_, ?_, fun x c e => ?_, fun p hp => ?_, hok, I.len⟩
  · exact keep b o (neL b o e) hb (neC b o e hx) (I.base.keep b o e n hb hx) (I.base.free b o e n hx)
  · obtain ⟨sl, e1⟩ := I.base.slot b o e n hb hx
    obtain ⟨sl', e2⟩ := slot b _ (neL b o e) hb (neC b o e hx) e1 (I.base.free b o e n hx)
    exact ⟨sl', e2⟩
  · obtain ⟨o', e1⟩ := I.base.there b o e hx
    exact free b o' (neC b o e hx) e1 (I.base.free b o e n hx)
  · obtain ⟨o', e1⟩ := I.base.there b o e hx
    exact there b o' (neC b o e hx) e1
  · obtain ⟨m1, e1⟩ := I.base.tbls b ps e
    obtain ⟨m2, e2⟩ := tbls b _ e1
    exact ⟨m1 ++ m2, by rw [e2, Array.append_assoc]⟩
  · obtain ⟨m, hn, hl⟩ := I.loc
    refine ⟨m, ns m hn, fun i x v e1 e2 e3 => ?_⟩
    obtain ⟨u, r, l⟩ := hl i x v e1 e2 e3
    refine ⟨u, r, ?_⟩
    rcases l with l | ⟨k, c, e, z⟩
    · exact .inl l
    · exact .inr ⟨k, c, e, cellK x c e _ z⟩
  · obtain ⟨v, z⟩ := I.cell x c e
    exact ⟨v, cellK x c e v z⟩
  · obtain ⟨m, ⟨o, _, _, ho, _⟩, _⟩ := I.loc
    exact free _ o (fun z => (hch _ z).2.1 rfl) ho I.free
  · obtain ⟨v, o, ho, hd⟩ := I.cell x c e
    exact free c o (fun z => (hch c z).2.2.1 x c e rfl) ho (I.freeC x c e)
  · obtain ⟨e, n, ne, nf, d⟩ := I.pin p hp
    have nch : p.1 ∉ ch := fun z => (hch p.1 z).2.2.2 p hp rfl
    exact ⟨keep p.1 p.2 ne nf nch e n, free p.1 p.2 nch e n, ne, nf, d⟩
/-- .. where the frame's own object is kept too -/
theorem Inv.un {t' : Nat} (I : Inv X pins σ H s) (u : Un X.fs [] H H' s.heap h') (hok : HOk X.prog X.w H' h') : Inv X pins σ H' { s with heap := h', toks := t' } := by
  obtain ⟨m, ⟨o, es, ep, ho, r⟩, _⟩ := id I.loc
  obtain ⟨sl, hL⟩ := u.any ho I.free (by simp)
  exact I.step (g' := s.gens) (d' := s.drawn) (ch := []) (fun _ z => nomatch z) (fun b o _ hb _ e n => u.keep b o e n hb (by simp)) (fun b o _ hb _ e n => u.slot b o e n hb (by simp)) (fun b o _ e n => u.free b o e n (by simp)) (fun b o _ e => u.there b o e (by simp)) u.tups u.frzs u.tbls (fun m' hm => by
    obtain ⟨o', es', ep', ho', r'⟩ := hm
    rw [ho] at ho'; cases ho'
    exact ⟨_, es', ep', hL, r'⟩) hok I.bare
/-- behind a call (or a comprehension's block): the slots of this frame may have changed too, the records at ch may have turned -/
theorem Inv.call {g' : Array GenState} {t' : Nat} {d' : Drawn} {ch : List Addr} (I : Inv X pins σ H s) (u : Un (frs X.stack) ch H H' s.heap h') (hok : HOk X.prog X.w H' h') (hg : AllBare g')
    (hch : ∀ b ∈ ch, (b ∈ X.ex ∨ X.s₀.heap.objs.size ≤ b) ∧ b ≠ X.env.locals ∧ (∀ x c, X.env.cells.lookup x = some c → c ≠ b) ∧ ∀ p ∈ X.pn ++ pins, p.1 ≠ b) :
    Inv X pins σ H' { s with heap := h', gens := g', drawn := d', toks := t' } := by
  obtain ⟨m, ⟨o, es, ep, ho, r⟩, _⟩ := id I.loc
  obtain ⟨sl, hL⟩ := u.any ho I.free fun z => (hch _ z).2.1 rfl
  exact I.step (ch := ch) hch (fun b o hL hb hc e n => u.keep b o e n (fun z => (List.mem_cons.mp (I.stkSub b z)).elim hL hb) hc) (fun b o _ _ hc e n => u.any e n hc) (fun b o hc e n => u.free b o e n hc) (fun b o hc e => u.there b o e hc) u.tups u.frzs u.tbls (fun m' hm => by
    obtain ⟨o', es', ep', ho', r'⟩ := hm
    rw [ho] at ho'; cases ho'
    exact ⟨_, es', ep', hL, r'⟩) hok hg
/-- an untracked record of ours (an iterator) has turned -/
theorem Inv.turned {t' : Nat} {it : Addr} (I : Inv X pins σ H s) (k : ∀ b o, b ≠ it → s.heap.get? b = some o → h'.get? b = some o) (hn : H it = none) (hL : it ≠ X.env.locals)
    (h1 : it ∈ X.ex ∨ X.s₀.heap.objs.size ≤ it) (h2 : ∀ x c, X.env.cells.lookup x = some c → c ≠ it) (h3 : ∀ p ∈ X.pn ++ pins, p.1 ≠ it) : Inv X pins σ H { s with heap := h', toks := t' } := by
  have nit : ∀ b u, H b = some u → b ≠ it := fun b u e z => by rw [z, hn] at e; cases e
  refine I.step (g' := s.gens) (d' := s.drawn) (ch := [it]) (fun b hb => ?_) (fun b o _ _ hc e _ => k b o (fun z => hc (by simp [z])) e) (fun b o _ _ hc e _ => ⟨o.slots, k b o (fun z => hc (by simp [z])) e⟩) (fun _ _ _ _ n => n)
    (fun b o hc e => ⟨o, k b o (fun z => hc (by simp [z])) e⟩) (fun _ _ e => e) (fun _ _ _ e => e) (fun b ps e => ⟨#[], by rw [e]; simp⟩) (fun m hm => ?_) (fun b u e => ?_) I.bare
  · have e : b = it := by simpa using hb
    subst e
    exact ⟨h1, hL, h2, h3⟩
  · obtain ⟨o, es, ep, ho, r⟩ := hm
    exact ⟨o, es, ep, k _ o (Ne.symm hL) ho, r⟩
  · refine (I.hok b u e).stay (fun c v hc q => k c v ?_ q) (fun _ q => q) fun _ _ q => q
    rcases hc with z | z
    · rw [z]; exact nit b u e
    · exact nit c _ z
theorem Inv.tok (I : Inv X pins σ H s) (t : Nat) : Inv X pins σ H { s with toks := t } := I.un (h' := s.heap) (t' := t) Un.refl I.hok
/-- all objects kept -/
theorem Inv.kept {t' : Nat} (I : Inv X pins σ H s) (k : ∀ b u, s.heap.get? b = some u → h'.get? b = some u) : Inv X pins σ H { s with heap := h', toks := t' } := I.un (Un.kept k) (I.hok.kept k)
/-- a new object laid and tracked -/
theorem Inv.laid {a : Addr} {o : HO} {t' : Nat} (I : Inv X pins σ H s) (k : ∀ b u, s.heap.get? b = some u → h'.get? b = some u) (hp : s.heap.objs.size ≤ a) (new : ObjOk X.prog X.w (upd H a o) h' a o) :
    Inv X pins σ (upd H a o) { s with heap := h', toks := t' } := I.un (Un.laid k hp (I.hok.fresh hp)) (I.hok.laid k hp new)
/-- an object written -/
theorem Inv.write {x e : Addr} {o : HO} {t' : Nat} (I : Inv X pins σ H s) (mu : Mut (H x)) (he : e = x ∨ H e = some (.own x)) (k : ∀ b u, b ≠ e → s.heap.get? b = some u → h'.get? b = some u) (heo : ∃ u, h'.get? e = some u)
    (new : ObjOk X.prog X.w (upd H x o) h' x o) : Inv X pins σ (upd H x o) { s with heap := h', toks := t' } := I.un (Un.write mu he k heo) (I.hok.write mu he k heo new)
theorem Inv.pins_of {pins' : List (Addr × Obj)} (I : Inv X pins σ H s) (h : ∀ p ∈ pins', s.heap.get? p.1 = some p.2 ∧ H p.1 = none ∧ p.1 ≠ X.env.locals ∧ p.1 ∉ X.fs ∧ ∀ v, p.2.data ≠ .cell v) : Inv X pins' σ H s :=
  ⟨I.ok, I.os, I.bare, I.base, I.loc, I.cell, I.free, I.freeC, fun p hp => (List.mem_append.mp hp).elim (fun z => I.pin p (List.mem_append_left _ z)) (h p), I.hok, I.len⟩

theorem nodup_ix {N : List Str} (hN : N.Nodup) {i j : Nat} {x : Str} (a : N[i]? = some x) (b : N[j]? = some x) : i = j := by
  obtain ⟨h1, e1⟩ := List.getElem?_eq_some_iff.mp a
  obtain ⟨h2, e2⟩ := List.getElem?_eq_some_iff.mp b
  exact (List.getElem_inj hN).mp (e1.trans e2.symm)

/-- a name is stored; what changed -/
theorem store_ok2 {M : Model} {A : Around} {E : Value → Shared → Prop} {i : Nat} {x : Str} {v : V} {u : Value} {Q : Unit → Shared → Prop} (I : Inv X pins σ H s) (hN : X.N.Nodup) (hi : X.N[i]? = some x) (hx : Loc X.env.scope x) (r : RelV v u)
    (h : ∀ s', Inv X pins (σ.set i (some v)) H s' → (∃ a, Heap.SameBut a s.heap s'.heap ∧ (a = X.env.locals ∨ X.env.cells.lookup x = some a)) → Q () s') (hf : X.fn x = true ∨ X.env.scope.names.lookup x = some .local := by first | exact .inl rfl | exact .inr rfl | assumption) : wpAny M A (storeName X.env x u) Q E s := by
  obtain ⟨m, hn, hl⟩ := id I.loc
  have hcls : (X.env.scope.kind == .class || (X.env.scope.kind == .module && X.env.locals != X.env.globals)) = false := by rw [I.ok.kind]; rfl
  have hiσ : i < σ.length := by rw [I.len]; exact (List.getElem?_eq_some_iff.mp hi).1
  have cne := I.cne
  have tracked : ∀ {a : Addr} {h' : Heap}, (∃ o, s.heap.get? a = some o ∧ H a = none) → Heap.SameBut a s.heap h' → HOk X.prog X.w H h' := fun {a h'} ha hs b ob e => by
    obtain ⟨_, _, hfree⟩ := ha
    refine (I.hok b ob e).stay (fun c w' hc q => (hs.2 c ?_).trans q) (fun _ q => q) fun _ _ q => q
    rintro rfl
    rcases hc with rfl | hc
    · rw [hfree] at e; cases e
    · rw [hfree] at hc; cases hc
  rcases hx with hk | hk
  · refine wpAny_storeName_local hk hn (fun h' hn' hs => ?_) hcls
    obtain ⟨oL, _, _, hoL, _⟩ := id hn
    refine h _ ⟨I.ok, I.os, I.bare, ⟨fun b o e n hb hx => ?_, fun b o e n hb hx => ?_, I.base.free, fun b o e hx => ?_, I.base.tups, I.base.frzs, I.base.tbls⟩, ⟨_, hn', fun j y v' e1 e2 e3 => ?_⟩, fun y c e => ?_, I.free, I.freeC, fun p hp => ?_, tracked ⟨oL, hoL, I.free⟩ hs, by simpa using I.len⟩ ⟨_, hs, .inl rfl⟩
    · exact (hs.2 b (Nat.ne_of_lt (Nat.lt_of_lt_of_le (Heap.lt_size e) I.ok.above))).trans (I.base.keep b o e n hb hx)
    · obtain ⟨sl, e1⟩ := I.base.slot b o e n hb hx
      exact ⟨sl, (hs.2 b (Nat.ne_of_lt (Nat.lt_of_lt_of_le (Heap.lt_size e) I.ok.above))).trans e1⟩
    · obtain ⟨o', e1⟩ := I.base.there b o e hx
      exact ⟨o', (hs.2 b (Nat.ne_of_lt (Nat.lt_of_lt_of_le (Heap.lt_size e) I.ok.above))).trans e1⟩
    · by_cases hj : j = i
      · subst hj
        rw [hi] at e1; cases e1
        rw [List.getElem?_set_self hiσ] at e2
        cases e2
        exact ⟨u, r, .inl ⟨hk, by simp⟩⟩
      · rw [List.getElem?_set_ne (Ne.symm hj)] at e2
        obtain ⟨u', r', q⟩ := hl j y v' e1 e2 e3
        refine ⟨u', r', ?_⟩
        rcases q with ⟨k, e⟩ | ⟨k, c, e, z⟩
        · refine .inl ⟨k, ?_⟩
          have : y ≠ x := fun e => hj (nodup_ix hN e1 (e ▸ hi))
          simp [this, e]
        · exact .inr ⟨k, c, e, z.sameBut hs (cne y c e)⟩
    · obtain ⟨w', z⟩ := I.cell y c e
      exact ⟨w', z.sameBut hs (cne y c e)⟩
    · obtain ⟨e, n, ne, nf, d⟩ := I.pin p hp
      exact ⟨(hs.2 p.1 ne).trans e, n, ne, nf, d⟩
  · have hfn : X.fn x = true := by
      rcases hf with z | z
      · exact z
      · rw [z] at hk; cases hk
    obtain ⟨c, hc⟩ := I.ok.has x (.inl hk)
    obtain ⟨w', z⟩ := I.cell x c hc
    refine wpAny_storeName_cell I.ok.kind hk hc z (fun h' hc' hs => ?_)
    obtain ⟨oc, hoc, hocd⟩ := id z
    refine h { s with heap := h' } ⟨I.ok, I.os, I.bare, ⟨fun b o e n hb hx => ?_, fun b o e n hb hx => ?_, I.base.free, fun b o e hx => ?_, I.base.tups, I.base.frzs, I.base.tbls⟩, ⟨m, hn.sameBut hs (Ne.symm (cne x c hc)), fun j y v' e1 e2 e3 => ?_⟩, fun y c' e => ?_, I.free, I.freeC, fun p hp => ?_, tracked ⟨oc, hoc, I.freeC x c hc⟩ hs, by simpa using I.len⟩ ⟨c, hs, .inr hc⟩
    · exact (hs.2 b (Nat.ne_of_lt (Nat.lt_of_lt_of_le (Heap.lt_size e) (I.ok.cab x c hfn hc)))).trans (I.base.keep b o e n hb hx)
    · obtain ⟨sl, e1⟩ := I.base.slot b o e n hb hx
      exact ⟨sl, (hs.2 b (Nat.ne_of_lt (Nat.lt_of_lt_of_le (Heap.lt_size e) (I.ok.cab x c hfn hc)))).trans e1⟩
    · obtain ⟨o', e1⟩ := I.base.there b o e hx
      exact ⟨o', (hs.2 b (Nat.ne_of_lt (Nat.lt_of_lt_of_le (Heap.lt_size e) (I.ok.cab x c hfn hc)))).trans e1⟩
    · by_cases hj : j = i
      · subst hj
        rw [hi] at e1; cases e1
        rw [List.getElem?_set_self hiσ] at e2
        cases e2
        exact ⟨u, r, .inr ⟨.inl hk, c, hc, hc'⟩⟩
      · rw [List.getElem?_set_ne (Ne.symm hj)] at e2
        obtain ⟨u', r', q⟩ := hl j y v' e1 e2 e3
        refine ⟨u', r', ?_⟩
        rcases q with q | ⟨k, c', e, z'⟩
        · exact .inl q
        · refine .inr ⟨k, c', e, z'.sameBut hs ?_⟩
          rintro rfl
          exact hj (nodup_ix hN e1 (I.ok.inj _ _ _ e hc ▸ hi))
    · by_cases hcc : c' = c
      · subst hcc; exact ⟨_, hc'⟩
      · obtain ⟨w2, z2⟩ := I.cell y c' e
        exact ⟨w2, z2.sameBut hs hcc⟩
    · obtain ⟨e, n, ne, nf, d⟩ := I.pin p hp
      refine ⟨(hs.2 p.1 ?_).trans e, n, ne, nf, d⟩
      intro q
      rw [q, hoc] at e
      have q' : oc = p.2 := Option.some.inj e
      exact d w' (by rw [← q']; exact hocd)
theorem store_ok {M : Model} {A : Around} {E : Value → Shared → Prop} {i : Nat} {x : Str} {v : V} {u : Value} {Q : Unit → Shared → Prop} (I : Inv X pins σ H s) (hN : X.N.Nodup) (hi : X.N[i]? = some x) (hx : Loc X.env.scope x) (r : RelV v u)
    (h : ∀ s', Inv X pins (σ.set i (some v)) H s' → Q () s') (hf : X.fn x = true ∨ X.env.scope.names.lookup x = some .local := by first | exact .inl rfl | exact .inr rfl | assumption) : wpAny M A (storeName X.env x u) Q E s :=
  store_ok2 I hN hi hx r (fun s' I' _ => h s' I') hf
/-- behind a call or a block, the state as it is -/
theorem Inv.call' {s' : Shared} {ch : List Addr} (I : Inv X pins σ H s) (ho : s'.os = s.os) (u : Un (frs X.stack) ch H H' s.heap s'.heap) (hok : HOk X.prog X.w H' s'.heap) (hg : AllBare s'.gens)
    (hch : ∀ b ∈ ch, (b ∈ X.ex ∨ X.s₀.heap.objs.size ≤ b) ∧ b ≠ X.env.locals ∧ (∀ x c, X.env.cells.lookup x = some c → c ≠ b) ∧ ∀ p ∈ X.pn ++ pins, p.1 ≠ b) : Inv X pins σ H' s' := by
  obtain ⟨h', g', d', t', o'⟩ := s'
  have e : o' = s.os := ho
  subst e
  exact I.call (g' := g') (t' := t') (d' := d') u hok hg hch
end

/-! ### the judgements -/
/-- an exception: its class, its own dict's address (where it has one), the abstract heap behind it -/
abbrev XK := Value → Option Addr → Hp → Prop
abbrev St := List (Option V)
abbrev VK := V → Hp → Prop
/-- an expression's reading; a test's; an argument list's -/
abbrev TE := St → Hp → VK → Prop
abbrev TT := St → Hp → (Bool → Hp → Prop) → Prop
abbrev TA := St → Hp → (List V → Hp → Prop) → Prop
/-- what is wanted behind a statement -/
structure Ends where
  nx : St → Hp → Prop
  rt : VK
  bk : St → Hp → Prop := fun _ _ => False
  ct : St → Hp → Prop := fun _ _ => False
abbrev TS := Ends → St → Hp → Prop

def EP (X : Cx) (pins : List (Addr × Obj)) (σ : St) (Q : VK) (u : Value) (s' : Shared) : Prop := ∃ v H', Inv X pins σ H' s' ∧ RelV v u ∧ Q v H'
def TP (X : Cx) (pins : List (Addr × Obj)) (σ : St) (Q : Bool → Hp → Prop) (b : Bool) (s' : Shared) : Prop := ∃ H', Inv X pins σ H' s' ∧ Q b H'
def AP (X : Cx) (pins : List (Addr × Obj)) (σ : St) (Q : List V → Hp → Prop) (us : List Value) (s' : Shared) : Prop := ∃ vs H', Inv X pins σ H' s' ∧ Vals vs us ∧ Q vs H'
def SP (X : Cx) (pins : List (Addr × Obj)) (D : Ends) (f : Flow) (s' : Shared) : Prop :=
  match f with
  | .next => ∃ σ' H', Inv X pins σ' H' s' ∧ D.nx σ' H'
  | .brk => ∃ σ' H', Inv X pins σ' H' s' ∧ D.bk σ' H'
  | .cont => ∃ σ' H', Inv X pins σ' H' s' ∧ D.ct σ' H'
  | .ret u => ∃ v σ' H', Inv X pins σ' H' s' ∧ RelV v u ∧ D.rt v H'

def PE (X : Cx) (e : Expr) (t : TE) : Prop :=
  ∀ (pins : List (Addr × Obj)) (s : Shared) (σ : St) (H : Hp) (Q : VK), Inv X pins σ H s → t σ H Q → wpAny (model X.prog X.w) X.A (eval e X.env) (EP X pins σ Q) X.xe s
def PT (X : Cx) (e : Expr) (t : TT) : Prop :=
  ∀ (pins : List (Addr × Obj)) (s : Shared) (σ : St) (H : Hp) (Q : Bool → Hp → Prop), Inv X pins σ H s → t σ H Q → wpAny (model X.prog X.w) X.A (isTrue e X.env (eval e X.env)) (TP X pins σ Q) X.xe s
/-- a test whatever its 'whole' is (and, or) -/
def PW (X : Cx) (e : Expr) (t : TT) : Prop :=
  ∀ (whole : Sem Value) (pins : List (Addr × Obj)) (s : Shared) (σ : St) (H : Hp) (Q : Bool → Hp → Prop), Inv X pins σ H s → t σ H Q → wpAny (model X.prog X.w) X.A (isTrue e X.env whole) (TP X pins σ Q) X.xe s
theorem PW.pt {X : Cx} {e : Expr} {t : TT} (h : PW X e t) : PT X e t := h _
/-- an argument list (no star), from the left -/
def PA (X : Cx) (es : List Expr) (t : TA) : Prop :=
  ∀ (pos : Pos) (pins : List (Addr × Obj)) (s : Shared) (σ : St) (H : Hp) (Q : List V → Hp → Prop), Inv X pins σ H s → t σ H Q → wpAny (model X.prog X.w) X.A (spliced (backTo pos (starEach es X.env))) (AP X pins σ Q) X.xe s
def PS (X : Cx) (st : Stmt) (t : TS) : Prop :=
  ∀ (pins : List (Addr × Obj)) (s : Shared) (σ : St) (H : Hp) (D : Ends), Inv X pins σ H s → t D σ H → wpAny (model X.prog X.w) X.A (exec st X.env) (SP X pins D) X.xe s
def PSs (X : Cx) (st : List Stmt) (t : TS) : Prop :=
  ∀ (pins : List (Addr × Obj)) (s : Shared) (σ : St) (H : Hp) (D : Ends), Inv X pins σ H s → t D σ H → wpAny (model X.prog X.w) X.A (execs st X.env) (SP X pins D) X.xe s
/-- weaken the end -/
theorem thn {α : Type} {t : Sem α} {Q Q' : α → Shared → Prop} {M : Model} {A : Around} {E : Value → Shared → Prop} {s : Shared} (h : wpAny M A t Q E s) (hQ : ∀ a s, Q a s → Q' a s) : wpAny M A t Q' E s := wpAny_mono h hQ fun _ _ x => x
end L2

namespace L2
open PySem PySem.Spec PyProof.Rows
section
variable {X : Cx}


/-! ### names and constants -/
def tVar (i : Nat) : TE := fun σ H Q => ∃ v, σ[i]? = some (some v) ∧ Q v H
def tC (v : V) : TE := fun _ H Q => Q v H
theorem pe_var {i : Nat} {x : Str} {pos : Pos} (hN : X.N[i]? = some x) (hv : Vis X.env.scope x) (hd : (x == ("__debug__" : Str)) = false := by decide) (hcd : (x == ("__classdict__" : Str)) = false := by decide) : PE X (.Name x pos) (tVar i) := by
  intro pins s σ H Q I h
  obtain ⟨v, e, h⟩ := h
  obtain ⟨m, hn, hl⟩ := I.loc
  obtain ⟨u, r, l⟩ := hl i x v hN e hv
  have fin : EP X pins σ Q u s := ⟨v, H, I, r, h⟩
  rcases l with ⟨hk, hm⟩ | ⟨hk, c, hc, hcell⟩
  · exact wpAny_Name (wpAny_loadName_local I.ok.kind hk hn hm fin) hd
  · rcases hk with hk | hk
    · exact wpAny_Name (wpAny_loadName_cell I.ok.kind hk hc hcell fin) hd
    · exact wpAny_Name (wpAny_loadName_free I.ok.kind hk hc hcell fin hcd) hd
theorem pe_int {i j pos} : PE X (.Constant (.int i) j pos) (tC (.int i)) := fun _ _ _ H _ I h => wpAny_Constant_int ⟨.int i, H, I.tok _, ⟨_, rfl⟩, h⟩
theorem pe_bl {b j pos} : PE X (.Constant (.bool b) j pos) (tC (.bl b)) := fun _ _ _ H _ I h => Constant_bool ⟨.bl b, H, I, rfl, h⟩
theorem pe_non {j pos} : PE X (.Constant .none j pos) (tC .non) := fun _ _ _ H _ I h => Constant_none ⟨.non, H, I, rfl, h⟩

/-- a global name of the def -/
def Gl (X : Cx) (x : Str) : Prop := X.env.kindOf x = some .globalImplicit
theorem ld_glob {E : Value → Shared → Prop} {pins : List (Addr × Obj)} {s : Shared} {σ : St} {H : Hp} {x : Str} {u : Value} {pos : Pos} {Q : Value → Shared → Prop} (I : Inv X pins σ H s) (hg : Gl X x) (hm : X.mg x = some u) (h : Q u s)
    (hd : (x == ("__debug__" : Str)) = false := by decide) : wpAny (model X.prog X.w) X.A (eval (.Name x pos) X.env) Q E s :=
  Calls.Name_function_global I.ok.kind hg (Calls.loadGlobal_global (by rw [I.ok.glob]; exact I.mod.glob.keeps I.bk) hm h) hd
theorem ld_blt {E : Value → Shared → Prop} {pins : List (Addr × Obj)} {s : Shared} {σ : St} {H : Hp} {x : Str} {u : Value} {pos : Pos} {Q : Value → Shared → Prop} (I : Inv X pins σ H s) (hg : Gl X x) (hm : X.mg x = none) (hv : bootBuiltins x = some u) (h : Q u s)
    (hn : x ≠ "__name__" := by decide) (hd : (x == ("__debug__" : Str)) = false := by decide) : wpAny (model X.prog X.w) X.A (eval (.Name x pos) X.env) Q E s := by
  obtain ⟨mb, h1, h2⟩ := I.mod.blt
  exact Calls.Name_function_global I.ok.kind hg (Calls.loadGlobal_builtin (by rw [I.ok.glob]; exact I.mod.glob.keeps I.bk) hm (by rw [I.ok.blt]; exact h1.keeps I.bk) ((h2 x hn).trans hv) h) hd
/-- a module's constant, a class, a function, as a value -/
theorem pe_glob {x : Str} {v : V} {u : Value} {pos : Pos} (hg : Gl X x) (hm : X.mg x = some u) (r : RelV v u) (hd : (x == ("__debug__" : Str)) = false := by decide) : PE X (.Name x pos) (tC v) :=
  fun _ _ _ H _ I h => ld_glob I hg hm ⟨v, H, I, r, h⟩ hd
theorem pe_bltn {x : Str} {v : V} {u : Value} {pos : Pos} (hg : Gl X x) (hm : X.mg x = none) (hv : bootBuiltins x = some u) (r : RelV v u) (hn : x ≠ "__name__" := by decide) (hd : (x == ("__debug__" : Str)) = false := by decide) : PE X (.Name x pos) (tC v) :=
  fun _ _ _ H _ I h => ld_blt I hg hm hv ⟨v, H, I, r, h⟩ hn hd

/-! ### arithmetic -/
/-- two ints -/
def t2I (ta tb : TE) (k : Int → Int → Hp → Prop) : St → Hp → Prop := fun σ H => ta σ H fun x H1 => tb σ H1 fun y H2 => ∃ i j, x = .int i ∧ y = .int j ∧ k i j H2
def tAdd (ta tb : TE) : TE := fun σ H Q => t2I ta tb (fun i j H2 => Q (.int (i + j)) H2) σ H
def tSub (ta tb : TE) : TE := fun σ H Q => t2I ta tb (fun i j H2 => Q (.int (i - j)) H2) σ H
/-- the left factor below 2^64 -/
def tMul (ta tb : TE) : TE := fun σ H Q => t2I ta tb (fun i j H2 => (-(2 ^ 64) < i ∧ i < 2 ^ 64) ∧ Q (.int (i * j)) H2) σ H
variable {a b : Expr} {ta tb : TE} {pos : Pos}

/-! ### comparisons -/
def PC (X : Cx) (op : CmpOp) (a b : Expr) (t : TE) : Prop :=
  ∀ (pins : List (Addr × Obj)) (s : Shared) (σ : St) (H : Hp) (Q : VK), Inv X pins σ H s → t σ H Q →
    wpAny (model X.prog X.w) X.A (eval a X.env) (fun v s₁ => wpAny (model X.prog X.w) X.A (eval b X.env) (fun u s₂ => wpAny (model X.prog X.w) X.A (compareOp op v u) (EP X pins σ Q) X.xe s₂) X.xe s₁) X.xe s
def tCmp (p : Int → Int → Bool) (ta tb : TE) : TE := fun σ H Q => t2I ta tb (fun i j H2 => Q (.bl (p i j)) H2) σ H
abbrev tLt : TE → TE → TE := tCmp fun i j => decide (i < j)
abbrev tLe : TE → TE → TE := tCmp fun i j => decide (i ≤ j)
abbrev tGt : TE → TE → TE := tCmp fun i j => decide (j < i)
abbrev tGe : TE → TE → TE := tCmp fun i j => decide (j ≤ i)
abbrev tEqI : TE → TE → TE := tCmp fun i j => decide (i = j)
abbrev tNeI : TE → TE → TE := tCmp fun i j => !decide (i = j)
/-- is None -/
def tIsN (ta : TE) : TE := fun σ H Q => ta σ H fun x H1 => Q (.bl (decide (x = .non))) H1
def tNotN (ta : TE) : TE := fun σ H Q => ta σ H fun x H1 => Q (.bl (!decide (x = .non))) H1
/-- a comparison as a value, as a test -/
def tB (t : TE) : TT := fun σ H Q => t σ H fun x H1 => ∃ c, x = .bl c ∧ Q c H1
/-- an expression whose value is a bool, as a test -/
theorem pt_val {e : Expr} {t : TE} (h : PE X e t) (he : ∀ whole, isTrue e X.env whole = (do let v ← whole; standAt e.pos; holding [v] (truthy v)) := by intro _; rfl) : PT X e (tB t) := by
  intro pins s σ H Q I hw
  refine isTrue_plain (thn (h pins s σ H _ I hw) fun v s1 ⟨x, H1, I1, r1, q1⟩ => ?_) (he _)
  obtain ⟨d, rfl, q⟩ := q1
  cases r1
  exact wpAny_truthy_bool ⟨H1, I1, q⟩

/-! ### and, or, not -/
variable {tA tB' : TT} {rest : List Expr}
def tAnd (t u : TT) : TT := fun σ H Q => t σ H fun c H1 => if c = true then u σ H1 Q else Q false H1
def tOr (t u : TT) : TT := fun σ H Q => t σ H fun c H1 => if c = true then Q true H1 else u σ H1 Q
def tNot (t : TT) : TT := fun σ H Q => t σ H fun c H1 => Q (!c) H1
theorem pw_and1 (ha : PT X a tA) : PW X (.BoolOp .And [a] pos) tA := by
  intro wh pins s σ H Q I h
  refine isTrue_and (thn (ha pins s σ H Q I h) fun c s1 e => ?_)
  cases c with
  | true => exact isTrue_and_nil e
  | false => exact e
theorem pw_or1 (ha : PT X a tA) : PW X (.BoolOp .Or [a] pos) tA := by
  intro wh pins s σ H Q I h
  refine isTrue_or (thn (ha pins s σ H Q I h) fun c s1 e => ?_)
  cases c with
  | false => exact isTrue_or_nil e
  | true => exact e
theorem pw_and (ha : PT X a tA) (hb : PW X (.BoolOp .And (b :: rest) pos) tB') : PW X (.BoolOp .And (a :: b :: rest) pos) (tAnd tA tB') := by
  intro wh pins s σ H Q I h
  refine isTrue_and (thn (ha pins s σ H _ I h) fun c s1 ⟨H1, I1, q1⟩ => ?_)
  cases c with
  | true => exact hb wh pins s1 σ H1 Q I1 q1
  | false => exact ⟨H1, I1, q1⟩
theorem pw_or (ha : PT X a tA) (hb : PW X (.BoolOp .Or (b :: rest) pos) tB') : PW X (.BoolOp .Or (a :: b :: rest) pos) (tOr tA tB') := by
  intro wh pins s σ H Q I h
  refine isTrue_or (thn (ha pins s σ H _ I h) fun c s1 ⟨H1, I1, q1⟩ => ?_)
  cases c with
  | true => exact ⟨H1, I1, q1⟩
  | false => exact hb wh pins s1 σ H1 Q I1 q1
theorem pt_not (ha : PT X a tA) : PT X (.UnaryOp .Not a pos) (tNot tA) := by
  intro pins s σ H Q I h
  exact isTrue_not (ha pins s σ H (fun c H1 => Q (!c) H1) I h)
/-- .. as values (bools) -/
def tAndV (ta tb : TE) : TE := fun σ H Q => ta σ H fun x H1 => ∃ c, x = .bl c ∧ if c = true then tb σ H1 Q else Q (.bl false) H1
def tOrV (ta tb : TE) : TE := fun σ H Q => ta σ H fun x H1 => ∃ c, x = .bl c ∧ if c = true then Q (.bl true) H1 else tb σ H1 Q
def tNotV (ta : TE) : TE := fun σ H Q => ta σ H fun x H1 => ∃ c, x = .bl c ∧ Q (.bl (!c)) H1
theorem pe_one {op} {t : TE} (h : PE X a t) : PE X (.BoolOp op [a] pos) t := fun pins s σ H Q I hw => BoolOp_one (h pins s σ H Q I hw)
theorem pe_and (ha : PE X a ta) (hb : PE X (.BoolOp .And (b :: rest) pos) tb) : PE X (.BoolOp .And (a :: b :: rest) pos) (tAndV ta tb) := by
  intro pins s σ H Q I h
  refine BoolOp_and (thn (ha pins s σ H _ I h) fun v s1 ⟨x, H1, I1, r1, q1⟩ => ?_)
  obtain ⟨c, rfl, q1⟩ := q1
  cases r1
  refine wpAny_truthy_bool ?_
  cases c with
  | true => exact hb pins s1 σ H1 Q I1 q1
  | false => exact ⟨.bl false, H1, I1, rfl, q1⟩
theorem pe_not (ha : PE X a ta) : PE X (.UnaryOp .Not a pos) (tNotV ta) := by
  intro pins s σ H Q I h
  refine UnaryOp_ (thn (ha pins s σ H _ I h) fun v s1 ⟨x, H1, I1, r1, q1⟩ => ?_)
  obtain ⟨c, rfl, q1⟩ := q1
  cases r1
  exact not_of (wpAny_truthy_bool ⟨.bl (!c), H1, I1, rfl, q1⟩)
/-- a if t else b -/
def tIf (t : TT) (ta tb : TE) : TE := fun σ H Q => t σ H fun c H1 => if c = true then ta σ H1 Q else tb σ H1 Q
end
end L2

namespace L2
open PySem PySem.Spec PyProof.Rows

/-! ### a list, a tuple that is read: tracked, frozen, or an object of the module -/
def SqL (K : PySem.W.Frag) (H : Hp) (a : Addr) (xs : List V) : Prop :=
  Rd H a (.lst xs) ∨
    ∃ (o : Obj) (its : Array Value) (n : Nat), K.lookup a = some o ∧ o.cls = .type "list" ∧ o.dict = none ∧ o.data = .seq its n ∧ its.size ≤ sizeLine ∧ Vals xs its.toList
def SqT (K : PySem.W.Frag) (H : Hp) (a : Addr) (xs : List V) : Prop :=
  Rd H a (.tup xs) ∨
    ∃ (o : Obj) (its : Array Value) (n : Nat), K.lookup a = some o ∧ o.cls = .type "tuple" ∧ o.data = .seq its n ∧ its.size ≤ sizeLine ∧ Vals xs its.toList
def absV : Value → Option V
  | .none => some .non
  | .bool b => some (.bl b)
  | .int i _ => some (.int i)
  | .str x _ => some (.str x)
  | .bytes b _ => some (.byt b)
  | .float b _ => some (.flt b)
  | .ref a => some (.ref a)
  | .type n => some (.ty n)
  | _ => none
theorem RelV.abs {x : V} {u : Value} (r : RelV x u) : absV u = some x := by
  cases x with
  | non => cases r; rfl
  | bl _ => cases r; rfl
  | int _ => obtain ⟨t, rfl⟩ := r; rfl
  | str _ => obtain ⟨t, rfl⟩ := r; rfl
  | byt _ => obtain ⟨t, rfl⟩ := r; rfl
  | flt _ => obtain ⟨t, rfl⟩ := r; rfl
  | ref _ => cases r; rfl
  | ty _ => cases r; rfl
theorem RelV.inj {x y : V} {u : Value} (r : RelV x u) (q : RelV y u) : x = y := Option.some.inj (r.abs.symm.trans q.abs)
theorem Vals.inj : ∀ {xs ys : List V} {us : List Value}, Vals xs us → Vals ys us → xs = ys
  | _, _, _, .nil, .nil => rfl
  | _, _, _, .cons r t, .cons r' t' => by rw [r.inj r', Vals.inj t t']
section
variable {X : Cx} {pins : List (Addr × Obj)} {σ : St} {H : Hp} {s : Shared} {a : Addr} {xs ys : List V}
theorem SqL.of {K : PySem.W.Frag} (h : H a = some (.lst xs)) : SqL K H a xs := .inl (.inl h)
theorem SqT.of {K : PySem.W.Frag} (h : H a = some (.tup xs)) : SqT K H a xs := .inl (.inl h)
theorem Inv.list (I : Inv X pins σ H s) (h : SqL X.K H a xs) : ∃ its : List Value, Vals xs its ∧ PlainL s.heap a its.toArray ∧ xs.length ≤ sizeLine := by
  rcases h with h | ⟨o, its, n, hk, hc, hd, hs, hz, r⟩
  · obtain ⟨z, its, n, r, e⟩ := h.ok I.hok
    exact ⟨its, r, ⟨_, n, e, rfl, rfl, rfl⟩, z⟩
  · refine ⟨its.toList, r, ⟨o, n, I.kIn a o hk, hc, hd, by simpa using hs⟩, ?_⟩
    have e := r.length
    simp only [Array.length_toList] at e
    omega
theorem Inv.tuple (I : Inv X pins σ H s) (h : SqT X.K H a xs) : ∃ its : List Value, Vals xs its ∧ IsTup s.heap a its.toArray ∧ xs.length ≤ sizeLine := by
  rcases h with h | ⟨o, its, n, hk, hc, hs, hz, r⟩
  · obtain ⟨z, its, r, p⟩ := h.ok I.hok
    exact ⟨its, r, p, z⟩
  · refine ⟨its.toList, r, ⟨o, I.kIn a o hk, hc, n, by simpa using hs⟩, ?_⟩
    have e := r.length
    simp only [Array.length_toList] at e
    omega
theorem Inv.list_inj (I : Inv X pins σ H s) (h : SqL X.K H a xs) (h' : SqL X.K H a ys) : xs = ys := by
  obtain ⟨its, r, ⟨o, n, e, _, _, d⟩, _⟩ := I.list h
  obtain ⟨its', r', ⟨o', n', e', _, _, d'⟩, _⟩ := I.list h'
  rw [e] at e'; cases e'
  rw [d] at d'
  injection d' with d1 _
  have : its = its' := by simpa using congrArg Array.toList d1
  subst this
  exact r.inj r'
theorem Inv.tuple_inj (I : Inv X pins σ H s) (h : SqT X.K H a xs) (h' : SqT X.K H a ys) : xs = ys := by
  obtain ⟨its, r, ⟨o, e, _, n, d⟩, _⟩ := I.tuple h
  obtain ⟨its', r', ⟨o', e', _, n', d'⟩, _⟩ := I.tuple h'
  rw [e] at e'; cases e'
  rw [d] at d'
  injection d' with d1 _
  have : its = its' := by simpa using congrArg Array.toList d1
  subst this
  exact r.inj r'
end

/-! ### another wish about exceptions -/
abbrev Cx.wish (X : Cx) (E : Value → Shared → Prop) : Cx := { X with xe := E }
/-- no exception leaves -/
abbrev Cx.nox (X : Cx) : Cx := X.wish fun _ _ => False
theorem Cx.Ok.wish {X : Cx} (ok : X.Ok) (E : Value → Shared → Prop) : (X.wish E).Ok :=
  ⟨ok.mod, ok.kind, ok.glob, ok.blt, ok.above, ok.inj, ok.has, ok.cab, ok.hd, ok.frames, ok.stk, ok.exf, ok.bs, ok.bsz, ok.noex, ok.exfs, ok.funs, ok.frf⟩
theorem Cx.Ok.unwish {X : Cx} {E : Value → Shared → Prop} (ok : (X.wish E).Ok) : X.Ok :=
  ⟨ok.mod, ok.kind, ok.glob, ok.blt, ok.above, ok.inj, ok.has, ok.cab, ok.hd, ok.frames, ok.stk, ok.exf, ok.bs, ok.bsz, ok.noex, ok.exfs, ok.funs, ok.frf⟩
section
variable {X : Cx} {pins : List (Addr × Obj)} {σ : St} {H : Hp} {s : Shared} {E : Value → Shared → Prop}
theorem Inv.wish (I : Inv X pins σ H s) (E : Value → Shared → Prop) : Inv (X.wish E) pins σ H s := ⟨I.ok.wish E, I.os, I.bare, I.base, I.loc, I.cell, I.free, I.freeC, I.pin, I.hok, I.len⟩
theorem Inv.unwish (I : Inv (X.wish E) pins σ H s) : Inv X pins σ H s := ⟨I.ok.unwish, I.os, I.bare, I.base, I.loc, I.cell, I.free, I.freeC, I.pin, I.hok, I.len⟩
theorem SP.unwish {D : Ends} {f : Flow} {s' : Shared} (h : SP (X.wish E) pins D f s') : SP X pins D f s' := by
  cases f with
  | next => obtain ⟨σ', H', I, q⟩ := h; exact ⟨σ', H', I.unwish, q⟩
  | brk => obtain ⟨σ', H', I, q⟩ := h; exact ⟨σ', H', I.unwish, q⟩
  | cont => obtain ⟨σ', H', I, q⟩ := h; exact ⟨σ', H', I.unwish, q⟩
  | ret u => obtain ⟨v, σ', H', I, r, q⟩ := h; exact ⟨v, σ', H', I.unwish, r, q⟩
theorem PE.nox {e : Expr} {t : TE} (h : PE X.nox e t) : PE X e t := fun pins s σ H Q I hw =>
  wpAny_mono (h pins s σ H Q (I.wish _) hw) (fun _ _ ⟨v, H', I', r, q⟩ => ⟨v, H', I'.unwish, r, q⟩) fun _ _ z => False.elim z
theorem PT.nox {e : Expr} {t : TT} (h : PT X.nox e t) : PT X e t := fun pins s σ H Q I hw =>
  wpAny_mono (h pins s σ H Q (I.wish _) hw) (fun _ _ ⟨H', I', q⟩ => ⟨H', I'.unwish, q⟩) fun _ _ z => False.elim z
theorem PSs.nox {st : List Stmt} {t : TS} (h : PSs X.nox st t) : PSs X st t := fun pins s σ H D I hw =>
  wpAny_mono (h pins s σ H D (I.wish _) hw) (fun _ _ q => q.unwish) fun _ _ z => False.elim z
end

/-! ### blocks and small statements -/
section
variable {X : Cx} {st : Stmt} {rest : List Stmt} {t u : TS} {e : Expr} {te : TE} {pos : Pos}
def tNext : TS := fun D σ H => D.nx σ H
def tSeq (t u : TS) : TS := fun D σ H => t { D with nx := u D } σ H
theorem pss_nil : PSs X [] tNext := fun _ _ σ H _ I h => wpAny_execs_nil ⟨σ, H, I, h⟩
theorem pss_cons (h1 : PS X st t) (h2 : PSs X rest u) : PSs X (st :: rest) (tSeq t u) := by
  intro pins s σ H D I h
  refine wpAny_execs_cons (thn (h1 pins s σ H { D with nx := u D } I h) fun f s1 q => ?_)
  cases f with
  | next =>
    obtain ⟨σ', H', I', q⟩ := q
    exact h2 pins s1 σ' H' D I' q
  | ret v => exact q
  | brk => exact q
  | cont => exact q
theorem pss_one (h1 : PS X st t) : PSs X [st] t := by
  intro pins s σ H D I h
  refine wpAny_execs_cons (thn (h1 pins s σ H D I h) fun f s1 q => ?_)
  cases f with
  | next => exact wpAny_execs_nil q
  | ret v => exact q
  | brk => exact q
  | cont => exact q
def tBreak : TS := fun D σ H => D.bk σ H
def tCont : TS := fun D σ H => D.ct σ H
/-- in a def's body nothing is shown -/
theorem Inv.quiet {pins : List (Addr × Obj)} {σ : St} {H : Hp} {s : Shared} (I : Inv X pins σ H s) : interactive X.env = false := by simp [interactive, I.ok.kind]
/-- an expression whose value is dropped -/
def tDrop (te : TE) : TS := fun D σ H => te σ H fun _ H1 => D.nx σ H1
theorem ps_expr (he : PE X e te) (hs : swapsWith e none pos.line X.env = pure false := by rfl) : PS X (.Expr e pos) (tDrop te) := by
  intro pins s σ H D I h
  exact wpAny_Expr_any (thn (he pins s σ H _ I h) fun v s1 ⟨x, H1, I1, r1, q1⟩ => ⟨σ, H1, I1, q1⟩) I.quiet hs
def tRet (te : TE) : TS := fun D σ H => te σ H D.rt
theorem ps_ret (he : PE X e te) : PS X (.Return (some e) pos) (tRet te) := by
  intro pins s σ H D I h
  exact wpAny_Return_some (thn (he pins s σ H _ I h) fun v s1 ⟨x, H1, I1, r1, q1⟩ => ⟨x, σ, H1, I1, r1, q1⟩)
def tRetN : TS := fun D _ H => D.rt .non H
def tIfS (c : TT) (t u : TS) : TS := fun D σ H => c σ H fun b H1 => if b = true then t D σ H1 else u D σ H1
theorem ps_if {c : Expr} {a b : List Stmt} {tc : TT} (hc : PT X c tc) (ha : PSs X a t) (hb : PSs X b u) : PS X (.If c a b pos) (tIfS tc t u) := by
  intro pins s σ H D I h
  refine wpAny_If (thn (hc pins s σ H _ I h) fun d s1 ⟨H1, I1, q1⟩ => ?_)
  cases d with
  | true => exact ha pins s1 σ H1 D I1 q1
  | false => exact hb pins s1 σ H1 D I1 q1
/-- code that the proof never comes to -/
def tNever : TS := fun _ _ _ => False
end

/-! ### targets -/
abbrev TG := V → St → Hp → (St → Hp → Prop) → Prop
abbrev TGs := List V → St → Hp → (St → Hp → Prop) → Prop
def PG (X : Cx) (target : Expr) (t : TG) : Prop :=
  ∀ (pins : List (Addr × Obj)) (s : Shared) (σ : St) (H : Hp) (v : V) (u : Value) (Q : St → Hp → Prop), Inv X pins σ H s → RelV v u → t v σ H Q →
    wpAny (model X.prog X.w) X.A (assign target X.env u) (fun _ s' => ∃ σ' H', Inv X pins σ' H' s' ∧ Q σ' H') X.xe s
/-- several targets, one after another -/
def PGs (X : Cx) (ts : List Expr) (t : TGs) : Prop :=
  ∀ (pins : List (Addr × Obj)) (s : Shared) (σ : St) (H : Hp) (vs : List V) (us : List Value) (Q : St → Hp → Prop), Inv X pins σ H s → Vals vs us → t vs σ H Q →
    wpAny (model X.prog X.w) X.A (assignInOrder ((assignEach ts X.env).map (·.2)) us) (fun _ s' => ∃ σ' H', Inv X pins σ' H' s' ∧ Q σ' H') X.xe s
/-- o[i] = v, by values -/
abbrev TSet := V → V → V → Hp → (Hp → Prop) → Prop
def PSet (X : Cx) (t : TSet) : Prop :=
  ∀ (pins : List (Addr × Obj)) (s : Shared) (σ : St) (H : Hp) (o i v : V) (ov iv u : Value) (Q : Hp → Prop), Inv X pins σ H s → RelV o ov → RelV i iv → RelV v u → t o i v H Q →
    wpAny (model X.prog X.w) X.A (setItem ov iv u) (fun _ s' => ∃ H', Inv X pins σ H' s' ∧ Q H') X.xe s
/-- a op= b, by values -/
abbrev TIp := V → V → Hp → VK → Prop
def PIp (X : Cx) (op : Operator) (t : TIp) : Prop :=
  ∀ (pins : List (Addr × Obj)) (s : Shared) (σ : St) (H : Hp) (x y : V) (v u : Value) (Q : VK), Inv X pins σ H s → RelV x v → RelV y u → t x y H Q →
    wpAny (model X.prog X.w) X.A (inplaceOp op v u) (EP X pins σ Q) X.xe s
section
variable {X : Cx} {pos : Pos}
def gName (i : Nat) : TG := fun v σ H Q => Q (σ.set i (some v)) H
theorem pg_name {i : Nat} {x : Str} (hN : X.N.Nodup) (hi : X.N[i]? = some x) (hx : Loc X.env.scope x) (hf : X.fn x = true ∨ X.env.scope.names.lookup x = some .local := by first | exact .inl rfl | exact .inr rfl | assumption) : PG X (.Name x pos) (gName i) := by
  intro pins s σ H v u Q I r h
  exact wpAny_assign_Name (store_ok I hN hi hx r (fun s' I' => ⟨_, H, I', h⟩) hf)
def gNil : TGs := fun vs σ H Q => vs = [] ∧ Q σ H
def gCons (t : TG) (u : TGs) : TGs := fun vs σ H Q => ∃ v r, vs = v :: r ∧ t v σ H fun σ' H' => u r σ' H' Q
theorem pgs_nil : PGs X [] gNil := by
  intro pins s σ H vs us Q I r h
  obtain ⟨e, h⟩ := h
  subst e
  cases r
  exact assignInOrder_nil ⟨σ, H, I, h⟩
theorem pgs_cons {e : Expr} {es : List Expr} {t : TG} {u : TGs} (h1 : PG X e t) (h2 : PGs X es u)
    (hs : (assignEach (e :: es) X.env).map (·.2) = assign e X.env :: (assignEach es X.env).map (·.2) := by rfl) : PGs X (e :: es) (gCons t u) := by
  intro pins s σ H vs us Q I r h
  obtain ⟨v, vr, e1, h⟩ := h
  subst e1
  cases r with
  | cons r rr =>
    rw [hs]
    refine assignInOrder_cons (thn (h1 pins s σ H _ _ _ I r h) fun _ s1 ⟨σ1, H1, I1, q1⟩ => ?_)
    exact h2 pins s1 σ1 H1 _ _ Q I1 rr q1
/-- (a, b, ..) = a tuple of that length -/
def gTup (K : PySem.W.Frag) (n : Nat) (t : TGs) : TG := fun v σ H Q => ∃ a xs, v = .ref a ∧ SqT K H a xs ∧ xs.length = n ∧ t xs σ H Q
theorem pg_tup {es : List Expr} {k : Nat} {t : TGs} {n : Nat} (hc : X.calm = true) (h : PGs X es t)
    (hn : (assignEach es X.env).length = n := by rfl) (hst : (assignEach es X.env).findIdx? (·.1) = none := by rfl) : PG X (.Tuple es k pos) (gTup X.K n t) := by
  intro pins s σ H v u Q I r hw
  obtain ⟨a, xs, e1, hq, hl, hw⟩ := hw
  subst e1
  cases r
  obtain ⟨its, rv, ht, hz⟩ := I.tuple hq
  refine assign_Tuple_tuple (I.ok.hd hc) ht (by simp [hn, ← hl, rv.length]) hst fun h' hx => ?_
  have I1 : Inv X pins σ H { s with heap := h' } := I.kept (t' := s.toks) fun b o e => hx b o (Nat.ne_of_lt (Heap.lt_size e)) e
  exact h pins _ σ H xs _ Q I1 (by simpa using rv) hw
/-- o[i] = .. -/
def gSub (to ti : TE) (t : TSet) : TG := fun v σ H Q => to σ H fun o H1 => ti σ H1 fun i H2 => t o i v H2 fun H3 => Q σ H3
theorem pg_sub {o i : Expr} {to ti : TE} {t : TSet} (ho : PE X o to) (hi : PE X i ti) (hs : PSet X t)
    (ha : ∀ v, assign (.Subscript o i pos) X.env v = (do
      let ov ← holding [v] (eval o X.env)
      let iv ← holding [v, ov] (eval i X.env)
      standAt pos
      holding [v, ov, iv] (setItem ov iv v)
      release [v, ov, iv] []) := by intro _; rfl) : PG X (.Subscript o i pos) (gSub to ti t) := by
  intro pins s σ H v u Q I r h
  rw [ha]
  refine wpAny_bind (wpAny_holding (thn (ho pins s σ H _ I h) fun ov s1 ⟨x, H1, I1, r1, q1⟩ => ?_))
  refine wpAny_bind (wpAny_holding (thn (hi pins s1 σ H1 _ I1 q1) fun iv s2 ⟨y, H2, I2, r2, q2⟩ => ?_))
  refine wpAny_bind (wpAny_standAt (wpAny_bind (wpAny_holding (thn (hs pins s2 σ H2 x y v ov iv u _ I2 r1 r2 r q2) fun _ s3 ⟨H3, I3, q3⟩ => ?_))))
  exact wpAny_release ⟨σ, H3, I3, q3⟩
/-- target = value -/
def tAsg (te : TE) (g : TG) : TS := fun D σ H => te σ H fun x H1 => g x σ H1 D.nx
theorem ps_asg {tg e : Expr} {te : TE} {g : TG} (he : PE X e te) (hg : PG X tg g) (hs : swapsWithSole [tg] e pos.line X.env = pure false := by rfl) (hw : swappedStores [tg] e X.env = pure none := by rfl)
    (h1 : (assignEach [tg] X.env).map (·.2) = [assign tg X.env] := by rfl) : PS X (.Assign [tg] e pos) (tAsg te g) := by
  intro pins s σ H D I h
  refine wpAny_Assign_stores (thn (he pins s σ H _ I h) fun v s1 ⟨x, H1, I1, r1, q1⟩ => ?_) hs hw
  rw [h1]
  exact thn (hg pins s1 σ H1 x v _ I1 r1 q1) fun _ s2 q => q
/-- name = value -/
theorem ps_set {i : Nat} {x : Str} {e : Expr} {te : TE} {pos' : Pos} (hN : X.N.Nodup) (hi : X.N[i]? = some x) (hx : Loc X.env.scope x) (he : PE X e te) (hs : swapsWith e (some (.Name x pos')) pos.line X.env = pure false := by rfl) (hf : X.fn x = true ∨ X.env.scope.names.lookup x = some .local := by first | exact .inl rfl | exact .inr rfl | assumption) :
    PS X (.Assign [.Name x pos'] e pos) (tAsg te (gName i)) := by
  intro pins s σ H D I h
  refine wpAny_Assign_Name (thn (he pins s σ H _ I h) fun v s1 ⟨y, H1, I1, r1, q1⟩ => ?_) hs
  exact store_ok I1 hN hi hx r1 (fun s2 I2 => ⟨_, H1, I2, q1⟩) hf
/-- a, b = x, y with plain local names: stored from the right; the pair itself is not tracked (the opening rows as in PyProof/Rows/TupAssign.lean:23) -/
def tPar (i j : Nat) (ta : TA) : TS := fun D σ H => ta σ H fun vs H1 => ∃ v w, vs = [v, w] ∧ D.nx ((σ.set i (some v)).set j (some w)) H1
/-- name op= e -/
def tAug (i : Nat) (te : TE) (ti : TIp) : TS := fun D σ H => ∃ x, σ[i]? = some (some x) ∧ te σ H fun y H1 => ti x y H1 fun z H2 => D.nx (σ.set i (some z)) H2
/-- o[i] op= e -/
def tAugS (to ti te : TE) (tget : V → V → Hp → VK → Prop) (tip : TIp) (tset : TSet) : TS := fun D σ H => to σ H fun o H1 => ti σ H1 fun i H2 => tget o i H2 fun x H3 => te σ H3 fun y H4 => tip x y H4 fun z H5 => tset o i z H5 fun H6 => D.nx σ H6
/-- o[i], by values -/
def PGet (X : Cx) (t : V → V → Hp → VK → Prop) : Prop :=
  ∀ (pins : List (Addr × Obj)) (s : Shared) (σ : St) (H : Hp) (o i : V) (ov iv : Value) (Q : VK), Inv X pins σ H s → RelV o ov → RelV i iv → t o i H Q →
    wpAny (model X.prog X.w) X.A (getItem ov iv) (EP X pins σ Q) X.xe s
/-- ints -/
def ipI (f : Int → Int → Int) : TIp := fun x y H Q => ∃ i j, x = .int i ∧ y = .int j ∧ Q (.int (f i j)) H
end

/-! ### while -/
section
variable {X : Cx} {pos : Pos}
/-- the invariant W with its measure -/
def tWhile (c : TT) (tb : TS) : TS := fun D σ H => ∃ W : Nat → St → Hp → Prop, (∃ m, W m σ H) ∧ ∀ m σ H, W m σ H →
  c σ H fun b H1 => if b = true then ∃ N : St → Hp → Prop, (∀ σ' H', N σ' H' → ∃ m', m' < m ∧ W m' σ' H') ∧ tb { D with nx := N, ct := N, bk := D.nx } σ H1 else D.nx σ H1
end

/-! ### what a loop or a comprehension walks -/
/-- at turn i: it yields x (the heap may grow), or it stops -/
structure It where
  go : Nat → Hp → Prop
  yld : Nat → Hp → V → Hp → Prop
  stop : Nat → Hp → Prop
/-- the iterator's own objects may turn: they are not the frame's, not pinned, younger than the entry (or a comprehension's own) -/
def FpOk (X : Cx) (pins : List (Addr × Obj)) (H : Hp) (b : Addr) : Prop :=
  H b = none ∧ b ≠ X.env.locals ∧ b ∉ X.fs ∧ (b ∈ X.ex ∨ X.s₀.heap.objs.size ≤ b) ∧ (∀ x c, X.env.cells.lookup x = some c → c ≠ b) ∧ ∀ p ∈ X.pn ++ pins, p.1 ≠ b
theorem Inv.fpOk {X : Cx} {pins : List (Addr × Obj)} {σ : St} {H H' : Hp} {s : Shared} {b : Addr} (I : Inv X pins σ H s) (hb : s.heap.objs.size ≤ b) (hn : H' b = none) : FpOk X pins H' b := by
  refine ⟨hn, Nat.ne_of_gt (Nat.lt_of_lt_of_le I.lt hb), I.nofs hb, .inr (Nat.le_trans I.sz hb), fun x c e z => ?_, fun p hp z => ?_⟩
  · obtain ⟨v, q⟩ := I.cell x c e
    exact absurd (Nat.lt_of_lt_of_le q.lt (by rw [z]; exact hb)) (Nat.lt_irrefl _)
  · exact absurd (Nat.lt_of_lt_of_le (Heap.lt_size (I.pin p hp).1) (by rw [z]; exact hb)) (Nat.lt_irrefl _)
structure Turn (P : Program) (w : World) (K : PySem.W.Frag) (tg : Expr) (J : It) (fp : List Addr) (it : Addr) (tn : Nat → Heap → Prop) : Prop where
  mem : it ∈ fp
  obj : ∀ i h, tn i h → ∀ b ∈ fp, ∃ o, h.get? b = some o ∧ ∀ v, o.data ≠ .cell v
  keep : ∀ i h h', tn i h → (∀ b ∈ fp, ∀ o, h.get? b = some o → h'.get? b = some o) → tn i h'
  item : ∀ (X : Cx), X.prog = P → X.w = w → X.K = K → X.calm = true → ∀ (i : Nat) (pins : List (Addr × Obj)) (s : Shared) (σ : St) (H : Hp) (E : Value → Shared → Prop), Inv X pins σ H s → (∀ b ∈ fp, FpOk X pins H b) → tn i s.heap → J.go i H →
    wpAny (model P w) X.A (pyNext (.ref it)) (fun r s1 => ∃ u, r = some u ∧
      wpAny (model P w) X.A (letOwnedTupleGo tg (.ref it) u) (fun _ s2 => ∃ x H', Inv X pins σ H' s2 ∧ RelV x u ∧ J.yld i H x H' ∧ tn (i + 1) s2.heap ∧ ∀ b ∈ fp, H' b = none) E s1) E s
  done : ∀ (X : Cx), X.prog = P → X.w = w → X.K = K → X.calm = true → ∀ (i : Nat) (pins : List (Addr × Obj)) (s : Shared) (σ : St) (H : Hp) (E : Value → Shared → Prop), Inv X pins σ H s → (∀ b ∈ fp, FpOk X pins H b) → tn i s.heap → J.stop i H →
    wpAny (model P w) X.A (pyNext (.ref it)) (fun r s1 => r = none ∧ Inv X pins σ H s1) E s
  self : ∀ (A : Around) (i : Nat) (s : Shared) (Q : Value → Shared → Prop) (E : Value → Shared → Prop), tn i s.heap → Q (.ref it) s → wpAny (model P w) A (pyIter (.ref it)) Q E s
abbrev TI := St → Hp → (It → Hp → Prop) → Prop
/-- an iterator has come -/
def PIE (X : Cx) (pins : List (Addr × Obj)) (σ : St) (tg : Expr) (R : It → Hp → Prop) (itv : Value) (s2 : Shared) : Prop :=
  ∃ (it : Addr) (fp : List Addr) (tn : Nat → Heap → Prop) (J : It) (H' : Hp), itv = .ref it ∧ Inv X pins σ H' s2 ∧ Turn X.prog X.w X.K tg J fp it tn ∧ tn 0 s2.heap ∧ (∀ b ∈ fp, FpOk X pins H' b) ∧ R J H'
def PI (X : Cx) (tg iter : Expr) (wi : TI) : Prop :=
  ∀ (pins : List (Addr × Obj)) (s : Shared) (σ : St) (H : Hp) (R : It → Hp → Prop), Inv X pins σ H s → wi σ H R →
    wpAny (model X.prog X.w) X.A (eval iter X.env) (fun v s1 => wpAny (model X.prog X.w) X.A (pyIter v) (PIE X pins σ tg R) X.xe s1) X.xe s

/-- the step ahead of the store is nothing for an iterator that keeps no tuple -/
theorem go_of {M : Model} {A : Around} {E : Value → Shared → Prop} {s : Shared} {tg : Expr} {it : Addr} {u : Value} {o : Obj} {n : String} {vs : Array Value} {Q : Unit → Shared → Prop} (ho : s.heap.get? it = some o) (hc : o.cls = .type n) (hd : o.data = .fields vs)
    (hn : ["enumerate", "zip", "dict_itemiterator", "dict_reverseitemiterator", "odict_iterator", "itertools.zip_longest", "itertools.pairwise"].contains n = false) (hQ : Q () s) : wpAny M A (letOwnedTupleGo tg (.ref it) u) Q E s := by
  unfold letOwnedTupleGo
  cases tg <;> first
    | exact wpAny_pure hQ
    | (cases u <;> first
        | exact wpAny_pure hQ
        | (refine wpAny_bind (wpAny_load ho ?_)
           rw [hc, hd]
           show wpAny M A (if (["enumerate", "zip", "dict_itemiterator", "dict_reverseitemiterator", "odict_iterator", "itertools.zip_longest", "itertools.pairwise"].contains n && vs[0]? == some (rawInt _)) = true then _ else _) Q E s
           rw [if_neg (by intro h; rw [hn, Bool.false_and] at h; cases h)]
           exact wpAny_pure hQ))

/-- the list at a, as it stands at each turn (a loop may append to it) -/
def Itl (K : PySem.W.Frag) (a : Addr) : It :=
  ⟨fun i H => ∃ xs x, SqL K H a xs ∧ xs[i]? = some x, fun i H x H' => H' = H ∧ ∀ xs, SqL K H a xs → xs[i]? = some x, fun i H => ∃ xs, SqL K H a xs ∧ xs.length ≤ i⟩
def Itt (K : PySem.W.Frag) (a : Addr) : It :=
  ⟨fun i H => ∃ xs x, SqT K H a xs ∧ xs[i]? = some x, fun i H x H' => H' = H ∧ ∀ xs, SqT K H a xs → xs[i]? = some x, fun i H => ∃ xs, SqT K H a xs ∧ xs.length ≤ i⟩
/-- lo, lo + 1, .. (n of them) -/
def Itr (lo : Int) (n : Nat) : It := ⟨fun i _ => i < n, fun i H x H' => H' = H ∧ x = .int (lo + i), fun i _ => n ≤ i⟩
theorem turn_list {P : Program} {w : World} {K : PySem.W.Frag} {tg : Expr} (a it : Addr) : Turn P w K tg (Itl K a) [it] it (fun i h => h.IsListIter it a i) where
  mem := by simp
  obj := fun i h st b hb => by
    have e : b = it := by simpa using hb
    subst e
    obtain ⟨o, e, c, d⟩ := st
    exact ⟨o, e, fun v z => by rw [d] at z; cases z⟩
  keep := fun i h h' st k => st.at fun o e => k it (by simp) o e
  item := by
    intro X hP hw hK hc i pins s σ H E I hf st hg
    subst hP hw hK
    obtain ⟨xs, x, hq, hx⟩ := hg
    obtain ⟨its, rv, p, hz⟩ := I.list hq
    obtain ⟨u, hu, ru⟩ := rv.get hx
    obtain ⟨f0, f1, f2, f3, f4, f5⟩ := hf it (by simp)
    refine wpAny_pyNext_list_item st p.isList (x := u) (by simpa using hu) fun h' st' sb => ?_
    have I1 : Inv X pins σ H { s with heap := h' } := I.turned (t' := s.toks) (fun b o hb e => (sb.2 b hb).trans e) f0 f1 f3 f4 f5
    obtain ⟨o, e, c, d⟩ := id st'
    exact ⟨u, rfl, go_of (s := { s with heap := h' }) e c d (by decide) ⟨x, H, I1, ru, ⟨rfl, fun ys hy => by rw [I.list_inj hy hq]; exact hx⟩, st', fun b hb => (hf b hb).1⟩⟩
  done := by
    intro X hP hw hK hc i pins s σ H E I hf st hg
    subst hP hw hK
    obtain ⟨xs, hq, hx⟩ := hg
    obtain ⟨its, rv, p, hz⟩ := I.list hq
    obtain ⟨f0, f1, f2, f3, f4, f5⟩ := hf it (by simp)
    have hl := rv.length
    exact wpAny_pyNext_list_end (I.ok.hd hc) st p.isList (by simp; omega) fun h' eb => ⟨rfl, I.turned (t' := s.toks) (fun b o hb e => eb b o hb e) f0 f1 f3 f4 f5⟩
  self := fun _ _ _ _ _ st h => wpAny_pyIter_listiter st h
theorem turn_range {P : Program} {w : World} {K : PySem.W.Frag} {tg : Expr} (it : Addr) (lo : Int) (n : Nat) : Turn P w K tg (Itr lo n) [it] it (fun i h => IsRangeIter h it (lo + (i : Nat) * 1) ((n : Int) - (i : Nat)) 1) where
  mem := by simp
  obj := fun i h st b hb => by
    have e : b = it := by simpa using hb
    subst e
    exact ⟨_, st, fun v z => by
      have z' : Data.fields _ = Data.cell v := z
      cases z'⟩
  keep := fun i h h' st k => k it (by simp) _ st
  item := by
    intro X hP hw hK hc i pins s σ H E I hf st hg
    subst hP hw hK
    obtain ⟨f0, f1, f2, f3, f4, f5⟩ := hf it (by simp)
    have W := Walks.range (prog := X.prog) (w := X.w) (I.ok.hd hc) it lo 1 n
    refine W.item i s _ _ hg st fun v h' tk hv st' kk => ?_
    obtain ⟨t, rfl⟩ := hv
    have I1 : Inv X pins σ H { s with heap := h', toks := tk } := I.turned (fun b o hb e => kk b o (by simpa using hb) e) f0 f1 f3 f4 f5
    refine ⟨_, rfl, go_of (s := { s with heap := h', toks := tk }) (n := "range_iterator") st' rfl rfl (by decide) ⟨.int (lo + i), H, I1, ⟨t, ?_⟩, ⟨rfl, rfl⟩, st', fun b hb => (hf b hb).1⟩⟩
    rw [Int.mul_one]
  done := by
    intro X hP hw hK hc i pins s σ H E I hf st hg
    subst hP hw hK
    obtain ⟨f0, f1, f2, f3, f4, f5⟩ := hf it (by simp)
    exact wpAny_pyNext_range_end (I.ok.hd hc) st (by have : n ≤ i := hg; omega) fun h' eb => ⟨rfl, I.turned (t' := s.toks) (fun b o hb e => eb b o hb e) f0 f1 f3 f4 f5⟩
  self := fun _ _ _ _ _ st h => wpAny_pyIter_rangeiter st h
end L2

namespace L2
open PySem PySem.Spec PyProof.Rows
section
variable {X : Cx} {tg : Expr}
def iList (K : PySem.W.Frag) (tl : TE) : TI := fun σ H R => tl σ H fun x H1 => ∃ a, x = .ref a ∧ (∃ xs, SqL K H1 a xs) ∧ R (Itl K a) H1
def iTup (K : PySem.W.Frag) (tl : TE) : TI := fun σ H R => tl σ H fun x H1 => ∃ a, x = .ref a ∧ (∃ xs, SqT K H1 a xs) ∧ R (Itt K a) H1
theorem pi_list {l : Expr} {tl : TE} (hl : PE X l tl) : PI X tg l (iList X.K tl) := by
  intro pins s σ H R I h
  refine thn (hl pins s σ H _ I h) fun v s1 ⟨x, H1, I1, r1, q1⟩ => ?_
  obtain ⟨a, e, ⟨xs, hq⟩, q⟩ := q1
  subst e
  cases r1
  obtain ⟨its, rv, p, hz⟩ := I1.list hq
  refine wpAny_pyIter_list p.isList ?_
  refine ⟨s1.heap.objs.size, [s1.heap.objs.size], _, _, H1, rfl, I1.kept (t' := s1.toks) fun b o e => Heap.get?_push_of_some _ e, turn_list a _, ⟨_, Heap.get?_push_size _ rfl, rfl, rfl⟩, fun b hb => ?_, q⟩
  have e : b = s1.heap.objs.size := by simpa using hb
  subst e
  exact I1.fpOk (Nat.le_refl _) (I1.hok.fresh (Nat.le_refl _))
/-- a range object just made, walked -/
theorem range_it {pins : List (Addr × Obj)} {σ : St} {H : Hp} {s : Shared} {R : It → Hp → Prop} {E : Value → Shared → Prop} {lo hi : Int} {t u v : Tok} {tk : Nat} (I : Inv X pins σ H s) (h1 : -(2 ^ 62) ≤ lo) (h2 : lo < 2 ^ 62) (h3 : -(2 ^ 62) ≤ hi) (h4 : hi < 2 ^ 62)
    (q : R (Itr lo (hi - lo).toNat) H) : wpAny (model X.prog X.w) X.A (pyIter (.ref s.heap.objs.size)) (PIE X pins σ tg R) E { s with heap := s.heap.push { cls := .type "range", data := .fields #[.int lo t, .int hi u, .int 1 v] }, toks := tk } := by
  refine wpAny_pyIter_range (IsRange.new ..) (small_one h1 h2 h3 h4) ?_
  have I1 : Inv X pins σ H { s with heap := s.heap.push { cls := .type "range", data := .fields #[.int lo t, .int hi u, .int 1 v] }, toks := tk } := I.kept fun b o e => Heap.get?_push_of_some _ e
  refine ⟨(s.heap.push { cls := .type "range", data := .fields #[.int lo t, .int hi u, .int 1 v] }).objs.size, [(s.heap.push { cls := .type "range", data := .fields #[.int lo t, .int hi u, .int 1 v] }).objs.size], _, _, H, rfl,
    I1.kept (t' := tk) fun b o e => Heap.get?_push_of_some _ e, turn_range _ lo (hi - lo).toNat, ?_, fun b hb => ?_, q⟩
  · have e1 : lo + ((0 : Nat) : Int) * 1 = lo := by simp
    have e2 : (((hi - lo).toNat : Nat) : Int) - ((0 : Nat) : Int) = Builtin.Range.rangeSize lo hi 1 := by rw [rangeSize_one]; split <;> omega
    show IsRangeIter _ _ (lo + ((0 : Nat) : Int) * 1) ((((hi - lo).toNat : Nat) : Int) - ((0 : Nat) : Int)) 1
    rw [e1, e2]
    exact Heap.get?_push_size _ rfl
  · have e : b = (s.heap.push { cls := .type "range", data := .fields #[.int lo t, .int hi u, .int 1 v] }).objs.size := by simpa using hb
    subst e
    exact I1.fpOk (Nat.le_refl _) (I1.hok.fresh (Nat.le_refl _))
def iRng1 (ta : TA) : TI := fun σ H R => ta σ H fun vs H1 => ∃ j : Int, vs = [.int j] ∧ -(2 ^ 62) ≤ j ∧ j < 2 ^ 62 ∧ R (Itr 0 j.toNat) H1
def iRng2 (ta : TA) : TI := fun σ H R => ta σ H fun vs H1 => ∃ i j : Int, vs = [.int i, .int j] ∧ (-(2 ^ 62) ≤ i ∧ i < 2 ^ 62 ∧ -(2 ^ 62) ≤ j ∧ j < 2 ^ 62) ∧ R (Itr i (j - i).toNat) H1
theorem pi_range1 {a : Expr} {ta : TA} {p pos : Pos} (hg : Gl X "range") (hm : X.mg "range" = none) (ha : PA X [a] ta) (hs : starEach [a] X.env = [(false, eval a X.env)] := by rfl) : PI X tg (.Call (.Name "range" p) [a] [] pos) (iRng1 ta) := by
  intro pins s σ H R I h
  refine Call_ (ld_blt I hg hm boot_range (PyProof.Rows.callWith_type1 (thn (ha pos pins s σ H _ I h) fun us s1 ⟨vs, H1, I1, r1, q1⟩ => ?_) hs rfl))
  obtain ⟨j, e, q1, q2, q⟩ := q1
  subst e
  cases r1 with
  | cons r rr =>
    cases rr
    obtain ⟨t, rfl⟩ := r
    exact call_range_1 (range_it I1 (by omega) (by omega) q1 q2 (by simpa using q))
theorem pi_range2 {a b : Expr} {ta : TA} {p pos : Pos} (hg : Gl X "range") (hm : X.mg "range" = none) (ha : PA X [a, b] ta) (hs : starEach [a, b] X.env = [(false, eval a X.env), (false, eval b X.env)] := by rfl) (hs2 : starEach [b] X.env = [(false, eval b X.env)] := by rfl) :
    PI X tg (.Call (.Name "range" p) [a, b] [] pos) (iRng2 ta) := by
  intro pins s σ H R I h
  refine Call_ (ld_blt I hg hm boot_range (PyProof.Rows.callWith_type1 (thn (ha pos pins s σ H _ I h) fun us s1 ⟨vs, H1, I1, r1, q1⟩ => ?_) (by rw [hs, hs2]) (by rw [hs2]; rfl)))
  obtain ⟨i, j, e, ⟨q1, q2, q3, q4⟩, q⟩ := q1
  subst e
  cases r1 with
  | cons r rr =>
    cases rr with
    | cons r' rr =>
      cases rr
      obtain ⟨t, rfl⟩ := r
      obtain ⟨t', rfl⟩ := r'
      exact call_range_2 (range_it I1 q1 q2 q3 q4 q)

/-! ### for -/
/-- W: the invariant by the turn and a measure; N: what the body is to reach -/
def tFor (wi : TI) (g : TG) (tb : TS) : TS := fun D σ H => wi σ H fun J H1 => ∃ W : Nat → Nat → St → Hp → Prop, (∃ m, W 0 m σ H1) ∧ ∀ i m σ H, W i m σ H →
  (J.stop i H ∧ D.nx σ H) ∨ (J.go i H ∧ ∃ N : St → Hp → Prop, (∀ σ' H', N σ' H' → ∃ m', m' < m ∧ W (i + 1) m' σ' H') ∧ ∀ x H', J.yld i H x H' → g x σ H' fun σ2 H2 => tb { D with nx := N, ct := N, bk := D.nx } σ2 H2)
/-- the records at fp as they stand -/
def pinsAt (fp : List Addr) (h : Heap) : List (Addr × Obj) := fp.filterMap fun b => (h.get? b).map fun o => (b, o)
theorem mem_pinsAt {fp : List Addr} {h : Heap} {b : Addr} {o : Obj} (hb : b ∈ fp) (e : h.get? b = some o) : (b, o) ∈ pinsAt fp h := List.mem_filterMap.mpr ⟨b, hb, by rw [e]; rfl⟩
theorem of_pinsAt {fp : List Addr} {h : Heap} {p : Addr × Obj} (hp : p ∈ pinsAt fp h) : p.1 ∈ fp ∧ h.get? p.1 = some p.2 := by
  obtain ⟨b, hb, e⟩ := List.mem_filterMap.mp hp
  cases q : h.get? b with
  | none => rw [q] at e; cases e
  | some o =>
    rw [q] at e
    have e' : (b, o) = p := Option.some.inj e
    subst e'
    exact ⟨hb, q⟩
theorem Inv.pinned {pins : List (Addr × Obj)} {σ : St} {H : Hp} {s : Shared} {fp : List Addr} (I : Inv X pins σ H s) (hf : ∀ b ∈ fp, FpOk X pins H b) (ho : ∀ b ∈ fp, ∃ o, s.heap.get? b = some o ∧ ∀ v, o.data ≠ .cell v) : Inv X (pins ++ pinsAt fp s.heap) σ H s :=
  I.pins_of fun p hp => (List.mem_append.mp hp).elim (fun z => I.pin p (List.mem_append_right _ z)) fun z => by
    obtain ⟨hb, e⟩ := of_pinsAt z
    obtain ⟨f0, f1, f2, _⟩ := hf p.1 hb
    obtain ⟨o, e', d⟩ := ho p.1 hb
    rw [e] at e'; cases e'
    exact ⟨e, f0, f1, f2, d⟩
theorem Inv.unpinned {pins pl : List (Addr × Obj)} {σ : St} {H : Hp} {s : Shared} (I : Inv X (pins ++ pl) σ H s) : Inv X pins σ H s := I.pins_of fun p hp => I.pin p (List.mem_append_right _ (List.mem_append_left _ hp))
theorem ps_for {iter : Expr} {body : List Stmt} {wi : TI} {g : TG} {tb : TS} {pos : Pos} (hp : PassesOwn (model X.prog X.w) X.A X.env X.xe) (hc : X.calm = true) (hi : PI X tg iter wi) (hg : PG X tg g) (hb : PSs X body tb)
    (hs : ∀ x, foldedSetIterable iter X.env x = pure x := by intro _; rfl) : PS X (.For tg iter body [] pos) (tFor wi g tb) := by
  intro pins s σ H D I h
  refine wpAny_For (thn (hi pins s σ H _ I h) fun v s1 h1 => thn h1 fun itv s2 h2 => ?_) hs
  obtain ⟨it, fp, tn, J, H2, e, I2, T, st2, f2, W, ⟨m0, w0⟩, turn⟩ := h2
  subst e
  -- what stays true of the iterator's objects through the loop
  have stat : ∀ {H' : Hp}, (∀ b ∈ fp, H' b = none) → ∀ b ∈ fp, FpOk X pins H' b := fun hn b hb => ⟨hn b hb, (f2 b hb).2⟩
  refine codeAny_forLoop_any (fun n s' => ∃ i σ' H', Inv X pins σ' H' s' ∧ tn i s'.heap ∧ (∀ b ∈ fp, H' b = none) ∧ W i n σ' H') ?_ m0 ⟨0, σ, H2, I2, st2, fun b hb => (f2 b hb).1, w0⟩
  rintro n s3 ⟨i, σ3, H3, I3, st3, fr3, w3⟩
  rcases turn i n σ3 H3 w3 with ⟨stop, qn⟩ | ⟨go, N, hN, step⟩
  · refine wpAny_passesOwn hp (thn (T.done X rfl rfl rfl hc i pins s3 σ3 H3 X.xe I3 (stat fr3) st3 stop) fun r s4 ⟨hr, I4⟩ => ?_)
    subst hr
    exact wpAny_execs_nil ⟨σ3, H3, I4, qn⟩
  · refine wpAny_passesOwn hp (thn (T.item X rfl rfl rfl hc i pins s3 σ3 H3 X.xe I3 (stat fr3) st3 go) fun r s4 ⟨u, hr, h4⟩ => ?_)
    subst hr
    refine wpAny_passesOwn hp (thn h4 fun _ s5 ⟨x, H5, I5, r5, y5, st5, fr5⟩ => ?_)
    have I5' := I5.pinned (stat fr5) (T.obj _ _ st5)
    refine wpAny_passesOwn hp (thn (hg _ s5 σ3 H5 x u _ I5' r5 (step x H5 y5)) fun _ s6 ⟨σ6, H6, I6, q6⟩ => ?_)
    refine wpAny_passesOwn hp (thn (hb _ s6 σ6 H6 _ I6 q6) fun f s7 q7 => ?_)
    have again : ∀ {σ7 : St} {H7 : Hp}, Inv X (pins ++ pinsAt fp s5.heap) σ7 H7 s7 → N σ7 H7 → ∃ m, m < n ∧ ∃ i σ' H', Inv X pins σ' H' s7 ∧ tn i s7.heap ∧ (∀ b ∈ fp, H' b = none) ∧ W i m σ' H' := fun {σ7 H7} I7 n7 => by
      obtain ⟨m', hm, w7⟩ := hN σ7 H7 n7
      refine ⟨m', hm, i + 1, σ7, H7, I7.unpinned, T.keep _ _ _ st5 fun b hb o e => (I7.pin (b, o) (List.mem_append_right _ (List.mem_append_right _ (mem_pinsAt hb e)))).1, fun b hb => ?_, w7⟩
      obtain ⟨o, e, d⟩ := T.obj _ _ st5 b hb
      exact (I7.pin (b, o) (List.mem_append_right _ (List.mem_append_right _ (mem_pinsAt hb e)))).2.1
    cases f with
    | next => obtain ⟨σ7, H7, I7, n7⟩ := q7; exact again I7 n7
    | cont => obtain ⟨σ7, H7, I7, n7⟩ := q7; exact again I7 n7
    | brk => obtain ⟨σ7, H7, I7, q7⟩ := q7; exact ⟨σ7, H7, I7.unpinned, q7⟩
    | ret v => obtain ⟨x7, σ7, H7, I7, r7, q7⟩ := q7; exact ⟨x7, σ7, H7, I7.unpinned, r7, q7⟩
end

/-! ### the forms one uses -/
/-- over a list that the body leaves as it is -/
theorem for_list {K : PySem.W.Frag} {a : Addr} {xs : List V} {g : TG} {tb : TS} {D : Ends} {σ : St} {H : Hp} (Pv : Nat → St → Hp → Prop) (h0 : Pv 0 σ H) (hl : ∀ i σ H, i ≤ xs.length → Pv i σ H → SqL K H a xs)
    (hs : ∀ i x σ H, xs[i]? = some x → Pv i σ H → g x σ H fun σ2 H2 => tb { D with nx := Pv (i + 1), ct := Pv (i + 1), bk := D.nx } σ2 H2) (hd : ∀ σ H, Pv xs.length σ H → D.nx σ H) :
    ∃ W : Nat → Nat → St → Hp → Prop, (∃ m, W 0 m σ H) ∧ ∀ i m σ H, W i m σ H →
      ((Itl K a).stop i H ∧ D.nx σ H) ∨ ((Itl K a).go i H ∧ ∃ N : St → Hp → Prop, (∀ σ' H', N σ' H' → ∃ m', m' < m ∧ W (i + 1) m' σ' H') ∧ ∀ x H', (Itl K a).yld i H x H' → g x σ H' fun σ2 H2 => tb { D with nx := N, ct := N, bk := D.nx } σ2 H2) := by
  refine ⟨fun i m σ H => m = xs.length - i ∧ i ≤ xs.length ∧ Pv i σ H, ⟨xs.length, by simp, Nat.zero_le _, h0⟩, ?_⟩
  rintro i m σ H ⟨rfl, hi, p⟩
  have q := hl i σ H hi p
  by_cases hlt : i < xs.length
  · refine .inr ⟨⟨xs, xs[i], q, by simp [hlt]⟩, Pv (i + 1), fun σ' H' p' => ⟨xs.length - (i + 1), by omega, rfl, hlt, p'⟩, fun x H' y => ?_⟩
    obtain ⟨e, y⟩ := y
    subst e
    exact hs i x σ _ (y xs q) p
  · have e : i = xs.length := by omega
    subst e
    exact .inl ⟨⟨xs, q, Nat.le_refl _⟩, hd σ H p⟩
theorem for_range {lo : Int} {n : Nat} {g : TG} {tb : TS} {D : Ends} {σ : St} {H : Hp} (Pv : Nat → St → Hp → Prop) (h0 : Pv 0 σ H)
    (hs : ∀ i σ H, i < n → Pv i σ H → g (.int (lo + i)) σ H fun σ2 H2 => tb { D with nx := Pv (i + 1), ct := Pv (i + 1), bk := D.nx } σ2 H2) (hd : ∀ σ H, Pv n σ H → D.nx σ H) :
    ∃ W : Nat → Nat → St → Hp → Prop, (∃ m, W 0 m σ H) ∧ ∀ i m σ H, W i m σ H →
      ((Itr lo n).stop i H ∧ D.nx σ H) ∨ ((Itr lo n).go i H ∧ ∃ N : St → Hp → Prop, (∀ σ' H', N σ' H' → ∃ m', m' < m ∧ W (i + 1) m' σ' H') ∧ ∀ x H', (Itr lo n).yld i H x H' → g x σ H' fun σ2 H2 => tb { D with nx := N, ct := N, bk := D.nx } σ2 H2) := by
  refine ⟨fun i m σ H => m = n - i ∧ i ≤ n ∧ Pv i σ H, ⟨n, by simp, Nat.zero_le _, h0⟩, ?_⟩
  rintro i m σ H ⟨rfl, hi, p⟩
  by_cases hlt : i < n
  · refine .inr ⟨hlt, Pv (i + 1), fun σ' H' p' => ⟨n - (i + 1), by omega, rfl, hlt, p'⟩, fun x H' y => ?_⟩
    obtain ⟨e, y⟩ := y
    subst e y
    exact hs i σ _ hlt p
  · have e : i = n := by omega
    subst e
    exact .inl ⟨Nat.le_refl _, hd σ H p⟩
end L2

namespace L2
open PySem PySem.Spec PyProof.Rows

abbrev R2 := V → V → Hp → VK → Prop
/-- a two-place operation on values: f is binaryOp op, inplaceOp op or compareOp op -/
def OpR (X : Cx) (f : Value → Value → Sem Value) (r : R2) : Prop :=
  ∀ (pins : List (Addr × Obj)) (s : Shared) (σ : St) (H : Hp) (x y : V) (v u : Value) (Q : VK), Inv X pins σ H s → RelV x v → RelV y u → r x y H Q →
    wpAny (model X.prog X.w) X.A (f v u) (EP X pins σ Q) X.xe s
/-- a one-place operation -/
def UnR (X : Cx) (f : Value → Sem Value) (r : V → Hp → VK → Prop) : Prop :=
  ∀ (pins : List (Addr × Obj)) (s : Shared) (σ : St) (H : Hp) (x : V) (v : Value) (Q : VK), Inv X pins σ H s → RelV x v → r x H Q →
    wpAny (model X.prog X.w) X.A (f v) (EP X pins σ Q) X.xe s
/-- a call of a value that is known (a builtin, a type) with values -/
def CallR (X : Cx) (f : Value) (r : List V → Hp → VK → Prop) : Prop :=
  ∀ (pins : List (Addr × Obj)) (s : Shared) (σ : St) (H : Hp) (xs : List V) (us : List Value) (Q : VK), Inv X pins σ H s → Vals xs us → r xs H Q →
    wpAny (model X.prog X.w) X.A (call f us) (EP X pins σ Q) X.xe s
/-- a value's truth -/
def TruR (X : Cx) (r : V → Hp → (Bool → Hp → Prop) → Prop) : Prop :=
  ∀ (pins : List (Addr × Obj)) (s : Shared) (σ : St) (H : Hp) (x : V) (v : Value) (Q : Bool → Hp → Prop), Inv X pins σ H s → RelV x v → r x H Q →
    wpAny (model X.prog X.w) X.A (truthy v) (TP X pins σ Q) X.xe s

def tOp (r : R2) (ta tb : TE) : TE := fun σ H Q => ta σ H fun x H1 => tb σ H1 fun y H2 => r x y H2 Q
def tUn (r : V → Hp → VK → Prop) (ta : TE) : TE := fun σ H Q => ta σ H fun x H1 => r x H1 Q
/-- ints in, under C, and a value out -/
def rI (C : Int → Int → Prop) (g : Int → Int → V) : R2 := fun x y H Q => ∃ i j, x = .int i ∧ y = .int j ∧ C i j ∧ Q (g i j) H
def rI0 (g : Int → Int → V) : R2 := fun x y H Q => ∃ i j, x = .int i ∧ y = .int j ∧ Q (g i j) H
def rU (g : Int → V) : V → Hp → VK → Prop := fun x H Q => ∃ i, x = .int i ∧ Q (g i) H

section
variable {X : Cx} {a b c : Expr} {ta tb tc : TE} {pos : Pos}

theorem binT (ha : PE X a ta) (hb : PE X b tb) {pins : List (Addr × Obj)} {s : Shared} {σ : St} {H : Hp} {R : V → V → Hp → Prop} (I : Inv X pins σ H s)
    (h : ta σ H fun x H1 => tb σ H1 fun y H2 => R x y H2) {Q : Value → Shared → Prop} {f : Value → Value → Sem Value}
    (hf : ∀ v u s2 x y H2, Inv X pins σ H2 s2 → RelV x v → RelV y u → R x y H2 → wpAny (model X.prog X.w) X.A (f v u) Q X.xe s2) :
    wpAny (model X.prog X.w) X.A (eval a X.env) (fun v s₁ => wpAny (model X.prog X.w) X.A (eval b X.env) (fun u s₂ => wpAny (model X.prog X.w) X.A (f v u) Q X.xe s₂) X.xe s₁) X.xe s := by
  refine thn (ha pins s σ H _ I h) fun v s1 ⟨x, H1, I1, r1, q1⟩ => ?_
  refine thn (hb pins s1 σ H1 _ I1 q1) fun u s2 ⟨y, H2, I2, r2, q2⟩ => ?_
  exact hf v u s2 x y H2 I2 r1 r2 q2

theorem pe_op {op : Operator} {r : R2} (ho : OpR X (binaryOp op) r) (ha : PE X a ta) (hb : PE X b tb) : PE X (.BinOp a op b pos) (tOp r ta tb) := by
  intro pins s σ H Q I h
  exact wpAny_BinOp (binT ha hb I h fun v u s2 x y H2 I2 rx ry q => ho pins s2 σ H2 x y v u Q I2 rx ry q)
theorem pe_un {op : UnaryOp} {r : V → Hp → VK → Prop} (ho : UnR X (unaryOp op) r) (ha : PE X a ta) : PE X (.UnaryOp op a pos) (tUn r ta) := by
  intro pins s σ H Q I h
  exact UnaryOp_ (thn (ha pins s σ H _ I h) fun v s1 ⟨x, H1, I1, r1, q1⟩ => ho pins s1 σ H1 x v Q I1 r1 q1)

/-! ### ints -/
theorem opI {f : Value → Value → Sem Value} {C : Int → Int → Prop} {g : Int → Int → Int}
    (rule : ∀ (i j : Int) (t u : Tok) (s : Shared) (Q : Value → Shared → Prop) (E : Value → Shared → Prop), C i j → Q (.int (g i j) s.toks) { s with toks := s.toks + 1 } → wpAny (model X.prog X.w) X.A (f (.int i t) (.int j u)) Q E s) :
    OpR X f (rI C fun i j => .int (g i j)) := by
  intro pins s σ H x y v u Q I rx ry h
  obtain ⟨i, j, rfl, rfl, hc, q⟩ := h
  obtain ⟨t, rfl⟩ := rx
  obtain ⟨t', rfl⟩ := ry
  exact rule i j t t' s _ _ hc ⟨.int (g i j), H, I.tok _, ⟨_, rfl⟩, q⟩
theorem opI0 {f : Value → Value → Sem Value} {g : Int → Int → Int}
    (rule : ∀ (i j : Int) (t u : Tok) (s : Shared) (Q : Value → Shared → Prop) (E : Value → Shared → Prop), Q (.int (g i j) s.toks) { s with toks := s.toks + 1 } → wpAny (model X.prog X.w) X.A (f (.int i t) (.int j u)) Q E s) :
    OpR X f (rI0 fun i j => .int (g i j)) := by
  intro pins s σ H x y v u Q I rx ry h
  obtain ⟨i, j, rfl, rfl, q⟩ := h
  obtain ⟨t, rfl⟩ := rx
  obtain ⟨t', rfl⟩ := ry
  exact rule i j t t' s _ _ ⟨.int (g i j), H, I.tok _, ⟨_, rfl⟩, q⟩
theorem opB0 {f : Value → Value → Sem Value} {g : Int → Int → Bool}
    (rule : ∀ (i j : Int) (t u : Tok) (s : Shared) (Q : Value → Shared → Prop) (E : Value → Shared → Prop), Q (.bool (g i j)) s → wpAny (model X.prog X.w) X.A (f (.int i t) (.int j u)) Q E s) :
    OpR X f (rI0 fun i j => .bl (g i j)) := by
  intro pins s σ H x y v u Q I rx ry h
  obtain ⟨i, j, rfl, rfl, q⟩ := h
  obtain ⟨t, rfl⟩ := rx
  obtain ⟨t', rfl⟩ := ry
  exact rule i j t t' s _ _ ⟨.bl (g i j), H, I, rfl, q⟩

def CDiv (i j : Int) : Prop := 0 < j ∧ j < 1073741824
def CDivN (i j : Int) : Prop := j ≠ 0 ∧ j.natAbs < 1073741824
def CPow (i j : Int) : Prop := 0 ≤ j ∧ j ≤ 1000000 ∧ i.natAbs < 2 ^ 64
def CMul (i j : Int) : Prop := (-(2 ^ 64) < i ∧ i < 2 ^ 64) ∨ (-(2 ^ 64) < j ∧ j < 2 ^ 64)
theorem CMul.ok {i j : Int} (h : CMul i j) : IntMulOk i j := by
  rcases h with ⟨h1, h2⟩ | ⟨h1, h2⟩
  · exact .of_left (intBits_le_64 h1 h2)
  · exact .of_right (intBits_le_64 h1 h2)

theorem op_add : OpR X (binaryOp .Add) (rI0 fun i j => .int (i + j)) := opI0 fun _ _ _ _ _ _ _ q => add_int q
theorem op_sub : OpR X (binaryOp .Sub) (rI0 fun i j => .int (i - j)) := opI0 fun _ _ _ _ _ _ _ q => sub_int q
theorem op_mul : OpR X (binaryOp .Mult) (rI CMul fun i j => .int (i * j)) := opI fun _ _ _ _ _ _ _ hc q => mul_int q hc.ok
/-- % by a positive divisor of any size -/
theorem op_mod : OpR X (binaryOp .Mod) (rI (fun _ j => 0 < j) fun i j => .int (i % j)) := opI fun i j _ _ _ _ _ hc q => by
  have h1 : (0 : Int) < j := hc
  exact mod_int' (by omega) (by rw [Int.fmod_eq_emod_of_nonneg i (by omega)]; exact q)
theorem op_pow : OpR X (binaryOp .Pow) (rI CPow fun i j => .int (i ^ j.toNat)) := opI fun _ _ _ _ _ _ _ hc q => pow_int_small hc.1 hc.2.1 hc.2.2 q


theorem unI {f : Value → Sem Value} {g : Int → Int}
    (rule : ∀ (i : Int) (t : Tok) (s : Shared) (Q : Value → Shared → Prop) (E : Value → Shared → Prop), Q (.int (g i) s.toks) { s with toks := s.toks + 1 } → wpAny (model X.prog X.w) X.A (f (.int i t)) Q E s) :
    UnR X f (rU fun i => .int (g i)) := by
  intro pins s σ H x v Q I rx h
  obtain ⟨i, rfl, q⟩ := h
  obtain ⟨t, rfl⟩ := rx
  exact rule i t s _ _ ⟨.int (g i), H, I.tok _, ⟨_, rfl⟩, q⟩
theorem un_neg : UnR X (unaryOp .USub) (rU fun i => .int (-i)) := unI fun _ _ _ _ _ q => neg_int q

/-! ### bools among ints: n += (a < b) -/
end

/-! ### comparisons -/
/-- the scalars that == tells apart as data does -/
def scal : V → V → Bool
  | .non, .non => true | .non, .int _ => true | .int _, .non => true | .non, .bl _ => true | .bl _, .non => true | .non, .str _ => true | .str _, .non => true
  | .int _, .int _ => true | .bl _, .bl _ => true | .str _, .str _ => true | .byt _, .byt _ => true
  | .int _, .str _ => true | .str _, .int _ => true | .bl _, .str _ => true | .str _, .bl _ => true
  | _, _ => false
def rEq : R2 := fun x y H Q => scal x y = true ∧ Q (.bl (decide (x = y))) H
def rNe : R2 := fun x y H Q => scal x y = true ∧ Q (.bl (!decide (x = y))) H

theorem dec_int {i j : Int} : decide (V.int i = V.int j) = (i == j) := by
  rw [Bool.eq_iff_iff]
  simp
theorem dec_bl {i j : Bool} : decide (V.bl i = V.bl j) = (i == j) := by
  rw [Bool.eq_iff_iff]
  simp
theorem dec_str {i j : Str} : decide (V.str i = V.str j) = (i == j) := by
  rw [Bool.eq_iff_iff]
  simp
theorem dec_byt {i j : Array UInt8} : decide (V.byt i = V.byt j) = (i.toList == j.toList) := by
  rw [Bool.eq_iff_iff]
  cases i
  cases j
  simp

section
variable {X : Cx} {a b c : Expr} {ta tb tc : TE} {pos : Pos}
theorem fin_bl {pins : List (Addr × Obj)} {σ : St} {H : Hp} {s : Shared} {Q : VK} {k k' : Bool} (I : Inv X pins σ H s) (q : Q (.bl k) H) (e : k = k') : EP X pins σ Q (.bool k') s := by
  subst e
  exact ⟨.bl k, H, I, rfl, q⟩
theorem op_eq : OpR X (compareOp .Eq) rEq := by
  intro pins s σ H x y v u Q I rx ry h
  obtain ⟨hs, q⟩ := h
  cases x with
  | non =>
    cases rx
    cases y with
    | non => cases ry; exact PySem.EqNone.eq_none_none (fin_bl I q (by simp))
    | bl j => cases ry; exact PySem.EqNone.eq_none_bool (fin_bl I q (by simp))
    | int j => obtain ⟨t', rfl⟩ := ry; exact PySem.EqNone.eq_none_int (fin_bl I q (by simp))
    | str j => obtain ⟨t', rfl⟩ := ry; exact PySem.EqNone.eq_none_str (fin_bl I q (by simp))
    | _ => exact absurd (show false = true from hs) Bool.false_ne_true
  | bl i =>
    cases rx
    cases y with
    | non => cases ry; exact PySem.EqNone.eq_bool_none (fin_bl I q (by simp))
    | bl j => cases ry; exact eq_bool (fin_bl I q dec_bl)
    | str j => obtain ⟨t', rfl⟩ := ry; exact PySem.EqMixed.eq_bool_str (fin_bl I q (by simp))
    | _ => exact absurd (show false = true from hs) Bool.false_ne_true
  | int i =>
    obtain ⟨t, rfl⟩ := rx
    cases y with
    | non => cases ry; exact PySem.EqNone.eq_int_none (fin_bl I q (by simp))
    | int j => obtain ⟨t', rfl⟩ := ry; exact eq_int (fin_bl I q dec_int)
    | str j => obtain ⟨t', rfl⟩ := ry; exact PySem.EqMixed.eq_int_str (fin_bl I q (by simp))
    | _ => exact absurd (show false = true from hs) Bool.false_ne_true
  | str i =>
    obtain ⟨t, rfl⟩ := rx
    cases y with
    | non => cases ry; exact PySem.EqNone.eq_str_none (fin_bl I q (by simp))
    | bl j => cases ry; exact PySem.EqMixed.eq_str_bool (fin_bl I q (by simp))
    | int j => obtain ⟨t', rfl⟩ := ry; exact PySem.EqMixed.eq_str_int (fin_bl I q (by simp))
    | str j => obtain ⟨t', rfl⟩ := ry; exact eq_str (fin_bl I q dec_str)
    | _ => exact absurd (show false = true from hs) Bool.false_ne_true
  | byt i =>
    obtain ⟨t, rfl⟩ := rx
    cases y with
    | byt j => obtain ⟨t', rfl⟩ := ry; exact PySem.W.eq_bytes (fin_bl I q dec_byt)
    | _ => exact absurd (show false = true from hs) Bool.false_ne_true
  | _ => cases y <;> exact absurd (show false = true from hs) Bool.false_ne_true

theorem op_lt : OpR X (compareOp .Lt) (rI0 fun i j => .bl (decide (i < j))) := opB0 fun _ _ _ _ _ _ _ q => lt_int q
theorem op_le : OpR X (compareOp .LtE) (rI0 fun i j => .bl (decide (i ≤ j))) := opB0 fun _ _ _ _ _ _ _ q => le_int q
theorem op_gt : OpR X (compareOp .Gt) (rI0 fun i j => .bl (decide (j < i))) := opB0 fun _ _ _ _ _ _ _ q => gt_int q
theorem op_ge : OpR X (compareOp .GtE) (rI0 fun i j => .bl (decide (j ≤ i))) := opB0 fun _ _ _ _ _ _ _ q => ge_int q


/-- is, is not of two objects that are tracked lists or instances -/
def isObj : HO → Bool
  | .lst _ => true
  | .ins _ _ _ => true
  | _ => false

/-- two rules for one operation: by cases -/
theorem OpR.or {f : Value → Value → Sem Value} {r r' : R2} (h : OpR X f r) (h' : OpR X f r') : OpR X f (fun x y H Q => r x y H Q ∨ r' x y H Q) := by
  intro pins s σ H x y v u Q I rx ry q
  rcases q with q | q
  · exact h pins s σ H x y v u Q I rx ry q
  · exact h' pins s σ H x y v u Q I rx ry q

theorem nomark (b : Expr) {op : CmpOp} (h : op ≠ .In := by decide) (h2 : op ≠ .NotIn := by decide) : behindInMarks op b = false := by
  have e1 : (op == CmpOp.In) = false := by cases op <;> first | rfl | exact absurd rfl h
  have e2 : (op == CmpOp.NotIn) = false := by cases op <;> first | rfl | exact absurd rfl h2
  cases b <;> simp [behindInMarks, e1, e2]
/-- a comparison as a value; hm: nomark b, or (for in, not in) by with_unfolding_all rfl -/
theorem pe_cmpR {op : CmpOp} {r : R2} (ho : OpR X (compareOp op) r) (ha : PE X a ta) (hb : PE X b tb) (hm : behindInMarks op b = false) : PE X (.Compare a [op] [b] pos) (tOp r ta tb) := by
  intro pins s σ H Q I h
  exact wpAny_Compare1 (binT ha hb I h fun v u s2 x y H2 I2 rx ry q => ho pins s2 σ H2 x y v u Q I2 rx ry q) hm
/-- a reading of a value as a test -/
def tTest (t : TE) : TT := fun σ H Q => t σ H fun x H' => ∃ k, x = .bl k ∧ Q k H'
theorem pt_cmpR {op : CmpOp} {r : R2} (ho : OpR X (compareOp op) r) (ha : PE X a ta) (hb : PE X b tb) (hm : behindInMarks op b = false) : PT X (.Compare a [op] [b] pos) (tTest (tOp r ta tb)) := by
  intro pins s σ H Q I h
  refine wpAny_isTrue_Compare1 (thn (ha pins s σ H _ I h) fun v s1 ⟨x, H1, I1, r1, q1⟩ => thn (hb pins s1 σ H1 _ I1 q1) fun u s2 ⟨y, H2, I2, r2, q2⟩ =>
    thn (ho pins s2 σ H2 x y v u _ I2 r1 r2 q2) fun c s3 ⟨z, H3, I3, r3, k, e, q3⟩ => ?_) hm
  subst e
  cases r3
  exact wpAny_truthy_bool ⟨H3, I3, q3⟩
/-- a op1 b op2 c -/
def tChain (r r' : R2) (ta tb tc : TE) : TE := fun σ H Q => ta σ H fun x H1 => tb σ H1 fun y H2 => r x y H2 fun z H3 => ∃ k, z = .bl k ∧
  (if k = true then tc σ H3 fun w' H4 => r' y w' H4 Q else Q (.bl false) H3)
theorem pe_chain {op op' : CmpOp} {r r' : R2} (ho : OpR X (compareOp op) r) (ho' : OpR X (compareOp op') r') (ha : PE X a ta) (hb : PE X b tb) (hc : PE X c tc)
    (hm : lastMarks [op, op'] [b, c] = false := by with_unfolding_all rfl) : PE X (.Compare a [op, op'] [b, c] pos) (tChain r r' ta tb tc) := by
  intro pins s σ H Q I h
  refine Compare_chain (thn (ha pins s σ H _ I h) fun v s1 ⟨x, H1, I1, r1, q1⟩ => chain_link (thn (hb pins s1 σ H1 _ I1 q1) fun u s2 ⟨y, H2, I2, r2, q2⟩ =>
    thn (ho pins s2 σ H2 x y v u _ I2 r1 r2 q2) fun d s3 ⟨z, H3, I3, r3, k, e, q3⟩ => ?_)) hm
  subst e
  cases r3
  refine wpAny_truthy_bool ?_
  cases k with
  | false => exact ite_ff ⟨.bl false, H3, I3, rfl, q3⟩
  | true => exact ite_tt (chain_last (thn (hc pins s3 σ H3 _ I3 q3) fun w' s4 ⟨z', H4, I4, r4, q4⟩ => ho' pins s4 σ H4 y z' u w' Q I4 r2 r4 q4))

/-! ### truth -/
/-- a value's truth by the abstract heap -/
def TruV (K : PySem.W.Frag) (x : V) (H : Hp) (k : Bool) : Prop :=
  match x with
  | .non => k = false
  | .bl b => k = b
  | .int i => k = (i != 0)
  | .str y => y.length ≤ sizeLine ∧ k = ((y.length : Int) != 0)
  | .byt y => y.size ≤ sizeLine ∧ k = ((y.size : Int) != 0)
  | .ref p => (∃ xs, SqL K H p xs ∧ k = !xs.isEmpty) ∨ (∃ xs, SqT K H p xs ∧ k = !xs.isEmpty) ∨ ∃ kvs, H p = some (.dK kvs) ∧ k = !kvs.isEmpty
  | _ => False
theorem line63 : (sizeLine : Nat) < 2 ^ 63 := by rw [sizeLine_eq]; decide

/-! ### strs and bytes -/

def PlainIxT (b : Expr) : Prop := ∀ o i, subscripted b false o i = operate [o, i] (getItem o i)

/-! ### scalar builtins, by CallR -/
theorem vals1 {x : V} {us : List Value} (r : Vals [x] us) : ∃ u, us = [u] ∧ RelV x u := by
  cases r with
  | cons r1 r2 => cases r2; exact ⟨_, rfl, r1⟩
theorem vals2 {x y : V} {us : List Value} (r : Vals [x, y] us) : ∃ u w', us = [u, w'] ∧ RelV x u ∧ RelV y w' := by
  cases r with
  | cons r1 r2 =>
    cases r2 with
    | cons r3 r4 => cases r4; exact ⟨_, _, rfl, r1, r3⟩
theorem call_max2 (hc : X.calm = true) : CallR X (.builtin "max") (fun xs H Q => ∃ i j, xs = [.int i, .int j] ∧ Q (.int (if j > i then j else i)) H) := by
  intro pins s σ H xs us Q I r h
  obtain ⟨i, j, rfl, q⟩ := h
  obtain ⟨u, w', rfl, ⟨t, rfl⟩, ⟨t', rfl⟩⟩ := vals2 r
  refine max_two_ints (I.ok.hd hc) fun h' tk k => ⟨_, H, I.kept k, ?_, q⟩
  by_cases hj : j > i
  · rw [if_pos hj, if_pos hj]; exact ⟨_, rfl⟩
  · rw [if_neg hj, if_neg hj]; exact ⟨_, rfl⟩
theorem call_min2 (hc : X.calm = true) : CallR X (.builtin "min") (fun xs H Q => ∃ i j, xs = [.int i, .int j] ∧ Q (.int (if j < i then j else i)) H) := by
  intro pins s σ H xs us Q I r h
  obtain ⟨i, j, rfl, q⟩ := h
  obtain ⟨u, w', rfl, ⟨t, rfl⟩, ⟨t', rfl⟩⟩ := vals2 r
  refine min_two_ints (I.ok.hd hc) fun h' tk k => ⟨_, H, I.kept k, ?_, q⟩
  by_cases hj : j < i
  · rw [if_pos hj, if_pos hj]; exact ⟨_, rfl⟩
  · rw [if_neg hj, if_neg hj]; exact ⟨_, rfl⟩
/-- len of a str, a bytes, a list, a tuple -/
def LenV (K : PySem.W.Frag) (x : V) (H : Hp) (n : Nat) : Prop :=
  match x with
  | .str y => y.length ≤ sizeLine ∧ n = y.length
  | .byt y => y.size ≤ sizeLine ∧ n = y.size
  | .ref p => (∃ xs, SqL K H p xs ∧ n = xs.length) ∨ ∃ xs, SqT K H p xs ∧ n = xs.length
  | _ => False
end
end L2

namespace L2
open PySem PySem.Spec PyProof.Rows

/-! ### an instance, its attributes a map -/
structure ObjM (h : Heap) (x dx C : Addr) (mA : Str → Option Value) : Prop where
  obj : h.get? x = some (PySem.W.instObj C dx)
  ns : h.Ns1 dx mA
  ne : dx ≠ x

theorem lookIn_ns {h : Heap} {dx : Addr} {mA : Str → Option Value} (n : h.Ns1 dx mA) : ∃ od, h.get? dx = some od ∧ ∀ name, PySem.W.lookIn name od = some (mA name) := by
  obtain ⟨o, es, ep, ho, hd, hk, _, hm⟩ := n
  refine ⟨o, ho, fun name => ?_⟩
  have e := hm name
  unfold nsFind findBy at e
  rw [← Array.find?_toList] at e
  unfold PySem.W.lookIn
  rw [hd]
  dsimp only
  split
  · rename_i y q
    rw [q] at e
    exact congrArg some e
  · rename_i q
    rw [q] at e
    have a : es.toList.any (·.refKey) = false := by
      rw [List.any_eq_false]
      intro y hy
      obtain ⟨z, t, hkey⟩ := hk y (Array.mem_toList_iff.mp hy)
      simp [DictEntry.refKey, hkey]
    have a' : ¬ es.toList.any (·.refKey) = true := by rw [a]; exact Bool.false_ne_true
    rw [if_neg a']
    exact congrArg some e

theorem ObjM.look {h : Heap} {x dx C : Addr} {mA : Str → Option Value} (I : ObjM h x dx C mA) : ∃ od, PySem.W.InstAt h x (PySem.W.instObj C dx) C (some od) ∧ ∀ name, PySem.W.lookIn name od = some (mA name) :=
  let ⟨od, ho, hl⟩ := lookIn_ns I.ns
  ⟨od, ⟨I.obj, rfl, rfl, ho⟩, hl⟩

section
variable {prog : Program} {w : World} {A : Around} {E : Value → Shared → Prop} {s : Shared} {K : PySem.W.Frag} {x dx C f : Addr} {mA : Str → Option Value} {name : Str} {v : Value}

theorem get_map {expr : Bool} {Q : Value → Shared → Prop} (X : K.In s.heap) (I : ObjM s.heap x dx C mA) (hg : PySem.W.plainGet K C name = true) (hh : PySem.W.hasDictIn K C = true)
    (ha : PySem.W.findIn K (.ref C) name = some none) (hv : mA name = some v) (hv' : PySem.W.handedIn v = true) (h : Q v { s with toks := s.toks + 1 }) :
    wpAny (model prog w) A (getAttr (.ref x) name expr) Q E s := by
  obtain ⟨od, J, hl⟩ := I.look
  exact PySem.W.get_value X J (PySem.W.plainGet_of hg).1 (PySem.W.findObj_own hh ha rfl (by rw [hl, hv])) hv' h


theorem get_meth {pl : Sem Bool} {Q : Value × List Value → Shared → Prop} (X : K.In s.heap) (I : ObjM s.heap x dx C mA) (hg : PySem.W.plainGet K C name = true)
    (hf : PySem.W.findIn K (.ref C) name = some (some (.ref f))) (ht : PySem.W.isFn K (.ref f) = true) (hv : mA name = none) (h : Q (.ref f, [.ref x]) s) :
    wpAny (model prog w) A (getMethod (.ref x) name pl) Q E s := by
  obtain ⟨od, J, hl⟩ := I.look
  exact PySem.W.method_fn X J (PySem.W.plainGet_of hg).1 (PySem.W.plainGet_of hg).2 hf (beq_iff_eq.mp ht) (by show (PySem.W.lookIn name od).map (·.isSome) = some false; rw [hl, hv]; rfl) h

theorem set_map {ns : List Str} {Q : Unit → Shared → Prop} (X : K.In s.heap) (I : ObjM s.heap x dx C mA)
    (hs : PySem.W.findIn K (.ref C) "__setattr__" = some (some (.builtin "object.__setattr__"))) (hp : PySem.W.plainOver K C = true) (ht : PySem.W.takerIn K C name = some none) (hh : PySem.W.hasDictIn K C = true)
    (hw : PySem.Within mA ns) (hsz : ns.length ≤ sizeLine)
    (h : ∀ h', ObjM h' x dx C (fun y => if y = name then some v else mA y) → Heap.SameBut dx s.heap h' → Q () { s with heap := h', toks := s.toks + 2 }) :
    wpAny (model prog w) A (setAttr (.ref x) name v) Q E s := by
  obtain ⟨od, J, hl⟩ := I.look
  refine PySem.W.set_plain X J hs (PySem.W.osa_open (s := { s with toks := s.toks + 1 }) (r := none) X J hp ht fun b => ?_)
  obtain ⟨cd, hc, hd'⟩ := PySem.W.any_some hh
  have hx : s.heap.get? x = some ⟨.ref C, some dx, .plain, #[]⟩ := I.obj
  refine wpAny_bind (wpAny_pure (wpAny_bind (wpAny_bind (wpAny_loadPart hx (wpAny_bind (PySem.W.Looks.here (s := { s with toks := s.toks + 1 }) (PySem.W.looks_clsIn X hc) ?_))))))
  rw [hd']
  refine wpAny_pure (a := some dx) (wpAny_bind (wpAny_pure (wpAny_bind ?_)))
  refine wpAny_nsSet1 (s := { s with toks := s.toks + 1 }) I.ns fun h' hn2 hs2 => ?_
  obtain ⟨oD, esD, epD, hoD, hdD, hcD⟩ := hn2.count (PySem.Within.cons name v hw)
  refine wpAny_bind (wpAny_lookBehind hoD (by rw [hdD]; exact pastItsLine_dict (Nat.le_trans hcD (by rw [List.length_cons]; omega))) ?_)
  exact wpAny_pure (h _ ⟨(hs2.2 _ (Ne.symm I.ne)).trans I.obj, hn2, I.ne⟩ hs2)

/-- C(..): the dict at the heap's end, the instance behind it; then its __init__ -/
theorem make_map {R : Result → Shared → Prop} {vs : List Value} {kw : List (Str × Value)} (X : K.In s.heap) (hm : PySem.W.makesIn K C = true)
    (hi : PySem.W.findIn K (.ref C) "__init__" = some (some (.ref f))) (hf : PySem.W.typeIn K (.ref f) = some (.type "function"))
    (h : codeAny (model prog w) (A.under (.builtin "type.__call__" ⟨.ref C :: vs, kw⟩)) (.call (.ref f) ⟨.ref (s.heap.objs.size + 1) :: vs, kw⟩) (PySem.W.InitBack (s.heap.objs.size + 1) R)
      { s with heap := (s.heap.push PySem.W.emptyDict).push (PySem.W.instObj C s.heap.objs.size) }) :
    codeAny (model prog w) A (.call (.ref C) ⟨vs, kw⟩) R s := by
  obtain ⟨hh, g, d, t, os⟩ := s
  exact PySem.W.make_core (PySem.W.makes_of X hm) (PySem.W.looks_findIn X hi) (fun self => PySem.W.bind_fn X self hf) (.inl rfl) h
end

/-! ### the attributes as a list of pairs -/
def putF (f : Str) (v : V) : List (Str × V) → List (Str × V)
  | [] => [(f, v)]
  | (g, x) :: r => if g = f then (g, v) :: r else (g, x) :: putF f v r
theorem lookup_putF (f g : Str) (v : V) : ∀ fs : List (Str × V), (putF f v fs).lookup g = if g = f then some v else fs.lookup g
  | [] => by
    show List.lookup g [(f, v)] = _
    by_cases h : g = f
    · have hb : (g == f) = true := beq_iff_eq.mpr h
      simp only [List.lookup, hb, if_pos h]
    · have hb : (g == f) = false := beq_eq_false_iff_ne.mpr h
      simp only [List.lookup, hb, if_neg h]
  | (k, x) :: r => by
    have ih := lookup_putF f g v r
    rw [show putF f v ((k, x) :: r) = (if k = f then (k, v) :: r else (k, x) :: putF f v r) from rfl]
    by_cases hk : k = f
    · rw [if_pos hk]
      by_cases h : g = k
      · have hb : (g == k) = true := beq_iff_eq.mpr h
        simp only [List.lookup, hb, if_pos (h.trans hk)]
      · have hb : (g == k) = false := beq_eq_false_iff_ne.mpr h
        simp only [List.lookup, hb, if_neg (fun e : g = f => h (e.trans hk.symm))]
    · rw [if_neg hk]
      by_cases h : g = k
      · have hb : (g == k) = true := beq_iff_eq.mpr h
        simp only [List.lookup, hb, if_neg (fun e : g = f => hk (h.symm.trans e))]
      · have hb : (g == k) = false := beq_eq_false_iff_ne.mpr h
        simp only [List.lookup, hb]
        exact ih
theorem keys_putF (f : Str) (v : V) : ∀ fs : List (Str × V), f ∈ (putF f v fs).map (·.1) ∧ ∀ g, g ∈ fs.map (·.1) → g ∈ (putF f v fs).map (·.1)
  | [] => ⟨by simp [putF], fun g h => by simp at h⟩
  | (k, x) :: r => by
    obtain ⟨i1, i2⟩ := keys_putF f v r
    rw [show putF f v ((k, x) :: r) = (if k = f then (k, v) :: r else (k, x) :: putF f v r) from rfl]
    by_cases hk : k = f
    · rw [if_pos hk]
      subst hk
      exact ⟨by simp, fun g h => by simpa using h⟩
    · rw [if_neg hk]
      refine ⟨?_, fun g h => ?_⟩
      · rw [List.map_cons]
        exact List.mem_cons_of_mem _ i1
      · rw [List.map_cons] at h ⊢
        rcases List.mem_cons.mp h with e | e
        · exact List.mem_cons.mpr (.inl e)
        · exact List.mem_cons_of_mem _ (i2 g e)
theorem length_putF (f : Str) (v : V) : ∀ fs : List (Str × V), (putF f v fs).length ≤ fs.length + 1
  | [] => by simp [putF]
  | (k, x) :: r => by
    have ih := length_putF f v r
    rw [show putF f v ((k, x) :: r) = (if k = f then (k, v) :: r else (k, x) :: putF f v r) from rfl]
    by_cases hk : k = f
    · rw [if_pos hk, List.length_cons, List.length_cons]; omega
    · rw [if_neg hk, List.length_cons, List.length_cons]; omega

theorem RelO.some_of {v : V} {o : Option Value} (r : RelO (some v) o) : ∃ u, o = some u ∧ RelV v u := by
  cases o with
  | none => exact (show False from r).elim
  | some u => exact ⟨u, rfl, r⟩
theorem RelO.none_of {o : Option Value} (r : RelO none o) : o = none := by
  cases o with
  | none => rfl
  | some u => exact (show False from r).elim
theorem handed_of {v : V} {u : Value} (r : RelV v u) : PySem.W.handedIn u = true := by
  cases v with
  | non => cases (show u = Value.none from r); rfl
  | bl b => cases (show u = Value.bool b from r); rfl
  | int i => obtain ⟨t, e⟩ := (show ∃ t, u = Value.int i t from r); cases e; rfl
  | str x => obtain ⟨t, e⟩ := (show ∃ t, u = Value.str x t from r); cases e; rfl
  | byt b => obtain ⟨t, e⟩ := (show ∃ t, u = Value.bytes b t from r); cases e; rfl
  | flt b => obtain ⟨t, e⟩ := (show ∃ t, u = Value.float b t from r); cases e; rfl
  | ref a => cases (show u = Value.ref a from r); rfl
  | ty n => cases (show u = Value.type n from r); rfl

section
variable {P : Program} {w : World} {H H' : Hp} {h h' : Heap} {a C dx : Addr} {fs fs' : List (Str × V)}
theorem ins_get (hok : HOk P w H h) (e : H a = some (.ins C dx fs)) : ∃ mA, ObjM h a dx C mA ∧ (∀ f, RelO (fs.lookup f) (mA f)) ∧ PySem.Within mA (fs.map (·.1)) ∧ fs.length ≤ 1000 ∧ H dx = some (.own a) := by
  obtain ⟨d, z, ne, ob, mA, n, r, q⟩ := (show ObjOk P w H h a (.ins C dx fs) from hok a _ e)
  exact ⟨mA, ⟨ob, n, ne⟩, r, q, z, d⟩
end

/-! ### what of the text a class must have -/
structure Cls (K : PySem.W.Frag) (C : Addr) : Prop where
  pg : PySem.W.plainGet K C Str.empty = true
  hd : PySem.W.hasDictIn K C = true
  po : PySem.W.plainOver K C = true
  sa : PySem.W.findIn K (.ref C) "__setattr__" = some (some (.builtin "object.__setattr__"))
theorem Cls.get {K : PySem.W.Frag} {C : Addr} (c : Cls K C) (f : Str) : PySem.W.plainGet K C f = true := c.pg
/-- no class of it has the name -/
def NoAttr (K : PySem.W.Frag) (C : Addr) (f : Str) : Prop := PySem.W.findIn K (.ref C) f = some none
theorem NoAttr.taker {K : PySem.W.Frag} {C : Addr} {f : Str} (n : NoAttr K C f) : PySem.W.takerIn K C f = some none := by
  unfold PySem.W.takerIn
  rw [show PySem.W.findIn K (.ref C) f = some none from n]
  rfl
/-- a constant of the class -/
structure Con (K : PySem.W.Frag) (C : Addr) (f : Str) (v : V) (u : Value) : Prop where
  at_ : PySem.W.findIn K (.ref C) f = some (some u)
  rel : RelV v u
  get : PySem.W.specialIn K u "__get__" = some none
  cp : PySem.W.copiedNames.contains f = false
/-- a method: a plain def of the class or of one above it -/
structure Meth (K : PySem.W.Frag) (C : Addr) (m : Str) (f : Addr) : Prop where
  at_ : PySem.W.findIn K (.ref C) m = some (some (.ref f))
  fn : PySem.W.isFn K (.ref f) = true
  kp : PySem.W.keepIn K (.ref f) = true

section
variable {X : Cx} {pins : List (Addr × Obj)} {σ : St} {H : Hp} {s : Shared} {a C dx : Addr} {fs : List (Str × V)} {f : Str} {v : V} {A : Around} {E : Value → Shared → Prop}

theorem getattr_ok {b : Bool} {Q : Value → Shared → Prop} (I : Inv X pins σ H s) (e : H a = some (.ins C dx fs)) (c : Cls X.K C) (n : NoAttr X.K C f) (l : fs.lookup f = some v)
    (h : ∀ u s', Inv X pins σ H s' → RelV v u → Q u s') : wpAny (model X.prog X.w) A (getAttr (.ref a) f b) Q E s := by
  obtain ⟨mA, O, r, _, _, _⟩ := ins_get I.hok e
  obtain ⟨u, hu, ru⟩ := RelO.some_of (v := v) (o := mA f) (by rw [← l]; exact r f)
  exact get_map I.kIn O (c.get f) c.hd n hu (handed_of ru) (h u _ (I.tok _) ru)


theorem getmeth_ok {m : Str} {g : Addr} {pl : Sem Bool} {Q : Value × List Value → Shared → Prop} (I : Inv X pins σ H s) (e : H a = some (.ins C dx fs)) (c : Cls X.K C) (k : Meth X.K C m g) (l : fs.lookup m = none)
    (h : Q (.ref g, [.ref a]) s) : wpAny (model X.prog X.w) A (getMethod (.ref a) m pl) Q E s := by
  obtain ⟨mA, O, r, _, _, _⟩ := ins_get I.hok e
  have hn : mA m = none := RelO.none_of (by rw [← l]; exact r m)
  exact get_meth I.kIn O (c.get m) k.at_ k.fn hn h

theorem setattr_ok {y : V} {u : Value} {Q : Unit → Shared → Prop} (I : Inv X pins σ H s) (e : H a = some (.ins C dx fs)) (c : Cls X.K C) (n : NoAttr X.K C f) (hl : fs.length < 1000) (ry : RelV y u)
    (h : ∀ s', Inv X pins σ (upd H a (.ins C dx (putF f y fs))) s' → Q () s') : wpAny (model X.prog X.w) A (setAttr (.ref a) f u) Q E s := by
  obtain ⟨mA, O, r, wi, _, ho⟩ := ins_get I.hok e
  have hz : (fs.map (·.1)).length ≤ sizeLine := by rw [List.length_map, sizeLine_eq]; omega
  refine set_map I.kIn O c.sa c.po n.taker c.hd wi hz fun h' O' sb => h _ ?_
  have hd : ∃ o, h'.get? dx = some o := let ⟨o, _, _, e', _⟩ := O'.ns; ⟨o, e'⟩
  refine I.write (x := a) (e := dx) (by rw [e]; exact True.intro) (.inr ho) (fun b q hb z => (sb.2 b hb).trans z) hd ?_
  refine ⟨by rw [upd_ne O.ne]; exact ho, ?_, O.ne, O'.obj, _, O'.ns, fun g => ?_, fun g hg => ?_⟩
  · have := length_putF f y fs; omega
  · show RelO ((putF f y fs).lookup g) (if g = f then some u else mA g)
    rw [lookup_putF]
    by_cases q : g = f
    · rw [if_pos q, if_pos q]; exact ry
    · rw [if_neg q, if_neg q]; exact r g
  · by_cases q : g = f
    · rw [q]; exact (keys_putF f y fs).1
    · refine (keys_putF f y fs).2 g (wi g fun z => hg ?_)
      show (if g = f then some u else mA g) = none
      rw [if_neg q]; exact z

/-- a new instance, tracked, without attributes -/
theorem Inv.made (I : Inv X pins σ H s) : Inv X pins σ (upd (upd H s.heap.objs.size (.own (s.heap.objs.size + 1))) (s.heap.objs.size + 1) (.ins C s.heap.objs.size []))
    { s with heap := (s.heap.push PySem.W.emptyDict).push (PySem.W.instObj C s.heap.objs.size) } := by
  have e1 : (s.heap.push PySem.W.emptyDict).get? s.heap.objs.size = some PySem.W.emptyDict := Heap.get?_push_size s.heap rfl
  have e2 : ((s.heap.push PySem.W.emptyDict).push (PySem.W.instObj C s.heap.objs.size)).get? (s.heap.objs.size + 1) = some (PySem.W.instObj C s.heap.objs.size) := by
    have := Heap.get?_push_size (s.heap.push PySem.W.emptyDict) (o := PySem.W.instObj C s.heap.objs.size) rfl
    rwa [Heap.size_push] at this
  have e3 : (s.heap.push PySem.W.emptyDict).Ns s.heap.objs.size (fun _ => none) := ⟨PySem.W.emptyDict, #[], _, e1, rfl, (fun e he => absurd he (by simp)), fun _ => rfl⟩
  have I1 := I.laid (a := s.heap.objs.size) (o := .own (s.heap.objs.size + 1)) (h' := s.heap.push PySem.W.emptyDict) (t' := s.toks) (fun b u q => Heap.get?_push_of_some _ q) (Nat.le_refl _) ⟨_, e1⟩
  refine I1.laid (a := s.heap.objs.size + 1) (o := .ins C s.heap.objs.size []) (t' := s.toks) (fun b u q => Heap.get?_push_of_some _ q) (Nat.le_of_eq (Heap.size_push _ _)) ?_
  have ne : s.heap.objs.size ≠ s.heap.objs.size + 1 := Nat.ne_of_lt (Nat.lt_succ_self _)
  refine ⟨by rw [upd_ne ne, upd_same], Nat.zero_le _, ne, e2, fun _ => none, (Heap.Ns1.of_empty e3).at fun o q => Heap.get?_push_of_some _ q, fun _ => True.intro, fun y hy => absurd rfl hy⟩

/-- e.f where nothing but the object is asked: through attributeBase (super) and the last hold -/
theorem attr_of {prog : Program} {w : World} {env : Env} {e : Expr} {f : Str} {pos : Pos} {s : Shared} {Q : Value → Shared → Prop} (hb : attributeBase e f env (eval e env) = eval e env)
    (h : wpAny (model prog w) A (eval e env) (fun o s₁ => wpAny (model prog w) A (getAttr o f true) Q E s₁) E s) : wpAny (model prog w) A (eval (.Attribute e f pos) env) Q E s :=
  Attribute_any_ h (by rw [arm_eval_Attribute, hb])
end

/-! ### readings and rules -/
/-- e.f, an attribute of the instance -/
def tFld (K : PySem.W.Frag) (ta : TE) (f : Str) : TE := fun σ H Q => ta σ H fun x H1 => ∃ a C dx fs v, x = .ref a ∧ H1 a = some (.ins C dx fs) ∧ Cls K C ∧ NoAttr K C f ∧ fs.lookup f = some v ∧ Q v H1
/-- e.f, a constant of the class -/
def tCon (K : PySem.W.Frag) (ta : TE) (f : Str) : TE := fun σ H Q => ta σ H fun x H1 => ∃ a C dx fs v u, x = .ref a ∧ H1 a = some (.ins C dx fs) ∧ Cls K C ∧ Con K C f v u ∧ fs.lookup f = none ∧ Q v H1
/-- e.f = value -/
def sFld (K : PySem.W.Frag) (ta tv : TE) (f : Str) : TS := fun D σ H => tv σ H fun y H1 => ta σ H1 fun x H2 => ∃ a C dx fs, x = .ref a ∧ H2 a = some (.ins C dx fs) ∧ Cls K C ∧ NoAttr K C f ∧ fs.length < 1000 ∧
  D.nx σ (upd H2 a (.ins C dx (putF f y fs)))
/-- an augmented operator on two values -/
def InOp (X : Cx) (op : Operator) (rd : V → V → Hp → VK → Prop) : Prop :=
  ∀ (pins : List (Addr × Obj)) (s : Shared) (σ : St) (H : Hp) (x y : V) (u v : Value) (Q : VK), Inv X pins σ H s → RelV x u → RelV y v → rd x y H Q → wpAny (model X.prog X.w) X.A (inplaceOp op u v) (EP X pins σ Q) X.xe s
/-- e.f op= value -/
def sFldAug (K : PySem.W.Frag) (ta tv : TE) (rd : V → V → Hp → VK → Prop) (f : Str) : TS := fun D σ H => ta σ H fun x H1 => ∃ a C dx fs v, x = .ref a ∧ H1 a = some (.ins C dx fs) ∧ Cls K C ∧ NoAttr K C f ∧ fs.lookup f = some v ∧
  tv σ H1 fun y H2 => rd v y H2 fun z H3 => ∃ dx' fs', H3 a = some (.ins C dx' fs') ∧ fs'.length < 1000 ∧ D.nx σ (upd H3 a (.ins C dx' (putF f z fs')))

section
variable {X : Cx} {o e value : Expr} {f : Str} {pos pos' tpos : Pos} {ta tv : TE}
theorem pe_fld (he : PE X e ta) (hb : attributeBase e f X.env (eval e X.env) = eval e X.env) : PE X (.Attribute e f pos) (tFld X.K ta f) := by
  intro pins s σ H Q I h
  refine attr_of hb (thn (he pins s σ H _ I h) fun u s1 ⟨x, H1, I1, rx, a, C, dx, fs, v, ex, ea, c, n, l, q⟩ => ?_)
  subst ex
  obtain rfl : u = Value.ref a := rx
  exact getattr_ok I1 ea c n l fun u' s2 I2 ru => ⟨v, H1, I2, ru, q⟩
theorem ps_fld (ha : PE X o ta) (hv : PE X value tv) (hs : swapsWith value (some (.Attribute o f pos')) pos.line X.env = pure false) : PS X (.Assign [.Attribute o f pos'] value pos) (sFld X.K ta tv f) := by
  intro pins s σ H D I h
  refine plainObj_wpAny_Assign_Attribute (thn (hv pins s σ H _ I h) fun u s1 ⟨y, H1, I1, ry, q⟩ => thn (ha pins s1 σ H1 _ I1 q) fun ov s2 ⟨x, H2, I2, rx, a, C, dx, fs, ex, ea, c, n, l, q2⟩ => ?_) hs
  subst ex
  obtain rfl : ov = Value.ref a := rx
  exact setattr_ok I2 ea c n l ry fun s3 I3 => ⟨σ, _, I3, q2⟩
def rAdd : V → V → Hp → VK → Prop := fun x y H Q => ∃ i j, x = .int i ∧ y = .int j ∧ Q (.int (i + j)) H
def rSub : V → V → Hp → VK → Prop := fun x y H Q => ∃ i j, x = .int i ∧ y = .int j ∧ Q (.int (i - j)) H

end

/-! ### isinstance -/
section
variable {X : Cx} {pins : List (Addr × Obj)} {σ : St} {H : Hp} {s : Shared} {A : Around} {E : Value → Shared → Prop} {Q : Value → Shared → Prop} {c : Value} {b : Bool}
/-- the type of a value, as the fragment's deciders take it; for an instance its class -/
inductive TyOf (K : PySem.W.Frag) (H : Hp) : V → Value → Prop where
  | non : TyOf K H .non (.type "NoneType")
  | bl (x : Bool) : TyOf K H (.bl x) (.type "bool")
  | int (i : Int) : TyOf K H (.int i) (.type "int")
  | str (x : Str) : TyOf K H (.str x) (.type "str")
  | flt (x : UInt64) : TyOf K H (.flt x) (.type "float")
  | lst {a : Addr} {xs : List V} (e : H a = some (.lst xs)) : TyOf K H (.ref a) (.type "list")
  | frz {a : Addr} {o : Obj} {xs : List V} (e : H a = some (.frz o (.lst xs))) : TyOf K H (.ref a) (.type "list")
  | tup {a : Addr} {xs : List V} (e : H a = some (.tup xs)) : TyOf K H (.ref a) (.type "tuple")
  | dK {a : Addr} {kvs : List (Key × V)} (e : H a = some (.dK kvs)) : TyOf K H (.ref a) (.type "dict")
  | dT {a : Addr} {kvs : List (List Key × V)} (e : H a = some (.dT kvs)) : TyOf K H (.ref a) (.type "dict")
  | ins {a C dx : Addr} {fs : List (Str × V)} (e : H a = some (.ins C dx fs)) (cl : Cls K C) (ha : PySem.W.findIn K (.ref C) "__class__" = some (some (.builtin "object.__class__")))
      (hn : PySem.W.specialIn K (.builtin "object.__class__") "__get__" = some (some (.builtin "getset_descriptor.__get__"))) (htk : PySem.W.takesIn K (.builtin "object.__class__") = some true)
      (hm : PySem.W.mroIn K C (.type "object") = some true) : TyOf K H (.ref a) (.ref C)
/-- isinstance(x, c) for one class c, a built-in or an own one: kitOne's answer -/
theorem isinst_ok {x : V} {u t : Value} (I : Inv X pins σ H s) (rx : RelV x u) (ty : TyOf X.K H x t) (e : PySem.W.kitOne X.K t c = some b) (h : ∀ tk, Q (.bool b) { s with toks := tk }) :
    wpAny (model X.prog X.w) A (call (.builtin "isinstance") [u, c]) Q E s := by
  cases ty with
  | non => cases (show u = Value.none from rx); exact PySem.W.kia_one PySem.W.kitx_none I.kIn True.intro e (fun z => nomatch z) h
  | bl y => cases (show u = Value.bool y from rx); exact PySem.W.kia_one PySem.W.kitx_bool I.kIn True.intro e (fun z => nomatch z) h
  | int i => obtain ⟨t, q⟩ := (show ∃ t, u = Value.int i t from rx); cases q; exact PySem.W.kia_one PySem.W.kitx_int I.kIn True.intro e (fun z => nomatch z) h
  | str y => obtain ⟨t, q⟩ := (show ∃ t, u = Value.str y t from rx); cases q; exact PySem.W.kia_one PySem.W.kitx_str I.kIn True.intro e (fun z => nomatch z) h
  | flt y => obtain ⟨t, q⟩ := (show ∃ t, u = Value.float y t from rx); cases q; exact PySem.W.kia_one PySem.W.kitx_float I.kIn True.intro e (fun z => nomatch z) h
  | @lst a xs ea =>
    cases (show u = Value.ref a from rx)
    obtain ⟨_, _, n, _, h1⟩ := (show ObjOk X.prog X.w H s.heap a (.lst xs) from I.hok a _ ea)
    exact PySem.W.kia_one PySem.W.kitx_list I.kIn ⟨_, h1, rfl⟩ e (fun z => nomatch z) h
  | @frz a ob xs ea =>
    cases (show u = Value.ref a from rx)
    obtain ⟨_, _, _, n, _, h1⟩ := (show ObjOk X.prog X.w H s.heap a (.frz ob (.lst xs)) from I.hok a _ ea)
    exact PySem.W.kia_one PySem.W.kitx_list I.kIn ⟨_, h1, rfl⟩ e (fun z => nomatch z) h
  | @tup a xs ea =>
    cases (show u = Value.ref a from rx)
    obtain ⟨_, _, _, p⟩ := (show ObjOk X.prog X.w H s.heap a (.tup xs) from I.hok a _ ea)
    obtain ⟨o, h1, h2, _⟩ := p
    exact PySem.W.kia_one PySem.W.kitx_tuple I.kIn ⟨o, h1, h2⟩ e (fun z => nomatch z) h
  | @dK a kvs ea =>
    cases (show u = Value.ref a from rx)
    obtain ⟨_, _, vs, _, p⟩ := (show ObjOk X.prog X.w H s.heap a (.dK kvs) from I.hok a _ ea)
    obtain ⟨o, es, ep, h1, h2, _⟩ := p
    exact PySem.W.kia_one PySem.W.kitx_dict I.kIn ⟨o, h1, h2.1⟩ e (fun z => nomatch z) h
  | @dT a kvs ea =>
    cases (show u = Value.ref a from rx)
    obtain ⟨_, _, xs, _, o, es, ep, h1, h2, _⟩ := (show ObjOk X.prog X.w H s.heap a (.dT kvs) from I.hok a _ ea)
    exact PySem.W.kia_one PySem.W.kitx_dict I.kIn ⟨o, h1, h2.1⟩ e (fun z => nomatch z) h
  | @ins a C dx fs ea cl ha hn htk hm =>
    cases (show u = Value.ref a from rx)
    obtain ⟨mA, O, _⟩ := ins_get I.hok ea
    obtain ⟨od, J, _⟩ := O.look
    exact PySem.W.kia_one (PySem.W.kitx_own (cl.get _) cl.hd ha hn htk hm) I.kIn J e (fun z => nomatch z) h
end
end L2

namespace L2
open PySem PySem.Spec PyProof.Rows

/-! ### room -/
structure Room (k : Nat) (A : Around) : Prop where
  hd : A.handled = none
  dp : A.depth + 3 * k + 5 < recursionLimit
  un : A.units + 16 * k + 200 < cLine
theorem Room.mono {j k : Nat} {A : Around} (r : Room k A) (h : j ≤ k) : Room j A := ⟨r.hd, by have := r.dp; omega, by have := r.un; omega⟩
theorem Room.deeper {k : Nat} {A : Around} (r : Room (k + 1) A) (env : Env) : Room k (A.deeper env) :=
  ⟨r.hd, by have := r.dp; show A.depth + 1 + 3 * k + 5 < _; omega, by have := r.un; show A.units + 3 + 16 * k + 200 < _; omega⟩
theorem Room.in1 {k : Nat} {A : Around} (r : Room (k + 1) A) : Room k A.in1 :=
  ⟨r.hd, by have := r.dp; show A.depth + 3 * k + 5 < _; omega, by have := r.un; show A.units + 1 + 16 * k + 200 < _; omega⟩
theorem make_depth {A : Around} {C : Addr} {us : List Value} {kw : List (Str × Value)} : (A.under (.builtin "type.__call__" ⟨.ref C :: us, kw⟩)).depth = A.depth + 1 := by
  first | rfl | simp [Around.under, Code.weight, Code.isCreation, Code.isGuard, Code.isCaller, Code.frames, Code.isFrame, guardIds]
theorem make_units {A : Around} {C : Addr} {us : List Value} {kw : List (Str × Value)} : (A.under (.builtin "type.__call__" ⟨.ref C :: us, kw⟩)).units = A.units + 1 := by
  first | rfl | simp [Around.under, Code.cUnits, Code.frames, Code.isFrame]
theorem Room.make {k : Nat} {A : Around} (r : Room (k + 1) A) (C : Addr) (us : List Value) (kw : List (Str × Value)) : Room k (A.under (.builtin "type.__call__" ⟨.ref C :: us, kw⟩)) :=
  ⟨r.hd, by have := r.dp; rw [make_depth]; omega, by have := r.un; rw [make_units]; omega⟩
theorem Room.depth {k : Nat} {A : Around} (r : Room k A) : A.depth < recursionLimit := by have := r.dp; omega
theorem Room.units {k : Nat} {A : Around} (r : Room k A) : A.units + 64 < cLine := by have := r.un; omega

/-! ### argument lists and displays -/
def tNil : TA := fun _ H Q => Q [] H
def tCons (ta : TE) (tr : TA) : TA := fun σ H Q => ta σ H fun x H1 => tr σ H1 fun xs H2 => Q (x :: xs) H2
section
variable {X : Cx} {e : Expr} {es : List Expr} {te : TE} {t : TA} {pos : Pos}
theorem pa_nil : PA X [] tNil := fun _ _ _ _ H Q I h => Calls.spliced_nil ⟨[], H, I, .nil, h⟩
theorem pa_cons (ha : PE X e te) (hr : PA X es t) (hs : starEach (e :: es) X.env = (false, eval e X.env) :: starEach es X.env := by rfl) : PA X (e :: es) (tCons te t) := by
  intro pos pins s σ H Q I h
  rw [hs]
  show wpAny _ _ (spliced ((false, eval e X.env) :: backTo pos (starEach es X.env))) _ _ s
  refine Calls.spliced_cons (thn (ha pins s σ H _ I h) fun u s1 ⟨x, H1, I1, r1, q1⟩ => ?_)
  exact thn (hr pos pins s1 σ H1 _ I1 q1) fun us s2 ⟨xs, H2, I2, r2, q2⟩ => ⟨x :: xs, H2, I2, .cons r1 r2, q2⟩

/-- a tuple, a list of written items -/
def tTup (t : TA) : TE := fun σ H Q => t σ H fun xs H1 => xs.length ≤ sizeLine ∧ ∀ p, H1 p = none → Q (.ref p) (upd H1 p (.tup xs))
def tLst (t : TA) : TE := fun σ H Q => t σ H fun xs H1 => xs.length ≤ sizeLine ∧ ∀ p, H1 p = none → Q (.ref p) (upd H1 p (.lst xs))
theorem pe_tup {x1} (h : PA X es t) : PE X (.Tuple es x1 pos) (tTup t) := by
  intro pins s σ H Q I hq
  refine wpAny_Tuple_spliced (thn (h pos pins s σ H _ I hq) fun us s1 ⟨xs, H1, I1, r, z, q⟩ => ⟨by rw [← r.length]; exact z, ?_⟩)
  have hf : H1 s1.heap.objs.size = none := I1.hok.fresh (Nat.le_refl _)
  refine ⟨.ref s1.heap.objs.size, upd H1 s1.heap.objs.size (.tup xs), I1.laid (t' := s1.toks) (fun b u e => Heap.get?_push_of_some _ e) (Nat.le_refl _) ?_, rfl, q _ hf⟩
  exact ⟨z, us, r, ⟨_, Heap.get?_push_size _ rfl, rfl, _, rfl⟩⟩
theorem pe_lst (h : PA X es t) : PE X (.List es pos) (tLst t) := by
  intro pins s σ H Q I hq
  refine wpAny_List_spliced (thn (h pos pins s σ H _ I hq) fun us s1 ⟨xs, H1, I1, r, z, q⟩ => ⟨by rw [← r.length]; exact z, ?_⟩)
  have hf : H1 s1.heap.objs.size = none := I1.hok.fresh (Nat.le_refl _)
  refine ⟨.ref s1.heap.objs.size, upd H1 s1.heap.objs.size (.lst xs), I1.laid (t' := s1.toks) (fun b u e => Heap.get?_push_of_some _ e) (Nat.le_refl _) ?_, rfl, q _ hf⟩
  exact ⟨z, us, 0, r, Heap.get?_push_size _ rfl⟩
end

/-! ### what a def promises -/
/-- a def's promise: the bound arguments in the parameters' order, the heap, the wanted end, the wanted exception -/
abbrev Sp := List V → Hp → VK → XK → Prop
/-- how an exception lies behind a call (file 08 gives it): the callers' frames, abstract heap and state ahead of the call, the wish, the exception, the state -/
abbrev CXT := List Env → Hp → Shared → XK → Value → Shared → Prop

/-- the state at a call -/
structure Env0 (P : Program) (w : World) (K : PySem.W.Frag) (mg : Str → Option Value) (base : Heap) (A : Around) (outer : List Env) (s : Shared) (H : Hp) : Prop where
  frames : A.frames = some outer
  mod : Mod K mg base
  bs : ∀ b o, base.get? b = some o → s.heap.get? b = some o ∧ H b = none
  bsz : base.objs.size ≤ s.heap.objs.size
  funs : s.heap.FunFrames base outer
  frf : ∀ b ∈ frs outer, H b = none
  hok : HOk P w H s.heap
  bare : AllBare s.gens
/-- a call's end -/
def CE (outer : List Env) (P : Program) (w : World) (H : Hp) (s : Shared) (Q : VK) (u : Value) (s' : Shared) : Prop :=
  ∃ v H', s'.os = s.os ∧ AllBare s'.gens ∧ Un (frs outer) [] H H' s.heap s'.heap ∧ HOk P w H' s'.heap ∧ RelV v u ∧ Q v H'
def CR (CX : CXT) (outer : List Env) (P : Program) (w : World) (H : Hp) (s : Shared) (Q : VK) (E : XK) (r : Result) (s' : Shared) : Prop :=
  match r with
  | .ok (.ret u) => CE outer P w H s Q u s'
  | .ok _ => False
  | .error e => CX outer H s E e s'
structure FnOk (P : Program) (w : World) (K : PySem.W.Frag) (mg : Str → Option Value) (base : Heap) (CX : CXT) (k : Nat) (f : Addr) (fd : FuncData) (ps : List Str) (sp : Sp) : Prop where
  len : ∀ vs H Q E, sp vs H Q E → vs.length = ps.length
  run : ∀ (A : Around) (outer : List Env) (s : Shared) (H : Hp) (args : Args) (us : List Value) (vs : List V) (Q : VK) (E : XK), Room k A → Env0 P w K mg base A outer s H → BindsTo s fd args (ps.zip us) → Vals vs us → sp vs H Q E →
    codeAny (model P w) A (.call (.ref f) args) (CR CX outer P w H s Q E) s
theorem FnOk.mono {P : Program} {w : World} {K : PySem.W.Frag} {mg : Str → Option Value} {base : Heap} {CX : CXT} {j k : Nat} {f : Addr} {fd : FuncData} {ps : List Str} {sp : Sp} (F : FnOk P w K mg base CX j f fd ps sp) (h : j ≤ k) :
    FnOk P w K mg base CX k f fd ps sp := ⟨F.len, fun A outer s H args us vs Q E hr => F.run A outer s H args us vs Q E (hr.mono h)⟩
/-- a weaker promise -/
theorem FnOk.imp {P : Program} {w : World} {K : PySem.W.Frag} {mg : Str → Option Value} {base : Heap} {CX : CXT} {k : Nat} {f : Addr} {fd : FuncData} {ps : List Str} {sp sp' : Sp} (F : FnOk P w K mg base CX k f fd ps sp)
    (h : ∀ vs H Q E, sp' vs H Q E → sp vs H Q E) : FnOk P w K mg base CX k f fd ps sp' :=
  ⟨fun vs H Q E q => F.len vs H Q E (h _ _ _ _ q), fun A outer s H args us vs Q E hr he hb hv hs => F.run A outer s H args us vs Q E hr he hb hv (h _ _ _ _ hs)⟩

theorem Env0.make {P : Program} {w : World} {K : PySem.W.Frag} {mg : Str → Option Value} {base : Heap} {A : Around} {outer : List Env} {s : Shared} {H : Hp} (e : Env0 P w K mg base A outer s H) (C : Addr) (us : List Value) (kw : List (Str × Value)) :
    Env0 P w K mg base (A.under (.builtin "type.__call__" ⟨.ref C :: us, kw⟩)) outer s H := ⟨by first | exact e.frames | (simpa [Around.under, Code.envs, Code.isFrame, pushEnvs] using e.frames), e.mod, e.bs, e.bsz, e.funs, e.frf, e.hok, e.bare⟩
theorem Env0.in1 {P : Program} {w : World} {K : PySem.W.Frag} {mg : Str → Option Value} {base : Heap} {A : Around} {outer : List Env} {s : Shared} {H : Hp} (e : Env0 P w K mg base A outer s H) :
    Env0 P w K mg base A.in1 outer s H := ⟨e.frames, e.mod, e.bs, e.bsz, e.funs, e.frf, e.hok, e.bare⟩

section
variable {X : Cx} {pins : List (Addr × Obj)} {σ : St} {H : Hp} {s s' : Shared}
/-- from a body: what a callee wants -/
theorem Inv.env0 (I : Inv X pins σ H s) : Env0 X.prog X.w X.K X.mg X.base X.A X.stack s H :=
  ⟨I.ok.frames, I.ok.mod, I.bs, Nat.le_trans I.ok.bsz I.sz, I.stack, I.stkFree, I.hok, I.bare⟩
/-- behind a call -/
theorem Inv.after {Q : VK} {u : Value} (I : Inv X pins σ H s) (h : CE X.stack X.prog X.w H s Q u s') : EP X pins σ Q u s' := by
  obtain ⟨v, H', os, bare, un, hok, r, q⟩ := h
  obtain ⟨hh, g, d, t, os'⟩ := s'
  obtain rfl : os' = s.os := os
  exact ⟨v, H', I.call (h' := hh) (g' := g) (d' := d) (t' := t) (ch := []) un hok bare (fun b z => absurd z (by simp)), r, q⟩
end

/-! ### calls -/
/-- f(..): the written arguments, then the defaults dvs; E: what is wanted of an exception -/
def tCall (sp : Sp) (dvs : List V) (E : XK) (t : TA) : TE := fun σ H Q => t σ H fun vs H1 => sp (vs ++ dvs) H1 Q E
/-- o.m(..) of an instance of the class at C -/
def tMeth (C : Addr) (m : Str) (sp : Sp) (dvs : List V) (E : XK) (ta : TE) (t : TA) : TE := fun σ H Q => ta σ H fun x H1 => ∃ a dx fs, x = .ref a ∧ H1 a = some (.ins C dx fs) ∧ fs.lookup m = none ∧
  t σ H1 fun vs H2 => sp (x :: (vs ++ dvs)) H2 Q E
/-- C(..): a new instance and its dict, then __init__ -/
def tMake (C : Addr) (sp : Sp) (dvs : List V) (E : XK) (t : TA) : TE := fun σ H Q => t σ H fun vs H1 => ∀ x dx, H1 x = none → H1 dx = none → dx ≠ x →
  sp (.ref x :: (vs ++ dvs)) (upd (upd H1 dx (.own x)) x (.ins C dx [])) (fun v H2 => v = .non ∧ Q (.ref x) H2) E

/-- how the parameters are bound: us the positional arguments, kw the keywords' values by name, ds the defaults that fill up -/
def Binds (K : PySem.W.Frag) (fd : FuncData) (ps : List Str) (ds : List Value) : Prop :=
  ∀ (s : Shared) (us : List Value), K.In s.heap → (us ++ ds).length = ps.length → BindsTo s fd ⟨us, []⟩ (ps.zip (us ++ ds))
/-- every parameter is given -/
theorem Binds.all {K : PySem.W.Frag} {fd : FuncData} {ps : List Str} (h : ∀ us : List Value, us.length = ps.length → bindArgs fd ⟨us, []⟩ = pure (ps.zip us)) : Binds K fd ps [] := fun s us _ hl => by
  rw [List.append_nil] at hl ⊢
  exact .of_eq (h us hl)

/-- an exception of a callee reaches what this body wants of exceptions -/
def Passes (CX : CXT) (X : Cx) (E : XK) : Prop := ∀ (pins : List (Addr × Obj)) (σ : St) (H : Hp) (s : Shared) (e : Value) (s' : Shared), Inv X pins σ H s → CX X.stack H s E e s' → X.xe e s'

section
variable {X : Cx} {CX : CXT} {k : Nat} {f C : Addr} {fd : FuncData} {ps : List Str} {sp : Sp} {dvs : List V} {ds : List Value} {E : XK} {x m : Str} {p pos apos : Pos} {e o : Expr} {es : List Expr} {ta : TE} {t : TA}




/-- what a class must have to be made -/
structure Mk (K : PySem.W.Frag) (C f : Addr) : Prop where
  makes : PySem.W.makesIn K C = true
  init : PySem.W.findIn K (.ref C) "__init__" = some (some (.ref f))
  fn : PySem.W.isFn K (.ref f) = true
  kp : PySem.W.keepIn K (.ref C) = true

end

/-! ### keywords -/
/-- the values of the keywords, from the left -/
def PK (X : Cx) (kws : List Keyword) (t : TA) : Prop :=
  ∀ (pos : Pos) (pins : List (Addr × Obj)) (s : Shared) (σ : St) (H : Hp) (Q : List V → Hp → Prop), Inv X pins σ H s → t σ H Q → wpAny (model X.prog X.w) X.A (evalAll ((backToKw pos (keywordEach kws X.env)).map (·.2))) (AP X pins σ Q) X.xe s
section
variable {X : Cx} {CX : CXT} {k : Nat} {f C : Addr} {fd : FuncData} {ps ks : List Str} {sp : Sp} {E : XK} {x m : Str} {p pos apos kpos : Pos} {e o : Expr} {es : List Expr} {kws : List Keyword} {te ta : TE} {t tk : TA} {nm : Option Str}

/-- how a call with keywords binds: g puts the positional values us and the keywords' values ws (names ks) in the parameters' order, defaults among them -/
structure KBinds (K : PySem.W.Frag) (fd : FuncData) (ps ks : List Str) (g : List Value → List Value → List Value) (gV : List V → List V → List V) : Prop where
  to : ∀ (s : Shared) (us ws : List Value), K.In s.heap → (g us ws).length = ps.length → BindsTo s fd ⟨us, ks.zip ws⟩ (ps.zip (g us ws))
  rel : ∀ {vs : List V} {us : List Value} {zs : List V} {ws : List Value}, Vals vs us → Vals zs ws → Vals (gV vs zs) (g us ws)
def tCallK (sp : Sp) (gV : List V → List V → List V) (E : XK) (t tk : TA) : TE := fun σ H Q => t σ H fun vs H1 => tk σ H1 fun zs H2 => sp (gV vs zs) H2 Q E
variable {g : List Value → List Value → List Value} {gV : List V → List V → List V}
end

/-! ### a def's body keeps its promise -/
/-- names: the parameters first -/
structure FnScope (N P : List Str) (sc : Scope) : Prop where
  kind : sc.kind = .function
  co : sc.isCoroutine = false
  gen : sc.isGenerator = false
  nd : N.Nodup
  pre : N.take P.length = P
  par : ∀ x ∈ P, sc.names.lookup x = some .local ∨ sc.names.lookup x = some .cell
  nofree : ∀ y ∈ sc.names, y.2 ≠ .free

theorem bindL_out {kindOf : Str → Option NameKind} {x : Str} : ∀ {binds : List (Str × Value)} {m : Str → Option Value}, (∀ v, (x, v) ∉ binds) → bindL kindOf binds m x = m x
  | [], _, _ => rfl
  | (n, v) :: r, m, h => by
    unfold bindL
    rw [bindL_out fun w hw => h w (List.mem_cons_of_mem _ hw)]
    split
    · have : x ≠ n := by rintro rfl; exact h v List.mem_cons_self
      simp [this]
    · rfl
theorem bindC_out {kindOf : Str → Option NameKind} {x : Str} : ∀ {binds : List (Str × Value)} {m : Str → Option Value}, (∀ v, (x, v) ∉ binds) → bindC kindOf binds m x = m x
  | [], _, _ => rfl
  | (n, v) :: r, m, h => by
    unfold bindC
    rw [bindC_out fun w hw => h w (List.mem_cons_of_mem _ hw)]
    split
    · rfl
    · have : x ≠ n := by rintro rfl; exact h v List.mem_cons_self
      simp [this]
theorem bindL_get {kindOf : Str → Option NameKind} {x : Str} {v : Value} : ∀ {P : List Str} {vs : List Value} {i : Nat} {m : Str → Option Value}, P.Nodup → P[i]? = some x → vs[i]? = some v → kindOf x = some .local →
    bindL kindOf (P.zip vs) m x = some v
  | [], _, _, _, _, h, _, _ => by simp at h
  | _ :: _, [], _, _, _, _, h, _ => by simp at h
  | p :: P, w :: vs, 0, m, nd, h1, h2, hk => by
    simp at h1 h2; subst h1; subst h2
    show bindL kindOf ((p, w) :: P.zip vs) m p = _
    unfold bindL
    rw [bindL_out fun v hv => (List.nodup_cons.mp nd).1 (List.of_mem_zip hv).1, if_pos hk]
    simp
  | p :: P, w :: vs, i + 1, m, nd, h1, h2, hk => by
    show bindL kindOf ((p, w) :: P.zip vs) m x = _
    unfold bindL
    exact bindL_get (i := i) (List.nodup_cons.mp nd).2 (by simpa using h1) (by simpa using h2) hk
theorem bindC_get {kindOf : Str → Option NameKind} {x : Str} {v : Value} : ∀ {P : List Str} {vs : List Value} {i : Nat} {m : Str → Option Value}, P.Nodup → P[i]? = some x → vs[i]? = some v → kindOf x ≠ some .local →
    bindC kindOf (P.zip vs) m x = some v
  | [], _, _, _, _, h, _, _ => by simp at h
  | _ :: _, [], _, _, _, _, h, _ => by simp at h
  | p :: P, w :: vs, 0, m, nd, h1, h2, hk => by
    simp at h1 h2; subst h1; subst h2
    show bindC kindOf ((p, w) :: P.zip vs) m p = _
    unfold bindC
    rw [bindC_out fun v hv => (List.nodup_cons.mp nd).1 (List.of_mem_zip hv).1, if_neg hk]
    simp
  | p :: P, w :: vs, i + 1, m, nd, h1, h2, hk => by
    show bindC kindOf ((p, w) :: P.zip vs) m x = _
    unfold bindC
    exact bindC_get (i := i) (List.nodup_cons.mp nd).2 (by simpa using h1) (by simpa using h2) hk

/-- the names' values at the entry -/
def start (N : List Str) (vs : List V) : St := vs.map some ++ List.replicate (N.length - vs.length) none

/-- the context of a def's body, at its entry; an exception leaves the frame, then lies as CX says -/
def cxOf (CX : CXT) (P : Program) (w : World) (K : PySem.W.Frag) (mg : Str → Option Value) (base : Heap) (N : List Str) (qual : Str) (scope : Scope) (f : Addr) (cd : Value) (A : Around) (outer : List Env) (s : Shared) (H : Hp) (E : XK) : Cx where
  prog := P
  w := w
  K := K
  mg := mg
  base := base
  A := A.deeper (envOfC qual scope s.heap.objs.size f cd)
  N := N
  s₀ := s
  H₀ := H
  env := envOfC qual scope s.heap.objs.size f cd
  outer := outer
  stack := envOfC qual scope s.heap.objs.size f cd :: outer
  ex := []
  calm := true
  fn := fun _ => true
  pn := []
  xe := fun e s' => wpAny (model P w) (A.deeper (envOfC qual scope s.heap.objs.size f cd)) (leaving (envOfC qual scope s.heap.objs.size f cd) e) (fun _ s'' => CX outer H s E e s'') (fun e' s'' => CX outer H s E e' s'') s'

theorem cell_has {sc : Scope} {n : Nat} {x : Str} (h : sc.names.lookup x = some .cell) : ∃ c, (cellsFrom n sc.names []).lookup x = some c := by
  have q := PySem.W.cellsFrom_some sc.names n [] (.inl h)
  exact Option.isSome_iff_exists.mp q

theorem inv_start {CX : CXT} {P : Program} {w : World} {K : PySem.W.Frag} {mg : Str → Option Value} {base : Heap} {N ps : List Str} {qual : Str} {scope : Scope} {f : Addr} {cd : Value} {A : Around} {outer : List Env} {s s1 : Shared} {H : Hp} {E : XK} {us : List Value} {vs : List V}
    (S : FnScope N ps scope) (hd : A.handled = none) (e0 : Env0 P w K mg base A outer s H) (hl : vs.length = ps.length) (r : Vals vs us)
    (x : InCallC s s.heap.objs.size (bindL (envOfC qual scope s.heap.objs.size f cd).kindOf (ps.zip us) fun _ => none) (cellsFrom (s.heap.objs.size + 1) scope.names []) (bindC (envOfC qual scope s.heap.objs.size f cd).kindOf (ps.zip us) fun _ => none) s1) :
    Inv (cxOf CX P w K mg base N qual scope f cd A outer s H E) [] (start N vs) H s1 := by
  have hpl : ps.length ≤ N.length := by have := congrArg List.length S.pre; rw [List.length_take] at this; omega
  obtain ⟨h1, tk, rfl, hk⟩ := x.done
  have noA : ∀ b : Addr, b ∉ (cxOf CX P w K mg base N qual scope f cd A outer s H E).ex := fun b z => absurd (show b ∈ ([] : List Addr) from z) (by simp)
  refine ⟨⟨e0.mod, S.kind, rfl, rfl, Nat.le_refl _, fun y z c h1 h2 => ?_, fun y hy => ?_, fun y c _ h => ?_, fun _ => hd, Around.frames_deeper e0.frames, .inr ⟨rfl, rfl⟩, fun b z => absurd z (noA b), e0.bs, e0.bsz, fun b _ _ => noA b, fun b z => absurd z (noA b), e0.funs, e0.frf⟩,
    rfl, e0.bare, Un.kept hk, ⟨_, x.toInCall.ns, fun i y v h1 h2 h3 => ?_⟩, fun y c h => ⟨_, x.cell y c h⟩, e0.hok.fresh (Nat.le_refl _), fun y c h => ?_, fun p hp => absurd (show p ∈ ([] : List (Addr × Obj)) from hp) (by simp), e0.hok.kept hk, ?_⟩
  · exact name_of_addr x.apart (PySem.mem_of_lookup h1) (PySem.mem_of_lookup h2)
  · have hy : scope.names.lookup y = some .cell ∨ scope.names.lookup y = some .free := hy
    rcases hy with hy | hy
    · exact cell_has hy
    · exact absurd rfl (S.nofree _ (PySem.mem_of_lookup hy))
  · exact Nat.le_of_lt (x.above y c (PySem.mem_of_lookup h))
  · have hi : i < vs.length := by
      unfold start at h2
      by_cases hi : i < vs.length
      · exact hi
      · rw [List.getElem?_append_right (by simpa using hi)] at h2
        rw [List.getElem?_replicate] at h2
        split at h2 <;> cases h2
    have ha : vs[i]? = some v := by
      unfold start at h2
      rw [List.getElem?_append_left (by simpa using hi), List.getElem?_map] at h2
      cases e : vs[i]? with
      | none => rw [e] at h2; cases h2
      | some a => rw [e] at h2; cases h2; rfl
    obtain ⟨u, hu, rv⟩ := r.get ha
    have hp : ps[i]? = some y := by
      rw [← S.pre, List.getElem?_take_of_lt (by omega)]; exact h1
    have ndP : ps.Nodup := by rw [← S.pre]; exact S.nd.sublist (List.take_sublist _ _)
    refine ⟨u, rv, ?_⟩
    rcases S.par y (List.mem_of_getElem? hp) with k | k
    · exact .inl ⟨k, bindL_get ndP hp hu k⟩
    · obtain ⟨c, e⟩ := cell_has (n := s.heap.objs.size + 1) k
      refine .inr ⟨.inl k, c, e, ?_⟩
      have q := x.cell y c e
      rw [bindC_get ndP hp hu (by show scope.names.lookup y ≠ _; rw [k]; decide)] at q
      exact q
  · exact e0.hok.fresh (Nat.le_of_lt (x.above y c (PySem.mem_of_lookup h)))
  · unfold start
    show _ = N.length
    rw [List.length_append, List.length_map, List.length_replicate]
    omega

/-- THE RULE: a def (or a method) of the text, by its body. The body's reading t is chosen for each entry; it is run at the parameters' values -/
theorem fn_of {CX : CXT} {P : Program} {w : World} {K : PySem.W.Frag} {mg : Str → Option Value} {base : Heap} {k : Nat} {f : Addr} {name qual : Str} {params : Arguments} {body : List Stmt} {scope : Scope} {dV kV doc pm cdv ct oc : Value} {an od : Option Addr}
    {osl : Array (Option Value)} {N ps : List Str} {sp : Sp} (lk : K.lookup f = some ⟨oc, od, .func (PySem.W.fnOf name qual params body scope dV kV doc pm an cdv ct), osl⟩) (hcd : PySem.W.codeIn K cdv qual = true) (S : FnScope N ps scope)
    (len : ∀ vs H Q E, sp vs H Q E → vs.length = ps.length)
    (hbody : ∀ (A : Around) (outer : List Env) (s : Shared) (H : Hp) (vs : List V) (Q : VK) (E : XK), Room k (A.deeper (envOfC qual scope s.heap.objs.size f cdv)) → sp vs H Q E →
      ∃ t, PSs (cxOf CX P w K mg base N qual scope f cdv A outer s H E) body t ∧ t { nx := fun _ H' => Q .non H', rt := Q } (start N vs) H) :
    FnOk P w K mg base CX (k + 1) f (PySem.W.fnOf name qual params body scope dV kV doc pm an cdv ct) ps sp := by
  refine ⟨len, fun A outer s H args us vs Q E hr e0 hb r hsp => ?_⟩
  have hl := len _ _ _ _ hsp
  have KX : K.In s.heap := e0.mod.kin.keeps fun b o e => (e0.bs b o e).1
  have lim : s.heap.NoLimit := e0.mod.nolimit.keeps fun b o e => (e0.bs b o e).1
  have hkind : ∀ y ∈ ps.zip us, scope.names.lookup y.1 = some .local ∨ (scope.names.lookup y.1 = some .cell ∧ ((cellsFrom (s.heap.objs.size + 1) scope.names []).lookup y.1).isSome = true) := fun ⟨n, v⟩ hy => by
    rcases S.par n (List.of_mem_zip hy).1 with q | q
    · exact .inl q
    · exact .inr ⟨q, PySem.W.cellsFrom_some _ _ _ (.inl q)⟩
  refine codeAny_call_function hr.depth (KX _ _ lk) rfl S.co S.gen rfl (PySem.W.codeRec_of KX hcd) (hb _ _ _ _ ?_)
  refine wpAny_newFunctionEnv_cells S.kind hkind fun env he s1 x => ?_
  subst he
  refine ⟨lim.keeps x.toInCall.keep, codeAny_func ?_⟩
  obtain ⟨t, ht, hq⟩ := hbody A outer s H vs Q E (hr.deeper _) hsp
  have I : Inv (cxOf CX P w K mg base N qual scope f cdv A outer s H E) [] (start N vs) H s1 := inv_start S hr.hd e0 hl r x
  refine wpAny_mono (ht [] s1 (start N vs) H _ I hq) (fun fl s' hs => ?_) fun e s' hs => hs
  have fin : ∀ {σ' : St} {H' : Hp} {v : V} {u : Value}, Inv (cxOf CX P w K mg base N qual scope f cdv A outer s H E) [] σ' H' s' → RelV v u → Q v H' → CE outer P w H s Q u s' :=
    fun {σ' H' v u} J rv q => ⟨v, H', J.os, J.bare, J.base, J.hok, rv, q⟩
  cases fl with
  | ret u =>
    obtain ⟨v, σ', H', J, rv, q⟩ := hs
    exact fin J rv q
  | next =>
    obtain ⟨σ', H', J, q⟩ := hs
    exact fin (v := V.non) (u := Value.none) J rfl q
  | brk =>
    obtain ⟨_, _, _, q⟩ := hs
    exact False.elim q
  | cont =>
    obtain ⟨_, _, _, q⟩ := hs
    exact False.elim q
end L2

namespace L2
open PySem PySem.Spec PyProof.Rows
section
variable {X : Cx} {x : Str} {p pos : Pos} {e : Expr} {es : List Expr} {t : TA} {id T : String} {r : List V → Hp → VK → Prop}

def tCB (r : List V → Hp → VK → Prop) (t : TA) : TE := fun σ H Q => t σ H fun vs H1 => r vs H1 Q
/-- f(e, ..), f a built-in function -/
theorem pe_callB (hc : CallR X (.builtin id) r) (hg : Gl X x) (hm : X.mg x = none) (hv : bootBuiltins x = some (.builtin id)) (ha : PA X (e :: es) t) (hn : x ≠ "__name__" := by decide) (hdb : (x == ("__debug__" : Str)) = false := by decide)
    (he : starEach (e :: es) X.env = (false, eval e X.env) :: starEach es X.env := by rfl) (hpl : (backTo pos (starEach es X.env)).any (·.1) = false := by rfl) : PE X (.Call (.Name x p) (e :: es) [] pos) (tCB r t) := by
  intro pins s σ H Q I h
  refine wpAny_Call_Name_kw (ld_blt I hg hm hv ?_ hn hdb)
  exact PyProof.Rows.callWith_builtin1 (thn (ha pos pins s σ H _ I h) fun us s1 ⟨vs, H1, I1, r1, q1⟩ => hc pins s1 σ H1 vs us Q I1 r1 q1) he hpl
/-- T(e, ..), T a built-in type -/
theorem pe_callTy (hc : CallR X (.type T) r) (hg : Gl X x) (hm : X.mg x = none) (hv : bootBuiltins x = some (.type T)) (ha : PA X (e :: es) t) (hn : x ≠ "__name__" := by decide) (hdb : (x == ("__debug__" : Str)) = false := by decide)
    (he : starEach (e :: es) X.env = (false, eval e X.env) :: starEach es X.env := by rfl) (hpl : (backTo pos (starEach es X.env)).any (·.1) = false := by rfl) : PE X (.Call (.Name x p) (e :: es) [] pos) (tCB r t) := by
  intro pins s σ H Q I h
  refine wpAny_Call_Name_kw (ld_blt I hg hm hv ?_ hn hdb)
  exact PyProof.Rows.callWith_type1 (thn (ha pos pins s σ H _ I h) fun us s1 ⟨vs, H1, I1, r1, q1⟩ => hc pins s1 σ H1 vs us Q I1 r1 q1) he hpl
end
end L2

namespace HT
open PySem PyProof.Rows

/-- t < u of tuples of ints -/
def lexLt : List Int → List Int → Bool
  | [], [] => false
  | [], _ :: _ => true
  | _ :: _, [] => false
  | x :: xs, y :: ys => if x = y then lexLt xs ys else decide (x < y)


section
open PySem.SeqAt
open PySem.AutoSeq1 (wpAny_loadPart')
open PySem.MeetsSeq PySem.MeetsSeq2 PySem.MeetsSeq3

end

section
variable {prog : Program} {w : World} {A : Around} {E : Value → Shared → Prop} {s : Shared}



/-! ### t[a:b], not the whole -/
/-- a slice's bound as a place among n (d where it is left out) -/
def sIx (n d : Nat) : Option Int → Nat
  | none => d
  | some v => if v < 0 then (v + (n : Int)).toNat else min v.toNat n

end
end HT

namespace L2
open PySem PySem.Spec PyProof.Rows

/-! ### the parts of a slice -/
abbrev TO := St → Hp → (Option Int → Hp → Prop) → Prop
/-- a slice's part (left out, or an int) -/
def PO (X : Cx) (e : Option Expr) (t : TO) : Prop :=
  ∀ (pins : List (Addr × Obj)) (s : Shared) (σ : St) (H : Hp) (Q : Option Int → Hp → Prop), Inv X pins σ H s → t σ H Q →
    wpAny (model X.prog X.w) X.A (evalPart e X.env) (fun u s' => ∃ o H', Inv X pins σ H' s' ∧ IsPart u o ∧ Q o H') X.xe s
def tNoPart : TO := fun _ H Q => Q none H
def tPart (t : TE) : TO := fun σ H Q => t σ H fun x H1 => ∃ i, x = .int i ∧ Q (some i) H1

theorem intsAre_of {ns : List Int} : ∀ {us : List Value}, Vals (ns.map V.int) us → IntsAre us ns := by
  induction ns with
  | nil => intro us r; rw [List.map_nil] at r; cases r; exact .nil
  | cons n ns ih =>
    intro us r
    rw [List.map_cons] at r
    cases r with
    | cons r1 r2 =>
      obtain ⟨t, e⟩ := r1
      subst e
      exact .cons n t (ih r2)

section
variable {X : Cx} {e : Expr} {te : TE} {lo hi : Option Expr} {tl th : TO} {pos p2 : Pos}

theorem po_none : PO X none tNoPart := by
  intro pins s σ H Q I h
  rw [evalPart_none]
  exact wpAny_pure ⟨none, H, I, .none, h⟩
theorem po_some (h : PE X e te) : PO X (some e) (tPart te) := by
  intro pins s σ H Q I hw
  rw [evalPart_some]
  refine thn (h pins s σ H _ I hw) fun u s1 ⟨x, H1, I1, r1, q1⟩ => ?_
  obtain ⟨i, rfl, q⟩ := q1
  obtain ⟨t, rfl⟩ := r1
  exact ⟨some i, H1, I1, .int i t, q⟩

/-- what a slice of a value is, by values: the slice object stands at sl -/
def SlR (X : Cx) (r : V → Option Int → Option Int → Hp → VK → Prop) : Prop :=
  ∀ (pins : List (Addr × Obj)) (s : Shared) (σ : St) (H : Hp) (x : V) (v vl vu : Value) (lo hi : Option Int) (sl : Addr) (Q : VK), Inv X pins σ H s → RelV x v → s.heap.IsSliceOf sl vl vu .none → IsPart vl lo → IsPart vu hi → r x lo hi H Q →
    ∃ T id, typeLookup (.type T) "__getitem__" = pure (some (.builtin id)) ∧ s.TypeIs v T ∧ wpAny (model X.prog X.w) X.A (getItem v (.ref sl)) (EP X pins σ Q) X.xe s
theorem SlR.or {r r' : V → Option Int → Option Int → Hp → VK → Prop} (h : SlR X r) (h' : SlR X r') : SlR X (fun x lo hi H Q => r x lo hi H Q ∨ r' x lo hi H Q) := by
  intro pins s σ H x v vl vu lo hi sl Q I rx hs pl pu q
  rcases q with q | q
  · exact h pins s σ H x v vl vu lo hi sl Q I rx hs pl pu q
  · exact h' pins s σ H x v vl vu lo hi sl Q I rx hs pl pu q
def tSl (r : V → Option Int → Option Int → Hp → VK → Prop) (te : TE) (tl th : TO) : TE := fun σ H Q => te σ H fun x H1 => tl σ H1 fun l H2 => th σ H2 fun u H3 => r x l u H3 Q
/-- a[lo:hi], any a -/
theorem pe_slice {r : V → Option Int → Option Int → Hp → VK → Prop} (hr : SlR X r) (he : PE X e te) (hl : PO X lo tl) (hu : PO X hi th) : PE X (.Subscript e (.Slice lo hi none p2) pos) (tSl r te tl th) := by
  intro pins s σ H Q I h
  refine Subscript_ (thn (he pins s σ H _ I h) fun v s1 ⟨x, H1, I1, r1, q1⟩ => ?_)
  refine wpAny_Slice (thn (hl pins s1 σ H1 _ I1 q1) fun vl s2 ⟨l, H2, I2, pl, q2⟩ => thn (hu pins s2 σ H2 _ I2 q2) fun vu s3 ⟨u, H3, I3, pu, q3⟩ => ?_)
  rw [evalPart_none]
  refine wpAny_pure ?_
  have I4 : Inv X pins σ H3 { s3 with heap := s3.heap.push { cls := .type "slice", data := .fields #[vl, vu, .none] } } := I3.kept (t' := s3.toks) fun b ob q => Heap.get?_push_of_some _ q
  obtain ⟨T, id, hT, ht, hg⟩ := hr pins { s3 with heap := s3.heap.push { cls := .type "slice", data := .fields #[vl, vu, .none] } } σ H3 x v vl vu l u s3.heap.objs.size Q I4 r1 (Heap.IsSliceOf.new ..) pl pu q3
  show wpAny (model X.prog X.w) X.A (subscriptTail e (.Slice lo hi none p2) v (.ref s3.heap.objs.size)) (EP X pins σ Q) X.xe { s3 with heap := s3.heap.push { cls := .type "slice", data := .fields #[vl, vu, .none] } }
  exact tail_any (ops := [.ref s3.heap.objs.size, v]) ht hT hg (by with_unfolding_all rfl)

/-- the items of xs[lo:hi] -/
def cutV (xs : List V) (lo hi : Option Int) : List V := (xs.drop (HT.sIx xs.length 0 lo)).take (HT.sIx xs.length xs.length hi - HT.sIx xs.length 0 lo)
theorem cutV_length (xs : List V) (lo hi : Option Int) : (cutV xs lo hi).length ≤ xs.length := by
  unfold cutV
  rw [List.length_take, List.length_drop]
  omega
/-- t[lo:hi], not the whole of it (the whole would be t itself) -/
def rSlT (K : PySem.W.Frag) : V → Option Int → Option Int → Hp → VK → Prop := fun x lo hi H Q => ∃ a xs, x = .ref a ∧ SqT K H a xs ∧
  ¬ (HT.sIx xs.length 0 lo = 0 ∧ HT.sIx xs.length xs.length hi = xs.length) ∧ ∀ p, H p = none → Q (.ref p) (upd H p (.tup (cutV xs lo hi)))

/-! ### t < u, t + u -/
def rLtT (K : PySem.W.Frag) : R2 := fun x y H Q => ∃ a b ns ms, x = .ref a ∧ y = .ref b ∧ SqT K H a (ns.map V.int) ∧ SqT K H b (ms.map V.int) ∧ Q (.bl (HT.lexLt ns ms)) H
/-- t + u, t not empty: u empty gives t itself -/
def rCatT (K : PySem.W.Frag) : R2 := fun x y H Q => ∃ a b xs ys, x = .ref a ∧ y = .ref b ∧ SqT K H a xs ∧ SqT K H b ys ∧ xs ≠ [] ∧ xs.length + ys.length ≤ sizeLine ∧
  (ys = [] → Q (.ref a) H) ∧ (ys ≠ [] → ∀ p, H p = none → Q (.ref p) (upd H p (.tup (xs ++ ys))))
end
end L2

namespace L2
open PySem PySem.Spec PyProof.Rows

/-! ### places -/
/-- the place that an index of any sign means -/
def ixN (n : Nat) (i : Int) : Option Nat := if 0 ≤ i then (if i < n then some i.toNat else none) else if -(n : Int) ≤ i then some (i + n).toNat else none
def atI {α : Type} (xs : List α) (i : Int) : Option α := (ixN xs.length i).bind fun j => xs[j]?
theorem ixN_seq {n : Nat} {i : Int} {j : Nat} (h : ixN n i = some j) : seqIndex? i n = some j ∧ j < n ∧ -(n : Int) ≤ i ∧ i < n := by
  unfold ixN at h
  by_cases h0 : 0 ≤ i
  · rw [if_pos h0] at h
    by_cases h1 : i < n
    · rw [if_pos h1] at h
      have e : i.toNat = j := Option.some.inj h
      exact ⟨by rw [seqIndex_of h0 h1, e], by omega, by omega, h1⟩
    · rw [if_neg h1] at h; cases h
  · rw [if_neg h0] at h
    by_cases h1 : -(n : Int) ≤ i
    · rw [if_pos h1] at h
      have e : (i + n).toNat = j := Option.some.inj h
      exact ⟨by rw [seqIndex_neg (by omega) h1, e], by omega, h1, by omega⟩
    · rw [if_neg h1] at h; cases h
theorem atI_get {α : Type} {xs : List α} {i : Int} {v : α} (h : atI xs i = some v) : ∃ j, seqIndex? i xs.length = some j ∧ xs[j]? = some v ∧ j < xs.length ∧ -(xs.length : Int) ≤ i ∧ i < xs.length := by
  unfold atI at h
  cases e : ixN xs.length i with
  | none => rw [e] at h; cases h
  | some j =>
    rw [e] at h
    obtain ⟨h1, h2, h3, h4⟩ := ixN_seq e
    exact ⟨j, h1, h, h2, h3, h4⟩
theorem atI_nat {α : Type} {xs : List α} {j : Nat} {v : α} (h : xs[j]? = some v) : atI xs (j : Int) = some v := by
  have hj : j < xs.length := (List.getElem?_eq_some_iff.mp h).1
  have e : ixN xs.length (j : Int) = some j := by
    unfold ixN
    rw [if_pos (by omega), if_pos (by omega)]; simp
  unfold atI; rw [e]; exact h

/-! ### what may be subscripted -/
/-- what stands as an index of a plain subscript -/
def PlainIx (b : Expr) : Prop := ∀ o i, subscripted b false o i = operate [o, i] (getItem o i)
/-- a subscript by values -/
def IxR (X : Cx) (r : R2) : Prop :=
  ∀ (value slice : Expr) (pins : List (Addr × Obj)) (s : Shared) (σ : St) (H : Hp) (x y : V) (v u : Value) (Q : VK), Inv X pins σ H s → RelV x v → RelV y u → r x y H Q →
    subscripted slice false v u = operate [v, u] (getItem v u) → wpAny (model X.prog X.w) X.A (subscriptTail value slice v u) (EP X pins σ Q) X.xe s
/-- a call of a builtin's method by values: the receiver, the arguments -/
def MtR (X : Cx) (id : String) (r : V → List V → Hp → VK → Prop) : Prop :=
  ∀ (pins : List (Addr × Obj)) (s : Shared) (σ : St) (H : Hp) (x : V) (xs : List V) (v : Value) (us : List Value) (Q : VK), Inv X pins σ H s → RelV x v → Vals xs us → r x xs H Q →
    wpAny (model X.prog X.w) X.A (call (.builtin id) (v :: us)) (EP X pins σ Q) X.xe s
section
variable {X : Cx} {a b : Expr} {ta tb : TE} {pos : Pos}
theorem IxR.or {r r' : R2} (h : IxR X r) (h' : IxR X r') : IxR X (fun x y H Q => r x y H Q ∨ r' x y H Q) := by
  intro value slice pins s σ H x y v u Q I rx ry q hs
  rcases q with q | q
  · exact h value slice pins s σ H x y v u Q I rx ry q hs
  · exact h' value slice pins s σ H x y v u Q I rx ry q hs
theorem MtR.or {id : String} {r r' : V → List V → Hp → VK → Prop} (h : MtR X id r) (h' : MtR X id r') : MtR X id (fun x xs H Q => r x xs H Q ∨ r' x xs H Q) := by
  intro pins s σ H x xs v us Q I rx rs q
  rcases q with q | q
  · exact h pins s σ H x xs v us Q I rx rs q
  · exact h' pins s σ H x xs v us Q I rx rs q
/-- a[b] -/
theorem pe_ix {r : R2} (hr : IxR X r) (ha : PE X a ta) (hb : PE X b tb) (hs : PlainIx b) : PE X (.Subscript a b pos) (tOp r ta tb) := by
  intro pins s σ H Q I h
  exact Subscript_ (binT ha hb I h fun v u s2 x y H2 I2 rx ry q => hr a b pins s2 σ H2 x y v u Q I2 rx ry q (hs _ _))

def rIxL (K : PySem.W.Frag) : R2 := fun x y H Q => ∃ p xs i v, x = .ref p ∧ y = .int i ∧ SqL K H p xs ∧ atI xs i = some v ∧ Q v H
def rIxT (K : PySem.W.Frag) : R2 := fun x y H Q => ∃ p xs i v, x = .ref p ∧ y = .int i ∧ SqT K H p xs ∧ atI xs i = some v ∧ Q v H
def rIxS : R2 := fun x y H Q => ∃ z i c, x = .str z ∧ y = .int i ∧ z.length ≤ sizeLine ∧ atI z.cps.toList i = some c ∧ Q (.str ⟨#[c]⟩) H
theorem ix_list : IxR X (rIxL X.K) := by
  intro value slice pins s σ H x y v u Q I rx ry h hs
  obtain ⟨p, xs, i, z, rfl, rfl, hq, he, q⟩ := h
  cases rx
  obtain ⟨t, rfl⟩ := ry
  obtain ⟨its, r, pl, hz⟩ := I.list hq
  obtain ⟨j, h1, h2, h3, h4, h5⟩ := atI_get he
  obtain ⟨w, ew, rw'⟩ := r.get h2
  have hl := r.length
  have hn := line63
  have fin : EP X pins σ Q w s := ⟨z, H, I, rw', q⟩
  by_cases h0 : 0 ≤ i
  · have hj : i.toNat = j := by
      rw [seqIndex_of h0 h5] at h1
      exact Option.some.inj h1
    exact item_listR pl.isList h0 (by omega) (by rw [hj]; simpa using ew) fin hs
  · have hj : (i + (its.toArray.size : Int)).toNat = j := by
      rw [seqIndex_neg (by omega) h4] at h1
      rw [List.size_toArray, ← hl]
      exact Option.some.inj h1
    exact subscriptTail_builtinR (x := w) pl.isList.typeIs slot_list_getitem.lookup
      (wpAny_getItem_list_neg (Q := fun r s' => r = w ∧ EP X pins σ Q r s') pl.isList (by omega) (by rw [List.size_toArray] <;> omega) (by omega) (by rw [hj]; simpa using ew) ⟨rfl, fin⟩) hs
theorem ix_tup : IxR X (rIxT X.K) := by
  intro value slice pins s σ H x y v u Q I rx ry h hs
  obtain ⟨p, xs, i, z, rfl, rfl, hq, he, q⟩ := h
  cases rx
  obtain ⟨t, rfl⟩ := ry
  obtain ⟨its, r, pl, hz⟩ := I.tuple hq
  obtain ⟨j, h1, h2, h3, h4, h5⟩ := atI_get he
  obtain ⟨w, ew, rw'⟩ := r.get h2
  have hl := r.length
  have hn := line63
  have fin : EP X pins σ Q w s := ⟨z, H, I, rw', q⟩
  exact subscriptTail_builtinR (x := w) pl.typeIs slot_tuple_getitem.lookup
    (getItem_tuple (j := j) (Q := fun r s' => r = w ∧ EP X pins σ Q r s') pl (by omega) (by omega) (by rw [List.size_toArray, ← hl]; exact h1) (by simpa using ew) ⟨rfl, fin⟩) hs
/-- list, tuple or str -/
def rIx (K : PySem.W.Frag) : R2 := fun x y H Q => rIxL K x y H Q ∨ rIxT K x y H Q ∨ rIxS x y H Q

/-! ### xs[i] = v, any sign -/
/-- the list's object behind a store -/
theorem mapSeq_set (its : List Value) (n j : Nat) (u : Value) : Obj.mapSeq (·.setIfInBounds j u) { cls := .type "list", data := .seq its.toArray n } = { cls := .type "list", data := .seq (its.set j u).toArray n } := by
  simp [Obj.mapSeq]
theorem Inv.lst {pins : List (Addr × Obj)} {σ : St} {H : Hp} {s : Shared} {p : Addr} {xs : List V} (I : Inv X pins σ H s) (h : H p = some (.lst xs)) :
    ∃ (its : List Value) (n : Nat), Vals xs its ∧ s.heap.get? p = some { cls := .type "list", data := .seq its.toArray n } ∧ xs.length ≤ sizeLine := by
  obtain ⟨z, its, n, r, e⟩ := I.hok p _ h
  exact ⟨its, n, r, e, z⟩
/-- the list at p is written by an update of its object -/
theorem Inv.lstUpd {pins : List (Addr × Obj)} {σ : St} {H : Hp} {s : Shared} {p : Addr} {xs ys : List V} {its its' : List Value} {n n' : Nat} {f : Obj → Obj} (I : Inv X pins σ H s) (h : H p = some (.lst xs))
    (ho : s.heap.get? p = some { cls := .type "list", data := .seq its.toArray n }) (hf : f { cls := .type "list", data := .seq its.toArray n } = { cls := .type "list", data := .seq its'.toArray n' }) (r : Vals ys its') (hz : ys.length ≤ sizeLine) (t : Nat) :
    Inv X pins σ (upd H p (.lst ys)) { s with heap := s.heap.update p f, toks := t } := by
  have e : (s.heap.update p f).get? p = some { cls := .type "list", data := .seq its'.toArray n' } := by
    rw [Heap.get?_update_self f ho (by rw [hf] <;> rfl), hf]
  refine I.write (x := p) (e := p) (by rw [h]; trivial) (.inl rfl) (fun b u hb q => (Heap.get?_update_other _ _ (Ne.symm hb)).trans q) ⟨_, e⟩ ?_
  exact ⟨hz, its', n', r, e⟩
def rSetL : V → V → V → Hp → (Hp → Prop) → Prop := fun o i v H Q => ∃ p xs k j, o = .ref p ∧ i = .int k ∧ H p = some (.lst xs) ∧ ixN xs.length k = some j ∧ Q (upd H p (.lst (xs.set j v)))
theorem set_list : PSet X rSetL := by
  intro pins s σ H o i v ov iv u Q I ro ri rv h
  obtain ⟨p, xs, k, j, rfl, rfl, hp, hj, q⟩ := h
  cases ro
  obtain ⟨t, rfl⟩ := ri
  obtain ⟨its, n, r, ho, hz⟩ := I.lst hp
  obtain ⟨h1, h2, h3, h4⟩ := ixN_seq hj
  have hl := r.length
  have hn := line63
  have I' : Inv X pins σ (upd H p (.lst (xs.set j v))) { s with heap := s.heap.update p (Obj.mapSeq (·.setIfInBounds j u)) } :=
    I.lstUpd hp ho (mapSeq_set its n j u) (r.set rv j) (by rw [List.length_set]; exact hz) s.toks
  by_cases h0 : 0 ≤ k
  · have hk : k.toNat = j := by
      rw [seqIndex_of h0 h4] at h1
      exact Option.some.inj h1
    exact PySem.W.ki_setAt ho h0 (by omega) (by rw [List.size_toArray, ← hl]; exact h4) (by rw [hk]; exact ⟨_, I', q⟩)
  · have hk : (k + (its.toArray.size : Int)).toNat = j := by
      rw [seqIndex_neg (by omega) h3] at h1
      rw [List.size_toArray, ← hl]
      exact Option.some.inj h1
    exact PySem.W.ki_setBack ho (by omega) (by rw [List.size_toArray, ← hl]; exact h3) (by omega) (by rw [hk]; exact ⟨_, I', q⟩)

/-! ### slices -/
theorem slice_bounds (lo hi : Option Int) (n : Nat) : (sliceBounds lo hi none n).1 = ((HT.sIx n 0 lo : Nat) : Int) ∧ (sliceBounds lo hi none n).2.1 = ((HT.sIx n n hi : Nat) : Int) ∧ (sliceBounds lo hi none n).2.2 = 1 := by
  refine ⟨?_, ?_, rfl⟩
  · cases lo with
    | none => simp [sliceBounds, HT.sIx]
    | some i =>
      simp only [sliceBounds, HT.sIx, Option.getD_none, show (1 : Int) > 0 by decide, if_true]
      by_cases h : i < 0
      · simp only [h, if_true] <;> omega
      · simp only [h, if_false] <;> omega
  · cases hi with
    | none => simp [sliceBounds, HT.sIx]
    | some i =>
      simp only [sliceBounds, HT.sIx, Option.getD_none, show (1 : Int) > 0 by decide, if_true]
      by_cases h : i < 0
      · simp only [h, if_true] <;> omega
      · simp only [h, if_false] <;> omega
theorem slicePick_cut (its : List Value) (lo hi : Option Int) : slicePick its.toArray lo hi none = ((its.drop (HT.sIx its.length 0 lo)).take (HT.sIx its.length its.length hi - HT.sIx its.length 0 lo)).toArray := by
  obtain ⟨h1, h2, h3⟩ := slice_bounds lo hi its.toArray.size
  unfold slicePick
  rw [h1, h2, h3]
  simp only [sliceRange_one, pick_run, List.size_toArray] <;> rfl
/-- xs[lo:hi] of a list: a new list -/
def rSlL (K : PySem.W.Frag) : V → Option Int → Option Int → Hp → VK → Prop := fun x lo hi H Q => ∃ a xs, x = .ref a ∧ SqL K H a xs ∧ ∀ p, H p = none → Q (.ref p) (upd H p (.lst (cutV xs lo hi)))
theorem sl_list : SlR X (rSlL X.K) := by
  intro pins s σ H x v vl vu lo hi sl Q I rx hs pl pu h
  obtain ⟨a, xs, rfl, hx, q⟩ := h
  cases rx
  obtain ⟨its, r, ht, hz⟩ := I.list hx
  have hlen := r.length
  refine ⟨"list", _, slot_list_getitem.lookup, ht.isList.typeIs, ?_⟩
  refine wpAny_getItem_list_slice ht.isList hs pl pu .none (by simp) ?_ (by rw [List.size_toArray] <;> omega)
  rw [slicePick_cut, ← hlen]
  refine ⟨.ref s.heap.objs.size, _, I.laid (t' := s.toks) (o := .lst (cutV xs lo hi)) (fun b ob q => Heap.get?_push_of_some _ q) (Nat.le_refl _) ?_, rfl, q _ (I.hok.fresh (Nat.le_refl _))⟩
  exact ⟨Nat.le_trans (cutV_length xs lo hi) hz, _, 0, (r.drop (HT.sIx xs.length 0 lo)).take (HT.sIx xs.length xs.length hi - HT.sIx xs.length 0 lo), Heap.get?_push_size _ rfl⟩

/-! ### in, not in: flat items -/
def flatV : V → Bool
  | .non => true
  | .bl _ => true
  | .int _ => true
  | .str _ => true
  | _ => false
/-- == of flat values -/
def eqV : V → V → Bool
  | .non, .non => true
  | .bl a, .bl b => a == b
  | .bl a, .int b => (if a then 1 else 0) == b
  | .int a, .bl b => a == (if b then 1 else 0)
  | .int a, .int b => a == b
  | .str a, .str b => a == b
  | _, _ => false
theorem eqAt_V {A : Around} {s : Shared} {y x : V} {u v : Value} (ry : RelV y u) (rx : RelV x v) (fy : flatV y = true) (fx : flatV x = true) : SeqAt.EqAt A s u v (eqV y x) := by
  cases y with
  | non =>
    cases ry
    cases x with
    | non => cases rx; exact SeqAt.EqAt.same _
    | bl b => cases rx; exact SeqAt.EqAt.none_bool b
    | int b => obtain ⟨t, rfl⟩ := rx; exact SeqAt.EqAt.none_int b t
    | str b => obtain ⟨t, rfl⟩ := rx; exact SeqAt.EqAt.none_str b t
    | _ => exact absurd (show false = true from fx) Bool.false_ne_true
  | bl a =>
    cases ry
    cases x with
    | non => cases rx; exact SeqAt.EqAt.bool_none a
    | bl b => cases rx; exact SeqAt.EqAt.bool_bool a b
    | int b => obtain ⟨t, rfl⟩ := rx; exact SeqAt.EqAt.bool_int a b t
    | str b => obtain ⟨t, rfl⟩ := rx; exact SeqAt.EqAt.bool_str a b t
    | _ => exact absurd (show false = true from fx) Bool.false_ne_true
  | int a =>
    obtain ⟨t', rfl⟩ := ry
    cases x with
    | non => cases rx; exact SeqAt.EqAt.int_none a t'
    | bl b => cases rx; exact SeqAt.EqAt.int_bool a t' b
    | int b => obtain ⟨t, rfl⟩ := rx; exact SeqAt.EqAt.int_int a t' b t
    | str b => obtain ⟨t, rfl⟩ := rx; exact SeqAt.EqAt.int_str a t' b t
    | _ => exact absurd (show false = true from fx) Bool.false_ne_true
  | str a =>
    obtain ⟨t', rfl⟩ := ry
    cases x with
    | non => cases rx; exact SeqAt.EqAt.str_none a t'
    | bl b => cases rx; exact SeqAt.EqAt.str_bool a t' b
    | int b => obtain ⟨t, rfl⟩ := rx; exact SeqAt.EqAt.str_int a t' b t
    | str b => obtain ⟨t, rfl⟩ := rx; exact SeqAt.EqAt.str_str a t' b t
    | _ => exact absurd (show false = true from fx) Bool.false_ne_true
  | _ => exact absurd (show false = true from fy) Bool.false_ne_true
/-- the items' answers, read off the values (a value's own answer does not lean on its token) -/
def eqU (x : V) (u : Value) : Bool := match u with
  | .none => eqV .non x
  | .bool b => eqV (.bl b) x
  | .int i _ => eqV (.int i) x
  | .str z _ => eqV (.str z) x
  | _ => false
theorem eqU_of {x y : V} {u : Value} (r : RelV y u) (f : flatV y = true) : eqU x u = eqV y x := by
  cases y with
  | non => cases r; rfl
  | bl b => cases r; rfl
  | int i => obtain ⟨t, rfl⟩ := r; rfl
  | str z => obtain ⟨t, rfl⟩ := r; rfl
  | _ => exact absurd (show false = true from f) Bool.false_ne_true
theorem any_eqU {x : V} : ∀ {xs : List V} {us : List Value}, Vals xs us → xs.all flatV = true → us.any (eqU x) = xs.any fun y => eqV y x
  | _, _, .nil, _ => rfl
  | y :: xs, u :: us, .cons r t, f => by
    rw [List.all_cons, Bool.and_eq_true] at f
    rw [List.any_cons, List.any_cons, eqU_of r f.1, any_eqU t f.2]
theorem mem_eqAt {A : Around} {s : Shared} {x : V} {v : Value} (rx : RelV x v) (fx : flatV x = true) : ∀ {xs : List V} {us : List Value}, Vals xs us → xs.all flatV = true → ∀ u ∈ us, SeqAt.EqAt A s u v (eqU x u)
  | _, _, .nil, _ => fun u hu => by cases hu
  | y :: xs, u :: us, .cons r t, f => fun u' hu => by
    rw [List.all_cons, Bool.and_eq_true] at f
    rcases List.mem_cons.mp hu with rfl | hu
    · rw [eqU_of r f.1]; exact eqAt_V r rx f.1 fx
    · exact mem_eqAt rx fx t f.2 u' hu
def inV (x : V) (xs : List V) : Bool := xs.any fun y => eqV y x
/-- x in a list or tuple of flat items -/
def rIn (K : PySem.W.Frag) (neg : Bool) : R2 := fun x y H Q => ∃ p xs, y = .ref p ∧ (SqL K H p xs ∨ SqT K H p xs) ∧ flatV x = true ∧ xs.all flatV = true ∧ Q (.bl (if neg then !inV x xs else inV x xs)) H
theorem op_in_seq : OpR X (compareOp .In) (rIn X.K false) := by
  intro pins s σ H x y v u Q I rx ry h
  obtain ⟨p, xs, rfl, hq, fx, fs, q⟩ := h
  cases ry
  rcases hq with hq | hq
  · obtain ⟨its, r, pl, hz⟩ := I.list hq
    refine SeqAt.in_listAt (eqU x) pl.isList (fun w hw => mem_eqAt rx fx r fs w (by simpa using hw)) ⟨.bl _, H, I, rfl, ?_⟩
    rw [show its.toArray.any (eqU x) = its.any (eqU x) by simp, any_eqU r fs]
    exact q
  · obtain ⟨its, r, pl, hz⟩ := I.tuple hq
    refine SeqAt.in_tupleAt (eqU x) pl (fun w hw => mem_eqAt rx fx r fs w (by simpa using hw)) ⟨.bl _, H, I, rfl, ?_⟩
    rw [show its.toArray.any (eqU x) = its.any (eqU x) by simp, any_eqU r fs]
    exact q
theorem op_notIn_seq : OpR X (compareOp .NotIn) (rIn X.K true) := by
  intro pins s σ H x y v u Q I rx ry h
  obtain ⟨p, xs, rfl, hq, fx, fs, q⟩ := h
  cases ry
  rcases hq with hq | hq
  · obtain ⟨its, r, pl, hz⟩ := I.list hq
    refine SeqAt.notIn_listAt (eqU x) pl.isList (fun w hw => mem_eqAt rx fx r fs w (by simpa using hw)) ⟨.bl _, H, I, rfl, ?_⟩
    rw [show its.toArray.any (eqU x) = its.any (eqU x) by simp, any_eqU r fs]
    exact q
  · obtain ⟨its, r, pl, hz⟩ := I.tuple hq
    refine SeqAt.notIn_tupleAt (eqU x) pl (fun w hw => mem_eqAt rx fx r fs w (by simpa using hw)) ⟨.bl _, H, I, rfl, ?_⟩
    rw [show its.toArray.any (eqU x) = its.any (eqU x) by simp, any_eqU r fs]
    exact q

/-! ### len, list(x), tuple(x) of any list or tuple that is read -/
theorem call_len_seq : CallR X (.builtin "len") (fun xs H Q => ∃ p ys, xs = [.ref p] ∧ (SqL X.K H p ys ∨ SqT X.K H p ys) ∧ Q (.int ys.length) H) := by
  intro pins s σ H xs us Q I r h
  obtain ⟨p, ys, rfl, hq, q⟩ := h
  obtain ⟨u, rfl, rx⟩ := vals1 r
  cases rx
  have hn := line63
  rcases hq with hq | hq
  · obtain ⟨its, r', pl, hz⟩ := I.list hq
    have hlen := r'.length
    exact Calls.call_len_list pl.isList (by simp only [List.size_toArray] <;> omega) ⟨.int ys.length, H, I.tok _, ⟨s.toks + 1, by rw [List.size_toArray, hlen]⟩, q⟩
  · obtain ⟨its, r', pl, hz⟩ := I.tuple hq
    have hlen := r'.length
    exact len_tuple pl (by simp only [List.size_toArray] <;> omega) ⟨.int ys.length, H, I.tok _, ⟨s.toks + 1, by rw [List.size_toArray, hlen]⟩, q⟩
theorem CallR.or {f : Value} {r r' : List V → Hp → VK → Prop} (h : CallR X f r) (h' : CallR X f r') : CallR X f (fun xs H Q => r xs H Q ∨ r' xs H Q) := by
  intro pins s σ H xs us Q I rs q
  rcases q with q | q
  · exact h pins s σ H xs us Q I rs q
  · exact h' pins s σ H xs us Q I rs q
theorem call_list_of : CallR X (.type "list") (fun xs H Q => ∃ p ys, xs = [.ref p] ∧ (SqL X.K H p ys ∨ SqT X.K H p ys) ∧ ∀ l, H l = none → Q (.ref l) (upd H l (.lst ys))) := by
  intro pins s σ H xs us Q I r h
  obtain ⟨p, ys, rfl, hq, q⟩ := h
  obtain ⟨u, rfl, rx⟩ := vals1 r
  cases rx
  have fin : ∀ (its : List Value), Vals ys its → ys.length ≤ sizeLine → ∀ (h' : Heap) (c' : Nat), (∀ b o', s.heap.get? b = some o' → h'.get? b = some o') →
      h'.get? s.heap.objs.size = some { cls := .type "list", dict := none, data := .seq its.toArray c', slots := #[] } → EP X pins σ Q (.ref s.heap.objs.size) { s with heap := h' } := fun its r' hz h' c' kp e =>
    ⟨.ref s.heap.objs.size, _, I.laid (t' := s.toks) kp (Nat.le_refl _) (show ObjOk X.prog X.w _ h' _ (.lst ys) from ⟨hz, its, c', r', e⟩), rfl, q _ (I.hok.fresh (Nat.le_refl _))⟩
  rcases hq with hq | hq
  · obtain ⟨its, r', pl, hz⟩ := I.list hq
    have hlen := r'.length
    obtain ⟨o, ho, hc, n, hd⟩ := pl.isList
    exact call_list_seq p (.inl rfl) ho hc hd (fun h' c' kp e => fin its r' hz h' c' kp e) (by simp only [List.size_toArray] <;> omega)
  · obtain ⟨its, r', pl, hz⟩ := I.tuple hq
    have hlen := r'.length
    obtain ⟨o, ho, hc, n, hd⟩ := pl
    exact call_list_seq p (.inr rfl) ho hc hd (fun h' c' kp e => fin its r' hz h' c' kp e) (by simp only [List.size_toArray] <;> omega)

/-! ### the call of a builtin's method: o.m(..) -/
/-- the value is of that builtin type -/
def tyV (K : PySem.W.Frag) (T : String) (x : V) (H : Hp) : Prop := match x with
  | .str _ => T = "str"
  | .int _ => T = "int"
  | .ref p => (T = "list" ∧ ∃ xs, SqL K H p xs) ∨ (T = "tuple" ∧ ∃ o, K.lookup p = some o ∧ o.cls = .type "tuple" ∧ o.dict = none) ∨
      (T = "dict" ∧ ((∃ kvs, H p = some (.dK kvs)) ∨ ∃ kvs, H p = some (.dT kvs))) ∨ (T = "set" ∧ ∃ S n, H p = some (.set S n))
  | _ => False
theorem tyV_is {pins : List (Addr × Obj)} {σ : St} {H : Hp} {s : Shared} {T : String} {x : V} {v : Value} (I : Inv X pins σ H s) (r : RelV x v) (ty : tyV X.K T x H) :
    s.TypeIs v T ∧ ∀ a, v = .ref a → ∃ ob, s.heap.get? a = some ob ∧ ob.dict = none := by
  cases x with
  | str z =>
    obtain ⟨t, rfl⟩ := r
    cases (show T = "str" from ty)
    exact ⟨typeIs_str s z t, fun _ e => nomatch e⟩
  | int i =>
    obtain ⟨t, rfl⟩ := r
    cases (show T = "int" from ty)
    exact ⟨typeIs_int s i t, fun _ e => nomatch e⟩
  | ref p =>
    cases r
    rcases ty with ⟨rfl, xs, hq⟩ | ⟨rfl, o, hk, hc, hd⟩ | ⟨rfl, hk⟩ | ⟨rfl, S, n, hk⟩
    · obtain ⟨its, _, pl, _⟩ := I.list hq
      refine ⟨pl.isList.typeIs, fun a e => ?_⟩
      cases e
      obtain ⟨o, n, e, c, hd, _⟩ := pl
      exact ⟨o, e, hd⟩
    · refine ⟨⟨o, I.kIn p o hk, hc⟩, fun a e => ?_⟩
      cases e
      exact ⟨o, I.kIn _ o hk, hd⟩
    · have z : ∃ o, s.heap.get? p = some o ∧ o.ExactDict := by
        rcases hk with ⟨kvs, hk⟩ | ⟨kvs, hk⟩
        · obtain ⟨_, _, _, _, o, _, _, e, ex, _⟩ := I.hok p _ hk
          exact ⟨o, e, ex⟩
        · obtain ⟨_, _, _, _, o, _, _, e, ex, _⟩ := I.hok p _ hk
          exact ⟨o, e, ex⟩
      obtain ⟨o, e, ex⟩ := z
      refine ⟨⟨o, e, ex.1⟩, fun a e2 => ?_⟩
      cases e2
      exact ⟨o, e, ex.2.1⟩
    · obtain ⟨o, _, _, _, e, ex, _⟩ := I.hok p _ hk
      refine ⟨⟨o, e, ex.1⟩, fun a e2 => ?_⟩
      cases e2
      exact ⟨o, e, ex.2.1⟩
  | _ => exact False.elim ty
def tBM0 (K : PySem.W.Frag) (T : String) (r : V → List V → Hp → VK → Prop) (to : TE) : TE := fun σ H Q => to σ H fun x H1 => tyV K T x H1 ∧ r x [] H1 Q
def tBM (K : PySem.W.Frag) (T : String) (r : V → List V → Hp → VK → Prop) (to : TE) (t : TA) : TE := fun σ H Q => to σ H fun x H1 => tyV K T x H1 ∧ t σ H1 fun xs H2 => r x xs H2 Q
variable {o e : Expr} {es : List Expr} {to : TE} {t : TA} {name : Str} {apos cpos : Pos} {T id : String} {r : V → List V → Hp → VK → Prop}
theorem pe_bm0 (pa : PlainAttrs T) (slot : Slot T name id) (hty : typeOf (.builtin id) = pure (.type "method_descriptor")) (hm : MtR X id r) (ho : PE X o to)
    (hbase : attributeBase o name X.env (eval o X.env) = eval o X.env := by rfl) (hline : (apos.endLine == cpos.line) = true := by rfl) : PE X (.Call (.Attribute o name apos) [] [] cpos) (tBM0 X.K T r to) := by
  intro pins s σ H Q I h
  refine wpAny_Call_method0_late hbase hline (thn (ho pins s σ H _ I h) fun v s1 ⟨x, H1, I1, r1, ty, q1⟩ => ?_)
  obtain ⟨h1, h2⟩ := tyV_is I1 r1 ty
  exact ⟨T, id, pa, slot, hty, h1, h2, Calls.callWith_builtin rfl (PySem.evalArgs_none (hm pins s1 σ H1 x [] v [] Q I1 r1 .nil q1))⟩
theorem pe_bm (pa : PlainAttrs T) (slot : Slot T name id) (hty : typeOf (.builtin id) = pure (.type "method_descriptor")) (hm : MtR X id r) (ho : PE X o to) (ha : PA X (e :: es) t)
    (hbase : attributeBase o name X.env (eval o X.env) = eval o X.env := by rfl)
    (hfew : ((backTo cpos (starEach (e :: es) X.env)).all (fun x => !x.1) && (backToKw cpos (keywordEach [] X.env)).all (fun x => x.1.isSome)
      && decide ((e :: es).length + ([] : List Keyword).length + (if ([] : List Keyword).isEmpty then 0 else 1) < 30)) = true := by rfl)
    (hline : (apos.endLine == cpos.line) = true := by rfl) (hs : starEach (e :: es) X.env = (false, eval e X.env) :: starEach es X.env := by rfl) (hplain : (backTo cpos (starEach es X.env)).any (·.1) = false := by rfl) :
    PE X (.Call (.Attribute o name apos) (e :: es) [] cpos) (tBM X.K T r to t) := by
  intro pins s σ H Q I h
  refine wpAny_Call_method_late hbase hfew hline rfl (thn (ho pins s σ H _ I h) fun v s1 ⟨x, H1, I1, r1, ty, q1⟩ => ?_)
  obtain ⟨h1, h2⟩ := tyV_is I1 r1 ty
  refine ⟨T, id, pa, slot, hty, h1, h2, ?_⟩
  have hA := ha cpos pins s1 σ H1 _ I1 q1
  rw [hs] at hA ⊢
  refine Calls.callWith_builtin (by show (false || (backTo cpos (starEach es X.env)).any (·.1)) = false; rw [hplain] <;> rfl) (Calls.evalArgs_plain ?_)
  exact thn hA fun us s2 ⟨vs, H2, I2, r2, q2⟩ => hm pins s2 σ H2 x vs v us Q I2 r1 r2 q2
/- xs.append(e), list.index on a module's tuple .. are MtR facts of 06m -/
end
end L2

namespace L2
open PySem PySem.Spec PyProof.Rows

def MtM (X : Cx) (id : String) (r : V → List V → Hp → VK → Prop) : Prop :=
  ∀ (pins : List (Addr × Obj)) (s : Shared) (σ : St) (H : Hp) (x : V) (xs : List V) (v : Value) (us : List Value) (Q : VK), Inv X pins σ H s → RelV x v → Vals xs us → r x xs H Q →
    wpAny (model X.prog X.w) X.A (call (.builtin id) (v :: us)) (EP X pins σ Q) X.xe s

/-! ### lists of values -/
theorem Vals.one : ∀ {x : V} {us : List Value}, Vals [x] us → ∃ u, us = [u] ∧ RelV x u
  | _, _, .cons r .nil => ⟨_, rfl, r⟩
theorem Vals.two : ∀ {x y : V} {us : List Value}, Vals [x, y] us → ∃ u v, us = [u, v] ∧ RelV x u ∧ RelV y v
  | _, _, _, .cons r (.cons q .nil) => ⟨_, _, rfl, r, q⟩
theorem Vals.zero : ∀ {us : List Value}, Vals [] us → us = []
  | _, .nil => rfl
theorem Vals.dropLast {xs : List V} {us : List Value} (h : Vals xs us) : Vals xs.dropLast us.dropLast := by
  induction h with
  | nil => exact .nil
  | cons r t ih =>
    cases t with
    | nil => exact .nil
    | cons q t' => exact .cons r ih
theorem Vals.eraseIdx : ∀ {xs : List V} {us : List Value} (i : Nat), Vals xs us → Vals (xs.eraseIdx i) (us.eraseIdx i)
  | _, _, _, .nil => .nil
  | _, _, 0, .cons _ t => t
  | _, _, i + 1, .cons r t => .cons r (Vals.eraseIdx i t)
theorem Vals.reverse {xs : List V} {us : List Value} (h : Vals xs us) : Vals xs.reverse us.reverse := by
  induction h with
  | nil => exact .nil
  | cons r t ih => rw [List.reverse_cons, List.reverse_cons]; exact Vals.append ih (.cons r .nil)
theorem Vals.rep {xs : List V} {us : List Value} (h : Vals xs us) : ∀ k : Nat, Vals (List.replicate k xs).flatten (List.replicate k us).flatten
  | 0 => .nil
  | k + 1 => by
    rw [List.replicate_succ, List.replicate_succ, List.flatten_cons, List.flatten_cons]
    exact Vals.append h (Vals.rep h k)
theorem foldl_rep (its : List Value) : ∀ (k : Nat) (acc : List Value),
    List.foldl (fun x1 x2 => x1 ++ x2) acc.toArray (List.replicate k its.toArray) = (acc ++ (List.replicate k its).flatten).toArray
  | 0, acc => by simp
  | k + 1, acc => by
    have e : acc.toArray ++ its.toArray = (acc ++ its).toArray := by simp
    have e2 : (acc ++ its) ++ (List.replicate k its).flatten = acc ++ (List.replicate (k + 1) its).flatten := by
      rw [List.replicate_succ, List.flatten_cons, List.append_assoc]
    rw [← e2, ← foldl_rep its k (acc ++ its), ← e, List.replicate_succ, List.foldl_cons]

section
variable {X : Cx} {pins : List (Addr × Obj)} {σ : St} {H : Hp} {s : Shared} {l b : Addr} {xs ys zs : List V}

/-! ### the two steps: a tracked list is rewritten, a new list is laid -/
theorem Inv.lset {its its' : List Value} {n : Nat} {f : Array Value → Array Value} {t' : Nat} (I : Inv X pins σ H s) (hH : H l = some (.lst xs))
    (e : s.heap.get? l = some { cls := .type "list", data := .seq its.toArray n }) (hf : f its.toArray = its'.toArray) (hv : Vals ys its') (hz : ys.length ≤ sizeLine) :
    Inv X pins σ (upd H l (.lst ys)) { s with heap := s.heap.update l (Obj.mapSeq f), toks := t' } := by
  have q := PySem.IsL.update e f
  rw [hf] at q
  refine I.write (x := l) (e := l) (by rw [hH]; exact trivial) (.inl rfl) (fun b' u hb hu => (Heap.get?_update_other s.heap (Obj.mapSeq f) (Ne.symm hb)).trans hu) ⟨_, q⟩ ?_
  exact ⟨hz, its', _, hv, q⟩
theorem Inv.lnew {its : List Value} {t' : Nat} (I : Inv X pins σ H s) (hv : Vals ys its) (hz : ys.length ≤ sizeLine) :
    Inv X pins σ (upd H s.heap.objs.size (.lst ys)) { s with heap := s.heap.push { cls := .type "list", data := .seq its.toArray }, toks := t' } :=
  I.laid (fun _ _ q => Heap.get?_push_of_some _ q) (Nat.le_refl _) ⟨hz, its, 0, hv, Heap.get?_push_size _ rfl⟩
theorem Inv.fresh (I : Inv X pins σ H s) : H s.heap.objs.size = none := I.hok.fresh (Nat.le_refl _)
theorem Inv.lstM (I : Inv X pins σ H s) (hH : H l = some (.lst xs)) : xs.length ≤ sizeLine ∧ ∃ (its : List Value) (n : Nat), Vals xs its ∧ xs.length = its.length ∧ s.heap.get? l = some { cls := .type "list", data := .seq its.toArray n } := by
  obtain ⟨z, its, n, r, e⟩ := I.hok l _ hH
  exact ⟨z, its, n, r, r.length, e⟩

theorem notLongL {n : Nat} (h : n ≤ sizeLine) : Builtin.List.listTooLong n = false := by
  unfold Builtin.List.listTooLong
  exact decide_eq_false (by omega)
end

section
variable {X : Cx}

/-! ### methods -/
def rAppend : V → List V → Hp → VK → Prop := fun x vs H Q => ∃ l xs y, x = .ref l ∧ vs = [y] ∧ H l = some (.lst xs) ∧ xs.length < sizeLine ∧ Q .non (upd H l (.lst (xs ++ [y])))
theorem mt_append : MtM X "list.append" rAppend := by
  intro pins s σ H x vs v us Q I rx rv h
  obtain ⟨l, xs, y, rfl, rfl, hH, hz, q⟩ := h
  cases rx
  obtain ⟨u, rfl, ru⟩ := rv.one
  obtain ⟨z, its, n, r, hl, e⟩ := I.lstM hH
  refine call_meets F.slot_list_append ⟨_, e, rfl⟩ F.entry_list_append (F.args_list_append_2 _ _) (PySem.list_append l its.toArray n u (by rw [List.size_toArray]; omega)) ⟨e, ?_⟩
  refine ⟨.non, _, I.lset (its' := its ++ [u]) hH e (by simp) (r.append (.cons ru .nil)) ?_, rfl, q⟩
  rw [List.length_append, List.length_singleton]
  omega

def rExtend : V → List V → Hp → VK → Prop := fun x vs H Q => ∃ l b xs zs, x = .ref l ∧ vs = [.ref b] ∧ H l = some (.lst xs) ∧ H b = some (.lst zs) ∧ xs.length + zs.length ≤ sizeLine ∧ Q .non (upd H l (.lst (xs ++ zs)))
theorem mt_extend : MtM X "list.extend" rExtend := by
  intro pins s σ H x vs v us Q I rx rv h
  obtain ⟨l, b, xs, zs, rfl, rfl, hH, hB, hz, q⟩ := h
  cases rx
  obtain ⟨u, rfl, ru⟩ := rv.one
  cases ru
  obtain ⟨z, its, n, r, hl, e⟩ := I.lstM hH
  obtain ⟨z2, its2, n2, r2, hl2, e2⟩ := I.lstM hB
  have hsz : its.toArray.size + its2.toArray.size ≤ sizeLine := by rw [List.size_toArray, List.size_toArray]; omega
  have hlong : ¬ (!its.toArray.isEmpty && Builtin.List.listTooLong (its.toArray.size + its2.toArray.size)) = true := by
    rw [notLongL hsz, Bool.and_false]
    exact Bool.false_ne_true
  refine call_meets F.slot_list_extend ⟨_, e, rfl⟩ F.entry_list_extend (F.args_list_extend_2 _ _)
    (AutoSeq1.list_extend_list_list_0 l its.toArray n b its2.toArray n2 hlong (by rw [List.size_toArray]; omega) (by omega)) ⟨e, e2, ?_⟩
  refine ⟨.non, _, I.lset (its' := its ++ its2) hH e (by simp) (r.append r2) ?_, rfl, q⟩
  rw [List.length_append]
  omega

def rPop : V → List V → Hp → VK → Prop := fun x vs H Q => ∃ l xs y, x = .ref l ∧ vs = [] ∧ H l = some (.lst xs) ∧ xs[xs.length - 1]? = some y ∧ Q y (upd H l (.lst xs.dropLast))

def rPopAt : V → List V → Hp → VK → Prop := fun x vs H Q => ∃ l xs i k y, x = .ref l ∧ vs = [.int i] ∧ H l = some (.lst xs) ∧ -(2 ^ 63) ≤ i ∧ i < 2 ^ 63 ∧ seqIndex? i xs.length = some k ∧ xs[k]? = some y ∧ Q y (upd H l (.lst (xs.eraseIdx k)))

def rReverse : V → List V → Hp → VK → Prop := fun x vs H Q => ∃ l xs, x = .ref l ∧ vs = [] ∧ H l = some (.lst xs) ∧ Q .non (upd H l (.lst xs.reverse))

def rClear : V → List V → Hp → VK → Prop := fun x vs H Q => ∃ l xs, x = .ref l ∧ vs = [] ∧ H l = some (.lst xs) ∧ Q .non (upd H l (.lst []))
theorem mt_clear : MtM X "list.clear" rClear := by
  intro pins s σ H x vs v us Q I rx rv h
  obtain ⟨l, xs, rfl, rfl, hH, q⟩ := h
  cases rx
  have hus := rv.zero
  subst hus
  obtain ⟨z, its, n, r, hl, e⟩ := I.lstM hH
  refine call_meets F.slot_list_clear ⟨_, e, rfl⟩ F.entry_list_clear (F.args_list_clear_1 _) (AutoSeq1.list_clear_list_0 l its.toArray n (by rw [List.size_toArray]; omega)) ⟨e, ?_⟩
  exact ⟨.non, _, I.lset (its' := []) (ys := []) hH e rfl .nil (Nat.zero_le _), rfl, q⟩

/-! ### list + list, list += list, list * int -/
def rCat : R2 := fun x y H Q => ∃ l b xs zs, x = .ref l ∧ y = .ref b ∧ H l = some (.lst xs) ∧ H b = some (.lst zs) ∧ xs.length + zs.length ≤ sizeLine ∧ ∀ p, H p = none → Q (.ref p) (upd H p (.lst (xs ++ zs)))
/-- a list times an int (a negative one is nothing) -/
def rRep : R2 := fun x y H Q => ∃ l k xs, x = .ref l ∧ y = .int k ∧ H l = some (.lst xs) ∧ -(2 ^ 63) ≤ k ∧ k < 2 ^ 63 ∧ xs.length * k.toNat ≤ sizeLine ∧
  ∀ p, H p = none → Q (.ref p) (upd H p (.lst (List.replicate k.toNat xs).flatten))
theorem len_rep {α : Type} (xs : List α) (k : Nat) : (List.replicate k xs).flatten.length = k * xs.length := by
  induction k with
  | zero => simp
  | succ k ih => rw [List.replicate_succ, List.flatten_cons, List.length_append, ih, Nat.succ_mul, Nat.add_comm]
theorem op_rep : OpR X (binaryOp .Mult) rRep := by
  intro pins s σ H x y v u Q I rx ry h
  obtain ⟨l, k, xs, rfl, rfl, hH, h1, h2, hz, q⟩ := h
  cases rx
  obtain ⟨t, rfl⟩ := ry
  obtain ⟨z, its, n, r, hl, e⟩ := I.lstM hH
  have hlen : its.toArray.size * k.toNat ≤ sizeLine := by rw [List.size_toArray, ← hl]; exact hz
  have hcap : ¬ its.toArray.size * k.toNat > (2 ^ 63 - 1) / 8 := by
    have : (sizeLine : Nat) ≤ (2 ^ 63 - 1) / 8 := by decide
    omega
  have hfit : ¬ (!Builtin.List.listFitsIndex k) = true := by
    rw [fitsIndex_both h1 h2]
    exact Bool.false_ne_true
  have hlong : ¬ Builtin.List.listTooLong (its.toArray.size * k.toNat) = true := by
    rw [notLongL hlen]
    exact Bool.false_ne_true
  have hnew : List.foldl (fun x1 x2 => x1 ++ x2) #[] (List.replicate (if its.toArray.isEmpty = true then 0 else k.toNat) its.toArray) = (List.replicate k.toNat its).flatten.toArray := by
    have f0 : ∀ m : Nat, List.foldl (fun x1 x2 => x1 ++ x2) #[] (List.replicate m its.toArray) = (List.replicate m its).flatten.toArray := fun m => by
      have := foldl_rep its m []
      rw [List.nil_append] at this
      exact this
    rw [f0]
    cases its with
    | nil => simp
    | cons a r' => rw [if_neg (by simp)]
  refine wpAny_binaryOp_repeat_ref (T := "list") (U := "int") (by decide) ⟨_, e, rfl⟩ (fun s' => typeIs_int s' k t) noFill_list_mul F.fills_int_mul F.slot_int_rmul repeat_list F.slot_int_index.lookup
    (call_meets F.slot_int_rmul (typeIs_int s k t) F.entry_int_rmul (F.args_int_rmul_2 _ _) (int___rmul___int_list k t l its.toArray n)
      ⟨e, rfl, ⟨_, e, rfl⟩, call_meets F.slot_list_mul ⟨_, e, rfl⟩ F.entry_list_mul (F.args_list_mul_2 _ _) (AutoListH.list___mul___list_int_3 l its.toArray n k t hfit hcap hlong) ⟨e, ?_⟩⟩)
  rw [hnew]
  exact ⟨.ref _, _, I.lnew (t' := s.toks) (r.rep k.toNat) (by rw [len_rep, Nat.mul_comm]; exact hz), rfl, q _ I.fresh⟩

/-! ### del xs[i] -/
end

/-! ### xs[a:b] = ys -/
section
variable {prog : Program} {w : World} {A : Around} {E : Value → Shared → Prop} {s : Shared}
set_option maxRecDepth 100000 in
end

section
variable {X : Cx}
end
end L2

namespace Att
open PySem PySem.W PySem.Calls PyProof.Rows

/-! ### the script -/
theorem ints_of_wellAll {P : Params} {h : Heap} : ∀ (ns : List Int) (vs : List Value), WellAll P h vs (ns.map WData.int) → IntsAre vs ns := by
  intro ns
  induction ns with
  | nil =>
    intro vs w
    rw [List.map_nil] at w
    cases w
    exact .nil
  | cons n ns ih =>
    intro vs w
    rw [List.map_cons] at w
    cases w with
    | cons a b =>
      cases a
      exact .cons _ _ (ih _ b)

theorem script_of {l : OpenLaw} {n : Nat} (hn : l.most = some n) {P : Params} {h : Heap} {args : List WData} {vals : List Value}
    (hpre : l.row.toRowW.claim.pre args = true) (hwl : WellAll P h vals args) :
    ∃ a vs ns, vals = [Value.ref a] ∧ args = [WData.list (ns.map WData.int)] ∧ h.get? a = some { cls := .type "list", data := .seq vs.toArray } ∧ IntsAre vs ns ∧ ns.length ≤ n := by
  have hsh : WShape.hasAll [] args [.list .int] = true := (pre_splitW hpre).1
  have hc : l.pre.holds [] { args := args } = true := (pre_splitW hpre).2
  obtain ⟨d, r, rfl, h1, h2⟩ := hasAllW_cons hsh
  obtain rfl := hasAllW_nil h2
  obtain ⟨xs, rfl, h3⟩ := hasW_list h1
  obtain ⟨ns, rfl⟩ := items_int h3
  have hlen : ns.length ≤ n := by
    unfold OpenLaw.pre at hc
    have h4 : (WTm.not (.lt (.lit (.int (n : Int))) (.len (.arg 0)))).holds [] { args := [.list (ns.map .int)] } = true := by
      have h4 := (holds_andW hc).1
      rw [hn] at h4
      exact h4
    have h5 := condW_of h4 (w_not (w_lt w_lit (w_len_list (w_arg rfl))))
    rw [List.length_map] at h5
    refine Nat.le_of_not_lt fun q => ?_
    have q' : (n : Int) < ((ns.length : Nat) : Int) := by omega
    first
      | (rw [decide_eq_true q'] at h5; exact absurd h5 (by decide))
      | (simp at h5; omega)
  cases hwl with
  | cons w1 w2 =>
    cases w2
    cases w1 with
    | list ho hall => exact ⟨_, _, ns, rfl, rfl, ho, ints_of_wellAll ns _ hall, hlen⟩

theorem post_true (l : OpenLaw) (args : List WData) : l.row.toRowW.claim.post args (.bool true) args = true :=
  postW_of (r := l.row.toRowW) (X := (true == true))
    (show WShape.has [] (.bool true) .bool = true by first | rfl | decide | simp [WShape.has, WShape.arms, WShape.armsAll])
    (show (WTm.eq .res (.lit (.bool true))).value [] { args := args, res := some (.bool true), after := args } = some (.bool (true == true)) from w_eq_bool (w_res rfl) w_lit) rfl

/-! ### the attachment: holds_open's last premise (the goal 'hc' behind k_head) from a wpAny of the law's body -/

/-- the same from a codeAny of the CALL (for a layer whose function contracts speak of calls) -/
theorem attach_call {l : OpenLaw} {n : Nat} {q : Program} {loose : List Str} {XP : (Str → Option Value) → Heap → Prop} {YP : World → Heap → Prop} {d : DefRec}
    (hn : l.most = some n) (hdf : d.params.defaults = [])
    (call : ∀ (w : World) (s₀ s₁ : Shared) (mg mb : Str → Option Value) (fa : Addr) (o : Obj) (pm cd doc : Value) (a : Addr) (vs : List Value) (ns : List Int),
      Ground q loose [] XP w s₀ mg mb s₁.heap → YP w s₁.heap →
      s₁.heap.get? fa = some o → o.data = .func (docDef d.name d.params d.body d.scope pm cd doc) → s₁.heap.CodeRec cd d.name → mg d.name = some (.ref fa) →
      s₁.heap.get? a = some { cls := .type "list", data := .seq vs.toArray } → IntsAre vs ns → ns.length ≤ n → s₁.gens = #[] →
      codeAny (model l.prog w) callerA (.call (.ref fa) ⟨[.ref a], []⟩) (fun r s' => r = .ok (.ret (.bool true)) ∧ OldK s₁.heap s'.heap ∧ s'.os = s₁.os ∧ AllBare s'.gens) s₁) :
    WalkO q loose XP YP l.row.toRowW d [] (fun f vs => PySem.call f vs) := by
  intro w s₀ s₁ mg mb G Y fa o pm cd doc dV kV ho hd hcd hD hmg hg args vals as hpre hlay hrd hwl hlo
  obtain rfl : dV = .none := Dflts.none hD hdf
  obtain rfl : kV = .none := Dflts.noKw hD
  obtain ⟨a, vs, ns, rfl, rfl, hobj, hints, hlen⟩ := script_of hn hpre hwl
  refine enter_call (codeAny_mono (call w s₀ s₁ mg mb fa o pm cd doc a vs ns G Y ho (fd_plain hd) hcd hmg hobj hints hlen hg) fun r s' hq => ?_)
  obtain ⟨rfl, h2, h3, h4⟩ := hq
  exact ⟨.inl ⟨.bool true, .bool true, [], rfl, fun _ => rfl, .bool true, post_true l _, fun _ => ⟨List.Pairwise.nil, fun _ hm => (nomatch hm)⟩⟩, h2, h3, h4⟩


/-! ### rules over ANY heap (no ledger) from facts about the written part K: the library's own take a ledger (News) for what they write -/
section
variable {prog : Program} {w : World} {A : Around} {E : Value → Shared → Prop} {s : Shared} {K : Frag}





/-! the whole heap as the ledger: makes every rule that writes through a ledger a rule over any heap -/
def noObjs (h : Heap) : Heap := { h with objs := #[] }
def ledger (h : Heap) (L d : Addr) : List (Addr × Obj) := (List.range h.objs.size).filterMap fun a => if a = L ∨ a = d then none else (h.get? a).map fun o => (a, o)

end
end Att

namespace L2
open PySem PySem.Spec PyProof.Rows

theorem vals_ints : ∀ {vs : List Value} {ns : List Int}, IntsAre vs ns → Vals (ns.map V.int) vs
  | _, _, .nil => .nil
  | _, _, .cons n t h => .cons ⟨t, rfl⟩ (vals_ints h)

/-- nothing is tracked but the script, known to the object (or it is an object of the module) -/
def Only (H : Hp) : Prop := ∀ b, H b = none ∨ ∃ o xs, H b = some (.frz o (.lst xs))

/-- THE HEAD: the law's promise, at the heap behind the top. F, the promise of the law's def, may use that base is part of the heap (so K.In base, base.Ns mainGlobals mg stand in Mod) -/
theorem law_call {P : Program} {w : World} {K : PySem.W.Frag} {mg mb : Str → Option Value} {CX : CXT} {k : Nat} {fa a : Addr} {fd : FuncData} {x : Str} {sp : Sp} {s₁ : Shared} {vs : List Value} {ns : List Int}
    (KX : K.In s₁.heap) (hns : s₁.heap.Ns mainGlobals mg) (hb : s₁.heap.Ns builtinsNs mb) (hbb : ∀ x : Str, x ≠ "__name__" → mb x = bootBuiltins x) (hlim : s₁.heap.NoLimit) (hg : s₁.gens = #[])
    (ha : s₁.heap.get? a = some { cls := .type "list", data := .seq vs.toArray }) (hi : IntsAre vs ns) (hl : ns.length ≤ sizeLine) (hr : Room k callerA)
    (F : ∀ base : Heap, K.In base → base.Ns mainGlobals mg → FnOk P w K mg base CX k fa fd [x] sp) (hbind : ∀ (s : Shared) (u : Value), BindsTo s fd ⟨[u], []⟩ [(x, u)])
    (hsp : ∀ H : Hp, Only H → SqL K H a (ns.map V.int) → sp [.ref a] H (fun v _ => v = .bl true) fun _ _ _ => False)
    (hCX : ∀ H e s', CX [] H s₁ (fun _ _ _ => False) e s' → False) :
    codeAny (model P w) callerA (.call (.ref fa) ⟨[.ref a], []⟩) (fun r s' => r = .ok (.ret (.bool true)) ∧ OldK s₁.heap s'.heap ∧ s'.os = s₁.os ∧ AllBare s'.gens) s₁ := by
  have rv := vals_ints hi
  have lenV := hi.length
  -- from an abstract heap in which nothing but the script may be tracked
  have core : ∀ H : Hp, Only H → SqL K H a (ns.map V.int) → HOk P w H s₁.heap → (∀ b, H b ≠ none → b = a) → (H a ≠ none → K.lookup a = none) →
      codeAny (model P w) callerA (.call (.ref fa) ⟨[.ref a], []⟩) (fun r s' => r = .ok (.ret (.bool true)) ∧ OldK s₁.heap s'.heap ∧ s'.os = s₁.os ∧ AllBare s'.gens) s₁ := by
    intro H hO hS hok hA hK
    have base_of : ∀ {b : Addr} {o : Obj}, s₁.heap.get? b = some o → H b = none → (hidT s₁.heap H).get? b = some o := fun e n => hidT_get e n
    have noA : ∀ {b : Addr} {o : Obj} {es : Array DictEntry} {ep : Nat}, s₁.heap.get? b = some o → o.data = .dict es ep → H b = none := fun {b o es ep} e d => by
      cases q : H b with
      | none => rfl
      | some u =>
        have e' : b = a := hA b (by rw [q]; simp)
        subst e'
        rw [ha] at e; cases e
        have d' : Data.seq vs.toArray _ = Data.dict es ep := d
        cases d'
    have nsK : ∀ {b : Addr} {m : Str → Option Value}, s₁.heap.Ns b m → (hidT s₁.heap H).Ns b m := fun {b m} ⟨o, es, ep, e, d, r⟩ => ⟨o, es, ep, base_of e (noA e d), d, r⟩
    have hKb : K.In (hidT s₁.heap H) := fun b o e => base_of (KX b o e) (by
      cases q : H b with
      | none => rfl
      | some u =>
        have e' : b = a := hA b (by rw [q]; simp)
        subst e'
        rw [hK (by rw [q]; simp)] at e; cases e)
    have hM : Mod K mg (hidT s₁.heap H) := ⟨hKb, nsK hns, ⟨mb, nsK hb, hbb⟩, let ⟨mc, h1, h2⟩ := hlim; ⟨mc, nsK h1, h2⟩⟩
    have e0 : Env0 P w K mg (hidT s₁.heap H) callerA [] s₁ H := ⟨rfl, hM, fun b o e => of_hidT e, Nat.le_of_eq (hidT_size _ _), trivial, fun b hb => absurd (show b ∈ ([] : List Addr) from hb) (by simp), hok, .of_eq hg⟩
    refine codeAny_mono ((F _ hKb (nsK hns)).run callerA [] s₁ H ⟨[.ref a], []⟩ [.ref a] [.ref a] _ _ hr e0 (hbind s₁ (.ref a)) (.cons rfl .nil) (hsp H hO hS)) fun r s' h => ?_
    cases r with
    | error e => exact (hCX H e s' h).elim
    | ok fl =>
      cases fl with
      | next => exact False.elim h
      | brk => exact False.elim h
      | cont => exact False.elim h
      | ret u =>
        obtain ⟨v, H', os, bare, un, hok', r', q⟩ := h
        have q' : v = .bl true := q
        subst q'
        obtain rfl : u = Value.bool true := r'
        refine ⟨rfl, OldK.of_keep fun b o e => ?_, os, bare⟩
        cases q : H b with
        | none => exact un.keep b o e q (by intro z; exact absurd (show b ∈ ([] : List Addr) from z) (by simp)) (by simp)
        | some u =>
          rcases hO b with z | ⟨ob, xs, z⟩
          · rw [q] at z; cases z
          · have z2 := un.frzs b ob _ z
            obtain ⟨e1, _⟩ := hok b _ z
            obtain ⟨e2, _⟩ := hok' b _ z2
            rw [e] at e1; cases e1
            exact e2
  cases hk : K.lookup a with
  | some o =>
    -- the script is one of the module's own objects
    have e := KX a o hk
    rw [ha] at e
    cases e
    refine core (fun _ => none) (fun _ => .inl rfl) (.inr ⟨_, vs.toArray, _, hk, rfl, rfl, rfl, by rw [List.size_toArray, lenV]; exact hl, by simpa using rv⟩) (fun b u z => by have z' : (none : Option HO) = some u := z; cases z') (fun b z => absurd rfl z) fun z => absurd rfl z
  | none =>
    refine core (fun b => if b = a then some (.frz { cls := .type "list", data := .seq vs.toArray } (.lst (ns.map V.int))) else none) (fun b => ?_) (.inl (.inr ⟨{ cls := .type "list", data := .seq vs.toArray }, if_pos rfl⟩)) (fun b u z => ?_) (fun b z => ?_) fun _ => hk
    · by_cases hb : b = a
      · exact .inr ⟨_, _, if_pos hb⟩
      · exact .inl (if_neg hb)
    · by_cases hb : b = a
      · have z' := (if_pos hb).symm.trans z
        cases z'
        subst hb
        exact ⟨ha, by rw [List.length_map]; exact hl, vs, _, rv, ha⟩
      · have z' := (if_neg hb).symm.trans z
        cases z'
    · by_cases hb : b = a
      · exact hb
      · exact absurd (if_neg hb) z
end L2

namespace L2
open PySem PySem.Spec PyProof.Rows

abbrev KOf {K : PySem.W.Frag} {h : Heap} (_ : K.In h) : PySem.W.Frag := K

/-- the goal that k_head leaves (case hc), from the law's promise. F gives the function object fd (K's own) once, then the promise over every base -/
theorem walk_of {l : PySem.W.OpenLaw} {n k : Nat} {q : Program} {loose : List Str} {XP : (Str → Option Value) → Heap → Prop} {YP : World → Heap → Prop} {d : DefRec} {K : Params → PySem.W.Frag} {CX : World → CXT} {sp : World → Sp} {x : Str}
    (hn : l.most = some n) (hn2 : n ≤ sizeLine) (hdf : d.params.defaults = []) (hr : Room k callerA)
    (hY : ∀ (w : World) (h : Heap), YP w h → (K w.params).In h)
    (F : ∀ (w : World) (mg : Str → Option Value) (fa : Addr) (h : Heap), (K w.params).In h → h.Ns mainGlobals mg → mg d.name = some (.ref fa) →
      ∃ fd : FuncData, (∀ (s : Shared) (u : Value), BindsTo s fd ⟨[u], []⟩ [(x, u)]) ∧
        ∀ base : Heap, (K w.params).In base → base.Ns mainGlobals mg → FnOk l.prog w (K w.params) mg base (CX w) k fa fd [x] (sp w))
    (hsp : ∀ (w : World) (H : Hp) (a : Addr) (ns : List Int), ns.length ≤ n → Only H → SqL (K w.params) H a (ns.map V.int) → sp w [.ref a] H (fun v _ => v = .bl true) fun _ _ _ => False)
    (hCX : ∀ (w : World) (H : Hp) (s : Shared) (e : Value) (s' : Shared), CX w [] H s (fun _ _ _ => False) e s' → False) :
    PySem.W.WalkO q loose XP YP l.row.toRowW d [] (fun f vs => PySem.call f vs) := by
  refine Att.attach_call hn hdf fun w s₀ s₁ mg mb fa o pm cd doc a vs ns G Y ho hd hcd hmg hobj hints hlen hg => ?_
  have KX := hY w _ Y
  obtain ⟨fd, hb, hF⟩ := F w mg fa _ KX G.T.g hmg
  exact law_call KX G.T.g G.T.b G.T.builtins G.T.nolimit hg hobj hints (Nat.le_trans hlen hn2) hr hF hb (fun H hO hS => hsp w H a ns hlen hO hS) fun H e s' => hCX w H s₁ e s'
end L2

/- THE LAST THEOREM (shape; LID, My.* are yours):
   My.Adr: a structure of the addresses that your layer names (classes, functions); My.Txt K t: a structure (Prop) of the equations over K;
   My.txt_mk : {K} {implicit addresses ..} (e1 : nsIn K mainGlobals "law" = some (some (.ref f))) (e2 : K.lookup f = some ⟨oc, od, .func (fnOf "law" "law" params body scope dV kV doc pm an cdv ct), sl⟩) (e3 : codeIn K cdv "law" = true) .. : ∃ t, My.Txt K t

set_option maxRecDepth 100000 in
set_option maxHeartbeats 0 in
theorem PySem.Challenge.cw_LID_holds : PySem.Challenge.rw_LID.Holds := by
  w_on; o_law; k_head; (case hw => w_witness2)
  k_fill
  refine L2.walk_of (l := PySem.Challenge.rw_LID) (n := 63) (k := 40) (x := "script") (CX := fun w => ..) (sp := fun _ => My.sp_law) rfl (by decide) rfl ⟨rfl, by decide, by decide⟩ (fun w h Y => PySem.W.kIn_of Y) ?F ?S ?C
  case F =>
    intro w mg fa h KX G hmg
    have T : ∃ t, My.Txt (L2.KOf KX) t := by
      dsimp only [L2.KOf]                          -- K must stand as «<heap const> w.params» for k_is
      refine' My.txt_mk ?e1 ?e2 ?e3 ..
      (case e1 => PySem.W.k_is)                    -- in the order: a name -> its address -> its object -> its parts
      (case e2 => PySem.W.k_is)
      ..
    obtain ⟨t, T⟩ := T
    have e0 := hmg.symm.trans (PySem.W.mg_of KX G T.law)
    cases e0                                       -- fa is the law's own address
    exact ⟨_, fun s u => .of_eq rfl, fun base kb nb => My.law_fn T kb nb⟩     -- if «.of_eq rfl» comes too early: refine' ⟨_, ?b, fun base kb nb => My.law_fn T kb nb⟩; exact fun s u => .of_eq rfl
  case S => exact fun w H a ns hl hO hS => ..
  case C => exact ..
(the tactic k_is has no namespace: write k_is) -/

/-! SHORT WORDS over the layer: a def of the text, its body, what a loop and a test want. -/
namespace L2
open PySem PySem.Spec PyProof.Rows

/-! ### the text by places -/
/-- the j-th statement of a class's body -/
def inClass (s : Stmt) (j : Nat) : Stmt := match s with
  | .ClassDef _ _ _ body _ _ _ _ _ _ _ => body.getD j (.Pass ⟨0, 0, 0, 0⟩)
  | _ => .Pass ⟨0, 0, 0, 0⟩
def defArgs (s : Stmt) : Arguments := match s with
  | .FunctionDef _ a _ _ _ _ _ _ _ _ => a
  | _ => { posonlyargs := [], args := [], vararg := none, kwonlyargs := [], kw_defaults := [], kwarg := none, defaults := [] }
def defBody (s : Stmt) : List Stmt := match s with
  | .FunctionDef _ _ b _ _ _ _ _ _ _ => b
  | _ => []
def defScope (s : Stmt) : Scope := match s with
  | .FunctionDef _ _ _ _ _ _ sc _ _ _ => sc
  | _ => { kind := .function, names := [], isGenerator := false, isCoroutine := false }

/-! ### no exception leaves a def -/
abbrev CX0 : CXT := fun _ _ _ _ _ _ => False
abbrev E0 : XK := fun _ _ _ => False

/-! ### a def (or method) of the text as it stands behind the top -/
structure Fun (K : PySem.W.Frag) (x qual : Str) (st : Stmt) (f : Addr) (fd : FuncData) : Prop where
  ex : ∃ (oc : Value) (od : Option Addr) (kV doc pm : Value) (an : Option Addr) (cdv ct : Value) (osl : Array (Option Value)),
    fd = PySem.W.fnOf x qual (defArgs st) (defBody st) (defScope st) .none kV doc pm an cdv ct ∧ K.lookup f = some ⟨oc, od, .func fd, osl⟩ ∧ PySem.W.codeIn K cdv qual = true
  kp : PySem.W.keepIn K (.ref f) = true
section
variable {P : Program} {w : World} {K : PySem.W.Frag} {mg : Str → Option Value} {base : Heap}
/-- THE RULE for a def: its body as a term of rules, and the reading of that term -/
theorem Fun.ok {x qual : Str} {st : Stmt} {f : Addr} {fd : FuncData} {N ps : List Str} {k : Nat} {sp : Sp} (F : Fun K x qual st f fd) (S : FnScope N ps (defScope st)) (len : ∀ vs H Q E, sp vs H Q E → vs.length = ps.length)
    (hbody : ∀ (cdv : Value) (A : Around) (outer : List Env) (s : Shared) (H : Hp) (vs : List V) (Q : VK) (E : XK), Room k (A.deeper (envOfC qual (defScope st) s.heap.objs.size f cdv)) → sp vs H Q E →
      ∃ t, PSs (cxOf CX0 P w K mg base N qual (defScope st) f cdv A outer s H E).nox (defBody st) t ∧ t { nx := fun _ H' => Q .non H', rt := Q } (start N vs) H) : FnOk P w K mg base CX0 (k + 1) f fd ps sp := by
  obtain ⟨oc, od, kV, doc, pm, an, cdv, ct, osl, rfl, lk, hcd⟩ := F.ex
  refine fn_of lk hcd S len fun A outer s H vs Q E hr hsp => ?_
  obtain ⟨t, h, q⟩ := hbody cdv A outer s H vs Q E hr hsp
  exact ⟨t, h.nox, q⟩
/-- how its arguments bind (no defaults): h is «fun _ _ _ _ _ _ us hl => match us, hl with | [_, _], _ => rfl», one _ a parameter -/
theorem Fun.binds {x qual : Str} {st : Stmt} {f : Addr} {fd : FuncData} {ps : List Str} (F : Fun K x qual st f fd)
    (h : ∀ (kV doc pm : Value) (an : Option Addr) (cdv ct : Value) (us : List Value), us.length = ps.length → bindArgs (PySem.W.fnOf x qual (defArgs st) (defBody st) (defScope st) .none kV doc pm an cdv ct) ⟨us, []⟩ = pure (ps.zip us)) : Binds K fd ps [] := by
  obtain ⟨oc, od, kV, doc, pm, an, cdv, ct, osl, rfl, lk, hcd⟩ := F.ex
  exact .all (h kV doc pm an cdv ct)
theorem fun_mk {x qual : Str} {st : Stmt} {f : Addr} {oc : Value} {od an : Option Addr} {osl : Array (Option Value)} {kV doc pm cdv ct : Value} (l : K.lookup f = some ⟨oc, od, .func (PySem.W.fnOf x qual (defArgs st) (defBody st) (defScope st) .none kV doc pm an cdv ct), osl⟩)
    (c : PySem.W.codeIn K cdv qual = true) (k : PySem.W.keepIn K (.ref f) = true) : Fun K x qual st f (PySem.W.fnOf x qual (defArgs st) (defBody st) (defScope st) .none kV doc pm an cdv ct) := ⟨⟨oc, od, kV, doc, pm, an, cdv, ct, osl, rfl, l, c⟩, k⟩
end
theorem small1000 {n : Nat} (h : n ≤ 1000) : n < sizeLine := Nat.lt_of_le_of_lt h (by decide)

/-! ### expressions in short: the name that stands in the i-th slot -/
section
variable {X : Cx}
theorem pv (i : Nat) {x : Str} {pos : Pos} (hN : X.N[i]? = some x := by rfl) (hv : Vis X.env.scope x := by first | exact Or.inl rfl | exact Or.inr (Or.inl rfl) | exact Or.inr (Or.inr rfl)) (hd : (x == ("__debug__" : Str)) = false := by decide)
    (hcd : (x == ("__classdict__" : Str)) = false := by decide) : PE X (.Name x pos) (tVar i) := pe_var hN hv hd hcd
end

/-! ### tests -/
theorem iteF {A B : Prop} (h : B) : if false = true then A else B := by
  rw [if_neg Bool.false_ne_true]
  exact h
theorem iteT {A B : Prop} (h : A) : if true = true then A else B := by
  rw [if_pos rfl]
  exact h
theorem ite2 {c A B : Prop} [Decidable c] (h1 : c → A) (h2 : ¬ c → B) : if c then A else B := by
  by_cases h : c
  · rw [if_pos h]
    exact h1 h
  · rw [if_neg h]
    exact h2 h

/-! ### heaps -/
/-- all that was tracked is as it was -/
def Same (H H' : Hp) : Prop := ∀ b o, H b = some o → H' b = some o
theorem Same.refl (H : Hp) : Same H H := fun _ _ h => h
theorem Same.trans {H H1 H2 : Hp} (a : Same H H1) (b : Same H1 H2) : Same H H2 := fun c o h => b c o (a c o h)
theorem Same.free {H H' : Hp} (e : Same H H') {l : Addr} (h : H' l = Option.none) : H l = Option.none := by
  cases q : H l with
  | none => rfl
  | some o =>
    rw [e l o q] at h
    cases h
theorem Same.seq {K : PySem.W.Frag} {H H' : Hp} {a : Addr} {xs : List V} (e : Same H H') (h : SqL K H a xs) : SqL K H' a xs := by
  rcases h with (h | ⟨o, h⟩) | h
  · exact .inl (.inl (e _ _ h))
  · exact .inl (.inr ⟨o, e _ _ h⟩)
  · exact .inr h

end L2
set_option maxHeartbeats 4000000
/-! THE HAND LAYER, for ints, bools, texts, own classes, DICTS (int and text keys), calls, loops. Paste it whole ahead of your own text; what your proof does not reach may be deleted. -/
namespace L2
open PySem PySem.Spec PyProof.Rows

end L2

namespace L2
open PySem PySem.Spec PyProof.Rows

section
variable (P : Program) (w : World)
end

section
variable {P : Program} {w : World} {H H' : Hp} {h h' : Heap} {a : Addr} {o : HO}
end

section
variable {P : Program} {w : World} {H : Hp} {h h' : Heap} {x e : Addr} {o' : HO}
end

section
variable {fs fs' ex ex' : List Addr} {H H1 H2 : Hp} {h h1 h2 h' : Heap} {a x e : Addr} {o : HO}
end

end L2

namespace L2
open PySem PySem.Spec PyProof.Rows

section
variable {X : Cx} {pins : List (Addr × Obj)} {σ : List (Option V)} {H H' : Hp} {s : Shared} {h' : Heap}

end

end L2

namespace L2
open PySem PySem.Spec PyProof.Rows
section
variable {X : Cx}

variable {a b : Expr} {ta tb : TE} {pos : Pos}
/-! ### and, or, not -/
variable {tA tB' : TT} {rest : List Expr}
end
end L2

namespace L2
open PySem PySem.Spec PyProof.Rows

section
variable {X : Cx} {pins : List (Addr × Obj)} {σ : St} {H : Hp} {s : Shared} {a : Addr} {xs ys : List V}
end

section
variable {X : Cx} {pins : List (Addr × Obj)} {σ : St} {H : Hp} {s : Shared} {E : Value → Shared → Prop}
end

/-! ### blocks and small statements -/
section
variable {X : Cx} {st : Stmt} {rest : List Stmt} {t u : TS} {e : Expr} {te : TE} {pos : Pos}
end

section
variable {X : Cx} {pos : Pos}
end

/-! ### while -/
section
variable {X : Cx} {pos : Pos}
end

end L2

namespace L2
open PySem PySem.Spec PyProof.Rows
section
variable {X : Cx} {tg : Expr}
end

end L2

namespace L2
open PySem PySem.Spec PyProof.Rows

section
variable {X : Cx} {a b c : Expr} {ta tb tc : TE} {pos : Pos}

end

section
variable {X : Cx} {a b c : Expr} {ta tb tc : TE} {pos : Pos}
end
end L2

namespace L2
open PySem PySem.Spec PyProof.Rows

section
variable {prog : Program} {w : World} {A : Around} {E : Value → Shared → Prop} {s : Shared} {K : PySem.W.Frag} {x dx C f : Addr} {mA : Str → Option Value} {name : Str} {v : Value}

end

section
variable {P : Program} {w : World} {H H' : Hp} {h h' : Heap} {a C dx : Addr} {fs fs' : List (Str × V)}
end

section
variable {X : Cx} {pins : List (Addr × Obj)} {σ : St} {H : Hp} {s : Shared} {a C dx : Addr} {fs : List (Str × V)} {f : Str} {v : V} {A : Around} {E : Value → Shared → Prop}

end

section
variable {X : Cx} {o e value : Expr} {f : Str} {pos pos' tpos : Pos} {ta tv : TE}
end

/-! ### isinstance -/
section
variable {X : Cx} {pins : List (Addr × Obj)} {σ : St} {H : Hp} {s : Shared} {A : Around} {E : Value → Shared → Prop} {Q : Value → Shared → Prop} {c : Value} {b : Bool}
end
end L2

namespace L2
open PySem PySem.Spec PyProof.Rows

section
variable {X : Cx} {e : Expr} {es : List Expr} {te : TE} {t : TA} {pos : Pos}
end

section
variable {X : Cx} {pins : List (Addr × Obj)} {σ : St} {H : Hp} {s s' : Shared}
end

section
variable {X : Cx} {CX : CXT} {k : Nat} {f C : Addr} {fd : FuncData} {ps : List Str} {sp : Sp} {dvs : List V} {ds : List Value} {E : XK} {x m : Str} {p pos apos : Pos} {e o : Expr} {es : List Expr} {ta : TE} {t : TA}

end

section
variable {X : Cx} {CX : CXT} {k : Nat} {f C : Addr} {fd : FuncData} {ps ks : List Str} {sp : Sp} {E : XK} {x m : Str} {p pos apos kpos : Pos} {e o : Expr} {es : List Expr} {kws : List Keyword} {te ta : TE} {t tk : TA} {nm : Option Str}
variable {g : List Value → List Value → List Value} {gV : List V → List V → List V}
end

end L2

namespace L2
open PySem PySem.Spec PyProof.Rows
section
variable {X : Cx} {x : Str} {p pos : Pos} {e : Expr} {es : List Expr} {t : TA} {id T : String} {r : List V → Hp → VK → Prop}

end
end L2

namespace L2
open PySem PySem.Spec PyProof.Rows

/-! ### lists of pairs as tables -/
section
variable {κ : Type} [DecidableEq κ]
def valV (kvs : List (κ × V)) (k : κ) : Option V := (kvs.find? fun kv => decide (kv.1 = k)).map (·.2)
/-- in its place, or at the end -/
def putK (kvs : List (κ × V)) (k : κ) (v : V) : List (κ × V) :=
  if (kvs.any fun kv => decide (kv.1 = k)) = true then kvs.map (fun kv => if kv.1 = k then (kv.1, v) else kv) else kvs ++ [(k, v)]
def dropK (kvs : List (κ × V)) (k : κ) : List (κ × V) := kvs.filter fun kv => decide (kv.1 ≠ k)

theorem valV_pos {p : κ × V} {r : List (κ × V)} {k : κ} (e : p.1 = k) : valV (p :: r) k = some p.2 := by simp [valV, List.find?_cons, e]
theorem valV_neg {p : κ × V} {r : List (κ × V)} {k : κ} (e : ¬ p.1 = k) : valV (p :: r) k = valV r k := by simp [valV, List.find?_cons, e]
theorem valV_any (k : κ) : ∀ kvs : List (κ × V), (kvs.any fun kv => decide (kv.1 = k)) = (valV kvs k).isSome
  | [] => rfl
  | p :: r => by
    rw [List.any_cons]
    by_cases e : p.1 = k
    · simp only [valV_pos e, decide_eq_true e, Bool.true_or, Option.isSome_some]
    · rw [valV_neg e, decide_eq_false e, Bool.false_or]; exact valV_any k r
theorem valV_map (k j : κ) (y : V) : ∀ kvs : List (κ × V), valV (kvs.map fun kv => if kv.1 = k then (kv.1, y) else kv) j = (valV kvs j).map fun x => if j = k then y else x
  | [] => rfl
  | p :: r => by
    have ih := valV_map k j y r
    rw [List.map_cons]
    by_cases h : p.1 = k
    · rw [if_pos h]
      by_cases e : p.1 = j
      · rw [valV_pos (p := (p.1, y)) e, valV_pos e, Option.map_some, if_pos (e.symm.trans h)]
      · rw [valV_neg (p := (p.1, y)) e, valV_neg e, ih]
    · rw [if_neg h]
      by_cases e : p.1 = j
      · rw [valV_pos (p := p) e, valV_pos e, Option.map_some, if_neg (fun z => h (e.trans z))]
      · rw [valV_neg (p := p) e, valV_neg e, ih]
theorem valV_snoc (k j : κ) (y : V) : ∀ kvs : List (κ × V), valV kvs k = none → valV (kvs ++ [(k, y)]) j = if j = k then some y else valV kvs j
  | [], _ => by
    by_cases e : k = j
    · rw [if_pos e.symm]; exact valV_pos (p := (k, y)) e
    · rw [if_neg (fun z => e z.symm)]; exact valV_neg (p := (k, y)) e
  | p :: r, hn => by
    rw [List.cons_append]
    have hk : ¬ p.1 = k := fun z => by rw [valV_pos z] at hn; cases hn
    rw [valV_neg hk] at hn
    have ih := valV_snoc k j y r hn
    by_cases e : p.1 = j
    · rw [valV_pos e, valV_pos e, if_neg (fun z => hk (e.trans z))]
    · rw [valV_neg e, valV_neg e, ih]
theorem valV_put (kvs : List (κ × V)) (k j : κ) (y : V) : valV (putK kvs k y) j = if j = k then some y else valV kvs j := by
  unfold putK
  by_cases a : (kvs.any fun kv => decide (kv.1 = k)) = true
  · rw [if_pos a, valV_map]
    rw [valV_any] at a
    by_cases e : j = k
    · obtain ⟨x, hx⟩ := Option.isSome_iff_exists.mp a
      rw [if_pos e, e, hx, Option.map_some, if_pos rfl]
    · rw [if_neg e]
      cases valV kvs j with
      | none => rfl
      | some x => rw [Option.map_some, if_neg e]
  · rw [if_neg a]
    refine valV_snoc k j y kvs ?_
    rw [valV_any] at a
    cases q : valV kvs k with
    | none => rfl
    | some x => rw [q] at a; exact (a rfl).elim

theorem RelO.isSome_eq {o : Option V} {u : Option Value} (r : RelO o u) : o.isSome = u.isSome := by
  cases o with
  | none => cases u with
    | none => rfl
    | some _ => exact (show False from r).elim
  | some _ => cases u with
    | none => exact (show False from r).elim
    | some _ => rfl
theorem RelO.getD {o : Option V} {u : Option Value} {d : V} {d' : Value} (r : RelO o u) (rd : RelV d d') : RelV (o.getD d) (u.getD d') := by
  cases o with
  | none => cases u with
    | none => exact rd
    | some _ => exact (show False from r).elim
  | some _ => cases u with
    | none => exact (show False from r).elim
    | some _ => exact r

/-- raw tables of the same keys -/
theorem KV.val {kvs : List (κ × V)} {vs : List (κ × Value)} (r : KV kvs vs) (k : κ) : RelO (valV kvs k) (valueAt vs k) := by
  unfold KV at r
  induction r with
  | nil => exact True.intro
  | @cons p q ps qs h t ih =>
    obtain ⟨h1, h2⟩ := h
    by_cases e : p.1 = k
    · have e' : q.1 = k := h1.symm.trans e
      have b : valueAt (q :: qs) k = some q.2 := by simp [valueAt, List.find?_cons, e']
      rw [valV_pos e, b]; exact h2
    · have e' : ¬ q.1 = k := fun z => e (h1.trans z)
      have b : valueAt (q :: qs) k = valueAt qs k := by simp [valueAt, List.find?_cons, e']
      rw [valV_neg e, b]; exact ih
theorem KV.any {kvs : List (κ × V)} {vs : List (κ × Value)} (r : KV kvs vs) (k : κ) : (kvs.any fun kv => decide (kv.1 = k)) = vs.any fun kv => decide (kv.1 = k) := by
  unfold KV at r
  induction r with
  | nil => rfl
  | cons h t ih => rw [List.any_cons, List.any_cons, ih, h.1]
theorem KV.repl {kvs : List (κ × V)} {vs : List (κ × Value)} (r : KV kvs vs) (k : κ) {y : V} {u : Value} (ry : RelV y u) :
    KV (kvs.map fun kv => if kv.1 = k then (kv.1, y) else kv) (vs.map fun kv => if kv.1 = k then (kv.1, u) else kv) := by
  unfold KV at r ⊢
  induction r with
  | nil => exact .nil
  | @cons p q ps qs h t ih =>
    rw [List.map_cons, List.map_cons]
    refine .cons ?_ ih
    obtain ⟨h1, h2⟩ := h
    by_cases e : p.1 = k
    · rw [if_pos e, if_pos (h1.symm.trans e)]; exact ⟨h1, ry⟩
    · rw [if_neg e, if_neg (fun z => e (h1.trans z))]; exact ⟨h1, h2⟩
theorem KV.put {kvs : List (κ × V)} {vs : List (κ × Value)} (r : KV kvs vs) (k : κ) {y : V} {u : Value} (ry : RelV y u) : KV (putK kvs k y) (stored vs k u) := by
  unfold putK stored
  rw [r.any k]
  by_cases e : (vs.any fun kv => decide (kv.1 = k)) = true
  · rw [if_pos e, if_pos e]; exact r.repl k ry
  · rw [if_neg e, if_neg e]; exact Paired.snoc r ⟨rfl, ry⟩
theorem KV.drop {kvs : List (κ × V)} {vs : List (κ × Value)} (r : KV kvs vs) (k : κ) : KV (dropK kvs k) (without vs k) := by
  unfold KV at r ⊢
  unfold dropK without
  induction r with
  | nil => exact .nil
  | @cons p q ps qs h t ih =>
    obtain ⟨h1, h2⟩ := h
    rw [List.filter_cons, List.filter_cons]
    by_cases e : p.1 = k
    · have a : ¬ decide (p.1 ≠ k) = true := by simp [e]
      have b : ¬ decide (q.1 ≠ k) = true := by simp [h1.symm.trans e]
      rw [if_neg a, if_neg b]; exact ih
    · have e' : ¬ q.1 = k := fun z => e (h1.trans z)
      have a : decide (p.1 ≠ k) = true := by simp [e]
      have b : decide (q.1 ≠ k) = true := by simp [e']
      rw [if_pos a, if_pos b]; exact .cons ⟨h1, h2⟩ ih
theorem KV.keys {kvs : List (κ × V)} {vs : List (κ × Value)} (r : KV kvs vs) : kvs.map (·.1) = vs.map (·.1) := by
  unfold KV at r
  induction r with
  | nil => rfl
  | cons h t ih => rw [List.map_cons, List.map_cons, ih, h.1]
theorem KV.length {kvs : List (κ × V)} {vs : List (κ × Value)} (r : KV kvs vs) : kvs.length = vs.length := Paired.length r
end


/-! ### a tracked dict, its keys ints and texts or tuples of these -/

/-- raw entries of a dict with tuple keys -/
abbrev KT (H : Hp) : List (List Key × V) → List (List Key × Addr × Value) → Prop := Paired fun p q => p.1 = q.1 ∧ H q.2.1 = some (.tup (p.1.map kV)) ∧ RelV p.2 q.2.2
theorem KT.val {H : Hp} {kvs : List (List Key × V)} {xs : List (List Key × Addr × Value)} (r : KT H kvs xs) (k : List Key) : RelO (valV kvs k) ((atKey xs k).map (·.2)) := by
  induction r with
  | nil => exact True.intro
  | @cons p q ps qs h t ih =>
    obtain ⟨h1, _, h2⟩ := h
    by_cases e : p.1 = k
    · have e' : q.1 = k := h1.symm.trans e
      have b : atKey (q :: qs) k = some q.2 := by simp [atKey, List.find?_cons, e']
      rw [valV_pos e, b]; exact h2
    · have e' : ¬ q.1 = k := fun z => e (h1.trans z)
      have b : atKey (q :: qs) k = atKey qs k := by simp [atKey, List.find?_cons, e']
      rw [valV_neg e, b]; exact ih
theorem KT.repl {H : Hp} {kvs : List (List Key × V)} {xs : List (List Key × Addr × Value)} (r : KT H kvs xs) (k : List Key) {y : V} {u : Value} (ry : RelV y u) :
    KT H (kvs.map fun kv => if kv.1 = k then (kv.1, y) else kv) (xs.map (putAt k u)) := by
  induction r with
  | nil => exact .nil
  | @cons p q ps qs h t ih =>
    rw [List.map_cons, List.map_cons]
    refine .cons ?_ ih
    obtain ⟨h1, h2, h3⟩ := h
    unfold putAt
    by_cases e : p.1 = k
    · rw [if_pos e, if_pos (h1.symm.trans e)]; exact ⟨h1, h2, ry⟩
    · rw [if_neg e, if_neg (fun z => e (h1.trans z))]; exact ⟨h1, h2, h3⟩
theorem KT.put {H : Hp} {kvs : List (List Key × V)} {xs : List (List Key × Addr × Value)} (r : KT H kvs xs) (k : List Key) {b : Addr} {y : V} {u : Value} (hb : H b = some (.tup (k.map kV))) (ry : RelV y u) :
    KT H (putK kvs k y) (storedH xs k b u) := by
  have e : (kvs.any fun kv => decide (kv.1 = k)) = (atKey xs k).isSome := by
    rw [valV_any, (r.val k).isSome_eq, Option.isSome_map]
  unfold putK storedH
  rw [e]
  by_cases q : (atKey xs k).isSome = true
  · rw [if_pos q, if_pos q]; exact r.repl k ry
  · rw [if_neg q, if_neg q]; exact Paired.snoc r ⟨rfl, hb, ry⟩
theorem KT.keeps {H H' : Hp} {kvs : List (List Key × V)} {xs : List (List Key × Addr × Value)} (r : KT H kvs xs) (ht : ∀ b ys, H b = some (.tup ys) → H' b = some (.tup ys)) : KT H' kvs xs :=
  Paired.mapP r fun _ _ z => ⟨z.1, ht _ _ z.2.1, z.2.2⟩

section
variable {P : Program} {w : World} {H : Hp} {h : Heap} {a : Addr}
end

/-- what the dict at a holds at the key y -/
def DGet (H : Hp) (a : Addr) (y : V) (r : Option V) : Prop :=
  (∃ kvs k, Rd H a (.dK kvs) ∧ y = kV k ∧ r = valV kvs k) ∨ ∃ kvs k b, Rd H a (.dT kvs) ∧ y = .ref b ∧ H b = some (.tup (k.map kV)) ∧ r = valV kvs k
/-- the heap behind a[y] = v -/
def DPut (H : Hp) (a : Addr) (y v : V) (H' : Hp) : Prop :=
  (∃ kvs k, H a = some (.dK kvs) ∧ y = kV k ∧ kvs.length < sizeLine ∧ H' = upd H a (.dK (putK kvs k v))) ∨
  ∃ kvs k b, H a = some (.dT kvs) ∧ y = .ref b ∧ H b = some (.tup (k.map kV)) ∧ kvs.length < sizeLine ∧ H' = upd H a (.dT (putK kvs k v))
theorem DGet.k {H : Hp} {a : Addr} {kvs : List (Key × V)} {k : Key} (e : H a = some (.dK kvs)) : DGet H a (kV k) (valV kvs k) := .inl ⟨kvs, k, .inl e, rfl, rfl⟩
theorem DGet.t {H : Hp} {a b : Addr} {kvs : List (List Key × V)} {k : List Key} (e : H a = some (.dT kvs)) (eb : H b = some (.tup (k.map kV))) : DGet H a (.ref b) (valV kvs k) := .inr ⟨kvs, k, b, .inl e, rfl, eb, rfl⟩
theorem DPut.k {H : Hp} {a : Addr} {kvs : List (Key × V)} {k : Key} {v : V} (e : H a = some (.dK kvs)) (hl : kvs.length < sizeLine) : DPut H a (kV k) v (upd H a (.dK (putK kvs k v))) := .inl ⟨kvs, k, e, rfl, hl, rfl⟩
theorem DPut.t {H : Hp} {a b : Addr} {kvs : List (List Key × V)} {k : List Key} {v : V} (e : H a = some (.dT kvs)) (eb : H b = some (.tup (k.map kV))) (hl : kvs.length < sizeLine) :
    DPut H a (.ref b) v (upd H a (.dT (putK kvs k v))) := .inr ⟨kvs, k, b, e, rfl, eb, hl, rfl⟩


section
variable {X : Cx} {pins : List (Addr × Obj)} {σ : St} {H : Hp} {s : Shared} {a : Addr} {y v : V} {u r : Value} {o : Option V} {A : Around} {E : Value → Shared → Prop}


end

section
variable {X : Cx} {pins : List (Addr × Obj)} {σ : St} {H : Hp} {s : Shared} {a : Addr} {kvs : List (Key × V)} {k : Key} {u : Value} {A : Around} {E : Value → Shared → Prop}
end


/-! ### readings and rules -/
/-- the element of a subscription, not a slice -/
def NoSl (i : Expr) : Prop := ∀ ov iv, subscripted i false ov iv = operate [ov, iv] (getItem ov iv)


/-- d[y] -/
def tDGet (td ty : TE) : TE := fun σ H Q => td σ H fun x H1 => ty σ H1 fun y H2 => ∃ a v, x = .ref a ∧ DGet H2 a y (some v) ∧ Q v H2
/-- y in d, y not in d -/
def tDIn (ty td : TE) : TE := fun σ H Q => ty σ H fun y H1 => td σ H1 fun x H2 => ∃ a o, x = .ref a ∧ DGet H2 a y o ∧ Q (.bl o.isSome) H2
def tDNotIn (ty td : TE) : TE := fun σ H Q => ty σ H fun y H1 => td σ H1 fun x H2 => ∃ a o, x = .ref a ∧ DGet H2 a y o ∧ Q (.bl (!o.isSome)) H2
/-- d[y] = v -/
def sDPut (td ty tv : TE) : TS := fun D σ H => tv σ H fun v H1 => td σ H1 fun x H2 => ty σ H2 fun y H3 => ∃ a H4, x = .ref a ∧ DPut H3 a y v H4 ∧ D.nx σ H4
/-- d[y] op= v -/
def sDAug (td ty tv : TE) (rd : V → V → Hp → VK → Prop) : TS := fun D σ H => td σ H fun x H1 => ty σ H1 fun y H2 => ∃ a v, x = .ref a ∧ DGet H2 a y (some v) ∧
  tv σ H2 fun y2 H3 => rd v y2 H3 fun z H4 => ∃ H5, DPut H4 a y z H5 ∧ D.nx σ H5
/-- del d[y] -/
def sDDel (td ty : TE) : TS := fun D σ H => td σ H fun x H1 => ty σ H1 fun y H2 => ∃ a kvs k, x = .ref a ∧ H2 a = some (.dK kvs) ∧ y = kV k ∧ (valV kvs k).isSome = true ∧ D.nx σ (upd H2 a (.dK (dropK kvs k)))

section
variable {X : Cx} {o i e value : Expr} {pos pos' tpos : Pos} {td ty tv : TE}
end


/-! ### displays -/
/-- {}, to be a dict of the kind that is wanted -/
def tDNewK : TE := fun _ H Q => ∀ p, H p = none → Q (.ref p) (upd H p (.dK []))
def tDNewT : TE := fun _ H Q => ∀ p, H p = none → Q (.ref p) (upd H p (.dT []))
section
variable {X : Cx} {pos : Pos}
end

/-- the pairs of a display, from the left -/
def tPairs : List (TE × TE) → St → Hp → (List (V × V) → Hp → Prop) → Prop
  | [], _, H, Q => Q [] H
  | (tk, tv) :: r, σ, H, Q => tk σ H fun x H1 => tv σ H1 fun y H2 => tPairs r σ H2 fun ps H3 => Q ((x, y) :: ps) H3
abbrev VV : List (V × V) → List (Value × Value) → Prop := Paired fun p q => RelV p.1 q.1 ∧ RelV p.2 q.2
def PPs (X : Cx) (pos : Pos) (keys : List (Option Expr)) (values : List Expr) (trs : List (TE × TE)) : Prop :=
  ∀ (pins : List (Addr × Obj)) (s : Shared) (σ : St) (H : Hp) (Q : List (V × V) → Hp → Prop), Inv X pins σ H s → tPairs trs σ H Q →
    wpAny (model X.prog X.w) X.A (evalPairs (pairTrees keys values X.env pos)) (fun vs s' => ∃ ps H', Inv X pins σ H' s' ∧ VV ps vs ∧ Q ps H') X.xe s

def mergeK (kvs more : List (Key × V)) : List (Key × V) := more.foldl (fun acc kv => putK acc kv.1 kv.2) kvs
/-- {k: v, ..} with keys ints and texts; the new dict stands empty while the pairs are made -/
def tDisp (trs : List (TE × TE)) : TE := fun σ H Q => ∀ p, H p = none → tPairs trs σ (upd H p (.dK [])) fun ps H2 => H2 p = some (.dK []) ∧ ∃ kvs : List (Key × V), ps = kvs.map (fun kv => (kV kv.1, kv.2)) ∧ kvs.length ≤ 15 ∧ Q (.ref p) (upd H2 p (.dK (mergeK [] kvs)))


/-! ### methods -/
/-- a method call o.m(e) of a built-in, with one argument: what must be seen of the text -/
structure M1 (X : Cx) (o : Expr) (m : Str) (apos : Pos) (e : Expr) (cpos : Pos) : Prop where
  base : attributeBase o m X.env (eval o X.env) = eval o X.env
  few : ((backTo cpos (starEach [e] X.env)).all (fun x => !x.1) && (backToKw cpos (keywordEach [] X.env)).all (fun x => x.1.isSome)
    && decide (([e] : List Expr).length + ([] : List Keyword).length + (if ([] : List Keyword).isEmpty then 0 else 1) < 30)) = true
  line : (apos.endLine == cpos.line) = true
  trees : backTo cpos (starEach [e] X.env) = [(false, eval e X.env)]
structure M2 (X : Cx) (o : Expr) (m : Str) (apos : Pos) (e f : Expr) (cpos : Pos) : Prop where
  base : attributeBase o m X.env (eval o X.env) = eval o X.env
  few : ((backTo cpos (starEach [e, f] X.env)).all (fun x => !x.1) && (backToKw cpos (keywordEach [] X.env)).all (fun x => x.1.isSome)
    && decide (([e, f] : List Expr).length + ([] : List Keyword).length + (if ([] : List Keyword).isEmpty then 0 else 1) < 30)) = true
  line : (apos.endLine == cpos.line) = true
  trees : backTo cpos (starEach [e, f] X.env) = [(false, eval e X.env), (false, eval f X.env)]

/-- a is a dict, whatever its keys -/
def IsD (H : Hp) (a : Addr) : Prop := (∃ kvs, Rd H a (.dK kvs)) ∨ ∃ kvs, Rd H a (.dT kvs)

section
variable {X : Cx} {pins : List (Addr × Obj)} {σ : St} {H : Hp} {s : Shared} {a : Addr} {y d : V} {u r : Value} {o : Option V} {A : Around} {E : Value → Shared → Prop}
end

def tDGet1 (td ty : TE) : TE := fun σ H Q => td σ H fun x H1 => ∃ a, x = .ref a ∧ IsD H1 a ∧ ty σ H1 fun y H2 => ∃ o, DGet H2 a y o ∧ Q (o.getD .non) H2
def tDGet2 (td ty tx : TE) : TE := fun σ H Q => td σ H fun x H1 => ∃ a, x = .ref a ∧ IsD H1 a ∧ ty σ H1 fun y H2 => tx σ H2 fun z H3 => ∃ o, DGet H3 a y o ∧ Q (o.getD z) H3
/-- d.pop(k): there; d.pop(k, x): there or not -/
def tDPop1 (td ty : TE) : TE := fun σ H Q => td σ H fun x H1 => ∃ a, x = .ref a ∧ IsD H1 a ∧ ty σ H1 fun y H2 => ∃ kvs k v, H2 a = some (.dK kvs) ∧ y = kV k ∧ valV kvs k = some v ∧ Q v (upd H2 a (.dK (dropK kvs k)))
def tDPop2 (td ty tx : TE) : TE := fun σ H Q => td σ H fun x H1 => ∃ a, x = .ref a ∧ IsD H1 a ∧ ty σ H1 fun y H2 => tx σ H2 fun z H3 => ∃ kvs k, H3 a = some (.dK kvs) ∧ y = kV k ∧
  (∀ v, valV kvs k = some v → Q v (upd H3 a (.dK (dropK kvs k)))) ∧ (valV kvs k = none → Q z H3)
section
variable {X : Cx} {o e f : Expr} {apos cpos : Pos} {td ty tx : TE}
end

/-! ### dict(d): a copy -/
section
variable {X : Cx} {pins : List (Addr × Obj)} {σ : St} {H : Hp} {s : Shared} {a : Addr} {kvs : List (Key × V)} {A : Around} {E : Value → Shared → Prop}
end


section
variable {X : Cx} {pins : List (Addr × Obj)} {σ : St} {H : Hp} {s : Shared} {a : Addr} {y : V} {u : Value} {A : Around} {E : Value → Shared → Prop}
end
end L2

namespace Att
open PySem PySem.W PySem.Calls PyProof.Rows

/-! ### rules over ANY heap (no ledger) from facts about the written part K: the library's own take a ledger (News) for what they write -/
section
variable {prog : Program} {w : World} {A : Around} {E : Value → Shared → Prop} {s : Shared} {K : Frag}

end
end Att

namespace L2
open PySem PySem.Spec PyProof.Rows

end L2

namespace L2
open PySem PySem.Spec PyProof.Rows

end L2

/-! SHORT WORDS over the layer: a def of the text, its body, what a loop and a test want. -/
namespace L2
open PySem PySem.Spec PyProof.Rows

section
variable {P : Program} {w : World} {K : PySem.W.Frag} {mg : Str → Option Value} {base : Heap}
end
/-! ### expressions in short: the name that stands in the i-th slot -/
section
variable {X : Cx}
end

/-! ### a dict's pairs: keys that differ -/
section
variable {κ : Type} [DecidableEq κ]
end
end L2
namespace Chk
/-- the number turned, on naturals -/
def T (n : Nat) : Nat := n * 128 % 2 ^ 64 + n / 2 ^ 57
def Tn : Nat → Nat → Nat
  | 0, n => n
  | k + 1, n => T (Tn k n)
def D (n : Nat) : Nat := if n * 2 ≥ 2 ^ 64 then n * 2 - 2 ^ 64 + 1 else n * 2
theorem D7 {n : Nat} (h : n < 2 ^ 64) : D (D (D (D (D (D (D n)))))) = T n := by
  have q1 : n / 2 ^ 64 * 2 = n / 2 ^ 63 ∨ n / 2 ^ 64 * 2 + 1 = n / 2 ^ 63 := by omega
  have h1 : D n = n * 2 - n / 2 ^ 63 * (2 ^ 64 - 1) := by unfold D; split <;> omega
  have q2 : n / 2 ^ 63 * 2 = n / 2 ^ 62 ∨ n / 2 ^ 63 * 2 + 1 = n / 2 ^ 62 := by omega
  have h2 : D (D n) = n * 4 - n / 2 ^ 62 * (2 ^ 64 - 1) := by rw [h1]; unfold D; split <;> omega
  have q3 : n / 2 ^ 62 * 2 = n / 2 ^ 61 ∨ n / 2 ^ 62 * 2 + 1 = n / 2 ^ 61 := by omega
  have h3 : D (D (D n)) = n * 8 - n / 2 ^ 61 * (2 ^ 64 - 1) := by rw [h2]; unfold D; split <;> omega
  have q4 : n / 2 ^ 61 * 2 = n / 2 ^ 60 ∨ n / 2 ^ 61 * 2 + 1 = n / 2 ^ 60 := by omega
  have h4 : D (D (D (D n))) = n * 16 - n / 2 ^ 60 * (2 ^ 64 - 1) := by rw [h3]; unfold D; split <;> omega
  have q5 : n / 2 ^ 60 * 2 = n / 2 ^ 59 ∨ n / 2 ^ 60 * 2 + 1 = n / 2 ^ 59 := by omega
  have h5 : D (D (D (D (D n)))) = n * 32 - n / 2 ^ 59 * (2 ^ 64 - 1) := by rw [h4]; unfold D; split <;> omega
  have q6 : n / 2 ^ 59 * 2 = n / 2 ^ 58 ∨ n / 2 ^ 59 * 2 + 1 = n / 2 ^ 58 := by omega
  have h6 : D (D (D (D (D (D n))))) = n * 64 - n / 2 ^ 58 * (2 ^ 64 - 1) := by rw [h5]; unfold D; split <;> omega
  have q7 : n / 2 ^ 58 * 2 = n / 2 ^ 57 ∨ n / 2 ^ 58 * 2 + 1 = n / 2 ^ 57 := by omega
  have h7 : D (D (D (D (D (D (D n)))))) = n * 128 - n / 2 ^ 57 * (2 ^ 64 - 1) := by rw [h6]; unfold D; split <;> omega
  rw [h7]; unfold T; omega
end Chk
namespace Chk
end Chk
namespace Chk
def stp (c n : Nat) : Nat := T c ^^^ n
def chk (l : List Nat) : Nat := l.foldl stp 0
end Chk
namespace L2
open PySem PySem.Spec PyProof.Rows
section
variable {X : Cx}
/-- // by a positive divisor of any usual size -/
theorem op_fdivB : OpR X (binaryOp .FloorDiv) (rI (fun _ j => 0 < j ∧ j.natAbs.log2 < 9000) fun i j => .int (i / j)) := opI fun i j _ _ _ _ _ hc q => by
  have h1 : (0 : Int) < j := hc.1
  exact floordiv_int (by omega) (by rw [Int.fdiv_eq_ediv_of_nonneg i (by omega)]; exact q) (.inl (PyProof.noPylong_of_log2 hc.2))
/-- a written power -/
theorem pe_powc {a b n : Int} {j1 j2 p1 p2 pos} (h : 0 ≤ b ∧ b ≤ 1000000 ∧ a.natAbs < 2 ^ 64 := by decide) (e : a ^ b.toNat = n := by first | rfl | decide +kernel) :
    PE X (.BinOp (.Constant (.int a) j1 p1) .Pow (.Constant (.int b) j2 p2) pos) (tC (.int n)) := fun pins s σ H Q I hw =>
  pe_op op_pow pe_int pe_int pins s σ H Q I ⟨_, _, rfl, rfl, h, by subst e; exact hw⟩
def clsV : V → Option Value
  | .ty n => some (.type n)
  | .ref a => some (.ref a)
  | _ => none
theorem call_isinst : CallR X (.builtin "isinstance") (fun xs H Q => ∃ x c cv t b, xs = [x, c] ∧ clsV c = some cv ∧ TyOf X.K H x t ∧ PySem.W.kitOne X.K t cv = some b ∧ Q (.bl b) H) := by
  rintro pins s σ H xs us Q I r ⟨x, c, cv, t, b, rfl, hc, ty, e, q⟩
  obtain ⟨u, v, rfl, ru, rv⟩ := vals2 r
  have hv : v = cv := by
    cases c <;> simp [clsV] at hc <;> subst hc <;> exact rv
  subst hv
  exact isinst_ok I ru ty e fun tk => ⟨.bl b, H, I.tok tk, rfl, q⟩
end
/-! ### defs, methods, classes by their promises -/
section
variable (P : Program) (w : World) (K : PySem.W.Frag) (mg : Str → Option Value) (base : Heap)
structure DefOk (x : Str) (k : Nat) (ps : List Str) (sp : Sp) : Prop where
  ex : ∃ (f : Addr) (fd : FuncData), mg x = some (.ref f) ∧ FnOk P w K mg base CX0 k f fd ps sp ∧ PySem.W.keepIn K (.ref f) = true ∧ Binds K fd ps []
structure MethOk (C : Addr) (m : Str) (k : Nat) (ps : List Str) (sp : Sp) : Prop where
  ex : ∃ (f : Addr) (fd : FuncData), Meth K C m f ∧ FnOk P w K mg base CX0 k f fd ps sp ∧ Binds K fd ps []
structure MakeOk (x : Str) (C : Addr) (k : Nat) (ps : List Str) (sp : Sp) : Prop where
  ex : ∃ (f : Addr) (fd : FuncData), mg x = some (.ref C) ∧ Mk K C f ∧ FnOk P w K mg base CX0 k f fd ps sp ∧ Binds K fd ps []
end
section
variable {X : Cx} {k : Nat} {C : Addr} {ps : List Str} {sp : Sp} {x m : Str} {p pos apos : Pos} {e o : Expr} {es : List Expr} {ta : TE} {t : TA}
end
theorem iteY {c A B : Prop} [Decidable c] (hc : c) (h : A) : if decide c = true then A else B := by
  rw [if_pos (decide_eq_true hc)]; exact h
theorem iteN {c A B : Prop} [Decidable c] (hc : ¬ c) (h : B) : if decide c = true then A else B := by
  rw [if_neg (by rw [decide_eq_false hc]; decide)]; exact h
end L2
namespace L2
open PySem
def clos (cells : List (Str × Addr)) : List (Str × NameKind) → List (Str × Addr) → List (Str × Addr)
  | [], acc => acc
  | (n, k) :: r, acc => clos cells r (if k == .free then (n, (cells.lookup n).getD 0) :: acc else acc)
theorem clos_loop {env : Env} : ∀ (l : List (Str × NameKind)) (acc : List (Str × Addr)), (∀ y ∈ l, y.2 = .free → ∃ c, env.cells.lookup y.1 = some c) →
    (forIn l acc fun (x : Str × NameKind) (cs : List (Str × Addr)) => if (x.2 == NameKind.free) = true then do let a ← cellOf env x.1; pure (ForInStep.yield ((x.1, a) :: cs)) else pure (ForInStep.yield cs) : Sem (List (Str × Addr))) = pure (clos env.cells l acc)
  | [], acc, _ => by simp only [List.forIn_nil]; rfl
  | (n, k) :: r, acc, h => by
    simp only [List.forIn_cons]
    cases hk : (k == NameKind.free) with
    | false =>
      simp only [Bool.false_eq_true, if_false]
      have ih := clos_loop (env := env) r acc fun y hy => h y (List.mem_cons_of_mem _ hy)
      simp only [pure_bind, ih, clos, hk, Bool.false_eq_true, if_false]
    | true =>
      obtain ⟨c, hc⟩ := h (n, k) List.mem_cons_self (by simpa using hk)
      have e : cellOf env n = pure c := by
        unfold cellOf; rw [show env.cells.lookup n = some c from hc]
      simp only [if_true, e, pure_bind]
      have ih := clos_loop (env := env) r ((n, c) :: acc) fun y hy => h y (List.mem_cons_of_mem _ hy)
      rw [ih]
      simp only [clos, hk, if_true]
      rw [show env.cells.lookup n = some c from hc]; rfl
theorem closureFor_eq {scope : Scope} {env : Env} (h : ∀ y ∈ scope.names, y.2 = .free → ∃ c, env.cells.lookup y.1 = some c) : closureFor scope env = pure (clos env.cells scope.names []) := by
  have := clos_loop (env := env) scope.names [] h
  unfold closureFor
  simp only [bind_pure]
  exact this
theorem clos_sub {cells : List (Str × Addr)} : ∀ {names : List (Str × NameKind)} {acc : List (Str × Addr)}, (∀ y ∈ names, y.2 = .free → ∃ c, cells.lookup y.1 = some c) → (∀ x c, acc.lookup x = some c → cells.lookup x = some c) →
    ∀ x c, (clos cells names acc).lookup x = some c → cells.lookup x = some c
  | [], _, _, ha, x, c, h => ha x c h
  | (n, k) :: r, acc, hn, ha, x, c, h => by
    refine clos_sub (names := r) (fun y hy => hn y (List.mem_cons_of_mem _ hy)) ?_ x c h
    intro x c h
    split at h
    · rename_i hk
      obtain ⟨d, hd⟩ := hn (n, k) List.mem_cons_self (by simpa using hk)
      rw [show cells.lookup n = some d from hd, List.lookup_cons] at h
      split at h
      · rename_i e
        rw [eq_of_beq e, show cells.lookup n = some d from hd]; exact h
      · exact ha x c h
    · exact ha x c h
theorem clos_has {cells : List (Str × Addr)} : ∀ {names : List (Str × NameKind)} {acc : List (Str × Addr)} {x : Str}, ((x, NameKind.free) ∈ names ∨ ∃ c, acc.lookup x = some c) → ∃ c, (clos cells names acc).lookup x = some c
  | [], acc, x, h => by
    rcases h with h | h
    · cases h
    · exact h
  | (n, k) :: r, acc, x, h => by
    refine clos_has (names := r) ?_
    rcases h with h | ⟨c, h⟩
    · rcases List.mem_cons.mp h with h | h
      · injection h with h1 h2
        subst h1; subst h2
        exact .inr ⟨(cells.lookup x).getD 0, by simp [List.lookup_cons]⟩
      · exact .inl h
    · right
      split
      · rw [List.lookup_cons]
        split
        · exact ⟨_, rfl⟩
        · exact ⟨c, h⟩
      · exact ⟨c, h⟩
theorem mem_of_lookup {α : Type} {x : Str} {a : α} : ∀ {l : List (Str × α)}, l.lookup x = some a → (x, a) ∈ l
  | [], h => by simp at h
  | (n, k) :: r, h => by
    rw [List.lookup_cons] at h
    split at h
    · rename_i e
      injection h with h
      rw [eq_of_beq e, h]; exact List.mem_cons_self
    · exact List.mem_cons_of_mem _ (mem_of_lookup h)
/-- the names of a comprehension's block, by kinds -/
theorem lookup_relabel {env : Env} {x : Str} : ∀ (names : List (Str × NameKind)),
    (names.map fun (n, k) => if (k == NameKind.free && env.scope.kind == .function && env.kindOf n == some .cell) then (n, NameKind.cell) else (n, k)).lookup x =
      (names.lookup x).map fun k => if (k == NameKind.free && env.scope.kind == .function && env.kindOf x == some .cell) then NameKind.cell else k
  | [] => rfl
  | (n, k) :: r => by
    have ih := lookup_relabel (env := env) (x := x) r
    simp only [List.map_cons]
    by_cases e : x = n
    · subst e
      split <;> rename_i hc
      · simp only [List.lookup_cons, beq_self_eq_true, Option.map_some, hc, if_true]
      · simp only [List.lookup_cons, beq_self_eq_true, Option.map_some]
        rw [if_neg hc]
    · have e' : (x == n) = false := by simpa using e
      split <;> simp only [List.lookup_cons, e'] <;> exact ih
end L2
namespace L2
open PySem PySem.Spec PyProof.Rows
theorem anelt {a b n : Nat} (h1 : a < n) (h2 : n ≤ b) : a ≠ b := by omega
/-! ### comprehensions -/
/-- the block's own context: its names are N, its namespace stands at C, its iterator's records at ex -/
def Cx.comp (X : Cx) (scope : Scope) (N : List Str) (C : Addr) (s₀ : Shared) (H₀ : Hp) (ex : List Addr) : Cx :=
  { X with N := N, s₀ := s₀, H₀ := H₀, env := compEnvC scope (clos X.env.cells scope.names []) C X.env, outer := X.stack, stack := X.stack, ex := ex, fn := fun _ => false, pn := [] }
/-- the block's names at its entry: k of its own, then those of the def at the slots cap -/
def st0 (k : Nat) (cap : List Nat) (σ : St) : St := List.replicate k none ++ cap.map fun j => (σ[j]?).getD none
def compOk (XN : List Str) (fs sc : Scope) (N : List Str) (k : Nat) (cap : List Nat) : Bool :=
  decide (sc.kind = .function) && sc.names.all (fun y => decide (y.2 ≠ .cell)) && sc.names.all (fun y => decide (y.2 ≠ .local) || decide (sc.names.lookup y.1 = some .local)) &&
  sc.names.all (fun y => decide (y.2 ≠ .free) || decide (fs.names.lookup y.1 = some .cell)) && decide (N.length = k + cap.length) &&
  (cap.zip (N.drop k)).all (fun p => decide (XN[p.1]? = some p.2) && decide (sc.names.lookup p.2 = some .free))
structure CompOk (XN : List Str) (fs sc : Scope) (N : List Str) (k : Nat) (cap : List Nat) : Prop where
  kind : sc.kind = .function
  nocell : ∀ y ∈ sc.names, y.2 ≠ .cell
  locs : ∀ y ∈ sc.names, y.2 = .local → sc.names.lookup y.1 = some .local
  frees : ∀ y ∈ sc.names, y.2 = .free → fs.names.lookup y.1 = some .cell
  len : N.length = k + cap.length
  caps : ∀ p ∈ cap.zip (N.drop k), XN[p.1]? = some p.2 ∧ sc.names.lookup p.2 = some .free
theorem CompOk.of {XN : List Str} {fs sc : Scope} {N : List Str} {k : Nat} {cap : List Nat} (h : compOk XN fs sc N k cap = true) : CompOk XN fs sc N k cap := by
  unfold compOk at h
  simp only [Bool.and_eq_true, List.all_eq_true, decide_eq_true_eq, Bool.or_eq_true] at h
  obtain ⟨⟨⟨⟨⟨h1, h2⟩, h3⟩, h4⟩, h5⟩, h6⟩ := h
  exact ⟨h1, h2, fun y hy e => (h3 y hy).resolve_left fun z => z e, fun y hy e => (h4 y hy).resolve_left fun z => z e, h5, h6⟩
section
variable {X : Cx} {pins : List (Addr × Obj)} {σ : St} {H : Hp} {s : Shared} {scope : Scope} {N : List Str} {k : Nat} {cap : List Nat} {fp : List Addr}
theorem Cx.comp_kind {x : Str} {C : Addr} {s₀ : Shared} {H₀ : Hp} {ex : List Addr} (hk : X.env.scope.kind = .function) :
    (X.comp scope N C s₀ H₀ ex).env.kindOf x = (scope.names.lookup x).map fun k => if (k == NameKind.free && X.env.kindOf x == some .cell) then NameKind.cell else k := by
  show (relabel scope X.env).names.lookup x = _
  unfold relabel
  rw [lookup_relabel]
  congr 1
  funext k
  rw [hk]; simp
theorem Inv.freeCells (I : Inv X pins σ H s) (c : CompOk X.N X.env.scope scope N k cap) : ∀ y ∈ scope.names, y.2 = .free → ∃ d, X.env.cells.lookup y.1 = some d :=
  fun y hy e => I.ok.has y.1 (.inl (c.frees y hy e))
/-- the block begins -/
theorem Inv.block (I : Inv X pins σ H s) (c : CompOk X.N X.env.scope scope N k cap) (hf : ∀ b ∈ fp, FpOk X pins H b) (ho : ∀ b ∈ fp, ∃ o, s.heap.get? b = some o) {D C : Addr} {s1 : Shared}
    (hD : s.heap.objs.size ≤ D) (hC : s.heap.objs.size ≤ C) (hDC : D ≠ C) (hos : s1.os = s.os) (hg : s1.gens = s.gens) (keep : ∀ b o, s.heap.get? b = some o → s1.heap.get? b = some o)
    (hl : s1.heap.get? D = some { cls := .type "list", data := .seq #[] }) (hn : s1.heap.Ns C fun _ => none) :
    Inv (X.comp scope N C s H fp) [] (st0 k cap σ) (upd H D (.lst [])) s1 := by
  have hfc := I.freeCells c
  have lt : ∀ b ∈ fp, b < s.heap.objs.size := fun b hb => let ⟨o, e⟩ := ho b hb; Heap.lt_size e
  have clt : ∀ x d, X.env.cells.lookup x = some d → d < s.heap.objs.size := fun x d e => let ⟨v, o, q, _⟩ := I.cell x d e; Heap.lt_size q
  have sub := clos_sub (cells := X.env.cells) (names := scope.names) (acc := []) hfc (fun x c h => by simp at h)
  have fresh : ∀ a, s.heap.objs.size ≤ a → H a = none := fun a h => I.hok.fresh h
  have kindf : ∀ x, ((X.comp scope N C s H fp).env.kindOf x = some .cell ∨ (X.comp scope N C s H fp).env.kindOf x = some .free) → (x, NameKind.free) ∈ scope.names := fun x h => by
    rw [Cx.comp_kind I.ok.kind] at h
    cases e : scope.names.lookup x with
    | none => rw [e] at h; simp at h
    | some kd =>
      have m := mem_of_lookup e
      rw [e] at h
      cases kd with
      | free => exact m
      | cell => exact absurd rfl (c.nocell _ m)
      | «local» => simp at h
      | globalExplicit => simp at h
      | globalImplicit => simp at h
  have ok : (X.comp scope N C s H fp).Ok :=
    { mod := I.ok.mod
      kind := c.kind
      glob := I.ok.glob
      blt := I.ok.blt
      above := hC
      inj := fun x y d hx hy => I.ok.inj x y d (sub x d hx) (sub y d hy)
      has := fun x h => clos_has (.inl (kindf x h))
      cab := fun x d h => by cases h
      hd := I.ok.hd
      frames := I.ok.frames
      stk := .inl rfl
      exf := fun b hb => ⟨fun z => anelt (lt b hb) hC z, fun x d hx => (hf b hb).2.2.2.2.1 x d (sub x d hx)⟩
      bs := I.bs
      bsz := Nat.le_trans I.ok.bsz I.sz
      noex := fun b o e hb => by
        rcases (hf b hb).2.2.2.1 with h | h
        · exact I.ok.noex b o e h
        · exact absurd (Heap.lt_size (I.ok.bs b o e).1) (Nat.not_lt.mpr h)
      exfs := fun b hb hm => by
        rcases List.mem_cons.mp (I.stkSub b hm) with h | h
        · exact (hf b hb).2.1 h
        · exact (hf b hb).2.2.1 h
      funs := I.stack
      frf := I.stkFree }
  have nD : H D = none := fresh D hD
  refine
    { ok := ok
      os := hos
      bare := by rw [hg]; exact I.bare
      base := Un.laid keep hD nD
      loc := ⟨_, hn, ?_⟩
      cell := fun x d h => let ⟨v, q⟩ := I.cell x d (sub x d h); ⟨v, q.keeps keep⟩
      free := by
        show upd H D _ C = none
        rw [upd_ne (Ne.symm hDC)]; exact fresh C hC
      freeC := fun x d h => by
        have h' := sub x d h
        rw [upd_ne (anelt (clt x d h') hD)]; exact I.freeC x d h'
      pin := fun p hp => by cases hp
      hok := I.hok.laid keep hD ⟨Nat.zero_le _, [], 0, .nil, hl⟩
      len := by
        show (st0 k cap σ).length = N.length
        unfold st0; rw [List.length_append, List.length_replicate, List.length_map, c.len] }
  intro i x v hi hv _
  have hi : N[i]? = some x := hi
  unfold st0 at hv
  by_cases hik : i < k
  · rw [List.getElem?_append_left (by rw [List.length_replicate]; exact hik), List.getElem?_replicate, if_pos hik] at hv
    cases hv
  · rw [List.getElem?_append_right (by rw [List.length_replicate]; omega), List.length_replicate, List.getElem?_map] at hv
    cases ej : cap[i - k]? with
    | none => rw [ej] at hv; cases hv
    | some j =>
      rw [ej] at hv
      have hv : (σ[j]?).getD none = some v := Option.some.inj hv
      have hσ : σ[j]? = some (some v) := by
        cases e : σ[j]? with
        | none => rw [e] at hv; cases hv
        | some z => rw [e] at hv; exact congrArg some hv
      have hm : (j, x) ∈ cap.zip (N.drop k) := by
        refine List.mem_iff_getElem?.mpr ⟨i - k, ?_⟩
        rw [List.getElem?_zip_eq_some]
        refine ⟨ej, ?_⟩
        rw [List.getElem?_drop, show k + (i - k) = i by omega]; exact hi
      obtain ⟨hX, hfree⟩ := c.caps _ hm
      have mf := mem_of_lookup hfree
      have hcell := c.frees _ mf rfl
      obtain ⟨m, _, q⟩ := I.loc
      obtain ⟨u, ru, lk⟩ := q j x v hX hσ (.inr (.inl hcell))
      refine ⟨u, ru, .inr ⟨.inl ?_, ?_⟩⟩
      · rw [Cx.comp_kind I.ok.kind, hfree]
        have : (X.env.kindOf x == some NameKind.cell) = true := by
          show (X.env.scope.names.lookup x == some NameKind.cell) = true
          rw [hcell]; rfl
        simp [this]
      · rcases lk with ⟨hloc, _⟩ | ⟨_, d, hd, hcv⟩
        · have hloc : X.env.scope.names.lookup x = some .local := hloc
          rw [hcell] at hloc; cases hloc
        · obtain ⟨d', hd'⟩ := clos_has (cells := X.env.cells) (acc := []) (.inl mf : (x, NameKind.free) ∈ scope.names ∨ _)
          have := sub x d' hd'
          rw [hd] at this; cases this
          exact ⟨d, hd', hcv.keeps keep⟩
/-- the block has ended -/
theorem Inv.unblock {H' : Hp} {σ' : St} {s1 : Shared} {C : Addr} {ps : List (Addr × Obj)} (I : Inv X pins σ H s) (hf : ∀ b ∈ fp, FpOk X pins H b) (J : Inv (X.comp scope N C s H fp) ps σ' H' s1) : Inv X pins σ H' s1 :=
  I.call' (ch := fp) J.os J.base J.hok J.bare fun b hb => ⟨(hf b hb).2.2.2.1, (hf b hb).2.1, (hf b hb).2.2.2.2.1, (hf b hb).2.2.2.2.2⟩
end
/-- [elt for tg in iter if ..]: D the new list, W what holds between two turns (turn, measure, names, heap, items so far) -/
def tComp (k : Nat) (cap : List Nat) (wi : TI) (g : TG) (tt : TT) (te : TE) : TE := fun σ H Q => wi σ H fun J H1 => ∀ D, H1 D = none → ∃ W : Nat → Nat → St → Hp → List V → Prop,
  (∃ m, W 0 m (st0 k cap σ) (upd H1 D (.lst [])) []) ∧ ∀ i m σ' H' ys, W i m σ' H' ys → (J.stop i H' ∧ Q (.ref D) H') ∨
    (J.go i H' ∧ ∃ N : St → Hp → List V → Prop, (∀ σ' H' ys', N σ' H' ys' → ∃ m', m' < m ∧ W (i + 1) m' σ' H' ys') ∧ ∀ x H2, J.yld i H' x H2 → g x σ' H2 fun σ3 H3 => tt σ3 H3 fun b H4 => if b = true then
      te σ3 H4 fun y H5 => H5 D = some (.lst ys) ∧ ys.length < sizeLine ∧ N σ3 (upd H5 D (.lst (ys ++ [y]))) (ys ++ [y])
      else N σ3 H4 ys)
/-- no test -/
def tYes : TT := fun _ H Q => Q true H
def PTs (X : Cx) (ifs : List Expr) (t : TT) : Prop :=
  ∀ (pins : List (Addr × Obj)) (s : Shared) (σ : St) (H : Hp) (Q : Bool → Hp → Prop), Inv X pins σ H s → t σ H Q →
    wpAny (model X.prog X.w) X.A (forIn ifs true fun c r => if r = true then do let ok ← isTrue c X.env (eval c X.env); pure (ForInStep.yield ok) else pure (ForInStep.yield r)) (TP X pins σ Q) X.xe s
theorem pts_nil {X : Cx} : PTs X [] tYes := fun _ _ _ H _ I h => wpAny_tests_nil ⟨H, I, h⟩
section
variable {prog : Program} {w : World} {A : Around} {R : Result → Shared → Prop} {s : Shared}
theorem codeAny_compLoop_go {elt target iter : Expr} {ifs : List Expr} {scope : Scope} {pos : Pos} {it acc : Value} {env : Env} (I : Nat → Shared → Prop)
    (turn : ∀ n s, I n s → wpAny (model prog w) A (pyNext it) (fun r s₁ => match r with
      | none => R (.ok .next) s₁
      | some v => wpAny (model prog w) A (letOwnedTupleGo target it v) (fun _ s₀ => wpAny (model prog w) A (assign target env v) (fun _ s₂ =>
          wpAny (model prog w) A (forIn ifs true fun c r => if r = true then do let ok ← isTrue c env (eval c env); pure (ForInStep.yield ok) else pure (ForInStep.yield r)) (fun ok s₃ =>
            if ok = true then wpAny (model prog w) A (eval elt env) (fun x s₄ =>
              wpAny (model prog w) A (call (.builtin "list.append") [acc, x]) (fun _ s₅ => ∃ m, m < n ∧ I m s₅) (notedBy (model prog w) A env fun e s' => R (.error e) s') s₄) (notedBy (model prog w) A env fun e s' => R (.error e) s') s₃
            else ∃ m, m < n ∧ I m s₃) (notedBy (model prog w) A env fun e s' => R (.error e) s') s₂) (notedBy (model prog w) A env fun e s' => R (.error e) s') s₀) (notedBy (model prog w) A env fun e s' => R (.error e) s') s₁) (notedBy (model prog w) A env fun e s' => R (.error e) s') s)
    (n : Nat) (h : I n s) :
    codeAny (model prog w) A (.compLoop (.ListComp elt [⟨target, iter, ifs, 0⟩] scope pos) 0 it acc env) R s := by
  refine codeAny_loop rfl I (fun n s hI => ?_) n h
  show wpAny _ A ((compTurn (.ListComp elt [⟨target, iter, ifs, 0⟩] scope pos) 0 it acc env).onRaise (fun x => do noteFrame x env; theTreesLotGoes x)) _ _ s
  refine wpAny_noted ?_
  rw [compTurn_list]
  refine wpAny_bind (wpAny_standAt (wpAny_bind (wpAny_mono (turn n s hI) (fun r s₁ h₁ => ?_) fun _ _ h' => h')))
  cases r with
  | none => exact wpAny_pure h₁
  | some v =>
    refine wpAny_bind (wpAny_mono h₁ (fun _ s₀ h₀ => ?_) fun _ _ h' => h')
    refine wpAny_bind (wpAny_mono h₀ (fun _ s₂ h₂ => wpAny_bind (wpAny_mono h₂ (fun ok s₃ h₃ => ?_) fun _ _ h' => h')) fun _ _ h' => h')
    cases ok with
    | false => exact wpAny_pure ⟨rfl, h₃⟩
    | true =>
      exact wpAny_bind (wpAny_bind (wpAny_mono h₃ (fun x s₄ h₄ => wpAny_bind (wpAny_mono h₄ (fun _ s₅ h₅ => wpAny_pure (wpAny_pure ⟨rfl, h₅⟩)) fun _ _ h' => h')) fun _ _ h' => h'))
end
section
variable {X : Cx} {scope : Scope} {N : List Str} {k : Nat} {cap : List Nat} {tg iter elt : Expr} {ifs : List Expr} {wi : TI} {g : TG} {tt : TT} {te : TE} {pos : Pos}
/-- the loop of the block -/
theorem comp_loop {E : Value → Shared → Prop} {use : Option (Value → Sem Unit)} {QQ : Value → Shared → Prop} {pins : List (Addr × Obj)} {s : Shared} {σ : St} {H : Hp} {it : Addr} {fp : List Addr} {tn : Nat → Heap → Prop} {J : It} {Q : VK}
    (hc : X.calm = true) (c : CompOk X.N X.env.scope scope N k cap)
    (hg : ∀ C s₀ H₀ ex, PG (X.comp scope N C s₀ H₀ ex).nox tg g) (ht : ∀ C s₀ H₀ ex, PTs (X.comp scope N C s₀ H₀ ex).nox ifs tt) (he : ∀ C s₀ H₀ ex, PE (X.comp scope N C s₀ H₀ ex).nox elt te)
    (I : Inv X pins σ H s) (T : Turn X.prog X.w X.K tg J fp it tn) (st : tn 0 s.heap) (hf : ∀ b ∈ fp, FpOk X pins H b)
    (h : ∀ D, H D = none → ∃ W : Nat → Nat → St → Hp → List V → Prop, (∃ m, W 0 m (st0 k cap σ) (upd H D (.lst [])) []) ∧ ∀ i m σ' H' ys, W i m σ' H' ys → (J.stop i H' ∧ Q (.ref D) H') ∨
      (J.go i H' ∧ ∃ N : St → Hp → List V → Prop, (∀ σ' H' ys', N σ' H' ys' → ∃ m', m' < m ∧ W (i + 1) m' σ' H' ys') ∧ ∀ x H2, J.yld i H' x H2 → g x σ' H2 fun σ3 H3 => tt σ3 H3 fun b H4 => if b = true then
        te σ3 H4 fun y H5 => H5 D = some (.lst ys) ∧ ys.length < sizeLine ∧ N σ3 (upd H5 D (.lst (ys ++ [y]))) (ys ++ [y])
        else N σ3 H4 ys))
    (hQ : ∀ D C s1 H', Inv X pins σ H' s1 → Q (.ref D) H' → (∃ m, s1.heap.Ns C m) → H' C = none → X.s₀.heap.objs.size ≤ C → C ≠ X.env.locals → (∀ x c, X.env.cells.lookup x = some c → c ≠ C) → (∀ p ∈ X.pn ++ pins, p.1 ≠ C) →
      compPost (model X.prog X.w) X.A E use QQ (.ref D) C (.ok .next) s1) :
    wpAny (model X.prog X.w) X.A (newList []) (fun acc s₃ => wpAny (model X.prog X.w) X.A (newFunctionEnv scope X.env.globals (clos X.env.cells scope.names []) [] X.env.qual none .none (some X.env)) (fun cenv s₄ =>
      codeAny (model X.prog X.w) X.A (.compStart (.ListComp elt [⟨tg, iter, ifs, 0⟩] scope pos) 0 (.ref it) acc { cenv with scope := relabel scope X.env }) (compPost (model X.prog X.w) X.A E use QQ acc cenv.locals) s₄) E s₃) E s := by
  refine wpAny_newObj_type (wpAny_newFunctionEnv c.nocell (by intro y hy; simp at hy) (fun h₁ hns₁ hsb₁ => ?_) c.kind)
  dsimp only at hns₁ hsb₁ ⊢
  generalize hH2 : s.heap.push { cls := .type "list", dict := none, data := .seq ([] : List Value).toArray } = H2 at hns₁ hsb₁ ⊢
  have hC : H2.objs.size = s.heap.objs.size + 1 := by rw [← hH2, Heap.size_push]
  have hDC : s.heap.objs.size ≠ H2.objs.size := by rw [hC]; exact Nat.ne_of_lt (Nat.lt_succ_self _)
  have hle : s.heap.objs.size ≤ H2.objs.size := by rw [hC]; exact Nat.le_succ _
  have keep : ∀ b o, s.heap.get? b = some o → h₁.get? b = some o := fun b o e => by
    exact hsb₁.extBut b o (anelt (Heap.lt_size e) hle) (Heap.get?_push_of_some _ (hH2 ▸ Heap.get?_push_of_some _ e))
  have hl : h₁.get? s.heap.objs.size = some { cls := .type "list", data := .seq #[] } := hsb₁.extBut _ _ hDC (Heap.get?_push_of_some _ (hH2 ▸ Heap.get?_push_size _ rfl))
  have nD : H s.heap.objs.size = none := I.hok.fresh (Nat.le_refl _)
  obtain ⟨W, ⟨m0, w0⟩, turn⟩ := h _ nD
  have ho : ∀ b ∈ fp, ∃ o, s.heap.get? b = some o := fun b hb => let ⟨o, e, _⟩ := T.obj _ _ st b hb; ⟨o, e⟩
  have hCs : X.s₀.heap.objs.size ≤ H2.objs.size := Nat.le_trans I.sz hle
  have hCl : H2.objs.size ≠ X.env.locals := (anelt I.lt hle).symm
  have hCc : ∀ x d, X.env.cells.lookup x = some d → d ≠ H2.objs.size := fun x d e => by
    obtain ⟨v, o, q, _⟩ := I.cell x d e
    exact anelt (Heap.lt_size q) hle
  have hCp : ∀ p ∈ X.pn ++ pins, p.1 ≠ H2.objs.size := fun p hp => by
    exact anelt (Heap.lt_size (I.pin p hp).1) hle
  have loop : ∀ s₃ : Shared, s₃ = { s with heap := h₁, toks := s.toks + ([] : List (Str × Value)).length } →
      codeAny (model X.prog X.w) X.A (.compLoop (.ListComp elt [⟨tg, iter, ifs, 0⟩] scope pos) 0 (.ref it) (.ref s.heap.objs.size) (compEnvC scope (clos X.env.cells scope.names []) H2.objs.size X.env))
        (compPost (model X.prog X.w) X.A E use QQ (.ref s.heap.objs.size) H2.objs.size) s₃ := by
    rintro s₃ rfl
    have I0 : Inv (X.comp scope N H2.objs.size s H fp) [] (st0 k cap σ) (upd H s.heap.objs.size (.lst [])) { s with heap := h₁, toks := s.toks + ([] : List (Str × Value)).length } :=
      I.block c hf ho (Nat.le_refl _) hle hDC rfl rfl keep hl (by simpa using hns₁)
    have stat : ∀ {H' : Hp} {ps : List (Addr × Obj)}, (∀ b ∈ fp, H' b = none) → ps = [] → ∀ b ∈ fp, FpOk (X.comp scope N H2.objs.size s H fp).nox ps H' b := fun hn hp b hb => by
      subst hp
      exact ⟨hn b hb, (I0.ok.exf b hb).1, I0.ok.exfs b hb, .inl hb, (I0.ok.exf b hb).2, fun p hp => by cases hp⟩
    have nok : ∀ b ∈ fp, upd H s.heap.objs.size (.lst []) b = none := fun b hb => by
      obtain ⟨o, e⟩ := ho b hb
      rw [upd_ne (anelt (Heap.lt_size e) (Nat.le_refl _))]; exact (hf b hb).1
    refine codeAny_compLoop_go (fun n s' => ∃ i σ' H' ys, Inv (X.comp scope N H2.objs.size s H fp).nox [] σ' H' s' ∧ tn i s'.heap ∧ (∀ b ∈ fp, H' b = none) ∧ W i n σ' H' ys) ?_ m0
      ⟨0, _, _, [], I0.wish _, T.keep _ _ _ st fun b _ o e => keep b o e, nok, w0⟩
    rintro n s' ⟨i, σ', H', ys, I', st', fr', w'⟩
    rcases turn i n σ' H' ys w' with ⟨stop, q⟩ | ⟨go, NN, hNN, step⟩
    · refine wpAny_mono (T.done (X.comp scope N H2.objs.size s H fp).nox rfl rfl rfl hc i [] s' σ' H' (fun _ _ => False) I' (stat fr' rfl) st' stop) (fun r s4 ⟨hr, I4⟩ => ?_) (fun _ _ x => x.elim)
      subst hr
      exact hQ _ _ s4 H' (I.unblock hf I4.unwish) q (let ⟨m, hn, _⟩ := I4.loc; ⟨m, hn⟩) I4.free hCs hCl hCc hCp
    · refine wpAny_mono (T.item (X.comp scope N H2.objs.size s H fp).nox rfl rfl rfl hc i [] s' σ' H' (fun _ _ => False) I' (stat fr' rfl) st' go) (fun r s4 ⟨u, hr, h4⟩ => ?_) (fun _ _ x => x.elim)
      subst hr
      refine wpAny_mono h4 (fun _ s5 ⟨x, H5, I5, r5, y5, st5, fr5⟩ => ?_) (fun _ _ x => x.elim)
      have I5' := I5.pinned (stat fr5 rfl) (T.obj _ _ st5)
      refine wpAny_mono (hg _ _ _ _ _ s5 σ' H5 x u _ I5' r5 (step x H5 y5)) (fun _ s6 ⟨σ6, H6, I6, q6⟩ => ?_) (fun _ _ x => x.elim)
      refine wpAny_mono (ht _ _ _ _ _ s6 σ6 H6 _ I6 q6) (fun ok s7 ⟨H7, I7, q7⟩ => ?_) (fun _ _ x => x.elim)
      have again : ∀ {H8 : Hp} {s8 : Shared} {ys8 : List V}, Inv (X.comp scope N H2.objs.size s H fp).nox ([] ++ pinsAt fp s5.heap) σ6 H8 s8 → NN σ6 H8 ys8 →
          ∃ m, m < n ∧ ∃ i σ' H' ys, Inv (X.comp scope N H2.objs.size s H fp).nox [] σ' H' s8 ∧ tn i s8.heap ∧ (∀ b ∈ fp, H' b = none) ∧ W i m σ' H' ys := fun {H8 s8 ys8} I8 n8 => by
        obtain ⟨m', hm, w8⟩ := hNN _ _ _ n8
        refine ⟨m', hm, i + 1, σ6, H8, ys8, I8.unpinned, T.keep _ _ _ st5 fun b hb o e => (I8.pin (b, o) (List.mem_append_right _ (List.mem_append_right _ (mem_pinsAt hb e)))).1, fun b hb => ?_, w8⟩
        obtain ⟨o, e, d⟩ := T.obj _ _ st5 b hb
        exact (I8.pin (b, o) (List.mem_append_right _ (List.mem_append_right _ (mem_pinsAt hb e)))).2.1
      cases ok with
      | false => exact again I7 q7
      | true =>
        refine wpAny_mono (he _ _ _ _ _ s7 σ6 H7 _ I7 q7) (fun y s8 ⟨v, H8, I8, rv, hD, hlen, w8⟩ => ?_) (fun _ _ x => x.elim)
        refine wpAny_mono (mt_append (X := (X.comp scope N H2.objs.size s H fp).nox) _ s8 σ6 H8 (.ref s.heap.objs.size) [v] (.ref s.heap.objs.size) [y] (fun _ H9 => H9 = upd H8 s.heap.objs.size (.lst (ys ++ [v]))) I8 rfl (.cons rv .nil) ⟨_, ys, v, rfl, rfl, hD, hlen, rfl⟩) (fun _ s9 ⟨_, H9, I9, _, e9⟩ => ?_) (fun _ _ x => x.elim)
        subst e9
        exact again I9 w8
  exact codeAny_compStart_list (loop _ rfl) (T.self _ 0 _ _ _ (T.keep _ _ _ st fun b _ o e => keep b o e) (loop _ rfl))
theorem pe_comp (hc : X.calm = true) (hco : compOk X.N X.env.scope scope N k cap = true) (hi : PI X tg iter wi)
    (hg : ∀ C s₀ H₀ ex, PG (X.comp scope N C s₀ H₀ ex).nox tg g) (ht : ∀ C s₀ H₀ ex, PTs (X.comp scope N C s₀ H₀ ex).nox ifs tt) (he : ∀ C s₀ H₀ ex, PE (X.comp scope N C s₀ H₀ ex).nox elt te)
    (hs : ∀ x, foldedSetIterable iter X.env x = pure x := by intro _; rfl) : PE X (.ListComp elt [⟨tg, iter, ifs, 0⟩] scope pos) (tComp k cap wi g tt te) := by
  intro pins s σ H Q I h
  have c := CompOk.of hco
  rw [eval_ListComp]
  refine wpAny_comprehension_free (use := none) (cl := clos X.env.cells scope.names []) rfl hs (closureFor_eq (I.freeCells c)) c.kind c.locs (thn (hi pins s σ H _ I h) fun xv s₁ h₁ => thn h₁ fun itv s₂ h₂ => ?_)
  obtain ⟨it, fp, tn, J, H2, e, I2, T, st, hf, q⟩ := h₂
  subst e
  exact comp_loop (use := none) hc c hg ht he I2 T st hf q fun D C s1 H' I1 q1 ⟨m, hn⟩ hCn hCs hCl hCc hCp =>
    ⟨m, hn, fun h' hs' => ⟨.ref D, H', I1.turned (t' := s1.toks) (fun b o hb e => hs'.extBut b o hb e) hCn hCl (.inr hCs) hCc hCp, rfl, q1⟩⟩
end
/-! ### the forms one uses -/
theorem comp_list {K : PySem.W.Frag} {a : Addr} (D : Addr) {xs : List V} {g : TG} {tt : TT} {te : TE} {σ : St} {H : Hp} {R : Hp → Prop} (Pv : Nat → St → Hp → List V → Prop) (h0 : Pv 0 σ H []) (hl : ∀ i σ H ys, i ≤ xs.length → Pv i σ H ys → SqL K H a xs)
    (hs : ∀ i x σ H ys, xs[i]? = some x → Pv i σ H ys → g x σ H fun σ3 H3 => tt σ3 H3 fun b H4 => if b = true then
      te σ3 H4 fun y H5 => H5 D = some (.lst ys) ∧ ys.length < sizeLine ∧ Pv (i + 1) σ3 (upd H5 D (.lst (ys ++ [y]))) (ys ++ [y]) else Pv (i + 1) σ3 H4 ys) (hd : ∀ σ H ys, Pv xs.length σ H ys → R H) :
    ∃ W : Nat → Nat → St → Hp → List V → Prop, (∃ m, W 0 m σ H []) ∧ ∀ i m σ' H' ys, W i m σ' H' ys → ((Itl K a).stop i H' ∧ R H') ∨
      ((Itl K a).go i H' ∧ ∃ N : St → Hp → List V → Prop, (∀ σ' H' ys', N σ' H' ys' → ∃ m', m' < m ∧ W (i + 1) m' σ' H' ys') ∧ ∀ x H2, (Itl K a).yld i H' x H2 → g x σ' H2 fun σ3 H3 => tt σ3 H3 fun b H4 => if b = true then
        te σ3 H4 fun y H5 => H5 D = some (.lst ys) ∧ ys.length < sizeLine ∧ N σ3 (upd H5 D (.lst (ys ++ [y]))) (ys ++ [y])
        else N σ3 H4 ys) := by
  refine ⟨fun i m σ H ys => m = xs.length - i ∧ i ≤ xs.length ∧ Pv i σ H ys, ⟨xs.length, by simp, Nat.zero_le _, h0⟩, ?_⟩
  rintro i m σ H ys ⟨rfl, hi, p⟩
  have q := hl i σ H ys hi p
  by_cases hlt : i < xs.length
  · refine .inr ⟨⟨xs, xs[i], q, by simp [hlt]⟩, Pv (i + 1), fun σ' H' ys' p' => ⟨xs.length - (i + 1), by omega, rfl, hlt, p'⟩, fun x H' y => ?_⟩
    obtain ⟨e, y⟩ := y
    subst e
    exact hs i x σ _ ys (y xs q) p
  · have e : i = xs.length := by omega
    subst e
    exact .inl ⟨⟨xs, q, Nat.le_refl _⟩, hd σ H ys p⟩
/-! ### rules whose reading names the written part: for a block's own context -/
section
variable {X : Cx} {K : PySem.W.Frag}
theorem pg_tupK {es : List Expr} {k : Nat} {t : TGs} {n : Nat} {pos : Pos} (hK : X.K = K) (hc : X.calm = true) (h : PGs X es t) (hn : (assignEach es X.env).length = n := by rfl) (hst : (assignEach es X.env).findIdx? (·.1) = none := by rfl) :
    PG X (.Tuple es k pos) (gTup K n t) := by subst hK; exact pg_tup hc h hn hst
theorem ix_tupK (hK : X.K = K) : IxR X (rIxT K) := by subst hK; exact ix_tup
end
end L2
namespace L2
open PySem PySem.Spec PyProof.Rows
/-! ### range(a, b, c) -/
def Itrs (lo c : Int) (n : Nat) : It := ⟨fun i _ => i < n, fun i H x H' => H' = H ∧ x = .int (lo + i * c), fun i _ => n ≤ i⟩
section
variable {X : Cx} {tg : Expr}
def iRng3 (ta : TA) : TI := fun σ H R => ta σ H fun vs H1 => ∃ (i j c : Int) (n : Nat), vs = [.int i, .int j, .int c] ∧ (0 < c ∧ c < 1073741824) ∧ Builtin.Range.small i j c = true ∧ Builtin.Range.rangeSize i j c = (n : Int) ∧ R (Itrs i c n) H1
end
theorem Same.new {H : Hp} {p : Addr} {o : HO} (h : H p = none) : Same H (upd H p o) := fun b u e => by rw [upd_ne (ne_of_none e h)]; exact e
theorem Same.upd {H H' : Hp} {p : Addr} {o : HO} (s : Same H H') (h : H p = none) : Same H (upd H' p o) := fun b u e => by rw [upd_ne (ne_of_none e h)]; exact s b u e
end L2
namespace L2
open PySem PySem.Spec PyProof.Rows PySem.SeqAt
/-! ### == and != of lists and tuples -/
def SeqEq (K : PySem.W.Frag) (H : Hp) (R : V → V → Bool → Prop) (x y : V) (b : Bool) : Prop :=
  ∃ (a c : Addr) (xs ys : List V) (e : Nat → Bool), x = .ref a ∧ y = .ref c ∧
    ((SqL K H a xs ∧ SqL K H c ys ∧ xs.length = ys.length ∧ (∀ (j : Nat) x' y', xs[j]? = some x' → ys[j]? = some y' → R x' y' (e j)) ∧ b = (List.range xs.length).all e) ∨
     (SqL K H a xs ∧ SqL K H c ys ∧ xs.length ≠ ys.length ∧ b = false) ∨
     (SqT K H a xs ∧ SqT K H c ys ∧ (∀ (j : Nat) x' y', xs[j]? = some x' → ys[j]? = some y' → R x' y' (e j)) ∧ b = ((List.range (min xs.length ys.length)).all e && xs.length == ys.length)))
/-- == within a list or tuple, to the depth n -/
def EqI (K : PySem.W.Frag) (H : Hp) : Nat → V → V → Bool → Prop
  | 0 => fun x y b => (flatV x = true ∧ flatV y = true ∧ b = eqV x y) ∨ ∃ a, x = .ref a ∧ y = .ref a ∧ b = true
  | n + 1 => fun x y b => EqI K H n x y b ∨ (x ≠ y ∧ SeqEq K H (EqI K H n) x y b)
section
variable {X : Cx} {pins : List (Addr × Obj)} {σ : St} {H : Hp} {s : Shared} {A : Around}
theorem items_at {xs ys : List V} {us vs : List Value} {R : V → V → Bool → Prop} {e : Nat → Bool} (r : Vals xs us) (q : Vals ys vs) (he : ∀ (j : Nat) x' y', xs[j]? = some x' → ys[j]? = some y' → R x' y' (e j))
    (hR : ∀ x y b u v, R x y b → RelV x u → RelV y v → EqAt A s u v b) : ∀ j (h1 : j < us.toArray.size) (h2 : j < vs.toArray.size), EqAt A s us.toArray[j] vs.toArray[j] (e j) := fun j h1 h2 => by
  have h1' : j < us.length := by simpa using h1
  have h2' : j < vs.length := by simpa using h2
  have l1 := r.length
  have l2 := q.length
  have ex : xs[j]? = some (xs[j]'(by omega)) := List.getElem?_eq_getElem (by omega)
  have ey : ys[j]? = some (ys[j]'(by omega)) := List.getElem?_eq_getElem (by omega)
  obtain ⟨u, eu, ru⟩ := Vals.get r ex
  obtain ⟨v, ev, rv⟩ := Vals.get q ey
  have e1 : us.toArray[j] = u := by
    have := (List.getElem?_eq_some_iff.mp eu).2
    simpa using this
  have e2 : vs.toArray[j] = v := by
    have := (List.getElem?_eq_some_iff.mp ev).2
    simpa using this
  rw [e1, e2]
  exact hR _ _ _ _ _ (he j _ _ ex ey) ru rv
theorem SeqEq.rc {R : V → V → Bool → Prop} {x y : V} {b : Bool} {u v : Value} (I : Inv X pins σ H s) (hR : ∀ x y b u v, R x y b → RelV x u → RelV y v → EqAt A.in1 s u v b) (hu : A.units < cLine)
    (h : SeqEq X.K H R x y b) (rx : RelV x u) (ry : RelV y v) : RcAt A s u v b := by
  obtain ⟨a, c, xs, ys, e, rfl, rfl, h⟩ := h
  cases rx
  cases ry
  rcases h with ⟨h1, h2, hl, he, rfl⟩ | ⟨h1, h2, hl, rfl⟩ | ⟨h1, h2, he, rfl⟩
  · obtain ⟨us, r, p, _⟩ := I.list h1
    obtain ⟨vs, q, p2, _⟩ := I.list h2
    have l1 := r.length
    have l2 := q.length
    have z := RcAt.lists (A := A) (e := e) p.isList p2.isList (by simp; omega) hu (items_at r q he hR)
    rw [show us.toArray.size = xs.length by simp; omega] at z
    exact z
  · obtain ⟨us, r, p, _⟩ := I.list h1
    obtain ⟨vs, q, p2, _⟩ := I.list h2
    have l1 := r.length
    have l2 := q.length
    exact RcAt.lists_lengths p.isList p2.isList (by simp; omega) hu
  · obtain ⟨us, r, p, _⟩ := I.tuple h1
    obtain ⟨vs, q, p2, _⟩ := I.tuple h2
    have l1 := r.length
    have l2 := q.length
    have z := RcAt.tuples (A := A) (e := e) (show s.heap.IsTuple a us.toArray from p) (show s.heap.IsTuple c vs.toArray from p2) hu (items_at r q he hR)
    rw [show us.toArray.size = xs.length by simp; omega, show vs.toArray.size = ys.length by simp; omega] at z
    exact z
theorem SeqEq.rcNe {R : V → V → Bool → Prop} {x y : V} {b : Bool} {u v : Value} (I : Inv X pins σ H s) (hR : ∀ x y b u v, R x y b → RelV x u → RelV y v → EqAt A.in1 s u v b) (hu : A.units < cLine)
    (h : SeqEq X.K H R x y b) (rx : RelV x u) (ry : RelV y v) : RcNeAt A s u v (!b) := by
  obtain ⟨a, c, xs, ys, e, rfl, rfl, h⟩ := h
  cases rx
  cases ry
  rcases h with ⟨h1, h2, hl, he, rfl⟩ | ⟨h1, h2, hl, rfl⟩ | ⟨h1, h2, he, rfl⟩
  · obtain ⟨us, r, p, _⟩ := I.list h1
    obtain ⟨vs, q, p2, _⟩ := I.list h2
    have l1 := r.length
    have l2 := q.length
    have z := RcNeAt.lists (A := A) (e := e) p.isList p2.isList (by simp; omega) hu (items_at r q he hR)
    rw [show us.toArray.size = xs.length by simp; omega] at z
    exact z
  · obtain ⟨us, r, p, _⟩ := I.list h1
    obtain ⟨vs, q, p2, _⟩ := I.list h2
    have l1 := r.length
    have l2 := q.length
    exact RcNeAt.lists_lengths p.isList p2.isList (by simp; omega) hu
  · obtain ⟨us, r, p, _⟩ := I.tuple h1
    obtain ⟨vs, q, p2, _⟩ := I.tuple h2
    have l1 := r.length
    have l2 := q.length
    have z := RcNeAt.tuples (A := A) (e := e) (show s.heap.IsTuple a us.toArray from p) (show s.heap.IsTuple c vs.toArray from p2) hu (items_at r q he hR)
    rw [show us.toArray.size = xs.length by simp; omega, show vs.toArray.size = ys.length by simp; omega] at z
    exact z
theorem EqI.at (I : Inv X pins σ H s) : ∀ (n : Nat) {A : Around} {x y : V} {b : Bool} {u v : Value}, A.units + n < cLine → EqI X.K H n x y b → RelV x u → RelV y v → EqAt A s u v b
  | 0, A, x, y, b, u, v, hu, h, rx, ry => by
    rcases h with ⟨fx, fy, rfl⟩ | ⟨a, rfl, rfl, rfl⟩
    · exact eqAt_V rx ry fx fy
    · cases rx
      cases ry
      exact EqAt.same _
  | n + 1, A, x, y, b, u, v, hu, h, rx, ry => by
    rcases h with h | ⟨hne, h⟩
    · exact EqI.at I n (by omega) h rx ry
    · have z := SeqEq.rc (A := A) I (fun x y b u v h rx ry => EqI.at I n (A := A.in1) (by show A.units + 1 + n < cLine; omega) h rx ry) (by omega) h rx ry
      obtain ⟨a, c, xs, ys, e, rfl, rfl, _⟩ := h
      cases rx
      cases ry
      exact EqAt.of_refs (fun e => hne (by rw [e])) z
/-- == of two lists or tuples -/
def rEqR (K : PySem.W.Frag) : R2 := fun x y H Q => ∃ (n : Nat) (b : Bool), n ≤ 8 ∧ SeqEq K H (EqI K H n) x y b ∧ Q (.bl b) H
def rNeR (K : PySem.W.Frag) : R2 := fun x y H Q => ∃ (n : Nat) (b : Bool), n ≤ 8 ∧ SeqEq K H (EqI K H n) x y b ∧ Q (.bl (!b)) H
theorem op_eq_ref (hu : X.A.units + 64 < cLine) : OpR X (compareOp .Eq) (rEqR X.K) := by
  rintro pins s σ H x y v u Q I rx ry ⟨n, b, hn, h, q⟩
  exact SeqEq.rc (A := X.A) I (fun x y b u v h rx ry => EqI.at I n (A := X.A.in1) (by show X.A.units + 1 + n < cLine; omega) h rx ry) (by omega) h rx ry X.prog X.w X.xe _ ⟨.bl b, H, I, rfl, q⟩
theorem op_ne_ref (hu : X.A.units + 64 < cLine) : OpR X (compareOp .NotEq) (rNeR X.K) := by
  rintro pins s σ H x y v u Q I rx ry ⟨n, b, hn, h, q⟩
  exact SeqEq.rcNe (A := X.A) I (fun x y b u v h rx ry => EqI.at I n (A := X.A.in1) (by show X.A.units + 1 + n < cLine; omega) h rx ry) (by omega) h rx ry X.prog X.w X.xe _ ⟨.bl (!b), H, I, rfl, q⟩
end
/-- two lists (tuples) of the same items -/
theorem SeqEq.sameL {K : PySem.W.Frag} {H : Hp} {a c : Addr} {xs : List V} (h1 : SqL K H a xs) (h2 : SqL K H c xs) (hx : ∀ x ∈ xs, EqI K H n x x true) : SeqEq K H (EqI K H n) (.ref a) (.ref c) true :=
  ⟨a, c, xs, xs, fun _ => true, rfl, rfl, .inl ⟨h1, h2, rfl, fun j x y e1 e2 => by
    rw [e1] at e2; cases e2
    exact hx x (List.mem_of_getElem? e1), by simp⟩⟩
theorem SeqEq.sameT {K : PySem.W.Frag} {H : Hp} {a c : Addr} {xs : List V} (h1 : SqT K H a xs) (h2 : SqT K H c xs) (hx : ∀ x ∈ xs, EqI K H n x x true) : SeqEq K H (EqI K H n) (.ref a) (.ref c) true :=
  ⟨a, c, xs, xs, fun _ => true, rfl, rfl, .inr (.inr ⟨h1, h2, fun j x y e1 e2 => by
    rw [e1] at e2; cases e2
    exact hx x (List.mem_of_getElem? e1), by simp⟩)⟩
theorem eqI_int {K : PySem.W.Frag} {H : Hp} (i : Int) : EqI K H 0 (.int i) (.int i) true := .inl ⟨rfl, rfl, by simp [eqV]⟩
end L2
namespace L2
open PySem PySem.Spec PyProof.Rows
/-! ### for a, b in zip(xs, ys): two lists that the body leaves as they are -/
def Itz (K : PySem.W.Frag) (l1 l2 : Addr) : It :=
  ⟨fun i H => ∃ xs ys x y, SqL K H l1 xs ∧ SqL K H l2 ys ∧ xs[i]? = some x ∧ ys[i]? = some y,
   fun i H v H' => ∃ T x y, H T = none ∧ v = .ref T ∧ H' = upd H T (.tup [x, y]) ∧ (∀ xs, SqL K H l1 xs → xs[i]? = some x) ∧ ∀ ys, SqL K H l2 ys → ys[i]? = some y,
   fun i H => ∃ xs ys, SqL K H l1 xs ∧ SqL K H l2 ys ∧ (xs.length ≤ i ∨ ys.length ≤ i)⟩
def ZipSt (z TI TO i1 i2 l1 l2 : Addr) (i : Nat) (h : Heap) : Prop :=
  IsZip h z TI TO .none ∧ IsPair h TI (.ref i1) (.ref i2) ∧ (∃ a b, IsPair h TO a b) ∧ h.IsListIter i1 l1 i ∧ h.IsListIter i2 l2 i
def iZip (K : PySem.W.Frag) (ta : TA) : TI := fun σ H R => ta σ H fun vs H1 => ∃ l1 l2, vs = [.ref l1, .ref l2] ∧ (∃ xs, SqL K H1 l1 xs) ∧ (∃ ys, SqL K H1 l2 ys) ∧ R (Itz K l1 l2) H1
end L2
namespace L2
open PySem PySem.Spec PyProof.Rows
/-! ### exceptions of own classes: attributes -/
def veTail : List Value := [.type "ValueError", .type "Exception", .type "BaseException", .type "object"]
def isRefV : Value → Bool
  | .ref _ => true
  | _ => false
/-- an own class under ValueError: own ones, then ValueError's row -/
def excMro (l : List Value) : Bool := l.dropWhile isRefV == veTail
theorem excMro_at {l : List Value} (h : excMro l = true) : ∃ rs : List Addr, l = rs.map Value.ref ++ veTail := by
  induction l with
  | nil => exact absurd h (by decide)
  | cons x r ih =>
    unfold excMro at h
    by_cases hx : isRefV x = true
    · rw [List.dropWhile_cons, if_pos hx] at h
      obtain ⟨rs, e⟩ := ih h
      cases x <;> first | cases hx | skip
      rename_i a
      exact ⟨a :: rs, by rw [e]; rfl⟩
    · rw [List.dropWhile_cons, if_neg hx] at h
      exact ⟨[], by rw [beq_iff_eq.mp h]; rfl⟩
theorem excMro_has {T : String} (hT : veTail.contains (.type T) = true) {l : List Value} (h : excMro l = true) : l.contains (.type T) = true := by
  obtain ⟨rs, rfl⟩ := excMro_at h
  rw [List.contains_eq_mem]
  simp only [List.contains_eq_mem, decide_eq_true_eq] at hT ⊢
  exact List.mem_append_right _ hT
theorem excMro_ne {l : List Value} (h : excMro l = true) : l.isEmpty = false := by
  cases l with
  | nil => exact absurd h (by decide)
  | cons _ _ => rfl
theorem refuse_exc (self : Value) {l : List Value} (h : excMro l = true) : refuseLoop self "__setattr__" l = pure () := by
  obtain ⟨rs, rfl⟩ := excMro_at h
  induction rs with
  | nil => exact PySem.F.store_ValueError.passes self
  | cons a r ih =>
    show refuseLoop self "__setattr__" (.ref a :: (r.map Value.ref ++ veTail)) = _
    rw [refuseLoop_ref]
    refine ih ?_
    have : ∀ r : List Addr, excMro (r.map Value.ref ++ veTail) = true := fun r => by
      induction r with
      | nil => decide
      | cons b r ih => exact ih
    exact this r
/-- what of the text an own exception's class must have -/
def xobjIn (K : PySem.W.Frag) (C : Addr) : Bool := match K.lookup C with
  | some ⟨.type "type", _, .cls cd, sl⟩ => (match cd.mro, sl.toList with
    | .ref D :: bm, [_, _, _, _, some (.builtin n), _] => D == C && !cd.hasDel && excMro bm && n == "ValueError.__new__" && cd.hasDict
    | _, _ => false)
  | _ => false
structure XObj (h : Heap) (C : Addr) : Prop where
  ex : ∃ nm q N bs bm sn sub ab col dd k0 k1 k2 k3 k5, h.get? C = some (excClassObj nm q C N bs bm true sn sub ab col dd k0 k1 k2 k3 k5 "ValueError.__new__") ∧ excMro bm = true
theorem xobj_of {K : PySem.W.Frag} {C : Addr} (q : xobjIn K C = true) : ∃ nm qn N bs bm sn sub ab col dd k0 k1 k2 k3 k5, K.lookup C = some (excClassObj nm qn C N bs bm true sn sub ab col dd k0 k1 k2 k3 k5 "ValueError.__new__") ∧ excMro bm = true := by
  unfold xobjIn at q
  split at q
  · rename_i dd cd sl ho
    split at q
    · rename_i D bm k0 k1 k2 k3 n k5 hm hs
      simp only [Bool.and_eq_true, beq_iff_eq, Bool.not_eq_true'] at q
      obtain ⟨⟨⟨⟨rfl, hdel⟩, hb⟩, rfl⟩, hd⟩ := q
      obtain ⟨nm, bs, mro, ns, qn, hd', sn, sub, ab, col, del⟩ := cd
      dsimp only at hm hdel hd
      subst hm hdel hd
      have hsl : sl = #[k0, k1, k2, k3, some (.builtin "ValueError.__new__"), k5] := by
        obtain ⟨l⟩ := sl
        simp only at hs
        rw [hs]
      subst hsl
      exact ⟨nm, qn, ns, bs, bm, sn, sub, ab, col, dd, k0, k1, k2, k3, k5, ho, hb⟩
    · cases q
  · cases q
structure XCls (K : PySem.W.Frag) (C : Addr) : Prop where
  obj : xobjIn K C = true
  sa : PySem.W.findIn K (.ref C) "__setattr__" = some (some (.builtin "object.__setattr__"))
  ga : PySem.W.findIn K (.ref C) "__getattribute__" = some (some (.builtin "BaseException.__getattribute__"))
  gh : PySem.W.findIn K (.ref C) "__getattr__" = some none
  cl : PySem.W.findIn K (.ref C) "__class__" = some (some (.builtin "object.__class__"))
  clg : PySem.W.specialIn K (.builtin "object.__class__") "__get__" = some (some (.builtin "getset_descriptor.__get__"))
  clt : PySem.W.takesIn K (.builtin "object.__class__") = some true
theorem excMro_cons {C : Addr} {bm : List Value} (h : excMro bm = true) : excMro (.ref C :: bm) = true := h
theorem XCls.mro {K : PySem.W.Frag} {C : Addr} (c : XCls K C) : ∃ cd, PySem.W.clsIn K C = some cd ∧ excMro cd.mro = true ∧ cd.hasDict = true := by
  obtain ⟨nm, qn, N, bs, bm, sn, sub, ab, col, dd, k0, k1, k2, k3, k5, ho, hb⟩ := xobj_of c.obj
  refine ⟨{ name := nm, bases := bs, mro := .ref C :: bm, ns := N, qualname := qn, hasDict := true, slotNames := sn, subclasses := sub, abstract := ab, collection := col, hasDel := false }, ?_, excMro_cons (C := C) hb, rfl⟩
  unfold PySem.W.clsIn
  rw [ho]
theorem XCls.at {K : PySem.W.Frag} {C : Addr} {h : Heap} (c : XCls K C) (X : K.In h) : XObj h C := by
  obtain ⟨nm, qn, N, bs, bm, sn, sub, ab, col, dd, k0, k1, k2, k3, k5, ho, hb⟩ := xobj_of c.obj
  exact ⟨nm, qn, N, bs, bm, sn, sub, ab, col, dd, k0, k1, k2, k3, k5, X _ _ ho, hb⟩
theorem XCls.has {K : PySem.W.Frag} {C : Addr} (c : XCls K C) {T : String} (hT : veTail.contains (.type T) = true) : PySem.W.mroIn K C (.type T) = some true := by
  obtain ⟨cd, h1, h2, _⟩ := c.mro
  unfold PySem.W.mroIn
  rw [h1, Option.bind_some, if_neg (by rw [excMro_ne h2]; decide), excMro_has hT h2]
section
variable {prog : Program} {w : World} {A : Around} {E : Value → Shared → Prop} {s : Shared} {K : PySem.W.Frag} {x C : Addr} {ox : Obj} {od : Option Obj} {name : Str} {v : Value}
theorem xget_value {expr : Bool} {Q : Value → Shared → Prop} (X : K.In s.heap) (I : PySem.W.InstAt s.heap x ox C od) (c : XCls K C)
    (hf : PySem.W.findObj K C od name = some (.value v)) (hh : PySem.W.handedIn v = true) (h : Q v { s with toks := s.toks + 1 }) : wpAny (model prog w) A (getAttr (.ref x) name expr) Q E s := by
  obtain ⟨hp, g, d, t, os⟩ := s
  have L0 := I.type (M := model prog w)
  have L1 := PySem.W.looks_findIn (M := model prog w) X c.ga
  have L2 := PySem.W.looks_findIn (M := model prog w) X c.gh
  have L3 := PySem.W.looks_find (M := model prog w) X I hf
  have LB : PySem.W.Looks (model prog w) hp (isInstance (.ref x) (.type "BaseException")) true := L0.andThen (PySem.W.looks_mroIn X (c.has (by decide)))
  have hx1 : (onTheHeap (Value.ref C) && Value.builtin "BaseException.__getattribute__" == Value.builtin "object.__getattribute__") = false := by
    have : (Value.builtin "BaseException.__getattribute__" == Value.builtin "object.__getattribute__") = false := by decide +kernel
    rw [this, Bool.and_false]
  have hb := PySem.F.excAttr_ValueError.ga.bind (.ref x)
  unfold getAttr getAttrBy
  refine wpAny_bind (wpAny_mkText (wpAny_holding (wpAny_bind (L0.at (wpAny_bind (L1.at ?_))))))
  dsimp only
  rw [hx1, if_neg (by decide)]
  unfold getAttrByItsOwn
  refine wpAny_bind (m := hookBefore (.ref C)) ?_
  show wpAny _ _ (typeLookup (.ref C) "__getattr__") _ _ _
  refine L2.at ?_
  refine wpAny_bind (wpAny_attempt (wpAny_holding ?_))
  have e0 : (expr && onTheHeap (Value.builtin "BaseException.__getattribute__")) = false := by cases expr <;> rfl
  unfold callGetattribute
  rw [e0, if_neg (by decide)]
  unfold boundAndCalled
  rw [hb]
  refine wpAny_bind (wpAny_pure ?_)
  refine wpAny_call (codeAny_call_builtin PySem.F.excAttr_ValueError.ga.plain PySem.F.entry_bexc_ga (@PySem.W.check_slot (model prog w) _ _ _ "BaseException.__getattribute__" "BaseException" "__getattribute__" (.ref x) _ [] _ (by decide +kernel) (by decide +kernel) LB (PySem.F.args_bexc_ga _ _) ?_))
  unfold Builtin.«object.__getattribute__»
  refine wpAny_bind (wpAny_pure (wpAny_bind (wpAny_pure (wpAny_bind (L0.at (wpAny_bind (L3.at ?_)))))))
  refine wpAny_pure ?_
  show wpAny _ _ (handedOut v) _ _ _
  rw [PySem.W.handedOut_of hh]; exact wpAny_pure h
/-- its __class__ -/
theorem xget_class {Q : Option Value → Shared → Prop} (X : K.In s.heap) (I : PySem.W.InstAt s.heap x ox C od) (c : XCls K C) (h : Q (some (.ref C)) { s with toks := s.toks + 1 }) :
    wpAny (model prog w) A (getAttr? (.ref x) "__class__") Q E s := by
  obtain ⟨cd, hcd, _⟩ := c.mro
  have hf : PySem.W.findObj K C od "__class__" = some (.bind (.builtin "getset_descriptor.__get__") (.builtin "object.__class__")) := by
    unfold PySem.W.findObj
    rw [hcd, Option.bind_some, c.cl, Option.bind_some]
    dsimp only
    rw [c.clg, Option.bind_some]
    dsimp only
    rw [c.clt, Option.bind_some]
  obtain ⟨hp, g, d, t, os⟩ := s
  have L0 := I.type (M := model prog w)
  have L1 := PySem.W.looks_findIn (M := model prog w) X c.ga
  have L2 := PySem.W.looks_findIn (M := model prog w) X c.gh
  have L3 := PySem.W.looks_find (M := model prog w) X I hf
  have LB : PySem.W.Looks (model prog w) hp (isInstance (.ref x) (.type "BaseException")) true := L0.andThen (PySem.W.looks_mroIn X (c.has (by decide)))
  have hx1 : (onTheHeap (Value.ref C) && Value.builtin "BaseException.__getattribute__" == Value.builtin "object.__getattribute__") = false := by
    have : (Value.builtin "BaseException.__getattribute__" == Value.builtin "object.__getattribute__") = false := by decide +kernel
    rw [this, Bool.and_false]
  have hb := PySem.F.excAttr_ValueError.ga.bind (.ref x)
  unfold getAttr? getAttrBy? getAttrBy
  refine wpAny_bind (wpAny_mkText (wpAny_bind (wpAny_attempt (wpAny_holding (wpAny_bind (L0.at (wpAny_bind (L1.at ?_))))))))
  dsimp only
  rw [hx1, if_neg (by decide)]
  unfold getAttrByItsOwn
  refine wpAny_bind (m := hookBefore (.ref C)) ?_
  show wpAny _ _ (typeLookup (.ref C) "__getattr__") _ _ _
  refine L2.at ?_
  refine wpAny_bind (wpAny_attempt (wpAny_holding ?_))
  unfold callGetattribute
  rw [if_neg (by decide)]
  unfold boundAndCalled
  rw [hb]
  refine wpAny_bind (wpAny_pure ?_)
  refine wpAny_call (codeAny_call_builtin PySem.F.excAttr_ValueError.ga.plain PySem.F.entry_bexc_ga (@PySem.W.check_slot (model prog w) _ _ _ "BaseException.__getattribute__" "BaseException" "__getattribute__" (.ref x) _ [] _ (by decide +kernel) (by decide +kernel) LB (PySem.F.args_bexc_ga _ _) ?_))
  unfold Builtin.«object.__getattribute__»
  refine wpAny_bind (wpAny_pure (wpAny_bind (wpAny_pure (wpAny_bind (L0.at (wpAny_bind (L3.at ?_)))))))
  show wpAny _ _ (Builtin.ObjectAttr.bindTo _ _ _ _) _ _ _
  unfold Builtin.ObjectAttr.bindTo
  refine wpAny_bind (wpAny_holding (wpAny_call (PySem.W.class_get (s := ⟨hp, g, d, t + 1, os⟩) X I (c.has (by decide)) ?_)))
  refine wpAny_pure ?_
  show wpAny _ _ (handedOut (.ref C)) _ _ _
  rw [PySem.W.handedOut_of rfl]
  exact wpAny_pure (wpAny_pure h)
theorem kitx_exc (c : XCls K C) {h₁ : Heap → Prop} (hI : ∀ h, h₁ h → ∃ ox od, PySem.W.InstAt h x ox C od) : PySem.W.KitX K (.ref x) (.ref C) h₁ where
  ty := fun _ _ _ I => let ⟨_, _, J⟩ := hI _ I; J.type
  it := fun _ _ X _ => by
    obtain ⟨cdD, hcD, _⟩ := c.mro
    unfold PySem.W.clsIn at hcD
    split at hcD
    · rename_i c' d' cd' sl' ho
      intro A' Q' E' s' k q
      unfold isType loadHead
      exact wpAny_bind (wpAny_loadPart (k _ _ (X _ _ ho)) (wpAny_pure q))
    · cases hcD
  ne := fun h tp dd its n sl X htp => by
    obtain ⟨cdD, hcD, _⟩ := c.mro
    refine Bool.eq_false_iff.mpr fun q => ?_
    have e : C = tp := Value.ref.inj (beq_iff_eq.mp q)
    subst e
    unfold PySem.W.clsIn at hcD
    split at hcD
    · rename_i c' d' cd' sl' ho
      have z := (X _ _ ho).symm.trans htp
      cases z
    · cases hcD
  ca := fun X p k => let ⟨_, _, J⟩ := hI _ p; xget_class X J c k
end
end L2
namespace L2
open PySem PySem.Spec PyProof.Rows
section
variable {prog : Program} {w : World} {A : Around} {E : Value → Shared → Prop} {s : Shared} {K : PySem.W.Frag} {x C : Addr} {ox : Obj} {od : Option Obj} {name : Str} {v : Value}
/-- object.__setattr__ of an exception, up to its own dict -/
theorem xset_open {Q : Unit → Shared → Prop} (X : K.In s.heap) (I : PySem.W.InstAt s.heap x ox C od) (c : XCls K C) (n : NoAttr K C name)
    (h : ∀ b, wpAny (model prog w) A.in1 (Builtin.ObjectAttr.storeInOwnDict (.ref x) (.ref C) (.str name s.toks) name v b)
      (fun fin s' => match fin with | .done (.ret _) => Q () s' | _ => False) (fun e s' => E e s') { s with toks := s.toks + 1 }) :
    wpAny (model prog w) A (setAttr (.ref x) name v) Q E s := by
  obtain ⟨hp, g, d, t, os⟩ := s
  have SF := PySem.F.store_ValueError
  obtain ⟨cd, hc, ho, _⟩ := c.mro
  refine PySem.W.set_plain X I c.sa ?_
  have sub : PySem.W.Looks (model prog w) hp (isInstance (.ref x) (.type "object")) true := I.type.andThen (PySem.W.looks_mroIn X (c.has (by decide)))
  refine codeAny_call_builtin SF.slot.plain SF.entry (@PySem.W.check_slot (model prog w) _ _ _ "object.__setattr__" "object" "__setattr__" (.ref x) [.str name t, v] [] _ SF.kind SF.split sub (SF.args (.ref x) (.str name t) v) ?_)
  have hm : PySem.W.Looks (model prog w) hp (mroOf (.ref C)) cd.mro := (PySem.W.looks_clsIn X hc).andThen .now
  have LN := PySem.W.looks_findIn (M := model prog w) X (show PySem.W.findIn K (.ref C) name = some none from n)
  rw [PySem.W.osa_eq, refuse_eq]
  refine wpAny_bind (wpAny_bind (I.type.at (wpAny_bind (hm.at ?_))))
  rw [refuse_exc _ ho]
  refine wpAny_pure (wpAny_bind (I.type.at (wpAny_bind (LN.at (wpAny_bind (wpAny_pure ?_))))))
  refine wpAny_mono (h false) (fun fin s' z => ?_) fun _ _ z => z
  rcases fin with (_ | _ | _ | _) | _ <;> first | exact z | exact z.elim
/-- the first attribute: the dict is made -/
theorem xset_first {vs : Array Value} {sl : Array (Option Value)} {Q : Unit → Shared → Prop} (X : K.In s.heap) (hx : s.heap.get? x = some ⟨.ref C, none, .fields vs, sl⟩) (c : XCls K C) (n : NoAttr K C name)
    (h : ∀ h' tk', h'.get? x = some ⟨.ref C, some s.heap.objs.size, .fields vs, sl⟩ → h'.Ns1 s.heap.objs.size (fun y => if y = name then some v else none) → (∀ b o, b ≠ x → s.heap.get? b = some o → h'.get? b = some o) →
      Q () { s with heap := h', toks := tk' }) :
    wpAny (model prog w) A (setAttr (.ref x) name v) Q E s := by
  have I : PySem.W.InstAt s.heap x ⟨.ref C, none, .fields vs, sl⟩ C none := ⟨hx, rfl, rfl, trivial⟩
  refine xset_open X I c n fun b => ?_
  obtain ⟨hp, g, d, t, os⟩ := s
  obtain ⟨cd, hc, ho, hd⟩ := c.mro
  have LC := PySem.W.looks_clsIn (M := model prog w) X hc
  unfold Builtin.ObjectAttr.storeInOwnDict
  refine wpAny_bind (wpAny_pure ?_)
  refine wpAny_bind (m := Builtin.ObjectAttr.ownDictForStores _) ?_
  show wpAny _ _ (instanceDict x true) _ _ _
  unfold instanceDict
  refine wpAny_bind (wpAny_loadPart hx ?_)
  dsimp only
  refine wpAny_bind (LC.at ?_)
  rw [hd]
  have hx1 : (hp.push { cls := .type "dict", data := .dict #[] }).get? x = some ⟨.ref C, none, .fields vs, sl⟩ := Heap.get?_push_of_some _ hx
  have hxs : x ≠ hp.objs.size := Nat.ne_of_lt (Heap.lt_size hx)
  show wpAny _ _ (do let dd ← alloc { cls := .type "dict", data := .dict #[] }; update x (fun o => { o with dict := some dd }); dictMade (.ref C) x dd) _ _ _
  refine wpAny_bind (wpAny_alloc' ?_)
  refine wpAny_bind (wpAny_update' hx1 ?_)
  refine wpAny_pure ?_
  have hgd : ((hp.push { cls := .type "dict", data := .dict #[] }).update x fun o => { o with dict := some hp.objs.size }).get? hp.objs.size = some { cls := .type "dict", data := .dict #[] } :=
    (Heap.get?_update_ne _ _ _ _ hxs.symm).trans (Heap.get?_push_at rfl rfl)
  have hnd : ((hp.push { cls := .type "dict", data := .dict #[] }).update x fun o => { o with dict := some hp.objs.size }).Ns hp.objs.size (fun _ => none) := ⟨_, #[], _, hgd, rfl, fun e he => absurd he (by simp), fun _ => rfl⟩
  show wpAny _ _ (Builtin.ObjectAttr.storeInDict hp.objs.size (.str name t) name v) _ _ _
  unfold Builtin.ObjectAttr.storeInDict Builtin.ObjectAttr.newKeyGuard
  refine wpAny_bind (wpAny_pure (wpAny_bind (wpAny_nsSet1 (Heap.Ns1.of_empty hnd) fun h' hn' hs => ?_)))
  obtain ⟨oD, esD, epD, hoD, hdD, hcD⟩ := hn'.count (Within.cons name v Within.nil)
  refine wpAny_bind (wpAny_lookBehind hoD (by rw [hdD]; exact pastItsLine_dict (Nat.le_trans hcD (by rw [List.length_cons, List.length_nil, sizeLine_eq]; omega))) ?_)
  refine wpAny_pure (h h' _ ?_ hn' fun b o hb e => ?_)
  · exact (hs.2 x hxs).trans (Heap.get?_update_self _ hx1 rfl)
  · exact (hs.2 b (Nat.ne_of_lt (Heap.lt_size e))).trans ((Heap.get?_update_ne _ _ _ _ hb).trans (Heap.get?_push_of_some _ e))
/-- a further one -/
theorem xset_more {dx : Addr} {vs : Array Value} {sl : Array (Option Value)} {mA : Str → Option Value} {ns : List Str} {Q : Unit → Shared → Prop} (X : K.In s.heap) (hx : s.heap.get? x = some ⟨.ref C, some dx, .fields vs, sl⟩) (hn : s.heap.Ns1 dx mA) (c : XCls K C) (n : NoAttr K C name)
    (hw : PySem.Within mA ns) (hsz : ns.length ≤ sizeLine)
    (h : ∀ h' tk', h'.Ns1 dx (fun y => if y = name then some v else mA y) → Heap.SameBut dx s.heap h' → Q () { s with heap := h', toks := tk' }) :
    wpAny (model prog w) A (setAttr (.ref x) name v) Q E s := by
  obtain ⟨od, hod, _⟩ := lookIn_ns hn
  have I : PySem.W.InstAt s.heap x ⟨.ref C, some dx, .fields vs, sl⟩ C (some od) := ⟨hx, rfl, rfl, hod⟩
  refine xset_open X I c n fun b => ?_
  obtain ⟨hp, g, d, t, os⟩ := s
  obtain ⟨cd, hc, ho, hd⟩ := c.mro
  have LC := PySem.W.looks_clsIn (M := model prog w) X hc
  unfold Builtin.ObjectAttr.storeInOwnDict
  refine wpAny_bind (wpAny_pure ?_)
  refine wpAny_bind (m := Builtin.ObjectAttr.ownDictForStores _) ?_
  show wpAny _ _ (instanceDict x true) _ _ _
  unfold instanceDict
  refine wpAny_bind (wpAny_loadPart hx ?_)
  dsimp only
  refine wpAny_bind (LC.at ?_)
  rw [hd]
  refine wpAny_pure (a := some dx) ?_
  show wpAny _ _ (Builtin.ObjectAttr.storeInDict dx (.str name t) name v) _ _ _
  unfold Builtin.ObjectAttr.storeInDict Builtin.ObjectAttr.newKeyGuard
  refine wpAny_bind (wpAny_pure (wpAny_bind (wpAny_nsSet1 hn fun h' hn' hs => ?_)))
  obtain ⟨oD, esD, epD, hoD, hdD, hcD⟩ := hn'.count (Within.cons name v hw)
  refine wpAny_bind (wpAny_lookBehind hoD (by rw [hdD]; exact pastItsLine_dict (Nat.le_trans hcD (by rw [List.length_cons]; omega))) ?_)
  exact wpAny_pure (h h' _ hn' hs)
end
end L2
namespace L2
open PySem PySem.Spec PyProof.Rows
/-! ### an exception is made -/
abbrev excNew (C t : Addr) : Obj := { cls := .ref C, data := .fields #[.ref t, .none, .none, .none, .bool false, .none] }
abbrev tupNew (rest : List Value) : Obj := { cls := .type "tuple", data := .seq rest.toArray }
theorem own_has {C : Addr} {bm : List Value} (hb : excMro bm = true) {T : String} (hT : veTail.contains (.type T) = true) : (Value.ref C :: bm).contains (.type T) = true := by
  rw [List.contains_cons, excMro_has hT hb, Bool.or_true]
theorem own_not {C : Addr} {bm : List Value} (hb : excMro bm = true) {T : String} (hT : veTail.contains (.type T) = false) : (Value.ref C :: bm).contains (.type T) = false := by
  obtain ⟨rs, rfl⟩ := excMro_at hb
  rw [List.contains_cons, List.contains_eq_mem, decide_eq_false, Bool.or_false]
  · rfl
  · intro hm
    rcases List.mem_append.mp hm with h | h
    · obtain ⟨a, _, e⟩ := List.mem_map.mp h
      cases e
    · rw [List.contains_eq_mem] at hT
      exact (of_decide_eq_false hT) h
section
variable {prog : Program} {w : World} {A : Around} {E : Value → Shared → Prop} {h : Heap} {g : Array GenState} {d : Drawn} {t : Nat} {os : OsState} {K : PySem.W.Frag} {C f : Addr}
variable {nm q : Str} {N : Addr} {bs bm : List Value} {sn : List Str} {sub : List Value} {ab : Bool} {col : Option Bool} {dd : Option Addr} {k0 k1 k2 k3 k5 : Option Value}
theorem xcheck_new {M : Model} {rest : List Value} {Q : Unit → Shared → Prop} (hb : excMro bm = true) (hC : h.get? C = some (excClassObj nm q C N bs bm true sn sub ab col dd k0 k1 k2 k3 k5 "ValueError.__new__")) (hq : Q () ⟨h, g, d, t, os⟩) :
    wpAny M A (checkBuiltinCall "ValueError.__new__" ⟨.ref C :: rest, []⟩) Q E ⟨h, g, d, t, os⟩ := by
  have F := PySem.F.excBase_ValueError
  have hcont := own_has (C := C) hb (T := "ValueError") (by decide)
  have hstar := F.noStar
  simp only [checkBuiltinCall, F.newKind, F.newSplit, F.newRow]
  repeat (first
    | refine wpAny_loadPart_at hC ?_
    | (refine wpAny_isSubtype_exc hC ?_; rw [hcont])
    | refine wpAny_staticBase_exc hC ?_
    | refine wpAny_madeBy_exc hC ?_
    | simp only [bne_self_eq_false, Bool.false_eq_true, if_false]
    | wp_step)
  exact hq
theorem xcode_new {R : Result → Shared → Prop} {rest : List Value} (hb : excMro bm = true) (hC : h.get? C = some (excClassObj nm q C N bs bm true sn sub ab col dd k0 k1 k2 k3 k5 "ValueError.__new__")) (hrest : rest.length ≤ sizeLine)
    (hq : R (.ok (.ret (.ref (h.objs.size + 1)))) ⟨(h.push (tupNew rest)).push (excNew C h.objs.size), g, d, t, os⟩) :
    codeAny (model prog w) A (.builtin "ValueError.__new__" ⟨.ref C :: rest, []⟩) R ⟨h, g, d, t, os⟩ := by
  have F := PySem.F.excBase_ValueError
  have hends := F.ends
  have hcB := own_has (C := C) hb (T := "ValueError") (by decide)
  have hcA := own_not (C := C) hb (T := "AttributeError") (by decide)
  have hcN := own_not (C := C) hb (T := "NameError") (by decide)
  refine codeAny_builtinAt F.entry ?_
  unfold Builtin.«BaseException.__new__»
  refine PySem.wpAt_bind ?_
  show PySem.wpAt _ _ _ (stack >>= _) _ _ _
  refine PySem.wpAt_bind (PySem.wpAt_stack fun p below => PySem.wpAt_of_wpAny ?_)
  wp_walk
  refine PySem.wpAt_of_wpAny ?_
  rw [F.owner]
  repeat (first
    | with_reducible refine wpAny_madeHere_exc F.canon hC ?_
    | with_reducible refine wpAny_loadPart_at hC ?_
    | (with_reducible refine wpAny_isSubtype_exc hC ?_; first | rw [hcB] | rw [hcA] | rw [hcN])
    | wp_step)
  show R _ _
  rw [Heap.size_push]
  exact hq
theorem xkeeps {rest : List Value} : ∀ b o, h.get? b = some o → ((h.push (tupNew rest)).push (excNew C h.objs.size)).get? b = some o := fun b o e => Heap.get?_push_of_some _ (Heap.get?_push_of_some _ e)
theorem xnew_at {rest : List Value} : ((h.push (tupNew rest)).push (excNew C h.objs.size)).get? (h.objs.size + 1) = some (excNew C h.objs.size) := by
  have := Heap.get?_push_size (h.push (tupNew rest)) (o := excNew C h.objs.size) rfl
  rwa [Heap.size_push] at this
theorem xtype_call {rest : List Value} {Q : Fin → Shared → Prop} (hb : excMro bm = true) (hC : h.get? C = some (excClassObj nm q C N bs bm true sn sub ab col dd k0 k1 k2 k3 k5 "ValueError.__new__")) (hrest : rest.length ≤ sizeLine) (X : K.In h)
    (hi : PySem.W.findIn K (.ref C) "__init__" = some (some (.ref f))) (hf : PySem.W.typeIn K (.ref f) = some (.type "function"))
    (hq : wpAny (model prog w) A (call (.ref f) (.ref (h.objs.size + 1) :: rest)) (fun r s' => r = .none ∧ Q (.done (.ret (.ref (h.objs.size + 1)))) s') E ⟨(h.push (tupNew rest)).push (excNew C h.objs.size), g, d, t, os⟩) :
    wpAny (model prog w) A (Builtin.«type.__call__» ⟨.ref C :: rest, []⟩) Q E ⟨h, g, d, t, os⟩ := by
  have F := PySem.F.excBase_ValueError
  repeat (first | with_reducible refine wpAny_loadPart_at hC ?_ | with_reducible refine wpAny_madeBy_exc hC ?_ | wp_step)
  refine codeAny_call_builtin_code (Code.quiet_builtin _ F.quiet) (xcheck_new hb hC ?_)
  refine xcode_new hb hC hrest ?_
  show wpAny _ _ _ _ _ _
  have X1 : K.In ((h.push (tupNew rest)).push (excNew C h.objs.size)) := X.keeps xkeeps
  have hC1 := xkeeps (C := C) (rest := rest) _ _ hC
  have hcC : (Value.ref C :: bm).contains (.ref C) = true := by simp
  have L1 := PySem.W.looks_findIn (M := model prog w) X1 hi
  have L2 := PySem.W.bind_fn (M := model prog w) X1 (.ref (h.objs.size + 1)) hf
  unfold isInstance
  repeat (first | with_reducible refine wpAny_loadPart_at xnew_at ?_ | (with_reducible refine wpAny_isSubtype_exc hC1 ?_; rw [hcC]) | wp_step)
  show wpAny _ _ (typeLookup (.ref C) _) _ _ _
  refine L1.at ?_
  refine wpAny_holding (wpAny_bind (L2.at ?_))
  refine wpAny_bind (wpAny_mono hq (fun r s' hr => ?_) fun _ _ x => x)
  obtain ⟨rfl, hQ⟩ := hr
  wp_walk
  exact hQ
theorem xcall_init {rest : List Value} {Q : Value → Shared → Prop} (X : K.In h) (c : XCls K C) (hrest : rest.length ≤ sizeLine)
    (hi : PySem.W.findIn K (.ref C) "__init__" = some (some (.ref f))) (hf : PySem.W.typeIn K (.ref f) = some (.type "function"))
    (hq : wpAny (model prog w) (A.under (.builtin "type.__call__" ⟨.ref C :: rest, []⟩)) (call (.ref f) (.ref (h.objs.size + 1) :: rest)) (fun r s' => r = .none ∧ Q (.ref (h.objs.size + 1)) s') E ⟨(h.push (tupNew rest)).push (excNew C h.objs.size), g, d, t, os⟩) :
    wpAny (model prog w) A (call (.ref C) rest) Q E ⟨h, g, d, t, os⟩ := by
  obtain ⟨nm, qn, N, bs, bm, sn, sub, ab, col, dd, k0, k1, k2, k3, k5, hC, hb⟩ := (c.at X).ex
  have f1 := tc_lookup
  have f2 := tc_bind (.ref C)
  have hT : (⟨h, g, d, t, os⟩ : Shared).TypeIs (.ref C) "type" := ⟨_, hC, rfl⟩
  refine wpAny_call (codeAny_of_tree ?_)
  show wpAny _ _ (callAny (.ref C) _) _ _ _
  repeat (any_goals (first | assumption | with_reducible refine wpAny_loadPart_at hC ?_ | wp_step))
  refine ⟨rfl, ?_⟩
  exact codeAny_call_builtin_at (Code.quiet_builtin _ (by decide +kernel)) entry_typeCall (wpAny_check_type_call_sub hC (xtype_call hb hC hrest X hi hf hq))
end
end L2
namespace L2
open PySem PySem.Spec PyProof.Rows
/-! ### exceptions on the abstract heap: the object (raw: it has never flown), and its dict -/
def IsExc (raw : Bool) (e C : Addr) (od : Option Addr) (h : Heap) : Prop := ∃ vs sl, h.get? e = some ⟨.ref C, od, .fields vs, sl⟩ ∧ vs.size = 6 ∧ (raw = true → vs[1]? = some .none)
def IsXd (dx : Addr) (fs : List (Str × V)) (h : Heap) : Prop := ∃ mA, h.Ns1 dx mA ∧ (∀ f, RelO (fs.lookup f) (mA f)) ∧ PySem.Within mA (fs.map (·.1))
abbrev exO (raw : Bool) (e C : Addr) (od : Option Addr) : HO := .ext (IsExc raw e C od)
abbrev xdO (dx : Addr) (fs : List (Str × V)) : HO := .ext (IsXd dx fs)
/-- an exception of class C with the attributes fs -/
def ExcAt (H : Hp) (e C : Addr) (fs : List (Str × V)) : Prop := ∃ raw od, H e = some (exO raw e C od) ∧ match od with
  | none => fs = []
  | some dx => H dx = some (xdO dx fs) ∧ dx ≠ e
section
variable {P : Program} {w : World} {H : Hp} {h : Heap} {e C dx : Addr} {od : Option Addr} {raw : Bool} {fs : List (Str × V)}
theorem objOk_exc (x : IsExc raw e C od h) : ObjOk P w H h e (exO raw e C od) := by
  refine ⟨x, ?_, ?_⟩
  · obtain ⟨vs, sl, q, _⟩ := x
    exact ⟨_, q⟩
  · rintro h1 h2 ⟨vs, sl, q, r⟩ k
    exact ⟨vs, sl, k _ q, r⟩
theorem objOk_xd (x : IsXd dx fs h) : ObjOk P w H h dx (xdO dx fs) := by
  refine ⟨x, ?_, ?_⟩
  · obtain ⟨mA, ⟨o, es, ep, q, _⟩, _⟩ := x
    exact ⟨o, q⟩
  · rintro h1 h2 ⟨mA, ⟨o, es, ep, q, r⟩, z⟩ k
    exact ⟨mA, ⟨o, es, ep, k _ q, r⟩, z⟩
theorem exc_of (x : HOk P w H h) (q : H e = some (exO raw e C od)) : IsExc raw e C od h := (x e _ q).1
theorem xd_of (x : HOk P w H h) (q : H dx = some (xdO dx fs)) : IsXd dx fs h := (x dx _ q).1
end
section
variable {X : Cx} {pins : List (Addr × Obj)} {σ : St} {H : Hp} {s : Shared} {a C dx : Addr} {od : Option Addr} {raw : Bool} {fs : List (Str × V)} {f : Str} {v : V} {A : Around} {E : Value → Shared → Prop}
theorem ExcAt.inst (I : Inv X pins σ H s) (e : ExcAt H a C fs) : ∃ ox od, PySem.W.InstAt s.heap a ox C od ∧ ∀ f v, fs.lookup f = some v → ∃ o u, od = some o ∧ PySem.W.lookIn f o = some (some u) ∧ RelV v u := by
  obtain ⟨raw, od, h1, h2⟩ := e
  obtain ⟨vs, sl, q, _⟩ := exc_of I.hok h1
  cases od with
  | none =>
    subst h2
    exact ⟨_, none, ⟨q, rfl, rfl, trivial⟩, fun f v h => by simp at h⟩
  | some dx =>
    obtain ⟨mA, n, r, _⟩ := xd_of I.hok h2.1
    obtain ⟨o, ho, hl⟩ := lookIn_ns n
    refine ⟨_, some o, ⟨q, rfl, rfl, ho⟩, fun f v h => ?_⟩
    obtain ⟨u, hu, ru⟩ := RelO.some_of (v := v) (o := mA f) (by rw [← h]; exact r f)
    exact ⟨o, u, rfl, by rw [hl, hu], ru⟩
theorem xgetattr_ok {b : Bool} {Q : Value → Shared → Prop} (I : Inv X pins σ H s) (e : ExcAt H a C fs) (c : XCls X.K C) (n : NoAttr X.K C f) (l : fs.lookup f = some v)
    (h : ∀ u s', Inv X pins σ H s' → RelV v u → Q u s') : wpAny (model X.prog X.w) A (getAttr (.ref a) f b) Q E s := by
  obtain ⟨ox, od, J, hl⟩ := e.inst I
  obtain ⟨o, u, rfl, lk, ru⟩ := hl f v l
  obtain ⟨cd, hc, _, hd⟩ := c.mro
  exact xget_value I.kIn J c (PySem.W.findObj_own (by unfold PySem.W.hasDictIn; rw [hc]; exact hd) n rfl lk) (handed_of ru) (h u _ (I.tok _) ru)
theorem xsetattr_first {y : V} {u : Value} {Q : Unit → Shared → Prop} (I : Inv X pins σ H s) (e : H a = some (exO raw a C none)) (c : XCls X.K C) (n : NoAttr X.K C f) (ry : RelV y u)
    (h : ∀ dx s', H dx = none → Inv X pins σ (upd (upd H dx (xdO dx [(f, y)])) a (exO raw a C (some dx))) s' → Q () s') : wpAny (model X.prog X.w) A (setAttr (.ref a) f u) Q E s := by
  obtain ⟨vs, sl, q, hv⟩ := exc_of I.hok e
  refine xset_first I.kIn q c n fun h' tk' h1 h2 h3 => ?_
  have hn : H s.heap.objs.size = none := I.hok.fresh (Nat.le_refl _)
  have hna : a ≠ s.heap.objs.size := Nat.ne_of_lt (Heap.lt_size q)
  refine h s.heap.objs.size _ hn ?_
  -- the dict is laid, then the object written
  have hd2 : IsXd s.heap.objs.size [(f, y)] h' := by
    refine ⟨_, h2, fun g => ?_, fun g hg => ?_⟩
    · show RelO (List.lookup g [(f, y)]) (if g = f then some u else none)
      rw [List.lookup_cons]
      by_cases z : g = f
      · subst z; rw [if_pos rfl]; simp; exact ry
      · rw [if_neg z, show (g == f) = false by simpa using z]; exact True.intro
    · by_cases z : g = f
      · subst z; simp
      · exact absurd (if_neg z) hg
  have hE : IsExc raw a C (some s.heap.objs.size) h' := ⟨vs, sl, h1, hv⟩
  have hu : Un X.fs [] H (upd (upd H s.heap.objs.size (xdO s.heap.objs.size [(f, y)])) a (exO raw a C (some s.heap.objs.size))) s.heap h' := by
    have nn : ∀ b o, s.heap.get? b = some o → b ≠ s.heap.objs.size := fun b o e => Nat.ne_of_lt (Heap.lt_size e)
    refine ⟨fun b o e' n' _ _ => h3 b o (fun z => by rw [z, e] at n'; cases n') e', fun b o e' n' _ _ => ⟨o.slots, h3 b o (fun z => by rw [z, e] at n'; cases n') e'⟩, fun b o e' n' _ => ?_, fun b o e' _ => ?_, fun b xs e' => ?_, fun b o u' e' => ?_, fun b ps e' => ⟨#[], ?_⟩⟩
    · rw [upd_ne (fun z => by rw [z, e] at n'; cases n'), upd_ne (nn b o e')]; exact n'
    · by_cases z : b = a
      · subst z; exact ⟨_, h1⟩
      · exact ⟨o, h3 b o z e'⟩
    · rw [upd_ne (fun z => by rw [z, e] at e'; cases e'), upd_ne (ne_of_none e' hn)]; exact e'
    · rw [upd_ne (fun z => by rw [z, e] at e'; cases e'), upd_ne (ne_of_none e' hn)]; exact e'
    · rw [upd_ne (fun z => by rw [z, e] at e'; cases e'), upd_ne (ne_of_none e' hn), e']; simp
  refine I.un hu fun b o e' => ?_
  by_cases z : b = a
  · subst z; rw [upd_same] at e'; cases e'; exact objOk_exc hE
  · rw [upd_ne z] at e'
    by_cases z2 : b = s.heap.objs.size
    · subst z2; rw [upd_same] at e'; cases e'; exact objOk_xd hd2
    · rw [upd_ne z2] at e'
      refine (I.hok b o e').stay (fun c' v' hc q' => h3 c' v' ?_ q') (fun c' q' => ?_) fun c' xs q' => ?_
      · rcases hc with hc | hc
        · rw [hc]; exact z
        · intro z3; rw [z3, e] at hc; cases hc
      · rw [upd_ne (fun z3 => by rw [z3, e] at q'; cases q'), upd_ne (ne_of_none q' hn)]; exact q'
      · rw [upd_ne (fun z3 => by rw [z3, e] at q'; cases q'), upd_ne (ne_of_none q' hn)]; exact q'
theorem xsetattr_more {y : V} {u : Value} {Q : Unit → Shared → Prop} (I : Inv X pins σ H s) (e : H a = some (exO raw a C (some dx))) (ed : H dx = some (xdO dx fs)) (c : XCls X.K C) (n : NoAttr X.K C f) (hl : fs.length < 1000) (ry : RelV y u)
    (h : ∀ s', Inv X pins σ (upd H dx (xdO dx (putF f y fs))) s' → Q () s') : wpAny (model X.prog X.w) A (setAttr (.ref a) f u) Q E s := by
  obtain ⟨vs, sl, q, hv⟩ := exc_of I.hok e
  obtain ⟨mA, hn, r, wi⟩ := xd_of I.hok ed
  have hz : (fs.map (·.1)).length ≤ sizeLine := by rw [List.length_map, sizeLine_eq]; omega
  refine xset_more I.kIn q hn c n wi hz fun h' tk' h1 sb => h _ ?_
  refine I.write (x := dx) (e := dx) (by rw [ed]; exact True.intro) (.inl rfl) (fun b o hb z => (sb.2 b hb).trans z) (let ⟨o, _, _, e', _⟩ := h1; ⟨o, e'⟩) (objOk_xd ⟨_, h1, fun g => ?_, fun g hg => ?_⟩)
  · show RelO ((putF f y fs).lookup g) (if g = f then some u else mA g)
    rw [lookup_putF]
    by_cases q : g = f
    · rw [if_pos q, if_pos q]; exact ry
    · rw [if_neg q, if_neg q]; exact r g
  · by_cases q : g = f
    · rw [q]; exact (keys_putF f y fs).1
    · refine (keys_putF f y fs).2 g (wi g fun z => hg ?_)
      show (if g = f then some u else mA g) = none
      rw [if_neg q]; exact z
end
/-! ### readings -/
def tXFld (K : PySem.W.Frag) (ta : TE) (f : Str) : TE := fun σ H Q => ta σ H fun x H1 => ∃ a C fs v, x = .ref a ∧ ExcAt H1 a C fs ∧ XCls K C ∧ NoAttr K C f ∧ fs.lookup f = some v ∧ Q v H1
def sXFld1 (K : PySem.W.Frag) (ta tv : TE) (f : Str) : TS := fun D σ H => tv σ H fun y H1 => ta σ H1 fun x H2 => ∃ a C raw, x = .ref a ∧ H2 a = some (exO raw a C none) ∧ XCls K C ∧ NoAttr K C f ∧
  ∀ dx, H2 dx = none → D.nx σ (upd (upd H2 dx (xdO dx [(f, y)])) a (exO raw a C (some dx)))
def sXFld2 (K : PySem.W.Frag) (ta tv : TE) (f : Str) : TS := fun D σ H => tv σ H fun y H1 => ta σ H1 fun x H2 => ∃ a C raw dx fs, x = .ref a ∧ H2 a = some (exO raw a C (some dx)) ∧ H2 dx = some (xdO dx fs) ∧ XCls K C ∧ NoAttr K C f ∧ fs.length < 1000 ∧
  D.nx σ (upd H2 dx (xdO dx (putF f y fs)))
section
variable {X : Cx} {o e value : Expr} {f : Str} {pos pos' : Pos} {ta tv : TE}
theorem pe_xfld (he : PE X e ta) (hb : attributeBase e f X.env (eval e X.env) = eval e X.env) : PE X (.Attribute e f pos) (tXFld X.K ta f) := by
  intro pins s σ H Q I h
  refine attr_of hb (thn (he pins s σ H _ I h) fun u s1 ⟨x, H1, I1, rx, a, C, fs, v, ex, ea, c, n, l, q⟩ => ?_)
  subst ex
  obtain rfl : u = Value.ref a := rx
  exact xgetattr_ok I1 ea c n l fun u' s2 I2 ru => ⟨v, H1, I2, ru, q⟩
theorem ps_xfld1 (ha : PE X o ta) (hv : PE X value tv) (hs : swapsWith value (some (.Attribute o f pos')) pos.line X.env = pure false) : PS X (.Assign [.Attribute o f pos'] value pos) (sXFld1 X.K ta tv f) := by
  intro pins s σ H D I h
  refine plainObj_wpAny_Assign_Attribute (thn (hv pins s σ H _ I h) fun u s1 ⟨y, H1, I1, ry, q⟩ => thn (ha pins s1 σ H1 _ I1 q) fun ov s2 ⟨x, H2, I2, rx, a, C, raw, ex, ea, c, n, q2⟩ => ?_) hs
  subst ex
  obtain rfl : ov = Value.ref a := rx
  exact xsetattr_first I2 ea c n ry fun dx s3 hdx I3 => ⟨σ, _, I3, q2 dx hdx⟩
theorem ps_xfld2 (ha : PE X o ta) (hv : PE X value tv) (hs : swapsWith value (some (.Attribute o f pos')) pos.line X.env = pure false) : PS X (.Assign [.Attribute o f pos'] value pos) (sXFld2 X.K ta tv f) := by
  intro pins s σ H D I h
  refine plainObj_wpAny_Assign_Attribute (thn (hv pins s σ H _ I h) fun u s1 ⟨y, H1, I1, ry, q⟩ => thn (ha pins s1 σ H1 _ I1 q) fun ov s2 ⟨x, H2, I2, rx, a, C, raw, dx, fs, ex, ea, ed, c, n, l, q2⟩ => ?_) hs
  subst ex
  obtain rfl : ov = Value.ref a := rx
  exact xsetattr_more I2 ea ed c n l ry fun s3 I3 => ⟨σ, _, I3, q2⟩
/-- isinstance(e, C) of an exception -/
theorem call_isinstX : CallR X (.builtin "isinstance") (fun xs H Q => ∃ a C fs c cv b, xs = [.ref a, c] ∧ clsV c = some cv ∧ ExcAt H a C fs ∧ XCls X.K C ∧ PySem.W.kitOne X.K (.ref C) cv = some b ∧ Q (.bl b) H) := by
  rintro pins s σ H xs us Q I r ⟨a, C, fs, c, cv, b, rfl, hc, ea, cl, e, q⟩
  obtain ⟨u, v, rfl, ru, rv⟩ := vals2 r
  have hv : v = cv := by
    cases c <;> simp [clsV] at hc <;> subst hc <;> exact rv
  subst hv
  cases (show u = Value.ref a from ru)
  exact PySem.W.kia_one (kitx_exc (h₁ := fun h => ∃ ox od, PySem.W.InstAt h a ox C od) cl fun _ z => z) I.kIn (let ⟨ox, od, J, _⟩ := ea.inst I; ⟨ox, od, J⟩) e (fun z => nomatch z) fun tk => ⟨.bl b, H, I.tok tk, rfl, q⟩
end
end L2
namespace L2
open PySem PySem.Spec PyProof.Rows
/-! ### an exception in flight -/
/-- the exception at e has the traceback T, whose mark is fl -/
def Fly (h : Heap) (e T : Addr) (fl : Value) : Prop := ∃ oe vs oT ts, h.get? e = some oe ∧ oe.data = .fields vs ∧ vs[1]? = some (.ref T) ∧ h.get? T = some oT ∧ oT.data = .fields ts ∧ ts[3]? = some fl ∧ T ≠ e
/-- what a note of a frame changes -/
structure Noted (fs ch : List Addr) (e T : Addr) (fl : Value) (h h' : Heap) : Prop where
  keep : ∀ b o, b ∉ fs → b ∉ ch → b ≠ e → h.get? b = some o → h'.get? b = some o
  slot : ∀ b o, b ∈ fs → b ∉ ch → b ≠ e → h.get? b = some o → ∃ sl, h'.get? b = some { o with slots := sl }
  new : h.objs.size ≤ T
  exc : ∀ oe vs, h.get? e = some oe → oe.data = .fields vs → h'.get? e = some (oe.mapFields (·.setIfInBounds 1 (.ref T)))
  fly : Fly h' e T fl
section
variable {M : Model} {A : Around} {E : Value → Shared → Prop} {s : Shared} {base : Heap} {env : Env} {outer : List Env} {L e : Addr} {oe : Obj} {vs : Array Value} {Q : Unit → Shared → Prop}
theorem entry_ok {head : Value} {b : Bool} (hfr : A.frames = some (env :: outer)) (hl : s.heap.FunFrames base (env :: outer)) (hf : env.frame = some L) (he : s.heap.get? e = some oe) (hd : oe.data = .fields vs) (hsz : 1 < vs.size)
    (h : ∀ h' T, Noted (frs (env :: outer)) [] e T (rawInt L) s.heap h' → Q () { s with heap := h' }) :
    wpAny M A (do let a ← frameOf env; let pl ← entryPlaceOf L b; let x ← EntryCells.newEntry head a .none (rawInt L) .none pl; setField (.ref e) 1 x) Q E s := by
  have hene : e ∉ frs (env :: outer) := fun hm => by
    obtain ⟨_, o, ho, hnf⟩ := hl.mem hm
    rw [he] at ho
    cases ho
    exact hnf vs hd
  refine wpAny_bind (wpAny_frameOf_fun hfr hl hf fun h1 hs => ?_)
  refine wpAny_bind (wpAny_entryPlaceOf fun pl hpl => ?_)
  unfold EntryCells.newEntry newFields
  refine wpAny_bind (wpAny_newObj_type ?_ (hpl.sizeOk5 _ _ _ _ _))
  have he1 : h1.get? e = some oe := (hs.2.1 e hene).trans he
  generalize hT : ({ cls := .type "traceback", dict := none, data := .fields ([head, .ref L, .none, rawInt L, .none] ++ (if pl.isEmpty then List.replicate 6 Value.none else pl)).toArray } : Obj) = oT
  have he2 := Heap.get?_push_of_some (h := h1) oT he1
  refine wpAny_setField he2 hd hsz (h _ h1.objs.size ?_)
  have hTe : h1.objs.size ≠ e := Nat.ne_of_gt (Heap.lt_size he1)
  have hd3 := Obj.data_mapFields hd (·.setIfInBounds 1 (Value.ref h1.objs.size))
  have he3 := Heap.get?_update_self (Obj.mapFields (·.setIfInBounds 1 (Value.ref h1.objs.size))) he2 (Obj.isFreed_of_fields hd3)
  have hT3 : ((h1.push oT).update e (Obj.mapFields (·.setIfInBounds 1 (Value.ref h1.objs.size)))).get? h1.objs.size = some oT :=
    (Heap.get?_update_other _ _ (Ne.symm hTe)).trans (Heap.get?_push_size h1 (by rw [← hT]; rfl))
  have keep : ∀ b o, b ≠ e → h1.get? b = some o → ((h1.push oT).update e (Obj.mapFields (·.setIfInBounds 1 (Value.ref h1.objs.size)))).get? b = some o := fun b o hb q => by
    rw [Heap.get?_update_other _ _ (Ne.symm hb)]
    exact Heap.get?_push_of_some _ q
  refine ⟨fun b o hb _ hbe q => keep b o hbe ((hs.2.1 b hb).trans q), fun b o hb _ hbe q => ?_, ?_, fun oe' vs' q' d' => ?_, ?_⟩
  · obtain ⟨sl, z⟩ := hs.2.2 b o q
    exact ⟨sl, keep b _ hbe z⟩
  · rw [hs.1]; exact Nat.le_refl _
  · rw [he] at q'; cases q'; exact he3
  · refine ⟨_, _, oT, _, he3, hd3, by simp [hsz], hT3, by rw [← hT], ?_, hTe⟩
    simp
theorem note_new (hfr : A.frames = some (env :: outer)) (hl : s.heap.FunFrames base (env :: outer)) (hf : env.frame = some L) (he : s.heap.get? e = some oe) (hd : oe.data = .fields vs) (h1 : vs[1]? = some .none)
    (h : ∀ h' T, Noted (frs (env :: outer)) [] e T (rawInt L) s.heap h' → Q () { s with heap := h' }) : wpAny M A (noteFrame (.ref e) env) Q E s := by
  unfold noteFrame
  simp only [hf]
  refine wpAny_bind (wpAny_field he hd h1 ?_)
  rw [if_neg (by decide)]
  exact entry_ok hfr hl hf he hd (Array.getElem?_eq_some_iff.mp h1).1 h
theorem note_next {T : Addr} (hfr : A.frames = some (env :: outer)) (hl : s.heap.FunFrames base (env :: outer)) (hf : env.frame = some L) (hF : Fly s.heap e T .none)
    (h : ∀ h' T', Noted (frs (env :: outer)) [T] e T' (rawInt L) s.heap h' → Q () { s with heap := h' }) : wpAny M A (noteFrame (.ref e) env) Q E s := by
  obtain ⟨oe, vs, oT, ts, he, hd, h1, hT, hdT, h3, hTe⟩ := hF
  unfold noteFrame
  simp only [hf]
  refine wpAny_bind (wpAny_field he hd h1 ?_)
  rw [if_pos (show (Value.ref T != Value.none) = true from by simp)]
  refine wpAny_bind (wpAny_field hT hdT h3 ?_)
  rw [if_neg (show ¬ ((Value.none == rawInt L) = true) from by simp [rawInt])]
  refine wpAny_bind (wpAny_setField hT hdT (Array.getElem?_eq_some_iff.mp h3).1 ?_)
  have other : ∀ b, b ≠ T → (s.heap.update T (Obj.mapFields (·.setIfInBounds 3 Value.none))).get? b = s.heap.get? b := fun b hb => Heap.get?_update_other _ _ (Ne.symm hb)
  have nrec : ∀ b o, s.heap.get? b = some o → (∀ vs, o.data ≠ .fields vs) → b ≠ T := fun b o hb hnf q => by
    rw [q, hT] at hb
    cases hb
    exact hnf ts hdT
  have sz : (s.heap.update T (Obj.mapFields (·.setIfInBounds 3 Value.none))).objs.size = s.heap.objs.size := Heap.size_after_update _ _ _
  refine entry_ok hfr (hl.of_keeps fun b o hb hnf => ⟨o, (other b (nrec b o hb hnf)).trans hb, rfl⟩) hf ((other e (Ne.symm hTe)).trans he) hd (Array.getElem?_eq_some_iff.mp h1).1 fun h' T' N => h h' T' ?_
  dsimp only at N
  refine ⟨fun b o hb hc hbe q => N.keep b o hb (by simp) hbe ((other b (by simpa using hc)).trans q), fun b o hb hc hbe q => N.slot b o hb (by simp) hbe ((other b (by simpa using hc)).trans q), ?_, fun oe' vs' q d => N.exc oe' vs' ((other e (Ne.symm hTe)).trans q) d, N.fly⟩
  rw [← sz]; exact N.new
theorem flight_none {T : Addr} {fl : Value} (hF : Fly s.heap e T fl) (h : ∀ h', (∀ b o, b ≠ T → s.heap.get? b = some o → h'.get? b = some o) → h'.objs.size = s.heap.objs.size → Fly h' e T .none → Q () { s with heap := h' }) : wpAny M A (setFlight (.ref e) none) Q E s := by
  obtain ⟨oe, vs, oT, ts, he, hd, h1, hT, hdT, h3, hTe⟩ := hF
  have hsz : 3 < ts.size := (Array.getElem?_eq_some_iff.mp h3).1
  have other : ∀ b, b ≠ T → (s.heap.update T (Obj.mapFields (·.setIfInBounds 3 ((none : Option Addr).elim Value.none fun f => rawInt f)))).get? b = s.heap.get? b := fun b hb => Heap.get?_update_other _ _ (Ne.symm hb)
  unfold setFlight
  refine wpAny_bind (wpAny_field he hd h1 ?_)
  rw [if_pos (show (Value.ref T != Value.none) = true from by simp)]
  refine wpAny_setField hT hdT hsz (h _ (fun b o hb q => (other b hb).trans q) (Heap.size_after_update _ _ _) ?_)
  exact ⟨oe, vs, _, _, (other e (Ne.symm hTe)).trans he, hd, h1, Heap.get?_update_self _ hT (Obj.isFreed_of_fields (Obj.data_mapFields hdT _)), Obj.data_mapFields hdT _, by simp [hsz], hTe⟩
/-- both: a frame is left -/
theorem Noted.landed {fs ch : List Addr} {T : Addr} {fl : Value} {h h1 h2 : Heap} (N : Noted fs ch e T fl h h1) (k : ∀ b o, b ≠ T → h1.get? b = some o → h2.get? b = some o) (F : Fly h2 e T .none) : Noted fs ch e T .none h h2 := by
  have nT : ∀ b o, h.get? b = some o → b ≠ T := fun b o q => Nat.ne_of_lt (Nat.lt_of_lt_of_le (Heap.lt_size q) N.new)
  refine ⟨fun b o hb hc hbe q => k b o (nT b o q) (N.keep b o hb hc hbe q), fun b o hb hc hbe q => ?_, N.new, fun oe vs q d => k e _ (nT e oe q) (N.exc oe vs q d), F⟩
  obtain ⟨sl, z⟩ := N.slot b o hb hc hbe q
  exact ⟨sl, k b _ (nT b o q) z⟩
theorem leave_new (hfr : A.frames = some (env :: outer)) (hl : s.heap.FunFrames base (env :: outer)) (hf : env.frame = some L) (he : s.heap.get? e = some oe) (hd : oe.data = .fields vs) (h1 : vs[1]? = some .none)
    (h : ∀ h' T, Noted (frs (env :: outer)) [] e T .none s.heap h' → Q () { s with heap := h' }) : wpAny M A (leaving env (.ref e)) Q E s := by
  unfold leaving
  exact wpAny_bind (note_new hfr hl hf he hd h1 fun h' T N => flight_none (s := { s with heap := h' }) N.fly fun h2 k _ F => h h2 T (N.landed k F))
theorem leave_next {T : Addr} (hfr : A.frames = some (env :: outer)) (hl : s.heap.FunFrames base (env :: outer)) (hf : env.frame = some L) (hF : Fly s.heap e T .none)
    (h : ∀ h' T', Noted (frs (env :: outer)) [T] e T' .none s.heap h' → Q () { s with heap := h' }) : wpAny M A (leaving env (.ref e)) Q E s := by
  unfold leaving
  exact wpAny_bind (note_next hfr hl hf hF fun h' T' N => flight_none (s := { s with heap := h' }) N.fly fun h2 k _ F => h h2 T' (N.landed k F))
end
end L2
namespace L2
open PySem PySem.Spec PyProof.Rows
section
variable {X : Cx} {pins : List (Addr × Obj)} {σ : St} {H : Hp} {s : Shared} {e C T : Addr} {od : Option Addr} {raw : Bool} {fl : Value} {h' : Heap} {ch : List Addr}
theorem upd_id {o : HO} (q : H e = some o) : upd H e o = H := by
  funext b
  unfold upd
  split
  · rename_i z; rw [z]; exact q.symm
  · rfl
/-- a frame is noted: what holds behind it -/
theorem Inv.noted (I : Inv X pins σ H s) (q : H e = some (exO raw e C od)) (N : Noted (frs X.stack) ch e T fl s.heap h') (hc : ∀ b ∈ ch, FpOk X pins H b) :
    Inv X pins σ (upd H e (exO false e C od)) { s with heap := h' } := by
  obtain ⟨vs, sl, g, hz, _⟩ := exc_of I.hok q
  have ne : ∀ b, H b = none → b ≠ e := fun b n z => by rw [z, q] at n; cases n
  have tfs : ∀ b o, H b = some o → b ∉ frs X.stack := fun b o z hm => by rw [I.stkFree b hm] at z; cases z
  have tch : ∀ b o, H b = some o → b ∉ ch := fun b o z hm => by rw [(hc b hm).1] at z; cases z
  have hE : IsExc false e C od h' := by
    have := N.exc _ vs g rfl
    refine ⟨vs.setIfInBounds 1 (.ref T), sl, this, by simpa using hz, fun z => by cases z⟩
  refine I.call' (s' := { s with heap := h' }) (ch := ch) rfl ⟨fun b o e' n hf hx => N.keep b o hf hx (ne b n) e', fun b o e' n hf hx => N.slot b o hf hx (ne b n) e', fun b o e' n hx => ?_, fun b o e' hx => ?_, fun b xs e' => ?_, fun b o u e' => ?_, fun b ps e' => ⟨#[], ?_⟩⟩ (fun b o e' => ?_) I.bare fun b hb => ⟨(hc b hb).2.2.2.1, (hc b hb).2.1, (hc b hb).2.2.2.2.1, (hc b hb).2.2.2.2.2⟩
  · rw [upd_ne (ne b n)]; exact n
  · by_cases z : b = e
    · subst z; obtain ⟨vs', sl', g', _⟩ := hE; exact ⟨_, g'⟩
    · by_cases hf : b ∈ frs X.stack
      · obtain ⟨sl', g'⟩ := N.slot b o hf hx z e'; exact ⟨_, g'⟩
      · exact ⟨o, N.keep b o hf hx z e'⟩
  · rw [upd_ne (fun z => by rw [z, q] at e'; cases e')]; exact e'
  · rw [upd_ne (fun z => by rw [z, q] at e'; cases e')]; exact e'
  · rw [upd_ne (fun z => by rw [z, q] at e'; cases e'), e']; simp
  · by_cases z : b = e
    · subst z; rw [upd_same] at e'; cases e'; exact objOk_exc hE
    · rw [upd_ne z] at e'
      refine (I.hok b o e').stay (fun c v hcv g' => ?_) (fun c g' => ?_) fun c xs g' => ?_
      · have hcH : ∃ u, H c = some u := by
          rcases hcv with z | z
          · exact ⟨o, by rw [z]; exact e'⟩
          · exact ⟨_, z⟩
        obtain ⟨u, hu⟩ := hcH
        have hce : c ≠ e := by
          rcases hcv with z' | z'
          · rw [z']; exact z
          · intro z2; rw [z2, q] at z'; cases z'
        exact N.keep c v (tfs c u hu) (tch c u hu) hce g'
      · rw [upd_ne (fun z2 => by rw [z2, q] at g'; cases g')]; exact g'
      · rw [upd_ne (fun z2 => by rw [z2, q] at g'; cases g')]; exact g'
theorem Inv.landed {T : Addr} (I : Inv X pins σ H s) (f : FpOk X pins H T) (k : ∀ b o, b ≠ T → s.heap.get? b = some o → h'.get? b = some o) : Inv X pins σ H { s with heap := h' } :=
  I.turned (it := T) (t' := s.toks) k f.1 f.2.1 f.2.2.2.1 f.2.2.2.2.1 f.2.2.2.2.2
end
/-- how an exception of an own class lies behind a call -/
def CXx (P : Program) (w : World) : CXT := fun outer H s E v s' => ∃ e C od T H', v = .ref e ∧ s'.os = s.os ∧ AllBare s'.gens ∧ Un (frs outer) [] H H' s.heap s'.heap ∧ HOk P w H' s'.heap ∧
  H' e = some (exO false e C od) ∧ s.heap.objs.size ≤ T ∧ H' T = none ∧ Fly s'.heap e T .none ∧ E (.ref C) (some e) H'
/-- what is wanted of exceptions, by the names' values -/
abbrev XS := St → XK
def PassesS (X : Cx) (E : XS) : Prop := ∀ (pins : List (Addr × Obj)) (σ : St) (H : Hp) (s : Shared) (v : Value) (s' : Shared), Inv X pins σ H s → CXx X.prog X.w X.stack H s (E σ) v s' → X.xe v s'
def RaisesS (X : Cx) (E : XS) : Prop := ∀ (pins : List (Addr × Obj)) (σ : St) (H : Hp) (s : Shared) (e C : Addr) (od : Option Addr), Inv X pins σ H s → H e = some (exO true e C od) → E σ (.ref C) (some e) (upd H e (exO false e C od)) → X.xe (.ref e) s
theorem passesN {X : Cx} : PassesS X (fun _ => E0) := fun _ _ _ _ _ _ _ ⟨_, _, _, _, _, _, _, _, _, _, _, _, _, _, h⟩ => h.elim
section
variable {P : Program} {w : World} {K : PySem.W.Frag} {mg : Str → Option Value} {base : Heap} {N : List Str} {qual : Str} {scope : Scope} {f : Addr} {cd : Value} {A : Around} {outer : List Env} {s₀ : Shared} {H₀ : Hp} {E : XK}
theorem passesB : PassesS (cxOf (CXx P w) P w K mg base N qual scope f cd A outer s₀ H₀ E) (fun _ => E) := by
  rintro pins σ H s v s' I ⟨e, C, od, T, H', rfl, os, bare, un, hok, he, hT, nT, fly, hE⟩
  have I' := I.call' (ch := []) os un hok bare (fun b z => absurd z (by simp))
  have hTn : FpOk (cxOf (CXx P w) P w K mg base N qual scope f cd A outer s₀ H₀ E) pins H' T := I.fpOk hT nT
  show wpAny _ _ (leaving _ (.ref e)) _ _ _
  refine leave_next I.ok.frames I'.stack rfl fly fun h2 T2 Nd => ?_
  have J := I'.noted (ch := [T]) he Nd (fun b hb => by have := List.mem_singleton.mp hb; subst this; exact hTn)
  rw [upd_id he] at J
  exact ⟨e, C, od, T2, H', rfl, J.os, J.bare, J.base, J.hok, he, Nat.le_trans I'.sz Nd.new, I'.hok.fresh Nd.new, Nd.fly, hE⟩
theorem raisesB : RaisesS (cxOf (CXx P w) P w K mg base N qual scope f cd A outer s₀ H₀ E) (fun _ => E) := by
  rintro pins σ H s e C od I he hE
  obtain ⟨vs, sl, g, hz, hr⟩ := exc_of I.hok he
  show wpAny _ _ (leaving _ (.ref e)) _ _ _
  refine leave_new I.ok.frames I.stack rfl g rfl (hr rfl) fun h2 T2 Nd => ?_
  have J := I.noted (ch := []) he Nd (fun b hb => by cases hb)
  exact ⟨e, C, od, T2, _, rfl, J.os, J.bare, J.base, J.hok, upd_same, Nat.le_trans I.sz Nd.new, by rw [upd_ne (fun z => by rw [← z] at g; exact absurd (Heap.lt_size g) (Nat.not_lt.mpr Nd.new))]; exact I.hok.fresh Nd.new, Nd.fly, hE⟩
/-- the rule for a def that may raise -/
theorem Fun.okX {x qual : Str} {st : Stmt} {f : Addr} {fd : FuncData} {N ps : List Str} {k : Nat} {sp : Sp} (F : Fun K x qual st f fd) (S : FnScope N ps (defScope st)) (len : ∀ vs H Q E, sp vs H Q E → vs.length = ps.length)
    (hbody : ∀ (cdv : Value) (A : Around) (outer : List Env) (s : Shared) (H : Hp) (vs : List V) (Q : VK) (E : XK), Room k (A.deeper (envOfC qual (defScope st) s.heap.objs.size f cdv)) → sp vs H Q E →
      ∃ t, PSs (cxOf (CXx P w) P w K mg base N qual (defScope st) f cdv A outer s H E) (defBody st) t ∧ t { nx := fun _ H' => Q .non H', rt := Q } (start N vs) H) : FnOk P w K mg base (CXx P w) (k + 1) f fd ps sp := by
  obtain ⟨oc, od, kV, doc, pm, an, cdv, ct, osl, rfl, lk, hcd⟩ := F.ex
  exact fn_of lk hcd S len fun A outer s H vs Q E hr hsp => hbody cdv A outer s H vs Q E hr hsp
end
end L2
namespace L2
open PySem PySem.Spec PyProof.Rows
/-! ### calls that may raise -/
section
variable (P : Program) (w : World) (K : PySem.W.Frag) (mg : Str → Option Value) (base : Heap)
structure DefX (x : Str) (k : Nat) (ps : List Str) (sp : Sp) : Prop where
  ex : ∃ (f : Addr) (fd : FuncData), mg x = some (.ref f) ∧ FnOk P w K mg base (CXx P w) k f fd ps sp ∧ PySem.W.keepIn K (.ref f) = true ∧ Binds K fd ps []
structure MethX (C : Addr) (m : Str) (k : Nat) (ps : List Str) (sp : Sp) : Prop where
  ex : ∃ (f : Addr) (fd : FuncData), Meth K C m f ∧ FnOk P w K mg base (CXx P w) k f fd ps sp ∧ Binds K fd ps []
structure MakeX (x : Str) (C : Addr) (k : Nat) (ps : List Str) (sp : Sp) : Prop where
  ex : ∃ (f : Addr) (fd : FuncData), mg x = some (.ref C) ∧ Mk K C f ∧ FnOk P w K mg base (CXx P w) k f fd ps sp ∧ Binds K fd ps []
/-- an exception's class and its __init__ -/
structure XMk (K : PySem.W.Frag) (C f : Addr) : Prop where
  cls : XCls K C
  init : PySem.W.findIn K (.ref C) "__init__" = some (some (.ref f))
  fn : PySem.W.isFn K (.ref f) = true
  kp : PySem.W.keepIn K (.ref C) = true
structure ExcX (x : Str) (C : Addr) (k : Nat) (ps : List Str) (sp : Sp) : Prop where
  ex : ∃ (f : Addr) (fd : FuncData), mg x = some (.ref C) ∧ XMk K C f ∧ FnOk P w K mg base (CXx P w) k f fd ps sp ∧ Binds K fd ps []
end
def tCallS (sp : Sp) (E : XS) (t : TA) : TE := fun σ H Q => t σ H fun vs H1 => sp vs H1 Q (E σ)
def tMethS (C : Addr) (m : Str) (sp : Sp) (E : XS) (ta : TE) (t : TA) : TE := fun σ H Q => ta σ H fun x H1 => ∃ a dx fs, x = .ref a ∧ H1 a = some (.ins C dx fs) ∧ fs.lookup m = none ∧ t σ H1 fun vs H2 => sp (x :: vs) H2 Q (E σ)
def tMakeS (C : Addr) (sp : Sp) (E : XS) (t : TA) : TE := fun σ H Q => t σ H fun vs H1 => ∀ x dx, H1 x = none → H1 dx = none → dx ≠ x →
  sp (.ref x :: vs) (upd (upd H1 dx (.own x)) x (.ins C dx [])) (fun v H2 => v = .non ∧ Q (.ref x) H2) (E σ)
/-- C(..) of an exception's class -/
def tExc (C : Addr) (sp : Sp) (t : TA) : TE := fun σ H Q => t σ H fun vs H1 => vs.length ≤ sizeLine ∧ ∀ x, H1 x = none → sp (.ref x :: vs) (upd H1 x (exO true x C none)) (fun v H2 => v = .non ∧ Q (.ref x) H2) E0
section
variable {X : Cx} {k : Nat} {f C : Addr} {fd : FuncData} {ps : List Str} {sp : Sp} {E : XS} {x m : Str} {p pos apos : Pos} {e o : Expr} {es : List Expr} {ta : TE} {t : TA}
theorem run_fnS {pins : List (Addr × Obj)} {σ : St} {H : Hp} {s : Shared} {Q : VK} {us : List Value} {vs : List V} (F : FnOk X.prog X.w X.K X.mg X.base (CXx X.prog X.w) k f fd ps sp) (hr : Room k X.A) (hb : Binds X.K fd ps []) (hx : PassesS X E)
    (I : Inv X pins σ H s) (r : Vals vs us) (h : sp vs H Q (E σ)) : wpAny (model X.prog X.w) X.A (call (.ref f) us) (EP X pins σ Q) X.xe s := by
  have hl : us.length = ps.length := by rw [← r.length]; exact F.len _ _ _ _ h
  have hb' := hb s us I.kIn (by rw [List.append_nil]; exact hl)
  rw [List.append_nil] at hb'
  refine wpAny_call (codeAny_mono (F.run X.A X.stack s H ⟨us, []⟩ us vs Q (E σ) hr I.env0 hb' r h) fun r s' hq => ?_)
  cases r with
  | error e => exact hx pins σ H s e s' I hq
  | ok fl =>
    cases fl with
    | ret u => exact I.after hq
    | next => exact False.elim hq
    | brk => exact False.elim hq
    | cont => exact False.elim hq
theorem pe_callS (D : DefX X.prog X.w X.K X.mg X.base x k ps sp) (hx : PassesS X E) (hr : Room k X.A) (hg : Gl X x) (ha : PA X (e :: es) t)
    (hdb : (x == ("__debug__" : Str)) = false := by decide) (he : starEach (e :: es) X.env = (false, eval e X.env) :: starEach es X.env := by rfl) (hpl : (backTo pos (starEach es X.env)).any (·.1) = false := by rfl) :
    PE X (.Call (.Name x p) (e :: es) [] pos) (tCallS sp E t) := by
  obtain ⟨f, fd, m, F, kp, b⟩ := D.ex
  intro pins s σ H Q I h
  refine wpAny_Call_Name_kw (ld_glob I hg m ?_ hdb)
  refine PySem.W.callWith_K (h₀ := X.base) I.ok.mod.kin kp (thn (ha pos pins s σ H _ I h) fun us s1 ⟨vs, H1, I1, r, q⟩ => ⟨I1.kIn, ?_⟩) he hpl
  exact run_fnS F hr b hx I1 r q
theorem pe_methS {pl : Sem Bool} (he : PE X o ta) (c : Cls X.K C) (D : MethX X.prog X.w X.K X.mg X.base C m k ps sp) (hx : PassesS X E) (hr : Room k X.A) (ha : PA X (e :: es) t)
    (hst : starEach (e :: es) X.env = (false, eval e X.env) :: starEach es X.env := by rfl) (hpl : (backTo pos (starEach es X.env)).any (·.1) = false := by rfl)
    (ht : eval (.Call (.Attribute o m apos) (e :: es) [] pos) X.env = (do
      let ov ← eval o X.env
      standAt apos.atName
      let (f, first) ← holding [ov] (getMethod ov m pl)
      callWith pos f first (backTo pos (starEach (e :: es) X.env)) (backToKw pos (keywordEach [] X.env))) := by rfl) :
    PE X (.Call (.Attribute o m apos) (e :: es) [] pos) (tMethS C m sp E ta t) := by
  obtain ⟨f, fd, hm, F, b⟩ := D.ex
  intro pins s σ H Q I h
  refine PySem.W.methodCall_KW (pl := pl) (thn (he pins s σ H _ I h) fun u s1 ⟨x, H1, I1, rx, a, dx, fs, ex, ea, l, q⟩ => ?_) ht
  subst ex
  obtain rfl : u = Value.ref a := rx
  refine getmeth_ok I1 ea c hm l ?_
  refine PySem.W.callWith_K (first := [.ref a]) (h₀ := X.base) I.ok.mod.kin hm.kp (thn (ha pos pins s1 σ H1 _ I1 q) fun us s2 ⟨vs, H2, I2, r, q2⟩ => ⟨I2.kIn, ?_⟩) hst hpl
  exact run_fnS (us := .ref a :: us) (vs := .ref a :: vs) F hr b hx I2 (.cons rfl r) q2
theorem run_makeS {pins : List (Addr × Obj)} {σ : St} {H : Hp} {s : Shared} {Q : VK} {us : List Value} {vs : List V} (M : Mk X.K C f) (F : FnOk X.prog X.w X.K X.mg X.base (CXx X.prog X.w) k f fd ps sp) (hr : Room (k + 1) X.A) (hb : Binds X.K fd ps [])
    (hx : PassesS X E) (I : Inv X pins σ H s) (r : Vals vs us)
    (h : ∀ x dx, H x = none → H dx = none → dx ≠ x → sp (.ref x :: vs) (upd (upd H dx (.own x)) x (.ins C dx [])) (fun v H2 => v = .non ∧ Q (.ref x) H2) (E σ)) :
    wpAny (model X.prog X.w) X.A (call (.ref C) us) (EP X pins σ Q) X.xe s := by
  have hq := h (s.heap.objs.size + 1) s.heap.objs.size (I.hok.fresh (Nat.le_succ _)) (I.hok.fresh (Nat.le_refl _)) (Nat.ne_of_lt (Nat.lt_succ_self _))
  have I2 := Inv.made (C := C) I
  have r2 : Vals (V.ref (s.heap.objs.size + 1) :: vs) (Value.ref (s.heap.objs.size + 1) :: us) := .cons rfl r
  have hl : (Value.ref (s.heap.objs.size + 1) :: us).length = ps.length := by
    have e := r2.length
    rw [F.len _ _ _ _ hq] at e
    exact e.symm
  have hb' := hb _ (Value.ref (s.heap.objs.size + 1) :: us) I2.kIn (by rw [List.append_nil]; exact hl)
  rw [List.append_nil] at hb'
  refine wpAny_call (make_map (f := f) I.kIn M.makes M.init (beq_iff_eq.mp M.fn) (codeAny_mono (F.run _ X.stack _ _ ⟨Value.ref (s.heap.objs.size + 1) :: us, []⟩ (Value.ref (s.heap.objs.size + 1) :: us) _ _ (E σ) (hr.make C us [])
    (I2.env0.make C us []) hb' r2 hq) fun r s' hq' => ?_))
  cases r with
  | error e => exact hx pins σ _ _ e s' I2 hq'
  | ok fl =>
    cases fl with
    | ret u =>
      obtain ⟨v, H', I3, rv, ev, q3⟩ := I2.after hq'
      subst ev
      exact ⟨rv, ⟨V.ref (s.heap.objs.size + 1), H', I3, rfl, q3⟩⟩
    | next => exact False.elim hq'
    | brk => exact False.elim hq'
    | cont => exact False.elim hq'
theorem pe_makeS (D : MakeX X.prog X.w X.K X.mg X.base x C k ps sp) (hx : PassesS X E) (hr : Room (k + 1) X.A) (hg : Gl X x) (ha : PA X (e :: es) t)
    (hdb : (x == ("__debug__" : Str)) = false := by decide) (he : starEach (e :: es) X.env = (false, eval e X.env) :: starEach es X.env := by rfl) (hpl : (backTo pos (starEach es X.env)).any (·.1) = false := by rfl) :
    PE X (.Call (.Name x p) (e :: es) [] pos) (tMakeS C sp E t) := by
  obtain ⟨f, fd, m, M, F, b⟩ := D.ex
  intro pins s σ H Q I h
  refine wpAny_Call_Name_kw (ld_glob I hg m ?_ hdb)
  refine PySem.W.callWith_K (h₀ := X.base) I.ok.mod.kin M.kp (thn (ha pos pins s σ H _ I h) fun us s1 ⟨vs, H1, I1, r, q⟩ => ⟨I1.kIn, ?_⟩) he hpl
  exact run_makeS M F hr b hx I1 r q
/-- a new exception, tracked -/
theorem Inv.xmade {pins : List (Addr × Obj)} {σ : St} {H : Hp} {s : Shared} {rest : List Value} (I : Inv X pins σ H s) :
    Inv X pins σ (upd H (s.heap.objs.size + 1) (exO true (s.heap.objs.size + 1) C none)) { s with heap := (s.heap.push (tupNew rest)).push (excNew C s.heap.objs.size) } := by
  refine I.laid (a := s.heap.objs.size + 1) (t' := s.toks) (fun b u q => xkeeps b u q) (Nat.le_succ _) (objOk_exc ⟨_, _, xnew_at, rfl, fun _ => rfl⟩)
theorem run_exc {pins : List (Addr × Obj)} {σ : St} {H : Hp} {s : Shared} {Q : VK} {us : List Value} {vs : List V} (M : XMk X.K C f) (F : FnOk X.prog X.w X.K X.mg X.base (CXx X.prog X.w) k f fd ps sp) (hr : Room (k + 1) X.A) (hb : Binds X.K fd ps [])
    (I : Inv X pins σ H s) (r : Vals vs us) (hlen : vs.length ≤ sizeLine) (h : ∀ x, H x = none → sp (.ref x :: vs) (upd H x (exO true x C none)) (fun v H2 => v = .non ∧ Q (.ref x) H2) E0) :
    wpAny (model X.prog X.w) X.A (call (.ref C) us) (EP X pins σ Q) X.xe s := by
  have hq := h (s.heap.objs.size + 1) (I.hok.fresh (Nat.le_succ _))
  have I2 := Inv.xmade (C := C) (rest := us) I
  have r2 : Vals (V.ref (s.heap.objs.size + 1) :: vs) (Value.ref (s.heap.objs.size + 1) :: us) := .cons rfl r
  have hl : (Value.ref (s.heap.objs.size + 1) :: us).length = ps.length := by
    have e := r2.length
    rw [F.len _ _ _ _ hq] at e
    exact e.symm
  have hb' := hb _ (Value.ref (s.heap.objs.size + 1) :: us) I2.kIn (by rw [List.append_nil]; exact hl)
  rw [List.append_nil] at hb'
  have run := F.run _ X.stack _ _ ⟨Value.ref (s.heap.objs.size + 1) :: us, []⟩ (Value.ref (s.heap.objs.size + 1) :: us) _ _ E0 (hr.make C us []) (I2.env0.make C us []) hb' r2 hq
  obtain ⟨hp, g, d, t, os⟩ := s
  refine xcall_init I.kIn M.cls (by rw [← r.length]; exact hlen) M.init (beq_iff_eq.mp M.fn) (wpAny_call (codeAny_mono run fun r s' hq' => ?_))
  cases r with
  | error e =>
    obtain ⟨_, _, _, _, _, _, _, _, _, _, _, _, _, _, z⟩ := hq'
    exact z.elim
  | ok fl =>
    cases fl with
    | ret u =>
      obtain ⟨v, H', I3, rv, ev, q3⟩ := I2.after hq'
      subst ev
      exact ⟨rv, ⟨V.ref (hp.objs.size + 1), H', I3, rfl, q3⟩⟩
    | next => exact False.elim hq'
    | brk => exact False.elim hq'
    | cont => exact False.elim hq'
theorem pe_exc (D : ExcX X.prog X.w X.K X.mg X.base x C k ps sp) (hr : Room (k + 1) X.A) (hg : Gl X x) (ha : PA X (e :: es) t)
    (hdb : (x == ("__debug__" : Str)) = false := by decide) (he : starEach (e :: es) X.env = (false, eval e X.env) :: starEach es X.env := by rfl) (hpl : (backTo pos (starEach es X.env)).any (·.1) = false := by rfl) :
    PE X (.Call (.Name x p) (e :: es) [] pos) (tExc C sp t) := by
  obtain ⟨f, fd, m, M, F, b⟩ := D.ex
  intro pins s σ H Q I h
  refine wpAny_Call_Name_kw (ld_glob I hg m ?_ hdb)
  refine PySem.W.callWith_K (h₀ := X.base) I.ok.mod.kin M.kp (thn (ha pos pins s σ H _ I h) fun us s1 ⟨vs, H1, I1, r, hlen, q⟩ => ⟨I1.kIn, ?_⟩) he hpl
  exact run_exc M F hr b I1 r hlen q
end
/-! ### raise -/
def sRaise (K : PySem.W.Frag) (te : TE) (E : XS) : TS := fun _ σ H => te σ H fun v H1 => ∃ e C od, v = .ref e ∧ H1 e = some (exO true e C od) ∧ XCls K C ∧ E σ (.ref C) (some e) (upd H1 e (exO false e C od))
section
variable {X : Cx} {x : Expr} {te : TE} {E : XS} {pos : Pos}
theorem raise_ok {M : Model} {A : Around} {E : Value → Shared → Prop} {env : Env} {s : Shared} {x : Sem Value} {Q : Flow → Shared → Prop} (hh : A.handled = none)
    (h : wpAny M A x (fun v s₁ => ∃ e vs sl C od, v = .ref e ∧ s₁.heap.get? e = some ⟨.ref C, od, .fields vs, sl⟩ ∧ vs[1]? = some .none ∧ XObj s₁.heap C ∧ E (.ref e) s₁) E s) :
    wpAny M A (raiseStmt env (some x) none) Q E s := by
  unfold raiseStmt
  refine wpAny_bind (wpAny_mono h (fun v s₁ h₁ => ?_) fun _ _ x => x)
  obtain ⟨e, vs, sl, C, od, rfl, he, h1, hC, hE⟩ := h₁
  obtain ⟨nm, qn, N, bs, bm, sn, sub, ab, col, dd, k0, k1, k2, k3, k5, hC, hb⟩ := hC.ex
  have hcB := own_has (C := C) hb (T := "BaseException") (by decide)
  obtain ⟨hp, g, d, tk, os⟩ := s₁
  repeat (first
    | with_reducible refine wpAny_loadPart_at he ?_
    | with_reducible refine wpAny_loadPart_at hC ?_
    | (with_reducible refine wpAny_isSubtype_exc hC ?_; rw [hcB])
    | with_reducible refine wpAny_field he rfl h1 ?_
    | wp_step)
  exact wpAny_raiseNew_none hh hE
theorem ps_raise (hc : X.calm = true) (hx : RaisesS X E) (he : PE X x te) : PS X (.Raise (some x) none pos) (sRaise X.K te E) := by
  intro pins s σ H D I h
  rw [arm_exec_Raise]
  have hh := I.ok.hd hc
  have key : wpAny (model X.prog X.w) X.A (eval x X.env) (fun v s₁ => ∃ e vs sl C od, v = .ref e ∧ s₁.heap.get? e = some ⟨.ref C, od, .fields vs, sl⟩ ∧ vs[1]? = some .none ∧ XObj s₁.heap C ∧ X.xe (.ref e) s₁) X.xe s := by
    refine thn (he pins s σ H _ I h) fun u s1 ⟨v, H1, I1, rv, e, C, od, ev, eo, hcl, hE⟩ => ?_
    subst ev
    cases (show u = Value.ref e from rv)
    obtain ⟨vs, sl, g, hz, hr⟩ := exc_of I1.hok eo
    exact ⟨e, vs, sl, C, od, rfl, g, hr rfl, hcl.at I1.kIn, hx pins σ H1 s1 e C od I1 eo hE⟩
  exact wpAny_bind (wpAny_standAt (raise_ok hh (wpAny_bind (wpAny_mono key (fun v s₁ h₁ => wpAny_bind (wpAny_standAt (wpAny_pure h₁))) fun _ _ x => x))))
end
end L2
namespace L2
open PySem PySem.Spec PyProof.Rows
/-! ### try .. except C as e -/
section
variable {M : Model} {A : Around} {E : Value → Shared → Prop} {s : Shared} {K : PySem.W.Frag} {e C DC : Addr} {b : Bool}
theorem xmatch {ox : Obj} {Q : Bool → Shared → Prop} (X : K.In s.heap) (hx : s.heap.get? e = some ox) (hcl : ox.cls = .ref C) (cd : XCls K DC) (hm : PySem.W.mroIn K C (.ref DC) = some b) (h : Q b s) :
    wpAny M A (excMatches (.ref e) (.ref DC)) Q E s := by
  obtain ⟨hp, g, d, t, os⟩ := s
  obtain ⟨nm, qn, N, bs, bm, sn, sub, ab, col, dd, k0, k1, k2, k3, k5, hC, hb⟩ := (cd.at X).ex
  have hcB := own_has (C := DC) hb (T := "BaseException") (by decide)
  have f := tc_notTuple
  have L0 : PySem.W.Looks M hp (typeOf (.ref e)) (.ref C) := hcl ▸ (PySem.W.Looks.ld hx).andThen .now
  have L1 := PySem.W.looks_mroIn (M := M) X hm
  unfold excMatches
  repeat (first
    | with_reducible refine wpAny_loadPart_at hC ?_
    | (with_reducible refine wpAny_isSubtype_exc hC ?_; rw [hcB])
    | with_reducible refine L0.at ?_
    | with_reducible refine L1.at ?_
    | wp_step)
  cases b
  · wp_walk; exact h
  · wp_walk; exact h
end
/-- the context of a suite behind except: e is being handled, no exception leaves it -/
abbrev Cx.held (X : Cx) (e : Addr) (pn : List (Addr × Obj)) : Cx := { X with A := X.A.mark (some (.ref e)), calm := false, pn := pn, xe := fun _ _ => False }
/-- .. of a try's body -/
abbrev Cx.tried (X : Cx) (pn : List (Addr × Obj)) (xe : Value → Shared → Prop) : Cx := { X with pn := pn, xe := xe }
section
variable {X : Cx} {pins : List (Addr × Obj)} {σ : St} {H : Hp} {s : Shared} {e : Addr} {xe : Value → Shared → Prop}
theorem Inv.held (I : Inv X pins σ H s) (e : Addr) : Inv (X.held e (X.pn ++ pins)) [] σ H s :=
  ⟨⟨I.ok.mod, I.ok.kind, I.ok.glob, I.ok.blt, I.ok.above, I.ok.inj, I.ok.has, I.ok.cab, (fun z => by cases z), I.ok.frames, I.ok.stk, I.ok.exf, I.ok.bs, I.ok.bsz, I.ok.noex, I.ok.exfs, I.ok.funs, I.ok.frf⟩,
    I.os, I.bare, I.base, I.loc, I.cell, I.free, I.freeC, fun p hp => I.pin p (by simpa using hp), I.hok, I.len⟩
theorem Inv.unheld (ok : X.Ok) (I : Inv (X.held e (X.pn ++ pins)) [] σ H s) : Inv X pins σ H s :=
  ⟨ok, I.os, I.bare, I.base, I.loc, I.cell, I.free, I.freeC, fun p hp => I.pin p (by simpa using hp), I.hok, I.len⟩
theorem Inv.tried (I : Inv X pins σ H s) : Inv (X.tried (X.pn ++ pins) xe) [] σ H s :=
  ⟨⟨I.ok.mod, I.ok.kind, I.ok.glob, I.ok.blt, I.ok.above, I.ok.inj, I.ok.has, I.ok.cab, I.ok.hd, I.ok.frames, I.ok.stk, I.ok.exf, I.ok.bs, I.ok.bsz, I.ok.noex, I.ok.exfs, I.ok.funs, I.ok.frf⟩,
    I.os, I.bare, I.base, I.loc, I.cell, I.free, I.freeC, fun p hp => I.pin p (by simpa using hp), I.hok, I.len⟩
theorem Inv.untried {ps : List (Addr × Obj)} (ok : X.Ok) (I : Inv (X.tried (X.pn ++ pins) xe) ps σ H s) : Inv X pins σ H s :=
  ⟨ok, I.os, I.bare, I.base, I.loc, I.cell, I.free, I.freeC, fun p hp => I.pin p (List.mem_append_left _ hp), I.hok, I.len⟩
/-- the name behind as is unbound -/
theorem unbind_ok {M : Model} {A : Around} {E : Value → Shared → Prop} {i : Nat} {n : Str} {pos : Pos} {Q : Unit → Shared → Prop} (I : Inv X pins σ H s) (hN : X.N.Nodup) (hi : X.N[i]? = some n) (hl : X.env.scope.names.lookup n = some .local)
    (h : ∀ s', Inv X pins (σ.set i none) H s' → Q () s') : wpAny M A (do bindName X.env n .none; unbindBehindTheSuite X.env n pos) Q E s := by
  refine wpAny_bind (wpAny_bindName (store_ok (v := .non) I hN hi (.inl hl) rfl (fun s' I' => ?_) (.inr hl)))
  unfold unbindBehindTheSuite
  obtain ⟨m, hn, hm⟩ := id I'.loc
  have hcls : (X.env.scope.kind == .class || (X.env.scope.kind == .module && X.env.locals != X.env.globals)) = false := by rw [I.ok.kind]; rfl
  have hiσ : i < σ.length := by rw [I.len]; exact (List.getElem?_eq_some_iff.mp hi).1
  obtain ⟨u, ru, lk⟩ := hm i n .non hi (by rw [List.getElem?_set_self hiσ]) (.inl hl)
  have hv : m n = some u := by
    rcases lk with ⟨_, z⟩ | ⟨k, _⟩
    · exact z
    · rcases k with k | k
      · have k : X.env.scope.names.lookup n = some .cell := k
        rw [hl] at k; cases k
      · have k : X.env.scope.names.lookup n = some .free := k
        rw [hl] at k; cases k
  refine wpAny_onRaise (wpAny_unbindName_local (env := X.env) hl hn hv hcls fun h' u' hn' hs => h _ ?_)
  obtain ⟨oL, _, _, hoL, _⟩ := id hn
  have cne := I'.cne
  refine ⟨I'.ok, I'.os, I'.bare, ⟨fun b o e n' hb hx => ?_, fun b o e n' hb hx => ?_, I'.base.free, fun b o e hx => ?_, I'.base.tups, I'.base.frzs, I'.base.tbls⟩, ⟨_, hn', fun j y v' e1 e2 e3 => ?_⟩, fun y c q => ?_, I'.free, I'.freeC, fun p hp => ?_, fun b ob q => ?_, by simpa using I.len⟩
  · exact (hs.2 b (Nat.ne_of_lt (Nat.lt_of_lt_of_le (Heap.lt_size e) I'.ok.above))).trans (I'.base.keep b o e n' hb hx)
  · obtain ⟨sl, e1⟩ := I'.base.slot b o e n' hb hx
    exact ⟨sl, (hs.2 b (Nat.ne_of_lt (Nat.lt_of_lt_of_le (Heap.lt_size e) I'.ok.above))).trans e1⟩
  · obtain ⟨o', e1⟩ := I'.base.there b o e hx
    exact ⟨o', (hs.2 b (Nat.ne_of_lt (Nat.lt_of_lt_of_le (Heap.lt_size e) I'.ok.above))).trans e1⟩
  · by_cases hj : j = i
    · subst hj
      rw [List.getElem?_set_self hiσ] at e2
      cases e2
    · rw [List.getElem?_set_ne (Ne.symm hj)] at e2
      obtain ⟨u2, r2, q⟩ := hm j y v' e1 (by rw [List.getElem?_set_ne (Ne.symm hj)]; exact e2) e3
      refine ⟨u2, r2, ?_⟩
      rcases q with ⟨k, e⟩ | ⟨k, c, e, z⟩
      · refine .inl ⟨k, ?_⟩
        have : y ≠ n := fun e => hj (nodup_ix hN e1 (e ▸ hi))
        simp [this, e]
      · exact .inr ⟨k, c, e, z.sameBut hs (cne y c e)⟩
  · obtain ⟨w', z⟩ := I'.cell y c q
    exact ⟨w', z.sameBut hs (cne y c q)⟩
  · obtain ⟨e, n', ne, nf, d⟩ := I'.pin p hp
    exact ⟨(hs.2 p.1 ne).trans e, n', ne, nf, d⟩
  · refine (I'.hok b ob q).stay (fun c w' hc q' => (hs.2 c ?_).trans q') (fun _ q' => q') fun _ _ q' => q'
    rintro rfl
    rcases hc with z | z
    · rw [← z, I'.free] at q; cases q
    · rw [I'.free] at z; cases z
end
/-- the handlers' reading: the exception, its class, the ends -/
abbrev TH := Addr → Addr → TS
def PH (X : Cx) (hs : List ExceptHandler) (th : TH) : Prop :=
  ∀ (pins : List (Addr × Obj)) (s : Shared) (σ : St) (H : Hp) (D : Ends) (e C : Addr) (od : Option Addr) (T : Addr), Inv X pins σ H s → H e = some (exO false e C od) → Fly s.heap e T .none → FpOk X pins H T → th e C D σ H →
    wpAny (model X.prog X.w) X.A (handleBy (.ref e) X.env hs) (SP X pins D) X.xe s
def hNil : TH := fun _ _ _ _ _ => False
theorem ph_nil {X : Cx} : PH X [] hNil := fun _ _ _ _ _ _ _ _ _ _ _ _ _ h => h.elim
/-- except C as n: .. -/
def hAs (K : PySem.W.Frag) (DC : Addr) (i : Nat) (ts : Addr → List (Addr × Obj) → TS) (tr : TH) : TH := fun e C D σ H => ∃ b, PySem.W.mroIn K C (.ref DC) = some b ∧ if b = true then
  ∀ pn, ts e pn { nx := fun σ' H' => D.nx (σ'.set i none) H', rt := D.rt, bk := fun σ' H' => D.bk (σ'.set i none) H', ct := fun σ' H' => D.ct (σ'.set i none) H' } (σ.set i (some (.ref e))) H else tr e C D σ H
/-- except C: .. -/
def hPl (K : PySem.W.Frag) (DC : Addr) (ts : Addr → List (Addr × Obj) → TS) (tr : TH) : TH := fun e C D σ H => ∃ b, PySem.W.mroIn K C (.ref DC) = some b ∧ if b = true then (∀ pn, ts e pn D σ H) else tr e C D σ H
section
variable {X : Cx} {x n : Str} {i : Nat} {DC : Addr} {np pos : Pos} {b0 : Stmt} {suite : List Stmt} {rest : List ExceptHandler} {ts : Addr → List (Addr × Obj) → TS} {tr : TH}
theorem SP.unheld {pins : List (Addr × Obj)} {D : Ends} {e : Addr} {fl : Flow} {s' : Shared} (ok : X.Ok) (h : SP (X.held e (X.pn ++ pins)) [] D fl s') : SP X pins D fl s' := by
  cases fl with
  | next => obtain ⟨σ', H', J, q⟩ := h; exact ⟨σ', H', J.unheld ok, q⟩
  | brk => obtain ⟨σ', H', J, q⟩ := h; exact ⟨σ', H', J.unheld ok, q⟩
  | cont => obtain ⟨σ', H', J, q⟩ := h; exact ⟨σ', H', J.unheld ok, q⟩
  | ret u => obtain ⟨v, σ', H', J, r, q⟩ := h; exact ⟨v, σ', H', J.unheld ok, r, q⟩
theorem SP.untried {pins : List (Addr × Obj)} {D : Ends} {xe : Value → Shared → Prop} {fl : Flow} {s' : Shared} (ok : X.Ok) (h : SP (X.tried (X.pn ++ pins) xe) [] D fl s') : SP X pins D fl s' := by
  cases fl with
  | next => obtain ⟨σ', H', J, q⟩ := h; exact ⟨σ', H', J.untried ok, q⟩
  | brk => obtain ⟨σ', H', J, q⟩ := h; exact ⟨σ', H', J.untried ok, q⟩
  | cont => obtain ⟨σ', H', J, q⟩ := h; exact ⟨σ', H', J.untried ok, q⟩
  | ret u => obtain ⟨v, σ', H', J, r, q⟩ := h; exact ⟨v, σ', H', J.untried ok, r, q⟩
theorem ph_as (hg : Gl X x) (hm : X.mg x = some (.ref DC)) (c : XCls X.K DC) (hN : X.N.Nodup) (hi : X.N[i]? = some n) (hl : X.env.scope.names.lookup n = some .local)
    (hs : ∀ e pn, PSs (X.held e pn) (b0 :: suite) (ts e pn)) (hr : PH X rest tr) (hd : (x == ("__debug__" : Str)) = false := by decide) :
    PH X (.ExceptHandler (some (.Name x np)) (some n) (b0 :: suite) pos :: rest) (hAs X.K DC i ts tr) := by
  rintro pins s σ H D e C od T I q fly fp ⟨b, hb, h⟩
  obtain ⟨vs, sl, g, _⟩ := exc_of I.hok q
  have IH := I.held e
  refine wpAny_handleBy_cons (codeAny_handlers_test (ld_glob (X := X.held e (X.pn ++ pins)) IH hg hm ?_ hd)) (by intro z; cases z)
  refine xmatch I.kIn g rfl c hb ?_
  cases b with
  | false =>
    rw [if_neg (by decide)] at h
    exact hr pins s σ H D e C od T I q fly fp h
  | true =>
    rw [if_pos rfl] at h
    refine codeAny_handlers_suite_as (flight_none fly fun h2 k _ fly2 => ?_)
    have I2 := I.landed fp k
    refine store_ok (X := X.held e (X.pn ++ pins)) (I2.held e) hN hi (.inl hl) (v := .ref e) rfl (fun s3 I3 => ?_) (.inr hl)
    refine wpAny_mono (hs e _ [] s3 _ _ _ I3 (h _)) (fun fl s4 h4 => ?_) fun _ _ z => z.elim
    cases fl with
    | next => obtain ⟨σ', H', J, q'⟩ := h4; exact unbind_ok (J.unheld I.ok) hN hi hl fun s5 I5 => ⟨_, _, I5, q'⟩
    | brk => obtain ⟨σ', H', J, q'⟩ := h4; exact unbind_ok (J.unheld I.ok) hN hi hl fun s5 I5 => ⟨_, _, I5, q'⟩
    | cont => obtain ⟨σ', H', J, q'⟩ := h4; exact unbind_ok (J.unheld I.ok) hN hi hl fun s5 I5 => ⟨_, _, I5, q'⟩
    | ret u => obtain ⟨v, σ', H', J, r, q'⟩ := h4; exact unbind_ok (J.unheld I.ok) hN hi hl fun s5 I5 => ⟨v, _, _, I5, r, q'⟩
/-- try: .. except .. -/
def tTry (tb : List (Addr × Obj) → (Value → Shared → Prop) → XS → TS) (th : TH) : TS := fun D σ H => ∀ pn xe, tb pn xe (fun σ' cls oe H' => ∃ e C, cls = .ref C ∧ oe = some e ∧ th e C D σ' H') D σ H
theorem ps_try {body : List Stmt} {h0 : ExceptHandler} {hs : List ExceptHandler} {tb : List (Addr × Obj) → (Value → Shared → Prop) → XS → TS} {th : TH} (hb : ∀ pn xe E, PassesS (X.tried pn xe) E → PSs (X.tried pn xe) body (tb pn xe E)) (hh : PH X (h0 :: hs) th) (hst : X.stack = X.env :: X.outer) (hfr : X.env.frame = some X.env.locals) :
    PS X (.Try body (h0 :: hs) [] [] pos) (tTry tb th) := by
  intro pins s σ H D I h
  refine wpAny_Try_except ?_
  refine wpAny_mono (hb (X.pn ++ pins) (fun v s₁ => wpAny (model X.prog X.w) X.A (noteFrame v X.env) (fun _ s₂ => wpAny (model X.prog X.w) X.A (setFlight v none) (fun _ s₃ => wpAny (model X.prog X.w) X.A (handleBy v X.env (h0 :: hs)) (SP X pins D) X.xe s₃) X.xe s₂) X.xe s₁)
    (fun σ' cls oe H' => ∃ e C, cls = .ref C ∧ oe = some e ∧ th e C D σ' H') ?_ [] s σ H D I.tried (h _ _)) (fun fl s1 h1 => ?_) fun v s1 h1 => h1
  · rintro ps σ' H1 s1 v s2 J ⟨e, C, od, T, H2, rfl, os, bare, un, hok, he, hT, nT, fly, e', C', ec, ee, hth⟩
    cases ec
    cases ee
    have J2 := J.call' (ch := []) os un hok bare (fun b z => absurd z (by simp))
    have K2 : Inv X pins σ' H2 s2 := J2.untried I.ok
    have fp : FpOk X pins H2 T := (J.untried I.ok).fpOk hT nT
    have fr : X.A.frames = some (X.env :: X.outer) := by rw [← hst]; exact I.ok.frames
    show wpAny _ _ (noteFrame (.ref e) X.env) _ _ _
    refine note_next fr (by rw [← hst]; exact K2.stack) hfr fly fun h3 T3 Nd => ?_
    rw [← hst] at Nd
    have K3 := K2.noted (ch := [T]) he Nd (fun b hb => by have := List.mem_singleton.mp hb; subst this; exact fp)
    rw [upd_id he] at K3
    have fp3 : FpOk X pins H2 T3 := K2.fpOk Nd.new (K2.hok.fresh Nd.new)
    refine flight_none (s := { s2 with heap := h3 }) Nd.fly fun h4 k4 _ fly4 => ?_
    have K4 := K3.landed fp3 k4
    exact hh pins _ σ' H2 D e C od T3 K4 he fly4 fp3 hth
  · cases fl with
    | next => exact wpAny_execs_nil (SP.untried I.ok h1)
    | brk => exact SP.untried I.ok h1
    | cont => exact SP.untried I.ok h1
    | ret u => exact SP.untried I.ok h1
end
end L2
namespace L2
open PySem PySem.Spec PyProof.Rows
theorem cxx_no {P : Program} {w : World} {o : List Env} {H : Hp} {s s' : Shared} {e : Value} (h : CXx P w o H s (fun _ _ _ => False) e s') : False := by
  obtain ⟨_, _, _, _, _, _, _, _, _, _, _, _, _, _, z⟩ := h
  exact z
/-- the promise of an exception's __init__, with one value, with two -/
def sp_x1 (C : Addr) (f : Str) : Sp := fun vs H Q _ => ∃ p y, vs = [.ref p, y] ∧ H p = some (exO true p C none) ∧ ∀ dx, H dx = none → Q .non (upd (upd H dx (xdO dx [(f, y)])) p (exO true p C (some dx)))
def sp_x2 (C : Addr) (f g : Str) : Sp := fun vs H Q _ => ∃ p y z, vs = [.ref p, y, z] ∧ H p = some (exO true p C none) ∧ ∀ dx, H dx = none → Q .non (upd (upd H dx (xdO dx [(f, y), (g, z)])) p (exO true p C (some dx)))
theorem x2_swap {H : Hp} {p dx C : Addr} {f g : Str} {y z : V} {Q : Hp → Prop} (hne : p ≠ dx) (hfg : ¬ f = g) (h : Q (upd (upd H dx (xdO dx [(f, y), (g, z)])) p (exO true p C (some dx)))) :
    Q (upd (upd (upd H dx (xdO dx [(f, y)])) p (exO true p C (some dx))) dx (xdO dx (putF g z [(f, y)]))) := by
  have e : putF g z [(f, y)] = [(f, y), (g, z)] := by
    show (if f = g then _ else _) = _
    rw [if_neg hfg]; rfl
  rw [e]
  have : upd (upd (upd H dx (xdO dx [(f, y)])) p (exO true p C (some dx))) dx (xdO dx [(f, y), (g, z)]) = upd (upd H dx (xdO dx [(f, y), (g, z)])) p (exO true p C (some dx)) := by
    funext b
    unfold upd
    by_cases h1 : b = dx
    · subst h1; simp [hne.symm]
    · by_cases h2 : b = p <;> simp [h1, h2, hne]
  rw [this]; exact h
section
variable {K : PySem.W.Frag} {C : Addr} {f g : Str} {y z : V} {H1 : Hp} {E : XK}
theorem excAt_made {H1 : Hp} {x dx C : Addr} {fs : List (Str × V)} (hx : H1 x = none) (hdx : upd H1 x (exO true x C none) dx = none) :
    ExcAt (upd (upd (upd (upd H1 x (exO true x C none)) dx (xdO dx fs)) x (exO true x C (some dx))) x (exO false x C (some dx))) x C fs ∧ Same H1 (upd (upd (upd (upd H1 x (exO true x C none)) dx (xdO dx fs)) x (exO true x C (some dx))) x (exO false x C (some dx))) := by
  have hne : dx ≠ x := fun e => by rw [e, upd_same] at hdx; cases hdx
  have hn : H1 dx = none := by rw [upd_ne hne] at hdx; exact hdx
  refine ⟨⟨false, some dx, upd_same, ?_, hne⟩, fun b o q => ?_⟩
  · rw [upd_ne hne, upd_ne hne, upd_same]
  · have h1 := ne_of_none q hx
    have h2 := ne_of_none q hn
    rw [upd_ne h1, upd_ne h1, upd_ne h2, upd_ne h1]; exact q
theorem raise1 (c : XCls K C) (h : ∀ e H', ExcAt H' e C [(f, y)] → Same H1 H' → E (.ref C) (some e) H') :
    [y].length ≤ sizeLine ∧ ∀ x, H1 x = none → sp_x1 C f (.ref x :: [y]) (upd H1 x (exO true x C none)) (fun v H2 => v = .non ∧ ∃ e C' od, V.ref x = .ref e ∧ H2 e = some (exO true e C' od) ∧ XCls K C' ∧ E (.ref C') (some e) (upd H2 e (exO false e C' od))) E0 :=
  ⟨by show 1 ≤ sizeLine; decide, fun x hx => ⟨x, y, rfl, upd_same, fun dx hdx => ⟨rfl, x, C, some dx, rfl, upd_same, c, let ⟨a, b⟩ := excAt_made hx hdx; h x _ a b⟩⟩⟩
end
end L2
namespace L2
open PySem
/-! ### little things -/
theorem upd_none {H : Hp} {a b : Addr} {o : HO} (h : upd H a o b = none) : H b = none ∧ b ≠ a := by
  unfold upd at h
  split at h
  · cases h
  · exact ⟨h, by assumption⟩
theorem rep_flat (n : Nat) : (List.replicate n [V.int 0]).flatten = (List.replicate n (0 : Int)).map V.int := by
  induction n with
  | zero => rfl
  | succ n ih => rw [List.replicate_succ, List.flatten_cons, ih]; rfl
theorem putF_ne {f g : Str} {v x : V} {r : List (Str × V)} (h : ¬ g = f) : putF f v ((g, x) :: r) = (g, x) :: putF f v r := by
  show (if g = f then _ else _) = _
  rw [if_neg h]
theorem putF_eq {f : Str} {v x : V} {r : List (Str × V)} : putF f v ((f, x) :: r) = (f, v) :: r := by
  show (if f = f then _ else _) = _
  rw [if_pos rfl]
theorem look_ne {f g : Str} {x : V} {r : List (Str × V)} (h : ¬ f = g) : List.lookup f ((g, x) :: r) = List.lookup f r := by
  rw [List.lookup_cons]
  have : (f == g) = false := by simpa using h
  rw [this]
theorem look_eq {f : Str} {x : V} {r : List (Str × V)} : List.lookup f ((f, x) :: r) = some x := by
  rw [List.lookup_cons]; simp
/-- all but the addresses of F is as it was -/
def Keep (F : List Addr) (H H' : Hp) : Prop := ∀ b o, H b = some o → b ∉ F → H' b = some o
theorem Keep.trans {F G : List Addr} {H H1 H2 : Hp} (a : Keep F H H1) (b : Keep G H1 H2) : Keep (F ++ G) H H2 := fun c o e hc => b c o (a c o e fun z => hc (List.mem_append_left _ z)) fun z => hc (List.mem_append_right _ z)
theorem Keep.refl {F : List Addr} {H : Hp} : Keep F H H := fun _ _ e _ => e
/-- lists of numbers at addresses -/
structure Rows (H : Hp) (L : List Addr) (xss : List (List Int)) : Prop where
  len : L.length = xss.length
  get : ∀ (i : Nat) a xs, L[i]? = some a → xss[i]? = some xs → H a = some (.lst (xs.map V.int))
theorem Rows.mono {H H' : Hp} {L : List Addr} {xss : List (List Int)} (R : Rows H L xss) (h : ∀ a ∈ L, ∀ o, H a = some o → H' a = some o) : Rows H' L xss :=
  ⟨R.len, fun i a xs e1 e2 => h a (List.mem_of_getElem? e1) _ (R.get i a xs e1 e2)⟩
theorem Rows.snoc {H : Hp} {L : List Addr} {xss : List (List Int)} (R : Rows H L xss) {a : Addr} {xs : List Int} (h : H a = some (.lst (xs.map V.int))) : Rows H (L ++ [a]) (xss ++ [xs]) :=
  ⟨by simp [R.len], fun i b ys e1 e2 => by
    have l := R.len
    by_cases hi : i < L.length
    · rw [List.getElem?_append_left hi] at e1
      rw [List.getElem?_append_left (by omega)] at e2
      exact R.get i b ys e1 e2
    · rw [List.getElem?_append_right (by omega)] at e1
      rw [List.getElem?_append_right (by omega)] at e2
      have hi2 : i - L.length = 0 := by
        have := (List.getElem?_eq_some_iff.mp e1).1
        simp at this; omega
      rw [hi2] at e1
      rw [show i - xss.length = 0 by omega] at e2
      have e1 : a = b := by simpa using e1
      have e2 : xs = ys := by simpa using e2
      rw [← e1, ← e2]; exact h⟩
theorem Rows.at_ {H : Hp} {L : List Addr} {xss : List (List Int)} (R : Rows H L xss) {i : Nat} {xs : List Int} (h : xss[i]? = some xs) : ∃ a, L[i]? = some a ∧ a ∈ L ∧ H a = some (.lst (xs.map V.int)) := by
  have hi : i < L.length := by rw [R.len]; exact (List.getElem?_eq_some_iff.mp h).1
  exact ⟨L[i], List.getElem?_eq_getElem hi, List.getElem_mem hi, R.get i _ xs (List.getElem?_eq_getElem hi) h⟩
theorem Rows.here {H : Hp} {L : List Addr} {xss : List (List Int)} (R : Rows H L xss) : ∀ a ∈ L, ∃ o, H a = some o := fun a ha => by
  obtain ⟨i, hi⟩ := List.mem_iff_getElem?.mp ha
  have hl : i < xss.length := by rw [← R.len]; exact (List.getElem?_eq_some_iff.mp hi).1
  exact ⟨_, R.get i a _ hi (List.getElem?_eq_getElem hl)⟩
/-- changes in the heap: a list of pairs -/
structure ChAt (H : Hp) (L : List V) (chs : List (Int × Int)) : Prop where
  len : L.length = chs.length
  get : ∀ (i : Nat) v, L[i]? = some v → ∃ t r, v = V.ref t ∧ chs[i]? = some r ∧ H t = some (.tup [.int r.1, .int r.2])
theorem ChAt.nil {H : Hp} : ChAt H [] [] := ⟨rfl, fun i v e => by simp at e⟩
theorem ChAt.mono {H H' : Hp} {L : List V} {chs : List (Int × Int)} (R : ChAt H L chs) (h : ∀ t xs, H t = some (.tup xs) → H' t = some (.tup xs)) : ChAt H' L chs :=
  ⟨R.len, fun i v e => let ⟨t, r, a, b, c⟩ := R.get i v e; ⟨t, r, a, b, h t _ c⟩⟩
theorem ChAt.snoc {H : Hp} {L : List V} {chs : List (Int × Int)} (R : ChAt H L chs) {t : Addr} {r : Int × Int} (h : H t = some (.tup [.int r.1, .int r.2])) : ChAt H (L ++ [.ref t]) (chs ++ [r]) :=
  ⟨by simp [R.len], fun i v e => by
    by_cases hi : i < L.length
    · rw [List.getElem?_append_left hi] at e
      obtain ⟨t, r, a, b, c⟩ := R.get i v e
      exact ⟨t, r, a, by rw [List.getElem?_append_left (by rw [← R.len]; exact hi)]; exact b, c⟩
    · rw [List.getElem?_append_right (by omega)] at e
      have hi2 : i - L.length = 0 := by
        have := (List.getElem?_eq_some_iff.mp e).1
        simp at this; omega
      rw [hi2] at e
      have e : V.ref t = v := by simpa using e
      refine ⟨t, r, e.symm, ?_, h⟩
      rw [List.getElem?_append_right (by rw [← R.len]; omega), ← R.len, hi2]; rfl⟩
/-! ### a Days object -/
def fl (wd ls : Int) (ta sa : Addr) : List (Str × V) := [("wide", .int wd), ("last", .int ls), ("tables", .ref ta), ("set_places", .ref sa)]
theorem s1 : ¬ (("wide" : Str) = "last") := by decide +kernel
theorem s2 : ¬ (("wide" : Str) = "tables") := by decide +kernel
theorem s3 : ¬ (("wide" : Str) = "set_places") := by decide +kernel
theorem s4 : ¬ (("last" : Str) = "tables") := by decide +kernel
theorem s5 : ¬ (("last" : Str) = "set_places") := by decide +kernel
theorem s6 : ¬ (("tables" : Str) = "set_places") := by decide +kernel
theorem fl_wide {wd ls : Int} {ta sa : Addr} : (fl wd ls ta sa).lookup ("wide" : Str) = some (.int wd) := look_eq
theorem fl_last {wd ls : Int} {ta sa : Addr} : (fl wd ls ta sa).lookup ("last" : Str) = some (.int ls) := by
  unfold fl; rw [look_ne fun e => s1 e.symm, look_eq]
theorem fl_tables {wd ls : Int} {ta sa : Addr} : (fl wd ls ta sa).lookup ("tables" : Str) = some (.ref ta) := by
  unfold fl; rw [look_ne fun e => s2 e.symm, look_ne fun e => s4 e.symm, look_eq]
theorem fl_set {wd ls : Int} {ta sa : Addr} : (fl wd ls ta sa).lookup ("set_places" : Str) = some (.ref sa) := by
  unfold fl; rw [look_ne fun e => s3 e.symm, look_ne fun e => s5 e.symm, look_ne fun e => s6 e.symm, look_eq]
theorem fl_no {wd ls : Int} {ta sa : Addr} {m : Str} (h1 : ¬ m = "wide") (h2 : ¬ m = "last") (h3 : ¬ m = "tables") (h4 : ¬ m = "set_places") : (fl wd ls ta sa).lookup m = none := by
  unfold fl; rw [look_ne h1, look_ne h2, look_ne h3, look_ne h4]; rfl
theorem fl_put {wd ls l2 : Int} {ta sa : Addr} : putF "last" (.int l2) (fl wd ls ta sa) = fl wd l2 ta sa := by
  unfold fl; rw [putF_ne s1, putF_eq]
theorem fl_make {wd : Int} {ta sa : Addr} : putF "set_places" (.ref sa) (putF "tables" (.ref ta) (putF "last" (.int 0) (putF "wide" (.int wd) []))) = fl wd 0 ta sa := by
  show putF "set_places" (.ref sa) (putF "tables" (.ref ta) (putF "last" (.int 0) [("wide", .int wd)])) = _
  rw [putF_ne s1]
  show putF "set_places" (.ref sa) (putF "tables" (.ref ta) [("wide", .int wd), ("last", .int 0)]) = _
  rw [putF_ne s2, putF_ne s4]
  show putF "set_places" (.ref sa) [("wide", .int wd), ("last", .int 0), ("tables", .ref ta)] = _
  rw [putF_ne s3, putF_ne s5, putF_ne s6]; rfl
/-- the first thing wrong with a change: a place (true), a block (false) -/
def badC (wd : Nat) (c : Int × Int) : Option (Bool × Int) := if c.1 < 0 ∨ (wd : Int) ≤ c.1 then some (true, c.1) else if c.2 < 0 ∨ 18446744073709551615 < c.2 then some (false, c.2) else none
def firstBad (wd : Nat) (chs : List (Int × Int)) : Option (Bool × Int) := chs.findSome? (badC wd)
/-- the table of the next day -/
def nextT (tab : List Int) (chs : List (Int × Int)) : List Int := chs.foldl (fun t c => t.set c.1.toNat c.2) tab
theorem nextT_len (chs : List (Int × Int)) : ∀ tab : List Int, (nextT tab chs).length = tab.length := by
  induction chs with
  | nil => intro tab; rfl
  | cons c r ih => intro tab; show (nextT (tab.set c.1.toNat c.2) r).length = _; rw [ih, List.length_set]
theorem nextT_snoc (tab : List Int) (chs : List (Int × Int)) (c : Int × Int) : nextT tab (chs ++ [c]) = (nextT tab chs).set c.1.toNat c.2 := by
  unfold nextT; rw [List.foldl_append]; rfl
theorem badC_none {wd : Nat} {c : Int × Int} (h : badC wd c = none) : 0 ≤ c.1 ∧ c.1 < wd ∧ 0 ≤ c.2 ∧ c.2 ≤ 18446744073709551615 := by
  unfold badC at h
  split at h
  · cases h
  · split at h
    · cases h
    · omega
theorem firstBad_none {wd : Nat} {chs : List (Int × Int)} (h : firstBad wd chs = none) : ∀ c ∈ chs, badC wd c = none := by
  unfold firstBad at h
  rw [List.findSome?_eq_none_iff] at h
  exact h
theorem firstBad_at {wd : Nat} {chs : List (Int × Int)} {i : Nat} {c : Int × Int} {x : Bool × Int} (hi : chs[i]? = some c) (hp : ∀ j d, j < i → chs[j]? = some d → badC wd d = none) (hb : badC wd c = some x) : firstBad wd chs = some x := by
  unfold firstBad
  induction chs generalizing i with
  | nil => simp at hi
  | cons d r ih =>
    cases i with
    | zero =>
      have : d = c := by simpa using hi
      rw [List.findSome?_cons, this, hb]
    | succ i =>
      rw [List.findSome?_cons, hp 0 d (by omega) rfl]
      exact ih (i := i) (by simpa using hi) fun j d' hj e => hp (j + 1) d' (by omega) (by simpa using e)
/-- a row of days stands at p; its parts' addresses -/
structure DaysAt (C : Addr) (H : Hp) (p ta sa : Addr) (TL SL : List Addr) (wd : Nat) (tabs sets : List (List Int)) : Prop where
  ob : ∃ dx, H p = some (.ins C dx (fl (wd : Int) ((tabs.length : Int) - 1) ta sa))
  tl : H ta = some (.lst (TL.map V.ref))
  sl : H sa = some (.lst (SL.map V.ref))
  tls : Rows H TL tabs
  sls : Rows H SL sets
  nd : (p :: ta :: sa :: (TL ++ SL)).Nodup
  ne : tabs.length ≠ 0
  lens : sets.length = tabs.length
  wds : ∀ t ∈ tabs, t.length = wd
  w1 : 0 < wd
  w2 : wd ≤ 40
abbrev foot (p ta sa : Addr) (TL SL : List Addr) : List Addr := p :: ta :: sa :: (TL ++ SL)
section
variable {C : Addr} {H H' : Hp} {p ta sa : Addr} {TL SL : List Addr} {wd : Nat} {tabs sets : List (List Int)}
theorem DaysAt.here (D : DaysAt C H p ta sa TL SL wd tabs sets) : ∀ b ∈ foot p ta sa TL SL, ∃ o, H b = some o := by
  intro b hb
  simp only [foot, List.mem_cons, List.mem_append] at hb
  obtain ⟨dx, ob⟩ := D.ob
  rcases hb with rfl | rfl | rfl | hb | hb
  · exact ⟨_, ob⟩
  · exact ⟨_, D.tl⟩
  · exact ⟨_, D.sl⟩
  · exact D.tls.here b hb
  · exact D.sls.here b hb
theorem DaysAt.mono (D : DaysAt C H p ta sa TL SL wd tabs sets) (h : ∀ b ∈ foot p ta sa TL SL, ∀ o, H b = some o → H' b = some o) : DaysAt C H' p ta sa TL SL wd tabs sets := by
  obtain ⟨dx, ob⟩ := D.ob
  exact ⟨⟨dx, h _ (by simp [foot]) _ ob⟩, h _ (by simp [foot]) _ D.tl, h _ (by simp [foot]) _ D.sl, D.tls.mono fun a ha => h a (by simp [foot, ha]), D.sls.mono fun a ha => h a (by simp [foot, ha]), D.nd, D.ne, D.lens, D.wds, D.w1, D.w2⟩
theorem DaysAt.same (D : DaysAt C H p ta sa TL SL wd tabs sets) (h : Same H H') : DaysAt C H' p ta sa TL SL wd tabs sets := D.mono fun b _ o e => h b o e
theorem DaysAt.fresh (D : DaysAt C H p ta sa TL SL wd tabs sets) {a : Addr} (h : H a = none) : a ∉ foot p ta sa TL SL := fun hb => by
  obtain ⟨o, e⟩ := D.here a hb
  rw [h] at e; cases e
theorem DaysAt.lists (D : DaysAt C H p ta sa TL SL wd tabs sets) {b : Addr} (hb : b ∈ foot p ta sa TL SL) : (∃ dx fs, H b = some (.ins C dx fs)) ∨ ∃ xs, H b = some (.lst xs) := by
  simp only [foot, List.mem_cons, List.mem_append] at hb
  obtain ⟨dx, ob⟩ := D.ob
  have rw_ : ∀ {L : List Addr} {xss : List (List Int)}, Rows H L xss → b ∈ L → ∃ xs, H b = some (.lst xs) := fun {L xss} R hm => by
    obtain ⟨i, hi⟩ := List.mem_iff_getElem?.mp hm
    have hl : i < xss.length := by rw [← R.len]; exact (List.getElem?_eq_some_iff.mp hi).1
    exact ⟨_, R.get i b _ hi (List.getElem?_eq_getElem hl)⟩
  rcases hb with rfl | rfl | rfl | hb | hb
  · exact .inl ⟨dx, _, ob⟩
  · exact .inr ⟨_, D.tl⟩
  · exact .inr ⟨_, D.sl⟩
  · exact .inr (rw_ D.tls hb)
  · exact .inr (rw_ D.sls hb)
/-- a row that other doings leave alone -/
theorem DaysAt.apart {F : List Addr} (D : DaysAt C H p ta sa TL SL wd tabs sets) (k : Keep F H H') (h : ∀ b ∈ foot p ta sa TL SL, b ∉ F) : DaysAt C H' p ta sa TL SL wd tabs sets := D.mono fun b hb o e => k b o e (h b hb)
end
theorem nodup_app2 {α : Type} {p q r : α} {A B : List α} {x y : α} (h : (p :: q :: r :: (A ++ B)).Nodup) (hx : x ∉ (p :: q :: r :: (A ++ B))) (hy : y ∉ (p :: q :: r :: (A ++ B))) (hxy : x ≠ y) : (p :: q :: r :: ((A ++ [x]) ++ (B ++ [y]))).Nodup := by
  simp only [List.nodup_cons, List.nodup_append, List.mem_cons, List.mem_append, List.not_mem_nil, or_false, not_or] at h hx hy ⊢
  grind
end L2
namespace L2
open PySem PySem.Spec PyProof.Rows
/-! ### texts -/
def rSlS : V → Option Int → Option Int → Hp → VK → Prop := fun x lo hi H Q => ∃ z, x = .str z ∧ z.length ≤ sizeLine ∧ Q (.str (Txt.slice z lo hi)) H
section
variable {X : Cx}
end
/-! ### for c in text -/
def Itx (x : Str) : It := ⟨fun i _ => i < x.cps.size, fun i H v H' => H' = H ∧ ∃ c, x.cps[i]? = some c ∧ v = .str ⟨#[c]⟩, fun i _ => x.cps.size ≤ i⟩
def iStr (tl : TE) : TI := fun σ H R => tl σ H fun x H1 => ∃ z, x = .str z ∧ R (Itx z) H1
/-! ### all([..]) of truths -/
def blOf : V → Bool
  | .bl b => b
  | _ => false
end L2
namespace L2
open PySem PySem.Spec PyProof.Rows
/-! ### words that write a number -/
abbrev FIGS : Str := Str.ofString "0123456789"
def figB (c : Nat) : Bool := !(Builtin.Str.occurrences FIGS ⟨#[c]⟩ 0 FIGS.length 1).isEmpty
def isNum (z : Str) : Bool := z.cps.toList.all figB
def okW (z : Str) : Bool := decide (1 ≤ z.length) && decide (z.length ≤ 20) && (decide (z.length = 1) || !decide (z.cps.toList[0]? = some 48)) && isNum z
def intOf (z : Str) : Int := (intText? z).getD 0
theorem ExcAt.same {H H' : Hp} {e C : Addr} {fs : List (Str × V)} (h : ExcAt H e C fs) (s : Same H H') : ExcAt H' e C fs := by
  obtain ⟨raw, od, h1, h2⟩ := h
  refine ⟨raw, od, s _ _ h1, ?_⟩
  cases od with
  | none => exact h2
  | some dx => exact ⟨s _ _ h2.1, h2.2⟩
end L2
namespace L2
open PySem PySem.Spec PyProof.Rows
/-! ### an exception of a class without __init__ -/
section
variable {prog : Program} {w : World} {A : Around} {E : Value → Shared → Prop} {h : Heap} {g : Array GenState} {d : Drawn} {t : Nat} {os : OsState} {K : PySem.W.Frag} {C f : Addr}
variable {nm q : Str} {N : Addr} {bs bm : List Value} {sn : List Str} {sub : List Value} {ab : Bool} {col : Option Bool} {dd : Option Addr} {k0 k1 k2 k3 k5 : Option Value}
end
/-- C() of an exception's class -/
def tExc0 (C : Addr) : TE := fun σ H Q => ∀ x, H x = none → Q (.ref x) (upd H x (exO true x C none))
section
variable {C : Addr} {f g : Str} {y z : V} {H1 : Hp} {Q : VK}
end
end L2
namespace L2
open PySem PySem.Spec PyProof.Rows
/-! ### an exception that passes a comprehension -/
section
variable {M : Model} {A : Around} {E : Value → Shared → Prop} {s : Shared} {base : Heap} {env : Env} {outer : List Env} {L e : Addr} {Q : Unit → Shared → Prop}
end
/-- an exception in flight leaves as E wants -/
def PassesI (X : Cx) (E : XS) : Prop := ∀ (pins : List (Addr × Obj)) (σ : St) (H : Hp) (s : Shared) (e C : Addr) (od : Option Addr) (T : Addr) (fl : Value), Inv X pins σ H s → H e = some (exO false e C od) → FpOk X pins H T → Fly s.heap e T fl → E σ (.ref C) (some e) H → X.xe (.ref e) s
section
variable {P : Program} {w : World} {K : PySem.W.Frag} {mg : Str → Option Value} {base : Heap} {N : List Str} {qual : Str} {scope : Scope} {f : Addr} {cd : Value} {A : Around} {outer : List Env} {s₀ : Shared} {H₀ : Hp} {E : XK}
end
theorem Fly.but {h h' : Heap} {e T C : Addr} {fl : Value} (F : Fly h e T fl) (hs : Heap.SameBut C h h') (n1 : e ≠ C) (n2 : T ≠ C) : Fly h' e T fl := by
  obtain ⟨oe, vs, oT, ts, he, hd, h1, hT, hdT, h3, hTe⟩ := F
  exact ⟨oe, vs, oT, ts, hs.extBut _ _ n1 he, hd, h1, hs.extBut _ _ n2 hT, hdT, h3, hTe⟩
section
variable {X : Cx} {scope : Scope} {N : List Str} {k : Nat} {cap : List Nat} {tg iter elt : Expr} {ifs : List Expr} {wi : TI} {g : TG} {tt : TT} {te : TE} {pos : Pos}
end
end L2
namespace L2
open PySem PySem.Spec PyProof.Rows
/-! ### defs with defaults, a base class's method by the class's name, two classes for one call -/
/-- a def whose defaults are dV -/
structure FunD (K : PySem.W.Frag) (x qual : Str) (st : Stmt) (f : Addr) (fd : FuncData) (dV : Value) : Prop where
  ex : ∃ (oc : Value) (od : Option Addr) (kV doc pm : Value) (an : Option Addr) (cdv ct : Value) (osl : Array (Option Value)),
    fd = PySem.W.fnOf x qual (defArgs st) (defBody st) (defScope st) dV kV doc pm an cdv ct ∧ K.lookup f = some ⟨oc, od, .func fd, osl⟩ ∧ PySem.W.codeIn K cdv qual = true
  kp : PySem.W.keepIn K (.ref f) = true
section
variable {P : Program} {w : World} {K : PySem.W.Frag} {mg : Str → Option Value} {base : Heap}
theorem FunD.okX {x qual : Str} {st : Stmt} {f : Addr} {fd : FuncData} {dV : Value} {N ps : List Str} {k : Nat} {sp : Sp} (F : FunD K x qual st f fd dV) (S : FnScope N ps (defScope st)) (len : ∀ vs H Q E, sp vs H Q E → vs.length = ps.length)
    (hbody : ∀ (cdv : Value) (A : Around) (outer : List Env) (s : Shared) (H : Hp) (vs : List V) (Q : VK) (E : XK), Room k (A.deeper (envOfC qual (defScope st) s.heap.objs.size f cdv)) → sp vs H Q E →
      ∃ t, PSs (cxOf (CXx P w) P w K mg base N qual (defScope st) f cdv A outer s H E) (defBody st) t ∧ t { nx := fun _ H' => Q .non H', rt := Q } (start N vs) H) : FnOk P w K mg base (CXx P w) (k + 1) f fd ps sp := by
  obtain ⟨oc, od, kV, doc, pm, an, cdv, ct, osl, rfl, lk, hcd⟩ := F.ex
  exact fn_of lk hcd S len fun A outer s H vs Q E hr hsp => hbody cdv A outer s H vs Q E hr hsp
/-- every call of it, the last ds.length values being the defaults' -/
theorem FunD.binds {x qual : Str} {st : Stmt} {f T : Addr} {fd : FuncData} {ps : List Str} {o : Obj} {its : Array Value} {n : Nat} {ds : List Value} (F : FunD K x qual st f fd (.ref T)) (ho : K.lookup T = some o) (hs : o.data = .seq its n)
    (h : ∀ (kV doc pm : Value) (an : Option Addr) (cdv ct : Value) (us : List Value), us.length + ds.length = ps.length → ∃ k : Option (Array Value) → Sem (List (Str × Value)),
      bindArgs (PySem.W.fnOf x qual (defArgs st) (defBody st) (defScope st) (.ref T) kV doc pm an cdv ct) ⟨us, []⟩ = seqItems? (.ref T) >>= k ∧ k (some its) = pure (ps.zip (us ++ ds))) : Binds K fd ps ds := by
  obtain ⟨oc, od, kV, doc, pm, an, cdv, ct, osl, rfl, lk, hcd⟩ := F.ex
  intro s us X hl
  obtain ⟨k, h1, h2⟩ := h kV doc pm an cdv ct us (by rw [← List.length_append]; exact hl)
  exact PySem.W.binds_K X rfl ho hs h1 h2
end
section
variable (P : Program) (w : World) (K : PySem.W.Frag) (mg : Str → Option Value) (base : Heap)
structure DefXd (x : Str) (k : Nat) (ps : List Str) (ds : List Value) (sp : Sp) : Prop where
  ex : ∃ (f : Addr) (fd : FuncData), mg x = some (.ref f) ∧ FnOk P w K mg base (CXx P w) k f fd ps sp ∧ PySem.W.keepIn K (.ref f) = true ∧ Binds K fd ps ds
structure MakeXd (x : Str) (C : Addr) (k : Nat) (ps : List Str) (ds : List Value) (sp : Sp) : Prop where
  ex : ∃ (f : Addr) (fd : FuncData), mg x = some (.ref C) ∧ Mk K C f ∧ FnOk P w K mg base (CXx P w) k f fd ps sp ∧ Binds K fd ps ds
/-- the function that stands in the class C under m -/
structure ClsFn (C : Addr) (m : Str) (f : Addr) : Prop where
  ga : PySem.W.specialIn K (.ref C) "__getattribute__" = some (some (.builtin "type.__getattribute__"))
  rd : PySem.W.readsIn K C (.type "type") = true
  fc : PySem.W.findCls K (.ref C) (.type "type") m = some (.val (.ref f))
  kp : PySem.W.keepIn K (.ref f) = true
structure ClsX (x : Str) (C : Addr) (m : Str) (k : Nat) (ps : List Str) (sp : Sp) : Prop where
  ex : ∃ (f : Addr) (fd : FuncData), mg x = some (.ref C) ∧ ClsFn K C m f ∧ FnOk P w K mg base (CXx P w) k f fd ps sp ∧ Binds K fd ps []
end
def tCallSd (sp : Sp) (E : XS) (dvs : List V) (t : TA) : TE := fun σ H Q => t σ H fun vs H1 => sp (vs ++ dvs) H1 Q (E σ)
def tMakeSd (C : Addr) (sp : Sp) (E : XS) (dvs : List V) (t : TA) : TE := fun σ H Q => t σ H fun vs H1 => ∀ x dx, H1 x = none → H1 dx = none → dx ≠ x →
  sp (.ref x :: (vs ++ dvs)) (upd (upd H1 dx (.own x)) x (.ins C dx [])) (fun v H2 => v = .non ∧ Q (.ref x) H2) (E σ)
def tEither (t1 t2 : TE) : TE := fun σ H Q => t1 σ H Q ∨ t2 σ H Q
section
variable {X : Cx} {k : Nat} {f C : Addr} {fd : FuncData} {ps : List Str} {sp : Sp} {E : XS} {x m : Str} {p pos apos : Pos} {e o : Expr} {es : List Expr} {ta : TE} {t : TA} {ds : List Value} {dvs : List V}
end
end L2
namespace L2
open PySem PySem.Spec PyProof.Rows
/-! ### for a, b in zip(t, l): a tuple (or a list) and a list that the body leaves as they are -/
/-- an iterator over a list or a tuple, at its k-th item -/
def Src (i l : Addr) (its : Array Value) (k : Nat) (h : Heap) : Prop := (h.IsListIter i l k ∧ h.IsList l its) ∨ (h.IsTupleIter i l k ∧ h.IsTuple l its)
theorem Src.lt {i l : Addr} {its : Array Value} {k : Nat} {h : Heap} (x : Src i l its k h) : i < h.objs.size := by
  rcases x with ⟨⟨o, a, b⟩, _⟩ | ⟨⟨o, a, b⟩, _⟩ <;> exact Heap.lt_size a
section
variable {prog : Program} {w : World} {A : Around} {E : Value → Shared → Prop} {s : Shared} {i l : Addr} {its : Array Value} {k : Nat}
theorem tup_next {x : Value} {Q : Value → Shared → Prop} (h1 : s.heap.IsTupleIter i l k) (h2 : s.heap.IsTuple l its) (hx : its[k]? = some x) (hQ : ∀ h', h'.IsTupleIter i l (k + 1) → Heap.SameBut i s.heap h' → Q x { s with heap := h' }) :
    wpAny (model prog w) A (Builtin.SmallTypes.nextOf (.ref i)) Q E s := by
  obtain ⟨o, ho, hc, hd⟩ := id h1
  obtain ⟨ot, hot, _, nt, hdt⟩ := h2
  have S := PySem.F.slot_tuple_iterator_next
  unfold Builtin.SmallTypes.nextOf
  refine wpAny_bind (wpAny_callSpecial?_slot (name := Str.ofString "__next__") h1.typeIs S (wpAny_call_entry S h1.typeIs PySem.F.entry_tuple_iterator_next ?_ (PySem.F.args_tuple_iterator_next_1 _)))
  show wpAny _ _ (field (Value.ref i) 0 >>= _) _ _ s
  refine wpAny_bind (wpAny_field ho hd (x := Value.ref l) rfl ?_)
  show wpAny _ _ (if (Value.ref l == .none) = true then _ else _) _ _ s
  rw [if_neg (by simp)]
  show wpAny _ _ (field (Value.ref i) 1 >>= _) _ _ s
  refine wpAny_bind (wpAny_field ho hd (x := Value.int k 0) rfl ?_)
  show wpAny _ _ (seqItems? (Value.ref l) >>= _) _ _ s
  refine wpAny_bind (wpAny_seqItems hot hdt ?_)
  simp only [Int.toNat_natCast, hx]
  refine wpAny_bind (wpAny_setField ho hd (by simp) (wpAny_pure ⟨x, rfl, wpAny_pure (hQ _ ⟨_, Heap.get?_update_self _ ho (Obj.isFreed_of_fields (Obj.data_mapFields hd _)), (Obj.cls_mapFields ..).trans hc, ?_⟩ (Heap.SameBut.update ..))⟩))
  rw [Obj.data_mapFields hd]
  simp [rawInt]
theorem tup_end {Q : Value → Shared → Prop} (hh : A.handled = none) (h1 : s.heap.IsTupleIter i l k) (h2 : s.heap.IsTuple l its) (hx : its[k]? = none) (hE : ∀ h' e, Heap.ExtBut i s.heap h' → (∃ o, h'.get? e = some o ∧ o.cls = .type "StopIteration") → E (.ref e) { s with heap := h' }) :
    wpAny (model prog w) A (Builtin.SmallTypes.nextOf (.ref i)) Q E s := by
  obtain ⟨o, ho, hc, hd⟩ := id h1
  obtain ⟨ot, hot, _, nt, hdt⟩ := h2
  have S := PySem.F.slot_tuple_iterator_next
  unfold Builtin.SmallTypes.nextOf
  refine wpAny_bind (wpAny_callSpecial?_slot (name := Str.ofString "__next__") h1.typeIs S (wpAny_call_entry S h1.typeIs PySem.F.entry_tuple_iterator_next ?_ (PySem.F.args_tuple_iterator_next_1 _)))
  show wpAny _ _ (field (Value.ref i) 0 >>= _) _ _ s
  refine wpAny_bind (wpAny_field ho hd (x := Value.ref l) rfl ?_)
  show wpAny _ _ (if (Value.ref l == .none) = true then _ else _) _ _ s
  rw [if_neg (by simp)]
  show wpAny _ _ (field (Value.ref i) 1 >>= _) _ _ s
  refine wpAny_bind (wpAny_field ho hd (x := Value.int k 0) rfl ?_)
  show wpAny _ _ (seqItems? (Value.ref l) >>= _) _ _ s
  refine wpAny_bind (wpAny_seqItems hot hdt ?_)
  simp only [Int.toNat_natCast, hx]
  refine wpAny_bind (wpAny_rule (wpAny_bind (wpAny_setField ho hd (by simp) ?_)))
  show wpAny _ _ (newExc (Value.type "StopIteration") [] >>= _) _ _ _
  refine wpAny_bind ?_
  simp only [newExc, newTuple]
  refine wpAny_bind (wpAny_newObj_type ?_ (by size_fits))
  refine wpAny_bind (m := firstArgMember _ _) (wpAny_of_eq (a := Value.none) (by simp only [firstArgMember]; rfl) (wpAny_newObj_type ?_ (by size_fits)))
  simp only [raiseNew]
  refine wpAny_bind (wpAny_handled ?_)
  rw [show A.in1.handled = none from hh]
  exact wpAny_bind (wpAny_pure (wpAny_throw (hE _ _ (((Heap.SameBut.update ..).extBut.push _).push _) ⟨_, Heap.get?_push_size _ rfl, rfl⟩)))
theorem Src.item {x : Value} {Q : Value → Shared → Prop} (S : Src i l its k s.heap) (ne : l ≠ i) (hx : its[k]? = some x) (hQ : ∀ h', Src i l its (k + 1) h' → Heap.SameBut i s.heap h' → Q x { s with heap := h' }) :
    wpAny (model prog w) A (Builtin.SmallTypes.nextOf (.ref i)) Q E s := by
  rcases S with ⟨a, b⟩ | ⟨a, b⟩
  · exact wpAny_nextOf_list_item a b hx fun h' a' sb => hQ h' (.inl ⟨a', let ⟨p, c, d⟩ := b; ⟨p, sb.extBut _ _ ne c, d⟩⟩) sb
  · exact tup_next a b hx fun h' a' sb => hQ h' (.inr ⟨a', let ⟨p, c, d⟩ := b; ⟨p, sb.extBut _ _ ne c, d⟩⟩) sb
theorem Src.fin {Q : Value → Shared → Prop} (hh : A.handled = none) (S : Src i l its k s.heap) (hx : its[k]? = none) (hE : ∀ h' e, Heap.ExtBut i s.heap h' → (∃ o, h'.get? e = some o ∧ o.cls = .type "StopIteration") → E (.ref e) { s with heap := h' }) :
    wpAny (model prog w) A (Builtin.SmallTypes.nextOf (.ref i)) Q E s := by
  rcases S with ⟨a, b⟩ | ⟨a, b⟩
  · exact wpAny_nextOf_list_end hh a b hx hE
  · exact tup_end hh a b hx hE
end
section
variable {prog : Program} {w : World} {A : Around} {E : Value → Shared → Prop} {s : Shared} {z TI TO i1 i2 l1 l2 : Addr} {k1 k2 : Nat} {xs ys : Array Value} {x y a b : Value}
end
/-! zip(t, l) made -/
abbrev zS1 (h : Heap) (t : Addr) : Heap := h.push { cls := .type "tuple_iterator", data := .fields #[.ref t, .int 0 0] }
abbrev zS2 (h : Heap) (t l : Addr) : Heap := (zS1 h t).push { cls := .type "list_iterator", data := .fields #[.ref l, .int 0 0] }
abbrev zS3 (h : Heap) (t l : Addr) : Heap := (zS2 h t l).push { cls := .type "tuple", data := .seq #[.ref h.objs.size, .ref (zS1 h t).objs.size] }
abbrev zS4 (h : Heap) (t l : Addr) : Heap := (zS3 h t l).push { cls := .type "tuple", data := .seq #[.none, .none] }
abbrev zS5 (h : Heap) (t l : Addr) : Heap := (zS4 h t l).push { cls := .type "zip", data := .fields #[.none, .bool false, .bool false, .ref (zS2 h t l).objs.size, .ref (zS3 h t l).objs.size] }
theorem Src.tup {i l : Addr} {its us : Array Value} {k : Nat} {h : Heap} (x : Src i l its k h) (t : h.IsTuple l us) : h.IsTupleIter i l k := by
  rcases x with ⟨_, ⟨p, c, d, _⟩⟩ | ⟨a, _⟩
  · obtain ⟨q, e, f, _⟩ := t
    rw [c] at e; cases e; rw [d] at f; simp at f
  · exact a
theorem Src.lst {i l : Addr} {its us : Array Value} {k : Nat} {h : Heap} (x : Src i l its k h) (t : h.IsList l us) : h.IsListIter i l k := by
  rcases x with ⟨a, _⟩ | ⟨_, ⟨p, c, d, _⟩⟩
  · exact a
  · obtain ⟨q, e, f, _⟩ := t
    rw [c] at e; cases e; rw [d] at f; simp at f
def ItzS (K : PySem.W.Frag) (l1 l2 : Addr) : It :=
  ⟨fun i H => ∃ xs ys x y, SqT K H l1 xs ∧ SqL K H l2 ys ∧ xs[i]? = some x ∧ ys[i]? = some y,
   fun i H v H' => ∃ T x y, H T = none ∧ v = .ref T ∧ H' = upd H T (.tup [x, y]) ∧ (∀ xs, SqT K H l1 xs → xs[i]? = some x) ∧ ∀ ys, SqL K H l2 ys → ys[i]? = some y,
   fun i H => ∃ xs ys, SqT K H l1 xs ∧ SqL K H l2 ys ∧ (xs.length ≤ i ∨ ys.length ≤ i)⟩
def ZipStS (z TI TO i1 i2 l1 l2 : Addr) (i : Nat) (h : Heap) : Prop :=
  IsZip h z TI TO .none ∧ IsPair h TI (.ref i1) (.ref i2) ∧ (∃ a b, IsPair h TO a b) ∧ h.IsTupleIter i1 l1 i ∧ h.IsListIter i2 l2 i
def iZipS (K : PySem.W.Frag) (ta : TA) : TI := fun σ H R => ta σ H fun vs H1 => ∃ l1 l2, vs = [.ref l1, .ref l2] ∧ (∃ xs, SqT K H1 l1 xs) ∧ (∃ ys, SqL K H1 l2 ys) ∧ R (ItzS K l1 l2) H1
end L2
namespace L2
open PySem PySem.Spec PyProof.Rows
/-! ### checks, rows, pieces -/
def tI (n : Int) : Int := n * 128 % 18446744073709551616 + n / 144115188075855872
def flat (rows : List (Nat × Nat)) : List Nat := rows.flatMap fun r => [r.1, r.2]
/-- rows of tuples in the heap -/
structure RowsAt (H : Hp) (L : List V) (rows : List (Nat × Nat)) : Prop where
  len : L.length = rows.length
  get : ∀ (i : Nat) v, L[i]? = some v → ∃ t r, v = V.ref t ∧ rows[i]? = some r ∧ H t = some (.tup [.int (r.1 : Int), .int (r.2 : Int)])
theorem RowsAt.mono {H H' : Hp} {L : List V} {rows : List (Nat × Nat)} (R : RowsAt H L rows) (h : ∀ t xs, H t = some (.tup xs) → H' t = some (.tup xs)) : RowsAt H' L rows :=
  ⟨R.len, fun i v e => let ⟨t, r, a, b, c⟩ := R.get i v e; ⟨t, r, a, b, h t _ c⟩⟩
theorem RowsAt.snoc {H : Hp} {L : List V} {rows : List (Nat × Nat)} (R : RowsAt H L rows) {t : Addr} {r : Nat × Nat} (h : H t = some (.tup [.int (r.1 : Int), .int (r.2 : Int)])) : RowsAt H (L ++ [.ref t]) (rows ++ [r]) :=
  ⟨by simp [R.len], fun i v e => by
    by_cases hi : i < L.length
    · rw [List.getElem?_append_left hi] at e
      obtain ⟨t, r, a, b, c⟩ := R.get i v e
      exact ⟨t, r, a, by rw [List.getElem?_append_left (by rw [← R.len]; exact hi)]; exact b, c⟩
    · rw [List.getElem?_append_right (by omega)] at e
      have hi2 : i - L.length = 0 := by
        have := (List.getElem?_eq_some_iff.mp e).1
        simp at this; omega
      rw [hi2] at e
      have e : V.ref t = v := by simpa using e
      refine ⟨t, r, e.symm, ?_, h⟩
      rw [List.getElem?_append_right (by rw [← R.len]; omega), ← R.len, hi2]; rfl⟩
def pfs (wh : Bool) (b d : Nat) (r : Addr) (c : Int) (f : Bool) : List (Str × V) := match wh with
  | true => [("day", V.int (d : Int)), ("rows", V.ref r), ("check", V.int c), ("fits", V.bl f)]
  | false => [("day", V.int (d : Int)), ("rows", V.ref r), ("check", V.int c), ("fits", V.bl f), ("base", V.int (b : Int))]
/-- the number that goes into the check for the start -/
def stN (wh : Bool) (b : Nat) : Nat := cond wh 0 (b + 1)
def ckOf (wh : Bool) (b d : Nat) (rows : List (Nat × Nat)) : Nat := Chk.chk (stN wh b :: d :: flat rows)
/-- a piece: a whole one of the class CW, a gain of CG; its base, day, rows, check -/
def PAt (CW CG : Addr) (H : Hp) (p : Addr) (wh : Bool) (b d : Nat) (rows : List (Nat × Nat)) (c : Int) : Prop :=
  ∃ dx r R, H p = some (.ins (cond wh CW CG) dx (pfs wh b d r c (decide (c = (ckOf wh b d rows : Nat))))) ∧ H r = some (.tup R) ∧ RowsAt H R rows
theorem PAt.keep {CW CG : Addr} {H H' : Hp} {p : Addr} {wh : Bool} {b d : Nat} {rows : List (Nat × Nat)} {c : Int} (h : PAt CW CG H p wh b d rows c) (s : Same H H') : PAt CW CG H' p wh b d rows c := by
  obtain ⟨dx, r, R, h1, h2, h3⟩ := h
  exact ⟨dx, r, R, s _ _ h1, s _ _ h2, h3.mono fun t xs e => s _ _ e⟩
/-! the promises of the checks and pieces -/
def sp_turned : Sp := fun vs H Q _ => ∃ n : Int, vs = [.int n] ∧ Q (.int (tI n)) H
def sp_check : Sp := fun vs H Q _ => ∃ (s d : Nat) (a : Addr) (L : List V) (rows : List (Nat × Nat)), vs = [.int ((s : Int) - 1), .int (d : Int), .ref a] ∧ (H a = some (.lst L) ∨ H a = some (.tup L)) ∧ RowsAt H L rows ∧ rows.length ≤ 100 ∧ ∀ H', Same H H' → Q (.int (Chk.chk (s :: d :: flat rows) : Nat)) H'
def sp_lawcheck : Sp := fun vs H Q _ => ∃ (s d : Nat) (a : Addr) (L : List V) (rows : List (Nat × Nat)), vs = [.int ((s : Int) - 1), .int (d : Int), .ref a] ∧ H a = some (.lst L) ∧ RowsAt H L rows ∧ rows.length ≤ 100 ∧ ∀ H', Same H H' → Q (.int (Chk.chk (s :: d :: flat rows) : Nat)) H'
def sp_pinit (K : PySem.W.Frag) : Sp := fun vs H Q _ => ∃ (p C dx a : Addr) (s d : Nat) (L : List V) (rows : List (Nat × Nat)) (cv : V) (c : Int), vs = [.ref p, .int ((s : Int) - 1), .int (d : Int), .ref a, cv] ∧ H p = some (.ins C dx []) ∧ Cls K C ∧ NoAttr K C "day" ∧ NoAttr K C "rows" ∧ NoAttr K C "check" ∧ NoAttr K C "fits" ∧
  (H a = some (.lst L) ∨ H a = some (.tup L)) ∧ RowsAt H L rows ∧ rows.length ≤ 100 ∧ ((cv = .non ∧ c = (Chk.chk (s :: d :: flat rows) : Nat)) ∨ cv = .int c) ∧
  ∀ r R H', H' p = some (.ins C dx [("day", V.int (d : Int)), ("rows", V.ref r), ("check", V.int c), ("fits", V.bl (decide (c = (Chk.chk (s :: d :: flat rows) : Nat))))]) → H' r = some (.tup R) → RowsAt H' R rows → Keep [p] H H' → Q .non H'
def sp_winit (CW CG : Addr) : Sp := fun vs H Q _ => ∃ (p dx a : Addr) (d : Nat) (L : List V) (rows : List (Nat × Nat)) (cv : V) (c : Int), vs = [.ref p, .int (d : Int), .ref a, cv] ∧ H p = some (.ins CW dx []) ∧
  (H a = some (.lst L) ∨ H a = some (.tup L)) ∧ RowsAt H L rows ∧ rows.length ≤ 100 ∧ ((cv = .non ∧ c = (ckOf true 0 d rows : Nat)) ∨ cv = .int c) ∧ ∀ H', PAt CW CG H' p true 0 d rows c → Keep [p] H H' → Q .non H'
def sp_ginit (CW CG : Addr) : Sp := fun vs H Q _ => ∃ (p dx a : Addr) (b d : Nat) (L : List V) (rows : List (Nat × Nat)) (cv : V) (c : Int), vs = [.ref p, .int (b : Int), .int (d : Int), .ref a, cv] ∧ H p = some (.ins CG dx []) ∧
  (H a = some (.lst L) ∨ H a = some (.tup L)) ∧ RowsAt H L rows ∧ rows.length ≤ 100 ∧ ((cv = .non ∧ c = (ckOf false b d rows : Nat)) ∨ cv = .int c) ∧ ∀ H', PAt CW CG H' p false b d rows c → Keep [p] H H' → Q .non H'
def sp_size (CW CG : Addr) : Sp := fun vs H Q _ => ∃ (p : Addr) (wh : Bool) (b d : Nat) (rows : List (Nat × Nat)) (c : Int), vs = [.ref p] ∧ PAt CW CG H p wh b d rows c ∧ Q (.int (rows.length : Int)) H
def sp_good (CW CG : Addr) : Sp := fun vs H Q _ => ∃ (p : Addr) (wh : Bool) (b d : Nat) (rows : List (Nat × Nat)) (c : Int), vs = [.ref p] ∧ PAt CW CG H p wh b d rows c ∧ rows.length ≤ 100 ∧ ∀ H', Same H H' → Q (.bl (decide (c = (ckOf wh b d rows : Nat)))) H'
def sp_wstart : Sp := fun vs H Q _ => ∃ p : Addr, vs = [.ref p] ∧ Q (.int (-1)) H
def sp_gstart (CW CG : Addr) : Sp := fun vs H Q _ => ∃ (p : Addr) (b d : Nat) (rows : List (Nat × Nat)) (c : Int), vs = [.ref p] ∧ PAt CW CG H p false b d rows c ∧ Q (.int (b : Int)) H
def sp_wkind : Sp := fun vs H Q _ => ∃ p : Addr, vs = [.ref p] ∧ Q (.str (Str.ofString "whole")) H
def sp_gkind : Sp := fun vs H Q _ => ∃ p : Addr, vs = [.ref p] ∧ Q (.str (Str.ofString "gain")) H
end L2
namespace L2
open PySem PySem.Spec PyProof.Rows
/-! ### sorted(xs), sorted(d): fewer than 64 ints -/
theorem vals_of : ∀ {us : List Value} {ns : List Int}, IntsAre us ns → Vals (ns.map V.int) us
  | _, _, .nil => .nil
  | _, _, .cons _ t r => .cons ⟨t, rfl⟩ (vals_of r)
theorem ints_len {us : List Value} {ns : List Int} (h : IntsAre us ns) : us.length = ns.length := by
  have := (vals_of h).length
  rw [List.length_map] at this
  exact this.symm
theorem objOk_there {P : Program} {w : World} {H : Hp} {h : Heap} {a : Addr} {o : HO} (x : ObjOk P w H h a o) : ∃ ob, h.get? a = some ob := by
  cases o with
  | lst xs => obtain ⟨_, _, _, _, e⟩ := x; exact ⟨_, e⟩
  | tup xs => obtain ⟨_, _, _, ob, e, _⟩ := x; exact ⟨_, e⟩
  | dK kvs => obtain ⟨_, _, _, _, o, _, _, e, _⟩ := x; exact ⟨_, e⟩
  | dT kvs => obtain ⟨_, _, _, _, o, _, _, e, _⟩ := x; exact ⟨_, e⟩
  | set S n => obtain ⟨o, _, _, _, e, _⟩ := x; exact ⟨_, e⟩
  | ins C dx fs => obtain ⟨_, _, _, e, _⟩ := x; exact ⟨_, e⟩
  | own y => exact x
  | xd fs => obtain ⟨_, ⟨_, _, _, e, _⟩, _⟩ := x; exact ⟨_, e⟩
  | rng lo hi => obtain ⟨_, _, _, e⟩ := x; exact ⟨_, e⟩
  | frz ob u => exact ⟨_, x.1⟩
  | tbl ps => exact ⟨_, x⟩
  | met f y => exact ⟨_, x⟩
  | ext φ => exact x.2.1
section
variable {X : Cx} {pins : List (Addr × Obj)} {σ : St} {H : Hp} {s : Shared}
/-- a list laid where nothing stood -/
theorem Inv.laidAt {a : Addr} {h' : Heap} {t' : Nat} {vs : List V} (I : Inv X pins σ H s) (hn : s.heap.get? a = none) (k : ∀ b o, s.heap.get? b = some o → h'.get? b = some o) (new : ObjOk X.prog X.w (upd H a (.lst vs)) h' a (.lst vs)) :
    ∃ _ : H a = none, Inv X pins σ (upd H a (.lst vs)) { s with heap := h', toks := t' } ∧ True := by
  have hHn : H a = none := by
    cases z : H a with
    | none => rfl
    | some o =>
      obtain ⟨ob, hob⟩ := objOk_there (I.hok a o z)
      rw [hn] at hob; cases hob
  refine ⟨hHn, ?_, trivial⟩
  have na : ∀ b o, s.heap.get? b = some o → b ≠ a := fun b o e z => by rw [z, hn] at e; cases e
  have hu : Un X.fs [] H (upd H a (.lst vs)) s.heap h' := by
    refine ⟨fun b o e _ _ _ => k b o e, fun b o e _ _ _ => ⟨o.slots, k b o e⟩, fun b o e n _ => ?_, fun b o e _ => ⟨o, k b o e⟩, fun b xs e => ?_, fun b o u e => ?_, fun b ps e => ⟨#[], ?_⟩⟩
    · rw [upd_ne (na b o e)]; exact n
    · rw [upd_ne (ne_of_none e hHn)]; exact e
    · rw [upd_ne (ne_of_none e hHn)]; exact e
    · rw [upd_ne (ne_of_none e hHn), e]; simp
  refine I.un hu fun b o e => ?_
  by_cases z : b = a
  · subst z; rw [upd_same] at e; cases e; exact new
  · rw [upd_ne z] at e
    exact (I.hok b o e).stay (fun c v _ q => k c v q) (fun c q => by rw [upd_ne (ne_of_none q hHn)]; exact q) fun c xs q => by rw [upd_ne (ne_of_none q hHn)]; exact q
end
section
variable {X : Cx}
end
end L2
namespace L2
open PySem PySem.Spec PyProof.Rows
/-! ### a shelf on the abstract heap -/
def sfs (d : Addr) (fl : Int) : List (Str × V) := [("pieces", V.ref d), ("follows", V.int fl)]
def ShAt (C : Addr) (H : Hp) (p d : Addr) (fl : Int) (kvs : List (Key × V)) : Prop := ∃ dx, H p = some (.ins C dx (sfs d fl)) ∧ H d = some (.dK kvs)
theorem ShAt.keep {C : Addr} {H H' : Hp} {p d : Addr} {fl : Int} {kvs : List (Key × V)} (h : ShAt C H p d fl kvs) (s : Same H H') : ShAt C H' p d fl kvs := by
  obtain ⟨dx, h1, h2⟩ := h
  exact ⟨dx, s _ _ h1, s _ _ h2⟩
def sp_sinit (C : Addr) : Sp := fun vs H Q _ => ∃ (p dx : Addr), vs = [.ref p] ∧ H p = some (.ins C dx []) ∧ ∀ d H', ShAt C H' p d 0 [] → H d = none → Keep [p] H H' → Q .non H'
def sp_lay (C : Addr) : Sp := fun vs H Q _ => ∃ (p d : Addr) (fl : Int) (kvs : List (Key × V)) (n : Int) (a : Addr), vs = [.ref p, .int n, .ref a] ∧ ShAt C H p d fl kvs ∧ kvs.length < 1000 ∧
  ∀ H', ShAt C H' p d (if n + 1 > fl then n + 1 else fl) (putK kvs (.inl n) (.ref a)) → Keep [p, d] H H' → Q .non H'
def sp_put (C : Addr) : Sp := fun vs H Q _ => ∃ (p d : Addr) (fl : Int) (kvs : List (Key × V)) (a : Addr), vs = [.ref p, .ref a] ∧ ShAt C H p d fl kvs ∧ kvs.length < 1000 ∧
  ∀ H', ShAt C H' p d (fl + 1) (putK kvs (.inl fl) (.ref a)) → Keep [p, d] H H' → Q (.int fl) H'
def sp_piece (C CN : Addr) : Sp := fun vs H Q E => ∃ (p d : Addr) (fl : Int) (kvs : List (Key × V)) (n : Int), vs = [.ref p, .int n] ∧ ShAt C H p d fl kvs ∧ (∀ v, valV kvs (.inl n) = some v → Q v H) ∧
  (valV kvs (.inl n) = none → ∀ e H', ExcAt H' e CN [("number", .int n)] → Same H H' → E (.ref CN) (some e) H')
def sp_drop (C CN : Addr) : Sp := fun vs H Q E => ∃ (p d : Addr) (fl : Int) (kvs : List (Key × V)) (n : Int), vs = [.ref p, .int n] ∧ ShAt C H p d fl kvs ∧
  (∀ v, valV kvs (.inl n) = some v → ∀ H', ShAt C H' p d fl (dropK kvs (.inl n)) → Keep [p, d] H H' → Q v H') ∧
  (valV kvs (.inl n) = none → ∀ e H', ExcAt H' e CN [("number", .int n)] → Same H H' → E (.ref CN) (some e) H')
end L2
namespace L2
open PySem PySem.Spec PyProof.Rows
def wayGo (M : Int → Option (Int × Int)) : Int → List Int → Option Int
  | at', [] => some at'
  | at', n :: r => match M n with
    | none => none
    | some (s, d) => if s = at' then wayGo M d r else none
def wayB (M : Int → Option (Int × Int)) (way : List Int) (day : Int) : Bool := !way.isEmpty && decide (wayGo M (-1) way = some day)
def PRep (CW CG : Addr) (H : Hp) (v : V) (s d : Int) : Prop := ∃ (a : Addr) (wh : Bool) (b dd : Nat) (rows : List (Nat × Nat)) (c : Int), v = .ref a ∧ PAt CW CG H a wh b dd rows c ∧ d = (dd : Int) ∧ s = (stN wh b : Int) - 1
def SRep (CW CG : Addr) (H : Hp) (kvs : List (Key × V)) (M : Int → Option (Int × Int)) : Prop := ∀ n : Int, match M n with
  | none => valV kvs (Sum.inl n) = none
  | some (s, d) => ∃ v, valV kvs (Sum.inl n) = some v ∧ PRep CW CG H v s d
theorem SRep.keep {CW CG : Addr} {H H' : Hp} {kvs : List (Key × V)} {M : Int → Option (Int × Int)} (h : SRep CW CG H kvs M) (s : Same H H') : SRep CW CG H' kvs M := fun n => by
  have := h n
  cases e : M n with
  | none => rw [e] at this; exact this
  | some sd =>
    rw [e] at this
    obtain ⟨v, hv, a, wh, b, dd, rows, c, h1, h2, h3, h4⟩ := this
    exact ⟨v, hv, a, wh, b, dd, rows, c, h1, h2.keep s, h3, h4⟩
theorem get_at {xs : List Int} {j : Nat} (h : j < xs.length) : ∃ x, (xs.map V.int)[j]? = some (V.int x) ∧ x ∈ xs := ⟨xs[j], by simp [h], List.getElem_mem h⟩
def AI (n : Nat) (L : List V) : Prop := ∃ ys : List Int, L = ys.map V.int ∧ ys.length ≤ n
theorem AI.len {n : Nat} {L : List V} (h : AI n L) : L.length ≤ n := by
  obtain ⟨ys, rfl, h⟩ := h; rw [List.length_map]; exact h
theorem AI.one (o : Int) : AI 1 [V.int o] := ⟨[o], rfl, by simp⟩

theorem SeqEq.ints {K : PySem.W.Frag} {H : Hp} {a c : Addr} {xs ys : List Int} (h1 : SqL K H a (xs.map V.int)) (h2 : SqL K H c (ys.map V.int)) : SeqEq K H (EqI K H 0) (.ref a) (.ref c) (decide (xs = ys)) := by
  by_cases hl : xs.length = ys.length
  · refine ⟨a, c, _, _, fun j => decide (xs[j]? = ys[j]?), rfl, rfl, .inl ⟨h1, h2, by simpa using hl, fun j x' y' e1 e2 => ?_, ?_⟩⟩
    · rw [List.getElem?_map] at e1 e2
      obtain ⟨x, ex, rfl⟩ := Option.map_eq_some_iff.mp e1
      obtain ⟨y, ey, rfl⟩ := Option.map_eq_some_iff.mp e2
      refine .inl ⟨rfl, rfl, ?_⟩
      show decide (xs[j]? = ys[j]?) = eqV (.int x) (.int y)
      rw [ex, ey]
      show decide (some x = some y) = (x == y)
      rw [Bool.eq_iff_iff, decide_eq_true_iff, beq_iff_eq]
      exact ⟨fun h => Option.some.inj h, fun h => by rw [h]⟩
    · rw [List.length_map, Bool.eq_iff_iff, decide_eq_true_iff, List.all_eq_true]
      constructor
      · rintro rfl j _; simp
      · intro h
        refine List.ext_getElem? fun j => ?_
        by_cases hj : j < xs.length
        · exact of_decide_eq_true (h j (List.mem_range.mpr hj))
        · rw [List.getElem?_eq_none (by omega), List.getElem?_eq_none (by omega)]
  · refine ⟨a, c, _, _, fun _ => true, rfl, rfl, .inr (.inl ⟨h1, h2, by simpa using hl, ?_⟩)⟩
    exact decide_eq_false (fun e => hl (by rw [e]))
/-! ### dicts with int keys -/
theorem valV_drop (kvs : List (Key × V)) (k j : Key) : valV (dropK kvs k) j = if j = k then none else valV kvs j := by
  induction kvs with
  | nil => show none = _; split <;> rfl
  | cons p r ih =>
    have e : dropK (p :: r) k = if p.1 = k then dropK r k else p :: dropK r k := by
      unfold dropK; rw [List.filter_cons]; by_cases h : p.1 = k <;> simp [h]
    rw [e]
    by_cases h : p.1 = k
    · rw [if_pos h, ih]
      by_cases hj : j = k
      · rw [if_pos hj, if_pos hj]
      · rw [if_neg hj, if_neg hj, valV_neg (fun z => hj (z.symm.trans h))]
    · rw [if_neg h]
      by_cases hp : p.1 = j
      · rw [valV_pos hp, valV_pos hp, if_neg (fun z => h (hp.trans z))]
      · rw [valV_neg hp, valV_neg hp, ih]
def AllI (lkv : List (Key × V)) : Prop := ∀ kv ∈ lkv, ∃ n : Int, kv.1 = Sum.inl n
theorem AllI.nil : AllI [] := fun _ h => by cases h
theorem AllI.put {kvs : List (Key × V)} (h : AllI kvs) (n : Int) (v : V) : AllI (putK kvs (Sum.inl n) v) := fun kv hm => by
  unfold putK at hm
  split at hm
  · obtain ⟨kv', h1, rfl⟩ := List.mem_map.mp hm
    obtain ⟨m, e⟩ := h kv' h1
    split
    · exact ⟨m, e⟩
    · exact ⟨m, e⟩
  · rcases List.mem_append.mp hm with h1 | h1
    · exact h kv h1
    · have : kv = (Sum.inl n, v) := by simpa using h1
      exact ⟨n, by rw [this]⟩
theorem AllI.drop {kvs : List (Key × V)} (h : AllI kvs) (k : Key) : AllI (dropK kvs k) := fun kv hm => h kv (List.mem_filter.mp hm).1
theorem AllI.ints : ∀ {kvs : List (Key × V)}, AllI kvs → ∃ ns : List Int, kvs.map (·.1) = ns.map Sum.inl ∧ ns.length = kvs.length
  | [], _ => ⟨[], rfl, rfl⟩
  | kv :: r, h => by
    obtain ⟨n, e⟩ := h kv (List.mem_cons_self ..)
    obtain ⟨ns, e1, e2⟩ := AllI.ints (kvs := r) fun x hx => h x (List.mem_cons_of_mem _ hx)
    exact ⟨n :: ns, by simp [e, e1], by simp [e2]⟩
abbrev Lies := Int → Option (Int × Int)
def mput (M : Lies) (n : Int) (x : Option (Int × Int)) : Lies := fun m => if m = n then x else M m
theorem mput_eq {M : Lies} {n : Int} {x : Option (Int × Int)} : mput M n x n = x := if_pos rfl
theorem mput_ne {M : Lies} {n m : Int} {x : Option (Int × Int)} (h : m ≠ n) : mput M n x m = M m := if_neg h
/-- the law's own dict: the start and the day of each number -/
def LRep (H : Hp) (lkv : List (Key × V)) (M : Lies) : Prop := ∀ n : Int, match M n with
  | none => valV lkv (Sum.inl n) = none
  | some (s, d) => ∃ t, valV lkv (Sum.inl n) = some (.ref t) ∧ H t = some (.tup [.int s, .int d])
theorem LRep.mono {H H' : Hp} {lkv : List (Key × V)} {M : Lies} (h : LRep H lkv M) (s : ∀ t xs, H t = some (.tup xs) → H' t = some (.tup xs)) : LRep H' lkv M := fun n => by
  have := h n
  cases e : M n with
  | none => rw [e] at this; exact this
  | some sd =>
    rw [e] at this
    obtain ⟨t, hv, ht⟩ := this
    exact ⟨t, hv, s t _ ht⟩
theorem LRep.put {H : Hp} {lkv : List (Key × V)} {M : Lies} (h : LRep H lkv M) {n s d : Int} {t : Addr} (ht : H t = some (.tup [.int s, .int d])) : LRep H (putK lkv (Sum.inl n) (.ref t)) (mput M n (some (s, d))) := fun m => by
  by_cases e : m = n
  · subst e; rw [mput_eq]; exact ⟨t, by rw [valV_put, if_pos rfl], ht⟩
  · rw [mput_ne e, valV_put, if_neg (fun z => e (Sum.inl.inj z))]; exact h m
theorem LRep.drop {H : Hp} {lkv : List (Key × V)} {M : Lies} (h : LRep H lkv M) (n : Int) : LRep H (dropK lkv (Sum.inl n)) (mput M n none) := fun m => by
  by_cases e : m = n
  · subst e; rw [mput_eq]; show valV _ _ = none; rw [valV_drop, if_pos rfl]
  · rw [mput_ne e, valV_drop, if_neg (fun z => e (Sum.inl.inj z))]; exact h m
theorem SRep.put {CW CG : Addr} {H : Hp} {kvs : List (Key × V)} {M : Lies} (h : SRep CW CG H kvs M) {n s d : Int} {v : V} (hv : PRep CW CG H v s d) : SRep CW CG H (putK kvs (Sum.inl n) v) (mput M n (some (s, d))) := fun m => by
  by_cases e : m = n
  · subst e; rw [mput_eq]; exact ⟨v, by rw [valV_put, if_pos rfl], hv⟩
  · rw [mput_ne e, valV_put, if_neg (fun z => e (Sum.inl.inj z))]; exact h m
theorem SRep.drop {CW CG : Addr} {H : Hp} {kvs : List (Key × V)} {M : Lies} (h : SRep CW CG H kvs M) (n : Int) : SRep CW CG H (dropK kvs (Sum.inl n)) (mput M n none) := fun m => by
  by_cases e : m = n
  · subst e; rw [mput_eq]; show valV _ _ = none; rw [valV_drop, if_pos rfl]
  · rw [mput_ne e, valV_drop, if_neg (fun z => e (Sum.inl.inj z))]; exact h m
/-- cells that are no part of a piece -/
def NoPart (H : Hp) (F : List Addr) : Prop := ∀ x ∈ F, (∃ kv, H x = some (.dK kv)) ∨ (∃ C dx d fl, H x = some (.ins C dx (sfs d fl)))
theorem NoPart.tup {H : Hp} {F : List Addr} (h : NoPart H F) {t : Addr} {xs : List V} (e : H t = some (.tup xs)) : t ∉ F := fun hm => by
  rcases h t hm with ⟨kv, e'⟩ | ⟨C, dx, d, fl, e'⟩ <;> (rw [e] at e'; cases e')
theorem NoPart.lst {H : Hp} {F : List Addr} (h : NoPart H F) {t : Addr} {xs : List V} (e : H t = some (.lst xs)) : t ∉ F := fun hm => by
  rcases h t hm with ⟨kv, e'⟩ | ⟨C, dx, d, fl, e'⟩ <;> (rw [e] at e'; cases e')
theorem NoPart.seq {K : PySem.W.Frag} {H H' : Hp} {F : List Addr} (hF : NoPart H F) (k : Keep F H H') {a : Addr} {xs : List V} (h : SqL K H a xs) : SqL K H' a xs := by
  rcases h with (h | ⟨o, h⟩) | h
  · exact .inl (.inl (k _ _ h (hF.lst h)))
  · refine .inl (.inr ⟨o, k _ _ h (fun hm => ?_)⟩)
    rcases hF _ hm with ⟨kv, e⟩ | ⟨C, dx, d, fl, e⟩ <;> (rw [h] at e; cases e)
  · exact .inr h
theorem PRep.keep {CW CG : Addr} {H H' : Hp} {v : V} {s d : Int} (h : PRep CW CG H v s d) (k : Same H H') : PRep CW CG H' v s d := by
  obtain ⟨a, wh, b, dd, rows, c, h1, h2, h3, h4⟩ := h
  exact ⟨a, wh, b, dd, rows, c, h1, h2.keep k, h3, h4⟩
theorem ShAt.part {C : Addr} {H : Hp} {p d : Addr} {fl : Int} {kvs : List (Key × V)} (h : ShAt C H p d fl kvs) : NoPart H [p, d] := fun x hx => by
  obtain ⟨dx, h1, h2⟩ := h
  simp only [List.mem_cons, List.not_mem_nil, or_false] at hx
  rcases hx with rfl | rfl
  · exact .inr ⟨C, dx, _, _, h1⟩
  · exact .inl ⟨_, h2⟩
theorem NoPart.one {H : Hp} {a : Addr} {kv : List (Key × V)} (h : H a = some (.dK kv)) : NoPart H [a] := fun x hx => by
  have : x = a := by simpa using hx
  subst this; exact .inl ⟨_, h⟩
/-! ### a way, by its starts and ends -/
theorem at_in {xs : List Int} {k : Int} (h0 : 0 ≤ k) (h1 : k < xs.length) : ∃ y, atI (xs.map V.int) k = some (V.int y) ∧ y ∈ xs := by
  obtain ⟨j, rfl⟩ : ∃ j : Nat, k = (j : Int) := ⟨k.toNat, by omega⟩
  obtain ⟨y, ey, hm⟩ := get_at (xs := xs) (j := j) (by omega)
  exact ⟨y, atI_nat ey, hm⟩
theorem int_at {xs : List Int} {j : Nat} {y : V} (h : (xs.map V.int)[j]? = some y) : ∃ n, xs[j]? = some n ∧ V.int n = y := by
  rw [List.getElem?_map] at h
  obtain ⟨c, h1, h2⟩ := Option.map_eq_some_iff.mp h
  exact ⟨c, h1, h2⟩
end L2
namespace L2
open PySem PySem.Spec PyProof.Rows
/-! ### for k, x in enumerate(xs): a list or a tuple that the body leaves as it is -/
def SqB (K : PySem.W.Frag) (tu : Bool) (H : Hp) (l : Addr) (xs : List V) : Prop := cond tu (SqT K H l xs) (SqL K H l xs)
def IterB (tu : Bool) (h : Heap) (it l : Addr) (i : Nat) : Prop := cond tu (h.IsTupleIter it l i) (h.IsListIter it l i)
def HasB (tu : Bool) (h : Heap) (l : Addr) (us : Array Value) : Prop := cond tu (h.IsTuple l us) (h.IsList l us)
theorem IterB.obj {tu : Bool} {h : Heap} {it l : Addr} {i : Nat} (a : IterB tu h it l i) : ∃ o, h.get? it = some o ∧ ∀ v, o.data ≠ .cell v := by
  cases tu <;> (obtain ⟨o, e, _, d⟩ := a; exact ⟨o, e, fun v q => by rw [d] at q; cases q⟩)
theorem HasB.lt {tu : Bool} {h : Heap} {l : Addr} {us : Array Value} (a : HasB tu h l us) : l < h.objs.size := by
  cases tu <;> (obtain ⟨o, e, r⟩ := a; exact Heap.lt_size e)
theorem SqB.items {X : Cx} {pins : List (Addr × Obj)} {σ : St} {H : Hp} {s : Shared} {tu : Bool} {l : Addr} {xs : List V} (I : Inv X pins σ H s) (h : SqB X.K tu H l xs) : ∃ us : List Value, Vals xs us ∧ HasB tu s.heap l us.toArray := by
  cases tu
  · obtain ⟨us, r, p, _⟩ := I.list h
    exact ⟨us, r, p.isList⟩
  · obtain ⟨us, r, p, _⟩ := I.tuple h
    exact ⟨us, r, p⟩
theorem SqB.inj {X : Cx} {pins : List (Addr × Obj)} {σ : St} {H : Hp} {s : Shared} {tu : Bool} {l : Addr} {xs ys : List V} (I : Inv X pins σ H s) (h : SqB X.K tu H l xs) (h' : SqB X.K tu H l ys) : xs = ys := by
  cases tu
  · exact I.list_inj h h'
  · exact I.tuple_inj h h'
def Ite (K : PySem.W.Frag) (tu : Bool) (l : Addr) : It :=
  ⟨fun i H => ∃ xs x, SqB K tu H l xs ∧ xs[i]? = some x,
   fun i H v H' => ∃ T x, H T = none ∧ v = .ref T ∧ H' = upd H T (.tup [.int (i : Int), x]) ∧ ∀ xs, SqB K tu H l xs → xs[i]? = some x,
   fun i H => ∃ xs, SqB K tu H l xs ∧ xs.length = i⟩
def EnSt (tu : Bool) (e it l : Addr) (i : Nat) (h : Heap) : Prop := (∃ old, IsEnum h e it (i : Int) old) ∧ IterB tu h it l i
/-! enumerate(t) made -/
def iEnum (K : PySem.W.Frag) (tu : Bool) (ta : TA) : TI := fun σ H R => ta σ H fun vs H1 => ∃ l, vs = [.ref l] ∧ (∃ xs, SqB K tu H1 l xs) ∧ R (Ite K tu l) H1
end L2
namespace L2
open PySem PySem.Spec PyProof.Rows
/-! ### words of a plan, tasks on the heap -/
abbrev wN : PySem.Str := PySem.Str.ofString "none"
abbrev wW : PySem.Str := PySem.Str.ofString "whole"
abbrev wS : PySem.Str := PySem.Str.ofString "since"
abbrev wL : PySem.Str := PySem.Str.ofString "last"
theorem SqB.len {K : PySem.W.Frag} {tu : Bool} {H : Hp} {l : Addr} {xs : List V} (h : SqB K tu H l xs) : SqL K H l xs ∨ SqT K H l xs := by
  cases tu
  · exact .inl h
  · exact .inr h
theorem SqB.same {K : PySem.W.Frag} {tu : Bool} {H H' : Hp} {l : Addr} {xs : List V} (h : SqB K tu H l xs) (s : Same H H') : SqB K tu H' l xs := by
  cases tu
  · exact s.seq h
  · rcases h with (h | ⟨o, h⟩) | h
    · exact .inl (.inl (s _ _ h))
    · exact .inl (.inr ⟨o, s _ _ h⟩)
    · exact .inr h
def lastGo (p : PySem.Str → Bool) : List PySem.Str → Option Nat
  | [] => none
  | w :: r => if p w = true then some r.length else lastGo p r
/-- the last place at which p holds -/
def lastIx (p : PySem.Str → Bool) (ws : List PySem.Str) : Option Nat := lastGo p ws.reverse
theorem lastIx_snoc (p : PySem.Str → Bool) (ws : List PySem.Str) (w : PySem.Str) : lastIx p (ws ++ [w]) = if p w = true then some ws.length else lastIx p ws := by
  unfold lastIx
  rw [List.reverse_append]
  show lastGo p (w :: ws.reverse) = _
  unfold lastGo
  rw [List.length_reverse]
  cases ws.reverse <;> rfl
def isW (w : PySem.Str) : Bool := decide (w = wW)
def isK (w : PySem.Str) : Bool := decide (w ≠ wN)
/-- the words for a day of the weight wt behind ws -/
def nextW (wt : Int) (ws : List PySem.Str) : List PySem.Str := (if wt = 0 then [wN, wW] else [wW]) ++ ((if lastIx isW ws = none then [] else [wS]) ++ (if lastIx isK ws = none then [] else [wL]))
def nextWs (weights : List Int) (ws : List PySem.Str) : List PySem.Str := match weights[ws.length]? with
  | none => []
  | some wt => nextW wt ws
/-- what bases_behind tells -/
structure BasesOk (kvs : List (Key × V)) (ws : List PySem.Str) : Prop where
  w : valV kvs (Sum.inr wW) = some (.int (-1))
  s : valV kvs (Sum.inr wS) = (lastIx isW ws).map fun i => V.int (i : Int)
  l : valV kvs (Sum.inr wL) = (lastIx isK ws).map fun i => V.int (i : Int)
  n : valV kvs (Sum.inr wN) = none
structure RowsTu (H : Hp) (L : List Addr) (xss : List (List Int)) : Prop where
  len : L.length = xss.length
  get : ∀ (i : Nat) a xs, L[i]? = some a → xss[i]? = some xs → H a = some (.tup (xs.map V.int))
theorem RowsTu.keep {H H' : Hp} {L : List Addr} {xss : List (List Int)} (R : RowsTu H L xss) (h : ∀ t xs, H t = some (.tup xs) → H' t = some (.tup xs)) : RowsTu H' L xss :=
  ⟨R.len, fun i a xs e1 e2 => h _ _ (R.get i a xs e1 e2)⟩
theorem RowsTu.snoc {H : Hp} {L : List Addr} {xss : List (List Int)} (R : RowsTu H L xss) {a : Addr} {xs : List Int} (h : H a = some (.tup (xs.map V.int))) : RowsTu H (L ++ [a]) (xss ++ [xs]) :=
  ⟨by simp [R.len], fun i b ys e1 e2 => by
    have l := R.len
    by_cases hi : i < L.length
    · rw [List.getElem?_append_left hi] at e1
      rw [List.getElem?_append_left (by omega)] at e2
      exact R.get i b ys e1 e2
    · rw [List.getElem?_append_right (by omega)] at e1
      rw [List.getElem?_append_right (by omega)] at e2
      have hz : i - L.length = 0 := by have := (List.getElem?_eq_some_iff.mp e1).1; simp at this; omega
      rw [hz] at e1
      rw [show i - xss.length = 0 by omega] at e2
      have e1 : a = b := by simpa using e1
      have e2 : xs = ys := by simpa using e2
      subst e1 e2
      exact h⟩
def tfs (a b c : Addr) : List (Str × V) := [("sizes", V.ref a), ("weights", V.ref b), ("rates", V.ref c)]
def TaskAt (C : Addr) (H : Hp) (p : Addr) (sizes : List (List Int)) (weights rates : List Int) : Prop :=
  ∃ dx t1 t2 t3 TL, H p = some (.ins C dx (tfs t1 t2 t3)) ∧ H t1 = some (.tup (TL.map V.ref)) ∧ RowsTu H TL sizes ∧ H t2 = some (.tup (weights.map V.int)) ∧ H t3 = some (.tup (rates.map V.int))
theorem TaskAt.keep {C : Addr} {H H' : Hp} {p : Addr} {sizes : List (List Int)} {weights rates : List Int} (h : TaskAt C H p sizes weights rates) (s : Same H H') : TaskAt C H' p sizes weights rates := by
  obtain ⟨dx, t1, t2, t3, TL, h1, h2, h3, h4, h5⟩ := h
  exact ⟨dx, t1, t2, t3, TL, s _ _ h1, s _ _ h2, h3.keep fun t xs e => s _ _ e, s _ _ h4, s _ _ h5⟩
/-! within a comprehension -/
/-! equality -/
theorem BasesOk.first : BasesOk (putK [] (Sum.inr wW) (V.int (-1))) [] := by
  refine ⟨?_, ?_, ?_, ?_⟩ <;> rw [valV_put]
  · rw [if_pos rfl]
  · rw [if_neg (by decide +kernel)]; rfl
  · rw [if_neg (by decide +kernel)]; rfl
  · rw [if_neg (by decide +kernel)]; rfl
theorem BasesOk.whole {kvs : List (Key × V)} {ws : List PySem.Str} (B : BasesOk kvs ws) : BasesOk (putK (putK kvs (Sum.inr wS) (V.int (ws.length : Int))) (Sum.inr wL) (V.int (ws.length : Int))) (ws ++ [wW]) := by
  refine ⟨?_, ?_, ?_, ?_⟩ <;> rw [valV_put]
  · rw [if_neg (by decide +kernel), valV_put, if_neg (by decide +kernel)]; exact B.w
  · rw [if_neg (by decide +kernel), valV_put, if_pos rfl, lastIx_snoc, if_pos (by decide +kernel)]; rfl
  · rw [if_pos rfl, lastIx_snoc, if_pos (by decide +kernel)]; rfl
  · rw [if_neg (by decide +kernel), valV_put, if_neg (by decide +kernel)]; exact B.n
theorem BasesOk.non {kvs : List (Key × V)} {ws : List PySem.Str} (B : BasesOk kvs ws) : BasesOk kvs (ws ++ [wN]) := by
  refine ⟨B.w, ?_, ?_, B.n⟩
  · rw [lastIx_snoc, if_neg (by decide +kernel)]; exact B.s
  · rw [lastIx_snoc, if_neg (by decide +kernel)]; exact B.l
theorem BasesOk.other {kvs : List (Key × V)} {ws : List PySem.Str} {w : PySem.Str} (B : BasesOk kvs ws) (h1 : w ≠ wW) (h2 : w ≠ wN) : BasesOk (putK kvs (Sum.inr wL) (V.int (ws.length : Int))) (ws ++ [w]) := by
  have a1 : isW w = false := decide_eq_false h1
  have a2 : isK w = true := decide_eq_true h2
  refine ⟨?_, ?_, ?_, ?_⟩ <;> rw [valV_put]
  · rw [if_neg (by decide +kernel)]; exact B.w
  · rw [if_neg (by decide +kernel), lastIx_snoc, a1]; exact B.s
  · rw [if_pos rfl, lastIx_snoc, a2]; rfl
  · rw [if_neg (by decide +kernel)]; exact B.n
theorem BasesOk.filter {kvs : List (Key × V)} {ws : List PySem.Str} (B : BasesOk kvs ws) : ([wW, wS, wL].filter fun w => (valV kvs (Sum.inr w)).isSome) = [wW] ++ ((if lastIx isW ws = none then [] else [wS]) ++ (if lastIx isK ws = none then [] else [wL])) := by
  rw [List.filter_cons, List.filter_cons, List.filter_cons, List.filter_nil, B.w, B.s, B.l]
  cases lastIx isW ws <;> cases lastIx isK ws <;> simp
end L2
namespace L2
open PySem PySem.Spec PyProof.Rows
/-! ### sum, slices within a comprehension, a comprehension over enumerate -/
/-! ### bases and costs -/
def bOf (pre : List PySem.Str) (w : PySem.Str) : Option Int :=
  if w = wW then some (-1) else if w = wS then (lastIx isW pre).map (fun i : Nat => (i : Int)) else if w = wL then (lastIx isK pre).map (fun i : Nat => (i : Int)) else none
theorem bOf_N (pre : List PySem.Str) : bOf pre wN = none := by
  unfold bOf; rw [if_neg (by decide +kernel), if_neg (by decide +kernel), if_neg (by decide +kernel)]
theorem bOf_W (pre : List PySem.Str) : bOf pre wW = some (-1) := by unfold bOf; rw [if_pos rfl]
theorem bOf_S (pre : List PySem.Str) : bOf pre wS = (lastIx isW pre).map (fun i : Nat => (i : Int)) := by
  unfold bOf; rw [if_neg (by decide +kernel), if_pos rfl]
theorem bOf_L (pre : List PySem.Str) : bOf pre wL = (lastIx isK pre).map (fun i : Nat => (i : Int)) := by
  unfold bOf; rw [if_neg (by decide +kernel), if_neg (by decide +kernel), if_pos rfl]
/-- each word is allowed behind those ahead -/
def VW (ws : List PySem.Str) : Prop := ∀ (d : Nat) w, ws[d]? = some w → w = wN ∨ w = wW ∨ (w = wS ∧ lastIx isW (ws.take d) ≠ none) ∨ (w = wL ∧ lastIx isK (ws.take d) ≠ none)
theorem VW.nil : VW [] := fun d w h => by simp at h
theorem VW.snoc {ws : List PySem.Str} {w : PySem.Str} {wt : Int} (h : VW ws) (hw : w ∈ nextW wt ws) : VW (ws ++ [w]) := fun d x e => by
  by_cases hd : d < ws.length
  · rw [List.getElem?_append_left hd] at e
    rw [List.take_append_of_le_length (by omega)]
    exact h d x e
  · rw [List.getElem?_append_right (by omega)] at e
    have hz : d - ws.length = 0 := by have := (List.getElem?_eq_some_iff.mp e).1; simp at this; omega
    rw [hz] at e
    have e : w = x := by simpa using e
    subst e
    have hdl : d = ws.length := by omega
    subst hdl
    rw [List.take_append_of_le_length (by omega), List.take_length]
    unfold nextW at hw
    rcases List.mem_append.mp hw with h1 | h1
    · split at h1 <;> simp at h1
      · rcases h1 with h1 | h1
        · exact .inl h1
        · exact .inr (.inl h1)
      · exact .inr (.inl h1)
    · rcases List.mem_append.mp h1 with h2 | h2
      · split at h2
        · simp at h2
        · rename_i hn
          exact .inr (.inr (.inl ⟨by simpa using h2, hn⟩))
      · split at h2
        · simp at h2
        · rename_i hn
          exact .inr (.inr (.inr ⟨by simpa using h2, hn⟩))
theorem VW.take {ws : List PySem.Str} (h : VW ws) (k : Nat) : VW (ws.take k) := fun d w e => by
  have hd : d < k := by
    have := (List.getElem?_eq_some_iff.mp e).1
    rw [List.length_take] at this; omega
  rw [List.getElem?_take_of_lt hd] at e
  rw [List.take_take, Nat.min_eq_left (by omega)]
  exact h d w e
/-- the base of day d, -1 where it has none -/
def baseI (ws : List PySem.Str) (d : Nat) : Int := ((ws[d]?.bind fun w => bOf (ws.take d) w)).getD (-1)
theorem baseI_at {ws : List PySem.Str} {d : Nat} {w : PySem.Str} (e : ws[d]? = some w) : baseI ws d = (bOf (ws.take d) w).getD (-1) := by
  unfold baseI; rw [e]; rfl
def Kept (ws : List PySem.Str) (d : Nat) : Prop := ∃ w, ws[d]? = some w ∧ w ≠ wN
theorem VW.base {ws : List PySem.Str} (h : VW ws) {d : Nat} {w : PySem.Str} (e : ws[d]? = some w) (hn : w ≠ wN) : bOf (ws.take d) w = some (baseI ws d) := by
  rw [baseI_at e]
  rcases h d w e with h | h | ⟨h, h2⟩ | ⟨h, h2⟩
  · exact absurd h hn
  · subst h; rw [bOf_W]; rfl
  · subst h; rw [bOf_S]
    cases q : lastIx isW (ws.take d) with
    | none => exact absurd q h2
    | some i => rfl
  · subst h; rw [bOf_L]
    cases q : lastIx isK (ws.take d) with
    | none => exact absurd q h2
    | some i => rfl
theorem BasesOk.get {kvs : List (Key × V)} {pre : List PySem.Str} (B : BasesOk kvs pre) {w : PySem.Str} (h : w = wN ∨ w = wW ∨ w = wS ∨ w = wL) : valV kvs (Sum.inr w) = (bOf pre w).map V.int := by
  rcases h with rfl | rfl | rfl | rfl
  · rw [B.n, bOf_N]; rfl
  · rw [B.w, bOf_W]; rfl
  · rw [B.s, bOf_S]; cases lastIx isW pre <;> rfl
  · rw [B.l, bOf_L]; cases lastIx isK pre <;> rfl
def bvAt (ws : List PySem.Str) (d : Nat) : V := (((ws[d]?.bind fun w => bOf (ws.take d) w)).map V.int).getD .non
def bvals (ws : List PySem.Str) : List V := (List.range ws.length).map (bvAt ws)
/-- the cost of ways -/
def wyF (f b : Nat → Int) : Nat → Nat → Int
  | 0, _ => 0
  | k + 1, d => f d + (if b d < 0 then 0 else wyF f b k (b d).toNat)
def wy (f b : Nat → Int) (d : Nat) : Int := wyF f b (d + 1) d
def wyI (f b : Nat → Int) (i : Int) : Int := if i < 0 then 0 else wy f b i.toNat
def sumTo (c : Nat → Int) : Nat → Int
  | 0 => 0
  | k + 1 => sumTo c k + c k
/-- the size of the piece of day d, the cost of its leg and of the day -/
def szD (sizes : List (List Int)) (ws : List PySem.Str) (d : Nat) : Int := (sizes.getD d []).getD (baseI ws d + 1).toNat 0
def legD (sizes : List (List Int)) (r2 r3 : Int) (ws : List PySem.Str) (d : Nat) : Int := r2 + r3 * szD sizes ws d
def wayD (sizes : List (List Int)) (r2 r3 : Int) (ws : List PySem.Str) (d : Nat) : Int := wy (legD sizes r2 r3 ws) (baseI ws) d
def wayDI (sizes : List (List Int)) (r2 r3 : Int) (ws : List PySem.Str) (i : Int) : Int := wyI (legD sizes r2 r3 ws) (baseI ws) i
def costD (sizes : List (List Int)) (weights : List Int) (r0 r1 r2 r3 : Int) (ws : List PySem.Str) (d : Nat) : Int :=
  if ws[d]? = some wN then 0 else (r0 + r1 * ((sizes.length : Int) - (d : Int))) * szD sizes ws d + weights.getD d 0 * wayD sizes r2 r3 ws d
end L2
namespace L2
open PySem PySem.Spec PyProof.Rows
/-! ### the least of some numbers -/
def IsMin (ns : List Int) (m : Int) : Prop := m ∈ ns ∧ ∀ x ∈ ns, m ≤ x
def minL : List Int → Int
  | [] => 0
  | [x] => x
  | x :: y :: r => if x ≤ minL (y :: r) then x else minL (y :: r)
theorem isMin_minL : ∀ {ns : List Int}, ns ≠ [] → IsMin ns (minL ns)
  | [], h => absurd rfl h
  | [x], _ => by
    refine ⟨by simp [minL], fun y hy => ?_⟩
    have : y = x := by simpa using hy
    subst this
    exact Int.le_refl _
  | x :: y :: r, _ => by
    obtain ⟨h1, h2⟩ := isMin_minL (ns := y :: r) (by simp)
    show IsMin _ (if x ≤ minL (y :: r) then x else minL (y :: r))
    by_cases h : x ≤ minL (y :: r)
    · rw [if_pos h]
      refine ⟨List.mem_cons_self .., fun z hz => ?_⟩
      rcases List.mem_cons.mp hz with rfl | hz
      · exact Int.le_refl _
      · exact Int.le_trans h (h2 z hz)
    · rw [if_neg h]
      refine ⟨List.mem_cons_of_mem _ h1, fun z hz => ?_⟩
      rcases List.mem_cons.mp hz with rfl | hz
      · omega
      · exact h2 z hz
theorem IsMin.eq {ns : List Int} {m : Int} (h : IsMin ns m) : m = minL ns := by
  have hn : ns ≠ [] := List.ne_nil_of_mem h.1
  obtain ⟨h1, h2⟩ := isMin_minL hn
  exact Int.le_antisymm (h.2 _ h1) (h2 _ h.1)
/-! ### bounds -/
def VN (weights : List Int) (ws : List PySem.Str) : Prop := ∀ d : Nat, ws[d]? = some wN → weights.getD d 0 = 0
theorem VN.nil {weights : List Int} : VN weights [] := fun d h => by simp at h
theorem VN.take {weights : List Int} {ws : List PySem.Str} (h : VN weights ws) (k : Nat) : VN weights (ws.take k) := fun d e => by
  have hd : d < k := by
    have := (List.getElem?_eq_some_iff.mp e).1
    rw [List.length_take] at this; omega
  rw [List.getElem?_take_of_lt hd] at e
  exact h d e
theorem VN.snoc {weights : List Int} {ws : List PySem.Str} {w : PySem.Str} {wt : Int} (h : VN weights ws) (ewt : weights[ws.length]? = some wt) (hw : w ∈ nextW wt ws) : VN weights (ws ++ [w]) := fun d e => by
  by_cases hd : d < ws.length
  · rw [List.getElem?_append_left hd] at e; exact h d e
  · rw [List.getElem?_append_right (by omega)] at e
    have hz : d - ws.length = 0 := by have := (List.getElem?_eq_some_iff.mp e).1; simp at this; omega
    rw [hz] at e
    have e : w = wN := by simpa using e
    have hdl : d = ws.length := by omega
    subst hdl
    rw [List.getD_eq_getElem?_getD, ewt, Option.getD_some]
    unfold nextW at hw
    rw [e] at hw
    have n1 : (wN = wW) = False := eq_false (by decide +kernel)
    have n2 : (wN = wS) = False := eq_false (by decide +kernel)
    have n3 : (wN = wL) = False := eq_false (by decide +kernel)
    by_cases h0 : wt = 0
    · exact h0
    · rw [if_neg h0] at hw
      exfalso
      rcases List.mem_append.mp hw with h1 | h1
      · rw [List.mem_singleton, n1] at h1; exact h1
      · rcases List.mem_append.mp h1 with h2 | h2
        · split at h2
          · simp at h2
          · rw [List.mem_singleton, n2] at h2; exact h2
        · split at h2
          · simp at h2
          · rw [List.mem_singleton, n3] at h2; exact h2
def lowD (sizes : List (List Int)) (weights : List Int) (r0 r1 r2 r3 : Int) (d : Nat) : Int :=
  if weights.getD d 0 > 0 then (r0 + r1 * ((sizes.length : Int) - (d : Int))) * minL (sizes.getD d []) + weights.getD d 0 * (r2 + r3 * minL (sizes.getD d [])) else 0
def bdD (sizes : List (List Int)) (weights : List Int) (r0 r1 r2 r3 : Int) (ws : List PySem.Str) (d : Nat) : Int :=
  if d < ws.length then costD sizes weights r0 r1 r2 r3 ws d else lowD sizes weights r0 r1 r2 r3 d
end L2
namespace L2
open PySem
/-! ### the table of a set of ints: it never gives way, and its places rise -/
def Rise (xs : Array Nat) : Prop := ∀ (i j a b : Nat), xs[i]? = some a → xs[j]? = some b → i < j → a < b
theorem below_go {xs : Array Nat} {j : Nat} (hr : Rise xs) : ∀ (fuel lo hi : Nat), hi ≤ xs.size → hi - lo ≤ fuel → lo ≤ hi → (∀ i a, i < lo → xs[i]? = some a → a < j) → (∀ i a, hi ≤ i → xs[i]? = some a → j ≤ a) →
    ∃ p, SetTable.below.go xs j fuel lo hi = p ∧ p ≤ xs.size ∧ (∀ i a, i < p → xs[i]? = some a → a < j) ∧ (∀ i a, p ≤ i → xs[i]? = some a → j ≤ a)
  | 0, lo, hi, h1, h2, h3, h4, h5 => ⟨lo, rfl, by omega, h4, fun i a hi' e => h5 i a (by omega) e⟩
  | fuel + 1, lo, hi, h1, h2, h3, h4, h5 => by
    unfold SetTable.below.go
    by_cases hl : lo < hi
    · rw [if_pos hl]
      dsimp only
      have hm : (lo + hi) / 2 < xs.size := by omega
      have em : xs[(lo + hi) / 2]? = some xs[(lo + hi) / 2] := Array.getElem?_eq_getElem hm
      have eg : xs.getD ((lo + hi) / 2) j = xs[(lo + hi) / 2] := by simp [Array.getD, hm]
      rw [eg]
      by_cases hc : xs[(lo + hi) / 2] < j
      · rw [if_pos hc]
        refine below_go hr fuel _ hi h1 (by omega) (by omega) (fun i a hi' e => ?_) h5
        by_cases he : i = (lo + hi) / 2
        · subst he; rw [em] at e; cases e; exact hc
        · have := hr i _ a _ e em (by omega); omega
      · rw [if_neg hc]
        refine below_go hr fuel lo _ (by omega) (by omega) (by omega) h4 (fun i a hi' e => ?_)
        by_cases he : i = (lo + hi) / 2
        · subst he; rw [em] at e; cases e; omega
        · have := hr _ i _ a em e (by omega); omega
    · rw [if_neg hl]
      exact ⟨lo, rfl, by omega, h4, fun i a hi' e => h5 i a (by omega) e⟩
theorem below_ok {xs : Array Nat} (hr : Rise xs) (j : Nat) : SetTable.below xs j ≤ xs.size ∧ (∀ i a, i < SetTable.below xs j → xs[i]? = some a → a < j) ∧ (∀ i a, SetTable.below xs j ≤ i → xs[i]? = some a → j ≤ a) := by
  obtain ⟨p, e, h⟩ := below_go (j := j) hr xs.size 0 xs.size (Nat.le_refl _) (by omega) (by omega) (fun i a h => by omega) (fun i a h e => by rw [Array.getElem?_eq_none h] at e; cases e)
  have : SetTable.below xs j = p := e
  rw [this]; exact h
/-- the place behind the i-th -/
theorem below_next {xs : Array Nat} (hr : Rise xs) {i a : Nat} (h : xs[i]? = some a) : SetTable.below xs (a + 1) = i + 1 := by
  obtain ⟨h1, h2, h3⟩ := below_ok hr (a + 1)
  have hi : i < xs.size := (Array.getElem?_eq_some_iff.mp h).1
  rcases Nat.lt_trichotomy (SetTable.below xs (a + 1)) (i + 1) with z | z | z
  · have := h3 i a (by omega) h; omega
  · exact z
  · have e : xs[i + 1]? = some (xs[i + 1]'(by omega)) := Array.getElem?_eq_getElem (by omega)
    have u1 := h2 (i + 1) _ z e
    have u2 := hr i (i + 1) _ _ h e (by omega)
    omega
theorem below_zero {xs : Array Nat} (hr : Rise xs) : SetTable.below xs 0 = 0 := by
  obtain ⟨h1, h2, _⟩ := below_ok hr 0
  rcases Nat.eq_zero_or_pos (SetTable.below xs 0) with z | z
  · exact z
  · have e : xs[0]? = some (xs[0]'(by omega)) := Array.getElem?_eq_getElem (by omega)
    have := h2 0 _ z e; omega
theorem insertAt_get {α : Type} (xs : Array α) {p : Nat} (hp : p ≤ xs.size) (x : α) (i : Nat) : (SetTable.insertAt xs p x)[i]? = if i < p then xs[i]? else if i = p then some x else xs[i - 1]? := by
  rw [← Array.getElem?_toList, SetTable.toList_insertAt]
  have hl : (xs.toList.take p).length = p := by rw [List.length_take]; simp; omega
  by_cases h1 : i < p
  · rw [if_pos h1, List.getElem?_append_left (by omega), List.getElem?_take_of_lt h1]; simp
  · rw [if_neg h1, List.getElem?_append_right (by omega), hl]
    by_cases h2 : i = p
    · rw [if_pos h2, h2, Nat.sub_self]; rfl
    · rw [if_neg h2, show i - p = (i - p - 1) + 1 by omega, List.getElem?_cons_succ, List.getElem?_drop, show p + (i - p - 1) = i - 1 by omega]; simp
/-- a new place among them -/
theorem rise_insert {xs : Array Nat} (hr : Rise xs) {j : Nat} (hj : xs[SetTable.below xs j]? ≠ some j) : Rise (SetTable.insertAt xs (SetTable.below xs j) j) := by
  obtain ⟨hp, h1, h2⟩ := below_ok hr j
  have h3 : ∀ i a, SetTable.below xs j ≤ i → xs[i]? = some a → j < a := fun i a hi e => by
    have := h2 i a hi e
    rcases Nat.lt_or_eq_of_le this with z | z
    · exact z
    · subst z
      rcases Nat.lt_or_eq_of_le hi with y | y
      · have e2 : xs[SetTable.below xs j]? = some (xs[SetTable.below xs j]'(by have := (Array.getElem?_eq_some_iff.mp e).1; omega)) := Array.getElem?_eq_getElem _
        have u1 := h2 _ _ (Nat.le_refl _) e2
        have u2 := hr _ _ _ _ e2 e y
        omega
      · rw [y] at hj; exact absurd e hj
  intro i k a b ha hb hik
  rw [insertAt_get xs hp] at ha hb
  by_cases i1 : i < SetTable.below xs j
  · rw [if_pos i1] at ha
    by_cases k1 : k < SetTable.below xs j
    · rw [if_pos k1] at hb; exact hr i k a b ha hb hik
    · rw [if_neg k1] at hb
      by_cases k2 : k = SetTable.below xs j
      · rw [if_pos k2] at hb; cases hb; exact h1 i a i1 ha
      · rw [if_neg k2] at hb; exact hr i (k - 1) a b ha hb (by omega)
  · rw [if_neg i1] at ha
    by_cases i2 : i = SetTable.below xs j
    · rw [if_pos i2] at ha; cases ha
      rw [if_neg (by omega), if_neg (by omega)] at hb
      exact h3 (k - 1) b (by omega) hb
    · rw [if_neg i2] at ha
      rw [if_neg (by omega), if_neg (by omega)] at hb
      exact hr (i - 1) (k - 1) a b ha hb (by omega)
theorem rise_mem {xs : Array Nat} (hr : Rise xs) {j : Nat} (h : xs[SetTable.below xs j]? = some j) : j ∈ xs.toList := by
  rw [← Array.getElem?_toList] at h; exact List.mem_of_getElem? h
/-- enough numbers make a long list -/
theorem len_of_all : ∀ (m : Nat) (l : List Nat), (∀ j, j < m → j ∈ l) → m ≤ l.length
  | 0, l, _ => Nat.zero_le _
  | m + 1, l, h => by
    have hm := h m (by omega)
    have ih := len_of_all m (l.erase m) fun j hj => (List.mem_erase_of_ne (by omega)).mpr (h j (by omega))
    rw [List.length_erase_of_mem hm] at ih
    have := List.length_pos_of_mem hm
    omega
/-! every slot comes up -/
def hop (N i : Nat) : Nat := (i * 5 + 1) % N
def hops (N : Nat) : Nat → Nat → Nat
  | 0, i => i
  | m + 1, i => hops N m (hop N i)
def orbM (N : Nat) : Nat → Nat → Nat
  | 0, _ => 0
  | m + 1, i => (1 <<< i) ||| orbM N m (hop N i)
theorem orbM_mem {N j : Nat} : ∀ (m i : Nat), (orbM N m i).testBit j = true → ∃ k, k < m ∧ hops N k i = j
  | 0, i, h => by simp [orbM] at h
  | m + 1, i, h => by
    unfold orbM at h
    rw [Nat.testBit_or, Bool.or_eq_true] at h
    rcases h with h | h
    · refine ⟨0, by omega, ?_⟩
      rw [Nat.testBit_shiftLeft] at h
      simp only [Bool.and_eq_true, decide_eq_true_eq] at h
      obtain ⟨h1, h2⟩ := h
      have : j - i = 0 := by
        rcases Nat.eq_zero_or_pos (j - i) with z | z
        · exact z
        · rw [Nat.testBit_one_eq_true_iff_self_eq_zero] at h2; exact h2
      show i = j
      omega
    · obtain ⟨k, hk, e⟩ := orbM_mem m (hop N i) h
      exact ⟨k + 1, by omega, e⟩
def coverM (N : Nat) : Bool := (List.range N).all fun i => orbM N N i == 2 ^ N - 1
theorem cover8 : coverM 8 = true := by decide +kernel
theorem cover32 : coverM 32 = true := by decide +kernel
theorem cover128 : coverM 128 = true := by decide +kernel
theorem cover_hop {N : Nat} (h : coverM N = true) {i j : Nat} (hi : i < N) (hj : j < N) : ∃ k, k < N ∧ hops N k i = j := by
  unfold coverM at h
  rw [List.all_eq_true] at h
  have := h i (List.mem_range.mpr hi)
  rw [beq_iff_eq] at this
  refine orbM_mem N i ?_
  rw [this, Nat.testBit_two_pow_sub_one]
  exact decide_eq_true hj
/-! the probe -/
def adv (t : SetTable) : Nat → SetTable.Probe → SetTable.Probe
  | 0, p => p
  | k + 1, p => adv t k (t.advance p)
theorem adv_add (t : SetTable) : ∀ (a b : Nat) (p : SetTable.Probe), adv t (a + b) p = adv t b (adv t a p)
  | 0, b, p => by rw [Nat.zero_add]; rfl
  | a + 1, b, p => by rw [show a + 1 + b = (a + b) + 1 by omega]; exact adv_add t a b (t.advance p)
def blockAt (t : SetTable) (q : Nat × Nat) (d : Option Nat) : SetTable.Probe := { j := q.1, more := SetTable.runEnd t.mask q.1 - q.1, i := q.1, perturb := q.2, dummy := d }
theorem adv_run (t : SetTable) : ∀ (m : Nat) (p : SetTable.Probe), p.more = m → adv t (m + 1) p = blockAt t (SetTable.leap t.mask p.i p.perturb) p.dummy
  | 0, p, h => by
    show t.advance p = _
    unfold SetTable.advance
    rw [if_neg (by omega)]
    rfl
  | m + 1, p, h => by
    show adv t (m + 1) (t.advance p) = _
    have e : t.advance p = { p with j := p.j + 1, more := p.more - 1 } := by unfold SetTable.advance; rw [if_pos (by omega)]
    rw [e, adv_run t m _ (by show p.more - 1 = m; omega)]
def leaps (mask : Nat) : Nat → Nat × Nat → Nat × Nat
  | 0, q => q
  | m + 1, q => leaps mask m (SetTable.leap mask q.1 q.2)
theorem run9 (mask i : Nat) : SetTable.runEnd mask i - i ≤ 9 := by unfold SetTable.runEnd; split <;> omega
theorem adv_leaps (t : SetTable) (d : Option Nat) : ∀ (m : Nat) (q : Nat × Nat), ∃ k, k ≤ 10 * m ∧ adv t k (blockAt t q d) = blockAt t (leaps t.mask m q) d
  | 0, q => ⟨0, by omega, rfl⟩
  | m + 1, q => by
    obtain ⟨k, hk, e⟩ := adv_leaps t d m (SetTable.leap t.mask q.1 q.2)
    refine ⟨(SetTable.runEnd t.mask q.1 - q.1 + 1) + k, by have := run9 t.mask q.1; omega, ?_⟩
    rw [adv_add, adv_run t (SetTable.runEnd t.mask q.1 - q.1) (blockAt t q d) rfl]
    exact e
theorem leaps_add (mask : Nat) : ∀ (a b : Nat) (q : Nat × Nat), leaps mask (a + b) q = leaps mask b (leaps mask a q)
  | 0, b, q => by rw [Nat.zero_add]; rfl
  | a + 1, b, q => by rw [show a + 1 + b = (a + b) + 1 by omega]; exact leaps_add mask a b _
theorem leaps_snd (mask : Nat) : ∀ (m : Nat) (q : Nat × Nat), (leaps mask m q).2 = q.2 / 32 ^ m
  | 0, q => by simp [leaps]
  | m + 1, q => by
    show (leaps mask m (SetTable.leap mask q.1 q.2)).2 = _
    rw [leaps_snd mask m]
    show q.2 / 32 / 32 ^ m = _
    rw [Nat.div_div_eq_div_mul, Nat.pow_succ, Nat.mul_comm]
theorem leaps_hops (mask : Nat) : ∀ (m i : Nat), leaps mask m (i, 0) = (hops (mask + 1) m i, 0)
  | 0, i => rfl
  | m + 1, i => by
    show leaps mask m (SetTable.leap mask i 0) = _
    have e : SetTable.leap mask i 0 = (hop (mask + 1) i, 0) := by unfold SetTable.leap hop; simp
    rw [e, leaps_hops mask m]; rfl
theorem bits_lt (h : Int) : SetTable.bits h < 2 ^ 64 := by
  unfold SetTable.bits
  have h1 := Int.emod_nonneg h (show (2 ^ 64 : Int) ≠ 0 by decide)
  have h2 := Int.emod_lt_of_pos h (show (0 : Int) < 2 ^ 64 by decide)
  omega
/-- each slot is the head of a block, soon enough -/
theorem leaps_all {mask : Nat} (hc : coverM (mask + 1) = true) {q : Nat × Nat} (hq : q.2 < 2 ^ 64) {j : Nat} (hj : j < mask + 1) : ∃ m, m < mask + 15 ∧ (leaps mask m q).1 = j := by
  have e0 : (leaps mask 13 q).2 = 0 := by
    rw [leaps_snd]
    exact Nat.div_eq_of_lt (Nat.lt_trans hq (by decide))
  have l0 : (leaps mask 13 q).1 < mask + 1 := by
    rw [show (13 : Nat) = 12 + 1 from rfl, leaps_add]
    show (_ % (mask + 1)) < _
    exact Nat.mod_lt _ (by omega)
  obtain ⟨k, hk, e⟩ := cover_hop hc l0 hj
  refine ⟨13 + k, by omega, ?_⟩
  rw [leaps_add, show leaps mask 13 q = ((leaps mask 13 q).1, 0) from by rw [← e0], leaps_hops]
  exact e
theorem slot_two {t : SetTable} (hd : t.dummies = #[]) (j : Nat) : (t.slot j = .empty ∧ t.place[SetTable.below t.place j]? ≠ some j) ∨ (∃ i, t.slot j = .live i) ∧ t.place[SetTable.below t.place j]? = some j := by
  unfold SetTable.slot
  by_cases h : t.place[SetTable.below t.place j]? = some j
  · right
    simp only [h]
    exact ⟨⟨_, if_pos (by simp)⟩, trivial⟩
  · left
    have h2 : SetTable.has t.dummies j = false := by rw [hd]; simp [SetTable.has]
    have h1 : (t.place[SetTable.below t.place j]? == some j) = false := by simpa using h
    simp only [h1, h2]
    exact ⟨rfl, h⟩
theorem go_two {t : SetTable} (hd : t.dummies = #[]) (h : Int) : ∀ (fuel : Nat) (p : SetTable.Probe), p.dummy = none →
    (∃ j, SetTable.probe.go t (fun _ => h + 1) h fuel p = some (.empty j none) ∧ t.place[SetTable.below t.place j]? ≠ some j) ∨ ∀ k, k < fuel → t.place[SetTable.below t.place (adv t k p).j]? = some (adv t k p).j
  | 0, p, _ => .inr fun k hk => by omega
  | fuel + 1, p, hp => by
    unfold SetTable.probe.go
    rcases slot_two hd p.j with ⟨e, hn⟩ | ⟨⟨i, e⟩, hy⟩
    · left
      rw [e]
      dsimp only
      exact ⟨p.j, by rw [hp], hn⟩
    · rw [e]
      dsimp only
      have hne : ((h + 1 : Int) == h) = false := by simp; omega
      rw [hne]
      simp only [Bool.false_eq_true, ↓reduceIte]
      have hp' : (t.advance p).dummy = none := by unfold SetTable.advance; split <;> exact hp
      rcases go_two hd h fuel (t.advance p) hp' with z | z
      · exact .inl z
      · refine .inr fun k hk => ?_
        cases k with
        | zero => exact hy
        | succ k => exact z k (by omega)
/-- there is a free slot -/
theorem free_some {t : SetTable} (hd : t.dummies = #[]) (hr : Rise t.place) (hc : coverM (t.mask + 1) = true) (hs : t.place.size ≤ t.mask) (h : Int) : ∃ j, t.freeSlot h = some (j, false) ∧ t.place[SetTable.below t.place j]? ≠ some j := by
  have key := go_two hd h (10 * SetTable.turns t.mask) (t.probeStart h) rfl
  rcases key with ⟨j, e, hn⟩ | hall
  · refine ⟨j, ?_, hn⟩
    unfold SetTable.freeSlot SetTable.probe
    rw [e]
    rfl
  · exfalso
    have hm := len_of_all (t.mask + 1) t.place.toList fun j hj => by
      obtain ⟨m, hm, e⟩ := leaps_all hc (q := (SetTable.bits h % (t.mask + 1), SetTable.bits h)) (bits_lt h) hj
      obtain ⟨k, hk, ek⟩ := adv_leaps t none m (SetTable.bits h % (t.mask + 1), SetTable.bits h)
      have hst : t.probeStart h = blockAt t (SetTable.bits h % (t.mask + 1), SetTable.bits h) none := rfl
      have := hall k (by unfold SetTable.turns; omega)
      rw [hst, ek] at this
      have this : t.place[SetTable.below t.place (leaps t.mask m (SetTable.bits h % (t.mask + 1), SetTable.bits h)).1]? = some (leaps t.mask m (SetTable.bits h % (t.mask + 1), SetTable.bits h)).1 := this
      rw [e] at this
      exact rise_mem hr this
    simp at hm
    omega
/-! laid anew -/
theorem free_two {mask : Nat} {owner : Array (Option Nat)} : ∀ (fuel : Nat) (q : Nat × Nat),
    (∃ j, SetTable.layClean.free mask owner fuel q.1 q.2 = some j ∧ owner[j]? = some none) ∨ ∀ m, m < fuel → owner[(leaps mask m q).1]? ≠ some none
  | 0, q => .inr fun m hm => by omega
  | fuel + 1, q => by
    unfold SetTable.layClean.free
    cases e : (List.range (SetTable.runEnd mask q.1 + 1 - q.1)).find? fun k => (owner.getD (q.1 + k) (some 0)).isNone with
    | some k =>
      left
      have hk := List.find?_some e
      refine ⟨q.1 + k, rfl, ?_⟩
      by_cases hlt : q.1 + k < owner.size
      · rw [Array.getElem?_eq_getElem hlt]
        simp [Array.getD, hlt] at hk
        rw [hk]
      · simp [Array.getD, hlt] at hk
    | none =>
      dsimp only
      rcases free_two fuel (SetTable.leap mask q.1 q.2) with z | z
      · exact .inl z
      · refine .inr fun m hm => ?_
        cases m with
        | succ m => exact z m (by omega)
        | zero =>
          intro h0
          have := List.find?_eq_none.mp e 0 (List.mem_range.mpr (by unfold SetTable.runEnd; split <;> omega))
          have h0 : owner[q.1]? = some none := h0
          have hlt : q.1 < owner.size := (Array.getElem?_eq_some_iff.mp h0).1
          have he := (Array.getElem?_eq_some_iff.mp h0).2
          simp [Array.getD, hlt, he] at this
def usedOf (owner : Array (Option Nat)) : List Nat := owner.toList.filterMap id
theorem all_used {l : List (Option Nat)} (h : ∀ j, j < l.length → l[j]? ≠ some none) : (l.filterMap id).length = l.length := by
  induction l with
  | nil => rfl
  | cons x r ih =>
    have hx := h 0 (by simp)
    cases x with
    | none => exact absurd rfl hx
    | some a =>
      rw [show (some a :: r).filterMap id = a :: r.filterMap id from rfl, List.length_cons, List.length_cons, ih fun j hj => by have := h (j + 1) (by simp; omega); simpa using this]
theorem free_ok {mask : Nat} {owner : Array (Option Nat)} (hc : coverM (mask + 1) = true) (hs : owner.size = mask + 1) (hu : (usedOf owner).length < mask + 1) {i p : Nat} (hp : p < 2 ^ 64) : ∃ j, SetTable.layClean.free mask owner (SetTable.turns mask) i p = some j ∧ owner[j]? = some none := by
  rcases free_two (mask := mask) (owner := owner) (SetTable.turns mask) (i, p) with z | z
  · exact z
  · exfalso
    have hl := all_used (l := owner.toList) fun j hj => by
      obtain ⟨m, hm, e⟩ := leaps_all hc (q := (i, p)) hp (j := j) (by simpa [hs] using hj)
      have := z m (by unfold SetTable.turns; omega)
      rw [e] at this
      rw [Array.getElem?_toList]; exact this
    unfold usedOf at hu
    rw [hl] at hu
    simp [hs] at hu
theorem set_used {l : List (Option Nat)} {j k : Nat} (h : l[j]? = some none) : ((l.set j (some k)).filterMap id).Perm (l.filterMap id ++ [k]) := by
  have hj : j < l.length := (List.getElem?_eq_some_iff.mp h).1
  have e : l = l.take j ++ none :: l.drop (j + 1) := by
    have e0 : l[j] = none := (List.getElem?_eq_some_iff.mp h).2
    have := List.take_append_drop j l
    rw [List.drop_eq_getElem_cons hj, e0] at this
    exact this.symm
  have e1 : l.set j (some k) = l.take j ++ some k :: l.drop (j + 1) := by
    conv => lhs; rw [e]
    rw [List.set_append_right _ _ (by rw [List.length_take]; omega)]
    simp [List.length_take, Nat.min_eq_left (Nat.le_of_lt hj)]
  rw [e1]
  conv => rhs; rw [e]
  simp only [List.filterMap_append]
  rw [show (some k :: l.drop (j + 1)).filterMap id = k :: (l.drop (j + 1)).filterMap id from rfl, show (none :: l.drop (j + 1)).filterMap id = (l.drop (j + 1)).filterMap id from rfl, List.append_assoc]
  exact (List.perm_append_left_iff _).mpr (List.perm_append_singleton _ _).symm
theorem lay_fold {mask : Nat} (hc : coverM (mask + 1) = true) : ∀ (hs : List Int) (owner : Array (Option Nat)) (k : Nat), owner.size = mask + 1 → (usedOf owner).Perm (List.range k) → k + hs.length ≤ mask + 1 →
    ∃ o, hs.foldl (fun acc h => do
      let (owner, k) ← acc
      let j ← SetTable.layClean.free mask owner (SetTable.turns mask) (SetTable.bits h % (mask + 1)) (SetTable.bits h)
      pure (owner.setIfInBounds j (some k), k + 1)) (some (owner, k)) = some (o, k + hs.length) ∧ o.size = mask + 1 ∧ (usedOf o).Perm (List.range (k + hs.length))
  | [], owner, k, h1, h2, h3 => ⟨owner, rfl, h1, h2⟩
  | h :: r, owner, k, h1, h2, h3 => by
    have hl : (usedOf owner).length < mask + 1 := by rw [h2.length_eq, List.length_range]; simp at h3; omega
    obtain ⟨j, ej, hj⟩ := free_ok hc h1 hl (i := SetTable.bits h % (mask + 1)) (bits_lt h)
    have hu : (usedOf (owner.setIfInBounds j (some k))).Perm (List.range (k + 1)) := by
      unfold usedOf
      rw [Array.toList_setIfInBounds, List.range_succ]
      exact (set_used (by rw [Array.getElem?_toList]; exact hj)).trans (h2.append_right _)
    obtain ⟨o, eo, s1, p1⟩ := lay_fold hc r (owner.setIfInBounds j (some k)) (k + 1) (by simpa using h1) hu (by simp at h3; omega)
    refine ⟨o, ?_, s1, by rw [List.length_cons, show k + (r.length + 1) = k + 1 + r.length by omega]; exact p1⟩
    rw [List.foldl_cons]
    simp only [Option.bind_eq_bind, Option.bind_some, ej]
    rw [List.length_cons, show k + (r.length + 1) = k + 1 + r.length by omega]
    exact eo
theorem layClean_ok {mask : Nat} (hc : coverM (mask + 1) = true) (hashes : Array Int) (hn : hashes.size ≤ mask) : ∃ o, SetTable.layClean mask hashes = some o ∧ o.size = mask + 1 ∧ (usedOf o).Perm (List.range hashes.size) := by
  have h0 : usedOf (Array.replicate (mask + 1) none) = [] := by unfold usedOf; simp
  obtain ⟨o, e, h1, h2⟩ := lay_fold hc hashes.toList (Array.replicate (mask + 1) none) 0 (by simp) (by rw [h0]; exact .nil) (by simp; omega)
  rw [Nat.zero_add, Array.length_toList] at h2
  refine ⟨o, ?_, h1, h2⟩
  unfold SetTable.layClean
  rw [← Array.foldl_toList]
  rw [e]
  rfl
theorem pick_filter {α : Type} (f : α → Bool) (g : α → Option Nat) (hg : ∀ x, f x = (g x).isSome) : ∀ l : List α, l.filterMap (fun j => (g j).map fun _ => j) = l.filter f
  | [] => rfl
  | x :: r => by
    cases e : g x with
    | none => rw [List.filterMap_cons_none (by rw [e]; rfl), List.filter_cons_of_neg (by rw [hg, e]; simp), pick_filter f g hg r]
    | some y => rw [List.filterMap_cons_some (b := x) (by rw [e]; rfl), List.filter_cons_of_pos (by rw [hg, e]; rfl), pick_filter f g hg r]
theorem rise_of {l : List Nat} (h : l.Pairwise (· < ·)) : Rise l.toArray := by
  intro i j a b ha hb hij
  simp only [List.getElem?_toArray] at ha hb
  obtain ⟨hi, ea⟩ := List.getElem?_eq_some_iff.mp ha
  obtain ⟨hj, eb⟩ := List.getElem?_eq_some_iff.mp hb
  have := List.pairwise_iff_getElem.mp h i j hi hj hij
  omega
theorem laid_ok {mask : Nat} (hc : coverM (mask + 1) = true) (hashes : Array Int) (hn : hashes.size ≤ mask) (finger moves : Nat) (led plain : Bool) :
    ∃ place order, SetTable.laid mask finger moves led plain hashes = some ({ mask, place, dummies := #[], finger, led, moves, plain }, order) ∧ Rise place ∧ place.size = hashes.size ∧ order.toList.Perm (List.range hashes.size) := by
  obtain ⟨o, e, hs, hp⟩ := layClean_ok hc hashes hn
  refine ⟨_, _, by unfold SetTable.laid; rw [e]; rfl, ?_, ?_, ?_⟩
  · rw [List.map_filterMap]
    have e1 : (fun j => Option.map (fun x : Nat × Nat => x.1) (Option.map (fun y => (j, y)) (o.getD j none))) = fun j => (o.getD j none).map fun _ => j := by
      funext j; cases o.getD j none <;> rfl
    rw [e1, pick_filter (fun j => (o.getD j none).isSome) _ (fun _ => rfl)]
    exact rise_of (List.pairwise_lt_range.filter _)
  · have e2 : ((List.range (mask + 1)).filterMap fun j => (o.getD j none).map fun y => (j, y)).length = (usedOf o).length := by
      rw [← List.length_map (f := fun x : Nat × Nat => x.2)]
      rw [List.map_filterMap]
      unfold usedOf
      have e3 : o.toList = (List.range (mask + 1)).map fun j => o.getD j none := by
        refine List.ext_getElem? fun j => ?_
        rw [Array.getElem?_toList, List.getElem?_map]
        by_cases hj : j < mask + 1
        · rw [List.getElem?_range hj, Array.getElem?_eq_getElem (by omega)]
          simp [Array.getD, show j < o.size by omega]
        · rw [List.getElem?_eq_none (by simp; omega), Array.getElem?_eq_none (by omega)]; rfl
      rw [e3, List.filterMap_map]
      congr 2
      funext j
      simp only [Function.comp_apply, id]
      cases o.getD j none <;> rfl
    simp only [List.size_toArray, List.length_map]
    rw [e2, hp.length_eq, List.length_range]
  · have e4 : ((List.range (mask + 1)).filterMap fun j => (o.getD j none).map fun y => (j, y)).map (fun x : Nat × Nat => x.2) = usedOf o := by
      rw [List.map_filterMap]
      unfold usedOf
      have e3 : o.toList = (List.range (mask + 1)).map fun j => o.getD j none := by
        refine List.ext_getElem? fun j => ?_
        rw [Array.getElem?_toList, List.getElem?_map]
        by_cases hj : j < mask + 1
        · rw [List.getElem?_range hj, Array.getElem?_eq_getElem (by omega)]
          simp [Array.getD, show j < o.size by omega]
        · rw [List.getElem?_eq_none (by simp; omega), Array.getElem?_eq_none (by omega)]; rfl
      rw [e3, List.filterMap_map]
      congr 1
      funext j
      simp only [Function.comp_apply, id]
      cases o.getD j none <;> rfl
    show (((List.range (mask + 1)).filterMap fun j => (o.getD j none).map fun y => (j, y)).map (fun x : Nat × Nat => x.2)).Perm _
    rw [e4]
    exact hp
/-- a table of n ints that has never given way -/
structure TabI (t : SetTable) (n : Nat) (L : Bool) : Prop where
  sz : t.place.size = n
  dm : t.dummies = #[]
  ri : Rise t.place
  pl : t.plain = true
  ld : t.led = L
  ms : (t.mask = 7 ∧ n ≤ 4) ∨ (t.mask = 31 ∧ n ≤ 18) ∨ (t.mask = 127 ∧ n ≤ 63)
theorem TabI.fits {t : SetTable} {n : Nat} {L : Bool} (h : TabI t n L) : t.fits n = true := by
  unfold SetTable.fits SetTable.fill
  rw [h.sz, h.dm]
  have := h.ms
  simp
  omega
theorem TabI.fresh (L : Bool) : TabI (.fresh 0 0 L) 0 L := ⟨rfl, rfl, fun i j a b h => by simp [SetTable.fresh] at h, rfl, rfl, .inl ⟨rfl, by omega⟩⟩
theorem TabI.cov {t : SetTable} {n : Nat} {L : Bool} (h : TabI t n L) : coverM (t.mask + 1) = true := by
  rcases h.ms with ⟨e, _⟩ | ⟨e, _⟩ | ⟨e, _⟩ <;> rw [e]
  · exact cover8
  · exact cover32
  · exact cover128
theorem insertAt_size {α : Type} (xs : Array α) (p : Nat) (x : α) : (SetTable.insertAt xs p x).size = xs.size + 1 := by
  rw [← Array.length_toList, (SetTable.insertAt_perm xs p x).length_eq]; simp
/-- one more is laid -/
theorem layNew_ok {t : SetTable} {es : Array (Int × Value)} {L : Bool} (T : TabI t es.size L) (hn : es.size < 63) (h : Int) (x : Value) :
    ∃ es' t', layNew t es h x = (es', t', false, false) ∧ es'.size = es.size + 1 ∧ t'.place.size = es.size + 1 ∧ t'.dummies = #[] ∧ Rise t'.place ∧ t'.plain = true ∧ t'.led = L ∧ t'.mask = t.mask := by
  obtain ⟨j, ej, hj⟩ := free_some T.dm T.ri T.cov (by have := T.ms; have := T.sz; omega) h
  have hsz := T.sz
  have e1 : (SetTable.insertAt es (SetTable.below t.place j) (h, x)).size = es.size + 1 := insertAt_size ..
  have hd : SetTable.has t.dummies j = false := by rw [T.dm]; simp [SetTable.has]
  have e2 : t.put j = ({ t with place := SetTable.insertAt t.place (SetTable.below t.place j) j }, SetTable.below t.place j) := by
    unfold SetTable.put
    simp only [hd]
    rfl
  have hf : ({ t with place := SetTable.insertAt t.place (SetTable.below t.place j) j } : SetTable).fits (es.size + 1) = true := by
    unfold SetTable.fits SetTable.fill
    simp only [insertAt_size, T.dm, hsz]
    have := T.ms
    simp
    omega
  refine ⟨SetTable.insertAt es (SetTable.below t.place j) (h, x), { t with place := SetTable.insertAt t.place (SetTable.below t.place j) j }, ?_, e1, by show (SetTable.insertAt _ _ _).size = _; rw [insertAt_size, hsz], T.dm, rise_insert T.ri hj, T.pl, T.ld, rfl⟩
  unfold layNew
  rw [ej]
  dsimp only
  rw [e2]
  dsimp only
  unfold SetTable.orStandIn
  rw [e1, hf]
  rfl
/-- the table grows -/
theorem relay_ok {t : SetTable} {es : Array (Int × Value)} {wanted mask : Nat} (hm : SetTable.sizeAbove wanted - 1 = mask) (hc : coverM (mask + 1) = true) (hn : es.size ≤ mask) :
    ∃ es' t', relayAll t es wanted = (es', t', false) ∧ es'.size = es.size ∧ t'.place.size = es.size ∧ t'.dummies = #[] ∧ Rise t'.place ∧ t'.plain = t.plain ∧ t'.led = t.led ∧ t'.mask = mask := by
  obtain ⟨place, order, e, hr, hp, ho⟩ := laid_ok hc (es.map (·.1)) (by simpa using hn) t.finger (t.movedTo mask) t.led t.plain
  rw [Array.size_map] at hp ho
  have e1 : t.relaid (es.map (·.1)) wanted = some ({ mask, place, dummies := #[], finger := t.finger, led := t.led, moves := t.movedTo mask, plain := t.plain }, order) := by
    unfold SetTable.relaid
    rw [hm]; exact e
  have e2 : (order.filterMap (es[·]?)).size = es.size := by
    rw [← Array.length_toList, Array.toList_filterMap, ((ho.filterMap _).trans (by rw [filterMap_getElem?_range])).length_eq]; simp
  have e3 : coversAll order es.size = true := List.isPerm_iff.mpr ho
  have e4 : ({ mask, place, dummies := #[], finger := t.finger, led := t.led, moves := t.movedTo mask, plain := t.plain } : SetTable).fits es.size = true := by
    unfold SetTable.fits SetTable.fill
    simp [hp]
    omega
  refine ⟨order.filterMap (es[·]?), { mask, place, dummies := #[], finger := t.finger, led := t.led, moves := t.movedTo mask, plain := t.plain }, ?_, e2, hp, rfl, hr, rfl, rfl, rfl⟩
  unfold relayAll
  rw [e1]
  dsimp only
  rw [e2, e3, e4]
  rfl
end L2
namespace L2
open PySem PySem.Spec PyProof.Rows
/-! ### set(xs), a list of ints with fewer than 64 different ones -/
def keyI : Value → Int
  | .int n _ => n
  | _ => 0
def keysI (es : Array (Int × Value)) : List Int := es.toList.map fun e => keyI e.2
def ISet (prog : Program) (w : World) (h : Heap) (a : Addr) (fm : List Int) (L : Bool) : Prop :=
  ∃ es ep t, h.get? a = some { cls := .type "set", dict := none, data := .set es ep t, slots := #[] } ∧ ElemsOf (intKind prog w) es.toList ∧ (keysI es).Perm fm ∧ TabI t es.size L ∧ es.size ≤ 63
theorem keys_mem {prog : Program} {w : World} {es : Array (Int × Value)} (hel : ElemsOf (intKind prog w) es.toList) {k : Int} : k ∈ keysI es ↔ ∃ e ∈ es.toList, (intKind prog w).is k e.2 = true := by
  unfold keysI
  rw [List.mem_map]
  constructor
  · rintro ⟨e, he, rfl⟩
    obtain ⟨⟨k', hk, _⟩, _⟩ := hel e he
    obtain ⟨t, et⟩ := Value.isInt_shape (show Value.isInt k' e.2 = true from hk)
    exact ⟨e, he, by rw [et]; exact intKind_is prog w _ t⟩
  · rintro ⟨e, he, hk⟩
    obtain ⟨t, et⟩ := Value.isInt_shape (show Value.isInt k e.2 = true from hk)
    exact ⟨e, he, by rw [et]; rfl⟩
theorem keys_len (es : Array (Int × Value)) : (keysI es).length = es.size := by unfold keysI; simp
section
variable {prog : Program} {w : World} {A : Around} {E : Value → Shared → Prop} {s : Shared}
theorem iset_store {a : Addr} {es : Array (Int × Value)} {ep : Nat} {t : SetTable} {es' : Array (Int × Value)} {t' : SetTable} {Q : Unit → Shared → Prop} {s : Shared}
    (ho : s.heap.get? a = some { cls := .type "set", dict := none, data := .set es ep t, slots := #[] }) (hz : es'.size ≤ 64)
    (h : ∀ h', Heap.SameBut a s.heap h' → h'.get? a = some { cls := .type "set", dict := none, data := .set es' (ep + 1) t', slots := #[] } → Q () { s with heap := h' }) : wpAny (model prog w) A (storeSet a es' t') Q E s := by
  refine wpAny_storeSet_of ho rfl (h _ (Heap.SameBut.update s.heap a _) ?_) (Nat.le_of_lt (small1000 (by omega)))
  have := Heap.get?_update_self (Obj.putSet es' t') ho (by rw [putSet_of es' t' rfl]; rfl)
  rw [putSet_of es' t' rfl] at this
  exact this
theorem iset_add {a : Addr} {fm : List Int} {L : Bool} {k : Int} {tk : Tok} {Q : Bool → Shared → Prop} (hS : ISet prog w s.heap a fm L) (hroom : (step_dedup fm k).length ≤ 63)
    (h : ∀ b h', Heap.SameBut a s.heap h' → ISet prog w h' a (step_dedup fm k) L → Q b { s with heap := h' }) :
    wpAny (model prog w) A (setAddHashed a (.int k tk) (hashInt k)) Q E s := by
  obtain ⟨es, ep, t, ho, hel, hpm, hT, hsz⟩ := hS
  have hf := hT.fits
  have hsc : (Value.int k tk).scannable = true := rfl
  have hkey : (intKind prog w).is k (.int k tk) = true := intKind_is prog w k tk
  unfold setAddHashed setAddHashedIn
  refine wpAny_holding (wpAny_bind (wpAny_setState_of ho rfl hf ?_))
  dsimp only
  rw [byScan_of (knd := intKind prog w) hsc (by unfold scanBound; omega) hel]
  simp only [↓reduceIte]
  unfold setAddByScan
  refine wpAny_bind ?_
  refine wpAny_bind (wpAny_rule ?_)
  refine wpAny_bind (wpAny_setScan_of (knd := intKind prog w) hkey ho rfl hf hel ?_)
  cases hr : List.findIdx? (fun e => (intKind prog w).is k e.2) es.toList with
  | some j =>
    dsimp only
    obtain ⟨hj, hpj, _⟩ := List.findIdx?_eq_some_iff_getElem.mp hr
    have hin : k ∈ fm := hpm.mem_iff.mp ((keys_mem hel).mpr ⟨_, List.getElem_mem hj, hpj⟩)
    have hst : step_dedup fm k = fm := by unfold step_dedup; rw [if_pos (List.any_eq_true.mpr ⟨k, hin, by simp⟩)]
    rw [hst] at h
    refine wpAny_pure (wpAny_pure ?_)
    have e : s = { s with heap := s.heap } := by cases s; rfl
    rw [e]
    exact h _ s.heap (Heap.SameBut.refl a s.heap) ⟨es, ep, t, ho, hel, hpm, hT, hsz⟩
  | none =>
    dsimp only
    have hout : k ∉ fm := fun z => by
      obtain ⟨e, he, hp⟩ := (keys_mem hel).mp (hpm.mem_iff.mpr z)
      have := List.findIdx?_eq_none_iff.mp hr e he
      rw [hp] at this; exact Bool.noConfusion this
    have hst : step_dedup fm k = fm ++ [k] := by
      unfold step_dedup
      rw [if_neg (fun z => by
        obtain ⟨y, hy, e⟩ := List.any_eq_true.mp z
        have : y = k := by simpa using e
        exact hout (this ▸ hy))]
    rw [hst] at h hroom
    have hfl : fm.length = es.size := by rw [← hpm.length_eq, keys_len]
    have hn63 : es.size < 63 := by rw [List.length_append, hfl] at hroom; simp at hroom; omega
    have hperm := layNew_perm t es (hashInt k) (.int k tk)
    obtain ⟨es1, t1, e1, z1, z2, z3, z4, z5, z6, z7⟩ := layNew_ok hT hn63 (hashInt k) (.int k tk)
    have e1' : layNew t es ((intKind prog w).hash k) (.int k tk) = (es1, t1, false, false) := e1
    rw [e1] at hperm
    dsimp only at hperm
    rw [Array.toList_push] at hperm
    have hel1 : ElemsOf (intKind prog w) es1.toList := (hel.push hkey hsc).perm hperm
    have hpm1 : (keysI es1).Perm (fm ++ [k]) := by
      unfold keysI
      refine (hperm.map _).trans ?_
      rw [List.map_append]
      exact hpm.append_right _
    have e1'' : layNew t es (hashInt k) (.int k tk) = (es1, t1, false, false) := e1
    rw [e1'']
    dsimp only
    refine wpAny_bind (wpAny_pure ?_)
    rw [z5]
    simp only [↓reduceIte]
    rw [hashByValue_scannable 8 hsc]
    refine wpAny_bind (wpAny_pure ?_)
    simp only [plainKind, ↓reduceIte]
    refine wpAny_bind (iset_store ho (by omega) fun h1 sb1 ho1 => ?_)
    by_cases hfull : t1.tooFull = true
    · rw [hfull]
      simp only [Bool.not_false, Bool.and_self, ↓reduceIte]
      obtain ⟨mask, hm, hc, hnm, hms⟩ : ∃ mask, SetTable.sizeAbove (SetTable.grown es1.size) - 1 = mask ∧ coverM (mask + 1) = true ∧ es1.size ≤ mask ∧ ((mask = 7 ∧ es1.size ≤ 4) ∨ (mask = 31 ∧ es1.size ≤ 18) ∨ (mask = 127 ∧ es1.size ≤ 63)) := by
        unfold SetTable.tooFull SetTable.fill at hfull
        rw [z2, z3, z7] at hfull
        have hfull : (es.size + 1 + 0) * 5 ≥ t.mask * 3 := of_decide_eq_true hfull
        rcases hT.ms with ⟨m1, m2⟩ | ⟨m1, m2⟩ | ⟨m1, m2⟩
        · rw [m1] at hfull
          have : es1.size = 5 := by omega
          rw [this]
          exact ⟨31, by decide +kernel, cover32, by omega, by omega⟩
        · rw [m1] at hfull
          have : es1.size = 19 := by omega
          rw [this]
          exact ⟨127, by decide +kernel, cover128, by omega, by omega⟩
        · rw [m1] at hfull; omega
      have hp2 := relayAll_perm t1 es1 (SetTable.grown es1.size)
      obtain ⟨es2, t2, e2, y1, y2, y3, y4, y5, y6, y7⟩ := relay_ok (t := t1) (es := es1) hm hc hnm
      rw [e2] at hp2 ⊢
      dsimp only at hp2 ⊢
      refine wpAny_bind (wpAny_pure ?_)
      refine wpAny_bind (iset_store ho1 (by omega) fun h2 sb2 ho2 => ?_)
      refine wpAny_pure (wpAny_pure ?_)
      refine h _ h2 (sb1.trans sb2) ⟨es2, _, t2, ho2, hel1.perm hp2, (hp2.map _).trans hpm1, ⟨y2.trans y1.symm, y3, y4, y5.trans z5, y6.trans z6, by rw [y7, y1]; exact hms⟩, by omega⟩
    · have hfull : t1.tooFull = false := by simpa using hfull
      rw [hfull]
      simp only [Bool.and_false, Bool.false_eq_true, ↓reduceIte]
      refine wpAny_pure (wpAny_pure ?_)
      refine h _ h1 sb1 ⟨es1, _, t1, ho1, hel1, hpm1, ⟨z2.trans z1.symm, z3, z4, z5, z6, ?_⟩, by omega⟩
      unfold SetTable.tooFull SetTable.fill at hfull
      rw [z2, z3, z7] at hfull
      have hfull : ¬ (es.size + 1 + 0) * 5 ≥ t.mask * 3 := of_decide_eq_false hfull
      rw [z7, z1]
      rcases hT.ms with ⟨m1, m2⟩ | ⟨m1, m2⟩ | ⟨m1, m2⟩
      · rw [m1] at hfull; left; omega
      · rw [m1] at hfull; right; left; omega
      · right; right; omega
theorem ISet.at {h h' : Heap} {a : Addr} {fm : List Int} {L : Bool} (S : ISet prog w h a fm L) (e : ∀ o, h.get? a = some o → h'.get? a = some o) : ISet prog w h' a fm L := by
  obtain ⟨es, ep, t, ho, r⟩ := S
  exact ⟨es, ep, t, e _ ho, r⟩
theorem firstMet_le (val : Nat → Int) : ∀ {i n : Nat}, i ≤ n → (firstMet val i).length ≤ (firstMet val n).length
  | i, 0, h => by rw [show i = 0 by omega]; exact Nat.le_refl _
  | i, n + 1, h => by
    by_cases e : i = n + 1
    · rw [e]; exact Nat.le_refl _
    · refine Nat.le_trans (firstMet_le val (show i ≤ n by omega)) ?_
      rw [firstMet_succ, step_length]
      split <;> omega
theorem iset_loop {R : Result → Shared → Prop} {I : Addr} {fp wr : List Addr} {G : Array GenState → Array GenState → Prop} {n : Nat} {P : Nat → Value → Prop} {St : Nat → Shared → Prop} (W : WalksS prog w A.in1 I fp wr G n P St) (S : Addr) (hSf : S ∉ fp) {L : Bool}
    (val : Nat → Int) (hval : ∀ i v, P i v → ∃ t, v = .int (val i) t) (hb : (firstMet val n).length ≤ 63) : ∀ (k i : Nat) (s : Shared), n - i = k → i ≤ n → St i s → ISet prog w s.heap S (firstMet val i) L →
      (∀ s', Moved (S :: wr) G s s' → ISet prog w s'.heap S (firstMet val n) L → R (.ok (.ret .none)) s') → codeAny (model prog w) A (.builtin "set.update.loop" ⟨[.ref S, .ref I], []⟩) R s := by
  have hSw : S ∉ wr := fun h => hSf (W.sub _ h)
  have hsub : ∀ b ∈ wr, b ∈ S :: wr := fun b hb => List.mem_cons_of_mem _ hb
  intro k
  induction k with
  | zero =>
    intro i s hk hi hst hS hR
    have hin : i = n := by omega
    subst hin
    refine codeAny_builtin PyProof.Rows.F.entry_set_update_loop ?_
    rw [Around.under_plainId PyProof.Rows.F.plain_set_update_loop _]
    show wpAny _ A.in1 (pyNext (.ref I) >>= _) _ _ s
    refine wpAny_bind (W.done s _ _ hst fun s' hm => ?_)
    show wpAny _ A.in1 (ret Value.none) _ _ s'
    exact wpAny_pure (hR s' (hm.mono hsub) (hS.at fun o e => hm.heap S o hSw e))
  | succ k ih =>
    intro i s hk hi hst hS hR
    have hlt : i < n := by omega
    refine codeAny_builtin PyProof.Rows.F.entry_set_update_loop ?_
    rw [Around.under_plainId PyProof.Rows.F.plain_set_update_loop _]
    show wpAny _ A.in1 (pyNext (.ref I) >>= _) _ _ s
    refine wpAny_bind (W.item i s _ _ hlt hst fun v s' hP hst' hm => ?_)
    obtain ⟨t, rfl⟩ := hval i v hP
    have hS' : ISet prog w s'.heap S (firstMet val i) L := hS.at fun o e => hm.heap S o hSw e
    show wpAny _ A.in1 (holding [Value.int (val i) t] (setAdd S (.int (val i) t)) >>= _) _ _ s'
    refine wpAny_bind (wpAny_holding ?_)
    unfold setAdd
    refine wpAny_holding ?_
    refine wpAny_bind ((intKind prog w).pyHash (k := val i) (intKind_is _ _ _ _) ?_)
    have hfs := firstMet_succ val i
    refine iset_add (s := { s' with toks := s'.toks + 1 }) hS' (by rw [← hfs]; exact Nat.le_trans (firstMet_le val hlt) hb) fun b h' hsb hS2 => ?_
    rw [← hfs] at hS2
    refine wpAny_pure ⟨plainId_quiet PyProof.Rows.F.plain_set_update_loop _, ih (i + 1) _ (by omega) hlt (W.frame _ s' _ _ hst' (Nat.le_succ _) fun b hb o e => ?_) hS2 fun s'' hm'' hS'' => ?_⟩
    · rw [hsb.2 b (fun h : b = S => hSf (by rw [← h]; exact hb))]; exact e
    · refine hR s'' (Moved.trans W.gtrans ((hm.mono hsub).then_heap (Nat.le_succ _) fun b o hb e => ?_) hm'') hS''
      rw [hsb.2 b (fun h : b = S => hb (by rw [h]; exact List.mem_cons_self))]; exact e
/-- a new set, in the order that the world keeps -/
theorem iset_new (a : Value) {Q₁ : Value → Shared → Prop}
    (h : Q₁ (.ref s.heap.objs.size) { s with heap := s.heap.push { cls := .type "set", dict := none, data := .set #[] 0 (.fresh 0 0 (!w.params.followText "set-order")) } }) :
    codeAny (model prog w) A (.call (.builtin "set.__new__") ⟨[.type "set", a], []⟩) (wants Q₁ E) s := by
  refine codeAny_of_tree ?_
  show wpAny _ A.in1 (do checkBuiltinCall "set.__new__" ⟨[.type "set", a], []⟩; again (.builtin "set.__new__" ⟨[.type "set", a], []⟩)) _ _ s
  refine wpAny_bind (wpAny_of_eq (PySem.F.newCall_set_1 a) (wpAny_pure ⟨plainId_quiet PySem.F.plain_set_new _, codeAny_builtin PySem.F.entry_set_new ?_⟩))
  rw [Around.under_plainId PySem.F.plain_set_new _]
  unfold Builtin.«set.__new__» Builtin.Frozenset.newClass
  have hsub := sub_set_self
  obtain ⟨hp, g, d, tk, os⟩ := s
  dsimp only
  wp_walk
  refine wpAny_askSetting (wpAny_pure ?_)
  dsimp only
  simp only [newObj]
  refine wpAny_bind (wpAny_alloc (wpAny_pure ?_))
  exact wpAny_pure h
set_option maxHeartbeats 6400000 in
theorem iset_call {l : Addr} {items : Array Value} {ns : List Int} {Q : Value → Shared → Prop} (hh : A.handled = none) (hl : s.heap.IsList l items) (hi : IntsAre items.toList ns) (hb : (firstMet (fun i => ns.getD i 0) items.size).length ≤ 63)
    (h : ∀ (h' : Heap) (tk : Nat), ISet prog w h' s.heap.objs.size (firstMet (fun i => ns.getD i 0) items.size) (!w.params.followText "set-order") → (∀ b o, b < s.heap.objs.size → s.heap.get? b = some o → h'.get? b = some o) → Q (.ref s.heap.objs.size) { s with heap := h', toks := tk }) :
    wpAny (model prog w) A (call (.type "set") [.ref l]) Q E s := by
  obtain ⟨c, tl, hmro⟩ := PySem.F.called_set.mro
  have hmade := PySem.F.called_set.made
  have hsub := PySem.F.called_set.sub
  refine wpAny_call (codeAny_of_tree ?_)
  show wpAny _ _ (callAny (.type "set") _) _ _ _
  refine wpAny_pure ⟨Code.quiet_builtin _ (by decide +kernel), codeAny_builtin PySem.F.entry_type_call ?_⟩
  rw [Around.under_plain (weight_type_call_type "set" [.ref l] []) rfl]
  have h1 := PySem.F.called_set.notType
  have h2 := PySem.F.called_set.canCreate
  have hct := PySem.F.typeCall_set_1 (.ref l)
  repeat (any_goals (first | assumption | wp_step))
  obtain ⟨led, hled⟩ : ∃ led : Bool, led = !w.params.followText "set-order" := ⟨_, rfl⟩
  refine codeAny_mono (iset_new (.ref l) (E := E) (Q₁ := fun obj s₁ => obj = .ref s.heap.objs.size ∧ s₁ = { s with heap := s.heap.push { cls := .type "set", dict := none, data := .set #[] 0 (.fresh 0 0 led) } }) ⟨rfl, by rw [hled]⟩) fun r s₁ hr => ?_
  cases r with
  | error e => exact hr
  | ok fl =>
    cases fl with
    | ret obj =>
      obtain ⟨rfl, rfl⟩ := hr
      have hS : (s.heap.push { cls := .type "set", dict := none, data := .set #[] 0 (.fresh 0 0 led) }).get? s.heap.objs.size = some { cls := .type "set", dict := none, data := .set #[] 0 (.fresh 0 0 led) } := Heap.get?_push_size _ rfl
      have hT : Shared.TypeIs { s with heap := s.heap.push { cls := .type "set", dict := none, data := .set #[] 0 (.fresh 0 0 led) } } (.ref s.heap.objs.size) "set" := ⟨_, hS, rfl⟩
      have hli := PySem.F.called_set.init.lookup
      have hbi := PySem.F.called_set.init.bind (.ref s.heap.objs.size)
      repeat (any_goals (first | assumption | wp_step))
      refine codeAny_mono (codeAny_call_builtin (R := wants (fun r s₂ => r = .none ∧ ∃ h' tk, s₂ = { s with heap := h', toks := tk } ∧ ISet prog w h' s.heap.objs.size (firstMet (fun i => ns.getD i 0) items.size) (!w.params.followText "set-order") ∧ (∀ b o, b < s.heap.objs.size → s.heap.get? b = some o → h'.get? b = some o)) E) PySem.F.called_set.init.plain PySem.F.entry_set_init (check_set_init_1 hT ?_)) fun r₂ s₂ hr₂ => ?_
      · obtain ⟨ol, hol, hcl, nl, hdl⟩ := hl
        obtain ⟨ocls, odict, odata, oslots⟩ := ol
        simp only at hcl hdl
        subst hcl; subst hdl
        have hol' : (s.heap.push { cls := .type "set", dict := none, data := .set #[] 0 (.fresh 0 0 led) }).get? l = some { cls := .type "list", dict := odict, data := .seq items nl, slots := oslots } := Heap.get?_push_of_some _ hol
        have hsls := PySem.F.sub_list_set
        have hslf := PySem.F.sub_list_frozenset
        have hne : (Value.type "list" == Value.type "dict") = false := by decide
        have hl1 : (s.heap.push { cls := .type "set", dict := none, data := .set #[] 0 (.fresh 0 0 led) }).IsList l items := ⟨_, hol', rfl, nl, rfl⟩
        unfold Builtin.«set.__init__» noKeywords Builtin.Frozenset.updateFrom
        generalize hPI : pyIter = PI
        wp_walk
        subst hPI
        refine wpAny_pyIter_list hl1 ?_
        refine wpAny_bind (wpAny_runValue ?_)
        have hlS : l < s.heap.objs.size := Heap.lt_size hol
        have hh3 : A.in1.in1.in1.handled = none := by simp [hh]
        have hneI : l ≠ (s.heap.push { cls := .type "set", dict := none, data := .set #[] 0 (.fresh 0 0 led) }).objs.size := by rw [Heap.size_push]; exact Nat.ne_of_lt (Nat.lt_succ_of_lt hlS)
        have hSf : s.heap.objs.size ∉ [(s.heap.push { cls := .type "set", dict := none, data := .set #[] 0 (.fresh 0 0 led) }).objs.size, l] := by
          rw [Heap.size_push]; simp only [List.mem_cons, List.mem_singleton, List.not_mem_nil, or_false, not_or]
          exact ⟨Nat.ne_of_lt (Nat.lt_succ_self _), Nat.ne_of_gt hlS⟩
        have hval : ∀ (i : Nat) (v : Value), items[i]? = some v → ∃ t, v = .int ((fun i => ns.getD i 0) i) t := fun i v hv => IntsAre.int_at hi i v (by rw [Array.getElem?_toList]; exact hv)
        refine iset_loop (L := !w.params.followText "set-order") ((Walks.list hh3 _ l hneI items).toS) s.heap.objs.size hSf (fun i => ns.getD i 0) hval hb (items.size - 0) 0 _ (by omega) (Nat.zero_le _) ⟨⟨_, Heap.get?_push_size _ rfl, rfl, rfl⟩, (hl1.push _)⟩ ?hS0 ?hR
        case hS0 =>
          exact ⟨#[], 0, _, Heap.get?_push_of_some _ hS, fun e he => by simp at he, .nil, by rw [← hled]; exact TabI.fresh _, by simp⟩
        case hR =>
          intro s' hm hS'
          obtain ⟨h', g', d', tk', os'⟩ := s'
          have eg : g' = s.gens := hm.gens
          have ed : d' = s.drawn := hm.drawn
          have eo : os' = s.os := hm.os
          subst eg; subst ed; subst eo
          show wpAny _ _ _ _ _ _
          refine wpAny_pure ?_
          show wpAny _ _ (ret Value.none) _ _ _
          refine wpAny_pure ⟨rfl, h', tk', rfl, hS', fun b o hb e => ?_⟩
          have hb1 : b ≠ s.heap.objs.size := Nat.ne_of_lt hb
          have hb2 : b ≠ (s.heap.push { cls := .type "set", dict := none, data := .set #[] 0 (.fresh 0 0 led) }).objs.size := by rw [Heap.size_push]; exact Nat.ne_of_lt (Nat.lt_succ_of_lt hb)
          exact hm.heap b o (by simp only [List.mem_cons, List.mem_singleton, List.not_mem_nil, or_false, not_or]; exact ⟨hb1, hb2⟩) (Heap.get?_push_of_some _ (Heap.get?_push_of_some _ e))
      · cases r₂ with
        | error e => exact hr₂
        | ok fl₂ =>
          cases fl₂ with
          | ret r =>
            obtain ⟨rfl, h', tk, rfl, hS', hk'⟩ := hr₂
            repeat (any_goals (first | assumption | wp_step))
            exact h _ _ hS' hk'
          | _ => exact hr₂.elim
    | _ => exact hr.elim
end
end L2
namespace L2
open PySem PySem.Spec PyProof.Rows
/-! ### a set of ints is walked -/
theorem pick_go {α : Type} (next : Nat → Nat) : ∀ (fuel k : Nat) (left : List α) (out : Array α), left.length = fuel → (pickOrder.go next fuel k left out).toList.Perm (out.toList ++ left)
  | 0, k, left, out, h => by
    have : left = [] := List.length_eq_zero_iff.mp h
    subst this
    unfold pickOrder.go
    simp
  | fuel + 1, k, left, out, h => by
    unfold pickOrder.go
    have hlt : next k % left.length < left.length := Nat.mod_lt _ (by omega)
    rw [List.getElem?_eq_getElem hlt]
    dsimp only
    refine (pick_go next fuel (k + 1) _ _ (by rw [List.length_eraseIdx_of_lt hlt]; omega)).trans ?_
    rw [Array.toList_push, List.append_assoc]
    refine (List.perm_append_left_iff _).mpr ?_
    rw [List.eraseIdx_eq_take_drop_succ]
    have e : left = left.take (next k % left.length) ++ left[next k % left.length] :: left.drop (next k % left.length + 1) := by
      conv => lhs; rw [← List.take_append_drop (next k % left.length) left, List.drop_eq_getElem_cons hlt]
    conv => rhs; rw [e]
    show (left[next k % left.length] :: (left.take (next k % left.length) ++ left.drop (next k % left.length + 1))).Perm _
    exact List.perm_middle.symm
theorem pick_perm {α : Type} (next : Nat → Nat) (xs : Array α) : (pickOrder next xs).toList.Perm xs.toList := by
  unfold pickOrder
  have := pick_go next xs.size 0 xs.toList #[] (by simp)
  simpa using this
def setOrd (w : World) (d : Addr) (ep : Nat) (es : Array (Int × Value)) : Array (Int × Value) := if w.params.followText "set-order" = true then pickOrder (w.params.setOrder d ep) es else es
theorem setOrd_perm (w : World) (d : Addr) (ep : Nat) (es : Array (Int × Value)) : (setOrd w d ep es).toList.Perm es.toList := by
  unfold setOrd
  split
  · exact pick_perm _ _
  · exact .rfl
theorem setOrd_size (w : World) (d : Addr) (ep : Nat) (es : Array (Int × Value)) : (setOrd w d ep es).size = es.size := by
  rw [← Array.length_toList, (setOrd_perm w d ep es).length_eq, Array.length_toList]
def slotAt (w : World) (t : SetTable) (i : Nat) : Nat := if w.params.followText "set-order" = true then 0 else match i with
  | 0 => 0
  | k + 1 => t.place.getD k 0 + 1
def SIter (h : Heap) (I d : Addr) (first i n ep : Nat) : Prop := ∃ o, h.get? I = some o ∧ o.cls = .type "set_iterator" ∧ o.data = .fields #[rawInt first, rawInt i, .ref d, rawInt n, rawInt ep]
def SObj (h : Heap) (d : Addr) (es : Array (Int × Value)) (ep : Nat) (t : SetTable) : Prop := h.get? d = some { cls := .type "set", dict := none, data := .set es ep t, slots := #[] }
section
variable {prog : Program} {w : World} {A : Around} {E : Value → Shared → Prop} {s : Shared}
theorem set_next_at {d : Addr} {es : Array (Int × Value)} {ep : Nat} {t : SetTable} (hd : SObj s.heap d es ep t) (hT : TabI t es.size (!w.params.followText "set-order")) {i : Nat} {Q : Option (Value × Nat) → Shared → Prop}
    (h : ∀ r, (match (setOrd w d ep es)[i]? with | some e => r = some (e.2, slotAt w t (i + 1)) | none => r = none) → Q r s) (hi : i ≤ es.size) :
    wpAny (model prog w) A (setNext d (slotAt w t i) i ep) Q E s := by
  have hf := hT.fits
  unfold setNext
  refine wpAny_bind (wpAny_setState_of hd rfl hf ?_)
  dsimp only
  unfold setsByText
  refine wpAny_bind (wpAny_bind (wpAny_askSetting (wpAny_pure ?_)))
  by_cases hb : w.params.followText "set-order" = true
  · have hb' : (model prog w).w.params.followText "set-order" = true := hb
    simp only [hb', ↓reduceIte]
    simp only [bne_self_eq_false, Bool.false_eq_true, ↓reduceIte]
    refine wpAny_bind ?_
    unfold setWalk
    refine wpAny_bind (wpAny_setState_of hd rfl hf ?_)
    dsimp only
    unfold setsByText
    refine wpAny_bind (wpAny_bind (wpAny_askSetting (wpAny_pure ?_)))
    simp only [hb', ↓reduceIte]
    refine wpAny_bind (wpAny_askSetting (wpAny_pure ?_))
    refine wpAny_pure (h _ ?_)
    unfold setOrd slotAt
    simp only [hb, ↓reduceIte]
    show match (pickOrder (w.params.setOrder d ep) es)[i]? with | some e => _ | none => _
    cases e : (pickOrder (w.params.setOrder d ep) es)[i]? with
    | none =>
      have e' : (pickOrder ((model prog w).w.params.setOrder d ep) es)[i]? = none := e
      show Option.map _ _ = none
      rw [e']; rfl
    | some x =>
      have e' : (pickOrder ((model prog w).w.params.setOrder d ep) es)[i]? = some x := e
      show Option.map _ _ = some (x.2, 0)
      rw [e']; rfl
  · have hb : w.params.followText "set-order" = false := by simpa using hb
    have hb' : (model prog w).w.params.followText "set-order" = false := hb
    simp only [hb', Bool.false_eq_true, ↓reduceIte]
    have hpl := hT.pl
    have hld : t.led = true := by rw [hT.ld, hb]; rfl
    show wpAny _ _ (if (!t.plain && decide (es.size > 1)) = true then _ else _) _ _ _
    rw [hpl]
    simp only [Bool.not_true, Bool.false_and, Bool.false_eq_true, ↓reduceIte]
    show wpAny _ _ ((if (!t.led && !es.isEmpty) = true then _ else _) >>= _) _ _ _
    rw [hld]
    simp only [Bool.not_true, Bool.false_and, Bool.false_eq_true, ↓reduceIte]
    refine wpAny_bind (wpAny_pure ?_)
    refine wpAny_pure (h _ ?_)
    have eo : setOrd w d ep es = es := by unfold setOrd; rw [if_neg (by rw [hb]; simp)]
    have es1 : ∀ j, slotAt w t j = match j with | 0 => 0 | k + 1 => t.place.getD k 0 + 1 := fun j => by unfold slotAt; rw [if_neg (by rw [hb]; simp)]
    have hsz := hT.sz
    have ebl : SetTable.below t.place (slotAt w t i) = i := by
      rw [es1]
      cases i with
      | zero => exact below_zero hT.ri
      | succ k =>
        have hk : k < t.place.size := by omega
        have e1 : t.place[k]? = some t.place[k] := Array.getElem?_eq_getElem hk
        show SetTable.below t.place (t.place.getD k 0 + 1) = k + 1
        rw [show t.place.getD k 0 = t.place[k] by simp [Array.getD, hk]]
        exact below_next hT.ri e1
    rw [eo, ebl, es1]
    by_cases hlt : i < es.size
    · have hlt2 : i < t.place.size := by omega
      rw [Array.getElem?_eq_getElem hlt, Array.getElem?_eq_getElem hlt2]
      simp [Array.getD, hlt2]
    · rw [Array.getElem?_eq_none (by omega)]
namespace FS
theorem owner_si : Manifest.owners.lookup (String.ofList ['r', 'o', 't', 'a', 'r', 'e', 't', 'i', '_', 't', 'e', 's'].reverse) = some Manifest.sig_set_iterator := by kernel_rfl
theorem slot_si_next : Slot "set_iterator" "__next__" "set_iterator.__next__" :=
  .of (owner := "set_iterator") (n := "__next__") (by rw [typeLookup_type, builtinLookup_eq_fast]; kernel_rfl) (by decide +kernel) (by decide +kernel) (by decide +kernel)
    (by first | exact .inl (by decide +kernel) | exact .inr (by decide +kernel)) (by rw [isSubtype_type]; kernel_rfl)
theorem entry_si_next : entryFor table "set_iterator.__next__" = some Builtin.«set_iterator.__next__» := entryFor_of_tree (by kernel_rfl)
theorem args_si_next (a : Value) : argsOk "set_iterator.__next__" ⟨[a], []⟩ := by
  unfold argsOk; rw [signature?_of (id := "set_iterator.__next__") (n := ['_', '_', 't', 'x', 'e', 'n', '_', '_']) (o := ['r', 'o', 't', 'a', 'r', 'e', 't', 'i', '_', 't', 'e', 's']) (by kernel_rfl) owner_si]; kernel_rfl
theorem slot_si_iter : Slot "set_iterator" "__iter__" "set_iterator.__iter__" :=
  .of (owner := "set_iterator") (n := "__iter__") (by rw [typeLookup_type, builtinLookup_eq_fast]; kernel_rfl) (by decide +kernel) (by decide +kernel) (by decide +kernel)
    (by first | exact .inl (by decide +kernel) | exact .inr (by decide +kernel)) (by rw [isSubtype_type]; kernel_rfl)
theorem args_si_iter (a : Value) : argsOk "set_iterator.__iter__" ⟨[a], []⟩ := by
  unfold argsOk; rw [signature?_of (id := "set_iterator.__iter__") (n := ['_', '_', 'r', 'e', 't', 'i', '_', '_']) (o := ['r', 'o', 't', 'a', 'r', 'e', 't', 'i', '_', 't', 'e', 's']) (by kernel_rfl) owner_si]; kernel_rfl
theorem entry_si_iter : entryFor table "set_iterator.__iter__" = some Builtin.«dict_keyiterator.__iter__» :=
  entryFor_alias (id' := "dict_keyiterator.__iter__") (by kernel_rfl) (by first | rfl | decide +kernel | (unfold String.splitOn; simp +decide [String.splitOnAux])) (by decide +kernel) (by kernel_rfl)
theorem entry_set_iter : entryFor table "set.__iter__" = some Builtin.«frozenset.__iter__» :=
  entryFor_alias (id' := "frozenset.__iter__") (by kernel_rfl) rfl (by decide +kernel) (by kernel_rfl)
end FS
theorem SIter.typeIs {I d : Addr} {a b c e : Nat} (x : SIter s.heap I d a b c e) : s.TypeIs (.ref I) "set_iterator" := let ⟨o, ho, hc, _⟩ := x; ⟨o, ho, hc⟩
theorem SIter.at {h h' : Heap} {I d : Addr} {a b c e : Nat} (x : SIter h I d a b c e) (k : ∀ o, h.get? I = some o → h'.get? I = some o) : SIter h' I d a b c e := let ⟨o, ho, r⟩ := x; ⟨o, k _ ho, r⟩
theorem SObj.typeIs {d : Addr} {es : Array (Int × Value)} {ep : Nat} {t : SetTable} (x : SObj s.heap d es ep t) : s.TypeIs (.ref d) "set" := ⟨_, x, rfl⟩
theorem set_next_item {I d : Addr} {es : Array (Int × Value)} {ep : Nat} {t : SetTable} {i : Nat} {Q : Option Value → Shared → Prop} (hit : SIter s.heap I d (slotAt w t i) i es.size ep) (hd : SObj s.heap d es ep t) (hT : TabI t es.size (!w.params.followText "set-order")) (hi : i < es.size)
    (hQ : ∀ h' x, (setOrd w d ep es)[i]? = some x → SIter h' I d (slotAt w t (i + 1)) (i + 1) es.size ep → Heap.SameBut I s.heap h' → Q (some x.2) { s with heap := h' }) : wpAny (model prog w) A (pyNext (.ref I)) Q E s := by
  obtain ⟨o, ho, hc, hdt⟩ := id hit
  have hex : ∃ x, (setOrd w d ep es)[i]? = some x := ⟨_, Array.getElem?_eq_getElem (by rw [setOrd_size]; exact hi)⟩
  obtain ⟨x, hx⟩ := hex
  unfold pyNext
  refine wpAny_bind (wpAny_attempt (wpAny_callSpecial?_slot (name := Str.ofString "__next__") hit.typeIs FS.slot_si_next (wpAny_call_entry FS.slot_si_next hit.typeIs FS.entry_si_next ?_ (FS.args_si_next _))))
  unfold Builtin.«set_iterator.__next__»
  refine wpAny_bind (wpAny_of_eq (a := (Value.ref I, [])) rfl ?_)
  try dsimp only
  refine wpAny_bind (wpAny_fieldsOf ho hdt ?_)
  dsimp only [rawInt]
  refine wpAny_bind (wpAny_setEntries_of hd rfl hT.fits ?_)
  simp only [bne_self_eq_false, Bool.false_eq_true, ↓reduceIte, Int.toNat_natCast]
  refine wpAny_bind (set_next_at hd hT (fun r hr => ?_) (Nat.le_of_lt hi))
  rw [hx] at hr
  subst hr
  dsimp only
  refine wpAny_bind (wpAny_setField ho hdt (by simp) ?_)
  have g1 := Heap.get?_update_self (Obj.mapFields (·.setIfInBounds 0 (Value.int (slotAt w t (i + 1) : Int) 0))) ho (Obj.isFreed_of_fields (Obj.data_mapFields hdt _))
  have c1 := (Obj.cls_mapFields (o := o) (f := (·.setIfInBounds 0 (Value.int (slotAt w t (i + 1) : Int) 0)))).trans hc
  have d1 : (Obj.mapFields (·.setIfInBounds 0 (Value.int (slotAt w t (i + 1) : Int) 0)) o).data = .fields #[rawInt (slotAt w t (i + 1)), rawInt i, .ref d, rawInt es.size, rawInt ep] := by rw [Obj.data_mapFields hdt]; simp [rawInt]
  generalize Obj.mapFields (·.setIfInBounds 0 (Value.int (slotAt w t (i + 1) : Int) 0)) o = o1 at g1 c1 d1
  refine wpAny_bind (wpAny_setField g1 d1 (by simp) ?_)
  refine wpAny_pure ⟨x.2, rfl, wpAny_pure (hQ _ x hx ?_ ((Heap.SameBut.update ..).trans (Heap.SameBut.update ..)))⟩
  exact ⟨_, Heap.get?_update_self _ g1 (Obj.isFreed_of_fields (Obj.data_mapFields d1 _)), (Obj.cls_mapFields ..).trans c1, by rw [Obj.data_mapFields d1]; simp [rawInt]⟩
theorem set_next_end {I d : Addr} {es : Array (Int × Value)} {ep : Nat} {t : SetTable} {Q : Option Value → Shared → Prop} (hh : A.handled = none) (hit : SIter s.heap I d (slotAt w t es.size) es.size es.size ep) (hd : SObj s.heap d es ep t) (hT : TabI t es.size (!w.params.followText "set-order"))
    (hQ : ∀ h', Heap.ExtBut I s.heap h' → Q none { s with heap := h' }) : wpAny (model prog w) A (pyNext (.ref I)) Q E s := by
  obtain ⟨o, ho, hc, hdt⟩ := id hit
  have hx : (setOrd w d ep es)[es.size]? = none := Array.getElem?_eq_none (by rw [setOrd_size]; exact Nat.le_refl _)
  unfold pyNext
  refine wpAny_bind (wpAny_attempt (wpAny_callSpecial?_slot (name := Str.ofString "__next__") hit.typeIs FS.slot_si_next (wpAny_call_entry FS.slot_si_next hit.typeIs FS.entry_si_next ?_ (FS.args_si_next _))))
  unfold Builtin.«set_iterator.__next__»
  refine wpAny_bind (wpAny_of_eq (a := (Value.ref I, [])) rfl ?_)
  try dsimp only
  refine wpAny_bind (wpAny_fieldsOf ho hdt ?_)
  dsimp only [rawInt]
  refine wpAny_bind (wpAny_setEntries_of hd rfl hT.fits ?_)
  simp only [bne_self_eq_false, Bool.false_eq_true, ↓reduceIte, Int.toNat_natCast]
  refine wpAny_bind (set_next_at hd hT (fun r hr => ?_) (Nat.le_refl _))
  rw [hx] at hr
  subst hr
  dsimp only
  refine wpAny_bind (wpAny_setField ho hdt (by simp) ?_)
  refine wpAny_bind ?_
  simp only [newExc, newTuple]
  refine wpAny_bind (wpAny_newObj_type ?_ (by size_fits))
  refine wpAny_bind (m := firstArgMember _ _) (wpAny_of_eq (a := Value.none) (by first | rfl | (simp only [firstArgMember]; rfl)) ?_)
  refine wpAny_newObj_type ?_ (by size_fits)
  simp only [raiseNew]
  refine wpAny_bind (wpAny_handled ?_)
  first | rw [show A.in1.handled = none from hh] | rw [hh]
  refine wpAny_bind (wpAny_pure (wpAny_throw ?_))
  refine wpAny_bind (wpAny_isInstance (T := "StopIteration") (b := true) ⟨_, Heap.get?_push_size _ rfl, rfl⟩ isSubtype_stop ?_)
  exact wpAny_pure (hQ _ (((Heap.SameBut.extBut (Heap.SameBut.update ..)).push _).push _))
theorem set_iter_self {I d : Addr} {a b c e : Nat} {Q : Value → Shared → Prop} (hit : SIter s.heap I d a b c e) (h : Q (.ref I) s) : wpAny (model prog w) A (pyIter (.ref I)) Q E s := by
  refine wpAny_pyIter_slot hit.typeIs FS.slot_si_iter (wpAny_call_entry FS.slot_si_iter hit.typeIs FS.entry_si_iter ?_ (FS.args_si_iter _))
  show wpAny _ _ (ret (.ref I)) _ _ s
  exact wpAny_pure ⟨_, rfl, "set_iterator", _, hit.typeIs, FS.slot_si_next.lookup, h⟩
def sIterObj (d : Addr) (n ep : Nat) : Obj := { cls := .type "set_iterator", data := .fields #[rawInt (0 : Nat), rawInt (0 : Nat), .ref d, rawInt n, rawInt ep] }
theorem set_iter {d : Addr} {es : Array (Int × Value)} {ep : Nat} {t : SetTable} {Q : Value → Shared → Prop} (hd : SObj s.heap d es ep t) (hT : TabI t es.size (!w.params.followText "set-order"))
    (h : Q (.ref s.heap.objs.size) { s with heap := s.heap.push (sIterObj d es.size ep) }) : wpAny (model prog w) A (pyIter (.ref d)) Q E s := by
  have hf := hT.fits
  refine wpAny_pyIter_slot hd.typeIs PySem.F.slot_set_iter (wpAny_call_entry PySem.F.slot_set_iter hd.typeIs FS.entry_set_iter ?_ (PySem.F.args_set_iter_1 _))
  unfold Builtin.«frozenset.__iter__»
  refine wpAny_bind (wpAny_of_eq (a := d) rfl ?_)
  unfold Builtin.Frozenset.sizeOf
  refine wpAny_bind (wpAny_bind (wpAny_setEntries_of hd rfl hf (wpAny_pure ?_)))
  unfold setDrawn
  refine wpAny_bind (wpAny_bind (wpAny_setState_of hd rfl hf ?_))
  dsimp only
  unfold setsByText
  refine wpAny_bind (wpAny_bind (wpAny_askSetting (wpAny_pure ?_)))
  refine wpAny_pure ?_
  have hdr : ∀ b : Bool, (b && (!t.plain && decide (es.size > 1))) = false := fun b => by rw [hT.pl]; simp
  show wpAny _ _ (if (!w.params.followText "set-order" && (!t.plain && decide (es.size > 1))) = true then _ else _) _ _ _
  rw [hdr]
  simp only [Bool.false_eq_true, ↓reduceIte]
  refine wpAny_bind (wpAny_pure ?_)
  refine wpAny_bind (wpAny_setEpoch_of hd rfl hf ?_)
  simp only [newFields]
  refine wpAny_bind (wpAny_newObj_type ?_)
  refine wpAny_pure ⟨_, rfl, "set_iterator", _, ⟨_, Heap.get?_push_size _ rfl, rfl⟩, FS.slot_si_next.lookup, ?_⟩
  exact h
theorem set_hint {r : Addr} {Q : Bool → Shared → Prop} (hT : s.TypeIs (.ref r) "set") (h : Q false s) : wpAny (model prog w) A (Builtin.List.listLengthHint (.ref r)) Q E s := by
  unfold Builtin.List.listLengthHint
  refine wpAny_bind (wpAny_specialOf hT PySem.F.slot_set_len.lookup ?_)
  generalize hid : ("set.__len__" : String) = id0
  wp_delta
  rw [show splitId id0 = some ("set", "__len__") from by subst hid; decide +kernel]
  subst hid
  refine wpAny_bind (wpAny_isInstance (T := "set") (b := true) hT (by rw [isSubtype_type]; kernel_rfl) ?_)
  refine wpAny_ite_split (fun hab => absurd hab (by decide)) (fun _ => ?_)
  refine wpAny_ite_split (fun _ => ?_) (fun hab => absurd (by decide +kernel) hab)
  refine wpAny_bind (wpAny_typeOf hT ?_)
  exact wpAny_pure h
theorem set_walks (hh : A.handled = none) (I d : Addr) (hne : d ≠ I) {es : Array (Int × Value)} {ep : Nat} {t : SetTable} (hT : TabI t es.size (!w.params.followText "set-order")) :
    Walks prog w A I [I, d] [I] es.size (fun i v => ∃ e, (setOrd w d ep es)[i]? = some e ∧ v = e.2) (fun i h => SIter h I d (slotAt w t i) i es.size ep ∧ SObj h d es ep t) where
  sub := fun b hb => by simp at hb; simp [hb]
  frame := fun _ _ _ st hk => ⟨st.1.at fun o e => hk I (by simp) o e, hk d (by simp) _ st.2⟩
  item := fun i s Q E hi st hQ => set_next_item st.1 st.2 hT hi fun h' x hx st' sb => hQ _ h' s.toks ⟨x, hx, rfl⟩ ⟨st', (sb.2 d hne).trans st.2⟩ fun b o hb eo => sb.extBut b o (fun h => hb (by simp [h])) eo
  done := fun s Q E st hQ => set_next_end hh st.1 st.2 hT fun h' he => hQ h' s.toks fun b o hb eo => he b o (fun h => hb (by simp [h])) eo
  self := fun _ _ _ _ st h => set_iter_self st.1 h
theorem slotAt_zero (w : World) (t : SetTable) : slotAt w t 0 = 0 := by unfold slotAt; split <;> rfl
theorem set_src {d : Addr} {es : Array (Int × Value)} {ep : Nat} {t : SetTable} (hT : TabI t es.size (!w.params.followText "set-order")) : PySem.W.KdlSrc prog w "set" d d es.size (fun i v => ∃ e, (setOrd w d ep es)[i]? = some e ∧ v = e.2) (fun h => SObj h d es ep t) where
  type := fun _ hm => hm.typeIs
  there := fun _ hm => ⟨Heap.lt_size hm, Heap.lt_size hm⟩
  keep := fun _ _ hm hk => hk d (.inl rfl) _ hm
  notList := by decide
  notTuple := by decide
  hint := fun _ _ _ _ hm hq => set_hint hm.typeIs hq
  iter := fun A s hh hm => ⟨sIterObj d es.size ep, _, (fun _ _ hq => set_iter hm hT hq), set_walks hh _ d (Nat.ne_of_lt (Heap.lt_size hm)) hT, ⟨⟨_, Heap.get?_push_size _ rfl, rfl, by rw [slotAt_zero]; rfl⟩, Heap.get?_push_of_some _ hm⟩⟩
end
section
variable {X : Cx}
theorem vals_at : ∀ {us : List Value} {ns : List Int}, us.length = ns.length → (∀ (j : Nat) v, us[j]? = some v → ∃ n t, ns[j]? = some n ∧ v = Value.int n t) → Vals (ns.map V.int) us
  | [], [], _, _ => .nil
  | [], _ :: _, h, _ => by simp at h
  | _ :: _, [], h, _ => by simp at h
  | u :: us, n :: ns, h, key => by
    obtain ⟨m, t, e1, e2⟩ := key 0 u rfl
    have e1 : n = m := by simpa using e1
    subst e1
    exact .cons ⟨t, e2⟩ (vals_at (by simpa using h) fun j v e => by
      obtain ⟨m, t, a1, a2⟩ := key (j + 1) v (by simpa using e)
      exact ⟨m, t, by simpa using a1, a2⟩)
/-- sorted(s), s a set of ints -/
theorem sorted_set (hc : X.calm = true) {pins : List (Addr × Obj)} {σ : St} {H : Hp} {s : Shared} {d : Addr} {fm : List Int} {Q : VK} (I : Inv X pins σ H s) (hS : ISet X.prog X.w s.heap d fm (!X.w.params.followText "set-order"))
    (q : ∀ (l : Addr) (ns' : List Int), H l = none → ns'.Perm fm → ns'.Pairwise (· ≤ ·) → Q (.ref l) (upd H l (.lst (ns'.map V.int)))) : wpAny (model X.prog X.w) X.A (call (.builtin "sorted") [.ref d]) (EP X pins σ Q) X.xe s := by
  obtain ⟨es, ep, t, ho, hel, hpm, hT, hsz⟩ := hS
  have ho : SObj s.heap d es ep t := ho
  obtain ⟨ns, hns⟩ : ∃ ns, ns = keysI (setOrd X.w d ep es) := ⟨_, rfl⟩
  have hpn : ns.Perm fm := by rw [hns]; exact ((setOrd_perm X.w d ep es).map _).trans hpm
  have hnl : ns.length = es.size := by rw [hns, keys_len, setOrd_size]
  have h64 : ns.length < 64 := by omega
  refine Calls.call_function_entry kind_sorted plain_sorted entry_sorted (args_sorted1 _) ?_
  unfold Builtin.«sorted»
  refine wpAny_bind (m := checkCount "sorted" 1 1 _) (wpAny_pure ?_)
  refine wpAny_bind (PySem.W.kdu_collect (A := X.A.in1) (set_src (prog := X.prog) (w := X.w) (d := d) (ep := ep) hT) (I.ok.hd hc) ho (Nat.le_of_lt (small1000 (by omega))) fun h' tk acc keep hacc => ?_)
  have hI : IntsAre acc.toList ns := by
    refine intsAre_of (vals_at (by rw [Array.length_toList, hacc.1, hnl]) fun j v e => ?_)
    obtain ⟨x, h1, h2⟩ := hacc.2 j v (by rw [← Array.getElem?_toList]; exact e)
    have hx : x ∈ (setOrd X.w d ep es).toList := by rw [← Array.getElem?_toList] at h1; exact List.mem_of_getElem? h1
    obtain ⟨⟨k, hk, _⟩, _⟩ := hel x ((setOrd_perm X.w d ep es).mem_iff.mp hx)
    obtain ⟨t', et⟩ := Value.isInt_shape (show Value.isInt k x.2 = true from hk)
    refine ⟨k, t', ?_, by rw [h2, et]⟩
    rw [hns]
    unfold keysI
    rw [List.getElem?_map, Array.getElem?_toList, h1]
    show some (keyI x.2) = some k
    rw [et]; rfl
  have hal : acc.toList.length < 64 := by rw [ints_len hI]; exact h64
  refine wpAny_bind (wpAny_newList ?_ (Nat.le_of_lt (small1000 (by omega))))
  have hoL : (h'.push (seqObj "list" acc.toList.toArray 0)).get? h'.objs.size = some (seqObj "list" acc.toList.toArray 0) := Heap.get?_push_size _ rfl
  refine wpAny_bind (wpAny_holding (wpAny_call_entry slot_list_sort ⟨_, hoL, rfl⟩ entry_list_sort (list_sort_tree hoL hI hal fun out ns' b1 b2 b3 => ⟨_, rfl, ?_⟩) (args_list_sort _)))
  refine wpAny_pure ⟨_, rfl, ?_⟩
  obtain ⟨e, hat2⟩ := sortedHeap_at (out := out) hoL
  have hno : s.heap.get? h'.objs.size = none := by
    cases z : s.heap.get? h'.objs.size with
    | none => rfl
    | some o => exact absurd (Heap.lt_size (keep _ _ z)) (Nat.lt_irrefl _)
  have hlen : ns'.length ≤ sizeLine := by rw [b2.length_eq]; exact Nat.le_of_lt (small1000 (by omega))
  have keep2 : ∀ b o, s.heap.get? b = some o → (sortedHeap (h'.push (seqObj "list" acc.toList.toArray 0)) h'.objs.size acc.toList out).get? b = some o := fun b o z => by
    have hb := keep b o z
    have hlt := Heap.lt_size hb
    rw [sortedHeap_old (Nat.ne_of_lt hlt) (by rw [size_push']; exact Nat.lt_succ_of_lt hlt)]
    exact Heap.get?_push_of_some _ hb
  obtain ⟨H', I', _⟩ := I.laidAt (t' := tk) (vs := ns'.map V.int) hno keep2 ⟨by rw [List.length_map]; exact hlen, out.toList, e, vals_of b1, by simpa using hat2⟩
  exact ⟨.ref h'.objs.size, _, I', rfl, q _ ns' H' (b2.trans hpn) b3⟩

theorem dedup_mem (val : Nat → Int) (i : Nat) (k : Int) : k ∈ firstMet val i ↔ ∃ j, j < i ∧ val j = k := by
  have h := firstMet_any val i k
  rw [Bool.eq_iff_iff, List.any_eq_true, List.any_eq_true] at h
  constructor
  · intro hk
    obtain ⟨y, hy, e⟩ := h.mp ⟨k, hk, by simp⟩
    obtain ⟨j, hj, ej⟩ := List.mem_map.mp hy
    exact ⟨j, List.mem_range.mp hj, by rw [ej]; simpa using e⟩
  · rintro ⟨j, hj, e⟩
    obtain ⟨y, hy, e2⟩ := h.mpr ⟨val j, List.mem_map.mpr ⟨j, List.mem_range.mpr hj, rfl⟩, by simp [e]⟩
    have : y = k := by simpa using e2
    exact this ▸ hy
theorem dedup_nodup (val : Nat → Int) : ∀ i, (firstMet val i).Nodup
  | 0 => .nil
  | i + 1 => by
    rw [firstMet_succ]
    unfold step_dedup
    have ih := dedup_nodup val i
    split
    · exact ih
    · rename_i hn
      rw [List.nodup_append]
      refine ⟨ih, by simp, fun a ha b hb => ?_⟩
      have : b = val i := by simpa using hb
      subst this
      intro e
      exact hn (List.any_eq_true.mpr ⟨a, ha, by simp [e]⟩)
/-- the different ones of ns -/
def dd (ns : List Int) : List Int := firstMet (fun i => ns.getD i 0) ns.length
theorem dd_mem {ns : List Int} {k : Int} : k ∈ dd ns ↔ k ∈ ns := by
  unfold dd
  rw [dedup_mem]
  constructor
  · rintro ⟨j, hj, e⟩
    rw [List.getD_eq_getElem?_getD, List.getElem?_eq_getElem hj] at e
    have e : ns[j] = k := e
    exact e ▸ List.getElem_mem hj
  · intro hk
    obtain ⟨j, hj, e⟩ := List.getElem_of_mem hk
    exact ⟨j, hj, by rw [List.getD_eq_getElem?_getD, List.getElem?_eq_getElem hj, e]; rfl⟩
theorem dd_lt {ns' ns : List Int} (hp : ns'.Perm (dd ns)) (hs : ns'.Pairwise (· ≤ ·)) : ns'.Pairwise (· < ·) ∧ ∀ k, k ∈ ns' ↔ k ∈ ns := by
  refine ⟨?_, fun k => hp.mem_iff.trans dd_mem⟩
  have hnd : ns'.Nodup := hp.nodup_iff.mpr (dedup_nodup _ _)
  have := hs.and hnd
  exact this.imp fun {a b} h => by have := h.1; have := h.2; omega
def tSSet (K : PySem.W.Frag) (te : TE) : TE := fun σ H Q => te σ H fun v H1 => ∃ (l : Addr) (ns : List Int), v = .ref l ∧ SqL K H1 l (ns.map V.int) ∧ (dd ns).length ≤ 63 ∧
  ∀ (r : Addr) (ns' : List Int), H1 r = none → ns'.Pairwise (· < ·) → (∀ k, k ∈ ns' ↔ k ∈ ns) → Q (.ref r) (upd H1 r (.lst (ns'.map V.int)))
theorem pe_sset {e : Expr} {te : TE} {p1 p2 pos1 pos2 : Pos} (hc : X.calm = true) (hg1 : Gl X "sorted") (hm1 : X.mg "sorted" = none) (hg2 : Gl X "set") (hm2 : X.mg "set" = none) (he : PE X e te)
    (hs1 : starEach [Expr.Call (.Name "set" p2) [e] [] pos2] X.env = [(false, eval (Expr.Call (.Name "set" p2) [e] [] pos2) X.env)] := by rfl) (hs2 : starEach [e] X.env = [(false, eval e X.env)] := by rfl) :
    PE X (.Call (.Name "sorted" p1) [.Call (.Name "set" p2) [e] [] pos2] [] pos1) (tSSet X.K te) := by
  intro pins s σ H Q I h
  refine wpAny_Call_Name_kw (ld_blt I hg1 hm1 boot_sorted ?_)
  refine PyProof.Rows.callWith_builtin1 ?_ hs1 rfl
  rw [hs1]
  show wpAny _ _ (spliced ((false, eval (Expr.Call (.Name "set" p2) [e] [] pos2) X.env) :: backTo pos1 [])) _ _ s
  refine Calls.spliced_cons ?_
  refine wpAny_Call_Name_kw (ld_blt I hg2 hm2 boot_set ?_)
  refine PyProof.Rows.callWith_type1 ?_ hs2 rfl
  rw [hs2]
  show wpAny _ _ (spliced ((false, eval e X.env) :: backTo pos2 [])) _ _ s
  refine Calls.spliced_cons (thn (he pins s σ H _ I h) fun u s1 ⟨x, H1, I1, r1, q1⟩ => ?_)
  obtain ⟨l, ns, rfl, hl, h63, q⟩ := q1
  cases r1
  refine Calls.spliced_nil ?_
  obtain ⟨its, rv, p, hz⟩ := I1.list hl
  have hI := intsAre_of rv
  have hlen : its.length = ns.length := by have := rv.length; simpa using this.symm
  refine iset_call (I1.ok.hd hc) p.isList (by simpa using hI) (by rw [List.size_toArray, hlen]; exact h63) fun h' tk hS keep => ?_
  refine Calls.spliced_nil ?_
  have I2 : Inv X pins σ H1 { s1 with heap := h', toks := tk } := I1.kept fun b o e => keep b o (Heap.lt_size e) e
  rw [show its.toArray.size = ns.length by rw [List.size_toArray, hlen]] at hS
  exact sorted_set hc I2 hS fun r ns' hr hp hso => q r ns' hr (dd_lt hp hso).1 (dd_lt hp hso).2
end
end L2
namespace Mine
open PySem L2
def top (i : Nat) : Stmt := PySem.Challenge.pw_keepsakes_k06_written_places.main.body.getD i (.Pass ⟨0, 0, 0, 0⟩)
abbrev s_NoTable___init__ : Stmt := inClass (top 4) 0
abbrev s_NoPlace___init__ : Stmt := inClass (top 5) 0
abbrev s_NoBlock___init__ : Stmt := inClass (top 6) 0
abbrev s_NoDay___init__ : Stmt := inClass (top 7) 0
abbrev s_NoBase___init__ : Stmt := inClass (top 8) 0
abbrev s_Days___init__ : Stmt := inClass (top 10) 0
abbrev s_Days_passes : Stmt := inClass (top 10) 1
abbrev s_Days_table : Stmt := inClass (top 10) 2
abbrev s_Days_written : Stmt := inClass (top 10) 3
abbrev s_Days_ask_change : Stmt := inClass (top 10) 4
abbrev s_Days_ask_day : Stmt := inClass (top 10) 5
abbrev s_ask_wide : Stmt := top 11
abbrev s__law_cell_at : Stmt := top 13
abbrev s__law_whole : Stmt := top 14
abbrev s__law_mix : Stmt := top 15
abbrev s__law_changes : Stmt := top 16
abbrev s__law_row : Stmt := top 17
abbrev s__law_day : Stmt := top 18
abbrev s__law_due : Stmt := top 19
abbrev s__law_asked : Stmt := top 20
abbrev s__law_table : Stmt := top 21
abbrev s__law_good : Stmt := top 22
abbrev s_law : Stmt := top 23
theorem sc_NoTable___init__ : FnScope ["self", "wide"] ["self", "wide"] (defScope s_NoTable___init__) := ⟨rfl, rfl, rfl, by decide +kernel, rfl, by decide +kernel, by decide +kernel⟩
theorem sc_NoPlace___init__ : FnScope ["self", "place"] ["self", "place"] (defScope s_NoPlace___init__) := ⟨rfl, rfl, rfl, by decide +kernel, rfl, by decide +kernel, by decide +kernel⟩
theorem sc_NoBlock___init__ : FnScope ["self", "block"] ["self", "block"] (defScope s_NoBlock___init__) := ⟨rfl, rfl, rfl, by decide +kernel, rfl, by decide +kernel, by decide +kernel⟩
theorem sc_NoDay___init__ : FnScope ["self", "day"] ["self", "day"] (defScope s_NoDay___init__) := ⟨rfl, rfl, rfl, by decide +kernel, rfl, by decide +kernel, by decide +kernel⟩
theorem sc_NoBase___init__ : FnScope ["self", "base", "day"] ["self", "base", "day"] (defScope s_NoBase___init__) := ⟨rfl, rfl, rfl, by decide +kernel, rfl, by decide +kernel, by decide +kernel⟩
theorem sc_Days___init__ : FnScope ["self", "wide"] ["self", "wide"] (defScope s_Days___init__) := ⟨rfl, rfl, rfl, by decide +kernel, rfl, by decide +kernel, by decide +kernel⟩
theorem sc_Days_passes : FnScope ["self", "changes", "place", "block", "table"] ["self", "changes"] (defScope s_Days_passes) := ⟨rfl, rfl, rfl, by decide +kernel, rfl, by decide +kernel, by decide +kernel⟩
theorem sc_Days_table : FnScope ["self", "day"] ["self", "day"] (defScope s_Days_table) := ⟨rfl, rfl, rfl, by decide +kernel, rfl, by decide +kernel, by decide +kernel⟩
theorem sc_Days_written : FnScope ["self", "one", "other", "places", "day"] ["self", "one", "other"] (defScope s_Days_written) := ⟨rfl, rfl, rfl, by decide +kernel, rfl, by decide +kernel, by decide +kernel⟩
theorem sc_Days_ask_change : FnScope ["self", "place", "block"] ["self", "place", "block"] (defScope s_Days_ask_change) := ⟨rfl, rfl, rfl, by decide +kernel, rfl, by decide +kernel, by decide +kernel⟩
theorem sc_Days_ask_day : FnScope ["self", "day"] ["self", "day"] (defScope s_Days_ask_day) := ⟨rfl, rfl, rfl, by decide +kernel, rfl, by decide +kernel, by decide +kernel⟩
theorem sc_ask_wide : FnScope ["wide"] ["wide"] (defScope s_ask_wide) := ⟨rfl, rfl, rfl, by decide +kernel, rfl, by decide +kernel, by decide +kernel⟩
theorem sc__law_cell_at : FnScope ["_law_script", "_law_k"] ["_law_script", "_law_k"] (defScope s__law_cell_at) := ⟨rfl, rfl, rfl, by decide +kernel, rfl, by decide +kernel, by decide +kernel⟩
theorem sc__law_whole : FnScope ["_law_found"] ["_law_found"] (defScope s__law_whole) := ⟨rfl, rfl, rfl, by decide +kernel, rfl, by decide +kernel, by decide +kernel⟩
theorem sc__law_mix : FnScope ["_law_cell", "_law_k", "_law_m"] ["_law_cell", "_law_k"] (defScope s__law_mix) := ⟨rfl, rfl, rfl, by decide +kernel, rfl, by decide +kernel, by decide +kernel⟩
theorem sc__law_changes : FnScope ["_law_cell", "_law_wide", "_law_changes_here", "_law_k", "_law_m"] ["_law_cell", "_law_wide"] (defScope s__law_changes) := ⟨rfl, rfl, rfl, by decide +kernel, rfl, by decide +kernel, by decide +kernel⟩
theorem sc__law_row : FnScope ["_law_script", "_law_wide", "_law_rows", "_law_k"] ["_law_script", "_law_wide"] (defScope s__law_row) := ⟨rfl, rfl, rfl, by decide +kernel, rfl, by decide +kernel, by decide +kernel⟩
theorem sc__law_day : FnScope ["_law_cell", "_law_last", "_law_far"] ["_law_cell", "_law_last"] (defScope s__law_day) := ⟨rfl, rfl, rfl, by decide +kernel, rfl, by decide +kernel, by decide +kernel⟩
theorem sc__law_due : FnScope ["_law_rows", "_law_one", "_law_other", "_law_day_here", "_law_found", "_law_place"] ["_law_rows", "_law_one", "_law_other"] (defScope s__law_due) := ⟨rfl, rfl, rfl, by decide +kernel, rfl, by decide +kernel, by decide +kernel⟩
theorem sc__law_asked : FnScope ["_law_row_here", "_law_one", "_law_other", "_law_found", "e"] ["_law_row_here", "_law_one", "_law_other"] (defScope s__law_asked) := ⟨rfl, rfl, rfl, by decide +kernel, rfl, by decide +kernel, by decide +kernel⟩
theorem sc__law_table : FnScope ["_law_row_here", "_law_day_here", "_law_found", "e"] ["_law_row_here", "_law_day_here"] (defScope s__law_table) := ⟨rfl, rfl, rfl, by decide +kernel, rfl, by decide +kernel, by decide +kernel⟩
theorem sc__law_good : FnScope ["_law_found", "_law_due_here", "_law_place"] ["_law_found", "_law_due_here"] (defScope s__law_good) := ⟨rfl, rfl, rfl, by decide +kernel, rfl, by decide +kernel, by decide +kernel⟩
theorem sc_law : FnScope ["_law_script", "_law_wide", "_law_rows", "_law_row_here", "_law_changes_here", "_law_handed", "_law_one", "_law_other", "_law_due_here", "_law_found", "_law_day_here"] ["_law_script"] (defScope s_law) := ⟨rfl, rfl, rfl, by decide +kernel, rfl, by decide +kernel, by decide +kernel⟩
/-! ### the promises of a row of days -/
def sp_init (C CN : Addr) : Sp := fun vs H Q E => ∃ (p dx : Addr) (wd : Int), vs = [.ref p, .int wd] ∧ H p = some (.ins C dx []) ∧
  ((1 ≤ wd ∧ wd ≤ 40) → ∀ (ta sa tz se : Addr) (H' : Hp), DaysAt C H' p ta sa [tz] [se] wd.toNat [List.replicate wd.toNat 0] [[]] → (∀ b ∈ [ta, sa, tz, se], H b = none) → Keep [p] H H' → Q .non H') ∧
  (¬ (1 ≤ wd ∧ wd ≤ 40) → ∀ e H', ExcAt H' e CN [("wide", .int wd)] → Same H H' → E (.ref CN) (some e) H')
def sp_askw (CN : Addr) : Sp := fun vs H Q E => ∃ (wd : Int), vs = [.int wd] ∧ ((1 ≤ wd ∧ wd ≤ 40) → Q .non H) ∧ (¬ (1 ≤ wd ∧ wd ≤ 40) → ∀ e H', ExcAt H' e CN [("wide", .int wd)] → Same H H' → E (.ref CN) (some e) H')
def sp_askc (C CP CB : Addr) : Sp := fun vs H Q E => ∃ (p ta sa : Addr) (TL SL : List Addr) (wd : Nat) (tabs sets : List (List Int)) (c : Int × Int), vs = [.ref p, .int c.1, .int c.2] ∧ DaysAt C H p ta sa TL SL wd tabs sets ∧
  (badC wd c = none → Q .non H) ∧ (∀ x, badC wd c = some (true, x) → ∀ e H', ExcAt H' e CP [("place", .int x)] → Same H H' → E (.ref CP) (some e) H') ∧ (∀ x, badC wd c = some (false, x) → ∀ e H', ExcAt H' e CB [("block", .int x)] → Same H H' → E (.ref CB) (some e) H')
def sp_askd (C CD : Addr) : Sp := fun vs H Q E => ∃ (p ta sa : Addr) (TL SL : List Addr) (wd : Nat) (tabs sets : List (List Int)) (d : Int), vs = [.ref p, .int d] ∧ DaysAt C H p ta sa TL SL wd tabs sets ∧
  ((0 ≤ d ∧ d < tabs.length) → Q .non H) ∧ (¬ (0 ≤ d ∧ d < tabs.length) → ∀ e H', ExcAt H' e CD [("day", .int d)] → Same H H' → E (.ref CD) (some e) H')
def sp_table (C CD : Addr) : Sp := fun vs H Q E => ∃ (p ta sa : Addr) (TL SL : List Addr) (wd : Nat) (tabs sets : List (List Int)) (d : Int), vs = [.ref p, .int d] ∧ DaysAt C H p ta sa TL SL wd tabs sets ∧
  ((0 ≤ d ∧ d < tabs.length) → ∀ t tab, tabs[d.toNat]? = some tab → H t = none → Q (.ref t) (upd H t (.lst (tab.map V.int)))) ∧ (¬ (0 ≤ d ∧ d < tabs.length) → ∀ e H', ExcAt H' e CD [("day", .int d)] → Same H H' → E (.ref CD) (some e) H')
def sp_passes (C CP CB : Addr) : Sp := fun vs H Q E => ∃ (p ta sa a : Addr) (TL SL : List Addr) (wd : Nat) (tabs sets : List (List Int)) (L : List V) (chs : List (Int × Int)), vs = [.ref p, .ref a] ∧ DaysAt C H p ta sa TL SL wd tabs sets ∧ H a = some (.lst L) ∧ ChAt H L chs ∧ chs.length ≤ 300 ∧ tabs.length ≤ 500 ∧ a ∉ foot p ta sa TL SL ∧
  (firstBad wd chs = none → ∀ (m d : Addr) (H' : Hp) (tab : List Int), tabs[tabs.length - 1]? = some tab → DaysAt C H' p ta sa (TL ++ [m]) (SL ++ [d]) wd (tabs ++ [nextT tab chs]) (sets ++ [chs.map Prod.fst]) → H m = none → H d = none → Keep (foot p ta sa TL SL) H H' → Q (.int (tabs.length : Int)) H') ∧
  (∀ x, firstBad wd chs = some (true, x) → ∀ e H', ExcAt H' e CP [("place", .int x)] → Same H H' → E (.ref CP) (some e) H') ∧ (∀ x, firstBad wd chs = some (false, x) → ∀ e H', ExcAt H' e CB [("block", .int x)] → Same H H' → E (.ref CB) (some e) H')
/-! ### the places written between two days -/
def inDays (sets : List (List Int)) (lo hi : Int) (k : Int) : Prop := ∃ (d : Nat) (xs : List Int), lo < (d : Int) ∧ (d : Int) ≤ hi ∧ sets[d]? = some xs ∧ k ∈ xs
structure SetsIn (wd : Nat) (sets : List (List Int)) : Prop where
  most : wd ≤ 40
  day : ∀ xs ∈ sets, xs.length ≤ 300 ∧ ∀ x ∈ xs, 0 ≤ x ∧ x < (wd : Int)
def sp_written (C CD : Addr) : Sp := fun vs H Q E => ∃ (p ta sa : Addr) (TL SL : List Addr) (wd : Nat) (tabs sets : List (List Int)) (one other : Int), vs = [.ref p, .int one, .int other] ∧ DaysAt C H p ta sa TL SL wd tabs sets ∧ SetsIn wd sets ∧ tabs.length ≤ 500 ∧
  ((0 ≤ one ∧ one < tabs.length) → (0 ≤ other ∧ other < tabs.length) → ∀ (r : Addr) (ns : List Int) H', H' r = some (.lst (ns.map V.int)) → H r = none → ns.Pairwise (· < ·) → (∀ k, k ∈ ns ↔ inDays sets (min one other) (max one other) k) → Same H H' → Q (.ref r) H') ∧
  (∀ d, (¬ (0 ≤ one ∧ one < tabs.length) ∧ d = one) ∨ ((0 ≤ one ∧ one < tabs.length) ∧ ¬ (0 ≤ other ∧ other < tabs.length) ∧ d = other) → ∀ e H', ExcAt H' e CD [("day", .int d)] → Same H H' → E (.ref CD) (some e) H')
theorem nodup_few : ∀ (m : Nat) (l : List Int), l.Nodup → (∀ x ∈ l, 0 ≤ x ∧ x < (m : Int)) → l.length ≤ m
  | 0, l, _, h => by
    cases l with
    | nil => exact Nat.le_refl _
    | cons x r => have := h x (by simp); omega
  | m + 1, l, hn, h => by
    have ih := nodup_few m (l.erase (m : Int)) (hn.erase _) fun x hx => by
      have h1 := h x (List.mem_of_mem_erase hx)
      have h2 : x ≠ (m : Int) := fun z => by rw [z] at hx; exact (List.Nodup.not_mem_erase hn) hx
      omega
    by_cases hm : (m : Int) ∈ l
    · rw [List.length_erase_of_mem hm] at ih; omega
    · rw [List.erase_of_not_mem hm] at ih; omega
theorem few63 {wd : Nat} (h : wd ≤ 40) {ns : List Int} (hx : ∀ x ∈ ns, 0 ≤ x ∧ x < (wd : Int)) : (dd ns).length ≤ 63 := by
  have := nodup_few wd (dd ns) (dedup_nodup _ _) fun x h => hx x (dd_mem.mp h)
  omega
theorem small15 {n : Nat} (h : n ≤ 200000) : n ≤ sizeLine := Nat.le_trans h (by decide)
theorem iteB0 {c : Bool} {A B : Prop} (hc : c = false) (h : B) : if c = true then A else B := by rw [if_neg (by simp [hc])]; exact h
theorem ifT {c : TT} {t u : TS} {D : Ends} {σ : St} {H : Hp} (hc : ∀ Q : Bool → Hp → Prop, Q true H → c σ H Q) (h : t D σ H) : tIfS c t u D σ H := hc _ (iteT h)
theorem ifF {c : TT} {t u : TS} {D : Ends} {σ : St} {H : Hp} (hc : ∀ Q : Bool → Hp → Prop, Q false H → c σ H Q) (h : u D σ H) : tIfS c t u D σ H := hc _ (iteF h)
theorem seq_ifT {c : TT} {t u R : TS} {D : Ends} {σ : St} {H : Hp} (hc : ∀ Q : Bool → Hp → Prop, Q true H → c σ H Q) (h : t { D with nx := R D } σ H) : tSeq (tIfS c t u) R D σ H := hc _ (iteT h)
theorem seq_ifF {c : TT} {t u R : TS} {D : Ends} {σ : St} {H : Hp} (hc : ∀ Q : Bool → Hp → Prop, Q false H → c σ H Q) (h : u { D with nx := R D } σ H) : tSeq (tIfS c t u) R D σ H := hc _ (iteF h)
theorem four_at {a b c d k : Int} (h0 : 0 ≤ k) (h1 : k < 4) : ∃ y, atI [V.int a, V.int b, V.int c, V.int d] k = some (V.int y) := by
  obtain ⟨y, e, _⟩ := at_in (xs := [a, b, c, d]) h0 (by simpa using h1)
  exact ⟨y, e⟩
theorem seq_ifN {c : TT} {t R : TS} {D : Ends} {σ : St} {H : Hp} (hc : ∀ Q : Bool → Hp → Prop, Q false H → c σ H Q) (h : R D σ H) : tSeq (tIfS c t tNext) R D σ H := hc _ (iteF h)
theorem seq_ifP {c : TT} {t R : TS} {D : Ends} {σ : St} {H : Hp} (P : Hp → Prop) (hc : ∀ Q : Bool → Hp → Prop, (∀ H', P H' → Q false H') → c σ H Q) (h : ∀ H', P H' → R D σ H') : tSeq (tIfS c t tNext) R D σ H := hc _ fun H' p => iteF (h H' p)
theorem atI_m1 {α : Type} {xs : List α} {v : α} (h : xs[xs.length - 1]? = some v) : atI xs (-1) = some v := by
  have hl := (List.getElem?_eq_some_iff.mp h).1
  unfold atI ixN
  rw [if_neg (by omega), if_pos (by omega), show ((-1 : Int) + (xs.length : Int)).toNat = xs.length - 1 by omega]
  exact h
theorem ord_eq : ∀ {l m : List Int}, l.Pairwise (· < ·) → m.Pairwise (· < ·) → (∀ a, a ∈ l ↔ a ∈ m) → l = m
  | [], [], _, _, _ => rfl
  | [], y :: m, _, _, h => absurd ((h y).mpr (by simp)) (by simp)
  | x :: l, [], _, _, h => absurd ((h x).mp (by simp)) (by simp)
  | x :: l, y :: m, hl, hm, h => by
    have h1 := List.pairwise_cons.mp hl
    have h2 := List.pairwise_cons.mp hm
    have hxy : x = y := by
      have a1 := (h x).mp (by simp)
      have a2 := (h y).mpr (by simp)
      rcases List.mem_cons.mp a1 with z | z
      · exact z
      · rcases List.mem_cons.mp a2 with z' | z'
        · exact z'.symm
        · have := h2.1 x z; have := h1.1 y z'; omega
    subst hxy
    rw [ord_eq h1.2 h2.2 fun a => ⟨fun ha => ?_, fun ha => ?_⟩]
    · have := h1.1 a ha
      rcases List.mem_cons.mp ((h a).mp (by simp [ha])) with z | z
      · omega
      · exact z
    · have := h2.1 a ha
      rcases List.mem_cons.mp ((h a).mpr (by simp [ha])) with z | z
      · omega
      · exact z
theorem gNameA {k : Nat} {x : V} {σ : St} (σ' : St) {H : Hp} {N : St → Hp → Prop} (h : N σ' H) (e : σ.set k (some x) = σ' := by rfl) : gName k x σ H N := by subst e; exact h
theorem cutA {S1 R : TS} {D : Ends} {σ : St} {H : Hp} (Post : St → Hp → Prop) (h : ∀ N : St → Hp → Prop, (∀ σ' H', Post σ' H' → N σ' H') → S1 { D with nx := N } σ H) (hr : ∀ σ' H', Post σ' H' → R D σ' H') : tSeq S1 R D σ H := h (R D) hr
def cellI (ns : List Int) (k : Int) : Int := if k < (ns.length : Int) then ns.getD k.toNat 0 else 0
def sp_cell (K : PySem.W.Frag) : Sp := fun vs H Q _ => ∃ (a : Addr) (ns : List Int) (k : Nat), vs = [.ref a, .int (k : Int)] ∧ SqL K H a (ns.map V.int) ∧ Q (.int (cellI ns k)) H
def sp_whole : Sp := fun vs H Q _ => ∃ n : Int, vs = [.int n] ∧ Q (.bl true) H
def mI (c k : Int) : Int := (c % 2147483647 + 48271 * k + 11) * 16807 % 2147483629
def mixI (c k : Int) : Int := (mI c k * mI c k + 7919 * k) % 2147483587
theorem mI_b (c k : Int) : 0 ≤ mI c k ∧ mI c k < 2147483629 := by
  unfold mI
  exact ⟨Int.emod_nonneg _ (by decide), Int.emod_lt_of_pos _ (by decide)⟩
theorem mix_b (c k : Int) : 0 ≤ mixI c k ∧ mixI c k < 2147483587 := ⟨Int.emod_nonneg _ (by decide), Int.emod_lt_of_pos _ (by decide)⟩
def sp_mix : Sp := fun vs H Q _ => ∃ c k : Int, vs = [.int c, .int k] ∧ Q (.int (mixI c k)) H
/-- changes that a row of this width takes -/
def ChOk (wd : Nat) (chs : List (Int × Int)) : Prop := chs.length ≤ 3 ∧ ∀ x ∈ chs, 0 ≤ x.1 ∧ x.1 < (wd : Int) ∧ 0 ≤ x.2 ∧ x.2 < 3
def sp_changes : Sp := fun vs H Q _ => ∃ (c : Int) (wd : Nat), vs = [.int c, .int (wd : Int)] ∧ 0 < wd ∧ ∀ l L chs H', H' l = some (.lst L) → H l = none → ChAt H' L chs → ChOk wd chs → Same H H' → Q (.ref l) H'
structure RowsC (H : Hp) (RL : List Addr) (chss : List (List (Int × Int))) : Prop where
  len : RL.length = chss.length
  get : ∀ (i : Nat) a cs, RL[i]? = some a → chss[i]? = some cs → ∃ L, H a = some (.lst L) ∧ ChAt H L cs
theorem RowsC.mono {H H' : Hp} {RL : List Addr} {chss : List (List (Int × Int))} (R : RowsC H RL chss) (h1 : ∀ a ∈ RL, ∀ o, H a = some o → H' a = some o) (h2 : ∀ t xs, H t = some (.tup xs) → H' t = some (.tup xs)) : RowsC H' RL chss :=
  ⟨R.len, fun i a cs e1 e2 => let ⟨L, x, y⟩ := R.get i a cs e1 e2; ⟨L, h1 a (List.mem_of_getElem? e1) _ x, y.mono h2⟩⟩
theorem RowsC.same {H H' : Hp} {RL : List Addr} {chss : List (List (Int × Int))} (R : RowsC H RL chss) (s : Same H H') : RowsC H' RL chss := R.mono (fun a _ o e => s a o e) fun t _ e => s t _ e
theorem RowsC.snoc {H : Hp} {RL : List Addr} {chss : List (List (Int × Int))} (R : RowsC H RL chss) {a : Addr} {L : List V} {cs : List (Int × Int)} (h : H a = some (.lst L)) (c : ChAt H L cs) : RowsC H (RL ++ [a]) (chss ++ [cs]) :=
  ⟨by simp [R.len], fun i b ds e1 e2 => by
    by_cases hi : i < RL.length
    · rw [List.getElem?_append_left hi] at e1
      rw [List.getElem?_append_left (by rw [← R.len]; exact hi)] at e2
      exact R.get i b ds e1 e2
    · have hlt := (List.getElem?_eq_some_iff.mp e1).1
      have : i = RL.length := by simp at hlt; omega
      subst this
      rw [List.getElem?_append_right (Nat.le_refl _)] at e1
      rw [R.len, List.getElem?_append_right (Nat.le_refl _)] at e2
      simp at e1 e2
      subst e1 e2
      exact ⟨L, h, c⟩⟩
theorem RowsC.at_ {H : Hp} {RL : List Addr} {chss : List (List (Int × Int))} (R : RowsC H RL chss) {i : Nat} {cs : List (Int × Int)} (h : chss[i]? = some cs) : ∃ a L, RL[i]? = some a ∧ H a = some (.lst L) ∧ ChAt H L cs := by
  have hi := (List.getElem?_eq_some_iff.mp h).1
  rw [← R.len] at hi
  obtain ⟨L, x, y⟩ := R.get i _ cs (List.getElem?_eq_getElem hi) h
  exact ⟨_, L, List.getElem?_eq_getElem hi, x, y⟩
def sp_row (K : PySem.W.Frag) : Sp := fun vs H Q _ => ∃ (a : Addr) (ns : List Int) (wd : Nat), vs = [.ref a, .int (wd : Int)] ∧ SqL K H a (ns.map V.int) ∧ ns.length ≤ 63 ∧ 0 < wd ∧
  ∀ l RL chss H', H' l = some (.lst (RL.map V.ref)) → RowsC H' RL ([] :: chss) → (∀ cs ∈ chss, ChOk wd cs) → chss.length ≤ 60 → (∀ b ∈ RL, H b = none) → H l = none → Same H H' → Q (.ref l) H'
def sp_day : Sp := fun vs H Q _ => ∃ (c : Int) (n : Nat), vs = [.int c, .int (n : Int)] ∧ 0 ≤ c ∧ c < 2147483587 ∧ ∀ d H', Same H H' → Q (.int d) H'
/-- the day that is refused first, of two -/
def badDay (n : Nat) (one other d : Int) : Prop := (¬ (0 ≤ one ∧ one < (n : Int)) ∧ d = one) ∨ ((0 ≤ one ∧ one < (n : Int)) ∧ ¬ (0 ≤ other ∧ other < (n : Int)) ∧ d = other)
/-- what is due for two days -/
def ResAt (H : Hp) (t : Addr) (sets : List (List Int)) (one other : Int) : Prop :=
  (((0 ≤ one ∧ one < (sets.length : Int)) ∧ (0 ≤ other ∧ other < (sets.length : Int))) ∧ ∃ ns : List Int, H t = some (.lst (ns.map V.int)) ∧ ns.Pairwise (· < ·) ∧ ∀ k, k ∈ ns ↔ inDays sets (min one other) (max one other) k) ∨
  ∃ d, badDay sets.length one other d ∧ H t = some (.tup [.int d, .bl true, .bl false])
def setsOf (chss : List (List (Int × Int))) : List (List Int) := chss.map fun cs => cs.map Prod.fst
def sp_due : Sp := fun vs H Q _ => ∃ (l : Addr) (RL : List Addr) (chss : List (List (Int × Int))) (one other : Int), vs = [.ref l, .int one, .int other] ∧ H l = some (.lst (RL.map V.ref)) ∧ RowsC H RL chss ∧ chss.length ≤ 100 ∧ (∀ cs ∈ chss, cs.length ≤ 3 ∧ ∀ x ∈ cs, 0 ≤ x.1 ∧ x.1 < 40) ∧
  ∀ t H', ResAt H' t (setsOf chss) one other → H t = none → Same H H' → Q (.ref t) H'
def sp_asked (C : Addr) : Sp := fun vs H Q _ => ∃ (p ta sa : Addr) (TL SL : List Addr) (wd : Nat) (tabs sets : List (List Int)) (one other : Int), vs = [.ref p, .int one, .int other] ∧ DaysAt C H p ta sa TL SL wd tabs sets ∧ SetsIn wd sets ∧ tabs.length ≤ 500 ∧
  ∀ t H', ResAt H' t sets one other → H t = none → Same H H' → Q (.ref t) H'
def sp_ltable (C : Addr) : Sp := fun vs H Q _ => ∃ (p ta sa : Addr) (TL SL : List Addr) (wd : Nat) (tabs sets : List (List Int)) (d : Int), vs = [.ref p, .int d] ∧ DaysAt C H p ta sa TL SL wd tabs sets ∧
  ∀ H', Same H H' → Q (.bl (!decide (0 ≤ d ∧ d < (tabs.length : Int)))) H'
def sp_good : Sp := fun vs H Q _ => ∃ (t u : Addr) (sets : List (List Int)) (one other : Int), vs = [.ref t, .ref u] ∧ ResAt H t sets one other ∧ ResAt H u sets one other ∧ Q (.bl true) H
def sp_law (K : PySem.W.Frag) : Sp := fun vs H Q _ => ∃ (a : Addr) (ns : List Int), vs = [.ref a] ∧ SqL K H a (ns.map V.int) ∧ ns.length ≤ 63 ∧ ∀ H', Q (.bl true) H'
theorem badDay_one {n : Nat} {one other d e : Int} (h : badDay n one other d) (h' : badDay n one other e) : d = e := by
  unfold badDay at h h'; omega
theorem ResAt.same {H H' : Hp} {t : Addr} {sets : List (List Int)} {one other : Int} (h : ResAt H t sets one other) (s : ∀ o, H t = some o → H' t = some o) : ResAt H' t sets one other := by
  rcases h with ⟨a, ns, h, b, c⟩ | ⟨d, h1, h2⟩
  · exact .inl ⟨a, ns, s _ h, b, c⟩
  · exact .inr ⟨d, h1, s _ h2⟩
theorem res_eq {K : PySem.W.Frag} {H : Hp} {t u : Addr} {sets : List (List Int)} {one other : Int} (h : ResAt H t sets one other) (h' : ResAt H u sets one other) : SeqEq K H (EqI K H 0) (.ref t) (.ref u) true := by
  rcases h with ⟨a, ns, h, b, c⟩ | ⟨d, h1, h2⟩
  · rcases h' with ⟨a', ns', h', b', c'⟩ | ⟨d, h1, h2⟩
    · have : ns' = ns := ord_eq b' b fun k => by rw [c k, c' k]
      subst this
      exact SeqEq.sameL (SqL.of h) (SqL.of h') fun x hx => by obtain ⟨z, _, rfl⟩ := List.mem_map.mp hx; exact eqI_int z
    · exfalso; unfold badDay at h1; omega
  · rcases h' with ⟨a', ns', h', b', c'⟩ | ⟨d', h1', h2'⟩
    · exfalso; unfold badDay at h1; omega
    · have := badDay_one h1 h1'
      subst this
      refine SeqEq.sameT (SqT.of h2) (SqT.of h2') fun x hx => ?_
      simp only [List.mem_cons, List.not_mem_nil, or_false] at hx
      rcases hx with rfl | rfl | rfl <;> exact .inl ⟨rfl, rfl, by simp [eqV]⟩
theorem inV_int (d : Int) : ∀ L : List Int, inV (.int d) (L.map V.int) = decide (d ∈ L)
  | [] => rfl
  | x :: r => by
    have ih := inV_int d r
    unfold inV at ih ⊢
    rw [List.map_cons, List.any_cons, ih]
    show ((x == d) || decide (d ∈ r)) = decide (d ∈ x :: r)
    by_cases h : x = d
    · subst h; simp
    · rw [beq_eq_false_iff_ne.mpr h]
      simp [List.mem_cons, Ne.symm h]
theorem notin_b (d : Int) (AL : List Int) : (if true = true then !inV (.int d) (AL.map V.int) else inV (.int d) (AL.map V.int)) = !decide (d ∈ AL) := by rw [if_pos rfl, inV_int]
theorem in_b (d : Int) (AL : List Int) : (if false = true then !inV (.int d) (AL.map V.int) else inV (.int d) (AL.map V.int)) = decide (d ∈ AL) := by rw [if_neg (by decide), inV_int]
theorem flat_ints (L : List Int) : (L.map V.int).all flatV = true := by
  rw [List.all_eq_true]; intro x hx; obtain ⟨z, _, rfl⟩ := List.mem_map.mp hx; rfl
theorem iteBF {c : Bool} {A B : Prop} (hc : c = false) (h : B) : if c = true then A else B := by rw [if_neg (by simp [hc])]; exact h
theorem ResAt.less {H : Hp} {t : Addr} {sets : List (List Int)} {y : List Int} {one other : Int} (h : ResAt H t (sets ++ [y]) one other) (h1 : 0 ≤ one ∧ one < (sets.length : Int)) (h2 : 0 ≤ other ∧ other < (sets.length : Int)) : ResAt H t sets one other := by
  rcases h with ⟨_, ns, h, b, c⟩ | ⟨d, h3, _⟩
  · refine .inl ⟨⟨h1, h2⟩, ns, h, b, fun k => (c k).trans ?_⟩
    constructor
    · rintro ⟨d, xs, e1, e2, e3, e4⟩
      rw [List.getElem?_append_left (by omega)] at e3
      exact ⟨d, xs, e1, e2, e3, e4⟩
    · rintro ⟨d, xs, e1, e2, e3, e4⟩
      exact ⟨d, xs, e1, e2, by rw [List.getElem?_append_left (by omega)]; exact e3, e4⟩
  · exfalso; unfold badDay at h3; simp at h3; omega
theorem cut_tail (xs : List V) (h : xs.length ≠ 0) : cutV xs (some 1) none = xs.drop 1 := by
  unfold cutV
  rw [show HT.sIx xs.length 0 (some 1) = 1 by simp [HT.sIx]; omega, show HT.sIx xs.length xs.length none = xs.length from rfl]
  rw [List.take_of_length_le (by simp)]
theorem sets_in {wd : Nat} {chss : List (List (Int × Int))} (h : wd ≤ 40) (hok : ∀ cs ∈ chss, ChOk wd cs) : SetsIn wd (setsOf ([] :: chss)) := by
  refine ⟨h, fun xs hx => ?_⟩
  obtain ⟨cs, hc, rfl⟩ := List.mem_map.mp hx
  rcases List.mem_cons.mp hc with rfl | hc
  · exact ⟨Nat.zero_le _, fun x h => by cases h⟩
  · have := hok cs hc
    refine ⟨by rw [List.length_map]; have := this.1; omega, fun x hx => ?_⟩
    obtain ⟨y, hy, rfl⟩ := List.mem_map.mp hx
    exact ⟨(this.2 y hy).1, (this.2 y hy).2.1⟩
theorem first_ok {wd : Nat} {cs : List (Int × Int)} (h : ChOk wd cs) : firstBad wd cs = none := by
  unfold firstBad
  rw [List.findSome?_eq_none_iff]
  intro c hc
  have := h.2 c hc
  unfold badC; rw [if_neg (by omega), if_neg (by omega)]
structure Txt (K : PySem.W.Frag) (mg : Str → Option Value) (t_W : Tok) (t_MOST_BLOCKS : Tok) (C_KeepError : Addr) (C_NoTable : Addr) (C_NoPlace : Addr) (C_NoBlock : Addr) (C_NoDay : Addr) (C_NoBase : Addr) (C_Days : Addr) : Prop where
  m_W : mg "W" = some (.int 18446744073709551615 t_W)
  m_MOST_BLOCKS : mg "MOST_BLOCKS" = some (.int 40 t_MOST_BLOCKS)
  mg_KeepError : mg "KeepError" = some (.ref C_KeepError)
  x_KeepError : XCls K C_KeepError
  mg_NoTable : mg "NoTable" = some (.ref C_NoTable)
  x_NoTable : XCls K C_NoTable
  n_NoTable_wide : NoAttr K C_NoTable "wide"
  mg_NoPlace : mg "NoPlace" = some (.ref C_NoPlace)
  x_NoPlace : XCls K C_NoPlace
  n_NoPlace_place : NoAttr K C_NoPlace "place"
  mg_NoBlock : mg "NoBlock" = some (.ref C_NoBlock)
  x_NoBlock : XCls K C_NoBlock
  n_NoBlock_block : NoAttr K C_NoBlock "block"
  mg_NoDay : mg "NoDay" = some (.ref C_NoDay)
  x_NoDay : XCls K C_NoDay
  n_NoDay_day : NoAttr K C_NoDay "day"
  mg_NoBase : mg "NoBase" = some (.ref C_NoBase)
  x_NoBase : XCls K C_NoBase
  n_NoBase_base : NoAttr K C_NoBase "base"
  n_NoBase_day : NoAttr K C_NoBase "day"
  mg_Days : mg "Days" = some (.ref C_Days)
  cl_Days : Cls K C_Days
  n_Days_wide : NoAttr K C_Days "wide"
  n_Days_last : NoAttr K C_Days "last"
  n_Days_tables : NoAttr K C_Days "tables"
  n_Days_set_places : NoAttr K C_Days "set_places"
  b_len : mg "len" = none
  b_isinstance : mg "isinstance" = none
  b_int : mg "int" = none
  b_bool : mg "bool" = none
  b_list : mg "list" = none
  b_range : mg "range" = none
  b_min : mg "min" = none
  b_max : mg "max" = none
  b_sorted : mg "sorted" = none
  b_set : mg "set" = none
  b_ValueError : mg "ValueError" = none
  kd1 : PySem.W.mroIn K C_NoDay (.ref C_NoDay) = some true
  kd2 : PySem.W.kitOne K (.ref C_NoDay) (.ref C_KeepError) = some true
  kd3 : PySem.W.kitOne K (.ref C_NoDay) (.ref C_NoBase) = some false
section
variable {P : Program} {w : World} {K : PySem.W.Frag} {mg : Str → Option Value} {base : Heap} {t_W : Tok} {t_MOST_BLOCKS : Tok} {C_KeepError : Addr} {C_NoTable : Addr} {C_NoPlace : Addr} {C_NoBlock : Addr} {C_NoDay : Addr} {C_NoBase : Addr} {C_Days : Addr}
theorem ok_NoTable___init__ {f : Addr} {fd : FuncData} (F : Fun K "__init__" "NoTable.__init__" s_NoTable___init__ f fd) (T : Txt K mg t_W t_MOST_BLOCKS C_KeepError C_NoTable C_NoPlace C_NoBlock C_NoDay C_NoBase C_Days) : FnOk P w K mg base (CXx P w) 1 f fd ["self", "wide"] (sp_x1 C_NoTable "wide") := by
  refine F.okX sc_NoTable___init__ (fun vs H Q E h => ?_) (fun cdv A outer s H vs Q E hr h => ?_)
  · obtain ⟨p, y0, rfl, hp, q⟩ := h; rfl
  · obtain ⟨p, y0, rfl, hp, q⟩ := h
    refine ⟨_, (pss_one (ps_xfld1 (pv 0) (pv 1) rfl)), ?_⟩
    exact ⟨_, rfl, _, rfl, p, C_NoTable, true, rfl, hp, T.x_NoTable, T.n_NoTable_wide, fun dx hdx => q dx hdx⟩
theorem ok_NoPlace___init__ {f : Addr} {fd : FuncData} (F : Fun K "__init__" "NoPlace.__init__" s_NoPlace___init__ f fd) (T : Txt K mg t_W t_MOST_BLOCKS C_KeepError C_NoTable C_NoPlace C_NoBlock C_NoDay C_NoBase C_Days) : FnOk P w K mg base (CXx P w) 1 f fd ["self", "place"] (sp_x1 C_NoPlace "place") := by
  refine F.okX sc_NoPlace___init__ (fun vs H Q E h => ?_) (fun cdv A outer s H vs Q E hr h => ?_)
  · obtain ⟨p, y0, rfl, hp, q⟩ := h; rfl
  · obtain ⟨p, y0, rfl, hp, q⟩ := h
    refine ⟨_, (pss_one (ps_xfld1 (pv 0) (pv 1) rfl)), ?_⟩
    exact ⟨_, rfl, _, rfl, p, C_NoPlace, true, rfl, hp, T.x_NoPlace, T.n_NoPlace_place, fun dx hdx => q dx hdx⟩
theorem ok_NoBlock___init__ {f : Addr} {fd : FuncData} (F : Fun K "__init__" "NoBlock.__init__" s_NoBlock___init__ f fd) (T : Txt K mg t_W t_MOST_BLOCKS C_KeepError C_NoTable C_NoPlace C_NoBlock C_NoDay C_NoBase C_Days) : FnOk P w K mg base (CXx P w) 1 f fd ["self", "block"] (sp_x1 C_NoBlock "block") := by
  refine F.okX sc_NoBlock___init__ (fun vs H Q E h => ?_) (fun cdv A outer s H vs Q E hr h => ?_)
  · obtain ⟨p, y0, rfl, hp, q⟩ := h; rfl
  · obtain ⟨p, y0, rfl, hp, q⟩ := h
    refine ⟨_, (pss_one (ps_xfld1 (pv 0) (pv 1) rfl)), ?_⟩
    exact ⟨_, rfl, _, rfl, p, C_NoBlock, true, rfl, hp, T.x_NoBlock, T.n_NoBlock_block, fun dx hdx => q dx hdx⟩
theorem ok_NoDay___init__ {f : Addr} {fd : FuncData} (F : Fun K "__init__" "NoDay.__init__" s_NoDay___init__ f fd) (T : Txt K mg t_W t_MOST_BLOCKS C_KeepError C_NoTable C_NoPlace C_NoBlock C_NoDay C_NoBase C_Days) : FnOk P w K mg base (CXx P w) 1 f fd ["self", "day"] (sp_x1 C_NoDay "day") := by
  refine F.okX sc_NoDay___init__ (fun vs H Q E h => ?_) (fun cdv A outer s H vs Q E hr h => ?_)
  · obtain ⟨p, y0, rfl, hp, q⟩ := h; rfl
  · obtain ⟨p, y0, rfl, hp, q⟩ := h
    refine ⟨_, (pss_one (ps_xfld1 (pv 0) (pv 1) rfl)), ?_⟩
    exact ⟨_, rfl, _, rfl, p, C_NoDay, true, rfl, hp, T.x_NoDay, T.n_NoDay_day, fun dx hdx => q dx hdx⟩
theorem ok_NoBase___init__ {f : Addr} {fd : FuncData} (F : Fun K "__init__" "NoBase.__init__" s_NoBase___init__ f fd) (T : Txt K mg t_W t_MOST_BLOCKS C_KeepError C_NoTable C_NoPlace C_NoBlock C_NoDay C_NoBase C_Days) : FnOk P w K mg base (CXx P w) 1 f fd ["self", "base", "day"] (sp_x2 C_NoBase "base" "day") := by
  refine F.okX sc_NoBase___init__ (fun vs H Q E h => ?_) (fun cdv A outer s H vs Q E hr h => ?_)
  · obtain ⟨p, y0, y1, rfl, hp, q⟩ := h; rfl
  · obtain ⟨p, y0, y1, rfl, hp, q⟩ := h
    refine ⟨_, (pss_cons (ps_xfld1 (pv 0) (pv 1) rfl)
      (pss_one (ps_xfld2 (pv 0) (pv 2) rfl))), ?_⟩
    refine ⟨_, rfl, _, rfl, p, C_NoBase, true, rfl, hp, T.x_NoBase, T.n_NoBase_base, fun dx hdx => ?_⟩
    refine ⟨_, rfl, _, rfl, p, C_NoBase, true, dx, _, rfl, upd_same, by rw [upd_ne (ne_of_none hp hdx).symm, upd_same], T.x_NoBase, T.n_NoBase_day, (by show 1 < 1000; decide), ?_⟩
    exact x2_swap (ne_of_none hp hdx) (by decide +kernel) (q dx hdx)
theorem ok_ask_wide {f : Addr} {fd : FuncData} (F : Fun K "ask_wide" "ask_wide" s_ask_wide f fd) (T : Txt K mg t_W t_MOST_BLOCKS C_KeepError C_NoTable C_NoPlace C_NoBlock C_NoDay C_NoBase C_Days) (D_NoTable : ExcX P w K mg base "NoTable" C_NoTable 1 ["self", "wide"] (sp_x1 C_NoTable "wide")) : FnOk P w K mg base (CXx P w) 3 f fd ["wide"] (sp_askw C_NoTable) := by
  refine F.okX sc_ask_wide (fun vs H Q E h => ?_) (fun cdv A outer s H vs Q E hr h => ?_)
  · obtain ⟨wd, rfl, q1, q2⟩ := h; rfl
  · obtain ⟨wd, rfl, q1, q2⟩ := h
    refine ⟨_, (pss_one (ps_if (PW.pt (pw_or (pt_cmpR op_lt (pv 0) pe_int (nomark _)) (pw_or1 (pt_cmpR op_gt (pv 0) (pe_glob (v := .int 40) rfl T.m_MOST_BLOCKS ⟨_, rfl⟩) (nomark _))))) (pss_one (ps_raise rfl raisesB (pe_exc D_NoTable (hr.mono (by decide)) rfl (pa_cons (pv 0) pa_nil)))) pss_nil)), ?_⟩
    by_cases hw : ¬ (1 ≤ wd ∧ wd ≤ 40)
    · refine ⟨_, rfl, _, _, rfl, rfl, _, rfl, ?_⟩
      refine ite2 (fun h => ?_) (fun h => ?_)
      · refine iteT ?_
        exact ⟨_, rfl, raise1 (E := E) T.x_NoTable (q2 hw)⟩
      · refine ⟨_, rfl, _, _, rfl, rfl, _, rfl, ?_⟩
        refine ite2 (fun h' => ⟨_, rfl, raise1 (E := E) T.x_NoTable (q2 hw)⟩) (fun h' => ?_)
        simp at h h'; omega
    have hw := Classical.not_not.mp hw
    refine ⟨_, rfl, _, _, rfl, rfl, _, rfl, ?_⟩
    refine iteN (by omega) ?_
    refine ⟨_, rfl, _, _, rfl, rfl, _, rfl, ?_⟩
    refine iteN (by omega) ?_
    exact q1 hw
theorem ok_Days___init__ {f : Addr} {fd : FuncData} (F : Fun K "__init__" "Days.__init__" s_Days___init__ f fd) (T : Txt K mg t_W t_MOST_BLOCKS C_KeepError C_NoTable C_NoPlace C_NoBlock C_NoDay C_NoBase C_Days) (D_ask_wide : DefX P w K mg base "ask_wide" 3 ["wide"] (sp_askw C_NoTable)) : FnOk P w K mg base (CXx P w) 4 f fd ["self", "wide"] (sp_init C_Days C_NoTable) := by
  refine F.okX sc_Days___init__ (fun vs H Q E h => ?_) (fun cdv A outer s H vs Q E hr h => ?_)
  · obtain ⟨p, dx, wd, rfl, hp, q1, q2⟩ := h; rfl
  · obtain ⟨p, dx, wd, rfl, hp, q1, q2⟩ := h
    refine ⟨_, (pss_cons (ps_expr (pe_callS D_ask_wide passesB (hr.mono (by decide)) rfl (pa_cons (pv 1) pa_nil)))
      (pss_cons (ps_fld (pv 0) (pv 1) rfl)
      (pss_cons (ps_fld (pv 0) pe_int rfl)
      (pss_cons (ps_fld (pv 0) (pe_lst (pa_cons (pe_op op_rep (pe_lst (pa_cons pe_int pa_nil)) (pv 1)) pa_nil)) rfl)
      (pss_one (ps_fld (pv 0) (pe_lst (pa_cons (pe_lst pa_nil) pa_nil)) rfl)))))), ?_⟩
    refine ⟨_, rfl, wd, rfl, fun hw => ?_, q2⟩
    have q := q1 hw
    refine ⟨_, rfl, _, rfl, p, C_Days, dx, [], rfl, hp, T.cl_Days, T.n_Days_wide, (by show 0 < 1000; decide), ?_⟩
    refine ⟨_, rfl, p, C_Days, dx, _, rfl, upd_same, T.cl_Days, T.n_Days_last, (by show 1 < 1000; decide), ?_⟩
    rw [upd_upd]
    -- [[0] * wide]
    refine ⟨(by show 1 ≤ sizeLine; decide), fun z hz => ?_⟩
    refine ⟨_, rfl, z, wd, _, rfl, rfl, upd_same, (by omega), (by omega), (by show 1 * _ ≤ sizeLine; exact Nat.le_of_lt (small1000 (by omega))), fun t ht => ?_⟩
    refine ⟨(by show 1 ≤ sizeLine; decide), fun ta hta => ?_⟩
    obtain ⟨a1, nta1⟩ := upd_none hta
    obtain ⟨a2, nta2⟩ := upd_none a1
    obtain ⟨a3, nta3⟩ := upd_none a2
    obtain ⟨b1, nt1⟩ := upd_none ht
    obtain ⟨b2, nt2⟩ := upd_none b1
    obtain ⟨c1, nz⟩ := upd_none hz
    refine ⟨_, rfl, p, C_Days, dx, putF "last" (.int 0) (putF "wide" (.int wd) []), rfl, (by simp [upd, nta3.symm, nt2.symm, nz.symm]), T.cl_Days, T.n_Days_tables, (by have := length_putF "last" (.int 0) (putF "wide" (.int wd) []); have := length_putF "wide" (.int wd) []; simp at *; omega), ?_⟩
    -- [[]]
    refine ⟨Nat.zero_le _, fun e he => ?_⟩
    refine ⟨(by show 1 ≤ sizeLine; decide), fun sa hsa => ?_⟩
    obtain ⟨d1, ne1⟩ := upd_none he
    obtain ⟨d2, ne2⟩ := upd_none d1
    obtain ⟨d3, ne3⟩ := upd_none d2
    obtain ⟨d4, ne4⟩ := upd_none d3
    obtain ⟨d5, ne5⟩ := upd_none d4
    obtain ⟨e1, ns1⟩ := upd_none hsa
    obtain ⟨e2, ns2⟩ := upd_none e1
    obtain ⟨e3, ns3⟩ := upd_none e2
    obtain ⟨e4, ns4⟩ := upd_none e3
    obtain ⟨e5, ns5⟩ := upd_none e4
    obtain ⟨e6, ns6⟩ := upd_none e5
    refine ⟨_, rfl, p, C_Days, dx, putF "tables" (.ref ta) (putF "last" (.int 0) (putF "wide" (.int wd) [])), rfl, (by simp [upd, ns2.symm, ne1.symm]), T.cl_Days, T.n_Days_set_places, (by have := length_putF "tables" (.ref ta) (putF "last" (.int 0) (putF "wide" (.int wd) [])); have := length_putF "last" (.int 0) (putF "wide" (.int wd) []); have := length_putF "wide" (.int wd) []; simp at *; omega), ?_⟩
    have ew : ((wd.toNat : Nat) : Int) = wd := by omega
    refine q ta sa t e _ ⟨⟨dx, ?_⟩, ?_, ?_, ⟨rfl, fun i a xs h1 h2 => ?_⟩, ⟨rfl, fun i a xs h1 h2 => ?_⟩, ?_, by simp, rfl, fun t ht => ?_, by omega, by omega⟩ (fun b hb => ?_) (fun b o hb hbp => ?_)
    · rw [upd_same, fl_make, ew]; rfl
    · simp [upd, nta3, ns3.symm, ne2.symm]
    · simp [upd, ns2]
    · match i, h1, h2 with
      | 0, h1, h2 =>
        have h1 : t = a := by simpa using h1
        have h2 : List.replicate wd.toNat 0 = xs := by simpa using h2
        subst h1 h2
        rw [← rep_flat]
        simp [upd, nt2, ns4.symm, ne3.symm, nta1.symm]
      | i + 1, h1, _ => simp at h1
    · match i, h1, h2 with
      | 0, h1, h2 =>
        have h1 : e = a := by simpa using h1
        have h2 : [] = xs := by simpa using h2
        subst h1 h2
        simp [upd, ns1.symm, ne1]
      | i + 1, h1, _ => simp at h1
    · simp only [List.nodup_cons, List.mem_cons, List.mem_append, List.not_mem_nil, or_false, not_or, not_false_eq_true, List.nodup_nil, and_true, List.cons_append, List.nil_append]
      grind
    · have : t = List.replicate wd.toNat 0 := by simpa using ht
      rw [this, List.length_replicate]
    · simp only [List.mem_cons, List.not_mem_nil, or_false] at hb
      rcases hb with rfl | rfl | rfl | rfl
      · exact a3
      · exact e6
      · exact b2
      · exact d5
    · have hbp : b ≠ p := by simpa using hbp
      have hn : ∀ {c : Addr}, H c = none → b ≠ c := fun h => ne_of_none hb h
      simp [upd, hbp, hn e6, hn d5, hn a3, hn b2, hn c1, hb]
theorem ok_Days_ask_change {f : Addr} {fd : FuncData} (F : Fun K "ask_change" "Days.ask_change" s_Days_ask_change f fd) (T : Txt K mg t_W t_MOST_BLOCKS C_KeepError C_NoTable C_NoPlace C_NoBlock C_NoDay C_NoBase C_Days) (D_NoPlace : ExcX P w K mg base "NoPlace" C_NoPlace 1 ["self", "place"] (sp_x1 C_NoPlace "place")) (D_NoBlock : ExcX P w K mg base "NoBlock" C_NoBlock 1 ["self", "block"] (sp_x1 C_NoBlock "block")) : FnOk P w K mg base (CXx P w) 3 f fd ["self", "place", "block"] (sp_askc C_Days C_NoPlace C_NoBlock) := by
  refine F.okX sc_Days_ask_change (fun vs H Q E h => ?_) (fun cdv A outer s H vs Q E hr h => ?_)
  · obtain ⟨p, ta, sa, TL, SL, wd, tabs, sets, c, rfl, D, q0, q1, q2⟩ := h; rfl
  · obtain ⟨p, ta, sa, TL, SL, wd, tabs, sets, c, rfl, D, q0, q1, q2⟩ := h
    refine ⟨_, (pss_cons (ps_if (PW.pt (pw_or (pt_cmpR op_lt (pv 1) pe_int (nomark _)) (pw_or1 (pt_cmpR op_ge (pv 1) (pe_fld (pv 0) rfl) (nomark _))))) (pss_one (ps_raise rfl raisesB (pe_exc D_NoPlace (hr.mono (by decide)) rfl (pa_cons (pv 1) pa_nil)))) pss_nil)
      (pss_one (ps_if (PW.pt (pw_or (pt_cmpR op_lt (pv 2) pe_int (nomark _)) (pw_or1 (pt_cmpR op_gt (pv 2) (pe_glob (v := .int 18446744073709551615) rfl T.m_W ⟨_, rfl⟩) (nomark _))))) (pss_one (ps_raise rfl raisesB (pe_exc D_NoBlock (hr.mono (by decide)) rfl (pa_cons (pv 2) pa_nil)))) pss_nil))), ?_⟩
    obtain ⟨dx, ob⟩ := D.ob
    by_cases h1 : c.1 < 0
    · refine ⟨_, rfl, _, _, rfl, rfl, _, rfl, ?_⟩
      refine iteY h1 ?_
      refine iteT ?_
      exact ⟨_, rfl, raise1 (E := E) T.x_NoPlace (q1 c.1 (by unfold badC; rw [if_pos (.inl h1)]))⟩
    refine ⟨_, rfl, _, _, rfl, rfl, _, rfl, ?_⟩
    refine iteN h1 ?_
    refine ⟨_, rfl, _, rfl, p, C_Days, dx, _, _, rfl, ob, T.cl_Days, T.n_Days_wide, fl_wide, _, _, rfl, rfl, _, rfl, ?_⟩
    by_cases h2 : (wd : Int) ≤ c.1
    · refine iteY h2 ?_
      exact ⟨_, rfl, raise1 (E := E) T.x_NoPlace (q1 c.1 (by unfold badC; rw [if_pos (.inr h2)]))⟩
    refine iteN h2 ?_
    by_cases h3 : c.2 < 0
    · refine ⟨_, rfl, _, _, rfl, rfl, _, rfl, ?_⟩
      refine iteY h3 ?_
      refine iteT ?_
      exact ⟨_, rfl, raise1 (E := E) T.x_NoBlock (q2 c.2 (by unfold badC; rw [if_neg (by omega), if_pos (.inl h3)]))⟩
    refine ⟨_, rfl, _, _, rfl, rfl, _, rfl, ?_⟩
    refine iteN h3 ?_
    refine ⟨_, rfl, _, _, rfl, rfl, _, rfl, ?_⟩
    by_cases h4 : 18446744073709551615 < c.2
    · refine iteY h4 ?_
      exact ⟨_, rfl, raise1 (E := E) T.x_NoBlock (q2 c.2 (by unfold badC; rw [if_neg (by omega), if_pos (.inr h4)]))⟩
    refine iteN h4 ?_
    exact q0 (by unfold badC; rw [if_neg (by omega), if_neg (by omega)])
theorem ok_Days_ask_day {f : Addr} {fd : FuncData} (F : Fun K "ask_day" "Days.ask_day" s_Days_ask_day f fd) (T : Txt K mg t_W t_MOST_BLOCKS C_KeepError C_NoTable C_NoPlace C_NoBlock C_NoDay C_NoBase C_Days) (D_NoDay : ExcX P w K mg base "NoDay" C_NoDay 1 ["self", "day"] (sp_x1 C_NoDay "day")) : FnOk P w K mg base (CXx P w) 3 f fd ["self", "day"] (sp_askd C_Days C_NoDay) := by
  refine F.okX sc_Days_ask_day (fun vs H Q E h => ?_) (fun cdv A outer s H vs Q E hr h => ?_)
  · obtain ⟨p, ta, sa, TL, SL, wd, tabs, sets, d, rfl, D, q0, q1⟩ := h; rfl
  · obtain ⟨p, ta, sa, TL, SL, wd, tabs, sets, d, rfl, D, q0, q1⟩ := h
    refine ⟨_, (pss_one (ps_if (PW.pt (pw_or (pt_cmpR op_lt (pv 1) pe_int (nomark _)) (pw_or1 (pt_cmpR op_gt (pv 1) (pe_fld (pv 0) rfl) (nomark _))))) (pss_one (ps_raise rfl raisesB (pe_exc D_NoDay (hr.mono (by decide)) rfl (pa_cons (pv 1) pa_nil)))) pss_nil)), ?_⟩
    obtain ⟨dx, ob⟩ := D.ob
    by_cases h1 : d < 0
    · refine ⟨_, rfl, _, _, rfl, rfl, _, rfl, ?_⟩
      refine iteY h1 ?_
      refine iteT ?_
      exact ⟨_, rfl, raise1 (E := E) T.x_NoDay (q1 (by omega))⟩
    refine ⟨_, rfl, _, _, rfl, rfl, _, rfl, ?_⟩
    refine iteN h1 ?_
    refine ⟨_, rfl, _, rfl, p, C_Days, dx, _, _, rfl, ob, T.cl_Days, T.n_Days_last, fl_last, _, _, rfl, rfl, _, rfl, ?_⟩
    by_cases h2 : (tabs.length : Int) - 1 < d
    · refine iteY h2 ?_
      exact ⟨_, rfl, raise1 (E := E) T.x_NoDay (q1 (by omega))⟩
    refine iteN h2 ?_
    exact q0 (by omega)
theorem ok_Days_table {f : Addr} {fd : FuncData} (F : Fun K "table" "Days.table" s_Days_table f fd) (T : Txt K mg t_W t_MOST_BLOCKS C_KeepError C_NoTable C_NoPlace C_NoBlock C_NoDay C_NoBase C_Days) (D_Days_ask_day : MethX P w K mg base C_Days "ask_day" 3 ["self", "day"] (sp_askd C_Days C_NoDay)) : FnOk P w K mg base (CXx P w) 4 f fd ["self", "day"] (sp_table C_Days C_NoDay) := by
  refine F.okX sc_Days_table (fun vs H Q E h => ?_) (fun cdv A outer s H vs Q E hr h => ?_)
  · obtain ⟨p, ta, sa, TL, SL, wd, tabs, sets, d, rfl, D, q0, q1⟩ := h; rfl
  · obtain ⟨p, ta, sa, TL, SL, wd, tabs, sets, d, rfl, D, q0, q1⟩ := h
    refine ⟨_, (pss_cons (ps_expr (pe_methS (pv 0) T.cl_Days D_Days_ask_day passesB (hr.mono (by decide)) (pa_cons (pv 1) pa_nil)))
      (pss_one (ps_ret (pe_callTy call_list_of (by rfl) T.b_list PyProof.Rows.boot_list (pa_cons (pe_ix ix_list (pe_fld (pv 0) rfl) (pv 1) (fun _ _ => rfl)) pa_nil))))), ?_⟩
    obtain ⟨dx, ob⟩ := D.ob
    refine ⟨_, rfl, p, dx, _, rfl, ob, fl_no (by decide +kernel) (by decide +kernel) (by decide +kernel) (by decide +kernel), _, rfl, p, ta, sa, TL, SL, wd, tabs, sets, d, rfl, D, fun hd => ?_, q1⟩
    have hl : d.toNat < tabs.length := by omega
    obtain ⟨t0, et0, _, ht0⟩ := D.tls.at_ (List.getElem?_eq_getElem hl)
    refine ⟨_, rfl, p, C_Days, dx, _, _, rfl, ob, T.cl_Days, T.n_Days_tables, fl_tables, _, rfl, ta, _, _, V.ref t0, rfl, rfl, SqL.of D.tl, ?_, t0, _, rfl, .inl (SqL.of ht0), fun m hm => ?_⟩
    · rw [show d = ((d.toNat : Nat) : Int) by omega]; refine atI_nat ?_; simp [et0]
    · exact q0 hd m _ (List.getElem?_eq_getElem hl) hm
theorem ok_Days_passes {f : Addr} {fd : FuncData} (F : Fun K "passes" "Days.passes" s_Days_passes f fd) (T : Txt K mg t_W t_MOST_BLOCKS C_KeepError C_NoTable C_NoPlace C_NoBlock C_NoDay C_NoBase C_Days) (D_Days_ask_change : MethX P w K mg base C_Days "ask_change" 3 ["self", "place", "block"] (sp_askc C_Days C_NoPlace C_NoBlock)) : FnOk P w K mg base (CXx P w) 4 f fd ["self", "changes"] (sp_passes C_Days C_NoPlace C_NoBlock) := by
  refine F.okX sc_Days_passes (fun vs H Q E h => ?_) (fun cdv A outer s H vs Q E hr h => ?_)
  · obtain ⟨p, ta, sa, a, TL, SL, wd, tabs, sets, L, chs, rfl, D, hA, R, hlc, hlt, haf, q0, q1, q2⟩ := h; rfl
  · obtain ⟨p, ta, sa, a, TL, SL, wd, tabs, sets, L, chs, rfl, D, hA, R, hlc, hlt, haf, q0, q1, q2⟩ := h
    refine ⟨_, (pss_cons (ps_for PassesOwn.leaving rfl (pi_list (pv 1)) (pg_tup rfl (pgs_cons (pg_name (i := 2) sc_Days_passes.nd rfl (Or.inl rfl)) (pgs_cons (pg_name (i := 3) sc_Days_passes.nd rfl (Or.inl rfl)) pgs_nil)))
      (pss_one (ps_expr (pe_methS (pv 0) T.cl_Days D_Days_ask_change passesB (hr.mono (by decide)) (pa_cons (pv 2) (pa_cons (pv 3) pa_nil))))))
      (pss_cons (ps_set (i := 4) sc_Days_passes.nd rfl (Or.inl rfl) (pe_callTy call_list_of (by rfl) T.b_list PyProof.Rows.boot_list (pa_cons (pe_ix ix_list (pe_fld (pv 0) rfl) (pe_fld (pv 0) rfl) (fun _ _ => rfl)) pa_nil)))
      (pss_cons (ps_for PassesOwn.leaving rfl (pi_list (pv 1)) (pg_tup rfl (pgs_cons (pg_name (i := 2) sc_Days_passes.nd rfl (Or.inl rfl)) (pgs_cons (pg_name (i := 3) sc_Days_passes.nd rfl (Or.inl rfl)) pgs_nil)))
      (pss_one (ps_asg (pv 3) (pg_sub (pv 4) (pv 2) set_list))))
      (pss_cons (ps_expr (pe_bm PySem.F.plainAttrs_list PySem.F.slot_list_append PySem.F.type_list_append mt_append (pe_fld (pv 0) rfl) (pa_cons (pv 4) pa_nil)))
      (pss_cons (ps_expr (pe_bm PySem.F.plainAttrs_list PySem.F.slot_list_append PySem.F.type_list_append mt_append (pe_fld (pv 0) rfl) (pa_cons (pe_comp (N := ["place", "block"]) (k := 2) (cap := []) rfl rfl (pi_list (pv 1)) (fun _ _ _ _ => (pg_tupK (K := K) (n := 2) rfl rfl (pgs_cons (pg_name (i := 0) (show (["place", "block"] : List Str).Nodup from by decide +kernel) rfl (Or.inl rfl) (.inr rfl)) (pgs_cons (pg_name (i := 1) (show (["place", "block"] : List Str).Nodup from by decide +kernel) rfl (Or.inl rfl) (.inr rfl)) pgs_nil)))) (fun _ _ _ _ => pts_nil) (fun _ _ _ _ => (pv 0))) pa_nil)))
      (pss_cons (ps_fld (pv 0) (pe_op op_add (pe_fld (pv 0) rfl) pe_int) rfl)
      (pss_one (ps_ret (pe_fld (pv 0) rfl))))))))), ?_⟩
    obtain ⟨dx, ob⟩ := D.ob
    have tpos : 0 < tabs.length := Nat.pos_of_ne_zero D.ne
    have hil : ∀ {i : Nat} {v : V}, L[i]? = some v → i < chs.length := fun {i v} h => by rw [← R.len]; exact (List.getElem?_eq_some_iff.mp h).1
    -- the first loop: all changes are asked
    refine ⟨_, rfl, a, rfl, ⟨_, SqL.of hA⟩, for_list (K := K) (a := a) (xs := L) (fun i σ H2 => ∃ v2 v3 : Option V, σ = [some (.ref p), some (.ref a), v2, v3, none] ∧ H2 = H ∧ ∀ j d, j < i → chs[j]? = some d → badC wd d = none)
      ⟨none, none, rfl, rfl, fun j d hj => absurd hj (Nat.not_lt_zero _)⟩ (fun i σ H2 _ ⟨_, _, _, e, _⟩ => by rw [e]; exact SqL.of hA) ?_ ?_⟩
    · rintro i v σ H2 hi ⟨v2, v3, rfl, rfl, hp⟩
      obtain ⟨t, r, rfl, hr2, ht⟩ := R.get i v hi
      refine ⟨t, _, rfl, SqT.of ht, rfl, _, _, rfl, _, _, rfl, rfl, ?_⟩
      refine ⟨_, rfl, p, dx, _, rfl, ob, fl_no (by decide +kernel) (by decide +kernel) (by decide +kernel) (by decide +kernel), _, rfl, _, rfl, p, ta, sa, TL, SL, wd, tabs, sets, r, rfl, D, fun hb => ?_, fun x hb => q1 x (firstBad_at hr2 hp hb), fun x hb => q2 x (firstBad_at hr2 hp hb)⟩
      refine ⟨_, _, rfl, rfl, fun j d hj hd => ?_⟩
      by_cases hji : j = i
      · rw [hji, hr2] at hd; cases hd; exact hb
      · exact hp j d (by omega) hd
    rintro σ H2 ⟨v2, v3, rfl, rfl, hgood⟩
    have hfb : firstBad wd chs = none := by
      unfold firstBad
      rw [List.findSome?_eq_none_iff]
      intro c hc
      obtain ⟨j, hj⟩ := List.mem_iff_getElem?.mp hc
      exact hgood j c (by rw [R.len]; exact (List.getElem?_eq_some_iff.mp hj).1) hj
    have hgd : ∀ c ∈ chs, badC wd c = none := firstBad_none hfb
    -- table = list(self.tables[self.last])
    have htab : tabs[tabs.length - 1]? = some tabs[tabs.length - 1] := List.getElem?_eq_getElem (by omega)
    generalize tabs[tabs.length - 1] = tab at htab
    obtain ⟨t0, et0, _, ht0⟩ := D.tls.at_ htab
    refine ⟨_, rfl, p, C_Days, dx, _, _, rfl, ob, T.cl_Days, T.n_Days_tables, fl_tables, _, rfl, p, C_Days, dx, _, _, rfl, ob, T.cl_Days, T.n_Days_last, fl_last, ta, _, _, V.ref t0, rfl, rfl, SqL.of D.tl, ?_, t0, _, rfl, .inl (SqL.of ht0), fun m hm => ?_⟩
    · rw [show (tabs.length : Int) - 1 = ((tabs.length - 1 : Nat) : Int) by omega]; refine atI_nat ?_; simp [et0]
    have tl0 : tab.length = wd := D.wds tab (List.mem_of_getElem? htab)
    have nam : a ≠ m := ne_of_none hA hm
    have npm : p ≠ m := ne_of_none ob hm
    have ntm : ta ≠ m := ne_of_none D.tl hm
    have nsm : sa ≠ m := ne_of_none D.sl hm
    -- the second loop
    refine ⟨_, rfl, a, rfl, ⟨_, SqL.of (by rw [upd_ne nam]; exact hA)⟩, for_list (K := K) (a := a) (xs := L) (fun i σ H3 => ∃ v2 v3 : Option V, σ = [some (.ref p), some (.ref a), v2, v3, some (.ref m)] ∧ H3 = upd H2 m (.lst ((nextT tab (chs.take i)).map V.int)))
      ⟨v2, v3, rfl, rfl⟩ (fun i σ H3 _ ⟨_, _, _, e⟩ => by rw [e]; exact SqL.of (by rw [upd_ne nam]; exact hA)) ?_ ?_⟩
    · rintro i v σ H3 hi ⟨v2, v3, rfl, rfl⟩
      obtain ⟨t, r, rfl, hr2, ht⟩ := R.get i v hi
      obtain ⟨r1, r2, _, _⟩ := badC_none (hgd r (List.mem_of_getElem? hr2))
      refine ⟨t, _, rfl, SqT.of (by rw [upd_ne (ne_of_none ht hm)]; exact ht), rfl, _, _, rfl, _, _, rfl, rfl, ?_⟩
      refine ⟨_, rfl, _, rfl, _, rfl, m, _, _, r.1.toNat, rfl, rfl, upd_same, ?_, ?_⟩
      · rw [List.length_map, nextT_len, tl0]; unfold ixN; rw [if_pos (by omega), if_pos (by omega)]
      · refine ⟨_, _, rfl, ?_⟩
        rw [upd_upd]
        have e : chs.take (i + 1) = chs.take i ++ [r] := by rw [List.take_add_one, hr2]; rfl
        rw [e, nextT_snoc, List.map_set]
    rintro σ H3 ⟨v2, v3, rfl, rfl⟩
    rw [show chs.take L.length = chs by rw [R.len, List.take_length]]
    have nd := D.nd
    simp only [List.nodup_cons, List.mem_cons, List.mem_append, not_or] at nd
    obtain ⟨⟨npt, nps, npT, npS⟩, ⟨nts, ntT, ntS⟩, ⟨nsT, nsS⟩, _⟩ := nd
    simp only [foot, List.mem_cons, List.mem_append, not_or] at haf
    obtain ⟨nap, nata, nasa, naT, naS⟩ := haf
    have ob3 : upd H2 m (.lst ((nextT tab chs).map V.int)) p = some (.ins C_Days dx (fl (wd : Int) ((tabs.length : Int) - 1) ta sa)) := by rw [upd_ne npm]; exact ob
    have htl3 : upd H2 m (.lst ((nextT tab chs).map V.int)) ta = some (.lst (TL.map V.ref)) := by rw [upd_ne ntm]; exact D.tl
    have tll := D.tls.len
    have sll := D.sls.len
    have lens := D.lens
    -- self.tables.append(table)
    refine ⟨_, rfl, p, C_Days, dx, _, _, rfl, ob3, T.cl_Days, T.n_Days_tables, fl_tables, .inl ⟨rfl, _, SqL.of htl3⟩, _, rfl, ta, _, _, rfl, rfl, htl3, (by rw [List.length_map]; exact small1000 (by omega)), ?_⟩
    have ob4 : upd (upd H2 m (.lst ((nextT tab chs).map V.int))) ta (.lst (TL.map V.ref ++ [.ref m])) p = some (.ins C_Days dx (fl (wd : Int) ((tabs.length : Int) - 1) ta sa)) := by rw [upd_ne npt]; exact ob3
    have hsl4 : upd (upd H2 m (.lst ((nextT tab chs).map V.int))) ta (.lst (TL.map V.ref ++ [.ref m])) sa = some (.lst (SL.map V.ref)) := by rw [upd_ne (Ne.symm nts), upd_ne nsm]; exact D.sl
    have hA4 : upd (upd H2 m (.lst ((nextT tab chs).map V.int))) ta (.lst (TL.map V.ref ++ [.ref m])) a = some (.lst L) := by rw [upd_ne nata, upd_ne nam]; exact hA
    -- self.set_places.append([..])
    refine ⟨_, rfl, p, C_Days, dx, _, _, rfl, ob4, T.cl_Days, T.n_Days_set_places, fl_set, .inl ⟨rfl, _, SqL.of hsl4⟩, ?_⟩
    refine ⟨_, rfl, a, rfl, ⟨_, SqL.of hA4⟩, fun D' hD' => ?_⟩
    obtain ⟨hD1, nDt⟩ := upd_none hD'
    obtain ⟨hD2, nDm⟩ := upd_none hD1
    have nDp : D' ≠ p := (ne_of_none ob hD2).symm
    have nDs : D' ≠ sa := (ne_of_none D.sl hD2).symm
    have naD : a ≠ D' := ne_of_none hA hD2
    refine comp_list D' (K := K) (a := a) (xs := L) (fun i σ H5 ys => ∃ v v' : Option V, σ = [v, v'] ∧ H5 = upd (upd (upd H2 m (.lst ((nextT tab chs).map V.int))) ta (.lst (TL.map V.ref ++ [.ref m]))) D' (.lst ys) ∧ ys = ((chs.take i).map Prod.fst).map V.int)
      ⟨none, none, rfl, rfl, rfl⟩ (fun i σ H5 ys _ ⟨_, _, _, e, _⟩ => by rw [e]; exact SqL.of (by rw [upd_ne naD]; exact hA4)) ?_ ?_
    · rintro i x σ H5 ys hi ⟨v, v', rfl, rfl, hy⟩
      have hic := hil hi
      obtain ⟨t, r, rfl, hr2, ht⟩ := R.get i x hi
      have ht5 : upd (upd (upd H2 m (.lst ((nextT tab chs).map V.int))) ta (.lst (TL.map V.ref ++ [.ref m]))) D' (.lst ys) t = some (.tup [.int r.1, .int r.2]) := by
        rw [upd_ne (ne_of_none ht hD2), upd_ne (ne_of ht D.tl (by intro z; cases z)), upd_ne (ne_of_none ht hm)]; exact ht
      refine ⟨t, _, rfl, SqT.of ht5, rfl, _, _, rfl, _, _, rfl, rfl, _, rfl, upd_same, by rw [hy]; exact small1000 (by simp; omega), ?_⟩
      exact ⟨_, _, rfl, by rw [upd_upd], by rw [hy, List.take_add_one, hr2]; simp⟩
    rintro σ H5 ys ⟨v, v', rfl, rfl, hy⟩
    rw [show chs.take L.length = chs by rw [R.len, List.take_length]] at hy
    subst hy
    have hsl5 : upd (upd (upd H2 m (.lst ((nextT tab chs).map V.int))) ta (.lst (TL.map V.ref ++ [.ref m]))) D' (.lst ((chs.map Prod.fst).map V.int)) sa = some (.lst (SL.map V.ref)) := by rw [upd_ne (Ne.symm nDs)]; exact hsl4
    refine ⟨sa, _, _, rfl, rfl, hsl5, (by rw [List.length_map]; exact small1000 (by omega)), ?_⟩
    have ob6 : upd (upd (upd (upd H2 m (.lst ((nextT tab chs).map V.int))) ta (.lst (TL.map V.ref ++ [.ref m]))) D' (.lst ((chs.map Prod.fst).map V.int))) sa (.lst (SL.map V.ref ++ [.ref D'])) p = some (.ins C_Days dx (fl (wd : Int) ((tabs.length : Int) - 1) ta sa)) := by
      rw [upd_ne nps, upd_ne (Ne.symm nDp)]; exact ob4
    refine ⟨_, rfl, p, C_Days, dx, _, _, rfl, ob6, T.cl_Days, T.n_Days_last, fl_last, _, _, rfl, rfl, _, rfl, p, C_Days, dx, _, rfl, ob6, T.cl_Days, T.n_Days_last, (by show 4 < 1000; decide), ?_⟩
    rw [fl_put]
    refine ⟨_, rfl, p, C_Days, dx, _, _, rfl, upd_same, T.cl_Days, T.n_Days_last, fl_last, ?_⟩
    have el : (tabs.length : Int) - 1 + 1 = (tabs.length : Int) := by omega
    have fm := D.fresh hm
    have fD := D.fresh hD2
    have z := q0 hfb m D' (upd (upd (upd (upd (upd H2 m (.lst ((nextT tab chs).map V.int))) ta (.lst (TL.map V.ref ++ [.ref m]))) D' (.lst ((chs.map Prod.fst).map V.int))) sa (.lst (SL.map V.ref ++ [.ref D']))) p (.ins C_Days dx (fl (wd : Int) ((tabs.length : Int) - 1 + 1) ta sa))) tab htab ?_ hm hD2 ?_
    · exact (congrArg (fun n : Int => Q (V.int n) _) el).mpr z
    · have old : ∀ b o, b ∈ TL ++ SL → H2 b = some o → upd (upd (upd (upd (upd H2 m (.lst ((nextT tab chs).map V.int))) ta (.lst (TL.map V.ref ++ [.ref m]))) D' (.lst ((chs.map Prod.fst).map V.int))) sa (.lst (SL.map V.ref ++ [.ref D']))) p (.ins C_Days dx (fl (wd : Int) ((tabs.length : Int) - 1 + 1) ta sa)) b = some o := fun b o hb e => by
        have b1 : b ≠ p := by rintro rfl; rcases List.mem_append.mp hb with z | z; exact npT z; exact npS z
        have b2 : b ≠ ta := by rintro rfl; rcases List.mem_append.mp hb with z | z; exact ntT z; exact ntS z
        have b3 : b ≠ sa := by rintro rfl; rcases List.mem_append.mp hb with z | z; exact nsT z; exact nsS z
        rw [upd_ne b1, upd_ne b3, upd_ne (ne_of_none e hD2), upd_ne b2, upd_ne (ne_of_none e hm)]; exact e
      refine ⟨⟨dx, ?_⟩, ?_, ?_, (D.tls.mono fun a ha o e => old a o (List.mem_append_left _ ha) e).snoc ?_, (D.sls.mono fun a ha o e => old a o (List.mem_append_right _ ha) e).snoc ?_, ?_, by simp, by simp [lens], fun t ht => ?_, D.w1, D.w2⟩
      · rw [upd_same]; congr 2; simp
      · simp [upd, Ne.symm npt, nts, Ne.symm nDt]
      · simp [upd, Ne.symm nps]
      · simp [upd, Ne.symm npm, Ne.symm nsm, Ne.symm nDm, Ne.symm ntm]
      · simp [upd, nDp, nDs]
      · exact nodup_app2 D.nd fm fD (Ne.symm nDm)
      · rcases List.mem_append.mp ht with h | h
        · exact D.wds t h
        · have : t = nextT tab chs := by simpa using h
          rw [this, nextT_len, tl0]
    · intro b o e hb
      have n1 : b ≠ p := fun z => hb (by simp [foot, z])
      have n2 : b ≠ ta := fun z => hb (by simp [foot, z])
      have n3 : b ≠ sa := fun z => hb (by simp [foot, z])
      rw [upd_ne n1, upd_ne n3, upd_ne (ne_of_none e hD2), upd_ne n2, upd_ne (ne_of_none e hm)]; exact e
theorem ok_Days_written {f : Addr} {fd : FuncData} (F : Fun K "written" "Days.written" s_Days_written f fd) (T : Txt K mg t_W t_MOST_BLOCKS C_KeepError C_NoTable C_NoPlace C_NoBlock C_NoDay C_NoBase C_Days) (D_Days_ask_day : MethX P w K mg base C_Days "ask_day" 3 ["self", "day"] (sp_askd C_Days C_NoDay)) : FnOk P w K mg base (CXx P w) 4 f fd ["self", "one", "other"] (sp_written C_Days C_NoDay) := by
  refine F.okX sc_Days_written (fun vs H Q E h => ?_) (fun cdv A outer s H vs Q E hr h => ?_)
  · obtain ⟨p, ta, sa, TL, SL, wd, tabs, sets, one, other, rfl, D, hin, h500, q0, q1⟩ := h; rfl
  · obtain ⟨p, ta, sa, TL, SL, wd, tabs, sets, one, other, rfl, D, hin, h500, q0, q1⟩ := h
    refine ⟨_, (pss_cons (ps_expr (pe_methS (pv 0) T.cl_Days D_Days_ask_day passesB (hr.mono (by decide)) (pa_cons (pv 1) pa_nil)))
      (pss_cons (ps_expr (pe_methS (pv 0) T.cl_Days D_Days_ask_day passesB (hr.mono (by decide)) (pa_cons (pv 2) pa_nil)))
      (pss_cons (ps_set (i := 3) sc_Days_written.nd rfl (Or.inl rfl) (pe_lst pa_nil))
      (pss_cons (ps_for PassesOwn.leaving rfl (pi_range2 rfl T.b_range (pa_cons (pe_op op_add (pe_callB (call_min2 rfl) (by rfl) T.b_min PyProof.Rows.boot_min (pa_cons (pv 1) (pa_cons (pv 2) pa_nil))) pe_int) (pa_cons (pe_op op_add (pe_callB (call_max2 rfl) (by rfl) T.b_max PyProof.Rows.boot_max (pa_cons (pv 1) (pa_cons (pv 2) pa_nil))) pe_int) pa_nil))) (pg_name (i := 4) sc_Days_written.nd rfl (Or.inl rfl))
      (pss_one (ps_expr (pe_bm PySem.F.plainAttrs_list PySem.F.slot_list_extend PySem.F.type_list_extend mt_extend (pv 3) (pa_cons (pe_ix ix_list (pe_fld (pv 0) rfl) (pv 4) (fun _ _ => rfl)) pa_nil)))))
      (pss_one (ps_ret (pe_sset rfl (by rfl) T.b_sorted (by rfl) T.b_set (pv 3)))))))), ?_⟩
    obtain ⟨dx, ob⟩ := D.ob
    have lens := D.lens
    refine ⟨_, rfl, p, dx, _, rfl, ob, fl_no (by decide +kernel) (by decide +kernel) (by decide +kernel) (by decide +kernel), _, rfl, p, ta, sa, TL, SL, wd, tabs, sets, one, rfl, D, fun ho => ?_, fun hb => q1 one (.inl ⟨hb, rfl⟩)⟩
    refine ⟨_, rfl, p, dx, _, rfl, ob, fl_no (by decide +kernel) (by decide +kernel) (by decide +kernel) (by decide +kernel), _, rfl, p, ta, sa, TL, SL, wd, tabs, sets, other, rfl, D, fun ht => ?_, fun hb => q1 other (.inr ⟨ho, hb, rfl⟩)⟩
    refine ⟨Nat.zero_le _, fun pl hpl => ?_⟩
    have e1 : (if other < one then other else one) = min one other := by split <;> omega
    have e2 : (if other > one then other else one) = max one other := by split <;> omega
    refine ⟨_, rfl, _, rfl, one, other, rfl, _, _, rfl, rfl, _, rfl, _, rfl, one, other, rfl, _, _, rfl, rfl, min one other + 1, max one other + 1, by rw [e1, e2], ⟨by omega, by omega, by omega, by omega⟩, ?_⟩
    refine for_range (lo := min one other + 1) (n := ((max one other + 1) - (min one other + 1)).toNat) (fun i σ H2 => ∃ (v4 : Option V) (ns : List Int), σ = [some (.ref p), some (.int one), some (.int other), some (.ref pl), v4] ∧ Same H H2 ∧ H2 pl = some (.lst (ns.map V.int)) ∧ ns.length ≤ 300 * i ∧ (∀ k, k ∈ ns ↔ inDays sets (min one other) (min one other + i) k) ∧ ∀ x ∈ ns, 0 ≤ x ∧ x < (wd : Int)) ⟨none, [], rfl, Same.new hpl, upd_same, by simp, fun k => ⟨fun h => by simp at h, fun ⟨d, xs, h1, h2, _⟩ => by omega⟩, fun x h => by simp at h⟩ ?_ ?_
    · rintro i σ H2 hi ⟨v4, ns, rfl, s2, hp2, hl2, hm2, hx2⟩
      have D2 := D.same s2
      obtain ⟨d, hd⟩ : ∃ d : Nat, min one other + 1 + (i : Int) = (d : Int) := ⟨(min one other + 1 + (i : Int)).toNat, by omega⟩
      have hdl : d < sets.length := by omega
      have exs : sets[d]? = some sets[d] := List.getElem?_eq_getElem hdl
      obtain ⟨xa, exa, _, hxa⟩ := D2.sls.at_ exs
      have hin2 := hin.day sets[d] (List.getElem_mem hdl)
      refine ⟨_, rfl, .inl ⟨rfl, _, SqL.of hp2⟩, _, rfl, p, C_Days, dx, _, _, rfl, s2 _ _ ob, T.cl_Days, T.n_Days_set_places, fl_set, _, rfl, sa, _, _, V.ref xa, rfl, rfl, SqL.of D2.sl, ?_, ?_⟩
      · rw [hd]; exact atI_nat (by rw [List.getElem?_map, exa]; rfl)
      refine ⟨pl, xa, _, _, rfl, rfl, hp2, hxa, (by rw [List.length_map, List.length_map]; exact small15 (by omega)), ?_⟩
      refine ⟨_, ns ++ sets[d], rfl, fun b o e => by rw [upd_ne (ne_of_none e hpl)]; exact s2 b o e, by rw [upd_same, List.map_append], by rw [List.length_append]; omega, fun k => ?_, fun x hx => ?_⟩
      · rw [List.mem_append, hm2 k]
        constructor
        · rintro (⟨d', xs, h1, h2, h3, h4⟩ | h)
          · exact ⟨d', xs, h1, by omega, h3, h4⟩
          · exact ⟨d, _, by omega, by omega, exs, h⟩
        · rintro ⟨d', xs, h1, h2, h3, h4⟩
          by_cases z : d' = d
          · subst z; rw [exs] at h3; cases h3; exact .inr h4
          · exact .inl ⟨d', xs, h1, by omega, h3, h4⟩
      · rcases List.mem_append.mp hx with h | h
        · exact hx2 x h
        · exact hin2.2 x h
    · rintro σ H2 ⟨v4, ns, rfl, s2, hp2, hl2, hm2, hx2⟩
      refine ⟨_, rfl, pl, ns, rfl, SqL.of hp2, few63 hin.most hx2, fun r ns' hr hpw hmem => q0 ho ht r ns' _ upd_same (s2.free hr) hpw (fun k => (hmem k).trans ((hm2 k).trans ?_)) (s2.trans (Same.new hr))⟩
      rw [show min one other + ((((max one other + 1) - (min one other + 1)).toNat : Nat) : Int) = max one other by omega]
theorem ok__law_cell_at {f : Addr} {fd : FuncData} (F : Fun K "_law_cell_at" "_law_cell_at" s__law_cell_at f fd) (T : Txt K mg t_W t_MOST_BLOCKS C_KeepError C_NoTable C_NoPlace C_NoBlock C_NoDay C_NoBase C_Days)  : FnOk P w K mg base (CXx P w) 1 f fd ["_law_script", "_law_k"] (sp_cell K) := by
  refine F.okX sc__law_cell_at (fun vs H Q E h => ?_) (fun cdv A outer s H vs Q E hr h => ?_)
  · obtain ⟨a, ns, k, rfl, hS, q⟩ := h; rfl
  · obtain ⟨a, ns, k, rfl, hS, q⟩ := h
    refine ⟨_, (pss_cons (ps_if (pt_cmpR op_lt (pv 1) (pe_callB call_len_seq (by rfl) T.b_len PySem.boot_len (pa_cons (pv 0) pa_nil)) (nomark _)) (pss_one (ps_ret (pe_ix ix_list (pv 0) (pv 1) (fun _ _ => rfl)))) pss_nil)
      (pss_one (ps_ret pe_int))), ?_⟩
    refine ⟨_, rfl, _, rfl, a, _, rfl, .inl hS, _, _, rfl, rfl, _, rfl, ?_⟩
    refine ite2 (fun h => ?_) (fun h => ?_)
    · have h : k < ns.length := by simpa using h
      refine ⟨_, rfl, _, rfl, a, _, _, V.int (ns.getD k 0), rfl, rfl, hS, atI_nat ?_, ?_⟩
      · simp [h]
      · have e : cellI ns k = ns.getD k 0 := by unfold cellI; rw [if_pos (by omega)]; rfl
        rw [e] at q; exact q
    · have h : ¬ k < ns.length := by simpa using h
      have e : cellI ns k = 0 := by unfold cellI; rw [if_neg (by omega)]
      rw [e] at q; exact q
theorem ok__law_whole {f : Addr} {fd : FuncData} (F : Fun K "_law_whole" "_law_whole" s__law_whole f fd) (T : Txt K mg t_W t_MOST_BLOCKS C_KeepError C_NoTable C_NoPlace C_NoBlock C_NoDay C_NoBase C_Days)  : FnOk P w K mg base (CXx P w) 1 f fd ["_law_found"] (sp_whole) := by
  refine F.okX sc__law_whole (fun vs H Q E h => ?_) (fun cdv A outer s H vs Q E hr h => ?_)
  · obtain ⟨n, rfl, q⟩ := h; rfl
  · obtain ⟨n, rfl, q⟩ := h
    refine ⟨_, (pss_one (ps_ret (pe_and (pe_callB call_isinst (by rfl) T.b_isinstance PyProof.Rows.boot_isinstance (pa_cons (pv 0) (pa_cons (pe_bltn (v := .ty "int") rfl T.b_int PyProof.Rows.boot_int rfl) pa_nil))) (pe_one (pe_not (pe_callB call_isinst (by rfl) T.b_isinstance PyProof.Rows.boot_isinstance (pa_cons (pv 0) (pa_cons (pe_bltn (v := .ty "bool") rfl T.b_bool PyProof.Rows.boot_bool rfl) pa_nil)))))))), ?_⟩
    refine ⟨_, rfl, _, _, _, _, true, rfl, rfl, .int _, rfl, _, rfl, ?_⟩
    refine iteT ?_
    refine ⟨_, rfl, _, _, _, _, false, rfl, rfl, .int _, (by with_unfolding_all rfl), _, rfl, ?_⟩
    exact q
theorem ok__law_mix {f : Addr} {fd : FuncData} (F : Fun K "_law_mix" "_law_mix" s__law_mix f fd) (T : Txt K mg t_W t_MOST_BLOCKS C_KeepError C_NoTable C_NoPlace C_NoBlock C_NoDay C_NoBase C_Days)  : FnOk P w K mg base (CXx P w) 1 f fd ["_law_cell", "_law_k"] (sp_mix) := by
  refine F.okX sc__law_mix (fun vs H Q E h => ?_) (fun cdv A outer s H vs Q E hr h => ?_)
  · obtain ⟨c, k, rfl, q⟩ := h; rfl
  · obtain ⟨c, k, rfl, q⟩ := h
    refine ⟨_, (pss_cons (ps_set (i := 2) sc__law_mix.nd rfl (Or.inl rfl) (pe_op op_mod (pe_op op_mul (pe_op op_add (pe_op op_add (pe_op op_mod (pv 0) pe_int) (pe_op op_mul pe_int (pv 1))) pe_int) pe_int) pe_int))
      (pss_one (ps_ret (pe_op op_mod (pe_op op_add (pe_op op_mul (pv 2) (pv 2)) (pe_op op_mul pe_int (pv 1))) pe_int)))), ?_⟩
    repeat (first | refine ⟨_, rfl, ?_⟩ | refine ⟨_, _, rfl, rfl, ?_⟩ | refine ⟨(by first | decide | (dsimp only; decide) | (show 2 ≤ sizeLine; decide) | (show 1 ≤ sizeLine; decide) | (show 3 ≤ sizeLine; decide) | (show 4 ≤ sizeLine; decide)), ?_⟩ | refine ⟨.inl ⟨by first | decide | (dsimp only; decide), by first | decide | (dsimp only; decide)⟩, ?_⟩ | refine ⟨.inr ⟨by first | decide | (dsimp only; decide), by first | decide | (dsimp only; decide)⟩, ?_⟩ | refine ⟨⟨by first | decide | (dsimp only; decide), by first | decide | (dsimp only; decide)⟩, ?_⟩ | refine ⟨rfl, ?_⟩ | refine ⟨_, _, rfl, ?_⟩)
    have h := mI_b c k
    refine ⟨.inl ⟨by show -(2 ^ 64) < mI c k; omega, by show mI c k < 2 ^ 64; omega⟩, ?_⟩
    repeat (first | refine ⟨_, rfl, ?_⟩ | refine ⟨_, _, rfl, rfl, ?_⟩ | refine ⟨(by first | decide | (dsimp only; decide) | (show 2 ≤ sizeLine; decide) | (show 1 ≤ sizeLine; decide) | (show 3 ≤ sizeLine; decide) | (show 4 ≤ sizeLine; decide)), ?_⟩ | refine ⟨.inl ⟨by first | decide | (dsimp only; decide), by first | decide | (dsimp only; decide)⟩, ?_⟩ | refine ⟨.inr ⟨by first | decide | (dsimp only; decide), by first | decide | (dsimp only; decide)⟩, ?_⟩ | refine ⟨⟨by first | decide | (dsimp only; decide), by first | decide | (dsimp only; decide)⟩, ?_⟩ | refine ⟨rfl, ?_⟩ | refine ⟨_, _, rfl, ?_⟩)
    exact q
theorem ok__law_changes {f : Addr} {fd : FuncData} (F : Fun K "_law_changes" "_law_changes" s__law_changes f fd) (T : Txt K mg t_W t_MOST_BLOCKS C_KeepError C_NoTable C_NoPlace C_NoBlock C_NoDay C_NoBase C_Days) (D__law_mix : DefX P w K mg base "_law_mix" 1 ["_law_cell", "_law_k"] sp_mix) : FnOk P w K mg base (CXx P w) 2 f fd ["_law_cell", "_law_wide"] (sp_changes) := by
  refine F.okX sc__law_changes (fun vs H Q E h => ?_) (fun cdv A outer s H vs Q E hr h => ?_)
  · obtain ⟨c, wd, rfl, hw, q⟩ := h; rfl
  · obtain ⟨c, wd, rfl, hw, q⟩ := h
    refine ⟨_, (pss_cons (ps_set (i := 2) sc__law_changes.nd rfl (Or.inl rfl) (pe_lst pa_nil))
      (pss_cons (ps_for PassesOwn.leaving rfl (pi_range1 rfl T.b_range (pa_cons (pe_op op_mod (pv 0) pe_int) pa_nil)) (pg_name (i := 3) sc__law_changes.nd rfl (Or.inl rfl))
      (pss_cons (ps_set (i := 4) sc__law_changes.nd rfl (Or.inl rfl) (pe_callS D__law_mix passesN (hr.mono (by decide)) rfl (pa_cons (pe_op op_fdivB (pv 0) pe_int) (pa_cons (pv 3) pa_nil))))
      (pss_one (ps_expr (pe_bm PySem.F.plainAttrs_list PySem.F.slot_list_append PySem.F.type_list_append mt_append (pv 2) (pa_cons (pe_tup (pa_cons (pe_op op_mod (pv 4) (pv 1)) (pa_cons (pe_op op_mod (pe_op op_fdivB (pv 4) pe_int) pe_int) pa_nil))) pa_nil))))))
      (pss_one (ps_ret (pv 2))))), ?_⟩
    refine ⟨Nat.zero_le _, fun l hl => ?_⟩
    repeat (first | refine ⟨_, rfl, ?_⟩ | refine ⟨_, _, rfl, rfl, ?_⟩ | refine ⟨(by first | decide | (dsimp only; decide) | (show 2 ≤ sizeLine; decide) | (show 1 ≤ sizeLine; decide) | (show 3 ≤ sizeLine; decide) | (show 4 ≤ sizeLine; decide)), ?_⟩ | refine ⟨.inl ⟨by first | decide | (dsimp only; decide), by first | decide | (dsimp only; decide)⟩, ?_⟩ | refine ⟨.inr ⟨by first | decide | (dsimp only; decide), by first | decide | (dsimp only; decide)⟩, ?_⟩ | refine ⟨⟨by first | decide | (dsimp only; decide), by first | decide | (dsimp only; decide)⟩, ?_⟩ | refine ⟨rfl, ?_⟩ | refine ⟨_, _, rfl, ?_⟩)
    have h8 := Int.emod_nonneg c (show (4 : Int) ≠ 0 by decide)
    have h9 := Int.emod_lt_of_pos c (show (0 : Int) < 4 by decide)
    refine ⟨by omega, by omega, for_range (lo := 0) (n := (c % 4).toNat) (fun i σ H2 => ∃ (v4 v5 : Option V) (ys : List V) (chs : List (Int × Int)), σ = [some (.int c), some (.int (wd : Int)), some (.ref l), v4, v5] ∧ Same H H2 ∧ H2 l = some (.lst ys) ∧ ChAt H2 ys chs ∧ chs.length = i ∧ ∀ x ∈ chs, 0 ≤ x.1 ∧ x.1 < (wd : Int) ∧ 0 ≤ x.2 ∧ x.2 < 3) ⟨none, none, [], [], rfl, Same.new hl, upd_same, ChAt.nil, rfl, fun x h => by cases h⟩ ?_ ?_⟩
    · rintro i σ H2 hi ⟨v4, v5, ys, chs, rfl, s2, h2, R, hn, hx⟩
      repeat (first | refine ⟨_, rfl, ?_⟩ | refine ⟨_, _, rfl, rfl, ?_⟩ | refine ⟨(by first | decide | (dsimp only; decide) | (show 2 ≤ sizeLine; decide) | (show 1 ≤ sizeLine; decide) | (show 3 ≤ sizeLine; decide) | (show 4 ≤ sizeLine; decide)), ?_⟩ | refine ⟨.inl ⟨by first | decide | (dsimp only; decide), by first | decide | (dsimp only; decide)⟩, ?_⟩ | refine ⟨.inr ⟨by first | decide | (dsimp only; decide), by first | decide | (dsimp only; decide)⟩, ?_⟩ | refine ⟨⟨by first | decide | (dsimp only; decide), by first | decide | (dsimp only; decide)⟩, ?_⟩ | refine ⟨rfl, ?_⟩ | refine ⟨_, _, rfl, ?_⟩)
      refine ⟨.inl ⟨rfl, _, SqL.of h2⟩, ?_⟩
      have hm := mix_b (c / 4) (0 + (i : Int))
      generalize mixI (c / 4) (0 + (i : Int)) = mm at hm ⊢
      repeat (first | refine ⟨_, rfl, ?_⟩ | refine ⟨_, _, rfl, rfl, ?_⟩ | refine ⟨(by first | decide | (dsimp only; decide) | (show 2 ≤ sizeLine; decide) | (show 1 ≤ sizeLine; decide) | (show 3 ≤ sizeLine; decide) | (show 4 ≤ sizeLine; decide)), ?_⟩ | refine ⟨.inl ⟨by first | decide | (dsimp only; decide), by first | decide | (dsimp only; decide)⟩, ?_⟩ | refine ⟨.inr ⟨by first | decide | (dsimp only; decide), by first | decide | (dsimp only; decide)⟩, ?_⟩ | refine ⟨⟨by first | decide | (dsimp only; decide), by first | decide | (dsimp only; decide)⟩, ?_⟩ | refine ⟨rfl, ?_⟩ | refine ⟨_, _, rfl, ?_⟩)
      refine ⟨by show (0 : Int) < wd; omega, ?_⟩
      repeat (first | refine ⟨_, rfl, ?_⟩ | refine ⟨_, _, rfl, rfl, ?_⟩ | refine ⟨(by first | decide | (dsimp only; decide) | (show 2 ≤ sizeLine; decide) | (show 1 ≤ sizeLine; decide) | (show 3 ≤ sizeLine; decide) | (show 4 ≤ sizeLine; decide)), ?_⟩ | refine ⟨.inl ⟨by first | decide | (dsimp only; decide), by first | decide | (dsimp only; decide)⟩, ?_⟩ | refine ⟨.inr ⟨by first | decide | (dsimp only; decide), by first | decide | (dsimp only; decide)⟩, ?_⟩ | refine ⟨⟨by first | decide | (dsimp only; decide), by first | decide | (dsimp only; decide)⟩, ?_⟩ | refine ⟨rfl, ?_⟩ | refine ⟨_, _, rfl, ?_⟩)
      intro t ht
      have nlt : l ≠ t := ne_of_none h2 ht
      refine ⟨l, ys, _, rfl, rfl, Same.new ht _ _ h2, by rw [R.len]; exact small1000 (by omega), _, _, _, chs ++ [(mm % (wd : Int), mm / 40 % 3)], rfl, fun b o e => ?_, upd_same, (R.mono fun b xs e => ?_).snoc ?_, by simp [hn], fun x h => ?_⟩
      · rw [upd_ne (ne_of_none e hl)]; exact Same.new ht b o (s2 b o e)
      · rw [upd_ne (ne_of e h2 (by intro z; cases z))]; exact Same.new ht b _ e
      · rw [upd_ne nlt.symm]; exact upd_same
      · rcases List.mem_append.mp h with h | h
        · exact hx x h
        · have : x = (mm % (wd : Int), mm / 40 % 3) := by simpa using h
          rw [this]
          exact ⟨Int.emod_nonneg _ (by omega), Int.emod_lt_of_pos _ (by omega), by dsimp only; omega, by dsimp only; omega⟩
    · rintro σ H2 ⟨v4, v5, ys, chs, rfl, s2, h2, R, hn, hx⟩
      refine ⟨_, rfl, ?_⟩
      exact q l ys chs H2 h2 hl R ⟨by omega, hx⟩ s2
theorem ok__law_day {f : Addr} {fd : FuncData} (F : Fun K "_law_day" "_law_day" s__law_day f fd) (T : Txt K mg t_W t_MOST_BLOCKS C_KeepError C_NoTable C_NoPlace C_NoBlock C_NoDay C_NoBase C_Days)  : FnOk P w K mg base (CXx P w) 1 f fd ["_law_cell", "_law_last"] (sp_day) := by
  refine F.okX sc__law_day (fun vs H Q E h => ?_) (fun cdv A outer s H vs Q E hr h => ?_)
  · obtain ⟨c, n, rfl, hc0, hc1, q⟩ := h; rfl
  · obtain ⟨c, n, rfl, hc0, hc1, q⟩ := h
    refine ⟨_, (pss_cons (ps_if (pt_cmpR op_eq (pe_op op_mod (pv 0) pe_int) pe_int (nomark _)) (pss_cons (ps_set (i := 2) sc__law_day.nd rfl (Or.inl rfl) (pe_op op_mod (pe_op op_mul (pv 0) (pv 0)) (pe_powc (n := 1000000000000000000))))
      (pss_one (ps_ret (pe_ix ix_list (pe_lst (pa_cons (pe_un un_neg pe_int) (pa_cons (pe_op op_add (pv 1) pe_int) (pa_cons (pe_op op_add (pe_op op_add (pv 1) pe_int) (pv 2)) (pa_cons (pe_op op_sub (pe_un un_neg pe_int) (pv 2)) pa_nil))))) (pe_op op_mod (pe_op op_fdivB (pv 0) pe_int) pe_int) (fun _ _ => rfl))))) pss_nil)
      (pss_one (ps_ret (pe_op op_mod (pe_op op_fdivB (pv 0) pe_int) (pe_op op_add (pv 1) pe_int))))), ?_⟩
    repeat (first | refine ⟨_, rfl, ?_⟩ | refine ⟨_, _, rfl, rfl, ?_⟩ | refine ⟨(by first | decide | (dsimp only; decide) | (show 2 ≤ sizeLine; decide) | (show 1 ≤ sizeLine; decide) | (show 3 ≤ sizeLine; decide) | (show 4 ≤ sizeLine; decide)), ?_⟩ | refine ⟨.inl ⟨by first | decide | (dsimp only; decide), by first | decide | (dsimp only; decide)⟩, ?_⟩ | refine ⟨.inr ⟨by first | decide | (dsimp only; decide), by first | decide | (dsimp only; decide)⟩, ?_⟩ | refine ⟨⟨by first | decide | (dsimp only; decide), by first | decide | (dsimp only; decide)⟩, ?_⟩ | refine ⟨rfl, ?_⟩ | refine ⟨_, _, rfl, ?_⟩)
    refine ite2 (fun h => ?_) (fun h => ?_)
    · repeat (first | refine ⟨_, rfl, ?_⟩ | refine ⟨_, _, rfl, rfl, ?_⟩ | refine ⟨(by first | decide | (dsimp only; decide) | (show 2 ≤ sizeLine; decide) | (show 1 ≤ sizeLine; decide) | (show 3 ≤ sizeLine; decide) | (show 4 ≤ sizeLine; decide)), ?_⟩ | refine ⟨.inl ⟨by first | decide | (dsimp only; decide), by first | decide | (dsimp only; decide)⟩, ?_⟩ | refine ⟨.inr ⟨by first | decide | (dsimp only; decide), by first | decide | (dsimp only; decide)⟩, ?_⟩ | refine ⟨⟨by first | decide | (dsimp only; decide), by first | decide | (dsimp only; decide)⟩, ?_⟩ | refine ⟨rfl, ?_⟩ | refine ⟨_, _, rfl, ?_⟩)
      refine ⟨.inl ⟨by omega, by omega⟩, ?_⟩
      repeat (first | refine ⟨_, rfl, ?_⟩ | refine ⟨_, _, rfl, rfl, ?_⟩ | refine ⟨(by first | decide | (dsimp only; decide) | (show 2 ≤ sizeLine; decide) | (show 1 ≤ sizeLine; decide) | (show 3 ≤ sizeLine; decide) | (show 4 ≤ sizeLine; decide)), ?_⟩ | refine ⟨.inl ⟨by first | decide | (dsimp only; decide), by first | decide | (dsimp only; decide)⟩, ?_⟩ | refine ⟨.inr ⟨by first | decide | (dsimp only; decide), by first | decide | (dsimp only; decide)⟩, ?_⟩ | refine ⟨⟨by first | decide | (dsimp only; decide), by first | decide | (dsimp only; decide)⟩, ?_⟩ | refine ⟨rfl, ?_⟩ | refine ⟨_, _, rfl, ?_⟩)
      intro p hp
      repeat (first | refine ⟨_, rfl, ?_⟩ | refine ⟨_, _, rfl, rfl, ?_⟩ | refine ⟨(by first | decide | (dsimp only; decide) | (show 2 ≤ sizeLine; decide) | (show 1 ≤ sizeLine; decide) | (show 3 ≤ sizeLine; decide) | (show 4 ≤ sizeLine; decide)), ?_⟩ | refine ⟨.inl ⟨by first | decide | (dsimp only; decide), by first | decide | (dsimp only; decide)⟩, ?_⟩ | refine ⟨.inr ⟨by first | decide | (dsimp only; decide), by first | decide | (dsimp only; decide)⟩, ?_⟩ | refine ⟨⟨by first | decide | (dsimp only; decide), by first | decide | (dsimp only; decide)⟩, ?_⟩ | refine ⟨rfl, ?_⟩ | refine ⟨_, _, rfl, ?_⟩)
      exact ⟨p, _, _, V.int _, rfl, rfl, SqL.of upd_same, (four_at (k := c / 5 % 4) (by omega) (by omega)).choose_spec, q _ _ (Same.new hp)⟩
    · repeat (first | refine ⟨_, rfl, ?_⟩ | refine ⟨_, _, rfl, rfl, ?_⟩ | refine ⟨(by first | decide | (dsimp only; decide) | (show 2 ≤ sizeLine; decide) | (show 1 ≤ sizeLine; decide) | (show 3 ≤ sizeLine; decide) | (show 4 ≤ sizeLine; decide)), ?_⟩ | refine ⟨.inl ⟨by first | decide | (dsimp only; decide), by first | decide | (dsimp only; decide)⟩, ?_⟩ | refine ⟨.inr ⟨by first | decide | (dsimp only; decide), by first | decide | (dsimp only; decide)⟩, ?_⟩ | refine ⟨⟨by first | decide | (dsimp only; decide), by first | decide | (dsimp only; decide)⟩, ?_⟩ | refine ⟨rfl, ?_⟩ | refine ⟨_, _, rfl, ?_⟩)
      exact ⟨by show (0 : Int) < (n : Int) + 1; omega, q _ _ (Same.refl _)⟩
theorem ok__law_good {f : Addr} {fd : FuncData} (F : Fun K "_law_good" "_law_good" s__law_good f fd) (T : Txt K mg t_W t_MOST_BLOCKS C_KeepError C_NoTable C_NoPlace C_NoBlock C_NoDay C_NoBase C_Days) (D__law_whole : DefX P w K mg base "_law_whole" 1 ["_law_found"] sp_whole) : FnOk P w K mg base (CXx P w) 2 f fd ["_law_found", "_law_due_here"] (sp_good) := by
  refine F.okX sc__law_good (fun vs H Q E h => ?_) (fun cdv A outer s H vs Q E hr h => ?_)
  · obtain ⟨t, u, sets, one, other, rfl, ht, hu, q⟩ := h; rfl
  · obtain ⟨t, u, sets, one, other, rfl, ht, hu, q⟩ := h
    refine ⟨_, (pss_cons (ps_if (pt_val (pe_callB call_isinst (by rfl) T.b_isinstance PyProof.Rows.boot_isinstance (pa_cons (pv 1) (pa_cons (pe_bltn (v := .ty "list") rfl T.b_list PyProof.Rows.boot_list rfl) pa_nil)))) (pss_cons (ps_if (pt_not (pt_val (pe_callB call_isinst (by rfl) T.b_isinstance PyProof.Rows.boot_isinstance (pa_cons (pv 0) (pa_cons (pe_bltn (v := .ty "list") rfl T.b_list PyProof.Rows.boot_list rfl) pa_nil))))) (pss_one (ps_ret pe_bl)) pss_nil)
      (pss_one (ps_for PassesOwn.leaving rfl (pi_list (pv 0)) (pg_name (i := 2) sc__law_good.nd rfl (Or.inl rfl))
      (pss_one (ps_if (pt_not (pt_val (pe_callS D__law_whole passesN (hr.mono (by decide)) rfl (pa_cons (pv 2) pa_nil)))) (pss_one (ps_ret pe_bl)) pss_nil))))) pss_nil)
      (pss_one (ps_ret (pe_cmpR (op_eq_ref hr.units) (pv 0) (pv 1) (nomark _))))), ?_⟩
    refine ⟨_, rfl, ?_⟩
    rcases hu with ⟨a, ns, h, b, c⟩ | ⟨d, h1, h2⟩
    · have hu : ResAt H u sets one other := .inl ⟨a, ns, h, b, c⟩
      refine ⟨_, _, _, _, true, rfl, rfl, .lst h, rfl, _, rfl, iteT ?_⟩
      rcases ht with ⟨a', ns', h', b', c'⟩ | ⟨d, h1, h2⟩
      · have ht : ResAt H t sets one other := .inl ⟨a', ns', h', b', c'⟩
        refine ⟨_, rfl, _, _, _, _, true, rfl, rfl, .lst h', rfl, _, rfl, iteF ?_⟩
        refine ⟨_, rfl, t, rfl, ⟨_, SqL.of h'⟩, for_list (K := K) (a := t) (xs := ns'.map V.int) (fun i σ H2 => ∃ v2 : Option V, σ = [some (.ref t), some (.ref u), v2] ∧ H2 = H) ⟨none, rfl, rfl⟩ (fun i σ H2 _ ⟨_, _, e⟩ => by rw [e]; exact SqL.of h') ?_ ?_⟩
        · rintro i v σ H2 hi ⟨v2, rfl, rfl⟩
          rw [List.getElem?_map, Option.map_eq_some_iff] at hi
          obtain ⟨z, _, rfl⟩ := hi
          refine ⟨_, rfl, z, rfl, _, rfl, iteF ?_⟩
          exact ⟨_, rfl, rfl⟩
        · rintro σ H2 ⟨v2, rfl, rfl⟩
          exact ⟨_, rfl, _, rfl, 0, true, by decide, res_eq ht hu, q⟩
      · exfalso; unfold badDay at h1; omega
    · have hu : ResAt H u sets one other := .inr ⟨d, h1, h2⟩
      refine ⟨_, _, _, _, false, rfl, rfl, .tup h2, (by with_unfolding_all rfl), _, rfl, iteF ?_⟩
      exact ⟨_, rfl, _, rfl, 0, true, by decide, res_eq ht hu, q⟩
theorem ok__law_table {f : Addr} {fd : FuncData} (F : Fun K "_law_table" "_law_table" s__law_table f fd) (T : Txt K mg t_W t_MOST_BLOCKS C_KeepError C_NoTable C_NoPlace C_NoBlock C_NoDay C_NoBase C_Days) (D_Days_table : MethX P w K mg base C_Days "table" 4 ["self", "day"] (sp_table C_Days C_NoDay)) : FnOk P w K mg base (CXx P w) 6 f fd ["_law_row_here", "_law_day_here"] (sp_ltable C_Days) := by
  refine F.okX sc__law_table (fun vs H Q E h => ?_) (fun cdv A outer s H vs Q E hr h => ?_)
  · obtain ⟨p, ta, sa, TL, SL, wd, tabs, sets, d, rfl, D, q⟩ := h; rfl
  · obtain ⟨p, ta, sa, TL, SL, wd, tabs, sets, d, rfl, D, q⟩ := h
    refine ⟨_, (pss_cons (ps_set (i := 2) sc__law_table.nd rfl (Or.inl rfl) pe_bl)
      (pss_cons (ps_try (fun pn xe E hx => (pss_one (ps_expr (pe_methS (pv 0) T.cl_Days D_Days_table hx (hr.mono (by decide)) (pa_cons (pv 1) pa_nil))))) (ph_as (i := 3) rfl T.mg_NoDay T.x_NoDay sc__law_table.nd rfl rfl (fun _ _ => (pss_one (ps_set (i := 2) sc__law_table.nd rfl (Or.inl rfl) (pe_cmpR op_eq (pe_xfld (pv 3) rfl) (pv 1) (nomark _))))) ph_nil) rfl rfl)
      (pss_one (ps_ret (pv 2))))), ?_⟩
    intro pn xe
    obtain ⟨dx, ob⟩ := D.ob
    refine ⟨_, rfl, p, dx, _, rfl, ob, fl_no (by decide +kernel) (by decide +kernel) (by decide +kernel) (by decide +kernel), _, rfl, p, ta, sa, TL, SL, wd, tabs, sets, d, rfl, D, fun h t tab etab ht => ?_, fun h e H' he hs => ?_⟩
    · have z := q _ (Same.new ht (o := .lst (tab.map V.int)))
      rw [decide_eq_true h] at z
      exact ⟨_, rfl, z⟩
    · refine ⟨e, C_NoDay, rfl, rfl, true, T.kd1, ?_⟩
      rw [if_pos rfl]
      intro pn2
      refine ⟨_, rfl, e, C_NoDay, _, _, rfl, he, T.x_NoDay, T.n_NoDay_day, look_eq, _, rfl, rfl, ?_⟩
      have z := q _ hs
      rw [decide_eq_false h] at z
      refine ⟨_, rfl, ?_⟩
      show Q (.bl (decide (V.int d = V.int d))) H'
      rw [decide_eq_true rfl]
      exact z
theorem ok__law_asked {f : Addr} {fd : FuncData} (F : Fun K "_law_asked" "_law_asked" s__law_asked f fd) (T : Txt K mg t_W t_MOST_BLOCKS C_KeepError C_NoTable C_NoPlace C_NoBlock C_NoDay C_NoBase C_Days) (D_Days_written : MethX P w K mg base C_Days "written" 4 ["self", "one", "other"] (sp_written C_Days C_NoDay)) : FnOk P w K mg base (CXx P w) 6 f fd ["_law_row_here", "_law_one", "_law_other"] (sp_asked C_Days) := by
  refine F.okX sc__law_asked (fun vs H Q E h => ?_) (fun cdv A outer s H vs Q E hr h => ?_)
  · obtain ⟨p, ta, sa, TL, SL, wd, tabs, sets, one, other, rfl, D, hS, h5, q⟩ := h; rfl
  · obtain ⟨p, ta, sa, TL, SL, wd, tabs, sets, one, other, rfl, D, hS, h5, q⟩ := h
    refine ⟨_, (pss_cons (ps_set (i := 3) sc__law_asked.nd rfl (Or.inl rfl) pe_non)
      (pss_cons (ps_try (fun pn xe E hx => (pss_one (ps_set (i := 3) sc__law_asked.nd rfl (Or.inl rfl) (pe_methS (pv 0) T.cl_Days D_Days_written hx (hr.mono (by decide)) (pa_cons (pv 1) (pa_cons (pv 2) pa_nil)))))) (ph_as (i := 4) rfl T.mg_NoDay T.x_NoDay sc__law_asked.nd rfl rfl (fun _ _ => (pss_one (ps_set (i := 3) sc__law_asked.nd rfl (Or.inl rfl) (pe_tup (pa_cons (pe_xfld (pv 4) rfl) (pa_cons (pe_callB call_isinstX (by rfl) T.b_isinstance PyProof.Rows.boot_isinstance (pa_cons (pv 4) (pa_cons (pe_glob (v := .ref C_KeepError) rfl T.mg_KeepError rfl) pa_nil))) (pa_cons (pe_callB call_isinstX (by rfl) T.b_isinstance PyProof.Rows.boot_isinstance (pa_cons (pv 4) (pa_cons (pe_glob (v := .ref C_NoBase) rfl T.mg_NoBase rfl) pa_nil))) pa_nil))))))) ph_nil) rfl rfl)
      (pss_one (ps_ret (pv 3))))), ?_⟩
    intro pn xe
    obtain ⟨dx, ob⟩ := D.ob
    have hls := D.lens
    refine ⟨_, rfl, p, dx, _, rfl, ob, fl_no (by decide +kernel) (by decide +kernel) (by decide +kernel) (by decide +kernel), _, rfl, _, rfl, p, ta, sa, TL, SL, wd, tabs, sets, one, other, rfl, D, hS, h5, fun h1 h2 r ns H' hr nr hp hm hs => ?_, fun d hd e H' he hs => ?_⟩
    · exact ⟨_, rfl, q r H' (.inl ⟨by rw [hls]; exact ⟨h1, h2⟩, ns, hr, hp, hm⟩) nr hs⟩
    · refine ⟨e, C_NoDay, rfl, rfl, true, T.kd1, ?_⟩
      rw [if_pos rfl]
      intro pn2
      refine ⟨_, rfl, e, C_NoDay, _, _, rfl, he, T.x_NoDay, T.n_NoDay_day, look_eq, ?_⟩
      refine ⟨_, rfl, e, C_NoDay, _, _, _, true, rfl, rfl, he, T.x_NoDay, T.kd2, ?_⟩
      refine ⟨_, rfl, e, C_NoDay, _, _, _, false, rfl, rfl, he, T.x_NoDay, T.kd3, ?_⟩
      refine ⟨(by show 3 ≤ sizeLine; decide), fun t ht => ?_⟩
      exact ⟨_, rfl, q t _ (.inr ⟨d, by unfold badDay; rw [hls]; exact hd, upd_same⟩) (hs.free ht) (hs.trans (Same.new ht))⟩
theorem ok__law_row {f : Addr} {fd : FuncData} (F : Fun K "_law_row" "_law_row" s__law_row f fd) (T : Txt K mg t_W t_MOST_BLOCKS C_KeepError C_NoTable C_NoPlace C_NoBlock C_NoDay C_NoBase C_Days) (D__law_changes : DefX P w K mg base "_law_changes" 2 ["_law_cell", "_law_wide"] sp_changes) : FnOk P w K mg base (CXx P w) 3 f fd ["_law_script", "_law_wide"] (sp_row K) := by
  refine F.okX sc__law_row (fun vs H Q E h => ?_) (fun cdv A outer s H vs Q E hr h => ?_)
  · obtain ⟨a, ns, wd, rfl, hS, hlen, hw, q⟩ := h; rfl
  · obtain ⟨a, ns, wd, rfl, hS, hlen, hw, q⟩ := h
    refine ⟨_, (pss_cons (ps_set (i := 2) sc__law_row.nd rfl (Or.inl rfl) (pe_lst (pa_cons (pe_lst pa_nil) pa_nil)))
      (pss_cons (ps_for PassesOwn.leaving rfl (pi_range2 rfl T.b_range (pa_cons pe_int (pa_cons (pe_callB (call_min2 rfl) (by rfl) T.b_min PyProof.Rows.boot_min (pa_cons (pe_callB call_len_seq (by rfl) T.b_len PySem.boot_len (pa_cons (pv 0) pa_nil)) (pa_cons pe_int pa_nil))) pa_nil))) (pg_name (i := 3) sc__law_row.nd rfl (Or.inl rfl))
      (pss_one (ps_expr (pe_bm PySem.F.plainAttrs_list PySem.F.slot_list_append PySem.F.type_list_append mt_append (pv 2) (pa_cons (pe_callS D__law_changes passesN (hr.mono (by decide)) rfl (pa_cons (pe_ix ix_list (pv 0) (pv 3) (fun _ _ => rfl)) (pa_cons (pv 1) pa_nil))) pa_nil)))))
      (pss_one (ps_ret (pv 2))))), ?_⟩
    repeat (first | refine ⟨_, rfl, ?_⟩ | refine ⟨_, _, rfl, rfl, ?_⟩ | refine ⟨(by first | decide | (dsimp only; decide) | (show 2 ≤ sizeLine; decide) | (show 1 ≤ sizeLine; decide) | (show 3 ≤ sizeLine; decide) | (show 4 ≤ sizeLine; decide)), ?_⟩ | refine ⟨.inl ⟨by first | decide | (dsimp only; decide), by first | decide | (dsimp only; decide)⟩, ?_⟩ | refine ⟨.inr ⟨by first | decide | (dsimp only; decide), by first | decide | (dsimp only; decide)⟩, ?_⟩ | refine ⟨⟨by first | decide | (dsimp only; decide), by first | decide | (dsimp only; decide)⟩, ?_⟩ | refine ⟨rfl, ?_⟩ | refine ⟨_, _, rfl, ?_⟩)
    intro z hz
    repeat (first | refine ⟨_, rfl, ?_⟩ | refine ⟨_, _, rfl, rfl, ?_⟩ | refine ⟨(by first | decide | (dsimp only; decide) | (show 2 ≤ sizeLine; decide) | (show 1 ≤ sizeLine; decide) | (show 3 ≤ sizeLine; decide) | (show 4 ≤ sizeLine; decide)), ?_⟩ | refine ⟨.inl ⟨by first | decide | (dsimp only; decide), by first | decide | (dsimp only; decide)⟩, ?_⟩ | refine ⟨.inr ⟨by first | decide | (dsimp only; decide), by first | decide | (dsimp only; decide)⟩, ?_⟩ | refine ⟨⟨by first | decide | (dsimp only; decide), by first | decide | (dsimp only; decide)⟩, ?_⟩ | refine ⟨rfl, ?_⟩ | refine ⟨_, _, rfl, ?_⟩)
    intro l hl
    have s2 : Same H (upd (upd H z (.lst [])) l (.lst [V.ref z])) := (Same.new hz).trans (Same.new hl)
    have hl2 : upd (upd H z (.lst [])) l (.lst [V.ref z]) l = some (.lst [V.ref z]) := upd_same
    have hz2 : upd (upd H z (.lst [])) l (.lst [V.ref z]) z = some (.lst []) := Same.new hl _ _ upd_same
    have nlz : l ≠ z := (ne_of_none (upd_same (H := H) (a := z)) hl).symm
    have nl : H l = none := (Same.new hz).free hl
    generalize upd (upd H z (.lst [])) l (.lst [V.ref z]) = H1 at s2 hl2 hz2 ⊢
    refine gNameA [some (.ref a), some (.int (wd : Int)), some (.ref l), none] ?_
    refine ⟨_, rfl, a, _, rfl, .inl (s2.seq hS), ?_⟩
    repeat (first | refine ⟨_, rfl, ?_⟩ | refine ⟨_, _, rfl, rfl, ?_⟩ | refine ⟨(by first | decide | (dsimp only; decide) | (show 2 ≤ sizeLine; decide) | (show 1 ≤ sizeLine; decide) | (show 3 ≤ sizeLine; decide) | (show 4 ≤ sizeLine; decide)), ?_⟩ | refine ⟨.inl ⟨by first | decide | (dsimp only; decide), by first | decide | (dsimp only; decide)⟩, ?_⟩ | refine ⟨.inr ⟨by first | decide | (dsimp only; decide), by first | decide | (dsimp only; decide)⟩, ?_⟩ | refine ⟨⟨by first | decide | (dsimp only; decide), by first | decide | (dsimp only; decide)⟩, ?_⟩ | refine ⟨rfl, ?_⟩ | refine ⟨_, _, rfl, ?_⟩)
    have hj : (if (52 : Int) < ((ns.map V.int).length : Int) then (52 : Int) else ((ns.map V.int).length : Int)) = ((min ns.length 52 : Nat) : Int) := by
      rw [List.length_map]; split <;> omega
    rw [hj]
    refine ⟨⟨by omega, by omega, by omega, by omega⟩, ?_⟩
    refine for_range (lo := 2) (fun i σ H2 => ∃ (v3 : Option V) (RL : List Addr) (chss : List (List (Int × Int))), σ = [some (.ref a), some (.int (wd : Int)), some (.ref l), v3] ∧ Same H H2 ∧ H2 l = some (.lst (RL.map V.ref)) ∧ RowsC H2 RL ([] :: chss) ∧ (∀ cs ∈ chss, ChOk wd cs) ∧ chss.length = i ∧ (∀ b ∈ RL, H b = none) ∧ l ∉ RL)
      ⟨none, [z], [], rfl, s2, hl2, ⟨rfl, fun i b cs e1 e2 => ?_⟩, fun cs h => (by cases h), rfl, fun b h => ?_, by simpa using nlz⟩ ?_ ?_
    · cases i with
      | zero => cases e1; cases e2; exact ⟨[], hz2, ChAt.nil⟩
      | succ i => cases e1
    · have : b = z := by simpa using h
      rw [this]; exact hz
    · rintro i σ H2 hi ⟨v3, RL, chss, rfl, s2, h2, R, hok, hn, hfr, hnl⟩
      have hi' : i + 2 < ns.length ∧ i + 2 < 52 := by omega
      have e1 : (ns.map V.int)[i + 2]? = some (V.int (ns.getD (i + 2) 0)) := by simp [hi'.1]
      refine ⟨_, rfl, .inl ⟨rfl, _, SqL.of h2⟩, _, rfl, _, rfl, a, _, _, V.int (ns.getD (i + 2) 0), rfl, rfl, s2.seq hS, ?_, ?_⟩
      · rw [show (2 : Int) + (i : Int) = ((i + 2 : Nat) : Int) by omega]; exact atI_nat e1
      refine ⟨_, rfl, ns.getD (i + 2) 0, wd, rfl, hw, fun cl L chs H3 hcl ncl Rc ok s3 => ?_⟩
      have h3 := s3 _ _ h2
      have ncl' : l ≠ cl := ne_of_none h2 ncl
      have hlen2 : RL.length = i + 1 := by rw [R.len]; simp [hn]
      have tk : ∀ t xs, H3 t = some (.tup xs) → upd H3 l (.lst (RL.map V.ref ++ [V.ref cl])) t = some (.tup xs) := fun t xs e => by
        rw [upd_ne (ne_of e h3 (by intro z; cases z))]; exact e
      refine ⟨l, _, _, rfl, rfl, h3, by rw [List.length_map, hlen2]; exact small1000 (by omega), _, RL ++ [cl], chss ++ [chs], rfl, fun b o e => ?_, ?_, ?_, fun cs h => ?_, by simp [hn], fun b h => ?_, ?_⟩
      · rw [upd_ne (ne_of_none e nl)]; exact s3 b o (s2 b o e)
      · rw [upd_same, List.map_append]; rfl
      · refine RowsC.snoc ((R.same s3).mono (fun b hb o e => ?_) tk) (L := L) ?_ (Rc.mono tk)
        · rw [upd_ne (show b ≠ l from fun z => hnl (by rw [← z]; exact hb))]; exact e
        · rw [upd_ne ncl'.symm]; exact hcl
      · rcases List.mem_append.mp h with h | h
        · exact hok cs h
        · have : cs = chs := by simpa using h
          rw [this]; exact ok
      · rcases List.mem_append.mp h with h | h
        · exact hfr b h
        · have : b = cl := by simpa using h
          rw [this]; exact s2.free ncl
      · simp only [List.mem_append, List.mem_singleton]
        rintro (z | z)
        · exact hnl z
        · exact ncl' z
    · rintro σ H2 ⟨v3, RL, chss, rfl, s2, h2, R, hok, hn, hfr, hnl⟩
      exact ⟨_, rfl, q l RL chss H2 h2 R hok (by omega) hfr nl s2⟩
theorem ok__law_due {f : Addr} {fd : FuncData} (F : Fun K "_law_due" "_law_due" s__law_due f fd) (T : Txt K mg t_W t_MOST_BLOCKS C_KeepError C_NoTable C_NoPlace C_NoBlock C_NoDay C_NoBase C_Days)  : FnOk P w K mg base (CXx P w) 1 f fd ["_law_rows", "_law_one", "_law_other"] (sp_due) := by
  refine F.okX sc__law_due (fun vs H Q E h => ?_) (fun cdv A outer s H vs Q E hr h => ?_)
  · obtain ⟨l, RL, chss, one, other, rfl, hl, R, h100, h3, q⟩ := h; rfl
  · obtain ⟨l, RL, chss, one, other, rfl, hl, R, h100, h3, q⟩ := h
    refine ⟨_, (pss_cons (ps_for PassesOwn.leaving rfl (pi_list (pe_lst (pa_cons (pv 1) (pa_cons (pv 2) pa_nil)))) (pg_name (i := 3) sc__law_due.nd rfl (Or.inl rfl))
      (pss_one (ps_if (PW.pt (pw_or (pt_cmpR op_lt (pv 3) pe_int (nomark _)) (pw_or1 (pt_cmpR op_ge (pv 3) (pe_callB call_len_seq (by rfl) T.b_len PySem.boot_len (pa_cons (pv 0) pa_nil)) (nomark _))))) (pss_one (ps_ret (pe_tup (pa_cons (pv 3) (pa_cons pe_bl (pa_cons pe_bl pa_nil)))))) pss_nil)))
      (pss_cons (ps_set (i := 4) sc__law_due.nd rfl (Or.inl rfl) (pe_lst pa_nil))
      (pss_cons (ps_for PassesOwn.leaving rfl (pi_range1 rfl T.b_range (pa_cons pe_int pa_nil)) (pg_name (i := 5) sc__law_due.nd rfl (Or.inl rfl))
      (pss_one (ps_for PassesOwn.leaving rfl (pi_range2 rfl T.b_range (pa_cons (pe_op op_add (pe_callB (call_min2 rfl) (by rfl) T.b_min PyProof.Rows.boot_min (pa_cons (pv 1) (pa_cons (pv 2) pa_nil))) pe_int) (pa_cons (pe_op op_add (pe_callB (call_max2 rfl) (by rfl) T.b_max PyProof.Rows.boot_max (pa_cons (pv 1) (pa_cons (pv 2) pa_nil))) pe_int) pa_nil))) (pg_name (i := 3) sc__law_due.nd rfl (Or.inl rfl))
      (pss_one (ps_if (PW.pt (pw_and (pt_cmpR op_in_seq (pv 5) (pe_comp (N := ["_law_change"]) (k := 1) (cap := []) rfl rfl (pi_list (pe_ix ix_list (pv 0) (pv 3) (fun _ _ => rfl))) (fun _ _ _ _ => (pg_name (i := 0) (show (["_law_change"] : List Str).Nodup from by decide +kernel) rfl (Or.inl rfl) (.inr rfl))) (fun _ _ _ _ => pts_nil) (fun _ _ _ _ => (pe_ix (ix_tupK (K := K) rfl) (pv 0) pe_int (fun _ _ => rfl)))) (by with_unfolding_all rfl)) (pw_and1 (pt_cmpR op_notIn_seq (pv 5) (pv 4) (by with_unfolding_all rfl))))) (pss_one (ps_expr (pe_bm PySem.F.plainAttrs_list PySem.F.slot_list_append PySem.F.type_list_append mt_append (pv 4) (pa_cons (pv 5) pa_nil)))) pss_nil)))))
      (pss_one (ps_ret (pv 4)))))), ?_⟩
    repeat (first | refine ⟨_, rfl, ?_⟩ | refine ⟨_, _, rfl, rfl, ?_⟩ | refine ⟨(by first | decide | (dsimp only; decide) | (show 2 ≤ sizeLine; decide) | (show 1 ≤ sizeLine; decide) | (show 3 ≤ sizeLine; decide) | (show 4 ≤ sizeLine; decide)), ?_⟩ | refine ⟨.inl ⟨by first | decide | (dsimp only; decide), by first | decide | (dsimp only; decide)⟩, ?_⟩ | refine ⟨.inr ⟨by first | decide | (dsimp only; decide), by first | decide | (dsimp only; decide)⟩, ?_⟩ | refine ⟨⟨by first | decide | (dsimp only; decide), by first | decide | (dsimp only; decide)⟩, ?_⟩ | refine ⟨rfl, ?_⟩ | refine ⟨_, _, rfl, ?_⟩)
    intro d0 hd0
    have s1 : Same H (upd H d0 (.lst [V.int one, V.int other])) := Same.new hd0
    have hd1 : upd H d0 (.lst [V.int one, V.int other]) d0 = some (.lst [V.int one, V.int other]) := upd_same
    generalize upd H d0 (.lst [V.int one, V.int other]) = H1 at s1 hd1 ⊢
    have hsl : (setsOf chss).length = chss.length := List.length_map ..
    have hRl : (RL.map V.ref).length = chss.length := by rw [List.length_map, R.len]
    refine ⟨d0, rfl, ⟨_, SqL.of hd1⟩, for_list (K := K) (a := d0) (xs := [V.int one, V.int other]) (fun i σ H2 => ∃ v3 : Option V, σ = [some (.ref l), some (.int one), some (.int other), v3, none, none] ∧ H2 = H1 ∧ (1 ≤ i → 0 ≤ one ∧ one < (chss.length : Int)) ∧ (2 ≤ i → 0 ≤ other ∧ other < (chss.length : Int)))
      ⟨none, rfl, rfl, fun h => by omega, fun h => by omega⟩ (fun i σ H2 _ ⟨_, _, e, _⟩ => by rw [e]; exact SqL.of hd1) ?_ ?_⟩
    · rintro i v σ H2 hi ⟨v3, rfl, rfl, h1, h2⟩
      obtain ⟨x, rfl, hx⟩ : ∃ x : Int, v = .int x ∧ ((i = 0 ∧ x = one) ∨ (i = 1 ∧ x = other)) := by
        match i, hi with
        | 0, hi => exact ⟨one, by simpa using hi.symm, .inl ⟨rfl, rfl⟩⟩
        | 1, hi => exact ⟨other, by simpa using hi.symm, .inr ⟨rfl, rfl⟩⟩
        | i + 2, hi => simp at hi
      by_cases hb : 0 ≤ x ∧ x < (chss.length : Int)
      · refine ifF (fun Qb hq => ?_) ?_
        · refine ⟨_, rfl, _, _, rfl, rfl, _, rfl, iteN (by omega) ⟨_, rfl, _, rfl, l, _, rfl, .inl (SqL.of (s1 _ _ hl)), _, _, rfl, rfl, _, rfl, ?_⟩⟩
          rw [hRl, decide_eq_false (show ¬ (chss.length : Int) ≤ x by omega)]; exact hq
        refine ⟨_, rfl, rfl, fun h => ?_, fun h => ?_⟩
        · rcases hx with ⟨_, rfl⟩ | ⟨rfl, rfl⟩
          · exact hb
          · exact h1 (by omega)
        · rcases hx with ⟨rfl, rfl⟩ | ⟨_, rfl⟩
          · omega
          · exact hb
      · refine ifT (fun Qb hq => ?_) ?_
        · refine ⟨_, rfl, _, _, rfl, rfl, _, rfl, ?_⟩
          by_cases h0 : x < 0
          · exact iteY h0 hq
          · refine iteN h0 ⟨_, rfl, _, rfl, l, _, rfl, .inl (SqL.of (s1 _ _ hl)), _, _, rfl, rfl, _, rfl, ?_⟩
            rw [hRl, decide_eq_true (show (chss.length : Int) ≤ x by omega)]; exact hq
        refine ⟨_, rfl, (by show 3 ≤ sizeLine; decide), fun t ht => ?_⟩
        refine q t _ (.inr ⟨x, ?_, upd_same⟩) (s1.free ht) (s1.trans (Same.new ht))
        unfold badDay
        rw [hsl]
        rcases hx with ⟨rfl, rfl⟩ | ⟨rfl, rfl⟩
        · exact .inl ⟨hb, rfl⟩
        · exact .inr ⟨h1 (by omega), hb, rfl⟩
    rintro σ H2 ⟨v3, rfl, rfl, h1, h2⟩
    have h1 := h1 (by simp)
    have h2 := h2 (by simp)
    refine ⟨Nat.zero_le _, fun f hf => ?_⟩
    refine gNameA [some (.ref l), some (.int one), some (.int other), v3, some (.ref f), none] ?_
    refine ⟨40, rfl, by decide, by decide, for_range (lo := 0) (n := 40) (fun i σ H3 => ∃ (v3 v5 : Option V) (ns : List Int), σ = [some (.ref l), some (.int one), some (.int other), v3, some (.ref f), v5] ∧ Same H2 H3 ∧ H3 f = some (.lst (ns.map V.int)) ∧ ns.length ≤ i ∧ ns.Pairwise (· < ·) ∧ (∀ k ∈ ns, 0 ≤ k ∧ k < (i : Int)) ∧ ∀ k : Int, 0 ≤ k → k < (i : Int) → (k ∈ ns ↔ inDays (setsOf chss) (min one other) (max one other) k)) ⟨v3, none, [], rfl, Same.new hf, upd_same, by simp, List.Pairwise.nil, fun k h => (by cases h), fun k a b => by omega⟩ ?_ ?_⟩
    · rintro i σ H3 hi ⟨v3', v5, ns, rfl, s3, h3f, hnl, hpw, hlt, hmem⟩
      have e1 : (if other < one then other else one) = min one other := by split <;> omega
      have e2 : (if other > one then other else one) = max one other := by split <;> omega
      refine ⟨_, rfl, _, rfl, one, other, rfl, _, _, rfl, rfl, _, rfl, _, rfl, one, other, rfl, _, _, rfl, rfl, min one other + 1, max one other + 1, by rw [e1, e2], ⟨by omega, by omega, by omega, by omega⟩, ?_⟩
      rw [Int.zero_add]
      refine for_range (lo := min one other + 1) (n := ((max one other + 1) - (min one other + 1)).toNat) (fun j σ H4 => ∃ (v3 : Option V) (ns2 : List Int), σ = [some (.ref l), some (.int one), some (.int other), v3, some (.ref f), some (.int (i : Int))] ∧ Same H2 H4 ∧ H4 f = some (.lst (ns2.map V.int)) ∧ ((ns2 = ns ∧ ¬ inDays (setsOf chss) (min one other) (min one other + j) i) ∨ (ns2 = ns ++ [(i : Int)] ∧ inDays (setsOf chss) (min one other) (min one other + j) i))) ⟨v3', ns, rfl, s3, h3f, .inl ⟨rfl, fun ⟨d, xs, a, b, _⟩ => by omega⟩⟩ ?_ ?_
      · rintro j σ H4 hj ⟨v3'', ns2, rfl, s4, h4f, hcase⟩
        obtain ⟨d, hd⟩ : ∃ d : Nat, min one other + 1 + (j : Int) = (d : Int) := ⟨(min one other + 1 + (j : Int)).toNat, by omega⟩
        have hdl : d < chss.length := by omega
        have ecs : chss[d]? = some chss[d] := List.getElem?_eq_getElem hdl
        have hcs := h3 chss[d] (List.getElem_mem hdl)
        generalize chss[d] = cs at ecs hcs
        have eset : (setsOf chss)[d]? = some (cs.map Prod.fst) := by unfold setsOf; rw [List.getElem?_map, ecs]; rfl
        have R4 := (R.same s1).same s4
        obtain ⟨ra, L, era, hra, RC⟩ := R4.at_ ecs
        have stepIn : (inDays (setsOf chss) (min one other) (min one other + ((j + 1 : Nat) : Int)) i) ↔ (inDays (setsOf chss) (min one other) (min one other + j) i ∨ (i : Int) ∈ cs.map Prod.fst) := by
          constructor
          · rintro ⟨d', xs, a, b, c, e⟩
            by_cases z : d' = d
            · subst z; rw [eset] at c; cases c; exact .inr e
            · exact .inl ⟨d', xs, a, by omega, c, e⟩
          · rintro (⟨d', xs, a, b, c, e⟩ | e)
            · exact ⟨d', xs, a, by omega, c, e⟩
            · exact ⟨d, _, by omega, by omega, eset, e⟩
        rw [hd]
        refine ⟨_, rfl, _, rfl, _, rfl, l, _, _, V.ref ra, rfl, rfl, SqL.of (s4 _ _ (s1 _ _ hl)), atI_nat (by rw [List.getElem?_map, era]; rfl), ra, rfl, ⟨_, SqL.of hra⟩, fun D' hD' => ?_⟩
        refine comp_list D' (K := K) (a := ra) (xs := L) (fun i σ H5 ys => ∃ (v : Option V), σ = [v] ∧ Same H4 H5 ∧ H5 D' = some (.lst ys) ∧ ys = ((cs.take i).map Prod.fst).map V.int) ⟨none, rfl, Same.new hD', upd_same, by simp⟩ (fun i σ H5 ys _ ⟨_, _, s5, _⟩ => SqL.of (s5 _ _ hra)) ?_ ?_
        · rintro i v σ H5 ys hi ⟨v0, rfl, s5, hD5, rfl⟩
          obtain ⟨t, x, rfl, hx2, ht⟩ := RC.get i v hi
          refine ⟨_, rfl, t, _, _, V.int x.1, rfl, rfl, SqT.of (s5 _ _ ht), rfl, hD5, ?_, some (.ref t), rfl, fun b o e => by rw [upd_ne (ne_of_none e hD')]; exact s5 b o e, upd_same, ?_⟩
          · rw [List.length_map, List.length_map, List.length_take]; exact small1000 (by omega)
          · rw [List.take_add_one, hx2]; simp
        rintro σ H5 ys ⟨v0, rfl, s5, hD5, rfl⟩
        rw [List.take_of_length_le (by rw [RC.len]; exact Nat.le_refl _)] at hD5
        have s25 := s4.trans s5
        have h5f := s5 _ _ h4f
        refine ⟨D', _, rfl, .inl (SqL.of hD5), rfl, flat_ints _, ?_⟩
        rw [in_b]
        refine ⟨_, rfl, ?_⟩
        by_cases hin : (i : Int) ∈ cs.map Prod.fst
        · rw [decide_eq_true hin]
          refine iteT ⟨_, rfl, _, rfl, f, _, rfl, .inl (SqL.of h5f), rfl, flat_ints _, ?_⟩
          rw [notin_b]
          refine ⟨_, rfl, ?_⟩
          rcases hcase with ⟨rfl, hno⟩ | ⟨rfl, hyes⟩
          · rw [decide_eq_false (show (i : Int) ∉ ns2 from fun h => by have := hlt _ h; omega)]
            refine iteT ⟨_, rfl, .inl ⟨rfl, _, SqL.of h5f⟩, _, rfl, f, _, _, rfl, rfl, h5f, by rw [List.length_map]; exact small1000 (by omega), ?_⟩
            exact ⟨_, ns2 ++ [(i : Int)], rfl, fun b o e => by rw [upd_ne (ne_of_none e hf)]; exact s25 b o e, by rw [upd_same, List.map_append]; rfl, .inr ⟨rfl, stepIn.mpr (.inr hin)⟩⟩
          · rw [decide_eq_true (show (i : Int) ∈ ns ++ [(i : Int)] by simp)]
            exact iteF ⟨_, _, rfl, s25, h5f, .inr ⟨rfl, stepIn.mpr (.inr hin)⟩⟩
        · rw [decide_eq_false hin]
          refine iteF ?_
          refine iteF ⟨_, _, rfl, s25, h5f, ?_⟩
          rcases hcase with ⟨rfl, hno⟩ | ⟨rfl, hyes⟩
          · exact .inl ⟨rfl, fun h => (stepIn.mp h).elim hno hin⟩
          · exact .inr ⟨rfl, stepIn.mpr (.inl hyes)⟩
      · rintro σ H4 ⟨v3'', ns2, rfl, s4, h4f, hcase⟩
        rw [show min one other + ((((max one other + 1) - (min one other + 1)).toNat : Nat) : Int) = max one other by omega] at hcase
        rcases hcase with ⟨rfl, hno⟩ | ⟨rfl, hyes⟩
        · refine ⟨_, _, ns2, rfl, s4, h4f, by omega, hpw, fun k hk => ⟨(hlt k hk).1, by have := (hlt k hk).2; omega⟩, fun k h0 hk => ?_⟩
          by_cases z : k = (i : Int)
          · subst z
            exact ⟨fun h => by have := (hlt _ h).2; omega, fun h => absurd h hno⟩
          · exact hmem k h0 (by omega)
        · refine ⟨_, _, ns ++ [(i : Int)], rfl, s4, h4f, by simp; omega, ?_, fun k hk => ?_, fun k h0 hk => ?_⟩
          · rw [List.pairwise_append]
            refine ⟨hpw, by simp, fun a ha b hb => ?_⟩
            have : b = (i : Int) := by simpa using hb
            rw [this]; exact (hlt a ha).2
          · rcases List.mem_append.mp hk with h | h
            · exact ⟨(hlt k h).1, by have := (hlt k h).2; omega⟩
            · have : k = (i : Int) := by simpa using h
              omega
          · by_cases z : k = (i : Int)
            · subst z
              exact ⟨fun _ => hyes, fun _ => by simp⟩
            · rw [← hmem k h0 (by omega)]
              simp [z]
    · rintro σ H3 ⟨v3', v5, ns, rfl, s3, h3f, hnl, hpw, hlt, hmem⟩
      refine ⟨_, rfl, q f H3 (.inl ⟨by rw [hsl]; exact ⟨h1, h2⟩, ns, h3f, hpw, fun k => ?_⟩) (s1.free hf) (s1.trans s3)⟩
      by_cases hk : 0 ≤ k ∧ k < 40
      · exact hmem k hk.1 hk.2
      · refine ⟨fun h => absurd (hlt k h) hk, fun ⟨d, xs, a, b, c, e⟩ => absurd ?_ hk⟩
        unfold setsOf at c
        rw [List.getElem?_map, Option.map_eq_some_iff] at c
        obtain ⟨cs, ecs, rfl⟩ := c
        obtain ⟨x, hx, rfl⟩ := List.mem_map.mp e
        exact (h3 cs (List.mem_of_getElem? ecs)).2 x hx
theorem ok_law {f : Addr} {fd : FuncData} (F : Fun K "law" "law" s_law f fd) (T : Txt K mg t_W t_MOST_BLOCKS C_KeepError C_NoTable C_NoPlace C_NoBlock C_NoDay C_NoBase C_Days) (D__law_cell_at : DefX P w K mg base "_law_cell_at" 1 ["_law_script", "_law_k"] (sp_cell K)) (D__law_row : DefX P w K mg base "_law_row" 3 ["_law_script", "_law_wide"] (sp_row K)) (D_Days : MakeX P w K mg base "Days" C_Days 4 ["self", "wide"] (sp_init C_Days C_NoTable)) (D_Days_passes : MethX P w K mg base C_Days "passes" 4 ["self", "changes"] (sp_passes C_Days C_NoPlace C_NoBlock)) (D__law_day : DefX P w K mg base "_law_day" 1 ["_law_cell", "_law_last"] sp_day) (D__law_mix : DefX P w K mg base "_law_mix" 1 ["_law_cell", "_law_k"] sp_mix) (D__law_due : DefX P w K mg base "_law_due" 1 ["_law_rows", "_law_one", "_law_other"] sp_due) (D__law_asked : DefX P w K mg base "_law_asked" 6 ["_law_row_here", "_law_one", "_law_other"] (sp_asked C_Days)) (D__law_good : DefX P w K mg base "_law_good" 2 ["_law_found", "_law_due_here"] sp_good) (D__law_table : DefX P w K mg base "_law_table" 6 ["_law_row_here", "_law_day_here"] (sp_ltable C_Days)) (D_Days_written : MethX P w K mg base C_Days "written" 4 ["self", "one", "other"] (sp_written C_Days C_NoDay)) : FnOk P w K mg base (CXx P w) 7 f fd ["_law_script"] (sp_law K) := by
  refine F.okX sc_law (fun vs H Q E h => ?_) (fun cdv A outer s H vs Q E hr h => ?_)
  · obtain ⟨a, ns, rfl, hS, hlen, q⟩ := h; rfl
  · obtain ⟨a, ns, rfl, hS, hlen, q⟩ := h
    refine ⟨_, (pss_cons (ps_set (i := 1) sc_law.nd rfl (Or.inl rfl) (pe_op op_add pe_int (pe_op op_mod (pe_callS D__law_cell_at passesN (hr.mono (by decide)) rfl (pa_cons (pv 0) (pa_cons pe_int pa_nil))) pe_int)))
      (pss_cons (ps_set (i := 2) sc_law.nd rfl (Or.inl rfl) (pe_callS D__law_row passesN (hr.mono (by decide)) rfl (pa_cons (pv 0) (pa_cons (pv 1) pa_nil))))
      (pss_cons (ps_set (i := 3) sc_law.nd rfl (Or.inl rfl) (pe_makeS D_Days passesB (hr.mono (by decide)) rfl (pa_cons (pv 1) pa_nil)))
      (pss_cons (ps_for PassesOwn.leaving rfl (pi_list (pe_slice sl_list (pv 2) (po_some pe_int) po_none)) (pg_name (i := 4) sc_law.nd rfl (Or.inl rfl))
      (pss_cons (ps_set (i := 5) sc_law.nd rfl (Or.inl rfl) (pe_callTy call_list_of (by rfl) T.b_list PyProof.Rows.boot_list (pa_cons (pv 4) pa_nil)))
      (pss_cons (ps_expr (pe_methS (pv 3) T.cl_Days D_Days_passes passesB (hr.mono (by decide)) (pa_cons (pv 5) pa_nil)))
      (pss_one (ps_expr (pe_bm PySem.F.plainAttrs_list PySem.F.slot_list_append PySem.F.type_list_append mt_append (pv 5) (pa_cons (pe_tup (pa_cons (pe_op op_sub (pv 1) pe_int) (pa_cons pe_int pa_nil))) pa_nil)))))))
      (pss_cons (ps_set (i := 6) sc_law.nd rfl (Or.inl rfl) (pe_callS D__law_day passesN (hr.mono (by decide)) rfl (pa_cons (pe_callS D__law_mix passesN (hr.mono (by decide)) rfl (pa_cons (pe_callS D__law_cell_at passesN (hr.mono (by decide)) rfl (pa_cons (pv 0) (pa_cons pe_int pa_nil))) (pa_cons pe_int pa_nil))) (pa_cons (pe_op op_sub (pe_callB call_len_seq (by rfl) T.b_len PySem.boot_len (pa_cons (pv 2) pa_nil)) pe_int) pa_nil))))
      (pss_cons (ps_set (i := 7) sc_law.nd rfl (Or.inl rfl) (pe_callS D__law_day passesN (hr.mono (by decide)) rfl (pa_cons (pe_callS D__law_mix passesN (hr.mono (by decide)) rfl (pa_cons (pe_callS D__law_cell_at passesN (hr.mono (by decide)) rfl (pa_cons (pv 0) (pa_cons pe_int pa_nil))) (pa_cons pe_int pa_nil))) (pa_cons (pe_op op_sub (pe_callB call_len_seq (by rfl) T.b_len PySem.boot_len (pa_cons (pv 2) pa_nil)) pe_int) pa_nil))))
      (pss_cons (ps_set (i := 8) sc_law.nd rfl (Or.inl rfl) (pe_callS D__law_due passesN (hr.mono (by decide)) rfl (pa_cons (pv 2) (pa_cons (pv 6) (pa_cons (pv 7) pa_nil)))))
      (pss_cons (ps_set (i := 9) sc_law.nd rfl (Or.inl rfl) (pe_callS D__law_asked passesN (hr.mono (by decide)) rfl (pa_cons (pv 3) (pa_cons (pv 6) (pa_cons (pv 7) pa_nil)))))
      (pss_cons (ps_if (pt_not (pt_val (pe_callS D__law_good passesN (hr.mono (by decide)) rfl (pa_cons (pv 9) (pa_cons (pv 8) pa_nil))))) (pss_one (ps_ret pe_bl)) pss_nil)
      (pss_cons (ps_if (pt_not (pt_val (pe_callS D__law_good passesN (hr.mono (by decide)) rfl (pa_cons (pe_callS D__law_asked passesN (hr.mono (by decide)) rfl (pa_cons (pv 3) (pa_cons (pv 7) (pa_cons (pv 6) pa_nil)))) (pa_cons (pe_callS D__law_due passesN (hr.mono (by decide)) rfl (pa_cons (pv 2) (pa_cons (pv 7) (pa_cons (pv 6) pa_nil)))) pa_nil))))) (pss_one (ps_ret pe_bl)) pss_nil)
      (pss_cons (ps_for PassesOwn.leaving rfl (pi_list (pe_lst (pa_cons (pv 6) (pa_cons (pv 7) pa_nil)))) (pg_name (i := 10) sc_law.nd rfl (Or.inl rfl))
      (pss_one (ps_if (pt_cmpR op_eq (pe_callS D__law_table passesN (hr.mono (by decide)) rfl (pa_cons (pv 3) (pa_cons (pv 10) pa_nil))) (pe_chain op_le op_lt pe_int (pv 10) (pe_callB call_len_seq (by rfl) T.b_len PySem.boot_len (pa_cons (pv 2) pa_nil))) (nomark _)) (pss_one (ps_ret pe_bl)) pss_nil)))
      (pss_cons (ps_if (pt_val (pe_callB call_isinst (by rfl) T.b_isinstance PyProof.Rows.boot_isinstance (pa_cons (pv 9) (pa_cons (pe_bltn (v := .ty "list") rfl T.b_list PyProof.Rows.boot_list rfl) pa_nil)))) (pss_cons (ps_expr (pe_bm0 PySem.F.plainAttrs_list PySem.F.slot_list_clear PySem.F.type_list_clear mt_clear (pv 9)))
      (pss_cons (ps_expr (pe_methS (pv 3) T.cl_Days D_Days_passes passesB (hr.mono (by decide)) (pa_cons (pe_lst (pa_cons (pe_tup (pa_cons pe_int (pa_cons pe_int pa_nil))) (pa_cons (pe_tup (pa_cons (pe_op op_sub (pv 1) pe_int) (pa_cons pe_int pa_nil))) pa_nil))) pa_nil)))
      (pss_cons (ps_if (pt_cmpR (op_ne_ref hr.units) (pe_callS D__law_asked passesN (hr.mono (by decide)) rfl (pa_cons (pv 3) (pa_cons (pv 6) (pa_cons (pv 6) pa_nil)))) (pe_lst pa_nil) (nomark _)) (pss_one (ps_ret pe_bl)) pss_nil)
      (pss_cons (ps_if (pt_cmpR (op_ne_ref hr.units) (pe_methS (pv 3) T.cl_Days D_Days_written passesB (hr.mono (by decide)) (pa_cons (pe_fld (pv 3) rfl) (pa_cons (pe_op op_sub (pe_fld (pv 3) rfl) pe_int) pa_nil))) (pe_sset rfl (by rfl) T.b_sorted (by rfl) T.b_set (pe_lst (pa_cons pe_int (pa_cons (pe_op op_sub (pv 1) pe_int) pa_nil)))) (nomark _)) (pss_one (ps_ret pe_bl)) pss_nil)
      (pss_one (ps_ret (pe_callS D__law_good passesN (hr.mono (by decide)) rfl (pa_cons (pe_callS D__law_asked passesN (hr.mono (by decide)) rfl (pa_cons (pv 3) (pa_cons (pv 6) (pa_cons (pv 7) pa_nil)))) (pa_cons (pv 8) pa_nil))))))))) pss_nil)
      (pss_one (ps_ret (pe_cmpR (op_eq_ref hr.units) (pe_callS D__law_asked passesN (hr.mono (by decide)) rfl (pa_cons (pv 3) (pa_cons (pv 6) (pa_cons (pv 7) pa_nil)))) (pv 8) (nomark _)))))))))))))))), ?_⟩
    refine ⟨_, rfl, a, ns, 0, rfl, hS, ?_⟩
    repeat (first | refine ⟨_, rfl, ?_⟩ | refine ⟨_, _, rfl, rfl, ?_⟩ | refine ⟨(by first | decide | (dsimp only; decide) | (show 2 ≤ sizeLine; decide) | (show 1 ≤ sizeLine; decide) | (show 3 ≤ sizeLine; decide) | (show 4 ≤ sizeLine; decide)), ?_⟩ | refine ⟨.inl ⟨by first | decide | (dsimp only; decide), by first | decide | (dsimp only; decide)⟩, ?_⟩ | refine ⟨.inr ⟨by first | decide | (dsimp only; decide), by first | decide | (dsimp only; decide)⟩, ?_⟩ | refine ⟨⟨by first | decide | (dsimp only; decide), by first | decide | (dsimp only; decide)⟩, ?_⟩ | refine ⟨rfl, ?_⟩ | refine ⟨_, _, rfl, ?_⟩)
    generalize cellI ns (0 : Nat) = c0
    obtain ⟨wd, hw0, b0, b0'⟩ : ∃ wd : Nat, 1 + c0 % 40 = (wd : Int) ∧ 0 < wd ∧ wd ≤ 40 := ⟨(1 + c0 % 40).toNat, by omega, by omega, by omega⟩
    rw [show (fun i j : Int => V.int (i + j)) 1 (c0 % 40) = V.int (wd : Int) from congrArg V.int hw0]
    refine ⟨a, ns, wd, rfl, hS, hlen, by omega, fun l RL chss H1 hl1 R1 hok hcl hfr nl s1 => ?_⟩
    refine gNameA [some (.ref a), some (.int (wd : Int)), some (.ref l), none, none, none, none, none, none, none, none] ?_
    refine ⟨_, rfl, fun p dx hp hdx hne => ?_⟩
    refine ⟨p, dx, (wd : Int), rfl, upd_same, fun _ => ?_, fun h => absurd ⟨by omega, by omega⟩ h⟩
    intro ta sa tz se H2 D fr k2
    rw [show ((wd : Int)).toNat = wd by omega] at D
    refine ⟨rfl, ?_⟩
    refine gNameA [some (.ref a), some (.int (wd : Int)), some (.ref l), some (.ref p), none, none, none, none, none, none, none] ?_
    have s2 : Same H1 H2 := fun b o e => by
      have nbp := ne_of_none e hp
      refine k2 b o ?_ (by simpa using nbp)
      rw [upd_ne nbp, upd_ne (ne_of_none e hdx)]; exact e
    have hfo : ∀ b ∈ foot p ta sa [tz] [se], H1 b = none := fun b hb => by
      simp only [foot, List.mem_cons, List.mem_append, List.not_mem_nil, or_false] at hb
      have z : b = p ∨ b ∈ [ta, sa, tz, se] := by simp only [List.mem_cons, List.not_mem_nil, or_false]; grind
      rcases z with z | z
      · rw [z]; exact hp
      · exact (upd_none (upd_none (fr b z)).1).1
    have hRl : RL.length = chss.length + 1 := by rw [R1.len]; rfl
    refine ⟨_, rfl, _, rfl, l, _, rfl, SqL.of (s2 _ _ hl1), fun sl hsl => ?_⟩
    rw [cut_tail _ (by rw [List.length_map, hRl]; omega), ← List.map_drop]
    have hsl3 : upd H2 sl (.lst ((RL.drop 1).map V.ref)) sl = some (.lst ((RL.drop 1).map V.ref)) := upd_same
    have s3 : Same H2 (upd H2 sl (.lst ((RL.drop 1).map V.ref))) := Same.new hsl
    generalize upd H2 sl (.lst ((RL.drop 1).map V.ref)) = H3 at hsl3 s3 ⊢
    refine ⟨sl, rfl, ⟨_, SqL.of hsl3⟩, for_list (K := K) (a := sl) (xs := (RL.drop 1).map V.ref) (fun i σ H4 => ∃ (v4 v5 : Option V) (TL SL : List Addr) (tabs : List (List Int)), σ = [some (.ref a), some (.int (wd : Int)), some (.ref l), some (.ref p), v4, v5, none, none, none, none, none] ∧ Same H1 H4 ∧ H4 sl = some (.lst ((RL.drop 1).map V.ref)) ∧ DaysAt C_Days H4 p ta sa TL SL wd tabs ((setsOf ([] :: chss)).take (i + 1)) ∧ sl ∉ foot p ta sa TL SL ∧ (∀ b ∈ foot p ta sa TL SL, H1 b = none) ∧ tabs.length = i + 1)
      ⟨none, none, [tz], [se], _, rfl, s2.trans s3, hsl3, D.same s3, D.fresh hsl, hfo, rfl⟩ (fun i σ H4 _ ⟨_, _, _, _, _, _, _, e, _⟩ => SqL.of e) ?_ ?_⟩
    · rintro i v σ H4 hi ⟨v4, v5, TL, SL, tabs, rfl, s4, hsl4, D4, nsl, hf4, htn⟩
      rw [List.getElem?_map, Option.map_eq_some_iff] at hi
      obtain ⟨ra, hra, rfl⟩ := hi
      rw [List.getElem?_drop, Nat.add_comm] at hra
      have hil : i < chss.length := by have := (List.getElem?_eq_some_iff.mp hra).1; omega
      have ecs : chss[i]? = some chss[i] := List.getElem?_eq_getElem hil
      have hcs := hok chss[i] (List.getElem_mem hil)
      generalize chss[i] = cs at ecs hcs
      obtain ⟨L, hL1, RC1⟩ := R1.get (i + 1) ra cs hra ecs
      have hL4 := s4 _ _ hL1
      refine ⟨_, rfl, ra, L, rfl, .inl (SqL.of hL4), fun hn hhn => ?_⟩
      have s5 : Same H4 (upd H4 hn (.lst L)) := Same.new hhn
      have hhn5 : upd H4 hn (.lst L) hn = some (.lst L) := upd_same
      have nhf : hn ∉ foot p ta sa TL SL := D4.fresh hhn
      have nhs : hn ≠ sl := (ne_of_none hsl4 hhn).symm
      have nh1 : H1 hn = none := s4.free hhn
      generalize upd H4 hn (.lst L) = H5 at s5 hhn5 ⊢
      have D5 := D4.same s5
      obtain ⟨dx5, ob5⟩ := D5.ob
      have RC5 := RC1.mono fun t xs e => s5 t _ (s4 t _ e)
      have hfc := first_ok hcs
      refine ⟨_, rfl, p, dx5, _, rfl, ob5, fl_no (by decide +kernel) (by decide +kernel) (by decide +kernel) (by decide +kernel), _, rfl, p, ta, sa, hn, TL, SL, wd, _, _, L, cs, rfl, D5, hhn5, RC5, by have := hcs.1; omega, by omega, nhf, fun _ m d H6 tab etab D6 nm nd' k6 => ?_, fun x h => (by rw [hfc] at h; cases h), fun x h => (by rw [hfc] at h; cases h)⟩
      have hhn6 := k6 _ _ hhn5 nhf
      have hsl6 := k6 _ _ (s5 _ _ hsl4) nsl
      have hLl : L.length ≤ 3 := by rw [RC1.len]; exact hcs.1
      refine ⟨_, rfl, .inl ⟨rfl, _, SqL.of hhn6⟩, ?_⟩
      repeat (first | refine ⟨_, rfl, ?_⟩ | refine ⟨_, _, rfl, rfl, ?_⟩ | refine ⟨(by first | decide | (dsimp only; decide) | (show 2 ≤ sizeLine; decide) | (show 1 ≤ sizeLine; decide) | (show 3 ≤ sizeLine; decide) | (show 4 ≤ sizeLine; decide)), ?_⟩ | refine ⟨.inl ⟨by first | decide | (dsimp only; decide), by first | decide | (dsimp only; decide)⟩, ?_⟩ | refine ⟨.inr ⟨by first | decide | (dsimp only; decide), by first | decide | (dsimp only; decide)⟩, ?_⟩ | refine ⟨⟨by first | decide | (dsimp only; decide), by first | decide | (dsimp only; decide)⟩, ?_⟩ | refine ⟨rfl, ?_⟩ | refine ⟨_, _, rfl, ?_⟩)
      intro tt htt
      have nf' : ∀ b ∈ foot p ta sa (TL ++ [m]) (SL ++ [d]), H1 b = none := fun b hb => by
        have z : b ∈ foot p ta sa TL SL ∨ b = m ∨ b = d := by
          simp only [foot, List.mem_cons, List.mem_append, List.not_mem_nil, or_false] at hb ⊢; grind
        rcases z with z | z | z
        · exact hf4 b z
        · rw [z]; exact s4.free (s5.free nm)
        · rw [z]; exact s4.free (s5.free nd')
      have hnf' : hn ∉ foot p ta sa (TL ++ [m]) (SL ++ [d]) := fun hb => by
        have h1 := ne_of_none hhn5 nm
        have h2 := ne_of_none hhn5 nd'
        simp only [foot, List.mem_cons, List.mem_append, List.not_mem_nil, or_false] at hb nhf; grind
      have nsl' : sl ∉ foot p ta sa (TL ++ [m]) (SL ++ [d]) := fun hb => by
        have h1 := ne_of_none (s5 _ _ hsl4) nm
        have h2 := ne_of_none (s5 _ _ hsl4) nd'
        simp only [foot, List.mem_cons, List.mem_append, List.not_mem_nil, or_false] at hb nsl; grind
      have s7 := Same.new htt (o := HO.tup [V.int ((wd : Int) - 1), V.int 2])
      refine ⟨hn, L, _, rfl, rfl, s7 _ _ hhn6, small1000 (by omega), ?_⟩
      refine ⟨_, _, TL ++ [m], SL ++ [d], tabs ++ [nextT tab cs], rfl, fun b o e => ?_, ?_, ?_, nsl', nf', by simp [htn]⟩
      · rw [upd_ne (ne_of_none e nh1)]
        exact s7 b o (k6 b o (s5 b o (s4 b o e)) fun hb => by rw [hf4 b hb] at e; cases e)
      · rw [upd_ne nhs.symm]; exact s7 _ _ hsl6
      · rw [List.take_add_one, show (setsOf ([] :: chss))[i + 1]? = some (cs.map Prod.fst) by unfold setsOf; rw [List.getElem?_map, List.getElem?_cons_succ, ecs]; rfl]
        refine D6.mono fun b hb o e => ?_
        rw [upd_ne (show b ≠ hn from fun z => hnf' (by rw [← z]; exact hb))]
        exact s7 b o e
    rintro σ H4 ⟨v4, v5, TL, SL, tabs, rfl, s4, hsl4, D4, nsl, hf4, htn⟩
    rw [List.length_map, List.length_drop, hRl, show chss.length + 1 - 1 + 1 = chss.length + 1 by omega] at D4 htn
    rw [List.take_of_length_le (by unfold setsOf; rw [List.length_map]; exact Nat.le_refl _)] at D4
    have hsin := sets_in b0' hok
    have hls : (setsOf ([] :: chss)).length = chss.length + 1 := by unfold setsOf; rw [List.length_map]; rfl
    have hR3 : ∀ cs ∈ [] :: chss, cs.length ≤ 3 ∧ ∀ x ∈ cs, 0 ≤ x.1 ∧ x.1 < 40 := fun cs hc => by
      rcases List.mem_cons.mp hc with rfl | hc
      · exact ⟨by decide, fun x h => by cases h⟩
      · exact ⟨(hok cs hc).1, fun x hx => by have := (hok cs hc).2 x hx; omega⟩
    have hRl' : (RL.map V.ref).length = chss.length + 1 := by rw [List.length_map, hRl]
    clear D
    dsimp only
    refine ⟨_, rfl, a, ns, 1, rfl, (s1.trans s4).seq hS, _, 3, rfl, _, rfl, l, _, rfl, .inl (SqL.of (s4 _ _ hl1)), _, _, rfl, rfl, ?_⟩
    rw [hRl']
    refine ⟨mixI (cellI ns (1 : Nat)) 3, chss.length, by simp, (mix_b _ _).1, (mix_b _ _).2, fun one H5 s5 => ?_⟩
    refine gNameA [some (.ref a), some (.int (wd : Int)), some (.ref l), some (.ref p), v4, v5, some (.int one), none, none, none, none] ?_
    have s15 := s4.trans s5
    refine ⟨_, rfl, a, ns, 0, rfl, (s1.trans s15).seq hS, _, 5, rfl, _, rfl, l, _, rfl, .inl (SqL.of (s15 _ _ hl1)), _, _, rfl, rfl, ?_⟩
    rw [hRl']
    refine ⟨mixI (cellI ns (0 : Nat)) 5, chss.length, by simp, (mix_b _ _).1, (mix_b _ _).2, fun other H6 s6 => ?_⟩
    refine gNameA [some (.ref a), some (.int (wd : Int)), some (.ref l), some (.ref p), v4, v5, some (.int one), some (.int other), none, none, none] ?_
    have s16 := s15.trans s6
    have D6 := (D4.same s5).same s6
    refine ⟨_, rfl, _, rfl, _, rfl, l, RL, _, one, other, rfl, s16 _ _ hl1, R1.same s16, by simp; omega, hR3, fun t1 H7 hr1 nt1 s7 => ?_⟩
    refine gNameA [some (.ref a), some (.int (wd : Int)), some (.ref l), some (.ref p), v4, v5, some (.int one), some (.int other), some (.ref t1), none, none] ?_
    have D7 := D6.same s7
    have s17 := s16.trans s7
    refine ⟨_, rfl, _, rfl, _, rfl, p, ta, sa, TL, SL, wd, tabs, _, one, other, rfl, D7, hsin, by omega, fun t2 H8 hr2 nt2 s8 => ?_⟩
    refine gNameA [some (.ref a), some (.int (wd : Int)), some (.ref l), some (.ref p), v4, v5, some (.int one), some (.int other), some (.ref t1), some (.ref t2), none] ?_
    have D8 := D7.same s8
    have s18 := s17.trans s8
    have hr18 := hr1.same fun o e => s8 _ o e
    have n12 : t1 ≠ t2 := by
      rcases hr1 with ⟨_, ns', h, _⟩ | ⟨d, _, h⟩ <;> exact ne_of_none h nt2
    have t2f : t2 ∉ foot p ta sa TL SL := D7.fresh nt2
    have t1f : t1 ∉ foot p ta sa TL SL := D6.fresh nt1
    dsimp only
    refine seq_ifP (fun H' => H8 = H') (fun Qb hq => ?_) (fun _ e => ?_)
    · exact ⟨_, rfl, _, rfl, t2, t1, _, one, other, rfl, hr2, hr18, _, rfl, hq _ rfl⟩
    subst e
    refine seq_ifP (fun H' => Same H8 H') (fun Qb hq => ?_) (fun H9 s9 => ?_)
    · refine ⟨_, rfl, _, rfl, _, rfl, p, ta, sa, TL, SL, wd, tabs, _, other, one, rfl, D8, hsin, by omega, fun u1 Ha hu1 nu1 sa' => ?_⟩
      have s1a := s18.trans sa'
      refine ⟨_, rfl, _, rfl, _, rfl, l, RL, _, other, one, rfl, s1a _ _ hl1, R1.same s1a, by simp; omega, hR3, fun u2 Hb hu2 nu2 sb => ?_⟩
      exact ⟨u1, u2, _, other, one, rfl, hu1.same (fun o e => sb _ o e), hu2, _, rfl, hq _ (sa'.trans sb)⟩
    have D9 := D8.same s9
    have s19 := s18.trans s9
    refine ⟨_, rfl, _, rfl, (by show 2 ≤ sizeLine; decide), fun dl hdl => ?_⟩
    have s10 : Same H9 (upd H9 dl (.lst [V.int one, V.int other])) := Same.new hdl
    have hdl10 : upd H9 dl (.lst [V.int one, V.int other]) dl = some (.lst [V.int one, V.int other]) := upd_same
    generalize upd H9 dl (.lst [V.int one, V.int other]) = H10 at s10 hdl10 ⊢
    refine ⟨dl, rfl, ⟨_, SqL.of hdl10⟩, for_list (K := K) (a := dl) (xs := [V.int one, V.int other]) (fun i σ Ha => ∃ v10 : Option V, σ = [some (.ref a), some (.int (wd : Int)), some (.ref l), some (.ref p), v4, v5, some (.int one), some (.int other), some (.ref t1), some (.ref t2), v10] ∧ Same H10 Ha) ⟨none, rfl, Same.refl _⟩ (fun i σ Ha _ ⟨_, _, e⟩ => SqL.of (e _ _ hdl10)) ?_ ?_⟩
    · rintro i v σ Ha hi ⟨v10, rfl, sa'⟩
      obtain ⟨x, rfl⟩ : ∃ x : Int, v = .int x := by
        match i, hi with
        | 0, hi => exact ⟨one, by simpa using hi.symm⟩
        | 1, hi => exact ⟨other, by simpa using hi.symm⟩
        | i + 2, hi => simp at hi
      refine ⟨_, rfl, _, rfl, p, ta, sa, TL, SL, wd, tabs, _, x, rfl, (D9.same s10).same sa', fun Hb sb => ?_⟩
      have s1b := ((s19.trans s10).trans sa').trans sb
      refine ⟨_, rfl, _, _, rfl, rfl, _, rfl, ?_⟩
      by_cases h0 : 0 ≤ x
      · refine iteY h0 ⟨_, rfl, l, _, rfl, .inl (SqL.of (s1b _ _ hl1)), _, _, rfl, rfl, rfl, _, rfl, ?_⟩
        rw [hRl', htn]
        refine iteBF ?_ ⟨_, rfl, sa'.trans sb⟩
        refine decide_eq_false fun h => ?_
        have h := V.bl.inj h
        by_cases h1 : x < ((chss.length + 1 : Nat) : Int)
        · rw [decide_eq_true (show 0 ≤ x ∧ x < ((chss.length + 1 : Nat) : Int) from ⟨h0, h1⟩), decide_eq_true h1] at h; cases h
        · rw [decide_eq_false (show ¬ (0 ≤ x ∧ x < ((chss.length + 1 : Nat) : Int)) from fun h => h1 h.2), decide_eq_false h1] at h; cases h
      · refine iteN h0 ⟨rfl, _, rfl, ?_⟩
        refine iteBF ?_ ⟨_, rfl, sa'.trans sb⟩
        rw [decide_eq_false (show ¬ (0 ≤ x ∧ x < (tabs.length : Int)) from fun h => h0 h.1)]; rfl
    rintro σ H11 ⟨v10, rfl, s11⟩
    have s9' := (s9.trans s10).trans s11
    have D11 := D8.same s9'
    have s111 := s18.trans s9'
    have hr1' := hr18.same fun o e => s9' _ o e
    have hr2' := hr2.same fun o e => s9' _ o e
    dsimp only
    rcases hr2' with ⟨⟨ho1, ho2⟩, ns2, h2, hpw2, hm2⟩ | ⟨d, hd, h2⟩
    · refine ⟨_, rfl, _, _, _, _, true, rfl, rfl, .lst h2, rfl, _, rfl, iteT ?_⟩
      refine ⟨_, rfl, .inl ⟨rfl, _, SqL.of h2⟩, t2, _, rfl, rfl, h2, ?_⟩
      have D12 : DaysAt C_Days (upd H11 t2 (.lst [])) p ta sa TL SL wd tabs (setsOf ([] :: chss)) := D11.mono fun b hb o e => by
        rw [upd_ne (show b ≠ t2 from fun z => t2f (by rw [← z]; exact hb))]; exact e
      have hr12 : ResAt (upd H11 t2 (.lst [])) t1 (setsOf ([] :: chss)) one other := hr1'.same fun o e => by rw [upd_ne n12]; exact e
      generalize upd H11 t2 (.lst []) = H12 at D12 hr12 ⊢
      obtain ⟨dx12, ob12⟩ := D12.ob
      refine ⟨_, rfl, p, dx12, _, rfl, ob12, fl_no (by decide +kernel) (by decide +kernel) (by decide +kernel) (by decide +kernel), ?_⟩
      repeat (first | refine ⟨_, rfl, ?_⟩ | refine ⟨_, _, rfl, rfl, ?_⟩ | refine ⟨(by first | decide | (dsimp only; decide) | (show 2 ≤ sizeLine; decide) | (show 1 ≤ sizeLine; decide) | (show 3 ≤ sizeLine; decide) | (show 4 ≤ sizeLine; decide)), ?_⟩ | refine ⟨.inl ⟨by first | decide | (dsimp only; decide), by first | decide | (dsimp only; decide)⟩, ?_⟩ | refine ⟨.inr ⟨by first | decide | (dsimp only; decide), by first | decide | (dsimp only; decide)⟩, ?_⟩ | refine ⟨⟨by first | decide | (dsimp only; decide), by first | decide | (dsimp only; decide)⟩, ?_⟩ | refine ⟨rfl, ?_⟩ | refine ⟨_, _, rfl, ?_⟩)
      intro q1 n1
      repeat (first | refine ⟨_, rfl, ?_⟩ | refine ⟨_, _, rfl, rfl, ?_⟩ | refine ⟨(by first | decide | (dsimp only; decide) | (show 2 ≤ sizeLine; decide) | (show 1 ≤ sizeLine; decide) | (show 3 ≤ sizeLine; decide) | (show 4 ≤ sizeLine; decide)), ?_⟩ | refine ⟨.inl ⟨by first | decide | (dsimp only; decide), by first | decide | (dsimp only; decide)⟩, ?_⟩ | refine ⟨.inr ⟨by first | decide | (dsimp only; decide), by first | decide | (dsimp only; decide)⟩, ?_⟩ | refine ⟨⟨by first | decide | (dsimp only; decide), by first | decide | (dsimp only; decide)⟩, ?_⟩ | refine ⟨rfl, ?_⟩ | refine ⟨_, _, rfl, ?_⟩)
      intro q2 n2
      repeat (first | refine ⟨_, rfl, ?_⟩ | refine ⟨_, _, rfl, rfl, ?_⟩ | refine ⟨(by first | decide | (dsimp only; decide) | (show 2 ≤ sizeLine; decide) | (show 1 ≤ sizeLine; decide) | (show 3 ≤ sizeLine; decide) | (show 4 ≤ sizeLine; decide)), ?_⟩ | refine ⟨.inl ⟨by first | decide | (dsimp only; decide), by first | decide | (dsimp only; decide)⟩, ?_⟩ | refine ⟨.inr ⟨by first | decide | (dsimp only; decide), by first | decide | (dsimp only; decide)⟩, ?_⟩ | refine ⟨⟨by first | decide | (dsimp only; decide), by first | decide | (dsimp only; decide)⟩, ?_⟩ | refine ⟨rfl, ?_⟩ | refine ⟨_, _, rfl, ?_⟩)
      intro lc hlc
      have s13 : Same H12 (upd (upd (upd H12 q1 (HO.tup [V.int 0, V.int 1])) q2 (HO.tup [V.int ((wd : Int) - 1), V.int 4])) lc (HO.lst [V.ref q1, V.ref q2])) := ((Same.new n1).trans (Same.new n2)).trans (Same.new hlc)
      have nlc : H12 lc = none := ((Same.new n1).trans (Same.new n2)).free hlc
      have hfb : firstBad wd [(0, 1), ((wd : Int) - 1, 4)] = none := by
        unfold firstBad
        rw [List.findSome?_eq_none_iff]
        intro c hc
        simp only [List.mem_cons, List.not_mem_nil, or_false] at hc
        rcases hc with rfl | rfl
        · unfold badC; rw [if_neg (by dsimp only; omega), if_neg (by dsimp only; omega)]
        · unfold badC; rw [if_neg (by dsimp only; omega), if_neg (by dsimp only; omega)]
      refine ⟨p, ta, sa, lc, TL, SL, wd, _, _, _, [(0, 1), ((wd : Int) - 1, 4)], rfl, D12.same s13, upd_same, ((ChAt.nil.snoc (t := q1) (r := (0, 1)) ?_).snoc (t := q2) (r := ((wd : Int) - 1, 4)) ?_), by simp, by omega, D12.fresh nlc, fun _ => ?_, fun x hb => (by rw [hfb] at hb; cases hb), fun x hb => (by rw [hfb] at hb; cases hb)⟩
      · exact Same.new hlc _ _ (Same.new n2 _ _ upd_same)
      · exact Same.new hlc _ _ upd_same
      intro m d H14 tab etab D14 nm nd' k14
      have hr14 : ResAt H14 t1 (setsOf ([] :: chss)) one other := hr12.same fun o e => k14 _ _ (s13 _ _ e) t1f
      have hsin' : SetsIn wd (setsOf ([] :: chss) ++ [[(0 : Int), (wd : Int) - 1]]) := ⟨b0', fun xs h => by
        rcases List.mem_append.mp h with h | h
        · exact hsin.day xs h
        · have : xs = [(0 : Int), (wd : Int) - 1] := by simpa using h
          rw [this]
          exact ⟨by simp, fun x hx => by simp at hx; omega⟩⟩
      have D14 : DaysAt C_Days H14 p ta sa (TL ++ [m]) (SL ++ [d]) wd (tabs ++ [nextT tab [(0, 1), ((wd : Int) - 1, 4)]]) (setsOf ([] :: chss) ++ [[(0 : Int), (wd : Int) - 1]]) := D14
      have htn' : (tabs ++ [nextT tab [(0, 1), ((wd : Int) - 1, 4)]]).length = chss.length + 2 := by simp [htn]
      have hls' : (setsOf ([] :: chss) ++ [[(0 : Int), (wd : Int) - 1]]).length = chss.length + 2 := by simp [hls]
      generalize hss : setsOf ([] :: chss) = sets at *
      generalize tabs ++ [nextT tab [(0, 1), ((wd : Int) - 1, 4)]] = tabs' at D14 htn'
      dsimp only
      refine seq_ifP (fun H' => Same H14 H') (fun Qb hq => ?_) (fun H15 s15' => ?_)
      · refine ⟨_, rfl, _, rfl, _, rfl, p, ta, sa, _, _, wd, _, _, one, one, rfl, D14, hsin', by omega, fun u Ha hu nu sa' => ?_⟩
        refine ⟨Nat.zero_le _, fun e he => ?_⟩
        have se' := Same.new he (o := HO.lst [])
        rcases hu with ⟨_, nsu, hu1, _, hmu⟩ | ⟨d', hd', _⟩
        · have : nsu = [] := by
            cases nsu with
            | nil => rfl
            | cons k ks =>
              obtain ⟨d', xs, e1, e2, e3, e4⟩ := (hmu k).mp (by simp)
              omega
          subst this
          exact ⟨0, true, by decide, SeqEq.sameL (SqL.of (se' _ _ hu1)) (SqL.of upd_same) (fun x hx => by cases hx), _, rfl, hq _ (sa'.trans se')⟩
        · exfalso; unfold badDay at hd'; rw [hls'] at hd'; rw [hls] at ho1; omega
      have D15 := D14.same s15'
      obtain ⟨dx15, ob15⟩ := D15.ob
      rw [htn'] at ob15
      refine seq_ifP (fun H' => Same H15 H') (fun Qb hq => ?_) (fun H16 s16' => ?_)
      · refine ⟨_, rfl, p, dx15, _, rfl, ob15, fl_no (by decide +kernel) (by decide +kernel) (by decide +kernel) (by decide +kernel), _, rfl, p, C_Days, dx15, _, _, rfl, ob15, T.cl_Days, T.n_Days_last, fl_last, _, rfl, p, C_Days, dx15, _, _, rfl, ob15, T.cl_Days, T.n_Days_last, fl_last, _, _, rfl, rfl, ?_⟩
        refine ⟨p, ta, sa, _, _, wd, _, _, ((chss.length + 2 : Nat) : Int) - 1, ((chss.length + 2 : Nat) : Int) - 1 - 1, rfl, D15, hsin', by omega, fun _ _ r' ns' Ha hr' nr' hp' hm' sa' => ?_, fun d h => by omega⟩
        have hns : ∀ k, k ∈ ns' ↔ k ∈ [(0 : Int), (wd : Int) - 1] := fun k => by
          rw [hm' k]
          have hat : (sets ++ [[(0 : Int), (wd : Int) - 1]])[chss.length + 1]? = some [(0 : Int), (wd : Int) - 1] := by
            rw [List.getElem?_append_right (by omega), hls]; simp
          constructor
          · rintro ⟨d', xs, e1, e2, e3, e4⟩
            have : d' = chss.length + 1 := by omega
            rw [this, hat] at e3
            cases e3; exact e4
          · intro h
            exact ⟨chss.length + 1, _, by omega, by omega, hat, h⟩
        refine ⟨_, rfl, _, _, rfl, rfl, (by show 2 ≤ sizeLine; decide), fun D' hD' => ?_⟩
        refine ⟨D', [(0 : Int), (wd : Int) - 1], rfl, SqL.of upd_same, few63 b0' (fun x hx => by simp at hx; omega), fun r2 ns3 nr2 hp2 hm2' => ?_⟩
        have : ns3 = ns' := ord_eq hp2 hp' fun k => by rw [hm2' k, hns k]
        subst this
        have sz := (Same.new hD' (o := HO.lst [V.int 0, V.int ((wd : Int) - 1)])).trans (Same.new nr2 (o := .lst (ns3.map V.int)))
        exact ⟨0, true, by decide, SeqEq.sameL (SqL.of (sz _ _ hr')) (SqL.of upd_same) (fun x hx => by obtain ⟨z, _, rfl⟩ := List.mem_map.mp hx; exact eqI_int z), _, rfl, hq _ (sa'.trans sz)⟩
      refine ⟨_, rfl, _, rfl, _, rfl, p, ta, sa, _, _, wd, _, _, one, other, rfl, D15.same s16', hsin', by omega, fun u Ha hu nu sa' => ?_⟩
      refine ⟨_, rfl, u, t1, sets, one, other, rfl, hu.less ho1 ho2, hr14.same (fun o e => sa' _ _ (s16' _ _ (s15' _ _ e))), q _⟩
    · refine ⟨_, rfl, _, _, _, _, false, rfl, rfl, .tup h2, (by with_unfolding_all rfl), _, rfl, iteF ?_⟩
      refine ⟨_, rfl, _, rfl, _, rfl, p, ta, sa, TL, SL, wd, tabs, _, one, other, rfl, D11, hsin, by omega, fun u Ha hu nu sa' => ?_⟩
      exact ⟨_, rfl, 0, true, by decide, res_eq hu (hr1'.same fun o e => sa' _ o e), q _⟩
end
theorem all_mk {l : PySem.W.OpenLaw} {w : World} {K : PySem.W.Frag} {h : Heap} {mg : Str → Option Value} {fa : Addr} (X : K.In h) (G : h.Ns mainGlobals mg) (hfa : mg "law" = some (.ref fa))
    {t_W : Tok} (g_W : PySem.W.nsIn K mainGlobals "W" = some (some (.int 18446744073709551615 t_W)))
    {t_MOST_BLOCKS : Tok} (g_MOST_BLOCKS : PySem.W.nsIn K mainGlobals "MOST_BLOCKS" = some (some (.int 40 t_MOST_BLOCKS)))
    {C_KeepError : Addr} (a_KeepError : PySem.W.nsIn K mainGlobals "KeepError" = some (some (.ref C_KeepError)))
    {C_NoTable : Addr} (a_NoTable : PySem.W.nsIn K mainGlobals "NoTable" = some (some (.ref C_NoTable)))
    {C_NoPlace : Addr} (a_NoPlace : PySem.W.nsIn K mainGlobals "NoPlace" = some (some (.ref C_NoPlace)))
    {C_NoBlock : Addr} (a_NoBlock : PySem.W.nsIn K mainGlobals "NoBlock" = some (some (.ref C_NoBlock)))
    {C_NoDay : Addr} (a_NoDay : PySem.W.nsIn K mainGlobals "NoDay" = some (some (.ref C_NoDay)))
    {C_NoBase : Addr} (a_NoBase : PySem.W.nsIn K mainGlobals "NoBase" = some (some (.ref C_NoBase)))
    {C_Days : Addr} (a_Days : PySem.W.nsIn K mainGlobals "Days" = some (some (.ref C_Days)))
    (clg : PySem.W.specialIn K (.builtin "object.__class__") "__get__" = some (some (.builtin "getset_descriptor.__get__"))) (clt : PySem.W.takesIn K (.builtin "object.__class__") = some true)
    (xo_KeepError : xobjIn K C_KeepError = true) (xs_KeepError : PySem.W.findIn K (.ref C_KeepError) "__setattr__" = some (some (.builtin "object.__setattr__"))) (xg_KeepError : PySem.W.findIn K (.ref C_KeepError) "__getattribute__" = some (some (.builtin "BaseException.__getattribute__"))) (xh_KeepError : PySem.W.findIn K (.ref C_KeepError) "__getattr__" = some none) (xc_KeepError : PySem.W.findIn K (.ref C_KeepError) "__class__" = some (some (.builtin "object.__class__"))) (kc_KeepError : PySem.W.keepIn K (.ref C_KeepError) = true)
    (xo_NoTable : xobjIn K C_NoTable = true) (xs_NoTable : PySem.W.findIn K (.ref C_NoTable) "__setattr__" = some (some (.builtin "object.__setattr__"))) (xg_NoTable : PySem.W.findIn K (.ref C_NoTable) "__getattribute__" = some (some (.builtin "BaseException.__getattribute__"))) (xh_NoTable : PySem.W.findIn K (.ref C_NoTable) "__getattr__" = some none) (xc_NoTable : PySem.W.findIn K (.ref C_NoTable) "__class__" = some (some (.builtin "object.__class__"))) (kc_NoTable : PySem.W.keepIn K (.ref C_NoTable) = true)
    (n_NoTable_wide : PySem.W.findIn K (.ref C_NoTable) "wide" = some none)
    (xo_NoPlace : xobjIn K C_NoPlace = true) (xs_NoPlace : PySem.W.findIn K (.ref C_NoPlace) "__setattr__" = some (some (.builtin "object.__setattr__"))) (xg_NoPlace : PySem.W.findIn K (.ref C_NoPlace) "__getattribute__" = some (some (.builtin "BaseException.__getattribute__"))) (xh_NoPlace : PySem.W.findIn K (.ref C_NoPlace) "__getattr__" = some none) (xc_NoPlace : PySem.W.findIn K (.ref C_NoPlace) "__class__" = some (some (.builtin "object.__class__"))) (kc_NoPlace : PySem.W.keepIn K (.ref C_NoPlace) = true)
    (n_NoPlace_place : PySem.W.findIn K (.ref C_NoPlace) "place" = some none)
    (xo_NoBlock : xobjIn K C_NoBlock = true) (xs_NoBlock : PySem.W.findIn K (.ref C_NoBlock) "__setattr__" = some (some (.builtin "object.__setattr__"))) (xg_NoBlock : PySem.W.findIn K (.ref C_NoBlock) "__getattribute__" = some (some (.builtin "BaseException.__getattribute__"))) (xh_NoBlock : PySem.W.findIn K (.ref C_NoBlock) "__getattr__" = some none) (xc_NoBlock : PySem.W.findIn K (.ref C_NoBlock) "__class__" = some (some (.builtin "object.__class__"))) (kc_NoBlock : PySem.W.keepIn K (.ref C_NoBlock) = true)
    (n_NoBlock_block : PySem.W.findIn K (.ref C_NoBlock) "block" = some none)
    (xo_NoDay : xobjIn K C_NoDay = true) (xs_NoDay : PySem.W.findIn K (.ref C_NoDay) "__setattr__" = some (some (.builtin "object.__setattr__"))) (xg_NoDay : PySem.W.findIn K (.ref C_NoDay) "__getattribute__" = some (some (.builtin "BaseException.__getattribute__"))) (xh_NoDay : PySem.W.findIn K (.ref C_NoDay) "__getattr__" = some none) (xc_NoDay : PySem.W.findIn K (.ref C_NoDay) "__class__" = some (some (.builtin "object.__class__"))) (kc_NoDay : PySem.W.keepIn K (.ref C_NoDay) = true)
    (n_NoDay_day : PySem.W.findIn K (.ref C_NoDay) "day" = some none)
    (xo_NoBase : xobjIn K C_NoBase = true) (xs_NoBase : PySem.W.findIn K (.ref C_NoBase) "__setattr__" = some (some (.builtin "object.__setattr__"))) (xg_NoBase : PySem.W.findIn K (.ref C_NoBase) "__getattribute__" = some (some (.builtin "BaseException.__getattribute__"))) (xh_NoBase : PySem.W.findIn K (.ref C_NoBase) "__getattr__" = some none) (xc_NoBase : PySem.W.findIn K (.ref C_NoBase) "__class__" = some (some (.builtin "object.__class__"))) (kc_NoBase : PySem.W.keepIn K (.ref C_NoBase) = true)
    (n_NoBase_base : PySem.W.findIn K (.ref C_NoBase) "base" = some none)
    (n_NoBase_day : PySem.W.findIn K (.ref C_NoBase) "day" = some none)
    (pg_Days : PySem.W.plainGet K C_Days Str.empty = true) (hd_Days : PySem.W.hasDictIn K C_Days = true) (po_Days : PySem.W.plainOver K C_Days = true) (sa_Days : PySem.W.findIn K (.ref C_Days) "__setattr__" = some (some (.builtin "object.__setattr__"))) (mk_Days : PySem.W.makesIn K C_Days = true) (kc_Days : PySem.W.keepIn K (.ref C_Days) = true)
    (n_Days_wide : PySem.W.findIn K (.ref C_Days) "wide" = some none)
    (n_Days_last : PySem.W.findIn K (.ref C_Days) "last" = some none)
    (n_Days_tables : PySem.W.findIn K (.ref C_Days) "tables" = some none)
    (n_Days_set_places : PySem.W.findIn K (.ref C_Days) "set_places" = some none)
    {f_NoTable___init__ : Addr} {od_NoTable___init__ an_NoTable___init__ : Option Addr} {sl_NoTable___init__ : Array (Option Value)} {oc_NoTable___init__ kV_NoTable___init__ dc_NoTable___init__ pm_NoTable___init__ cd_NoTable___init__ ct_NoTable___init__ : Value}
    (a_NoTable___init__ : PySem.W.findIn K (.ref C_NoTable) "__init__" = some (some (.ref f_NoTable___init__))) (i_NoTable___init__ : PySem.W.isFn K (.ref f_NoTable___init__) = true)
    (l_NoTable___init__ : K.lookup f_NoTable___init__ = some ⟨oc_NoTable___init__, od_NoTable___init__, .func (PySem.W.fnOf "__init__" "NoTable.__init__" (defArgs s_NoTable___init__) (defBody s_NoTable___init__) (defScope s_NoTable___init__) .none kV_NoTable___init__ dc_NoTable___init__ pm_NoTable___init__ an_NoTable___init__ cd_NoTable___init__ ct_NoTable___init__), sl_NoTable___init__⟩) (c_NoTable___init__ : PySem.W.codeIn K cd_NoTable___init__ "NoTable.__init__" = true) (k_NoTable___init__ : PySem.W.keepIn K (.ref f_NoTable___init__) = true)
    {f_NoPlace___init__ : Addr} {od_NoPlace___init__ an_NoPlace___init__ : Option Addr} {sl_NoPlace___init__ : Array (Option Value)} {oc_NoPlace___init__ kV_NoPlace___init__ dc_NoPlace___init__ pm_NoPlace___init__ cd_NoPlace___init__ ct_NoPlace___init__ : Value}
    (a_NoPlace___init__ : PySem.W.findIn K (.ref C_NoPlace) "__init__" = some (some (.ref f_NoPlace___init__))) (i_NoPlace___init__ : PySem.W.isFn K (.ref f_NoPlace___init__) = true)
    (l_NoPlace___init__ : K.lookup f_NoPlace___init__ = some ⟨oc_NoPlace___init__, od_NoPlace___init__, .func (PySem.W.fnOf "__init__" "NoPlace.__init__" (defArgs s_NoPlace___init__) (defBody s_NoPlace___init__) (defScope s_NoPlace___init__) .none kV_NoPlace___init__ dc_NoPlace___init__ pm_NoPlace___init__ an_NoPlace___init__ cd_NoPlace___init__ ct_NoPlace___init__), sl_NoPlace___init__⟩) (c_NoPlace___init__ : PySem.W.codeIn K cd_NoPlace___init__ "NoPlace.__init__" = true) (k_NoPlace___init__ : PySem.W.keepIn K (.ref f_NoPlace___init__) = true)
    {f_NoBlock___init__ : Addr} {od_NoBlock___init__ an_NoBlock___init__ : Option Addr} {sl_NoBlock___init__ : Array (Option Value)} {oc_NoBlock___init__ kV_NoBlock___init__ dc_NoBlock___init__ pm_NoBlock___init__ cd_NoBlock___init__ ct_NoBlock___init__ : Value}
    (a_NoBlock___init__ : PySem.W.findIn K (.ref C_NoBlock) "__init__" = some (some (.ref f_NoBlock___init__))) (i_NoBlock___init__ : PySem.W.isFn K (.ref f_NoBlock___init__) = true)
    (l_NoBlock___init__ : K.lookup f_NoBlock___init__ = some ⟨oc_NoBlock___init__, od_NoBlock___init__, .func (PySem.W.fnOf "__init__" "NoBlock.__init__" (defArgs s_NoBlock___init__) (defBody s_NoBlock___init__) (defScope s_NoBlock___init__) .none kV_NoBlock___init__ dc_NoBlock___init__ pm_NoBlock___init__ an_NoBlock___init__ cd_NoBlock___init__ ct_NoBlock___init__), sl_NoBlock___init__⟩) (c_NoBlock___init__ : PySem.W.codeIn K cd_NoBlock___init__ "NoBlock.__init__" = true) (k_NoBlock___init__ : PySem.W.keepIn K (.ref f_NoBlock___init__) = true)
    {f_NoDay___init__ : Addr} {od_NoDay___init__ an_NoDay___init__ : Option Addr} {sl_NoDay___init__ : Array (Option Value)} {oc_NoDay___init__ kV_NoDay___init__ dc_NoDay___init__ pm_NoDay___init__ cd_NoDay___init__ ct_NoDay___init__ : Value}
    (a_NoDay___init__ : PySem.W.findIn K (.ref C_NoDay) "__init__" = some (some (.ref f_NoDay___init__))) (i_NoDay___init__ : PySem.W.isFn K (.ref f_NoDay___init__) = true)
    (l_NoDay___init__ : K.lookup f_NoDay___init__ = some ⟨oc_NoDay___init__, od_NoDay___init__, .func (PySem.W.fnOf "__init__" "NoDay.__init__" (defArgs s_NoDay___init__) (defBody s_NoDay___init__) (defScope s_NoDay___init__) .none kV_NoDay___init__ dc_NoDay___init__ pm_NoDay___init__ an_NoDay___init__ cd_NoDay___init__ ct_NoDay___init__), sl_NoDay___init__⟩) (c_NoDay___init__ : PySem.W.codeIn K cd_NoDay___init__ "NoDay.__init__" = true) (k_NoDay___init__ : PySem.W.keepIn K (.ref f_NoDay___init__) = true)
    {f_NoBase___init__ : Addr} {od_NoBase___init__ an_NoBase___init__ : Option Addr} {sl_NoBase___init__ : Array (Option Value)} {oc_NoBase___init__ kV_NoBase___init__ dc_NoBase___init__ pm_NoBase___init__ cd_NoBase___init__ ct_NoBase___init__ : Value}
    (a_NoBase___init__ : PySem.W.findIn K (.ref C_NoBase) "__init__" = some (some (.ref f_NoBase___init__))) (i_NoBase___init__ : PySem.W.isFn K (.ref f_NoBase___init__) = true)
    (l_NoBase___init__ : K.lookup f_NoBase___init__ = some ⟨oc_NoBase___init__, od_NoBase___init__, .func (PySem.W.fnOf "__init__" "NoBase.__init__" (defArgs s_NoBase___init__) (defBody s_NoBase___init__) (defScope s_NoBase___init__) .none kV_NoBase___init__ dc_NoBase___init__ pm_NoBase___init__ an_NoBase___init__ cd_NoBase___init__ ct_NoBase___init__), sl_NoBase___init__⟩) (c_NoBase___init__ : PySem.W.codeIn K cd_NoBase___init__ "NoBase.__init__" = true) (k_NoBase___init__ : PySem.W.keepIn K (.ref f_NoBase___init__) = true)
    {f_Days___init__ : Addr} {od_Days___init__ an_Days___init__ : Option Addr} {sl_Days___init__ : Array (Option Value)} {oc_Days___init__ kV_Days___init__ dc_Days___init__ pm_Days___init__ cd_Days___init__ ct_Days___init__ : Value}
    (a_Days___init__ : PySem.W.findIn K (.ref C_Days) "__init__" = some (some (.ref f_Days___init__))) (i_Days___init__ : PySem.W.isFn K (.ref f_Days___init__) = true)
    (l_Days___init__ : K.lookup f_Days___init__ = some ⟨oc_Days___init__, od_Days___init__, .func (PySem.W.fnOf "__init__" "Days.__init__" (defArgs s_Days___init__) (defBody s_Days___init__) (defScope s_Days___init__) .none kV_Days___init__ dc_Days___init__ pm_Days___init__ an_Days___init__ cd_Days___init__ ct_Days___init__), sl_Days___init__⟩) (c_Days___init__ : PySem.W.codeIn K cd_Days___init__ "Days.__init__" = true) (k_Days___init__ : PySem.W.keepIn K (.ref f_Days___init__) = true)
    {f_Days_passes : Addr} {od_Days_passes an_Days_passes : Option Addr} {sl_Days_passes : Array (Option Value)} {oc_Days_passes kV_Days_passes dc_Days_passes pm_Days_passes cd_Days_passes ct_Days_passes : Value}
    (a_Days_passes : PySem.W.findIn K (.ref C_Days) "passes" = some (some (.ref f_Days_passes))) (i_Days_passes : PySem.W.isFn K (.ref f_Days_passes) = true)
    (l_Days_passes : K.lookup f_Days_passes = some ⟨oc_Days_passes, od_Days_passes, .func (PySem.W.fnOf "passes" "Days.passes" (defArgs s_Days_passes) (defBody s_Days_passes) (defScope s_Days_passes) .none kV_Days_passes dc_Days_passes pm_Days_passes an_Days_passes cd_Days_passes ct_Days_passes), sl_Days_passes⟩) (c_Days_passes : PySem.W.codeIn K cd_Days_passes "Days.passes" = true) (k_Days_passes : PySem.W.keepIn K (.ref f_Days_passes) = true)
    {f_Days_table : Addr} {od_Days_table an_Days_table : Option Addr} {sl_Days_table : Array (Option Value)} {oc_Days_table kV_Days_table dc_Days_table pm_Days_table cd_Days_table ct_Days_table : Value}
    (a_Days_table : PySem.W.findIn K (.ref C_Days) "table" = some (some (.ref f_Days_table))) (i_Days_table : PySem.W.isFn K (.ref f_Days_table) = true)
    (l_Days_table : K.lookup f_Days_table = some ⟨oc_Days_table, od_Days_table, .func (PySem.W.fnOf "table" "Days.table" (defArgs s_Days_table) (defBody s_Days_table) (defScope s_Days_table) .none kV_Days_table dc_Days_table pm_Days_table an_Days_table cd_Days_table ct_Days_table), sl_Days_table⟩) (c_Days_table : PySem.W.codeIn K cd_Days_table "Days.table" = true) (k_Days_table : PySem.W.keepIn K (.ref f_Days_table) = true)
    {f_Days_written : Addr} {od_Days_written an_Days_written : Option Addr} {sl_Days_written : Array (Option Value)} {oc_Days_written kV_Days_written dc_Days_written pm_Days_written cd_Days_written ct_Days_written : Value}
    (a_Days_written : PySem.W.findIn K (.ref C_Days) "written" = some (some (.ref f_Days_written))) (i_Days_written : PySem.W.isFn K (.ref f_Days_written) = true)
    (l_Days_written : K.lookup f_Days_written = some ⟨oc_Days_written, od_Days_written, .func (PySem.W.fnOf "written" "Days.written" (defArgs s_Days_written) (defBody s_Days_written) (defScope s_Days_written) .none kV_Days_written dc_Days_written pm_Days_written an_Days_written cd_Days_written ct_Days_written), sl_Days_written⟩) (c_Days_written : PySem.W.codeIn K cd_Days_written "Days.written" = true) (k_Days_written : PySem.W.keepIn K (.ref f_Days_written) = true)
    {f_Days_ask_change : Addr} {od_Days_ask_change an_Days_ask_change : Option Addr} {sl_Days_ask_change : Array (Option Value)} {oc_Days_ask_change kV_Days_ask_change dc_Days_ask_change pm_Days_ask_change cd_Days_ask_change ct_Days_ask_change : Value}
    (a_Days_ask_change : PySem.W.findIn K (.ref C_Days) "ask_change" = some (some (.ref f_Days_ask_change))) (i_Days_ask_change : PySem.W.isFn K (.ref f_Days_ask_change) = true)
    (l_Days_ask_change : K.lookup f_Days_ask_change = some ⟨oc_Days_ask_change, od_Days_ask_change, .func (PySem.W.fnOf "ask_change" "Days.ask_change" (defArgs s_Days_ask_change) (defBody s_Days_ask_change) (defScope s_Days_ask_change) .none kV_Days_ask_change dc_Days_ask_change pm_Days_ask_change an_Days_ask_change cd_Days_ask_change ct_Days_ask_change), sl_Days_ask_change⟩) (c_Days_ask_change : PySem.W.codeIn K cd_Days_ask_change "Days.ask_change" = true) (k_Days_ask_change : PySem.W.keepIn K (.ref f_Days_ask_change) = true)
    {f_Days_ask_day : Addr} {od_Days_ask_day an_Days_ask_day : Option Addr} {sl_Days_ask_day : Array (Option Value)} {oc_Days_ask_day kV_Days_ask_day dc_Days_ask_day pm_Days_ask_day cd_Days_ask_day ct_Days_ask_day : Value}
    (a_Days_ask_day : PySem.W.findIn K (.ref C_Days) "ask_day" = some (some (.ref f_Days_ask_day))) (i_Days_ask_day : PySem.W.isFn K (.ref f_Days_ask_day) = true)
    (l_Days_ask_day : K.lookup f_Days_ask_day = some ⟨oc_Days_ask_day, od_Days_ask_day, .func (PySem.W.fnOf "ask_day" "Days.ask_day" (defArgs s_Days_ask_day) (defBody s_Days_ask_day) (defScope s_Days_ask_day) .none kV_Days_ask_day dc_Days_ask_day pm_Days_ask_day an_Days_ask_day cd_Days_ask_day ct_Days_ask_day), sl_Days_ask_day⟩) (c_Days_ask_day : PySem.W.codeIn K cd_Days_ask_day "Days.ask_day" = true) (k_Days_ask_day : PySem.W.keepIn K (.ref f_Days_ask_day) = true)
    {f_ask_wide : Addr} {od_ask_wide an_ask_wide : Option Addr} {sl_ask_wide : Array (Option Value)} {oc_ask_wide kV_ask_wide dc_ask_wide pm_ask_wide cd_ask_wide ct_ask_wide : Value}
    (a_ask_wide : PySem.W.nsIn K mainGlobals "ask_wide" = some (some (.ref f_ask_wide)))
    (l_ask_wide : K.lookup f_ask_wide = some ⟨oc_ask_wide, od_ask_wide, .func (PySem.W.fnOf "ask_wide" "ask_wide" (defArgs s_ask_wide) (defBody s_ask_wide) (defScope s_ask_wide) .none kV_ask_wide dc_ask_wide pm_ask_wide an_ask_wide cd_ask_wide ct_ask_wide), sl_ask_wide⟩) (c_ask_wide : PySem.W.codeIn K cd_ask_wide "ask_wide" = true) (k_ask_wide : PySem.W.keepIn K (.ref f_ask_wide) = true)
    {f__law_cell_at : Addr} {od__law_cell_at an__law_cell_at : Option Addr} {sl__law_cell_at : Array (Option Value)} {oc__law_cell_at kV__law_cell_at dc__law_cell_at pm__law_cell_at cd__law_cell_at ct__law_cell_at : Value}
    (a__law_cell_at : PySem.W.nsIn K mainGlobals "_law_cell_at" = some (some (.ref f__law_cell_at)))
    (l__law_cell_at : K.lookup f__law_cell_at = some ⟨oc__law_cell_at, od__law_cell_at, .func (PySem.W.fnOf "_law_cell_at" "_law_cell_at" (defArgs s__law_cell_at) (defBody s__law_cell_at) (defScope s__law_cell_at) .none kV__law_cell_at dc__law_cell_at pm__law_cell_at an__law_cell_at cd__law_cell_at ct__law_cell_at), sl__law_cell_at⟩) (c__law_cell_at : PySem.W.codeIn K cd__law_cell_at "_law_cell_at" = true) (k__law_cell_at : PySem.W.keepIn K (.ref f__law_cell_at) = true)
    {f__law_whole : Addr} {od__law_whole an__law_whole : Option Addr} {sl__law_whole : Array (Option Value)} {oc__law_whole kV__law_whole dc__law_whole pm__law_whole cd__law_whole ct__law_whole : Value}
    (a__law_whole : PySem.W.nsIn K mainGlobals "_law_whole" = some (some (.ref f__law_whole)))
    (l__law_whole : K.lookup f__law_whole = some ⟨oc__law_whole, od__law_whole, .func (PySem.W.fnOf "_law_whole" "_law_whole" (defArgs s__law_whole) (defBody s__law_whole) (defScope s__law_whole) .none kV__law_whole dc__law_whole pm__law_whole an__law_whole cd__law_whole ct__law_whole), sl__law_whole⟩) (c__law_whole : PySem.W.codeIn K cd__law_whole "_law_whole" = true) (k__law_whole : PySem.W.keepIn K (.ref f__law_whole) = true)
    {f__law_mix : Addr} {od__law_mix an__law_mix : Option Addr} {sl__law_mix : Array (Option Value)} {oc__law_mix kV__law_mix dc__law_mix pm__law_mix cd__law_mix ct__law_mix : Value}
    (a__law_mix : PySem.W.nsIn K mainGlobals "_law_mix" = some (some (.ref f__law_mix)))
    (l__law_mix : K.lookup f__law_mix = some ⟨oc__law_mix, od__law_mix, .func (PySem.W.fnOf "_law_mix" "_law_mix" (defArgs s__law_mix) (defBody s__law_mix) (defScope s__law_mix) .none kV__law_mix dc__law_mix pm__law_mix an__law_mix cd__law_mix ct__law_mix), sl__law_mix⟩) (c__law_mix : PySem.W.codeIn K cd__law_mix "_law_mix" = true) (k__law_mix : PySem.W.keepIn K (.ref f__law_mix) = true)
    {f__law_changes : Addr} {od__law_changes an__law_changes : Option Addr} {sl__law_changes : Array (Option Value)} {oc__law_changes kV__law_changes dc__law_changes pm__law_changes cd__law_changes ct__law_changes : Value}
    (a__law_changes : PySem.W.nsIn K mainGlobals "_law_changes" = some (some (.ref f__law_changes)))
    (l__law_changes : K.lookup f__law_changes = some ⟨oc__law_changes, od__law_changes, .func (PySem.W.fnOf "_law_changes" "_law_changes" (defArgs s__law_changes) (defBody s__law_changes) (defScope s__law_changes) .none kV__law_changes dc__law_changes pm__law_changes an__law_changes cd__law_changes ct__law_changes), sl__law_changes⟩) (c__law_changes : PySem.W.codeIn K cd__law_changes "_law_changes" = true) (k__law_changes : PySem.W.keepIn K (.ref f__law_changes) = true)
    {f__law_row : Addr} {od__law_row an__law_row : Option Addr} {sl__law_row : Array (Option Value)} {oc__law_row kV__law_row dc__law_row pm__law_row cd__law_row ct__law_row : Value}
    (a__law_row : PySem.W.nsIn K mainGlobals "_law_row" = some (some (.ref f__law_row)))
    (l__law_row : K.lookup f__law_row = some ⟨oc__law_row, od__law_row, .func (PySem.W.fnOf "_law_row" "_law_row" (defArgs s__law_row) (defBody s__law_row) (defScope s__law_row) .none kV__law_row dc__law_row pm__law_row an__law_row cd__law_row ct__law_row), sl__law_row⟩) (c__law_row : PySem.W.codeIn K cd__law_row "_law_row" = true) (k__law_row : PySem.W.keepIn K (.ref f__law_row) = true)
    {f__law_day : Addr} {od__law_day an__law_day : Option Addr} {sl__law_day : Array (Option Value)} {oc__law_day kV__law_day dc__law_day pm__law_day cd__law_day ct__law_day : Value}
    (a__law_day : PySem.W.nsIn K mainGlobals "_law_day" = some (some (.ref f__law_day)))
    (l__law_day : K.lookup f__law_day = some ⟨oc__law_day, od__law_day, .func (PySem.W.fnOf "_law_day" "_law_day" (defArgs s__law_day) (defBody s__law_day) (defScope s__law_day) .none kV__law_day dc__law_day pm__law_day an__law_day cd__law_day ct__law_day), sl__law_day⟩) (c__law_day : PySem.W.codeIn K cd__law_day "_law_day" = true) (k__law_day : PySem.W.keepIn K (.ref f__law_day) = true)
    {f__law_due : Addr} {od__law_due an__law_due : Option Addr} {sl__law_due : Array (Option Value)} {oc__law_due kV__law_due dc__law_due pm__law_due cd__law_due ct__law_due : Value}
    (a__law_due : PySem.W.nsIn K mainGlobals "_law_due" = some (some (.ref f__law_due)))
    (l__law_due : K.lookup f__law_due = some ⟨oc__law_due, od__law_due, .func (PySem.W.fnOf "_law_due" "_law_due" (defArgs s__law_due) (defBody s__law_due) (defScope s__law_due) .none kV__law_due dc__law_due pm__law_due an__law_due cd__law_due ct__law_due), sl__law_due⟩) (c__law_due : PySem.W.codeIn K cd__law_due "_law_due" = true) (k__law_due : PySem.W.keepIn K (.ref f__law_due) = true)
    {f__law_asked : Addr} {od__law_asked an__law_asked : Option Addr} {sl__law_asked : Array (Option Value)} {oc__law_asked kV__law_asked dc__law_asked pm__law_asked cd__law_asked ct__law_asked : Value}
    (a__law_asked : PySem.W.nsIn K mainGlobals "_law_asked" = some (some (.ref f__law_asked)))
    (l__law_asked : K.lookup f__law_asked = some ⟨oc__law_asked, od__law_asked, .func (PySem.W.fnOf "_law_asked" "_law_asked" (defArgs s__law_asked) (defBody s__law_asked) (defScope s__law_asked) .none kV__law_asked dc__law_asked pm__law_asked an__law_asked cd__law_asked ct__law_asked), sl__law_asked⟩) (c__law_asked : PySem.W.codeIn K cd__law_asked "_law_asked" = true) (k__law_asked : PySem.W.keepIn K (.ref f__law_asked) = true)
    {f__law_table : Addr} {od__law_table an__law_table : Option Addr} {sl__law_table : Array (Option Value)} {oc__law_table kV__law_table dc__law_table pm__law_table cd__law_table ct__law_table : Value}
    (a__law_table : PySem.W.nsIn K mainGlobals "_law_table" = some (some (.ref f__law_table)))
    (l__law_table : K.lookup f__law_table = some ⟨oc__law_table, od__law_table, .func (PySem.W.fnOf "_law_table" "_law_table" (defArgs s__law_table) (defBody s__law_table) (defScope s__law_table) .none kV__law_table dc__law_table pm__law_table an__law_table cd__law_table ct__law_table), sl__law_table⟩) (c__law_table : PySem.W.codeIn K cd__law_table "_law_table" = true) (k__law_table : PySem.W.keepIn K (.ref f__law_table) = true)
    {f__law_good : Addr} {od__law_good an__law_good : Option Addr} {sl__law_good : Array (Option Value)} {oc__law_good kV__law_good dc__law_good pm__law_good cd__law_good ct__law_good : Value}
    (a__law_good : PySem.W.nsIn K mainGlobals "_law_good" = some (some (.ref f__law_good)))
    (l__law_good : K.lookup f__law_good = some ⟨oc__law_good, od__law_good, .func (PySem.W.fnOf "_law_good" "_law_good" (defArgs s__law_good) (defBody s__law_good) (defScope s__law_good) .none kV__law_good dc__law_good pm__law_good an__law_good cd__law_good ct__law_good), sl__law_good⟩) (c__law_good : PySem.W.codeIn K cd__law_good "_law_good" = true) (k__law_good : PySem.W.keepIn K (.ref f__law_good) = true)
    {f_law : Addr} {od_law an_law : Option Addr} {sl_law : Array (Option Value)} {oc_law kV_law dc_law pm_law cd_law ct_law : Value}
    (a_law : PySem.W.nsIn K mainGlobals "law" = some (some (.ref f_law)))
    (l_law : K.lookup f_law = some ⟨oc_law, od_law, .func (PySem.W.fnOf "law" "law" (defArgs s_law) (defBody s_law) (defScope s_law) .none kV_law dc_law pm_law an_law cd_law ct_law), sl_law⟩) (c_law : PySem.W.codeIn K cd_law "law" = true) (k_law : PySem.W.keepIn K (.ref f_law) = true)
    (z_len : PySem.W.nsIn K mainGlobals "len" = some none)
    (z_isinstance : PySem.W.nsIn K mainGlobals "isinstance" = some none)
    (z_int : PySem.W.nsIn K mainGlobals "int" = some none)
    (z_bool : PySem.W.nsIn K mainGlobals "bool" = some none)
    (z_list : PySem.W.nsIn K mainGlobals "list" = some none)
    (z_range : PySem.W.nsIn K mainGlobals "range" = some none)
    (z_min : PySem.W.nsIn K mainGlobals "min" = some none)
    (z_max : PySem.W.nsIn K mainGlobals "max" = some none)
    (z_sorted : PySem.W.nsIn K mainGlobals "sorted" = some none)
    (z_set : PySem.W.nsIn K mainGlobals "set" = some none)
    (z_ValueError : PySem.W.nsIn K mainGlobals "ValueError" = some none)
    (kd1 : PySem.W.mroIn K C_NoDay (.ref C_NoDay) = some true)
    (kd2 : PySem.W.kitOne K (.ref C_NoDay) (.ref C_KeepError) = some true)
    (kd3 : PySem.W.kitOne K (.ref C_NoDay) (.ref C_NoBase) = some false)
    : ∃ fd : FuncData, (∀ (s : Shared) (v : Value), BindsTo s fd ⟨[v], []⟩ [("_law_script", v)]) ∧ ∀ base : Heap, K.In base → base.Ns mainGlobals mg → FnOk l.prog w K mg base (CXx l.prog w) 7 fa fd ["_law_script"] (sp_law K) := by
  have e := hfa.symm.trans (PySem.W.mg_of X G a_law)
  cases e
  have T : Txt K mg t_W t_MOST_BLOCKS C_KeepError C_NoTable C_NoPlace C_NoBlock C_NoDay C_NoBase C_Days := ⟨PySem.W.mg_of X G g_W, PySem.W.mg_of X G g_MOST_BLOCKS, PySem.W.mg_of X G a_KeepError, ⟨xo_KeepError, xs_KeepError, xg_KeepError, xh_KeepError, xc_KeepError, clg, clt⟩, PySem.W.mg_of X G a_NoTable, ⟨xo_NoTable, xs_NoTable, xg_NoTable, xh_NoTable, xc_NoTable, clg, clt⟩, n_NoTable_wide, PySem.W.mg_of X G a_NoPlace, ⟨xo_NoPlace, xs_NoPlace, xg_NoPlace, xh_NoPlace, xc_NoPlace, clg, clt⟩, n_NoPlace_place, PySem.W.mg_of X G a_NoBlock, ⟨xo_NoBlock, xs_NoBlock, xg_NoBlock, xh_NoBlock, xc_NoBlock, clg, clt⟩, n_NoBlock_block, PySem.W.mg_of X G a_NoDay, ⟨xo_NoDay, xs_NoDay, xg_NoDay, xh_NoDay, xc_NoDay, clg, clt⟩, n_NoDay_day, PySem.W.mg_of X G a_NoBase, ⟨xo_NoBase, xs_NoBase, xg_NoBase, xh_NoBase, xc_NoBase, clg, clt⟩, n_NoBase_base, n_NoBase_day, PySem.W.mg_of X G a_Days, ⟨pg_Days, hd_Days, po_Days, sa_Days⟩, n_Days_wide, n_Days_last, n_Days_tables, n_Days_set_places, PySem.W.mg_none_of X G z_len, PySem.W.mg_none_of X G z_isinstance, PySem.W.mg_none_of X G z_int, PySem.W.mg_none_of X G z_bool, PySem.W.mg_none_of X G z_list, PySem.W.mg_none_of X G z_range, PySem.W.mg_none_of X G z_min, PySem.W.mg_none_of X G z_max, PySem.W.mg_none_of X G z_sorted, PySem.W.mg_none_of X G z_set, PySem.W.mg_none_of X G z_ValueError, kd1, kd2, kd3⟩
  have F_NoTable___init__ := fun_mk (st := s_NoTable___init__) l_NoTable___init__ c_NoTable___init__ k_NoTable___init__
  have b_NoTable___init__ := F_NoTable___init__.binds (ps := ["self", "wide"]) fun _ _ _ _ _ _ us hl => match us, hl with | [_, _], _ => rfl
  have F_NoPlace___init__ := fun_mk (st := s_NoPlace___init__) l_NoPlace___init__ c_NoPlace___init__ k_NoPlace___init__
  have b_NoPlace___init__ := F_NoPlace___init__.binds (ps := ["self", "place"]) fun _ _ _ _ _ _ us hl => match us, hl with | [_, _], _ => rfl
  have F_NoBlock___init__ := fun_mk (st := s_NoBlock___init__) l_NoBlock___init__ c_NoBlock___init__ k_NoBlock___init__
  have b_NoBlock___init__ := F_NoBlock___init__.binds (ps := ["self", "block"]) fun _ _ _ _ _ _ us hl => match us, hl with | [_, _], _ => rfl
  have F_NoDay___init__ := fun_mk (st := s_NoDay___init__) l_NoDay___init__ c_NoDay___init__ k_NoDay___init__
  have b_NoDay___init__ := F_NoDay___init__.binds (ps := ["self", "day"]) fun _ _ _ _ _ _ us hl => match us, hl with | [_, _], _ => rfl
  have F_NoBase___init__ := fun_mk (st := s_NoBase___init__) l_NoBase___init__ c_NoBase___init__ k_NoBase___init__
  have b_NoBase___init__ := F_NoBase___init__.binds (ps := ["self", "base", "day"]) fun _ _ _ _ _ _ us hl => match us, hl with | [_, _, _], _ => rfl
  have F_Days___init__ := fun_mk (st := s_Days___init__) l_Days___init__ c_Days___init__ k_Days___init__
  have b_Days___init__ := F_Days___init__.binds (ps := ["self", "wide"]) fun _ _ _ _ _ _ us hl => match us, hl with | [_, _], _ => rfl
  have F_Days_passes := fun_mk (st := s_Days_passes) l_Days_passes c_Days_passes k_Days_passes
  have b_Days_passes := F_Days_passes.binds (ps := ["self", "changes"]) fun _ _ _ _ _ _ us hl => match us, hl with | [_, _], _ => rfl
  have F_Days_table := fun_mk (st := s_Days_table) l_Days_table c_Days_table k_Days_table
  have b_Days_table := F_Days_table.binds (ps := ["self", "day"]) fun _ _ _ _ _ _ us hl => match us, hl with | [_, _], _ => rfl
  have F_Days_written := fun_mk (st := s_Days_written) l_Days_written c_Days_written k_Days_written
  have b_Days_written := F_Days_written.binds (ps := ["self", "one", "other"]) fun _ _ _ _ _ _ us hl => match us, hl with | [_, _, _], _ => rfl
  have F_Days_ask_change := fun_mk (st := s_Days_ask_change) l_Days_ask_change c_Days_ask_change k_Days_ask_change
  have b_Days_ask_change := F_Days_ask_change.binds (ps := ["self", "place", "block"]) fun _ _ _ _ _ _ us hl => match us, hl with | [_, _, _], _ => rfl
  have F_Days_ask_day := fun_mk (st := s_Days_ask_day) l_Days_ask_day c_Days_ask_day k_Days_ask_day
  have b_Days_ask_day := F_Days_ask_day.binds (ps := ["self", "day"]) fun _ _ _ _ _ _ us hl => match us, hl with | [_, _], _ => rfl
  have F_ask_wide := fun_mk (st := s_ask_wide) l_ask_wide c_ask_wide k_ask_wide
  have b_ask_wide := F_ask_wide.binds (ps := ["wide"]) fun _ _ _ _ _ _ us hl => match us, hl with | [_], _ => rfl
  have F__law_cell_at := fun_mk (st := s__law_cell_at) l__law_cell_at c__law_cell_at k__law_cell_at
  have b__law_cell_at := F__law_cell_at.binds (ps := ["_law_script", "_law_k"]) fun _ _ _ _ _ _ us hl => match us, hl with | [_, _], _ => rfl
  have F__law_whole := fun_mk (st := s__law_whole) l__law_whole c__law_whole k__law_whole
  have b__law_whole := F__law_whole.binds (ps := ["_law_found"]) fun _ _ _ _ _ _ us hl => match us, hl with | [_], _ => rfl
  have F__law_mix := fun_mk (st := s__law_mix) l__law_mix c__law_mix k__law_mix
  have b__law_mix := F__law_mix.binds (ps := ["_law_cell", "_law_k"]) fun _ _ _ _ _ _ us hl => match us, hl with | [_, _], _ => rfl
  have F__law_changes := fun_mk (st := s__law_changes) l__law_changes c__law_changes k__law_changes
  have b__law_changes := F__law_changes.binds (ps := ["_law_cell", "_law_wide"]) fun _ _ _ _ _ _ us hl => match us, hl with | [_, _], _ => rfl
  have F__law_row := fun_mk (st := s__law_row) l__law_row c__law_row k__law_row
  have b__law_row := F__law_row.binds (ps := ["_law_script", "_law_wide"]) fun _ _ _ _ _ _ us hl => match us, hl with | [_, _], _ => rfl
  have F__law_day := fun_mk (st := s__law_day) l__law_day c__law_day k__law_day
  have b__law_day := F__law_day.binds (ps := ["_law_cell", "_law_last"]) fun _ _ _ _ _ _ us hl => match us, hl with | [_, _], _ => rfl
  have F__law_due := fun_mk (st := s__law_due) l__law_due c__law_due k__law_due
  have b__law_due := F__law_due.binds (ps := ["_law_rows", "_law_one", "_law_other"]) fun _ _ _ _ _ _ us hl => match us, hl with | [_, _, _], _ => rfl
  have F__law_asked := fun_mk (st := s__law_asked) l__law_asked c__law_asked k__law_asked
  have b__law_asked := F__law_asked.binds (ps := ["_law_row_here", "_law_one", "_law_other"]) fun _ _ _ _ _ _ us hl => match us, hl with | [_, _, _], _ => rfl
  have F__law_table := fun_mk (st := s__law_table) l__law_table c__law_table k__law_table
  have b__law_table := F__law_table.binds (ps := ["_law_row_here", "_law_day_here"]) fun _ _ _ _ _ _ us hl => match us, hl with | [_, _], _ => rfl
  have F__law_good := fun_mk (st := s__law_good) l__law_good c__law_good k__law_good
  have b__law_good := F__law_good.binds (ps := ["_law_found", "_law_due_here"]) fun _ _ _ _ _ _ us hl => match us, hl with | [_, _], _ => rfl
  have F_law := fun_mk (st := s_law) l_law c_law k_law
  have b_law := F_law.binds (ps := ["_law_script"]) fun _ _ _ _ _ _ us hl => match us, hl with | [_], _ => rfl
  refine ⟨PySem.W.fnOf "law" "law" (defArgs s_law) (defBody s_law) (defScope s_law) .none kV_law dc_law pm_law an_law cd_law ct_law, fun s v => .of_eq rfl, fun base _ _ => ?_⟩
  have D_NoTable : ExcX l.prog w K mg base "NoTable" C_NoTable 1 ["self", "wide"] (sp_x1 C_NoTable "wide") := ⟨_, _, PySem.W.mg_of X G a_NoTable, ⟨T.x_NoTable, a_NoTable___init__, i_NoTable___init__, kc_NoTable⟩, ok_NoTable___init__ F_NoTable___init__ T , b_NoTable___init__⟩
  have D_NoPlace : ExcX l.prog w K mg base "NoPlace" C_NoPlace 1 ["self", "place"] (sp_x1 C_NoPlace "place") := ⟨_, _, PySem.W.mg_of X G a_NoPlace, ⟨T.x_NoPlace, a_NoPlace___init__, i_NoPlace___init__, kc_NoPlace⟩, ok_NoPlace___init__ F_NoPlace___init__ T , b_NoPlace___init__⟩
  have D_NoBlock : ExcX l.prog w K mg base "NoBlock" C_NoBlock 1 ["self", "block"] (sp_x1 C_NoBlock "block") := ⟨_, _, PySem.W.mg_of X G a_NoBlock, ⟨T.x_NoBlock, a_NoBlock___init__, i_NoBlock___init__, kc_NoBlock⟩, ok_NoBlock___init__ F_NoBlock___init__ T , b_NoBlock___init__⟩
  have D_NoDay : ExcX l.prog w K mg base "NoDay" C_NoDay 1 ["self", "day"] (sp_x1 C_NoDay "day") := ⟨_, _, PySem.W.mg_of X G a_NoDay, ⟨T.x_NoDay, a_NoDay___init__, i_NoDay___init__, kc_NoDay⟩, ok_NoDay___init__ F_NoDay___init__ T , b_NoDay___init__⟩
  have D_NoBase : ExcX l.prog w K mg base "NoBase" C_NoBase 1 ["self", "base", "day"] (sp_x2 C_NoBase "base" "day") := ⟨_, _, PySem.W.mg_of X G a_NoBase, ⟨T.x_NoBase, a_NoBase___init__, i_NoBase___init__, kc_NoBase⟩, ok_NoBase___init__ F_NoBase___init__ T , b_NoBase___init__⟩
  have D_ask_wide : DefX l.prog w K mg base "ask_wide" 3 ["wide"] (sp_askw C_NoTable) := ⟨_, _, PySem.W.mg_of X G a_ask_wide, ok_ask_wide F_ask_wide T D_NoTable, k_ask_wide, b_ask_wide⟩
  have D_Days : MakeX l.prog w K mg base "Days" C_Days 4 ["self", "wide"] (sp_init C_Days C_NoTable) := ⟨_, _, PySem.W.mg_of X G a_Days, ⟨mk_Days, a_Days___init__, i_Days___init__, kc_Days⟩, ok_Days___init__ F_Days___init__ T D_ask_wide, b_Days___init__⟩
  have D_Days_ask_change : MethX l.prog w K mg base C_Days "ask_change" 3 ["self", "place", "block"] (sp_askc C_Days C_NoPlace C_NoBlock) := ⟨_, _, ⟨a_Days_ask_change, i_Days_ask_change, k_Days_ask_change⟩, ok_Days_ask_change F_Days_ask_change T D_NoPlace D_NoBlock, b_Days_ask_change⟩
  have D_Days_passes : MethX l.prog w K mg base C_Days "passes" 4 ["self", "changes"] (sp_passes C_Days C_NoPlace C_NoBlock) := ⟨_, _, ⟨a_Days_passes, i_Days_passes, k_Days_passes⟩, ok_Days_passes F_Days_passes T D_Days_ask_change, b_Days_passes⟩
  have D_Days_ask_day : MethX l.prog w K mg base C_Days "ask_day" 3 ["self", "day"] (sp_askd C_Days C_NoDay) := ⟨_, _, ⟨a_Days_ask_day, i_Days_ask_day, k_Days_ask_day⟩, ok_Days_ask_day F_Days_ask_day T D_NoDay, b_Days_ask_day⟩
  have D_Days_table : MethX l.prog w K mg base C_Days "table" 4 ["self", "day"] (sp_table C_Days C_NoDay) := ⟨_, _, ⟨a_Days_table, i_Days_table, k_Days_table⟩, ok_Days_table F_Days_table T D_Days_ask_day, b_Days_table⟩
  have D_Days_written : MethX l.prog w K mg base C_Days "written" 4 ["self", "one", "other"] (sp_written C_Days C_NoDay) := ⟨_, _, ⟨a_Days_written, i_Days_written, k_Days_written⟩, ok_Days_written F_Days_written T D_Days_ask_day, b_Days_written⟩
  have D__law_cell_at : DefX l.prog w K mg base "_law_cell_at" 1 ["_law_script", "_law_k"] (sp_cell K) := ⟨_, _, PySem.W.mg_of X G a__law_cell_at, ok__law_cell_at F__law_cell_at T , k__law_cell_at, b__law_cell_at⟩
  have D__law_whole : DefX l.prog w K mg base "_law_whole" 1 ["_law_found"] sp_whole := ⟨_, _, PySem.W.mg_of X G a__law_whole, ok__law_whole F__law_whole T , k__law_whole, b__law_whole⟩
  have D__law_mix : DefX l.prog w K mg base "_law_mix" 1 ["_law_cell", "_law_k"] sp_mix := ⟨_, _, PySem.W.mg_of X G a__law_mix, ok__law_mix F__law_mix T , k__law_mix, b__law_mix⟩
  have D__law_changes : DefX l.prog w K mg base "_law_changes" 2 ["_law_cell", "_law_wide"] sp_changes := ⟨_, _, PySem.W.mg_of X G a__law_changes, ok__law_changes F__law_changes T D__law_mix, k__law_changes, b__law_changes⟩
  have D__law_row : DefX l.prog w K mg base "_law_row" 3 ["_law_script", "_law_wide"] (sp_row K) := ⟨_, _, PySem.W.mg_of X G a__law_row, ok__law_row F__law_row T D__law_changes, k__law_row, b__law_row⟩
  have D__law_day : DefX l.prog w K mg base "_law_day" 1 ["_law_cell", "_law_last"] sp_day := ⟨_, _, PySem.W.mg_of X G a__law_day, ok__law_day F__law_day T , k__law_day, b__law_day⟩
  have D__law_due : DefX l.prog w K mg base "_law_due" 1 ["_law_rows", "_law_one", "_law_other"] sp_due := ⟨_, _, PySem.W.mg_of X G a__law_due, ok__law_due F__law_due T , k__law_due, b__law_due⟩
  have D__law_asked : DefX l.prog w K mg base "_law_asked" 6 ["_law_row_here", "_law_one", "_law_other"] (sp_asked C_Days) := ⟨_, _, PySem.W.mg_of X G a__law_asked, ok__law_asked F__law_asked T D_Days_written, k__law_asked, b__law_asked⟩
  have D__law_table : DefX l.prog w K mg base "_law_table" 6 ["_law_row_here", "_law_day_here"] (sp_ltable C_Days) := ⟨_, _, PySem.W.mg_of X G a__law_table, ok__law_table F__law_table T D_Days_table, k__law_table, b__law_table⟩
  have D__law_good : DefX l.prog w K mg base "_law_good" 2 ["_law_found", "_law_due_here"] sp_good := ⟨_, _, PySem.W.mg_of X G a__law_good, ok__law_good F__law_good T D__law_whole, k__law_good, b__law_good⟩
  exact ok_law F_law T D__law_cell_at D__law_row D_Days D_Days_passes D__law_day D__law_mix D__law_due D__law_asked D__law_good D__law_table D_Days_written
theorem walk {l : PySem.W.OpenLaw} {q : Program} {loose : List Str} {XP : (Str → Option Value) → Heap → Prop} {YP : World → Heap → Prop} {d : DefRec} {K : Params → PySem.W.Frag} (hn : l.most = some 63) (hdf : d.params.defaults = [])
    (hY : ∀ (w : World) (h : Heap), YP w h → (K w.params).In h)
    (F : ∀ (w : World) (mg : Str → Option Value) (fa : Addr) (h : Heap), (K w.params).In h → h.Ns mainGlobals mg → mg d.name = some (.ref fa) →
      ∃ fd : FuncData, (∀ (s : Shared) (u : Value), BindsTo s fd ⟨[u], []⟩ [("_law_script", u)]) ∧ ∀ base : Heap, (K w.params).In base → base.Ns mainGlobals mg → FnOk l.prog w (K w.params) mg base (CXx l.prog w) 7 fa fd ["_law_script"] (sp_law (K w.params))) :
    PySem.W.WalkO q loose XP YP l.row.toRowW d [] (fun f vs => PySem.call f vs) :=
  L2.walk_of (n := 63) (k := 7) (x := "_law_script") (CX := fun w => CXx l.prog w) (sp := fun w => sp_law (K w.params)) hn (by decide) hdf ⟨rfl, by decide, by decide⟩ hY F (fun _ _ a ns hl _ hS => ⟨a, ns, rfl, hS, hl, fun _ => rfl⟩) fun _ _ _ _ _ z => L2.cxx_no z
end Mine
open PySem PySem.W PyProof.Rows
set_option maxRecDepth 100000 in
set_option maxHeartbeats 0 in
theorem PySem.Challenge.cw_keepsakes_k06_written_places_holds : PySem.Challenge.rw_keepsakes_k06_written_places.Holds := by
  w_on; o_law; k_head; (case hw => w_witness2)
  k_fill
  refine Mine.walk (l := PySem.Challenge.rw_keepsakes_k06_written_places) rfl rfl (fun w h Y => PySem.W.kIn_of Y) ?F
  case F =>
    intro w mg fa h KX G hmg
    refine' Mine.all_mk KX G hmg ?g_W ?g_MOST_BLOCKS ?a_KeepError ?a_NoTable ?a_NoPlace ?a_NoBlock ?a_NoDay ?a_NoBase ?a_Days ?clg ?clt ?xo_KeepError ?xs_KeepError ?xg_KeepError ?xh_KeepError ?xc_KeepError ?kc_KeepError ?xo_NoTable ?xs_NoTable ?xg_NoTable ?xh_NoTable ?xc_NoTable ?kc_NoTable ?n_NoTable_wide ?xo_NoPlace ?xs_NoPlace ?xg_NoPlace ?xh_NoPlace ?xc_NoPlace ?kc_NoPlace ?n_NoPlace_place ?xo_NoBlock ?xs_NoBlock ?xg_NoBlock ?xh_NoBlock ?xc_NoBlock ?kc_NoBlock ?n_NoBlock_block ?xo_NoDay ?xs_NoDay ?xg_NoDay ?xh_NoDay ?xc_NoDay ?kc_NoDay ?n_NoDay_day ?xo_NoBase ?xs_NoBase ?xg_NoBase ?xh_NoBase ?xc_NoBase ?kc_NoBase ?n_NoBase_base ?n_NoBase_day ?pg_Days ?hd_Days ?po_Days ?sa_Days ?mk_Days ?kc_Days ?n_Days_wide ?n_Days_last ?n_Days_tables ?n_Days_set_places ?a_NoTable___init__ ?i_NoTable___init__ ?l_NoTable___init__ ?c_NoTable___init__ ?k_NoTable___init__ ?a_NoPlace___init__ ?i_NoPlace___init__ ?l_NoPlace___init__ ?c_NoPlace___init__ ?k_NoPlace___init__ ?a_NoBlock___init__ ?i_NoBlock___init__ ?l_NoBlock___init__ ?c_NoBlock___init__ ?k_NoBlock___init__ ?a_NoDay___init__ ?i_NoDay___init__ ?l_NoDay___init__ ?c_NoDay___init__ ?k_NoDay___init__ ?a_NoBase___init__ ?i_NoBase___init__ ?l_NoBase___init__ ?c_NoBase___init__ ?k_NoBase___init__ ?a_Days___init__ ?i_Days___init__ ?l_Days___init__ ?c_Days___init__ ?k_Days___init__ ?a_Days_passes ?i_Days_passes ?l_Days_passes ?c_Days_passes ?k_Days_passes ?a_Days_table ?i_Days_table ?l_Days_table ?c_Days_table ?k_Days_table ?a_Days_written ?i_Days_written ?l_Days_written ?c_Days_written ?k_Days_written ?a_Days_ask_change ?i_Days_ask_change ?l_Days_ask_change ?c_Days_ask_change ?k_Days_ask_change ?a_Days_ask_day ?i_Days_ask_day ?l_Days_ask_day ?c_Days_ask_day ?k_Days_ask_day ?a_ask_wide ?l_ask_wide ?c_ask_wide ?k_ask_wide ?a__law_cell_at ?l__law_cell_at ?c__law_cell_at ?k__law_cell_at ?a__law_whole ?l__law_whole ?c__law_whole ?k__law_whole ?a__law_mix ?l__law_mix ?c__law_mix ?k__law_mix ?a__law_changes ?l__law_changes ?c__law_changes ?k__law_changes ?a__law_row ?l__law_row ?c__law_row ?k__law_row ?a__law_day ?l__law_day ?c__law_day ?k__law_day ?a__law_due ?l__law_due ?c__law_due ?k__law_due ?a__law_asked ?l__law_asked ?c__law_asked ?k__law_asked ?a__law_table ?l__law_table ?c__law_table ?k__law_table ?a__law_good ?l__law_good ?c__law_good ?k__law_good ?a_law ?l_law ?c_law ?k_law ?z_len ?z_isinstance ?z_int ?z_bool ?z_list ?z_range ?z_min ?z_max ?z_sorted ?z_set ?z_ValueError ?kd1 ?kd2 ?kd3
    (case g_W => first | k_is | kit_is | kernel_rfl)
    (case g_MOST_BLOCKS => first | k_is | kit_is | kernel_rfl)
    (case a_KeepError => first | k_is | kit_is | kernel_rfl)
    (case a_NoTable => first | k_is | kit_is | kernel_rfl)
    (case a_NoPlace => first | k_is | kit_is | kernel_rfl)
    (case a_NoBlock => first | k_is | kit_is | kernel_rfl)
    (case a_NoDay => first | k_is | kit_is | kernel_rfl)
    (case a_NoBase => first | k_is | kit_is | kernel_rfl)
    (case a_Days => first | k_is | kit_is | kernel_rfl)
    (case clg => first | k_is | kit_is | kernel_rfl)
    (case clt => first | k_is | kit_is | kernel_rfl)
    (case xo_KeepError => first | k_is | kit_is | kernel_rfl)
    (case xs_KeepError => first | k_is | kit_is | kernel_rfl)
    (case xg_KeepError => first | k_is | kit_is | kernel_rfl)
    (case xh_KeepError => first | k_is | kit_is | kernel_rfl)
    (case xc_KeepError => first | k_is | kit_is | kernel_rfl)
    (case kc_KeepError => first | k_is | kit_is | kernel_rfl)
    (case xo_NoTable => first | k_is | kit_is | kernel_rfl)
    (case xs_NoTable => first | k_is | kit_is | kernel_rfl)
    (case xg_NoTable => first | k_is | kit_is | kernel_rfl)
    (case xh_NoTable => first | k_is | kit_is | kernel_rfl)
    (case xc_NoTable => first | k_is | kit_is | kernel_rfl)
    (case kc_NoTable => first | k_is | kit_is | kernel_rfl)
    (case n_NoTable_wide => first | k_is | kit_is | kernel_rfl)
    (case xo_NoPlace => first | k_is | kit_is | kernel_rfl)
    (case xs_NoPlace => first | k_is | kit_is | kernel_rfl)
    (case xg_NoPlace => first | k_is | kit_is | kernel_rfl)
    (case xh_NoPlace => first | k_is | kit_is | kernel_rfl)
    (case xc_NoPlace => first | k_is | kit_is | kernel_rfl)
    (case kc_NoPlace => first | k_is | kit_is | kernel_rfl)
    (case n_NoPlace_place => first | k_is | kit_is | kernel_rfl)
    (case xo_NoBlock => first | k_is | kit_is | kernel_rfl)
    (case xs_NoBlock => first | k_is | kit_is | kernel_rfl)
    (case xg_NoBlock => first | k_is | kit_is | kernel_rfl)
    (case xh_NoBlock => first | k_is | kit_is | kernel_rfl)
    (case xc_NoBlock => first | k_is | kit_is | kernel_rfl)
    (case kc_NoBlock => first | k_is | kit_is | kernel_rfl)
    (case n_NoBlock_block => first | k_is | kit_is | kernel_rfl)
    (case xo_NoDay => first | k_is | kit_is | kernel_rfl)
    (case xs_NoDay => first | k_is | kit_is | kernel_rfl)
    (case xg_NoDay => first | k_is | kit_is | kernel_rfl)
    (case xh_NoDay => first | k_is | kit_is | kernel_rfl)
    (case xc_NoDay => first | k_is | kit_is | kernel_rfl)
    (case kc_NoDay => first | k_is | kit_is | kernel_rfl)
    (case n_NoDay_day => first | k_is | kit_is | kernel_rfl)
    (case xo_NoBase => first | k_is | kit_is | kernel_rfl)
    (case xs_NoBase => first | k_is | kit_is | kernel_rfl)
    (case xg_NoBase => first | k_is | kit_is | kernel_rfl)
    (case xh_NoBase => first | k_is | kit_is | kernel_rfl)
    (case xc_NoBase => first | k_is | kit_is | kernel_rfl)
    (case kc_NoBase => first | k_is | kit_is | kernel_rfl)
    (case n_NoBase_base => first | k_is | kit_is | kernel_rfl)
    (case n_NoBase_day => first | k_is | kit_is | kernel_rfl)
    (case pg_Days => first | k_is | kit_is | kernel_rfl)
    (case hd_Days => first | k_is | kit_is | kernel_rfl)
    (case po_Days => first | k_is | kit_is | kernel_rfl)
    (case sa_Days => first | k_is | kit_is | kernel_rfl)
    (case mk_Days => first | k_is | kit_is | kernel_rfl)
    (case kc_Days => first | k_is | kit_is | kernel_rfl)
    (case n_Days_wide => first | k_is | kit_is | kernel_rfl)
    (case n_Days_last => first | k_is | kit_is | kernel_rfl)
    (case n_Days_tables => first | k_is | kit_is | kernel_rfl)
    (case n_Days_set_places => first | k_is | kit_is | kernel_rfl)
    (case a_NoTable___init__ => first | k_is | kit_is | kernel_rfl)
    (case i_NoTable___init__ => first | k_is | kit_is | kernel_rfl)
    (case l_NoTable___init__ => first | k_is | kit_is | kernel_rfl)
    (case c_NoTable___init__ => first | k_is | kit_is | kernel_rfl)
    (case k_NoTable___init__ => first | k_is | kit_is | kernel_rfl)
    (case a_NoPlace___init__ => first | k_is | kit_is | kernel_rfl)
    (case i_NoPlace___init__ => first | k_is | kit_is | kernel_rfl)
    (case l_NoPlace___init__ => first | k_is | kit_is | kernel_rfl)
    (case c_NoPlace___init__ => first | k_is | kit_is | kernel_rfl)
    (case k_NoPlace___init__ => first | k_is | kit_is | kernel_rfl)
    (case a_NoBlock___init__ => first | k_is | kit_is | kernel_rfl)
    (case i_NoBlock___init__ => first | k_is | kit_is | kernel_rfl)
    (case l_NoBlock___init__ => first | k_is | kit_is | kernel_rfl)
    (case c_NoBlock___init__ => first | k_is | kit_is | kernel_rfl)
    (case k_NoBlock___init__ => first | k_is | kit_is | kernel_rfl)
    (case a_NoDay___init__ => first | k_is | kit_is | kernel_rfl)
    (case i_NoDay___init__ => first | k_is | kit_is | kernel_rfl)
    (case l_NoDay___init__ => first | k_is | kit_is | kernel_rfl)
    (case c_NoDay___init__ => first | k_is | kit_is | kernel_rfl)
    (case k_NoDay___init__ => first | k_is | kit_is | kernel_rfl)
    (case a_NoBase___init__ => first | k_is | kit_is | kernel_rfl)
    (case i_NoBase___init__ => first | k_is | kit_is | kernel_rfl)
    (case l_NoBase___init__ => first | k_is | kit_is | kernel_rfl)
    (case c_NoBase___init__ => first | k_is | kit_is | kernel_rfl)
    (case k_NoBase___init__ => first | k_is | kit_is | kernel_rfl)
    (case a_Days___init__ => first | k_is | kit_is | kernel_rfl)
    (case i_Days___init__ => first | k_is | kit_is | kernel_rfl)
    (case l_Days___init__ => first | k_is | kit_is | kernel_rfl)
    (case c_Days___init__ => first | k_is | kit_is | kernel_rfl)
    (case k_Days___init__ => first | k_is | kit_is | kernel_rfl)
    (case a_Days_passes => first | k_is | kit_is | kernel_rfl)
    (case i_Days_passes => first | k_is | kit_is | kernel_rfl)
    (case l_Days_passes => first | k_is | kit_is | kernel_rfl)
    (case c_Days_passes => first | k_is | kit_is | kernel_rfl)
    (case k_Days_passes => first | k_is | kit_is | kernel_rfl)
    (case a_Days_table => first | k_is | kit_is | kernel_rfl)
    (case i_Days_table => first | k_is | kit_is | kernel_rfl)
    (case l_Days_table => first | k_is | kit_is | kernel_rfl)
    (case c_Days_table => first | k_is | kit_is | kernel_rfl)
    (case k_Days_table => first | k_is | kit_is | kernel_rfl)
    (case a_Days_written => first | k_is | kit_is | kernel_rfl)
    (case i_Days_written => first | k_is | kit_is | kernel_rfl)
    (case l_Days_written => first | k_is | kit_is | kernel_rfl)
    (case c_Days_written => first | k_is | kit_is | kernel_rfl)
    (case k_Days_written => first | k_is | kit_is | kernel_rfl)
    (case a_Days_ask_change => first | k_is | kit_is | kernel_rfl)
    (case i_Days_ask_change => first | k_is | kit_is | kernel_rfl)
    (case l_Days_ask_change => first | k_is | kit_is | kernel_rfl)
    (case c_Days_ask_change => first | k_is | kit_is | kernel_rfl)
    (case k_Days_ask_change => first | k_is | kit_is | kernel_rfl)
    (case a_Days_ask_day => first | k_is | kit_is | kernel_rfl)
    (case i_Days_ask_day => first | k_is | kit_is | kernel_rfl)
    (case l_Days_ask_day => first | k_is | kit_is | kernel_rfl)
    (case c_Days_ask_day => first | k_is | kit_is | kernel_rfl)
    (case k_Days_ask_day => first | k_is | kit_is | kernel_rfl)
    (case a_ask_wide => first | k_is | kit_is | kernel_rfl)
    (case l_ask_wide => first | k_is | kit_is | kernel_rfl)
    (case c_ask_wide => first | k_is | kit_is | kernel_rfl)
    (case k_ask_wide => first | k_is | kit_is | kernel_rfl)
    (case a__law_cell_at => first | k_is | kit_is | kernel_rfl)
    (case l__law_cell_at => first | k_is | kit_is | kernel_rfl)
    (case c__law_cell_at => first | k_is | kit_is | kernel_rfl)
    (case k__law_cell_at => first | k_is | kit_is | kernel_rfl)
    (case a__law_whole => first | k_is | kit_is | kernel_rfl)
    (case l__law_whole => first | k_is | kit_is | kernel_rfl)
    (case c__law_whole => first | k_is | kit_is | kernel_rfl)
    (case k__law_whole => first | k_is | kit_is | kernel_rfl)
    (case a__law_mix => first | k_is | kit_is | kernel_rfl)
    (case l__law_mix => first | k_is | kit_is | kernel_rfl)
    (case c__law_mix => first | k_is | kit_is | kernel_rfl)
    (case k__law_mix => first | k_is | kit_is | kernel_rfl)
    (case a__law_changes => first | k_is | kit_is | kernel_rfl)
    (case l__law_changes => first | k_is | kit_is | kernel_rfl)
    (case c__law_changes => first | k_is | kit_is | kernel_rfl)
    (case k__law_changes => first | k_is | kit_is | kernel_rfl)
    (case a__law_row => first | k_is | kit_is | kernel_rfl)
    (case l__law_row => first | k_is | kit_is | kernel_rfl)
    (case c__law_row => first | k_is | kit_is | kernel_rfl)
    (case k__law_row => first | k_is | kit_is | kernel_rfl)
    (case a__law_day => first | k_is | kit_is | kernel_rfl)
    (case l__law_day => first | k_is | kit_is | kernel_rfl)
    (case c__law_day => first | k_is | kit_is | kernel_rfl)
    (case k__law_day => first | k_is | kit_is | kernel_rfl)
    (case a__law_due => first | k_is | kit_is | kernel_rfl)
    (case l__law_due => first | k_is | kit_is | kernel_rfl)
    (case c__law_due => first | k_is | kit_is | kernel_rfl)
    (case k__law_due => first | k_is | kit_is | kernel_rfl)
    (case a__law_asked => first | k_is | kit_is | kernel_rfl)
    (case l__law_asked => first | k_is | kit_is | kernel_rfl)
    (case c__law_asked => first | k_is | kit_is | kernel_rfl)
    (case k__law_asked => first | k_is | kit_is | kernel_rfl)
    (case a__law_table => first | k_is | kit_is | kernel_rfl)
    (case l__law_table => first | k_is | kit_is | kernel_rfl)
    (case c__law_table => first | k_is | kit_is | kernel_rfl)
    (case k__law_table => first | k_is | kit_is | kernel_rfl)
    (case a__law_good => first | k_is | kit_is | kernel_rfl)
    (case l__law_good => first | k_is | kit_is | kernel_rfl)
    (case c__law_good => first | k_is | kit_is | kernel_rfl)
    (case k__law_good => first | k_is | kit_is | kernel_rfl)
    (case a_law => first | k_is | kit_is | kernel_rfl)
    (case l_law => first | k_is | kit_is | kernel_rfl)
    (case c_law => first | k_is | kit_is | kernel_rfl)
    (case k_law => first | k_is | kit_is | kernel_rfl)
    (case z_len => first | k_is | kit_is | kernel_rfl)
    (case z_isinstance => first | k_is | kit_is | kernel_rfl)
    (case z_int => first | k_is | kit_is | kernel_rfl)
    (case z_bool => first | k_is | kit_is | kernel_rfl)
    (case z_list => first | k_is | kit_is | kernel_rfl)
    (case z_range => first | k_is | kit_is | kernel_rfl)
    (case z_min => first | k_is | kit_is | kernel_rfl)
    (case z_max => first | k_is | kit_is | kernel_rfl)
    (case z_sorted => first | k_is | kit_is | kernel_rfl)
    (case z_set => first | k_is | kit_is | kernel_rfl)
    (case z_ValueError => first | k_is | kit_is | kernel_rfl)
    (case kd1 => first | k_is | kit_is | kernel_rfl)
    (case kd2 => first | k_is | kit_is | kernel_rfl)
    (case kd3 => first | k_is | kit_is | kernel_rfl)
