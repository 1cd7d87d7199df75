import PyProof.Rows.All
import Wide.All
import OpenK.AllK
import Wide.FinOn
import Lean
import PyProof.EqAt
import PyProof.EqKinds
import PyProof.TupleCall
import KE.KRevIter
import PySem.Challenge.RW_keepsakes_k74_whole_leaves_cover_all_pla
set_option Elab.async false
set_option linter.all false
set_option maxRecDepth 100000
/-! THE HAND LAYER, for ints, bools, texts, own classes, LISTS and tuples (index, slices, in, append, pop ..), calls, loops. Paste it whole ahead of your own text; what your proof does not reach may be deleted. -/
namespace L2
open PySem PySem.Spec PyProof.Rows

/-- a key: an int or a str -/
abbrev Key := Sum Int Str
def keyIs : Key → Value → Bool
  | .inl k, v => Value.isInt k v
  | .inr x, v => Value.isStrOf x v
def keyH (w : World) : Key → Int
  | .inl k => hashInt k
  | .inr x => hashStr w x
theorem keyIs_shape : ∀ {k : Key} {v : Value}, keyIs k v = true → (∃ i t, k = Sum.inl i ∧ v = Value.int i t) ∨ (∃ x t, k = Sum.inr x ∧ v = Value.str x t)
  | .inl i, v, h => by
    obtain ⟨t, e⟩ := Value.isInt_shape (k := i) (v := v) h
    exact .inl ⟨i, t, rfl, e⟩
  | .inr x, v, h => by
    obtain ⟨t, e⟩ := Value.isStrOf_shape (x := x) (v := v) h
    exact .inr ⟨x, t, rfl, e⟩
theorem keyIs_int (i : Int) (t : Tok) : keyIs (.inl i) (.int i t) = true := by simp [keyIs, Value.isInt]
theorem keyIs_str (x : Str) (t : Tok) : keyIs (.inr x) (.str x t) = true := by simp [keyIs, Value.isStrOf]
theorem key_ll (a b : Int) : decide ((Sum.inl a : Key) = Sum.inl b) = (a == b) := by
  by_cases e : a = b
  · subst e; simp
  · have h : ¬ (Sum.inl a : Key) = Sum.inl b := fun q => e (Sum.inl.inj q)
    rw [decide_eq_false h]
    exact (beq_eq_false_iff_ne.mpr e).symm
theorem key_rr (a b : Str) : decide ((Sum.inr a : Key) = Sum.inr b) = decide (a = b) := by
  by_cases e : a = b
  · subst e; simp
  · have h : ¬ (Sum.inr a : Key) = Sum.inr b := fun q => e (Sum.inr.inj q)
    rw [decide_eq_false h, decide_eq_false e]
theorem key_lr (a : Int) (b : Str) : decide ((Sum.inl a : Key) = Sum.inr b) = false := decide_eq_false (fun q => nomatch q)
theorem key_rl (a : Str) (b : Int) : decide ((Sum.inr a : Key) = Sum.inl b) = false := decide_eq_false (fun q => nomatch q)

def mixKind (prog : Program) (w : World) : PySem.KeyKind prog w Key where
  is := keyIs
  hash := keyH w
  inj := fun v a b ha hb => by
    rcases keyIs_shape ha with ⟨i, t, rfl, rfl⟩ | ⟨x, t, rfl, rfl⟩
    · rcases keyIs_shape hb with ⟨j, u, rfl, e⟩ | ⟨y, u, rfl, e⟩
      · injection e with e1 _; rw [e1]
      · exact nomatch e
    · rcases keyIs_shape hb with ⟨j, u, rfl, e⟩ | ⟨y, u, rfl, e⟩
      · exact nomatch e
      · injection e with e1 _; rw [e1]
  byValue := fun k v h => by
    rcases keyIs_shape h with ⟨i, t, rfl, rfl⟩ | ⟨x, t, rfl, rfl⟩ <;> rfl
  pyHash := fun hv h => by
    rcases keyIs_shape hv with ⟨i, t, rfl, rfl⟩ | ⟨x, t, rfl, rfl⟩
    · exact wpAny_pyHash_int h
    · exact wpAny_pyHash_str h
  eqBool := fun hu hv h => by
    rcases keyIs_shape hu with ⟨i, t, rfl, rfl⟩ | ⟨x, t, rfl, rfl⟩
    · rcases keyIs_shape hv with ⟨j, u, rfl, rfl⟩ | ⟨y, u, rfl, rfl⟩
      · rw [key_ll] at h; exact wpAny_eqBool_int h
      · rw [key_lr] at h; exact SeqAt.EqAt.int_str i t y u _ _ _ _ h
    · rcases keyIs_shape hv with ⟨j, u, rfl, rfl⟩ | ⟨y, u, rfl, rfl⟩
      · rw [key_rl] at h; exact SeqAt.EqAt.str_int x t j u _ _ _ _ h
      · rw [key_rr] at h; exact wpAny_eqBool_str h
  «strs» := fun k x t v h => by
    rcases keyIs_shape h with ⟨i, u, rfl, e⟩ | ⟨y, u, rfl, e⟩
    · exact nomatch e
    · injection e with e1 _
      subst e1
      cases v <;> rfl

theorem mixKind_int (prog : Program) (w : World) (i : Int) (t : Tok) : (mixKind prog w).is (.inl i) (.int i t) = true := keyIs_int i t
theorem mixKind_str (prog : Program) (w : World) (x : Str) (t : Tok) : (mixKind prog w).is (.inr x) (.str x t) = true := keyIs_str x t
end L2

namespace L2
open PySem PySem.Spec PyProof.Rows

/-- a value, without the heap -/
inductive V where
  | non | bl (b : Bool) | int (i : Int) | str (x : Str) | byt (b : Array UInt8) | flt (b : UInt64) | ref (a : Addr) | ty (n : String)
  deriving DecidableEq

def RelV : V → Value → Prop
  | .non, u => u = Value.none
  | .bl b, u => u = Value.bool b
  | .int i, u => ∃ t, u = Value.int i t
  | .str x, u => ∃ t, u = Value.str x t
  | .byt b, u => ∃ t, u = Value.bytes b t
  | .flt b, u => ∃ t, u = Value.float b t
  | .ref a, u => u = Value.ref a
  | .ty n, u => u = Value.type n

abbrev Vals : List V → List Value → Prop := Paired RelV
theorem Vals.length {xs : List V} {us : List Value} (r : Vals xs us) : xs.length = us.length := Paired.length r
theorem Vals.get : ∀ {xs : List V} {us : List Value} {i : Nat} {x : V}, Vals xs us → xs[i]? = some x → ∃ u, us[i]? = some u ∧ RelV x u
  | _, _, _, _, .nil, e => by simp at e
  | _, _, 0, _, .cons r _, e => by simp at e; subst e; exact ⟨_, rfl, r⟩
  | _, _, i + 1, x, .cons _ t, e => by
    obtain ⟨u, h1, h2⟩ := Vals.get (i := i) (x := x) t (by simpa using e)
    exact ⟨u, by simpa using h1, h2⟩
theorem Vals.set {x : V} {u : Value} (r : RelV x u) : ∀ {xs : List V} {us : List Value} (i : Nat), Vals xs us → Vals (xs.set i x) (us.set i u)
  | _, _, _, .nil => .nil
  | _, _, 0, .cons _ t => .cons r t
  | _, _, i + 1, .cons q t => .cons q (Vals.set r i t)
theorem Vals.append : ∀ {xs ys : List V} {us ws : List Value}, Vals xs us → Vals ys ws → Vals (xs ++ ys) (us ++ ws)
  | _, _, _, _, .nil, s => s
  | _, _, _, _, .cons r t, s => .cons r (Vals.append t s)
theorem Vals.take : ∀ {xs : List V} {us : List Value} (n : Nat), Vals xs us → Vals (xs.take n) (us.take n)
  | _, _, 0, _ => .nil
  | _, _, _ + 1, .nil => .nil
  | _, _, n + 1, .cons r t => .cons r (Vals.take n t)
theorem Vals.drop : ∀ {xs : List V} {us : List Value} (n : Nat), Vals xs us → Vals (xs.drop n) (us.drop n)
  | _, _, 0, r => r
  | _, _, _ + 1, .nil => .nil
  | _, _, n + 1, .cons _ t => Vals.drop n t

def RelO : Option V → Option Value → Prop
  | some v, some u => RelV v u
  | none, none => True
  | _, _ => False
def KV {κ : Type} : List (κ × V) → List (κ × Value) → Prop := Paired fun (p : κ × V) (q : κ × Value) => p.1 = q.1 ∧ RelV p.2 q.2

/-- a key of a dict (00_mix): an int or a text -/
def kV : Key → V
  | .inl i => .int i
  | .inr x => .str x

/-- what stands at a tracked address -/
inductive HO where
  /-- a list -/
  | lst (xs : List V)
  /-- a tuple (never changes) -/
  | tup (xs : List V)
  /-- a dict whose keys are ints and texts; one whose keys are tuples of ints and texts (the empty one is both) -/
  | dK (kvs : List (Key × V)) | dT (kvs : List (List Key × V))
  /-- a set of ints: its members, its size -/
  | set (S : Int → Bool) (n : Nat)
  /-- an instance of the class at C, its dict at dx, its attributes -/
  | ins (C dx : Addr) (fs : List (Str × V))
  /-- the dict of the instance at x -/
  | own (x : Addr)
  /-- the dict of an exception -/
  | xd (fs : List (Str × V))
  /-- a bound method, f of x -/
  | met (f x : Addr)
  /-- a range object lo, lo + 1, .. below hi -/
  | rng (lo hi : Int)
  /-- a thing that is known to the object (the script; a dict while a loop walks it): read, never written while it is so -/
  | frz (o : Obj) (u : HO)
  /-- a code object's table -/
  | tbl (ps : Array Value)
  /-- any other thing, by what is true of its one object (a def of one's own: SetO a S n := HO.ext fun h => ..) -/
  | ext (φ : Heap → Prop)

abbrev Hp := Addr → Option HO
def upd (H : Hp) (a : Addr) (o : HO) : Hp := fun b => if b = a then some o else H b
theorem upd_same {H : Hp} {a : Addr} {o : HO} : upd H a o a = some o := by unfold upd; rw [if_pos rfl]
theorem upd_ne {H : Hp} {a b : Addr} {o : HO} (h : b ≠ a) : upd H a o b = H b := by unfold upd; rw [if_neg h]
theorem upd_upd {H : Hp} {a : Addr} {o u : HO} : upd (upd H a o) a u = upd H a u := by
  funext b; unfold upd; split <;> rfl
/-- two objects of different content stand apart -/
theorem ne_of {H : Hp} {a b : Addr} {o u : HO} (h : H a = some o) (h' : H b = some u) (d : o ≠ u) : a ≠ b := by
  intro e; subst e; rw [h] at h'; exact d (Option.some.inj h')
theorem ne_of_none {H : Hp} {a b : Addr} {o : HO} (h : H a = some o) (h' : H b = none) : a ≠ b := by
  intro e; subst e; rw [h] at h'; cases h'

section
variable (P : Program) (w : World)
def ObjOk (H : Hp) (h : Heap) (a : Addr) : HO → Prop
  | .lst xs => xs.length ≤ sizeLine ∧ ∃ (its : List Value) (n : Nat), Vals xs its ∧ h.get? a = some { cls := .type "list", data := .seq its.toArray n }
  | .tup xs => xs.length ≤ sizeLine ∧ ∃ its : List Value, Vals xs its ∧ IsTup h a its.toArray
  | .dK kvs => kvs.length ≤ sizeLine ∧ (a == sysModules) = false ∧ ∃ vs, KV kvs vs ∧ h.DictOf (mixKind P w) a vs
  | .dT kvs => kvs.length ≤ sizeLine ∧ (a == sysModules) = false ∧ ∃ xs : List (List Key × Addr × Value),
      Paired (fun (p : List Key × V) (q : List Key × Addr × Value) => p.1 = q.1 ∧ H q.2.1 = some (.tup (p.1.map kV)) ∧ RelV p.2 q.2.2) kvs xs ∧
      ∃ o es ep, h.get? a = some o ∧ o.ExactDict ∧ o.data = .dict es ep ∧ es.toList = xs.map (entryOfKey (tupleKind (mixKind P w))) ∧ (xs.map (·.1)).Nodup
  | .set S n => h.SetOf (intKind P w) a S n
  | .ins C dx fs => H dx = some (.own a) ∧ fs.length ≤ 1000 ∧ dx ≠ a ∧ h.get? a = some (PySem.W.instObj C dx) ∧
      ∃ mA, h.Ns1 dx mA ∧ (∀ f, RelO (fs.lookup f) (mA f)) ∧ PySem.Within mA (fs.map (·.1))
  | .own _ => ∃ o, h.get? a = some o
  | .xd fs => ∃ mA, h.Ns1 a mA ∧ ∀ f, RelO (fs.lookup f) (mA f)
  | .rng lo hi => ∃ t u v, h.get? a = some { cls := .type "range", data := .fields #[.int lo t, .int hi u, .int 1 v] }
  | .frz o u => h.get? a = some o ∧ ObjOk H h a u
  | .tbl ps => h.get? a = some { cls := .none, data := .fields ps }
  | .met f x => h.get? a = some (PySem.W.methodObj (.ref f) (.ref x))
  | .ext φ => φ h ∧ (∃ o, h.get? a = some o) ∧ ∀ h1 h2 : Heap, φ h1 → (∀ o, h1.get? a = some o → h2.get? a = some o) → φ h2
/-- the abstract heap is held -/
def HOk (H : Hp) (h : Heap) : Prop := ∀ a o, H a = some o → ObjOk P w H h a o
end

section
variable {P : Program} {w : World} {H H' : Hp} {h h' : Heap} {a : Addr} {o : HO}
theorem ObjOk.lt (x : ObjOk P w H h a o) : a < h.objs.size := by
  cases o with
  | lst xs => obtain ⟨_, _, _, _, e⟩ := x; exact Heap.lt_size e
  | tup xs => obtain ⟨_, _, _, p⟩ := x; exact p.lt
  | dK kvs => obtain ⟨_, _, _, _, o, _, _, e, _⟩ := x; exact Heap.lt_size e
  | dT kvs => obtain ⟨_, _, _, _, o, _, _, e, _⟩ := x; exact Heap.lt_size e
  | set S n => obtain ⟨o, _, _, _, e, _⟩ := x; exact Heap.lt_size e
  | ins C dx fs => obtain ⟨_, _, _, e, _⟩ := x; exact Heap.lt_size e
  | own y => obtain ⟨_, e⟩ := x; exact Heap.lt_size e
  | xd fs => obtain ⟨_, ⟨_, _, _, e, _⟩, _⟩ := x; exact Heap.lt_size e
  | rng lo hi => obtain ⟨_, _, _, e⟩ := x; exact Heap.lt_size e
  | frz ob u => obtain ⟨e, _⟩ := x; exact Heap.lt_size e
  | tbl ps => exact Heap.lt_size (show h.get? a = some _ from x)
  | met f y => exact Heap.lt_size (show h.get? a = some _ from x)
  | ext φ => obtain ⟨_, ⟨_, e⟩, _⟩ := x; exact Heap.lt_size e
theorem Paired.mapP {α β : Type} {F G : α → β → Prop} : ∀ {l₁ : List α} {l₂ : List β}, Paired F l₁ l₂ → (∀ a b, F a b → G a b) → Paired G l₁ l₂
  | _, _, .nil, _ => .nil
  | _, _, .cons r t, f => .cons (f _ _ r) (Paired.mapP t f)
/-- what an object's description leans on: its own object, its own dict, the tuples -/
theorem ObjOk.stay (x : ObjOk P w H h a o) (k : ∀ b u, (b = a ∨ H b = some (.own a)) → h.get? b = some u → h'.get? b = some u)
    (ho : ∀ b, H b = some (.own a) → H' b = some (.own a)) (ht : ∀ b xs, H b = some (.tup xs) → H' b = some (.tup xs)) : ObjOk P w H' h' a o := by
  induction o with
  | lst xs => obtain ⟨z, its, n, r, e⟩ := x; exact ⟨z, its, n, r, k _ _ (.inl rfl) e⟩
  | tup xs => obtain ⟨z, its, r, ob, e, c⟩ := x; exact ⟨z, its, r, ob, k _ _ (.inl rfl) e, c⟩
  | dK kvs => obtain ⟨z, y, vs, r, ob, es, ep, e, c⟩ := x; exact ⟨z, y, vs, r, ob, es, ep, k _ _ (.inl rfl) e, c⟩
  | dT kvs =>
    obtain ⟨z, y, xs, r, ob, es, ep, e, c⟩ := x
    exact ⟨z, y, xs, Paired.mapP r fun p q z => ⟨z.1, ht _ _ z.2.1, z.2.2⟩, ob, es, ep, k _ _ (.inl rfl) e, c⟩
  | set S n => obtain ⟨ob, es, ep, t, e, c⟩ := x; exact ⟨ob, es, ep, t, k _ _ (.inl rfl) e, c⟩
  | ins C dx fs =>
    obtain ⟨d, z, ne, e, mA, ⟨od, es, ep, e2, c⟩, r⟩ := x
    exact ⟨ho _ d, z, ne, k _ _ (.inl rfl) e, mA, ⟨od, es, ep, k _ _ (.inr d) e2, c⟩, r⟩
  | own y => obtain ⟨ob, e⟩ := x; exact ⟨ob, k _ _ (.inl rfl) e⟩
  | xd fs => obtain ⟨mA, ⟨od, es, ep, e, c⟩, r⟩ := x; exact ⟨mA, ⟨od, es, ep, k _ _ (.inl rfl) e, c⟩, r⟩
  | rng lo hi => obtain ⟨t, u, v, e⟩ := x; exact ⟨t, u, v, k _ _ (.inl rfl) e⟩
  | frz ob u ih => obtain ⟨e, q⟩ := x; exact ⟨k _ _ (.inl rfl) e, ih q⟩
  | tbl ps =>
    have e : h.get? a = some { cls := .none, data := .fields ps } := x
    show h'.get? a = some { cls := .none, data := .fields ps }
    exact k a _ (.inl rfl) e
  | met f y =>
    have e : h.get? a = some (PySem.W.methodObj (.ref f) (.ref y)) := x
    show h'.get? a = some (PySem.W.methodObj (.ref f) (.ref y))
    exact k a _ (.inl rfl) e
  | ext φ => obtain ⟨p, ⟨o, e⟩, st⟩ := x; exact ⟨st _ _ p fun o q => k _ _ (.inl rfl) q, ⟨o, k _ _ (.inl rfl) e⟩, st⟩
theorem HOk.lt (x : HOk P w H h) (e : H a = some o) : a < h.objs.size := (x a o e).lt
theorem HOk.fresh (x : HOk P w H h) (e : h.objs.size ≤ a) : H a = none := by
  cases q : H a with
  | none => rfl
  | some u => exact absurd (Nat.lt_of_lt_of_le (x.lt q) e) (Nat.lt_irrefl _)
/-- every object of the heap is kept -/
theorem HOk.kept (x : HOk P w H h) (k : ∀ b u, h.get? b = some u → h'.get? b = some u) : HOk P w H h' := fun a o e =>
  (x a o e).stay (fun b u _ q => k b u q) (fun _ q => q) fun _ _ q => q
/-- a new object is laid and tracked -/
theorem HOk.laid (x : HOk P w H h) (k : ∀ b u, h.get? b = some u → h'.get? b = some u) (hp : h.objs.size ≤ a) (new : ObjOk P w (upd H a o) h' a o) : HOk P w (upd H a o) h' := fun b u e => by
  have hn := x.fresh hp
  by_cases hb : b = a
  · subst hb; rw [upd_same] at e; cases e; exact new
  · rw [upd_ne hb] at e
    exact (x b u e).stay (fun c v _ q => k c v q) (fun c q => by rw [upd_ne (ne_of_none q hn)]; exact q) fun c xs q => by rw [upd_ne (ne_of_none q hn)]; exact q
end

/-- what may be read as u: it is u, or a known u -/
def Rd (H : Hp) (a : Addr) (u : HO) : Prop := H a = some u ∨ ∃ o, H a = some (.frz o u)
theorem Rd.of {H : Hp} {a : Addr} {u : HO} (h : H a = some u) : Rd H a u := .inl h
theorem Rd.ok {P : Program} {w : World} {H : Hp} {h : Heap} {a : Addr} {u : HO} (r : Rd H a u) (x : HOk P w H h) : ObjOk P w H h a u := by
  rcases r with r | ⟨o, r⟩
  · exact x a u r
  · obtain ⟨_, q⟩ := x a _ r
    exact q
/-- what may be written -/
def Mut : Option HO → Prop
  | some (.lst _) => True
  | some (.dK _) => True
  | some (.dT _) => True
  | some (.set _ _) => True
  | some (.ins _ _ _) => True
  | some (.ext _) => True
  | _ => False
section
variable {P : Program} {w : World} {H : Hp} {h h' : Heap} {x e : Addr} {o' : HO}
/-- the object at e is changed: x itself, or the dict of the instance x -/
theorem HOk.write (ok : HOk P w H h) (mu : Mut (H x)) (he : e = x ∨ H e = some (.own x)) (k : ∀ b u, b ≠ e → h.get? b = some u → h'.get? b = some u) (heo : ∃ u, h'.get? e = some u)
    (new : ObjOk P w (upd H x o') h' x o') : HOk P w (upd H x o') h' := fun b u q => by
  have nown : ∀ c y, H c = some (.own y) → c ≠ x := fun c y r z => by subst z; rw [r] at mu; exact mu
  have ntup : ∀ c xs, H c = some (.tup xs) → c ≠ x := fun c xs r z => by subst z; rw [r] at mu; exact mu
  by_cases hb : b = x
  · subst hb; rw [upd_same] at q; cases q; exact new
  · rw [upd_ne hb] at q
    by_cases hbe : b = e
    · have q' : H b = some (.own x) := by
        rcases he with z | z
        · exact absurd (hbe.trans z) hb
        · rw [hbe]; exact z
      rw [q] at q'; cases q'
      obtain ⟨v, hv⟩ := heo
      exact ⟨v, by rw [hbe]; exact hv⟩
    · refine (ok b u q).stay (fun c v hc r => k c v ?_ r) (fun c r => by rw [upd_ne (nown c b r)]; exact r) fun c xs r => by rw [upd_ne (ntup c xs r)]; exact r
      rcases hc with rfl | hc
      · exact hbe
      · rintro rfl
        rcases he with z | z
        · exact nown c b hc z
        · rw [hc] at z; cases z; exact hb rfl
end

/-! ### kept unless tracked; of the frames at fs (the callers') the slots may change (an exception that passes writes there); of the records at ex (iterators) nothing is said -/
structure Un (fs ex : List Addr) (H H' : Hp) (h h' : Heap) : Prop where
  keep : ∀ b o, h.get? b = some o → H b = none → b ∉ fs → b ∉ ex → h'.get? b = some o
  slot : ∀ b o, h.get? b = some o → H b = none → b ∈ fs → b ∉ ex → ∃ sl, h'.get? b = some { o with slots := sl }
  free : ∀ b o, h.get? b = some o → H b = none → b ∉ ex → H' b = none
  there : ∀ b o, h.get? b = some o → b ∉ ex → ∃ o', h'.get? b = some o'
  tups : ∀ b xs, H b = some (.tup xs) → H' b = some (.tup xs)
  frzs : ∀ b o u, H b = some (.frz o u) → H' b = some (.frz o u)
  tbls : ∀ b ps, H b = some (.tbl ps) → ∃ more, H' b = some (.tbl (ps ++ more))
section
variable {fs fs' ex ex' : List Addr} {H H1 H2 : Hp} {h h1 h2 h' : Heap} {a x e : Addr} {o : HO}
theorem Un.any (u : Un fs ex H H1 h h1) {b : Addr} {ob : Obj} (q : h.get? b = some ob) (n : H b = none) (hx : b ∉ ex) : ∃ sl, h1.get? b = some { ob with slots := sl } := by
  by_cases hb : b ∈ fs
  · exact u.slot b ob q n hb hx
  · exact ⟨ob.slots, u.keep b ob q n hb hx⟩
theorem Un.trans (a : Un fs ex H H1 h h1) (b : Un fs ex H1 H2 h1 h2) : Un fs ex H H2 h h2 where
  keep := fun c ob q n hc hx => b.keep c ob (a.keep c ob q n hc hx) (a.free c ob q n hx) hc hx
  slot := fun c ob q n hc hx => by
    obtain ⟨sl, e1⟩ := a.slot c ob q n hc hx
    obtain ⟨sl', e2⟩ := b.slot c _ e1 (a.free c ob q n hx) hc hx
    exact ⟨sl', e2⟩
  free := fun c ob q n hx => by
    obtain ⟨o', e1⟩ := a.there c ob q hx
    exact b.free c o' e1 (a.free c ob q n hx) hx
  there := fun c ob q hx => by
    obtain ⟨o', e1⟩ := a.there c ob q hx
    exact b.there c o' e1 hx
  tups := fun c xs q => b.tups c xs (a.tups c xs q)
  frzs := fun c ob xs q => b.frzs c ob xs (a.frzs c ob xs q)
  tbls := fun c ps q => by
    obtain ⟨m1, e1⟩ := a.tbls c ps q
    obtain ⟨m2, e2⟩ := b.tbls c _ e1
    exact ⟨m1 ++ m2, by rw [e2, Array.append_assoc]⟩
theorem Un.kept (k : ∀ b u, h.get? b = some u → h'.get? b = some u) : Un fs ex H H h h' :=
  ⟨fun b ob q _ _ _ => k b ob q, fun b ob q _ _ _ => ⟨ob.slots, k b ob q⟩, fun _ _ _ n _ => n, fun b ob q _ => ⟨ob, k b ob q⟩, fun _ _ q => q, fun _ _ _ q => q, fun _ ps q => ⟨#[], by rw [q]; simp⟩⟩
theorem Un.refl : Un fs ex H H h h := Un.kept fun _ _ q => q
theorem Un.laid (k : ∀ b u, h.get? b = some u → h'.get? b = some u) (hp : h.objs.size ≤ a) (hn : H a = none) : Un fs ex H (upd H a o) h h' where
  keep := fun b u q _ _ _ => k b u q
  slot := fun b u q _ _ _ => ⟨u.slots, k b u q⟩
  free := fun b u q n _ => by rw [upd_ne (Nat.ne_of_lt (Nat.lt_of_lt_of_le (Heap.lt_size q) hp))]; exact n
  there := fun b u q _ => ⟨u, k b u q⟩
  tups := fun b xs q => by rw [upd_ne (ne_of_none q hn)]; exact q
  frzs := fun b u xs q => by rw [upd_ne (ne_of_none q hn)]; exact q
  tbls := fun b ps q => ⟨#[], by rw [upd_ne (ne_of_none q hn), q]; simp⟩
theorem Un.write (mu : Mut (H x)) (he : e = x ∨ H e = some (.own x)) (k : ∀ b u, b ≠ e → h.get? b = some u → h'.get? b = some u) (heo : ∃ u, h'.get? e = some u) : Un fs ex H (upd H x o) h h' := by
  have hx : ∀ b, H b = none → b ≠ x := fun b n z => by subst z; rw [n] at mu; exact mu
  have hb : ∀ b, H b = none → b ≠ e := fun b n z => by
    subst z
    rcases he with r | r
    · exact hx b n r
    · rw [n] at r; cases r
  have hm : ∀ b u, H b = some u → ¬ Mut (some u) → b ≠ x := fun b u q nm z => by subst z; rw [q] at mu; exact nm mu
  refine ⟨fun b u q n _ _ => k b u (hb b n) q, fun b u q n _ _ => ⟨u.slots, k b u (hb b n) q⟩, fun b u q n _ => by rw [upd_ne (hx b n)]; exact n, fun b u q _ => ?_,
    fun b xs q => by rw [upd_ne (hm b _ q fun z => z)]; exact q, fun b u xs q => by rw [upd_ne (hm b _ q fun z => z)]; exact q, fun b ps q => ⟨#[], by rw [upd_ne (hm b _ q fun z => z), q]; simp⟩⟩
  by_cases hbe : b = e
  · subst hbe; exact heo
  · exact ⟨u, k b u hbe q⟩
theorem Un.mono (u : Un fs ex H H1 h h1) (hs : ∀ b ∈ fs, b ∈ fs') (hx : ∀ b ∈ ex, b ∈ ex') : Un fs' ex' H H1 h h1 :=
  ⟨fun b ob q n hb he => u.keep b ob q n (fun z => hb (hs b z)) fun z => he (hx b z), fun _ _ q n _ he => u.any q n fun z => he (hx _ z), fun b ob q n he => u.free b ob q n fun z => he (hx b z), fun b ob q he => u.there b ob q fun z => he (hx b z), u.tups, u.frzs, u.tbls⟩
end

/-! ### the heap without what is tracked -/
def trk (h : Heap) (H : Hp) : List Addr := (List.range h.objs.size).filter fun a => (H a).isSome
def hidT (h : Heap) (H : Hp) : Heap := PySem.W.hideAll h (trk h H)
theorem hidT_size (h : Heap) (H : Hp) : (hidT h H).objs.size = h.objs.size := PySem.W.hideAll_size _ _
theorem hidT_get {h : Heap} {H : Hp} {b : Addr} {o : Obj} (e : h.get? b = some o) (n : H b = none) : (hidT h H).get? b = some o :=
  PySem.W.hideAll_get _ e fun hm => by
    have q : (H b).isSome = true := (List.mem_filter.mp hm).2
    rw [n] at q; simp at q
theorem of_hidT {h : Heap} {H : Hp} {b : Addr} {o : Obj} (e : (hidT h H).get? b = some o) : h.get? b = some o ∧ H b = none := by
  have e' : h.get? b = some o := PySem.W.of_hideAll (trk h H) e
  refine ⟨e', ?_⟩
  cases q : H b with
  | none => rfl
  | some x =>
    have hm : b ∈ trk h H := List.mem_filter.mpr ⟨List.mem_range.mpr (Heap.lt_size e'), by simp [q]⟩
    have z : (hidT h H).get? b = none := PySem.W.hideAll_none (trk h H) hm
    rw [z] at e; cases e

/-! ### OpenK's ledger, filled with every new object but one -/
def allNews (g h : Heap) (L : Addr) : List (Addr × Obj) := (List.range h.objs.size).filterMap fun a => if a = L ∨ (g.get? a).isSome = true then none else (h.get? a).map fun o => (a, o)
def rest (g h : Heap) (L d : Addr) : List (Addr × Obj) := (allNews g h L).filter fun p => decide (p.1 ≠ d)
end L2

namespace L2
open PySem PySem.Spec PyProof.Rows

/-- the module's facts, over the base: the heap at the law's entry without what is tracked there -/
structure Mod (K : PySem.W.Frag) (mg : Str → Option Value) (base : Heap) : Prop where
  kin : K.In base
  glob : base.Ns mainGlobals mg
  blt : ∃ mb, base.Ns builtinsNs mb ∧ ∀ x : Str, x ≠ "__name__" → mb x = bootBuiltins x
  nolimit : base.NoLimit

/-- the context: a def's body (or a comprehension's block) running. base: fixed through the whole law; s₀, H₀: the entry; outer: the frames whose slots others may change (a def's callers); stack: all frames that run;
   ex: iterators that were made ahead of the entry and are walked here (a comprehension's); fn: the names whose cells were made at the entry (a def: all; a comprehension's block: its own); calm: not within an except suite; pn: pins that every state bears; xe: what is wanted of an exception that leaves the code -/
structure Cx where
  prog : Program
  w : World
  K : PySem.W.Frag
  mg : Str → Option Value
  base : Heap
  A : Around
  N : List Str
  s₀ : Shared
  H₀ : Hp
  env : Env
  outer : List Env
  stack : List Env
  ex : List Addr
  fn : Str → Bool
  calm : Bool
  pn : List (Addr × Obj)
  xe : Value → Shared → Prop
/-- the callers' frames -/
def frs (l : List Env) : List Addr := l.filterMap (·.frame)
abbrev Cx.fs (X : Cx) : List Addr := frs X.outer

def Vis (sc : Scope) (x : Str) : Prop := sc.names.lookup x = some .local ∨ sc.names.lookup x = some .cell ∨ sc.names.lookup x = some .free
def Loc (sc : Scope) (x : Str) : Prop := sc.names.lookup x = some .local ∨ sc.names.lookup x = some .cell
def Look (env : Env) (h : Heap) (m : Str → Option Value) (x : Str) (u : Value) : Prop :=
  (env.kindOf x = some .local ∧ m x = some u) ∨ ((env.kindOf x = some .cell ∨ env.kindOf x = some .free) ∧ ∃ c, env.cells.lookup x = some c ∧ h.IsCell c (some u))

structure Cx.Ok (X : Cx) : Prop where
  mod : Mod X.K X.mg X.base
  kind : X.env.scope.kind = .function
  glob : X.env.globals = mainGlobals
  blt : X.env.builtins = builtinsNs
  above : X.s₀.heap.objs.size ≤ X.env.locals
  inj : ∀ x y c, X.env.cells.lookup x = some c → X.env.cells.lookup y = some c → x = y
  has : ∀ x, (X.env.kindOf x = some .cell ∨ X.env.kindOf x = some .free) → ∃ c, X.env.cells.lookup x = some c
  cab : ∀ x c, X.fn x = true → X.env.cells.lookup x = some c → X.s₀.heap.objs.size ≤ c
  hd : X.calm = true → X.A.handled = none
  frames : X.A.frames = some X.stack
  stk : X.stack = X.outer ∨ (X.stack = X.env :: X.outer ∧ X.env.frame = some X.env.locals)
  exf : ∀ b ∈ X.ex, b ≠ X.env.locals ∧ ∀ x c, X.env.cells.lookup x = some c → c ≠ b
  bs : ∀ b o, X.base.get? b = some o → X.s₀.heap.get? b = some o ∧ X.H₀ b = none
  bsz : X.base.objs.size ≤ X.s₀.heap.objs.size
  noex : ∀ b o, X.base.get? b = some o → b ∉ X.ex
  exfs : ∀ b ∈ X.ex, b ∉ X.fs
  funs : X.s₀.heap.FunFrames X.base X.outer
  frf : ∀ b ∈ X.fs, X.H₀ b = none

structure Inv (X : Cx) (pins : List (Addr × Obj)) (σ : List (Option V)) (H : Hp) (s : Shared) : Prop where
  ok : X.Ok
  os : s.os = X.s₀.os
  bare : AllBare s.gens
  base : Un X.fs X.ex X.H₀ H X.s₀.heap s.heap
  loc : ∃ m, s.heap.Ns X.env.locals m ∧ ∀ (i : Nat) (x : Str) (v : V), X.N[i]? = some x → σ[i]? = some (some v) → Vis X.env.scope x → ∃ u, RelV v u ∧ Look X.env s.heap m x u
  cell : ∀ x c, X.env.cells.lookup x = some c → ∃ v, s.heap.IsCell c v
  free : H X.env.locals = none
  freeC : ∀ x c, X.env.cells.lookup x = some c → H c = none
  pin : ∀ p ∈ X.pn ++ pins, s.heap.get? p.1 = some p.2 ∧ H p.1 = none ∧ p.1 ≠ X.env.locals ∧ p.1 ∉ X.fs ∧ ∀ v, p.2.data ≠ .cell v
  hok : HOk X.prog X.w H s.heap
  len : σ.length = X.N.length

section
variable {X : Cx} {pins : List (Addr × Obj)} {σ : List (Option V)} {H H' : Hp} {s : Shared} {h' : Heap}

theorem Cx.Ok.nofr (ok : X.Ok) {b : Addr} {o : Obj} (e : X.base.get? b = some o) : b ∉ X.fs := fun hb => by
  have := (ok.funs.mem hb).1
  rw [e] at this; cases this
theorem Inv.bs (I : Inv X pins σ H s) : ∀ b o, X.base.get? b = some o → s.heap.get? b = some o ∧ H b = none := fun b o e =>
  ⟨I.base.keep b o (I.ok.bs b o e).1 (I.ok.bs b o e).2 (I.ok.nofr e) (I.ok.noex b o e), I.base.free b o (I.ok.bs b o e).1 (I.ok.bs b o e).2 (I.ok.noex b o e)⟩
theorem Inv.bk (I : Inv X pins σ H s) : ∀ b o, X.base.get? b = some o → s.heap.get? b = some o := fun b o e => (I.bs b o e).1
theorem Inv.mod (I : Inv X pins σ H s) : Mod X.K X.mg X.base := I.ok.mod
theorem Inv.kIn (I : Inv X pins σ H s) : X.K.In s.heap := I.ok.mod.kin.keeps I.bk
theorem Inv.nolimit (I : Inv X pins σ H s) : s.heap.NoLimit := I.ok.mod.nolimit.keeps I.bk
theorem Inv.lt (I : Inv X pins σ H s) : X.env.locals < s.heap.objs.size := let ⟨_, hn, _⟩ := I.loc; hn.lt
theorem Inv.sz (I : Inv X pins σ H s) : X.s₀.heap.objs.size ≤ s.heap.objs.size := Nat.le_trans I.ok.above (Nat.le_of_lt I.lt)
theorem Inv.nofs (I : Inv X pins σ H s) {a : Addr} (h : s.heap.objs.size ≤ a) : a ∉ X.fs := fun hb => by
  obtain ⟨_, o, ho, _⟩ := I.ok.funs.mem hb
  exact absurd (Nat.lt_of_lt_of_le (Heap.lt_size ho) (Nat.le_trans I.sz h)) (Nat.lt_irrefl _)
theorem Inv.cne (I : Inv X pins σ H s) : ∀ x c, X.env.cells.lookup x = some c → c ≠ X.env.locals := fun x c e z => by
  obtain ⟨v, o, ho, hd⟩ := I.cell x c e
  obtain ⟨m, ⟨o', es, ep, ho', hd', _⟩, _⟩ := I.loc
  rw [z, ho'] at ho; cases ho; rw [hd'] at hd; cases hd
theorem Inv.funs (I : Inv X pins σ H s) : s.heap.FunFrames X.base X.outer := by
  have all : ∀ (l : List Env), (∀ b ∈ frs l, b ∈ X.fs) → X.s₀.heap.FunFrames X.base l → s.heap.FunFrames X.base l := by
    intro l
    induction l with
    | nil => intro _ _; trivial
    | cons env r ih =>
      intro hs hl
      obtain ⟨hk, ⟨L, o, hf, hn, ho, hd⟩, hr⟩ := hl
      have hL : L ∈ X.fs := hs L (by unfold frs; rw [List.filterMap_cons, hf]; exact List.mem_cons_self)
      obtain ⟨sl, e⟩ := I.base.slot L o ho (I.ok.frf L hL) hL fun z => I.ok.exfs L z hL
      exact ⟨hk, ⟨L, _, hf, hn, e, hd⟩, ih (fun b hb => hs b (by unfold frs; rw [List.filterMap_cons, hf]; exact List.mem_cons_of_mem _ hb)) hr⟩
  exact all X.outer (fun _ hb => hb) I.ok.funs

/-- the frames that run, for a call -/
theorem Inv.stack (I : Inv X pins σ H s) : s.heap.FunFrames X.base X.stack := by
  rcases I.ok.stk with e | ⟨e, hf⟩
  · rw [e]; exact I.funs
  · rw [e]
    obtain ⟨m, hn, _⟩ := I.loc
    refine .cons (by rw [I.ok.kind]; decide) hf hn ?_ I.funs
    exact Heap.get?_none_of_le (Nat.le_trans I.ok.bsz I.ok.above)
theorem Inv.stkSub (I : Inv X pins σ H s) : ∀ b ∈ frs X.stack, b ∈ X.env.locals :: X.fs := fun b hb => by
  rcases I.ok.stk with e | ⟨e, hf⟩
  · rw [e] at hb; exact List.mem_cons_of_mem _ hb
  · rw [e] at hb
    unfold frs at hb
    rw [List.filterMap_cons, hf] at hb
    exact hb
theorem Inv.stkFree (I : Inv X pins σ H s) : ∀ b ∈ frs X.stack, H b = none := fun b hb => by
  rcases List.mem_cons.mp (I.stkSub b hb) with e | hb
  · rw [e]; exact I.free
  · obtain ⟨_, o, ho, _⟩ := I.ok.funs.mem hb
    exact I.base.free b o ho (I.ok.frf b hb) fun z => I.ok.exfs b z hb

/-- THE STEP: the untracked objects but the frame and the records at ch are kept (the callers' frames up to slots), the frame's map is kept, the new abstract heap is held -/
theorem Inv.step {g' : Array GenState} {t' : Nat} {d' : Drawn} {ch : List Addr} (I : Inv X pins σ H s)
    (hch : ∀ b ∈ ch, (b ∈ X.ex ∨ X.s₀.heap.objs.size ≤ b) ∧ b ≠ X.env.locals ∧ (∀ x c, X.env.cells.lookup x = some c → c ≠ b) ∧ ∀ p ∈ X.pn ++ pins, p.1 ≠ b)
    (keep : ∀ b o, b ≠ X.env.locals → b ∉ X.fs → b ∉ ch → s.heap.get? b = some o → H b = none → h'.get? b = some o)
    (slot : ∀ b o, b ≠ X.env.locals → b ∈ X.fs → b ∉ ch → s.heap.get? b = some o → H b = none → ∃ sl, h'.get? b = some { o with slots := sl }) (free : ∀ b o, b ∉ ch → s.heap.get? b = some o → H b = none → H' b = none)
    (there : ∀ b o, b ∉ ch → s.heap.get? b = some o → ∃ o', h'.get? b = some o')
    (tups : ∀ b xs, H b = some (.tup xs) → H' b = some (.tup xs)) (frzs : ∀ b o u, H b = some (.frz o u) → H' b = some (.frz o u)) (tbls : ∀ b ps, H b = some (.tbl ps) → ∃ more, H' b = some (.tbl (ps ++ more)))
    (ns : ∀ m, s.heap.Ns X.env.locals m → h'.Ns X.env.locals m) (hok : HOk X.prog X.w H' h') (hg : AllBare g') :
    Inv X pins σ H' { s with heap := h', gens := g', drawn := d', toks := t' } := by
  have neL : ∀ b o, X.s₀.heap.get? b = some o → b ≠ X.env.locals := fun b o e => Nat.ne_of_lt (Nat.lt_of_lt_of_le (Heap.lt_size e) I.ok.above)
  have neC : ∀ b o, X.s₀.heap.get? b = some o → b ∉ X.ex → b ∉ ch := fun b o e hx hb => by
    rcases (hch b hb).1 with z | z
    · exact hx z
    · exact absurd (Nat.lt_of_lt_of_le (Heap.lt_size e) z) (Nat.lt_irrefl _)
  have cellK : ∀ x c, X.env.cells.lookup x = some c → ∀ v, s.heap.IsCell c v → h'.IsCell c v := fun x c e v ⟨o, ho, hd⟩ => by
    have nch : c ∉ ch := fun z => (hch c z).2.2.1 x c e rfl
    by_cases hc : c ∈ X.fs
    · obtain ⟨sl, q⟩ := slot c o (I.cne x c e) hc nch ho (I.freeC x c e)
      exact ⟨_, q, hd⟩
    · exact ⟨o, keep c o (I.cne x c e) hc nch ho (I.freeC x c e), hd⟩
  refine ⟨I.ok, I.os, hg, ⟨fun b o e n hb hx => ?_, fun b o e n hb hx => ?_, fun b o e n hx => ?_, fun b o e hx => ?_, fun b xs e => tups b xs (I.base.tups b xs e), fun b o xs e => frzs b o xs (I.base.frzs b o xs e), fun b ps e => ?_⟩, ?_, fun x c e => ?_, ?_, fun x c e => ?_, fun p hp => ?_, hok, I.len⟩
  · exact keep b o (neL b o e) hb (neC b o e hx) (I.base.keep b o e n hb hx) (I.base.free b o e n hx)
  · obtain ⟨sl, e1⟩ := I.base.slot b o e n hb hx
    obtain ⟨sl', e2⟩ := slot b _ (neL b o e) hb (neC b o e hx) e1 (I.base.free b o e n hx)
    exact ⟨sl', e2⟩
  · obtain ⟨o', e1⟩ := I.base.there b o e hx
    exact free b o' (neC b o e hx) e1 (I.base.free b o e n hx)
  · obtain ⟨o', e1⟩ := I.base.there b o e hx
    exact there b o' (neC b o e hx) e1
  · obtain ⟨m1, e1⟩ := I.base.tbls b ps e
    obtain ⟨m2, e2⟩ := tbls b _ e1
    exact ⟨m1 ++ m2, by rw [e2, Array.append_assoc]⟩
  · obtain ⟨m, hn, hl⟩ := I.loc
    refine ⟨m, ns m hn, fun i x v e1 e2 e3 => ?_⟩
    obtain ⟨u, r, l⟩ := hl i x v e1 e2 e3
    refine ⟨u, r, ?_⟩
    rcases l with l | ⟨k, c, e, z⟩
    · exact .inl l
    · exact .inr ⟨k, c, e, cellK x c e _ z⟩
  · obtain ⟨v, z⟩ := I.cell x c e
    exact ⟨v, cellK x c e v z⟩
  · obtain ⟨m, ⟨o, _, _, ho, _⟩, _⟩ := I.loc
    exact free _ o (fun z => (hch _ z).2.1 rfl) ho I.free
  · obtain ⟨v, o, ho, hd⟩ := I.cell x c e
    exact free c o (fun z => (hch c z).2.2.1 x c e rfl) ho (I.freeC x c e)
  · obtain ⟨e, n, ne, nf, d⟩ := I.pin p hp
    have nch : p.1 ∉ ch := fun z => (hch p.1 z).2.2.2 p hp rfl
    exact ⟨keep p.1 p.2 ne nf nch e n, free p.1 p.2 nch e n, ne, nf, d⟩
/-- .. where the frame's own object is kept too -/
theorem Inv.un {t' : Nat} (I : Inv X pins σ H s) (u : Un X.fs [] H H' s.heap h') (hok : HOk X.prog X.w H' h') : Inv X pins σ H' { s with heap := h', toks := t' } := by
  obtain ⟨m, ⟨o, es, ep, ho, r⟩, _⟩ := id I.loc
  obtain ⟨sl, hL⟩ := u.any ho I.free (by simp)
  exact I.step (g' := s.gens) (d' := s.drawn) (ch := []) (fun _ z => nomatch z) (fun b o _ hb _ e n => u.keep b o e n hb (by simp)) (fun b o _ hb _ e n => u.slot b o e n hb (by simp)) (fun b o _ e n => u.free b o e n (by simp)) (fun b o _ e => u.there b o e (by simp)) u.tups u.frzs u.tbls (fun m' hm => by
    obtain ⟨o', es', ep', ho', r'⟩ := hm
    rw [ho] at ho'; cases ho'
    exact ⟨_, es', ep', hL, r'⟩) hok I.bare
/-- behind a call (or a comprehension's block): the slots of this frame may have changed too, the records at ch may have turned -/
theorem Inv.call {g' : Array GenState} {t' : Nat} {d' : Drawn} {ch : List Addr} (I : Inv X pins σ H s) (u : Un (frs X.stack) ch H H' s.heap h') (hok : HOk X.prog X.w H' h') (hg : AllBare g')
    (hch : ∀ b ∈ ch, (b ∈ X.ex ∨ X.s₀.heap.objs.size ≤ b) ∧ b ≠ X.env.locals ∧ (∀ x c, X.env.cells.lookup x = some c → c ≠ b) ∧ ∀ p ∈ X.pn ++ pins, p.1 ≠ b) :
    Inv X pins σ H' { s with heap := h', gens := g', drawn := d', toks := t' } := by
  obtain ⟨m, ⟨o, es, ep, ho, r⟩, _⟩ := id I.loc
  obtain ⟨sl, hL⟩ := u.any ho I.free fun z => (hch _ z).2.1 rfl
  exact I.step (ch := ch) hch (fun b o hL hb hc e n => u.keep b o e n (fun z => (List.mem_cons.mp (I.stkSub b z)).elim hL hb) hc) (fun b o _ _ hc e n => u.any e n hc) (fun b o hc e n => u.free b o e n hc) (fun b o hc e => u.there b o e hc) u.tups u.frzs u.tbls (fun m' hm => by
    obtain ⟨o', es', ep', ho', r'⟩ := hm
    rw [ho] at ho'; cases ho'
    exact ⟨_, es', ep', hL, r'⟩) hok hg
/-- an untracked record of ours (an iterator) has turned -/
theorem Inv.turned {t' : Nat} {it : Addr} (I : Inv X pins σ H s) (k : ∀ b o, b ≠ it → s.heap.get? b = some o → h'.get? b = some o) (hn : H it = none) (hL : it ≠ X.env.locals)
    (h1 : it ∈ X.ex ∨ X.s₀.heap.objs.size ≤ it) (h2 : ∀ x c, X.env.cells.lookup x = some c → c ≠ it) (h3 : ∀ p ∈ X.pn ++ pins, p.1 ≠ it) : Inv X pins σ H { s with heap := h', toks := t' } := by
  have nit : ∀ b u, H b = some u → b ≠ it := fun b u e z => by rw [z, hn] at e; cases e
  refine I.step (g' := s.gens) (d' := s.drawn) (ch := [it]) (fun b hb => ?_) (fun b o _ _ hc e _ => k b o (fun z => hc (by simp [z])) e) (fun b o _ _ hc e _ => ⟨o.slots, k b o (fun z => hc (by simp [z])) e⟩) (fun _ _ _ _ n => n)
    (fun b o hc e => ⟨o, k b o (fun z => hc (by simp [z])) e⟩) (fun _ _ e => e) (fun _ _ _ e => e) (fun b ps e => ⟨#[], by rw [e]; simp⟩) (fun m hm => ?_) (fun b u e => ?_) I.bare
  · have e : b = it := by simpa using hb
    subst e
    exact ⟨h1, hL, h2, h3⟩
  · obtain ⟨o, es, ep, ho, r⟩ := hm
    exact ⟨o, es, ep, k _ o (Ne.symm hL) ho, r⟩
  · refine (I.hok b u e).stay (fun c v hc q => k c v ?_ q) (fun _ q => q) fun _ _ q => q
    rcases hc with z | z
    · rw [z]; exact nit b u e
    · exact nit c _ z
theorem Inv.tok (I : Inv X pins σ H s) (t : Nat) : Inv X pins σ H { s with toks := t } := I.un (h' := s.heap) (t' := t) Un.refl I.hok
/-- all objects kept -/
theorem Inv.kept {t' : Nat} (I : Inv X pins σ H s) (k : ∀ b u, s.heap.get? b = some u → h'.get? b = some u) : Inv X pins σ H { s with heap := h', toks := t' } := I.un (Un.kept k) (I.hok.kept k)
/-- a new object laid and tracked -/
theorem Inv.laid {a : Addr} {o : HO} {t' : Nat} (I : Inv X pins σ H s) (k : ∀ b u, s.heap.get? b = some u → h'.get? b = some u) (hp : s.heap.objs.size ≤ a) (new : ObjOk X.prog X.w (upd H a o) h' a o) :
    Inv X pins σ (upd H a o) { s with heap := h', toks := t' } := I.un (Un.laid k hp (I.hok.fresh hp)) (I.hok.laid k hp new)
/-- an object written -/
theorem Inv.write {x e : Addr} {o : HO} {t' : Nat} (I : Inv X pins σ H s) (mu : Mut (H x)) (he : e = x ∨ H e = some (.own x)) (k : ∀ b u, b ≠ e → s.heap.get? b = some u → h'.get? b = some u) (heo : ∃ u, h'.get? e = some u)
    (new : ObjOk X.prog X.w (upd H x o) h' x o) : Inv X pins σ (upd H x o) { s with heap := h', toks := t' } := I.un (Un.write mu he k heo) (I.hok.write mu he k heo new)
theorem Inv.pins_of {pins' : List (Addr × Obj)} (I : Inv X pins σ H s) (h : ∀ p ∈ pins', s.heap.get? p.1 = some p.2 ∧ H p.1 = none ∧ p.1 ≠ X.env.locals ∧ p.1 ∉ X.fs ∧ ∀ v, p.2.data ≠ .cell v) : Inv X pins' σ H s :=
  ⟨I.ok, I.os, I.bare, I.base, I.loc, I.cell, I.free, I.freeC, fun p hp => (List.mem_append.mp hp).elim (fun z => I.pin p (List.mem_append_left _ z)) (h p), I.hok, I.len⟩

theorem nodup_ix {N : List Str} (hN : N.Nodup) {i j : Nat} {x : Str} (a : N[i]? = some x) (b : N[j]? = some x) : i = j := by
  obtain ⟨h1, e1⟩ := List.getElem?_eq_some_iff.mp a
  obtain ⟨h2, e2⟩ := List.getElem?_eq_some_iff.mp b
  exact (List.getElem_inj hN).mp (e1.trans e2.symm)

/-- a name is stored; what changed -/
theorem store_ok2 {M : Model} {A : Around} {E : Value → Shared → Prop} {i : Nat} {x : Str} {v : V} {u : Value} {Q : Unit → Shared → Prop} (I : Inv X pins σ H s) (hN : X.N.Nodup) (hi : X.N[i]? = some x) (hx : Loc X.env.scope x) (r : RelV v u)
    (h : ∀ s', Inv X pins (σ.set i (some v)) H s' → (∃ a, Heap.SameBut a s.heap s'.heap ∧ (a = X.env.locals ∨ X.env.cells.lookup x = some a)) → Q () s') (hf : X.fn x = true ∨ X.env.scope.names.lookup x = some .local := by first | exact .inl rfl | exact .inr rfl | assumption) : wpAny M A (storeName X.env x u) Q E s := by
  obtain ⟨m, hn, hl⟩ := id I.loc
  have hcls : (X.env.scope.kind == .class || (X.env.scope.kind == .module && X.env.locals != X.env.globals)) = false := by rw [I.ok.kind]; rfl
  have hiσ : i < σ.length := by rw [I.len]; exact (List.getElem?_eq_some_iff.mp hi).1
  have cne := I.cne
  have tracked : ∀ {a : Addr} {h' : Heap}, (∃ o, s.heap.get? a = some o ∧ H a = none) → Heap.SameBut a s.heap h' → HOk X.prog X.w H h' := fun {a h'} ha hs b ob e => by
    obtain ⟨_, _, hfree⟩ := ha
    refine (I.hok b ob e).stay (fun c w' hc q => (hs.2 c ?_).trans q) (fun _ q => q) fun _ _ q => q
    rintro rfl
    rcases hc with rfl | hc
    · rw [hfree] at e; cases e
    · rw [hfree] at hc; cases hc
  rcases hx with hk | hk
  · refine wpAny_storeName_local hk hn (fun h' hn' hs => ?_) hcls
    obtain ⟨oL, _, _, hoL, _⟩ := id hn
    refine h _ ⟨I.ok, I.os, I.bare, ⟨fun b o e n hb hx => ?_, fun b o e n hb hx => ?_, I.base.free, fun b o e hx => ?_, I.base.tups, I.base.frzs, I.base.tbls⟩, ⟨_, hn', fun j y v' e1 e2 e3 => ?_⟩, fun y c e => ?_, I.free, I.freeC, fun p hp => ?_, tracked ⟨oL, hoL, I.free⟩ hs, by simpa using I.len⟩ ⟨_, hs, .inl rfl⟩
    · exact (hs.2 b (Nat.ne_of_lt (Nat.lt_of_lt_of_le (Heap.lt_size e) I.ok.above))).trans (I.base.keep b o e n hb hx)
    · obtain ⟨sl, e1⟩ := I.base.slot b o e n hb hx
      exact ⟨sl, (hs.2 b (Nat.ne_of_lt (Nat.lt_of_lt_of_le (Heap.lt_size e) I.ok.above))).trans e1⟩
    · obtain ⟨o', e1⟩ := I.base.there b o e hx
      exact ⟨o', (hs.2 b (Nat.ne_of_lt (Nat.lt_of_lt_of_le (Heap.lt_size e) I.ok.above))).trans e1⟩
    · by_cases hj : j = i
      · subst hj
        rw [hi] at e1; cases e1
        rw [List.getElem?_set_self hiσ] at e2
        cases e2
        exact ⟨u, r, .inl ⟨hk, by simp⟩⟩
      · rw [List.getElem?_set_ne (Ne.symm hj)] at e2
        obtain ⟨u', r', q⟩ := hl j y v' e1 e2 e3
        refine ⟨u', r', ?_⟩
        rcases q with ⟨k, e⟩ | ⟨k, c, e, z⟩
        · refine .inl ⟨k, ?_⟩
          have : y ≠ x := fun e => hj (nodup_ix hN e1 (e ▸ hi))
          simp [this, e]
        · exact .inr ⟨k, c, e, z.sameBut hs (cne y c e)⟩
    · obtain ⟨w', z⟩ := I.cell y c e
      exact ⟨w', z.sameBut hs (cne y c e)⟩
    · obtain ⟨e, n, ne, nf, d⟩ := I.pin p hp
      exact ⟨(hs.2 p.1 ne).trans e, n, ne, nf, d⟩
  · have hfn : X.fn x = true := by
      rcases hf with z | z
      · exact z
      · rw [z] at hk; cases hk
    obtain ⟨c, hc⟩ := I.ok.has x (.inl hk)
    obtain ⟨w', z⟩ := I.cell x c hc
    refine wpAny_storeName_cell I.ok.kind hk hc z (fun h' hc' hs => ?_)
    obtain ⟨oc, hoc, hocd⟩ := id z
    refine h { s with heap := h' } ⟨I.ok, I.os, I.bare, ⟨fun b o e n hb hx => ?_, fun b o e n hb hx => ?_, I.base.free, fun b o e hx => ?_, I.base.tups, I.base.frzs, I.base.tbls⟩, ⟨m, hn.sameBut hs (Ne.symm (cne x c hc)), fun j y v' e1 e2 e3 => ?_⟩, fun y c' e => ?_, I.free, I.freeC, fun p hp => ?_, tracked ⟨oc, hoc, I.freeC x c hc⟩ hs, by simpa using I.len⟩ ⟨c, hs, .inr hc⟩
    · exact (hs.2 b (Nat.ne_of_lt (Nat.lt_of_lt_of_le (Heap.lt_size e) (I.ok.cab x c hfn hc)))).trans (I.base.keep b o e n hb hx)
    · obtain ⟨sl, e1⟩ := I.base.slot b o e n hb hx
      exact ⟨sl, (hs.2 b (Nat.ne_of_lt (Nat.lt_of_lt_of_le (Heap.lt_size e) (I.ok.cab x c hfn hc)))).trans e1⟩
    · obtain ⟨o', e1⟩ := I.base.there b o e hx
      exact ⟨o', (hs.2 b (Nat.ne_of_lt (Nat.lt_of_lt_of_le (Heap.lt_size e) (I.ok.cab x c hfn hc)))).trans e1⟩
    · by_cases hj : j = i
      · subst hj
        rw [hi] at e1; cases e1
        rw [List.getElem?_set_self hiσ] at e2
        cases e2
        exact ⟨u, r, .inr ⟨.inl hk, c, hc, hc'⟩⟩
      · rw [List.getElem?_set_ne (Ne.symm hj)] at e2
        obtain ⟨u', r', q⟩ := hl j y v' e1 e2 e3
        refine ⟨u', r', ?_⟩
        rcases q with q | ⟨k, c', e, z'⟩
        · exact .inl q
        · refine .inr ⟨k, c', e, z'.sameBut hs ?_⟩
          rintro rfl
          exact hj (nodup_ix hN e1 (I.ok.inj _ _ _ e hc ▸ hi))
    · by_cases hcc : c' = c
      · subst hcc; exact ⟨_, hc'⟩
      · obtain ⟨w2, z2⟩ := I.cell y c' e
        exact ⟨w2, z2.sameBut hs hcc⟩
    · obtain ⟨e, n, ne, nf, d⟩ := I.pin p hp
      refine ⟨(hs.2 p.1 ?_).trans e, n, ne, nf, d⟩
      intro q
      rw [q, hoc] at e
      have q' : oc = p.2 := Option.some.inj e
      exact d w' (by rw [← q']; exact hocd)
theorem store_ok {M : Model} {A : Around} {E : Value → Shared → Prop} {i : Nat} {x : Str} {v : V} {u : Value} {Q : Unit → Shared → Prop} (I : Inv X pins σ H s) (hN : X.N.Nodup) (hi : X.N[i]? = some x) (hx : Loc X.env.scope x) (r : RelV v u)
    (h : ∀ s', Inv X pins (σ.set i (some v)) H s' → Q () s') (hf : X.fn x = true ∨ X.env.scope.names.lookup x = some .local := by first | exact .inl rfl | exact .inr rfl | assumption) : wpAny M A (storeName X.env x u) Q E s :=
  store_ok2 I hN hi hx r (fun s' I' _ => h s' I') hf
/-- behind a call or a block, the state as it is -/
theorem Inv.call' {s' : Shared} {ch : List Addr} (I : Inv X pins σ H s) (ho : s'.os = s.os) (u : Un (frs X.stack) ch H H' s.heap s'.heap) (hok : HOk X.prog X.w H' s'.heap) (hg : AllBare s'.gens)
    (hch : ∀ b ∈ ch, (b ∈ X.ex ∨ X.s₀.heap.objs.size ≤ b) ∧ b ≠ X.env.locals ∧ (∀ x c, X.env.cells.lookup x = some c → c ≠ b) ∧ ∀ p ∈ X.pn ++ pins, p.1 ≠ b) : Inv X pins σ H' s' := by
  obtain ⟨h', g', d', t', o'⟩ := s'
  have e : o' = s.os := ho
  subst e
  exact I.call (g' := g') (t' := t') (d' := d') u hok hg hch
end

/-! ### the judgements -/
/-- an exception: its class, its own dict's address (where it has one), the abstract heap behind it -/
abbrev XK := Value → Option Addr → Hp → Prop
abbrev St := List (Option V)
abbrev VK := V → Hp → Prop
/-- an expression's reading; a test's; an argument list's -/
abbrev TE := St → Hp → VK → Prop
abbrev TT := St → Hp → (Bool → Hp → Prop) → Prop
abbrev TA := St → Hp → (List V → Hp → Prop) → Prop
/-- what is wanted behind a statement -/
structure Ends where
  nx : St → Hp → Prop
  rt : VK
  bk : St → Hp → Prop := fun _ _ => False
  ct : St → Hp → Prop := fun _ _ => False
abbrev TS := Ends → St → Hp → Prop

def EP (X : Cx) (pins : List (Addr × Obj)) (σ : St) (Q : VK) (u : Value) (s' : Shared) : Prop := ∃ v H', Inv X pins σ H' s' ∧ RelV v u ∧ Q v H'
def TP (X : Cx) (pins : List (Addr × Obj)) (σ : St) (Q : Bool → Hp → Prop) (b : Bool) (s' : Shared) : Prop := ∃ H', Inv X pins σ H' s' ∧ Q b H'
def AP (X : Cx) (pins : List (Addr × Obj)) (σ : St) (Q : List V → Hp → Prop) (us : List Value) (s' : Shared) : Prop := ∃ vs H', Inv X pins σ H' s' ∧ Vals vs us ∧ Q vs H'
def SP (X : Cx) (pins : List (Addr × Obj)) (D : Ends) (f : Flow) (s' : Shared) : Prop :=
  match f with
  | .next => ∃ σ' H', Inv X pins σ' H' s' ∧ D.nx σ' H'
  | .brk => ∃ σ' H', Inv X pins σ' H' s' ∧ D.bk σ' H'
  | .cont => ∃ σ' H', Inv X pins σ' H' s' ∧ D.ct σ' H'
  | .ret u => ∃ v σ' H', Inv X pins σ' H' s' ∧ RelV v u ∧ D.rt v H'

def PE (X : Cx) (e : Expr) (t : TE) : Prop :=
  ∀ (pins : List (Addr × Obj)) (s : Shared) (σ : St) (H : Hp) (Q : VK), Inv X pins σ H s → t σ H Q → wpAny (model X.prog X.w) X.A (eval e X.env) (EP X pins σ Q) X.xe s
def PT (X : Cx) (e : Expr) (t : TT) : Prop :=
  ∀ (pins : List (Addr × Obj)) (s : Shared) (σ : St) (H : Hp) (Q : Bool → Hp → Prop), Inv X pins σ H s → t σ H Q → wpAny (model X.prog X.w) X.A (isTrue e X.env (eval e X.env)) (TP X pins σ Q) X.xe s
/-- a test whatever its 'whole' is (and, or) -/
def PW (X : Cx) (e : Expr) (t : TT) : Prop :=
  ∀ (whole : Sem Value) (pins : List (Addr × Obj)) (s : Shared) (σ : St) (H : Hp) (Q : Bool → Hp → Prop), Inv X pins σ H s → t σ H Q → wpAny (model X.prog X.w) X.A (isTrue e X.env whole) (TP X pins σ Q) X.xe s
theorem PW.pt {X : Cx} {e : Expr} {t : TT} (h : PW X e t) : PT X e t := h _
/-- an argument list (no star), from the left -/
def PA (X : Cx) (es : List Expr) (t : TA) : Prop :=
  ∀ (pos : Pos) (pins : List (Addr × Obj)) (s : Shared) (σ : St) (H : Hp) (Q : List V → Hp → Prop), Inv X pins σ H s → t σ H Q → wpAny (model X.prog X.w) X.A (spliced (backTo pos (starEach es X.env))) (AP X pins σ Q) X.xe s
def PS (X : Cx) (st : Stmt) (t : TS) : Prop :=
  ∀ (pins : List (Addr × Obj)) (s : Shared) (σ : St) (H : Hp) (D : Ends), Inv X pins σ H s → t D σ H → wpAny (model X.prog X.w) X.A (exec st X.env) (SP X pins D) X.xe s
def PSs (X : Cx) (st : List Stmt) (t : TS) : Prop :=
  ∀ (pins : List (Addr × Obj)) (s : Shared) (σ : St) (H : Hp) (D : Ends), Inv X pins σ H s → t D σ H → wpAny (model X.prog X.w) X.A (execs st X.env) (SP X pins D) X.xe s
/-- weaken the end -/
theorem thn {α : Type} {t : Sem α} {Q Q' : α → Shared → Prop} {M : Model} {A : Around} {E : Value → Shared → Prop} {s : Shared} (h : wpAny M A t Q E s) (hQ : ∀ a s, Q a s → Q' a s) : wpAny M A t Q' E s := wpAny_mono h hQ fun _ _ x => x
end L2

namespace L2
open PySem PySem.Spec PyProof.Rows
section
variable {X : Cx}


/-! ### names and constants -/
def tVar (i : Nat) : TE := fun σ H Q => ∃ v, σ[i]? = some (some v) ∧ Q v H
def tC (v : V) : TE := fun _ H Q => Q v H
theorem pe_var {i : Nat} {x : Str} {pos : Pos} (hN : X.N[i]? = some x) (hv : Vis X.env.scope x) (hd : (x == ("__debug__" : Str)) = false := by decide) (hcd : (x == ("__classdict__" : Str)) = false := by decide) : PE X (.Name x pos) (tVar i) := by
  intro pins s σ H Q I h
  obtain ⟨v, e, h⟩ := h
  obtain ⟨m, hn, hl⟩ := I.loc
  obtain ⟨u, r, l⟩ := hl i x v hN e hv
  have fin : EP X pins σ Q u s := ⟨v, H, I, r, h⟩
  rcases l with ⟨hk, hm⟩ | ⟨hk, c, hc, hcell⟩
  · exact wpAny_Name (wpAny_loadName_local I.ok.kind hk hn hm fin) hd
  · rcases hk with hk | hk
    · exact wpAny_Name (wpAny_loadName_cell I.ok.kind hk hc hcell fin) hd
    · exact wpAny_Name (wpAny_loadName_free I.ok.kind hk hc hcell fin hcd) hd
theorem pe_int {i j pos} : PE X (.Constant (.int i) j pos) (tC (.int i)) := fun _ _ _ H _ I h => wpAny_Constant_int ⟨.int i, H, I.tok _, ⟨_, rfl⟩, h⟩
theorem pe_bl {b j pos} : PE X (.Constant (.bool b) j pos) (tC (.bl b)) := fun _ _ _ H _ I h => Constant_bool ⟨.bl b, H, I, rfl, h⟩
theorem pe_non {j pos} : PE X (.Constant .none j pos) (tC .non) := fun _ _ _ H _ I h => Constant_none ⟨.non, H, I, rfl, h⟩
theorem pe_str {x j pos} : PE X (.Constant (.str x) j pos) (tC (.str x)) := fun _ _ _ H _ I h => Calls.Constant_str ⟨.str x, H, I.tok _, ⟨_, rfl⟩, h⟩

/-- a global name of the def -/
def Gl (X : Cx) (x : Str) : Prop := X.env.kindOf x = some .globalImplicit
theorem ld_glob {E : Value → Shared → Prop} {pins : List (Addr × Obj)} {s : Shared} {σ : St} {H : Hp} {x : Str} {u : Value} {pos : Pos} {Q : Value → Shared → Prop} (I : Inv X pins σ H s) (hg : Gl X x) (hm : X.mg x = some u) (h : Q u s)
    (hd : (x == ("__debug__" : Str)) = false := by decide) : wpAny (model X.prog X.w) X.A (eval (.Name x pos) X.env) Q E s :=
  Calls.Name_function_global I.ok.kind hg (Calls.loadGlobal_global (by rw [I.ok.glob]; exact I.mod.glob.keeps I.bk) hm h) hd
theorem ld_blt {E : Value → Shared → Prop} {pins : List (Addr × Obj)} {s : Shared} {σ : St} {H : Hp} {x : Str} {u : Value} {pos : Pos} {Q : Value → Shared → Prop} (I : Inv X pins σ H s) (hg : Gl X x) (hm : X.mg x = none) (hv : bootBuiltins x = some u) (h : Q u s)
    (hn : x ≠ "__name__" := by decide) (hd : (x == ("__debug__" : Str)) = false := by decide) : wpAny (model X.prog X.w) X.A (eval (.Name x pos) X.env) Q E s := by
  obtain ⟨mb, h1, h2⟩ := I.mod.blt
  exact Calls.Name_function_global I.ok.kind hg (Calls.loadGlobal_builtin (by rw [I.ok.glob]; exact I.mod.glob.keeps I.bk) hm (by rw [I.ok.blt]; exact h1.keeps I.bk) ((h2 x hn).trans hv) h) hd
/-- a module's constant, a class, a function, as a value -/
theorem pe_glob {x : Str} {v : V} {u : Value} {pos : Pos} (hg : Gl X x) (hm : X.mg x = some u) (r : RelV v u) (hd : (x == ("__debug__" : Str)) = false := by decide) : PE X (.Name x pos) (tC v) :=
  fun _ _ _ H _ I h => ld_glob I hg hm ⟨v, H, I, r, h⟩ hd
theorem pe_bltn {x : Str} {v : V} {u : Value} {pos : Pos} (hg : Gl X x) (hm : X.mg x = none) (hv : bootBuiltins x = some u) (r : RelV v u) (hn : x ≠ "__name__" := by decide) (hd : (x == ("__debug__" : Str)) = false := by decide) : PE X (.Name x pos) (tC v) :=
  fun _ _ _ H _ I h => ld_blt I hg hm hv ⟨v, H, I, r, h⟩ hn hd

/-! ### arithmetic -/
/-- two ints -/
def t2I (ta tb : TE) (k : Int → Int → Hp → Prop) : St → Hp → Prop := fun σ H => ta σ H fun x H1 => tb σ H1 fun y H2 => ∃ i j, x = .int i ∧ y = .int j ∧ k i j H2
def tAdd (ta tb : TE) : TE := fun σ H Q => t2I ta tb (fun i j H2 => Q (.int (i + j)) H2) σ H
def tSub (ta tb : TE) : TE := fun σ H Q => t2I ta tb (fun i j H2 => Q (.int (i - j)) H2) σ H
/-- the left factor below 2^64 -/
def tMul (ta tb : TE) : TE := fun σ H Q => t2I ta tb (fun i j H2 => (-(2 ^ 64) < i ∧ i < 2 ^ 64) ∧ Q (.int (i * j)) H2) σ H
variable {a b : Expr} {ta tb : TE} {pos : Pos}

/-! ### comparisons -/
def PC (X : Cx) (op : CmpOp) (a b : Expr) (t : TE) : Prop :=
  ∀ (pins : List (Addr × Obj)) (s : Shared) (σ : St) (H : Hp) (Q : VK), Inv X pins σ H s → t σ H Q →
    wpAny (model X.prog X.w) X.A (eval a X.env) (fun v s₁ => wpAny (model X.prog X.w) X.A (eval b X.env) (fun u s₂ => wpAny (model X.prog X.w) X.A (compareOp op v u) (EP X pins σ Q) X.xe s₂) X.xe s₁) X.xe s
theorem nobehind (b : Expr) {op : CmpOp} (h : op ≠ .In) (h2 : op ≠ .NotIn) : behindInMarks op b = false := by
  have e1 : (op == CmpOp.In) = false := by cases op <;> first | rfl | exact absurd rfl h
  have e2 : (op == CmpOp.NotIn) = false := by cases op <;> first | rfl | exact absurd rfl h2
  cases b <;> simp [behindInMarks, e1, e2]
def tCmp (p : Int → Int → Bool) (ta tb : TE) : TE := fun σ H Q => t2I ta tb (fun i j H2 => Q (.bl (p i j)) H2) σ H
abbrev tLt : TE → TE → TE := tCmp fun i j => decide (i < j)
abbrev tLe : TE → TE → TE := tCmp fun i j => decide (i ≤ j)
abbrev tGt : TE → TE → TE := tCmp fun i j => decide (j < i)
abbrev tGe : TE → TE → TE := tCmp fun i j => decide (j ≤ i)
abbrev tEqI : TE → TE → TE := tCmp fun i j => decide (i = j)
abbrev tNeI : TE → TE → TE := tCmp fun i j => !decide (i = j)
/-- is None -/
def tIsN (ta : TE) : TE := fun σ H Q => ta σ H fun x H1 => Q (.bl (decide (x = .non))) H1
def tNotN (ta : TE) : TE := fun σ H Q => ta σ H fun x H1 => Q (.bl (!decide (x = .non))) H1
/-- a comparison as a value, as a test -/
def tB (t : TE) : TT := fun σ H Q => t σ H fun x H1 => ∃ c, x = .bl c ∧ Q c H1
theorem pt_cmp {op : CmpOp} {t : TE} (h : PC X op a b t) (h1 : behindInMarks op b = false := by first | exact nobehind _ (by decide) (by decide) | rfl) : PT X (.Compare a [op] [b] pos) (tB t) := by
  intro pins s σ H Q I hw
  refine wpAny_isTrue_Compare1 (thn (h pins s σ H _ I hw) fun v s1 h1 => thn h1 fun u s2 h2 => thn h2 fun c s3 ⟨x, H1, I1, r1, q1⟩ => ?_) h1
  obtain ⟨d, rfl, q⟩ := q1
  cases r1
  exact wpAny_truthy_bool ⟨H1, I1, q⟩
/-- an expression whose value is a bool, as a test -/
theorem pt_val {e : Expr} {t : TE} (h : PE X e t) (he : ∀ whole, isTrue e X.env whole = (do let v ← whole; standAt e.pos; holding [v] (truthy v)) := by intro _; rfl) : PT X e (tB t) := by
  intro pins s σ H Q I hw
  refine isTrue_plain (thn (h pins s σ H _ I hw) fun v s1 ⟨x, H1, I1, r1, q1⟩ => ?_) (he _)
  obtain ⟨d, rfl, q⟩ := q1
  cases r1
  exact wpAny_truthy_bool ⟨H1, I1, q⟩

/-! ### and, or, not -/
variable {tA tB' : TT} {rest : List Expr}
def tAnd (t u : TT) : TT := fun σ H Q => t σ H fun c H1 => if c = true then u σ H1 Q else Q false H1
def tOr (t u : TT) : TT := fun σ H Q => t σ H fun c H1 => if c = true then Q true H1 else u σ H1 Q
def tNot (t : TT) : TT := fun σ H Q => t σ H fun c H1 => Q (!c) H1
theorem pw_and1 (ha : PT X a tA) : PW X (.BoolOp .And [a] pos) tA := by
  intro wh pins s σ H Q I h
  refine isTrue_and (thn (ha pins s σ H Q I h) fun c s1 e => ?_)
  cases c with
  | true => exact isTrue_and_nil e
  | false => exact e
theorem pw_or1 (ha : PT X a tA) : PW X (.BoolOp .Or [a] pos) tA := by
  intro wh pins s σ H Q I h
  refine isTrue_or (thn (ha pins s σ H Q I h) fun c s1 e => ?_)
  cases c with
  | false => exact isTrue_or_nil e
  | true => exact e
theorem pw_and (ha : PT X a tA) (hb : PW X (.BoolOp .And (b :: rest) pos) tB') : PW X (.BoolOp .And (a :: b :: rest) pos) (tAnd tA tB') := by
  intro wh pins s σ H Q I h
  refine isTrue_and (thn (ha pins s σ H _ I h) fun c s1 ⟨H1, I1, q1⟩ => ?_)
  cases c with
  | true => exact hb wh pins s1 σ H1 Q I1 q1
  | false => exact ⟨H1, I1, q1⟩
theorem pw_or (ha : PT X a tA) (hb : PW X (.BoolOp .Or (b :: rest) pos) tB') : PW X (.BoolOp .Or (a :: b :: rest) pos) (tOr tA tB') := by
  intro wh pins s σ H Q I h
  refine isTrue_or (thn (ha pins s σ H _ I h) fun c s1 ⟨H1, I1, q1⟩ => ?_)
  cases c with
  | true => exact ⟨H1, I1, q1⟩
  | false => exact hb wh pins s1 σ H1 Q I1 q1
theorem pt_not (ha : PT X a tA) : PT X (.UnaryOp .Not a pos) (tNot tA) := by
  intro pins s σ H Q I h
  exact isTrue_not (ha pins s σ H (fun c H1 => Q (!c) H1) I h)
/-- .. as values (bools) -/
def tAndV (ta tb : TE) : TE := fun σ H Q => ta σ H fun x H1 => ∃ c, x = .bl c ∧ if c = true then tb σ H1 Q else Q (.bl false) H1
def tOrV (ta tb : TE) : TE := fun σ H Q => ta σ H fun x H1 => ∃ c, x = .bl c ∧ if c = true then Q (.bl true) H1 else tb σ H1 Q
def tNotV (ta : TE) : TE := fun σ H Q => ta σ H fun x H1 => ∃ c, x = .bl c ∧ Q (.bl (!c)) H1
theorem pe_one {op} {t : TE} (h : PE X a t) : PE X (.BoolOp op [a] pos) t := fun pins s σ H Q I hw => BoolOp_one (h pins s σ H Q I hw)
theorem pe_and (ha : PE X a ta) (hb : PE X (.BoolOp .And (b :: rest) pos) tb) : PE X (.BoolOp .And (a :: b :: rest) pos) (tAndV ta tb) := by
  intro pins s σ H Q I h
  refine BoolOp_and (thn (ha pins s σ H _ I h) fun v s1 ⟨x, H1, I1, r1, q1⟩ => ?_)
  obtain ⟨c, rfl, q1⟩ := q1
  cases r1
  refine wpAny_truthy_bool ?_
  cases c with
  | true => exact hb pins s1 σ H1 Q I1 q1
  | false => exact ⟨.bl false, H1, I1, rfl, q1⟩
theorem pe_or (ha : PE X a ta) (hb : PE X (.BoolOp .Or (b :: rest) pos) tb) : PE X (.BoolOp .Or (a :: b :: rest) pos) (tOrV ta tb) := by
  intro pins s σ H Q I h
  refine BoolOp_or (thn (ha pins s σ H _ I h) fun v s1 ⟨x, H1, I1, r1, q1⟩ => ?_)
  obtain ⟨c, rfl, q1⟩ := q1
  cases r1
  refine wpAny_truthy_bool ?_
  cases c with
  | false => exact hb pins s1 σ H1 Q I1 q1
  | true => exact ⟨.bl true, H1, I1, rfl, q1⟩
theorem pe_not (ha : PE X a ta) : PE X (.UnaryOp .Not a pos) (tNotV ta) := by
  intro pins s σ H Q I h
  refine UnaryOp_ (thn (ha pins s σ H _ I h) fun v s1 ⟨x, H1, I1, r1, q1⟩ => ?_)
  obtain ⟨c, rfl, q1⟩ := q1
  cases r1
  exact not_of (wpAny_truthy_bool ⟨.bl (!c), H1, I1, rfl, q1⟩)
/-- a if t else b -/
def tIf (t : TT) (ta tb : TE) : TE := fun σ H Q => t σ H fun c H1 => if c = true then ta σ H1 Q else tb σ H1 Q
theorem pe_ifExp {c : Expr} (hc : PT X c tA) (ha : PE X a ta) (hb : PE X b tb) : PE X (.IfExp c a b pos) (tIf tA ta tb) := by
  intro pins s σ H Q I h
  refine wpAny_IfExp (thn (hc pins s σ H _ I h) fun d s1 ⟨H1, I1, q1⟩ => ?_)
  cases d with
  | true => exact ha pins s1 σ H1 Q I1 q1
  | false => exact hb pins s1 σ H1 Q I1 q1
end
end L2

namespace L2
open PySem PySem.Spec PyProof.Rows

/-! ### a list, a tuple that is read: tracked, frozen, or an object of the module -/
def SqL (K : PySem.W.Frag) (H : Hp) (a : Addr) (xs : List V) : Prop :=
  Rd H a (.lst xs) ∨
    ∃ (o : Obj) (its : Array Value) (n : Nat), K.lookup a = some o ∧ o.cls = .type "list" ∧ o.dict = none ∧ o.data = .seq its n ∧ its.size ≤ sizeLine ∧ Vals xs its.toList
def SqT (K : PySem.W.Frag) (H : Hp) (a : Addr) (xs : List V) : Prop :=
  Rd H a (.tup xs) ∨
    ∃ (o : Obj) (its : Array Value) (n : Nat), K.lookup a = some o ∧ o.cls = .type "tuple" ∧ o.data = .seq its n ∧ its.size ≤ sizeLine ∧ Vals xs its.toList
def absV : Value → Option V
  | .none => some .non
  | .bool b => some (.bl b)
  | .int i _ => some (.int i)
  | .str x _ => some (.str x)
  | .bytes b _ => some (.byt b)
  | .float b _ => some (.flt b)
  | .ref a => some (.ref a)
  | .type n => some (.ty n)
  | _ => none
theorem RelV.abs {x : V} {u : Value} (r : RelV x u) : absV u = some x := by
  cases x with
  | non => cases r; rfl
  | bl _ => cases r; rfl
  | int _ => obtain ⟨t, rfl⟩ := r; rfl
  | str _ => obtain ⟨t, rfl⟩ := r; rfl
  | byt _ => obtain ⟨t, rfl⟩ := r; rfl
  | flt _ => obtain ⟨t, rfl⟩ := r; rfl
  | ref _ => cases r; rfl
  | ty _ => cases r; rfl
theorem RelV.inj {x y : V} {u : Value} (r : RelV x u) (q : RelV y u) : x = y := Option.some.inj (r.abs.symm.trans q.abs)
theorem Vals.inj : ∀ {xs ys : List V} {us : List Value}, Vals xs us → Vals ys us → xs = ys
  | _, _, _, .nil, .nil => rfl
  | _, _, _, .cons r t, .cons r' t' => by rw [r.inj r', Vals.inj t t']
section
variable {X : Cx} {pins : List (Addr × Obj)} {σ : St} {H : Hp} {s : Shared} {a : Addr} {xs ys : List V}
theorem SqL.of {K : PySem.W.Frag} (h : H a = some (.lst xs)) : SqL K H a xs := .inl (.inl h)
theorem SqT.of {K : PySem.W.Frag} (h : H a = some (.tup xs)) : SqT K H a xs := .inl (.inl h)
theorem Inv.list (I : Inv X pins σ H s) (h : SqL X.K H a xs) : ∃ its : List Value, Vals xs its ∧ PlainL s.heap a its.toArray ∧ xs.length ≤ sizeLine := by
  rcases h with h | ⟨o, its, n, hk, hc, hd, hs, hz, r⟩
  · obtain ⟨z, its, n, r, e⟩ := h.ok I.hok
    exact ⟨its, r, ⟨_, n, e, rfl, rfl, rfl⟩, z⟩
  · refine ⟨its.toList, r, ⟨o, n, I.kIn a o hk, hc, hd, by simpa using hs⟩, ?_⟩
    have e := r.length
    simp only [Array.length_toList] at e
    omega
theorem Inv.tuple (I : Inv X pins σ H s) (h : SqT X.K H a xs) : ∃ its : List Value, Vals xs its ∧ IsTup s.heap a its.toArray ∧ xs.length ≤ sizeLine := by
  rcases h with h | ⟨o, its, n, hk, hc, hs, hz, r⟩
  · obtain ⟨z, its, r, p⟩ := h.ok I.hok
    exact ⟨its, r, p, z⟩
  · refine ⟨its.toList, r, ⟨o, I.kIn a o hk, hc, n, by simpa using hs⟩, ?_⟩
    have e := r.length
    simp only [Array.length_toList] at e
    omega
theorem Inv.list_inj (I : Inv X pins σ H s) (h : SqL X.K H a xs) (h' : SqL X.K H a ys) : xs = ys := by
  obtain ⟨its, r, ⟨o, n, e, _, _, d⟩, _⟩ := I.list h
  obtain ⟨its', r', ⟨o', n', e', _, _, d'⟩, _⟩ := I.list h'
  rw [e] at e'; cases e'
  rw [d] at d'
  injection d' with d1 _
  have : its = its' := by simpa using congrArg Array.toList d1
  subst this
  exact r.inj r'
theorem Inv.tuple_inj (I : Inv X pins σ H s) (h : SqT X.K H a xs) (h' : SqT X.K H a ys) : xs = ys := by
  obtain ⟨its, r, ⟨o, e, _, n, d⟩, _⟩ := I.tuple h
  obtain ⟨its', r', ⟨o', e', _, n', d'⟩, _⟩ := I.tuple h'
  rw [e] at e'; cases e'
  rw [d] at d'
  injection d' with d1 _
  have : its = its' := by simpa using congrArg Array.toList d1
  subst this
  exact r.inj r'
end

/-! ### another wish about exceptions -/
abbrev Cx.wish (X : Cx) (E : Value → Shared → Prop) : Cx := { X with xe := E }
/-- no exception leaves -/
abbrev Cx.nox (X : Cx) : Cx := X.wish fun _ _ => False
theorem Cx.Ok.wish {X : Cx} (ok : X.Ok) (E : Value → Shared → Prop) : (X.wish E).Ok :=
  ⟨ok.mod, ok.kind, ok.glob, ok.blt, ok.above, ok.inj, ok.has, ok.cab, ok.hd, ok.frames, ok.stk, ok.exf, ok.bs, ok.bsz, ok.noex, ok.exfs, ok.funs, ok.frf⟩
theorem Cx.Ok.unwish {X : Cx} {E : Value → Shared → Prop} (ok : (X.wish E).Ok) : X.Ok :=
  ⟨ok.mod, ok.kind, ok.glob, ok.blt, ok.above, ok.inj, ok.has, ok.cab, ok.hd, ok.frames, ok.stk, ok.exf, ok.bs, ok.bsz, ok.noex, ok.exfs, ok.funs, ok.frf⟩
section
variable {X : Cx} {pins : List (Addr × Obj)} {σ : St} {H : Hp} {s : Shared} {E : Value → Shared → Prop}
theorem Inv.wish (I : Inv X pins σ H s) (E : Value → Shared → Prop) : Inv (X.wish E) pins σ H s := ⟨I.ok.wish E, I.os, I.bare, I.base, I.loc, I.cell, I.free, I.freeC, I.pin, I.hok, I.len⟩
theorem Inv.unwish (I : Inv (X.wish E) pins σ H s) : Inv X pins σ H s := ⟨I.ok.unwish, I.os, I.bare, I.base, I.loc, I.cell, I.free, I.freeC, I.pin, I.hok, I.len⟩
theorem SP.unwish {D : Ends} {f : Flow} {s' : Shared} (h : SP (X.wish E) pins D f s') : SP X pins D f s' := by
  cases f with
  | next => obtain ⟨σ', H', I, q⟩ := h; exact ⟨σ', H', I.unwish, q⟩
  | brk => obtain ⟨σ', H', I, q⟩ := h; exact ⟨σ', H', I.unwish, q⟩
  | cont => obtain ⟨σ', H', I, q⟩ := h; exact ⟨σ', H', I.unwish, q⟩
  | ret u => obtain ⟨v, σ', H', I, r, q⟩ := h; exact ⟨v, σ', H', I.unwish, r, q⟩
theorem PE.nox {e : Expr} {t : TE} (h : PE X.nox e t) : PE X e t := fun pins s σ H Q I hw =>
  wpAny_mono (h pins s σ H Q (I.wish _) hw) (fun _ _ ⟨v, H', I', r, q⟩ => ⟨v, H', I'.unwish, r, q⟩) fun _ _ z => False.elim z
theorem PT.nox {e : Expr} {t : TT} (h : PT X.nox e t) : PT X e t := fun pins s σ H Q I hw =>
  wpAny_mono (h pins s σ H Q (I.wish _) hw) (fun _ _ ⟨H', I', q⟩ => ⟨H', I'.unwish, q⟩) fun _ _ z => False.elim z
theorem PSs.nox {st : List Stmt} {t : TS} (h : PSs X.nox st t) : PSs X st t := fun pins s σ H D I hw =>
  wpAny_mono (h pins s σ H D (I.wish _) hw) (fun _ _ q => q.unwish) fun _ _ z => False.elim z
end

/-! ### blocks and small statements -/
section
variable {X : Cx} {st : Stmt} {rest : List Stmt} {t u : TS} {e : Expr} {te : TE} {pos : Pos}
def tNext : TS := fun D σ H => D.nx σ H
def tSeq (t u : TS) : TS := fun D σ H => t { D with nx := u D } σ H
theorem pss_nil : PSs X [] tNext := fun _ _ σ H _ I h => wpAny_execs_nil ⟨σ, H, I, h⟩
theorem pss_cons (h1 : PS X st t) (h2 : PSs X rest u) : PSs X (st :: rest) (tSeq t u) := by
  intro pins s σ H D I h
  refine wpAny_execs_cons (thn (h1 pins s σ H { D with nx := u D } I h) fun f s1 q => ?_)
  cases f with
  | next =>
    obtain ⟨σ', H', I', q⟩ := q
    exact h2 pins s1 σ' H' D I' q
  | ret v => exact q
  | brk => exact q
  | cont => exact q
theorem pss_one (h1 : PS X st t) : PSs X [st] t := by
  intro pins s σ H D I h
  refine wpAny_execs_cons (thn (h1 pins s σ H D I h) fun f s1 q => ?_)
  cases f with
  | next => exact wpAny_execs_nil q
  | ret v => exact q
  | brk => exact q
  | cont => exact q
def tBreak : TS := fun D σ H => D.bk σ H
def tCont : TS := fun D σ H => D.ct σ H
/-- in a def's body nothing is shown -/
theorem Inv.quiet {pins : List (Addr × Obj)} {σ : St} {H : Hp} {s : Shared} (I : Inv X pins σ H s) : interactive X.env = false := by simp [interactive, I.ok.kind]
/-- an expression whose value is dropped -/
def tDrop (te : TE) : TS := fun D σ H => te σ H fun _ H1 => D.nx σ H1
theorem ps_expr (he : PE X e te) (hs : swapsWith e none pos.line X.env = pure false := by rfl) : PS X (.Expr e pos) (tDrop te) := by
  intro pins s σ H D I h
  exact wpAny_Expr_any (thn (he pins s σ H _ I h) fun v s1 ⟨x, H1, I1, r1, q1⟩ => ⟨σ, H1, I1, q1⟩) I.quiet hs
def tRet (te : TE) : TS := fun D σ H => te σ H D.rt
theorem ps_ret (he : PE X e te) : PS X (.Return (some e) pos) (tRet te) := by
  intro pins s σ H D I h
  exact wpAny_Return_some (thn (he pins s σ H _ I h) fun v s1 ⟨x, H1, I1, r1, q1⟩ => ⟨x, σ, H1, I1, r1, q1⟩)
def tRetN : TS := fun D _ H => D.rt .non H
def tIfS (c : TT) (t u : TS) : TS := fun D σ H => c σ H fun b H1 => if b = true then t D σ H1 else u D σ H1
theorem ps_if {c : Expr} {a b : List Stmt} {tc : TT} (hc : PT X c tc) (ha : PSs X a t) (hb : PSs X b u) : PS X (.If c a b pos) (tIfS tc t u) := by
  intro pins s σ H D I h
  refine wpAny_If (thn (hc pins s σ H _ I h) fun d s1 ⟨H1, I1, q1⟩ => ?_)
  cases d with
  | true => exact ha pins s1 σ H1 D I1 q1
  | false => exact hb pins s1 σ H1 D I1 q1
/-- code that the proof never comes to -/
def tNever : TS := fun _ _ _ => False
end

/-! ### targets -/
abbrev TG := V → St → Hp → (St → Hp → Prop) → Prop
abbrev TGs := List V → St → Hp → (St → Hp → Prop) → Prop
def PG (X : Cx) (target : Expr) (t : TG) : Prop :=
  ∀ (pins : List (Addr × Obj)) (s : Shared) (σ : St) (H : Hp) (v : V) (u : Value) (Q : St → Hp → Prop), Inv X pins σ H s → RelV v u → t v σ H Q →
    wpAny (model X.prog X.w) X.A (assign target X.env u) (fun _ s' => ∃ σ' H', Inv X pins σ' H' s' ∧ Q σ' H') X.xe s
/-- several targets, one after another -/
def PGs (X : Cx) (ts : List Expr) (t : TGs) : Prop :=
  ∀ (pins : List (Addr × Obj)) (s : Shared) (σ : St) (H : Hp) (vs : List V) (us : List Value) (Q : St → Hp → Prop), Inv X pins σ H s → Vals vs us → t vs σ H Q →
    wpAny (model X.prog X.w) X.A (assignInOrder ((assignEach ts X.env).map (·.2)) us) (fun _ s' => ∃ σ' H', Inv X pins σ' H' s' ∧ Q σ' H') X.xe s
/-- o[i] = v, by values -/
abbrev TSet := V → V → V → Hp → (Hp → Prop) → Prop
def PSet (X : Cx) (t : TSet) : Prop :=
  ∀ (pins : List (Addr × Obj)) (s : Shared) (σ : St) (H : Hp) (o i v : V) (ov iv u : Value) (Q : Hp → Prop), Inv X pins σ H s → RelV o ov → RelV i iv → RelV v u → t o i v H Q →
    wpAny (model X.prog X.w) X.A (setItem ov iv u) (fun _ s' => ∃ H', Inv X pins σ H' s' ∧ Q H') X.xe s
/-- a op= b, by values -/
abbrev TIp := V → V → Hp → VK → Prop
def PIp (X : Cx) (op : Operator) (t : TIp) : Prop :=
  ∀ (pins : List (Addr × Obj)) (s : Shared) (σ : St) (H : Hp) (x y : V) (v u : Value) (Q : VK), Inv X pins σ H s → RelV x v → RelV y u → t x y H Q →
    wpAny (model X.prog X.w) X.A (inplaceOp op v u) (EP X pins σ Q) X.xe s
section
variable {X : Cx} {pos : Pos}
def gName (i : Nat) : TG := fun v σ H Q => Q (σ.set i (some v)) H
theorem pg_name {i : Nat} {x : Str} (hN : X.N.Nodup) (hi : X.N[i]? = some x) (hx : Loc X.env.scope x) (hf : X.fn x = true ∨ X.env.scope.names.lookup x = some .local := by first | exact .inl rfl | exact .inr rfl | assumption) : PG X (.Name x pos) (gName i) := by
  intro pins s σ H v u Q I r h
  exact wpAny_assign_Name (store_ok I hN hi hx r (fun s' I' => ⟨_, H, I', h⟩) hf)
def gNil : TGs := fun vs σ H Q => vs = [] ∧ Q σ H
def gCons (t : TG) (u : TGs) : TGs := fun vs σ H Q => ∃ v r, vs = v :: r ∧ t v σ H fun σ' H' => u r σ' H' Q
theorem pgs_nil : PGs X [] gNil := by
  intro pins s σ H vs us Q I r h
  obtain ⟨e, h⟩ := h
  subst e
  cases r
  exact assignInOrder_nil ⟨σ, H, I, h⟩
theorem pgs_cons {e : Expr} {es : List Expr} {t : TG} {u : TGs} (h1 : PG X e t) (h2 : PGs X es u)
    (hs : (assignEach (e :: es) X.env).map (·.2) = assign e X.env :: (assignEach es X.env).map (·.2) := by rfl) : PGs X (e :: es) (gCons t u) := by
  intro pins s σ H vs us Q I r h
  obtain ⟨v, vr, e1, h⟩ := h
  subst e1
  cases r with
  | cons r rr =>
    rw [hs]
    refine assignInOrder_cons (thn (h1 pins s σ H _ _ _ I r h) fun _ s1 ⟨σ1, H1, I1, q1⟩ => ?_)
    exact h2 pins s1 σ1 H1 _ _ Q I1 rr q1
/-- (a, b, ..) = a tuple of that length -/
def gTup (K : PySem.W.Frag) (n : Nat) (t : TGs) : TG := fun v σ H Q => ∃ a xs, v = .ref a ∧ SqT K H a xs ∧ xs.length = n ∧ t xs σ H Q
theorem pg_tup {es : List Expr} {k : Nat} {t : TGs} {n : Nat} (hc : X.calm = true) (h : PGs X es t)
    (hn : (assignEach es X.env).length = n := by rfl) (hst : (assignEach es X.env).findIdx? (·.1) = none := by rfl) : PG X (.Tuple es k pos) (gTup X.K n t) := by
  intro pins s σ H v u Q I r hw
  obtain ⟨a, xs, e1, hq, hl, hw⟩ := hw
  subst e1
  cases r
  obtain ⟨its, rv, ht, hz⟩ := I.tuple hq
  refine assign_Tuple_tuple (I.ok.hd hc) ht (by simp [hn, ← hl, rv.length]) hst fun h' hx => ?_
  have I1 : Inv X pins σ H { s with heap := h' } := I.kept (t' := s.toks) fun b o e => hx b o (Nat.ne_of_lt (Heap.lt_size e)) e
  exact h pins _ σ H xs _ Q I1 (by simpa using rv) hw
/-- o[i] = .. -/
def gSub (to ti : TE) (t : TSet) : TG := fun v σ H Q => to σ H fun o H1 => ti σ H1 fun i H2 => t o i v H2 fun H3 => Q σ H3
theorem pg_sub {o i : Expr} {to ti : TE} {t : TSet} (ho : PE X o to) (hi : PE X i ti) (hs : PSet X t)
    (ha : ∀ v, assign (.Subscript o i pos) X.env v = (do
      let ov ← holding [v] (eval o X.env)
      let iv ← holding [v, ov] (eval i X.env)
      standAt pos
      holding [v, ov, iv] (setItem ov iv v)
      release [v, ov, iv] []) := by intro _; rfl) : PG X (.Subscript o i pos) (gSub to ti t) := by
  intro pins s σ H v u Q I r h
  rw [ha]
  refine wpAny_bind (wpAny_holding (thn (ho pins s σ H _ I h) fun ov s1 ⟨x, H1, I1, r1, q1⟩ => ?_))
  refine wpAny_bind (wpAny_holding (thn (hi pins s1 σ H1 _ I1 q1) fun iv s2 ⟨y, H2, I2, r2, q2⟩ => ?_))
  refine wpAny_bind (wpAny_standAt (wpAny_bind (wpAny_holding (thn (hs pins s2 σ H2 x y v ov iv u _ I2 r1 r2 r q2) fun _ s3 ⟨H3, I3, q3⟩ => ?_))))
  exact wpAny_release ⟨σ, H3, I3, q3⟩
/-- target = value -/
def tAsg (te : TE) (g : TG) : TS := fun D σ H => te σ H fun x H1 => g x σ H1 D.nx
theorem ps_asg {tg e : Expr} {te : TE} {g : TG} (he : PE X e te) (hg : PG X tg g) (hs : swapsWithSole [tg] e pos.line X.env = pure false := by rfl) (hw : swappedStores [tg] e X.env = pure none := by rfl)
    (h1 : (assignEach [tg] X.env).map (·.2) = [assign tg X.env] := by rfl) : PS X (.Assign [tg] e pos) (tAsg te g) := by
  intro pins s σ H D I h
  refine wpAny_Assign_stores (thn (he pins s σ H _ I h) fun v s1 ⟨x, H1, I1, r1, q1⟩ => ?_) hs hw
  rw [h1]
  exact thn (hg pins s1 σ H1 x v _ I1 r1 q1) fun _ s2 q => q
/-- name = value -/
theorem ps_set {i : Nat} {x : Str} {e : Expr} {te : TE} {pos' : Pos} (hN : X.N.Nodup) (hi : X.N[i]? = some x) (hx : Loc X.env.scope x) (he : PE X e te) (hs : swapsWith e (some (.Name x pos')) pos.line X.env = pure false := by rfl) (hf : X.fn x = true ∨ X.env.scope.names.lookup x = some .local := by first | exact .inl rfl | exact .inr rfl | assumption) :
    PS X (.Assign [.Name x pos'] e pos) (tAsg te (gName i)) := by
  intro pins s σ H D I h
  refine wpAny_Assign_Name (thn (he pins s σ H _ I h) fun v s1 ⟨y, H1, I1, r1, q1⟩ => ?_) hs
  exact store_ok I1 hN hi hx r1 (fun s2 I2 => ⟨_, H1, I2, q1⟩) hf
/-- a, b = x, y with plain local names: stored from the right; the pair itself is not tracked (the opening rows as in PyProof/Rows/TupAssign.lean:23) -/
def tPar (i j : Nat) (ta : TA) : TS := fun D σ H => ta σ H fun vs H1 => ∃ v w, vs = [v, w] ∧ D.nx ((σ.set i (some v)).set j (some w)) H1
/-- name op= e -/
def tAug (i : Nat) (te : TE) (ti : TIp) : TS := fun D σ H => ∃ x, σ[i]? = some (some x) ∧ te σ H fun y H1 => ti x y H1 fun z H2 => D.nx (σ.set i (some z)) H2
/-- o[i] op= e -/
def tAugS (to ti te : TE) (tget : V → V → Hp → VK → Prop) (tip : TIp) (tset : TSet) : TS := fun D σ H => to σ H fun o H1 => ti σ H1 fun i H2 => tget o i H2 fun x H3 => te σ H3 fun y H4 => tip x y H4 fun z H5 => tset o i z H5 fun H6 => D.nx σ H6
/-- o[i], by values -/
def PGet (X : Cx) (t : V → V → Hp → VK → Prop) : Prop :=
  ∀ (pins : List (Addr × Obj)) (s : Shared) (σ : St) (H : Hp) (o i : V) (ov iv : Value) (Q : VK), Inv X pins σ H s → RelV o ov → RelV i iv → t o i H Q →
    wpAny (model X.prog X.w) X.A (getItem ov iv) (EP X pins σ Q) X.xe s
/-- ints -/
def ipI (f : Int → Int → Int) : TIp := fun x y H Q => ∃ i j, x = .int i ∧ y = .int j ∧ Q (.int (f i j)) H
end

/-! ### while -/
section
variable {X : Cx} {pos : Pos}
/-- the invariant W with its measure -/
def tWhile (c : TT) (tb : TS) : TS := fun D σ H => ∃ W : Nat → St → Hp → Prop, (∃ m, W m σ H) ∧ ∀ m σ H, W m σ H →
  c σ H fun b H1 => if b = true then ∃ N : St → Hp → Prop, (∀ σ' H', N σ' H' → ∃ m', m' < m ∧ W m' σ' H') ∧ tb { D with nx := N, ct := N, bk := D.nx } σ H1 else D.nx σ H1
theorem ps_while {c : Expr} {body : List Stmt} {tc : TT} {tb : TS} (hp : PassesOwn (model X.prog X.w) X.A X.env X.xe) (hc : PT X c tc) (hb : PSs X body tb) : PS X (.While c body [] pos) (tWhile tc tb) := by
  intro pins s σ H D I h
  obtain ⟨W, ⟨m0, w0⟩, turn⟩ := h
  refine wpAny_While (codeAny_whileLoop (fun n s' => ∃ σ' H', Inv X pins σ' H' s' ∧ W n σ' H') ?_ m0 ⟨σ, H, I, w0⟩)
  rintro n s1 ⟨σ1, H1, I1, w1⟩
  refine wpAny_passesOwn hp (thn (hc pins s1 σ1 H1 _ I1 (turn n σ1 H1 w1)) fun b s2 ⟨H2, I2, q2⟩ => ?_)
  cases b with
  | true =>
    obtain ⟨N, hN, q2⟩ := q2
    rw [if_pos rfl]
    refine wpAny_passesOwn hp (thn (hb pins s2 σ1 H2 _ I2 q2) fun f s3 q3 => ?_)
    cases f with
    | next =>
      obtain ⟨σ3, H3, I3, n3⟩ := q3
      obtain ⟨m', hm, w3⟩ := hN σ3 H3 n3
      exact ⟨m', hm, σ3, H3, I3, w3⟩
    | cont =>
      obtain ⟨σ3, H3, I3, n3⟩ := q3
      obtain ⟨m', hm, w3⟩ := hN σ3 H3 n3
      exact ⟨m', hm, σ3, H3, I3, w3⟩
    | brk => exact q3
    | ret v => exact q3
  | false =>
    rw [if_neg Bool.false_ne_true]
    exact wpAny_execs_nil ⟨σ1, H2, I2, q2⟩
end

/-! ### what a loop or a comprehension walks -/
/-- at turn i: it yields x (the heap may grow), or it stops -/
structure It where
  go : Nat → Hp → Prop
  yld : Nat → Hp → V → Hp → Prop
  stop : Nat → Hp → Prop
/-- the iterator's own objects may turn: they are not the frame's, not pinned, younger than the entry (or a comprehension's own) -/
def FpOk (X : Cx) (pins : List (Addr × Obj)) (H : Hp) (b : Addr) : Prop :=
  H b = none ∧ b ≠ X.env.locals ∧ b ∉ X.fs ∧ (b ∈ X.ex ∨ X.s₀.heap.objs.size ≤ b) ∧ (∀ x c, X.env.cells.lookup x = some c → c ≠ b) ∧ ∀ p ∈ X.pn ++ pins, p.1 ≠ b
theorem Inv.fpOk {X : Cx} {pins : List (Addr × Obj)} {σ : St} {H H' : Hp} {s : Shared} {b : Addr} (I : Inv X pins σ H s) (hb : s.heap.objs.size ≤ b) (hn : H' b = none) : FpOk X pins H' b := by
  refine ⟨hn, Nat.ne_of_gt (Nat.lt_of_lt_of_le I.lt hb), I.nofs hb, .inr (Nat.le_trans I.sz hb), fun x c e z => ?_, fun p hp z => ?_⟩
  · obtain ⟨v, q⟩ := I.cell x c e
    exact absurd (Nat.lt_of_lt_of_le q.lt (by rw [z]; exact hb)) (Nat.lt_irrefl _)
  · exact absurd (Nat.lt_of_lt_of_le (Heap.lt_size (I.pin p hp).1) (by rw [z]; exact hb)) (Nat.lt_irrefl _)
structure Turn (P : Program) (w : World) (K : PySem.W.Frag) (tg : Expr) (J : It) (fp : List Addr) (it : Addr) (tn : Nat → Heap → Prop) : Prop where
  mem : it ∈ fp
  obj : ∀ i h, tn i h → ∀ b ∈ fp, ∃ o, h.get? b = some o ∧ ∀ v, o.data ≠ .cell v
  keep : ∀ i h h', tn i h → (∀ b ∈ fp, ∀ o, h.get? b = some o → h'.get? b = some o) → tn i h'
  item : ∀ (X : Cx), X.prog = P → X.w = w → X.K = K → X.calm = true → ∀ (i : Nat) (pins : List (Addr × Obj)) (s : Shared) (σ : St) (H : Hp) (E : Value → Shared → Prop), Inv X pins σ H s → (∀ b ∈ fp, FpOk X pins H b) → tn i s.heap → J.go i H →
    wpAny (model P w) X.A (pyNext (.ref it)) (fun r s1 => ∃ u, r = some u ∧
      wpAny (model P w) X.A (letOwnedTupleGo tg (.ref it) u) (fun _ s2 => ∃ x H', Inv X pins σ H' s2 ∧ RelV x u ∧ J.yld i H x H' ∧ tn (i + 1) s2.heap ∧ ∀ b ∈ fp, H' b = none) E s1) E s
  done : ∀ (X : Cx), X.prog = P → X.w = w → X.K = K → X.calm = true → ∀ (i : Nat) (pins : List (Addr × Obj)) (s : Shared) (σ : St) (H : Hp) (E : Value → Shared → Prop), Inv X pins σ H s → (∀ b ∈ fp, FpOk X pins H b) → tn i s.heap → J.stop i H →
    wpAny (model P w) X.A (pyNext (.ref it)) (fun r s1 => r = none ∧ Inv X pins σ H s1) E s
  self : ∀ (A : Around) (i : Nat) (s : Shared) (Q : Value → Shared → Prop) (E : Value → Shared → Prop), tn i s.heap → Q (.ref it) s → wpAny (model P w) A (pyIter (.ref it)) Q E s
abbrev TI := St → Hp → (It → Hp → Prop) → Prop
/-- an iterator has come -/
def PIE (X : Cx) (pins : List (Addr × Obj)) (σ : St) (tg : Expr) (R : It → Hp → Prop) (itv : Value) (s2 : Shared) : Prop :=
  ∃ (it : Addr) (fp : List Addr) (tn : Nat → Heap → Prop) (J : It) (H' : Hp), itv = .ref it ∧ Inv X pins σ H' s2 ∧ Turn X.prog X.w X.K tg J fp it tn ∧ tn 0 s2.heap ∧ (∀ b ∈ fp, FpOk X pins H' b) ∧ R J H'
def PI (X : Cx) (tg iter : Expr) (wi : TI) : Prop :=
  ∀ (pins : List (Addr × Obj)) (s : Shared) (σ : St) (H : Hp) (R : It → Hp → Prop), Inv X pins σ H s → wi σ H R →
    wpAny (model X.prog X.w) X.A (eval iter X.env) (fun v s1 => wpAny (model X.prog X.w) X.A (pyIter v) (PIE X pins σ tg R) X.xe s1) X.xe s

/-- the step ahead of the store is nothing for an iterator that keeps no tuple -/
theorem go_of {M : Model} {A : Around} {E : Value → Shared → Prop} {s : Shared} {tg : Expr} {it : Addr} {u : Value} {o : Obj} {n : String} {vs : Array Value} {Q : Unit → Shared → Prop} (ho : s.heap.get? it = some o) (hc : o.cls = .type n) (hd : o.data = .fields vs)
    (hn : ["enumerate", "zip", "dict_itemiterator", "dict_reverseitemiterator", "odict_iterator", "itertools.zip_longest", "itertools.pairwise"].contains n = false) (hQ : Q () s) : wpAny M A (letOwnedTupleGo tg (.ref it) u) Q E s := by
  unfold letOwnedTupleGo
  cases tg <;> first
    | exact wpAny_pure hQ
    | (cases u <;> first
        | exact wpAny_pure hQ
        | (refine wpAny_bind (wpAny_load ho ?_)
           rw [hc, hd]
           show wpAny M A (if (["enumerate", "zip", "dict_itemiterator", "dict_reverseitemiterator", "odict_iterator", "itertools.zip_longest", "itertools.pairwise"].contains n && vs[0]? == some (rawInt _)) = true then _ else _) Q E s
           rw [if_neg (by intro h; rw [hn, Bool.false_and] at h; cases h)]
           exact wpAny_pure hQ))

/-- the list at a, as it stands at each turn (a loop may append to it) -/
def Itl (K : PySem.W.Frag) (a : Addr) : It :=
  ⟨fun i H => ∃ xs x, SqL K H a xs ∧ xs[i]? = some x, fun i H x H' => H' = H ∧ ∀ xs, SqL K H a xs → xs[i]? = some x, fun i H => ∃ xs, SqL K H a xs ∧ xs.length ≤ i⟩
def Itt (K : PySem.W.Frag) (a : Addr) : It :=
  ⟨fun i H => ∃ xs x, SqT K H a xs ∧ xs[i]? = some x, fun i H x H' => H' = H ∧ ∀ xs, SqT K H a xs → xs[i]? = some x, fun i H => ∃ xs, SqT K H a xs ∧ xs.length ≤ i⟩
/-- lo, lo + 1, .. (n of them) -/
def Itr (lo : Int) (n : Nat) : It := ⟨fun i _ => i < n, fun i H x H' => H' = H ∧ x = .int (lo + i), fun i _ => n ≤ i⟩
theorem turn_list {P : Program} {w : World} {K : PySem.W.Frag} {tg : Expr} (a it : Addr) : Turn P w K tg (Itl K a) [it] it (fun i h => h.IsListIter it a i) where
  mem := by simp
  obj := fun i h st b hb => by
    have e : b = it := by simpa using hb
    subst e
    obtain ⟨o, e, c, d⟩ := st
    exact ⟨o, e, fun v z => by rw [d] at z; cases z⟩
  keep := fun i h h' st k => st.at fun o e => k it (by simp) o e
  item := by
    intro X hP hw hK hc i pins s σ H E I hf st hg
    subst hP hw hK
    obtain ⟨xs, x, hq, hx⟩ := hg
    obtain ⟨its, rv, p, hz⟩ := I.list hq
    obtain ⟨u, hu, ru⟩ := rv.get hx
    obtain ⟨f0, f1, f2, f3, f4, f5⟩ := hf it (by simp)
    refine wpAny_pyNext_list_item st p.isList (x := u) (by simpa using hu) fun h' st' sb => ?_
    have I1 : Inv X pins σ H { s with heap := h' } := I.turned (t' := s.toks) (fun b o hb e => (sb.2 b hb).trans e) f0 f1 f3 f4 f5
    obtain ⟨o, e, c, d⟩ := id st'
    exact ⟨u, rfl, go_of (s := { s with heap := h' }) e c d (by decide) ⟨x, H, I1, ru, ⟨rfl, fun ys hy => by rw [I.list_inj hy hq]; exact hx⟩, st', fun b hb => (hf b hb).1⟩⟩
  done := by
    intro X hP hw hK hc i pins s σ H E I hf st hg
    subst hP hw hK
    obtain ⟨xs, hq, hx⟩ := hg
    obtain ⟨its, rv, p, hz⟩ := I.list hq
    obtain ⟨f0, f1, f2, f3, f4, f5⟩ := hf it (by simp)
    have hl := rv.length
    exact wpAny_pyNext_list_end (I.ok.hd hc) st p.isList (by simp; omega) fun h' eb => ⟨rfl, I.turned (t' := s.toks) (fun b o hb e => eb b o hb e) f0 f1 f3 f4 f5⟩
  self := fun _ _ _ _ _ st h => wpAny_pyIter_listiter st h
theorem turn_tuple {P : Program} {w : World} {K : PySem.W.Frag} {tg : Expr} (a it : Addr) : Turn P w K tg (Itt K a) [it] it (fun i h => h.IsTupleIter it a i) where
  mem := by simp
  obj := fun i h st b hb => by
    have e : b = it := by simpa using hb
    subst e
    obtain ⟨o, e, c, d⟩ := st
    exact ⟨o, e, fun v z => by rw [d] at z; cases z⟩
  keep := fun i h h' st k => st.at fun o e => k it (by simp) o e
  item := by
    intro X hP hw hK hc i pins s σ H E I hf st hg
    subst hP hw hK
    obtain ⟨xs, x, hq, hx⟩ := hg
    obtain ⟨its, rv, p, hz⟩ := I.tuple hq
    obtain ⟨u, hu, ru⟩ := rv.get hx
    obtain ⟨f0, f1, f2, f3, f4, f5⟩ := hf it (by simp)
    refine wpAny_pyNext_tuple_item st (show s.heap.IsTuple a its.toArray from p) (x := u) (by simpa using hu) fun h' st' sb => ?_
    have I1 : Inv X pins σ H { s with heap := h' } := I.turned (t' := s.toks) (fun b o hb e => (sb.2 b hb).trans e) f0 f1 f3 f4 f5
    obtain ⟨o, e, c, d⟩ := id st'
    exact ⟨u, rfl, go_of (s := { s with heap := h' }) e c d (by decide) ⟨x, H, I1, ru, ⟨rfl, fun ys hy => by rw [I.tuple_inj hy hq]; exact hx⟩, st', fun b hb => (hf b hb).1⟩⟩
  done := by
    intro X hP hw hK hc i pins s σ H E I hf st hg
    subst hP hw hK
    obtain ⟨xs, hq, hx⟩ := hg
    obtain ⟨its, rv, p, hz⟩ := I.tuple hq
    obtain ⟨f0, f1, f2, f3, f4, f5⟩ := hf it (by simp)
    have hl := rv.length
    exact wpAny_pyNext_tuple_end (I.ok.hd hc) st (show s.heap.IsTuple a its.toArray from p) (by simp; omega) fun h' eb => ⟨rfl, I.turned (t' := s.toks) (fun b o hb e => eb b o hb e) f0 f1 f3 f4 f5⟩
  self := fun _ _ _ _ _ st h => wpAny_pyIter_tupleiter st h
theorem turn_range {P : Program} {w : World} {K : PySem.W.Frag} {tg : Expr} (it : Addr) (lo : Int) (n : Nat) : Turn P w K tg (Itr lo n) [it] it (fun i h => IsRangeIter h it (lo + (i : Nat) * 1) ((n : Int) - (i : Nat)) 1) where
  mem := by simp
  obj := fun i h st b hb => by
    have e : b = it := by simpa using hb
    subst e
    exact ⟨_, st, fun v z => by
      have z' : Data.fields _ = Data.cell v := z
      cases z'⟩
  keep := fun i h h' st k => k it (by simp) _ st
  item := by
    intro X hP hw hK hc i pins s σ H E I hf st hg
    subst hP hw hK
    obtain ⟨f0, f1, f2, f3, f4, f5⟩ := hf it (by simp)
    have W := Walks.range (prog := X.prog) (w := X.w) (I.ok.hd hc) it lo 1 n
    refine W.item i s _ _ hg st fun v h' tk hv st' kk => ?_
    obtain ⟨t, rfl⟩ := hv
    have I1 : Inv X pins σ H { s with heap := h', toks := tk } := I.turned (fun b o hb e => kk b o (by simpa using hb) e) f0 f1 f3 f4 f5
    refine ⟨_, rfl, go_of (s := { s with heap := h', toks := tk }) (n := "range_iterator") st' rfl rfl (by decide) ⟨.int (lo + i), H, I1, ⟨t, ?_⟩, ⟨rfl, rfl⟩, st', fun b hb => (hf b hb).1⟩⟩
    rw [Int.mul_one]
  done := by
    intro X hP hw hK hc i pins s σ H E I hf st hg
    subst hP hw hK
    obtain ⟨f0, f1, f2, f3, f4, f5⟩ := hf it (by simp)
    exact wpAny_pyNext_range_end (I.ok.hd hc) st (by have : n ≤ i := hg; omega) fun h' eb => ⟨rfl, I.turned (t' := s.toks) (fun b o hb e => eb b o hb e) f0 f1 f3 f4 f5⟩
  self := fun _ _ _ _ _ st h => wpAny_pyIter_rangeiter st h
end L2

namespace L2
open PySem PySem.Spec PyProof.Rows
section
variable {X : Cx} {tg : Expr}
def iList (K : PySem.W.Frag) (tl : TE) : TI := fun σ H R => tl σ H fun x H1 => ∃ a, x = .ref a ∧ (∃ xs, SqL K H1 a xs) ∧ R (Itl K a) H1
def iTup (K : PySem.W.Frag) (tl : TE) : TI := fun σ H R => tl σ H fun x H1 => ∃ a, x = .ref a ∧ (∃ xs, SqT K H1 a xs) ∧ R (Itt K a) H1
theorem pi_list {l : Expr} {tl : TE} (hl : PE X l tl) : PI X tg l (iList X.K tl) := by
  intro pins s σ H R I h
  refine thn (hl pins s σ H _ I h) fun v s1 ⟨x, H1, I1, r1, q1⟩ => ?_
  obtain ⟨a, e, ⟨xs, hq⟩, q⟩ := q1
  subst e
  cases r1
  obtain ⟨its, rv, p, hz⟩ := I1.list hq
  refine wpAny_pyIter_list p.isList ?_
  refine ⟨s1.heap.objs.size, [s1.heap.objs.size], _, _, H1, rfl, I1.kept (t' := s1.toks) fun b o e => Heap.get?_push_of_some _ e, turn_list a _, ⟨_, Heap.get?_push_size _ rfl, rfl, rfl⟩, fun b hb => ?_, q⟩
  have e : b = s1.heap.objs.size := by simpa using hb
  subst e
  exact I1.fpOk (Nat.le_refl _) (I1.hok.fresh (Nat.le_refl _))
theorem pi_tup {l : Expr} {tl : TE} (hl : PE X l tl) : PI X tg l (iTup X.K tl) := by
  intro pins s σ H R I h
  refine thn (hl pins s σ H _ I h) fun v s1 ⟨x, H1, I1, r1, q1⟩ => ?_
  obtain ⟨a, e, ⟨xs, hq⟩, q⟩ := q1
  subst e
  cases r1
  obtain ⟨its, rv, p, hz⟩ := I1.tuple hq
  refine wpAny_pyIter_tuple (show s1.heap.IsTuple a its.toArray from p) ?_
  refine ⟨s1.heap.objs.size, [s1.heap.objs.size], _, _, H1, rfl, I1.kept (t' := s1.toks) fun b o e => Heap.get?_push_of_some _ e, turn_tuple a _, ⟨_, Heap.get?_push_size _ rfl, rfl, rfl⟩, fun b hb => ?_, q⟩
  have e : b = s1.heap.objs.size := by simpa using hb
  subst e
  exact I1.fpOk (Nat.le_refl _) (I1.hok.fresh (Nat.le_refl _))
/-- a range object just made, walked -/
theorem range_it {pins : List (Addr × Obj)} {σ : St} {H : Hp} {s : Shared} {R : It → Hp → Prop} {E : Value → Shared → Prop} {lo hi : Int} {t u v : Tok} {tk : Nat} (I : Inv X pins σ H s) (h1 : -(2 ^ 62) ≤ lo) (h2 : lo < 2 ^ 62) (h3 : -(2 ^ 62) ≤ hi) (h4 : hi < 2 ^ 62)
    (q : R (Itr lo (hi - lo).toNat) H) : wpAny (model X.prog X.w) X.A (pyIter (.ref s.heap.objs.size)) (PIE X pins σ tg R) E { s with heap := s.heap.push { cls := .type "range", data := .fields #[.int lo t, .int hi u, .int 1 v] }, toks := tk } := by
  refine wpAny_pyIter_range (IsRange.new ..) (small_one h1 h2 h3 h4) ?_
  have I1 : Inv X pins σ H { s with heap := s.heap.push { cls := .type "range", data := .fields #[.int lo t, .int hi u, .int 1 v] }, toks := tk } := I.kept fun b o e => Heap.get?_push_of_some _ e
  refine ⟨(s.heap.push { cls := .type "range", data := .fields #[.int lo t, .int hi u, .int 1 v] }).objs.size, [(s.heap.push { cls := .type "range", data := .fields #[.int lo t, .int hi u, .int 1 v] }).objs.size], _, _, H, rfl,
    I1.kept (t' := tk) fun b o e => Heap.get?_push_of_some _ e, turn_range _ lo (hi - lo).toNat, ?_, fun b hb => ?_, q⟩
  · have e1 : lo + ((0 : Nat) : Int) * 1 = lo := by simp
    have e2 : (((hi - lo).toNat : Nat) : Int) - ((0 : Nat) : Int) = Builtin.Range.rangeSize lo hi 1 := by rw [rangeSize_one]; split <;> omega
    show IsRangeIter _ _ (lo + ((0 : Nat) : Int) * 1) ((((hi - lo).toNat : Nat) : Int) - ((0 : Nat) : Int)) 1
    rw [e1, e2]
    exact Heap.get?_push_size _ rfl
  · have e : b = (s.heap.push { cls := .type "range", data := .fields #[.int lo t, .int hi u, .int 1 v] }).objs.size := by simpa using hb
    subst e
    exact I1.fpOk (Nat.le_refl _) (I1.hok.fresh (Nat.le_refl _))
def iRng1 (ta : TA) : TI := fun σ H R => ta σ H fun vs H1 => ∃ j : Int, vs = [.int j] ∧ -(2 ^ 62) ≤ j ∧ j < 2 ^ 62 ∧ R (Itr 0 j.toNat) H1
def iRng2 (ta : TA) : TI := fun σ H R => ta σ H fun vs H1 => ∃ i j : Int, vs = [.int i, .int j] ∧ (-(2 ^ 62) ≤ i ∧ i < 2 ^ 62 ∧ -(2 ^ 62) ≤ j ∧ j < 2 ^ 62) ∧ R (Itr i (j - i).toNat) H1
theorem pi_range1 {a : Expr} {ta : TA} {p pos : Pos} (hg : Gl X "range") (hm : X.mg "range" = none) (ha : PA X [a] ta) (hs : starEach [a] X.env = [(false, eval a X.env)] := by rfl) : PI X tg (.Call (.Name "range" p) [a] [] pos) (iRng1 ta) := by
  intro pins s σ H R I h
  refine Call_ (ld_blt I hg hm boot_range (PyProof.Rows.callWith_type1 (thn (ha pos pins s σ H _ I h) fun us s1 ⟨vs, H1, I1, r1, q1⟩ => ?_) hs rfl))
  obtain ⟨j, e, q1, q2, q⟩ := q1
  subst e
  cases r1 with
  | cons r rr =>
    cases rr
    obtain ⟨t, rfl⟩ := r
    exact call_range_1 (range_it I1 (by omega) (by omega) q1 q2 (by simpa using q))
theorem pi_range2 {a b : Expr} {ta : TA} {p pos : Pos} (hg : Gl X "range") (hm : X.mg "range" = none) (ha : PA X [a, b] ta) (hs : starEach [a, b] X.env = [(false, eval a X.env), (false, eval b X.env)] := by rfl) (hs2 : starEach [b] X.env = [(false, eval b X.env)] := by rfl) :
    PI X tg (.Call (.Name "range" p) [a, b] [] pos) (iRng2 ta) := by
  intro pins s σ H R I h
  refine Call_ (ld_blt I hg hm boot_range (PyProof.Rows.callWith_type1 (thn (ha pos pins s σ H _ I h) fun us s1 ⟨vs, H1, I1, r1, q1⟩ => ?_) (by rw [hs, hs2]) (by rw [hs2]; rfl)))
  obtain ⟨i, j, e, ⟨q1, q2, q3, q4⟩, q⟩ := q1
  subst e
  cases r1 with
  | cons r rr =>
    cases rr with
    | cons r' rr =>
      cases rr
      obtain ⟨t, rfl⟩ := r
      obtain ⟨t', rfl⟩ := r'
      exact call_range_2 (range_it I1 q1 q2 q3 q4 q)

/-! ### for -/
/-- W: the invariant by the turn and a measure; N: what the body is to reach -/
def tFor (wi : TI) (g : TG) (tb : TS) : TS := fun D σ H => wi σ H fun J H1 => ∃ W : Nat → Nat → St → Hp → Prop, (∃ m, W 0 m σ H1) ∧ ∀ i m σ H, W i m σ H →
  (J.stop i H ∧ D.nx σ H) ∨ (J.go i H ∧ ∃ N : St → Hp → Prop, (∀ σ' H', N σ' H' → ∃ m', m' < m ∧ W (i + 1) m' σ' H') ∧ ∀ x H', J.yld i H x H' → g x σ H' fun σ2 H2 => tb { D with nx := N, ct := N, bk := D.nx } σ2 H2)
/-- the records at fp as they stand -/
def pinsAt (fp : List Addr) (h : Heap) : List (Addr × Obj) := fp.filterMap fun b => (h.get? b).map fun o => (b, o)
theorem mem_pinsAt {fp : List Addr} {h : Heap} {b : Addr} {o : Obj} (hb : b ∈ fp) (e : h.get? b = some o) : (b, o) ∈ pinsAt fp h := List.mem_filterMap.mpr ⟨b, hb, by rw [e]; rfl⟩
theorem of_pinsAt {fp : List Addr} {h : Heap} {p : Addr × Obj} (hp : p ∈ pinsAt fp h) : p.1 ∈ fp ∧ h.get? p.1 = some p.2 := by
  obtain ⟨b, hb, e⟩ := List.mem_filterMap.mp hp
  cases q : h.get? b with
  | none => rw [q] at e; cases e
  | some o =>
    rw [q] at e
    have e' : (b, o) = p := Option.some.inj e
    subst e'
    exact ⟨hb, q⟩
theorem Inv.pinned {pins : List (Addr × Obj)} {σ : St} {H : Hp} {s : Shared} {fp : List Addr} (I : Inv X pins σ H s) (hf : ∀ b ∈ fp, FpOk X pins H b) (ho : ∀ b ∈ fp, ∃ o, s.heap.get? b = some o ∧ ∀ v, o.data ≠ .cell v) : Inv X (pins ++ pinsAt fp s.heap) σ H s :=
  I.pins_of fun p hp => (List.mem_append.mp hp).elim (fun z => I.pin p (List.mem_append_right _ z)) fun z => by
    obtain ⟨hb, e⟩ := of_pinsAt z
    obtain ⟨f0, f1, f2, _⟩ := hf p.1 hb
    obtain ⟨o, e', d⟩ := ho p.1 hb
    rw [e] at e'; cases e'
    exact ⟨e, f0, f1, f2, d⟩
theorem Inv.unpinned {pins pl : List (Addr × Obj)} {σ : St} {H : Hp} {s : Shared} (I : Inv X (pins ++ pl) σ H s) : Inv X pins σ H s := I.pins_of fun p hp => I.pin p (List.mem_append_right _ (List.mem_append_left _ hp))
theorem ps_for {iter : Expr} {body : List Stmt} {wi : TI} {g : TG} {tb : TS} {pos : Pos} (hp : PassesOwn (model X.prog X.w) X.A X.env X.xe) (hc : X.calm = true) (hi : PI X tg iter wi) (hg : PG X tg g) (hb : PSs X body tb)
    (hs : ∀ x, foldedSetIterable iter X.env x = pure x := by intro _; rfl) : PS X (.For tg iter body [] pos) (tFor wi g tb) := by
  intro pins s σ H D I h
  refine wpAny_For (thn (hi pins s σ H _ I h) fun v s1 h1 => thn h1 fun itv s2 h2 => ?_) hs
  obtain ⟨it, fp, tn, J, H2, e, I2, T, st2, f2, W, ⟨m0, w0⟩, turn⟩ := h2
  subst e
  -- what stays true of the iterator's objects through the loop
  have stat : ∀ {H' : Hp}, (∀ b ∈ fp, H' b = none) → ∀ b ∈ fp, FpOk X pins H' b := fun hn b hb => ⟨hn b hb, (f2 b hb).2⟩
  refine codeAny_forLoop_any (fun n s' => ∃ i σ' H', Inv X pins σ' H' s' ∧ tn i s'.heap ∧ (∀ b ∈ fp, H' b = none) ∧ W i n σ' H') ?_ m0 ⟨0, σ, H2, I2, st2, fun b hb => (f2 b hb).1, w0⟩
  rintro n s3 ⟨i, σ3, H3, I3, st3, fr3, w3⟩
  rcases turn i n σ3 H3 w3 with ⟨stop, qn⟩ | ⟨go, N, hN, step⟩
  · refine wpAny_passesOwn hp (thn (T.done X rfl rfl rfl hc i pins s3 σ3 H3 X.xe I3 (stat fr3) st3 stop) fun r s4 ⟨hr, I4⟩ => ?_)
    subst hr
    exact wpAny_execs_nil ⟨σ3, H3, I4, qn⟩
  · refine wpAny_passesOwn hp (thn (T.item X rfl rfl rfl hc i pins s3 σ3 H3 X.xe I3 (stat fr3) st3 go) fun r s4 ⟨u, hr, h4⟩ => ?_)
    subst hr
    refine wpAny_passesOwn hp (thn h4 fun _ s5 ⟨x, H5, I5, r5, y5, st5, fr5⟩ => ?_)
    have I5' := I5.pinned (stat fr5) (T.obj _ _ st5)
    refine wpAny_passesOwn hp (thn (hg _ s5 σ3 H5 x u _ I5' r5 (step x H5 y5)) fun _ s6 ⟨σ6, H6, I6, q6⟩ => ?_)
    refine wpAny_passesOwn hp (thn (hb _ s6 σ6 H6 _ I6 q6) fun f s7 q7 => ?_)
    have again : ∀ {σ7 : St} {H7 : Hp}, Inv X (pins ++ pinsAt fp s5.heap) σ7 H7 s7 → N σ7 H7 → ∃ m, m < n ∧ ∃ i σ' H', Inv X pins σ' H' s7 ∧ tn i s7.heap ∧ (∀ b ∈ fp, H' b = none) ∧ W i m σ' H' := fun {σ7 H7} I7 n7 => by
      obtain ⟨m', hm, w7⟩ := hN σ7 H7 n7
      refine ⟨m', hm, i + 1, σ7, H7, I7.unpinned, T.keep _ _ _ st5 fun b hb o e => (I7.pin (b, o) (List.mem_append_right _ (List.mem_append_right _ (mem_pinsAt hb e)))).1, fun b hb => ?_, w7⟩
      obtain ⟨o, e, d⟩ := T.obj _ _ st5 b hb
      exact (I7.pin (b, o) (List.mem_append_right _ (List.mem_append_right _ (mem_pinsAt hb e)))).2.1
    cases f with
    | next => obtain ⟨σ7, H7, I7, n7⟩ := q7; exact again I7 n7
    | cont => obtain ⟨σ7, H7, I7, n7⟩ := q7; exact again I7 n7
    | brk => obtain ⟨σ7, H7, I7, q7⟩ := q7; exact ⟨σ7, H7, I7.unpinned, q7⟩
    | ret v => obtain ⟨x7, σ7, H7, I7, r7, q7⟩ := q7; exact ⟨x7, σ7, H7, I7.unpinned, r7, q7⟩
end

/-! ### the forms one uses -/
/-- over a list that the body leaves as it is -/
theorem for_list {K : PySem.W.Frag} {a : Addr} {xs : List V} {g : TG} {tb : TS} {D : Ends} {σ : St} {H : Hp} (Pv : Nat → St → Hp → Prop) (h0 : Pv 0 σ H) (hl : ∀ i σ H, i ≤ xs.length → Pv i σ H → SqL K H a xs)
    (hs : ∀ i x σ H, xs[i]? = some x → Pv i σ H → g x σ H fun σ2 H2 => tb { D with nx := Pv (i + 1), ct := Pv (i + 1), bk := D.nx } σ2 H2) (hd : ∀ σ H, Pv xs.length σ H → D.nx σ H) :
    ∃ W : Nat → Nat → St → Hp → Prop, (∃ m, W 0 m σ H) ∧ ∀ i m σ H, W i m σ H →
      ((Itl K a).stop i H ∧ D.nx σ H) ∨ ((Itl K a).go i H ∧ ∃ N : St → Hp → Prop, (∀ σ' H', N σ' H' → ∃ m', m' < m ∧ W (i + 1) m' σ' H') ∧ ∀ x H', (Itl K a).yld i H x H' → g x σ H' fun σ2 H2 => tb { D with nx := N, ct := N, bk := D.nx } σ2 H2) := by
  refine ⟨fun i m σ H => m = xs.length - i ∧ i ≤ xs.length ∧ Pv i σ H, ⟨xs.length, by simp, Nat.zero_le _, h0⟩, ?_⟩
  rintro i m σ H ⟨rfl, hi, p⟩
  have q := hl i σ H hi p
  by_cases hlt : i < xs.length
  · refine .inr ⟨⟨xs, xs[i], q, by simp [hlt]⟩, Pv (i + 1), fun σ' H' p' => ⟨xs.length - (i + 1), by omega, rfl, hlt, p'⟩, fun x H' y => ?_⟩
    obtain ⟨e, y⟩ := y
    subst e
    exact hs i x σ _ (y xs q) p
  · have e : i = xs.length := by omega
    subst e
    exact .inl ⟨⟨xs, q, Nat.le_refl _⟩, hd σ H p⟩
theorem for_range {lo : Int} {n : Nat} {g : TG} {tb : TS} {D : Ends} {σ : St} {H : Hp} (Pv : Nat → St → Hp → Prop) (h0 : Pv 0 σ H)
    (hs : ∀ i σ H, i < n → Pv i σ H → g (.int (lo + i)) σ H fun σ2 H2 => tb { D with nx := Pv (i + 1), ct := Pv (i + 1), bk := D.nx } σ2 H2) (hd : ∀ σ H, Pv n σ H → D.nx σ H) :
    ∃ W : Nat → Nat → St → Hp → Prop, (∃ m, W 0 m σ H) ∧ ∀ i m σ H, W i m σ H →
      ((Itr lo n).stop i H ∧ D.nx σ H) ∨ ((Itr lo n).go i H ∧ ∃ N : St → Hp → Prop, (∀ σ' H', N σ' H' → ∃ m', m' < m ∧ W (i + 1) m' σ' H') ∧ ∀ x H', (Itr lo n).yld i H x H' → g x σ H' fun σ2 H2 => tb { D with nx := N, ct := N, bk := D.nx } σ2 H2) := by
  refine ⟨fun i m σ H => m = n - i ∧ i ≤ n ∧ Pv i σ H, ⟨n, by simp, Nat.zero_le _, h0⟩, ?_⟩
  rintro i m σ H ⟨rfl, hi, p⟩
  by_cases hlt : i < n
  · refine .inr ⟨hlt, Pv (i + 1), fun σ' H' p' => ⟨n - (i + 1), by omega, rfl, hlt, p'⟩, fun x H' y => ?_⟩
    obtain ⟨e, y⟩ := y
    subst e y
    exact hs i σ _ hlt p
  · have e : i = n := by omega
    subst e
    exact .inl ⟨Nat.le_refl _, hd σ H p⟩
end L2

namespace L2
open PySem PySem.Spec PyProof.Rows

abbrev R2 := V → V → Hp → VK → Prop
/-- a two-place operation on values: f is binaryOp op, inplaceOp op or compareOp op -/
def OpR (X : Cx) (f : Value → Value → Sem Value) (r : R2) : Prop :=
  ∀ (pins : List (Addr × Obj)) (s : Shared) (σ : St) (H : Hp) (x y : V) (v u : Value) (Q : VK), Inv X pins σ H s → RelV x v → RelV y u → r x y H Q →
    wpAny (model X.prog X.w) X.A (f v u) (EP X pins σ Q) X.xe s
/-- a one-place operation -/
def UnR (X : Cx) (f : Value → Sem Value) (r : V → Hp → VK → Prop) : Prop :=
  ∀ (pins : List (Addr × Obj)) (s : Shared) (σ : St) (H : Hp) (x : V) (v : Value) (Q : VK), Inv X pins σ H s → RelV x v → r x H Q →
    wpAny (model X.prog X.w) X.A (f v) (EP X pins σ Q) X.xe s
/-- a call of a value that is known (a builtin, a type) with values -/
def CallR (X : Cx) (f : Value) (r : List V → Hp → VK → Prop) : Prop :=
  ∀ (pins : List (Addr × Obj)) (s : Shared) (σ : St) (H : Hp) (xs : List V) (us : List Value) (Q : VK), Inv X pins σ H s → Vals xs us → r xs H Q →
    wpAny (model X.prog X.w) X.A (call f us) (EP X pins σ Q) X.xe s
/-- a value's truth -/
def TruR (X : Cx) (r : V → Hp → (Bool → Hp → Prop) → Prop) : Prop :=
  ∀ (pins : List (Addr × Obj)) (s : Shared) (σ : St) (H : Hp) (x : V) (v : Value) (Q : Bool → Hp → Prop), Inv X pins σ H s → RelV x v → r x H Q →
    wpAny (model X.prog X.w) X.A (truthy v) (TP X pins σ Q) X.xe s

def tOp (r : R2) (ta tb : TE) : TE := fun σ H Q => ta σ H fun x H1 => tb σ H1 fun y H2 => r x y H2 Q
def tUn (r : V → Hp → VK → Prop) (ta : TE) : TE := fun σ H Q => ta σ H fun x H1 => r x H1 Q
/-- ints in, under C, and a value out -/
def rI (C : Int → Int → Prop) (g : Int → Int → V) : R2 := fun x y H Q => ∃ i j, x = .int i ∧ y = .int j ∧ C i j ∧ Q (g i j) H
def rI0 (g : Int → Int → V) : R2 := fun x y H Q => ∃ i j, x = .int i ∧ y = .int j ∧ Q (g i j) H
def rU (g : Int → V) : V → Hp → VK → Prop := fun x H Q => ∃ i, x = .int i ∧ Q (g i) H

section
variable {X : Cx} {a b c : Expr} {ta tb tc : TE} {pos : Pos}

theorem binT (ha : PE X a ta) (hb : PE X b tb) {pins : List (Addr × Obj)} {s : Shared} {σ : St} {H : Hp} {R : V → V → Hp → Prop} (I : Inv X pins σ H s)
    (h : ta σ H fun x H1 => tb σ H1 fun y H2 => R x y H2) {Q : Value → Shared → Prop} {f : Value → Value → Sem Value}
    (hf : ∀ v u s2 x y H2, Inv X pins σ H2 s2 → RelV x v → RelV y u → R x y H2 → wpAny (model X.prog X.w) X.A (f v u) Q X.xe s2) :
    wpAny (model X.prog X.w) X.A (eval a X.env) (fun v s₁ => wpAny (model X.prog X.w) X.A (eval b X.env) (fun u s₂ => wpAny (model X.prog X.w) X.A (f v u) Q X.xe s₂) X.xe s₁) X.xe s := by
  refine thn (ha pins s σ H _ I h) fun v s1 ⟨x, H1, I1, r1, q1⟩ => ?_
  refine thn (hb pins s1 σ H1 _ I1 q1) fun u s2 ⟨y, H2, I2, r2, q2⟩ => ?_
  exact hf v u s2 x y H2 I2 r1 r2 q2

theorem pe_op {op : Operator} {r : R2} (ho : OpR X (binaryOp op) r) (ha : PE X a ta) (hb : PE X b tb) : PE X (.BinOp a op b pos) (tOp r ta tb) := by
  intro pins s σ H Q I h
  exact wpAny_BinOp (binT ha hb I h fun v u s2 x y H2 I2 rx ry q => ho pins s2 σ H2 x y v u Q I2 rx ry q)
theorem pe_un {op : UnaryOp} {r : V → Hp → VK → Prop} (ho : UnR X (unaryOp op) r) (ha : PE X a ta) : PE X (.UnaryOp op a pos) (tUn r ta) := by
  intro pins s σ H Q I h
  exact UnaryOp_ (thn (ha pins s σ H _ I h) fun v s1 ⟨x, H1, I1, r1, q1⟩ => ho pins s1 σ H1 x v Q I1 r1 q1)

/-! ### ints -/
theorem opI {f : Value → Value → Sem Value} {C : Int → Int → Prop} {g : Int → Int → Int}
    (rule : ∀ (i j : Int) (t u : Tok) (s : Shared) (Q : Value → Shared → Prop) (E : Value → Shared → Prop), C i j → Q (.int (g i j) s.toks) { s with toks := s.toks + 1 } → wpAny (model X.prog X.w) X.A (f (.int i t) (.int j u)) Q E s) :
    OpR X f (rI C fun i j => .int (g i j)) := by
  intro pins s σ H x y v u Q I rx ry h
  obtain ⟨i, j, rfl, rfl, hc, q⟩ := h
  obtain ⟨t, rfl⟩ := rx
  obtain ⟨t', rfl⟩ := ry
  exact rule i j t t' s _ _ hc ⟨.int (g i j), H, I.tok _, ⟨_, rfl⟩, q⟩
theorem opI0 {f : Value → Value → Sem Value} {g : Int → Int → Int}
    (rule : ∀ (i j : Int) (t u : Tok) (s : Shared) (Q : Value → Shared → Prop) (E : Value → Shared → Prop), Q (.int (g i j) s.toks) { s with toks := s.toks + 1 } → wpAny (model X.prog X.w) X.A (f (.int i t) (.int j u)) Q E s) :
    OpR X f (rI0 fun i j => .int (g i j)) := by
  intro pins s σ H x y v u Q I rx ry h
  obtain ⟨i, j, rfl, rfl, q⟩ := h
  obtain ⟨t, rfl⟩ := rx
  obtain ⟨t', rfl⟩ := ry
  exact rule i j t t' s _ _ ⟨.int (g i j), H, I.tok _, ⟨_, rfl⟩, q⟩
theorem opB0 {f : Value → Value → Sem Value} {g : Int → Int → Bool}
    (rule : ∀ (i j : Int) (t u : Tok) (s : Shared) (Q : Value → Shared → Prop) (E : Value → Shared → Prop), Q (.bool (g i j)) s → wpAny (model X.prog X.w) X.A (f (.int i t) (.int j u)) Q E s) :
    OpR X f (rI0 fun i j => .bl (g i j)) := by
  intro pins s σ H x y v u Q I rx ry h
  obtain ⟨i, j, rfl, rfl, q⟩ := h
  obtain ⟨t, rfl⟩ := rx
  obtain ⟨t', rfl⟩ := ry
  exact rule i j t t' s _ _ ⟨.bl (g i j), H, I, rfl, q⟩

def CDiv (i j : Int) : Prop := 0 < j ∧ j < 1073741824
def CDivN (i j : Int) : Prop := j ≠ 0 ∧ j.natAbs < 1073741824
def CPow (i j : Int) : Prop := 0 ≤ j ∧ j ≤ 1000000 ∧ i.natAbs < 2 ^ 64
def CMul (i j : Int) : Prop := (-(2 ^ 64) < i ∧ i < 2 ^ 64) ∨ (-(2 ^ 64) < j ∧ j < 2 ^ 64)
theorem CMul.ok {i j : Int} (h : CMul i j) : IntMulOk i j := by
  rcases h with ⟨h1, h2⟩ | ⟨h1, h2⟩
  · exact .of_left (intBits_le_64 h1 h2)
  · exact .of_right (intBits_le_64 h1 h2)

theorem op_add : OpR X (binaryOp .Add) (rI0 fun i j => .int (i + j)) := opI0 fun _ _ _ _ _ _ _ q => add_int q
theorem op_sub : OpR X (binaryOp .Sub) (rI0 fun i j => .int (i - j)) := opI0 fun _ _ _ _ _ _ _ q => sub_int q
theorem op_mul : OpR X (binaryOp .Mult) (rI CMul fun i j => .int (i * j)) := opI fun _ _ _ _ _ _ _ hc q => mul_int q hc.ok
/-- % by a positive divisor of any size -/
theorem op_mod : OpR X (binaryOp .Mod) (rI (fun _ j => 0 < j) fun i j => .int (i % j)) := opI fun i j _ _ _ _ _ hc q => by
  have h1 : (0 : Int) < j := hc
  exact mod_int' (by omega) (by rw [Int.fmod_eq_emod_of_nonneg i (by omega)]; exact q)
theorem op_pow : OpR X (binaryOp .Pow) (rI CPow fun i j => .int (i ^ j.toNat)) := opI fun _ _ _ _ _ _ _ hc q => pow_int_small hc.1 hc.2.1 hc.2.2 q


theorem unI {f : Value → Sem Value} {g : Int → Int}
    (rule : ∀ (i : Int) (t : Tok) (s : Shared) (Q : Value → Shared → Prop) (E : Value → Shared → Prop), Q (.int (g i) s.toks) { s with toks := s.toks + 1 } → wpAny (model X.prog X.w) X.A (f (.int i t)) Q E s) :
    UnR X f (rU fun i => .int (g i)) := by
  intro pins s σ H x v Q I rx h
  obtain ⟨i, rfl, q⟩ := h
  obtain ⟨t, rfl⟩ := rx
  exact rule i t s _ _ ⟨.int (g i), H, I.tok _, ⟨_, rfl⟩, q⟩
theorem un_neg : UnR X (unaryOp .USub) (rU fun i => .int (-i)) := unI fun _ _ _ _ _ q => neg_int q

/-! ### bools among ints: n += (a < b) -/
end

/-! ### comparisons -/
/-- the scalars that == tells apart as data does -/
def scal : V → V → Bool
  | .non, .non => true | .non, .int _ => true | .int _, .non => true | .non, .bl _ => true | .bl _, .non => true | .non, .str _ => true | .str _, .non => true
  | .int _, .int _ => true | .bl _, .bl _ => true | .str _, .str _ => true | .byt _, .byt _ => true
  | .int _, .str _ => true | .str _, .int _ => true | .bl _, .str _ => true | .str _, .bl _ => true
  | _, _ => false
def rEq : R2 := fun x y H Q => scal x y = true ∧ Q (.bl (decide (x = y))) H
def rNe : R2 := fun x y H Q => scal x y = true ∧ Q (.bl (!decide (x = y))) H

theorem dec_int {i j : Int} : decide (V.int i = V.int j) = (i == j) := by
  rw [Bool.eq_iff_iff]
  simp
theorem dec_bl {i j : Bool} : decide (V.bl i = V.bl j) = (i == j) := by
  rw [Bool.eq_iff_iff]
  simp
theorem dec_str {i j : Str} : decide (V.str i = V.str j) = (i == j) := by
  rw [Bool.eq_iff_iff]
  simp
theorem dec_byt {i j : Array UInt8} : decide (V.byt i = V.byt j) = (i.toList == j.toList) := by
  rw [Bool.eq_iff_iff]
  cases i
  cases j
  simp

section
variable {X : Cx} {a b c : Expr} {ta tb tc : TE} {pos : Pos}
theorem fin_bl {pins : List (Addr × Obj)} {σ : St} {H : Hp} {s : Shared} {Q : VK} {k k' : Bool} (I : Inv X pins σ H s) (q : Q (.bl k) H) (e : k = k') : EP X pins σ Q (.bool k') s := by
  subst e
  exact ⟨.bl k, H, I, rfl, q⟩
theorem op_eq : OpR X (compareOp .Eq) rEq := by
  intro pins s σ H x y v u Q I rx ry h
  obtain ⟨hs, q⟩ := h
  cases x with
  | non =>
    cases rx
    cases y with
    | non => cases ry; exact PySem.EqNone.eq_none_none (fin_bl I q (by simp))
    | bl j => cases ry; exact PySem.EqNone.eq_none_bool (fin_bl I q (by simp))
    | int j => obtain ⟨t', rfl⟩ := ry; exact PySem.EqNone.eq_none_int (fin_bl I q (by simp))
    | str j => obtain ⟨t', rfl⟩ := ry; exact PySem.EqNone.eq_none_str (fin_bl I q (by simp))
    | _ => exact absurd (show false = true from hs) Bool.false_ne_true
  | bl i =>
    cases rx
    cases y with
    | non => cases ry; exact PySem.EqNone.eq_bool_none (fin_bl I q (by simp))
    | bl j => cases ry; exact eq_bool (fin_bl I q dec_bl)
    | str j => obtain ⟨t', rfl⟩ := ry; exact PySem.EqMixed.eq_bool_str (fin_bl I q (by simp))
    | _ => exact absurd (show false = true from hs) Bool.false_ne_true
  | int i =>
    obtain ⟨t, rfl⟩ := rx
    cases y with
    | non => cases ry; exact PySem.EqNone.eq_int_none (fin_bl I q (by simp))
    | int j => obtain ⟨t', rfl⟩ := ry; exact eq_int (fin_bl I q dec_int)
    | str j => obtain ⟨t', rfl⟩ := ry; exact PySem.EqMixed.eq_int_str (fin_bl I q (by simp))
    | _ => exact absurd (show false = true from hs) Bool.false_ne_true
  | str i =>
    obtain ⟨t, rfl⟩ := rx
    cases y with
    | non => cases ry; exact PySem.EqNone.eq_str_none (fin_bl I q (by simp))
    | bl j => cases ry; exact PySem.EqMixed.eq_str_bool (fin_bl I q (by simp))
    | int j => obtain ⟨t', rfl⟩ := ry; exact PySem.EqMixed.eq_str_int (fin_bl I q (by simp))
    | str j => obtain ⟨t', rfl⟩ := ry; exact eq_str (fin_bl I q dec_str)
    | _ => exact absurd (show false = true from hs) Bool.false_ne_true
  | byt i =>
    obtain ⟨t, rfl⟩ := rx
    cases y with
    | byt j => obtain ⟨t', rfl⟩ := ry; exact PySem.W.eq_bytes (fin_bl I q dec_byt)
    | _ => exact absurd (show false = true from hs) Bool.false_ne_true
  | _ => cases y <;> exact absurd (show false = true from hs) Bool.false_ne_true
theorem op_ne : OpR X (compareOp .NotEq) rNe := by
  intro pins s σ H x y v u Q I rx ry h
  obtain ⟨hs, q⟩ := h
  cases x with
  | non =>
    cases rx
    cases y with
    | non => cases ry; exact PySem.EqNone.ne_none_none (fin_bl I q (by simp))
    | bl j => cases ry; exact PySem.EqNone.ne_none_bool (fin_bl I q (by simp))
    | int j => obtain ⟨t', rfl⟩ := ry; exact PySem.EqNone.ne_none_int (fin_bl I q (by simp))
    | str j => obtain ⟨t', rfl⟩ := ry; exact PySem.EqNone.ne_none_str (fin_bl I q (by simp))
    | _ => exact absurd (show false = true from hs) Bool.false_ne_true
  | bl i =>
    cases rx
    cases y with
    | non => cases ry; exact PySem.EqNone.ne_bool_none (fin_bl I q (by simp))
    | bl j => cases ry; exact ne_bool (fin_bl I q (congrArg not dec_bl))
    | str j => obtain ⟨t', rfl⟩ := ry; exact PySem.EqMixed.ne_bool_str (fin_bl I q (by simp))
    | _ => exact absurd (show false = true from hs) Bool.false_ne_true
  | int i =>
    obtain ⟨t, rfl⟩ := rx
    cases y with
    | non => cases ry; exact PySem.EqNone.ne_int_none (fin_bl I q (by simp))
    | int j => obtain ⟨t', rfl⟩ := ry; exact ne_int (fin_bl I q (congrArg not dec_int))
    | str j => obtain ⟨t', rfl⟩ := ry; exact PySem.EqMixed.ne_int_str (fin_bl I q (by simp))
    | _ => exact absurd (show false = true from hs) Bool.false_ne_true
  | str i =>
    obtain ⟨t, rfl⟩ := rx
    cases y with
    | non => cases ry; exact PySem.EqNone.ne_str_none (fin_bl I q (by simp))
    | bl j => cases ry; exact PySem.EqMixed.ne_str_bool (fin_bl I q (by simp))
    | int j => obtain ⟨t', rfl⟩ := ry; exact PySem.EqMixed.ne_str_int (fin_bl I q (by simp))
    | str j => obtain ⟨t', rfl⟩ := ry; exact ne_str (fin_bl I q (congrArg not dec_str))
    | _ => exact absurd (show false = true from hs) Bool.false_ne_true
  | byt i =>
    obtain ⟨t, rfl⟩ := rx
    cases y with
    | byt j => obtain ⟨t', rfl⟩ := ry; exact PySem.W.ne_bytes (fin_bl I q (congrArg not dec_byt))
    | _ => exact absurd (show false = true from hs) Bool.false_ne_true
  | _ => cases y <;> exact absurd (show false = true from hs) Bool.false_ne_true

theorem op_lt : OpR X (compareOp .Lt) (rI0 fun i j => .bl (decide (i < j))) := opB0 fun _ _ _ _ _ _ _ q => lt_int q
theorem op_gt : OpR X (compareOp .Gt) (rI0 fun i j => .bl (decide (j < i))) := opB0 fun _ _ _ _ _ _ _ q => gt_int q
theorem op_ge : OpR X (compareOp .GtE) (rI0 fun i j => .bl (decide (j ≤ i))) := opB0 fun _ _ _ _ _ _ _ q => ge_int q

/-- is None, is not None: the right side a value none -/
theorem op_isN : OpR X (compareOp .Is) (fun x y H Q => y = .non ∧ Q (.bl (decide (x = .non))) H) := by
  intro pins s σ H x y v u Q I rx ry h
  obtain ⟨rfl, q⟩ := h
  cases ry
  refine is_none_gen (fin_bl I q ?_)
  cases x <;> first
    | (cases rx; rfl)
    | (obtain ⟨t, rfl⟩ := rx; rfl)
theorem op_notN : OpR X (compareOp .IsNot) (fun x y H Q => y = .non ∧ Q (.bl (!decide (x = .non))) H) := by
  intro pins s σ H x y v u Q I rx ry h
  obtain ⟨rfl, q⟩ := h
  cases ry
  refine isnot_none_gen (fin_bl I q ?_)
  cases x <;> first
    | (cases rx; rfl)
    | (obtain ⟨t, rfl⟩ := rx; rfl)

/-- is, is not of two objects that are tracked lists or instances -/
def isObj : HO → Bool
  | .lst _ => true
  | .ins _ _ _ => true
  | _ => false

/-- two rules for one operation: by cases -/
theorem OpR.or {f : Value → Value → Sem Value} {r r' : R2} (h : OpR X f r) (h' : OpR X f r') : OpR X f (fun x y H Q => r x y H Q ∨ r' x y H Q) := by
  intro pins s σ H x y v u Q I rx ry q
  rcases q with q | q
  · exact h pins s σ H x y v u Q I rx ry q
  · exact h' pins s σ H x y v u Q I rx ry q

theorem nomark (b : Expr) {op : CmpOp} (h : op ≠ .In := by decide) (h2 : op ≠ .NotIn := by decide) : behindInMarks op b = false := by
  have e1 : (op == CmpOp.In) = false := by cases op <;> first | rfl | exact absurd rfl h
  have e2 : (op == CmpOp.NotIn) = false := by cases op <;> first | rfl | exact absurd rfl h2
  cases b <;> simp [behindInMarks, e1, e2]
/-- a comparison as a value; hm: nomark b, or (for in, not in) by with_unfolding_all rfl -/
theorem pe_cmpR {op : CmpOp} {r : R2} (ho : OpR X (compareOp op) r) (ha : PE X a ta) (hb : PE X b tb) (hm : behindInMarks op b = false) : PE X (.Compare a [op] [b] pos) (tOp r ta tb) := by
  intro pins s σ H Q I h
  exact wpAny_Compare1 (binT ha hb I h fun v u s2 x y H2 I2 rx ry q => ho pins s2 σ H2 x y v u Q I2 rx ry q) hm
/-- a reading of a value as a test -/
def tTest (t : TE) : TT := fun σ H Q => t σ H fun x H' => ∃ k, x = .bl k ∧ Q k H'
theorem pt_cmpR {op : CmpOp} {r : R2} (ho : OpR X (compareOp op) r) (ha : PE X a ta) (hb : PE X b tb) (hm : behindInMarks op b = false) : PT X (.Compare a [op] [b] pos) (tTest (tOp r ta tb)) := by
  intro pins s σ H Q I h
  refine wpAny_isTrue_Compare1 (thn (ha pins s σ H _ I h) fun v s1 ⟨x, H1, I1, r1, q1⟩ => thn (hb pins s1 σ H1 _ I1 q1) fun u s2 ⟨y, H2, I2, r2, q2⟩ =>
    thn (ho pins s2 σ H2 x y v u _ I2 r1 r2 q2) fun c s3 ⟨z, H3, I3, r3, k, e, q3⟩ => ?_) hm
  subst e
  cases r3
  exact wpAny_truthy_bool ⟨H3, I3, q3⟩
/-- a op1 b op2 c -/
def tChain (r r' : R2) (ta tb tc : TE) : TE := fun σ H Q => ta σ H fun x H1 => tb σ H1 fun y H2 => r x y H2 fun z H3 => ∃ k, z = .bl k ∧
  (if k = true then tc σ H3 fun w' H4 => r' y w' H4 Q else Q (.bl false) H3)

/-! ### truth -/
/-- a value's truth by the abstract heap -/
def TruV (K : PySem.W.Frag) (x : V) (H : Hp) (k : Bool) : Prop :=
  match x with
  | .non => k = false
  | .bl b => k = b
  | .int i => k = (i != 0)
  | .str y => y.length ≤ sizeLine ∧ k = ((y.length : Int) != 0)
  | .byt y => y.size ≤ sizeLine ∧ k = ((y.size : Int) != 0)
  | .ref p => (∃ xs, SqL K H p xs ∧ k = !xs.isEmpty) ∨ (∃ xs, SqT K H p xs ∧ k = !xs.isEmpty) ∨ ∃ kvs, H p = some (.dK kvs) ∧ k = !kvs.isEmpty
  | _ => False
theorem line63 : (sizeLine : Nat) < 2 ^ 63 := by rw [sizeLine_eq]; decide

/-! ### strs and bytes -/

def PlainIxT (b : Expr) : Prop := ∀ o i, subscripted b false o i = operate [o, i] (getItem o i)

/-! ### scalar builtins, by CallR -/
theorem vals1 {x : V} {us : List Value} (r : Vals [x] us) : ∃ u, us = [u] ∧ RelV x u := by
  cases r with
  | cons r1 r2 => cases r2; exact ⟨_, rfl, r1⟩
theorem vals2 {x y : V} {us : List Value} (r : Vals [x, y] us) : ∃ u w', us = [u, w'] ∧ RelV x u ∧ RelV y w' := by
  cases r with
  | cons r1 r2 =>
    cases r2 with
    | cons r3 r4 => cases r4; exact ⟨_, _, rfl, r1, r3⟩
theorem call_min2 (hc : X.calm = true) : CallR X (.builtin "min") (fun xs H Q => ∃ i j, xs = [.int i, .int j] ∧ Q (.int (if j < i then j else i)) H) := by
  intro pins s σ H xs us Q I r h
  obtain ⟨i, j, rfl, q⟩ := h
  obtain ⟨u, w', rfl, ⟨t, rfl⟩, ⟨t', rfl⟩⟩ := vals2 r
  refine min_two_ints (I.ok.hd hc) fun h' tk k => ⟨_, H, I.kept k, ?_, q⟩
  by_cases hj : j < i
  · rw [if_pos hj, if_pos hj]; exact ⟨_, rfl⟩
  · rw [if_neg hj, if_neg hj]; exact ⟨_, rfl⟩
/-- len of a str, a bytes, a list, a tuple -/
def LenV (K : PySem.W.Frag) (x : V) (H : Hp) (n : Nat) : Prop :=
  match x with
  | .str y => y.length ≤ sizeLine ∧ n = y.length
  | .byt y => y.size ≤ sizeLine ∧ n = y.size
  | .ref p => (∃ xs, SqL K H p xs ∧ n = xs.length) ∨ ∃ xs, SqT K H p xs ∧ n = xs.length
  | _ => False
end
end L2

namespace L2
open PySem PySem.Spec PyProof.Rows

/-! ### an instance, its attributes a map -/
structure ObjM (h : Heap) (x dx C : Addr) (mA : Str → Option Value) : Prop where
  obj : h.get? x = some (PySem.W.instObj C dx)
  ns : h.Ns1 dx mA
  ne : dx ≠ x

theorem lookIn_ns {h : Heap} {dx : Addr} {mA : Str → Option Value} (n : h.Ns1 dx mA) : ∃ od, h.get? dx = some od ∧ ∀ name, PySem.W.lookIn name od = some (mA name) := by
  obtain ⟨o, es, ep, ho, hd, hk, _, hm⟩ := n
  refine ⟨o, ho, fun name => ?_⟩
  have e := hm name
  unfold nsFind findBy at e
  rw [← Array.find?_toList] at e
  unfold PySem.W.lookIn
  rw [hd]
  dsimp only
  split
  · rename_i y q
    rw [q] at e
    exact congrArg some e
  · rename_i q
    rw [q] at e
    have a : es.toList.any (·.refKey) = false := by
      rw [List.any_eq_false]
      intro y hy
      obtain ⟨z, t, hkey⟩ := hk y (Array.mem_toList_iff.mp hy)
      simp [DictEntry.refKey, hkey]
    have a' : ¬ es.toList.any (·.refKey) = true := by rw [a]; exact Bool.false_ne_true
    rw [if_neg a']
    exact congrArg some e

theorem ObjM.look {h : Heap} {x dx C : Addr} {mA : Str → Option Value} (I : ObjM h x dx C mA) : ∃ od, PySem.W.InstAt h x (PySem.W.instObj C dx) C (some od) ∧ ∀ name, PySem.W.lookIn name od = some (mA name) :=
  let ⟨od, ho, hl⟩ := lookIn_ns I.ns
  ⟨od, ⟨I.obj, rfl, rfl, ho⟩, hl⟩

section
variable {prog : Program} {w : World} {A : Around} {E : Value → Shared → Prop} {s : Shared} {K : PySem.W.Frag} {x dx C f : Addr} {mA : Str → Option Value} {name : Str} {v : Value}

theorem get_map {expr : Bool} {Q : Value → Shared → Prop} (X : K.In s.heap) (I : ObjM s.heap x dx C mA) (hg : PySem.W.plainGet K C name = true) (hh : PySem.W.hasDictIn K C = true)
    (ha : PySem.W.findIn K (.ref C) name = some none) (hv : mA name = some v) (hv' : PySem.W.handedIn v = true) (h : Q v { s with toks := s.toks + 1 }) :
    wpAny (model prog w) A (getAttr (.ref x) name expr) Q E s := by
  obtain ⟨od, J, hl⟩ := I.look
  exact PySem.W.get_value X J (PySem.W.plainGet_of hg).1 (PySem.W.findObj_own hh ha rfl (by rw [hl, hv])) hv' h



theorem set_map {ns : List Str} {Q : Unit → Shared → Prop} (X : K.In s.heap) (I : ObjM s.heap x dx C mA)
    (hs : PySem.W.findIn K (.ref C) "__setattr__" = some (some (.builtin "object.__setattr__"))) (hp : PySem.W.plainOver K C = true) (ht : PySem.W.takerIn K C name = some none) (hh : PySem.W.hasDictIn K C = true)
    (hw : PySem.Within mA ns) (hsz : ns.length ≤ sizeLine)
    (h : ∀ h', ObjM h' x dx C (fun y => if y = name then some v else mA y) → Heap.SameBut dx s.heap h' → Q () { s with heap := h', toks := s.toks + 2 }) :
    wpAny (model prog w) A (setAttr (.ref x) name v) Q E s := by
  obtain ⟨od, J, hl⟩ := I.look
  refine PySem.W.set_plain X J hs (PySem.W.osa_open (s := { s with toks := s.toks + 1 }) (r := none) X J hp ht fun b => ?_)
  obtain ⟨cd, hc, hd'⟩ := PySem.W.any_some hh
  have hx : s.heap.get? x = some ⟨.ref C, some dx, .plain, #[]⟩ := I.obj
  refine wpAny_bind (wpAny_pure (wpAny_bind (wpAny_bind (wpAny_loadPart hx (wpAny_bind (PySem.W.Looks.here (s := { s with toks := s.toks + 1 }) (PySem.W.looks_clsIn X hc) ?_))))))
  rw [hd']
  refine wpAny_pure (a := some dx) (wpAny_bind (wpAny_pure (wpAny_bind ?_)))
  refine wpAny_nsSet1 (s := { s with toks := s.toks + 1 }) I.ns fun h' hn2 hs2 => ?_
  obtain ⟨oD, esD, epD, hoD, hdD, hcD⟩ := hn2.count (PySem.Within.cons name v hw)
  refine wpAny_bind (wpAny_lookBehind hoD (by rw [hdD]; exact pastItsLine_dict (Nat.le_trans hcD (by rw [List.length_cons]; omega))) ?_)
  exact wpAny_pure (h _ ⟨(hs2.2 _ (Ne.symm I.ne)).trans I.obj, hn2, I.ne⟩ hs2)

/-- C(..): the dict at the heap's end, the instance behind it; then its __init__ -/
theorem make_map {R : Result → Shared → Prop} {vs : List Value} {kw : List (Str × Value)} (X : K.In s.heap) (hm : PySem.W.makesIn K C = true)
    (hi : PySem.W.findIn K (.ref C) "__init__" = some (some (.ref f))) (hf : PySem.W.typeIn K (.ref f) = some (.type "function"))
    (h : codeAny (model prog w) (A.under (.builtin "type.__call__" ⟨.ref C :: vs, kw⟩)) (.call (.ref f) ⟨.ref (s.heap.objs.size + 1) :: vs, kw⟩) (PySem.W.InitBack (s.heap.objs.size + 1) R)
      { s with heap := (s.heap.push PySem.W.emptyDict).push (PySem.W.instObj C s.heap.objs.size) }) :
    codeAny (model prog w) A (.call (.ref C) ⟨vs, kw⟩) R s := by
  obtain ⟨hh, g, d, t, os⟩ := s
  exact PySem.W.make_core (PySem.W.makes_of X hm) (PySem.W.looks_findIn X hi) (fun self => PySem.W.bind_fn X self hf) (.inl rfl) h
end

/-! ### the attributes as a list of pairs -/
def putF (f : Str) (v : V) : List (Str × V) → List (Str × V)
  | [] => [(f, v)]
  | (g, x) :: r => if g = f then (g, v) :: r else (g, x) :: putF f v r
theorem lookup_putF (f g : Str) (v : V) : ∀ fs : List (Str × V), (putF f v fs).lookup g = if g = f then some v else fs.lookup g
  | [] => by
    show List.lookup g [(f, v)] = _
    by_cases h : g = f
    · have hb : (g == f) = true := beq_iff_eq.mpr h
      simp only [List.lookup, hb, if_pos h]
    · have hb : (g == f) = false := beq_eq_false_iff_ne.mpr h
      simp only [List.lookup, hb, if_neg h]
  | (k, x) :: r => by
    have ih := lookup_putF f g v r
    rw [show putF f v ((k, x) :: r) = (if k = f then (k, v) :: r else (k, x) :: putF f v r) from rfl]
    by_cases hk : k = f
    · rw [if_pos hk]
      by_cases h : g = k
      · have hb : (g == k) = true := beq_iff_eq.mpr h
        simp only [List.lookup, hb, if_pos (h.trans hk)]
      · have hb : (g == k) = false := beq_eq_false_iff_ne.mpr h
        simp only [List.lookup, hb, if_neg (fun e : g = f => h (e.trans hk.symm))]
    · rw [if_neg hk]
      by_cases h : g = k
      · have hb : (g == k) = true := beq_iff_eq.mpr h
        simp only [List.lookup, hb, if_neg (fun e : g = f => hk (h.symm.trans e))]
      · have hb : (g == k) = false := beq_eq_false_iff_ne.mpr h
        simp only [List.lookup, hb]
        exact ih
theorem keys_putF (f : Str) (v : V) : ∀ fs : List (Str × V), f ∈ (putF f v fs).map (·.1) ∧ ∀ g, g ∈ fs.map (·.1) → g ∈ (putF f v fs).map (·.1)
  | [] => ⟨by simp [putF], fun g h => by simp at h⟩
  | (k, x) :: r => by
    obtain ⟨i1, i2⟩ := keys_putF f v r
    rw [show putF f v ((k, x) :: r) = (if k = f then (k, v) :: r else (k, x) :: putF f v r) from rfl]
    by_cases hk : k = f
    · rw [if_pos hk]
      subst hk
      exact ⟨by simp, fun g h => by simpa using h⟩
    · rw [if_neg hk]
      refine ⟨?_, fun g h => ?_⟩
      · rw [List.map_cons]
        exact List.mem_cons_of_mem _ i1
      · rw [List.map_cons] at h ⊢
        rcases List.mem_cons.mp h with e | e
        · exact List.mem_cons.mpr (.inl e)
        · exact List.mem_cons_of_mem _ (i2 g e)
theorem length_putF (f : Str) (v : V) : ∀ fs : List (Str × V), (putF f v fs).length ≤ fs.length + 1
  | [] => by simp [putF]
  | (k, x) :: r => by
    have ih := length_putF f v r
    rw [show putF f v ((k, x) :: r) = (if k = f then (k, v) :: r else (k, x) :: putF f v r) from rfl]
    by_cases hk : k = f
    · rw [if_pos hk, List.length_cons, List.length_cons]; omega
    · rw [if_neg hk, List.length_cons, List.length_cons]; omega

theorem RelO.some_of {v : V} {o : Option Value} (r : RelO (some v) o) : ∃ u, o = some u ∧ RelV v u := by
  cases o with
  | none => exact (show False from r).elim
  | some u => exact ⟨u, rfl, r⟩
theorem handed_of {v : V} {u : Value} (r : RelV v u) : PySem.W.handedIn u = true := by
  cases v with
  | non => cases (show u = Value.none from r); rfl
  | bl b => cases (show u = Value.bool b from r); rfl
  | int i => obtain ⟨t, e⟩ := (show ∃ t, u = Value.int i t from r); cases e; rfl
  | str x => obtain ⟨t, e⟩ := (show ∃ t, u = Value.str x t from r); cases e; rfl
  | byt b => obtain ⟨t, e⟩ := (show ∃ t, u = Value.bytes b t from r); cases e; rfl
  | flt b => obtain ⟨t, e⟩ := (show ∃ t, u = Value.float b t from r); cases e; rfl
  | ref a => cases (show u = Value.ref a from r); rfl
  | ty n => cases (show u = Value.type n from r); rfl

section
variable {P : Program} {w : World} {H H' : Hp} {h h' : Heap} {a C dx : Addr} {fs fs' : List (Str × V)}
theorem ins_get (hok : HOk P w H h) (e : H a = some (.ins C dx fs)) : ∃ mA, ObjM h a dx C mA ∧ (∀ f, RelO (fs.lookup f) (mA f)) ∧ PySem.Within mA (fs.map (·.1)) ∧ fs.length ≤ 1000 ∧ H dx = some (.own a) := by
  obtain ⟨d, z, ne, ob, mA, n, r, q⟩ := (show ObjOk P w H h a (.ins C dx fs) from hok a _ e)
  exact ⟨mA, ⟨ob, n, ne⟩, r, q, z, d⟩
end

/-! ### what of the text a class must have -/
structure Cls (K : PySem.W.Frag) (C : Addr) : Prop where
  pg : PySem.W.plainGet K C Str.empty = true
  hd : PySem.W.hasDictIn K C = true
  po : PySem.W.plainOver K C = true
  sa : PySem.W.findIn K (.ref C) "__setattr__" = some (some (.builtin "object.__setattr__"))
theorem Cls.get {K : PySem.W.Frag} {C : Addr} (c : Cls K C) (f : Str) : PySem.W.plainGet K C f = true := c.pg
/-- no class of it has the name -/
def NoAttr (K : PySem.W.Frag) (C : Addr) (f : Str) : Prop := PySem.W.findIn K (.ref C) f = some none
theorem NoAttr.taker {K : PySem.W.Frag} {C : Addr} {f : Str} (n : NoAttr K C f) : PySem.W.takerIn K C f = some none := by
  unfold PySem.W.takerIn
  rw [show PySem.W.findIn K (.ref C) f = some none from n]
  rfl
/-- a constant of the class -/
structure Con (K : PySem.W.Frag) (C : Addr) (f : Str) (v : V) (u : Value) : Prop where
  at_ : PySem.W.findIn K (.ref C) f = some (some u)
  rel : RelV v u
  get : PySem.W.specialIn K u "__get__" = some none
  cp : PySem.W.copiedNames.contains f = false
/-- a method: a plain def of the class or of one above it -/
structure Meth (K : PySem.W.Frag) (C : Addr) (m : Str) (f : Addr) : Prop where
  at_ : PySem.W.findIn K (.ref C) m = some (some (.ref f))
  fn : PySem.W.isFn K (.ref f) = true
  kp : PySem.W.keepIn K (.ref f) = true

section
variable {X : Cx} {pins : List (Addr × Obj)} {σ : St} {H : Hp} {s : Shared} {a C dx : Addr} {fs : List (Str × V)} {f : Str} {v : V} {A : Around} {E : Value → Shared → Prop}

theorem getattr_ok {b : Bool} {Q : Value → Shared → Prop} (I : Inv X pins σ H s) (e : H a = some (.ins C dx fs)) (c : Cls X.K C) (n : NoAttr X.K C f) (l : fs.lookup f = some v)
    (h : ∀ u s', Inv X pins σ H s' → RelV v u → Q u s') : wpAny (model X.prog X.w) A (getAttr (.ref a) f b) Q E s := by
  obtain ⟨mA, O, r, _, _, _⟩ := ins_get I.hok e
  obtain ⟨u, hu, ru⟩ := RelO.some_of (v := v) (o := mA f) (by rw [← l]; exact r f)
  exact get_map I.kIn O (c.get f) c.hd n hu (handed_of ru) (h u _ (I.tok _) ru)



theorem setattr_ok {y : V} {u : Value} {Q : Unit → Shared → Prop} (I : Inv X pins σ H s) (e : H a = some (.ins C dx fs)) (c : Cls X.K C) (n : NoAttr X.K C f) (hl : fs.length < 1000) (ry : RelV y u)
    (h : ∀ s', Inv X pins σ (upd H a (.ins C dx (putF f y fs))) s' → Q () s') : wpAny (model X.prog X.w) A (setAttr (.ref a) f u) Q E s := by
  obtain ⟨mA, O, r, wi, _, ho⟩ := ins_get I.hok e
  have hz : (fs.map (·.1)).length ≤ sizeLine := by rw [List.length_map, sizeLine_eq]; omega
  refine set_map I.kIn O c.sa c.po n.taker c.hd wi hz fun h' O' sb => h _ ?_
  have hd : ∃ o, h'.get? dx = some o := let ⟨o, _, _, e', _⟩ := O'.ns; ⟨o, e'⟩
  refine I.write (x := a) (e := dx) (by rw [e]; exact True.intro) (.inr ho) (fun b q hb z => (sb.2 b hb).trans z) hd ?_
  refine ⟨by rw [upd_ne O.ne]; exact ho, ?_, O.ne, O'.obj, _, O'.ns, fun g => ?_, fun g hg => ?_⟩
  · have := length_putF f y fs; omega
  · show RelO ((putF f y fs).lookup g) (if g = f then some u else mA g)
    rw [lookup_putF]
    by_cases q : g = f
    · rw [if_pos q, if_pos q]; exact ry
    · rw [if_neg q, if_neg q]; exact r g
  · by_cases q : g = f
    · rw [q]; exact (keys_putF f y fs).1
    · refine (keys_putF f y fs).2 g (wi g fun z => hg ?_)
      show (if g = f then some u else mA g) = none
      rw [if_neg q]; exact z

/-- a new instance, tracked, without attributes -/
theorem Inv.made (I : Inv X pins σ H s) : Inv X pins σ (upd (upd H s.heap.objs.size (.own (s.heap.objs.size + 1))) (s.heap.objs.size + 1) (.ins C s.heap.objs.size []))
    { s with heap := (s.heap.push PySem.W.emptyDict).push (PySem.W.instObj C s.heap.objs.size) } := by
  have e1 : (s.heap.push PySem.W.emptyDict).get? s.heap.objs.size = some PySem.W.emptyDict := Heap.get?_push_size s.heap rfl
  have e2 : ((s.heap.push PySem.W.emptyDict).push (PySem.W.instObj C s.heap.objs.size)).get? (s.heap.objs.size + 1) = some (PySem.W.instObj C s.heap.objs.size) := by
    have := Heap.get?_push_size (s.heap.push PySem.W.emptyDict) (o := PySem.W.instObj C s.heap.objs.size) rfl
    rwa [Heap.size_push] at this
  have e3 : (s.heap.push PySem.W.emptyDict).Ns s.heap.objs.size (fun _ => none) := ⟨PySem.W.emptyDict, #[], _, e1, rfl, (fun e he => absurd he (by simp)), fun _ => rfl⟩
  have I1 := I.laid (a := s.heap.objs.size) (o := .own (s.heap.objs.size + 1)) (h' := s.heap.push PySem.W.emptyDict) (t' := s.toks) (fun b u q => Heap.get?_push_of_some _ q) (Nat.le_refl _) ⟨_, e1⟩
  refine I1.laid (a := s.heap.objs.size + 1) (o := .ins C s.heap.objs.size []) (t' := s.toks) (fun b u q => Heap.get?_push_of_some _ q) (Nat.le_of_eq (Heap.size_push _ _)) ?_
  have ne : s.heap.objs.size ≠ s.heap.objs.size + 1 := Nat.ne_of_lt (Nat.lt_succ_self _)
  refine ⟨by rw [upd_ne ne, upd_same], Nat.zero_le _, ne, e2, fun _ => none, (Heap.Ns1.of_empty e3).at fun o q => Heap.get?_push_of_some _ q, fun _ => True.intro, fun y hy => absurd rfl hy⟩

/-- e.f where nothing but the object is asked: through attributeBase (super) and the last hold -/
theorem attr_of {prog : Program} {w : World} {env : Env} {e : Expr} {f : Str} {pos : Pos} {s : Shared} {Q : Value → Shared → Prop} (hb : attributeBase e f env (eval e env) = eval e env)
    (h : wpAny (model prog w) A (eval e env) (fun o s₁ => wpAny (model prog w) A (getAttr o f true) Q E s₁) E s) : wpAny (model prog w) A (eval (.Attribute e f pos) env) Q E s :=
  Attribute_any_ h (by rw [arm_eval_Attribute, hb])
end

/-! ### readings and rules -/
/-- e.f, an attribute of the instance -/
def tFld (K : PySem.W.Frag) (ta : TE) (f : Str) : TE := fun σ H Q => ta σ H fun x H1 => ∃ a C dx fs v, x = .ref a ∧ H1 a = some (.ins C dx fs) ∧ Cls K C ∧ NoAttr K C f ∧ fs.lookup f = some v ∧ Q v H1
/-- e.f, a constant of the class -/
def tCon (K : PySem.W.Frag) (ta : TE) (f : Str) : TE := fun σ H Q => ta σ H fun x H1 => ∃ a C dx fs v u, x = .ref a ∧ H1 a = some (.ins C dx fs) ∧ Cls K C ∧ Con K C f v u ∧ fs.lookup f = none ∧ Q v H1
/-- e.f = value -/
def sFld (K : PySem.W.Frag) (ta tv : TE) (f : Str) : TS := fun D σ H => tv σ H fun y H1 => ta σ H1 fun x H2 => ∃ a C dx fs, x = .ref a ∧ H2 a = some (.ins C dx fs) ∧ Cls K C ∧ NoAttr K C f ∧ fs.length < 1000 ∧
  D.nx σ (upd H2 a (.ins C dx (putF f y fs)))
/-- an augmented operator on two values -/
def InOp (X : Cx) (op : Operator) (rd : V → V → Hp → VK → Prop) : Prop :=
  ∀ (pins : List (Addr × Obj)) (s : Shared) (σ : St) (H : Hp) (x y : V) (u v : Value) (Q : VK), Inv X pins σ H s → RelV x u → RelV y v → rd x y H Q → wpAny (model X.prog X.w) X.A (inplaceOp op u v) (EP X pins σ Q) X.xe s
/-- e.f op= value -/
def sFldAug (K : PySem.W.Frag) (ta tv : TE) (rd : V → V → Hp → VK → Prop) (f : Str) : TS := fun D σ H => ta σ H fun x H1 => ∃ a C dx fs v, x = .ref a ∧ H1 a = some (.ins C dx fs) ∧ Cls K C ∧ NoAttr K C f ∧ fs.lookup f = some v ∧
  tv σ H1 fun y H2 => rd v y H2 fun z H3 => ∃ dx' fs', H3 a = some (.ins C dx' fs') ∧ fs'.length < 1000 ∧ D.nx σ (upd H3 a (.ins C dx' (putF f z fs')))

section
variable {X : Cx} {o e value : Expr} {f : Str} {pos pos' tpos : Pos} {ta tv : TE}
theorem pe_fld (he : PE X e ta) (hb : attributeBase e f X.env (eval e X.env) = eval e X.env) : PE X (.Attribute e f pos) (tFld X.K ta f) := by
  intro pins s σ H Q I h
  refine attr_of hb (thn (he pins s σ H _ I h) fun u s1 ⟨x, H1, I1, rx, a, C, dx, fs, v, ex, ea, c, n, l, q⟩ => ?_)
  subst ex
  obtain rfl : u = Value.ref a := rx
  exact getattr_ok I1 ea c n l fun u' s2 I2 ru => ⟨v, H1, I2, ru, q⟩
theorem ps_fld (ha : PE X o ta) (hv : PE X value tv) (hs : swapsWith value (some (.Attribute o f pos')) pos.line X.env = pure false) : PS X (.Assign [.Attribute o f pos'] value pos) (sFld X.K ta tv f) := by
  intro pins s σ H D I h
  refine plainObj_wpAny_Assign_Attribute (thn (hv pins s σ H _ I h) fun u s1 ⟨y, H1, I1, ry, q⟩ => thn (ha pins s1 σ H1 _ I1 q) fun ov s2 ⟨x, H2, I2, rx, a, C, dx, fs, ex, ea, c, n, l, q2⟩ => ?_) hs
  subst ex
  obtain rfl : ov = Value.ref a := rx
  exact setattr_ok I2 ea c n l ry fun s3 I3 => ⟨σ, _, I3, q2⟩
def rAdd : V → V → Hp → VK → Prop := fun x y H Q => ∃ i j, x = .int i ∧ y = .int j ∧ Q (.int (i + j)) H
def rSub : V → V → Hp → VK → Prop := fun x y H Q => ∃ i j, x = .int i ∧ y = .int j ∧ Q (.int (i - j)) H

end

/-! ### isinstance -/
section
variable {X : Cx} {pins : List (Addr × Obj)} {σ : St} {H : Hp} {s : Shared} {A : Around} {E : Value → Shared → Prop} {Q : Value → Shared → Prop} {c : Value} {b : Bool}
/-- the type of a value, as the fragment's deciders take it; for an instance its class -/
inductive TyOf (K : PySem.W.Frag) (H : Hp) : V → Value → Prop where
  | non : TyOf K H .non (.type "NoneType")
  | bl (x : Bool) : TyOf K H (.bl x) (.type "bool")
  | int (i : Int) : TyOf K H (.int i) (.type "int")
  | str (x : Str) : TyOf K H (.str x) (.type "str")
  | flt (x : UInt64) : TyOf K H (.flt x) (.type "float")
  | lst {a : Addr} {xs : List V} (e : H a = some (.lst xs)) : TyOf K H (.ref a) (.type "list")
  | frz {a : Addr} {o : Obj} {xs : List V} (e : H a = some (.frz o (.lst xs))) : TyOf K H (.ref a) (.type "list")
  | tup {a : Addr} {xs : List V} (e : H a = some (.tup xs)) : TyOf K H (.ref a) (.type "tuple")
  | dK {a : Addr} {kvs : List (Key × V)} (e : H a = some (.dK kvs)) : TyOf K H (.ref a) (.type "dict")
  | dT {a : Addr} {kvs : List (List Key × V)} (e : H a = some (.dT kvs)) : TyOf K H (.ref a) (.type "dict")
  | ins {a C dx : Addr} {fs : List (Str × V)} (e : H a = some (.ins C dx fs)) (cl : Cls K C) (ha : PySem.W.findIn K (.ref C) "__class__" = some (some (.builtin "object.__class__")))
      (hn : PySem.W.specialIn K (.builtin "object.__class__") "__get__" = some (some (.builtin "getset_descriptor.__get__"))) (htk : PySem.W.takesIn K (.builtin "object.__class__") = some true)
      (hm : PySem.W.mroIn K C (.type "object") = some true) : TyOf K H (.ref a) (.ref C)
/-- isinstance(x, c) for one class c, a built-in or an own one: kitOne's answer -/
theorem isinst_ok {x : V} {u t : Value} (I : Inv X pins σ H s) (rx : RelV x u) (ty : TyOf X.K H x t) (e : PySem.W.kitOne X.K t c = some b) (h : ∀ tk, Q (.bool b) { s with toks := tk }) :
    wpAny (model X.prog X.w) A (call (.builtin "isinstance") [u, c]) Q E s := by
  cases ty with
  | non => cases (show u = Value.none from rx); exact PySem.W.kia_one PySem.W.kitx_none I.kIn True.intro e (fun z => nomatch z) h
  | bl y => cases (show u = Value.bool y from rx); exact PySem.W.kia_one PySem.W.kitx_bool I.kIn True.intro e (fun z => nomatch z) h
  | int i => obtain ⟨t, q⟩ := (show ∃ t, u = Value.int i t from rx); cases q; exact PySem.W.kia_one PySem.W.kitx_int I.kIn True.intro e (fun z => nomatch z) h
  | str y => obtain ⟨t, q⟩ := (show ∃ t, u = Value.str y t from rx); cases q; exact PySem.W.kia_one PySem.W.kitx_str I.kIn True.intro e (fun z => nomatch z) h
  | flt y => obtain ⟨t, q⟩ := (show ∃ t, u = Value.float y t from rx); cases q; exact PySem.W.kia_one PySem.W.kitx_float I.kIn True.intro e (fun z => nomatch z) h
  | @lst a xs ea =>
    cases (show u = Value.ref a from rx)
    obtain ⟨_, _, n, _, h1⟩ := (show ObjOk X.prog X.w H s.heap a (.lst xs) from I.hok a _ ea)
    exact PySem.W.kia_one PySem.W.kitx_list I.kIn ⟨_, h1, rfl⟩ e (fun z => nomatch z) h
  | @frz a ob xs ea =>
    cases (show u = Value.ref a from rx)
    obtain ⟨_, _, _, n, _, h1⟩ := (show ObjOk X.prog X.w H s.heap a (.frz ob (.lst xs)) from I.hok a _ ea)
    exact PySem.W.kia_one PySem.W.kitx_list I.kIn ⟨_, h1, rfl⟩ e (fun z => nomatch z) h
  | @tup a xs ea =>
    cases (show u = Value.ref a from rx)
    obtain ⟨_, _, _, p⟩ := (show ObjOk X.prog X.w H s.heap a (.tup xs) from I.hok a _ ea)
    obtain ⟨o, h1, h2, _⟩ := p
    exact PySem.W.kia_one PySem.W.kitx_tuple I.kIn ⟨o, h1, h2⟩ e (fun z => nomatch z) h
  | @dK a kvs ea =>
    cases (show u = Value.ref a from rx)
    obtain ⟨_, _, vs, _, p⟩ := (show ObjOk X.prog X.w H s.heap a (.dK kvs) from I.hok a _ ea)
    obtain ⟨o, es, ep, h1, h2, _⟩ := p
    exact PySem.W.kia_one PySem.W.kitx_dict I.kIn ⟨o, h1, h2.1⟩ e (fun z => nomatch z) h
  | @dT a kvs ea =>
    cases (show u = Value.ref a from rx)
    obtain ⟨_, _, xs, _, o, es, ep, h1, h2, _⟩ := (show ObjOk X.prog X.w H s.heap a (.dT kvs) from I.hok a _ ea)
    exact PySem.W.kia_one PySem.W.kitx_dict I.kIn ⟨o, h1, h2.1⟩ e (fun z => nomatch z) h
  | @ins a C dx fs ea cl ha hn htk hm =>
    cases (show u = Value.ref a from rx)
    obtain ⟨mA, O, _⟩ := ins_get I.hok ea
    obtain ⟨od, J, _⟩ := O.look
    exact PySem.W.kia_one (PySem.W.kitx_own (cl.get _) cl.hd ha hn htk hm) I.kIn J e (fun z => nomatch z) h
end
end L2

namespace L2
open PySem PySem.Spec PyProof.Rows

/-! ### room -/
structure Room (k : Nat) (A : Around) : Prop where
  hd : A.handled = none
  dp : A.depth + 3 * k + 5 < recursionLimit
  un : A.units + 16 * k + 200 < cLine
theorem Room.mono {j k : Nat} {A : Around} (r : Room k A) (h : j ≤ k) : Room j A := ⟨r.hd, by have := r.dp; omega, by have := r.un; omega⟩
theorem Room.deeper {k : Nat} {A : Around} (r : Room (k + 1) A) (env : Env) : Room k (A.deeper env) :=
  ⟨r.hd, by have := r.dp; show A.depth + 1 + 3 * k + 5 < _; omega, by have := r.un; show A.units + 3 + 16 * k + 200 < _; omega⟩
theorem Room.in1 {k : Nat} {A : Around} (r : Room (k + 1) A) : Room k A.in1 :=
  ⟨r.hd, by have := r.dp; show A.depth + 3 * k + 5 < _; omega, by have := r.un; show A.units + 1 + 16 * k + 200 < _; omega⟩
theorem make_depth {A : Around} {C : Addr} {us : List Value} {kw : List (Str × Value)} : (A.under (.builtin "type.__call__" ⟨.ref C :: us, kw⟩)).depth = A.depth + 1 := by
  first | rfl | simp [Around.under, Code.weight, Code.isCreation, Code.isGuard, Code.isCaller, Code.frames, Code.isFrame, guardIds]
theorem make_units {A : Around} {C : Addr} {us : List Value} {kw : List (Str × Value)} : (A.under (.builtin "type.__call__" ⟨.ref C :: us, kw⟩)).units = A.units + 1 := by
  first | rfl | simp [Around.under, Code.cUnits, Code.frames, Code.isFrame]
theorem Room.make {k : Nat} {A : Around} (r : Room (k + 1) A) (C : Addr) (us : List Value) (kw : List (Str × Value)) : Room k (A.under (.builtin "type.__call__" ⟨.ref C :: us, kw⟩)) :=
  ⟨r.hd, by have := r.dp; rw [make_depth]; omega, by have := r.un; rw [make_units]; omega⟩
theorem Room.depth {k : Nat} {A : Around} (r : Room k A) : A.depth < recursionLimit := by have := r.dp; omega
theorem Room.units {k : Nat} {A : Around} (r : Room k A) : A.units + 64 < cLine := by have := r.un; omega

/-! ### argument lists and displays -/
def tNil : TA := fun _ H Q => Q [] H
def tCons (ta : TE) (tr : TA) : TA := fun σ H Q => ta σ H fun x H1 => tr σ H1 fun xs H2 => Q (x :: xs) H2
section
variable {X : Cx} {e : Expr} {es : List Expr} {te : TE} {t : TA} {pos : Pos}
theorem pa_nil : PA X [] tNil := fun _ _ _ _ H Q I h => Calls.spliced_nil ⟨[], H, I, .nil, h⟩
theorem pa_cons (ha : PE X e te) (hr : PA X es t) (hs : starEach (e :: es) X.env = (false, eval e X.env) :: starEach es X.env := by rfl) : PA X (e :: es) (tCons te t) := by
  intro pos pins s σ H Q I h
  rw [hs]
  show wpAny _ _ (spliced ((false, eval e X.env) :: backTo pos (starEach es X.env))) _ _ s
  refine Calls.spliced_cons (thn (ha pins s σ H _ I h) fun u s1 ⟨x, H1, I1, r1, q1⟩ => ?_)
  exact thn (hr pos pins s1 σ H1 _ I1 q1) fun us s2 ⟨xs, H2, I2, r2, q2⟩ => ⟨x :: xs, H2, I2, .cons r1 r2, q2⟩

/-- a tuple, a list of written items -/
def tTup (t : TA) : TE := fun σ H Q => t σ H fun xs H1 => xs.length ≤ sizeLine ∧ ∀ p, H1 p = none → Q (.ref p) (upd H1 p (.tup xs))
def tLst (t : TA) : TE := fun σ H Q => t σ H fun xs H1 => xs.length ≤ sizeLine ∧ ∀ p, H1 p = none → Q (.ref p) (upd H1 p (.lst xs))
theorem pe_tup {x1} (h : PA X es t) : PE X (.Tuple es x1 pos) (tTup t) := by
  intro pins s σ H Q I hq
  refine wpAny_Tuple_spliced (thn (h pos pins s σ H _ I hq) fun us s1 ⟨xs, H1, I1, r, z, q⟩ => ⟨by rw [← r.length]; exact z, ?_⟩)
  have hf : H1 s1.heap.objs.size = none := I1.hok.fresh (Nat.le_refl _)
  refine ⟨.ref s1.heap.objs.size, upd H1 s1.heap.objs.size (.tup xs), I1.laid (t' := s1.toks) (fun b u e => Heap.get?_push_of_some _ e) (Nat.le_refl _) ?_, rfl, q _ hf⟩
  exact ⟨z, us, r, ⟨_, Heap.get?_push_size _ rfl, rfl, _, rfl⟩⟩
theorem pe_lst (h : PA X es t) : PE X (.List es pos) (tLst t) := by
  intro pins s σ H Q I hq
  refine wpAny_List_spliced (thn (h pos pins s σ H _ I hq) fun us s1 ⟨xs, H1, I1, r, z, q⟩ => ⟨by rw [← r.length]; exact z, ?_⟩)
  have hf : H1 s1.heap.objs.size = none := I1.hok.fresh (Nat.le_refl _)
  refine ⟨.ref s1.heap.objs.size, upd H1 s1.heap.objs.size (.lst xs), I1.laid (t' := s1.toks) (fun b u e => Heap.get?_push_of_some _ e) (Nat.le_refl _) ?_, rfl, q _ hf⟩
  exact ⟨z, us, 0, r, Heap.get?_push_size _ rfl⟩
end

/-! ### what a def promises -/
/-- a def's promise: the bound arguments in the parameters' order, the heap, the wanted end, the wanted exception -/
abbrev Sp := List V → Hp → VK → XK → Prop
/-- how an exception lies behind a call (file 08 gives it): the callers' frames, abstract heap and state ahead of the call, the wish, the exception, the state -/
abbrev CXT := List Env → Hp → Shared → XK → Value → Shared → Prop

/-- the state at a call -/
structure Env0 (P : Program) (w : World) (K : PySem.W.Frag) (mg : Str → Option Value) (base : Heap) (A : Around) (outer : List Env) (s : Shared) (H : Hp) : Prop where
  frames : A.frames = some outer
  mod : Mod K mg base
  bs : ∀ b o, base.get? b = some o → s.heap.get? b = some o ∧ H b = none
  bsz : base.objs.size ≤ s.heap.objs.size
  funs : s.heap.FunFrames base outer
  frf : ∀ b ∈ frs outer, H b = none
  hok : HOk P w H s.heap
  bare : AllBare s.gens
/-- a call's end -/
def CE (outer : List Env) (P : Program) (w : World) (H : Hp) (s : Shared) (Q : VK) (u : Value) (s' : Shared) : Prop :=
  ∃ v H', s'.os = s.os ∧ AllBare s'.gens ∧ Un (frs outer) [] H H' s.heap s'.heap ∧ HOk P w H' s'.heap ∧ RelV v u ∧ Q v H'
def CR (CX : CXT) (outer : List Env) (P : Program) (w : World) (H : Hp) (s : Shared) (Q : VK) (E : XK) (r : Result) (s' : Shared) : Prop :=
  match r with
  | .ok (.ret u) => CE outer P w H s Q u s'
  | .ok _ => False
  | .error e => CX outer H s E e s'
structure FnOk (P : Program) (w : World) (K : PySem.W.Frag) (mg : Str → Option Value) (base : Heap) (CX : CXT) (k : Nat) (f : Addr) (fd : FuncData) (ps : List Str) (sp : Sp) : Prop where
  len : ∀ vs H Q E, sp vs H Q E → vs.length = ps.length
  run : ∀ (A : Around) (outer : List Env) (s : Shared) (H : Hp) (args : Args) (us : List Value) (vs : List V) (Q : VK) (E : XK), Room k A → Env0 P w K mg base A outer s H → BindsTo s fd args (ps.zip us) → Vals vs us → sp vs H Q E →
    codeAny (model P w) A (.call (.ref f) args) (CR CX outer P w H s Q E) s
theorem FnOk.mono {P : Program} {w : World} {K : PySem.W.Frag} {mg : Str → Option Value} {base : Heap} {CX : CXT} {j k : Nat} {f : Addr} {fd : FuncData} {ps : List Str} {sp : Sp} (F : FnOk P w K mg base CX j f fd ps sp) (h : j ≤ k) :
    FnOk P w K mg base CX k f fd ps sp := ⟨F.len, fun A outer s H args us vs Q E hr => F.run A outer s H args us vs Q E (hr.mono h)⟩

theorem Env0.make {P : Program} {w : World} {K : PySem.W.Frag} {mg : Str → Option Value} {base : Heap} {A : Around} {outer : List Env} {s : Shared} {H : Hp} (e : Env0 P w K mg base A outer s H) (C : Addr) (us : List Value) (kw : List (Str × Value)) :
    Env0 P w K mg base (A.under (.builtin "type.__call__" ⟨.ref C :: us, kw⟩)) outer s H := ⟨by first | exact e.frames | (simpa [Around.under, Code.envs, Code.isFrame, pushEnvs] using e.frames), e.mod, e.bs, e.bsz, e.funs, e.frf, e.hok, e.bare⟩
theorem Env0.in1 {P : Program} {w : World} {K : PySem.W.Frag} {mg : Str → Option Value} {base : Heap} {A : Around} {outer : List Env} {s : Shared} {H : Hp} (e : Env0 P w K mg base A outer s H) :
    Env0 P w K mg base A.in1 outer s H := ⟨e.frames, e.mod, e.bs, e.bsz, e.funs, e.frf, e.hok, e.bare⟩

section
variable {X : Cx} {pins : List (Addr × Obj)} {σ : St} {H : Hp} {s s' : Shared}
/-- from a body: what a callee wants -/
theorem Inv.env0 (I : Inv X pins σ H s) : Env0 X.prog X.w X.K X.mg X.base X.A X.stack s H :=
  ⟨I.ok.frames, I.ok.mod, I.bs, Nat.le_trans I.ok.bsz I.sz, I.stack, I.stkFree, I.hok, I.bare⟩
/-- behind a call -/
theorem Inv.after {Q : VK} {u : Value} (I : Inv X pins σ H s) (h : CE X.stack X.prog X.w H s Q u s') : EP X pins σ Q u s' := by
  obtain ⟨v, H', os, bare, un, hok, r, q⟩ := h
  obtain ⟨hh, g, d, t, os'⟩ := s'
  obtain rfl : os' = s.os := os
  exact ⟨v, H', I.call (h' := hh) (g' := g) (d' := d) (t' := t) (ch := []) un hok bare (fun b z => absurd z (by simp)), r, q⟩
end

/-! ### calls -/
/-- f(..): the written arguments, then the defaults dvs; E: what is wanted of an exception -/
def tCall (sp : Sp) (dvs : List V) (E : XK) (t : TA) : TE := fun σ H Q => t σ H fun vs H1 => sp (vs ++ dvs) H1 Q E
/-- o.m(..) of an instance of the class at C -/
def tMeth (C : Addr) (m : Str) (sp : Sp) (dvs : List V) (E : XK) (ta : TE) (t : TA) : TE := fun σ H Q => ta σ H fun x H1 => ∃ a dx fs, x = .ref a ∧ H1 a = some (.ins C dx fs) ∧ fs.lookup m = none ∧
  t σ H1 fun vs H2 => sp (x :: (vs ++ dvs)) H2 Q E
/-- C(..): a new instance and its dict, then __init__ -/
def tMake (C : Addr) (sp : Sp) (dvs : List V) (E : XK) (t : TA) : TE := fun σ H Q => t σ H fun vs H1 => ∀ x dx, H1 x = none → H1 dx = none → dx ≠ x →
  sp (.ref x :: (vs ++ dvs)) (upd (upd H1 dx (.own x)) x (.ins C dx [])) (fun v H2 => v = .non ∧ Q (.ref x) H2) E

/-- how the parameters are bound: us the positional arguments, kw the keywords' values by name, ds the defaults that fill up -/
def Binds (K : PySem.W.Frag) (fd : FuncData) (ps : List Str) (ds : List Value) : Prop :=
  ∀ (s : Shared) (us : List Value), K.In s.heap → (us ++ ds).length = ps.length → BindsTo s fd ⟨us, []⟩ (ps.zip (us ++ ds))
/-- every parameter is given -/
theorem Binds.all {K : PySem.W.Frag} {fd : FuncData} {ps : List Str} (h : ∀ us : List Value, us.length = ps.length → bindArgs fd ⟨us, []⟩ = pure (ps.zip us)) : Binds K fd ps [] := fun s us _ hl => by
  rw [List.append_nil] at hl ⊢
  exact .of_eq (h us hl)

/-- an exception of a callee reaches what this body wants of exceptions -/
def Passes (CX : CXT) (X : Cx) (E : XK) : Prop := ∀ (pins : List (Addr × Obj)) (σ : St) (H : Hp) (s : Shared) (e : Value) (s' : Shared), Inv X pins σ H s → CX X.stack H s E e s' → X.xe e s'

section
variable {X : Cx} {CX : CXT} {k : Nat} {f C : Addr} {fd : FuncData} {ps : List Str} {sp : Sp} {dvs : List V} {ds : List Value} {E : XK} {x m : Str} {p pos apos : Pos} {e o : Expr} {es : List Expr} {ta : TE} {t : TA}




/-- what a class must have to be made -/
structure Mk (K : PySem.W.Frag) (C f : Addr) : Prop where
  makes : PySem.W.makesIn K C = true
  init : PySem.W.findIn K (.ref C) "__init__" = some (some (.ref f))
  fn : PySem.W.isFn K (.ref f) = true
  kp : PySem.W.keepIn K (.ref C) = true

end

/-! ### keywords -/
/-- the values of the keywords, from the left -/
def PK (X : Cx) (kws : List Keyword) (t : TA) : Prop :=
  ∀ (pos : Pos) (pins : List (Addr × Obj)) (s : Shared) (σ : St) (H : Hp) (Q : List V → Hp → Prop), Inv X pins σ H s → t σ H Q → wpAny (model X.prog X.w) X.A (evalAll ((backToKw pos (keywordEach kws X.env)).map (·.2))) (AP X pins σ Q) X.xe s
section
variable {X : Cx} {CX : CXT} {k : Nat} {f C : Addr} {fd : FuncData} {ps ks : List Str} {sp : Sp} {E : XK} {x m : Str} {p pos apos kpos : Pos} {e o : Expr} {es : List Expr} {kws : List Keyword} {te ta : TE} {t tk : TA} {nm : Option Str}

/-- how a call with keywords binds: g puts the positional values us and the keywords' values ws (names ks) in the parameters' order, defaults among them -/
structure KBinds (K : PySem.W.Frag) (fd : FuncData) (ps ks : List Str) (g : List Value → List Value → List Value) (gV : List V → List V → List V) : Prop where
  to : ∀ (s : Shared) (us ws : List Value), K.In s.heap → (g us ws).length = ps.length → BindsTo s fd ⟨us, ks.zip ws⟩ (ps.zip (g us ws))
  rel : ∀ {vs : List V} {us : List Value} {zs : List V} {ws : List Value}, Vals vs us → Vals zs ws → Vals (gV vs zs) (g us ws)
def tCallK (sp : Sp) (gV : List V → List V → List V) (E : XK) (t tk : TA) : TE := fun σ H Q => t σ H fun vs H1 => tk σ H1 fun zs H2 => sp (gV vs zs) H2 Q E
variable {g : List Value → List Value → List Value} {gV : List V → List V → List V}
end

/-! ### a def's body keeps its promise -/
/-- names: the parameters first -/
structure FnScope (N P : List Str) (sc : Scope) : Prop where
  kind : sc.kind = .function
  co : sc.isCoroutine = false
  gen : sc.isGenerator = false
  nd : N.Nodup
  pre : N.take P.length = P
  par : ∀ x ∈ P, sc.names.lookup x = some .local ∨ sc.names.lookup x = some .cell
  nofree : ∀ y ∈ sc.names, y.2 ≠ .free

theorem bindL_out {kindOf : Str → Option NameKind} {x : Str} : ∀ {binds : List (Str × Value)} {m : Str → Option Value}, (∀ v, (x, v) ∉ binds) → bindL kindOf binds m x = m x
  | [], _, _ => rfl
  | (n, v) :: r, m, h => by
    unfold bindL
    rw [bindL_out fun w hw => h w (List.mem_cons_of_mem _ hw)]
    split
    · have : x ≠ n := by rintro rfl; exact h v List.mem_cons_self
      simp [this]
    · rfl
theorem bindC_out {kindOf : Str → Option NameKind} {x : Str} : ∀ {binds : List (Str × Value)} {m : Str → Option Value}, (∀ v, (x, v) ∉ binds) → bindC kindOf binds m x = m x
  | [], _, _ => rfl
  | (n, v) :: r, m, h => by
    unfold bindC
    rw [bindC_out fun w hw => h w (List.mem_cons_of_mem _ hw)]
    split
    · rfl
    · have : x ≠ n := by rintro rfl; exact h v List.mem_cons_self
      simp [this]
theorem bindL_get {kindOf : Str → Option NameKind} {x : Str} {v : Value} : ∀ {P : List Str} {vs : List Value} {i : Nat} {m : Str → Option Value}, P.Nodup → P[i]? = some x → vs[i]? = some v → kindOf x = some .local →
    bindL kindOf (P.zip vs) m x = some v
  | [], _, _, _, _, h, _, _ => by simp at h
  | _ :: _, [], _, _, _, _, h, _ => by simp at h
  | p :: P, w :: vs, 0, m, nd, h1, h2, hk => by
    simp at h1 h2; subst h1; subst h2
    show bindL kindOf ((p, w) :: P.zip vs) m p = _
    unfold bindL
    rw [bindL_out fun v hv => (List.nodup_cons.mp nd).1 (List.of_mem_zip hv).1, if_pos hk]
    simp
  | p :: P, w :: vs, i + 1, m, nd, h1, h2, hk => by
    show bindL kindOf ((p, w) :: P.zip vs) m x = _
    unfold bindL
    exact bindL_get (i := i) (List.nodup_cons.mp nd).2 (by simpa using h1) (by simpa using h2) hk
theorem bindC_get {kindOf : Str → Option NameKind} {x : Str} {v : Value} : ∀ {P : List Str} {vs : List Value} {i : Nat} {m : Str → Option Value}, P.Nodup → P[i]? = some x → vs[i]? = some v → kindOf x ≠ some .local →
    bindC kindOf (P.zip vs) m x = some v
  | [], _, _, _, _, h, _, _ => by simp at h
  | _ :: _, [], _, _, _, _, h, _ => by simp at h
  | p :: P, w :: vs, 0, m, nd, h1, h2, hk => by
    simp at h1 h2; subst h1; subst h2
    show bindC kindOf ((p, w) :: P.zip vs) m p = _
    unfold bindC
    rw [bindC_out fun v hv => (List.nodup_cons.mp nd).1 (List.of_mem_zip hv).1, if_neg hk]
    simp
  | p :: P, w :: vs, i + 1, m, nd, h1, h2, hk => by
    show bindC kindOf ((p, w) :: P.zip vs) m x = _
    unfold bindC
    exact bindC_get (i := i) (List.nodup_cons.mp nd).2 (by simpa using h1) (by simpa using h2) hk

/-- the names' values at the entry -/
def start (N : List Str) (vs : List V) : St := vs.map some ++ List.replicate (N.length - vs.length) none

/-- the context of a def's body, at its entry; an exception leaves the frame, then lies as CX says -/
def cxOf (CX : CXT) (P : Program) (w : World) (K : PySem.W.Frag) (mg : Str → Option Value) (base : Heap) (N : List Str) (qual : Str) (scope : Scope) (f : Addr) (cd : Value) (A : Around) (outer : List Env) (s : Shared) (H : Hp) (E : XK) : Cx where
  prog := P
  w := w
  K := K
  mg := mg
  base := base
  A := A.deeper (envOfC qual scope s.heap.objs.size f cd)
  N := N
  s₀ := s
  H₀ := H
  env := envOfC qual scope s.heap.objs.size f cd
  outer := outer
  stack := envOfC qual scope s.heap.objs.size f cd :: outer
  ex := []
  calm := true
  fn := fun _ => true
  pn := []
  xe := fun e s' => wpAny (model P w) (A.deeper (envOfC qual scope s.heap.objs.size f cd)) (leaving (envOfC qual scope s.heap.objs.size f cd) e) (fun _ s'' => CX outer H s E e s'') (fun e' s'' => CX outer H s E e' s'') s'

theorem cell_has {sc : Scope} {n : Nat} {x : Str} (h : sc.names.lookup x = some .cell) : ∃ c, (cellsFrom n sc.names []).lookup x = some c := by
  have q := PySem.W.cellsFrom_some sc.names n [] (.inl h)
  exact Option.isSome_iff_exists.mp q

theorem inv_start {CX : CXT} {P : Program} {w : World} {K : PySem.W.Frag} {mg : Str → Option Value} {base : Heap} {N ps : List Str} {qual : Str} {scope : Scope} {f : Addr} {cd : Value} {A : Around} {outer : List Env} {s s1 : Shared} {H : Hp} {E : XK} {us : List Value} {vs : List V}
    (S : FnScope N ps scope) (hd : A.handled = none) (e0 : Env0 P w K mg base A outer s H) (hl : vs.length = ps.length) (r : Vals vs us)
    (x : InCallC s s.heap.objs.size (bindL (envOfC qual scope s.heap.objs.size f cd).kindOf (ps.zip us) fun _ => none) (cellsFrom (s.heap.objs.size + 1) scope.names []) (bindC (envOfC qual scope s.heap.objs.size f cd).kindOf (ps.zip us) fun _ => none) s1) :
    Inv (cxOf CX P w K mg base N qual scope f cd A outer s H E) [] (start N vs) H s1 := by
  have hpl : ps.length ≤ N.length := by have := congrArg List.length S.pre; rw [List.length_take] at this; omega
  obtain ⟨h1, tk, rfl, hk⟩ := x.done
  have noA : ∀ b : Addr, b ∉ (cxOf CX P w K mg base N qual scope f cd A outer s H E).ex := fun b z => absurd (show b ∈ ([] : List Addr) from z) (by simp)
  refine ⟨⟨e0.mod, S.kind, rfl, rfl, Nat.le_refl _, fun y z c h1 h2 => ?_, fun y hy => ?_, fun y c _ h => ?_, fun _ => hd, Around.frames_deeper e0.frames, .inr ⟨rfl, rfl⟩, fun b z => absurd z (noA b), e0.bs, e0.bsz, fun b _ _ => noA b, fun b z => absurd z (noA b), e0.funs, e0.frf⟩,
    rfl, e0.bare, Un.kept hk, ⟨_, x.toInCall.ns, fun i y v h1 h2 h3 => ?_⟩, fun y c h => ⟨_, x.cell y c h⟩, e0.hok.fresh (Nat.le_refl _), fun y c h => ?_, fun p hp => absurd (show p ∈ ([] : List (Addr × Obj)) from hp) (by simp), e0.hok.kept hk, ?_⟩
  · exact name_of_addr x.apart (PySem.mem_of_lookup h1) (PySem.mem_of_lookup h2)
  · have hy : scope.names.lookup y = some .cell ∨ scope.names.lookup y = some .free := hy
    rcases hy with hy | hy
    · exact cell_has hy
    · exact absurd rfl (S.nofree _ (PySem.mem_of_lookup hy))
  · exact Nat.le_of_lt (x.above y c (PySem.mem_of_lookup h))
  · have hi : i < vs.length := by
      unfold start at h2
      by_cases hi : i < vs.length
      · exact hi
      · rw [List.getElem?_append_right (by simpa using hi)] at h2
        rw [List.getElem?_replicate] at h2
        split at h2 <;> cases h2
    have ha : vs[i]? = some v := by
      unfold start at h2
      rw [List.getElem?_append_left (by simpa using hi), List.getElem?_map] at h2
      cases e : vs[i]? with
      | none => rw [e] at h2; cases h2
      | some a => rw [e] at h2; cases h2; rfl
    obtain ⟨u, hu, rv⟩ := r.get ha
    have hp : ps[i]? = some y := by
      rw [← S.pre, List.getElem?_take_of_lt (by omega)]; exact h1
    have ndP : ps.Nodup := by rw [← S.pre]; exact S.nd.sublist (List.take_sublist _ _)
    refine ⟨u, rv, ?_⟩
    rcases S.par y (List.mem_of_getElem? hp) with k | k
    · exact .inl ⟨k, bindL_get ndP hp hu k⟩
    · obtain ⟨c, e⟩ := cell_has (n := s.heap.objs.size + 1) k
      refine .inr ⟨.inl k, c, e, ?_⟩
      have q := x.cell y c e
      rw [bindC_get ndP hp hu (by show scope.names.lookup y ≠ _; rw [k]; decide)] at q
      exact q
  · exact e0.hok.fresh (Nat.le_of_lt (x.above y c (PySem.mem_of_lookup h)))
  · unfold start
    show _ = N.length
    rw [List.length_append, List.length_map, List.length_replicate]
    omega

/-- THE RULE: a def (or a method) of the text, by its body. The body's reading t is chosen for each entry; it is run at the parameters' values -/
theorem fn_of {CX : CXT} {P : Program} {w : World} {K : PySem.W.Frag} {mg : Str → Option Value} {base : Heap} {k : Nat} {f : Addr} {name qual : Str} {params : Arguments} {body : List Stmt} {scope : Scope} {dV kV doc pm cdv ct oc : Value} {an od : Option Addr}
    {osl : Array (Option Value)} {N ps : List Str} {sp : Sp} (lk : K.lookup f = some ⟨oc, od, .func (PySem.W.fnOf name qual params body scope dV kV doc pm an cdv ct), osl⟩) (hcd : PySem.W.codeIn K cdv qual = true) (S : FnScope N ps scope)
    (len : ∀ vs H Q E, sp vs H Q E → vs.length = ps.length)
    (hbody : ∀ (A : Around) (outer : List Env) (s : Shared) (H : Hp) (vs : List V) (Q : VK) (E : XK), Room k (A.deeper (envOfC qual scope s.heap.objs.size f cdv)) → sp vs H Q E →
      ∃ t, PSs (cxOf CX P w K mg base N qual scope f cdv A outer s H E) body t ∧ t { nx := fun _ H' => Q .non H', rt := Q } (start N vs) H) :
    FnOk P w K mg base CX (k + 1) f (PySem.W.fnOf name qual params body scope dV kV doc pm an cdv ct) ps sp := by
  refine ⟨len, fun A outer s H args us vs Q E hr e0 hb r hsp => ?_⟩
  have hl := len _ _ _ _ hsp
  have KX : K.In s.heap := e0.mod.kin.keeps fun b o e => (e0.bs b o e).1
  have lim : s.heap.NoLimit := e0.mod.nolimit.keeps fun b o e => (e0.bs b o e).1
  have hkind : ∀ y ∈ ps.zip us, scope.names.lookup y.1 = some .local ∨ (scope.names.lookup y.1 = some .cell ∧ ((cellsFrom (s.heap.objs.size + 1) scope.names []).lookup y.1).isSome = true) := fun ⟨n, v⟩ hy => by
    rcases S.par n (List.of_mem_zip hy).1 with q | q
    · exact .inl q
    · exact .inr ⟨q, PySem.W.cellsFrom_some _ _ _ (.inl q)⟩
  refine codeAny_call_function hr.depth (KX _ _ lk) rfl S.co S.gen rfl (PySem.W.codeRec_of KX hcd) (hb _ _ _ _ ?_)
  refine wpAny_newFunctionEnv_cells S.kind hkind fun env he s1 x => ?_
  subst he
  refine ⟨lim.keeps x.toInCall.keep, codeAny_func ?_⟩
  obtain ⟨t, ht, hq⟩ := hbody A outer s H vs Q E (hr.deeper _) hsp
  have I : Inv (cxOf CX P w K mg base N qual scope f cdv A outer s H E) [] (start N vs) H s1 := inv_start S hr.hd e0 hl r x
  refine wpAny_mono (ht [] s1 (start N vs) H _ I hq) (fun fl s' hs => ?_) fun e s' hs => hs
  have fin : ∀ {σ' : St} {H' : Hp} {v : V} {u : Value}, Inv (cxOf CX P w K mg base N qual scope f cdv A outer s H E) [] σ' H' s' → RelV v u → Q v H' → CE outer P w H s Q u s' :=
    fun {σ' H' v u} J rv q => ⟨v, H', J.os, J.bare, J.base, J.hok, rv, q⟩
  cases fl with
  | ret u =>
    obtain ⟨v, σ', H', J, rv, q⟩ := hs
    exact fin J rv q
  | next =>
    obtain ⟨σ', H', J, q⟩ := hs
    exact fin (v := V.non) (u := Value.none) J rfl q
  | brk =>
    obtain ⟨_, _, _, q⟩ := hs
    exact False.elim q
  | cont =>
    obtain ⟨_, _, _, q⟩ := hs
    exact False.elim q
end L2

namespace L2
open PySem PySem.Spec PyProof.Rows
section
variable {X : Cx} {x : Str} {p pos : Pos} {e : Expr} {es : List Expr} {t : TA} {id T : String} {r : List V → Hp → VK → Prop}

def tCB (r : List V → Hp → VK → Prop) (t : TA) : TE := fun σ H Q => t σ H fun vs H1 => r vs H1 Q
/-- f(e, ..), f a built-in function -/
theorem pe_callB (hc : CallR X (.builtin id) r) (hg : Gl X x) (hm : X.mg x = none) (hv : bootBuiltins x = some (.builtin id)) (ha : PA X (e :: es) t) (hn : x ≠ "__name__" := by decide) (hdb : (x == ("__debug__" : Str)) = false := by decide)
    (he : starEach (e :: es) X.env = (false, eval e X.env) :: starEach es X.env := by rfl) (hpl : (backTo pos (starEach es X.env)).any (·.1) = false := by rfl) : PE X (.Call (.Name x p) (e :: es) [] pos) (tCB r t) := by
  intro pins s σ H Q I h
  refine wpAny_Call_Name_kw (ld_blt I hg hm hv ?_ hn hdb)
  exact PyProof.Rows.callWith_builtin1 (thn (ha pos pins s σ H _ I h) fun us s1 ⟨vs, H1, I1, r1, q1⟩ => hc pins s1 σ H1 vs us Q I1 r1 q1) he hpl
/-- T(e, ..), T a built-in type -/
theorem pe_callTy (hc : CallR X (.type T) r) (hg : Gl X x) (hm : X.mg x = none) (hv : bootBuiltins x = some (.type T)) (ha : PA X (e :: es) t) (hn : x ≠ "__name__" := by decide) (hdb : (x == ("__debug__" : Str)) = false := by decide)
    (he : starEach (e :: es) X.env = (false, eval e X.env) :: starEach es X.env := by rfl) (hpl : (backTo pos (starEach es X.env)).any (·.1) = false := by rfl) : PE X (.Call (.Name x p) (e :: es) [] pos) (tCB r t) := by
  intro pins s σ H Q I h
  refine wpAny_Call_Name_kw (ld_blt I hg hm hv ?_ hn hdb)
  exact PyProof.Rows.callWith_type1 (thn (ha pos pins s σ H _ I h) fun us s1 ⟨vs, H1, I1, r1, q1⟩ => hc pins s1 σ H1 vs us Q I1 r1 q1) he hpl
end
end L2

namespace HT
open PySem PyProof.Rows

/-- t < u of tuples of ints -/
def lexLt : List Int → List Int → Bool
  | [], [] => false
  | [], _ :: _ => true
  | _ :: _, [] => false
  | x :: xs, y :: ys => if x = y then lexLt xs ys else decide (x < y)


section
open PySem.SeqAt
open PySem.AutoSeq1 (wpAny_loadPart')
open PySem.MeetsSeq PySem.MeetsSeq2 PySem.MeetsSeq3

end

section
variable {prog : Program} {w : World} {A : Around} {E : Value → Shared → Prop} {s : Shared}


/-- t + u, t not empty -/
theorem cat_tup {t b : Addr} {vs ws : List Value} {Q : Value → Shared → Prop} (ht : IsTup s.heap t vs.toArray) (hb : IsTup s.heap b ws.toArray) (hv : vs ≠ [])
    (h1 : ws = [] → Q (.ref t) s) (h2 : ws ≠ [] → Q (.ref s.heap.objs.size) { s with heap := s.heap.push { cls := .type "tuple", data := .seq (vs ++ ws).toArray } })
    (hsz : vs.length + ws.length ≤ sizeLine) : wpAny (model prog w) A (binaryOp .Add (.ref t) (.ref b)) Q E s := by
  obtain ⟨⟨cls, dd, data, sl⟩, ho, hc, n, hd⟩ := id ht
  obtain ⟨⟨cls2, dd2, data2, sl2⟩, ho2, hc2, n2, hd2⟩ := id hb
  simp only at hc hd hc2 hd2
  subst hc hd hc2 hd2
  have e : vs.toArray ++ ws.toArray = (vs ++ ws).toArray := by simp
  by_cases hw : ws = []
  · exact concat_meets ⟨_, ho, rfl⟩ ⟨_, ho2, rfl⟩ noFill_tuple_add seq_tuple_add PySem.F.slot_tuple_add PySem.F.entry_tuple_add (PySem.F.args_tuple_add_2 _ _)
      (tuple_addW1 t b vs.toArray ws.toArray n n2 dd dd2 sl sl2 (by simpa using hv) (by simp [hw])) ⟨ho, ho2, h1 hw⟩
  · refine concat_meets ⟨_, ho, rfl⟩ ⟨_, ho2, rfl⟩ noFill_tuple_add seq_tuple_add PySem.F.slot_tuple_add PySem.F.entry_tuple_add (PySem.F.args_tuple_add_2 _ _)
      (tuple_addW2 t b vs.toArray ws.toArray n n2 dd dd2 sl sl2 (by simpa using hv) (by simpa using hw) (by rw [List.size_toArray, List.size_toArray]; exact hsz)) ⟨ho, ho2, ?_⟩
    rw [e]
    exact h2 hw

/-! ### t[a:b], not the whole -/
/-- a slice's bound as a place among n (d where it is left out) -/
def sIx (n d : Nat) : Option Int → Nat
  | none => d
  | some v => if v < 0 then (v + (n : Int)).toNat else min v.toNat n
theorem sIx_none (n d : Nat) : sIx n d none = d := rfl
theorem sIx_nat (n d k : Nat) : sIx n d (some (k : Int)) = min k n := by
  show (if (k : Int) < 0 then ((k : Int) + (n : Int)).toNat else min (k : Int).toNat n) = min k n
  rw [if_neg (by omega), Int.toNat_natCast]
theorem sIx_le (n d : Nat) (hd : d ≤ n) (o : Option Int) : sIx n d o ≤ n := by
  cases o with
  | none => exact hd
  | some v =>
    show (if v < 0 then (v + (n : Int)).toNat else min v.toNat n) ≤ n
    by_cases hv : v < 0
    · rw [if_pos hv]; omega
    · rw [if_neg hv]; exact Nat.min_le_right _ _
theorem clip_eq (v : Int) (n d : Nat) : (if v < 0 then max (v + (n : Int)) 0 else min v (n : Int)) = ((sIx n d (some v) : Nat) : Int) := by
  show (if v < 0 then max (v + (n : Int)) 0 else min v (n : Int)) = (((if v < 0 then (v + (n : Int)).toNat else min v.toNat n) : Nat) : Int)
  by_cases hv : v < 0
  · simp only [if_pos hv]; omega
  · simp only [if_neg hv]; omega
theorem adjust_gen (lo hi : Option Int) (n : Nat) : Builtin.Slice.sliceAdjust lo hi 1 (n : Int) = (((sIx n 0 lo : Nat) : Int), ((sIx n n hi : Nat) : Int)) := by
  have h1 : ¬ ((1 : Int) < 0) := by omega
  unfold Builtin.Slice.sliceAdjust
  simp only [h1, if_false]
  refine Prod.ext ?_ ?_
  · cases lo with
    | none => rfl
    | some v => exact clip_eq v n 0
  · cases hi with
    | none => rfl
    | some v => exact clip_eq v n n
theorem places_gen (i j : Nat) : Builtin.Slice.slicePlaces (i : Int) (j : Int) 1 = j - i := by
  unfold Builtin.Slice.slicePlaces
  have h1 : (1 : Int) > 0 := by omega
  simp only [h1, if_true, Int.ediv_one]
  split <;> omega
theorem slicePart_ {v : Value} {o : Option Int} {Q : Option Int → Shared → Prop} (p : IsPart v o) (h : Q o s) : wpAny (model prog w) A (Builtin.Slice.slicePartIndex v) Q E s := by
  cases p with
  | none => exact slicePart_none h
  | int i t => exact slicePart_int h
theorem sliceApplied_gen {sl : Addr} {vl vu : Value} {lo hi : Option Int} {n : Nat} {Q : Int × Int × Nat → Shared → Prop} (hs : s.heap.IsSliceOf sl vl vu .none) (pl : IsPart vl lo) (pu : IsPart vu hi)
    (h : Q (((sIx n 0 lo : Nat) : Int), 1, sIx n n hi - sIx n 0 lo) s) : wpAny (model prog w) A (Builtin.Slice.sliceApplied (.ref sl) (pure (n : Int))) Q E s := by
  obtain ⟨os, hos, hcs, hds⟩ := id hs
  unfold Builtin.Slice.sliceApplied Builtin.Slice.sliceFields
  refine wpAny_bind (wpAny_bind (wpAny_field hos hds (x := vl) rfl (wpAny_bind (wpAny_field hos hds (x := vu) rfl (wpAny_bind (wpAny_field hos hds (x := .none) rfl (wpAny_pure ?_)))))))
  refine wpAny_bind (slicePart_none ?_)
  show wpAny _ _ (if ((1 : Int) == 0) = true then _ else _) _ _ s
  rw [if_neg (by decide)]
  refine wpAny_bind (slicePart_ pl (wpAny_bind (slicePart_ pu (wpAny_bind (wpAny_pure ?_)))))
  show wpAny _ _ (match Builtin.Slice.sliceAdjust lo hi 1 (n : Int) with | (lo, hi) => pure (lo, (1 : Int), Builtin.Slice.slicePlaces lo hi 1)) _ _ s
  rw [adjust_gen lo hi n]
  show wpAny _ _ (pure (((sIx n 0 lo : Nat) : Int), (1 : Int), Builtin.Slice.slicePlaces ((sIx n 0 lo : Nat) : Int) ((sIx n n hi : Nat) : Int) 1)) _ _ s
  rw [places_gen]
  exact wpAny_pure h
theorem pick_gen (xs : Array Value) (i k : Nat) : ((List.range k).filterMap fun (m : Nat) => xs[((i : Int) + (m : Int) * 1).toNat]?).toArray = ((xs.toList.drop i).take k).toArray := by
  have e : (fun (m : Nat) => xs[((i : Int) + (m : Int) * 1).toNat]?) = fun m => xs[i + m]? := by
    funext m
    have : ((i : Int) + (m : Int) * 1).toNat = i + m := by omega
    rw [this]
  rw [e]
  have := pick_run xs i k
  rw [List.filterMap_map] at this
  have e2 : ((fun x => xs[x]?) ∘ fun x => i + x) = fun m => xs[i + m]? := rfl
  rw [e2] at this
  rw [this]

theorem getItem_tuple_cut {t sl : Addr} {items : Array Value} {vl vu : Value} {lo hi : Option Int} {Q : Value → Shared → Prop} (ht : IsTup s.heap t items) (hs : s.heap.IsSliceOf sl vl vu .none) (pl : IsPart vl lo) (pu : IsPart vu hi)
    (hw : ¬ (sIx items.size 0 lo = 0 ∧ sIx items.size items.size hi = items.size))
    (h : Q (.ref s.heap.objs.size) { s with heap := s.heap.push { cls := .type "tuple", data := .seq ((items.toList.drop (sIx items.size 0 lo)).take (sIx items.size items.size hi - sIx items.size 0 lo)).toArray } })
    (hsz : items.size ≤ sizeLine) : wpAny (model prog w) A (getItem (.ref t) (.ref sl)) Q E s := by
  have htake : sizeOk (.seq ((items.toList.drop (sIx items.size 0 lo)).take (sIx items.size items.size hi - sIx items.size 0 lo)).toArray) := by
    show ((items.toList.drop (sIx items.size 0 lo)).take (sIx items.size items.size hi - sIx items.size 0 lo)).toArray.size ≤ sizeLine
    rw [List.size_toArray, List.length_take, List.length_drop, Array.length_toList]
    omega
  have hj : sIx items.size items.size hi ≤ items.size := sIx_le _ _ (Nat.le_refl _) hi
  obtain ⟨os, hos, hcs, hds⟩ := id hs
  have hTs : s.TypeIs (.ref sl) "slice" := ⟨os, hos, hcs⟩
  unfold getItem
  try with_reducible refine wpAny_holding ?_
  first | refine wpAny_bind (wpAny_pure ?_) | skip
  refine wpAny_bind (wpAny_sequenceKey ht.typeIs (by decide) ?_)
  refine wpAny_bind (wpAny_callSpecial?_slot (name := Str.ofString "__getitem__") ht.typeIs PyProof.Rows.slot_tuple_getitem
    (wpAny_call_entry PyProof.Rows.slot_tuple_getitem ht.typeIs entry_tuple_getitem ?_ (args_tuple_getitem _ _)))
  show wpAny _ _ (Builtin.Tuple.tupleItemsOf (.ref t) >>= _) _ _ s
  refine wpAny_bind (tupleItemsOf_ ht ?_)
  refine wpAny_bind (wpAny_typeOf hTs ?_)
  rw [if_pos (by decide)]
  refine wpAny_bind (sliceApplied_gen hs pl pu ?_)
  have hno : ¬ ((((sIx items.size 0 lo : Nat) : Int) == 0 && (1 : Int) == 1 && (sIx items.size items.size hi - sIx items.size 0 lo) == items.size) = true) := by
    intro q
    rw [Bool.and_eq_true, Bool.and_eq_true] at q
    have q1 : ((sIx items.size 0 lo : Nat) : Int) = 0 := eq_of_beq q.1.1
    have q2 : sIx items.size items.size hi - sIx items.size 0 lo = items.size := eq_of_beq q.2
    exact hw ⟨by omega, by omega⟩
  show wpAny _ _ (if (((sIx items.size 0 lo : Nat) : Int) == 0 && (1 : Int) == 1 && (sIx items.size items.size hi - sIx items.size 0 lo) == items.size) = true then _ else _) _ _ s
  rw [if_neg hno, pick_gen]
  first
    | exact wpAny_bind (m := Builtin.Tuple.tupleExact _) (wpAny_newObj_type (wpAny_pure ⟨_, rfl, wpAny_pure h⟩) htake)
    | exact wpAny_bind (m := Builtin.Tuple.tupleExact _) (wpAny_newObj_type (wpAny_bind (wpAny_pure (wpAny_pure ⟨_, rfl, wpAny_pure h⟩))) htake)
    | exact wpAny_bind (wpAny_bind (m := Builtin.Tuple.tupleExact _) (wpAny_newObj_type (wpAny_pure (wpAny_pure ⟨_, rfl, wpAny_pure h⟩)) htake))
    | exact wpAny_bind (wpAny_bind (m := Builtin.Tuple.tupleExact _) (wpAny_newObj_type (wpAny_pure ⟨_, rfl, wpAny_pure h⟩) htake))
end
end HT

namespace L2
open PySem PySem.Spec PyProof.Rows

/-! ### the parts of a slice -/
abbrev TO := St → Hp → (Option Int → Hp → Prop) → Prop
/-- a slice's part (left out, or an int) -/
def PO (X : Cx) (e : Option Expr) (t : TO) : Prop :=
  ∀ (pins : List (Addr × Obj)) (s : Shared) (σ : St) (H : Hp) (Q : Option Int → Hp → Prop), Inv X pins σ H s → t σ H Q →
    wpAny (model X.prog X.w) X.A (evalPart e X.env) (fun u s' => ∃ o H', Inv X pins σ H' s' ∧ IsPart u o ∧ Q o H') X.xe s
def tNoPart : TO := fun _ H Q => Q none H
def tPart (t : TE) : TO := fun σ H Q => t σ H fun x H1 => ∃ i, x = .int i ∧ Q (some i) H1

theorem intsAre_of {ns : List Int} : ∀ {us : List Value}, Vals (ns.map V.int) us → IntsAre us ns := by
  induction ns with
  | nil => intro us r; rw [List.map_nil] at r; cases r; exact .nil
  | cons n ns ih =>
    intro us r
    rw [List.map_cons] at r
    cases r with
    | cons r1 r2 =>
      obtain ⟨t, e⟩ := r1
      subst e
      exact .cons n t (ih r2)

section
variable {X : Cx} {e : Expr} {te : TE} {lo hi : Option Expr} {tl th : TO} {pos p2 : Pos}

theorem po_none : PO X none tNoPart := by
  intro pins s σ H Q I h
  rw [evalPart_none]
  exact wpAny_pure ⟨none, H, I, .none, h⟩
theorem po_some (h : PE X e te) : PO X (some e) (tPart te) := by
  intro pins s σ H Q I hw
  rw [evalPart_some]
  refine thn (h pins s σ H _ I hw) fun u s1 ⟨x, H1, I1, r1, q1⟩ => ?_
  obtain ⟨i, rfl, q⟩ := q1
  obtain ⟨t, rfl⟩ := r1
  exact ⟨some i, H1, I1, .int i t, q⟩

/-- what a slice of a value is, by values: the slice object stands at sl -/
def SlR (X : Cx) (r : V → Option Int → Option Int → Hp → VK → Prop) : Prop :=
  ∀ (pins : List (Addr × Obj)) (s : Shared) (σ : St) (H : Hp) (x : V) (v vl vu : Value) (lo hi : Option Int) (sl : Addr) (Q : VK), Inv X pins σ H s → RelV x v → s.heap.IsSliceOf sl vl vu .none → IsPart vl lo → IsPart vu hi → r x lo hi H Q →
    ∃ T id, typeLookup (.type T) "__getitem__" = pure (some (.builtin id)) ∧ s.TypeIs v T ∧ wpAny (model X.prog X.w) X.A (getItem v (.ref sl)) (EP X pins σ Q) X.xe s
theorem SlR.or {r r' : V → Option Int → Option Int → Hp → VK → Prop} (h : SlR X r) (h' : SlR X r') : SlR X (fun x lo hi H Q => r x lo hi H Q ∨ r' x lo hi H Q) := by
  intro pins s σ H x v vl vu lo hi sl Q I rx hs pl pu q
  rcases q with q | q
  · exact h pins s σ H x v vl vu lo hi sl Q I rx hs pl pu q
  · exact h' pins s σ H x v vl vu lo hi sl Q I rx hs pl pu q
def tSl (r : V → Option Int → Option Int → Hp → VK → Prop) (te : TE) (tl th : TO) : TE := fun σ H Q => te σ H fun x H1 => tl σ H1 fun l H2 => th σ H2 fun u H3 => r x l u H3 Q
/-- a[lo:hi], any a -/
theorem pe_slice {r : V → Option Int → Option Int → Hp → VK → Prop} (hr : SlR X r) (he : PE X e te) (hl : PO X lo tl) (hu : PO X hi th) : PE X (.Subscript e (.Slice lo hi none p2) pos) (tSl r te tl th) := by
  intro pins s σ H Q I h
  refine Subscript_ (thn (he pins s σ H _ I h) fun v s1 ⟨x, H1, I1, r1, q1⟩ => ?_)
  refine wpAny_Slice (thn (hl pins s1 σ H1 _ I1 q1) fun vl s2 ⟨l, H2, I2, pl, q2⟩ => thn (hu pins s2 σ H2 _ I2 q2) fun vu s3 ⟨u, H3, I3, pu, q3⟩ => ?_)
  rw [evalPart_none]
  refine wpAny_pure ?_
  have I4 : Inv X pins σ H3 { s3 with heap := s3.heap.push { cls := .type "slice", data := .fields #[vl, vu, .none] } } := I3.kept (t' := s3.toks) fun b ob q => Heap.get?_push_of_some _ q
  obtain ⟨T, id, hT, ht, hg⟩ := hr pins { s3 with heap := s3.heap.push { cls := .type "slice", data := .fields #[vl, vu, .none] } } σ H3 x v vl vu l u s3.heap.objs.size Q I4 r1 (Heap.IsSliceOf.new ..) pl pu q3
  show wpAny (model X.prog X.w) X.A (subscriptTail e (.Slice lo hi none p2) v (.ref s3.heap.objs.size)) (EP X pins σ Q) X.xe { s3 with heap := s3.heap.push { cls := .type "slice", data := .fields #[vl, vu, .none] } }
  exact tail_any (ops := [.ref s3.heap.objs.size, v]) ht hT hg (by with_unfolding_all rfl)

/-- the items of xs[lo:hi] -/
def cutV (xs : List V) (lo hi : Option Int) : List V := (xs.drop (HT.sIx xs.length 0 lo)).take (HT.sIx xs.length xs.length hi - HT.sIx xs.length 0 lo)
theorem cutV_length (xs : List V) (lo hi : Option Int) : (cutV xs lo hi).length ≤ xs.length := by
  unfold cutV
  rw [List.length_take, List.length_drop]
  omega
/-- t[lo:hi], not the whole of it (the whole would be t itself) -/
def rSlT (K : PySem.W.Frag) : V → Option Int → Option Int → Hp → VK → Prop := fun x lo hi H Q => ∃ a xs, x = .ref a ∧ SqT K H a xs ∧
  ¬ (HT.sIx xs.length 0 lo = 0 ∧ HT.sIx xs.length xs.length hi = xs.length) ∧ ∀ p, H p = none → Q (.ref p) (upd H p (.tup (cutV xs lo hi)))
theorem sl_tup : SlR X (rSlT X.K) := by
  intro pins s σ H x v vl vu lo hi sl Q I rx hs pl pu h
  obtain ⟨a, xs, rfl, hx, hw, q⟩ := h
  cases rx
  obtain ⟨its, r, ht, hz⟩ := I.tuple hx
  have hlen : its.toArray.size = xs.length := by rw [List.size_toArray]; exact r.length.symm
  refine ⟨"tuple", _, PyProof.Rows.slot_tuple_getitem.lookup, ht.typeIs, ?_⟩
  refine HT.getItem_tuple_cut ht hs pl pu (by rw [hlen]; exact hw) ?_ (by rw [hlen]; exact hz)
  rw [hlen]
  refine ⟨.ref s.heap.objs.size, _, I.laid (t' := s.toks) (o := .tup (cutV xs lo hi)) (fun b ob q => Heap.get?_push_of_some _ q) (Nat.le_refl _) ?_, rfl, q _ (I.hok.fresh (Nat.le_refl _))⟩
  exact ⟨Nat.le_trans (cutV_length xs lo hi) hz, _, (r.drop (HT.sIx xs.length 0 lo)).take (HT.sIx xs.length xs.length hi - HT.sIx xs.length 0 lo), IsTup.new _ _⟩

/-! ### t < u, t + u -/
def rLtT (K : PySem.W.Frag) : R2 := fun x y H Q => ∃ a b ns ms, x = .ref a ∧ y = .ref b ∧ SqT K H a (ns.map V.int) ∧ SqT K H b (ms.map V.int) ∧ Q (.bl (HT.lexLt ns ms)) H
/-- t + u, t not empty: u empty gives t itself -/
def rCatT (K : PySem.W.Frag) : R2 := fun x y H Q => ∃ a b xs ys, x = .ref a ∧ y = .ref b ∧ SqT K H a xs ∧ SqT K H b ys ∧ xs ≠ [] ∧ xs.length + ys.length ≤ sizeLine ∧
  (ys = [] → Q (.ref a) H) ∧ (ys ≠ [] → ∀ p, H p = none → Q (.ref p) (upd H p (.tup (xs ++ ys))))
theorem Vals.nil_iff {xs : List V} {us : List Value} (r : Vals xs us) : us = [] ↔ xs = [] := by
  cases r with
  | nil => simp
  | cons _ _ => simp
end
end L2

namespace L2
open PySem PySem.Spec PyProof.Rows

/-! ### places -/
/-- the place that an index of any sign means -/
def ixN (n : Nat) (i : Int) : Option Nat := if 0 ≤ i then (if i < n then some i.toNat else none) else if -(n : Int) ≤ i then some (i + n).toNat else none
def atI {α : Type} (xs : List α) (i : Int) : Option α := (ixN xs.length i).bind fun j => xs[j]?
theorem ixN_seq {n : Nat} {i : Int} {j : Nat} (h : ixN n i = some j) : seqIndex? i n = some j ∧ j < n ∧ -(n : Int) ≤ i ∧ i < n := by
  unfold ixN at h
  by_cases h0 : 0 ≤ i
  · rw [if_pos h0] at h
    by_cases h1 : i < n
    · rw [if_pos h1] at h
      have e : i.toNat = j := Option.some.inj h
      exact ⟨by rw [seqIndex_of h0 h1, e], by omega, by omega, h1⟩
    · rw [if_neg h1] at h; cases h
  · rw [if_neg h0] at h
    by_cases h1 : -(n : Int) ≤ i
    · rw [if_pos h1] at h
      have e : (i + n).toNat = j := Option.some.inj h
      exact ⟨by rw [seqIndex_neg (by omega) h1, e], by omega, h1, by omega⟩
    · rw [if_neg h1] at h; cases h
theorem atI_get {α : Type} {xs : List α} {i : Int} {v : α} (h : atI xs i = some v) : ∃ j, seqIndex? i xs.length = some j ∧ xs[j]? = some v ∧ j < xs.length ∧ -(xs.length : Int) ≤ i ∧ i < xs.length := by
  unfold atI at h
  cases e : ixN xs.length i with
  | none => rw [e] at h; cases h
  | some j =>
    rw [e] at h
    obtain ⟨h1, h2, h3, h4⟩ := ixN_seq e
    exact ⟨j, h1, h, h2, h3, h4⟩
theorem atI_nat {α : Type} {xs : List α} {j : Nat} {v : α} (h : xs[j]? = some v) : atI xs (j : Int) = some v := by
  have hj : j < xs.length := (List.getElem?_eq_some_iff.mp h).1
  have e : ixN xs.length (j : Int) = some j := by
    unfold ixN
    rw [if_pos (by omega), if_pos (by omega)]; simp
  unfold atI; rw [e]; exact h

/-! ### what may be subscripted -/
/-- what stands as an index of a plain subscript -/
def PlainIx (b : Expr) : Prop := ∀ o i, subscripted b false o i = operate [o, i] (getItem o i)
/-- a subscript by values -/
def IxR (X : Cx) (r : R2) : Prop :=
  ∀ (value slice : Expr) (pins : List (Addr × Obj)) (s : Shared) (σ : St) (H : Hp) (x y : V) (v u : Value) (Q : VK), Inv X pins σ H s → RelV x v → RelV y u → r x y H Q →
    subscripted slice false v u = operate [v, u] (getItem v u) → wpAny (model X.prog X.w) X.A (subscriptTail value slice v u) (EP X pins σ Q) X.xe s
/-- a call of a builtin's method by values: the receiver, the arguments -/
def MtR (X : Cx) (id : String) (r : V → List V → Hp → VK → Prop) : Prop :=
  ∀ (pins : List (Addr × Obj)) (s : Shared) (σ : St) (H : Hp) (x : V) (xs : List V) (v : Value) (us : List Value) (Q : VK), Inv X pins σ H s → RelV x v → Vals xs us → r x xs H Q →
    wpAny (model X.prog X.w) X.A (call (.builtin id) (v :: us)) (EP X pins σ Q) X.xe s
section
variable {X : Cx} {a b : Expr} {ta tb : TE} {pos : Pos}
theorem IxR.or {r r' : R2} (h : IxR X r) (h' : IxR X r') : IxR X (fun x y H Q => r x y H Q ∨ r' x y H Q) := by
  intro value slice pins s σ H x y v u Q I rx ry q hs
  rcases q with q | q
  · exact h value slice pins s σ H x y v u Q I rx ry q hs
  · exact h' value slice pins s σ H x y v u Q I rx ry q hs
theorem MtR.or {id : String} {r r' : V → List V → Hp → VK → Prop} (h : MtR X id r) (h' : MtR X id r') : MtR X id (fun x xs H Q => r x xs H Q ∨ r' x xs H Q) := by
  intro pins s σ H x xs v us Q I rx rs q
  rcases q with q | q
  · exact h pins s σ H x xs v us Q I rx rs q
  · exact h' pins s σ H x xs v us Q I rx rs q
/-- a[b] -/
theorem pe_ix {r : R2} (hr : IxR X r) (ha : PE X a ta) (hb : PE X b tb) (hs : PlainIx b) : PE X (.Subscript a b pos) (tOp r ta tb) := by
  intro pins s σ H Q I h
  exact Subscript_ (binT ha hb I h fun v u s2 x y H2 I2 rx ry q => hr a b pins s2 σ H2 x y v u Q I2 rx ry q (hs _ _))

def rIxL (K : PySem.W.Frag) : R2 := fun x y H Q => ∃ p xs i v, x = .ref p ∧ y = .int i ∧ SqL K H p xs ∧ atI xs i = some v ∧ Q v H
def rIxT (K : PySem.W.Frag) : R2 := fun x y H Q => ∃ p xs i v, x = .ref p ∧ y = .int i ∧ SqT K H p xs ∧ atI xs i = some v ∧ Q v H
def rIxS : R2 := fun x y H Q => ∃ z i c, x = .str z ∧ y = .int i ∧ z.length ≤ sizeLine ∧ atI z.cps.toList i = some c ∧ Q (.str ⟨#[c]⟩) H
theorem ix_list : IxR X (rIxL X.K) := by
  intro value slice pins s σ H x y v u Q I rx ry h hs
  obtain ⟨p, xs, i, z, rfl, rfl, hq, he, q⟩ := h
  cases rx
  obtain ⟨t, rfl⟩ := ry
  obtain ⟨its, r, pl, hz⟩ := I.list hq
  obtain ⟨j, h1, h2, h3, h4, h5⟩ := atI_get he
  obtain ⟨w, ew, rw'⟩ := r.get h2
  have hl := r.length
  have hn := line63
  have fin : EP X pins σ Q w s := ⟨z, H, I, rw', q⟩
  by_cases h0 : 0 ≤ i
  · have hj : i.toNat = j := by
      rw [seqIndex_of h0 h5] at h1
      exact Option.some.inj h1
    exact item_listR pl.isList h0 (by omega) (by rw [hj]; simpa using ew) fin hs
  · have hj : (i + (its.toArray.size : Int)).toNat = j := by
      rw [seqIndex_neg (by omega) h4] at h1
      rw [List.size_toArray, ← hl]
      exact Option.some.inj h1
    exact subscriptTail_builtinR (x := w) pl.isList.typeIs slot_list_getitem.lookup
      (wpAny_getItem_list_neg (Q := fun r s' => r = w ∧ EP X pins σ Q r s') pl.isList (by omega) (by rw [List.size_toArray] <;> omega) (by omega) (by rw [hj]; simpa using ew) ⟨rfl, fin⟩) hs
theorem ix_tup : IxR X (rIxT X.K) := by
  intro value slice pins s σ H x y v u Q I rx ry h hs
  obtain ⟨p, xs, i, z, rfl, rfl, hq, he, q⟩ := h
  cases rx
  obtain ⟨t, rfl⟩ := ry
  obtain ⟨its, r, pl, hz⟩ := I.tuple hq
  obtain ⟨j, h1, h2, h3, h4, h5⟩ := atI_get he
  obtain ⟨w, ew, rw'⟩ := r.get h2
  have hl := r.length
  have hn := line63
  have fin : EP X pins σ Q w s := ⟨z, H, I, rw', q⟩
  exact subscriptTail_builtinR (x := w) pl.typeIs slot_tuple_getitem.lookup
    (getItem_tuple (j := j) (Q := fun r s' => r = w ∧ EP X pins σ Q r s') pl (by omega) (by omega) (by rw [List.size_toArray, ← hl]; exact h1) (by simpa using ew) ⟨rfl, fin⟩) hs
/-- list, tuple or str -/
def rIx (K : PySem.W.Frag) : R2 := fun x y H Q => rIxL K x y H Q ∨ rIxT K x y H Q ∨ rIxS x y H Q

/-! ### xs[i] = v, any sign -/
/-- the list's object behind a store -/
theorem mapSeq_set (its : List Value) (n j : Nat) (u : Value) : Obj.mapSeq (·.setIfInBounds j u) { cls := .type "list", data := .seq its.toArray n } = { cls := .type "list", data := .seq (its.set j u).toArray n } := by
  simp [Obj.mapSeq]
theorem Inv.lst {pins : List (Addr × Obj)} {σ : St} {H : Hp} {s : Shared} {p : Addr} {xs : List V} (I : Inv X pins σ H s) (h : H p = some (.lst xs)) :
    ∃ (its : List Value) (n : Nat), Vals xs its ∧ s.heap.get? p = some { cls := .type "list", data := .seq its.toArray n } ∧ xs.length ≤ sizeLine := by
  obtain ⟨z, its, n, r, e⟩ := I.hok p _ h
  exact ⟨its, n, r, e, z⟩
/-- the list at p is written by an update of its object -/
theorem Inv.lstUpd {pins : List (Addr × Obj)} {σ : St} {H : Hp} {s : Shared} {p : Addr} {xs ys : List V} {its its' : List Value} {n n' : Nat} {f : Obj → Obj} (I : Inv X pins σ H s) (h : H p = some (.lst xs))
    (ho : s.heap.get? p = some { cls := .type "list", data := .seq its.toArray n }) (hf : f { cls := .type "list", data := .seq its.toArray n } = { cls := .type "list", data := .seq its'.toArray n' }) (r : Vals ys its') (hz : ys.length ≤ sizeLine) (t : Nat) :
    Inv X pins σ (upd H p (.lst ys)) { s with heap := s.heap.update p f, toks := t } := by
  have e : (s.heap.update p f).get? p = some { cls := .type "list", data := .seq its'.toArray n' } := by
    rw [Heap.get?_update_self f ho (by rw [hf] <;> rfl), hf]
  refine I.write (x := p) (e := p) (by rw [h]; trivial) (.inl rfl) (fun b u hb q => (Heap.get?_update_other _ _ (Ne.symm hb)).trans q) ⟨_, e⟩ ?_
  exact ⟨hz, its', n', r, e⟩
def rSetL : V → V → V → Hp → (Hp → Prop) → Prop := fun o i v H Q => ∃ p xs k j, o = .ref p ∧ i = .int k ∧ H p = some (.lst xs) ∧ ixN xs.length k = some j ∧ Q (upd H p (.lst (xs.set j v)))
theorem set_list : PSet X rSetL := by
  intro pins s σ H o i v ov iv u Q I ro ri rv h
  obtain ⟨p, xs, k, j, rfl, rfl, hp, hj, q⟩ := h
  cases ro
  obtain ⟨t, rfl⟩ := ri
  obtain ⟨its, n, r, ho, hz⟩ := I.lst hp
  obtain ⟨h1, h2, h3, h4⟩ := ixN_seq hj
  have hl := r.length
  have hn := line63
  have I' : Inv X pins σ (upd H p (.lst (xs.set j v))) { s with heap := s.heap.update p (Obj.mapSeq (·.setIfInBounds j u)) } :=
    I.lstUpd hp ho (mapSeq_set its n j u) (r.set rv j) (by rw [List.length_set]; exact hz) s.toks
  by_cases h0 : 0 ≤ k
  · have hk : k.toNat = j := by
      rw [seqIndex_of h0 h4] at h1
      exact Option.some.inj h1
    exact PySem.W.ki_setAt ho h0 (by omega) (by rw [List.size_toArray, ← hl]; exact h4) (by rw [hk]; exact ⟨_, I', q⟩)
  · have hk : (k + (its.toArray.size : Int)).toNat = j := by
      rw [seqIndex_neg (by omega) h3] at h1
      rw [List.size_toArray, ← hl]
      exact Option.some.inj h1
    exact PySem.W.ki_setBack ho (by omega) (by rw [List.size_toArray, ← hl]; exact h3) (by omega) (by rw [hk]; exact ⟨_, I', q⟩)

/-! ### slices -/
theorem slice_bounds (lo hi : Option Int) (n : Nat) : (sliceBounds lo hi none n).1 = ((HT.sIx n 0 lo : Nat) : Int) ∧ (sliceBounds lo hi none n).2.1 = ((HT.sIx n n hi : Nat) : Int) ∧ (sliceBounds lo hi none n).2.2 = 1 := by
  refine ⟨?_, ?_, rfl⟩
  · cases lo with
    | none => simp [sliceBounds, HT.sIx]
    | some i =>
      simp only [sliceBounds, HT.sIx, Option.getD_none, show (1 : Int) > 0 by decide, if_true]
      by_cases h : i < 0
      · simp only [h, if_true] <;> omega
      · simp only [h, if_false] <;> omega
  · cases hi with
    | none => simp [sliceBounds, HT.sIx]
    | some i =>
      simp only [sliceBounds, HT.sIx, Option.getD_none, show (1 : Int) > 0 by decide, if_true]
      by_cases h : i < 0
      · simp only [h, if_true] <;> omega
      · simp only [h, if_false] <;> omega
theorem slicePick_cut (its : List Value) (lo hi : Option Int) : slicePick its.toArray lo hi none = ((its.drop (HT.sIx its.length 0 lo)).take (HT.sIx its.length its.length hi - HT.sIx its.length 0 lo)).toArray := by
  obtain ⟨h1, h2, h3⟩ := slice_bounds lo hi its.toArray.size
  unfold slicePick
  rw [h1, h2, h3]
  simp only [sliceRange_one, pick_run, List.size_toArray] <;> rfl
/-- xs[lo:hi] of a list: a new list -/
def rSlL (K : PySem.W.Frag) : V → Option Int → Option Int → Hp → VK → Prop := fun x lo hi H Q => ∃ a xs, x = .ref a ∧ SqL K H a xs ∧ ∀ p, H p = none → Q (.ref p) (upd H p (.lst (cutV xs lo hi)))
theorem sl_list : SlR X (rSlL X.K) := by
  intro pins s σ H x v vl vu lo hi sl Q I rx hs pl pu h
  obtain ⟨a, xs, rfl, hx, q⟩ := h
  cases rx
  obtain ⟨its, r, ht, hz⟩ := I.list hx
  have hlen := r.length
  refine ⟨"list", _, slot_list_getitem.lookup, ht.isList.typeIs, ?_⟩
  refine wpAny_getItem_list_slice ht.isList hs pl pu .none (by simp) ?_ (by rw [List.size_toArray] <;> omega)
  rw [slicePick_cut, ← hlen]
  refine ⟨.ref s.heap.objs.size, _, I.laid (t' := s.toks) (o := .lst (cutV xs lo hi)) (fun b ob q => Heap.get?_push_of_some _ q) (Nat.le_refl _) ?_, rfl, q _ (I.hok.fresh (Nat.le_refl _))⟩
  exact ⟨Nat.le_trans (cutV_length xs lo hi) hz, _, 0, (r.drop (HT.sIx xs.length 0 lo)).take (HT.sIx xs.length xs.length hi - HT.sIx xs.length 0 lo), Heap.get?_push_size _ rfl⟩

/-! ### in, not in: flat items -/
def flatV : V → Bool
  | .non => true
  | .bl _ => true
  | .int _ => true
  | .str _ => true
  | _ => false
/-- == of flat values -/
def eqV : V → V → Bool
  | .non, .non => true
  | .bl a, .bl b => a == b
  | .bl a, .int b => (if a then 1 else 0) == b
  | .int a, .bl b => a == (if b then 1 else 0)
  | .int a, .int b => a == b
  | .str a, .str b => a == b
  | _, _ => false
theorem eqAt_V {A : Around} {s : Shared} {y x : V} {u v : Value} (ry : RelV y u) (rx : RelV x v) (fy : flatV y = true) (fx : flatV x = true) : SeqAt.EqAt A s u v (eqV y x) := by
  cases y with
  | non =>
    cases ry
    cases x with
    | non => cases rx; exact SeqAt.EqAt.same _
    | bl b => cases rx; exact SeqAt.EqAt.none_bool b
    | int b => obtain ⟨t, rfl⟩ := rx; exact SeqAt.EqAt.none_int b t
    | str b => obtain ⟨t, rfl⟩ := rx; exact SeqAt.EqAt.none_str b t
    | _ => exact absurd (show false = true from fx) Bool.false_ne_true
  | bl a =>
    cases ry
    cases x with
    | non => cases rx; exact SeqAt.EqAt.bool_none a
    | bl b => cases rx; exact SeqAt.EqAt.bool_bool a b
    | int b => obtain ⟨t, rfl⟩ := rx; exact SeqAt.EqAt.bool_int a b t
    | str b => obtain ⟨t, rfl⟩ := rx; exact SeqAt.EqAt.bool_str a b t
    | _ => exact absurd (show false = true from fx) Bool.false_ne_true
  | int a =>
    obtain ⟨t', rfl⟩ := ry
    cases x with
    | non => cases rx; exact SeqAt.EqAt.int_none a t'
    | bl b => cases rx; exact SeqAt.EqAt.int_bool a t' b
    | int b => obtain ⟨t, rfl⟩ := rx; exact SeqAt.EqAt.int_int a t' b t
    | str b => obtain ⟨t, rfl⟩ := rx; exact SeqAt.EqAt.int_str a t' b t
    | _ => exact absurd (show false = true from fx) Bool.false_ne_true
  | str a =>
    obtain ⟨t', rfl⟩ := ry
    cases x with
    | non => cases rx; exact SeqAt.EqAt.str_none a t'
    | bl b => cases rx; exact SeqAt.EqAt.str_bool a t' b
    | int b => obtain ⟨t, rfl⟩ := rx; exact SeqAt.EqAt.str_int a t' b t
    | str b => obtain ⟨t, rfl⟩ := rx; exact SeqAt.EqAt.str_str a t' b t
    | _ => exact absurd (show false = true from fx) Bool.false_ne_true
  | _ => exact absurd (show false = true from fy) Bool.false_ne_true
/-- the items' answers, read off the values (a value's own answer does not lean on its token) -/
def eqU (x : V) (u : Value) : Bool := match u with
  | .none => eqV .non x
  | .bool b => eqV (.bl b) x
  | .int i _ => eqV (.int i) x
  | .str z _ => eqV (.str z) x
  | _ => false
theorem eqU_of {x y : V} {u : Value} (r : RelV y u) (f : flatV y = true) : eqU x u = eqV y x := by
  cases y with
  | non => cases r; rfl
  | bl b => cases r; rfl
  | int i => obtain ⟨t, rfl⟩ := r; rfl
  | str z => obtain ⟨t, rfl⟩ := r; rfl
  | _ => exact absurd (show false = true from f) Bool.false_ne_true
theorem any_eqU {x : V} : ∀ {xs : List V} {us : List Value}, Vals xs us → xs.all flatV = true → us.any (eqU x) = xs.any fun y => eqV y x
  | _, _, .nil, _ => rfl
  | y :: xs, u :: us, .cons r t, f => by
    rw [List.all_cons, Bool.and_eq_true] at f
    rw [List.any_cons, List.any_cons, eqU_of r f.1, any_eqU t f.2]
theorem mem_eqAt {A : Around} {s : Shared} {x : V} {v : Value} (rx : RelV x v) (fx : flatV x = true) : ∀ {xs : List V} {us : List Value}, Vals xs us → xs.all flatV = true → ∀ u ∈ us, SeqAt.EqAt A s u v (eqU x u)
  | _, _, .nil, _ => fun u hu => by cases hu
  | y :: xs, u :: us, .cons r t, f => fun u' hu => by
    rw [List.all_cons, Bool.and_eq_true] at f
    rcases List.mem_cons.mp hu with rfl | hu
    · rw [eqU_of r f.1]; exact eqAt_V r rx f.1 fx
    · exact mem_eqAt rx fx t f.2 u' hu
def inV (x : V) (xs : List V) : Bool := xs.any fun y => eqV y x
/-- x in a list or tuple of flat items -/
def rIn (K : PySem.W.Frag) (neg : Bool) : R2 := fun x y H Q => ∃ p xs, y = .ref p ∧ (SqL K H p xs ∨ SqT K H p xs) ∧ flatV x = true ∧ xs.all flatV = true ∧ Q (.bl (if neg then !inV x xs else inV x xs)) H
theorem op_in_seq : OpR X (compareOp .In) (rIn X.K false) := by
  intro pins s σ H x y v u Q I rx ry h
  obtain ⟨p, xs, rfl, hq, fx, fs, q⟩ := h
  cases ry
  rcases hq with hq | hq
  · obtain ⟨its, r, pl, hz⟩ := I.list hq
    refine SeqAt.in_listAt (eqU x) pl.isList (fun w hw => mem_eqAt rx fx r fs w (by simpa using hw)) ⟨.bl _, H, I, rfl, ?_⟩
    rw [show its.toArray.any (eqU x) = its.any (eqU x) by simp, any_eqU r fs]
    exact q
  · obtain ⟨its, r, pl, hz⟩ := I.tuple hq
    refine SeqAt.in_tupleAt (eqU x) pl (fun w hw => mem_eqAt rx fx r fs w (by simpa using hw)) ⟨.bl _, H, I, rfl, ?_⟩
    rw [show its.toArray.any (eqU x) = its.any (eqU x) by simp, any_eqU r fs]
    exact q

/-! ### len, list(x), tuple(x) of any list or tuple that is read -/
theorem call_len_seq : CallR X (.builtin "len") (fun xs H Q => ∃ p ys, xs = [.ref p] ∧ (SqL X.K H p ys ∨ SqT X.K H p ys) ∧ Q (.int ys.length) H) := by
  intro pins s σ H xs us Q I r h
  obtain ⟨p, ys, rfl, hq, q⟩ := h
  obtain ⟨u, rfl, rx⟩ := vals1 r
  cases rx
  have hn := line63
  rcases hq with hq | hq
  · obtain ⟨its, r', pl, hz⟩ := I.list hq
    have hlen := r'.length
    exact Calls.call_len_list pl.isList (by simp only [List.size_toArray] <;> omega) ⟨.int ys.length, H, I.tok _, ⟨s.toks + 1, by rw [List.size_toArray, hlen]⟩, q⟩
  · obtain ⟨its, r', pl, hz⟩ := I.tuple hq
    have hlen := r'.length
    exact len_tuple pl (by simp only [List.size_toArray] <;> omega) ⟨.int ys.length, H, I.tok _, ⟨s.toks + 1, by rw [List.size_toArray, hlen]⟩, q⟩
theorem CallR.or {f : Value} {r r' : List V → Hp → VK → Prop} (h : CallR X f r) (h' : CallR X f r') : CallR X f (fun xs H Q => r xs H Q ∨ r' xs H Q) := by
  intro pins s σ H xs us Q I rs q
  rcases q with q | q
  · exact h pins s σ H xs us Q I rs q
  · exact h' pins s σ H xs us Q I rs q
theorem call_list_of : CallR X (.type "list") (fun xs H Q => ∃ p ys, xs = [.ref p] ∧ (SqL X.K H p ys ∨ SqT X.K H p ys) ∧ ∀ l, H l = none → Q (.ref l) (upd H l (.lst ys))) := by
  intro pins s σ H xs us Q I r h
  obtain ⟨p, ys, rfl, hq, q⟩ := h
  obtain ⟨u, rfl, rx⟩ := vals1 r
  cases rx
  have fin : ∀ (its : List Value), Vals ys its → ys.length ≤ sizeLine → ∀ (h' : Heap) (c' : Nat), (∀ b o', s.heap.get? b = some o' → h'.get? b = some o') →
      h'.get? s.heap.objs.size = some { cls := .type "list", dict := none, data := .seq its.toArray c', slots := #[] } → EP X pins σ Q (.ref s.heap.objs.size) { s with heap := h' } := fun its r' hz h' c' kp e =>
    ⟨.ref s.heap.objs.size, _, I.laid (t' := s.toks) kp (Nat.le_refl _) (show ObjOk X.prog X.w _ h' _ (.lst ys) from ⟨hz, its, c', r', e⟩), rfl, q _ (I.hok.fresh (Nat.le_refl _))⟩
  rcases hq with hq | hq
  · obtain ⟨its, r', pl, hz⟩ := I.list hq
    have hlen := r'.length
    obtain ⟨o, ho, hc, n, hd⟩ := pl.isList
    exact call_list_seq p (.inl rfl) ho hc hd (fun h' c' kp e => fin its r' hz h' c' kp e) (by simp only [List.size_toArray] <;> omega)
  · obtain ⟨its, r', pl, hz⟩ := I.tuple hq
    have hlen := r'.length
    obtain ⟨o, ho, hc, n, hd⟩ := pl
    exact call_list_seq p (.inr rfl) ho hc hd (fun h' c' kp e => fin its r' hz h' c' kp e) (by simp only [List.size_toArray] <;> omega)
theorem call_tuple_of : CallR X (.type "tuple") (fun xs H Q => ∃ p ys, xs = [.ref p] ∧ ((SqL X.K H p ys ∧ ∀ l, H l = none → Q (.ref l) (upd H l (.tup ys))) ∨ (SqT X.K H p ys ∧ Q (.ref p) H))) := by
  intro pins s σ H xs us Q I r h
  obtain ⟨p, ys, rfl, h⟩ := h
  obtain ⟨u, rfl, rx⟩ := vals1 r
  cases rx
  rcases h with ⟨hq, q⟩ | ⟨hq, q⟩
  · obtain ⟨its, r', pl, hz⟩ := I.list hq
    have hlen := r'.length
    refine call_tuple_list pl.isList (fun h' kp => ?_) (by simp only [List.size_toArray] <;> omega)
    have I1 : Inv X pins σ H { s with heap := h' } := I.kept (t' := s.toks) kp
    have I2 : Inv X pins σ (upd H h'.objs.size (.tup ys)) { s with heap := h'.push { cls := .type "tuple", data := .seq its.toArray } } :=
      I1.laid (t' := s.toks) (fun b o e => Heap.get?_push_of_some _ e) (Nat.le_refl _) (show ObjOk X.prog X.w _ _ _ (.tup ys) from ⟨hz, its, r', IsTup.new _ _⟩)
    exact ⟨.ref h'.objs.size, _, I2, rfl, q _ (I1.hok.fresh (Nat.le_refl _))⟩
  · obtain ⟨its, r', pl, hz⟩ := I.tuple hq
    exact call_tuple_same pl ⟨.ref p, H, I, rfl, q⟩

/-! ### the call of a builtin's method: o.m(..) -/
/-- the value is of that builtin type -/
def tyV (K : PySem.W.Frag) (T : String) (x : V) (H : Hp) : Prop := match x with
  | .str _ => T = "str"
  | .int _ => T = "int"
  | .ref p => (T = "list" ∧ ∃ xs, SqL K H p xs) ∨ (T = "tuple" ∧ ∃ o, K.lookup p = some o ∧ o.cls = .type "tuple" ∧ o.dict = none) ∨
      (T = "dict" ∧ ((∃ kvs, H p = some (.dK kvs)) ∨ ∃ kvs, H p = some (.dT kvs))) ∨ (T = "set" ∧ ∃ S n, H p = some (.set S n))
  | _ => False
theorem tyV_is {pins : List (Addr × Obj)} {σ : St} {H : Hp} {s : Shared} {T : String} {x : V} {v : Value} (I : Inv X pins σ H s) (r : RelV x v) (ty : tyV X.K T x H) :
    s.TypeIs v T ∧ ∀ a, v = .ref a → ∃ ob, s.heap.get? a = some ob ∧ ob.dict = none := by
  cases x with
  | str z =>
    obtain ⟨t, rfl⟩ := r
    cases (show T = "str" from ty)
    exact ⟨typeIs_str s z t, fun _ e => nomatch e⟩
  | int i =>
    obtain ⟨t, rfl⟩ := r
    cases (show T = "int" from ty)
    exact ⟨typeIs_int s i t, fun _ e => nomatch e⟩
  | ref p =>
    cases r
    rcases ty with ⟨rfl, xs, hq⟩ | ⟨rfl, o, hk, hc, hd⟩ | ⟨rfl, hk⟩ | ⟨rfl, S, n, hk⟩
    · obtain ⟨its, _, pl, _⟩ := I.list hq
      refine ⟨pl.isList.typeIs, fun a e => ?_⟩
      cases e
      obtain ⟨o, n, e, c, hd, _⟩ := pl
      exact ⟨o, e, hd⟩
    · refine ⟨⟨o, I.kIn p o hk, hc⟩, fun a e => ?_⟩
      cases e
      exact ⟨o, I.kIn _ o hk, hd⟩
    · have z : ∃ o, s.heap.get? p = some o ∧ o.ExactDict := by
        rcases hk with ⟨kvs, hk⟩ | ⟨kvs, hk⟩
        · obtain ⟨_, _, _, _, o, _, _, e, ex, _⟩ := I.hok p _ hk
          exact ⟨o, e, ex⟩
        · obtain ⟨_, _, _, _, o, _, _, e, ex, _⟩ := I.hok p _ hk
          exact ⟨o, e, ex⟩
      obtain ⟨o, e, ex⟩ := z
      refine ⟨⟨o, e, ex.1⟩, fun a e2 => ?_⟩
      cases e2
      exact ⟨o, e, ex.2.1⟩
    · obtain ⟨o, _, _, _, e, ex, _⟩ := I.hok p _ hk
      refine ⟨⟨o, e, ex.1⟩, fun a e2 => ?_⟩
      cases e2
      exact ⟨o, e, ex.2.1⟩
  | _ => exact False.elim ty
def tBM0 (K : PySem.W.Frag) (T : String) (r : V → List V → Hp → VK → Prop) (to : TE) : TE := fun σ H Q => to σ H fun x H1 => tyV K T x H1 ∧ r x [] H1 Q
def tBM (K : PySem.W.Frag) (T : String) (r : V → List V → Hp → VK → Prop) (to : TE) (t : TA) : TE := fun σ H Q => to σ H fun x H1 => tyV K T x H1 ∧ t σ H1 fun xs H2 => r x xs H2 Q
variable {o e : Expr} {es : List Expr} {to : TE} {t : TA} {name : Str} {apos cpos : Pos} {T id : String} {r : V → List V → Hp → VK → Prop}
theorem pe_bm0 (pa : PlainAttrs T) (slot : Slot T name id) (hty : typeOf (.builtin id) = pure (.type "method_descriptor")) (hm : MtR X id r) (ho : PE X o to)
    (hbase : attributeBase o name X.env (eval o X.env) = eval o X.env := by rfl) (hline : (apos.endLine == cpos.line) = true := by rfl) : PE X (.Call (.Attribute o name apos) [] [] cpos) (tBM0 X.K T r to) := by
  intro pins s σ H Q I h
  refine wpAny_Call_method0_late hbase hline (thn (ho pins s σ H _ I h) fun v s1 ⟨x, H1, I1, r1, ty, q1⟩ => ?_)
  obtain ⟨h1, h2⟩ := tyV_is I1 r1 ty
  exact ⟨T, id, pa, slot, hty, h1, h2, Calls.callWith_builtin rfl (PySem.evalArgs_none (hm pins s1 σ H1 x [] v [] Q I1 r1 .nil q1))⟩
theorem pe_bm (pa : PlainAttrs T) (slot : Slot T name id) (hty : typeOf (.builtin id) = pure (.type "method_descriptor")) (hm : MtR X id r) (ho : PE X o to) (ha : PA X (e :: es) t)
    (hbase : attributeBase o name X.env (eval o X.env) = eval o X.env := by rfl)
    (hfew : ((backTo cpos (starEach (e :: es) X.env)).all (fun x => !x.1) && (backToKw cpos (keywordEach [] X.env)).all (fun x => x.1.isSome)
      && decide ((e :: es).length + ([] : List Keyword).length + (if ([] : List Keyword).isEmpty then 0 else 1) < 30)) = true := by rfl)
    (hline : (apos.endLine == cpos.line) = true := by rfl) (hs : starEach (e :: es) X.env = (false, eval e X.env) :: starEach es X.env := by rfl) (hplain : (backTo cpos (starEach es X.env)).any (·.1) = false := by rfl) :
    PE X (.Call (.Attribute o name apos) (e :: es) [] cpos) (tBM X.K T r to t) := by
  intro pins s σ H Q I h
  refine wpAny_Call_method_late hbase hfew hline rfl (thn (ho pins s σ H _ I h) fun v s1 ⟨x, H1, I1, r1, ty, q1⟩ => ?_)
  obtain ⟨h1, h2⟩ := tyV_is I1 r1 ty
  refine ⟨T, id, pa, slot, hty, h1, h2, ?_⟩
  have hA := ha cpos pins s1 σ H1 _ I1 q1
  rw [hs] at hA ⊢
  refine Calls.callWith_builtin (by show (false || (backTo cpos (starEach es X.env)).any (·.1)) = false; rw [hplain] <;> rfl) (Calls.evalArgs_plain ?_)
  exact thn hA fun us s2 ⟨vs, H2, I2, r2, q2⟩ => hm pins s2 σ H2 x vs v us Q I2 r1 r2 q2
/- xs.append(e), list.index on a module's tuple .. are MtR facts of 06m -/
end
end L2

namespace L2
open PySem PySem.Spec PyProof.Rows

def MtM (X : Cx) (id : String) (r : V → List V → Hp → VK → Prop) : Prop :=
  ∀ (pins : List (Addr × Obj)) (s : Shared) (σ : St) (H : Hp) (x : V) (xs : List V) (v : Value) (us : List Value) (Q : VK), Inv X pins σ H s → RelV x v → Vals xs us → r x xs H Q →
    wpAny (model X.prog X.w) X.A (call (.builtin id) (v :: us)) (EP X pins σ Q) X.xe s

/-! ### lists of values -/
theorem Vals.one : ∀ {x : V} {us : List Value}, Vals [x] us → ∃ u, us = [u] ∧ RelV x u
  | _, _, .cons r .nil => ⟨_, rfl, r⟩
theorem Vals.two : ∀ {x y : V} {us : List Value}, Vals [x, y] us → ∃ u v, us = [u, v] ∧ RelV x u ∧ RelV y v
  | _, _, _, .cons r (.cons q .nil) => ⟨_, _, rfl, r, q⟩
theorem Vals.zero : ∀ {us : List Value}, Vals [] us → us = []
  | _, .nil => rfl
theorem Vals.dropLast {xs : List V} {us : List Value} (h : Vals xs us) : Vals xs.dropLast us.dropLast := by
  induction h with
  | nil => exact .nil
  | cons r t ih =>
    cases t with
    | nil => exact .nil
    | cons q t' => exact .cons r ih
theorem Vals.eraseIdx : ∀ {xs : List V} {us : List Value} (i : Nat), Vals xs us → Vals (xs.eraseIdx i) (us.eraseIdx i)
  | _, _, _, .nil => .nil
  | _, _, 0, .cons _ t => t
  | _, _, i + 1, .cons r t => .cons r (Vals.eraseIdx i t)
theorem Vals.reverse {xs : List V} {us : List Value} (h : Vals xs us) : Vals xs.reverse us.reverse := by
  induction h with
  | nil => exact .nil
  | cons r t ih => rw [List.reverse_cons, List.reverse_cons]; exact Vals.append ih (.cons r .nil)
theorem erase_last {α : Type} (l : List α) : l.eraseIdx (l.length - 1) = l.dropLast := by
  induction l with
  | nil => rfl
  | cons a r ih =>
    cases r with
    | nil => rfl
    | cons b r =>
      have e : (a :: b :: r).length - 1 = ((b :: r).length - 1) + 1 := by
        have h1 : (a :: b :: r).length = r.length + 2 := rfl
        have h2 : (b :: r).length = r.length + 1 := rfl
        omega
      rw [e, List.eraseIdx_cons_succ, ih]
      all_goals rfl

section
variable {X : Cx} {pins : List (Addr × Obj)} {σ : St} {H : Hp} {s : Shared} {l b : Addr} {xs ys zs : List V}

/-! ### the two steps: a tracked list is rewritten, a new list is laid -/
theorem Inv.lset {its its' : List Value} {n : Nat} {f : Array Value → Array Value} {t' : Nat} (I : Inv X pins σ H s) (hH : H l = some (.lst xs))
    (e : s.heap.get? l = some { cls := .type "list", data := .seq its.toArray n }) (hf : f its.toArray = its'.toArray) (hv : Vals ys its') (hz : ys.length ≤ sizeLine) :
    Inv X pins σ (upd H l (.lst ys)) { s with heap := s.heap.update l (Obj.mapSeq f), toks := t' } := by
  have q := PySem.IsL.update e f
  rw [hf] at q
  refine I.write (x := l) (e := l) (by rw [hH]; exact trivial) (.inl rfl) (fun b' u hb hu => (Heap.get?_update_other s.heap (Obj.mapSeq f) (Ne.symm hb)).trans hu) ⟨_, q⟩ ?_
  exact ⟨hz, its', _, hv, q⟩
theorem Inv.lnew {its : List Value} {t' : Nat} (I : Inv X pins σ H s) (hv : Vals ys its) (hz : ys.length ≤ sizeLine) :
    Inv X pins σ (upd H s.heap.objs.size (.lst ys)) { s with heap := s.heap.push { cls := .type "list", data := .seq its.toArray }, toks := t' } :=
  I.laid (fun _ _ q => Heap.get?_push_of_some _ q) (Nat.le_refl _) ⟨hz, its, 0, hv, Heap.get?_push_size _ rfl⟩
theorem Inv.fresh (I : Inv X pins σ H s) : H s.heap.objs.size = none := I.hok.fresh (Nat.le_refl _)
theorem Inv.lstM (I : Inv X pins σ H s) (hH : H l = some (.lst xs)) : xs.length ≤ sizeLine ∧ ∃ (its : List Value) (n : Nat), Vals xs its ∧ xs.length = its.length ∧ s.heap.get? l = some { cls := .type "list", data := .seq its.toArray n } := by
  obtain ⟨z, its, n, r, e⟩ := I.hok l _ hH
  exact ⟨z, its, n, r, r.length, e⟩

theorem notLongL {n : Nat} (h : n ≤ sizeLine) : Builtin.List.listTooLong n = false := by
  unfold Builtin.List.listTooLong
  exact decide_eq_false (by omega)
end

section
variable {X : Cx}

/-! ### methods -/
def rAppend : V → List V → Hp → VK → Prop := fun x vs H Q => ∃ l xs y, x = .ref l ∧ vs = [y] ∧ H l = some (.lst xs) ∧ xs.length < sizeLine ∧ Q .non (upd H l (.lst (xs ++ [y])))
theorem mt_append : MtM X "list.append" rAppend := by
  intro pins s σ H x vs v us Q I rx rv h
  obtain ⟨l, xs, y, rfl, rfl, hH, hz, q⟩ := h
  cases rx
  obtain ⟨u, rfl, ru⟩ := rv.one
  obtain ⟨z, its, n, r, hl, e⟩ := I.lstM hH
  refine call_meets F.slot_list_append ⟨_, e, rfl⟩ F.entry_list_append (F.args_list_append_2 _ _) (PySem.list_append l its.toArray n u (by rw [List.size_toArray]; omega)) ⟨e, ?_⟩
  refine ⟨.non, _, I.lset (its' := its ++ [u]) hH e (by simp) (r.append (.cons ru .nil)) ?_, rfl, q⟩
  rw [List.length_append, List.length_singleton]
  omega

def rExtend : V → List V → Hp → VK → Prop := fun x vs H Q => ∃ l b xs zs, x = .ref l ∧ vs = [.ref b] ∧ H l = some (.lst xs) ∧ H b = some (.lst zs) ∧ xs.length + zs.length ≤ sizeLine ∧ Q .non (upd H l (.lst (xs ++ zs)))
theorem mt_extend : MtM X "list.extend" rExtend := by
  intro pins s σ H x vs v us Q I rx rv h
  obtain ⟨l, b, xs, zs, rfl, rfl, hH, hB, hz, q⟩ := h
  cases rx
  obtain ⟨u, rfl, ru⟩ := rv.one
  cases ru
  obtain ⟨z, its, n, r, hl, e⟩ := I.lstM hH
  obtain ⟨z2, its2, n2, r2, hl2, e2⟩ := I.lstM hB
  have hsz : its.toArray.size + its2.toArray.size ≤ sizeLine := by rw [List.size_toArray, List.size_toArray]; omega
  have hlong : ¬ (!its.toArray.isEmpty && Builtin.List.listTooLong (its.toArray.size + its2.toArray.size)) = true := by
    rw [notLongL hsz, Bool.and_false]
    exact Bool.false_ne_true
  refine call_meets F.slot_list_extend ⟨_, e, rfl⟩ F.entry_list_extend (F.args_list_extend_2 _ _)
    (AutoSeq1.list_extend_list_list_0 l its.toArray n b its2.toArray n2 hlong (by rw [List.size_toArray]; omega) (by omega)) ⟨e, e2, ?_⟩
  refine ⟨.non, _, I.lset (its' := its ++ its2) hH e (by simp) (r.append r2) ?_, rfl, q⟩
  rw [List.length_append]
  omega

def rPop : V → List V → Hp → VK → Prop := fun x vs H Q => ∃ l xs y, x = .ref l ∧ vs = [] ∧ H l = some (.lst xs) ∧ xs[xs.length - 1]? = some y ∧ Q y (upd H l (.lst xs.dropLast))
theorem mt_pop : MtM X "list.pop" rPop := by
  intro pins s σ H x vs v us Q I rx rv h
  obtain ⟨l, xs, y, rfl, rfl, hH, hy, q⟩ := h
  cases rx
  have hus := rv.zero
  subst hus
  obtain ⟨z, its, n, r, hl, e⟩ := I.lstM hH
  obtain ⟨u, hu, ru⟩ := r.get hy
  have hy' : its.toArray[its.toArray.size - 1]? = some u := by
    show its.toArray[its.length - 1]? = some u
    rw [← Array.getElem?_toList, ← hl]
    exact hu
  refine call_meets F.slot_list_pop ⟨_, e, rfl⟩ F.entry_list_pop (F.args_list_pop_1 _) (MeetsSeq.list_pop_last l its.toArray n u hy' (by rw [List.size_toArray]; omega)) ⟨e, ?_⟩
  refine ⟨y, _, I.lset (its' := its.dropLast) hH e ?_ r.dropLast ?_, ru, q⟩
  · show its.toArray.eraseIdxIfInBounds (its.toArray.size - 1) = its.dropLast.toArray
    rw [List.size_toArray, List.eraseIdxIfInBounds_toArray, erase_last]
  · rw [List.length_dropLast]
    omega

def rPopAt : V → List V → Hp → VK → Prop := fun x vs H Q => ∃ l xs i k y, x = .ref l ∧ vs = [.int i] ∧ H l = some (.lst xs) ∧ -(2 ^ 63) ≤ i ∧ i < 2 ^ 63 ∧ seqIndex? i xs.length = some k ∧ xs[k]? = some y ∧ Q y (upd H l (.lst (xs.eraseIdx k)))

def rReverse : V → List V → Hp → VK → Prop := fun x vs H Q => ∃ l xs, x = .ref l ∧ vs = [] ∧ H l = some (.lst xs) ∧ Q .non (upd H l (.lst xs.reverse))

def rClear : V → List V → Hp → VK → Prop := fun x vs H Q => ∃ l xs, x = .ref l ∧ vs = [] ∧ H l = some (.lst xs) ∧ Q .non (upd H l (.lst []))
theorem mt_clear : MtM X "list.clear" rClear := by
  intro pins s σ H x vs v us Q I rx rv h
  obtain ⟨l, xs, rfl, rfl, hH, q⟩ := h
  cases rx
  have hus := rv.zero
  subst hus
  obtain ⟨z, its, n, r, hl, e⟩ := I.lstM hH
  refine call_meets F.slot_list_clear ⟨_, e, rfl⟩ F.entry_list_clear (F.args_list_clear_1 _) (AutoSeq1.list_clear_list_0 l its.toArray n (by rw [List.size_toArray]; omega)) ⟨e, ?_⟩
  exact ⟨.non, _, I.lset (its' := []) (ys := []) hH e rfl .nil (Nat.zero_le _), rfl, q⟩

/-! ### list + list, list += list, list * int -/
def rCat : R2 := fun x y H Q => ∃ l b xs zs, x = .ref l ∧ y = .ref b ∧ H l = some (.lst xs) ∧ H b = some (.lst zs) ∧ xs.length + zs.length ≤ sizeLine ∧ ∀ p, H p = none → Q (.ref p) (upd H p (.lst (xs ++ zs)))
theorem op_cat : OpR X (binaryOp .Add) rCat := by
  intro pins s σ H x y v u Q I rx ry h
  obtain ⟨l, b, xs, zs, rfl, rfl, hH, hB, hz, q⟩ := h
  cases rx
  cases ry
  obtain ⟨z, its, n, r, hl, e⟩ := I.lstM hH
  obtain ⟨z2, its2, n2, r2, hl2, e2⟩ := I.lstM hB
  refine PySem.P.add_list e e2 ?_ (by rw [List.size_toArray, List.size_toArray]; omega)
  have ea : its.toArray ++ its2.toArray = (its ++ its2).toArray := by simp
  rw [ea]
  exact ⟨.ref _, _, I.lnew (t' := s.toks) (r.append r2) (by rw [List.length_append]; omega), rfl, q _ I.fresh⟩
/-- a list times an int (a negative one is nothing) -/
def rRep : R2 := fun x y H Q => ∃ l k xs, x = .ref l ∧ y = .int k ∧ H l = some (.lst xs) ∧ -(2 ^ 63) ≤ k ∧ k < 2 ^ 63 ∧ xs.length * k.toNat ≤ sizeLine ∧
  ∀ p, H p = none → Q (.ref p) (upd H p (.lst (List.replicate k.toNat xs).flatten))

/-! ### del xs[i] -/
end

/-! ### xs[a:b] = ys -/
section
variable {prog : Program} {w : World} {A : Around} {E : Value → Shared → Prop} {s : Shared}
set_option maxRecDepth 100000 in
end

section
variable {X : Cx}
end
end L2

namespace Att
open PySem PySem.W PySem.Calls PyProof.Rows

/-! ### the script -/
theorem ints_of_wellAll {P : Params} {h : Heap} : ∀ (ns : List Int) (vs : List Value), WellAll P h vs (ns.map WData.int) → IntsAre vs ns := by
  intro ns
  induction ns with
  | nil =>
    intro vs w
    rw [List.map_nil] at w
    cases w
    exact .nil
  | cons n ns ih =>
    intro vs w
    rw [List.map_cons] at w
    cases w with
    | cons a b =>
      cases a
      exact .cons _ _ (ih _ b)

theorem script_of {l : OpenLaw} {n : Nat} (hn : l.most = some n) {P : Params} {h : Heap} {args : List WData} {vals : List Value}
    (hpre : l.row.toRowW.claim.pre args = true) (hwl : WellAll P h vals args) :
    ∃ a vs ns, vals = [Value.ref a] ∧ args = [WData.list (ns.map WData.int)] ∧ h.get? a = some { cls := .type "list", data := .seq vs.toArray } ∧ IntsAre vs ns ∧ ns.length ≤ n := by
  have hsh : WShape.hasAll [] args [.list .int] = true := (pre_splitW hpre).1
  have hc : l.pre.holds [] { args := args } = true := (pre_splitW hpre).2
  obtain ⟨d, r, rfl, h1, h2⟩ := hasAllW_cons hsh
  obtain rfl := hasAllW_nil h2
  obtain ⟨xs, rfl, h3⟩ := hasW_list h1
  obtain ⟨ns, rfl⟩ := items_int h3
  have hlen : ns.length ≤ n := by
    unfold OpenLaw.pre at hc
    have h4 : (WTm.not (.lt (.lit (.int (n : Int))) (.len (.arg 0)))).holds [] { args := [.list (ns.map .int)] } = true := by
      have h4 := (holds_andW hc).1
      rw [hn] at h4
      exact h4
    have h5 := condW_of h4 (w_not (w_lt w_lit (w_len_list (w_arg rfl))))
    rw [List.length_map] at h5
    refine Nat.le_of_not_lt fun q => ?_
    have q' : (n : Int) < ((ns.length : Nat) : Int) := by omega
    first
      | (rw [decide_eq_true q'] at h5; exact absurd h5 (by decide))
      | (simp at h5; omega)
  cases hwl with
  | cons w1 w2 =>
    cases w2
    cases w1 with
    | list ho hall => exact ⟨_, _, ns, rfl, rfl, ho, ints_of_wellAll ns _ hall, hlen⟩

theorem post_true (l : OpenLaw) (args : List WData) : l.row.toRowW.claim.post args (.bool true) args = true :=
  postW_of (r := l.row.toRowW) (X := (true == true))
    (show WShape.has [] (.bool true) .bool = true by first | rfl | decide | simp [WShape.has, WShape.arms, WShape.armsAll])
    (show (WTm.eq .res (.lit (.bool true))).value [] { args := args, res := some (.bool true), after := args } = some (.bool (true == true)) from w_eq_bool (w_res rfl) w_lit) rfl

/-! ### the attachment: holds_open's last premise (the goal 'hc' behind k_head) from a wpAny of the law's body -/

/-- the same from a codeAny of the CALL (for a layer whose function contracts speak of calls) -/
theorem attach_call {l : OpenLaw} {n : Nat} {q : Program} {loose : List Str} {XP : (Str → Option Value) → Heap → Prop} {YP : World → Heap → Prop} {d : DefRec}
    (hn : l.most = some n) (hdf : d.params.defaults = [])
    (call : ∀ (w : World) (s₀ s₁ : Shared) (mg mb : Str → Option Value) (fa : Addr) (o : Obj) (pm cd doc : Value) (a : Addr) (vs : List Value) (ns : List Int),
      Ground q loose [] XP w s₀ mg mb s₁.heap → YP w s₁.heap →
      s₁.heap.get? fa = some o → o.data = .func (docDef d.name d.params d.body d.scope pm cd doc) → s₁.heap.CodeRec cd d.name → mg d.name = some (.ref fa) →
      s₁.heap.get? a = some { cls := .type "list", data := .seq vs.toArray } → IntsAre vs ns → ns.length ≤ n → s₁.gens = #[] →
      codeAny (model l.prog w) callerA (.call (.ref fa) ⟨[.ref a], []⟩) (fun r s' => r = .ok (.ret (.bool true)) ∧ OldK s₁.heap s'.heap ∧ s'.os = s₁.os ∧ AllBare s'.gens) s₁) :
    WalkO q loose XP YP l.row.toRowW d [] (fun f vs => PySem.call f vs) := by
  intro w s₀ s₁ mg mb G Y fa o pm cd doc dV kV ho hd hcd hD hmg hg args vals as hpre hlay hrd hwl hlo
  obtain rfl : dV = .none := Dflts.none hD hdf
  obtain rfl : kV = .none := Dflts.noKw hD
  obtain ⟨a, vs, ns, rfl, rfl, hobj, hints, hlen⟩ := script_of hn hpre hwl
  refine enter_call (codeAny_mono (call w s₀ s₁ mg mb fa o pm cd doc a vs ns G Y ho (fd_plain hd) hcd hmg hobj hints hlen hg) fun r s' hq => ?_)
  obtain ⟨rfl, h2, h3, h4⟩ := hq
  exact ⟨.inl ⟨.bool true, .bool true, [], rfl, fun _ => rfl, .bool true, post_true l _, fun _ => ⟨List.Pairwise.nil, fun _ hm => (nomatch hm)⟩⟩, h2, h3, h4⟩


/-! ### rules over ANY heap (no ledger) from facts about the written part K: the library's own take a ledger (News) for what they write -/
section
variable {prog : Program} {w : World} {A : Around} {E : Value → Shared → Prop} {s : Shared} {K : Frag}





/-! the whole heap as the ledger: makes every rule that writes through a ledger a rule over any heap -/
def noObjs (h : Heap) : Heap := { h with objs := #[] }
def ledger (h : Heap) (L d : Addr) : List (Addr × Obj) := (List.range h.objs.size).filterMap fun a => if a = L ∨ a = d then none else (h.get? a).map fun o => (a, o)

end
end Att

namespace L2
open PySem PySem.Spec PyProof.Rows

theorem vals_ints : ∀ {vs : List Value} {ns : List Int}, IntsAre vs ns → Vals (ns.map V.int) vs
  | _, _, .nil => .nil
  | _, _, .cons n t h => .cons ⟨t, rfl⟩ (vals_ints h)

/-- nothing is tracked but the script, known to the object (or it is an object of the module) -/
def Only (H : Hp) : Prop := ∀ b, H b = none ∨ ∃ o xs, H b = some (.frz o (.lst xs))

/-- THE HEAD: the law's promise, at the heap behind the top. F, the promise of the law's def, may use that base is part of the heap (so K.In base, base.Ns mainGlobals mg stand in Mod) -/
theorem law_call {P : Program} {w : World} {K : PySem.W.Frag} {mg mb : Str → Option Value} {CX : CXT} {k : Nat} {fa a : Addr} {fd : FuncData} {x : Str} {sp : Sp} {s₁ : Shared} {vs : List Value} {ns : List Int}
    (KX : K.In s₁.heap) (hns : s₁.heap.Ns mainGlobals mg) (hb : s₁.heap.Ns builtinsNs mb) (hbb : ∀ x : Str, x ≠ "__name__" → mb x = bootBuiltins x) (hlim : s₁.heap.NoLimit) (hg : s₁.gens = #[])
    (ha : s₁.heap.get? a = some { cls := .type "list", data := .seq vs.toArray }) (hi : IntsAre vs ns) (hl : ns.length ≤ sizeLine) (hr : Room k callerA)
    (F : ∀ base : Heap, K.In base → base.Ns mainGlobals mg → FnOk P w K mg base CX k fa fd [x] sp) (hbind : ∀ (s : Shared) (u : Value), BindsTo s fd ⟨[u], []⟩ [(x, u)])
    (hsp : ∀ H : Hp, Only H → SqL K H a (ns.map V.int) → sp [.ref a] H (fun v _ => v = .bl true) fun _ _ _ => False)
    (hCX : ∀ H e s', CX [] H s₁ (fun _ _ _ => False) e s' → False) :
    codeAny (model P w) callerA (.call (.ref fa) ⟨[.ref a], []⟩) (fun r s' => r = .ok (.ret (.bool true)) ∧ OldK s₁.heap s'.heap ∧ s'.os = s₁.os ∧ AllBare s'.gens) s₁ := by
  have rv := vals_ints hi
  have lenV := hi.length
  -- from an abstract heap in which nothing but the script may be tracked
  have core : ∀ H : Hp, Only H → SqL K H a (ns.map V.int) → HOk P w H s₁.heap → (∀ b, H b ≠ none → b = a) → (H a ≠ none → K.lookup a = none) →
      codeAny (model P w) callerA (.call (.ref fa) ⟨[.ref a], []⟩) (fun r s' => r = .ok (.ret (.bool true)) ∧ OldK s₁.heap s'.heap ∧ s'.os = s₁.os ∧ AllBare s'.gens) s₁ := by
    intro H hO hS hok hA hK
    have base_of : ∀ {b : Addr} {o : Obj}, s₁.heap.get? b = some o → H b = none → (hidT s₁.heap H).get? b = some o := fun e n => hidT_get e n
    have noA : ∀ {b : Addr} {o : Obj} {es : Array DictEntry} {ep : Nat}, s₁.heap.get? b = some o → o.data = .dict es ep → H b = none := fun {b o es ep} e d => by
      cases q : H b with
      | none => rfl
      | some u =>
        have e' : b = a := hA b (by rw [q]; simp)
        subst e'
        rw [ha] at e; cases e
        have d' : Data.seq vs.toArray _ = Data.dict es ep := d
        cases d'
    have nsK : ∀ {b : Addr} {m : Str → Option Value}, s₁.heap.Ns b m → (hidT s₁.heap H).Ns b m := fun {b m} ⟨o, es, ep, e, d, r⟩ => ⟨o, es, ep, base_of e (noA e d), d, r⟩
    have hKb : K.In (hidT s₁.heap H) := fun b o e => base_of (KX b o e) (by
      cases q : H b with
      | none => rfl
      | some u =>
        have e' : b = a := hA b (by rw [q]; simp)
        subst e'
        rw [hK (by rw [q]; simp)] at e; cases e)
    have hM : Mod K mg (hidT s₁.heap H) := ⟨hKb, nsK hns, ⟨mb, nsK hb, hbb⟩, let ⟨mc, h1, h2⟩ := hlim; ⟨mc, nsK h1, h2⟩⟩
    have e0 : Env0 P w K mg (hidT s₁.heap H) callerA [] s₁ H := ⟨rfl, hM, fun b o e => of_hidT e, Nat.le_of_eq (hidT_size _ _), trivial, fun b hb => absurd (show b ∈ ([] : List Addr) from hb) (by simp), hok, .of_eq hg⟩
    refine codeAny_mono ((F _ hKb (nsK hns)).run callerA [] s₁ H ⟨[.ref a], []⟩ [.ref a] [.ref a] _ _ hr e0 (hbind s₁ (.ref a)) (.cons rfl .nil) (hsp H hO hS)) fun r s' h => ?_
    cases r with
    | error e => exact (hCX H e s' h).elim
    | ok fl =>
      cases fl with
      | next => exact False.elim h
      | brk => exact False.elim h
      | cont => exact False.elim h
      | ret u =>
        obtain ⟨v, H', os, bare, un, hok', r', q⟩ := h
        have q' : v = .bl true := q
        subst q'
        obtain rfl : u = Value.bool true := r'
        refine ⟨rfl, OldK.of_keep fun b o e => ?_, os, bare⟩
        cases q : H b with
        | none => exact un.keep b o e q (by intro z; exact absurd (show b ∈ ([] : List Addr) from z) (by simp)) (by simp)
        | some u =>
          rcases hO b with z | ⟨ob, xs, z⟩
          · rw [q] at z; cases z
          · have z2 := un.frzs b ob _ z
            obtain ⟨e1, _⟩ := hok b _ z
            obtain ⟨e2, _⟩ := hok' b _ z2
            rw [e] at e1; cases e1
            exact e2
  cases hk : K.lookup a with
  | some o =>
    -- the script is one of the module's own objects
    have e := KX a o hk
    rw [ha] at e
    cases e
    refine core (fun _ => none) (fun _ => .inl rfl) (.inr ⟨_, vs.toArray, _, hk, rfl, rfl, rfl, by rw [List.size_toArray, lenV]; exact hl, by simpa using rv⟩) (fun b u z => by have z' : (none : Option HO) = some u := z; cases z') (fun b z => absurd rfl z) fun z => absurd rfl z
  | none =>
    refine core (fun b => if b = a then some (.frz { cls := .type "list", data := .seq vs.toArray } (.lst (ns.map V.int))) else none) (fun b => ?_) (.inl (.inr ⟨{ cls := .type "list", data := .seq vs.toArray }, if_pos rfl⟩)) (fun b u z => ?_) (fun b z => ?_) fun _ => hk
    · by_cases hb : b = a
      · exact .inr ⟨_, _, if_pos hb⟩
      · exact .inl (if_neg hb)
    · by_cases hb : b = a
      · have z' := (if_pos hb).symm.trans z
        cases z'
        subst hb
        exact ⟨ha, by rw [List.length_map]; exact hl, vs, _, rv, ha⟩
      · have z' := (if_neg hb).symm.trans z
        cases z'
    · by_cases hb : b = a
      · exact hb
      · exact absurd (if_neg hb) z
end L2

namespace L2
open PySem PySem.Spec PyProof.Rows

abbrev KOf {K : PySem.W.Frag} {h : Heap} (_ : K.In h) : PySem.W.Frag := K

/-- the goal that k_head leaves (case hc), from the law's promise. F gives the function object fd (K's own) once, then the promise over every base -/
theorem walk_of {l : PySem.W.OpenLaw} {n k : Nat} {q : Program} {loose : List Str} {XP : (Str → Option Value) → Heap → Prop} {YP : World → Heap → Prop} {d : DefRec} {K : Params → PySem.W.Frag} {CX : World → CXT} {sp : World → Sp} {x : Str}
    (hn : l.most = some n) (hn2 : n ≤ sizeLine) (hdf : d.params.defaults = []) (hr : Room k callerA)
    (hY : ∀ (w : World) (h : Heap), YP w h → (K w.params).In h)
    (F : ∀ (w : World) (mg : Str → Option Value) (fa : Addr) (h : Heap), (K w.params).In h → h.Ns mainGlobals mg → mg d.name = some (.ref fa) →
      ∃ fd : FuncData, (∀ (s : Shared) (u : Value), BindsTo s fd ⟨[u], []⟩ [(x, u)]) ∧
        ∀ base : Heap, (K w.params).In base → base.Ns mainGlobals mg → FnOk l.prog w (K w.params) mg base (CX w) k fa fd [x] (sp w))
    (hsp : ∀ (w : World) (H : Hp) (a : Addr) (ns : List Int), ns.length ≤ n → Only H → SqL (K w.params) H a (ns.map V.int) → sp w [.ref a] H (fun v _ => v = .bl true) fun _ _ _ => False)
    (hCX : ∀ (w : World) (H : Hp) (s : Shared) (e : Value) (s' : Shared), CX w [] H s (fun _ _ _ => False) e s' → False) :
    PySem.W.WalkO q loose XP YP l.row.toRowW d [] (fun f vs => PySem.call f vs) := by
  refine Att.attach_call hn hdf fun w s₀ s₁ mg mb fa o pm cd doc a vs ns G Y ho hd hcd hmg hobj hints hlen hg => ?_
  have KX := hY w _ Y
  obtain ⟨fd, hb, hF⟩ := F w mg fa _ KX G.T.g hmg
  exact law_call KX G.T.g G.T.b G.T.builtins G.T.nolimit hg hobj hints (Nat.le_trans hlen hn2) hr hF hb (fun H hO hS => hsp w H a ns hlen hO hS) fun H e s' => hCX w H s₁ e s'
end L2

/- THE LAST THEOREM (shape; LID, My.* are yours):
   My.Adr: a structure of the addresses that your layer names (classes, functions); My.Txt K t: a structure (Prop) of the equations over K;
   My.txt_mk : {K} {implicit addresses ..} (e1 : nsIn K mainGlobals "law" = some (some (.ref f))) (e2 : K.lookup f = some ⟨oc, od, .func (fnOf "law" "law" params body scope dV kV doc pm an cdv ct), sl⟩) (e3 : codeIn K cdv "law" = true) .. : ∃ t, My.Txt K t

set_option maxRecDepth 100000 in
set_option maxHeartbeats 0 in
theorem PySem.Challenge.cw_LID_holds : PySem.Challenge.rw_LID.Holds := by
  w_on; o_law; k_head; (case hw => w_witness2)
  k_fill
  refine L2.walk_of (l := PySem.Challenge.rw_LID) (n := 63) (k := 40) (x := "script") (CX := fun w => ..) (sp := fun _ => My.sp_law) rfl (by decide) rfl ⟨rfl, by decide, by decide⟩ (fun w h Y => PySem.W.kIn_of Y) ?F ?S ?C
  case F =>
    intro w mg fa h KX G hmg
    have T : ∃ t, My.Txt (L2.KOf KX) t := by
      dsimp only [L2.KOf]                          -- K must stand as «<heap const> w.params» for k_is
      refine' My.txt_mk ?e1 ?e2 ?e3 ..
      (case e1 => PySem.W.k_is)                    -- in the order: a name -> its address -> its object -> its parts
      (case e2 => PySem.W.k_is)
      ..
    obtain ⟨t, T⟩ := T
    have e0 := hmg.symm.trans (PySem.W.mg_of KX G T.law)
    cases e0                                       -- fa is the law's own address
    exact ⟨_, fun s u => .of_eq rfl, fun base kb nb => My.law_fn T kb nb⟩     -- if «.of_eq rfl» comes too early: refine' ⟨_, ?b, fun base kb nb => My.law_fn T kb nb⟩; exact fun s u => .of_eq rfl
  case S => exact fun w H a ns hl hO hS => ..
  case C => exact ..
(the tactic k_is has no namespace: write k_is) -/

/-! SHORT WORDS over the layer: a def of the text, its body, what a loop and a test want. -/
namespace L2
open PySem PySem.Spec PyProof.Rows

/-! ### the text by places -/
/-- the j-th statement of a class's body -/
def inClass (s : Stmt) (j : Nat) : Stmt := match s with
  | .ClassDef _ _ _ body _ _ _ _ _ _ _ => body.getD j (.Pass ⟨0, 0, 0, 0⟩)
  | _ => .Pass ⟨0, 0, 0, 0⟩
def defArgs (s : Stmt) : Arguments := match s with
  | .FunctionDef _ a _ _ _ _ _ _ _ _ => a
  | _ => { posonlyargs := [], args := [], vararg := none, kwonlyargs := [], kw_defaults := [], kwarg := none, defaults := [] }
def defBody (s : Stmt) : List Stmt := match s with
  | .FunctionDef _ _ b _ _ _ _ _ _ _ => b
  | _ => []
def defScope (s : Stmt) : Scope := match s with
  | .FunctionDef _ _ _ _ _ _ sc _ _ _ => sc
  | _ => { kind := .function, names := [], isGenerator := false, isCoroutine := false }

/-! ### no exception leaves a def -/
abbrev CX0 : CXT := fun _ _ _ _ _ _ => False
abbrev E0 : XK := fun _ _ _ => False

/-! ### a def (or method) of the text as it stands behind the top -/
structure Fun (K : PySem.W.Frag) (x qual : Str) (st : Stmt) (f : Addr) (fd : FuncData) : Prop where
  ex : ∃ (oc : Value) (od : Option Addr) (kV doc pm : Value) (an : Option Addr) (cdv ct : Value) (osl : Array (Option Value)),
    fd = PySem.W.fnOf x qual (defArgs st) (defBody st) (defScope st) .none kV doc pm an cdv ct ∧ K.lookup f = some ⟨oc, od, .func fd, osl⟩ ∧ PySem.W.codeIn K cdv qual = true
  kp : PySem.W.keepIn K (.ref f) = true
section
variable {P : Program} {w : World} {K : PySem.W.Frag} {mg : Str → Option Value} {base : Heap}
/-- THE RULE for a def: its body as a term of rules, and the reading of that term -/
theorem Fun.ok {x qual : Str} {st : Stmt} {f : Addr} {fd : FuncData} {N ps : List Str} {k : Nat} {sp : Sp} (F : Fun K x qual st f fd) (S : FnScope N ps (defScope st)) (len : ∀ vs H Q E, sp vs H Q E → vs.length = ps.length)
    (hbody : ∀ (cdv : Value) (A : Around) (outer : List Env) (s : Shared) (H : Hp) (vs : List V) (Q : VK) (E : XK), Room k (A.deeper (envOfC qual (defScope st) s.heap.objs.size f cdv)) → sp vs H Q E →
      ∃ t, PSs (cxOf CX0 P w K mg base N qual (defScope st) f cdv A outer s H E).nox (defBody st) t ∧ t { nx := fun _ H' => Q .non H', rt := Q } (start N vs) H) : FnOk P w K mg base CX0 (k + 1) f fd ps sp := by
  obtain ⟨oc, od, kV, doc, pm, an, cdv, ct, osl, rfl, lk, hcd⟩ := F.ex
  refine fn_of lk hcd S len fun A outer s H vs Q E hr hsp => ?_
  obtain ⟨t, h, q⟩ := hbody cdv A outer s H vs Q E hr hsp
  exact ⟨t, h.nox, q⟩
/-- how its arguments bind (no defaults): h is «fun _ _ _ _ _ _ us hl => match us, hl with | [_, _], _ => rfl», one _ a parameter -/
theorem Fun.binds {x qual : Str} {st : Stmt} {f : Addr} {fd : FuncData} {ps : List Str} (F : Fun K x qual st f fd)
    (h : ∀ (kV doc pm : Value) (an : Option Addr) (cdv ct : Value) (us : List Value), us.length = ps.length → bindArgs (PySem.W.fnOf x qual (defArgs st) (defBody st) (defScope st) .none kV doc pm an cdv ct) ⟨us, []⟩ = pure (ps.zip us)) : Binds K fd ps [] := by
  obtain ⟨oc, od, kV, doc, pm, an, cdv, ct, osl, rfl, lk, hcd⟩ := F.ex
  exact .all (h kV doc pm an cdv ct)
theorem fun_mk {x qual : Str} {st : Stmt} {f : Addr} {oc : Value} {od an : Option Addr} {osl : Array (Option Value)} {kV doc pm cdv ct : Value} (l : K.lookup f = some ⟨oc, od, .func (PySem.W.fnOf x qual (defArgs st) (defBody st) (defScope st) .none kV doc pm an cdv ct), osl⟩)
    (c : PySem.W.codeIn K cdv qual = true) (k : PySem.W.keepIn K (.ref f) = true) : Fun K x qual st f (PySem.W.fnOf x qual (defArgs st) (defBody st) (defScope st) .none kV doc pm an cdv ct) := ⟨⟨oc, od, kV, doc, pm, an, cdv, ct, osl, rfl, l, c⟩, k⟩
end
theorem hu_of {A : Around} {k : Nat} (hr : Room k A) : A.units + 1 < cLine := Nat.lt_of_le_of_lt (Nat.add_le_add_left (by decide : 1 ≤ 64) _) hr.units
theorem small1000 {n : Nat} (h : n ≤ 1000) : n < sizeLine := Nat.lt_of_le_of_lt h (by decide)

/-! ### expressions in short: the name that stands in the i-th slot -/
section
variable {X : Cx}
theorem pv (i : Nat) {x : Str} {pos : Pos} (hN : X.N[i]? = some x := by rfl) (hv : Vis X.env.scope x := by first | exact Or.inl rfl | exact Or.inr (Or.inl rfl) | exact Or.inr (Or.inr rfl)) (hd : (x == ("__debug__" : Str)) = false := by decide)
    (hcd : (x == ("__classdict__" : Str)) = false := by decide) : PE X (.Name x pos) (tVar i) := pe_var hN hv hd hcd
end

/-! ### tests -/
theorem iteF {A B : Prop} (h : B) : if false = true then A else B := by
  rw [if_neg Bool.false_ne_true]
  exact h
theorem iteT {A B : Prop} (h : A) : if true = true then A else B := by
  rw [if_pos rfl]
  exact h
theorem ite2 {c A B : Prop} [Decidable c] (h1 : c → A) (h2 : ¬ c → B) : if c then A else B := by
  by_cases h : c
  · rw [if_pos h]
    exact h1 h
  · rw [if_neg h]
    exact h2 h
theorem iteNS {c A B : Prop} [Decidable c] (hc : c) (h : B) : if (!decide c) = true then A else B := by
  rw [decide_eq_true hc]
  exact iteF h

/-! ### heaps -/
/-- all that was tracked is as it was -/
def Same (H H' : Hp) : Prop := ∀ b o, H b = some o → H' b = some o
theorem Same.refl (H : Hp) : Same H H := fun _ _ h => h
theorem Same.trans {H H1 H2 : Hp} (a : Same H H1) (b : Same H1 H2) : Same H H2 := fun c o h => b c o (a c o h)
theorem Same.free {H H' : Hp} (e : Same H H') {l : Addr} (h : H' l = Option.none) : H l = Option.none := by
  cases q : H l with
  | none => rfl
  | some o =>
    rw [e l o q] at h
    cases h
theorem Same.seq {K : PySem.W.Frag} {H H' : Hp} {a : Addr} {xs : List V} (e : Same H H') (h : SqL K H a xs) : SqL K H' a xs := by
  rcases h with (h | ⟨o, h⟩) | h
  · exact .inl (.inl (e _ _ h))
  · exact .inl (.inr ⟨o, e _ _ h⟩)
  · exact .inr h

end L2
set_option maxHeartbeats 4000000
/-! THE HAND LAYER, for ints, bools, texts, own classes, DICTS (int and text keys), calls, loops. Paste it whole ahead of your own text; what your proof does not reach may be deleted. -/
namespace L2
open PySem PySem.Spec PyProof.Rows

end L2

namespace L2
open PySem PySem.Spec PyProof.Rows

section
variable (P : Program) (w : World)
end

section
variable {P : Program} {w : World} {H H' : Hp} {h h' : Heap} {a : Addr} {o : HO}
end

section
variable {P : Program} {w : World} {H : Hp} {h h' : Heap} {x e : Addr} {o' : HO}
end

section
variable {fs fs' ex ex' : List Addr} {H H1 H2 : Hp} {h h1 h2 h' : Heap} {a x e : Addr} {o : HO}
end

end L2

namespace L2
open PySem PySem.Spec PyProof.Rows

section
variable {X : Cx} {pins : List (Addr × Obj)} {σ : List (Option V)} {H H' : Hp} {s : Shared} {h' : Heap}

end

end L2

namespace L2
open PySem PySem.Spec PyProof.Rows
section
variable {X : Cx}

variable {a b : Expr} {ta tb : TE} {pos : Pos}
/-! ### and, or, not -/
variable {tA tB' : TT} {rest : List Expr}
end
end L2

namespace L2
open PySem PySem.Spec PyProof.Rows

section
variable {X : Cx} {pins : List (Addr × Obj)} {σ : St} {H : Hp} {s : Shared} {a : Addr} {xs ys : List V}
end

section
variable {X : Cx} {pins : List (Addr × Obj)} {σ : St} {H : Hp} {s : Shared} {E : Value → Shared → Prop}
end

/-! ### blocks and small statements -/
section
variable {X : Cx} {st : Stmt} {rest : List Stmt} {t u : TS} {e : Expr} {te : TE} {pos : Pos}
end

section
variable {X : Cx} {pos : Pos}
end

/-! ### while -/
section
variable {X : Cx} {pos : Pos}
end

end L2

namespace L2
open PySem PySem.Spec PyProof.Rows
section
variable {X : Cx} {tg : Expr}
end

end L2

namespace L2
open PySem PySem.Spec PyProof.Rows

section
variable {X : Cx} {a b c : Expr} {ta tb tc : TE} {pos : Pos}

end

section
variable {X : Cx} {a b c : Expr} {ta tb tc : TE} {pos : Pos}
end
end L2

namespace L2
open PySem PySem.Spec PyProof.Rows

section
variable {prog : Program} {w : World} {A : Around} {E : Value → Shared → Prop} {s : Shared} {K : PySem.W.Frag} {x dx C f : Addr} {mA : Str → Option Value} {name : Str} {v : Value}

end

section
variable {P : Program} {w : World} {H H' : Hp} {h h' : Heap} {a C dx : Addr} {fs fs' : List (Str × V)}
end

section
variable {X : Cx} {pins : List (Addr × Obj)} {σ : St} {H : Hp} {s : Shared} {a C dx : Addr} {fs : List (Str × V)} {f : Str} {v : V} {A : Around} {E : Value → Shared → Prop}

end

section
variable {X : Cx} {o e value : Expr} {f : Str} {pos pos' tpos : Pos} {ta tv : TE}
end

/-! ### isinstance -/
section
variable {X : Cx} {pins : List (Addr × Obj)} {σ : St} {H : Hp} {s : Shared} {A : Around} {E : Value → Shared → Prop} {Q : Value → Shared → Prop} {c : Value} {b : Bool}
end
end L2

namespace L2
open PySem PySem.Spec PyProof.Rows

section
variable {X : Cx} {e : Expr} {es : List Expr} {te : TE} {t : TA} {pos : Pos}
end

section
variable {X : Cx} {pins : List (Addr × Obj)} {σ : St} {H : Hp} {s s' : Shared}
end

section
variable {X : Cx} {CX : CXT} {k : Nat} {f C : Addr} {fd : FuncData} {ps : List Str} {sp : Sp} {dvs : List V} {ds : List Value} {E : XK} {x m : Str} {p pos apos : Pos} {e o : Expr} {es : List Expr} {ta : TE} {t : TA}

end

section
variable {X : Cx} {CX : CXT} {k : Nat} {f C : Addr} {fd : FuncData} {ps ks : List Str} {sp : Sp} {E : XK} {x m : Str} {p pos apos kpos : Pos} {e o : Expr} {es : List Expr} {kws : List Keyword} {te ta : TE} {t tk : TA} {nm : Option Str}
variable {g : List Value → List Value → List Value} {gV : List V → List V → List V}
end

end L2

namespace L2
open PySem PySem.Spec PyProof.Rows
section
variable {X : Cx} {x : Str} {p pos : Pos} {e : Expr} {es : List Expr} {t : TA} {id T : String} {r : List V → Hp → VK → Prop}

end
end L2

namespace L2
open PySem PySem.Spec PyProof.Rows

/-! ### lists of pairs as tables -/
section
variable {κ : Type} [DecidableEq κ]
def valV (kvs : List (κ × V)) (k : κ) : Option V := (kvs.find? fun kv => decide (kv.1 = k)).map (·.2)
/-- in its place, or at the end -/
def putK (kvs : List (κ × V)) (k : κ) (v : V) : List (κ × V) :=
  if (kvs.any fun kv => decide (kv.1 = k)) = true then kvs.map (fun kv => if kv.1 = k then (kv.1, v) else kv) else kvs ++ [(k, v)]
def dropK (kvs : List (κ × V)) (k : κ) : List (κ × V) := kvs.filter fun kv => decide (kv.1 ≠ k)

theorem valV_pos {p : κ × V} {r : List (κ × V)} {k : κ} (e : p.1 = k) : valV (p :: r) k = some p.2 := by simp [valV, List.find?_cons, e]
theorem valV_neg {p : κ × V} {r : List (κ × V)} {k : κ} (e : ¬ p.1 = k) : valV (p :: r) k = valV r k := by simp [valV, List.find?_cons, e]
theorem valV_any (k : κ) : ∀ kvs : List (κ × V), (kvs.any fun kv => decide (kv.1 = k)) = (valV kvs k).isSome
  | [] => rfl
  | p :: r => by
    rw [List.any_cons]
    by_cases e : p.1 = k
    · simp only [valV_pos e, decide_eq_true e, Bool.true_or, Option.isSome_some]
    · rw [valV_neg e, decide_eq_false e, Bool.false_or]; exact valV_any k r
theorem valV_map (k j : κ) (y : V) : ∀ kvs : List (κ × V), valV (kvs.map fun kv => if kv.1 = k then (kv.1, y) else kv) j = (valV kvs j).map fun x => if j = k then y else x
  | [] => rfl
  | p :: r => by
    have ih := valV_map k j y r
    rw [List.map_cons]
    by_cases h : p.1 = k
    · rw [if_pos h]
      by_cases e : p.1 = j
      · rw [valV_pos (p := (p.1, y)) e, valV_pos e, Option.map_some, if_pos (e.symm.trans h)]
      · rw [valV_neg (p := (p.1, y)) e, valV_neg e, ih]
    · rw [if_neg h]
      by_cases e : p.1 = j
      · rw [valV_pos (p := p) e, valV_pos e, Option.map_some, if_neg (fun z => h (e.trans z))]
      · rw [valV_neg (p := p) e, valV_neg e, ih]
theorem valV_snoc (k j : κ) (y : V) : ∀ kvs : List (κ × V), valV kvs k = none → valV (kvs ++ [(k, y)]) j = if j = k then some y else valV kvs j
  | [], _ => by
    by_cases e : k = j
    · rw [if_pos e.symm]; exact valV_pos (p := (k, y)) e
    · rw [if_neg (fun z => e z.symm)]; exact valV_neg (p := (k, y)) e
  | p :: r, hn => by
    rw [List.cons_append]
    have hk : ¬ p.1 = k := fun z => by rw [valV_pos z] at hn; cases hn
    rw [valV_neg hk] at hn
    have ih := valV_snoc k j y r hn
    by_cases e : p.1 = j
    · rw [valV_pos e, valV_pos e, if_neg (fun z => hk (e.trans z))]
    · rw [valV_neg e, valV_neg e, ih]
theorem valV_put (kvs : List (κ × V)) (k j : κ) (y : V) : valV (putK kvs k y) j = if j = k then some y else valV kvs j := by
  unfold putK
  by_cases a : (kvs.any fun kv => decide (kv.1 = k)) = true
  · rw [if_pos a, valV_map]
    rw [valV_any] at a
    by_cases e : j = k
    · obtain ⟨x, hx⟩ := Option.isSome_iff_exists.mp a
      rw [if_pos e, e, hx, Option.map_some, if_pos rfl]
    · rw [if_neg e]
      cases valV kvs j with
      | none => rfl
      | some x => rw [Option.map_some, if_neg e]
  · rw [if_neg a]
    refine valV_snoc k j y kvs ?_
    rw [valV_any] at a
    cases q : valV kvs k with
    | none => rfl
    | some x => rw [q] at a; exact (a rfl).elim
theorem length_putK (kvs : List (κ × V)) (k : κ) (v : V) : (putK kvs k v).length ≤ kvs.length + 1 := by
  unfold putK
  split
  · rw [List.length_map]; omega
  · rw [List.length_append, List.length_cons, List.length_nil]; omega

theorem RelO.isSome_eq {o : Option V} {u : Option Value} (r : RelO o u) : o.isSome = u.isSome := by
  cases o with
  | none => cases u with
    | none => rfl
    | some _ => exact (show False from r).elim
  | some _ => cases u with
    | none => exact (show False from r).elim
    | some _ => rfl
theorem RelO.getD {o : Option V} {u : Option Value} {d : V} {d' : Value} (r : RelO o u) (rd : RelV d d') : RelV (o.getD d) (u.getD d') := by
  cases o with
  | none => cases u with
    | none => exact rd
    | some _ => exact (show False from r).elim
  | some _ => cases u with
    | none => exact (show False from r).elim
    | some _ => exact r

/-- raw tables of the same keys -/
theorem KV.val {kvs : List (κ × V)} {vs : List (κ × Value)} (r : KV kvs vs) (k : κ) : RelO (valV kvs k) (valueAt vs k) := by
  unfold KV at r
  induction r with
  | nil => exact True.intro
  | @cons p q ps qs h t ih =>
    obtain ⟨h1, h2⟩ := h
    by_cases e : p.1 = k
    · have e' : q.1 = k := h1.symm.trans e
      have b : valueAt (q :: qs) k = some q.2 := by simp [valueAt, List.find?_cons, e']
      rw [valV_pos e, b]; exact h2
    · have e' : ¬ q.1 = k := fun z => e (h1.trans z)
      have b : valueAt (q :: qs) k = valueAt qs k := by simp [valueAt, List.find?_cons, e']
      rw [valV_neg e, b]; exact ih
theorem KV.any {kvs : List (κ × V)} {vs : List (κ × Value)} (r : KV kvs vs) (k : κ) : (kvs.any fun kv => decide (kv.1 = k)) = vs.any fun kv => decide (kv.1 = k) := by
  unfold KV at r
  induction r with
  | nil => rfl
  | cons h t ih => rw [List.any_cons, List.any_cons, ih, h.1]
theorem KV.repl {kvs : List (κ × V)} {vs : List (κ × Value)} (r : KV kvs vs) (k : κ) {y : V} {u : Value} (ry : RelV y u) :
    KV (kvs.map fun kv => if kv.1 = k then (kv.1, y) else kv) (vs.map fun kv => if kv.1 = k then (kv.1, u) else kv) := by
  unfold KV at r ⊢
  induction r with
  | nil => exact .nil
  | @cons p q ps qs h t ih =>
    rw [List.map_cons, List.map_cons]
    refine .cons ?_ ih
    obtain ⟨h1, h2⟩ := h
    by_cases e : p.1 = k
    · rw [if_pos e, if_pos (h1.symm.trans e)]; exact ⟨h1, ry⟩
    · rw [if_neg e, if_neg (fun z => e (h1.trans z))]; exact ⟨h1, h2⟩
theorem KV.put {kvs : List (κ × V)} {vs : List (κ × Value)} (r : KV kvs vs) (k : κ) {y : V} {u : Value} (ry : RelV y u) : KV (putK kvs k y) (stored vs k u) := by
  unfold putK stored
  rw [r.any k]
  by_cases e : (vs.any fun kv => decide (kv.1 = k)) = true
  · rw [if_pos e, if_pos e]; exact r.repl k ry
  · rw [if_neg e, if_neg e]; exact Paired.snoc r ⟨rfl, ry⟩
theorem KV.drop {kvs : List (κ × V)} {vs : List (κ × Value)} (r : KV kvs vs) (k : κ) : KV (dropK kvs k) (without vs k) := by
  unfold KV at r ⊢
  unfold dropK without
  induction r with
  | nil => exact .nil
  | @cons p q ps qs h t ih =>
    obtain ⟨h1, h2⟩ := h
    rw [List.filter_cons, List.filter_cons]
    by_cases e : p.1 = k
    · have a : ¬ decide (p.1 ≠ k) = true := by simp [e]
      have b : ¬ decide (q.1 ≠ k) = true := by simp [h1.symm.trans e]
      rw [if_neg a, if_neg b]; exact ih
    · have e' : ¬ q.1 = k := fun z => e (h1.trans z)
      have a : decide (p.1 ≠ k) = true := by simp [e]
      have b : decide (q.1 ≠ k) = true := by simp [e']
      rw [if_pos a, if_pos b]; exact .cons ⟨h1, h2⟩ ih
theorem KV.keys {kvs : List (κ × V)} {vs : List (κ × Value)} (r : KV kvs vs) : kvs.map (·.1) = vs.map (·.1) := by
  unfold KV at r
  induction r with
  | nil => rfl
  | cons h t ih => rw [List.map_cons, List.map_cons, ih, h.1]
theorem KV.length {kvs : List (κ × V)} {vs : List (κ × Value)} (r : KV kvs vs) : kvs.length = vs.length := Paired.length r
end


/-! ### a tracked dict, its keys ints and texts or tuples of these -/
theorem kV_is {P : Program} {w : World} {k : Key} {u : Value} (r : RelV (kV k) u) : (mixKind P w).is k u = true := by
  cases k with
  | inl i => obtain ⟨t, e⟩ := (show ∃ t, u = Value.int i t from r); subst e; exact mixKind_int P w i t
  | inr x => obtain ⟨t, e⟩ := (show ∃ t, u = Value.str x t from r); subst e; exact mixKind_str P w x t
theorem items_are {P : Program} {w : World} : ∀ {ks : List Key} {us : List Value}, Vals (ks.map kV) us → ItemsAre (mixKind P w) ks us
  | [], _, r => by rw [List.map_nil] at r; cases r; exact .nil
  | k :: ks, _, r => by
    rw [List.map_cons] at r
    cases r with
    | cons h t => exact .cons (kV_is h) (items_are t)

/-- raw entries of a dict with tuple keys -/
abbrev KT (H : Hp) : List (List Key × V) → List (List Key × Addr × Value) → Prop := Paired fun p q => p.1 = q.1 ∧ H q.2.1 = some (.tup (p.1.map kV)) ∧ RelV p.2 q.2.2
theorem KT.val {H : Hp} {kvs : List (List Key × V)} {xs : List (List Key × Addr × Value)} (r : KT H kvs xs) (k : List Key) : RelO (valV kvs k) ((atKey xs k).map (·.2)) := by
  induction r with
  | nil => exact True.intro
  | @cons p q ps qs h t ih =>
    obtain ⟨h1, _, h2⟩ := h
    by_cases e : p.1 = k
    · have e' : q.1 = k := h1.symm.trans e
      have b : atKey (q :: qs) k = some q.2 := by simp [atKey, List.find?_cons, e']
      rw [valV_pos e, b]; exact h2
    · have e' : ¬ q.1 = k := fun z => e (h1.trans z)
      have b : atKey (q :: qs) k = atKey qs k := by simp [atKey, List.find?_cons, e']
      rw [valV_neg e, b]; exact ih
theorem KT.repl {H : Hp} {kvs : List (List Key × V)} {xs : List (List Key × Addr × Value)} (r : KT H kvs xs) (k : List Key) {y : V} {u : Value} (ry : RelV y u) :
    KT H (kvs.map fun kv => if kv.1 = k then (kv.1, y) else kv) (xs.map (putAt k u)) := by
  induction r with
  | nil => exact .nil
  | @cons p q ps qs h t ih =>
    rw [List.map_cons, List.map_cons]
    refine .cons ?_ ih
    obtain ⟨h1, h2, h3⟩ := h
    unfold putAt
    by_cases e : p.1 = k
    · rw [if_pos e, if_pos (h1.symm.trans e)]; exact ⟨h1, h2, ry⟩
    · rw [if_neg e, if_neg (fun z => e (h1.trans z))]; exact ⟨h1, h2, h3⟩
theorem KT.put {H : Hp} {kvs : List (List Key × V)} {xs : List (List Key × Addr × Value)} (r : KT H kvs xs) (k : List Key) {b : Addr} {y : V} {u : Value} (hb : H b = some (.tup (k.map kV))) (ry : RelV y u) :
    KT H (putK kvs k y) (storedH xs k b u) := by
  have e : (kvs.any fun kv => decide (kv.1 = k)) = (atKey xs k).isSome := by
    rw [valV_any, (r.val k).isSome_eq, Option.isSome_map]
  unfold putK storedH
  rw [e]
  by_cases q : (atKey xs k).isSome = true
  · rw [if_pos q, if_pos q]; exact r.repl k ry
  · rw [if_neg q, if_neg q]; exact Paired.snoc r ⟨rfl, hb, ry⟩
theorem KT.keeps {H H' : Hp} {kvs : List (List Key × V)} {xs : List (List Key × Addr × Value)} (r : KT H kvs xs) (ht : ∀ b ys, H b = some (.tup ys) → H' b = some (.tup ys)) : KT H' kvs xs :=
  Paired.mapP r fun _ _ z => ⟨z.1, ht _ _ z.2.1, z.2.2⟩

section
variable {P : Program} {w : World} {H : Hp} {h : Heap} {a : Addr}
theorem rd_of {u : HO} (ok : HOk P w H h) (e : Rd H a u) : ObjOk P w H h a u := e.ok ok
theorem dk_rd {kvs : List (Key × V)} (ok : HOk P w H h) (e : Rd H a (.dK kvs)) : kvs.length ≤ sizeLine ∧ (a == sysModules) = false ∧ ∃ vs, KV kvs vs ∧ h.DictOf (mixKind P w) a vs :=
  show ObjOk P w H h a (.dK kvs) from rd_of ok e
theorem dk_of {kvs : List (Key × V)} (ok : HOk P w H h) (e : H a = some (.dK kvs)) : kvs.length ≤ sizeLine ∧ (a == sysModules) = false ∧ ∃ vs, KV kvs vs ∧ h.DictOf (mixKind P w) a vs := dk_rd ok (.inl e)
/-- a tracked tuple of ints and texts is a key -/
theorem key_of {ks : List Key} (ok : HOk P w H h) (e : H a = some (.tup (ks.map kV))) : (tupleKind (mixKind P w)).is h ks a := by
  obtain ⟨_, its, r, o, h1, h2, n, h3⟩ := (show ObjOk P w H h a (.tup (ks.map kV)) from ok a _ e)
  exact ⟨o, its.toArray, n, h1, h2, h3, by simpa using items_are r⟩
theorem dt_rd {kvs : List (List Key × V)} (ok : HOk P w H h) (e : Rd H a (.dT kvs)) : kvs.length ≤ sizeLine ∧ (a == sysModules) = false ∧
    ∃ xs, KT H kvs xs ∧ h.DictOfH (tupleKind (mixKind P w)) a xs := by
  obtain ⟨z, y, xs, r, o, es, ep, h1, h2, h3, h4, h5⟩ := (show ObjOk P w H h a (.dT kvs) from rd_of ok e)
  refine ⟨z, y, xs, r, o, es, ep, h1, h2, h3, h4, fun x hx => ?_, h5⟩
  have all : ∀ {l : List (List Key × V)} {m : List (List Key × Addr × Value)}, KT H l m → ∀ x ∈ m, (tupleKind (mixKind P w)).is h x.1 x.2.1 := by
    intro l m q
    induction q with
    | nil => intro x hx; exact nomatch hx
    | @cons p q ps qs hq t ih =>
      intro x hx
      rcases List.mem_cons.mp hx with e | hx
      · subst e
        exact key_of ok (by rw [← hq.1]; exact hq.2.1)
      · exact ih x hx
  exact all r x hx
theorem dt_of {kvs : List (List Key × V)} (ok : HOk P w H h) (e : H a = some (.dT kvs)) : kvs.length ≤ sizeLine ∧ (a == sysModules) = false ∧
    ∃ xs, KT H kvs xs ∧ h.DictOfH (tupleKind (mixKind P w)) a xs := dt_rd ok (.inl e)
end

/-- what the dict at a holds at the key y -/
def DGet (H : Hp) (a : Addr) (y : V) (r : Option V) : Prop :=
  (∃ kvs k, Rd H a (.dK kvs) ∧ y = kV k ∧ r = valV kvs k) ∨ ∃ kvs k b, Rd H a (.dT kvs) ∧ y = .ref b ∧ H b = some (.tup (k.map kV)) ∧ r = valV kvs k
/-- the heap behind a[y] = v -/
def DPut (H : Hp) (a : Addr) (y v : V) (H' : Hp) : Prop :=
  (∃ kvs k, H a = some (.dK kvs) ∧ y = kV k ∧ kvs.length < sizeLine ∧ H' = upd H a (.dK (putK kvs k v))) ∨
  ∃ kvs k b, H a = some (.dT kvs) ∧ y = .ref b ∧ H b = some (.tup (k.map kV)) ∧ kvs.length < sizeLine ∧ H' = upd H a (.dT (putK kvs k v))
theorem DGet.k {H : Hp} {a : Addr} {kvs : List (Key × V)} {k : Key} (e : H a = some (.dK kvs)) : DGet H a (kV k) (valV kvs k) := .inl ⟨kvs, k, .inl e, rfl, rfl⟩
theorem DGet.t {H : Hp} {a b : Addr} {kvs : List (List Key × V)} {k : List Key} (e : H a = some (.dT kvs)) (eb : H b = some (.tup (k.map kV))) : DGet H a (.ref b) (valV kvs k) := .inr ⟨kvs, k, b, .inl e, rfl, eb, rfl⟩
theorem DPut.k {H : Hp} {a : Addr} {kvs : List (Key × V)} {k : Key} {v : V} (e : H a = some (.dK kvs)) (hl : kvs.length < sizeLine) : DPut H a (kV k) v (upd H a (.dK (putK kvs k v))) := .inl ⟨kvs, k, e, rfl, hl, rfl⟩
theorem DPut.t {H : Hp} {a b : Addr} {kvs : List (List Key × V)} {k : List Key} {v : V} (e : H a = some (.dT kvs)) (eb : H b = some (.tup (k.map kV))) (hl : kvs.length < sizeLine) :
    DPut H a (.ref b) v (upd H a (.dT (putK kvs k v))) := .inr ⟨kvs, k, b, e, rfl, eb, hl, rfl⟩


section
variable {X : Cx} {pins : List (Addr × Obj)} {σ : St} {H : Hp} {s : Shared} {a : Addr} {y v : V} {u r : Value} {o : Option V} {A : Around} {E : Value → Shared → Prop}

theorem Inv.big (I : Inv X pins σ H s) : sysModules < s.heap.objs.size := by
  have h : mainGlobals < s.heap.objs.size := (I.mod.glob.keeps I.bk).lt
  exact Nat.lt_trans (by decide) h

/-- d[y], there -/
theorem d_getItem {Q : Value → Shared → Prop} (hu : A.units + 1 < cLine) (I : Inv X pins σ H s) (g : DGet H a y (some v)) (ry : RelV y u) (h : ∀ w' s', Inv X pins σ H s' → RelV v w' → Q w' s') :
    wpAny (model X.prog X.w) A (getItem (.ref a) u) Q E s := by
  rcases g with ⟨kvs, k, e, ey, l⟩ | ⟨kvs, k, b, e, ey, eb, l⟩
  · subst ey
    obtain ⟨z, hd, vs, rel, dd⟩ := dk_rd I.hok e
    obtain ⟨w', hw, rw'⟩ := RelO.some_of (v := v) (o := valueAt vs k) (by rw [l]; exact rel.val k)
    exact wpAny_getItem_of (kV_is ry) dd.mapOf hw (h w' _ (I.tok _) rw')
  · subst ey
    cases (show u = Value.ref b from ry)
    obtain ⟨z, hd, xs, rel, dd⟩ := dt_rd I.hok e
    obtain ⟨w', hw, rw'⟩ := RelO.some_of (v := v) (o := (atKey xs k).map (·.2)) (by rw [l]; exact rel.val k)
    obtain ⟨p, hp, hp2⟩ := Option.map_eq_some_iff.mp hw
    refine wpAny_getItem_heap (tupleKind_room_in1 hu) (key_of I.hok eb) dd hp ?_
    rw [hp2]
    exact h w' _ (I.tok _) rw'
/-- y in d -/
theorem d_in {Q : Value → Shared → Prop} (hu : A.units + 1 < cLine) (I : Inv X pins σ H s) (g : DGet H a y o) (ry : RelV y u) (h : ∀ s', Inv X pins σ H s' → Q (.bool o.isSome) s') :
    wpAny (model X.prog X.w) A (compareOp .In u (.ref a)) Q E s := by
  rcases g with ⟨kvs, k, e, ey, l⟩ | ⟨kvs, k, b, e, ey, eb, l⟩
  · subst ey
    obtain ⟨z, hd, vs, rel, dd⟩ := dk_rd I.hok e
    refine wpAny_in_of (kV_is ry) hd dd.mapOf ?_
    rw [← (rel.val k).isSome_eq, ← l]
    exact h _ (I.tok _)
  · subst ey
    cases (show u = Value.ref b from ry)
    obtain ⟨z, hd, xs, rel, dd⟩ := dt_rd I.hok e
    refine wpAny_in_heap (tupleKind_room_in1 hu) (key_of I.hok eb) hd dd ?_
    have q := (rel.val k).isSome_eq
    rw [Option.isSome_map] at q
    rw [← q, ← l]
    exact h _ (I.tok _)
/-- a dict's object is replaced -/
theorem d_write {h' : Heap} {t' : Nat} {ob : HO} (I : Inv X pins σ H s) (mu : Mut (H a)) (hs : Heap.SameBut a s.heap h') (he : ∃ q, h'.get? a = some q) (new : ObjOk X.prog X.w (upd H a ob) h' a ob) :
    Inv X pins σ (upd H a ob) { s with heap := h', toks := t' } :=
  I.write (x := a) (e := a) mu (.inl rfl) (fun b q hb z => (hs.2 b hb).trans z) he new
theorem dk_new {P : Program} {w : World} {H' : Hp} {h' : Heap} {kvs : List (Key × V)} {vs : List (Key × Value)} (z : kvs.length ≤ sizeLine) (hd : (a == sysModules) = false) (rel : KV kvs vs) (dd : h'.DictOf (mixKind P w) a vs) :
    ObjOk P w H' h' a (.dK kvs) := ⟨z, hd, vs, rel, dd⟩
/-- d[y] = v -/
theorem d_setItem {H' : Hp} {Q : Unit → Shared → Prop} (hu : A.units + 1 < cLine) (I : Inv X pins σ H s) (g : DPut H a y v H') (ry : RelV y u) (rv : RelV v r) (h : ∀ s', Inv X pins σ H' s' → Q () s') :
    wpAny (model X.prog X.w) A (setItem (.ref a) u r) Q E s := by
  rcases g with ⟨kvs, k, e, ey, l, eH⟩ | ⟨kvs, k, b, e, ey, eb, l, eH⟩
  · subst ey eH
    obtain ⟨z, hd, vs, rel, dd⟩ := dk_of I.hok e
    have hz : vs.length ≤ sizeLine := by rw [← rel.length]; exact z
    have hl : (putK kvs k v).length ≤ sizeLine := by have := length_putK kvs k v; omega
    refine wpAny_setItem_pairs (hsz := hz) (kV_is ry) dd fun h' dd' hs => h _ ?_
    have he : ∃ q, h'.get? a = some q := let ⟨q, _, _, hq, _⟩ := dd'; ⟨q, hq⟩
    exact d_write I (by rw [e]; exact True.intro) hs he (dk_new hl hd (rel.put k rv) dd')
  · subst ey eH
    cases (show u = Value.ref b from ry)
    obtain ⟨z, hd, xs, rel, dd⟩ := dt_of I.hok e
    have hz : xs.length ≤ sizeLine := by rw [← Paired.length rel]; exact z
    have hl : (putK kvs k v).length ≤ sizeLine := by have := length_putK kvs k v; omega
    refine wpAny_setItem_heap (hsz := hz) (tupleKind_room_in1 hu) (key_of I.hok eb) dd fun h' dd' hs => h _ ?_
    obtain ⟨q, es, ep, hq, h2, h3, h4, _, h5⟩ := dd'
    refine d_write I (by rw [e]; exact True.intro) hs ⟨q, hq⟩ ⟨hl, hd, _, (rel.put k eb rv).keeps fun c ys ec => ?_, q, es, ep, hq, h2, h3, h4, h5⟩
    rw [upd_ne (ne_of ec e (fun z => nomatch z))]
    exact ec
end

section
variable {X : Cx} {pins : List (Addr × Obj)} {σ : St} {H : Hp} {s : Shared} {a : Addr} {kvs : List (Key × V)} {k : Key} {u : Value} {A : Around} {E : Value → Shared → Prop}
end


/-! ### readings and rules -/
/-- the element of a subscription, not a slice -/
def NoSl (i : Expr) : Prop := ∀ ov iv, subscripted i false ov iv = operate [ov, iv] (getItem ov iv)
theorem subD_of {prog : Program} {w : World} {A : Around} {E : Value → Shared → Prop} {s : Shared} {env : Env} {value slice : Expr} {pos : Pos} {T id : String} {Q : Value → Shared → Prop}
    (hl : typeLookup (.type T) "__getitem__" = pure (some (.builtin id))) (hs : NoSl slice)
    (h : wpAny (model prog w) A (eval value env) (fun o s₁ => wpAny (model prog w) A (eval slice env) (fun i s₂ => s₂.TypeIs o T ∧ wpAny (model prog w) A (getItem o i) Q E s₂) E s₁) E s) :
    wpAny (model prog w) A (eval (.Subscript value slice pos) env) Q E s := by
  refine Subscript_ (wpAny_mono h (fun o s₁ h₁ => wpAny_mono h₁ (fun i s₂ h₂ => ?_) fun _ _ x => x) fun _ _ x => x)
  obtain ⟨hT, h₂⟩ := h₂
  unfold subscriptTail
  refine wpAny_bind ?_
  rw [getitemInPython_of_ne hT.not_modules]
  refine wpAny_bind (wpAny_specialOf hT hl ?_)
  have fin : wpAny (model prog w) A (subscripted slice false o i) (fun r s₃ => wpAny (model prog w) A (letTemporaryGo value o r >>= fun _ => pure r) Q E s₃) E s₂ := by
    rw [hs o i]
    exact wpAny_operating (wpAny_mono h₂ (fun r s₃ h₃ => wpAny_bind (wpAny_letTemporaryGo (wpAny_pure h₃))) fun _ _ x => x)
  first
    | exact wpAny_pure (wpAny_bind fin)
    | exact wpAny_bind (wpAny_pure (wpAny_bind fin))
    | exact wpAny_bind fin

theorem dict_typeIs {X : Cx} {pins : List (Addr × Obj)} {σ : St} {H : Hp} {s : Shared} {a : Addr} {y : V} {o : Option V} (I : Inv X pins σ H s) (g : DGet H a y o) : s.TypeIs (.ref a) "dict" := by
  rcases g with ⟨kvs, k, e, _, _⟩ | ⟨kvs, k, b, e, _, _, _⟩
  · obtain ⟨_, _, vs, _, dd⟩ := dk_rd I.hok e
    exact dd.typeIs
  · obtain ⟨_, _, xs, _, dd⟩ := dt_rd I.hok e
    exact dd.typeIs

/-- d[y] -/
def tDGet (td ty : TE) : TE := fun σ H Q => td σ H fun x H1 => ty σ H1 fun y H2 => ∃ a v, x = .ref a ∧ DGet H2 a y (some v) ∧ Q v H2
/-- y in d, y not in d -/
def tDIn (ty td : TE) : TE := fun σ H Q => ty σ H fun y H1 => td σ H1 fun x H2 => ∃ a o, x = .ref a ∧ DGet H2 a y o ∧ Q (.bl o.isSome) H2
def tDNotIn (ty td : TE) : TE := fun σ H Q => ty σ H fun y H1 => td σ H1 fun x H2 => ∃ a o, x = .ref a ∧ DGet H2 a y o ∧ Q (.bl (!o.isSome)) H2
/-- d[y] = v -/
def sDPut (td ty tv : TE) : TS := fun D σ H => tv σ H fun v H1 => td σ H1 fun x H2 => ty σ H2 fun y H3 => ∃ a H4, x = .ref a ∧ DPut H3 a y v H4 ∧ D.nx σ H4
/-- d[y] op= v -/
def sDAug (td ty tv : TE) (rd : V → V → Hp → VK → Prop) : TS := fun D σ H => td σ H fun x H1 => ty σ H1 fun y H2 => ∃ a v, x = .ref a ∧ DGet H2 a y (some v) ∧
  tv σ H2 fun y2 H3 => rd v y2 H3 fun z H4 => ∃ H5, DPut H4 a y z H5 ∧ D.nx σ H5
/-- del d[y] -/
def sDDel (td ty : TE) : TS := fun D σ H => td σ H fun x H1 => ty σ H1 fun y H2 => ∃ a kvs k, x = .ref a ∧ H2 a = some (.dK kvs) ∧ y = kV k ∧ (valV kvs k).isSome = true ∧ D.nx σ (upd H2 a (.dK (dropK kvs k)))

section
variable {X : Cx} {o i e value : Expr} {pos pos' tpos : Pos} {td ty tv : TE}
theorem pe_dget (hu : X.A.units + 1 < cLine) (ho : PE X o td) (hi : PE X i ty) (hs : NoSl i) : PE X (.Subscript o i pos) (tDGet td ty) := by
  intro pins s σ H Q I h
  refine subD_of PySem.F.slot_dict_getitem.lookup hs (thn (ho pins s σ H _ I h) fun u s1 ⟨x, H1, I1, rx, q1⟩ => thn (hi pins s1 σ H1 _ I1 q1) fun iv s2 ⟨y, H2, I2, ry, a, v, ex, g, q2⟩ => ?_)
  subst ex
  obtain rfl : u = Value.ref a := rx
  exact ⟨dict_typeIs I2 g, d_getItem hu I2 g ry fun w' s3 I3 rw' => ⟨v, H2, I3, rw', q2⟩⟩
theorem pc_din (hu : X.A.units + 1 < cLine) (hi : PE X i ty) (ho : PE X o td) : PC X .In i o (tDIn ty td) := by
  intro pins s σ H Q I h
  refine thn (hi pins s σ H _ I h) fun iv s1 ⟨y, H1, I1, ry, q1⟩ => thn (ho pins s1 σ H1 _ I1 q1) fun u s2 ⟨x, H2, I2, rx, a, ov, ex, g, q2⟩ => ?_
  subst ex
  obtain rfl : u = Value.ref a := rx
  exact d_in hu I2 g ry fun s3 I3 => ⟨.bl ov.isSome, H2, I3, rfl, q2⟩
theorem ps_dput (hu : X.A.units + 1 < cLine) (ho : PE X o td) (hi : PE X i ty) (hv : PE X value tv) (hs : swapsWith value (some (.Subscript o i pos')) pos.line X.env = pure false) :
    PS X (.Assign [.Subscript o i pos'] value pos) (sDPut td ty tv) := by
  intro pins s σ H D I h
  refine wpAny_Assign_Subscript (thn (hv pins s σ H _ I h) fun r s1 ⟨v, H1, I1, rv, q1⟩ => thn (ho pins s1 σ H1 _ I1 q1) fun u s2 ⟨x, H2, I2, rx, q2⟩ => thn (hi pins s2 σ H2 _ I2 q2) fun iv s3 ⟨y, H3, I3, ry, a, H4, ex, g, q3⟩ => ?_) hs
  subst ex
  obtain rfl : u = Value.ref a := rx
  exact d_setItem hu I3 g ry rv fun s4 I4 => ⟨σ, H4, I4, q3⟩
end


/-! ### displays -/
theorem dk_empty {P : Program} {w : World} {H : Hp} (h : Heap) (hb : sysModules < h.objs.size) : ObjOk P w H (h.push { cls := .type "dict", data := .dict #[] }) h.objs.size (.dK []) :=
  ⟨Nat.zero_le _, beq_eq_false_iff_ne.mpr (Ne.symm (Nat.ne_of_lt hb)), [], .nil, Heap.DictOf.new h⟩
/-- {}, to be a dict of the kind that is wanted -/
def tDNewK : TE := fun _ H Q => ∀ p, H p = none → Q (.ref p) (upd H p (.dK []))
def tDNewT : TE := fun _ H Q => ∀ p, H p = none → Q (.ref p) (upd H p (.dT []))
section
variable {X : Cx} {pos : Pos}
end

/-- the pairs of a display, from the left -/
def tPairs : List (TE × TE) → St → Hp → (List (V × V) → Hp → Prop) → Prop
  | [], _, H, Q => Q [] H
  | (tk, tv) :: r, σ, H, Q => tk σ H fun x H1 => tv σ H1 fun y H2 => tPairs r σ H2 fun ps H3 => Q ((x, y) :: ps) H3
abbrev VV : List (V × V) → List (Value × Value) → Prop := Paired fun p q => RelV p.1 q.1 ∧ RelV p.2 q.2
def PPs (X : Cx) (pos : Pos) (keys : List (Option Expr)) (values : List Expr) (trs : List (TE × TE)) : Prop :=
  ∀ (pins : List (Addr × Obj)) (s : Shared) (σ : St) (H : Hp) (Q : List (V × V) → Hp → Prop), Inv X pins σ H s → tPairs trs σ H Q →
    wpAny (model X.prog X.w) X.A (evalPairs (pairTrees keys values X.env pos)) (fun vs s' => ∃ ps H', Inv X pins σ H' s' ∧ VV ps vs ∧ Q ps H') X.xe s
theorem pps_nil {X : Cx} {pos : Pos} : PPs X pos [] [] [] := fun pins s σ H Q I h => pairTrees_nil_walk ⟨[], H, I, .nil, h⟩
theorem pps_cons {X : Cx} {pos : Pos} {k v : Expr} {ks : List (Option Expr)} {vs : List Expr} {tk tv : TE} {trs : List (TE × TE)} (hk : PE X k tk) (hv : PE X v tv) (hr : PPs X pos ks vs trs) :
    PPs X pos (some k :: ks) (v :: vs) ((tk, tv) :: trs) := fun pins s σ H Q I h =>
  pairTrees_cons_walk (thn (hk pins s σ H _ I h) fun u s1 ⟨x, H1, I1, rx, q1⟩ => thn (hv pins s1 σ H1 _ I1 q1) fun w2 s2 ⟨y, H2, I2, ry, q2⟩ =>
    thn (hr pins s2 σ H2 _ I2 q2) fun ws s3 ⟨ps, H3, I3, rel, q3⟩ => ⟨(x, y) :: ps, H3, I3, .cons ⟨rx, ry⟩ rel, q3⟩)

def mergeK (kvs more : List (Key × V)) : List (Key × V) := more.foldl (fun acc kv => putK acc kv.1 kv.2) kvs
theorem KV.merge : ∀ {more : List (Key × V)} {rs : List (Key × Value)} {kvs : List (Key × V)} {vs : List (Key × Value)}, KV more rs → KV kvs vs → KV (mergeK kvs more) (merged vs rs) := by
  intro more rs kvs vs r
  unfold KV at r
  induction r generalizing kvs vs with
  | nil => intro q; exact q
  | @cons p q ps qs h t ih =>
    intro r0
    have e : KV (putK kvs p.1 p.2) (stored vs q.1 q.2) := by
      have := r0.put p.1 h.2
      rw [← h.1]; exact this
    exact ih e
theorem length_mergeK : ∀ (more kvs : List (Key × V)), (mergeK kvs more).length ≤ kvs.length + more.length
  | [], kvs => by show kvs.length ≤ kvs.length + 0; omega
  | p :: r, kvs => by
    have h1 := length_mergeK r (putK kvs p.1 p.2)
    have h2 := length_putK kvs p.1 p.2
    show (mergeK (putK kvs p.1 p.2) r).length ≤ _
    rw [List.length_cons]; omega
theorem carries_of {P : Program} {w : World} : ∀ {kvs : List (Key × V)} {ws : List (Value × Value)}, VV (kvs.map fun kv => (kV kv.1, kv.2)) ws → ∃ rs, Carries (mixKind P w) ws rs ∧ KV kvs rs
  | [], _, r => by rw [List.map_nil] at r; cases r; exact ⟨[], True.intro, .nil⟩
  | p :: kvs, _, r => by
    rw [List.map_cons] at r
    cases r with
    | @cons a b as bs h t =>
      obtain ⟨rs, c, q⟩ := carries_of (P := P) (w := w) t
      obtain ⟨b1, b2⟩ := b
      exact ⟨(p.1, b2) :: rs, ⟨kV_is h.1, rfl, c⟩, .cons ⟨rfl, h.2⟩ q⟩
/-- {k: v, ..} with keys ints and texts; the new dict stands empty while the pairs are made -/
def tDisp (trs : List (TE × TE)) : TE := fun σ H Q => ∀ p, H p = none → tPairs trs σ (upd H p (.dK [])) fun ps H2 => H2 p = some (.dK []) ∧ ∃ kvs : List (Key × V), ps = kvs.map (fun kv => (kV kv.1, kv.2)) ∧ kvs.length ≤ 15 ∧ Q (.ref p) (upd H2 p (.dK (mergeK [] kvs)))
theorem pe_disp {X : Cx} {pos : Pos} {keys : List (Option Expr)} {values : List Expr} {trs : List (TE × TE)} (h : PPs X pos keys values trs) (hall : keys.all (·.isSome) = true) (hl : keys.length = values.length) (h0 : keys ≠ [])
    (h15 : keys.length ≤ 15) : PE X (.Dict keys values pos) (tDisp trs) := by
  intro pins s σ H Q I q
  have hn := I.hok.fresh (Nat.le_refl s.heap.objs.size)
  have I1 := I.laid (a := s.heap.objs.size) (o := .dK []) (h' := s.heap.push { cls := .type "dict", data := .dict #[] }) (t' := s.toks) (fun _ _ q => Heap.get?_push_of_some _ q) (Nat.le_refl _) (dk_empty s.heap I.big)
  refine wpAny_Dict_walk (knd := mixKind X.prog X.w) hall hl h0 h15 (thn (h pins _ σ _ _ I1 (q _ hn)) fun ws s2 ⟨ps, H2, I2, rel, e, kvs, ep, lk, q2⟩ => ?_)
  subst ep
  obtain ⟨rs, c, rk⟩ := carries_of (P := X.prog) (w := X.w) rel
  obtain ⟨z, hd, vs0, r0, dd⟩ := dk_of I2.hok e
  cases r0
  refine ⟨rs, c, dd, fun h' dd' hs => ⟨.ref s.heap.objs.size, _, ?_, rfl, q2⟩⟩
  have hz : (mergeK [] kvs).length ≤ sizeLine := by
    have h1 := length_mergeK kvs []
    rw [List.length_nil] at h1
    rw [sizeLine_eq]; omega
  have he : ∃ q, h'.get? s.heap.objs.size = some q := let ⟨q, _, _, hq, _⟩ := dd'; ⟨q, hq⟩
  exact d_write I2 (by rw [e]; exact True.intro) hs he (dk_new hz hd (rk.merge .nil) dd')


/-! ### methods -/
/-- a method call o.m(e) of a built-in, with one argument: what must be seen of the text -/
structure M1 (X : Cx) (o : Expr) (m : Str) (apos : Pos) (e : Expr) (cpos : Pos) : Prop where
  base : attributeBase o m X.env (eval o X.env) = eval o X.env
  few : ((backTo cpos (starEach [e] X.env)).all (fun x => !x.1) && (backToKw cpos (keywordEach [] X.env)).all (fun x => x.1.isSome)
    && decide (([e] : List Expr).length + ([] : List Keyword).length + (if ([] : List Keyword).isEmpty then 0 else 1) < 30)) = true
  line : (apos.endLine == cpos.line) = true
  trees : backTo cpos (starEach [e] X.env) = [(false, eval e X.env)]
structure M2 (X : Cx) (o : Expr) (m : Str) (apos : Pos) (e f : Expr) (cpos : Pos) : Prop where
  base : attributeBase o m X.env (eval o X.env) = eval o X.env
  few : ((backTo cpos (starEach [e, f] X.env)).all (fun x => !x.1) && (backToKw cpos (keywordEach [] X.env)).all (fun x => x.1.isSome)
    && decide (([e, f] : List Expr).length + ([] : List Keyword).length + (if ([] : List Keyword).isEmpty then 0 else 1) < 30)) = true
  line : (apos.endLine == cpos.line) = true
  trees : backTo cpos (starEach [e, f] X.env) = [(false, eval e X.env), (false, eval f X.env)]

/-- a is a dict, whatever its keys -/
def IsD (H : Hp) (a : Addr) : Prop := (∃ kvs, Rd H a (.dK kvs)) ∨ ∃ kvs, Rd H a (.dT kvs)
theorem isD_at {X : Cx} {pins : List (Addr × Obj)} {σ : St} {H : Hp} {s : Shared} {a : Addr} (I : Inv X pins σ H s) (d : IsD H a) :
    s.TypeIs (.ref a) "dict" ∧ (∀ b, Value.ref a = .ref b → ∃ ob, s.heap.get? b = some ob ∧ ob.dict = none) ∧ (a == sysModules) = false := by
  rcases d with ⟨kvs, e⟩ | ⟨kvs, e⟩
  · obtain ⟨_, hd, vs, _, dd⟩ := dk_rd I.hok e
    refine ⟨dd.typeIs, fun b q => ?_, hd⟩
    cases q
    obtain ⟨ob, _, _, h1, h2, _⟩ := dd
    exact ⟨ob, h1, h2.2.1⟩
  · obtain ⟨_, hd, xs, _, dd⟩ := dt_rd I.hok e
    refine ⟨dd.typeIs, fun b q => ?_, hd⟩
    cases q
    obtain ⟨ob, _, _, h1, h2, _⟩ := dd
    exact ⟨ob, h1, h2.2.1⟩

section
variable {X : Cx} {pins : List (Addr × Obj)} {σ : St} {H : Hp} {s : Shared} {a : Addr} {y d : V} {u r : Value} {o : Option V} {A : Around} {E : Value → Shared → Prop}
/-- d.get(y) -/
theorem d_get1 {Q : Value → Shared → Prop} (hu : A.units + 1 < cLine) (I : Inv X pins σ H s) (g : DGet H a y o) (ry : RelV y u) (h : ∀ w' s', Inv X pins σ H s' → RelV (o.getD .non) w' → Q w' s') :
    wpAny (model X.prog X.w) A (call (.builtin "dict.get") [.ref a, u]) Q E s := by
  rcases g with ⟨kvs, k, e, ey, l⟩ | ⟨kvs, k, b, e, ey, eb, l⟩
  · subst ey
    obtain ⟨z, hd, vs, rel, dd⟩ := dk_rd I.hok e
    refine call_meetsIn PySem.F.slot_dict_get dd.typeIs PySem.F.entry_dict_get (PySem.F.args_dict_get_2 _ _) (meets_dict_get (mixKind X.prog X.w) a (kV_is ry) hd) ⟨_, dd.mapOf, h _ _ (I.tok _) ?_⟩
    rw [l]
    exact (rel.val k).getD rfl
  · subst ey
    cases (show u = Value.ref b from ry)
    obtain ⟨z, hd, xs, rel, dd⟩ := dt_rd I.hok e
    refine call_meetsIn PySem.F.slot_dict_get dd.typeIs PySem.F.entry_dict_get (PySem.F.args_dict_get_2 _ _) (meetsH_dict_get (tupleKind (mixKind X.prog X.w)) a b hd) ⟨tupleKind_room_in1 hu, k, xs, key_of I.hok eb, dd, h _ _ (I.tok _) ?_⟩
    rw [l]
    exact (rel.val k).getD rfl
end

def tDGet1 (td ty : TE) : TE := fun σ H Q => td σ H fun x H1 => ∃ a, x = .ref a ∧ IsD H1 a ∧ ty σ H1 fun y H2 => ∃ o, DGet H2 a y o ∧ Q (o.getD .non) H2
def tDGet2 (td ty tx : TE) : TE := fun σ H Q => td σ H fun x H1 => ∃ a, x = .ref a ∧ IsD H1 a ∧ ty σ H1 fun y H2 => tx σ H2 fun z H3 => ∃ o, DGet H3 a y o ∧ Q (o.getD z) H3
/-- d.pop(k): there; d.pop(k, x): there or not -/
def tDPop1 (td ty : TE) : TE := fun σ H Q => td σ H fun x H1 => ∃ a, x = .ref a ∧ IsD H1 a ∧ ty σ H1 fun y H2 => ∃ kvs k v, H2 a = some (.dK kvs) ∧ y = kV k ∧ valV kvs k = some v ∧ Q v (upd H2 a (.dK (dropK kvs k)))
def tDPop2 (td ty tx : TE) : TE := fun σ H Q => td σ H fun x H1 => ∃ a, x = .ref a ∧ IsD H1 a ∧ ty σ H1 fun y H2 => tx σ H2 fun z H3 => ∃ kvs k, H3 a = some (.dK kvs) ∧ y = kV k ∧
  (∀ v, valV kvs k = some v → Q v (upd H3 a (.dK (dropK kvs k)))) ∧ (valV kvs k = none → Q z H3)
section
variable {X : Cx} {o e f : Expr} {apos cpos : Pos} {td ty tx : TE}
theorem pe_dget1 (hu : X.A.units + 1 < cLine) (ho : PE X o td) (he : PE X e ty) (m : M1 X o "get" apos e cpos) : PE X (.Call (.Attribute o "get" apos) [e] [] cpos) (tDGet1 td ty) := by
  intro pins s σ H Q I h
  refine wpAny_Call_method m.base m.few m.line PySem.F.plainAttrs_dict PySem.F.slot_dict_get PySem.F.type_dict_get (thn (ho pins s σ H _ I h) fun u s1 ⟨x, H1, I1, rx, a, ex, d, q1⟩ => ?_)
  subst ex
  obtain rfl : u = Value.ref a := rx
  obtain ⟨t1, t2, _⟩ := isD_at I1 d
  refine ⟨t1, t2, ?_⟩
  rw [m.trees]
  refine Calls.callWith_builtin rfl (Calls.evalArgs_plain (Calls.spliced_cons (thn (he pins s1 σ H1 _ I1 q1) fun iv s2 ⟨y, H2, I2, ry, ov, g, q2⟩ => Calls.spliced_nil ?_)))
  exact d_get1 hu I2 g ry fun w' s3 I3 rw' => ⟨_, H2, I3, rw', q2⟩
end

/-! ### dict(d): a copy -/
section
variable {X : Cx} {pins : List (Addr × Obj)} {σ : St} {H : Hp} {s : Shared} {a : Addr} {kvs : List (Key × V)} {A : Around} {E : Value → Shared → Prop}
end


section
variable {X : Cx} {pins : List (Addr × Obj)} {σ : St} {H : Hp} {s : Shared} {a : Addr} {y : V} {u : Value} {A : Around} {E : Value → Shared → Prop}
end
end L2

namespace Att
open PySem PySem.W PySem.Calls PyProof.Rows

/-! ### rules over ANY heap (no ledger) from facts about the written part K: the library's own take a ledger (News) for what they write -/
section
variable {prog : Program} {w : World} {A : Around} {E : Value → Shared → Prop} {s : Shared} {K : Frag}

end
end Att

namespace L2
open PySem PySem.Spec PyProof.Rows

end L2

namespace L2
open PySem PySem.Spec PyProof.Rows

end L2

/-! SHORT WORDS over the layer: a def of the text, its body, what a loop and a test want. -/
namespace L2
open PySem PySem.Spec PyProof.Rows

section
variable {P : Program} {w : World} {K : PySem.W.Frag} {mg : Str → Option Value} {base : Heap}
end
/-! ### expressions in short: the name that stands in the i-th slot -/
section
variable {X : Cx}
end

/-! ### a dict's pairs: keys that differ -/
section
variable {κ : Type} [DecidableEq κ]
end
end L2
namespace Chk
/-- the number turned, on naturals -/
def T (n : Nat) : Nat := n * 128 % 2 ^ 64 + n / 2 ^ 57
def Tn : Nat → Nat → Nat
  | 0, n => n
  | k + 1, n => T (Tn k n)
def D (n : Nat) : Nat := if n * 2 ≥ 2 ^ 64 then n * 2 - 2 ^ 64 + 1 else n * 2
end Chk
namespace Chk
end Chk
namespace Chk
def stp (c n : Nat) : Nat := T c ^^^ n
def chk (l : List Nat) : Nat := l.foldl stp 0
end Chk
namespace L2
open PySem PySem.Spec PyProof.Rows
section
variable {X : Cx}
/-- // by a positive divisor of any usual size -/
theorem op_fdivB : OpR X (binaryOp .FloorDiv) (rI (fun _ j => 0 < j ∧ j.natAbs.log2 < 9000) fun i j => .int (i / j)) := opI fun i j _ _ _ _ _ hc q => by
  have h1 : (0 : Int) < j := hc.1
  exact floordiv_int (by omega) (by rw [Int.fdiv_eq_ediv_of_nonneg i (by omega)]; exact q) (.inl (PyProof.noPylong_of_log2 hc.2))
/-- a written power -/
theorem pe_powc {a b n : Int} {j1 j2 p1 p2 pos} (h : 0 ≤ b ∧ b ≤ 1000000 ∧ a.natAbs < 2 ^ 64 := by decide) (e : a ^ b.toNat = n := by first | rfl | decide +kernel) :
    PE X (.BinOp (.Constant (.int a) j1 p1) .Pow (.Constant (.int b) j2 p2) pos) (tC (.int n)) := fun pins s σ H Q I hw =>
  pe_op op_pow pe_int pe_int pins s σ H Q I ⟨_, _, rfl, rfl, h, by subst e; exact hw⟩
def clsV : V → Option Value
  | .ty n => some (.type n)
  | .ref a => some (.ref a)
  | _ => none
theorem call_isinst : CallR X (.builtin "isinstance") (fun xs H Q => ∃ x c cv t b, xs = [x, c] ∧ clsV c = some cv ∧ TyOf X.K H x t ∧ PySem.W.kitOne X.K t cv = some b ∧ Q (.bl b) H) := by
  rintro pins s σ H xs us Q I r ⟨x, c, cv, t, b, rfl, hc, ty, e, q⟩
  obtain ⟨u, v, rfl, ru, rv⟩ := vals2 r
  have hv : v = cv := by
    cases c <;> simp [clsV] at hc <;> subst hc <;> exact rv
  subst hv
  exact isinst_ok I ru ty e fun tk => ⟨.bl b, H, I.tok tk, rfl, q⟩
end
/-! ### defs, methods, classes by their promises -/
section
variable (P : Program) (w : World) (K : PySem.W.Frag) (mg : Str → Option Value) (base : Heap)
structure DefOk (x : Str) (k : Nat) (ps : List Str) (sp : Sp) : Prop where
  ex : ∃ (f : Addr) (fd : FuncData), mg x = some (.ref f) ∧ FnOk P w K mg base CX0 k f fd ps sp ∧ PySem.W.keepIn K (.ref f) = true ∧ Binds K fd ps []
structure MethOk (C : Addr) (m : Str) (k : Nat) (ps : List Str) (sp : Sp) : Prop where
  ex : ∃ (f : Addr) (fd : FuncData), Meth K C m f ∧ FnOk P w K mg base CX0 k f fd ps sp ∧ Binds K fd ps []
structure MakeOk (x : Str) (C : Addr) (k : Nat) (ps : List Str) (sp : Sp) : Prop where
  ex : ∃ (f : Addr) (fd : FuncData), mg x = some (.ref C) ∧ Mk K C f ∧ FnOk P w K mg base CX0 k f fd ps sp ∧ Binds K fd ps []
end
section
variable {X : Cx} {k : Nat} {C : Addr} {ps : List Str} {sp : Sp} {x m : Str} {p pos apos : Pos} {e o : Expr} {es : List Expr} {ta : TE} {t : TA}
end
theorem iteY {c A B : Prop} [Decidable c] (hc : c) (h : A) : if decide c = true then A else B := by
  rw [if_pos (decide_eq_true hc)]; exact h
theorem iteN {c A B : Prop} [Decidable c] (hc : ¬ c) (h : B) : if decide c = true then A else B := by
  rw [if_neg (by rw [decide_eq_false hc]; decide)]; exact h
end L2
namespace L2
open PySem
def clos (cells : List (Str × Addr)) : List (Str × NameKind) → List (Str × Addr) → List (Str × Addr)
  | [], acc => acc
  | (n, k) :: r, acc => clos cells r (if k == .free then (n, (cells.lookup n).getD 0) :: acc else acc)
theorem clos_loop {env : Env} : ∀ (l : List (Str × NameKind)) (acc : List (Str × Addr)), (∀ y ∈ l, y.2 = .free → ∃ c, env.cells.lookup y.1 = some c) →
    (forIn l acc fun (x : Str × NameKind) (cs : List (Str × Addr)) => if (x.2 == NameKind.free) = true then do let a ← cellOf env x.1; pure (ForInStep.yield ((x.1, a) :: cs)) else pure (ForInStep.yield cs) : Sem (List (Str × Addr))) = pure (clos env.cells l acc)
  | [], acc, _ => by simp only [List.forIn_nil]; rfl
  | (n, k) :: r, acc, h => by
    simp only [List.forIn_cons]
    cases hk : (k == NameKind.free) with
    | false =>
      simp only [Bool.false_eq_true, if_false]
      have ih := clos_loop (env := env) r acc fun y hy => h y (List.mem_cons_of_mem _ hy)
      simp only [pure_bind, ih, clos, hk, Bool.false_eq_true, if_false]
    | true =>
      obtain ⟨c, hc⟩ := h (n, k) List.mem_cons_self (by simpa using hk)
      have e : cellOf env n = pure c := by
        unfold cellOf; rw [show env.cells.lookup n = some c from hc]
      simp only [if_true, e, pure_bind]
      have ih := clos_loop (env := env) r ((n, c) :: acc) fun y hy => h y (List.mem_cons_of_mem _ hy)
      rw [ih]
      simp only [clos, hk, if_true]
      rw [show env.cells.lookup n = some c from hc]; rfl
theorem closureFor_eq {scope : Scope} {env : Env} (h : ∀ y ∈ scope.names, y.2 = .free → ∃ c, env.cells.lookup y.1 = some c) : closureFor scope env = pure (clos env.cells scope.names []) := by
  have := clos_loop (env := env) scope.names [] h
  unfold closureFor
  simp only [bind_pure]
  exact this
theorem clos_sub {cells : List (Str × Addr)} : ∀ {names : List (Str × NameKind)} {acc : List (Str × Addr)}, (∀ y ∈ names, y.2 = .free → ∃ c, cells.lookup y.1 = some c) → (∀ x c, acc.lookup x = some c → cells.lookup x = some c) →
    ∀ x c, (clos cells names acc).lookup x = some c → cells.lookup x = some c
  | [], _, _, ha, x, c, h => ha x c h
  | (n, k) :: r, acc, hn, ha, x, c, h => by
    refine clos_sub (names := r) (fun y hy => hn y (List.mem_cons_of_mem _ hy)) ?_ x c h
    intro x c h
    split at h
    · rename_i hk
      obtain ⟨d, hd⟩ := hn (n, k) List.mem_cons_self (by simpa using hk)
      rw [show cells.lookup n = some d from hd, List.lookup_cons] at h
      split at h
      · rename_i e
        rw [eq_of_beq e, show cells.lookup n = some d from hd]; exact h
      · exact ha x c h
    · exact ha x c h
theorem clos_has {cells : List (Str × Addr)} : ∀ {names : List (Str × NameKind)} {acc : List (Str × Addr)} {x : Str}, ((x, NameKind.free) ∈ names ∨ ∃ c, acc.lookup x = some c) → ∃ c, (clos cells names acc).lookup x = some c
  | [], acc, x, h => by
    rcases h with h | h
    · cases h
    · exact h
  | (n, k) :: r, acc, x, h => by
    refine clos_has (names := r) ?_
    rcases h with h | ⟨c, h⟩
    · rcases List.mem_cons.mp h with h | h
      · injection h with h1 h2
        subst h1; subst h2
        exact .inr ⟨(cells.lookup x).getD 0, by simp [List.lookup_cons]⟩
      · exact .inl h
    · right
      split
      · rw [List.lookup_cons]
        split
        · exact ⟨_, rfl⟩
        · exact ⟨c, h⟩
      · exact ⟨c, h⟩
theorem mem_of_lookup {α : Type} {x : Str} {a : α} : ∀ {l : List (Str × α)}, l.lookup x = some a → (x, a) ∈ l
  | [], h => by simp at h
  | (n, k) :: r, h => by
    rw [List.lookup_cons] at h
    split at h
    · rename_i e
      injection h with h
      rw [eq_of_beq e, h]; exact List.mem_cons_self
    · exact List.mem_cons_of_mem _ (mem_of_lookup h)
/-- the names of a comprehension's block, by kinds -/
theorem lookup_relabel {env : Env} {x : Str} : ∀ (names : List (Str × NameKind)),
    (names.map fun (n, k) => if (k == NameKind.free && env.scope.kind == .function && env.kindOf n == some .cell) then (n, NameKind.cell) else (n, k)).lookup x =
      (names.lookup x).map fun k => if (k == NameKind.free && env.scope.kind == .function && env.kindOf x == some .cell) then NameKind.cell else k
  | [] => rfl
  | (n, k) :: r => by
    have ih := lookup_relabel (env := env) (x := x) r
    simp only [List.map_cons]
    by_cases e : x = n
    · subst e
      split <;> rename_i hc
      · simp only [List.lookup_cons, beq_self_eq_true, Option.map_some, hc, if_true]
      · simp only [List.lookup_cons, beq_self_eq_true, Option.map_some]
        rw [if_neg hc]
    · have e' : (x == n) = false := by simpa using e
      split <;> simp only [List.lookup_cons, e'] <;> exact ih
end L2
namespace L2
open PySem PySem.Spec PyProof.Rows
theorem anelt {a b n : Nat} (h1 : a < n) (h2 : n ≤ b) : a ≠ b := by omega
/-! ### comprehensions -/
/-- the block's own context: its names are N, its namespace stands at C, its iterator's records at ex -/
def Cx.comp (X : Cx) (scope : Scope) (N : List Str) (C : Addr) (s₀ : Shared) (H₀ : Hp) (ex : List Addr) : Cx :=
  { X with N := N, s₀ := s₀, H₀ := H₀, env := compEnvC scope (clos X.env.cells scope.names []) C X.env, outer := X.stack, stack := X.stack, ex := ex, fn := fun _ => false, pn := [] }
/-- the block's names at its entry: k of its own, then those of the def at the slots cap -/
def st0 (k : Nat) (cap : List Nat) (σ : St) : St := List.replicate k none ++ cap.map fun j => (σ[j]?).getD none
def compOk (XN : List Str) (fs sc : Scope) (N : List Str) (k : Nat) (cap : List Nat) : Bool :=
  decide (sc.kind = .function) && sc.names.all (fun y => decide (y.2 ≠ .cell)) && sc.names.all (fun y => decide (y.2 ≠ .local) || decide (sc.names.lookup y.1 = some .local)) &&
  sc.names.all (fun y => decide (y.2 ≠ .free) || decide (fs.names.lookup y.1 = some .cell)) && decide (N.length = k + cap.length) &&
  (cap.zip (N.drop k)).all (fun p => decide (XN[p.1]? = some p.2) && decide (sc.names.lookup p.2 = some .free))
structure CompOk (XN : List Str) (fs sc : Scope) (N : List Str) (k : Nat) (cap : List Nat) : Prop where
  kind : sc.kind = .function
  nocell : ∀ y ∈ sc.names, y.2 ≠ .cell
  locs : ∀ y ∈ sc.names, y.2 = .local → sc.names.lookup y.1 = some .local
  frees : ∀ y ∈ sc.names, y.2 = .free → fs.names.lookup y.1 = some .cell
  len : N.length = k + cap.length
  caps : ∀ p ∈ cap.zip (N.drop k), XN[p.1]? = some p.2 ∧ sc.names.lookup p.2 = some .free
theorem CompOk.of {XN : List Str} {fs sc : Scope} {N : List Str} {k : Nat} {cap : List Nat} (h : compOk XN fs sc N k cap = true) : CompOk XN fs sc N k cap := by
  unfold compOk at h
  simp only [Bool.and_eq_true, List.all_eq_true, decide_eq_true_eq, Bool.or_eq_true] at h
  obtain ⟨⟨⟨⟨⟨h1, h2⟩, h3⟩, h4⟩, h5⟩, h6⟩ := h
  exact ⟨h1, h2, fun y hy e => (h3 y hy).resolve_left fun z => z e, fun y hy e => (h4 y hy).resolve_left fun z => z e, h5, h6⟩
section
variable {X : Cx} {pins : List (Addr × Obj)} {σ : St} {H : Hp} {s : Shared} {scope : Scope} {N : List Str} {k : Nat} {cap : List Nat} {fp : List Addr}
theorem Cx.comp_kind {x : Str} {C : Addr} {s₀ : Shared} {H₀ : Hp} {ex : List Addr} (hk : X.env.scope.kind = .function) :
    (X.comp scope N C s₀ H₀ ex).env.kindOf x = (scope.names.lookup x).map fun k => if (k == NameKind.free && X.env.kindOf x == some .cell) then NameKind.cell else k := by
  show (relabel scope X.env).names.lookup x = _
  unfold relabel
  rw [lookup_relabel]
  congr 1
  funext k
  rw [hk]; simp
theorem Inv.freeCells (I : Inv X pins σ H s) (c : CompOk X.N X.env.scope scope N k cap) : ∀ y ∈ scope.names, y.2 = .free → ∃ d, X.env.cells.lookup y.1 = some d :=
  fun y hy e => I.ok.has y.1 (.inl (c.frees y hy e))
/-- the block begins -/
theorem Inv.block (I : Inv X pins σ H s) (c : CompOk X.N X.env.scope scope N k cap) (hf : ∀ b ∈ fp, FpOk X pins H b) (ho : ∀ b ∈ fp, ∃ o, s.heap.get? b = some o) {D C : Addr} {s1 : Shared}
    (hD : s.heap.objs.size ≤ D) (hC : s.heap.objs.size ≤ C) (hDC : D ≠ C) (hos : s1.os = s.os) (hg : s1.gens = s.gens) (keep : ∀ b o, s.heap.get? b = some o → s1.heap.get? b = some o)
    (hl : s1.heap.get? D = some { cls := .type "list", data := .seq #[] }) (hn : s1.heap.Ns C fun _ => none) :
    Inv (X.comp scope N C s H fp) [] (st0 k cap σ) (upd H D (.lst [])) s1 := by
  have hfc := I.freeCells c
  have lt : ∀ b ∈ fp, b < s.heap.objs.size := fun b hb => let ⟨o, e⟩ := ho b hb; Heap.lt_size e
  have clt : ∀ x d, X.env.cells.lookup x = some d → d < s.heap.objs.size := fun x d e => let ⟨v, o, q, _⟩ := I.cell x d e; Heap.lt_size q
  have sub := clos_sub (cells := X.env.cells) (names := scope.names) (acc := []) hfc (fun x c h => by simp at h)
  have fresh : ∀ a, s.heap.objs.size ≤ a → H a = none := fun a h => I.hok.fresh h
  have kindf : ∀ x, ((X.comp scope N C s H fp).env.kindOf x = some .cell ∨ (X.comp scope N C s H fp).env.kindOf x = some .free) → (x, NameKind.free) ∈ scope.names := fun x h => by
    rw [Cx.comp_kind I.ok.kind] at h
    cases e : scope.names.lookup x with
    | none => rw [e] at h; simp at h
    | some kd =>
      have m := mem_of_lookup e
      rw [e] at h
      cases kd with
      | free => exact m
      | cell => exact absurd rfl (c.nocell _ m)
      | «local» => simp at h
      | globalExplicit => simp at h
      | globalImplicit => simp at h
  have ok : (X.comp scope N C s H fp).Ok :=
    { mod := I.ok.mod
      kind := c.kind
      glob := I.ok.glob
      blt := I.ok.blt
      above := hC
      inj := fun x y d hx hy => I.ok.inj x y d (sub x d hx) (sub y d hy)
      has := fun x h => clos_has (.inl (kindf x h))
      cab := fun x d h => by cases h
      hd := I.ok.hd
      frames := I.ok.frames
      stk := .inl rfl
      exf := fun b hb => ⟨fun z => anelt (lt b hb) hC z, fun x d hx => (hf b hb).2.2.2.2.1 x d (sub x d hx)⟩
      bs := I.bs
      bsz := Nat.le_trans I.ok.bsz I.sz
      noex := fun b o e hb => by
        rcases (hf b hb).2.2.2.1 with h | h
        · exact I.ok.noex b o e h
        · exact absurd (Heap.lt_size (I.ok.bs b o e).1) (Nat.not_lt.mpr h)
      exfs := fun b hb hm => by
        rcases List.mem_cons.mp (I.stkSub b hm) with h | h
        · exact (hf b hb).2.1 h
        · exact (hf b hb).2.2.1 h
      funs := I.stack
      frf := I.stkFree }
  have nD : H D = none := fresh D hD
  refine
    { ok := ok
      os := hos
      bare := by rw [hg]; exact I.bare
      base := Un.laid keep hD nD
      loc := ⟨_, hn, ?_⟩
      cell := fun x d h => let ⟨v, q⟩ := I.cell x d (sub x d h); ⟨v, q.keeps keep⟩
      free := by
        show upd H D _ C = none
        rw [upd_ne (Ne.symm hDC)]; exact fresh C hC
      freeC := fun x d h => by
        have h' := sub x d h
        rw [upd_ne (anelt (clt x d h') hD)]; exact I.freeC x d h'
      pin := fun p hp => by cases hp
      hok := I.hok.laid keep hD ⟨Nat.zero_le _, [], 0, .nil, hl⟩
      len := by
        show (st0 k cap σ).length = N.length
        unfold st0; rw [List.length_append, List.length_replicate, List.length_map, c.len] }
  intro i x v hi hv _
  have hi : N[i]? = some x := hi
  unfold st0 at hv
  by_cases hik : i < k
  · rw [List.getElem?_append_left (by rw [List.length_replicate]; exact hik), List.getElem?_replicate, if_pos hik] at hv
    cases hv
  · rw [List.getElem?_append_right (by rw [List.length_replicate]; omega), List.length_replicate, List.getElem?_map] at hv
    cases ej : cap[i - k]? with
    | none => rw [ej] at hv; cases hv
    | some j =>
      rw [ej] at hv
      have hv : (σ[j]?).getD none = some v := Option.some.inj hv
      have hσ : σ[j]? = some (some v) := by
        cases e : σ[j]? with
        | none => rw [e] at hv; cases hv
        | some z => rw [e] at hv; exact congrArg some hv
      have hm : (j, x) ∈ cap.zip (N.drop k) := by
        refine List.mem_iff_getElem?.mpr ⟨i - k, ?_⟩
        rw [List.getElem?_zip_eq_some]
        refine ⟨ej, ?_⟩
        rw [List.getElem?_drop, show k + (i - k) = i by omega]; exact hi
      obtain ⟨hX, hfree⟩ := c.caps _ hm
      have mf := mem_of_lookup hfree
      have hcell := c.frees _ mf rfl
      obtain ⟨m, _, q⟩ := I.loc
      obtain ⟨u, ru, lk⟩ := q j x v hX hσ (.inr (.inl hcell))
      refine ⟨u, ru, .inr ⟨.inl ?_, ?_⟩⟩
      · rw [Cx.comp_kind I.ok.kind, hfree]
        have : (X.env.kindOf x == some NameKind.cell) = true := by
          show (X.env.scope.names.lookup x == some NameKind.cell) = true
          rw [hcell]; rfl
        simp [this]
      · rcases lk with ⟨hloc, _⟩ | ⟨_, d, hd, hcv⟩
        · have hloc : X.env.scope.names.lookup x = some .local := hloc
          rw [hcell] at hloc; cases hloc
        · obtain ⟨d', hd'⟩ := clos_has (cells := X.env.cells) (acc := []) (.inl mf : (x, NameKind.free) ∈ scope.names ∨ _)
          have := sub x d' hd'
          rw [hd] at this; cases this
          exact ⟨d, hd', hcv.keeps keep⟩
/-- the block has ended -/
theorem Inv.unblock {H' : Hp} {σ' : St} {s1 : Shared} {C : Addr} {ps : List (Addr × Obj)} (I : Inv X pins σ H s) (hf : ∀ b ∈ fp, FpOk X pins H b) (J : Inv (X.comp scope N C s H fp) ps σ' H' s1) : Inv X pins σ H' s1 :=
  I.call' (ch := fp) J.os J.base J.hok J.bare fun b hb => ⟨(hf b hb).2.2.2.1, (hf b hb).2.1, (hf b hb).2.2.2.2.1, (hf b hb).2.2.2.2.2⟩
end
/-- [elt for tg in iter if ..]: D the new list, W what holds between two turns (turn, measure, names, heap, items so far) -/
def tComp (k : Nat) (cap : List Nat) (wi : TI) (g : TG) (tt : TT) (te : TE) : TE := fun σ H Q => wi σ H fun J H1 => ∀ D, H1 D = none → ∃ W : Nat → Nat → St → Hp → List V → Prop,
  (∃ m, W 0 m (st0 k cap σ) (upd H1 D (.lst [])) []) ∧ ∀ i m σ' H' ys, W i m σ' H' ys → (J.stop i H' ∧ Q (.ref D) H') ∨
    (J.go i H' ∧ ∃ N : St → Hp → List V → Prop, (∀ σ' H' ys', N σ' H' ys' → ∃ m', m' < m ∧ W (i + 1) m' σ' H' ys') ∧ ∀ x H2, J.yld i H' x H2 → g x σ' H2 fun σ3 H3 => tt σ3 H3 fun b H4 => if b = true then
      te σ3 H4 fun y H5 => H5 D = some (.lst ys) ∧ ys.length < sizeLine ∧ N σ3 (upd H5 D (.lst (ys ++ [y]))) (ys ++ [y])
      else N σ3 H4 ys)
/-- no test -/
def tYes : TT := fun _ H Q => Q true H
def PTs (X : Cx) (ifs : List Expr) (t : TT) : Prop :=
  ∀ (pins : List (Addr × Obj)) (s : Shared) (σ : St) (H : Hp) (Q : Bool → Hp → Prop), Inv X pins σ H s → t σ H Q →
    wpAny (model X.prog X.w) X.A (forIn ifs true fun c r => if r = true then do let ok ← isTrue c X.env (eval c X.env); pure (ForInStep.yield ok) else pure (ForInStep.yield r)) (TP X pins σ Q) X.xe s
theorem pts_nil {X : Cx} : PTs X [] tYes := fun _ _ _ H _ I h => wpAny_tests_nil ⟨H, I, h⟩
theorem pts_one {X : Cx} {c : Expr} {t : TT} (h : PT X c t) : PTs X [c] t := fun pins s σ H Q I hw => wpAny_tests_one (h pins s σ H Q I hw)
section
variable {prog : Program} {w : World} {A : Around} {R : Result → Shared → Prop} {s : Shared}
theorem codeAny_compLoop_go {elt target iter : Expr} {ifs : List Expr} {scope : Scope} {pos : Pos} {it acc : Value} {env : Env} (I : Nat → Shared → Prop)
    (turn : ∀ n s, I n s → wpAny (model prog w) A (pyNext it) (fun r s₁ => match r with
      | none => R (.ok .next) s₁
      | some v => wpAny (model prog w) A (letOwnedTupleGo target it v) (fun _ s₀ => wpAny (model prog w) A (assign target env v) (fun _ s₂ =>
          wpAny (model prog w) A (forIn ifs true fun c r => if r = true then do let ok ← isTrue c env (eval c env); pure (ForInStep.yield ok) else pure (ForInStep.yield r)) (fun ok s₃ =>
            if ok = true then wpAny (model prog w) A (eval elt env) (fun x s₄ =>
              wpAny (model prog w) A (call (.builtin "list.append") [acc, x]) (fun _ s₅ => ∃ m, m < n ∧ I m s₅) (notedBy (model prog w) A env fun e s' => R (.error e) s') s₄) (notedBy (model prog w) A env fun e s' => R (.error e) s') s₃
            else ∃ m, m < n ∧ I m s₃) (notedBy (model prog w) A env fun e s' => R (.error e) s') s₂) (notedBy (model prog w) A env fun e s' => R (.error e) s') s₀) (notedBy (model prog w) A env fun e s' => R (.error e) s') s₁) (notedBy (model prog w) A env fun e s' => R (.error e) s') s)
    (n : Nat) (h : I n s) :
    codeAny (model prog w) A (.compLoop (.ListComp elt [⟨target, iter, ifs, 0⟩] scope pos) 0 it acc env) R s := by
  refine codeAny_loop rfl I (fun n s hI => ?_) n h
  show wpAny _ A ((compTurn (.ListComp elt [⟨target, iter, ifs, 0⟩] scope pos) 0 it acc env).onRaise (fun x => do noteFrame x env; theTreesLotGoes x)) _ _ s
  refine wpAny_noted ?_
  rw [compTurn_list]
  refine wpAny_bind (wpAny_standAt (wpAny_bind (wpAny_mono (turn n s hI) (fun r s₁ h₁ => ?_) fun _ _ h' => h')))
  cases r with
  | none => exact wpAny_pure h₁
  | some v =>
    refine wpAny_bind (wpAny_mono h₁ (fun _ s₀ h₀ => ?_) fun _ _ h' => h')
    refine wpAny_bind (wpAny_mono h₀ (fun _ s₂ h₂ => wpAny_bind (wpAny_mono h₂ (fun ok s₃ h₃ => ?_) fun _ _ h' => h')) fun _ _ h' => h')
    cases ok with
    | false => exact wpAny_pure ⟨rfl, h₃⟩
    | true =>
      exact wpAny_bind (wpAny_bind (wpAny_mono h₃ (fun x s₄ h₄ => wpAny_bind (wpAny_mono h₄ (fun _ s₅ h₅ => wpAny_pure (wpAny_pure ⟨rfl, h₅⟩)) fun _ _ h' => h')) fun _ _ h' => h'))
end
section
variable {X : Cx} {scope : Scope} {N : List Str} {k : Nat} {cap : List Nat} {tg iter elt : Expr} {ifs : List Expr} {wi : TI} {g : TG} {tt : TT} {te : TE} {pos : Pos}
/-- the loop of the block -/
theorem comp_loop {E : Value → Shared → Prop} {use : Option (Value → Sem Unit)} {QQ : Value → Shared → Prop} {pins : List (Addr × Obj)} {s : Shared} {σ : St} {H : Hp} {it : Addr} {fp : List Addr} {tn : Nat → Heap → Prop} {J : It} {Q : VK}
    (hc : X.calm = true) (c : CompOk X.N X.env.scope scope N k cap)
    (hg : ∀ C s₀ H₀ ex, PG (X.comp scope N C s₀ H₀ ex).nox tg g) (ht : ∀ C s₀ H₀ ex, PTs (X.comp scope N C s₀ H₀ ex).nox ifs tt) (he : ∀ C s₀ H₀ ex, PE (X.comp scope N C s₀ H₀ ex).nox elt te)
    (I : Inv X pins σ H s) (T : Turn X.prog X.w X.K tg J fp it tn) (st : tn 0 s.heap) (hf : ∀ b ∈ fp, FpOk X pins H b)
    (h : ∀ D, H D = none → ∃ W : Nat → Nat → St → Hp → List V → Prop, (∃ m, W 0 m (st0 k cap σ) (upd H D (.lst [])) []) ∧ ∀ i m σ' H' ys, W i m σ' H' ys → (J.stop i H' ∧ Q (.ref D) H') ∨
      (J.go i H' ∧ ∃ N : St → Hp → List V → Prop, (∀ σ' H' ys', N σ' H' ys' → ∃ m', m' < m ∧ W (i + 1) m' σ' H' ys') ∧ ∀ x H2, J.yld i H' x H2 → g x σ' H2 fun σ3 H3 => tt σ3 H3 fun b H4 => if b = true then
        te σ3 H4 fun y H5 => H5 D = some (.lst ys) ∧ ys.length < sizeLine ∧ N σ3 (upd H5 D (.lst (ys ++ [y]))) (ys ++ [y])
        else N σ3 H4 ys))
    (hQ : ∀ D C s1 H', Inv X pins σ H' s1 → Q (.ref D) H' → (∃ m, s1.heap.Ns C m) → H' C = none → X.s₀.heap.objs.size ≤ C → C ≠ X.env.locals → (∀ x c, X.env.cells.lookup x = some c → c ≠ C) → (∀ p ∈ X.pn ++ pins, p.1 ≠ C) →
      compPost (model X.prog X.w) X.A E use QQ (.ref D) C (.ok .next) s1) :
    wpAny (model X.prog X.w) X.A (newList []) (fun acc s₃ => wpAny (model X.prog X.w) X.A (newFunctionEnv scope X.env.globals (clos X.env.cells scope.names []) [] X.env.qual none .none (some X.env)) (fun cenv s₄ =>
      codeAny (model X.prog X.w) X.A (.compStart (.ListComp elt [⟨tg, iter, ifs, 0⟩] scope pos) 0 (.ref it) acc { cenv with scope := relabel scope X.env }) (compPost (model X.prog X.w) X.A E use QQ acc cenv.locals) s₄) E s₃) E s := by
  refine wpAny_newObj_type (wpAny_newFunctionEnv c.nocell (by intro y hy; simp at hy) (fun h₁ hns₁ hsb₁ => ?_) c.kind)
  dsimp only at hns₁ hsb₁ ⊢
  generalize hH2 : s.heap.push { cls := .type "list", dict := none, data := .seq ([] : List Value).toArray } = H2 at hns₁ hsb₁ ⊢
  have hC : H2.objs.size = s.heap.objs.size + 1 := by rw [← hH2, Heap.size_push]
  have hDC : s.heap.objs.size ≠ H2.objs.size := by rw [hC]; exact Nat.ne_of_lt (Nat.lt_succ_self _)
  have hle : s.heap.objs.size ≤ H2.objs.size := by rw [hC]; exact Nat.le_succ _
  have keep : ∀ b o, s.heap.get? b = some o → h₁.get? b = some o := fun b o e => by
    exact hsb₁.extBut b o (anelt (Heap.lt_size e) hle) (Heap.get?_push_of_some _ (hH2 ▸ Heap.get?_push_of_some _ e))
  have hl : h₁.get? s.heap.objs.size = some { cls := .type "list", data := .seq #[] } := hsb₁.extBut _ _ hDC (Heap.get?_push_of_some _ (hH2 ▸ Heap.get?_push_size _ rfl))
  have nD : H s.heap.objs.size = none := I.hok.fresh (Nat.le_refl _)
  obtain ⟨W, ⟨m0, w0⟩, turn⟩ := h _ nD
  have ho : ∀ b ∈ fp, ∃ o, s.heap.get? b = some o := fun b hb => let ⟨o, e, _⟩ := T.obj _ _ st b hb; ⟨o, e⟩
  have hCs : X.s₀.heap.objs.size ≤ H2.objs.size := Nat.le_trans I.sz hle
  have hCl : H2.objs.size ≠ X.env.locals := (anelt I.lt hle).symm
  have hCc : ∀ x d, X.env.cells.lookup x = some d → d ≠ H2.objs.size := fun x d e => by
    obtain ⟨v, o, q, _⟩ := I.cell x d e
    exact anelt (Heap.lt_size q) hle
  have hCp : ∀ p ∈ X.pn ++ pins, p.1 ≠ H2.objs.size := fun p hp => by
    exact anelt (Heap.lt_size (I.pin p hp).1) hle
  have loop : ∀ s₃ : Shared, s₃ = { s with heap := h₁, toks := s.toks + ([] : List (Str × Value)).length } →
      codeAny (model X.prog X.w) X.A (.compLoop (.ListComp elt [⟨tg, iter, ifs, 0⟩] scope pos) 0 (.ref it) (.ref s.heap.objs.size) (compEnvC scope (clos X.env.cells scope.names []) H2.objs.size X.env))
        (compPost (model X.prog X.w) X.A E use QQ (.ref s.heap.objs.size) H2.objs.size) s₃ := by
    rintro s₃ rfl
    have I0 : Inv (X.comp scope N H2.objs.size s H fp) [] (st0 k cap σ) (upd H s.heap.objs.size (.lst [])) { s with heap := h₁, toks := s.toks + ([] : List (Str × Value)).length } :=
      I.block c hf ho (Nat.le_refl _) hle hDC rfl rfl keep hl (by simpa using hns₁)
    have stat : ∀ {H' : Hp} {ps : List (Addr × Obj)}, (∀ b ∈ fp, H' b = none) → ps = [] → ∀ b ∈ fp, FpOk (X.comp scope N H2.objs.size s H fp).nox ps H' b := fun hn hp b hb => by
      subst hp
      exact ⟨hn b hb, (I0.ok.exf b hb).1, I0.ok.exfs b hb, .inl hb, (I0.ok.exf b hb).2, fun p hp => by cases hp⟩
    have nok : ∀ b ∈ fp, upd H s.heap.objs.size (.lst []) b = none := fun b hb => by
      obtain ⟨o, e⟩ := ho b hb
      rw [upd_ne (anelt (Heap.lt_size e) (Nat.le_refl _))]; exact (hf b hb).1
    refine codeAny_compLoop_go (fun n s' => ∃ i σ' H' ys, Inv (X.comp scope N H2.objs.size s H fp).nox [] σ' H' s' ∧ tn i s'.heap ∧ (∀ b ∈ fp, H' b = none) ∧ W i n σ' H' ys) ?_ m0
      ⟨0, _, _, [], I0.wish _, T.keep _ _ _ st fun b _ o e => keep b o e, nok, w0⟩
    rintro n s' ⟨i, σ', H', ys, I', st', fr', w'⟩
    rcases turn i n σ' H' ys w' with ⟨stop, q⟩ | ⟨go, NN, hNN, step⟩
    · refine wpAny_mono (T.done (X.comp scope N H2.objs.size s H fp).nox rfl rfl rfl hc i [] s' σ' H' (fun _ _ => False) I' (stat fr' rfl) st' stop) (fun r s4 ⟨hr, I4⟩ => ?_) (fun _ _ x => x.elim)
      subst hr
      exact hQ _ _ s4 H' (I.unblock hf I4.unwish) q (let ⟨m, hn, _⟩ := I4.loc; ⟨m, hn⟩) I4.free hCs hCl hCc hCp
    · refine wpAny_mono (T.item (X.comp scope N H2.objs.size s H fp).nox rfl rfl rfl hc i [] s' σ' H' (fun _ _ => False) I' (stat fr' rfl) st' go) (fun r s4 ⟨u, hr, h4⟩ => ?_) (fun _ _ x => x.elim)
      subst hr
      refine wpAny_mono h4 (fun _ s5 ⟨x, H5, I5, r5, y5, st5, fr5⟩ => ?_) (fun _ _ x => x.elim)
      have I5' := I5.pinned (stat fr5 rfl) (T.obj _ _ st5)
      refine wpAny_mono (hg _ _ _ _ _ s5 σ' H5 x u _ I5' r5 (step x H5 y5)) (fun _ s6 ⟨σ6, H6, I6, q6⟩ => ?_) (fun _ _ x => x.elim)
      refine wpAny_mono (ht _ _ _ _ _ s6 σ6 H6 _ I6 q6) (fun ok s7 ⟨H7, I7, q7⟩ => ?_) (fun _ _ x => x.elim)
      have again : ∀ {H8 : Hp} {s8 : Shared} {ys8 : List V}, Inv (X.comp scope N H2.objs.size s H fp).nox ([] ++ pinsAt fp s5.heap) σ6 H8 s8 → NN σ6 H8 ys8 →
          ∃ m, m < n ∧ ∃ i σ' H' ys, Inv (X.comp scope N H2.objs.size s H fp).nox [] σ' H' s8 ∧ tn i s8.heap ∧ (∀ b ∈ fp, H' b = none) ∧ W i m σ' H' ys := fun {H8 s8 ys8} I8 n8 => by
        obtain ⟨m', hm, w8⟩ := hNN _ _ _ n8
        refine ⟨m', hm, i + 1, σ6, H8, ys8, I8.unpinned, T.keep _ _ _ st5 fun b hb o e => (I8.pin (b, o) (List.mem_append_right _ (List.mem_append_right _ (mem_pinsAt hb e)))).1, fun b hb => ?_, w8⟩
        obtain ⟨o, e, d⟩ := T.obj _ _ st5 b hb
        exact (I8.pin (b, o) (List.mem_append_right _ (List.mem_append_right _ (mem_pinsAt hb e)))).2.1
      cases ok with
      | false => exact again I7 q7
      | true =>
        refine wpAny_mono (he _ _ _ _ _ s7 σ6 H7 _ I7 q7) (fun y s8 ⟨v, H8, I8, rv, hD, hlen, w8⟩ => ?_) (fun _ _ x => x.elim)
        refine wpAny_mono (mt_append (X := (X.comp scope N H2.objs.size s H fp).nox) _ s8 σ6 H8 (.ref s.heap.objs.size) [v] (.ref s.heap.objs.size) [y] (fun _ H9 => H9 = upd H8 s.heap.objs.size (.lst (ys ++ [v]))) I8 rfl (.cons rv .nil) ⟨_, ys, v, rfl, rfl, hD, hlen, rfl⟩) (fun _ s9 ⟨_, H9, I9, _, e9⟩ => ?_) (fun _ _ x => x.elim)
        subst e9
        exact again I9 w8
  exact codeAny_compStart_list (loop _ rfl) (T.self _ 0 _ _ _ (T.keep _ _ _ st fun b _ o e => keep b o e) (loop _ rfl))
theorem pe_comp (hc : X.calm = true) (hco : compOk X.N X.env.scope scope N k cap = true) (hi : PI X tg iter wi)
    (hg : ∀ C s₀ H₀ ex, PG (X.comp scope N C s₀ H₀ ex).nox tg g) (ht : ∀ C s₀ H₀ ex, PTs (X.comp scope N C s₀ H₀ ex).nox ifs tt) (he : ∀ C s₀ H₀ ex, PE (X.comp scope N C s₀ H₀ ex).nox elt te)
    (hs : ∀ x, foldedSetIterable iter X.env x = pure x := by intro _; rfl) : PE X (.ListComp elt [⟨tg, iter, ifs, 0⟩] scope pos) (tComp k cap wi g tt te) := by
  intro pins s σ H Q I h
  have c := CompOk.of hco
  rw [eval_ListComp]
  refine wpAny_comprehension_free (use := none) (cl := clos X.env.cells scope.names []) rfl hs (closureFor_eq (I.freeCells c)) c.kind c.locs (thn (hi pins s σ H _ I h) fun xv s₁ h₁ => thn h₁ fun itv s₂ h₂ => ?_)
  obtain ⟨it, fp, tn, J, H2, e, I2, T, st, hf, q⟩ := h₂
  subst e
  exact comp_loop (use := none) hc c hg ht he I2 T st hf q fun D C s1 H' I1 q1 ⟨m, hn⟩ hCn hCs hCl hCc hCp =>
    ⟨m, hn, fun h' hs' => ⟨.ref D, H', I1.turned (t' := s1.toks) (fun b o hb e => hs'.extBut b o hb e) hCn hCl (.inr hCs) hCc hCp, rfl, q1⟩⟩
/-- x = [..] -/
theorem ps_setComp {i : Nat} {x : Str} {pos' spos : Pos} (hN : X.N.Nodup) (hi' : X.N[i]? = some x) (hx : Loc X.env.scope x) (hc : X.calm = true) (hco : compOk X.N X.env.scope scope N k cap = true) (hi : PI X tg iter wi)
    (hg : ∀ C s₀ H₀ ex, PG (X.comp scope N C s₀ H₀ ex).nox tg g) (ht : ∀ C s₀ H₀ ex, PTs (X.comp scope N C s₀ H₀ ex).nox ifs tt) (he : ∀ C s₀ H₀ ex, PE (X.comp scope N C s₀ H₀ ex).nox elt te)
    (hsw : swapsWith (.ListComp elt [⟨tg, iter, ifs, 0⟩] scope pos) (some (.Name x pos')) spos.line X.env = pure true := by rfl)
    (hs : ∀ x, foldedSetIterable iter X.env x = pure x := by intro _; rfl) (hf' : X.fn x = true ∨ X.env.scope.names.lookup x = some .local := by first | exact .inl rfl | exact .inr rfl | assumption) :
    PS X (.Assign [.Name x pos'] (.ListComp elt [⟨tg, iter, ifs, 0⟩] scope pos) spos) (tAsg (tComp k cap wi g tt te) (gName i)) := by
  intro pins s σ H D I h
  have c := CompOk.of hco
  rw [exec_Assign_Name_used _ _ _ _ hsw]
  refine wpAny_bind (wpAny_standAt (wpAny_bind ?_))
  show wpAny _ X.A (do let _ ← comprehension (.ListComp elt [⟨tg, iter, ifs, 0⟩] scope pos) scope X.env _ (newList []) false (eval iter X.env) (some (assign (.Name x pos') X.env))) _ _ s
  refine wpAny_bind (wpAny_mono (wpAny_comprehension_free (use := some (assign (.Name x pos') X.env)) (Q := fun _ s' => SP X pins D .next s') (cl := clos X.env.cells scope.names []) rfl hs (closureFor_eq (I.freeCells c)) c.kind c.locs
    (thn (hi pins s σ H _ I h) fun xv s₁ h₁ => thn h₁ fun itv s₂ h₂ => ?_)) (fun _ s' hq => wpAny_pure (wpAny_pure hq)) fun _ _ e => e)
  obtain ⟨it, fp, tn, J, H2, e, I2, T, st, hf, q⟩ := h₂
  subst e
  refine comp_loop (use := some (assign (.Name x pos') X.env)) (Q := fun v H1 => gName i v σ H1 D.nx) hc c hg ht he I2 T st hf q fun L C s1 H' I1 q1 ⟨m, hn⟩ hCn hCs hCl hCc hCp => ?_
  show wpAny _ X.A (assign (.Name x pos') X.env (.ref L)) _ _ s1
  refine wpAny_assign_Name (store_ok2 (v := .ref L) I1 hN hi' hx rfl (fun s2 I3 ⟨a, sb, ha⟩ => ⟨m, ?_, fun h' hs' => ?_⟩) hf')
  · refine hn.sameBut sb ?_
    rcases ha with z | z
    · rw [z]; exact hCl
    · exact (hCc _ _ z).symm
  · exact ⟨_, H', I3.turned (t' := s2.toks) (fun b o hb e => hs'.extBut b o hb e) hCn hCl (.inr hCs) hCc hCp, q1⟩
end
/-! ### the forms one uses -/
theorem comp_list {K : PySem.W.Frag} {a : Addr} (D : Addr) {xs : List V} {g : TG} {tt : TT} {te : TE} {σ : St} {H : Hp} {R : Hp → Prop} (Pv : Nat → St → Hp → List V → Prop) (h0 : Pv 0 σ H []) (hl : ∀ i σ H ys, i ≤ xs.length → Pv i σ H ys → SqL K H a xs)
    (hs : ∀ i x σ H ys, xs[i]? = some x → Pv i σ H ys → g x σ H fun σ3 H3 => tt σ3 H3 fun b H4 => if b = true then
      te σ3 H4 fun y H5 => H5 D = some (.lst ys) ∧ ys.length < sizeLine ∧ Pv (i + 1) σ3 (upd H5 D (.lst (ys ++ [y]))) (ys ++ [y]) else Pv (i + 1) σ3 H4 ys) (hd : ∀ σ H ys, Pv xs.length σ H ys → R H) :
    ∃ W : Nat → Nat → St → Hp → List V → Prop, (∃ m, W 0 m σ H []) ∧ ∀ i m σ' H' ys, W i m σ' H' ys → ((Itl K a).stop i H' ∧ R H') ∨
      ((Itl K a).go i H' ∧ ∃ N : St → Hp → List V → Prop, (∀ σ' H' ys', N σ' H' ys' → ∃ m', m' < m ∧ W (i + 1) m' σ' H' ys') ∧ ∀ x H2, (Itl K a).yld i H' x H2 → g x σ' H2 fun σ3 H3 => tt σ3 H3 fun b H4 => if b = true then
        te σ3 H4 fun y H5 => H5 D = some (.lst ys) ∧ ys.length < sizeLine ∧ N σ3 (upd H5 D (.lst (ys ++ [y]))) (ys ++ [y])
        else N σ3 H4 ys) := by
  refine ⟨fun i m σ H ys => m = xs.length - i ∧ i ≤ xs.length ∧ Pv i σ H ys, ⟨xs.length, by simp, Nat.zero_le _, h0⟩, ?_⟩
  rintro i m σ H ys ⟨rfl, hi, p⟩
  have q := hl i σ H ys hi p
  by_cases hlt : i < xs.length
  · refine .inr ⟨⟨xs, xs[i], q, by simp [hlt]⟩, Pv (i + 1), fun σ' H' ys' p' => ⟨xs.length - (i + 1), by omega, rfl, hlt, p'⟩, fun x H' y => ?_⟩
    obtain ⟨e, y⟩ := y
    subst e
    exact hs i x σ _ ys (y xs q) p
  · have e : i = xs.length := by omega
    subst e
    exact .inl ⟨⟨xs, q, Nat.le_refl _⟩, hd σ H ys p⟩
theorem comp_range {lo : Int} {n : Nat} (D : Addr) {g : TG} {tt : TT} {te : TE} {σ : St} {H : Hp} {R : Hp → Prop} (Pv : Nat → St → Hp → List V → Prop) (h0 : Pv 0 σ H [])
    (hs : ∀ i σ H ys, i < n → Pv i σ H ys → g (.int (lo + i)) σ H fun σ3 H3 => tt σ3 H3 fun b H4 => if b = true then
      te σ3 H4 fun y H5 => H5 D = some (.lst ys) ∧ ys.length < sizeLine ∧ Pv (i + 1) σ3 (upd H5 D (.lst (ys ++ [y]))) (ys ++ [y]) else Pv (i + 1) σ3 H4 ys) (hd : ∀ σ H ys, Pv n σ H ys → R H) :
    ∃ W : Nat → Nat → St → Hp → List V → Prop, (∃ m, W 0 m σ H []) ∧ ∀ i m σ' H' ys, W i m σ' H' ys → ((Itr lo n).stop i H' ∧ R H') ∨
      ((Itr lo n).go i H' ∧ ∃ N : St → Hp → List V → Prop, (∀ σ' H' ys', N σ' H' ys' → ∃ m', m' < m ∧ W (i + 1) m' σ' H' ys') ∧ ∀ x H2, (Itr lo n).yld i H' x H2 → g x σ' H2 fun σ3 H3 => tt σ3 H3 fun b H4 => if b = true then
        te σ3 H4 fun y H5 => H5 D = some (.lst ys) ∧ ys.length < sizeLine ∧ N σ3 (upd H5 D (.lst (ys ++ [y]))) (ys ++ [y])
        else N σ3 H4 ys) := by
  refine ⟨fun i m σ H ys => m = n - i ∧ i ≤ n ∧ Pv i σ H ys, ⟨n, by simp, Nat.zero_le _, h0⟩, ?_⟩
  rintro i m σ H ys ⟨rfl, hi, p⟩
  by_cases hlt : i < n
  · refine .inr ⟨hlt, Pv (i + 1), fun σ' H' ys' p' => ⟨n - (i + 1), by omega, rfl, hlt, p'⟩, fun x H' y => ?_⟩
    obtain ⟨e, y⟩ := y
    subst e y
    exact hs i σ _ ys hlt p
  · have e : i = n := by omega
    subst e
    exact .inl ⟨Nat.le_refl _, hd σ H ys p⟩
/-! ### rules whose reading names the written part: for a block's own context -/
section
variable {X : Cx} {K : PySem.W.Frag}
theorem pg_tupK {es : List Expr} {k : Nat} {t : TGs} {n : Nat} {pos : Pos} (hK : X.K = K) (hc : X.calm = true) (h : PGs X es t) (hn : (assignEach es X.env).length = n := by rfl) (hst : (assignEach es X.env).findIdx? (·.1) = none := by rfl) :
    PG X (.Tuple es k pos) (gTup K n t) := by subst hK; exact pg_tup hc h hn hst
theorem ix_listK (hK : X.K = K) : IxR X (rIxL K) := by subst hK; exact ix_list
theorem ix_tupK (hK : X.K = K) : IxR X (rIxT K) := by subst hK; exact ix_tup
end
end L2
namespace L2
open PySem PySem.Spec PyProof.Rows
/-! ### range(a, b, c) -/
def Itrs (lo c : Int) (n : Nat) : It := ⟨fun i _ => i < n, fun i H x H' => H' = H ∧ x = .int (lo + i * c), fun i _ => n ≤ i⟩
section
variable {X : Cx} {tg : Expr}
def iRng3 (ta : TA) : TI := fun σ H R => ta σ H fun vs H1 => ∃ (i j c : Int) (n : Nat), vs = [.int i, .int j, .int c] ∧ (0 < c ∧ c < 1073741824) ∧ Builtin.Range.small i j c = true ∧ Builtin.Range.rangeSize i j c = (n : Int) ∧ R (Itrs i c n) H1
end
theorem Same.new {H : Hp} {p : Addr} {o : HO} (h : H p = none) : Same H (upd H p o) := fun b u e => by rw [upd_ne (ne_of_none e h)]; exact e
theorem Same.upd {H H' : Hp} {p : Addr} {o : HO} (s : Same H H') (h : H p = none) : Same H (upd H' p o) := fun b u e => by rw [upd_ne (ne_of_none e h)]; exact s b u e
end L2
namespace L2
open PySem PySem.Spec PyProof.Rows PySem.SeqAt
/-! ### == and != of lists and tuples -/
def SeqEq (K : PySem.W.Frag) (H : Hp) (R : V → V → Bool → Prop) (x y : V) (b : Bool) : Prop :=
  ∃ (a c : Addr) (xs ys : List V) (e : Nat → Bool), x = .ref a ∧ y = .ref c ∧
    ((SqL K H a xs ∧ SqL K H c ys ∧ xs.length = ys.length ∧ (∀ (j : Nat) x' y', xs[j]? = some x' → ys[j]? = some y' → R x' y' (e j)) ∧ b = (List.range xs.length).all e) ∨
     (SqL K H a xs ∧ SqL K H c ys ∧ xs.length ≠ ys.length ∧ b = false) ∨
     (SqT K H a xs ∧ SqT K H c ys ∧ (∀ (j : Nat) x' y', xs[j]? = some x' → ys[j]? = some y' → R x' y' (e j)) ∧ b = ((List.range (min xs.length ys.length)).all e && xs.length == ys.length)))
/-- == within a list or tuple, to the depth n -/
def EqI (K : PySem.W.Frag) (H : Hp) : Nat → V → V → Bool → Prop
  | 0 => fun x y b => (flatV x = true ∧ flatV y = true ∧ b = eqV x y) ∨ ∃ a, x = .ref a ∧ y = .ref a ∧ b = true
  | n + 1 => fun x y b => EqI K H n x y b ∨ (x ≠ y ∧ SeqEq K H (EqI K H n) x y b)
section
variable {X : Cx} {pins : List (Addr × Obj)} {σ : St} {H : Hp} {s : Shared} {A : Around}
theorem items_at {xs ys : List V} {us vs : List Value} {R : V → V → Bool → Prop} {e : Nat → Bool} (r : Vals xs us) (q : Vals ys vs) (he : ∀ (j : Nat) x' y', xs[j]? = some x' → ys[j]? = some y' → R x' y' (e j))
    (hR : ∀ x y b u v, R x y b → RelV x u → RelV y v → EqAt A s u v b) : ∀ j (h1 : j < us.toArray.size) (h2 : j < vs.toArray.size), EqAt A s us.toArray[j] vs.toArray[j] (e j) := fun j h1 h2 => by
  have h1' : j < us.length := by simpa using h1
  have h2' : j < vs.length := by simpa using h2
  have l1 := r.length
  have l2 := q.length
  have ex : xs[j]? = some (xs[j]'(by omega)) := List.getElem?_eq_getElem (by omega)
  have ey : ys[j]? = some (ys[j]'(by omega)) := List.getElem?_eq_getElem (by omega)
  obtain ⟨u, eu, ru⟩ := Vals.get r ex
  obtain ⟨v, ev, rv⟩ := Vals.get q ey
  have e1 : us.toArray[j] = u := by
    have := (List.getElem?_eq_some_iff.mp eu).2
    simpa using this
  have e2 : vs.toArray[j] = v := by
    have := (List.getElem?_eq_some_iff.mp ev).2
    simpa using this
  rw [e1, e2]
  exact hR _ _ _ _ _ (he j _ _ ex ey) ru rv
theorem SeqEq.rc {R : V → V → Bool → Prop} {x y : V} {b : Bool} {u v : Value} (I : Inv X pins σ H s) (hR : ∀ x y b u v, R x y b → RelV x u → RelV y v → EqAt A.in1 s u v b) (hu : A.units < cLine)
    (h : SeqEq X.K H R x y b) (rx : RelV x u) (ry : RelV y v) : RcAt A s u v b := by
  obtain ⟨a, c, xs, ys, e, rfl, rfl, h⟩ := h
  cases rx
  cases ry
  rcases h with ⟨h1, h2, hl, he, rfl⟩ | ⟨h1, h2, hl, rfl⟩ | ⟨h1, h2, he, rfl⟩
  · obtain ⟨us, r, p, _⟩ := I.list h1
    obtain ⟨vs, q, p2, _⟩ := I.list h2
    have l1 := r.length
    have l2 := q.length
    have z := RcAt.lists (A := A) (e := e) p.isList p2.isList (by simp; omega) hu (items_at r q he hR)
    rw [show us.toArray.size = xs.length by simp; omega] at z
    exact z
  · obtain ⟨us, r, p, _⟩ := I.list h1
    obtain ⟨vs, q, p2, _⟩ := I.list h2
    have l1 := r.length
    have l2 := q.length
    exact RcAt.lists_lengths p.isList p2.isList (by simp; omega) hu
  · obtain ⟨us, r, p, _⟩ := I.tuple h1
    obtain ⟨vs, q, p2, _⟩ := I.tuple h2
    have l1 := r.length
    have l2 := q.length
    have z := RcAt.tuples (A := A) (e := e) (show s.heap.IsTuple a us.toArray from p) (show s.heap.IsTuple c vs.toArray from p2) hu (items_at r q he hR)
    rw [show us.toArray.size = xs.length by simp; omega, show vs.toArray.size = ys.length by simp; omega] at z
    exact z
theorem SeqEq.rcNe {R : V → V → Bool → Prop} {x y : V} {b : Bool} {u v : Value} (I : Inv X pins σ H s) (hR : ∀ x y b u v, R x y b → RelV x u → RelV y v → EqAt A.in1 s u v b) (hu : A.units < cLine)
    (h : SeqEq X.K H R x y b) (rx : RelV x u) (ry : RelV y v) : RcNeAt A s u v (!b) := by
  obtain ⟨a, c, xs, ys, e, rfl, rfl, h⟩ := h
  cases rx
  cases ry
  rcases h with ⟨h1, h2, hl, he, rfl⟩ | ⟨h1, h2, hl, rfl⟩ | ⟨h1, h2, he, rfl⟩
  · obtain ⟨us, r, p, _⟩ := I.list h1
    obtain ⟨vs, q, p2, _⟩ := I.list h2
    have l1 := r.length
    have l2 := q.length
    have z := RcNeAt.lists (A := A) (e := e) p.isList p2.isList (by simp; omega) hu (items_at r q he hR)
    rw [show us.toArray.size = xs.length by simp; omega] at z
    exact z
  · obtain ⟨us, r, p, _⟩ := I.list h1
    obtain ⟨vs, q, p2, _⟩ := I.list h2
    have l1 := r.length
    have l2 := q.length
    exact RcNeAt.lists_lengths p.isList p2.isList (by simp; omega) hu
  · obtain ⟨us, r, p, _⟩ := I.tuple h1
    obtain ⟨vs, q, p2, _⟩ := I.tuple h2
    have l1 := r.length
    have l2 := q.length
    have z := RcNeAt.tuples (A := A) (e := e) (show s.heap.IsTuple a us.toArray from p) (show s.heap.IsTuple c vs.toArray from p2) hu (items_at r q he hR)
    rw [show us.toArray.size = xs.length by simp; omega, show vs.toArray.size = ys.length by simp; omega] at z
    exact z
theorem EqI.at (I : Inv X pins σ H s) : ∀ (n : Nat) {A : Around} {x y : V} {b : Bool} {u v : Value}, A.units + n < cLine → EqI X.K H n x y b → RelV x u → RelV y v → EqAt A s u v b
  | 0, A, x, y, b, u, v, hu, h, rx, ry => by
    rcases h with ⟨fx, fy, rfl⟩ | ⟨a, rfl, rfl, rfl⟩
    · exact eqAt_V rx ry fx fy
    · cases rx
      cases ry
      exact EqAt.same _
  | n + 1, A, x, y, b, u, v, hu, h, rx, ry => by
    rcases h with h | ⟨hne, h⟩
    · exact EqI.at I n (by omega) h rx ry
    · have z := SeqEq.rc (A := A) I (fun x y b u v h rx ry => EqI.at I n (A := A.in1) (by show A.units + 1 + n < cLine; omega) h rx ry) (by omega) h rx ry
      obtain ⟨a, c, xs, ys, e, rfl, rfl, _⟩ := h
      cases rx
      cases ry
      exact EqAt.of_refs (fun e => hne (by rw [e])) z
/-- == of two lists or tuples -/
def rEqR (K : PySem.W.Frag) : R2 := fun x y H Q => ∃ (n : Nat) (b : Bool), n ≤ 8 ∧ SeqEq K H (EqI K H n) x y b ∧ Q (.bl b) H
def rNeR (K : PySem.W.Frag) : R2 := fun x y H Q => ∃ (n : Nat) (b : Bool), n ≤ 8 ∧ SeqEq K H (EqI K H n) x y b ∧ Q (.bl (!b)) H
theorem op_eq_ref (hu : X.A.units + 64 < cLine) : OpR X (compareOp .Eq) (rEqR X.K) := by
  rintro pins s σ H x y v u Q I rx ry ⟨n, b, hn, h, q⟩
  exact SeqEq.rc (A := X.A) I (fun x y b u v h rx ry => EqI.at I n (A := X.A.in1) (by show X.A.units + 1 + n < cLine; omega) h rx ry) (by omega) h rx ry X.prog X.w X.xe _ ⟨.bl b, H, I, rfl, q⟩
theorem op_ne_ref (hu : X.A.units + 64 < cLine) : OpR X (compareOp .NotEq) (rNeR X.K) := by
  rintro pins s σ H x y v u Q I rx ry ⟨n, b, hn, h, q⟩
  exact SeqEq.rcNe (A := X.A) I (fun x y b u v h rx ry => EqI.at I n (A := X.A.in1) (by show X.A.units + 1 + n < cLine; omega) h rx ry) (by omega) h rx ry X.prog X.w X.xe _ ⟨.bl (!b), H, I, rfl, q⟩
end
theorem eqI_int {K : PySem.W.Frag} {H : Hp} (i : Int) : EqI K H 0 (.int i) (.int i) true := .inl ⟨rfl, rfl, by simp [eqV]⟩
/-- for: a list or a tuple -/
theorem pi_or {X : Cx} {tg it : Expr} {w1 w2 : TI} (h1 : PI X tg it w1) (h2 : PI X tg it w2) : PI X tg it (fun σ H R => w1 σ H R ∨ w2 σ H R) := fun pins s σ H R I h => h.elim (h1 pins s σ H R I) (h2 pins s σ H R I)
end L2
namespace L2
theorem anelt' {a b n : Nat} (h1 : a < n) (h2 : n ≤ b) : a ≠ b := by omega
open PySem PySem.Spec PyProof.Rows
/-! ### for a, b in zip(xs, ys): two lists that the body leaves as they are -/
def Itz (K : PySem.W.Frag) (l1 l2 : Addr) : It :=
  ⟨fun i H => ∃ xs ys x y, SqL K H l1 xs ∧ SqL K H l2 ys ∧ xs[i]? = some x ∧ ys[i]? = some y,
   fun i H v H' => ∃ T x y, H T = none ∧ v = .ref T ∧ H' = upd H T (.tup [x, y]) ∧ (∀ xs, SqL K H l1 xs → xs[i]? = some x) ∧ ∀ ys, SqL K H l2 ys → ys[i]? = some y,
   fun i H => ∃ xs ys, SqL K H l1 xs ∧ SqL K H l2 ys ∧ (xs.length ≤ i ∨ ys.length ≤ i)⟩
def ZipSt (z TI TO i1 i2 l1 l2 : Addr) (i : Nat) (h : Heap) : Prop :=
  IsZip h z TI TO .none ∧ IsPair h TI (.ref i1) (.ref i2) ∧ (∃ a b, IsPair h TO a b) ∧ h.IsListIter i1 l1 i ∧ h.IsListIter i2 l2 i
theorem Inv.turnedMany {X : Cx} {pins : List (Addr × Obj)} {σ : St} {H : Hp} {s : Shared} {h' : Heap} {t' : Nat} {ch : List Addr} (I : Inv X pins σ H s) (k : ∀ b o, b ∉ ch → s.heap.get? b = some o → h'.get? b = some o) (hf : ∀ b ∈ ch, FpOk X pins H b) :
    Inv X pins σ H { s with heap := h', toks := t' } := by
  have nit : ∀ b u, H b = some u → b ∉ ch := fun b u e z => by rw [(hf b z).1] at e; cases e
  refine I.step (g' := s.gens) (d' := s.drawn) (ch := ch) (fun b hb => ⟨(hf b hb).2.2.2.1, (hf b hb).2.1, (hf b hb).2.2.2.2.1, (hf b hb).2.2.2.2.2⟩) (fun b o _ _ hc e _ => k b o hc e) (fun b o _ _ hc e _ => ⟨o.slots, k b o hc e⟩) (fun _ _ _ _ n => n)
    (fun b o hc e => ⟨o, k b o hc e⟩) (fun _ _ e => e) (fun _ _ _ e => e) (fun b ps e => ⟨#[], by rw [e]; simp⟩) (fun m hm => ?_) (fun b u e => ?_) I.bare
  · obtain ⟨o, es, ep, ho, r⟩ := hm
    exact ⟨o, es, ep, k _ o (fun z => (hf _ z).2.1 rfl) ho, r⟩
  · refine (I.hok b u e).stay (fun c v hc q => k c v ?_ q) (fun _ q => q) fun _ _ q => q
    rcases hc with z | z
    · rw [z]; exact nit b u e
    · exact nit c _ z
/-- .. and a new object is laid and tracked -/
theorem Inv.turnedLaid {X : Cx} {pins : List (Addr × Obj)} {σ : St} {H : Hp} {s : Shared} {h' : Heap} {t' : Nat} {ch : List Addr} {T : Addr} {u : HO} (I : Inv X pins σ H s) (k : ∀ b o, b ∉ ch → s.heap.get? b = some o → h'.get? b = some o) (hf : ∀ b ∈ ch, FpOk X pins H b)
    (hT : s.heap.objs.size ≤ T) (new : ObjOk X.prog X.w (upd H T u) h' T u) : Inv X pins σ (upd H T u) { s with heap := h', toks := t' } := by
  have hn : H T = none := I.hok.fresh hT
  have nit : ∀ b u, H b = some u → b ∉ ch := fun b u e z => by rw [(hf b z).1] at e; cases e
  have nT : ∀ b o, s.heap.get? b = some o → b ≠ T := fun b o e => anelt' (Heap.lt_size e) hT
  refine I.step (g' := s.gens) (d' := s.drawn) (ch := ch) (fun b hb => ⟨(hf b hb).2.2.2.1, (hf b hb).2.1, (hf b hb).2.2.2.2.1, (hf b hb).2.2.2.2.2⟩) (fun b o _ _ hc e _ => k b o hc e) (fun b o _ _ hc e _ => ⟨o.slots, k b o hc e⟩) (fun b o _ e n => by rw [upd_ne (nT b o e)]; exact n)
    (fun b o hc e => ⟨o, k b o hc e⟩) (fun b xs e => by rw [upd_ne (ne_of_none e hn)]; exact e) (fun b o xs e => by rw [upd_ne (ne_of_none e hn)]; exact e) (fun b ps e => ⟨#[], by rw [upd_ne (ne_of_none e hn), e]; simp⟩) (fun m hm => ?_) (fun b v e => ?_) I.bare
  · obtain ⟨o, es, ep, ho, r⟩ := hm
    exact ⟨o, es, ep, k _ o (fun z => (hf _ z).2.1 rfl) ho, r⟩
  · by_cases hb : b = T
    · subst hb; rw [upd_same] at e; cases e; exact new
    · rw [upd_ne hb] at e
      refine (I.hok b v e).stay (fun c v hc q => k c v ?_ q) (fun c q => by rw [upd_ne (ne_of_none q hn)]; exact q) fun c xs q => by rw [upd_ne (ne_of_none q hn)]; exact q
      rcases hc with z | z
      · rw [z]; exact nit b _ e
      · exact nit c _ z
def iZip (K : PySem.W.Frag) (ta : TA) : TI := fun σ H R => ta σ H fun vs H1 => ∃ l1 l2, vs = [.ref l1, .ref l2] ∧ (∃ xs, SqL K H1 l1 xs) ∧ (∃ ys, SqL K H1 l2 ys) ∧ R (Itz K l1 l2) H1
end L2
namespace L2
open PySem PySem.Spec PyProof.Rows
/-! ### exceptions of own classes: attributes -/
def veTail : List Value := [.type "ValueError", .type "Exception", .type "BaseException", .type "object"]
def isRefV : Value → Bool
  | .ref _ => true
  | _ => false
/-- an own class under ValueError: own ones, then ValueError's row -/
def excMro (l : List Value) : Bool := l.dropWhile isRefV == veTail
theorem excMro_at {l : List Value} (h : excMro l = true) : ∃ rs : List Addr, l = rs.map Value.ref ++ veTail := by
  induction l with
  | nil => exact absurd h (by decide)
  | cons x r ih =>
    unfold excMro at h
    by_cases hx : isRefV x = true
    · rw [List.dropWhile_cons, if_pos hx] at h
      obtain ⟨rs, e⟩ := ih h
      cases x <;> first | cases hx | skip
      rename_i a
      exact ⟨a :: rs, by rw [e]; rfl⟩
    · rw [List.dropWhile_cons, if_neg hx] at h
      exact ⟨[], by rw [beq_iff_eq.mp h]; rfl⟩
theorem excMro_has {T : String} (hT : veTail.contains (.type T) = true) {l : List Value} (h : excMro l = true) : l.contains (.type T) = true := by
  obtain ⟨rs, rfl⟩ := excMro_at h
  rw [List.contains_eq_mem]
  simp only [List.contains_eq_mem, decide_eq_true_eq] at hT ⊢
  exact List.mem_append_right _ hT
theorem excMro_ne {l : List Value} (h : excMro l = true) : l.isEmpty = false := by
  cases l with
  | nil => exact absurd h (by decide)
  | cons _ _ => rfl
theorem refuse_exc (self : Value) {l : List Value} (h : excMro l = true) : refuseLoop self "__setattr__" l = pure () := by
  obtain ⟨rs, rfl⟩ := excMro_at h
  induction rs with
  | nil => exact PySem.F.store_ValueError.passes self
  | cons a r ih =>
    show refuseLoop self "__setattr__" (.ref a :: (r.map Value.ref ++ veTail)) = _
    rw [refuseLoop_ref]
    refine ih ?_
    have : ∀ r : List Addr, excMro (r.map Value.ref ++ veTail) = true := fun r => by
      induction r with
      | nil => decide
      | cons b r ih => exact ih
    exact this r
/-- what of the text an own exception's class must have -/
def xobjIn (K : PySem.W.Frag) (C : Addr) : Bool := match K.lookup C with
  | some ⟨.type "type", _, .cls cd, sl⟩ => (match cd.mro, sl.toList with
    | .ref D :: bm, [_, _, _, _, some (.builtin n), _] => D == C && !cd.hasDel && excMro bm && n == "ValueError.__new__" && cd.hasDict
    | _, _ => false)
  | _ => false
structure XObj (h : Heap) (C : Addr) : Prop where
  ex : ∃ nm q N bs bm sn sub ab col dd k0 k1 k2 k3 k5, h.get? C = some (excClassObj nm q C N bs bm true sn sub ab col dd k0 k1 k2 k3 k5 "ValueError.__new__") ∧ excMro bm = true
theorem xobj_of {K : PySem.W.Frag} {C : Addr} (q : xobjIn K C = true) : ∃ nm qn N bs bm sn sub ab col dd k0 k1 k2 k3 k5, K.lookup C = some (excClassObj nm qn C N bs bm true sn sub ab col dd k0 k1 k2 k3 k5 "ValueError.__new__") ∧ excMro bm = true := by
  unfold xobjIn at q
  split at q
  · rename_i dd cd sl ho
    split at q
    · rename_i D bm k0 k1 k2 k3 n k5 hm hs
      simp only [Bool.and_eq_true, beq_iff_eq, Bool.not_eq_true'] at q
      obtain ⟨⟨⟨⟨rfl, hdel⟩, hb⟩, rfl⟩, hd⟩ := q
      obtain ⟨nm, bs, mro, ns, qn, hd', sn, sub, ab, col, del⟩ := cd
      dsimp only at hm hdel hd
      subst hm hdel hd
      have hsl : sl = #[k0, k1, k2, k3, some (.builtin "ValueError.__new__"), k5] := by
        obtain ⟨l⟩ := sl
        simp only at hs
        rw [hs]
      subst hsl
      exact ⟨nm, qn, ns, bs, bm, sn, sub, ab, col, dd, k0, k1, k2, k3, k5, ho, hb⟩
    · cases q
  · cases q
structure XCls (K : PySem.W.Frag) (C : Addr) : Prop where
  obj : xobjIn K C = true
  sa : PySem.W.findIn K (.ref C) "__setattr__" = some (some (.builtin "object.__setattr__"))
  ga : PySem.W.findIn K (.ref C) "__getattribute__" = some (some (.builtin "BaseException.__getattribute__"))
  gh : PySem.W.findIn K (.ref C) "__getattr__" = some none
  cl : PySem.W.findIn K (.ref C) "__class__" = some (some (.builtin "object.__class__"))
  clg : PySem.W.specialIn K (.builtin "object.__class__") "__get__" = some (some (.builtin "getset_descriptor.__get__"))
  clt : PySem.W.takesIn K (.builtin "object.__class__") = some true
theorem excMro_cons {C : Addr} {bm : List Value} (h : excMro bm = true) : excMro (.ref C :: bm) = true := h
theorem XCls.mro {K : PySem.W.Frag} {C : Addr} (c : XCls K C) : ∃ cd, PySem.W.clsIn K C = some cd ∧ excMro cd.mro = true ∧ cd.hasDict = true := by
  obtain ⟨nm, qn, N, bs, bm, sn, sub, ab, col, dd, k0, k1, k2, k3, k5, ho, hb⟩ := xobj_of c.obj
  refine ⟨{ name := nm, bases := bs, mro := .ref C :: bm, ns := N, qualname := qn, hasDict := true, slotNames := sn, subclasses := sub, abstract := ab, collection := col, hasDel := false }, ?_, excMro_cons (C := C) hb, rfl⟩
  unfold PySem.W.clsIn
  rw [ho]
theorem XCls.at {K : PySem.W.Frag} {C : Addr} {h : Heap} (c : XCls K C) (X : K.In h) : XObj h C := by
  obtain ⟨nm, qn, N, bs, bm, sn, sub, ab, col, dd, k0, k1, k2, k3, k5, ho, hb⟩ := xobj_of c.obj
  exact ⟨nm, qn, N, bs, bm, sn, sub, ab, col, dd, k0, k1, k2, k3, k5, X _ _ ho, hb⟩
theorem XCls.has {K : PySem.W.Frag} {C : Addr} (c : XCls K C) {T : String} (hT : veTail.contains (.type T) = true) : PySem.W.mroIn K C (.type T) = some true := by
  obtain ⟨cd, h1, h2, _⟩ := c.mro
  unfold PySem.W.mroIn
  rw [h1, Option.bind_some, if_neg (by rw [excMro_ne h2]; decide), excMro_has hT h2]
section
variable {prog : Program} {w : World} {A : Around} {E : Value → Shared → Prop} {s : Shared} {K : PySem.W.Frag} {x C : Addr} {ox : Obj} {od : Option Obj} {name : Str} {v : Value}
end
end L2
namespace L2
open PySem PySem.Spec PyProof.Rows
section
variable {prog : Program} {w : World} {A : Around} {E : Value → Shared → Prop} {s : Shared} {K : PySem.W.Frag} {x C : Addr} {ox : Obj} {od : Option Obj} {name : Str} {v : Value}
/-- object.__setattr__ of an exception, up to its own dict -/
theorem xset_open {Q : Unit → Shared → Prop} (X : K.In s.heap) (I : PySem.W.InstAt s.heap x ox C od) (c : XCls K C) (n : NoAttr K C name)
    (h : ∀ b, wpAny (model prog w) A.in1 (Builtin.ObjectAttr.storeInOwnDict (.ref x) (.ref C) (.str name s.toks) name v b)
      (fun fin s' => match fin with | .done (.ret _) => Q () s' | _ => False) (fun e s' => E e s') { s with toks := s.toks + 1 }) :
    wpAny (model prog w) A (setAttr (.ref x) name v) Q E s := by
  obtain ⟨hp, g, d, t, os⟩ := s
  have SF := PySem.F.store_ValueError
  obtain ⟨cd, hc, ho, _⟩ := c.mro
  refine PySem.W.set_plain X I c.sa ?_
  have sub : PySem.W.Looks (model prog w) hp (isInstance (.ref x) (.type "object")) true := I.type.andThen (PySem.W.looks_mroIn X (c.has (by decide)))
  refine codeAny_call_builtin SF.slot.plain SF.entry (@PySem.W.check_slot (model prog w) _ _ _ "object.__setattr__" "object" "__setattr__" (.ref x) [.str name t, v] [] _ SF.kind SF.split sub (SF.args (.ref x) (.str name t) v) ?_)
  have hm : PySem.W.Looks (model prog w) hp (mroOf (.ref C)) cd.mro := (PySem.W.looks_clsIn X hc).andThen .now
  have LN := PySem.W.looks_findIn (M := model prog w) X (show PySem.W.findIn K (.ref C) name = some none from n)
  rw [PySem.W.osa_eq, refuse_eq]
  refine wpAny_bind (wpAny_bind (I.type.at (wpAny_bind (hm.at ?_))))
  rw [refuse_exc _ ho]
  refine wpAny_pure (wpAny_bind (I.type.at (wpAny_bind (LN.at (wpAny_bind (wpAny_pure ?_))))))
  refine wpAny_mono (h false) (fun fin s' z => ?_) fun _ _ z => z
  rcases fin with (_ | _ | _ | _) | _ <;> first | exact z | exact z.elim
/-- the first attribute: the dict is made -/
theorem xset_first {vs : Array Value} {sl : Array (Option Value)} {Q : Unit → Shared → Prop} (X : K.In s.heap) (hx : s.heap.get? x = some ⟨.ref C, none, .fields vs, sl⟩) (c : XCls K C) (n : NoAttr K C name)
    (h : ∀ h' tk', h'.get? x = some ⟨.ref C, some s.heap.objs.size, .fields vs, sl⟩ → h'.Ns1 s.heap.objs.size (fun y => if y = name then some v else none) → (∀ b o, b ≠ x → s.heap.get? b = some o → h'.get? b = some o) →
      Q () { s with heap := h', toks := tk' }) :
    wpAny (model prog w) A (setAttr (.ref x) name v) Q E s := by
  have I : PySem.W.InstAt s.heap x ⟨.ref C, none, .fields vs, sl⟩ C none := ⟨hx, rfl, rfl, trivial⟩
  refine xset_open X I c n fun b => ?_
  obtain ⟨hp, g, d, t, os⟩ := s
  obtain ⟨cd, hc, ho, hd⟩ := c.mro
  have LC := PySem.W.looks_clsIn (M := model prog w) X hc
  unfold Builtin.ObjectAttr.storeInOwnDict
  refine wpAny_bind (wpAny_pure ?_)
  refine wpAny_bind (m := Builtin.ObjectAttr.ownDictForStores _) ?_
  show wpAny _ _ (instanceDict x true) _ _ _
  unfold instanceDict
  refine wpAny_bind (wpAny_loadPart hx ?_)
  dsimp only
  refine wpAny_bind (LC.at ?_)
  rw [hd]
  have hx1 : (hp.push { cls := .type "dict", data := .dict #[] }).get? x = some ⟨.ref C, none, .fields vs, sl⟩ := Heap.get?_push_of_some _ hx
  have hxs : x ≠ hp.objs.size := Nat.ne_of_lt (Heap.lt_size hx)
  show wpAny _ _ (do let dd ← alloc { cls := .type "dict", data := .dict #[] }; update x (fun o => { o with dict := some dd }); dictMade (.ref C) x dd) _ _ _
  refine wpAny_bind (wpAny_alloc' ?_)
  refine wpAny_bind (wpAny_update' hx1 ?_)
  refine wpAny_pure ?_
  have hgd : ((hp.push { cls := .type "dict", data := .dict #[] }).update x fun o => { o with dict := some hp.objs.size }).get? hp.objs.size = some { cls := .type "dict", data := .dict #[] } :=
    (Heap.get?_update_ne _ _ _ _ hxs.symm).trans (Heap.get?_push_at rfl rfl)
  have hnd : ((hp.push { cls := .type "dict", data := .dict #[] }).update x fun o => { o with dict := some hp.objs.size }).Ns hp.objs.size (fun _ => none) := ⟨_, #[], _, hgd, rfl, fun e he => absurd he (by simp), fun _ => rfl⟩
  show wpAny _ _ (Builtin.ObjectAttr.storeInDict hp.objs.size (.str name t) name v) _ _ _
  unfold Builtin.ObjectAttr.storeInDict Builtin.ObjectAttr.newKeyGuard
  refine wpAny_bind (wpAny_pure (wpAny_bind (wpAny_nsSet1 (Heap.Ns1.of_empty hnd) fun h' hn' hs => ?_)))
  obtain ⟨oD, esD, epD, hoD, hdD, hcD⟩ := hn'.count (Within.cons name v Within.nil)
  refine wpAny_bind (wpAny_lookBehind hoD (by rw [hdD]; exact pastItsLine_dict (Nat.le_trans hcD (by rw [List.length_cons, List.length_nil, sizeLine_eq]; omega))) ?_)
  refine wpAny_pure (h h' _ ?_ hn' fun b o hb e => ?_)
  · exact (hs.2 x hxs).trans (Heap.get?_update_self _ hx1 rfl)
  · exact (hs.2 b (Nat.ne_of_lt (Heap.lt_size e))).trans ((Heap.get?_update_ne _ _ _ _ hb).trans (Heap.get?_push_of_some _ e))
end
end L2
namespace L2
open PySem PySem.Spec PyProof.Rows
/-! ### an exception is made -/
abbrev excNew (C t : Addr) : Obj := { cls := .ref C, data := .fields #[.ref t, .none, .none, .none, .bool false, .none] }
abbrev tupNew (rest : List Value) : Obj := { cls := .type "tuple", data := .seq rest.toArray }
theorem own_has {C : Addr} {bm : List Value} (hb : excMro bm = true) {T : String} (hT : veTail.contains (.type T) = true) : (Value.ref C :: bm).contains (.type T) = true := by
  rw [List.contains_cons, excMro_has hT hb, Bool.or_true]
theorem own_not {C : Addr} {bm : List Value} (hb : excMro bm = true) {T : String} (hT : veTail.contains (.type T) = false) : (Value.ref C :: bm).contains (.type T) = false := by
  obtain ⟨rs, rfl⟩ := excMro_at hb
  rw [List.contains_cons, List.contains_eq_mem, decide_eq_false, Bool.or_false]
  · rfl
  · intro hm
    rcases List.mem_append.mp hm with h | h
    · obtain ⟨a, _, e⟩ := List.mem_map.mp h
      cases e
    · rw [List.contains_eq_mem] at hT
      exact (of_decide_eq_false hT) h
section
variable {prog : Program} {w : World} {A : Around} {E : Value → Shared → Prop} {h : Heap} {g : Array GenState} {d : Drawn} {t : Nat} {os : OsState} {K : PySem.W.Frag} {C f : Addr}
variable {nm q : Str} {N : Addr} {bs bm : List Value} {sn : List Str} {sub : List Value} {ab : Bool} {col : Option Bool} {dd : Option Addr} {k0 k1 k2 k3 k5 : Option Value}
theorem xcheck_new {M : Model} {rest : List Value} {Q : Unit → Shared → Prop} (hb : excMro bm = true) (hC : h.get? C = some (excClassObj nm q C N bs bm true sn sub ab col dd k0 k1 k2 k3 k5 "ValueError.__new__")) (hq : Q () ⟨h, g, d, t, os⟩) :
    wpAny M A (checkBuiltinCall "ValueError.__new__" ⟨.ref C :: rest, []⟩) Q E ⟨h, g, d, t, os⟩ := by
  have F := PySem.F.excBase_ValueError
  have hcont := own_has (C := C) hb (T := "ValueError") (by decide)
  have hstar := F.noStar
  simp only [checkBuiltinCall, F.newKind, F.newSplit, F.newRow]
  repeat (first
    | refine wpAny_loadPart_at hC ?_
    | (refine wpAny_isSubtype_exc hC ?_; rw [hcont])
    | refine wpAny_staticBase_exc hC ?_
    | refine wpAny_madeBy_exc hC ?_
    | simp only [bne_self_eq_false, Bool.false_eq_true, if_false]
    | wp_step)
  exact hq
theorem xcode_new {R : Result → Shared → Prop} {rest : List Value} (hb : excMro bm = true) (hC : h.get? C = some (excClassObj nm q C N bs bm true sn sub ab col dd k0 k1 k2 k3 k5 "ValueError.__new__")) (hrest : rest.length ≤ sizeLine)
    (hq : R (.ok (.ret (.ref (h.objs.size + 1)))) ⟨(h.push (tupNew rest)).push (excNew C h.objs.size), g, d, t, os⟩) :
    codeAny (model prog w) A (.builtin "ValueError.__new__" ⟨.ref C :: rest, []⟩) R ⟨h, g, d, t, os⟩ := by
  have F := PySem.F.excBase_ValueError
  have hends := F.ends
  have hcB := own_has (C := C) hb (T := "ValueError") (by decide)
  have hcA := own_not (C := C) hb (T := "AttributeError") (by decide)
  have hcN := own_not (C := C) hb (T := "NameError") (by decide)
  refine codeAny_builtinAt F.entry ?_
  unfold Builtin.«BaseException.__new__»
  refine PySem.wpAt_bind ?_
  show PySem.wpAt _ _ _ (stack >>= _) _ _ _
  refine PySem.wpAt_bind (PySem.wpAt_stack fun p below => PySem.wpAt_of_wpAny ?_)
  wp_walk
  refine PySem.wpAt_of_wpAny ?_
  rw [F.owner]
  repeat (first
    | with_reducible refine wpAny_madeHere_exc F.canon hC ?_
    | with_reducible refine wpAny_loadPart_at hC ?_
    | (with_reducible refine wpAny_isSubtype_exc hC ?_; first | rw [hcB] | rw [hcA] | rw [hcN])
    | wp_step)
  show R _ _
  rw [Heap.size_push]
  exact hq
theorem xkeeps {rest : List Value} : ∀ b o, h.get? b = some o → ((h.push (tupNew rest)).push (excNew C h.objs.size)).get? b = some o := fun b o e => Heap.get?_push_of_some _ (Heap.get?_push_of_some _ e)
theorem xnew_at {rest : List Value} : ((h.push (tupNew rest)).push (excNew C h.objs.size)).get? (h.objs.size + 1) = some (excNew C h.objs.size) := by
  have := Heap.get?_push_size (h.push (tupNew rest)) (o := excNew C h.objs.size) rfl
  rwa [Heap.size_push] at this
theorem xtype_call {rest : List Value} {Q : Fin → Shared → Prop} (hb : excMro bm = true) (hC : h.get? C = some (excClassObj nm q C N bs bm true sn sub ab col dd k0 k1 k2 k3 k5 "ValueError.__new__")) (hrest : rest.length ≤ sizeLine) (X : K.In h)
    (hi : PySem.W.findIn K (.ref C) "__init__" = some (some (.ref f))) (hf : PySem.W.typeIn K (.ref f) = some (.type "function"))
    (hq : wpAny (model prog w) A (call (.ref f) (.ref (h.objs.size + 1) :: rest)) (fun r s' => r = .none ∧ Q (.done (.ret (.ref (h.objs.size + 1)))) s') E ⟨(h.push (tupNew rest)).push (excNew C h.objs.size), g, d, t, os⟩) :
    wpAny (model prog w) A (Builtin.«type.__call__» ⟨.ref C :: rest, []⟩) Q E ⟨h, g, d, t, os⟩ := by
  have F := PySem.F.excBase_ValueError
  repeat (first | with_reducible refine wpAny_loadPart_at hC ?_ | with_reducible refine wpAny_madeBy_exc hC ?_ | wp_step)
  refine codeAny_call_builtin_code (Code.quiet_builtin _ F.quiet) (xcheck_new hb hC ?_)
  refine xcode_new hb hC hrest ?_
  show wpAny _ _ _ _ _ _
  have X1 : K.In ((h.push (tupNew rest)).push (excNew C h.objs.size)) := X.keeps xkeeps
  have hC1 := xkeeps (C := C) (rest := rest) _ _ hC
  have hcC : (Value.ref C :: bm).contains (.ref C) = true := by simp
  have L1 := PySem.W.looks_findIn (M := model prog w) X1 hi
  have L2 := PySem.W.bind_fn (M := model prog w) X1 (.ref (h.objs.size + 1)) hf
  unfold isInstance
  repeat (first | with_reducible refine wpAny_loadPart_at xnew_at ?_ | (with_reducible refine wpAny_isSubtype_exc hC1 ?_; rw [hcC]) | wp_step)
  show wpAny _ _ (typeLookup (.ref C) _) _ _ _
  refine L1.at ?_
  refine wpAny_holding (wpAny_bind (L2.at ?_))
  refine wpAny_bind (wpAny_mono hq (fun r s' hr => ?_) fun _ _ x => x)
  obtain ⟨rfl, hQ⟩ := hr
  wp_walk
  exact hQ
theorem xcall_init {rest : List Value} {Q : Value → Shared → Prop} (X : K.In h) (c : XCls K C) (hrest : rest.length ≤ sizeLine)
    (hi : PySem.W.findIn K (.ref C) "__init__" = some (some (.ref f))) (hf : PySem.W.typeIn K (.ref f) = some (.type "function"))
    (hq : wpAny (model prog w) (A.under (.builtin "type.__call__" ⟨.ref C :: rest, []⟩)) (call (.ref f) (.ref (h.objs.size + 1) :: rest)) (fun r s' => r = .none ∧ Q (.ref (h.objs.size + 1)) s') E ⟨(h.push (tupNew rest)).push (excNew C h.objs.size), g, d, t, os⟩) :
    wpAny (model prog w) A (call (.ref C) rest) Q E ⟨h, g, d, t, os⟩ := by
  obtain ⟨nm, qn, N, bs, bm, sn, sub, ab, col, dd, k0, k1, k2, k3, k5, hC, hb⟩ := (c.at X).ex
  have f1 := tc_lookup
  have f2 := tc_bind (.ref C)
  have hT : (⟨h, g, d, t, os⟩ : Shared).TypeIs (.ref C) "type" := ⟨_, hC, rfl⟩
  refine wpAny_call (codeAny_of_tree ?_)
  show wpAny _ _ (callAny (.ref C) _) _ _ _
  repeat (any_goals (first | assumption | with_reducible refine wpAny_loadPart_at hC ?_ | wp_step))
  refine ⟨rfl, ?_⟩
  exact codeAny_call_builtin_at (Code.quiet_builtin _ (by decide +kernel)) entry_typeCall (wpAny_check_type_call_sub hC (xtype_call hb hC hrest X hi hf hq))
end
end L2
namespace L2
open PySem PySem.Spec PyProof.Rows
/-! ### exceptions on the abstract heap: the object (raw: it has never flown), and its dict -/
def IsExc (raw : Bool) (e C : Addr) (od : Option Addr) (h : Heap) : Prop := ∃ vs sl, h.get? e = some ⟨.ref C, od, .fields vs, sl⟩ ∧ vs.size = 6 ∧ (raw = true → vs[1]? = some .none)
def IsXd (dx : Addr) (fs : List (Str × V)) (h : Heap) : Prop := ∃ mA, h.Ns1 dx mA ∧ (∀ f, RelO (fs.lookup f) (mA f)) ∧ PySem.Within mA (fs.map (·.1))
abbrev exO (raw : Bool) (e C : Addr) (od : Option Addr) : HO := .ext (IsExc raw e C od)
abbrev xdO (dx : Addr) (fs : List (Str × V)) : HO := .ext (IsXd dx fs)
/-- an exception of class C with the attributes fs -/
def ExcAt (H : Hp) (e C : Addr) (fs : List (Str × V)) : Prop := ∃ raw od, H e = some (exO raw e C od) ∧ match od with
  | none => fs = []
  | some dx => H dx = some (xdO dx fs) ∧ dx ≠ e
section
variable {P : Program} {w : World} {H : Hp} {h : Heap} {e C dx : Addr} {od : Option Addr} {raw : Bool} {fs : List (Str × V)}
theorem objOk_exc (x : IsExc raw e C od h) : ObjOk P w H h e (exO raw e C od) := by
  refine ⟨x, ?_, ?_⟩
  · obtain ⟨vs, sl, q, _⟩ := x
    exact ⟨_, q⟩
  · rintro h1 h2 ⟨vs, sl, q, r⟩ k
    exact ⟨vs, sl, k _ q, r⟩
theorem objOk_xd (x : IsXd dx fs h) : ObjOk P w H h dx (xdO dx fs) := by
  refine ⟨x, ?_, ?_⟩
  · obtain ⟨mA, ⟨o, es, ep, q, _⟩, _⟩ := x
    exact ⟨o, q⟩
  · rintro h1 h2 ⟨mA, ⟨o, es, ep, q, r⟩, z⟩ k
    exact ⟨mA, ⟨o, es, ep, k _ q, r⟩, z⟩
theorem exc_of (x : HOk P w H h) (q : H e = some (exO raw e C od)) : IsExc raw e C od h := (x e _ q).1
end
section
variable {X : Cx} {pins : List (Addr × Obj)} {σ : St} {H : Hp} {s : Shared} {a C dx : Addr} {od : Option Addr} {raw : Bool} {fs : List (Str × V)} {f : Str} {v : V} {A : Around} {E : Value → Shared → Prop}
theorem xsetattr_first {y : V} {u : Value} {Q : Unit → Shared → Prop} (I : Inv X pins σ H s) (e : H a = some (exO raw a C none)) (c : XCls X.K C) (n : NoAttr X.K C f) (ry : RelV y u)
    (h : ∀ dx s', H dx = none → Inv X pins σ (upd (upd H dx (xdO dx [(f, y)])) a (exO raw a C (some dx))) s' → Q () s') : wpAny (model X.prog X.w) A (setAttr (.ref a) f u) Q E s := by
  obtain ⟨vs, sl, q, hv⟩ := exc_of I.hok e
  refine xset_first I.kIn q c n fun h' tk' h1 h2 h3 => ?_
  have hn : H s.heap.objs.size = none := I.hok.fresh (Nat.le_refl _)
  have hna : a ≠ s.heap.objs.size := Nat.ne_of_lt (Heap.lt_size q)
  refine h s.heap.objs.size _ hn ?_
  -- the dict is laid, then the object written
  have hd2 : IsXd s.heap.objs.size [(f, y)] h' := by
    refine ⟨_, h2, fun g => ?_, fun g hg => ?_⟩
    · show RelO (List.lookup g [(f, y)]) (if g = f then some u else none)
      rw [List.lookup_cons]
      by_cases z : g = f
      · subst z; rw [if_pos rfl]; simp; exact ry
      · rw [if_neg z, show (g == f) = false by simpa using z]; exact True.intro
    · by_cases z : g = f
      · subst z; simp
      · exact absurd (if_neg z) hg
  have hE : IsExc raw a C (some s.heap.objs.size) h' := ⟨vs, sl, h1, hv⟩
  have hu : Un X.fs [] H (upd (upd H s.heap.objs.size (xdO s.heap.objs.size [(f, y)])) a (exO raw a C (some s.heap.objs.size))) s.heap h' := by
    have nn : ∀ b o, s.heap.get? b = some o → b ≠ s.heap.objs.size := fun b o e => Nat.ne_of_lt (Heap.lt_size e)
    refine ⟨fun b o e' n' _ _ => h3 b o (fun z => by rw [z, e] at n'; cases n') e', fun b o e' n' _ _ => ⟨o.slots, h3 b o (fun z => by rw [z, e] at n'; cases n') e'⟩, fun b o e' n' _ => ?_, fun b o e' _ => ?_, fun b xs e' => ?_, fun b o u' e' => ?_, fun b ps e' => ⟨#[], ?_⟩⟩
    · rw [upd_ne (fun z => by rw [z, e] at n'; cases n'), upd_ne (nn b o e')]; exact n'
    · by_cases z : b = a
      · subst z; exact ⟨_, h1⟩
      · exact ⟨o, h3 b o z e'⟩
    · rw [upd_ne (fun z => by rw [z, e] at e'; cases e'), upd_ne (ne_of_none e' hn)]; exact e'
    · rw [upd_ne (fun z => by rw [z, e] at e'; cases e'), upd_ne (ne_of_none e' hn)]; exact e'
    · rw [upd_ne (fun z => by rw [z, e] at e'; cases e'), upd_ne (ne_of_none e' hn), e']; simp
  refine I.un hu fun b o e' => ?_
  by_cases z : b = a
  · subst z; rw [upd_same] at e'; cases e'; exact objOk_exc hE
  · rw [upd_ne z] at e'
    by_cases z2 : b = s.heap.objs.size
    · subst z2; rw [upd_same] at e'; cases e'; exact objOk_xd hd2
    · rw [upd_ne z2] at e'
      refine (I.hok b o e').stay (fun c' v' hc q' => h3 c' v' ?_ q') (fun c' q' => ?_) fun c' xs q' => ?_
      · rcases hc with hc | hc
        · rw [hc]; exact z
        · intro z3; rw [z3, e] at hc; cases hc
      · rw [upd_ne (fun z3 => by rw [z3, e] at q'; cases q'), upd_ne (ne_of_none q' hn)]; exact q'
      · rw [upd_ne (fun z3 => by rw [z3, e] at q'; cases q'), upd_ne (ne_of_none q' hn)]; exact q'
end
/-! ### readings -/
def tXFld (K : PySem.W.Frag) (ta : TE) (f : Str) : TE := fun σ H Q => ta σ H fun x H1 => ∃ a C fs v, x = .ref a ∧ ExcAt H1 a C fs ∧ XCls K C ∧ NoAttr K C f ∧ fs.lookup f = some v ∧ Q v H1
def sXFld1 (K : PySem.W.Frag) (ta tv : TE) (f : Str) : TS := fun D σ H => tv σ H fun y H1 => ta σ H1 fun x H2 => ∃ a C raw, x = .ref a ∧ H2 a = some (exO raw a C none) ∧ XCls K C ∧ NoAttr K C f ∧
  ∀ dx, H2 dx = none → D.nx σ (upd (upd H2 dx (xdO dx [(f, y)])) a (exO raw a C (some dx)))
def sXFld2 (K : PySem.W.Frag) (ta tv : TE) (f : Str) : TS := fun D σ H => tv σ H fun y H1 => ta σ H1 fun x H2 => ∃ a C raw dx fs, x = .ref a ∧ H2 a = some (exO raw a C (some dx)) ∧ H2 dx = some (xdO dx fs) ∧ XCls K C ∧ NoAttr K C f ∧ fs.length < 1000 ∧
  D.nx σ (upd H2 dx (xdO dx (putF f y fs)))
section
variable {X : Cx} {o e value : Expr} {f : Str} {pos pos' : Pos} {ta tv : TE}
theorem ps_xfld1 (ha : PE X o ta) (hv : PE X value tv) (hs : swapsWith value (some (.Attribute o f pos')) pos.line X.env = pure false) : PS X (.Assign [.Attribute o f pos'] value pos) (sXFld1 X.K ta tv f) := by
  intro pins s σ H D I h
  refine plainObj_wpAny_Assign_Attribute (thn (hv pins s σ H _ I h) fun u s1 ⟨y, H1, I1, ry, q⟩ => thn (ha pins s1 σ H1 _ I1 q) fun ov s2 ⟨x, H2, I2, rx, a, C, raw, ex, ea, c, n, q2⟩ => ?_) hs
  subst ex
  obtain rfl : ov = Value.ref a := rx
  exact xsetattr_first I2 ea c n ry fun dx s3 hdx I3 => ⟨σ, _, I3, q2 dx hdx⟩
end
end L2
namespace L2
open PySem PySem.Spec PyProof.Rows
/-! ### an exception in flight -/
/-- the exception at e has the traceback T, whose mark is fl -/
def Fly (h : Heap) (e T : Addr) (fl : Value) : Prop := ∃ oe vs oT ts, h.get? e = some oe ∧ oe.data = .fields vs ∧ vs[1]? = some (.ref T) ∧ h.get? T = some oT ∧ oT.data = .fields ts ∧ ts[3]? = some fl ∧ T ≠ e
/-- what a note of a frame changes -/
structure Noted (fs ch : List Addr) (e T : Addr) (fl : Value) (h h' : Heap) : Prop where
  keep : ∀ b o, b ∉ fs → b ∉ ch → b ≠ e → h.get? b = some o → h'.get? b = some o
  slot : ∀ b o, b ∈ fs → b ∉ ch → b ≠ e → h.get? b = some o → ∃ sl, h'.get? b = some { o with slots := sl }
  new : h.objs.size ≤ T
  exc : ∀ oe vs, h.get? e = some oe → oe.data = .fields vs → h'.get? e = some (oe.mapFields (·.setIfInBounds 1 (.ref T)))
  fly : Fly h' e T fl
section
variable {M : Model} {A : Around} {E : Value → Shared → Prop} {s : Shared} {base : Heap} {env : Env} {outer : List Env} {L e : Addr} {oe : Obj} {vs : Array Value} {Q : Unit → Shared → Prop}
theorem entry_ok {head : Value} {b : Bool} (hfr : A.frames = some (env :: outer)) (hl : s.heap.FunFrames base (env :: outer)) (hf : env.frame = some L) (he : s.heap.get? e = some oe) (hd : oe.data = .fields vs) (hsz : 1 < vs.size)
    (h : ∀ h' T, Noted (frs (env :: outer)) [] e T (rawInt L) s.heap h' → Q () { s with heap := h' }) :
    wpAny M A (do let a ← frameOf env; let pl ← entryPlaceOf L b; let x ← EntryCells.newEntry head a .none (rawInt L) .none pl; setField (.ref e) 1 x) Q E s := by
  have hene : e ∉ frs (env :: outer) := fun hm => by
    obtain ⟨_, o, ho, hnf⟩ := hl.mem hm
    rw [he] at ho
    cases ho
    exact hnf vs hd
  refine wpAny_bind (wpAny_frameOf_fun hfr hl hf fun h1 hs => ?_)
  refine wpAny_bind (wpAny_entryPlaceOf fun pl hpl => ?_)
  unfold EntryCells.newEntry newFields
  refine wpAny_bind (wpAny_newObj_type ?_ (hpl.sizeOk5 _ _ _ _ _))
  have he1 : h1.get? e = some oe := (hs.2.1 e hene).trans he
  generalize hT : ({ cls := .type "traceback", dict := none, data := .fields ([head, .ref L, .none, rawInt L, .none] ++ (if pl.isEmpty then List.replicate 6 Value.none else pl)).toArray } : Obj) = oT
  have he2 := Heap.get?_push_of_some (h := h1) oT he1
  refine wpAny_setField he2 hd hsz (h _ h1.objs.size ?_)
  have hTe : h1.objs.size ≠ e := Nat.ne_of_gt (Heap.lt_size he1)
  have hd3 := Obj.data_mapFields hd (·.setIfInBounds 1 (Value.ref h1.objs.size))
  have he3 := Heap.get?_update_self (Obj.mapFields (·.setIfInBounds 1 (Value.ref h1.objs.size))) he2 (Obj.isFreed_of_fields hd3)
  have hT3 : ((h1.push oT).update e (Obj.mapFields (·.setIfInBounds 1 (Value.ref h1.objs.size)))).get? h1.objs.size = some oT :=
    (Heap.get?_update_other _ _ (Ne.symm hTe)).trans (Heap.get?_push_size h1 (by rw [← hT]; rfl))
  have keep : ∀ b o, b ≠ e → h1.get? b = some o → ((h1.push oT).update e (Obj.mapFields (·.setIfInBounds 1 (Value.ref h1.objs.size)))).get? b = some o := fun b o hb q => by
    rw [Heap.get?_update_other _ _ (Ne.symm hb)]
    exact Heap.get?_push_of_some _ q
  refine ⟨fun b o hb _ hbe q => keep b o hbe ((hs.2.1 b hb).trans q), fun b o hb _ hbe q => ?_, ?_, fun oe' vs' q' d' => ?_, ?_⟩
  · obtain ⟨sl, z⟩ := hs.2.2 b o q
    exact ⟨sl, keep b _ hbe z⟩
  · rw [hs.1]; exact Nat.le_refl _
  · rw [he] at q'; cases q'; exact he3
  · refine ⟨_, _, oT, _, he3, hd3, by simp [hsz], hT3, by rw [← hT], ?_, hTe⟩
    simp
theorem note_new (hfr : A.frames = some (env :: outer)) (hl : s.heap.FunFrames base (env :: outer)) (hf : env.frame = some L) (he : s.heap.get? e = some oe) (hd : oe.data = .fields vs) (h1 : vs[1]? = some .none)
    (h : ∀ h' T, Noted (frs (env :: outer)) [] e T (rawInt L) s.heap h' → Q () { s with heap := h' }) : wpAny M A (noteFrame (.ref e) env) Q E s := by
  unfold noteFrame
  simp only [hf]
  refine wpAny_bind (wpAny_field he hd h1 ?_)
  rw [if_neg (by decide)]
  exact entry_ok hfr hl hf he hd (Array.getElem?_eq_some_iff.mp h1).1 h
theorem flight_none {T : Addr} {fl : Value} (hF : Fly s.heap e T fl) (h : ∀ h', (∀ b o, b ≠ T → s.heap.get? b = some o → h'.get? b = some o) → h'.objs.size = s.heap.objs.size → Fly h' e T .none → Q () { s with heap := h' }) : wpAny M A (setFlight (.ref e) none) Q E s := by
  obtain ⟨oe, vs, oT, ts, he, hd, h1, hT, hdT, h3, hTe⟩ := hF
  have hsz : 3 < ts.size := (Array.getElem?_eq_some_iff.mp h3).1
  have other : ∀ b, b ≠ T → (s.heap.update T (Obj.mapFields (·.setIfInBounds 3 ((none : Option Addr).elim Value.none fun f => rawInt f)))).get? b = s.heap.get? b := fun b hb => Heap.get?_update_other _ _ (Ne.symm hb)
  unfold setFlight
  refine wpAny_bind (wpAny_field he hd h1 ?_)
  rw [if_pos (show (Value.ref T != Value.none) = true from by simp)]
  refine wpAny_setField hT hdT hsz (h _ (fun b o hb q => (other b hb).trans q) (Heap.size_after_update _ _ _) ?_)
  exact ⟨oe, vs, _, _, (other e (Ne.symm hTe)).trans he, hd, h1, Heap.get?_update_self _ hT (Obj.isFreed_of_fields (Obj.data_mapFields hdT _)), Obj.data_mapFields hdT _, by simp [hsz], hTe⟩
/-- both: a frame is left -/
theorem Noted.landed {fs ch : List Addr} {T : Addr} {fl : Value} {h h1 h2 : Heap} (N : Noted fs ch e T fl h h1) (k : ∀ b o, b ≠ T → h1.get? b = some o → h2.get? b = some o) (F : Fly h2 e T .none) : Noted fs ch e T .none h h2 := by
  have nT : ∀ b o, h.get? b = some o → b ≠ T := fun b o q => Nat.ne_of_lt (Nat.lt_of_lt_of_le (Heap.lt_size q) N.new)
  refine ⟨fun b o hb hc hbe q => k b o (nT b o q) (N.keep b o hb hc hbe q), fun b o hb hc hbe q => ?_, N.new, fun oe vs q d => k e _ (nT e oe q) (N.exc oe vs q d), F⟩
  obtain ⟨sl, z⟩ := N.slot b o hb hc hbe q
  exact ⟨sl, k b _ (nT b o q) z⟩
theorem leave_new (hfr : A.frames = some (env :: outer)) (hl : s.heap.FunFrames base (env :: outer)) (hf : env.frame = some L) (he : s.heap.get? e = some oe) (hd : oe.data = .fields vs) (h1 : vs[1]? = some .none)
    (h : ∀ h' T, Noted (frs (env :: outer)) [] e T .none s.heap h' → Q () { s with heap := h' }) : wpAny M A (leaving env (.ref e)) Q E s := by
  unfold leaving
  exact wpAny_bind (note_new hfr hl hf he hd h1 fun h' T N => flight_none (s := { s with heap := h' }) N.fly fun h2 k _ F => h h2 T (N.landed k F))
end
end L2
namespace L2
open PySem PySem.Spec PyProof.Rows
section
variable {X : Cx} {pins : List (Addr × Obj)} {σ : St} {H : Hp} {s : Shared} {e C T : Addr} {od : Option Addr} {raw : Bool} {fl : Value} {h' : Heap} {ch : List Addr}
/-- a frame is noted: what holds behind it -/
theorem Inv.noted (I : Inv X pins σ H s) (q : H e = some (exO raw e C od)) (N : Noted (frs X.stack) ch e T fl s.heap h') (hc : ∀ b ∈ ch, FpOk X pins H b) :
    Inv X pins σ (upd H e (exO false e C od)) { s with heap := h' } := by
  obtain ⟨vs, sl, g, hz, _⟩ := exc_of I.hok q
  have ne : ∀ b, H b = none → b ≠ e := fun b n z => by rw [z, q] at n; cases n
  have tfs : ∀ b o, H b = some o → b ∉ frs X.stack := fun b o z hm => by rw [I.stkFree b hm] at z; cases z
  have tch : ∀ b o, H b = some o → b ∉ ch := fun b o z hm => by rw [(hc b hm).1] at z; cases z
  have hE : IsExc false e C od h' := by
    have := N.exc _ vs g rfl
    refine ⟨vs.setIfInBounds 1 (.ref T), sl, this, by simpa using hz, fun z => by cases z⟩
  refine I.call' (s' := { s with heap := h' }) (ch := ch) rfl ⟨fun b o e' n hf hx => N.keep b o hf hx (ne b n) e', fun b o e' n hf hx => N.slot b o hf hx (ne b n) e', fun b o e' n hx => ?_, fun b o e' hx => ?_, fun b xs e' => ?_, fun b o u e' => ?_, fun b ps e' => ⟨#[], ?_⟩⟩ (fun b o e' => ?_) I.bare fun b hb => ⟨(hc b hb).2.2.2.1, (hc b hb).2.1, (hc b hb).2.2.2.2.1, (hc b hb).2.2.2.2.2⟩
  · rw [upd_ne (ne b n)]; exact n
  · by_cases z : b = e
    · subst z; obtain ⟨vs', sl', g', _⟩ := hE; exact ⟨_, g'⟩
    · by_cases hf : b ∈ frs X.stack
      · obtain ⟨sl', g'⟩ := N.slot b o hf hx z e'; exact ⟨_, g'⟩
      · exact ⟨o, N.keep b o hf hx z e'⟩
  · rw [upd_ne (fun z => by rw [z, q] at e'; cases e')]; exact e'
  · rw [upd_ne (fun z => by rw [z, q] at e'; cases e')]; exact e'
  · rw [upd_ne (fun z => by rw [z, q] at e'; cases e'), e']; simp
  · by_cases z : b = e
    · subst z; rw [upd_same] at e'; cases e'; exact objOk_exc hE
    · rw [upd_ne z] at e'
      refine (I.hok b o e').stay (fun c v hcv g' => ?_) (fun c g' => ?_) fun c xs g' => ?_
      · have hcH : ∃ u, H c = some u := by
          rcases hcv with z | z
          · exact ⟨o, by rw [z]; exact e'⟩
          · exact ⟨_, z⟩
        obtain ⟨u, hu⟩ := hcH
        have hce : c ≠ e := by
          rcases hcv with z' | z'
          · rw [z']; exact z
          · intro z2; rw [z2, q] at z'; cases z'
        exact N.keep c v (tfs c u hu) (tch c u hu) hce g'
      · rw [upd_ne (fun z2 => by rw [z2, q] at g'; cases g')]; exact g'
      · rw [upd_ne (fun z2 => by rw [z2, q] at g'; cases g')]; exact g'
theorem Inv.landed {T : Addr} (I : Inv X pins σ H s) (f : FpOk X pins H T) (k : ∀ b o, b ≠ T → s.heap.get? b = some o → h'.get? b = some o) : Inv X pins σ H { s with heap := h' } :=
  I.turned (it := T) (t' := s.toks) k f.1 f.2.1 f.2.2.2.1 f.2.2.2.2.1 f.2.2.2.2.2
end
/-- how an exception of an own class lies behind a call -/
def CXx (P : Program) (w : World) : CXT := fun outer H s E v s' => ∃ e C od T H', v = .ref e ∧ s'.os = s.os ∧ AllBare s'.gens ∧ Un (frs outer) [] H H' s.heap s'.heap ∧ HOk P w H' s'.heap ∧
  H' e = some (exO false e C od) ∧ s.heap.objs.size ≤ T ∧ H' T = none ∧ Fly s'.heap e T .none ∧ E (.ref C) (some e) H'
/-- what is wanted of exceptions, by the names' values -/
abbrev XS := St → XK
def PassesS (X : Cx) (E : XS) : Prop := ∀ (pins : List (Addr × Obj)) (σ : St) (H : Hp) (s : Shared) (v : Value) (s' : Shared), Inv X pins σ H s → CXx X.prog X.w X.stack H s (E σ) v s' → X.xe v s'
def RaisesS (X : Cx) (E : XS) : Prop := ∀ (pins : List (Addr × Obj)) (σ : St) (H : Hp) (s : Shared) (e C : Addr) (od : Option Addr), Inv X pins σ H s → H e = some (exO true e C od) → E σ (.ref C) (some e) (upd H e (exO false e C od)) → X.xe (.ref e) s
theorem passesN {X : Cx} : PassesS X (fun _ => E0) := fun _ _ _ _ _ _ _ ⟨_, _, _, _, _, _, _, _, _, _, _, _, _, _, h⟩ => h.elim
section
variable {P : Program} {w : World} {K : PySem.W.Frag} {mg : Str → Option Value} {base : Heap} {N : List Str} {qual : Str} {scope : Scope} {f : Addr} {cd : Value} {A : Around} {outer : List Env} {s₀ : Shared} {H₀ : Hp} {E : XK}
theorem raisesB : RaisesS (cxOf (CXx P w) P w K mg base N qual scope f cd A outer s₀ H₀ E) (fun _ => E) := by
  rintro pins σ H s e C od I he hE
  obtain ⟨vs, sl, g, hz, hr⟩ := exc_of I.hok he
  show wpAny _ _ (leaving _ (.ref e)) _ _ _
  refine leave_new I.ok.frames I.stack rfl g rfl (hr rfl) fun h2 T2 Nd => ?_
  have J := I.noted (ch := []) he Nd (fun b hb => by cases hb)
  exact ⟨e, C, od, T2, _, rfl, J.os, J.bare, J.base, J.hok, upd_same, Nat.le_trans I.sz Nd.new, by rw [upd_ne (fun z => by rw [← z] at g; exact absurd (Heap.lt_size g) (Nat.not_lt.mpr Nd.new))]; exact I.hok.fresh Nd.new, Nd.fly, hE⟩
/-- the rule for a def that may raise -/
theorem Fun.okX {x qual : Str} {st : Stmt} {f : Addr} {fd : FuncData} {N ps : List Str} {k : Nat} {sp : Sp} (F : Fun K x qual st f fd) (S : FnScope N ps (defScope st)) (len : ∀ vs H Q E, sp vs H Q E → vs.length = ps.length)
    (hbody : ∀ (cdv : Value) (A : Around) (outer : List Env) (s : Shared) (H : Hp) (vs : List V) (Q : VK) (E : XK), Room k (A.deeper (envOfC qual (defScope st) s.heap.objs.size f cdv)) → sp vs H Q E →
      ∃ t, PSs (cxOf (CXx P w) P w K mg base N qual (defScope st) f cdv A outer s H E) (defBody st) t ∧ t { nx := fun _ H' => Q .non H', rt := Q } (start N vs) H) : FnOk P w K mg base (CXx P w) (k + 1) f fd ps sp := by
  obtain ⟨oc, od, kV, doc, pm, an, cdv, ct, osl, rfl, lk, hcd⟩ := F.ex
  exact fn_of lk hcd S len fun A outer s H vs Q E hr hsp => hbody cdv A outer s H vs Q E hr hsp
end
end L2
namespace L2
open PySem PySem.Spec PyProof.Rows
/-! ### calls that may raise -/
section
variable (P : Program) (w : World) (K : PySem.W.Frag) (mg : Str → Option Value) (base : Heap)
structure DefX (x : Str) (k : Nat) (ps : List Str) (sp : Sp) : Prop where
  ex : ∃ (f : Addr) (fd : FuncData), mg x = some (.ref f) ∧ FnOk P w K mg base (CXx P w) k f fd ps sp ∧ PySem.W.keepIn K (.ref f) = true ∧ Binds K fd ps []
structure MethX (C : Addr) (m : Str) (k : Nat) (ps : List Str) (sp : Sp) : Prop where
  ex : ∃ (f : Addr) (fd : FuncData), Meth K C m f ∧ FnOk P w K mg base (CXx P w) k f fd ps sp ∧ Binds K fd ps []
structure MakeX (x : Str) (C : Addr) (k : Nat) (ps : List Str) (sp : Sp) : Prop where
  ex : ∃ (f : Addr) (fd : FuncData), mg x = some (.ref C) ∧ Mk K C f ∧ FnOk P w K mg base (CXx P w) k f fd ps sp ∧ Binds K fd ps []
/-- an exception's class and its __init__ -/
structure XMk (K : PySem.W.Frag) (C f : Addr) : Prop where
  cls : XCls K C
  init : PySem.W.findIn K (.ref C) "__init__" = some (some (.ref f))
  fn : PySem.W.isFn K (.ref f) = true
  kp : PySem.W.keepIn K (.ref C) = true
structure ExcX (x : Str) (C : Addr) (k : Nat) (ps : List Str) (sp : Sp) : Prop where
  ex : ∃ (f : Addr) (fd : FuncData), mg x = some (.ref C) ∧ XMk K C f ∧ FnOk P w K mg base (CXx P w) k f fd ps sp ∧ Binds K fd ps []
end
def tCallS (sp : Sp) (E : XS) (t : TA) : TE := fun σ H Q => t σ H fun vs H1 => sp vs H1 Q (E σ)
def tMethS (C : Addr) (m : Str) (sp : Sp) (E : XS) (ta : TE) (t : TA) : TE := fun σ H Q => ta σ H fun x H1 => ∃ a dx fs, x = .ref a ∧ H1 a = some (.ins C dx fs) ∧ fs.lookup m = none ∧ t σ H1 fun vs H2 => sp (x :: vs) H2 Q (E σ)
def tMakeS (C : Addr) (sp : Sp) (E : XS) (t : TA) : TE := fun σ H Q => t σ H fun vs H1 => ∀ x dx, H1 x = none → H1 dx = none → dx ≠ x →
  sp (.ref x :: vs) (upd (upd H1 dx (.own x)) x (.ins C dx [])) (fun v H2 => v = .non ∧ Q (.ref x) H2) (E σ)
/-- C(..) of an exception's class -/
def tExc (C : Addr) (sp : Sp) (t : TA) : TE := fun σ H Q => t σ H fun vs H1 => vs.length ≤ sizeLine ∧ ∀ x, H1 x = none → sp (.ref x :: vs) (upd H1 x (exO true x C none)) (fun v H2 => v = .non ∧ Q (.ref x) H2) E0
section
variable {X : Cx} {k : Nat} {f C : Addr} {fd : FuncData} {ps : List Str} {sp : Sp} {E : XS} {x m : Str} {p pos apos : Pos} {e o : Expr} {es : List Expr} {ta : TE} {t : TA}
theorem run_fnS {pins : List (Addr × Obj)} {σ : St} {H : Hp} {s : Shared} {Q : VK} {us : List Value} {vs : List V} (F : FnOk X.prog X.w X.K X.mg X.base (CXx X.prog X.w) k f fd ps sp) (hr : Room k X.A) (hb : Binds X.K fd ps []) (hx : PassesS X E)
    (I : Inv X pins σ H s) (r : Vals vs us) (h : sp vs H Q (E σ)) : wpAny (model X.prog X.w) X.A (call (.ref f) us) (EP X pins σ Q) X.xe s := by
  have hl : us.length = ps.length := by rw [← r.length]; exact F.len _ _ _ _ h
  have hb' := hb s us I.kIn (by rw [List.append_nil]; exact hl)
  rw [List.append_nil] at hb'
  refine wpAny_call (codeAny_mono (F.run X.A X.stack s H ⟨us, []⟩ us vs Q (E σ) hr I.env0 hb' r h) fun r s' hq => ?_)
  cases r with
  | error e => exact hx pins σ H s e s' I hq
  | ok fl =>
    cases fl with
    | ret u => exact I.after hq
    | next => exact False.elim hq
    | brk => exact False.elim hq
    | cont => exact False.elim hq
theorem pe_callS (D : DefX X.prog X.w X.K X.mg X.base x k ps sp) (hx : PassesS X E) (hr : Room k X.A) (hg : Gl X x) (ha : PA X (e :: es) t)
    (hdb : (x == ("__debug__" : Str)) = false := by decide) (he : starEach (e :: es) X.env = (false, eval e X.env) :: starEach es X.env := by rfl) (hpl : (backTo pos (starEach es X.env)).any (·.1) = false := by rfl) :
    PE X (.Call (.Name x p) (e :: es) [] pos) (tCallS sp E t) := by
  obtain ⟨f, fd, m, F, kp, b⟩ := D.ex
  intro pins s σ H Q I h
  refine wpAny_Call_Name_kw (ld_glob I hg m ?_ hdb)
  refine PySem.W.callWith_K (h₀ := X.base) I.ok.mod.kin kp (thn (ha pos pins s σ H _ I h) fun us s1 ⟨vs, H1, I1, r, q⟩ => ⟨I1.kIn, ?_⟩) he hpl
  exact run_fnS F hr b hx I1 r q
theorem run_makeS {pins : List (Addr × Obj)} {σ : St} {H : Hp} {s : Shared} {Q : VK} {us : List Value} {vs : List V} (M : Mk X.K C f) (F : FnOk X.prog X.w X.K X.mg X.base (CXx X.prog X.w) k f fd ps sp) (hr : Room (k + 1) X.A) (hb : Binds X.K fd ps [])
    (hx : PassesS X E) (I : Inv X pins σ H s) (r : Vals vs us)
    (h : ∀ x dx, H x = none → H dx = none → dx ≠ x → sp (.ref x :: vs) (upd (upd H dx (.own x)) x (.ins C dx [])) (fun v H2 => v = .non ∧ Q (.ref x) H2) (E σ)) :
    wpAny (model X.prog X.w) X.A (call (.ref C) us) (EP X pins σ Q) X.xe s := by
  have hq := h (s.heap.objs.size + 1) s.heap.objs.size (I.hok.fresh (Nat.le_succ _)) (I.hok.fresh (Nat.le_refl _)) (Nat.ne_of_lt (Nat.lt_succ_self _))
  have I2 := Inv.made (C := C) I
  have r2 : Vals (V.ref (s.heap.objs.size + 1) :: vs) (Value.ref (s.heap.objs.size + 1) :: us) := .cons rfl r
  have hl : (Value.ref (s.heap.objs.size + 1) :: us).length = ps.length := by
    have e := r2.length
    rw [F.len _ _ _ _ hq] at e
    exact e.symm
  have hb' := hb _ (Value.ref (s.heap.objs.size + 1) :: us) I2.kIn (by rw [List.append_nil]; exact hl)
  rw [List.append_nil] at hb'
  refine wpAny_call (make_map (f := f) I.kIn M.makes M.init (beq_iff_eq.mp M.fn) (codeAny_mono (F.run _ X.stack _ _ ⟨Value.ref (s.heap.objs.size + 1) :: us, []⟩ (Value.ref (s.heap.objs.size + 1) :: us) _ _ (E σ) (hr.make C us [])
    (I2.env0.make C us []) hb' r2 hq) fun r s' hq' => ?_))
  cases r with
  | error e => exact hx pins σ _ _ e s' I2 hq'
  | ok fl =>
    cases fl with
    | ret u =>
      obtain ⟨v, H', I3, rv, ev, q3⟩ := I2.after hq'
      subst ev
      exact ⟨rv, ⟨V.ref (s.heap.objs.size + 1), H', I3, rfl, q3⟩⟩
    | next => exact False.elim hq'
    | brk => exact False.elim hq'
    | cont => exact False.elim hq'
theorem pe_makeS (D : MakeX X.prog X.w X.K X.mg X.base x C k ps sp) (hx : PassesS X E) (hr : Room (k + 1) X.A) (hg : Gl X x) (ha : PA X (e :: es) t)
    (hdb : (x == ("__debug__" : Str)) = false := by decide) (he : starEach (e :: es) X.env = (false, eval e X.env) :: starEach es X.env := by rfl) (hpl : (backTo pos (starEach es X.env)).any (·.1) = false := by rfl) :
    PE X (.Call (.Name x p) (e :: es) [] pos) (tMakeS C sp E t) := by
  obtain ⟨f, fd, m, M, F, b⟩ := D.ex
  intro pins s σ H Q I h
  refine wpAny_Call_Name_kw (ld_glob I hg m ?_ hdb)
  refine PySem.W.callWith_K (h₀ := X.base) I.ok.mod.kin M.kp (thn (ha pos pins s σ H _ I h) fun us s1 ⟨vs, H1, I1, r, q⟩ => ⟨I1.kIn, ?_⟩) he hpl
  exact run_makeS M F hr b hx I1 r q
/-- a new exception, tracked -/
theorem Inv.xmade {pins : List (Addr × Obj)} {σ : St} {H : Hp} {s : Shared} {rest : List Value} (I : Inv X pins σ H s) :
    Inv X pins σ (upd H (s.heap.objs.size + 1) (exO true (s.heap.objs.size + 1) C none)) { s with heap := (s.heap.push (tupNew rest)).push (excNew C s.heap.objs.size) } := by
  refine I.laid (a := s.heap.objs.size + 1) (t' := s.toks) (fun b u q => xkeeps b u q) (Nat.le_succ _) (objOk_exc ⟨_, _, xnew_at, rfl, fun _ => rfl⟩)
theorem run_exc {pins : List (Addr × Obj)} {σ : St} {H : Hp} {s : Shared} {Q : VK} {us : List Value} {vs : List V} (M : XMk X.K C f) (F : FnOk X.prog X.w X.K X.mg X.base (CXx X.prog X.w) k f fd ps sp) (hr : Room (k + 1) X.A) (hb : Binds X.K fd ps [])
    (I : Inv X pins σ H s) (r : Vals vs us) (hlen : vs.length ≤ sizeLine) (h : ∀ x, H x = none → sp (.ref x :: vs) (upd H x (exO true x C none)) (fun v H2 => v = .non ∧ Q (.ref x) H2) E0) :
    wpAny (model X.prog X.w) X.A (call (.ref C) us) (EP X pins σ Q) X.xe s := by
  have hq := h (s.heap.objs.size + 1) (I.hok.fresh (Nat.le_succ _))
  have I2 := Inv.xmade (C := C) (rest := us) I
  have r2 : Vals (V.ref (s.heap.objs.size + 1) :: vs) (Value.ref (s.heap.objs.size + 1) :: us) := .cons rfl r
  have hl : (Value.ref (s.heap.objs.size + 1) :: us).length = ps.length := by
    have e := r2.length
    rw [F.len _ _ _ _ hq] at e
    exact e.symm
  have hb' := hb _ (Value.ref (s.heap.objs.size + 1) :: us) I2.kIn (by rw [List.append_nil]; exact hl)
  rw [List.append_nil] at hb'
  have run := F.run _ X.stack _ _ ⟨Value.ref (s.heap.objs.size + 1) :: us, []⟩ (Value.ref (s.heap.objs.size + 1) :: us) _ _ E0 (hr.make C us []) (I2.env0.make C us []) hb' r2 hq
  obtain ⟨hp, g, d, t, os⟩ := s
  refine xcall_init I.kIn M.cls (by rw [← r.length]; exact hlen) M.init (beq_iff_eq.mp M.fn) (wpAny_call (codeAny_mono run fun r s' hq' => ?_))
  cases r with
  | error e =>
    obtain ⟨_, _, _, _, _, _, _, _, _, _, _, _, _, _, z⟩ := hq'
    exact z.elim
  | ok fl =>
    cases fl with
    | ret u =>
      obtain ⟨v, H', I3, rv, ev, q3⟩ := I2.after hq'
      subst ev
      exact ⟨rv, ⟨V.ref (hp.objs.size + 1), H', I3, rfl, q3⟩⟩
    | next => exact False.elim hq'
    | brk => exact False.elim hq'
    | cont => exact False.elim hq'
theorem pe_exc (D : ExcX X.prog X.w X.K X.mg X.base x C k ps sp) (hr : Room (k + 1) X.A) (hg : Gl X x) (ha : PA X (e :: es) t)
    (hdb : (x == ("__debug__" : Str)) = false := by decide) (he : starEach (e :: es) X.env = (false, eval e X.env) :: starEach es X.env := by rfl) (hpl : (backTo pos (starEach es X.env)).any (·.1) = false := by rfl) :
    PE X (.Call (.Name x p) (e :: es) [] pos) (tExc C sp t) := by
  obtain ⟨f, fd, m, M, F, b⟩ := D.ex
  intro pins s σ H Q I h
  refine wpAny_Call_Name_kw (ld_glob I hg m ?_ hdb)
  refine PySem.W.callWith_K (h₀ := X.base) I.ok.mod.kin M.kp (thn (ha pos pins s σ H _ I h) fun us s1 ⟨vs, H1, I1, r, hlen, q⟩ => ⟨I1.kIn, ?_⟩) he hpl
  exact run_exc M F hr b I1 r hlen q
end
/-! ### raise -/
def sRaise (K : PySem.W.Frag) (te : TE) (E : XS) : TS := fun _ σ H => te σ H fun v H1 => ∃ e C od, v = .ref e ∧ H1 e = some (exO true e C od) ∧ XCls K C ∧ E σ (.ref C) (some e) (upd H1 e (exO false e C od))
section
variable {X : Cx} {x : Expr} {te : TE} {E : XS} {pos : Pos}
theorem raise_ok {M : Model} {A : Around} {E : Value → Shared → Prop} {env : Env} {s : Shared} {x : Sem Value} {Q : Flow → Shared → Prop} (hh : A.handled = none)
    (h : wpAny M A x (fun v s₁ => ∃ e vs sl C od, v = .ref e ∧ s₁.heap.get? e = some ⟨.ref C, od, .fields vs, sl⟩ ∧ vs[1]? = some .none ∧ XObj s₁.heap C ∧ E (.ref e) s₁) E s) :
    wpAny M A (raiseStmt env (some x) none) Q E s := by
  unfold raiseStmt
  refine wpAny_bind (wpAny_mono h (fun v s₁ h₁ => ?_) fun _ _ x => x)
  obtain ⟨e, vs, sl, C, od, rfl, he, h1, hC, hE⟩ := h₁
  obtain ⟨nm, qn, N, bs, bm, sn, sub, ab, col, dd, k0, k1, k2, k3, k5, hC, hb⟩ := hC.ex
  have hcB := own_has (C := C) hb (T := "BaseException") (by decide)
  obtain ⟨hp, g, d, tk, os⟩ := s₁
  repeat (first
    | with_reducible refine wpAny_loadPart_at he ?_
    | with_reducible refine wpAny_loadPart_at hC ?_
    | (with_reducible refine wpAny_isSubtype_exc hC ?_; rw [hcB])
    | with_reducible refine wpAny_field he rfl h1 ?_
    | wp_step)
  exact wpAny_raiseNew_none hh hE
theorem ps_raise (hc : X.calm = true) (hx : RaisesS X E) (he : PE X x te) : PS X (.Raise (some x) none pos) (sRaise X.K te E) := by
  intro pins s σ H D I h
  rw [arm_exec_Raise]
  have hh := I.ok.hd hc
  have key : wpAny (model X.prog X.w) X.A (eval x X.env) (fun v s₁ => ∃ e vs sl C od, v = .ref e ∧ s₁.heap.get? e = some ⟨.ref C, od, .fields vs, sl⟩ ∧ vs[1]? = some .none ∧ XObj s₁.heap C ∧ X.xe (.ref e) s₁) X.xe s := by
    refine thn (he pins s σ H _ I h) fun u s1 ⟨v, H1, I1, rv, e, C, od, ev, eo, hcl, hE⟩ => ?_
    subst ev
    cases (show u = Value.ref e from rv)
    obtain ⟨vs, sl, g, hz, hr⟩ := exc_of I1.hok eo
    exact ⟨e, vs, sl, C, od, rfl, g, hr rfl, hcl.at I1.kIn, hx pins σ H1 s1 e C od I1 eo hE⟩
  exact wpAny_bind (wpAny_standAt (raise_ok hh (wpAny_bind (wpAny_mono key (fun v s₁ h₁ => wpAny_bind (wpAny_standAt (wpAny_pure h₁))) fun _ _ x => x))))
end
end L2
namespace L2
open PySem PySem.Spec PyProof.Rows
/-! ### try .. except C as e -/
section
variable {M : Model} {A : Around} {E : Value → Shared → Prop} {s : Shared} {K : PySem.W.Frag} {e C DC : Addr} {b : Bool}
end
/-- the context of a suite behind except: e is being handled, no exception leaves it -/
abbrev Cx.held (X : Cx) (e : Addr) (pn : List (Addr × Obj)) : Cx := { X with A := X.A.mark (some (.ref e)), calm := false, pn := pn, xe := fun _ _ => False }
/-- .. of a try's body -/
abbrev Cx.tried (X : Cx) (pn : List (Addr × Obj)) (xe : Value → Shared → Prop) : Cx := { X with pn := pn, xe := xe }
section
variable {X : Cx} {pins : List (Addr × Obj)} {σ : St} {H : Hp} {s : Shared} {e : Addr} {xe : Value → Shared → Prop}
theorem Inv.held (I : Inv X pins σ H s) (e : Addr) : Inv (X.held e (X.pn ++ pins)) [] σ H s :=
  ⟨⟨I.ok.mod, I.ok.kind, I.ok.glob, I.ok.blt, I.ok.above, I.ok.inj, I.ok.has, I.ok.cab, (fun z => by cases z), I.ok.frames, I.ok.stk, I.ok.exf, I.ok.bs, I.ok.bsz, I.ok.noex, I.ok.exfs, I.ok.funs, I.ok.frf⟩,
    I.os, I.bare, I.base, I.loc, I.cell, I.free, I.freeC, fun p hp => I.pin p (by simpa using hp), I.hok, I.len⟩
theorem Inv.tried (I : Inv X pins σ H s) : Inv (X.tried (X.pn ++ pins) xe) [] σ H s :=
  ⟨⟨I.ok.mod, I.ok.kind, I.ok.glob, I.ok.blt, I.ok.above, I.ok.inj, I.ok.has, I.ok.cab, I.ok.hd, I.ok.frames, I.ok.stk, I.ok.exf, I.ok.bs, I.ok.bsz, I.ok.noex, I.ok.exfs, I.ok.funs, I.ok.frf⟩,
    I.os, I.bare, I.base, I.loc, I.cell, I.free, I.freeC, fun p hp => I.pin p (by simpa using hp), I.hok, I.len⟩
end
/-- the handlers' reading: the exception, its class, the ends -/
abbrev TH := Addr → Addr → TS
def PH (X : Cx) (hs : List ExceptHandler) (th : TH) : Prop :=
  ∀ (pins : List (Addr × Obj)) (s : Shared) (σ : St) (H : Hp) (D : Ends) (e C : Addr) (od : Option Addr) (T : Addr), Inv X pins σ H s → H e = some (exO false e C od) → Fly s.heap e T .none → FpOk X pins H T → th e C D σ H →
    wpAny (model X.prog X.w) X.A (handleBy (.ref e) X.env hs) (SP X pins D) X.xe s
def hNil : TH := fun _ _ _ _ _ => False
/-- except C as n: .. -/
def hAs (K : PySem.W.Frag) (DC : Addr) (i : Nat) (ts : Addr → List (Addr × Obj) → TS) (tr : TH) : TH := fun e C D σ H => ∃ b, PySem.W.mroIn K C (.ref DC) = some b ∧ if b = true then
  ∀ pn, ts e pn { nx := fun σ' H' => D.nx (σ'.set i none) H', rt := D.rt, bk := fun σ' H' => D.bk (σ'.set i none) H', ct := fun σ' H' => D.ct (σ'.set i none) H' } (σ.set i (some (.ref e))) H else tr e C D σ H
/-- except C: .. -/
def hPl (K : PySem.W.Frag) (DC : Addr) (ts : Addr → List (Addr × Obj) → TS) (tr : TH) : TH := fun e C D σ H => ∃ b, PySem.W.mroIn K C (.ref DC) = some b ∧ if b = true then (∀ pn, ts e pn D σ H) else tr e C D σ H
section
variable {X : Cx} {x n : Str} {i : Nat} {DC : Addr} {np pos : Pos} {b0 : Stmt} {suite : List Stmt} {rest : List ExceptHandler} {ts : Addr → List (Addr × Obj) → TS} {tr : TH}
/-- try: .. except .. -/
def tTry (tb : List (Addr × Obj) → (Value → Shared → Prop) → XS → TS) (th : TH) : TS := fun D σ H => ∀ pn xe, tb pn xe (fun σ' cls oe H' => ∃ e C, cls = .ref C ∧ oe = some e ∧ th e C D σ' H') D σ H
end
end L2
namespace L2
open PySem PySem.Spec PyProof.Rows
theorem cxx_no {P : Program} {w : World} {o : List Env} {H : Hp} {s s' : Shared} {e : Value} (h : CXx P w o H s (fun _ _ _ => False) e s') : False := by
  obtain ⟨_, _, _, _, _, _, _, _, _, _, _, _, _, _, z⟩ := h
  exact z
/-- the promise of an exception's __init__, with one value, with two -/
def sp_x1 (C : Addr) (f : Str) : Sp := fun vs H Q _ => ∃ p y, vs = [.ref p, y] ∧ H p = some (exO true p C none) ∧ ∀ dx, H dx = none → Q .non (upd (upd H dx (xdO dx [(f, y)])) p (exO true p C (some dx)))
def sp_x2 (C : Addr) (f g : Str) : Sp := fun vs H Q _ => ∃ p y z, vs = [.ref p, y, z] ∧ H p = some (exO true p C none) ∧ ∀ dx, H dx = none → Q .non (upd (upd H dx (xdO dx [(f, y), (g, z)])) p (exO true p C (some dx)))
section
variable {K : PySem.W.Frag} {C : Addr} {f g : Str} {y z : V} {H1 : Hp} {E : XK}
end
end L2
namespace L2
open PySem
/-! ### little things -/
theorem upd_none {H : Hp} {a b : Addr} {o : HO} (h : upd H a o b = none) : H b = none ∧ b ≠ a := by
  unfold upd at h
  split at h
  · cases h
  · exact ⟨h, by assumption⟩
theorem putF_ne {f g : Str} {v x : V} {r : List (Str × V)} (h : ¬ g = f) : putF f v ((g, x) :: r) = (g, x) :: putF f v r := by
  show (if g = f then _ else _) = _
  rw [if_neg h]
/-- all but the addresses of F is as it was -/
def Keep (F : List Addr) (H H' : Hp) : Prop := ∀ b o, H b = some o → b ∉ F → H' b = some o
theorem Keep.of_same {F : List Addr} {H H' : Hp} (h : Same H H') : Keep F H H' := fun b o e _ => h b o e
theorem Keep.trans {F G : List Addr} {H H1 H2 : Hp} (a : Keep F H H1) (b : Keep G H1 H2) : Keep (F ++ G) H H2 := fun c o e hc => b c o (a c o e fun z => hc (List.mem_append_left _ z)) fun z => hc (List.mem_append_right _ z)
theorem keep_upd {F : List Addr} {H H' : Hp} {p : Addr} {o : HO} (s : Keep F H H') (h : p ∈ F ∨ H p = none) : Keep F H (upd H' p o) := fun b u e hb => by
  rw [upd_ne]
  · exact s b u e hb
  · rintro rfl
    rcases h with h | h
    · exact hb h
    · rw [h] at e; cases e
theorem Keep.refl {F : List Addr} {H : Hp} : Keep F H H := fun _ _ e _ => e
/-- lists of numbers at addresses -/
structure Rows (H : Hp) (L : List Addr) (xss : List (List Int)) : Prop where
  len : L.length = xss.length
  get : ∀ (i : Nat) a xs, L[i]? = some a → xss[i]? = some xs → H a = some (.lst (xs.map V.int))
theorem Rows.mono {H H' : Hp} {L : List Addr} {xss : List (List Int)} (R : Rows H L xss) (h : ∀ a ∈ L, ∀ o, H a = some o → H' a = some o) : Rows H' L xss :=
  ⟨R.len, fun i a xs e1 e2 => h a (List.mem_of_getElem? e1) _ (R.get i a xs e1 e2)⟩
theorem Rows.snoc {H : Hp} {L : List Addr} {xss : List (List Int)} (R : Rows H L xss) {a : Addr} {xs : List Int} (h : H a = some (.lst (xs.map V.int))) : Rows H (L ++ [a]) (xss ++ [xs]) :=
  ⟨by simp [R.len], fun i b ys e1 e2 => by
    have l := R.len
    by_cases hi : i < L.length
    · rw [List.getElem?_append_left hi] at e1
      rw [List.getElem?_append_left (by omega)] at e2
      exact R.get i b ys e1 e2
    · rw [List.getElem?_append_right (by omega)] at e1
      rw [List.getElem?_append_right (by omega)] at e2
      have hi2 : i - L.length = 0 := by
        have := (List.getElem?_eq_some_iff.mp e1).1
        simp at this; omega
      rw [hi2] at e1
      rw [show i - xss.length = 0 by omega] at e2
      have e1 : a = b := by simpa using e1
      have e2 : xs = ys := by simpa using e2
      rw [← e1, ← e2]; exact h⟩
theorem Rows.at_ {H : Hp} {L : List Addr} {xss : List (List Int)} (R : Rows H L xss) {i : Nat} {xs : List Int} (h : xss[i]? = some xs) : ∃ a, L[i]? = some a ∧ a ∈ L ∧ H a = some (.lst (xs.map V.int)) := by
  have hi : i < L.length := by rw [R.len]; exact (List.getElem?_eq_some_iff.mp h).1
  exact ⟨L[i], List.getElem?_eq_getElem hi, List.getElem_mem hi, R.get i _ xs (List.getElem?_eq_getElem hi) h⟩
theorem Rows.here {H : Hp} {L : List Addr} {xss : List (List Int)} (R : Rows H L xss) : ∀ a ∈ L, ∃ o, H a = some o := fun a ha => by
  obtain ⟨i, hi⟩ := List.mem_iff_getElem?.mp ha
  have hl : i < xss.length := by rw [← R.len]; exact (List.getElem?_eq_some_iff.mp hi).1
  exact ⟨_, R.get i a _ hi (List.getElem?_eq_getElem hl)⟩
/-- changes in the heap: a list of pairs -/
structure ChAt (H : Hp) (L : List V) (chs : List (Int × Int)) : Prop where
  len : L.length = chs.length
  get : ∀ (i : Nat) v, L[i]? = some v → ∃ t r, v = V.ref t ∧ chs[i]? = some r ∧ H t = some (.tup [.int r.1, .int r.2])
theorem ChAt.nil {H : Hp} : ChAt H [] [] := ⟨rfl, fun i v e => by simp at e⟩
theorem ChAt.mono {H H' : Hp} {L : List V} {chs : List (Int × Int)} (R : ChAt H L chs) (h : ∀ t xs, H t = some (.tup xs) → H' t = some (.tup xs)) : ChAt H' L chs :=
  ⟨R.len, fun i v e => let ⟨t, r, a, b, c⟩ := R.get i v e; ⟨t, r, a, b, h t _ c⟩⟩
theorem ChAt.snoc {H : Hp} {L : List V} {chs : List (Int × Int)} (R : ChAt H L chs) {t : Addr} {r : Int × Int} (h : H t = some (.tup [.int r.1, .int r.2])) : ChAt H (L ++ [.ref t]) (chs ++ [r]) :=
  ⟨by simp [R.len], fun i v e => by
    by_cases hi : i < L.length
    · rw [List.getElem?_append_left hi] at e
      obtain ⟨t, r, a, b, c⟩ := R.get i v e
      exact ⟨t, r, a, by rw [List.getElem?_append_left (by rw [← R.len]; exact hi)]; exact b, c⟩
    · rw [List.getElem?_append_right (by omega)] at e
      have hi2 : i - L.length = 0 := by
        have := (List.getElem?_eq_some_iff.mp e).1
        simp at this; omega
      rw [hi2] at e
      have e : V.ref t = v := by simpa using e
      refine ⟨t, r, e.symm, ?_, h⟩
      rw [List.getElem?_append_right (by rw [← R.len]; omega), ← R.len, hi2]; rfl⟩
/-! ### a Days object -/
def fl (wd ls : Int) (ta sa : Addr) : List (Str × V) := [("wide", .int wd), ("last", .int ls), ("tables", .ref ta), ("set_places", .ref sa)]
theorem s1 : ¬ (("wide" : Str) = "last") := by decide +kernel
theorem s2 : ¬ (("wide" : Str) = "tables") := by decide +kernel
theorem s3 : ¬ (("wide" : Str) = "set_places") := by decide +kernel
theorem s4 : ¬ (("last" : Str) = "tables") := by decide +kernel
theorem s5 : ¬ (("last" : Str) = "set_places") := by decide +kernel
theorem s6 : ¬ (("tables" : Str) = "set_places") := by decide +kernel
/-- the first thing wrong with a change: a place (true), a block (false) -/
def badC (wd : Nat) (c : Int × Int) : Option (Bool × Int) := if c.1 < 0 ∨ (wd : Int) ≤ c.1 then some (true, c.1) else if c.2 < 0 ∨ 18446744073709551615 < c.2 then some (false, c.2) else none
def firstBad (wd : Nat) (chs : List (Int × Int)) : Option (Bool × Int) := chs.findSome? (badC wd)
/-- the table of the next day -/
def nextT (tab : List Int) (chs : List (Int × Int)) : List Int := chs.foldl (fun t c => t.set c.1.toNat c.2) tab
/-- a row of days stands at p; its parts' addresses -/
structure DaysAt (C : Addr) (H : Hp) (p ta sa : Addr) (TL SL : List Addr) (wd : Nat) (tabs sets : List (List Int)) : Prop where
  ob : ∃ dx, H p = some (.ins C dx (fl (wd : Int) ((tabs.length : Int) - 1) ta sa))
  tl : H ta = some (.lst (TL.map V.ref))
  sl : H sa = some (.lst (SL.map V.ref))
  tls : Rows H TL tabs
  sls : Rows H SL sets
  nd : (p :: ta :: sa :: (TL ++ SL)).Nodup
  ne : tabs.length ≠ 0
  lens : sets.length = tabs.length
  wds : ∀ t ∈ tabs, t.length = wd
  w1 : 0 < wd
  w2 : wd ≤ 40
abbrev foot (p ta sa : Addr) (TL SL : List Addr) : List Addr := p :: ta :: sa :: (TL ++ SL)
section
variable {C : Addr} {H H' : Hp} {p ta sa : Addr} {TL SL : List Addr} {wd : Nat} {tabs sets : List (List Int)}
theorem DaysAt.here (D : DaysAt C H p ta sa TL SL wd tabs sets) : ∀ b ∈ foot p ta sa TL SL, ∃ o, H b = some o := by
  intro b hb
  simp only [foot, List.mem_cons, List.mem_append] at hb
  obtain ⟨dx, ob⟩ := D.ob
  rcases hb with rfl | rfl | rfl | hb | hb
  · exact ⟨_, ob⟩
  · exact ⟨_, D.tl⟩
  · exact ⟨_, D.sl⟩
  · exact D.tls.here b hb
  · exact D.sls.here b hb
theorem DaysAt.mono (D : DaysAt C H p ta sa TL SL wd tabs sets) (h : ∀ b ∈ foot p ta sa TL SL, ∀ o, H b = some o → H' b = some o) : DaysAt C H' p ta sa TL SL wd tabs sets := by
  obtain ⟨dx, ob⟩ := D.ob
  exact ⟨⟨dx, h _ (by simp [foot]) _ ob⟩, h _ (by simp [foot]) _ D.tl, h _ (by simp [foot]) _ D.sl, D.tls.mono fun a ha => h a (by simp [foot, ha]), D.sls.mono fun a ha => h a (by simp [foot, ha]), D.nd, D.ne, D.lens, D.wds, D.w1, D.w2⟩
theorem DaysAt.same (D : DaysAt C H p ta sa TL SL wd tabs sets) (h : Same H H') : DaysAt C H' p ta sa TL SL wd tabs sets := D.mono fun b _ o e => h b o e
theorem DaysAt.fresh (D : DaysAt C H p ta sa TL SL wd tabs sets) {a : Addr} (h : H a = none) : a ∉ foot p ta sa TL SL := fun hb => by
  obtain ⟨o, e⟩ := D.here a hb
  rw [h] at e; cases e
theorem DaysAt.lists (D : DaysAt C H p ta sa TL SL wd tabs sets) {b : Addr} (hb : b ∈ foot p ta sa TL SL) : (∃ dx fs, H b = some (.ins C dx fs)) ∨ ∃ xs, H b = some (.lst xs) := by
  simp only [foot, List.mem_cons, List.mem_append] at hb
  obtain ⟨dx, ob⟩ := D.ob
  have rw_ : ∀ {L : List Addr} {xss : List (List Int)}, Rows H L xss → b ∈ L → ∃ xs, H b = some (.lst xs) := fun {L xss} R hm => by
    obtain ⟨i, hi⟩ := List.mem_iff_getElem?.mp hm
    have hl : i < xss.length := by rw [← R.len]; exact (List.getElem?_eq_some_iff.mp hi).1
    exact ⟨_, R.get i b _ hi (List.getElem?_eq_getElem hl)⟩
  rcases hb with rfl | rfl | rfl | hb | hb
  · exact .inl ⟨dx, _, ob⟩
  · exact .inr ⟨_, D.tl⟩
  · exact .inr ⟨_, D.sl⟩
  · exact .inr (rw_ D.tls hb)
  · exact .inr (rw_ D.sls hb)
/-- a row that other doings leave alone -/
theorem DaysAt.apart {F : List Addr} (D : DaysAt C H p ta sa TL SL wd tabs sets) (k : Keep F H H') (h : ∀ b ∈ foot p ta sa TL SL, b ∉ F) : DaysAt C H' p ta sa TL SL wd tabs sets := D.mono fun b hb o e => k b o e (h b hb)
end
end L2
namespace L2
open PySem PySem.Spec PyProof.Rows
/-! ### texts -/
def rSlS : V → Option Int → Option Int → Hp → VK → Prop := fun x lo hi H Q => ∃ z, x = .str z ∧ z.length ≤ sizeLine ∧ Q (.str (Txt.slice z lo hi)) H
section
variable {X : Cx}
end
/-! ### for c in text -/
def Itx (x : Str) : It := ⟨fun i _ => i < x.cps.size, fun i H v H' => H' = H ∧ ∃ c, x.cps[i]? = some c ∧ v = .str ⟨#[c]⟩, fun i _ => x.cps.size ≤ i⟩
def iStr (tl : TE) : TI := fun σ H R => tl σ H fun x H1 => ∃ z, x = .str z ∧ R (Itx z) H1
/-! ### all([..]) of truths -/
def blOf : V → Bool
  | .bl b => b
  | _ => false
end L2
namespace L2
open PySem PySem.Spec PyProof.Rows
/-! ### words that write a number -/
abbrev FIGS : Str := Str.ofString "0123456789"
def figB (c : Nat) : Bool := !(Builtin.Str.occurrences FIGS ⟨#[c]⟩ 0 FIGS.length 1).isEmpty
def isNum (z : Str) : Bool := z.cps.toList.all figB
def okW (z : Str) : Bool := decide (1 ≤ z.length) && decide (z.length ≤ 20) && (decide (z.length = 1) || !decide (z.cps.toList[0]? = some 48)) && isNum z
def intOf (z : Str) : Int := (intText? z).getD 0
theorem ExcAt.same {H H' : Hp} {e C : Addr} {fs : List (Str × V)} (h : ExcAt H e C fs) (s : Same H H') : ExcAt H' e C fs := by
  obtain ⟨raw, od, h1, h2⟩ := h
  refine ⟨raw, od, s _ _ h1, ?_⟩
  cases od with
  | none => exact h2
  | some dx => exact ⟨s _ _ h2.1, h2.2⟩
end L2
namespace L2
open PySem PySem.Spec PyProof.Rows
/-! ### an exception of a class without __init__ -/
section
variable {prog : Program} {w : World} {A : Around} {E : Value → Shared → Prop} {h : Heap} {g : Array GenState} {d : Drawn} {t : Nat} {os : OsState} {K : PySem.W.Frag} {C f : Addr}
variable {nm q : Str} {N : Addr} {bs bm : List Value} {sn : List Str} {sub : List Value} {ab : Bool} {col : Option Bool} {dd : Option Addr} {k0 k1 k2 k3 k5 : Option Value}
end
/-- C() of an exception's class -/
def tExc0 (C : Addr) : TE := fun σ H Q => ∀ x, H x = none → Q (.ref x) (upd H x (exO true x C none))
section
variable {C : Addr} {f g : Str} {y z : V} {H1 : Hp} {Q : VK}
end
end L2
namespace L2
open PySem PySem.Spec PyProof.Rows
/-! ### an exception that passes a comprehension -/
section
variable {M : Model} {A : Around} {E : Value → Shared → Prop} {s : Shared} {base : Heap} {env : Env} {outer : List Env} {L e : Addr} {Q : Unit → Shared → Prop}
end
/-- an exception in flight leaves as E wants -/
def PassesI (X : Cx) (E : XS) : Prop := ∀ (pins : List (Addr × Obj)) (σ : St) (H : Hp) (s : Shared) (e C : Addr) (od : Option Addr) (T : Addr) (fl : Value), Inv X pins σ H s → H e = some (exO false e C od) → FpOk X pins H T → Fly s.heap e T fl → E σ (.ref C) (some e) H → X.xe (.ref e) s
section
variable {P : Program} {w : World} {K : PySem.W.Frag} {mg : Str → Option Value} {base : Heap} {N : List Str} {qual : Str} {scope : Scope} {f : Addr} {cd : Value} {A : Around} {outer : List Env} {s₀ : Shared} {H₀ : Hp} {E : XK}
end
theorem Fly.but {h h' : Heap} {e T C : Addr} {fl : Value} (F : Fly h e T fl) (hs : Heap.SameBut C h h') (n1 : e ≠ C) (n2 : T ≠ C) : Fly h' e T fl := by
  obtain ⟨oe, vs, oT, ts, he, hd, h1, hT, hdT, h3, hTe⟩ := F
  exact ⟨oe, vs, oT, ts, hs.extBut _ _ n1 he, hd, h1, hs.extBut _ _ n2 hT, hdT, h3, hTe⟩
section
variable {X : Cx} {scope : Scope} {N : List Str} {k : Nat} {cap : List Nat} {tg iter elt : Expr} {ifs : List Expr} {wi : TI} {g : TG} {tt : TT} {te : TE} {pos : Pos}
end
end L2
namespace L2
open PySem PySem.Spec PyProof.Rows
/-! ### defs with defaults, a base class's method by the class's name, two classes for one call -/
/-- a def whose defaults are dV -/
structure FunD (K : PySem.W.Frag) (x qual : Str) (st : Stmt) (f : Addr) (fd : FuncData) (dV : Value) : Prop where
  ex : ∃ (oc : Value) (od : Option Addr) (kV doc pm : Value) (an : Option Addr) (cdv ct : Value) (osl : Array (Option Value)),
    fd = PySem.W.fnOf x qual (defArgs st) (defBody st) (defScope st) dV kV doc pm an cdv ct ∧ K.lookup f = some ⟨oc, od, .func fd, osl⟩ ∧ PySem.W.codeIn K cdv qual = true
  kp : PySem.W.keepIn K (.ref f) = true
section
variable {P : Program} {w : World} {K : PySem.W.Frag} {mg : Str → Option Value} {base : Heap}
theorem FunD.okX {x qual : Str} {st : Stmt} {f : Addr} {fd : FuncData} {dV : Value} {N ps : List Str} {k : Nat} {sp : Sp} (F : FunD K x qual st f fd dV) (S : FnScope N ps (defScope st)) (len : ∀ vs H Q E, sp vs H Q E → vs.length = ps.length)
    (hbody : ∀ (cdv : Value) (A : Around) (outer : List Env) (s : Shared) (H : Hp) (vs : List V) (Q : VK) (E : XK), Room k (A.deeper (envOfC qual (defScope st) s.heap.objs.size f cdv)) → sp vs H Q E →
      ∃ t, PSs (cxOf (CXx P w) P w K mg base N qual (defScope st) f cdv A outer s H E) (defBody st) t ∧ t { nx := fun _ H' => Q .non H', rt := Q } (start N vs) H) : FnOk P w K mg base (CXx P w) (k + 1) f fd ps sp := by
  obtain ⟨oc, od, kV, doc, pm, an, cdv, ct, osl, rfl, lk, hcd⟩ := F.ex
  exact fn_of lk hcd S len fun A outer s H vs Q E hr hsp => hbody cdv A outer s H vs Q E hr hsp
/-- every call of it, the last ds.length values being the defaults' -/
theorem FunD.binds {x qual : Str} {st : Stmt} {f T : Addr} {fd : FuncData} {ps : List Str} {o : Obj} {its : Array Value} {n : Nat} {ds : List Value} (F : FunD K x qual st f fd (.ref T)) (ho : K.lookup T = some o) (hs : o.data = .seq its n)
    (h : ∀ (kV doc pm : Value) (an : Option Addr) (cdv ct : Value) (us : List Value), us.length + ds.length = ps.length → ∃ k : Option (Array Value) → Sem (List (Str × Value)),
      bindArgs (PySem.W.fnOf x qual (defArgs st) (defBody st) (defScope st) (.ref T) kV doc pm an cdv ct) ⟨us, []⟩ = seqItems? (.ref T) >>= k ∧ k (some its) = pure (ps.zip (us ++ ds))) : Binds K fd ps ds := by
  obtain ⟨oc, od, kV, doc, pm, an, cdv, ct, osl, rfl, lk, hcd⟩ := F.ex
  intro s us X hl
  obtain ⟨k, h1, h2⟩ := h kV doc pm an cdv ct us (by rw [← List.length_append]; exact hl)
  exact PySem.W.binds_K X rfl ho hs h1 h2
end
section
variable (P : Program) (w : World) (K : PySem.W.Frag) (mg : Str → Option Value) (base : Heap)
structure DefXd (x : Str) (k : Nat) (ps : List Str) (ds : List Value) (sp : Sp) : Prop where
  ex : ∃ (f : Addr) (fd : FuncData), mg x = some (.ref f) ∧ FnOk P w K mg base (CXx P w) k f fd ps sp ∧ PySem.W.keepIn K (.ref f) = true ∧ Binds K fd ps ds
structure MakeXd (x : Str) (C : Addr) (k : Nat) (ps : List Str) (ds : List Value) (sp : Sp) : Prop where
  ex : ∃ (f : Addr) (fd : FuncData), mg x = some (.ref C) ∧ Mk K C f ∧ FnOk P w K mg base (CXx P w) k f fd ps sp ∧ Binds K fd ps ds
/-- the function that stands in the class C under m -/
structure ClsFn (C : Addr) (m : Str) (f : Addr) : Prop where
  ga : PySem.W.specialIn K (.ref C) "__getattribute__" = some (some (.builtin "type.__getattribute__"))
  rd : PySem.W.readsIn K C (.type "type") = true
  fc : PySem.W.findCls K (.ref C) (.type "type") m = some (.val (.ref f))
  kp : PySem.W.keepIn K (.ref f) = true
structure ClsX (x : Str) (C : Addr) (m : Str) (k : Nat) (ps : List Str) (sp : Sp) : Prop where
  ex : ∃ (f : Addr) (fd : FuncData), mg x = some (.ref C) ∧ ClsFn K C m f ∧ FnOk P w K mg base (CXx P w) k f fd ps sp ∧ Binds K fd ps []
end
def tCallSd (sp : Sp) (E : XS) (dvs : List V) (t : TA) : TE := fun σ H Q => t σ H fun vs H1 => sp (vs ++ dvs) H1 Q (E σ)
def tMakeSd (C : Addr) (sp : Sp) (E : XS) (dvs : List V) (t : TA) : TE := fun σ H Q => t σ H fun vs H1 => ∀ x dx, H1 x = none → H1 dx = none → dx ≠ x →
  sp (.ref x :: (vs ++ dvs)) (upd (upd H1 dx (.own x)) x (.ins C dx [])) (fun v H2 => v = .non ∧ Q (.ref x) H2) (E σ)
def tEither (t1 t2 : TE) : TE := fun σ H Q => t1 σ H Q ∨ t2 σ H Q
section
variable {X : Cx} {k : Nat} {f C : Addr} {fd : FuncData} {ps : List Str} {sp : Sp} {E : XS} {x m : Str} {p pos apos : Pos} {e o : Expr} {es : List Expr} {ta : TE} {t : TA} {ds : List Value} {dvs : List V}
theorem pe_or2 {t1 t2 : TE} (h1 : PE X e t1) (h2 : PE X e t2) : PE X e (tEither t1 t2) := fun pins s σ H Q I h => h.elim (h1 pins s σ H Q I) (h2 pins s σ H Q I)
end
end L2
namespace L2
open PySem PySem.Spec PyProof.Rows
/-! ### for a, b in zip(t, l): a tuple (or a list) and a list that the body leaves as they are -/
/-- an iterator over a list or a tuple, at its k-th item -/
def Src (i l : Addr) (its : Array Value) (k : Nat) (h : Heap) : Prop := (h.IsListIter i l k ∧ h.IsList l its) ∨ (h.IsTupleIter i l k ∧ h.IsTuple l its)
theorem Src.mv {i l : Addr} {its : Array Value} {k : Nat} {h h' : Heap} (x : Src i l its k h) (e1 : ∀ o, h.get? i = some o → h'.get? i = some o) (e2 : ∀ o, h.get? l = some o → h'.get? l = some o) : Src i l its k h' := by
  rcases x with ⟨⟨o, a, b⟩, ⟨p, c, d⟩⟩ | ⟨⟨o, a, b⟩, ⟨p, c, d⟩⟩
  · exact .inl ⟨⟨o, e1 o a, b⟩, ⟨p, e2 p c, d⟩⟩
  · exact .inr ⟨⟨o, e1 o a, b⟩, ⟨p, e2 p c, d⟩⟩
theorem Src.lt {i l : Addr} {its : Array Value} {k : Nat} {h : Heap} (x : Src i l its k h) : i < h.objs.size := by
  rcases x with ⟨⟨o, a, b⟩, _⟩ | ⟨⟨o, a, b⟩, _⟩ <;> exact Heap.lt_size a
theorem Src.rec {i l : Addr} {its : Array Value} {k : Nat} {h : Heap} (x : Src i l its k h) : ∃ o, h.get? i = some o ∧ ∀ v, o.data ≠ .cell v := by
  rcases x with ⟨⟨o, a, _, d⟩, _⟩ | ⟨⟨o, a, _, d⟩, _⟩ <;> exact ⟨o, a, fun v q => by rw [d] at q; cases q⟩
section
variable {prog : Program} {w : World} {A : Around} {E : Value → Shared → Prop} {s : Shared} {i l : Addr} {its : Array Value} {k : Nat}
theorem tup_next {x : Value} {Q : Value → Shared → Prop} (h1 : s.heap.IsTupleIter i l k) (h2 : s.heap.IsTuple l its) (hx : its[k]? = some x) (hQ : ∀ h', h'.IsTupleIter i l (k + 1) → Heap.SameBut i s.heap h' → Q x { s with heap := h' }) :
    wpAny (model prog w) A (Builtin.SmallTypes.nextOf (.ref i)) Q E s := by
  obtain ⟨o, ho, hc, hd⟩ := id h1
  obtain ⟨ot, hot, _, nt, hdt⟩ := h2
  have S := PySem.F.slot_tuple_iterator_next
  unfold Builtin.SmallTypes.nextOf
  refine wpAny_bind (wpAny_callSpecial?_slot (name := Str.ofString "__next__") h1.typeIs S (wpAny_call_entry S h1.typeIs PySem.F.entry_tuple_iterator_next ?_ (PySem.F.args_tuple_iterator_next_1 _)))
  show wpAny _ _ (field (Value.ref i) 0 >>= _) _ _ s
  refine wpAny_bind (wpAny_field ho hd (x := Value.ref l) rfl ?_)
  show wpAny _ _ (if (Value.ref l == .none) = true then _ else _) _ _ s
  rw [if_neg (by simp)]
  show wpAny _ _ (field (Value.ref i) 1 >>= _) _ _ s
  refine wpAny_bind (wpAny_field ho hd (x := Value.int k 0) rfl ?_)
  show wpAny _ _ (seqItems? (Value.ref l) >>= _) _ _ s
  refine wpAny_bind (wpAny_seqItems hot hdt ?_)
  simp only [Int.toNat_natCast, hx]
  refine wpAny_bind (wpAny_setField ho hd (by simp) (wpAny_pure ⟨x, rfl, wpAny_pure (hQ _ ⟨_, Heap.get?_update_self _ ho (Obj.isFreed_of_fields (Obj.data_mapFields hd _)), (Obj.cls_mapFields ..).trans hc, ?_⟩ (Heap.SameBut.update ..))⟩))
  rw [Obj.data_mapFields hd]
  simp [rawInt]
theorem tup_end {Q : Value → Shared → Prop} (hh : A.handled = none) (h1 : s.heap.IsTupleIter i l k) (h2 : s.heap.IsTuple l its) (hx : its[k]? = none) (hE : ∀ h' e, Heap.ExtBut i s.heap h' → (∃ o, h'.get? e = some o ∧ o.cls = .type "StopIteration") → E (.ref e) { s with heap := h' }) :
    wpAny (model prog w) A (Builtin.SmallTypes.nextOf (.ref i)) Q E s := by
  obtain ⟨o, ho, hc, hd⟩ := id h1
  obtain ⟨ot, hot, _, nt, hdt⟩ := h2
  have S := PySem.F.slot_tuple_iterator_next
  unfold Builtin.SmallTypes.nextOf
  refine wpAny_bind (wpAny_callSpecial?_slot (name := Str.ofString "__next__") h1.typeIs S (wpAny_call_entry S h1.typeIs PySem.F.entry_tuple_iterator_next ?_ (PySem.F.args_tuple_iterator_next_1 _)))
  show wpAny _ _ (field (Value.ref i) 0 >>= _) _ _ s
  refine wpAny_bind (wpAny_field ho hd (x := Value.ref l) rfl ?_)
  show wpAny _ _ (if (Value.ref l == .none) = true then _ else _) _ _ s
  rw [if_neg (by simp)]
  show wpAny _ _ (field (Value.ref i) 1 >>= _) _ _ s
  refine wpAny_bind (wpAny_field ho hd (x := Value.int k 0) rfl ?_)
  show wpAny _ _ (seqItems? (Value.ref l) >>= _) _ _ s
  refine wpAny_bind (wpAny_seqItems hot hdt ?_)
  simp only [Int.toNat_natCast, hx]
  refine wpAny_bind (wpAny_rule (wpAny_bind (wpAny_setField ho hd (by simp) ?_)))
  show wpAny _ _ (newExc (Value.type "StopIteration") [] >>= _) _ _ _
  refine wpAny_bind ?_
  simp only [newExc, newTuple]
  refine wpAny_bind (wpAny_newObj_type ?_ (by size_fits))
  refine wpAny_bind (m := firstArgMember _ _) (wpAny_of_eq (a := Value.none) (by simp only [firstArgMember]; rfl) (wpAny_newObj_type ?_ (by size_fits)))
  simp only [raiseNew]
  refine wpAny_bind (wpAny_handled ?_)
  rw [show A.in1.handled = none from hh]
  exact wpAny_bind (wpAny_pure (wpAny_throw (hE _ _ (((Heap.SameBut.update ..).extBut.push _).push _) ⟨_, Heap.get?_push_size _ rfl, rfl⟩)))
theorem Src.item {x : Value} {Q : Value → Shared → Prop} (S : Src i l its k s.heap) (ne : l ≠ i) (hx : its[k]? = some x) (hQ : ∀ h', Src i l its (k + 1) h' → Heap.SameBut i s.heap h' → Q x { s with heap := h' }) :
    wpAny (model prog w) A (Builtin.SmallTypes.nextOf (.ref i)) Q E s := by
  rcases S with ⟨a, b⟩ | ⟨a, b⟩
  · exact wpAny_nextOf_list_item a b hx fun h' a' sb => hQ h' (.inl ⟨a', let ⟨p, c, d⟩ := b; ⟨p, sb.extBut _ _ ne c, d⟩⟩) sb
  · exact tup_next a b hx fun h' a' sb => hQ h' (.inr ⟨a', let ⟨p, c, d⟩ := b; ⟨p, sb.extBut _ _ ne c, d⟩⟩) sb
theorem Src.fin {Q : Value → Shared → Prop} (hh : A.handled = none) (S : Src i l its k s.heap) (hx : its[k]? = none) (hE : ∀ h' e, Heap.ExtBut i s.heap h' → (∃ o, h'.get? e = some o ∧ o.cls = .type "StopIteration") → E (.ref e) { s with heap := h' }) :
    wpAny (model prog w) A (Builtin.SmallTypes.nextOf (.ref i)) Q E s := by
  rcases S with ⟨a, b⟩ | ⟨a, b⟩
  · exact wpAny_nextOf_list_end hh a b hx hE
  · exact tup_end hh a b hx hE
end
section
variable {prog : Program} {w : World} {A : Around} {E : Value → Shared → Prop} {s : Shared} {z TI TO i1 i2 l1 l2 : Addr} {k1 k2 : Nat} {xs ys : Array Value} {x y a b : Value}
end
/-! zip(t, l) made -/
abbrev zS1 (h : Heap) (t : Addr) : Heap := h.push { cls := .type "tuple_iterator", data := .fields #[.ref t, .int 0 0] }
abbrev zS2 (h : Heap) (t l : Addr) : Heap := (zS1 h t).push { cls := .type "list_iterator", data := .fields #[.ref l, .int 0 0] }
abbrev zS3 (h : Heap) (t l : Addr) : Heap := (zS2 h t l).push { cls := .type "tuple", data := .seq #[.ref h.objs.size, .ref (zS1 h t).objs.size] }
abbrev zS4 (h : Heap) (t l : Addr) : Heap := (zS3 h t l).push { cls := .type "tuple", data := .seq #[.none, .none] }
abbrev zS5 (h : Heap) (t l : Addr) : Heap := (zS4 h t l).push { cls := .type "zip", data := .fields #[.none, .bool false, .bool false, .ref (zS2 h t l).objs.size, .ref (zS3 h t l).objs.size] }
theorem Src.tup {i l : Addr} {its us : Array Value} {k : Nat} {h : Heap} (x : Src i l its k h) (t : h.IsTuple l us) : h.IsTupleIter i l k := by
  rcases x with ⟨_, ⟨p, c, d, _⟩⟩ | ⟨a, _⟩
  · obtain ⟨q, e, f, _⟩ := t
    rw [c] at e; cases e; rw [d] at f; simp at f
  · exact a
theorem Src.lst {i l : Addr} {its us : Array Value} {k : Nat} {h : Heap} (x : Src i l its k h) (t : h.IsList l us) : h.IsListIter i l k := by
  rcases x with ⟨a, _⟩ | ⟨_, ⟨p, c, d, _⟩⟩
  · exact a
  · obtain ⟨q, e, f, _⟩ := t
    rw [c] at e; cases e; rw [d] at f; simp at f
def ItzS (K : PySem.W.Frag) (l1 l2 : Addr) : It :=
  ⟨fun i H => ∃ xs ys x y, SqT K H l1 xs ∧ SqL K H l2 ys ∧ xs[i]? = some x ∧ ys[i]? = some y,
   fun i H v H' => ∃ T x y, H T = none ∧ v = .ref T ∧ H' = upd H T (.tup [x, y]) ∧ (∀ xs, SqT K H l1 xs → xs[i]? = some x) ∧ ∀ ys, SqL K H l2 ys → ys[i]? = some y,
   fun i H => ∃ xs ys, SqT K H l1 xs ∧ SqL K H l2 ys ∧ (xs.length ≤ i ∨ ys.length ≤ i)⟩
def ZipStS (z TI TO i1 i2 l1 l2 : Addr) (i : Nat) (h : Heap) : Prop :=
  IsZip h z TI TO .none ∧ IsPair h TI (.ref i1) (.ref i2) ∧ (∃ a b, IsPair h TO a b) ∧ h.IsTupleIter i1 l1 i ∧ h.IsListIter i2 l2 i
def iZipS (K : PySem.W.Frag) (ta : TA) : TI := fun σ H R => ta σ H fun vs H1 => ∃ l1 l2, vs = [.ref l1, .ref l2] ∧ (∃ xs, SqT K H1 l1 xs) ∧ (∃ ys, SqL K H1 l2 ys) ∧ R (ItzS K l1 l2) H1
end L2
namespace L2
open PySem PySem.Spec PyProof.Rows
theorem comp_tup {K : PySem.W.Frag} {a : Addr} (D : Addr) {xs : List V} {g : TG} {tt : TT} {te : TE} {σ : St} {H : Hp} {R : Hp → Prop} (Pv : Nat → St → Hp → List V → Prop) (h0 : Pv 0 σ H []) (hl : ∀ i σ H ys, i ≤ xs.length → Pv i σ H ys → SqT K H a xs)
    (hs : ∀ i x σ H ys, xs[i]? = some x → Pv i σ H ys → g x σ H fun σ3 H3 => tt σ3 H3 fun b H4 => if b = true then
      te σ3 H4 fun y H5 => H5 D = some (.lst ys) ∧ ys.length < sizeLine ∧ Pv (i + 1) σ3 (upd H5 D (.lst (ys ++ [y]))) (ys ++ [y]) else Pv (i + 1) σ3 H4 ys) (hd : ∀ σ H ys, Pv xs.length σ H ys → R H) :
    ∃ W : Nat → Nat → St → Hp → List V → Prop, (∃ m, W 0 m σ H []) ∧ ∀ i m σ' H' ys, W i m σ' H' ys → ((Itt K a).stop i H' ∧ R H') ∨
      ((Itt K a).go i H' ∧ ∃ N : St → Hp → List V → Prop, (∀ σ' H' ys', N σ' H' ys' → ∃ m', m' < m ∧ W (i + 1) m' σ' H' ys') ∧ ∀ x H2, (Itt K a).yld i H' x H2 → g x σ' H2 fun σ3 H3 => tt σ3 H3 fun b H4 => if b = true then
        te σ3 H4 fun y H5 => H5 D = some (.lst ys) ∧ ys.length < sizeLine ∧ N σ3 (upd H5 D (.lst (ys ++ [y]))) (ys ++ [y])
        else N σ3 H4 ys) := by
  refine ⟨fun i m σ H ys => m = xs.length - i ∧ i ≤ xs.length ∧ Pv i σ H ys, ⟨xs.length, by simp, Nat.zero_le _, h0⟩, ?_⟩
  rintro i m σ H ys ⟨rfl, hi, p⟩
  have q := hl i σ H ys hi p
  by_cases hlt : i < xs.length
  · refine .inr ⟨⟨xs, xs[i], q, by simp [hlt]⟩, Pv (i + 1), fun σ' H' ys' p' => ⟨xs.length - (i + 1), by omega, rfl, hlt, p'⟩, fun x H' y => ?_⟩
    obtain ⟨e, y⟩ := y
    subst e
    exact hs i x σ _ ys (y xs q) p
  · have e : i = xs.length := by omega
    subst e
    exact .inl ⟨⟨xs, q, Nat.le_refl _⟩, hd σ H ys p⟩
/-! ### checks, rows, pieces -/
def tI (n : Int) : Int := n * 128 % 18446744073709551616 + n / 144115188075855872
def flat (rows : List (Nat × Nat)) : List Nat := rows.flatMap fun r => [r.1, r.2]
/-- rows of tuples in the heap -/
structure RowsAt (H : Hp) (L : List V) (rows : List (Nat × Nat)) : Prop where
  len : L.length = rows.length
  get : ∀ (i : Nat) v, L[i]? = some v → ∃ t r, v = V.ref t ∧ rows[i]? = some r ∧ H t = some (.tup [.int (r.1 : Int), .int (r.2 : Int)])
theorem RowsAt.mono {H H' : Hp} {L : List V} {rows : List (Nat × Nat)} (R : RowsAt H L rows) (h : ∀ t xs, H t = some (.tup xs) → H' t = some (.tup xs)) : RowsAt H' L rows :=
  ⟨R.len, fun i v e => let ⟨t, r, a, b, c⟩ := R.get i v e; ⟨t, r, a, b, h t _ c⟩⟩
theorem RowsAt.snoc {H : Hp} {L : List V} {rows : List (Nat × Nat)} (R : RowsAt H L rows) {t : Addr} {r : Nat × Nat} (h : H t = some (.tup [.int (r.1 : Int), .int (r.2 : Int)])) : RowsAt H (L ++ [.ref t]) (rows ++ [r]) :=
  ⟨by simp [R.len], fun i v e => by
    by_cases hi : i < L.length
    · rw [List.getElem?_append_left hi] at e
      obtain ⟨t, r, a, b, c⟩ := R.get i v e
      exact ⟨t, r, a, by rw [List.getElem?_append_left (by rw [← R.len]; exact hi)]; exact b, c⟩
    · rw [List.getElem?_append_right (by omega)] at e
      have hi2 : i - L.length = 0 := by
        have := (List.getElem?_eq_some_iff.mp e).1
        simp at this; omega
      rw [hi2] at e
      have e : V.ref t = v := by simpa using e
      refine ⟨t, r, e.symm, ?_, h⟩
      rw [List.getElem?_append_right (by rw [← R.len]; omega), ← R.len, hi2]; rfl⟩
def pfs (wh : Bool) (b d : Nat) (r : Addr) (c : Int) (f : Bool) : List (Str × V) := match wh with
  | true => [("day", V.int (d : Int)), ("rows", V.ref r), ("check", V.int c), ("fits", V.bl f)]
  | false => [("day", V.int (d : Int)), ("rows", V.ref r), ("check", V.int c), ("fits", V.bl f), ("base", V.int (b : Int))]
/-- the number that goes into the check for the start -/
def stN (wh : Bool) (b : Nat) : Nat := cond wh 0 (b + 1)
def ckOf (wh : Bool) (b d : Nat) (rows : List (Nat × Nat)) : Nat := Chk.chk (stN wh b :: d :: flat rows)
/-- a piece: a whole one of the class CW, a gain of CG; its base, day, rows, check -/
def PAt (CW CG : Addr) (H : Hp) (p : Addr) (wh : Bool) (b d : Nat) (rows : List (Nat × Nat)) (c : Int) : Prop :=
  ∃ dx r R, H p = some (.ins (cond wh CW CG) dx (pfs wh b d r c (decide (c = (ckOf wh b d rows : Nat))))) ∧ H r = some (.tup R) ∧ RowsAt H R rows
theorem PAt.keep {CW CG : Addr} {H H' : Hp} {p : Addr} {wh : Bool} {b d : Nat} {rows : List (Nat × Nat)} {c : Int} (h : PAt CW CG H p wh b d rows c) (s : Same H H') : PAt CW CG H' p wh b d rows c := by
  obtain ⟨dx, r, R, h1, h2, h3⟩ := h
  exact ⟨dx, r, R, s _ _ h1, s _ _ h2, h3.mono fun t xs e => s _ _ e⟩
theorem made_same {H H' : Hp} {x dx : Addr} {o : HO} (hx : H x = none) (hd : H dx = none) (k : Keep [x] (upd (upd H dx (.own x)) x o) H') : Same H H' := fun b u e => by
  have n1 := ne_of_none e hx
  have n2 := ne_of_none e hd
  exact k b u (by rw [upd_ne n1, upd_ne n2]; exact e) (by simpa using n1)
/-! the promises of the checks and pieces -/
def sp_turned : Sp := fun vs H Q _ => ∃ n : Int, vs = [.int n] ∧ Q (.int (tI n)) H
def sp_check : Sp := fun vs H Q _ => ∃ (s d : Nat) (a : Addr) (L : List V) (rows : List (Nat × Nat)), vs = [.int ((s : Int) - 1), .int (d : Int), .ref a] ∧ (H a = some (.lst L) ∨ H a = some (.tup L)) ∧ RowsAt H L rows ∧ rows.length ≤ 100 ∧ ∀ H', Same H H' → Q (.int (Chk.chk (s :: d :: flat rows) : Nat)) H'
def sp_lawcheck : Sp := fun vs H Q _ => ∃ (s d : Nat) (a : Addr) (L : List V) (rows : List (Nat × Nat)), vs = [.int ((s : Int) - 1), .int (d : Int), .ref a] ∧ H a = some (.lst L) ∧ RowsAt H L rows ∧ rows.length ≤ 100 ∧ ∀ H', Same H H' → Q (.int (Chk.chk (s :: d :: flat rows) : Nat)) H'
def sp_pinit (K : PySem.W.Frag) : Sp := fun vs H Q _ => ∃ (p C dx a : Addr) (s d : Nat) (L : List V) (rows : List (Nat × Nat)) (cv : V) (c : Int), vs = [.ref p, .int ((s : Int) - 1), .int (d : Int), .ref a, cv] ∧ H p = some (.ins C dx []) ∧ Cls K C ∧ NoAttr K C "day" ∧ NoAttr K C "rows" ∧ NoAttr K C "check" ∧ NoAttr K C "fits" ∧
  (H a = some (.lst L) ∨ H a = some (.tup L)) ∧ RowsAt H L rows ∧ rows.length ≤ 100 ∧ ((cv = .non ∧ c = (Chk.chk (s :: d :: flat rows) : Nat)) ∨ cv = .int c) ∧
  ∀ r R H', H' p = some (.ins C dx [("day", V.int (d : Int)), ("rows", V.ref r), ("check", V.int c), ("fits", V.bl (decide (c = (Chk.chk (s :: d :: flat rows) : Nat))))]) → H' r = some (.tup R) → RowsAt H' R rows → Keep [p] H H' → Q .non H'
def sp_winit (CW CG : Addr) : Sp := fun vs H Q _ => ∃ (p dx a : Addr) (d : Nat) (L : List V) (rows : List (Nat × Nat)) (cv : V) (c : Int), vs = [.ref p, .int (d : Int), .ref a, cv] ∧ H p = some (.ins CW dx []) ∧
  (H a = some (.lst L) ∨ H a = some (.tup L)) ∧ RowsAt H L rows ∧ rows.length ≤ 100 ∧ ((cv = .non ∧ c = (ckOf true 0 d rows : Nat)) ∨ cv = .int c) ∧ ∀ H', PAt CW CG H' p true 0 d rows c → Keep [p] H H' → Q .non H'
def sp_ginit (CW CG : Addr) : Sp := fun vs H Q _ => ∃ (p dx a : Addr) (b d : Nat) (L : List V) (rows : List (Nat × Nat)) (cv : V) (c : Int), vs = [.ref p, .int (b : Int), .int (d : Int), .ref a, cv] ∧ H p = some (.ins CG dx []) ∧
  (H a = some (.lst L) ∨ H a = some (.tup L)) ∧ RowsAt H L rows ∧ rows.length ≤ 100 ∧ ((cv = .non ∧ c = (ckOf false b d rows : Nat)) ∨ cv = .int c) ∧ ∀ H', PAt CW CG H' p false b d rows c → Keep [p] H H' → Q .non H'
def sp_size (CW CG : Addr) : Sp := fun vs H Q _ => ∃ (p : Addr) (wh : Bool) (b d : Nat) (rows : List (Nat × Nat)) (c : Int), vs = [.ref p] ∧ PAt CW CG H p wh b d rows c ∧ Q (.int (rows.length : Int)) H
def sp_good (CW CG : Addr) : Sp := fun vs H Q _ => ∃ (p : Addr) (wh : Bool) (b d : Nat) (rows : List (Nat × Nat)) (c : Int), vs = [.ref p] ∧ PAt CW CG H p wh b d rows c ∧ rows.length ≤ 100 ∧ ∀ H', Same H H' → Q (.bl (decide (c = (ckOf wh b d rows : Nat)))) H'
def sp_wstart : Sp := fun vs H Q _ => ∃ p : Addr, vs = [.ref p] ∧ Q (.int (-1)) H
def sp_gstart (CW CG : Addr) : Sp := fun vs H Q _ => ∃ (p : Addr) (b d : Nat) (rows : List (Nat × Nat)) (c : Int), vs = [.ref p] ∧ PAt CW CG H p false b d rows c ∧ Q (.int (b : Int)) H
def sp_wkind : Sp := fun vs H Q _ => ∃ p : Addr, vs = [.ref p] ∧ Q (.str (Str.ofString "whole")) H
def sp_gkind : Sp := fun vs H Q _ => ∃ p : Addr, vs = [.ref p] ∧ Q (.str (Str.ofString "gain")) H
end L2
namespace L2
open PySem PySem.Spec PyProof.Rows
/-! ### sorted(xs), sorted(d): fewer than 64 ints -/
theorem vals_of : ∀ {us : List Value} {ns : List Int}, IntsAre us ns → Vals (ns.map V.int) us
  | _, _, .nil => .nil
  | _, _, .cons _ t r => .cons ⟨t, rfl⟩ (vals_of r)
theorem ints_len {us : List Value} {ns : List Int} (h : IntsAre us ns) : us.length = ns.length := by
  have := (vals_of h).length
  rw [List.length_map] at this
  exact this.symm
section
variable {X : Cx} {pins : List (Addr × Obj)} {σ : St} {H : Hp} {s : Shared}
end
section
variable {X : Cx}
theorem call_sorted : CallR X (.builtin "sorted") (fun xs H Q => ∃ (a : Addr) (ns : List Int), xs = [.ref a] ∧ SqL X.K H a (ns.map V.int) ∧ ns.length < 64 ∧
    ∀ (l : Addr) (ns' : List Int), H l = none → ns'.Perm ns → ns'.Pairwise (· ≤ ·) → Q (.ref l) (upd H l (.lst (ns'.map V.int)))) := by
  rintro pins s σ H xs us Q I r ⟨a, ns, rfl, hS, h64, q⟩
  obtain ⟨u, rfl, ru⟩ := vals1 r
  cases (show u = Value.ref a from ru)
  obtain ⟨its, rv, pl, _⟩ := I.list hS
  have hI := intsAre_of rv
  refine sorted_ints pl.isList hI (by rw [ints_len hI]; exact h64) fun out ns' b1 b2 b3 => ?_
  obtain ⟨e, hat⟩ := sortedAll_at s.heap its out
  have hl : out.toList.length = ns'.length := ints_len b1
  refine ⟨.ref (s.heap.objs.size + 1), _, I.laid (t' := s.toks) (o := .lst (ns'.map V.int)) (fun b ob z => sortedAll_old z) (Nat.le_succ _) ⟨?_, out.toList, e, vals_of b1, by simpa using hat⟩, rfl, q _ ns' (I.hok.fresh (Nat.le_succ _)) b2 b3⟩
  rw [List.length_map, b2.length_eq]
  exact Nat.le_of_lt (small1000 (by omega))
end
end L2
namespace L2
open PySem PySem.Spec PyProof.Rows
/-! ### a shelf on the abstract heap -/
def sfs (d : Addr) (fl : Int) : List (Str × V) := [("pieces", V.ref d), ("follows", V.int fl)]
def ShAt (C : Addr) (H : Hp) (p d : Addr) (fl : Int) (kvs : List (Key × V)) : Prop := ∃ dx, H p = some (.ins C dx (sfs d fl)) ∧ H d = some (.dK kvs)
theorem ShAt.keep {C : Addr} {H H' : Hp} {p d : Addr} {fl : Int} {kvs : List (Key × V)} (h : ShAt C H p d fl kvs) (s : Same H H') : ShAt C H' p d fl kvs := by
  obtain ⟨dx, h1, h2⟩ := h
  exact ⟨dx, s _ _ h1, s _ _ h2⟩
def sp_sinit (C : Addr) : Sp := fun vs H Q _ => ∃ (p dx : Addr), vs = [.ref p] ∧ H p = some (.ins C dx []) ∧ ∀ d H', ShAt C H' p d 0 [] → H d = none → Keep [p] H H' → Q .non H'
def sp_lay (C : Addr) : Sp := fun vs H Q _ => ∃ (p d : Addr) (fl : Int) (kvs : List (Key × V)) (n : Int) (a : Addr), vs = [.ref p, .int n, .ref a] ∧ ShAt C H p d fl kvs ∧ kvs.length < 1000 ∧
  ∀ H', ShAt C H' p d (if n + 1 > fl then n + 1 else fl) (putK kvs (.inl n) (.ref a)) → Keep [p, d] H H' → Q .non H'
def sp_put (C : Addr) : Sp := fun vs H Q _ => ∃ (p d : Addr) (fl : Int) (kvs : List (Key × V)) (a : Addr), vs = [.ref p, .ref a] ∧ ShAt C H p d fl kvs ∧ kvs.length < 1000 ∧
  ∀ H', ShAt C H' p d (fl + 1) (putK kvs (.inl fl) (.ref a)) → Keep [p, d] H H' → Q (.int fl) H'
def sp_piece (C CN : Addr) : Sp := fun vs H Q E => ∃ (p d : Addr) (fl : Int) (kvs : List (Key × V)) (n : Int), vs = [.ref p, .int n] ∧ ShAt C H p d fl kvs ∧ (∀ v, valV kvs (.inl n) = some v → Q v H) ∧
  (valV kvs (.inl n) = none → ∀ e H', ExcAt H' e CN [("number", .int n)] → Same H H' → E (.ref CN) (some e) H')
def sp_drop (C CN : Addr) : Sp := fun vs H Q E => ∃ (p d : Addr) (fl : Int) (kvs : List (Key × V)) (n : Int), vs = [.ref p, .int n] ∧ ShAt C H p d fl kvs ∧
  (∀ v, valV kvs (.inl n) = some v → ∀ H', ShAt C H' p d fl (dropK kvs (.inl n)) → Keep [p, d] H H' → Q v H') ∧
  (valV kvs (.inl n) = none → ∀ e H', ExcAt H' e CN [("number", .int n)] → Same H H' → E (.ref CN) (some e) H')
end L2
namespace L2
open PySem PySem.Spec PyProof.Rows
def wayGo (M : Int → Option (Int × Int)) : Int → List Int → Option Int
  | at', [] => some at'
  | at', n :: r => match M n with
    | none => none
    | some (s, d) => if s = at' then wayGo M d r else none
theorem iteNN {c A B : Prop} [Decidable c] (hc : ¬ c) (h : A) : if (!decide c) = true then A else B := by
  rw [decide_eq_false hc, if_pos (by decide)]; exact h
def wayB (M : Int → Option (Int × Int)) (way : List Int) (day : Int) : Bool := !way.isEmpty && decide (wayGo M (-1) way = some day)
def PRep (CW CG : Addr) (H : Hp) (v : V) (s d : Int) : Prop := ∃ (a : Addr) (wh : Bool) (b dd : Nat) (rows : List (Nat × Nat)) (c : Int), v = .ref a ∧ PAt CW CG H a wh b dd rows c ∧ d = (dd : Int) ∧ s = (stN wh b : Int) - 1
def SRep (CW CG : Addr) (H : Hp) (kvs : List (Key × V)) (M : Int → Option (Int × Int)) : Prop := ∀ n : Int, match M n with
  | none => valV kvs (Sum.inl n) = none
  | some (s, d) => ∃ v, valV kvs (Sum.inl n) = some v ∧ PRep CW CG H v s d
theorem SRep.keep {CW CG : Addr} {H H' : Hp} {kvs : List (Key × V)} {M : Int → Option (Int × Int)} (h : SRep CW CG H kvs M) (s : Same H H') : SRep CW CG H' kvs M := fun n => by
  have := h n
  cases e : M n with
  | none => rw [e] at this; exact this
  | some sd =>
    rw [e] at this
    obtain ⟨v, hv, a, wh, b, dd, rows, c, h1, h2, h3, h4⟩ := this
    exact ⟨v, hv, a, wh, b, dd, rows, c, h1, h2.keep s, h3, h4⟩
theorem get_at {xs : List Int} {j : Nat} (h : j < xs.length) : ∃ x, (xs.map V.int)[j]? = some (V.int x) ∧ x ∈ xs := ⟨xs[j], by simp [h], List.getElem_mem h⟩
def AI (n : Nat) (L : List V) : Prop := ∃ ys : List Int, L = ys.map V.int ∧ ys.length ≤ n
theorem AI.len {n : Nat} {L : List V} (h : AI n L) : L.length ≤ n := by
  obtain ⟨ys, rfl, h⟩ := h; rw [List.length_map]; exact h
theorem AI.one (o : Int) : AI 1 [V.int o] := ⟨[o], rfl, by simp⟩
theorem AI.cut {lo hi : Option Int} (way : List Int) : AI way.length (cutV (way.map V.int) lo hi) := by
  unfold cutV
  refine ⟨_, by rw [← List.map_drop, ← List.map_take], ?_⟩
  rw [List.length_take, List.length_drop]; omega

theorem SeqEq.ints {K : PySem.W.Frag} {H : Hp} {a c : Addr} {xs ys : List Int} (h1 : SqL K H a (xs.map V.int)) (h2 : SqL K H c (ys.map V.int)) : SeqEq K H (EqI K H 0) (.ref a) (.ref c) (decide (xs = ys)) := by
  by_cases hl : xs.length = ys.length
  · refine ⟨a, c, _, _, fun j => decide (xs[j]? = ys[j]?), rfl, rfl, .inl ⟨h1, h2, by simpa using hl, fun j x' y' e1 e2 => ?_, ?_⟩⟩
    · rw [List.getElem?_map] at e1 e2
      obtain ⟨x, ex, rfl⟩ := Option.map_eq_some_iff.mp e1
      obtain ⟨y, ey, rfl⟩ := Option.map_eq_some_iff.mp e2
      refine .inl ⟨rfl, rfl, ?_⟩
      show decide (xs[j]? = ys[j]?) = eqV (.int x) (.int y)
      rw [ex, ey]
      show decide (some x = some y) = (x == y)
      rw [Bool.eq_iff_iff, decide_eq_true_iff, beq_iff_eq]
      exact ⟨fun h => Option.some.inj h, fun h => by rw [h]⟩
    · rw [List.length_map, Bool.eq_iff_iff, decide_eq_true_iff, List.all_eq_true]
      constructor
      · rintro rfl j _; simp
      · intro h
        refine List.ext_getElem? fun j => ?_
        by_cases hj : j < xs.length
        · exact of_decide_eq_true (h j (List.mem_range.mpr hj))
        · rw [List.getElem?_eq_none (by omega), List.getElem?_eq_none (by omega)]
  · refine ⟨a, c, _, _, fun _ => true, rfl, rfl, .inr (.inl ⟨h1, h2, by simpa using hl, ?_⟩)⟩
    exact decide_eq_false (fun e => hl (by rw [e]))
/-! ### dicts with int keys -/
theorem valV_drop (kvs : List (Key × V)) (k j : Key) : valV (dropK kvs k) j = if j = k then none else valV kvs j := by
  induction kvs with
  | nil => show none = _; split <;> rfl
  | cons p r ih =>
    have e : dropK (p :: r) k = if p.1 = k then dropK r k else p :: dropK r k := by
      unfold dropK; rw [List.filter_cons]; by_cases h : p.1 = k <;> simp [h]
    rw [e]
    by_cases h : p.1 = k
    · rw [if_pos h, ih]
      by_cases hj : j = k
      · rw [if_pos hj, if_pos hj]
      · rw [if_neg hj, if_neg hj, valV_neg (fun z => hj (z.symm.trans h))]
    · rw [if_neg h]
      by_cases hp : p.1 = j
      · rw [valV_pos hp, valV_pos hp, if_neg (fun z => h (hp.trans z))]
      · rw [valV_neg hp, valV_neg hp, ih]
def AllI (lkv : List (Key × V)) : Prop := ∀ kv ∈ lkv, ∃ n : Int, kv.1 = Sum.inl n
theorem AllI.nil : AllI [] := fun _ h => by cases h
theorem AllI.put {kvs : List (Key × V)} (h : AllI kvs) (n : Int) (v : V) : AllI (putK kvs (Sum.inl n) v) := fun kv hm => by
  unfold putK at hm
  split at hm
  · obtain ⟨kv', h1, rfl⟩ := List.mem_map.mp hm
    obtain ⟨m, e⟩ := h kv' h1
    split
    · exact ⟨m, e⟩
    · exact ⟨m, e⟩
  · rcases List.mem_append.mp hm with h1 | h1
    · exact h kv h1
    · have : kv = (Sum.inl n, v) := by simpa using h1
      exact ⟨n, by rw [this]⟩
theorem AllI.drop {kvs : List (Key × V)} (h : AllI kvs) (k : Key) : AllI (dropK kvs k) := fun kv hm => h kv (List.mem_filter.mp hm).1
theorem AllI.ints : ∀ {kvs : List (Key × V)}, AllI kvs → ∃ ns : List Int, kvs.map (·.1) = ns.map Sum.inl ∧ ns.length = kvs.length
  | [], _ => ⟨[], rfl, rfl⟩
  | kv :: r, h => by
    obtain ⟨n, e⟩ := h kv (List.mem_cons_self ..)
    obtain ⟨ns, e1, e2⟩ := AllI.ints (kvs := r) fun x hx => h x (List.mem_cons_of_mem _ hx)
    exact ⟨n :: ns, by simp [e, e1], by simp [e2]⟩
abbrev Lies := Int → Option (Int × Int)
def mput (M : Lies) (n : Int) (x : Option (Int × Int)) : Lies := fun m => if m = n then x else M m
theorem mput_eq {M : Lies} {n : Int} {x : Option (Int × Int)} : mput M n x n = x := if_pos rfl
theorem mput_ne {M : Lies} {n m : Int} {x : Option (Int × Int)} (h : m ≠ n) : mput M n x m = M m := if_neg h
/-- the law's own dict: the start and the day of each number -/
def LRep (H : Hp) (lkv : List (Key × V)) (M : Lies) : Prop := ∀ n : Int, match M n with
  | none => valV lkv (Sum.inl n) = none
  | some (s, d) => ∃ t, valV lkv (Sum.inl n) = some (.ref t) ∧ H t = some (.tup [.int s, .int d])
theorem LRep.mono {H H' : Hp} {lkv : List (Key × V)} {M : Lies} (h : LRep H lkv M) (s : ∀ t xs, H t = some (.tup xs) → H' t = some (.tup xs)) : LRep H' lkv M := fun n => by
  have := h n
  cases e : M n with
  | none => rw [e] at this; exact this
  | some sd =>
    rw [e] at this
    obtain ⟨t, hv, ht⟩ := this
    exact ⟨t, hv, s t _ ht⟩
theorem LRep.put {H : Hp} {lkv : List (Key × V)} {M : Lies} (h : LRep H lkv M) {n s d : Int} {t : Addr} (ht : H t = some (.tup [.int s, .int d])) : LRep H (putK lkv (Sum.inl n) (.ref t)) (mput M n (some (s, d))) := fun m => by
  by_cases e : m = n
  · subst e; rw [mput_eq]; exact ⟨t, by rw [valV_put, if_pos rfl], ht⟩
  · rw [mput_ne e, valV_put, if_neg (fun z => e (Sum.inl.inj z))]; exact h m
theorem LRep.drop {H : Hp} {lkv : List (Key × V)} {M : Lies} (h : LRep H lkv M) (n : Int) : LRep H (dropK lkv (Sum.inl n)) (mput M n none) := fun m => by
  by_cases e : m = n
  · subst e; rw [mput_eq]; show valV _ _ = none; rw [valV_drop, if_pos rfl]
  · rw [mput_ne e, valV_drop, if_neg (fun z => e (Sum.inl.inj z))]; exact h m
theorem SRep.put {CW CG : Addr} {H : Hp} {kvs : List (Key × V)} {M : Lies} (h : SRep CW CG H kvs M) {n s d : Int} {v : V} (hv : PRep CW CG H v s d) : SRep CW CG H (putK kvs (Sum.inl n) v) (mput M n (some (s, d))) := fun m => by
  by_cases e : m = n
  · subst e; rw [mput_eq]; exact ⟨v, by rw [valV_put, if_pos rfl], hv⟩
  · rw [mput_ne e, valV_put, if_neg (fun z => e (Sum.inl.inj z))]; exact h m
theorem SRep.drop {CW CG : Addr} {H : Hp} {kvs : List (Key × V)} {M : Lies} (h : SRep CW CG H kvs M) (n : Int) : SRep CW CG H (dropK kvs (Sum.inl n)) (mput M n none) := fun m => by
  by_cases e : m = n
  · subst e; rw [mput_eq]; show valV _ _ = none; rw [valV_drop, if_pos rfl]
  · rw [mput_ne e, valV_drop, if_neg (fun z => e (Sum.inl.inj z))]; exact h m
/-- cells that are no part of a piece -/
def NoPart (H : Hp) (F : List Addr) : Prop := ∀ x ∈ F, (∃ kv, H x = some (.dK kv)) ∨ (∃ C dx d fl, H x = some (.ins C dx (sfs d fl)))
theorem NoPart.tup {H : Hp} {F : List Addr} (h : NoPart H F) {t : Addr} {xs : List V} (e : H t = some (.tup xs)) : t ∉ F := fun hm => by
  rcases h t hm with ⟨kv, e'⟩ | ⟨C, dx, d, fl, e'⟩ <;> (rw [e] at e'; cases e')
theorem NoPart.lst {H : Hp} {F : List Addr} (h : NoPart H F) {t : Addr} {xs : List V} (e : H t = some (.lst xs)) : t ∉ F := fun hm => by
  rcases h t hm with ⟨kv, e'⟩ | ⟨C, dx, d, fl, e'⟩ <;> (rw [e] at e'; cases e')
theorem NoPart.seq {K : PySem.W.Frag} {H H' : Hp} {F : List Addr} (hF : NoPart H F) (k : Keep F H H') {a : Addr} {xs : List V} (h : SqL K H a xs) : SqL K H' a xs := by
  rcases h with (h | ⟨o, h⟩) | h
  · exact .inl (.inl (k _ _ h (hF.lst h)))
  · refine .inl (.inr ⟨o, k _ _ h (fun hm => ?_)⟩)
    rcases hF _ hm with ⟨kv, e⟩ | ⟨C, dx, d, fl, e⟩ <;> (rw [h] at e; cases e)
  · exact .inr h
theorem PRep.keep {CW CG : Addr} {H H' : Hp} {v : V} {s d : Int} (h : PRep CW CG H v s d) (k : Same H H') : PRep CW CG H' v s d := by
  obtain ⟨a, wh, b, dd, rows, c, h1, h2, h3, h4⟩ := h
  exact ⟨a, wh, b, dd, rows, c, h1, h2.keep k, h3, h4⟩
theorem ShAt.part {C : Addr} {H : Hp} {p d : Addr} {fl : Int} {kvs : List (Key × V)} (h : ShAt C H p d fl kvs) : NoPart H [p, d] := fun x hx => by
  obtain ⟨dx, h1, h2⟩ := h
  simp only [List.mem_cons, List.not_mem_nil, or_false] at hx
  rcases hx with rfl | rfl
  · exact .inr ⟨C, dx, _, _, h1⟩
  · exact .inl ⟨_, h2⟩
theorem NoPart.one {H : Hp} {a : Addr} {kv : List (Key × V)} (h : H a = some (.dK kv)) : NoPart H [a] := fun x hx => by
  have : x = a := by simpa using hx
  subst this; exact .inl ⟨_, h⟩
/-! ### a way, by its starts and ends -/
theorem at_in {xs : List Int} {k : Int} (h0 : 0 ≤ k) (h1 : k < xs.length) : ∃ y, atI (xs.map V.int) k = some (V.int y) ∧ y ∈ xs := by
  obtain ⟨j, rfl⟩ : ∃ j : Nat, k = (j : Int) := ⟨k.toNat, by omega⟩
  obtain ⟨y, ey, hm⟩ := get_at (xs := xs) (j := j) (by omega)
  exact ⟨y, atI_nat ey, hm⟩
theorem int_at {xs : List Int} {j : Nat} {y : V} (h : (xs.map V.int)[j]? = some y) : ∃ n, xs[j]? = some n ∧ V.int n = y := by
  rw [List.getElem?_map] at h
  obtain ⟨c, h1, h2⟩ := Option.map_eq_some_iff.mp h
  exact ⟨c, h1, h2⟩
theorem log2_ok {j : Int} (h0 : 0 < j) (h : j ≤ 1000) : j.natAbs.log2 < 9000 := Nat.lt_of_le_of_lt (Nat.log2_le_self _) (by omega)
end L2
namespace L2
open PySem PySem.Spec PyProof.Rows
/-! ### for k, x in enumerate(xs): a list or a tuple that the body leaves as it is -/
def SqB (K : PySem.W.Frag) (tu : Bool) (H : Hp) (l : Addr) (xs : List V) : Prop := cond tu (SqT K H l xs) (SqL K H l xs)
def IterB (tu : Bool) (h : Heap) (it l : Addr) (i : Nat) : Prop := cond tu (h.IsTupleIter it l i) (h.IsListIter it l i)
def HasB (tu : Bool) (h : Heap) (l : Addr) (us : Array Value) : Prop := cond tu (h.IsTuple l us) (h.IsList l us)
theorem IterB.src {tu : Bool} {h : Heap} {it l : Addr} {i : Nat} {us : Array Value} (a : IterB tu h it l i) (b : HasB tu h l us) : Src it l us i h := by
  cases tu
  · exact .inl ⟨a, b⟩
  · exact .inr ⟨a, b⟩
theorem IterB.mv {tu : Bool} {h h' : Heap} {it l : Addr} {i : Nat} (a : IterB tu h it l i) (k : ∀ o, h.get? it = some o → h'.get? it = some o) : IterB tu h' it l i := by
  cases tu <;> (obtain ⟨o, e, r⟩ := a; exact ⟨o, k o e, r⟩)
theorem IterB.obj {tu : Bool} {h : Heap} {it l : Addr} {i : Nat} (a : IterB tu h it l i) : ∃ o, h.get? it = some o ∧ ∀ v, o.data ≠ .cell v := by
  cases tu <;> (obtain ⟨o, e, _, d⟩ := a; exact ⟨o, e, fun v q => by rw [d] at q; cases q⟩)
theorem HasB.mv {tu : Bool} {h h' : Heap} {l : Addr} {us : Array Value} (a : HasB tu h l us) (k : ∀ o, h.get? l = some o → h'.get? l = some o) : HasB tu h' l us := by
  cases tu <;> (obtain ⟨o, e, r⟩ := a; exact ⟨o, k o e, r⟩)
theorem HasB.lt {tu : Bool} {h : Heap} {l : Addr} {us : Array Value} (a : HasB tu h l us) : l < h.objs.size := by
  cases tu <;> (obtain ⟨o, e, r⟩ := a; exact Heap.lt_size e)
theorem Src.iterB {tu : Bool} {h : Heap} {it l : Addr} {i : Nat} {us us' : Array Value} (S : Src it l us i h) (b : HasB tu h l us') : IterB tu h it l i := by
  cases tu
  · exact S.lst b
  · exact S.tup b
theorem SqB.items {X : Cx} {pins : List (Addr × Obj)} {σ : St} {H : Hp} {s : Shared} {tu : Bool} {l : Addr} {xs : List V} (I : Inv X pins σ H s) (h : SqB X.K tu H l xs) : ∃ us : List Value, Vals xs us ∧ HasB tu s.heap l us.toArray := by
  cases tu
  · obtain ⟨us, r, p, _⟩ := I.list h
    exact ⟨us, r, p.isList⟩
  · obtain ⟨us, r, p, _⟩ := I.tuple h
    exact ⟨us, r, p⟩
theorem SqB.inj {X : Cx} {pins : List (Addr × Obj)} {σ : St} {H : Hp} {s : Shared} {tu : Bool} {l : Addr} {xs ys : List V} (I : Inv X pins σ H s) (h : SqB X.K tu H l xs) (h' : SqB X.K tu H l ys) : xs = ys := by
  cases tu
  · exact I.list_inj h h'
  · exact I.tuple_inj h h'
theorem enum_draws {prog : Program} {w : World} {A : Around} {it l : Addr} {us : Array Value} (hh : A.handled = none) (ne : l ≠ it) : Draws prog w A it [it, l] us.size (fun i x => us[i]? = some x) (fun i h => Src it l us i h) where
  live := fun i h st => let ⟨o, e, _⟩ := st.rec; ⟨o, e⟩
  frame := fun i h h' st k => st.mv (fun o e => k it (by simp) o e) (fun o e => k l (by simp) o e)
  item := fun i s Q E hi st hQ => Src.item st ne (x := us[i]) (by simp [hi]) fun h' st' sb => hQ _ h' s.toks (by simp [hi]) st' sb
  done := fun s Q E st hE => Src.fin hh st (by simp) hE
def Ite (K : PySem.W.Frag) (tu : Bool) (l : Addr) : It :=
  ⟨fun i H => ∃ xs x, SqB K tu H l xs ∧ xs[i]? = some x,
   fun i H v H' => ∃ T x, H T = none ∧ v = .ref T ∧ H' = upd H T (.tup [.int (i : Int), x]) ∧ ∀ xs, SqB K tu H l xs → xs[i]? = some x,
   fun i H => ∃ xs, SqB K tu H l xs ∧ xs.length = i⟩
def EnSt (tu : Bool) (e it l : Addr) (i : Nat) (h : Heap) : Prop := (∃ old, IsEnum h e it (i : Int) old) ∧ IterB tu h it l i
theorem turn_enum {P : Program} {w : World} {K : PySem.W.Frag} {es : List Expr} {x1} {tp : Pos} (tu : Bool) (e it l : Addr) (hei : e ≠ it) (hle : l ≠ e) (hli : l ≠ it) : Turn P w K (.Tuple es x1 tp) (Ite K tu l) [e, it] e (EnSt tu e it l) where
  mem := by simp
  obj := fun i h st b hb => by
    obtain ⟨⟨old, h1⟩, h2⟩ := st
    simp only [List.mem_cons, List.not_mem_nil, or_false] at hb
    rcases hb with rfl | rfl
    · exact ⟨_, h1, fun v q => nomatch q⟩
    · exact h2.obj
  keep := fun i h h' st k => by
    obtain ⟨⟨old, h1⟩, h2⟩ := st
    exact ⟨⟨old, k e (by simp) _ h1⟩, h2.mv fun o x => k it (by simp) o x⟩
  item := by
    intro X hP hw hK hc i pins s σ H E I hf st hg
    subst hP hw hK
    obtain ⟨⟨old, h1⟩, h2⟩ := st
    obtain ⟨xs, x, hx, ex⟩ := hg
    obtain ⟨us, rx, px⟩ := SqB.items I hx
    obtain ⟨u, eu, ru⟩ := Vals.get rx ex
    have hlt : i < us.toArray.size := by have := (List.getElem?_eq_some_iff.mp eu).1; simpa using this
    refine wpAny_pyNext_enum_itemD (enum_draws (I.ok.hd hc) hli) h1 (h2.src px) hlt hei (by simp [hei, hle.symm]) fun x' h' tk hP' ho hs' hT hsz kk => ?_
    have e1 : x' = u := by
      have : us[i]? = some x' := by simpa using hP'
      rw [eu] at this; exact (Option.some.inj this).symm
    subst e1
    refine ⟨_, rfl, wpAny_letOwnedTupleGo_enum ho fun h'' y1 sb => ?_⟩
    have lt1 : e < s.heap.objs.size := Heap.lt_size h1
    have lt2 : it < s.heap.objs.size := by obtain ⟨o, q, _⟩ := h2.obj; exact Heap.lt_size q
    have lt : ∀ b ∈ [e, it], b < s.heap.objs.size := fun b hb => by
      simp only [List.mem_cons, List.not_mem_nil, or_false] at hb
      rcases hb with rfl | rfl
      · exact lt1
      · exact lt2
    have keep : ∀ c o, c ∉ [e, it] → s.heap.get? c = some o → h''.get? c = some o := fun c o hc q => by
      simp only [List.mem_cons, List.not_mem_nil, or_false, not_or] at hc
      exact sb.extBut c o hc.1 (kk c o hc.1 hc.2 q)
    have nT : H s.heap.objs.size = none := I.hok.fresh (Nat.le_refl _)
    have hT2 : h''.get? s.heap.objs.size = some { cls := .type "tuple", data := .seq #[.int (i : Int) tk, x'] } := sb.extBut _ _ (anelt' lt1 (Nat.le_refl _)).symm hT
    have I2 : Inv X pins σ (upd H s.heap.objs.size (.tup [.int (i : Int), x])) { s with heap := h'', toks := tk + 1 } :=
      I.turnedLaid (ch := [e, it]) keep hf (Nat.le_refl _) ⟨by show 2 ≤ sizeLine; decide, [Value.int (i : Int) tk, x'], .cons ⟨tk, rfl⟩ (.cons ru .nil), ⟨_, hT2, rfl, 0, rfl⟩⟩
    refine ⟨.ref s.heap.objs.size, _, I2, rfl, ⟨_, x, nT, rfl, rfl, fun xs' h => ?_⟩, ⟨⟨x', ?_⟩, ?_⟩, fun b hb => ?_⟩
    · rw [SqB.inj I h hx]; exact ex
    · simpa using y1
    · have px2 : HasB tu h'' l us.toArray := px.mv fun o q => keep l o (by simp [hle, hli]) q
      exact (hs'.mv (fun o q => sb.extBut _ o hei.symm q) fun o q => sb.extBut _ o hle q).iterB px2
    · rw [upd_ne (anelt' (lt b hb) (Nat.le_refl _))]; exact (hf b hb).1
  done := by
    intro X hP hw hK hc i pins s σ H E I hf st hg
    subst hP hw hK
    obtain ⟨⟨old, h1⟩, h2⟩ := st
    obtain ⟨xs, hx, hl⟩ := hg
    obtain ⟨us, rx, px⟩ := SqB.items I hx
    have le1 := rx.length
    have hn : i = us.toArray.size := by simp; omega
    subst hn
    refine wpAny_pyNext_enum_endD (enum_draws (I.ok.hd hc) hli) h1 (h2.src px) fun h' kk => ⟨rfl, ?_⟩
    exact I.turnedMany (t' := s.toks) (ch := [e, it]) (fun c o hc q => by
      simp only [List.mem_cons, List.not_mem_nil, or_false, not_or] at hc
      exact kk c o hc.2 q) hf
  self := fun _ _ _ _ _ st h => by
    obtain ⟨⟨old, h1⟩, _⟩ := st
    exact wpAny_pyIter_enum h1 h
/-! enumerate(t) made -/
theorem enumT_new (t : Addr) (us : Array Value) (n : Nat) (dct : Option Addr) (sl : Array (Option Value)) : Meets (Builtin.«enumerate.__new__» ⟨[.type "enumerate", .ref t], []⟩) (fun _ R s => s.heap.get? t = some { cls := .type "tuple", dict := dct, data := .seq us n, slots := sl } ∧ R (.ok (.ret (.ref (zS1 s.heap t).objs.size))) { s with heap := (zS1 s.heap t).push { cls := .type "enumerate", data := .fields #[.none, .bool false, .ref s.heap.objs.size, rawInt 0, .none, .none] } }) :=
  .of_wp fun prog w A R s hyp => by
    obtain ⟨hp, g, d, tk, os⟩ := s
    obtain ⟨ht, q⟩ := hyp
    have hsub := sub_enumerate
    have hT : Heap.IsTuple (Shared.heap ⟨hp, g, d, tk, os⟩) t us := ⟨_, ht, rfl, n, rfl⟩
    wp_walk using AutoSeq1.wpAny_loadPart' ht
    refine wpAny_stack_any fun st => wpAny_pure ?_
    split
    · rename_i c _ _ _ _ _
      cases (c == Value.type "enumerate") <;> (wp_walk using AutoSeq1.wpAny_loadPart' ht, wpAny_pyIter_tuple hT; exact ⟨_, rfl, q⟩)
    · wp_walk using AutoSeq1.wpAny_loadPart' ht, wpAny_pyIter_tuple hT
      exact ⟨_, rfl, q⟩
theorem call_enumB {prog : Program} {w : World} {A : Around} {E : Value → Shared → Prop} {s : Shared} {tu : Bool} {l : Addr} {us : Array Value} {Q : Value → Shared → Prop} (hl : HasB tu s.heap l us)
    (h : ∀ h', IsEnum h' (s.heap.objs.size + 1) s.heap.objs.size 0 .none → IterB tu h' s.heap.objs.size l 0 → (∀ b o, s.heap.get? b = some o → h'.get? b = some o) → Q (.ref (s.heap.objs.size + 1)) { s with heap := h' }) : wpAny (model prog w) A (call (.type "enumerate") [.ref l]) Q E s := by
  cases tu
  · exact call_enumerate_list hl fun h' a b _ k => h h' a b k
  · obtain ⟨⟨c, dct, dt, sl⟩, e, hc, n, hd⟩ := hl
    replace hc : c = .type "tuple" := hc
    replace hd : dt = .seq us n := hd
    subst hc hd
    refine callType_new PySem.F.called_enumerate (by decide) (PySem.F.typeCall_enumerate_1 _) (PySem.F.newCall_enumerate_1 _) (fun obj => PySem.F.args_object_init_2 obj _) PySem.F.entry_enumerate_new (enumT_new l us n dct sl) ⟨e, ?_⟩
    have n1 : (zS1 s.heap l).objs.size = s.heap.objs.size + 1 := Heap.size_push ..
    have up : ∀ c o, s.heap.get? c = some o → ((zS1 s.heap l).push { cls := .type "enumerate", data := .fields #[.none, .bool false, .ref s.heap.objs.size, rawInt 0, .none, .none] }).get? c = some o := fun c o q => Heap.get?_push_of_some _ (Heap.get?_push_of_some _ q)
    have g2 : ((zS1 s.heap l).push { cls := .type "enumerate", data := .fields #[.none, .bool false, .ref s.heap.objs.size, rawInt 0, .none, .none] }).get? (zS1 s.heap l).objs.size = some _ := Heap.get?_push_size _ rfl
    have g1 : ((zS1 s.heap l).push { cls := .type "enumerate", data := .fields #[.none, .bool false, .ref s.heap.objs.size, rawInt 0, .none, .none] }).get? s.heap.objs.size = some _ := Heap.get?_push_of_some _ (Heap.get?_push_size _ rfl)
    rw [n1] at g2
    show _ ∧ _
    rw [n1]
    exact ⟨⟨_, g2, rfl⟩, h _ g2 ⟨_, g1, rfl, rfl⟩ up⟩
def iEnum (K : PySem.W.Frag) (tu : Bool) (ta : TA) : TI := fun σ H R => ta σ H fun vs H1 => ∃ l, vs = [.ref l] ∧ (∃ xs, SqB K tu H1 l xs) ∧ R (Ite K tu l) H1
theorem pi_enum {X : Cx} (tu : Bool) {a : Expr} {ta : TA} {p pos : Pos} {es : List Expr} {x1} {tp : Pos} (hg : Gl X "enumerate") (hm : X.mg "enumerate" = none) (ha : PA X [a] ta) (hs : starEach [a] X.env = [(false, eval a X.env)] := by rfl) :
    PI X (.Tuple es x1 tp) (.Call (.Name "enumerate" p) [a] [] pos) (iEnum X.K tu ta) := by
  intro pins s σ H R I h
  refine Call_ (ld_blt I hg hm boot_enumerate (PyProof.Rows.callWith_type1 (thn (ha pos pins s σ H _ I h) fun us s1 ⟨vs, H1, I1, r1, q1⟩ => ?_) hs rfl))
  obtain ⟨l, e, ⟨xs, hx⟩, q⟩ := q1
  subst e
  obtain ⟨u, rfl, ru⟩ := vals1 r1
  cases (show u = Value.ref l from ru)
  obtain ⟨us1, rx, px⟩ := SqB.items I1 hx
  have ll : l < s1.heap.objs.size := px.lt
  refine call_enumB px fun h' z1 z2 kk => ?_
  refine wpAny_pyIter_enum z1 ?_
  have I2 : Inv X pins σ H1 { s1 with heap := h', toks := s1.toks } := I1.kept kk
  refine ⟨s1.heap.objs.size + 1, _, _, _, H1, rfl, I2, turn_enum tu (s1.heap.objs.size + 1) s1.heap.objs.size l (Nat.succ_ne_self _) (anelt' ll (Nat.le_succ _)) (anelt' ll (Nat.le_refl _)), ⟨⟨_, z1⟩, z2⟩, fun b hb => ?_, q⟩
  have hbs : s1.heap.objs.size ≤ b := by
    simp only [List.mem_cons, List.not_mem_nil, or_false] at hb
    rcases hb with h | h <;> rw [h] <;> first | exact Nat.le_refl _ | exact Nat.le_add_right _ _
  exact I1.fpOk hbs (I1.hok.fresh hbs)
theorem for_enum {K : PySem.W.Frag} {tu : Bool} {l : Addr} {xs : List V} {g : TG} {tb : TS} {D : Ends} {σ : St} {H : Hp} (Pv : Nat → St → Hp → Prop) (h0 : Pv 0 σ H) (hl : ∀ i σ H, Pv i σ H → SqB K tu H l xs)
    (hs : ∀ i x σ H T, xs[i]? = some x → Pv i σ H → H T = none → g (.ref T) σ (upd H T (.tup [.int (i : Int), x])) fun σ2 H2 => tb { D with nx := Pv (i + 1), ct := Pv (i + 1), bk := D.nx } σ2 H2) (hd : ∀ σ H, Pv xs.length σ H → D.nx σ H) :
    ∃ W : Nat → Nat → St → Hp → Prop, (∃ m, W 0 m σ H) ∧ ∀ i m σ H, W i m σ H →
      ((Ite K tu l).stop i H ∧ D.nx σ H) ∨ ((Ite K tu l).go i H ∧ ∃ N : St → Hp → Prop, (∀ σ' H', N σ' H' → ∃ m', m' < m ∧ W (i + 1) m' σ' H') ∧ ∀ x H', (Ite K tu l).yld i H x H' → g x σ H' fun σ2 H2 => tb { D with nx := N, ct := N, bk := D.nx } σ2 H2) := by
  refine ⟨fun i m σ H => m = xs.length - i ∧ i ≤ xs.length ∧ Pv i σ H, ⟨xs.length, by simp, Nat.zero_le _, h0⟩, ?_⟩
  rintro i m σ H ⟨rfl, hi, p⟩
  have q1 := hl i σ H p
  by_cases hlt : i < xs.length
  · have ex : xs[i]? = some xs[i] := List.getElem?_eq_getElem hlt
    refine .inr ⟨⟨xs, _, q1, ex⟩, Pv (i + 1), fun σ' H' p' => ⟨xs.length - (i + 1), by omega, rfl, hlt, p'⟩, ?_⟩
    rintro v H' ⟨T, x, nT, rfl, rfl, hx⟩
    exact hs i x σ H T (hx xs q1) p nT
  · have e : i = xs.length := by omega
    subst e
    exact .inl ⟨⟨xs, q1, rfl⟩, hd σ H p⟩
end L2
namespace L2
open PySem PySem.Spec PyProof.Rows
/-! ### words of a plan, tasks on the heap -/
abbrev wN : PySem.Str := PySem.Str.ofString "none"
abbrev wW : PySem.Str := PySem.Str.ofString "whole"
abbrev wS : PySem.Str := PySem.Str.ofString "since"
abbrev wL : PySem.Str := PySem.Str.ofString "last"
theorem SqB.len {K : PySem.W.Frag} {tu : Bool} {H : Hp} {l : Addr} {xs : List V} (h : SqB K tu H l xs) : SqL K H l xs ∨ SqT K H l xs := by
  cases tu
  · exact .inl h
  · exact .inr h
theorem SqB.same {K : PySem.W.Frag} {tu : Bool} {H H' : Hp} {l : Addr} {xs : List V} (h : SqB K tu H l xs) (s : Same H H') : SqB K tu H' l xs := by
  cases tu
  · exact s.seq h
  · rcases h with (h | ⟨o, h⟩) | h
    · exact .inl (.inl (s _ _ h))
    · exact .inl (.inr ⟨o, s _ _ h⟩)
    · exact .inr h
def lastGo (p : PySem.Str → Bool) : List PySem.Str → Option Nat
  | [] => none
  | w :: r => if p w = true then some r.length else lastGo p r
/-- the last place at which p holds -/
def lastIx (p : PySem.Str → Bool) (ws : List PySem.Str) : Option Nat := lastGo p ws.reverse
theorem lastIx_snoc (p : PySem.Str → Bool) (ws : List PySem.Str) (w : PySem.Str) : lastIx p (ws ++ [w]) = if p w = true then some ws.length else lastIx p ws := by
  unfold lastIx
  rw [List.reverse_append]
  show lastGo p (w :: ws.reverse) = _
  unfold lastGo
  rw [List.length_reverse]
  cases ws.reverse <;> rfl
theorem lastGo_none {p : PySem.Str → Bool} : ∀ {ws : List PySem.Str}, lastGo p ws = none ↔ ∀ w ∈ ws, p w = false
  | [] => by simp [lastGo]
  | w :: r => by
    unfold lastGo
    cases h : p w
    · simp [lastGo_none (ws := r), h]
    · simp [h]
theorem lastIx_none {p : PySem.Str → Bool} {ws : List PySem.Str} : lastIx p ws = none ↔ ∀ w ∈ ws, p w = false := by
  unfold lastIx; rw [lastGo_none]; simp
def isW (w : PySem.Str) : Bool := decide (w = wW)
def isK (w : PySem.Str) : Bool := decide (w ≠ wN)
/-- the words for a day of the weight wt behind ws -/
def nextW (wt : Int) (ws : List PySem.Str) : List PySem.Str := (if wt = 0 then [wN, wW] else [wW]) ++ ((if lastIx isW ws = none then [] else [wS]) ++ (if lastIx isK ws = none then [] else [wL]))
def nextWs (weights : List Int) (ws : List PySem.Str) : List PySem.Str := match weights[ws.length]? with
  | none => []
  | some wt => nextW wt ws
/-- what bases_behind tells -/
structure BasesOk (kvs : List (Key × V)) (ws : List PySem.Str) : Prop where
  w : valV kvs (Sum.inr wW) = some (.int (-1))
  s : valV kvs (Sum.inr wS) = (lastIx isW ws).map fun i => V.int (i : Int)
  l : valV kvs (Sum.inr wL) = (lastIx isK ws).map fun i => V.int (i : Int)
  n : valV kvs (Sum.inr wN) = none
structure RowsTu (H : Hp) (L : List Addr) (xss : List (List Int)) : Prop where
  len : L.length = xss.length
  get : ∀ (i : Nat) a xs, L[i]? = some a → xss[i]? = some xs → H a = some (.tup (xs.map V.int))
theorem RowsTu.keep {H H' : Hp} {L : List Addr} {xss : List (List Int)} (R : RowsTu H L xss) (h : ∀ t xs, H t = some (.tup xs) → H' t = some (.tup xs)) : RowsTu H' L xss :=
  ⟨R.len, fun i a xs e1 e2 => h _ _ (R.get i a xs e1 e2)⟩
theorem RowsTu.snoc {H : Hp} {L : List Addr} {xss : List (List Int)} (R : RowsTu H L xss) {a : Addr} {xs : List Int} (h : H a = some (.tup (xs.map V.int))) : RowsTu H (L ++ [a]) (xss ++ [xs]) :=
  ⟨by simp [R.len], fun i b ys e1 e2 => by
    have l := R.len
    by_cases hi : i < L.length
    · rw [List.getElem?_append_left hi] at e1
      rw [List.getElem?_append_left (by omega)] at e2
      exact R.get i b ys e1 e2
    · rw [List.getElem?_append_right (by omega)] at e1
      rw [List.getElem?_append_right (by omega)] at e2
      have hz : i - L.length = 0 := by have := (List.getElem?_eq_some_iff.mp e1).1; simp at this; omega
      rw [hz] at e1
      rw [show i - xss.length = 0 by omega] at e2
      have e1 : a = b := by simpa using e1
      have e2 : xs = ys := by simpa using e2
      subst e1 e2
      exact h⟩
def tfs (a b c : Addr) : List (Str × V) := [("sizes", V.ref a), ("weights", V.ref b), ("rates", V.ref c)]
theorem put_t2 {x v : V} : putF "weights" v [("sizes", x)] = ([("sizes", x), ("weights", v)] : List (Str × V)) := by
  rw [putF_ne (by decide +kernel)]; rfl
theorem put_t3 {x y v : V} : putF "rates" v [("sizes", x), ("weights", y)] = ([("sizes", x), ("weights", y), ("rates", v)] : List (Str × V)) := by
  rw [putF_ne (by decide +kernel), putF_ne (by decide +kernel)]; rfl
theorem lk_sizes {a b c : Addr} : List.lookup ("sizes" : Str) (tfs a b c) = some (V.ref a) := by unfold tfs; rw [List.lookup_cons]; simp
theorem lk_weights {a b c : Addr} : List.lookup ("weights" : Str) (tfs a b c) = some (V.ref b) := by
  unfold tfs; rw [List.lookup_cons, show (("weights" : Str) == "sizes") = false by decide +kernel, List.lookup_cons]; simp
theorem lk_rates {a b c : Addr} : List.lookup ("rates" : Str) (tfs a b c) = some (V.ref c) := by
  unfold tfs; rw [List.lookup_cons, show (("rates" : Str) == "sizes") = false by decide +kernel, List.lookup_cons, show (("rates" : Str) == "weights") = false by decide +kernel, List.lookup_cons]; simp
def TaskAt (C : Addr) (H : Hp) (p : Addr) (sizes : List (List Int)) (weights rates : List Int) : Prop :=
  ∃ dx t1 t2 t3 TL, H p = some (.ins C dx (tfs t1 t2 t3)) ∧ H t1 = some (.tup (TL.map V.ref)) ∧ RowsTu H TL sizes ∧ H t2 = some (.tup (weights.map V.int)) ∧ H t3 = some (.tup (rates.map V.int))
theorem TaskAt.keep {C : Addr} {H H' : Hp} {p : Addr} {sizes : List (List Int)} {weights rates : List Int} (h : TaskAt C H p sizes weights rates) (s : Same H H') : TaskAt C H' p sizes weights rates := by
  obtain ⟨dx, t1, t2, t3, TL, h1, h2, h3, h4, h5⟩ := h
  exact ⟨dx, t1, t2, t3, TL, s _ _ h1, s _ _ h2, h3.keep fun t xs e => s _ _ e, s _ _ h4, s _ _ h5⟩
/-- under the change of lists alone -/
theorem TaskAt.keepL {C : Addr} {H H' : Hp} {p : Addr} {sizes : List (List Int)} {weights rates : List Int} (h : TaskAt C H p sizes weights rates) (s : ∀ b o, H b = some o → (∀ xs, o ≠ .lst xs) → H' b = some o) : TaskAt C H' p sizes weights rates := by
  obtain ⟨dx, t1, t2, t3, TL, h1, h2, h3, h4, h5⟩ := h
  exact ⟨dx, t1, t2, t3, TL, s _ _ h1 (fun _ z => by cases z), s _ _ h2 (fun _ z => by cases z), h3.keep fun t xs e => s _ _ e (fun _ z => by cases z), s _ _ h4 (fun _ z => by cases z), s _ _ h5 (fun _ z => by cases z)⟩
theorem upK {H4 : Hp} {x dx : Addr} {o : HO} (hx : H4 x = none) (hd : H4 dx = none) (t : Addr) (o' : HO) (e : H4 t = some o') : upd (upd H4 dx (.own x)) x o t = some o' := by
  rw [upd_ne (ne_of_none e hx), upd_ne (ne_of_none e hd)]; exact e
/-! within a comprehension -/
theorem call_tuple_ofK {X : Cx} {K : PySem.W.Frag} (e : X.K = K) : CallR X (.type "tuple") (fun xs H Q => ∃ p ys, xs = [.ref p] ∧ ((SqL K H p ys ∧ ∀ l, H l = none → Q (.ref l) (upd H l (.tup ys))) ∨ SqT K H p ys ∧ Q (.ref p) H)) := by subst e; exact call_tuple_of
/-! equality -/
theorem eqI_in {K : PySem.W.Frag} {H : Hp} {n : Nat} {a c : Addr} (h0 : ∀ a, EqI K H n (.ref a) (.ref a) true) (h : SeqEq K H (EqI K H n) (.ref a) (.ref c) true) : EqI K H (n + 1) (.ref a) (.ref c) true := by
  by_cases e : a = c
  · subst e; exact .inl (h0 a)
  · exact .inr ⟨fun z => e (by cases z; rfl), h⟩
theorem eq_self {K : PySem.W.Frag} {H : Hp} : ∀ (n : Nat) (a : Addr), EqI K H n (.ref a) (.ref a) true
  | 0, a => .inr ⟨a, rfl, rfl, rfl⟩
  | n + 1, a => .inl (eq_self n a)
theorem eqI_lift {K : PySem.W.Frag} {H : Hp} {x y : V} {b : Bool} : ∀ {n : Nat} (k : Nat), EqI K H n x y b → EqI K H (n + k) x y b
  | _, 0, h => h
  | _, k + 1, h => .inl (eqI_lift k h)
theorem seq_refs {K : PySem.W.Frag} {H : Hp} {n : Nat} {a c : Addr} {A B : List Addr} (h1 : SqL K H a (A.map V.ref) ∧ SqL K H c (B.map V.ref) ∨ SqT K H a (A.map V.ref) ∧ SqT K H c (B.map V.ref)) (hl : A.length = B.length) (hx : ∀ (j : Nat) x y, A[j]? = some x → B[j]? = some y → EqI K H n (.ref x) (.ref y) true) : SeqEq K H (EqI K H n) (.ref a) (.ref c) true := by
  have key : ∀ (j : Nat) x' y', (A.map V.ref)[j]? = some x' → (B.map V.ref)[j]? = some y' → EqI K H n x' y' true := fun j x' y' e1 e2 => by
    rw [List.getElem?_map] at e1 e2
    obtain ⟨x, ex, rfl⟩ := Option.map_eq_some_iff.mp e1
    obtain ⟨y, ey, rfl⟩ := Option.map_eq_some_iff.mp e2
    exact hx j x y ex ey
  rcases h1 with ⟨h1, h2⟩ | ⟨h1, h2⟩
  · exact ⟨a, c, _, _, fun _ => true, rfl, rfl, .inl ⟨h1, h2, by simpa using hl, key, by simp⟩⟩
  · exact ⟨a, c, _, _, fun _ => true, rfl, rfl, .inr (.inr ⟨h1, h2, key, by simp [hl]⟩)⟩
theorem BasesOk.first : BasesOk (putK [] (Sum.inr wW) (V.int (-1))) [] := by
  refine ⟨?_, ?_, ?_, ?_⟩ <;> rw [valV_put]
  · rw [if_pos rfl]
  · rw [if_neg (by decide +kernel)]; rfl
  · rw [if_neg (by decide +kernel)]; rfl
  · rw [if_neg (by decide +kernel)]; rfl
theorem BasesOk.whole {kvs : List (Key × V)} {ws : List PySem.Str} (B : BasesOk kvs ws) : BasesOk (putK (putK kvs (Sum.inr wS) (V.int (ws.length : Int))) (Sum.inr wL) (V.int (ws.length : Int))) (ws ++ [wW]) := by
  refine ⟨?_, ?_, ?_, ?_⟩ <;> rw [valV_put]
  · rw [if_neg (by decide +kernel), valV_put, if_neg (by decide +kernel)]; exact B.w
  · rw [if_neg (by decide +kernel), valV_put, if_pos rfl, lastIx_snoc, if_pos (by decide +kernel)]; rfl
  · rw [if_pos rfl, lastIx_snoc, if_pos (by decide +kernel)]; rfl
  · rw [if_neg (by decide +kernel), valV_put, if_neg (by decide +kernel)]; exact B.n
theorem BasesOk.non {kvs : List (Key × V)} {ws : List PySem.Str} (B : BasesOk kvs ws) : BasesOk kvs (ws ++ [wN]) := by
  refine ⟨B.w, ?_, ?_, B.n⟩
  · rw [lastIx_snoc, if_neg (by decide +kernel)]; exact B.s
  · rw [lastIx_snoc, if_neg (by decide +kernel)]; exact B.l
theorem BasesOk.other {kvs : List (Key × V)} {ws : List PySem.Str} {w : PySem.Str} (B : BasesOk kvs ws) (h1 : w ≠ wW) (h2 : w ≠ wN) : BasesOk (putK kvs (Sum.inr wL) (V.int (ws.length : Int))) (ws ++ [w]) := by
  have a1 : isW w = false := decide_eq_false h1
  have a2 : isK w = true := decide_eq_true h2
  refine ⟨?_, ?_, ?_, ?_⟩ <;> rw [valV_put]
  · rw [if_neg (by decide +kernel)]; exact B.w
  · rw [if_neg (by decide +kernel), lastIx_snoc, a1]; exact B.s
  · rw [if_pos rfl, lastIx_snoc, a2]; rfl
  · rw [if_neg (by decide +kernel)]; exact B.n
theorem BasesOk.filter {kvs : List (Key × V)} {ws : List PySem.Str} (B : BasesOk kvs ws) : ([wW, wS, wL].filter fun w => (valV kvs (Sum.inr w)).isSome) = [wW] ++ ((if lastIx isW ws = none then [] else [wS]) ++ (if lastIx isK ws = none then [] else [wL])) := by
  rw [List.filter_cons, List.filter_cons, List.filter_cons, List.filter_nil, B.w, B.s, B.l]
  cases lastIx isW ws <;> cases lastIx isK ws <;> simp
theorem str_at {xs : List PySem.Str} {j : Nat} {y : V} (h : (xs.map V.str)[j]? = some y) : ∃ n, xs[j]? = some n ∧ V.str n = y := by
  rw [List.getElem?_map] at h
  obtain ⟨c, h1, h2⟩ := Option.map_eq_some_iff.mp h
  exact ⟨c, h1, h2⟩
theorem inV_whole (ws : List PySem.Str) : inV (V.str wW) (ws.map V.str) = !decide (lastIx isW ws = none) := by
  unfold inV
  rw [List.any_map]
  by_cases h : lastIx isW ws = none
  · rw [decide_eq_true h]
    rw [Bool.not_true, List.any_eq_false]
    intro w hw z
    have := (lastIx_none.mp h) w hw
    have z : (w == wW) = true := z
    unfold isW at this
    rw [beq_iff_eq.mp z] at this
    simp at this
  · rw [decide_eq_false h]
    rw [Bool.not_false, List.any_eq_true]
    have : ¬ ∀ w ∈ ws, isW w = false := fun z => h (lastIx_none.mpr z)
    obtain ⟨w, hw⟩ := Classical.not_forall.mp this
    obtain ⟨h1, h2⟩ := Classical.not_imp.mp hw
    refine ⟨w, h1, ?_⟩
    show (w == wW) = true
    have : isW w = true := by simpa using h2
    exact beq_iff_eq.mpr (of_decide_eq_true this)
theorem flat_strs (ws : List PySem.Str) : (ws.map V.str).all flatV = true := by
  rw [List.all_map, List.all_eq_true]; intro w _; rfl
theorem filterK_pos {ws : List PySem.Str} (h : lastIx isK ws ≠ none) : 0 < (ws.filter isK).length := by
  refine List.length_pos_iff.mpr fun z => h (lastIx_none.mpr fun w hw => ?_)
  have := List.filter_eq_nil_iff.mp z w hw
  simpa using this
theorem filterK_nil {ws : List PySem.Str} (h : lastIx isK ws = none) : ws.filter isK = [] := List.filter_eq_nil_iff.mpr fun w hw => by
  rw [lastIx_none.mp h w hw]; simp
theorem nextW_ne (wt : Int) (ws : List PySem.Str) : nextW wt ws ≠ [] := by
  unfold nextW; split <;> simp
end L2
namespace L2
open PySem PySem.Spec PyProof.Rows
/-! ### sum, slices within a comprehension, a comprehension over enumerate -/
theorem call_sum_int {X : Cx} (hc : X.calm = true) : CallR X (.builtin "sum") (fun xs H Q => ∃ (a : Addr) (ns : List Int), xs = [.ref a] ∧ SqL X.K H a (ns.map V.int) ∧ Q (.int ns.sum) H) := by
  rintro pins s σ H xs us Q I r ⟨a, ns, rfl, hS, q⟩
  obtain ⟨u, rfl, ru⟩ := vals1 r
  cases (show u = Value.ref a from ru)
  obtain ⟨its, rv, pl, _⟩ := I.list hS
  have hI := intsAre_of rv
  obtain ⟨zs, e⟩ := hI.allInts.items
  have hl := pl.isList
  rw [e] at hl
  refine sum_intListG (I.ok.hd hc) hl fun h' tk t' hk => ⟨.int ns.sum, H, I.kept hk, ⟨t', ?_⟩, q⟩
  have h1 : numsOf its = ns := hI.numsOf
  have h2 : numsOf (intItems zs).toList = zs.toList.map (·.1) := nums_intItems zs
  rw [← e] at h2
  have h3 : zs.toList.map (·.1) = ns := h2.symm.trans h1
  rw [preSum_eq, List.take_of_length_le (by simp), h3]
theorem sl_listK {X : Cx} {K : PySem.W.Frag} (e : X.K = K) : SlR X (rSlL K) := by subst e; exact sl_list
theorem sl_tupK {X : Cx} {K : PySem.W.Frag} (e : X.K = K) : SlR X (rSlT K) := by subst e; exact sl_tup
theorem comp_enum {K : PySem.W.Frag} {tu : Bool} {l : Addr} (D : Addr) {xs : List V} {g : TG} {tt : TT} {te : TE} {σ : St} {H : Hp} {R : Hp → Prop} (Pv : Nat → St → Hp → List V → Prop) (h0 : Pv 0 σ H []) (hl : ∀ i σ H ys, Pv i σ H ys → SqB K tu H l xs)
    (hs : ∀ i x σ H ys T, xs[i]? = some x → Pv i σ H ys → H T = none → g (.ref T) σ (upd H T (.tup [.int (i : Int), x])) fun σ3 H3 => tt σ3 H3 fun b H4 => if b = true then
      te σ3 H4 fun y H5 => H5 D = some (.lst ys) ∧ ys.length < sizeLine ∧ Pv (i + 1) σ3 (upd H5 D (.lst (ys ++ [y]))) (ys ++ [y]) else Pv (i + 1) σ3 H4 ys) (hd : ∀ σ H ys, Pv xs.length σ H ys → R H) :
    ∃ W : Nat → Nat → St → Hp → List V → Prop, (∃ m, W 0 m σ H []) ∧ ∀ i m σ' H' ys, W i m σ' H' ys → ((Ite K tu l).stop i H' ∧ R H') ∨
      ((Ite K tu l).go i H' ∧ ∃ N : St → Hp → List V → Prop, (∀ σ' H' ys', N σ' H' ys' → ∃ m', m' < m ∧ W (i + 1) m' σ' H' ys') ∧ ∀ x H2, (Ite K tu l).yld i H' x H2 → g x σ' H2 fun σ3 H3 => tt σ3 H3 fun b H4 => if b = true then
        te σ3 H4 fun y H5 => H5 D = some (.lst ys) ∧ ys.length < sizeLine ∧ N σ3 (upd H5 D (.lst (ys ++ [y]))) (ys ++ [y])
        else N σ3 H4 ys) := by
  refine ⟨fun i m σ H ys => m = xs.length - i ∧ i ≤ xs.length ∧ Pv i σ H ys, ⟨xs.length, by simp, Nat.zero_le _, h0⟩, ?_⟩
  rintro i m σ H ys ⟨rfl, hi, p⟩
  have q1 := hl i σ H ys p
  by_cases hlt : i < xs.length
  · have ex : xs[i]? = some xs[i] := List.getElem?_eq_getElem hlt
    refine .inr ⟨⟨xs, _, q1, ex⟩, Pv (i + 1), fun σ' H' ys' p' => ⟨xs.length - (i + 1), by omega, rfl, hlt, p'⟩, ?_⟩
    rintro v H' ⟨T, x, nT, rfl, rfl, hx⟩
    exact hs i x σ H ys T (hx xs q1) p nT
  · have e : i = xs.length := by omega
    subst e
    exact .inl ⟨⟨xs, q1, rfl⟩, hd σ H ys p⟩
/-! ### bases and costs -/
def bOf (pre : List PySem.Str) (w : PySem.Str) : Option Int :=
  if w = wW then some (-1) else if w = wS then (lastIx isW pre).map (fun i : Nat => (i : Int)) else if w = wL then (lastIx isK pre).map (fun i : Nat => (i : Int)) else none
theorem bOf_N (pre : List PySem.Str) : bOf pre wN = none := by
  unfold bOf; rw [if_neg (by decide +kernel), if_neg (by decide +kernel), if_neg (by decide +kernel)]
theorem bOf_W (pre : List PySem.Str) : bOf pre wW = some (-1) := by unfold bOf; rw [if_pos rfl]
theorem bOf_S (pre : List PySem.Str) : bOf pre wS = (lastIx isW pre).map (fun i : Nat => (i : Int)) := by
  unfold bOf; rw [if_neg (by decide +kernel), if_pos rfl]
theorem bOf_L (pre : List PySem.Str) : bOf pre wL = (lastIx isK pre).map (fun i : Nat => (i : Int)) := by
  unfold bOf; rw [if_neg (by decide +kernel), if_neg (by decide +kernel), if_pos rfl]
/-- each word is allowed behind those ahead -/
def VW (ws : List PySem.Str) : Prop := ∀ (d : Nat) w, ws[d]? = some w → w = wN ∨ w = wW ∨ (w = wS ∧ lastIx isW (ws.take d) ≠ none) ∨ (w = wL ∧ lastIx isK (ws.take d) ≠ none)
theorem VW.nil : VW [] := fun d w h => by simp at h
theorem VW.snoc {ws : List PySem.Str} {w : PySem.Str} {wt : Int} (h : VW ws) (hw : w ∈ nextW wt ws) : VW (ws ++ [w]) := fun d x e => by
  by_cases hd : d < ws.length
  · rw [List.getElem?_append_left hd] at e
    rw [List.take_append_of_le_length (by omega)]
    exact h d x e
  · rw [List.getElem?_append_right (by omega)] at e
    have hz : d - ws.length = 0 := by have := (List.getElem?_eq_some_iff.mp e).1; simp at this; omega
    rw [hz] at e
    have e : w = x := by simpa using e
    subst e
    have hdl : d = ws.length := by omega
    subst hdl
    rw [List.take_append_of_le_length (by omega), List.take_length]
    unfold nextW at hw
    rcases List.mem_append.mp hw with h1 | h1
    · split at h1 <;> simp at h1
      · rcases h1 with h1 | h1
        · exact .inl h1
        · exact .inr (.inl h1)
      · exact .inr (.inl h1)
    · rcases List.mem_append.mp h1 with h2 | h2
      · split at h2
        · simp at h2
        · rename_i hn
          exact .inr (.inr (.inl ⟨by simpa using h2, hn⟩))
      · split at h2
        · simp at h2
        · rename_i hn
          exact .inr (.inr (.inr ⟨by simpa using h2, hn⟩))
theorem VW.take {ws : List PySem.Str} (h : VW ws) (k : Nat) : VW (ws.take k) := fun d w e => by
  have hd : d < k := by
    have := (List.getElem?_eq_some_iff.mp e).1
    rw [List.length_take] at this; omega
  rw [List.getElem?_take_of_lt hd] at e
  rw [List.take_take, Nat.min_eq_left (by omega)]
  exact h d w e
theorem VW.four {ws : List PySem.Str} (h : VW ws) {d : Nat} {w : PySem.Str} (e : ws[d]? = some w) : w = wN ∨ w = wW ∨ w = wS ∨ w = wL := by
  rcases h d w e with h | h | ⟨h, _⟩ | ⟨h, _⟩
  · exact .inl h
  · exact .inr (.inl h)
  · exact .inr (.inr (.inl h))
  · exact .inr (.inr (.inr h))
theorem lastGo_some {p : PySem.Str → Bool} : ∀ {l : List PySem.Str} {i : Nat}, lastGo p l = some i → i < l.length ∧ ∃ w, l.reverse[i]? = some w ∧ p w = true
  | [], i, h => by simp [lastGo] at h
  | w :: r, i, h => by
    unfold lastGo at h
    by_cases hp : p w = true
    · rw [if_pos hp] at h
      have h := Option.some.inj h
      subst h
      refine ⟨by simp, w, ?_, hp⟩
      rw [List.reverse_cons, List.getElem?_append_right (by simp)]
      simp
    · rw [if_neg hp] at h
      obtain ⟨h1, x, h2, h3⟩ := lastGo_some h
      refine ⟨by simp; omega, x, ?_, h3⟩
      rw [List.reverse_cons, List.getElem?_append_left (by simpa using h1)]
      exact h2
theorem lastIx_some {p : PySem.Str → Bool} {ws : List PySem.Str} {i : Nat} (h : lastIx p ws = some i) : i < ws.length ∧ ∃ w, ws[i]? = some w ∧ p w = true := by
  unfold lastIx at h
  obtain ⟨h1, w, h2, h3⟩ := lastGo_some h
  rw [List.reverse_reverse] at h2
  rw [List.length_reverse] at h1
  exact ⟨h1, w, h2, h3⟩
/-- the base of day d, -1 where it has none -/
def baseI (ws : List PySem.Str) (d : Nat) : Int := ((ws[d]?.bind fun w => bOf (ws.take d) w)).getD (-1)
theorem baseI_at {ws : List PySem.Str} {d : Nat} {w : PySem.Str} (e : ws[d]? = some w) : baseI ws d = (bOf (ws.take d) w).getD (-1) := by
  unfold baseI; rw [e]; rfl
def Kept (ws : List PySem.Str) (d : Nat) : Prop := ∃ w, ws[d]? = some w ∧ w ≠ wN
theorem bOf_cases {pre : List PySem.Str} {w : PySem.Str} {b : Int} (h : bOf pre w = some b) : b = -1 ∨ ∃ i : Nat, b = (i : Int) ∧ i < pre.length ∧ ∃ x, pre[i]? = some x ∧ x ≠ wN := by
  unfold bOf at h
  split at h
  · exact .inl (Option.some.inj h).symm
  · split at h
    · obtain ⟨i, h1, h2⟩ := Option.map_eq_some_iff.mp h
      obtain ⟨a1, x, a2, a3⟩ := lastIx_some h1
      refine .inr ⟨i, h2.symm, a1, x, a2, ?_⟩
      have : x = wW := of_decide_eq_true a3
      rw [this]; decide +kernel
    · split at h
      · obtain ⟨i, h1, h2⟩ := Option.map_eq_some_iff.mp h
        obtain ⟨a1, x, a2, a3⟩ := lastIx_some h1
        exact .inr ⟨i, h2.symm, a1, x, a2, of_decide_eq_true a3⟩
      · cases h
theorem baseI_cases (ws : List PySem.Str) (d : Nat) : baseI ws d = -1 ∨ ∃ i : Nat, baseI ws d = (i : Int) ∧ i < d ∧ Kept ws i := by
  cases e : ws[d]? with
  | none => left; unfold baseI; rw [e]; rfl
  | some w =>
    rw [baseI_at e]
    cases h : bOf (ws.take d) w with
    | none => exact .inl rfl
    | some b =>
      rcases bOf_cases h with h1 | ⟨i, h1, h2, x, h3, h4⟩
      · exact .inl h1
      · rw [List.length_take] at h2
        refine .inr ⟨i, h1, by omega, x, ?_, h4⟩
        rw [List.getElem?_take_of_lt (by omega)] at h3
        exact h3
theorem baseI_lt (ws : List PySem.Str) (d : Nat) : baseI ws d < (d : Int) := by
  rcases baseI_cases ws d with h | ⟨i, h, h2, _⟩ <;> omega
theorem baseI_ge (ws : List PySem.Str) (d : Nat) : -1 ≤ baseI ws d := by
  rcases baseI_cases ws d with h | ⟨i, h, h2, _⟩ <;> omega
theorem VW.base {ws : List PySem.Str} (h : VW ws) {d : Nat} {w : PySem.Str} (e : ws[d]? = some w) (hn : w ≠ wN) : bOf (ws.take d) w = some (baseI ws d) := by
  rw [baseI_at e]
  rcases h d w e with h | h | ⟨h, h2⟩ | ⟨h, h2⟩
  · exact absurd h hn
  · subst h; rw [bOf_W]; rfl
  · subst h; rw [bOf_S]
    cases q : lastIx isW (ws.take d) with
    | none => exact absurd q h2
    | some i => rfl
  · subst h; rw [bOf_L]
    cases q : lastIx isK (ws.take d) with
    | none => exact absurd q h2
    | some i => rfl
theorem BasesOk.get {kvs : List (Key × V)} {pre : List PySem.Str} (B : BasesOk kvs pre) {w : PySem.Str} (h : w = wN ∨ w = wW ∨ w = wS ∨ w = wL) : valV kvs (Sum.inr w) = (bOf pre w).map V.int := by
  rcases h with rfl | rfl | rfl | rfl
  · rw [B.n, bOf_N]; rfl
  · rw [B.w, bOf_W]; rfl
  · rw [B.s, bOf_S]; cases lastIx isW pre <;> rfl
  · rw [B.l, bOf_L]; cases lastIx isK pre <;> rfl
def bvAt (ws : List PySem.Str) (d : Nat) : V := (((ws[d]?.bind fun w => bOf (ws.take d) w)).map V.int).getD .non
theorem bvAt_at {ws : List PySem.Str} {d : Nat} {w : PySem.Str} (e : ws[d]? = some w) : bvAt ws d = ((bOf (ws.take d) w).map V.int).getD .non := by
  unfold bvAt; rw [e]; rfl
def bvals (ws : List PySem.Str) : List V := (List.range ws.length).map (bvAt ws)
/-- the cost of ways -/
def wyF (f b : Nat → Int) : Nat → Nat → Int
  | 0, _ => 0
  | k + 1, d => f d + (if b d < 0 then 0 else wyF f b k (b d).toNat)
theorem wyF_fuel {f b : Nat → Int} (hb : ∀ d, b d < (d : Int)) : ∀ (d k : Nat), d < k → wyF f b k d = wyF f b (d + 1) d
  | d, 0, h => absurd h (Nat.not_lt_zero _)
  | d, k + 1, h => by
    show f d + (if b d < 0 then 0 else wyF f b k (b d).toNat) = f d + (if b d < 0 then 0 else wyF f b d (b d).toNat)
    by_cases h0 : b d < 0
    · rw [if_pos h0, if_pos h0]
    · have hd := hb d
      rw [if_neg h0, if_neg h0, wyF_fuel hb (b d).toNat k (by omega), wyF_fuel hb (b d).toNat d (by omega)]
termination_by d => d
decreasing_by all_goals omega
def wy (f b : Nat → Int) (d : Nat) : Int := wyF f b (d + 1) d
def wyI (f b : Nat → Int) (i : Int) : Int := if i < 0 then 0 else wy f b i.toNat
theorem wy_eq {f b : Nat → Int} (hb : ∀ d, b d < (d : Int)) (d : Nat) : wy f b d = f d + wyI f b (b d) := by
  show f d + (if b d < 0 then 0 else wyF f b d (b d).toNat) = f d + (if b d < 0 then 0 else wy f b (b d).toNat)
  by_cases h0 : b d < 0
  · rw [if_pos h0, if_pos h0]
  · rw [if_neg h0, if_neg h0]
    have hd := hb d
    rw [wyF_fuel hb (b d).toNat d (by omega)]; rfl
def sumTo (c : Nat → Int) : Nat → Int
  | 0 => 0
  | k + 1 => sumTo c k + c k
theorem sum_range (c : Nat → Int) : ∀ k, ((List.range k).map c).sum = sumTo c k
  | 0 => rfl
  | k + 1 => by
    rw [List.range_succ, List.map_append, List.sum_append, sum_range c k]
    simp [sumTo]
/-- the size of the piece of day d, the cost of its leg and of the day -/
def szD (sizes : List (List Int)) (ws : List PySem.Str) (d : Nat) : Int := (sizes.getD d []).getD (baseI ws d + 1).toNat 0
def legD (sizes : List (List Int)) (r2 r3 : Int) (ws : List PySem.Str) (d : Nat) : Int := r2 + r3 * szD sizes ws d
def wayD (sizes : List (List Int)) (r2 r3 : Int) (ws : List PySem.Str) (d : Nat) : Int := wy (legD sizes r2 r3 ws) (baseI ws) d
def wayDI (sizes : List (List Int)) (r2 r3 : Int) (ws : List PySem.Str) (i : Int) : Int := wyI (legD sizes r2 r3 ws) (baseI ws) i
theorem wayD_eq (sizes : List (List Int)) (r2 r3 : Int) (ws : List PySem.Str) (d : Nat) : wayD sizes r2 r3 ws d = (r2 + r3 * szD sizes ws d) + wayDI sizes r2 r3 ws (baseI ws d) := wy_eq (baseI_lt ws) d
theorem wayDI_neg (sizes : List (List Int)) (r2 r3 : Int) (ws : List PySem.Str) : wayDI sizes r2 r3 ws (-1) = 0 := rfl
theorem wayDI_nat (sizes : List (List Int)) (r2 r3 : Int) (ws : List PySem.Str) (d : Nat) : wayDI sizes r2 r3 ws (d : Int) = wayD sizes r2 r3 ws d := by
  unfold wayDI wyI; rw [if_neg (by omega)]; rfl
def costD (sizes : List (List Int)) (weights : List Int) (r0 r1 r2 r3 : Int) (ws : List PySem.Str) (d : Nat) : Int :=
  if ws[d]? = some wN then 0 else (r0 + r1 * ((sizes.length : Int) - (d : Int))) * szD sizes ws d + weights.getD d 0 * wayD sizes r2 r3 ws d
end L2
namespace L2
open PySem PySem.Spec PyProof.Rows
/-! ### the least of some numbers -/
def IsMin (ns : List Int) (m : Int) : Prop := m ∈ ns ∧ ∀ x ∈ ns, m ≤ x
def minL : List Int → Int
  | [] => 0
  | [x] => x
  | x :: y :: r => if x ≤ minL (y :: r) then x else minL (y :: r)
theorem isMin_minL : ∀ {ns : List Int}, ns ≠ [] → IsMin ns (minL ns)
  | [], h => absurd rfl h
  | [x], _ => by
    refine ⟨by simp [minL], fun y hy => ?_⟩
    have : y = x := by simpa using hy
    subst this
    exact Int.le_refl _
  | x :: y :: r, _ => by
    obtain ⟨h1, h2⟩ := isMin_minL (ns := y :: r) (by simp)
    show IsMin _ (if x ≤ minL (y :: r) then x else minL (y :: r))
    by_cases h : x ≤ minL (y :: r)
    · rw [if_pos h]
      refine ⟨List.mem_cons_self .., fun z hz => ?_⟩
      rcases List.mem_cons.mp hz with rfl | hz
      · exact Int.le_refl _
      · exact Int.le_trans h (h2 z hz)
    · rw [if_neg h]
      refine ⟨List.mem_cons_of_mem _ h1, fun z hz => ?_⟩
      rcases List.mem_cons.mp hz with rfl | hz
      · omega
      · exact h2 z hz
theorem IsMin.eq {ns : List Int} {m : Int} (h : IsMin ns m) : m = minL ns := by
  have hn : ns ≠ [] := List.ne_nil_of_mem h.1
  obtain ⟨h1, h2⟩ := isMin_minL hn
  exact Int.le_antisymm (h.2 _ h1) (h2 _ h.1)
theorem sorted_min {ns ns' : List Int} {m : Int} (hp : ns'.Perm ns) (hs : ns'.Pairwise (· ≤ ·)) (e : ns'[0]? = some m) : m = minL ns := by
  refine IsMin.eq ⟨hp.mem_iff.mp (List.mem_of_getElem? e), fun x hx => ?_⟩
  have hx := hp.mem_iff.mpr hx
  cases ns' with
  | nil => simp at e
  | cons a r =>
    have : a = m := by simpa using e
    subst this
    rcases List.mem_cons.mp hx with rfl | hx
    · exact Int.le_refl _
    · exact (List.pairwise_cons.mp hs).1 x hx
theorem call_minT {X : Cx} (hc : X.calm = true) : CallR X (.builtin "min") (fun xs H Q => ∃ (a : Addr) (ns : List Int), xs = [.ref a] ∧ SqT X.K H a (ns.map V.int) ∧ ns ≠ [] ∧ Q (.int (minL ns)) H) := by
  rintro pins s σ H xs us Q I r ⟨a, ns, rfl, hS, hne, q⟩
  obtain ⟨u, rfl, ru⟩ := vals1 r
  cases (show u = Value.ref a from ru)
  obtain ⟨its, rv, pt, _⟩ := I.tuple hS
  have hI := intsAre_of rv
  have hT : s.heap.IsTuple a its.toArray := pt
  have hlt : a < s.heap.objs.size := by obtain ⟨o, e, _⟩ := hT; exact Heap.lt_size e
  have hil := ints_len hI
  have npos : 0 < ns.length := List.length_pos_iff.mpr hne
  have hval : ∀ i v, its.toArray[i]? = some v → ∃ t, v = Value.int (ns.getD i 0) t := fun i v e => hI.int_at i v (by simpa using e)
  refine call_min_walk (wpAny_pyIter_tuple hT ⟨s.heap.objs.size, _, _, _, _, _, _, rfl, Walks.tuple (A := X.A.in1) (I.ok.hd hc) _ a (anelt' hlt (Nat.le_refl _)) its.toArray, ⟨⟨_, Heap.get?_push_size _ rfl, rfl, rfl⟩, let ⟨o, e, r⟩ := hT; ⟨o, Heap.get?_push_of_some _ e, r⟩⟩, fun b hb => ?_, by simp; omega, CmpOf.ints_lt (fun i => ns.getD i 0) hval, fun v h' tk hP hk => ?_⟩)
  · show b < (s.heap.push _).objs.size
    rw [Heap.size_push]
    simp only [List.mem_cons, List.not_mem_nil, or_false] at hb
    rcases hb with rfl | rfl
    · exact Nat.lt_succ_self _
    · exact Nat.lt_succ_of_lt hlt
  · obtain ⟨t, rfl⟩ := hval _ _ hP
    obtain ⟨b1, b2⟩ := argBest_lt (fun i => ns.getD i 0) (its.toArray.size - 1)
    have hsz : its.toArray.size = ns.length := by simp [hil]
    refine ⟨.int (minL ns), H, I.kept fun b o e => hk b o (fun hm => ?_) (Heap.get?_push_of_some _ e), ⟨t, ?_⟩, q⟩
    · have : b = s.heap.objs.size := by simpa using hm
      exact absurd (Heap.lt_size e) (by rw [this]; exact Nat.lt_irrefl _)
    · congr 1
      refine IsMin.eq ⟨?_, fun x hx => ?_⟩
      · have hb : argBest (fun i j => decide (ns.getD i 0 < ns.getD j 0)) (its.toArray.size - 1) < ns.length := by omega
        rw [List.getD_eq_getElem?_getD, List.getElem?_eq_getElem hb, Option.getD_some]
        exact List.getElem_mem hb
      · obtain ⟨j, hj⟩ := List.mem_iff_getElem?.mp hx
        have hjl : j < ns.length := (List.getElem?_eq_some_iff.mp hj).1
        have := b2 j (by omega)
        rw [show ns.getD j 0 = x by rw [List.getD_eq_getElem?_getD, hj]; rfl] at this
        exact this
/-! ### bounds -/
def VN (weights : List Int) (ws : List PySem.Str) : Prop := ∀ d : Nat, ws[d]? = some wN → weights.getD d 0 = 0
theorem VN.nil {weights : List Int} : VN weights [] := fun d h => by simp at h
theorem VN.take {weights : List Int} {ws : List PySem.Str} (h : VN weights ws) (k : Nat) : VN weights (ws.take k) := fun d e => by
  have hd : d < k := by
    have := (List.getElem?_eq_some_iff.mp e).1
    rw [List.length_take] at this; omega
  rw [List.getElem?_take_of_lt hd] at e
  exact h d e
theorem VN.snoc {weights : List Int} {ws : List PySem.Str} {w : PySem.Str} {wt : Int} (h : VN weights ws) (ewt : weights[ws.length]? = some wt) (hw : w ∈ nextW wt ws) : VN weights (ws ++ [w]) := fun d e => by
  by_cases hd : d < ws.length
  · rw [List.getElem?_append_left hd] at e; exact h d e
  · rw [List.getElem?_append_right (by omega)] at e
    have hz : d - ws.length = 0 := by have := (List.getElem?_eq_some_iff.mp e).1; simp at this; omega
    rw [hz] at e
    have e : w = wN := by simpa using e
    have hdl : d = ws.length := by omega
    subst hdl
    rw [List.getD_eq_getElem?_getD, ewt, Option.getD_some]
    unfold nextW at hw
    rw [e] at hw
    have n1 : (wN = wW) = False := eq_false (by decide +kernel)
    have n2 : (wN = wS) = False := eq_false (by decide +kernel)
    have n3 : (wN = wL) = False := eq_false (by decide +kernel)
    by_cases h0 : wt = 0
    · exact h0
    · rw [if_neg h0] at hw
      exfalso
      rcases List.mem_append.mp hw with h1 | h1
      · rw [List.mem_singleton, n1] at h1; exact h1
      · rcases List.mem_append.mp h1 with h2 | h2
        · split at h2
          · simp at h2
          · rw [List.mem_singleton, n2] at h2; exact h2
        · split at h2
          · simp at h2
          · rw [List.mem_singleton, n3] at h2; exact h2
def lowD (sizes : List (List Int)) (weights : List Int) (r0 r1 r2 r3 : Int) (d : Nat) : Int :=
  if weights.getD d 0 > 0 then (r0 + r1 * ((sizes.length : Int) - (d : Int))) * minL (sizes.getD d []) + weights.getD d 0 * (r2 + r3 * minL (sizes.getD d [])) else 0
def bdD (sizes : List (List Int)) (weights : List Int) (r0 r1 r2 r3 : Int) (ws : List PySem.Str) (d : Nat) : Int :=
  if d < ws.length then costD sizes weights r0 r1 r2 r3 ws d else lowD sizes weights r0 r1 r2 r3 d
theorem sumTo_congr {c c' : Nat → Int} : ∀ {k : Nat}, (∀ d, d < k → c d = c' d) → sumTo c k = sumTo c' k
  | 0, _ => rfl
  | k + 1, h => by
    show sumTo c k + c k = sumTo c' k + c' k
    rw [sumTo_congr (k := k) fun d hd => h d (by omega), h k (by omega)]
theorem sumTo_mono {c c' : Nat → Int} : ∀ {k : Nat}, (∀ d, d < k → c d ≤ c' d) → sumTo c k ≤ sumTo c' k
  | 0, _ => Int.le_refl _
  | k + 1, h => by
    show sumTo c k + c k ≤ sumTo c' k + c' k
    have := sumTo_mono (k := k) fun d hd => h d (by omega)
    have := h k (by omega)
    omega
theorem sumTo_nonneg {c : Nat → Int} : ∀ {k : Nat}, (∀ d, d < k → 0 ≤ c d) → 0 ≤ sumTo c k
  | 0, _ => Int.le_refl _
  | k + 1, h => by
    show 0 ≤ sumTo c k + c k
    have := sumTo_nonneg (k := k) fun d hd => h d (by omega)
    have := h k (by omega)
    omega
theorem wyF_nonneg {f b : Nat → Int} (hf : ∀ d, 0 ≤ f d) : ∀ (k d : Nat), 0 ≤ wyF f b k d
  | 0, _ => Int.le_refl _
  | k + 1, d => by
    show 0 ≤ f d + (if b d < 0 then 0 else wyF f b k (b d).toNat)
    have h1 := hf d
    by_cases h0 : b d < 0
    · rw [if_pos h0]; omega
    · rw [if_neg h0]; have := wyF_nonneg (b := b) hf k (b d).toNat; omega
theorem wyF_congr {f b f' b' : Nat → Int} {n : Nat} (h : ∀ e, e < n → f e = f' e ∧ b e = b' e) (hb : ∀ d, b d < (d : Int)) : ∀ (k d : Nat), d < n → wyF f b k d = wyF f' b' k d
  | 0, _, _ => rfl
  | k + 1, d, hd => by
    obtain ⟨h1, h2⟩ := h d hd
    show f d + (if b d < 0 then 0 else wyF f b k (b d).toNat) = f' d + (if b' d < 0 then 0 else wyF f' b' k (b' d).toNat)
    rw [h1, ← h2]
    by_cases h0 : b d < 0
    · rw [if_pos h0, if_pos h0]
    · rw [if_neg h0, if_neg h0]
      have hd2 := hb d
      rw [wyF_congr h hb k (b d).toNat (by omega)]
theorem baseI_take {ws : List PySem.Str} {k d : Nat} (h : d < k) : baseI (ws.take k) d = baseI ws d := by
  unfold baseI
  rw [List.getElem?_take_of_lt h, List.take_take, Nat.min_eq_left (by omega)]
theorem costD_take {sizes : List (List Int)} {weights : List Int} {r0 r1 r2 r3 : Int} {ws : List PySem.Str} {k d : Nat} (h : d < k) : costD sizes weights r0 r1 r2 r3 (ws.take k) d = costD sizes weights r0 r1 r2 r3 ws d := by
  have e1 : ∀ e, e < k → szD sizes (ws.take k) e = szD sizes ws e := fun e he => by unfold szD; rw [baseI_take he]
  have e2 : wayD sizes r2 r3 (ws.take k) d = wayD sizes r2 r3 ws d := by
    unfold wayD wy
    refine wyF_congr (n := k) (fun e he => ⟨?_, baseI_take he⟩) (baseI_lt _) _ _ h
    unfold legD; rw [e1 e he]
  unfold costD
  rw [List.getElem?_take_of_lt h, e1 d h, e2]
end L2
namespace L2
open PySem PySem.Spec PyProof.Rows
/-! ### x for x in reversed(l) -/
def Itv (K : PySem.W.Frag) (a : Addr) (n : Nat) : It :=
  ⟨fun i H => ∃ xs x, SqL K H a xs ∧ xs.length = n ∧ xs.reverse[i]? = some x, fun i H x H' => H' = H ∧ ∀ xs, SqL K H a xs → xs.reverse[i]? = some x, fun i _ => i = n⟩
theorem rev_at {α : Type} {xs : List α} {i : Nat} {x : α} (h : xs.reverse[i]? = some x) : i < xs.length ∧ xs[xs.length - 1 - i]? = some x := by
  have hi : i < xs.length := by have := (List.getElem?_eq_some_iff.mp h).1; simpa using this
  rw [List.getElem?_reverse hi] at h
  exact ⟨hi, h⟩
theorem turn_rev {P : Program} {w : World} {K : PySem.W.Frag} {tg : Expr} (a it : Addr) (n : Nat) : Turn P w K tg (Itv K a n) [it] it (fun i h => h.IsRevIter it a ((n : Int) - 1 - (i : Int))) where
  mem := by simp
  obj := fun i h st b hb => by
    have e : b = it := by simpa using hb
    subst e
    obtain ⟨o, e, c, d⟩ := st
    exact ⟨o, e, fun v z => by rw [d] at z; cases z⟩
  keep := fun i h h' st k => st.at fun o e => k it (by simp) o e
  item := by
    intro X hP hw hK hc i pins s σ H E I hf st hg
    subst hP hw hK
    obtain ⟨xs, x, hq, hn, hx⟩ := hg
    obtain ⟨hi, hx'⟩ := rev_at hx
    obtain ⟨its, rv, p, hz⟩ := I.list hq
    obtain ⟨u, hu, ru⟩ := rv.get hx'
    obtain ⟨f0, f1, f2, f3, f4, f5⟩ := hf it (by simp)
    have e0 : (n : Int) - 1 - (i : Int) = ((xs.length - 1 - i : Nat) : Int) := by omega
    rw [e0] at st
    refine wpAny_pyNext_rev_item st p.isList (x := u) (by simpa using hu) fun h' st' sb => ?_
    have e1 : ((xs.length - 1 - i : Nat) : Int) - 1 = (n : Int) - 1 - ((i + 1 : Nat) : Int) := by omega
    rw [e1] at st'
    have I1 : Inv X pins σ H { s with heap := h' } := I.turned (t' := s.toks) (fun b o hb e => (sb.2 b hb).trans e) f0 f1 f3 f4 f5
    obtain ⟨o, e, c, d⟩ := id st'
    exact ⟨u, rfl, go_of (s := { s with heap := h' }) e c d (by decide) ⟨x, H, I1, ru, ⟨rfl, fun ys hy => by rw [I.list_inj hy hq]; exact hx⟩, st', fun b hb => (hf b hb).1⟩⟩
  done := by
    intro X hP hw hK hc i pins s σ H E I hf st hg
    subst hP hw hK
    have hg : i = n := hg
    subst hg
    have e0 : (i : Int) - 1 - (i : Int) = -1 := by omega
    rw [e0] at st
    obtain ⟨f0, f1, f2, f3, f4, f5⟩ := hf it (by simp)
    exact wpAny_pyNext_rev_end (I.ok.hd hc) st fun h' eb => ⟨rfl, I.turned (t' := s.toks) (fun b o hb e => eb b o hb e) f0 f1 f3 f4 f5⟩
  self := fun _ _ _ _ _ st h => wpAny_pyIter_revIter st h
def iRev (K : PySem.W.Frag) (ta : TA) : TI := fun σ H R => ta σ H fun vs H1 => ∃ l xs, vs = [.ref l] ∧ SqL K H1 l xs ∧ R (Itv K l xs.length) H1
theorem pi_rev {X : Cx} {tg a : Expr} {ta : TA} {p pos : Pos} (hg : Gl X "reversed") (hm : X.mg "reversed" = none) (ha : PA X [a] ta) (hs : starEach [a] X.env = [(false, eval a X.env)] := by rfl) :
    PI X tg (.Call (.Name "reversed" p) [a] [] pos) (iRev X.K ta) := by
  intro pins s σ H R I h
  refine Call_ (ld_blt I hg hm boot_reversed (PyProof.Rows.callWith_type1 (thn (ha pos pins s σ H _ I h) fun us s1 ⟨vs, H1, I1, r1, q1⟩ => ?_) hs rfl))
  obtain ⟨l, xs, e, hx, q⟩ := q1
  subst e
  obtain ⟨u, rfl, ru⟩ := vals1 r1
  cases (show u = Value.ref l from ru)
  obtain ⟨its, rv, pl, hz⟩ := I1.list hx
  have hl := rv.length
  refine call_reversed_list pl.isList ?_
  have e0 : ((its.toArray.size : Nat) : Int) - 1 = (xs.length : Int) - 1 - ((0 : Nat) : Int) := by simp; omega
  rw [e0]
  have st : (s1.heap.push (revObj l ((xs.length : Int) - 1 - ((0 : Nat) : Int)))).IsRevIter s1.heap.objs.size l ((xs.length : Int) - 1 - ((0 : Nat) : Int)) := ⟨_, Heap.get?_push_size _ rfl, rfl, rfl⟩
  refine wpAny_pyIter_revIter (s := { s1 with heap := s1.heap.push (revObj l ((xs.length : Int) - 1 - ((0 : Nat) : Int))) }) st ?_
  refine ⟨s1.heap.objs.size, [s1.heap.objs.size], _, _, H1, rfl, I1.kept (t' := s1.toks) fun b o e => Heap.get?_push_of_some _ e, turn_rev l _ xs.length, st, fun b hb => ?_, q⟩
  have e : b = s1.heap.objs.size := by simpa using hb
  subst e
  exact I1.fpOk (Nat.le_refl _) (I1.hok.fresh (Nat.le_refl _))
theorem comp_rev {K : PySem.W.Frag} {a : Addr} (D : Addr) {xs : List V} {g : TG} {tt : TT} {te : TE} {σ : St} {H : Hp} {R : Hp → Prop} (Pv : Nat → St → Hp → List V → Prop) (h0 : Pv 0 σ H []) (hl : ∀ i σ H ys, Pv i σ H ys → SqL K H a xs)
    (hs : ∀ i x σ H ys, xs.reverse[i]? = some x → Pv i σ H ys → g x σ H fun σ3 H3 => tt σ3 H3 fun b H4 => if b = true then
      te σ3 H4 fun y H5 => H5 D = some (.lst ys) ∧ ys.length < sizeLine ∧ Pv (i + 1) σ3 (upd H5 D (.lst (ys ++ [y]))) (ys ++ [y]) else Pv (i + 1) σ3 H4 ys) (hd : ∀ σ H ys, Pv xs.length σ H ys → R H) :
    ∃ W : Nat → Nat → St → Hp → List V → Prop, (∃ m, W 0 m σ H []) ∧ ∀ i m σ' H' ys, W i m σ' H' ys → ((Itv K a xs.length).stop i H' ∧ R H') ∨
      ((Itv K a xs.length).go i H' ∧ ∃ N : St → Hp → List V → Prop, (∀ σ' H' ys', N σ' H' ys' → ∃ m', m' < m ∧ W (i + 1) m' σ' H' ys') ∧ ∀ x H2, (Itv K a xs.length).yld i H' x H2 → g x σ' H2 fun σ3 H3 => tt σ3 H3 fun b H4 => if b = true then
        te σ3 H4 fun y H5 => H5 D = some (.lst ys) ∧ ys.length < sizeLine ∧ N σ3 (upd H5 D (.lst (ys ++ [y]))) (ys ++ [y])
        else N σ3 H4 ys) := by
  refine ⟨fun i m σ H ys => m = xs.length - i ∧ i ≤ xs.length ∧ Pv i σ H ys, ⟨xs.length, by simp, Nat.zero_le _, h0⟩, ?_⟩
  rintro i m σ H ys ⟨rfl, hi, p⟩
  have q := hl i σ H ys p
  by_cases hlt : i < xs.length
  · have ex : xs.reverse[i]? = some (xs.reverse[i]'(by simpa using hlt)) := List.getElem?_eq_getElem _
    refine .inr ⟨⟨xs, _, q, rfl, ex⟩, Pv (i + 1), fun σ' H' ys' p' => ⟨xs.length - (i + 1), by omega, rfl, hlt, p'⟩, fun x H' y => ?_⟩
    obtain ⟨e, y⟩ := y
    subst e
    exact hs i x σ _ ys (y xs q) p
  · have e : i = xs.length := by omega
    subst e
    exact .inl ⟨rfl, hd σ H ys p⟩
/-! ### t + (w,) -/
def rCat1 (K : PySem.W.Frag) : R2 := fun x y H Q => ∃ a b xs ys, x = .ref a ∧ y = .ref b ∧ SqT K H a xs ∧ H b = some (.tup ys) ∧ ys ≠ [] ∧ xs.length + ys.length ≤ sizeLine ∧
  ∀ p H', H' p = some (.tup (xs ++ ys)) → Same H H' → Q (.ref p) H'
theorem cat_tup0 {prog : Program} {w : World} {A : Around} {E : Value → Shared → Prop} {s : Shared} {t b : Addr} {ws : List Value} {Q : Value → Shared → Prop} (ht : IsTup s.heap t (#[] : Array Value)) (hb : IsTup s.heap b ws.toArray)
    (h1 : Q (.ref b) s) : wpAny (model prog w) A (binaryOp .Add (.ref t) (.ref b)) Q E s := by
  obtain ⟨⟨cls, dd, data, sl⟩, ho, hc, n, hd⟩ := id ht
  obtain ⟨⟨cls2, dd2, data2, sl2⟩, ho2, hc2, n2, hd2⟩ := id hb
  simp only at hc hd hc2 hd2
  subst hc hd hc2 hd2
  exact concat_meets ⟨_, ho, rfl⟩ ⟨_, ho2, rfl⟩ noFill_tuple_add seq_tuple_add PySem.F.slot_tuple_add PySem.F.entry_tuple_add (PySem.F.args_tuple_add_2 _ _)
      (tuple_addW0 t b #[] ws.toArray n n2 dd dd2 sl sl2 (by simp)) ⟨ho, ho2, h1⟩
theorem op_cat1 {X : Cx} {K : PySem.W.Frag} (e : X.K = K) : OpR X (binaryOp .Add) (rCat1 K) := by
  subst e
  intro pins s σ H x y v u Q I rx ry h
  obtain ⟨a, b, xs, ys, rfl, rfl, ha, hb, hy, hz, q⟩ := h
  cases rx
  cases ry
  obtain ⟨its, r1, p1, _⟩ := I.tuple ha
  obtain ⟨its2, r2, p2, _⟩ := I.tuple (SqT.of hb)
  by_cases hx : xs = []
  · subst hx
    have : its = [] := r1.nil_iff.mpr rfl
    subst this
    exact cat_tup0 p1 p2 ⟨.ref b, H, I, rfl, q b H hb (Same.refl _)⟩
  · refine HT.cat_tup p1 p2 (fun z => hx (r1.nil_iff.mp z)) (fun z => absurd (r2.nil_iff.mp z) hy) (fun z => ?_) (by rw [← r1.length, ← r2.length]; exact hz)
    refine ⟨.ref s.heap.objs.size, _, I.laid (t' := s.toks) (o := .tup (xs ++ ys)) (fun b ob q => Heap.get?_push_of_some _ q) (Nat.le_refl _) ?_, rfl, q _ _ upd_same (Same.new (I.hok.fresh (Nat.le_refl _)))⟩
    exact ⟨by rw [List.length_append]; exact hz, _, r1.append r2, IsTup.new _ _⟩
/-! ### equality of words -/
theorem SeqEq.strsT {K : PySem.W.Frag} {H : Hp} {a c : Addr} {xs ys : List PySem.Str} (h1 : SqT K H a (xs.map V.str)) (h2 : SqT K H c (ys.map V.str)) : SeqEq K H (EqI K H 0) (.ref a) (.ref c) (decide (xs = ys)) := by
  refine ⟨a, c, _, _, fun j => decide (xs[j]? = ys[j]?), rfl, rfl, .inr (.inr ⟨h1, h2, fun j x' y' e1 e2 => ?_, ?_⟩)⟩
  · rw [List.getElem?_map] at e1 e2
    obtain ⟨x, ex, rfl⟩ := Option.map_eq_some_iff.mp e1
    obtain ⟨y, ey, rfl⟩ := Option.map_eq_some_iff.mp e2
    refine .inl ⟨rfl, rfl, ?_⟩
    show decide (xs[j]? = ys[j]?) = eqV (.str x) (.str y)
    rw [ex, ey]
    by_cases e : x = y
    · subst e; simp [eqV]
    · rw [decide_eq_false (fun z => e (Option.some.inj z))]
      simp [eqV, e]
  · rw [List.length_map, List.length_map, Bool.eq_iff_iff, decide_eq_true_iff, Bool.and_eq_true, List.all_eq_true]
    constructor
    · rintro rfl; exact ⟨fun j _ => by simp, by simp⟩
    · rintro ⟨h, hl⟩
      have hl : xs.length = ys.length := by simpa using hl
      refine List.ext_getElem? fun j => ?_
      by_cases hj : j < xs.length
      · exact of_decide_eq_true (h j (List.mem_range.mpr (by omega)))
      · rw [List.getElem?_eq_none (by omega), List.getElem?_eq_none (by omega)]
theorem SeqEq.strsL {K : PySem.W.Frag} {H : Hp} {a c : Addr} {xs : List PySem.Str} (h1 : SqL K H a (xs.map V.str)) (h2 : SqL K H c []) : SeqEq K H (EqI K H 0) (.ref a) (.ref c) (decide (xs = [])) := by
  cases xs with
  | nil => exact ⟨a, c, [], [], fun _ => true, rfl, rfl, .inl ⟨h1, h2, rfl, fun j x y e => by simp at e, rfl⟩⟩
  | cons x r => exact ⟨a, c, _, [], fun _ => true, rfl, rfl, .inr (.inl ⟨h1, h2, by simp, by simp⟩)⟩
/-! ### the walk over all plans -/
abbrev Lf := List PySem.Str × Int
def vL {α S L : Type} (g : α → S → List L × S) : List α → S → List L × S
  | [], s => ([], s)
  | a :: r, s => ((g a s).1 ++ (vL g r (g a s).2).1, (vL g r (g a s).2).2)
theorem vL_append {α S L : Type} (g : α → S → List L × S) : ∀ (a b : List α) (s : S), vL g (a ++ b) s = ((vL g a s).1 ++ (vL g b (vL g a s).2).1, (vL g b (vL g a s).2).2)
  | [], b, s => by simp [vL]
  | x :: r, b, s => by
    show ((g x s).1 ++ (vL g (r ++ b) (g x s).2).1, (vL g (r ++ b) (g x s).2).2) = _
    rw [vL_append g r b]
    simp [vL]
theorem vL_map {α β S L : Type} (g : β → S → List L × S) (f : α → β) : ∀ (a : List α) (s : S), vL g (a.map f) s = vL (fun x => g (f x)) a s
  | [], s => rfl
  | x :: r, s => by
    show ((g (f x) s).1 ++ (vL g (r.map f) (g (f x) s).2).1, (vL g (r.map f) (g (f x) s).2).2) = _
    rw [vL_map g f r]
    rfl
/-- no better than what is there -/
def cutB (b : Option Lf) (c : Int) : Bool := match b with | none => false | some x => decide (x.2 ≤ c)
def visit (nx : List PySem.Str → List PySem.Str) (bd : List PySem.Str → Int) : Nat → List PySem.Str → Option Lf → List Lf × Option Lf
  | 0, _, b => ([], b)
  | f + 1, ws, b => if cutB b (bd ws) = true then ([(ws, bd ws)], b) else if nx ws = [] then ([(ws, bd ws)], some (ws, bd ws)) else vL (fun w => visit nx bd f (ws ++ [w])) (nx ws) b
section
variable {nx : List PySem.Str → List PySem.Str} {bd : List PySem.Str → Int}
structure GoodB (b : Option Lf) (lv : List Lf) (b' : Option Lf) : Prop where
  low : ∀ l ∈ lv, ∃ x, b' = some x ∧ x.2 ≤ l.2
  pos : b' = b ∨ ∃ (x : Lf) (j : Nat), b' = some x ∧ lv[j]? = some x ∧ (∀ (i : Nat) l, i < j → lv[i]? = some l → x.2 < l.2) ∧ ∀ y, b = some y → x.2 < y.2
theorem GoodB.nil {b : Option Lf} : GoodB b [] b := ⟨fun l h => by simp at h, .inl rfl⟩
theorem GoodB.trans {b b1 b2 : Option Lf} {l1 l2 : List Lf} (h1 : GoodB b l1 b1) (h2 : GoodB b1 l2 b2) : GoodB b (l1 ++ l2) b2 := by
  refine ⟨fun l hl => ?_, ?_⟩
  · rcases List.mem_append.mp hl with h | h
    · obtain ⟨x, ex, hx⟩ := h1.low l h
      rcases h2.pos with e | ⟨y, j, ey, _, _, hy⟩
      · exact ⟨x, e.trans ex, hx⟩
      · exact ⟨y, ey, by have := hy x ex; omega⟩
    · exact h2.low l h
  · rcases h2.pos with e | ⟨x, j, ex, hj, hb, hy⟩
    · rcases h1.pos with e1 | ⟨x, j, ex, hj, hb, hy⟩
      · exact .inl (e.trans e1)
      · have hjl : j < l1.length := (List.getElem?_eq_some_iff.mp hj).1
        refine .inr ⟨x, j, e.trans ex, by rw [List.getElem?_append_left hjl]; exact hj, fun i l hi hl => ?_, hy⟩
        rw [List.getElem?_append_left (by omega)] at hl
        exact hb i l hi hl
    · refine .inr ⟨x, l1.length + j, ex, by rw [List.getElem?_append_right (by omega), Nat.add_sub_cancel_left]; exact hj, fun i l hi hl => ?_, fun y ey => ?_⟩
      · by_cases hil : i < l1.length
        · rw [List.getElem?_append_left hil] at hl
          obtain ⟨z, ez, hz⟩ := h1.low l (List.mem_of_getElem? hl)
          have := hy z ez
          omega
        · rw [List.getElem?_append_right (by omega)] at hl
          exact hb (i - l1.length) l (by omega) hl
      · rcases h1.pos with e1 | ⟨z, _, ez, _, _, hz⟩
        · exact hy y (e1.trans ey)
        · have h3 := hy z ez
          have h4 := hz y ey
          omega
theorem GoodB.list {α : Type} {g : α → Option Lf → List Lf × Option Lf} (h : ∀ a b, GoodB b (g a b).1 (g a b).2) : ∀ (as : List α) (b : Option Lf), GoodB b (vL g as b).1 (vL g as b).2
  | [], b => GoodB.nil
  | a :: r, b => (h a b).trans (GoodB.list h r _)
theorem visit_good : ∀ (f : Nat) (ws : List PySem.Str) (b : Option Lf), GoodB b (visit nx bd f ws b).1 (visit nx bd f ws b).2
  | 0, ws, b => GoodB.nil
  | f + 1, ws, b => by
    unfold visit
    split
    · rename_i hc
      refine ⟨fun l hl => ?_, .inl rfl⟩
      have : l = (ws, bd ws) := by simpa using hl
      subst this
      cases b with
      | none => cases hc
      | some x => exact ⟨x, rfl, of_decide_eq_true hc⟩
    · rename_i hc
      split
      · refine ⟨fun l hl => ?_, .inr ⟨(ws, bd ws), 0, rfl, rfl, fun i l hi => by omega, fun y ey => ?_⟩⟩
        · have : l = (ws, bd ws) := by simpa using hl
          subst this
          exact ⟨_, rfl, Int.le_refl _⟩
        · subst ey
          have : ¬ y.2 ≤ bd ws := fun z => hc (decide_eq_true z)
          show bd ws < y.2
          omega
      · exact GoodB.list (fun w b => visit_good f (ws ++ [w]) b) (nx ws) b
theorem vL_some {α : Type} {g : α → Option Lf → List Lf × Option Lf} (h : ∀ a b, b ≠ none → (g a b).2 ≠ none) : ∀ (as : List α) (b : Option Lf), b ≠ none → (vL g as b).2 ≠ none
  | [], b, hb => hb
  | a :: r, b, hb => vL_some h r _ (h a b hb)
theorem vL_all {α : Type} {g : α → Option Lf → List Lf × Option Lf} {p : Lf → Prop} (h : ∀ a b, ∀ l ∈ (g a b).1, p l) : ∀ (as : List α) (b : Option Lf), ∀ l ∈ (vL g as b).1, p l
  | [], b, l, hl => by simp [vL] at hl
  | a :: r, b, l, hl => by
    rcases List.mem_append.mp (show l ∈ (g a b).1 ++ (vL g r (g a b).2).1 from hl) with z | z
    · exact h a b l z
    · exact vL_all h r _ l z
theorem GoodB.some {b b' : Option Lf} {lv : List Lf} (h : GoodB b lv b') (hb : b ≠ none) : b' ≠ none := by
  rcases h.pos with e | ⟨x, _, e, _⟩
  · rw [e]; exact hb
  · rw [e]; simp
/-- what lies under ws begins with ws -/
theorem visit_len : ∀ (f : Nat) (ws : List PySem.Str) (b : Option Lf), ∀ l ∈ (visit nx bd f ws b).1, ws.length ≤ l.1.length
  | 0, ws, b, l, hl => by simp [visit] at hl
  | f + 1, ws, b, l, hl => by
    unfold visit at hl
    split at hl
    · have : l = (ws, bd ws) := by simpa using hl
      subst this; exact Nat.le_refl _
    · split at hl
      · have : l = (ws, bd ws) := by simpa using hl
        subst this; exact Nat.le_refl _
      · exact vL_all (p := fun l => ws.length ≤ l.1.length) (fun w b l hl => by have := visit_len f (ws ++ [w]) b l hl; simp at this; omega) _ _ l hl
variable {n : Nat} (hn : ∀ ws, nx ws = [] ↔ n ≤ ws.length)
include hn
/-- there is a leaf and a best one -/
theorem visit_ne : ∀ (f : Nat) (ws : List PySem.Str) (b : Option Lf), n < f + ws.length → 0 < f → (visit nx bd f ws b).1 ≠ [] ∧ (visit nx bd f ws b).2 ≠ none
  | 0, ws, b, h, h0 => by omega
  | f + 1, ws, b, h, h0 => by
    unfold visit
    split
    · rename_i hc
      refine ⟨by simp, ?_⟩
      cases b with
      | none => cases hc
      | some x => simp
    · split
      · exact ⟨by simp, by simp⟩
      · rename_i hx
        have hw : ws.length < n := by have := mt (hn ws).mpr hx; omega
        cases e : nx ws with
        | nil => exact absurd e hx
        | cons w r =>
          have ih := visit_ne f (ws ++ [w]) b (by simp; omega) (by omega)
          refine ⟨fun z => ?_, ?_⟩
          · have z : (visit nx bd f (ws ++ [w]) b).1 ++ _ = [] := z
            exact ih.1 (List.append_eq_nil_iff.mp z).1
          · exact vL_some (fun a b hb => (visit_good f (ws ++ [a]) b).some hb) r _ ih.2
end
/-- the walk over a pile of beginnings -/
def pile (nx : List PySem.Str → List PySem.Str) (bd : List PySem.Str → Int) (n : Nat) : List (List PySem.Str) → Option Lf → List Lf × Option Lf := vL (fun ws => visit nx bd (n + 1 - ws.length) ws)
theorem pile_one {nx : List PySem.Str → List PySem.Str} {bd : List PySem.Str → Int} {n : Nat} {ws : List PySem.Str} {r : List (List PySem.Str)} {b : Option Lf} (h : ws.length ≤ n) (h1 : cutB b (bd ws) = false) (h2 : nx ws ≠ []) :
    pile nx bd n (ws :: r) b = pile nx bd n ((nx ws).map (fun w => ws ++ [w]) ++ r) b := by
  obtain ⟨f, hf⟩ : ∃ f, n + 1 - ws.length = f + 1 := ⟨n - ws.length, by omega⟩
  have e : visit nx bd (n + 1 - ws.length) ws b = vL (fun ws => visit nx bd (n + 1 - ws.length) ws) ((nx ws).map (fun w => ws ++ [w])) b := by
    rw [hf, vL_map]
    show (if cutB b (bd ws) = true then _ else if nx ws = [] then _ else vL (fun w => visit nx bd f (ws ++ [w])) (nx ws) b) = _
    rw [if_neg (by rw [h1]; simp), if_neg h2]
    congr 1
    funext w
    rw [show n + 1 - (ws ++ [w]).length = f by simp; omega]
  unfold pile
  rw [vL_append, ← e]
  rfl
theorem pile_cut {nx : List PySem.Str → List PySem.Str} {bd : List PySem.Str → Int} {n : Nat} {ws : List PySem.Str} {r : List (List PySem.Str)} {b : Option Lf} (h : ws.length ≤ n) (h1 : cutB b (bd ws) = true) :
    pile nx bd n (ws :: r) b = ((ws, bd ws) :: (pile nx bd n r b).1, (pile nx bd n r b).2) := by
  obtain ⟨f, hf⟩ : ∃ f, n + 1 - ws.length = f + 1 := ⟨n - ws.length, by omega⟩
  have e : visit nx bd (n + 1 - ws.length) ws b = ([(ws, bd ws)], b) := by rw [hf]; exact if_pos h1
  unfold pile
  simp only [vL, e]
  rfl
theorem pile_full {nx : List PySem.Str → List PySem.Str} {bd : List PySem.Str → Int} {n : Nat} {ws : List PySem.Str} {r : List (List PySem.Str)} {b : Option Lf} (h : ws.length ≤ n) (h1 : cutB b (bd ws) = false) (h2 : nx ws = []) :
    pile nx bd n (ws :: r) b = ((ws, bd ws) :: (pile nx bd n r (some (ws, bd ws))).1, (pile nx bd n r (some (ws, bd ws))).2) := by
  obtain ⟨f, hf⟩ : ∃ f, n + 1 - ws.length = f + 1 := ⟨n - ws.length, by omega⟩
  have e : visit nx bd (n + 1 - ws.length) ws b = ([(ws, bd ws)], some (ws, bd ws)) := by
    rw [hf]
    show (if cutB b (bd ws) = true then _ else if nx ws = [] then _ else _) = _
    rw [if_neg (by rw [h1]; simp), if_pos h2]
  unfold pile
  simp only [vL, e]
  rfl
/-- the work that a pile is -/
def work (n : Nat) : List (List PySem.Str) → Nat
  | [] => 0
  | ws :: r => 5 ^ (n + 1 - ws.length) + work n r
theorem work_append (n : Nat) : ∀ (a b : List (List PySem.Str)), work n (a ++ b) = work n a + work n b
  | [], b => by simp [work]
  | x :: r, b => by simp only [List.cons_append, work, work_append n r b, Nat.add_assoc]
theorem work_rev (n : Nat) : ∀ (a : List (List PySem.Str)), work n a.reverse = work n a
  | [] => rfl
  | x :: r => by rw [List.reverse_cons, work_append, work_rev n r]; simp only [work]; omega
theorem work_kids {n : Nat} {ws : List PySem.Str} (h : ws.length < n) : ∀ (nx : List PySem.Str), work n (nx.map (fun w => ws ++ [w])) = nx.length * 5 ^ (n - ws.length)
  | [] => by simp [work]
  | w :: r => by
    simp only [List.map_cons, work, work_kids h r, List.length_cons]
    rw [show n + 1 - (ws ++ [w]).length = n - ws.length by simp, Nat.add_mul]; omega
theorem work_len (n : Nat) : ∀ (a : List (List PySem.Str)), a.length ≤ work n a
  | [] => Nat.le_refl _
  | x :: r => by
    have := work_len n r
    have := Nat.pow_pos (n := n + 1 - x.length) (show 0 < 5 by omega)
    simp only [work, List.length_cons]; omega
theorem work_step {n : Nat} {ws : List PySem.Str} {nx : List PySem.Str} (h : ws.length < n) (h4 : nx.length ≤ 4) : work n (nx.map (fun w => ws ++ [w])) < 5 ^ (n + 1 - ws.length) := by
  rw [work_kids h, show n + 1 - ws.length = (n - ws.length) + 1 by omega, Nat.pow_succ]
  have := Nat.pow_pos (n := n - ws.length) (show 0 < 5 by omega)
  have := Nat.mul_le_mul_right (5 ^ (n - ws.length)) h4
  omega
theorem visit_le {nx : List PySem.Str → List PySem.Str} {bd : List PySem.Str → Int} {n : Nat} (hn : ∀ ws, nx ws = [] ↔ n ≤ ws.length) : ∀ (f : Nat) (ws : List PySem.Str) (b : Option Lf), ws.length ≤ n → ∀ l ∈ (visit nx bd f ws b).1, l.1.length ≤ n
  | 0, ws, b, _, l, hl => by simp [visit] at hl
  | f + 1, ws, b, hw, l, hl => by
    unfold visit at hl
    split at hl
    · have : l = (ws, bd ws) := by simpa using hl
      subst this; exact hw
    · split at hl
      · have : l = (ws, bd ws) := by simpa using hl
        subst this; exact hw
      · rename_i hx
        have hlt : ws.length < n := by have := mt (hn ws).mpr hx; omega
        exact vL_all (p := fun l => l.1.length ≤ n) (fun w b l hl => visit_le hn f (ws ++ [w]) b (by simp; omega) l hl) _ _ l hl
theorem nextWs_nil (weights : List Int) (ws : List PySem.Str) : nextWs weights ws = [] ↔ weights.length ≤ ws.length := by
  unfold nextWs
  cases e : weights[ws.length]? with
  | none => exact ⟨fun _ => List.getElem?_eq_none_iff.mp e, fun _ => rfl⟩
  | some wt => exact ⟨fun h => absurd h (nextW_ne wt ws), fun h => by rw [List.getElem?_eq_none h] at e; cases e⟩
theorem nextWs_four (weights : List Int) (ws : List PySem.Str) : (nextWs weights ws).length ≤ 4 := by
  unfold nextWs
  split
  · simp
  · unfold nextW
    split <;> split <;> split <;> simp
theorem nextWs_mem {weights : List Int} {ws : List PySem.Str} {w : PySem.Str} (h : w ∈ nextWs weights ws) : ∃ wt, weights[ws.length]? = some wt ∧ w ∈ nextW wt ws := by
  unfold nextWs at h
  split at h
  · simp at h
  · rename_i wt e; exact ⟨wt, e, h⟩
/-! ### leaves and beginnings on the heap -/
def LfAt (H : Hp) (a : Addr) (l : Lf) : Prop := ∃ t, H a = some (.tup [.ref t, .int l.2]) ∧ H t = some (.tup (l.1.map V.str))
def KeepT (H H' : Hp) : Prop := ∀ t xs, H t = some (.tup xs) → H' t = some (.tup xs)
theorem KeepT.of {H H' : Hp} (s : Same H H') : KeepT H H' := fun t xs e => s _ _ e
theorem KeepT.refl (H : Hp) : KeepT H H := fun _ _ e => e
theorem KeepT.trans {H H' H'' : Hp} (a : KeepT H H') (b : KeepT H' H'') : KeepT H H'' := fun t xs e => b _ _ (a _ _ e)
theorem KeepT.lst {H : Hp} {l : Addr} {xs ys : List V} (h : H l = some (.lst xs)) : KeepT H (upd H l (.lst ys)) := fun t zs e => by
  rw [upd_ne (fun z => by rw [z, h] at e; cases e)]; exact e
structure LfsAt (H : Hp) (LL : List Addr) (lv : List Lf) : Prop where
  len : LL.length = lv.length
  get : ∀ (i : Nat) a l, LL[i]? = some a → lv[i]? = some l → LfAt H a l
theorem LfsAt.mono {H H' : Hp} {LL : List Addr} {lv : List Lf} (R : LfsAt H LL lv) (k : KeepT H H') : LfsAt H' LL lv :=
  ⟨R.len, fun i a l e1 e2 => let ⟨t, h1, h2⟩ := R.get i a l e1 e2; ⟨t, k _ _ h1, k _ _ h2⟩⟩
theorem LfsAt.nil {H : Hp} : LfsAt H [] [] := ⟨rfl, fun i a l e => by simp at e⟩
theorem LfsAt.snoc {H : Hp} {LL : List Addr} {lv : List Lf} {a : Addr} {l : Lf} (R : LfsAt H LL lv) (h : LfAt H a l) : LfsAt H (LL ++ [a]) (lv ++ [l]) :=
  ⟨by simp [R.len], fun i b m e1 e2 => by
    have hl := R.len
    by_cases hi : i < LL.length
    · rw [List.getElem?_append_left hi] at e1
      rw [List.getElem?_append_left (by omega)] at e2
      exact R.get i b m e1 e2
    · rw [List.getElem?_append_right (by omega)] at e1
      rw [List.getElem?_append_right (by omega)] at e2
      have hz : i - LL.length = 0 := by have := (List.getElem?_eq_some_iff.mp e1).1; simp at this; omega
      rw [hz] at e1
      rw [show i - lv.length = 0 by omega] at e2
      simp at e1 e2
      subst e1 e2
      exact h⟩
structure BgsAt (H : Hp) (PL : List Addr) (S : List (List PySem.Str)) : Prop where
  len : PL.length = S.length
  get : ∀ (i : Nat) a ws, PL[i]? = some a → S[i]? = some ws → H a = some (.tup (ws.map V.str))
theorem BgsAt.mono {H H' : Hp} {PL : List Addr} {S : List (List PySem.Str)} (R : BgsAt H PL S) (k : KeepT H H') : BgsAt H' PL S := ⟨R.len, fun i a ws e1 e2 => k _ _ (R.get i a ws e1 e2)⟩
theorem BgsAt.nil {H : Hp} : BgsAt H [] [] := ⟨rfl, fun i a l e => by simp at e⟩
theorem BgsAt.append {H : Hp} {PL PM : List Addr} {S S' : List (List PySem.Str)} (R : BgsAt H PL S) (R' : BgsAt H PM S') : BgsAt H (PL ++ PM) (S ++ S') :=
  ⟨by simp [R.len, R'.len], fun i b m e1 e2 => by
    have hl := R.len
    by_cases hi : i < PL.length
    · rw [List.getElem?_append_left hi] at e1
      rw [List.getElem?_append_left (by omega)] at e2
      exact R.get i b m e1 e2
    · rw [List.getElem?_append_right (by omega)] at e1
      rw [List.getElem?_append_right (by omega)] at e2
      rw [← hl] at e2
      exact R'.get _ b m e1 e2⟩
theorem BgsAt.one {H : Hp} {a : Addr} {ws : List PySem.Str} (h : H a = some (.tup (ws.map V.str))) : BgsAt H [a] [ws] :=
  ⟨rfl, fun i b m e1 e2 => by
    have hz : i = 0 := by have := (List.getElem?_eq_some_iff.mp e1).1; simp at this; omega
    subst hz
    simp at e1 e2
    subst e1 e2
    exact h⟩
theorem BgsAt.last {H : Hp} {PL : List Addr} {S : List (List PySem.Str)} {ws : List PySem.Str} (R : BgsAt H PL (S ++ [ws])) : ∃ PM a, PL = PM ++ [a] ∧ BgsAt H PM S ∧ H a = some (.tup (ws.map V.str)) := by
  have hl := R.len
  have hp : PL ≠ [] := fun z => by rw [z] at hl; simp at hl
  refine ⟨PL.dropLast, PL.getLast hp, (List.dropLast_concat_getLast hp).symm, ⟨by simp at hl; rw [List.length_dropLast]; omega, fun i a w e1 e2 => ?_⟩, ?_⟩
  · have hi : i < PL.dropLast.length := (List.getElem?_eq_some_iff.mp e1).1
    have h1 : PL[i]? = some a := by
      rw [← List.dropLast_concat_getLast hp, List.getElem?_append_left hi]; exact e1
    have h2 : (S ++ [ws])[i]? = some w := by rw [List.getElem?_append_left (List.getElem?_eq_some_iff.mp e2).1]; exact e2
    exact R.get i a w h1 h2
  · refine R.get (PL.length - 1) _ ws ?_ ?_
    · rw [List.getLast_eq_getElem]; exact List.getElem?_eq_getElem _
    · simp at hl
      rw [hl]
      simp
/-- the best plan so far: it and its cost -/
def BestV (H : Hp) (v c : V) : Option Lf → Prop
  | none => v = .non ∧ c = .non
  | some x => ∃ t, v = .ref t ∧ H t = some (.tup (x.1.map V.str)) ∧ c = .int x.2
theorem BestV.mono {H H' : Hp} {v c : V} {b : Option Lf} (h : BestV H v c b) (k : KeepT H H') : BestV H' v c b := by
  cases b with
  | none => exact h
  | some x => obtain ⟨t, e, h, z⟩ := h; exact ⟨t, e, k _ _ h, z⟩
/-- the best plan as one tuple -/
def BestT (H : Hp) (v : V) : Option Lf → Prop
  | none => v = .non
  | some x => ∃ a, v = .ref a ∧ LfAt H a x
theorem BestT.mono {H H' : Hp} {v : V} {b : Option Lf} (h : BestT H v b) (k : KeepT H H') : BestT H' v b := by
  cases b with
  | none => exact h
  | some x => obtain ⟨a, e, t, h1, h2⟩ := h; exact ⟨a, e, t, k _ _ h1, k _ _ h2⟩
theorem pow5 {n : Nat} (h : n ≤ 7) : 5 ^ (n + 1) ≤ 390625 := Nat.le_trans (Nat.pow_le_pow_right (by omega) (show n + 1 ≤ 8 by omega)) (by decide)
theorem small78 {n : Nat} (h : n ≤ 400000) : n < sizeLine := Nat.lt_of_le_of_lt h (by decide)
theorem iteBF {c : Bool} {A B : Prop} (hc : c = false) (h : B) : if c = true then A else B := by rw [if_neg (by simp [hc])]; exact h
theorem iteBT {c : Bool} {A B : Prop} (hc : c = true) (h : A) : if c = true then A else B := by rw [if_pos hc]; exact h
theorem visit_cut {nx : List PySem.Str → List PySem.Str} {bd : List PySem.Str → Int} {f : Nat} {ws : List PySem.Str} {b : Option Lf} (h : cutB b (bd ws) = true) : visit nx bd (f + 1) ws b = ([(ws, bd ws)], b) := if_pos h
theorem visit_full {nx : List PySem.Str → List PySem.Str} {bd : List PySem.Str → Int} {f : Nat} {ws : List PySem.Str} {b : Option Lf} (h : cutB b (bd ws) = false) (h2 : nx ws = []) : visit nx bd (f + 1) ws b = ([(ws, bd ws)], some (ws, bd ws)) := by
  show (if cutB b (bd ws) = true then _ else if nx ws = [] then _ else _) = _
  rw [if_neg (by simp [h]), if_pos h2]
theorem visit_in {nx : List PySem.Str → List PySem.Str} {bd : List PySem.Str → Int} {f : Nat} {ws : List PySem.Str} {b : Option Lf} (h : cutB b (bd ws) = false) (h2 : nx ws ≠ []) : visit nx bd (f + 1) ws b = vL (fun w => visit nx bd f (ws ++ [w])) (nx ws) b := by
  show (if cutB b (bd ws) = true then _ else if nx ws = [] then _ else _) = _
  rw [if_neg (by simp [h]), if_neg h2]
theorem gName_to {k : Nat} {x : V} {σ σ' : St} {H : Hp} {N : St → Hp → Prop} (e : σ.set k (some x) = σ') (h : N σ' H) : gName k x σ H N := by subst e; exact h
theorem if_no {c : TT} {t u : TS} {D : Ends} {σ : St} {H : Hp} (hc : ∀ Q : Bool → Hp → Prop, Q false H → c σ H Q) (h : u D σ H) : tIfS c t u D σ H := hc _ (iteF h)
theorem if_yes {c : TT} {t u : TS} {D : Ends} {σ : St} {H : Hp} (hc : ∀ Q : Bool → Hp → Prop, Q true H → c σ H Q) (h : t D σ H) : tIfS c t u D σ H := hc _ (iteT h)
/-! the end of a long def, once for all ways to it -/
section
variable {S1 S2 S3 R : TS} {D : Ends} {σ : St} {H : Hp}
theorem kcut1 (Post : St → Hp → Prop) (h : ∀ N : St → Hp → Prop, (∀ σ' H', Post σ' H' → N σ' H') → S1 { D with nx := N } σ H) (hr : ∀ σ' H', Post σ' H' → R D σ' H') : tSeq S1 R D σ H := h (R D) hr
end
theorem call_isinstK {X : Cx} {K : PySem.W.Frag} (e : X.K = K) : CallR X (.builtin "isinstance") (fun xs H Q => ∃ x c cv t b, xs = [x, c] ∧ clsV c = some cv ∧ TyOf K H x t ∧ PySem.W.kitOne K t cv = some b ∧ Q (.bl b) H) := by subst e; exact call_isinst
theorem lf_eq {K : PySem.W.Frag} {H : Hp} {a a' : Addr} {l : Lf} (h : LfAt H a l) (h' : LfAt H a' l) : SeqEq K H (EqI K H 1) (.ref a) (.ref a') true := by
  obtain ⟨t, h1, h2⟩ := h
  obtain ⟨t', h1', h2'⟩ := h'
  refine ⟨a, a', _, _, fun _ => true, rfl, rfl, .inr (.inr ⟨SqT.of h1, SqT.of h1', fun j x y e1 e2 => ?_, by simp⟩)⟩
  match j with
  | 0 =>
    simp at e1 e2
    subst e1 e2
    have z := SeqEq.strsT (K := K) (SqT.of h2) (SqT.of h2')
    rw [decide_eq_true rfl] at z
    exact eqI_in (fun a => eq_self 0 a) z
  | 1 =>
    simp at e1 e2
    subst e1 e2
    exact eqI_lift 1 (eqI_int _)
  | j + 2 => simp at e1
theorem plan_eq {K : PySem.W.Frag} {H : Hp} {a a' t t' k k' : Addr} {LL LL' : List Addr} {lv : List Lf} {x : Lf} (h : H a = some (.tup [.ref t, .int x.2, .ref k])) (h' : H a' = some (.tup [.ref t', .int x.2, .ref k'])) (ht : H t = some (.tup (x.1.map V.str))) (ht' : H t' = some (.tup (x.1.map V.str))) (hk : H k = some (.lst (LL.map V.ref))) (hk' : H k' = some (.lst (LL'.map V.ref))) (hL : LfsAt H LL lv) (hL' : LfsAt H LL' lv) : SeqEq K H (EqI K H 3) (.ref a) (.ref a') true := by
  refine ⟨a, a', _, _, fun _ => true, rfl, rfl, .inr (.inr ⟨SqT.of h, SqT.of h', fun j x y e1 e2 => ?_, by simp⟩)⟩
  match j with
  | 0 =>
    simp at e1 e2
    subst e1 e2
    have z := SeqEq.strsT (K := K) (SqT.of ht) (SqT.of ht')
    rw [decide_eq_true rfl] at z
    exact eqI_lift 2 (eqI_in (fun a => eq_self 0 a) z)
  | 1 =>
    simp at e1 e2
    subst e1 e2
    exact eqI_lift 3 (eqI_int _)
  | 2 =>
    simp at e1 e2
    subst e1 e2
    refine eqI_in (fun a => eq_self 2 a) (seq_refs (.inl ⟨SqL.of hk, SqL.of hk'⟩) (by rw [hL.len, hL'.len]) fun j x y ex ey => ?_)
    obtain ⟨l, hl⟩ : ∃ l, lv[j]? = some l := ⟨_, List.getElem?_eq_getElem (by have := (List.getElem?_eq_some_iff.mp ex).1; have := hL.len; omega)⟩
    exact eqI_in (fun a => eq_self 1 a) (lf_eq (hL.get j x l ex hl) (hL'.get j y l ey hl))
  | j + 3 => simp at e1
/-- no one of them is the plan z -/
def noneB (z : List PySem.Str) (lv : List Lf) : Bool := lv.all fun l => decide (l.1 ≠ z)
theorem noneB_snoc {z : List PySem.Str} {lv : List Lf} {i : Nat} {l : Lf} (h : lv[i]? = some l) : noneB z (lv.take (i + 1)) = (noneB z (lv.take i) && decide (l.1 ≠ z)) := by
  unfold noneB
  rw [List.take_add_one, h, List.all_append]; simp
theorem noneB_no {z : List PySem.Str} {lv : List Lf} {i j : Nat} {l : Lf} (h : noneB z (lv.take i) = true) (hj : lv[j]? = some l) (hi : j < i) : l.1 ≠ z := by
  unfold noneB at h
  rw [List.all_eq_true] at h
  exact of_decide_eq_true (h l (List.mem_of_getElem? (i := j) (by rw [List.getElem?_take_of_lt hi]; exact hj)))
end L2
namespace Mine
open PySem L2
def top (i : Nat) : Stmt := PySem.Challenge.pw_keepsakes_k74_whole_leaves_cover_all_pla.main.body.getD i (.Pass ⟨0, 0, 0, 0⟩)
abbrev s_NoPlan___init__ : Stmt := inClass (top 3) 0
abbrev s_Task___init__ : Stmt := inClass (top 5) 0
abbrev s_ask_many : Stmt := top 6
abbrev s_allowed : Stmt := top 7
abbrev s_bases_behind : Stmt := top 8
abbrev s_bases_of : Stmt := top 9
abbrev s_cost_of : Stmt := top 10
abbrev s_costs_of : Stmt := top 11
abbrev s_leg_cost : Stmt := top 12
abbrev s_day_cost : Stmt := top 13
abbrev s_bound_of : Stmt := top 14
abbrev s_best_plan : Stmt := top 16
abbrev s__law_cell_at : Stmt := top 18
abbrev s__law_whole : Stmt := top 19
abbrev s__law_drawn : Stmt := top 20
abbrev s__law_scale : Stmt := top 21
abbrev s__law_summed : Stmt := top 22
abbrev s__law_plain : Stmt := top 23
abbrev s__law_next : Stmt := top 24
abbrev s__law_bases : Stmt := top 25
abbrev s__law_cost : Stmt := top 26
abbrev s__law_bound : Stmt := top 27
abbrev s__law_leaf : Stmt := top 28
abbrev s__law_under : Stmt := top 29
abbrev s_law : Stmt := top 30
theorem sc_NoPlan___init__ : FnScope ["self", "many"] ["self", "many"] (defScope s_NoPlan___init__) := ⟨rfl, rfl, rfl, by decide +kernel, rfl, by decide +kernel, by decide +kernel⟩
theorem sc_Task___init__ : FnScope ["self", "sizes", "weights", "rates"] ["self", "sizes", "weights", "rates"] (defScope s_Task___init__) := ⟨rfl, rfl, rfl, by decide +kernel, rfl, by decide +kernel, by decide +kernel⟩
theorem sc_ask_many : FnScope ["many"] ["many"] (defScope s_ask_many) := ⟨rfl, rfl, rfl, by decide +kernel, rfl, by decide +kernel, by decide +kernel⟩
theorem sc_allowed : FnScope ["task", "choices", "day", "bases", "words"] ["task", "choices"] (defScope s_allowed) := ⟨rfl, rfl, rfl, by decide +kernel, rfl, by decide +kernel, by decide +kernel⟩
theorem sc_bases_behind : FnScope ["choices", "bases", "day", "word"] ["choices"] (defScope s_bases_behind) := ⟨rfl, rfl, rfl, by decide +kernel, rfl, by decide +kernel, by decide +kernel⟩
theorem sc_bases_of : FnScope ["choices"] ["choices"] (defScope s_bases_of) := ⟨rfl, rfl, rfl, by decide +kernel, rfl, by decide +kernel, by decide +kernel⟩
theorem sc_cost_of : FnScope ["task", "choices"] ["task", "choices"] (defScope s_cost_of) := ⟨rfl, rfl, rfl, by decide +kernel, rfl, by decide +kernel, by decide +kernel⟩
theorem sc_costs_of : FnScope ["task", "choices", "rows", "ways", "day", "base", "size"] ["task", "choices"] (defScope s_costs_of) := ⟨rfl, rfl, rfl, by decide +kernel, rfl, by decide +kernel, by decide +kernel⟩
theorem sc_leg_cost : FnScope ["task", "size"] ["task", "size"] (defScope s_leg_cost) := ⟨rfl, rfl, rfl, by decide +kernel, rfl, by decide +kernel, by decide +kernel⟩
theorem sc_day_cost : FnScope ["task", "day", "size", "way", "held"] ["task", "day", "size", "way"] (defScope s_day_cost) := ⟨rfl, rfl, rfl, by decide +kernel, rfl, by decide +kernel, by decide +kernel⟩
theorem sc_bound_of : FnScope ["task", "choices", "bound", "day", "size"] ["task", "choices"] (defScope s_bound_of) := ⟨rfl, rfl, rfl, by decide +kernel, rfl, by decide +kernel, by decide +kernel⟩
theorem sc_best_plan : FnScope ["task", "best", "least_cost", "leaves", "waiting", "choices", "bound"] ["task"] (defScope s_best_plan) := ⟨rfl, rfl, rfl, by decide +kernel, rfl, by decide +kernel, by decide +kernel⟩
theorem sc__law_cell_at : FnScope ["_law_script", "_law_k"] ["_law_script", "_law_k"] (defScope s__law_cell_at) := ⟨rfl, rfl, rfl, by decide +kernel, rfl, by decide +kernel, by decide +kernel⟩
theorem sc__law_whole : FnScope ["_law_found"] ["_law_found"] (defScope s__law_whole) := ⟨rfl, rfl, rfl, by decide +kernel, rfl, by decide +kernel, by decide +kernel⟩
theorem sc__law_drawn : FnScope ["_law_cell", "_law_many", "_law_found", "_law_number", "_law_k"] ["_law_cell", "_law_many"] (defScope s__law_drawn) := ⟨rfl, rfl, rfl, by decide +kernel, rfl, by decide +kernel, by decide +kernel⟩
theorem sc__law_scale : FnScope ["_law_number", "_law_other", "_law_way"] ["_law_number", "_law_other", "_law_way"] (defScope s__law_scale) := ⟨rfl, rfl, rfl, by decide +kernel, rfl, by decide +kernel, by decide +kernel⟩
theorem sc__law_summed : FnScope ["_law_script", "_law_day", "_law_many", "_law_total", "_law_k"] ["_law_script", "_law_day", "_law_many"] (defScope s__law_summed) := ⟨rfl, rfl, rfl, by decide +kernel, rfl, by decide +kernel, by decide +kernel⟩
theorem sc__law_plain : FnScope ["_law_script", "_law_most", "_law_head", "_law_many", "_law_way", "_law_sizes", "_law_weights", "_law_day", "_law_xs", "_law_rates"] ["_law_script", "_law_most"] (defScope s__law_plain) := ⟨rfl, rfl, rfl, by decide +kernel, rfl, by decide +kernel, by decide +kernel⟩
theorem sc__law_next : FnScope ["_law_weights", "_law_choices", "_law_day", "_law_words"] ["_law_weights", "_law_choices"] (defScope s__law_next) := ⟨rfl, rfl, rfl, by decide +kernel, rfl, by decide +kernel, by decide +kernel⟩
theorem sc__law_bases : FnScope ["_law_choices", "_law_bases_here", "_law_whole_here", "_law_last", "_law_day", "_law_word"] ["_law_choices"] (defScope s__law_bases) := ⟨rfl, rfl, rfl, by decide +kernel, rfl, by decide +kernel, by decide +kernel⟩
theorem sc__law_cost : FnScope ["_law_plain_here", "_law_choices", "_law_sizes", "_law_weights", "_law_rates", "_law_bases_here", "_law_total", "_law_day", "_law_word", "_law_kept", "_law_size", "_law_here"] ["_law_plain_here", "_law_choices"] (defScope s__law_cost) := ⟨rfl, rfl, rfl, by decide +kernel, rfl, by decide +kernel, by decide +kernel⟩
theorem sc__law_bound : FnScope ["_law_plain_here", "_law_choices", "_law_sizes", "_law_weights", "_law_rates", "_law_total", "_law_day", "_law_least"] ["_law_plain_here", "_law_choices"] (defScope s__law_bound) := ⟨rfl, rfl, rfl, by decide +kernel, rfl, by decide +kernel, by decide +kernel⟩
theorem sc__law_leaf : FnScope ["_law_leaf_here"] ["_law_leaf_here"] (defScope s__law_leaf) := ⟨rfl, rfl, rfl, by decide +kernel, rfl, by decide +kernel, by decide +kernel⟩
theorem sc__law_under : FnScope ["_law_plain_here", "_law_begin", "_law_leaves", "_law_at", "_law_best", "_law_bound_here", "_law_words", "_law_better", "_law_word", "_law_found"] ["_law_plain_here", "_law_begin", "_law_leaves", "_law_at", "_law_best"] (defScope s__law_under) := ⟨rfl, rfl, rfl, by decide +kernel, rfl, by decide +kernel, by decide +kernel⟩
theorem sc_law : FnScope ["_law_script", "_law_plain_here", "_law_task", "_law_told", "_law_found", "_law_ahead", "_law_leaf_here", "_law_kept"] ["_law_script"] (defScope s_law) := ⟨rfl, rfl, rfl, by decide +kernel, rfl, by decide +kernel, by decide +kernel⟩
def cellI (ns : List Int) (k : Int) : Int := if k < (ns.length : Int) then ns.getD k.toNat 0 else 0
def sp_cell (K : PySem.W.Frag) : Sp := fun vs H Q _ => ∃ (a : Addr) (ns : List Int) (k : Nat), vs = [.ref a, .int (k : Int)] ∧ SqL K H a (ns.map V.int) ∧ Q (.int (cellI ns k)) H
def sp_askm : Sp := fun vs H Q _ => ∃ n : Int, vs = [.int n] ∧ 1 ≤ n ∧ n ≤ 7 ∧ Q .non H
def sp_tinit (C : Addr) : Sp := fun vs H Q _ => ∃ (p dx sa wa ra : Addr) (SL : List Addr) (sizes : List (List Int)) (weights rates : List Int), vs = [.ref p, .ref sa, .ref wa, .ref ra] ∧ H p = some (.ins C dx []) ∧ 1 ≤ sizes.length ∧ sizes.length ≤ 7 ∧ weights.length ≤ 7 ∧ rates.length ≤ 7 ∧
  ((H sa = some (.lst (SL.map V.ref)) ∧ Rows H SL sizes ∧ H wa = some (.lst (weights.map V.int)) ∧ H ra = some (.lst (rates.map V.int))) ∨ (H sa = some (.tup (SL.map V.ref)) ∧ RowsTu H SL sizes ∧ H wa = some (.tup (weights.map V.int)) ∧ H ra = some (.tup (rates.map V.int)))) ∧
  ∀ H', TaskAt C H' p sizes weights rates → Keep [p] H H' → Q .non H'
def sp_bases (K : PySem.W.Frag) : Sp := fun vs H Q _ => ∃ (tu : Bool) (c : Addr) (ws : List PySem.Str), vs = [.ref c] ∧ SqB K tu H c (ws.map V.str) ∧ ws.length ≤ 7 ∧ ∀ (d : Addr) (kvs : List (Key × V)) H', H' d = some (.dK kvs) → H d = none → BasesOk kvs ws → Same H H' → Q (.ref d) H'
def sp_allowed (K : PySem.W.Frag) (C : Addr) : Sp := fun vs H Q _ => ∃ (p c : Addr) (tu : Bool) (sizes : List (List Int)) (weights rates : List Int) (ws : List PySem.Str), vs = [.ref p, .ref c] ∧ TaskAt C H p sizes weights rates ∧ SqB K tu H c (ws.map V.str) ∧ ws.length ≤ weights.length ∧ sizes.length = weights.length ∧ weights.length ≤ 7 ∧
  ∀ (l : Addr) H', H' l = some (.lst ((nextWs weights ws).map V.str)) → H l = none → Same H H' → Q (.ref l) H'
def sp_drawn : Sp := fun vs H Q _ => ∃ (c : Int) (m : Nat), vs = [.int c, .int (m : Int)] ∧ m ≤ 20 ∧ ∀ (l : Addr) (xs : List Int) H', H' l = some (.lst (xs.map V.int)) → H l = none → xs.length = m → (∀ x ∈ xs, (0 : Int) ≤ x ∧ x < 2147483647) → Same H H' → Q (.ref l) H'
def sp_scale : Sp := fun vs H Q _ => ∃ (a b w : Int), vs = [.int a, .int b, .int w] ∧ 0 ≤ a ∧ a < 2147483647 ∧ ∀ r : Int, 0 ≤ r → r ≤ 1000000000000 → Q (.int r) H
def sp_summed (K : PySem.W.Frag) : Sp := fun vs H Q _ => ∃ (a : Addr) (ns : List Int) (d m : Nat), vs = [.ref a, .int (d : Int), .int (m : Int)] ∧ SqL K H a (ns.map V.int) ∧ ns.length ≤ 63 ∧ 0 < m ∧ ∀ r : Int, Q (.int r) H
structure Plain (H : Hp) (t ls lw lr : Addr) (SL : List Addr) (sizes : List (List Int)) (weights rates : List Int) : Prop where
  t : H t = some (.tup [.ref ls, .ref lw, .ref lr])
  ls : H ls = some (.lst (SL.map V.ref))
  rows : Rows H SL sizes
  lw : H lw = some (.lst (weights.map V.int))
  lr : H lr = some (.lst (rates.map V.int))
  n1 : 1 ≤ sizes.length
  n7 : sizes.length ≤ 7
  nw : weights.length = sizes.length
  nr : rates.length = 4
  row : ∀ (i : Nat) xs, sizes[i]? = some xs → xs.length = i + 1
  b1 : ∀ xs ∈ sizes, ∀ x ∈ xs, 0 ≤ x ∧ x ≤ 1000000000000
  b2 : ∀ x ∈ weights, 0 ≤ x ∧ x ≤ 1000000000000
  b3 : ∀ x ∈ rates, 0 ≤ x ∧ x ≤ 1000000000000
theorem Plain.keep {H H' : Hp} {t ls lw lr : Addr} {SL : List Addr} {sizes : List (List Int)} {weights rates : List Int} (P : Plain H t ls lw lr SL sizes weights rates) (s : Same H H') : Plain H' t ls lw lr SL sizes weights rates :=
  { P with t := s _ _ P.t, ls := s _ _ P.ls, rows := P.rows.mono fun a _ o e => s _ _ e, lw := s _ _ P.lw, lr := s _ _ P.lr }
def sp_plain (K : PySem.W.Frag) : Sp := fun vs H Q _ => ∃ (a : Addr) (ns : List Int) (m : Nat), vs = [.ref a, .int (m : Int)] ∧ SqL K H a (ns.map V.int) ∧ ns.length ≤ 63 ∧ 4 ≤ m ∧ m ≤ 7 ∧
  ∀ t ls lw lr SL sizes weights rates H', Plain H' t ls lw lr SL sizes weights rates → (∀ b ∈ ls :: lw :: lr :: SL, H b = none) → Same H H' → Q (.ref t) H'
def sp_next : Sp := fun vs H Q _ => ∃ (wa c : Addr) (weights : List Int) (ws : List PySem.Str), vs = [.ref wa, .ref c] ∧ H wa = some (.lst (weights.map V.int)) ∧ H c = some (.tup (ws.map V.str)) ∧ ws.length ≤ weights.length ∧ weights.length ≤ 7 ∧
  ∀ (l : Addr) H', H' l = some (.lst ((nextWs weights ws).map V.str)) → H l = none → Same H H' → Q (.ref l) H'
/-- a task that fits: rows of d + 1 sizes, all numbers within the bounds -/
structure Fit (sizes : List (List Int)) (weights : List Int) (r0 r1 r2 r3 : Int) : Prop where
  n7 : sizes.length ≤ 7
  nw : weights.length = sizes.length
  row : ∀ (i : Nat) xs, sizes[i]? = some xs → xs.length = i + 1
  b1 : ∀ xs ∈ sizes, ∀ x ∈ xs, 0 ≤ x ∧ x ≤ 1000000000000
  b2 : ∀ x ∈ weights, 0 ≤ x ∧ x ≤ 1000000000000
  b3 : ∀ x ∈ [r0, r1, r2, r3], 0 ≤ x ∧ x ≤ 1000000000000
theorem Plain.four {H : Hp} {t ls lw lr : Addr} {SL : List Addr} {sizes : List (List Int)} {weights rates : List Int} (P : Plain H t ls lw lr SL sizes weights rates) : ∃ r0 r1 r2 r3, rates = [r0, r1, r2, r3] ∧ Fit sizes weights r0 r1 r2 r3 := by
  match rates, P.nr with
  | [r0, r1, r2, r3], _ => exact ⟨r0, r1, r2, r3, rfl, P.n7, P.nw, P.row, P.b1, P.b2, P.b3⟩
theorem Fit.sz {sizes : List (List Int)} {weights : List Int} {r0 r1 r2 r3 : Int} (F : Fit sizes weights r0 r1 r2 r3) (ws : List PySem.Str) {d : Nat} (hd : d < sizes.length) : ∃ row, sizes[d]? = some row ∧ row[(baseI ws d + 1).toNat]? = some (szD sizes ws d) ∧ 0 ≤ szD sizes ws d ∧ szD sizes ws d ≤ 1000000000000 := by
  have e : sizes[d]? = some sizes[d] := List.getElem?_eq_getElem hd
  have hr := F.row d _ e
  have b1 := baseI_lt ws d
  have b2 := baseI_ge ws d
  have hl : (baseI ws d + 1).toNat < sizes[d].length := by omega
  have e2 : sizes[d][(baseI ws d + 1).toNat]? = some sizes[d][(baseI ws d + 1).toNat] := List.getElem?_eq_getElem hl
  have e3 : szD sizes ws d = sizes[d][(baseI ws d + 1).toNat] := by
    unfold szD
    rw [List.getD_eq_getElem?_getD, List.getD_eq_getElem?_getD, e, Option.getD_some, e2, Option.getD_some]
  refine ⟨sizes[d], e, by rw [e2, e3], ?_⟩
  rw [e3]
  exact F.b1 _ (List.getElem_mem hd) _ (List.getElem_mem hl)
def sp_legc (C : Addr) : Sp := fun vs H Q _ => ∃ (p : Addr) (sizes : List (List Int)) (weights : List Int) (r0 r1 r2 r3 size : Int), vs = [.ref p, .int size] ∧ TaskAt C H p sizes weights [r0, r1, r2, r3] ∧ Fit sizes weights r0 r1 r2 r3 ∧ Q (.int (r2 + r3 * size)) H
def sp_dayc (C : Addr) : Sp := fun vs H Q _ => ∃ (p : Addr) (sizes : List (List Int)) (weights : List Int) (r0 r1 r2 r3 size way : Int) (d : Nat), vs = [.ref p, .int (d : Int), .int size, .int way] ∧ TaskAt C H p sizes weights [r0, r1, r2, r3] ∧ Fit sizes weights r0 r1 r2 r3 ∧ d < sizes.length ∧ 0 ≤ size ∧ size ≤ 1000000000000 ∧
  Q (.int ((r0 + r1 * ((sizes.length : Int) - (d : Int))) * size + weights.getD d 0 * way)) H
def sp_bof (K : PySem.W.Frag) : Sp := fun vs H Q _ => ∃ (tu : Bool) (c : Addr) (ws : List PySem.Str), vs = [.ref c] ∧ SqB K tu H c (ws.map V.str) ∧ VW ws ∧ ws.length ≤ 7 ∧ ∀ (l : Addr) H', H' l = some (.lst (bvals ws)) → H l = none → Same H H' → Q (.ref l) H'
structure CostsAt (H : Hp) (L : List V) (c : Nat → Int) : Prop where
  get : ∀ (i : Nat) v, L[i]? = some v → ∃ t x y, v = V.ref t ∧ H t = some (.tup [x, y, .int (c i)])
theorem CostsAt.mono {H H' : Hp} {L : List V} {c : Nat → Int} (R : CostsAt H L c) (h : ∀ t xs, H t = some (.tup xs) → H' t = some (.tup xs)) : CostsAt H' L c :=
  ⟨fun i v e => let ⟨t, x, y, a, b⟩ := R.get i v e; ⟨t, x, y, a, h _ _ b⟩⟩
theorem CostsAt.snoc {H : Hp} {L : List V} {c : Nat → Int} (R : CostsAt H L c) {t : Addr} {x y : V} (h : H t = some (.tup [x, y, .int (c L.length)])) : CostsAt H (L ++ [.ref t]) c :=
  ⟨fun i v e => by
    by_cases hi : i < L.length
    · rw [List.getElem?_append_left hi] at e; exact R.get i v e
    · rw [List.getElem?_append_right (by omega)] at e
      have hz : i - L.length = 0 := by have := (List.getElem?_eq_some_iff.mp e).1; simp at this; omega
      rw [hz] at e
      have e : V.ref t = v := by simpa using e
      have : i = L.length := by omega
      subst this
      exact ⟨t, x, y, e.symm, h⟩⟩
def sp_costs (K : PySem.W.Frag) (C : Addr) : Sp := fun vs H Q _ => ∃ (p c : Addr) (tu : Bool) (sizes : List (List Int)) (weights : List Int) (r0 r1 r2 r3 : Int) (ws : List PySem.Str), vs = [.ref p, .ref c] ∧ TaskAt C H p sizes weights [r0, r1, r2, r3] ∧ Fit sizes weights r0 r1 r2 r3 ∧ SqB K tu H c (ws.map V.str) ∧ VW ws ∧ ws.length ≤ sizes.length ∧
  ∀ (l : Addr) (L : List V) H', H' l = some (.lst L) → L.length = ws.length → CostsAt H' L (costD sizes weights r0 r1 r2 r3 ws) → Same H H' → Q (.ref l) H'
def sp_cost (K : PySem.W.Frag) (C : Addr) : Sp := fun vs H Q _ => ∃ (p c : Addr) (tu : Bool) (sizes : List (List Int)) (weights : List Int) (r0 r1 r2 r3 : Int) (ws : List PySem.Str), vs = [.ref p, .ref c] ∧ TaskAt C H p sizes weights [r0, r1, r2, r3] ∧ Fit sizes weights r0 r1 r2 r3 ∧ SqB K tu H c (ws.map V.str) ∧ VW ws ∧ ws.length ≤ sizes.length ∧
  ∀ H', Same H H' → Q (.int (sumTo (costD sizes weights r0 r1 r2 r3 ws) ws.length)) H'
def sp_lbases : Sp := fun vs H Q _ => ∃ (c : Addr) (ws : List PySem.Str), vs = [.ref c] ∧ H c = some (.tup (ws.map V.str)) ∧ VW ws ∧ ws.length ≤ 7 ∧ ∀ (l : Addr) H', H' l = some (.lst (((List.range ws.length).map (baseI ws)).map V.int)) → H l = none → Same H H' → Q (.ref l) H'
def sp_lcost : Sp := fun vs H Q _ => ∃ (t ls lw lr c : Addr) (SL : List Addr) (sizes : List (List Int)) (weights : List Int) (r0 r1 r2 r3 : Int) (ws : List PySem.Str), vs = [.ref t, .ref c] ∧ Plain H t ls lw lr SL sizes weights [r0, r1, r2, r3] ∧ Fit sizes weights r0 r1 r2 r3 ∧ H c = some (.tup (ws.map V.str)) ∧ VW ws ∧ ws.length ≤ sizes.length ∧
  ∀ H', Same H H' → Q (.int (sumTo (costD sizes weights r0 r1 r2 r3 ws) ws.length)) H'
def sp_whole : Sp := fun vs H Q _ => ∃ n : Int, vs = [.int n] ∧ Q (.bl true) H
theorem Fit.row_ne {sizes : List (List Int)} {weights : List Int} {r0 r1 r2 r3 : Int} (F : Fit sizes weights r0 r1 r2 r3) {d : Nat} (hd : d < sizes.length) : ∃ row, sizes[d]? = some row ∧ row ≠ [] ∧ sizes.getD d [] = row ∧ row.length ≤ 7 ∧ 0 ≤ minL row ∧ minL row ≤ 1000000000000 := by
  have e : sizes[d]? = some sizes[d] := List.getElem?_eq_getElem hd
  have hr := F.row d _ e
  have hne : sizes[d] ≠ [] := fun z => by rw [z] at hr; simp at hr
  have n7 := F.n7
  refine ⟨sizes[d], e, hne, by rw [List.getD_eq_getElem?_getD, e]; rfl, by omega, ?_⟩
  exact F.b1 _ (List.getElem_mem hd) _ (isMin_minL hne).1
theorem Fit.sz0 {sizes : List (List Int)} {weights : List Int} {r0 r1 r2 r3 : Int} (F : Fit sizes weights r0 r1 r2 r3) (ws : List PySem.Str) (d : Nat) : 0 ≤ szD sizes ws d := by
  by_cases hd : d < sizes.length
  · obtain ⟨_, _, _, h, _⟩ := F.sz ws hd; exact h
  · unfold szD
    rw [show sizes.getD d [] = [] by rw [List.getD_eq_getElem?_getD, List.getElem?_eq_none (by omega)]; rfl]
    simp
theorem Fit.way0 {sizes : List (List Int)} {weights : List Int} {r0 r1 r2 r3 : Int} (F : Fit sizes weights r0 r1 r2 r3) (ws : List PySem.Str) (i : Int) : 0 ≤ wayDI sizes r2 r3 ws i := by
  have b2 := F.b3 r2 (by simp)
  have b3 := F.b3 r3 (by simp)
  unfold wayDI wyI
  split
  · exact Int.le_refl _
  · refine wyF_nonneg (fun d => ?_) _ _
    have := Int.mul_nonneg b3.1 (F.sz0 ws d)
    unfold legD; omega
theorem Fit.wt0 {sizes : List (List Int)} {weights : List Int} {r0 r1 r2 r3 : Int} (F : Fit sizes weights r0 r1 r2 r3) (d : Nat) : 0 ≤ weights.getD d 0 := by
  rw [List.getD_eq_getElem?_getD]
  cases e : weights[d]? with
  | none => exact Int.le_refl _
  | some w => exact (F.b2 w (List.mem_of_getElem? e)).1
theorem Fit.cost0 {sizes : List (List Int)} {weights : List Int} {r0 r1 r2 r3 : Int} (F : Fit sizes weights r0 r1 r2 r3) (ws : List PySem.Str) {d : Nat} (hd : d < sizes.length) : 0 ≤ costD sizes weights r0 r1 r2 r3 ws d := by
  have b0 := F.b3 r0 (by simp)
  have b1 := F.b3 r1 (by simp)
  unfold costD
  split
  · exact Int.le_refl _
  · have h1 := Int.mul_nonneg b1.1 (show (0 : Int) ≤ (sizes.length : Int) - (d : Int) by omega)
    have h2 := Int.mul_nonneg (show 0 ≤ r0 + r1 * ((sizes.length : Int) - (d : Int)) by omega) (F.sz0 ws d)
    have h3 := Int.mul_nonneg (F.wt0 d) (show 0 ≤ wayD sizes r2 r3 ws d by rw [← wayDI_nat]; exact F.way0 ws d)
    omega
theorem Fit.low {sizes : List (List Int)} {weights : List Int} {r0 r1 r2 r3 : Int} (F : Fit sizes weights r0 r1 r2 r3) {ws : List PySem.Str} (hn : VN weights ws) {d : Nat} (hd : d < sizes.length) (hw : d < ws.length) : lowD sizes weights r0 r1 r2 r3 d ≤ costD sizes weights r0 r1 r2 r3 ws d := by
  unfold lowD
  split
  · rename_i hp
    have b0 := F.b3 r0 (by simp)
    have b1 := F.b3 r1 (by simp)
    have b3 := F.b3 r3 (by simp)
    have e : ws[d]? ≠ some wN := fun z => by have := hn d z; omega
    unfold costD
    rw [if_neg e]
    obtain ⟨row, erow, esz, z0, z1⟩ := F.sz ws hd
    have hm : minL (sizes.getD d []) ≤ szD sizes ws d := by
      rw [List.getD_eq_getElem?_getD, erow]
      exact (isMin_minL (List.ne_nil_of_mem (List.mem_of_getElem? esz))).2 _ (List.mem_of_getElem? esz)
    have hA := Int.mul_nonneg b1.1 (show (0 : Int) ≤ (sizes.length : Int) - (d : Int) by omega)
    have h1 := Int.mul_le_mul_of_nonneg_left hm (show 0 ≤ r0 + r1 * ((sizes.length : Int) - (d : Int)) by omega)
    have h2 := Int.mul_le_mul_of_nonneg_left hm b3.1
    have h3 : r2 + r3 * minL (sizes.getD d []) ≤ wayD sizes r2 r3 ws d := by
      rw [wayD_eq]
      have := F.way0 ws (baseI ws d)
      omega
    have h4 := Int.mul_le_mul_of_nonneg_left h3 (F.wt0 d)
    omega
  · exact F.cost0 ws hd
theorem Fit.mono {sizes : List (List Int)} {weights : List Int} {r0 r1 r2 r3 : Int} (F : Fit sizes weights r0 r1 r2 r3) {ws : List PySem.Str} (hn : VN weights ws) (k : Nat) : sumTo (bdD sizes weights r0 r1 r2 r3 (ws.take k)) sizes.length ≤ sumTo (bdD sizes weights r0 r1 r2 r3 ws) sizes.length := by
  refine sumTo_mono fun d hd => ?_
  unfold bdD
  by_cases h1 : d < (ws.take k).length
  · have h2 : d < k ∧ d < ws.length := by rw [List.length_take] at h1; omega
    rw [if_pos h1, if_pos h2.2, costD_take h2.1]
    exact Int.le_refl _
  · rw [if_neg h1]
    by_cases h2 : d < ws.length
    · rw [if_pos h2]; exact F.low hn hd h2
    · rw [if_neg h2]; exact Int.le_refl _
theorem bd_full {sizes : List (List Int)} {weights : List Int} {r0 r1 r2 r3 : Int} {ws : List PySem.Str} (h : ws.length = sizes.length) : sumTo (bdD sizes weights r0 r1 r2 r3 ws) sizes.length = sumTo (costD sizes weights r0 r1 r2 r3 ws) ws.length := by
  rw [h]
  exact sumTo_congr fun d hd => if_pos (by omega)
theorem bd_nonneg {sizes : List (List Int)} {weights : List Int} {r0 r1 r2 r3 : Int} (F : Fit sizes weights r0 r1 r2 r3) {ws : List PySem.Str} : 0 ≤ sumTo (bdD sizes weights r0 r1 r2 r3 ws) sizes.length := by
  refine sumTo_nonneg fun d hd => ?_
  unfold bdD
  split
  · exact F.cost0 ws hd
  · unfold lowD
    split
    · obtain ⟨row, _, _, e, _, m0, _⟩ := F.row_ne hd
      rw [e]
      have b0 := F.b3 r0 (by simp)
      have b1 := F.b3 r1 (by simp)
      have b2 := F.b3 r2 (by simp)
      have b3 := F.b3 r3 (by simp)
      have hA := Int.mul_nonneg b1.1 (show (0 : Int) ≤ (sizes.length : Int) - (d : Int) by omega)
      have h1 := Int.mul_nonneg (show 0 ≤ r0 + r1 * ((sizes.length : Int) - (d : Int)) by omega) m0
      have h2 := Int.mul_nonneg b3.1 m0
      have h3 := Int.mul_nonneg (F.wt0 d) (show 0 ≤ r2 + r3 * minL row by omega)
      omega
    · exact Int.le_refl _
def sp_bound (K : PySem.W.Frag) (C : Addr) : Sp := fun vs H Q _ => ∃ (p c : Addr) (tu : Bool) (sizes : List (List Int)) (weights : List Int) (r0 r1 r2 r3 : Int) (ws : List PySem.Str), vs = [.ref p, .ref c] ∧ TaskAt C H p sizes weights [r0, r1, r2, r3] ∧ Fit sizes weights r0 r1 r2 r3 ∧ SqB K tu H c (ws.map V.str) ∧ VW ws ∧ ws.length ≤ sizes.length ∧
  ∀ H', Same H H' → Q (.int (sumTo (bdD sizes weights r0 r1 r2 r3 ws) sizes.length)) H'
def sp_lbound : Sp := fun vs H Q _ => ∃ (t ls lw lr c : Addr) (SL : List Addr) (sizes : List (List Int)) (weights : List Int) (r0 r1 r2 r3 : Int) (ws : List PySem.Str), vs = [.ref t, .ref c] ∧ Plain H t ls lw lr SL sizes weights [r0, r1, r2, r3] ∧ Fit sizes weights r0 r1 r2 r3 ∧ H c = some (.tup (ws.map V.str)) ∧ VW ws ∧ ws.length ≤ sizes.length ∧
  ∀ H', Same H H' → Q (.int (sumTo (bdD sizes weights r0 r1 r2 r3 ws) sizes.length)) H'
abbrev bdF (sizes : List (List Int)) (weights : List Int) (r0 r1 r2 r3 : Int) (ws : List PySem.Str) : Int := sumTo (bdD sizes weights r0 r1 r2 r3 ws) sizes.length
abbrev visF (sizes : List (List Int)) (weights : List Int) (r0 r1 r2 r3 : Int) := visit (nextWs weights) (bdF sizes weights r0 r1 r2 r3)
def sp_bplan (C : Addr) : Sp := fun vs H Q _ => ∃ (p : Addr) (sizes : List (List Int)) (weights : List Int) (r0 r1 r2 r3 : Int), vs = [.ref p] ∧ TaskAt C H p sizes weights [r0, r1, r2, r3] ∧ Fit sizes weights r0 r1 r2 r3 ∧
  ∀ (t bt ll : Addr) (LL : List Addr) (lv : List Lf) (x : Lf) H', H' t = some (.tup [.ref bt, .int x.2, .ref ll]) → H' bt = some (.tup (x.1.map V.str)) → H' ll = some (.lst (LL.map V.ref)) → H ll = none → LfsAt H' LL lv → visF sizes weights r0 r1 r2 r3 (sizes.length + 1) [] none = (lv, some x) → lv.length ≤ 390625 → Same H H' → Q (.ref t) H'
def sp_leaf : Sp := fun vs H Q _ => ∃ (a : Addr) (l : Lf), vs = [.ref a] ∧ LfAt H a l ∧ l.1.length ≤ 7 ∧ ∀ H', Same H H' → Q (.bl true) H'
def sp_under (k : Nat) : Sp := fun vs H Q _ => ∃ (t ls lw lr c ll : Addr) (SL : List Addr) (sizes : List (List Int)) (weights : List Int) (r0 r1 r2 r3 : Int) (ws : List PySem.Str) (LL : List Addr) (all : List Lf) (i0 : Nat) (bv : V) (b : Option Lf) (f : Nat) (rest : List Lf), vs = [.ref t, .ref c, .ref ll, .int (i0 : Int), bv] ∧ Plain H t ls lw lr SL sizes weights [r0, r1, r2, r3] ∧ Fit sizes weights r0 r1 r2 r3 ∧ H c = some (.tup (ws.map V.str)) ∧ VW ws ∧ ws.length ≤ sizes.length ∧ H ll = some (.lst (LL.map V.ref)) ∧ LfsAt H LL all ∧ BestT H bv b ∧ f + ws.length = sizes.length + 1 ∧ f ≤ k ∧ all.drop i0 = (visF sizes weights r0 r1 r2 r3 f ws b).1 ++ rest ∧ (∀ l ∈ all, l.1.length ≤ 7) ∧
  ∀ (r : Addr) (bv' : V) H', H' r = some (.lst [.int ((i0 + (visF sizes weights r0 r1 r2 r3 f ws b).1.length : Nat) : Int), bv']) → BestT H' bv' (visF sizes weights r0 r1 r2 r3 f ws b).2 → Same H H' → Q (.ref r) H'
def sp_law (K : PySem.W.Frag) : Sp := fun vs H Q _ => ∃ (a : Addr) (ns : List Int), vs = [.ref a] ∧ SqL K H a (ns.map V.int) ∧ ns.length ≤ 63 ∧ ∀ H', Q (.bl true) H'
structure Txt (K : PySem.W.Frag) (mg : Str → Option Value) (t_MOST_PLANNED : Tok) (C_KeepError : Addr) (C_NoPlan : Addr) (C_Task : Addr) : Prop where
  m_MOST_PLANNED : mg "MOST_PLANNED" = some (.int 7 t_MOST_PLANNED)
  mg_KeepError : mg "KeepError" = some (.ref C_KeepError)
  x_KeepError : XCls K C_KeepError
  mg_NoPlan : mg "NoPlan" = some (.ref C_NoPlan)
  x_NoPlan : XCls K C_NoPlan
  n_NoPlan_many : NoAttr K C_NoPlan "many"
  mg_Task : mg "Task" = some (.ref C_Task)
  cl_Task : Cls K C_Task
  n_Task_sizes : NoAttr K C_Task "sizes"
  n_Task_weights : NoAttr K C_Task "weights"
  n_Task_rates : NoAttr K C_Task "rates"
  b_len : mg "len" = none
  b_isinstance : mg "isinstance" = none
  b_int : mg "int" = none
  b_bool : mg "bool" = none
  b_list : mg "list" = none
  b_tuple : mg "tuple" = none
  b_range : mg "range" = none
  b_min : mg "min" = none
  b_enumerate : mg "enumerate" = none
  b_sum : mg "sum" = none
  b_sorted : mg "sorted" = none
  b_reversed : mg "reversed" = none
  b_str : mg "str" = none
section
variable {P : Program} {w : World} {K : PySem.W.Frag} {mg : Str → Option Value} {base : Heap} {t_MOST_PLANNED : Tok} {C_KeepError : Addr} {C_NoPlan : Addr} {C_Task : Addr}
theorem ok_NoPlan___init__ {f : Addr} {fd : FuncData} (F : Fun K "__init__" "NoPlan.__init__" s_NoPlan___init__ f fd) (T : Txt K mg t_MOST_PLANNED C_KeepError C_NoPlan C_Task) : FnOk P w K mg base (CXx P w) 1 f fd ["self", "many"] (sp_x1 C_NoPlan "many") := by
  refine F.okX sc_NoPlan___init__ (fun vs H Q E h => ?_) (fun cdv A outer s H vs Q E hr h => ?_)
  · obtain ⟨p, y0, rfl, hp, q⟩ := h; rfl
  · obtain ⟨p, y0, rfl, hp, q⟩ := h
    refine ⟨_, (pss_one (ps_xfld1 (pv 0) (pv 1) rfl)), ?_⟩
    exact ⟨_, rfl, _, rfl, p, C_NoPlan, true, rfl, hp, T.x_NoPlan, T.n_NoPlan_many, fun dx hdx => q dx hdx⟩
theorem ok__law_cell_at {f : Addr} {fd : FuncData} (F : Fun K "_law_cell_at" "_law_cell_at" s__law_cell_at f fd) (T : Txt K mg t_MOST_PLANNED C_KeepError C_NoPlan C_Task)  : FnOk P w K mg base (CXx P w) 1 f fd ["_law_script", "_law_k"] (sp_cell K) := by
  refine F.okX sc__law_cell_at (fun vs H Q E h => ?_) (fun cdv A outer s H vs Q E hr h => ?_)
  · obtain ⟨a, ns, k, rfl, hS, q⟩ := h; rfl
  · obtain ⟨a, ns, k, rfl, hS, q⟩ := h
    refine ⟨_, (pss_cons (ps_if (pt_cmpR op_lt (pv 1) (pe_callB call_len_seq (by rfl) T.b_len PySem.boot_len (pa_cons (pv 0) pa_nil)) (nomark _)) (pss_one (ps_ret (pe_ix ix_list (pv 0) (pv 1) (fun _ _ => rfl)))) pss_nil)
      (pss_one (ps_ret pe_int))), ?_⟩
    refine ⟨_, rfl, _, rfl, a, _, rfl, .inl hS, _, _, rfl, rfl, _, rfl, ?_⟩
    refine ite2 (fun h => ?_) (fun h => ?_)
    · have h : k < ns.length := by simpa using h
      refine ⟨_, rfl, _, rfl, a, _, _, V.int (ns.getD k 0), rfl, rfl, hS, atI_nat ?_, ?_⟩
      · simp [h]
      · have e : cellI ns k = ns.getD k 0 := by unfold cellI; rw [if_pos (by omega)]; rfl
        rw [e] at q; exact q
    · have h : ¬ k < ns.length := by simpa using h
      have e : cellI ns k = 0 := by unfold cellI; rw [if_neg (by omega)]
      rw [e] at q; exact q
theorem ok_ask_many {f : Addr} {fd : FuncData} (F : Fun K "ask_many" "ask_many" s_ask_many f fd) (T : Txt K mg t_MOST_PLANNED C_KeepError C_NoPlan C_Task) (D_NoPlan : ExcX P w K mg base "NoPlan" C_NoPlan 1 ["self", "many"] (sp_x1 C_NoPlan "many")) : FnOk P w K mg base (CXx P w) 3 f fd ["many"] (sp_askm) := by
  refine F.okX sc_ask_many (fun vs H Q E h => ?_) (fun cdv A outer s H vs Q E hr h => ?_)
  · obtain ⟨n, rfl, h1, h2, q⟩ := h; rfl
  · obtain ⟨n, rfl, h1, h2, q⟩ := h
    refine ⟨_, (pss_one (ps_if (PW.pt (pw_or (pt_cmpR op_lt (pv 0) pe_int (nomark _)) (pw_or1 (pt_cmpR op_gt (pv 0) (pe_glob (v := .int 7) rfl T.m_MOST_PLANNED ⟨_, rfl⟩) (nomark _))))) (pss_one (ps_raise rfl raisesB (pe_exc D_NoPlan (hr.mono (by decide)) rfl (pa_cons (pv 0) pa_nil)))) pss_nil)), ?_⟩
    refine ⟨_, rfl, _, _, rfl, rfl, _, rfl, ?_⟩
    refine iteN (by omega) ?_
    refine ⟨_, rfl, _, _, rfl, rfl, _, rfl, ?_⟩
    refine iteN (by omega) ?_
    exact q
theorem ok_Task___init__ {f : Addr} {fd : FuncData} (F : Fun K "__init__" "Task.__init__" s_Task___init__ f fd) (T : Txt K mg t_MOST_PLANNED C_KeepError C_NoPlan C_Task) (D_ask_many : DefX P w K mg base "ask_many" 3 ["many"] sp_askm) : FnOk P w K mg base (CXx P w) 4 f fd ["self", "sizes", "weights", "rates"] (sp_tinit C_Task) := by
  refine F.okX sc_Task___init__ (fun vs H Q E h => ?_) (fun cdv A outer s H vs Q E hr h => ?_)
  · obtain ⟨p, dx, sa, wa, ra, SL, sizes, weights, rates, rfl, hp, n1, n7, nw, nr, hAB, q⟩ := h; rfl
  · obtain ⟨p, dx, sa, wa, ra, SL, sizes, weights, rates, rfl, hp, n1, n7, nw, nr, hAB, q⟩ := h
    refine ⟨_, (pss_cons (ps_expr (pe_callS D_ask_many passesN (hr.mono (by decide)) rfl (pa_cons (pe_callB call_len_seq (by rfl) T.b_len PySem.boot_len (pa_cons (pv 1) pa_nil)) pa_nil)))
      (pss_cons (ps_fld (pv 0) (pe_callTy call_tuple_of (by rfl) T.b_tuple PyProof.Rows.boot_tuple (pa_cons (pe_comp (N := ["of_day"]) (k := 1) (cap := []) rfl rfl (pi_or (pi_list (pv 1)) (pi_tup (pv 1))) (fun _ _ _ _ => (pg_name (i := 0) (show (["of_day"] : List Str).Nodup from by decide +kernel) rfl (Or.inl rfl) (.inr rfl))) (fun _ _ _ _ => pts_nil) (fun _ _ _ _ => (pe_callTy (call_tuple_ofK (K := K) rfl) (by rfl) T.b_tuple PyProof.Rows.boot_tuple (pa_cons (pv 0) pa_nil)))) pa_nil)) rfl)
      (pss_cons (ps_fld (pv 0) (pe_callTy call_tuple_of (by rfl) T.b_tuple PyProof.Rows.boot_tuple (pa_cons (pv 2) pa_nil)) rfl)
      (pss_one (ps_fld (pv 0) (pe_callTy call_tuple_of (by rfl) T.b_tuple PyProof.Rows.boot_tuple (pa_cons (pv 3) pa_nil)) rfl))))), ?_⟩
    rcases hAB with ⟨hsa, R, hwa, hra⟩ | ⟨hsa, R, hwa, hra⟩
    · have Rl := R.len
      refine ⟨_, rfl, sa, _, rfl, .inl (SqL.of hsa), _, rfl, (by rw [List.length_map]; omega), (by rw [List.length_map]; omega), ?_⟩
      refine .inl ⟨_, rfl, sa, rfl, ⟨_, SqL.of hsa⟩, fun D hD => ?_⟩
      refine comp_list D (K := K) (a := sa) (xs := SL.map V.ref) (fun i σ H2 ys => ∃ (v : Option V) (TL : List Addr), σ = [v] ∧ Same H H2 ∧ H2 D = some (.lst ys) ∧ ys = TL.map V.ref ∧ RowsTu H2 TL (sizes.take i)) ⟨none, [], rfl, Same.new hD, upd_same, rfl, ⟨rfl, fun i a xs e => by simp at e⟩⟩ (fun i σ H2 ys _ ⟨_, _, _, s2, _⟩ => SqL.of (s2 sa _ hsa)) ?_ ?_
      · rintro i x σ H2 ys hi ⟨v, TL, rfl, s2, hD2, rfl, RT⟩
        rw [List.getElem?_map] at hi
        obtain ⟨a, ea, rfl⟩ := Option.map_eq_some_iff.mp hi
        have hil : i < SL.length := (List.getElem?_eq_some_iff.mp ea).1
        have ex : sizes[i]? = some sizes[i] := List.getElem?_eq_getElem (by omega)
        have ha := s2 _ _ (R.get i a _ ea ex)
        have RTl := RT.len
        rw [List.length_take] at RTl
        refine ⟨_, rfl, a, _, rfl, .inl ⟨SqL.of ha, fun t ht => ?_⟩⟩
        have nDt : D ≠ t := ne_of_none hD2 ht
        refine ⟨by rw [upd_ne nDt]; exact hD2, (by rw [List.length_map]; exact small1000 (by omega)), _, TL ++ [t], rfl, fun b o e => ?_, upd_same, by simp, ?_⟩
        · rw [upd_ne (ne_of_none e hD)]; exact Same.new ht b _ (s2 b _ e)
        · rw [List.take_add_one, ex]
          refine (RT.keep fun b xs e => ?_).snoc ?_
          · rw [upd_ne (ne_of e hD2 (by intro z; cases z))]; exact Same.new ht b _ e
          · rw [upd_ne nDt.symm, upd_same]
      rintro σ H2 ys ⟨v, TL, rfl, s2, hD2, rfl, RT⟩
      rw [List.length_map, Rl, List.take_length] at RT
      refine ⟨D, _, rfl, .inl ⟨SqL.of hD2, fun t1 ht1 => ?_⟩⟩
      have hp2 := s2 p _ hp
      refine ⟨_, rfl, p, C_Task, dx, _, rfl, Same.new ht1 p _ hp2, T.cl_Task, T.n_Task_sizes, (by show 0 < 1000; decide), ?_⟩
      have k3 : Keep [p] H2 (upd (upd H2 t1 (.tup (TL.map V.ref))) p (.ins C_Task dx (putF "sizes" (V.ref t1) []))) := keep_upd (Keep.of_same (Same.new ht1)) (.inl (by simp))
      have hp3 : upd (upd H2 t1 (.tup (TL.map V.ref))) p (.ins C_Task dx (putF "sizes" (V.ref t1) [])) p = some (.ins C_Task dx [("sizes", V.ref t1)]) := upd_same
      have ht3 : upd (upd H2 t1 (.tup (TL.map V.ref))) p (.ins C_Task dx (putF "sizes" (V.ref t1) [])) t1 = some (.tup (TL.map V.ref)) := by rw [upd_ne (ne_of_none hp2 ht1).symm, upd_same]
      generalize upd (upd H2 t1 (.tup (TL.map V.ref))) p (.ins C_Task dx (putF "sizes" (V.ref t1) [])) = H3 at k3 hp3 ht3
      have npw : wa ∉ [p] := by have := ne_of hwa hp (by intro z; cases z); simpa using this
      have npr : ra ∉ [p] := by have := ne_of hra hp (by intro z; cases z); simpa using this
      have hw3 := k3 wa _ (s2 wa _ hwa) npw
      have hr3 := k3 ra _ (s2 ra _ hra) npr
      have R3 : RowsTu H3 TL sizes := RT.keep fun t xs e => k3 t _ e (by have := ne_of e hp2 (by intro z; cases z); simpa using this)
      refine ⟨_, rfl, wa, _, rfl, .inl ⟨SqL.of hw3, fun t2 ht2 => ?_⟩⟩
      refine ⟨_, rfl, p, C_Task, dx, _, rfl, Same.new ht2 p _ hp3, T.cl_Task, T.n_Task_weights, (by show 1 < 1000; decide), ?_⟩
      rw [put_t2]
      have k4 : Keep [p] H3 (upd (upd H3 t2 (.tup (weights.map V.int))) p (.ins C_Task dx [("sizes", V.ref t1), ("weights", V.ref t2)])) := keep_upd (Keep.of_same (Same.new ht2)) (.inl (by simp))
      have hp4 : upd (upd H3 t2 (.tup (weights.map V.int))) p (.ins C_Task dx [("sizes", V.ref t1), ("weights", V.ref t2)]) p = some (.ins C_Task dx [("sizes", V.ref t1), ("weights", V.ref t2)]) := upd_same
      have ht4 : upd (upd H3 t2 (.tup (weights.map V.int))) p (.ins C_Task dx [("sizes", V.ref t1), ("weights", V.ref t2)]) t2 = some (.tup (weights.map V.int)) := by rw [upd_ne (ne_of_none hp3 ht2).symm, upd_same]
      generalize upd (upd H3 t2 (.tup (weights.map V.int))) p (.ins C_Task dx [("sizes", V.ref t1), ("weights", V.ref t2)]) = H4 at k4 hp4 ht4
      have hr4 := k4 ra _ hr3 npr
      refine ⟨_, rfl, ra, _, rfl, .inl ⟨SqL.of hr4, fun t3 ht3' => ?_⟩⟩
      refine ⟨_, rfl, p, C_Task, dx, _, rfl, Same.new ht3' p _ hp4, T.cl_Task, T.n_Task_rates, (by show 2 < 1000; decide), ?_⟩
      rw [put_t3]
      have k5 : Keep [p] H4 (upd (upd H4 t3 (.tup (rates.map V.int))) p (.ins C_Task dx (tfs t1 t2 t3))) := keep_upd (Keep.of_same (Same.new ht3')) (.inl (by simp))
      have up3 : ∀ t xs, H3 t = some (.tup xs) → H4 t = some (.tup xs) := fun t xs e => k4 t _ e (by have := ne_of e hp3 (by intro z; cases z); simpa using this)
      have up4 : ∀ t xs, H4 t = some (.tup xs) → upd (upd H4 t3 (.tup (rates.map V.int))) p (.ins C_Task dx (tfs t1 t2 t3)) t = some (.tup xs) := fun t xs e => k5 t _ e (by have := ne_of e hp4 (by intro z; cases z); simpa using this)
      refine q _ ⟨dx, t1, t2, t3, TL, upd_same, up4 _ _ (up3 _ _ ht3), R3.keep fun t xs e => up4 _ _ (up3 _ _ e), up4 _ _ ht4, ?_⟩ fun b o e hb => k5 b o (k4 b o (k3 b o (s2 b o e) hb) hb) hb
      rw [upd_ne (ne_of_none hp4 ht3').symm, upd_same]
    · have Rl := R.len
      refine ⟨_, rfl, sa, _, rfl, .inr (SqT.of hsa), _, rfl, (by rw [List.length_map]; omega), (by rw [List.length_map]; omega), ?_⟩
      refine .inr ⟨_, rfl, sa, rfl, ⟨_, SqT.of hsa⟩, fun D hD => ?_⟩
      refine comp_tup D (K := K) (a := sa) (xs := SL.map V.ref) (fun i σ H2 ys => ∃ (v : Option V) (TL : List Addr), σ = [v] ∧ Same H H2 ∧ H2 D = some (.lst ys) ∧ ys = TL.map V.ref ∧ RowsTu H2 TL (sizes.take i)) ⟨none, [], rfl, Same.new hD, upd_same, rfl, ⟨rfl, fun i a xs e => by simp at e⟩⟩ (fun i σ H2 ys _ ⟨_, _, _, s2, _⟩ => SqT.of (s2 sa _ hsa)) ?_ ?_
      · rintro i x σ H2 ys hi ⟨v, TL, rfl, s2, hD2, rfl, RT⟩
        rw [List.getElem?_map] at hi
        obtain ⟨a, ea, rfl⟩ := Option.map_eq_some_iff.mp hi
        have hil : i < SL.length := (List.getElem?_eq_some_iff.mp ea).1
        have ex : sizes[i]? = some sizes[i] := List.getElem?_eq_getElem (by omega)
        have ha := s2 _ _ (R.get i a _ ea ex)
        have RTl := RT.len
        rw [List.length_take] at RTl
        refine ⟨_, rfl, a, _, rfl, .inr ⟨SqT.of ha, ?_⟩⟩
        refine ⟨hD2, (by rw [List.length_map]; exact small1000 (by omega)), _, TL ++ [a], rfl, fun b o e => ?_, upd_same, by simp, ?_⟩
        · rw [upd_ne (ne_of_none e hD)]; exact s2 b _ e
        · rw [List.take_add_one, ex]
          refine (RT.keep fun b xs e => ?_).snoc ?_
          · rw [upd_ne (ne_of e hD2 (by intro z; cases z))]; exact e
          · rw [upd_ne (ne_of ha hD2 (by intro z; cases z))]; exact ha
      rintro σ H2 ys ⟨v, TL, rfl, s2, hD2, rfl, RT⟩
      rw [List.length_map, Rl, List.take_length] at RT
      refine ⟨D, _, rfl, .inl ⟨SqL.of hD2, fun t1 ht1 => ?_⟩⟩
      have hp2 := s2 p _ hp
      refine ⟨_, rfl, p, C_Task, dx, _, rfl, Same.new ht1 p _ hp2, T.cl_Task, T.n_Task_sizes, (by show 0 < 1000; decide), ?_⟩
      have k3 : Keep [p] H2 (upd (upd H2 t1 (.tup (TL.map V.ref))) p (.ins C_Task dx (putF "sizes" (V.ref t1) []))) := keep_upd (Keep.of_same (Same.new ht1)) (.inl (by simp))
      have hp3 : upd (upd H2 t1 (.tup (TL.map V.ref))) p (.ins C_Task dx (putF "sizes" (V.ref t1) [])) p = some (.ins C_Task dx [("sizes", V.ref t1)]) := upd_same
      have ht3 : upd (upd H2 t1 (.tup (TL.map V.ref))) p (.ins C_Task dx (putF "sizes" (V.ref t1) [])) t1 = some (.tup (TL.map V.ref)) := by rw [upd_ne (ne_of_none hp2 ht1).symm, upd_same]
      generalize upd (upd H2 t1 (.tup (TL.map V.ref))) p (.ins C_Task dx (putF "sizes" (V.ref t1) [])) = H3 at k3 hp3 ht3
      have npw : wa ∉ [p] := by have := ne_of hwa hp (by intro z; cases z); simpa using this
      have npr : ra ∉ [p] := by have := ne_of hra hp (by intro z; cases z); simpa using this
      have hw3 := k3 wa _ (s2 wa _ hwa) npw
      have hr3 := k3 ra _ (s2 ra _ hra) npr
      have R3 : RowsTu H3 TL sizes := RT.keep fun t xs e => k3 t _ e (by have := ne_of e hp2 (by intro z; cases z); simpa using this)
      refine ⟨_, rfl, wa, _, rfl, .inr ⟨SqT.of hw3, ?_⟩⟩
      refine ⟨_, rfl, p, C_Task, dx, _, rfl, hp3, T.cl_Task, T.n_Task_weights, (by show 1 < 1000; decide), ?_⟩
      rw [put_t2]
      have k4 : Keep [p] H3 (upd H3 p (.ins C_Task dx [("sizes", V.ref t1), ("weights", V.ref wa)])) := keep_upd Keep.refl (.inl (by simp))
      have hp4 : upd H3 p (.ins C_Task dx [("sizes", V.ref t1), ("weights", V.ref wa)]) p = some (.ins C_Task dx [("sizes", V.ref t1), ("weights", V.ref wa)]) := upd_same
      generalize upd H3 p (.ins C_Task dx [("sizes", V.ref t1), ("weights", V.ref wa)]) = H4 at k4 hp4
      have hw4 := k4 wa _ hw3 npw
      have hr4 := k4 ra _ hr3 npr
      refine ⟨_, rfl, ra, _, rfl, .inr ⟨SqT.of hr4, ?_⟩⟩
      refine ⟨_, rfl, p, C_Task, dx, _, rfl, hp4, T.cl_Task, T.n_Task_rates, (by show 2 < 1000; decide), ?_⟩
      rw [put_t3]
      have k5 : Keep [p] H4 (upd H4 p (.ins C_Task dx (tfs t1 wa ra))) := keep_upd Keep.refl (.inl (by simp))
      have up3 : ∀ t xs, H3 t = some (.tup xs) → H4 t = some (.tup xs) := fun t xs e => k4 t _ e (by have := ne_of e hp3 (by intro z; cases z); simpa using this)
      have up4 : ∀ t xs, H4 t = some (.tup xs) → upd H4 p (.ins C_Task dx (tfs t1 wa ra)) t = some (.tup xs) := fun t xs e => k5 t _ e (by have := ne_of e hp4 (by intro z; cases z); simpa using this)
      exact q _ ⟨dx, t1, wa, ra, TL, upd_same, up4 _ _ (up3 _ _ ht3), R3.keep fun t xs e => up4 _ _ (up3 _ _ e), up4 _ _ hw4, up4 _ _ hr4⟩ fun b o e hb => k5 b o (k4 b o (k3 b o (s2 b o e) hb) hb) hb
theorem ok_bases_behind {f : Addr} {fd : FuncData} (F : Fun K "bases_behind" "bases_behind" s_bases_behind f fd) (T : Txt K mg t_MOST_PLANNED C_KeepError C_NoPlan C_Task)  : FnOk P w K mg base (CXx P w) 1 f fd ["choices"] (sp_bases K) := by
  refine F.okX sc_bases_behind (fun vs H Q E h => ?_) (fun cdv A outer s H vs Q E hr h => ?_)
  · obtain ⟨tu, c, ws, rfl, hc, h7, q⟩ := h; rfl
  · obtain ⟨tu, c, ws, rfl, hc, h7, q⟩ := h
    refine ⟨_, (pss_cons (ps_set (i := 1) sc_bases_behind.nd rfl (Or.inl rfl) (pe_disp (pps_cons pe_str (pe_un un_neg pe_int) pps_nil) rfl rfl (by decide) (by decide)))
      (pss_cons (ps_for PassesOwn.leaving rfl (pi_or (pi_enum false rfl T.b_enumerate (pa_cons (pv 0) pa_nil)) (pi_enum true rfl T.b_enumerate (pa_cons (pv 0) pa_nil))) (pg_tup rfl (pgs_cons (pg_name (i := 2) sc_bases_behind.nd rfl (Or.inl rfl)) (pgs_cons (pg_name (i := 3) sc_bases_behind.nd rfl (Or.inl rfl)) pgs_nil)))
      (pss_cons (ps_if (pt_cmpR op_eq (pv 3) pe_str (nomark _)) (pss_one (ps_dput (hu_of hr) (pv 1) pe_str (pv 2) rfl)) pss_nil)
      (pss_one (ps_if (pt_cmpR op_ne (pv 3) pe_str (nomark _)) (pss_one (ps_dput (hu_of hr) (pv 1) pe_str (pv 2) rfl)) pss_nil))))
      (pss_one (ps_ret (pv 1))))), ?_⟩
    refine fun d hd => ⟨_, rfl, upd_same, [(Sum.inr wW, V.int (-1))], rfl, by decide, ?_⟩
    have s1 : Same H (upd (upd H d (.dK [])) d (.dK (mergeK [] [(Sum.inr wW, V.int (-1))]))) := by rw [upd_upd]; exact Same.new hd
    have h1 : upd (upd H d (.dK [])) d (.dK (mergeK [] [(Sum.inr wW, V.int (-1))])) d = some (.dK (putK [] (Sum.inr wW) (V.int (-1)))) := upd_same
    generalize upd (upd H d (.dK [])) d (.dK (mergeK [] [(Sum.inr wW, V.int (-1))])) = H1 at s1 h1
    cases tu
    · refine .inl ⟨_, rfl, c, rfl, ⟨_, hc.same s1⟩, for_enum (K := K) (tu := false) (l := c) (xs := ws.map V.str) (fun i σ H2 => ∃ (v2 v3 : Option V) (kvs : List (Key × V)), σ = [some (.ref c), some (.ref d), v2, v3] ∧ Same H H2 ∧ H2 d = some (.dK kvs) ∧ kvs.length ≤ 1 + 2 * i ∧ BasesOk kvs (ws.take i)) ⟨none, none, _, rfl, s1, h1, Nat.le_of_eq rfl, BasesOk.first⟩ (fun i σ H2 ⟨_, _, _, _, s2, _⟩ => hc.same s2) ?_ ?_⟩
      · rintro i x σ H2 T0 hi ⟨v2, v3, kvs, rfl, s2, h2, hl, B⟩ nT
        obtain ⟨w, hw, rfl⟩ := str_at hi
        have hil : i < ws.length := (List.getElem?_eq_some_iff.mp hw).1
        have htk : ws.take (i + 1) = ws.take i ++ [w] := by rw [List.take_add_one, hw]; rfl
        have hlen : ((ws.take i).length : Int) = (i : Int) := by rw [List.length_take]; omega
        refine ⟨T0, _, rfl, SqT.of upd_same, rfl, _, _, rfl, _, _, rfl, rfl, ?_⟩
        have s3 : Same H2 (upd H2 T0 (.tup [V.int (i : Int), V.str w])) := Same.new nT
        generalize upd H2 T0 (.tup [V.int (i : Int), V.str w]) = H3 at s3
        have h3 := s3 d _ h2
        have s03 := s2.trans s3
        refine ⟨_, rfl, rfl, _, rfl, ?_⟩
        by_cases e1 : w = wW
        · subst e1
          refine iteY rfl ?_
          refine ⟨_, rfl, _, rfl, d, _, rfl, DPut.k (k := Sum.inr wS) h3 (small1000 (by omega)), ?_⟩
          refine ⟨_, rfl, rfl, _, rfl, ?_⟩
          refine iteNN (by decide +kernel) ?_
          have lp := length_putK kvs (Sum.inr wS) (V.int (i : Int))
          refine ⟨_, rfl, _, rfl, d, _, rfl, DPut.k (k := Sum.inr wL) upd_same (small1000 (by omega)), ?_⟩
          have lp2 := length_putK (putK kvs (Sum.inr wS) (V.int (i : Int))) (Sum.inr wL) (V.int (i : Int))
          refine ⟨_, _, _, rfl, fun b o e => ?_, upd_same, by omega, ?_⟩
          · rw [upd_upd, upd_ne (ne_of_none e hd)]; exact s03 b o e
          · have := B.whole
            rw [hlen] at this
            rw [htk]; exact this
        · refine iteN (fun h => e1 (V.str.inj h)) ?_
          refine ⟨_, rfl, rfl, _, rfl, ?_⟩
          by_cases e2 : w = wN
          · subst e2
            refine iteNS rfl ?_
            exact ⟨_, _, kvs, rfl, s03, h3, by omega, by rw [htk]; exact B.non⟩
          · refine iteNN (fun h => e2 (V.str.inj h)) ?_
            have lp := length_putK kvs (Sum.inr wL) (V.int (i : Int))
            refine ⟨_, rfl, _, rfl, d, _, rfl, DPut.k (k := Sum.inr wL) h3 (small1000 (by omega)), ?_⟩
            refine ⟨_, _, _, rfl, fun b o e => ?_, upd_same, by omega, ?_⟩
            · rw [upd_ne (ne_of_none e hd)]; exact s03 b o e
            · have := B.other e1 e2
              rw [hlen] at this
              rw [htk]; exact this
      · rintro σ H2 ⟨v2, v3, kvs, rfl, s2, h2, hl, B⟩
        rw [List.length_map, List.take_length] at B
        exact ⟨_, rfl, q d kvs H2 h2 hd B s2⟩
    · refine .inr ⟨_, rfl, c, rfl, ⟨_, hc.same s1⟩, for_enum (K := K) (tu := true) (l := c) (xs := ws.map V.str) (fun i σ H2 => ∃ (v2 v3 : Option V) (kvs : List (Key × V)), σ = [some (.ref c), some (.ref d), v2, v3] ∧ Same H H2 ∧ H2 d = some (.dK kvs) ∧ kvs.length ≤ 1 + 2 * i ∧ BasesOk kvs (ws.take i)) ⟨none, none, _, rfl, s1, h1, Nat.le_of_eq rfl, BasesOk.first⟩ (fun i σ H2 ⟨_, _, _, _, s2, _⟩ => hc.same s2) ?_ ?_⟩
      · rintro i x σ H2 T0 hi ⟨v2, v3, kvs, rfl, s2, h2, hl, B⟩ nT
        obtain ⟨w, hw, rfl⟩ := str_at hi
        have hil : i < ws.length := (List.getElem?_eq_some_iff.mp hw).1
        have htk : ws.take (i + 1) = ws.take i ++ [w] := by rw [List.take_add_one, hw]; rfl
        have hlen : ((ws.take i).length : Int) = (i : Int) := by rw [List.length_take]; omega
        refine ⟨T0, _, rfl, SqT.of upd_same, rfl, _, _, rfl, _, _, rfl, rfl, ?_⟩
        have s3 : Same H2 (upd H2 T0 (.tup [V.int (i : Int), V.str w])) := Same.new nT
        generalize upd H2 T0 (.tup [V.int (i : Int), V.str w]) = H3 at s3
        have h3 := s3 d _ h2
        have s03 := s2.trans s3
        refine ⟨_, rfl, rfl, _, rfl, ?_⟩
        by_cases e1 : w = wW
        · subst e1
          refine iteY rfl ?_
          refine ⟨_, rfl, _, rfl, d, _, rfl, DPut.k (k := Sum.inr wS) h3 (small1000 (by omega)), ?_⟩
          refine ⟨_, rfl, rfl, _, rfl, ?_⟩
          refine iteNN (by decide +kernel) ?_
          have lp := length_putK kvs (Sum.inr wS) (V.int (i : Int))
          refine ⟨_, rfl, _, rfl, d, _, rfl, DPut.k (k := Sum.inr wL) upd_same (small1000 (by omega)), ?_⟩
          have lp2 := length_putK (putK kvs (Sum.inr wS) (V.int (i : Int))) (Sum.inr wL) (V.int (i : Int))
          refine ⟨_, _, _, rfl, fun b o e => ?_, upd_same, by omega, ?_⟩
          · rw [upd_upd, upd_ne (ne_of_none e hd)]; exact s03 b o e
          · have := B.whole
            rw [hlen] at this
            rw [htk]; exact this
        · refine iteN (fun h => e1 (V.str.inj h)) ?_
          refine ⟨_, rfl, rfl, _, rfl, ?_⟩
          by_cases e2 : w = wN
          · subst e2
            refine iteNS rfl ?_
            exact ⟨_, _, kvs, rfl, s03, h3, by omega, by rw [htk]; exact B.non⟩
          · refine iteNN (fun h => e2 (V.str.inj h)) ?_
            have lp := length_putK kvs (Sum.inr wL) (V.int (i : Int))
            refine ⟨_, rfl, _, rfl, d, _, rfl, DPut.k (k := Sum.inr wL) h3 (small1000 (by omega)), ?_⟩
            refine ⟨_, _, _, rfl, fun b o e => ?_, upd_same, by omega, ?_⟩
            · rw [upd_ne (ne_of_none e hd)]; exact s03 b o e
            · have := B.other e1 e2
              rw [hlen] at this
              rw [htk]; exact this
      · rintro σ H2 ⟨v2, v3, kvs, rfl, s2, h2, hl, B⟩
        rw [List.length_map, List.take_length] at B
        exact ⟨_, rfl, q d kvs H2 h2 hd B s2⟩
theorem ok_allowed {f : Addr} {fd : FuncData} (F : Fun K "allowed" "allowed" s_allowed f fd) (T : Txt K mg t_MOST_PLANNED C_KeepError C_NoPlan C_Task) (D_bases_behind : DefX P w K mg base "bases_behind" 1 ["choices"] (sp_bases K)) : FnOk P w K mg base (CXx P w) 2 f fd ["task", "choices"] (sp_allowed K C_Task) := by
  refine F.okX sc_allowed (fun vs H Q E h => ?_) (fun cdv A outer s H vs Q E hr h => ?_)
  · obtain ⟨p, c, tu, sizes, weights, rates, ws, rfl, hT, hc, hle, hsw, h7, q⟩ := h; rfl
  · obtain ⟨p, c, tu, sizes, weights, rates, ws, rfl, hT, hc, hle, hsw, h7, q⟩ := h
    refine ⟨_, (pss_cons (ps_set (i := 2) sc_allowed.nd rfl (Or.inl rfl) (pe_callB call_len_seq (by rfl) T.b_len PySem.boot_len (pa_cons (pv 1) pa_nil)))
      (pss_cons (ps_if (pt_cmpR op_ge (pv 2) (pe_callB call_len_seq (by rfl) T.b_len PySem.boot_len (pa_cons (pe_fld (pv 0) rfl) pa_nil)) (nomark _)) (pss_one (ps_ret (pe_lst pa_nil))) pss_nil)
      (pss_cons (ps_set (i := 3) sc_allowed.nd rfl (Or.inr rfl) (pe_callS D_bases_behind passesN (hr.mono (by decide)) rfl (pa_cons (pv 1) pa_nil)))
      (pss_cons (ps_set (i := 4) sc_allowed.nd rfl (Or.inl rfl) (pe_ifExp (pt_cmpR op_eq (pe_ix ix_tup (pe_fld (pv 0) rfl) (pv 2) (fun _ _ => rfl)) pe_int (nomark _)) (pe_lst (pa_cons pe_str pa_nil)) (pe_lst pa_nil)))
      (pss_one (ps_ret (pe_op op_cat (pv 4) (pe_comp (N := ["word", "bases"]) (k := 1) (cap := [3]) rfl rfl (pi_tup (pe_tup (pa_cons pe_str (pa_cons pe_str (pa_cons pe_str pa_nil))))) (fun _ _ _ _ => (pg_name (i := 0) (show (["word", "bases"] : List Str).Nodup from by decide +kernel) rfl (Or.inl rfl) (.inr rfl))) (fun _ _ _ _ => (pts_one (pt_cmp (pc_din (hu_of hr) (pv 0) (pv 1))))) (fun _ _ _ _ => (pv 0)))))))))), ?_⟩
    obtain ⟨dx, t1, t2, t3, TL, g1, g2, g3, g4, g5⟩ := id hT
    have TLl := g3.len
    refine ⟨_, rfl, c, _, rfl, hc.len, ?_⟩
    refine ⟨_, rfl, _, rfl, p, C_Task, dx, _, _, rfl, g1, T.cl_Task, T.n_Task_sizes, lk_sizes, t1, _, rfl, .inr (SqT.of g2), _, _, rfl, rfl, _, rfl, ?_⟩
    by_cases hd : ws.length = weights.length
    · refine iteY (by simp only [List.length_map]; omega) ?_
      exact ⟨Nat.zero_le _, fun l hl => q l _ (by rw [upd_same]; unfold nextWs; rw [List.getElem?_eq_none (by omega)]; rfl) hl (Same.new hl)⟩
    refine iteN (by simp only [List.length_map]; omega) ?_
    obtain ⟨wt, ewt⟩ : ∃ wt, weights[ws.length]? = some wt := ⟨_, List.getElem?_eq_getElem (by omega)⟩
    refine ⟨_, rfl, tu, c, ws, rfl, hc, by omega, fun d kvs H1 hd1 hdn B s1 => ?_⟩
    refine ⟨_, rfl, p, C_Task, dx, _, _, rfl, s1 _ _ g1, T.cl_Task, T.n_Task_weights, lk_weights, _, rfl, t2, _, _, V.int wt, rfl, rfl, SqT.of (s1 _ _ g4), (by rw [List.length_map]; exact atI_nat (by rw [List.getElem?_map, ewt]; rfl)), rfl, _, rfl, ?_⟩
    have en : nextWs weights ws = nextW wt ws := by unfold nextWs; rw [ewt]
    rw [en] at q
    by_cases h0 : wt = 0
    · refine iteY (by rw [h0]) ?_
      refine ⟨(by show 1 ≤ sizeLine; decide), fun m hm => ?_⟩
      have s2 : Same H1 (upd H1 m (.lst [V.str wN])) := Same.new hm
      have m2 : upd H1 m (.lst [V.str wN]) m = some (.lst ([wN].map V.str)) := upd_same
      generalize upd H1 m (.lst [V.str wN]) = H2 at s2 m2
      refine ⟨_, rfl, (by show 3 ≤ sizeLine; decide), fun tt htt => ⟨tt, rfl, ⟨_, SqT.of upd_same⟩, fun D hD => ?_⟩⟩
      have s3 : Same H2 (upd H2 tt (.tup [V.str wW, V.str wS, V.str wL])) := Same.new htt
      have t3 : upd H2 tt (.tup [V.str wW, V.str wS, V.str wL]) tt = some (.tup (([wW, wS, wL] : List PySem.Str).map V.str)) := upd_same
      generalize upd H2 tt (.tup [V.str wW, V.str wS, V.str wL]) = H3 at s3 t3 hD
      refine comp_tup D (K := K) (a := tt) (xs := ([wW, wS, wL] : List PySem.Str).map V.str) (fun i σ H5 ys => ∃ (v : Option V), σ = [v, some (.ref d)] ∧ Same H3 H5 ∧ H5 D = some (.lst ys) ∧ ys = ((([wW, wS, wL] : List PySem.Str).take i).filter fun w => (valV kvs (Sum.inr w)).isSome).map V.str) ⟨none, rfl, Same.new hD, upd_same, rfl⟩ (fun i σ H5 ys _ ⟨_, _, s5, _⟩ => SqT.of (s5 tt _ t3)) ?_ ?_
      · rintro i x σ H5 ys hi ⟨v, rfl, s5, hD5, hy⟩
        obtain ⟨w, hw, rfl⟩ := str_at hi
        have hfl : ((([wW, wS, wL] : List PySem.Str).take i).filter fun w => (valV kvs (Sum.inr w)).isSome).length ≤ 3 := Nat.le_trans (List.length_filter_le _ _) (by rw [List.length_take]; simp; omega)
        have d5 := s5 d _ (s3 d _ (s2 d _ hd1))
        cases hv : valV kvs (Sum.inr w) with
        | none =>
          refine ⟨_, rfl, _, rfl, d, none, rfl, hv ▸ DGet.k (k := Sum.inr w) d5, _, rfl, ?_⟩
          refine iteF ?_
          refine ⟨_, rfl, s5, hD5, ?_⟩
          rw [hy, List.take_add_one, hw, List.filter_append]
          simp [hv]
        | some u =>
          refine ⟨_, rfl, _, rfl, d, some u, rfl, hv ▸ DGet.k (k := Sum.inr w) d5, _, rfl, ?_⟩
          refine iteT ?_
          refine ⟨_, rfl, hD5, (by rw [hy, List.length_map]; exact small1000 (by omega)), _, rfl, fun b o e => ?_, upd_same, ?_⟩
          · rw [upd_ne (ne_of_none e hD)]; exact s5 b _ e
          · rw [hy, List.take_add_one, hw, List.filter_append]
            simp [hv]
      rintro σ H5 ys ⟨v, rfl, s5, hD5, hy⟩
      rw [show (([wW, wS, wL] : List PySem.Str).map V.str).length = 3 from rfl, show ([wW, wS, wL] : List PySem.Str).take 3 = [wW, wS, wL] from rfl, B.filter] at hy
      subst hy
      have m5 := s5 m _ (s3 m _ m2)
      have big : ∀ {n : Nat}, n ≤ 900 → n ≤ sizeLine := fun h => Nat.le_of_lt (small1000 (by omega))
      refine ⟨m, D, _, _, rfl, rfl, m5, hD5, big (by cases lastIx isW ws <;> cases lastIx isK ws <;> simp), fun l hl => ?_⟩
      have sA : Same H H5 := s1.trans (s2.trans (s3.trans s5))
      refine q l _ ?_ (sA.free hl) (sA.trans (Same.new hl))
      rw [upd_same, ← List.map_append]
      unfold nextW
      rw [if_pos h0]
      rfl
    · refine iteN (fun h => h0 (V.int.inj h)) ?_
      refine ⟨Nat.zero_le _, fun m hm => ?_⟩
      have s2 : Same H1 (upd H1 m (.lst [])) := Same.new hm
      have m2 : upd H1 m (.lst []) m = some (.lst (([] : List PySem.Str).map V.str)) := upd_same
      generalize upd H1 m (.lst []) = H2 at s2 m2
      refine ⟨_, rfl, (by show 3 ≤ sizeLine; decide), fun tt htt => ⟨tt, rfl, ⟨_, SqT.of upd_same⟩, fun D hD => ?_⟩⟩
      have s3 : Same H2 (upd H2 tt (.tup [V.str wW, V.str wS, V.str wL])) := Same.new htt
      have t3 : upd H2 tt (.tup [V.str wW, V.str wS, V.str wL]) tt = some (.tup (([wW, wS, wL] : List PySem.Str).map V.str)) := upd_same
      generalize upd H2 tt (.tup [V.str wW, V.str wS, V.str wL]) = H3 at s3 t3 hD
      refine comp_tup D (K := K) (a := tt) (xs := ([wW, wS, wL] : List PySem.Str).map V.str) (fun i σ H5 ys => ∃ (v : Option V), σ = [v, some (.ref d)] ∧ Same H3 H5 ∧ H5 D = some (.lst ys) ∧ ys = ((([wW, wS, wL] : List PySem.Str).take i).filter fun w => (valV kvs (Sum.inr w)).isSome).map V.str) ⟨none, rfl, Same.new hD, upd_same, rfl⟩ (fun i σ H5 ys _ ⟨_, _, s5, _⟩ => SqT.of (s5 tt _ t3)) ?_ ?_
      · rintro i x σ H5 ys hi ⟨v, rfl, s5, hD5, hy⟩
        obtain ⟨w, hw, rfl⟩ := str_at hi
        have hfl : ((([wW, wS, wL] : List PySem.Str).take i).filter fun w => (valV kvs (Sum.inr w)).isSome).length ≤ 3 := Nat.le_trans (List.length_filter_le _ _) (by rw [List.length_take]; simp; omega)
        have d5 := s5 d _ (s3 d _ (s2 d _ hd1))
        cases hv : valV kvs (Sum.inr w) with
        | none =>
          refine ⟨_, rfl, _, rfl, d, none, rfl, hv ▸ DGet.k (k := Sum.inr w) d5, _, rfl, ?_⟩
          refine iteF ?_
          refine ⟨_, rfl, s5, hD5, ?_⟩
          rw [hy, List.take_add_one, hw, List.filter_append]
          simp [hv]
        | some u =>
          refine ⟨_, rfl, _, rfl, d, some u, rfl, hv ▸ DGet.k (k := Sum.inr w) d5, _, rfl, ?_⟩
          refine iteT ?_
          refine ⟨_, rfl, hD5, (by rw [hy, List.length_map]; exact small1000 (by omega)), _, rfl, fun b o e => ?_, upd_same, ?_⟩
          · rw [upd_ne (ne_of_none e hD)]; exact s5 b _ e
          · rw [hy, List.take_add_one, hw, List.filter_append]
            simp [hv]
      rintro σ H5 ys ⟨v, rfl, s5, hD5, hy⟩
      rw [show (([wW, wS, wL] : List PySem.Str).map V.str).length = 3 from rfl, show ([wW, wS, wL] : List PySem.Str).take 3 = [wW, wS, wL] from rfl, B.filter] at hy
      subst hy
      have m5 := s5 m _ (s3 m _ m2)
      have big : ∀ {n : Nat}, n ≤ 900 → n ≤ sizeLine := fun h => Nat.le_of_lt (small1000 (by omega))
      refine ⟨m, D, _, _, rfl, rfl, m5, hD5, big (by cases lastIx isW ws <;> cases lastIx isK ws <;> simp), fun l hl => ?_⟩
      have sA : Same H H5 := s1.trans (s2.trans (s3.trans s5))
      refine q l _ ?_ (sA.free hl) (sA.trans (Same.new hl))
      rw [upd_same, ← List.map_append]
      unfold nextW
      rw [if_neg h0]
      rfl
theorem ok__law_next {f : Addr} {fd : FuncData} (F : Fun K "_law_next" "_law_next" s__law_next f fd) (T : Txt K mg t_MOST_PLANNED C_KeepError C_NoPlan C_Task)  : FnOk P w K mg base (CXx P w) 1 f fd ["_law_weights", "_law_choices"] (sp_next) := by
  refine F.okX sc__law_next (fun vs H Q E h => ?_) (fun cdv A outer s H vs Q E hr h => ?_)
  · obtain ⟨wa, c, weights, ws, rfl, hwa, hc, hle, h7, q⟩ := h; rfl
  · obtain ⟨wa, c, weights, ws, rfl, hwa, hc, hle, h7, q⟩ := h
    refine ⟨_, (pss_cons (ps_set (i := 2) sc__law_next.nd rfl (Or.inl rfl) (pe_callB call_len_seq (by rfl) T.b_len PySem.boot_len (pa_cons (pv 1) pa_nil)))
      (pss_cons (ps_if (pt_cmpR op_eq (pv 2) (pe_callB call_len_seq (by rfl) T.b_len PySem.boot_len (pa_cons (pv 0) pa_nil)) (nomark _)) (pss_one (ps_ret (pe_lst pa_nil))) pss_nil)
      (pss_cons (ps_set (i := 3) sc__law_next.nd rfl (Or.inl rfl) (pe_lst (pa_cons pe_str pa_nil)))
      (pss_cons (ps_if (pt_cmpR op_eq (pe_ix ix_list (pv 0) (pv 2) (fun _ _ => rfl)) pe_int (nomark _)) (pss_one (ps_set (i := 3) sc__law_next.nd rfl (Or.inl rfl) (pe_lst (pa_cons pe_str (pa_cons pe_str pa_nil))))) pss_nil)
      (pss_cons (ps_if (pt_cmpR op_in_seq pe_str (pv 1) (by with_unfolding_all rfl)) (pss_one (ps_expr (pe_bm PySem.F.plainAttrs_list PySem.F.slot_list_append PySem.F.type_list_append mt_append (pv 3) (pa_cons pe_str pa_nil)))) pss_nil)
      (pss_cons (ps_if (pt_cmpR op_gt (pe_callB call_len_seq (by rfl) T.b_len PySem.boot_len (pa_cons (pe_comp (N := ["_law_word"]) (k := 1) (cap := []) rfl rfl (pi_tup (pv 1)) (fun _ _ _ _ => (pg_name (i := 0) (show (["_law_word"] : List Str).Nodup from by decide +kernel) rfl (Or.inl rfl) (.inr rfl))) (fun _ _ _ _ => (pts_one (pt_cmpR op_ne (pv 0) pe_str (nomark _)))) (fun _ _ _ _ => (pv 0))) pa_nil)) pe_int (nomark _)) (pss_one (ps_expr (pe_bm PySem.F.plainAttrs_list PySem.F.slot_list_append PySem.F.type_list_append mt_append (pv 3) (pa_cons pe_str pa_nil)))) pss_nil)
      (pss_one (ps_ret (pv 3))))))))), ?_⟩
    refine ⟨_, rfl, c, _, rfl, .inr (SqT.of hc), ?_⟩
    refine ⟨_, rfl, _, rfl, wa, _, rfl, .inl (SqL.of hwa), rfl, _, rfl, ?_⟩
    by_cases hd : ws.length = weights.length
    · refine iteY (by rw [List.length_map, List.length_map, hd]) ?_
      exact ⟨Nat.zero_le _, fun l hl => q l _ (by rw [upd_same]; unfold nextWs; rw [List.getElem?_eq_none (by omega)]; rfl) hl (Same.new hl)⟩
    refine iteN (fun h => hd (by have := V.int.inj h; rw [List.length_map, List.length_map] at this; omega)) ?_
    obtain ⟨wt, ewt⟩ : ∃ wt, weights[ws.length]? = some wt := ⟨_, List.getElem?_eq_getElem (by omega)⟩
    have en : nextWs weights ws = nextW wt ws := by unfold nextWs; rw [ewt]
    rw [en] at q
    refine ⟨(by show 1 ≤ sizeLine; decide), fun l0 hl0 => ?_⟩
    have s1 : Same H (upd H l0 (.lst [V.str wW])) := Same.new hl0
    have h1 : upd H l0 (.lst [V.str wW]) l0 = some (.lst (([wW] : List PySem.Str).map V.str)) := upd_same
    generalize upd H l0 (.lst [V.str wW]) = H1 at s1 h1
    refine ⟨_, rfl, _, rfl, wa, _, _, V.int wt, rfl, rfl, SqL.of (s1 wa _ hwa), (by rw [List.length_map]; exact atI_nat (by rw [List.getElem?_map, ewt]; rfl)), rfl, _, rfl, ?_⟩
    by_cases h0 : wt = 0
    · refine iteY (by rw [h0]) ?_
      refine ⟨(by show 2 ≤ sizeLine; decide), fun l hl => ?_⟩
      have hln := s1.free hl
      have s2 : Same H (upd H1 l (.lst [V.str wN, V.str wW])) := s1.trans (Same.new hl)
      have h2 : upd H1 l (.lst [V.str wN, V.str wW]) l = some (.lst (([wN, wW] : List PySem.Str).map V.str)) := upd_same
      generalize upd H1 l (.lst [V.str wN, V.str wW]) = H2 at s2 h2
      refine ⟨_, rfl, c, _, rfl, .inr (SqT.of (s2 c _ hc)), rfl, flat_strs ws, _, rfl, ?_⟩
      rw [show (if false = true then !inV (V.str wW) (ws.map V.str) else inV (V.str wW) (ws.map V.str)) = inV (V.str wW) (ws.map V.str) from rfl, inV_whole]
      by_cases hW : lastIx isW ws = none
      · refine iteNS hW ?_
        obtain ⟨H3, e3⟩ : ∃ H3, H3 = H2 := ⟨_, rfl⟩
        subst e3
        have s3 := s2
        have h3 := h2
        have hc3 := s3 c _ hc
        refine ⟨_, rfl, c, rfl, ⟨_, SqT.of hc3⟩, fun D hD => ?_⟩
        refine comp_tup D (K := K) (a := c) (xs := ws.map V.str) (fun i σ H5 ys => ∃ (v : Option V), σ = [v] ∧ Same H3 H5 ∧ H5 D = some (.lst ys) ∧ ys = ((ws.take i).filter isK).map V.str) ⟨none, rfl, Same.new hD, upd_same, rfl⟩ (fun i σ H5 ys _ ⟨_, _, s5, _⟩ => SqT.of (s5 c _ hc3)) ?_ ?_
        · rintro i x σ H5 ys hi ⟨v, rfl, s5, hD5, hy⟩
          obtain ⟨w, hw, rfl⟩ := str_at hi
          have hfl : ((ws.take i).filter isK).length ≤ 7 := Nat.le_trans (List.length_filter_le _ _) (by rw [List.length_take]; omega)
          refine ⟨_, rfl, rfl, _, rfl, ?_⟩
          by_cases e : w = wN
          · refine iteNS (by rw [e]) ?_
            have a2 : isK w = false := by unfold isK; rw [e]; decide +kernel
            refine ⟨_, rfl, s5, hD5, ?_⟩
            rw [hy, List.take_add_one, hw, List.filter_append]
            simp [a2]
          · refine iteNN (fun h => e (V.str.inj h)) ?_
            have a2 : isK w = true := decide_eq_true e
            refine ⟨_, rfl, hD5, (by rw [hy, List.length_map]; exact small1000 (by omega)), _, rfl, fun b o e => ?_, upd_same, ?_⟩
            · rw [upd_ne (ne_of_none e hD)]; exact s5 b _ e
            · rw [hy, List.take_add_one, hw, List.filter_append]
              simp [a2]
        rintro σ H5 ys ⟨v, rfl, s5, hD5, hy⟩
        rw [List.length_map, List.take_length] at hy
        refine ⟨D, _, rfl, .inl (SqL.of hD5), _, _, rfl, rfl, _, rfl, ?_⟩
        have l5 := s5 l _ h3
        have s05 := s3.trans s5
        by_cases hK : lastIx isK ws = none
        · refine iteN (by rw [hy, filterK_nil hK]; simp) ?_
          refine ⟨_, rfl, q l _ ?_ hln s05⟩
          rw [l5]
          unfold nextW
          rw [if_pos h0, if_pos hW, if_pos hK]
          rfl
        · refine iteY (by rw [hy, List.length_map]; have := filterK_pos hK; omega) ?_
          refine ⟨_, rfl, .inl ⟨rfl, _, SqL.of l5⟩, l, _, _, rfl, rfl, l5, (by exact small1000 (by simp)), ?_⟩
          refine ⟨_, rfl, q l _ ?_ hln (fun b o e => by rw [upd_ne (ne_of_none e hln)]; exact s05 b o e)⟩
          rw [upd_same]
          unfold nextW
          rw [if_pos h0, if_pos hW, if_neg hK]
          rfl
      · refine iteNN hW ?_
        refine ⟨_, rfl, .inl ⟨rfl, _, SqL.of h2⟩, l, _, _, rfl, rfl, h2, (by exact small1000 (by simp)), ?_⟩
        have s3 : Same H (upd H2 l (.lst (([wN, wW] : List PySem.Str).map V.str ++ [V.str wS]))) := fun b o e => by rw [upd_ne (ne_of_none e hln)]; exact s2 b o e
        have h3 : upd H2 l (.lst (([wN, wW] : List PySem.Str).map V.str ++ [V.str wS])) l = some (.lst ((([wN, wW] : List PySem.Str) ++ [wS]).map V.str)) := upd_same
        generalize upd H2 l (.lst (([wN, wW] : List PySem.Str).map V.str ++ [V.str wS])) = H3 at s3 h3
        have hc3 := s3 c _ hc
        refine ⟨_, rfl, c, rfl, ⟨_, SqT.of hc3⟩, fun D hD => ?_⟩
        refine comp_tup D (K := K) (a := c) (xs := ws.map V.str) (fun i σ H5 ys => ∃ (v : Option V), σ = [v] ∧ Same H3 H5 ∧ H5 D = some (.lst ys) ∧ ys = ((ws.take i).filter isK).map V.str) ⟨none, rfl, Same.new hD, upd_same, rfl⟩ (fun i σ H5 ys _ ⟨_, _, s5, _⟩ => SqT.of (s5 c _ hc3)) ?_ ?_
        · rintro i x σ H5 ys hi ⟨v, rfl, s5, hD5, hy⟩
          obtain ⟨w, hw, rfl⟩ := str_at hi
          have hfl : ((ws.take i).filter isK).length ≤ 7 := Nat.le_trans (List.length_filter_le _ _) (by rw [List.length_take]; omega)
          refine ⟨_, rfl, rfl, _, rfl, ?_⟩
          by_cases e : w = wN
          · refine iteNS (by rw [e]) ?_
            have a2 : isK w = false := by unfold isK; rw [e]; decide +kernel
            refine ⟨_, rfl, s5, hD5, ?_⟩
            rw [hy, List.take_add_one, hw, List.filter_append]
            simp [a2]
          · refine iteNN (fun h => e (V.str.inj h)) ?_
            have a2 : isK w = true := decide_eq_true e
            refine ⟨_, rfl, hD5, (by rw [hy, List.length_map]; exact small1000 (by omega)), _, rfl, fun b o e => ?_, upd_same, ?_⟩
            · rw [upd_ne (ne_of_none e hD)]; exact s5 b _ e
            · rw [hy, List.take_add_one, hw, List.filter_append]
              simp [a2]
        rintro σ H5 ys ⟨v, rfl, s5, hD5, hy⟩
        rw [List.length_map, List.take_length] at hy
        refine ⟨D, _, rfl, .inl (SqL.of hD5), _, _, rfl, rfl, _, rfl, ?_⟩
        have l5 := s5 l _ h3
        have s05 := s3.trans s5
        by_cases hK : lastIx isK ws = none
        · refine iteN (by rw [hy, filterK_nil hK]; simp) ?_
          refine ⟨_, rfl, q l _ ?_ hln s05⟩
          rw [l5]
          unfold nextW
          rw [if_pos h0, if_neg hW, if_pos hK]
          rfl
        · refine iteY (by rw [hy, List.length_map]; have := filterK_pos hK; omega) ?_
          refine ⟨_, rfl, .inl ⟨rfl, _, SqL.of l5⟩, l, _, _, rfl, rfl, l5, (by exact small1000 (by simp)), ?_⟩
          refine ⟨_, rfl, q l _ ?_ hln (fun b o e => by rw [upd_ne (ne_of_none e hln)]; exact s05 b o e)⟩
          rw [upd_same]
          unfold nextW
          rw [if_pos h0, if_neg hW, if_neg hK]
          rfl
    · refine iteN (fun h => h0 (V.int.inj h)) ?_
      have hln := hl0
      have s2 := s1
      have h2 := h1
      generalize l0 = l at *
      generalize H1 = H2 at *
      refine ⟨_, rfl, c, _, rfl, .inr (SqT.of (s2 c _ hc)), rfl, flat_strs ws, _, rfl, ?_⟩
      rw [show (if false = true then !inV (V.str wW) (ws.map V.str) else inV (V.str wW) (ws.map V.str)) = inV (V.str wW) (ws.map V.str) from rfl, inV_whole]
      by_cases hW : lastIx isW ws = none
      · refine iteNS hW ?_
        obtain ⟨H3, e3⟩ : ∃ H3, H3 = H2 := ⟨_, rfl⟩
        subst e3
        have s3 := s2
        have h3 := h2
        have hc3 := s3 c _ hc
        refine ⟨_, rfl, c, rfl, ⟨_, SqT.of hc3⟩, fun D hD => ?_⟩
        refine comp_tup D (K := K) (a := c) (xs := ws.map V.str) (fun i σ H5 ys => ∃ (v : Option V), σ = [v] ∧ Same H3 H5 ∧ H5 D = some (.lst ys) ∧ ys = ((ws.take i).filter isK).map V.str) ⟨none, rfl, Same.new hD, upd_same, rfl⟩ (fun i σ H5 ys _ ⟨_, _, s5, _⟩ => SqT.of (s5 c _ hc3)) ?_ ?_
        · rintro i x σ H5 ys hi ⟨v, rfl, s5, hD5, hy⟩
          obtain ⟨w, hw, rfl⟩ := str_at hi
          have hfl : ((ws.take i).filter isK).length ≤ 7 := Nat.le_trans (List.length_filter_le _ _) (by rw [List.length_take]; omega)
          refine ⟨_, rfl, rfl, _, rfl, ?_⟩
          by_cases e : w = wN
          · refine iteNS (by rw [e]) ?_
            have a2 : isK w = false := by unfold isK; rw [e]; decide +kernel
            refine ⟨_, rfl, s5, hD5, ?_⟩
            rw [hy, List.take_add_one, hw, List.filter_append]
            simp [a2]
          · refine iteNN (fun h => e (V.str.inj h)) ?_
            have a2 : isK w = true := decide_eq_true e
            refine ⟨_, rfl, hD5, (by rw [hy, List.length_map]; exact small1000 (by omega)), _, rfl, fun b o e => ?_, upd_same, ?_⟩
            · rw [upd_ne (ne_of_none e hD)]; exact s5 b _ e
            · rw [hy, List.take_add_one, hw, List.filter_append]
              simp [a2]
        rintro σ H5 ys ⟨v, rfl, s5, hD5, hy⟩
        rw [List.length_map, List.take_length] at hy
        refine ⟨D, _, rfl, .inl (SqL.of hD5), _, _, rfl, rfl, _, rfl, ?_⟩
        have l5 := s5 l _ h3
        have s05 := s3.trans s5
        by_cases hK : lastIx isK ws = none
        · refine iteN (by rw [hy, filterK_nil hK]; simp) ?_
          refine ⟨_, rfl, q l _ ?_ hln s05⟩
          rw [l5]
          unfold nextW
          rw [if_neg h0, if_pos hW, if_pos hK]
          rfl
        · refine iteY (by rw [hy, List.length_map]; have := filterK_pos hK; omega) ?_
          refine ⟨_, rfl, .inl ⟨rfl, _, SqL.of l5⟩, l, _, _, rfl, rfl, l5, (by exact small1000 (by simp)), ?_⟩
          refine ⟨_, rfl, q l _ ?_ hln (fun b o e => by rw [upd_ne (ne_of_none e hln)]; exact s05 b o e)⟩
          rw [upd_same]
          unfold nextW
          rw [if_neg h0, if_pos hW, if_neg hK]
          rfl
      · refine iteNN hW ?_
        refine ⟨_, rfl, .inl ⟨rfl, _, SqL.of h2⟩, l, _, _, rfl, rfl, h2, (by exact small1000 (by simp)), ?_⟩
        have s3 : Same H (upd H2 l (.lst (([wW] : List PySem.Str).map V.str ++ [V.str wS]))) := fun b o e => by rw [upd_ne (ne_of_none e hln)]; exact s2 b o e
        have h3 : upd H2 l (.lst (([wW] : List PySem.Str).map V.str ++ [V.str wS])) l = some (.lst ((([wW] : List PySem.Str) ++ [wS]).map V.str)) := upd_same
        generalize upd H2 l (.lst (([wW] : List PySem.Str).map V.str ++ [V.str wS])) = H3 at s3 h3
        have hc3 := s3 c _ hc
        refine ⟨_, rfl, c, rfl, ⟨_, SqT.of hc3⟩, fun D hD => ?_⟩
        refine comp_tup D (K := K) (a := c) (xs := ws.map V.str) (fun i σ H5 ys => ∃ (v : Option V), σ = [v] ∧ Same H3 H5 ∧ H5 D = some (.lst ys) ∧ ys = ((ws.take i).filter isK).map V.str) ⟨none, rfl, Same.new hD, upd_same, rfl⟩ (fun i σ H5 ys _ ⟨_, _, s5, _⟩ => SqT.of (s5 c _ hc3)) ?_ ?_
        · rintro i x σ H5 ys hi ⟨v, rfl, s5, hD5, hy⟩
          obtain ⟨w, hw, rfl⟩ := str_at hi
          have hfl : ((ws.take i).filter isK).length ≤ 7 := Nat.le_trans (List.length_filter_le _ _) (by rw [List.length_take]; omega)
          refine ⟨_, rfl, rfl, _, rfl, ?_⟩
          by_cases e : w = wN
          · refine iteNS (by rw [e]) ?_
            have a2 : isK w = false := by unfold isK; rw [e]; decide +kernel
            refine ⟨_, rfl, s5, hD5, ?_⟩
            rw [hy, List.take_add_one, hw, List.filter_append]
            simp [a2]
          · refine iteNN (fun h => e (V.str.inj h)) ?_
            have a2 : isK w = true := decide_eq_true e
            refine ⟨_, rfl, hD5, (by rw [hy, List.length_map]; exact small1000 (by omega)), _, rfl, fun b o e => ?_, upd_same, ?_⟩
            · rw [upd_ne (ne_of_none e hD)]; exact s5 b _ e
            · rw [hy, List.take_add_one, hw, List.filter_append]
              simp [a2]
        rintro σ H5 ys ⟨v, rfl, s5, hD5, hy⟩
        rw [List.length_map, List.take_length] at hy
        refine ⟨D, _, rfl, .inl (SqL.of hD5), _, _, rfl, rfl, _, rfl, ?_⟩
        have l5 := s5 l _ h3
        have s05 := s3.trans s5
        by_cases hK : lastIx isK ws = none
        · refine iteN (by rw [hy, filterK_nil hK]; simp) ?_
          refine ⟨_, rfl, q l _ ?_ hln s05⟩
          rw [l5]
          unfold nextW
          rw [if_neg h0, if_neg hW, if_pos hK]
          rfl
        · refine iteY (by rw [hy, List.length_map]; have := filterK_pos hK; omega) ?_
          refine ⟨_, rfl, .inl ⟨rfl, _, SqL.of l5⟩, l, _, _, rfl, rfl, l5, (by exact small1000 (by simp)), ?_⟩
          refine ⟨_, rfl, q l _ ?_ hln (fun b o e => by rw [upd_ne (ne_of_none e hln)]; exact s05 b o e)⟩
          rw [upd_same]
          unfold nextW
          rw [if_neg h0, if_neg hW, if_neg hK]
          rfl
theorem ok__law_drawn {f : Addr} {fd : FuncData} (F : Fun K "_law_drawn" "_law_drawn" s__law_drawn f fd) (T : Txt K mg t_MOST_PLANNED C_KeepError C_NoPlan C_Task)  : FnOk P w K mg base (CXx P w) 1 f fd ["_law_cell", "_law_many"] (sp_drawn) := by
  refine F.okX sc__law_drawn (fun vs H Q E h => ?_) (fun cdv A outer s H vs Q E hr h => ?_)
  · obtain ⟨c, m, rfl, hm, q⟩ := h; rfl
  · obtain ⟨c, m, rfl, hm, q⟩ := h
    refine ⟨_, (pss_cons (ps_set (i := 2) sc__law_drawn.nd rfl (Or.inl rfl) (pe_lst pa_nil))
      (pss_cons (ps_set (i := 3) sc__law_drawn.nd rfl (Or.inl rfl) (pe_op op_add (pe_op op_mod (pv 0) pe_int) pe_int))
      (pss_cons (ps_for PassesOwn.leaving rfl (pi_range1 rfl T.b_range (pa_cons (pv 1) pa_nil)) (pg_name (i := 4) sc__law_drawn.nd rfl (Or.inl rfl))
      (pss_cons (ps_set (i := 3) sc__law_drawn.nd rfl (Or.inl rfl) (pe_op op_mod (pe_op op_add (pe_op op_add (pe_op op_mul (pv 3) (pv 3)) (pe_op op_mul pe_int (pv 3))) (pv 4)) pe_int))
      (pss_one (ps_expr (pe_bm PySem.F.plainAttrs_list PySem.F.slot_list_append PySem.F.type_list_append mt_append (pv 2) (pa_cons (pv 3) pa_nil))))))
      (pss_one (ps_ret (pv 2)))))), ?_⟩
    refine ⟨Nat.zero_le _, fun l hl => ?_⟩
    refine ⟨_, rfl, _, _, rfl, rfl, (by first | decide | (dsimp only; decide)), _, _, rfl, rfl, ?_⟩
    refine ⟨_, rfl, _, rfl, by omega, by omega, for_range (lo := 0) (n := (m : Int).toNat) (fun i σ H2 => ∃ (num : Int) (v4 : Option V) (xs : List Int), σ = [some (.int c), some (.int (m : Int)), some (.ref l), some (.int num), v4] ∧ Same H H2 ∧ H2 l = some (.lst (xs.map V.int)) ∧ xs.length = i ∧ (∀ x ∈ xs, 0 ≤ x ∧ x < 2147483647) ∧ 0 ≤ num ∧ num < 2147531918)
      ⟨c % 2147483647 + 48271, none, [], rfl, Same.new hl, upd_same, rfl, by simp, by omega, by omega⟩ ?_ ?_⟩
    · rintro i σ H2 hi ⟨num, v4, xs, rfl, s2, h2, hlx, hx, n0, n1⟩
      refine ⟨_, rfl, _, rfl, _, _, rfl, rfl, .inl ⟨by omega, by omega⟩, _, rfl, _, _, rfl, rfl, .inl ⟨by decide, by decide⟩, _, _, rfl, rfl, _, rfl, _, _, rfl, rfl, _, _, rfl, rfl, (by first | decide | (dsimp only; decide)), ?_⟩
      refine ⟨_, rfl, .inl ⟨rfl, _, SqL.of h2⟩, _, rfl, l, _, _, rfl, rfl, h2, (by rw [List.length_map]; exact small1000 (by omega)), ?_⟩
      have b0 := Int.emod_nonneg (num * num + 48271 * num + (0 + (i : Int))) (show (2147483647 : Int) ≠ 0 by decide)
      have b1 := Int.emod_lt_of_pos (num * num + 48271 * num + (0 + (i : Int))) (show (0 : Int) < 2147483647 by decide)
      refine ⟨_, _, xs ++ [(num * num + 48271 * num + (0 + (i : Int))) % 2147483647], rfl, fun b o e => ?_, by rw [upd_same]; simp, by simp [hlx], ?_, b0, by omega⟩
      · rw [upd_ne (ne_of_none e hl)]; exact s2 b _ e
      · intro x hx'
        rcases List.mem_append.mp hx' with h | h
        · exact hx x h
        · have : x = (num * num + 48271 * num + (0 + (i : Int))) % 2147483647 := by simpa using h
          rw [this]; exact ⟨b0, b1⟩
    · rintro σ H2 ⟨num, v4, xs, rfl, s2, h2, hlx, hx, n0, n1⟩
      exact ⟨_, rfl, q l xs H2 h2 hl (by omega) hx s2⟩
theorem ok__law_scale {f : Addr} {fd : FuncData} (F : Fun K "_law_scale" "_law_scale" s__law_scale f fd) (T : Txt K mg t_MOST_PLANNED C_KeepError C_NoPlan C_Task)  : FnOk P w K mg base (CXx P w) 1 f fd ["_law_number", "_law_other", "_law_way"] (sp_scale) := by
  refine F.okX sc__law_scale (fun vs H Q E h => ?_) (fun cdv A outer s H vs Q E hr h => ?_)
  · obtain ⟨a, b, w, rfl, a0, a1, q⟩ := h; rfl
  · obtain ⟨a, b, w, rfl, a0, a1, q⟩ := h
    refine ⟨_, (pss_cons (ps_if (pt_cmpR op_eq (pv 2) pe_int (nomark _)) (pss_one (ps_ret (pe_op op_mod (pv 0) pe_int))) pss_nil)
      (pss_cons (ps_if (pt_cmpR op_eq (pv 2) pe_int (nomark _)) (pss_one (ps_ret (pe_op op_mod (pv 0) pe_int))) pss_nil)
      (pss_one (ps_ret (pe_op op_mod (pe_op op_add (pe_op op_mul (pv 0) pe_int) (pv 1)) (pe_op op_add (pe_powc (n := 1000000000000)) pe_int)))))), ?_⟩
    refine ⟨_, rfl, rfl, _, rfl, ?_⟩
    refine ite2 (fun _ => ?_) (fun _ => ?_)
    · exact ⟨_, rfl, _, _, rfl, rfl, (by first | decide | (dsimp only; decide)), q _ (by omega) (by omega)⟩
    refine ⟨_, rfl, rfl, _, rfl, ?_⟩
    refine ite2 (fun _ => ?_) (fun _ => ?_)
    · exact ⟨_, rfl, _, _, rfl, rfl, (by first | decide | (dsimp only; decide)), q _ (by omega) (by omega)⟩
    refine ⟨_, rfl, _, _, rfl, rfl, .inl ⟨by omega, by omega⟩, _, rfl, _, _, rfl, rfl, _, _, rfl, rfl, _, _, rfl, rfl, (by first | decide | (dsimp only; decide)), ?_⟩
    have b0 := Int.emod_nonneg (a * 2147483647 + b) (show (1000000000000 + 1 : Int) ≠ 0 by decide)
    have b1 := Int.emod_lt_of_pos (a * 2147483647 + b) (show (0 : Int) < 1000000000000 + 1 by decide)
    exact q _ b0 (by omega)
theorem ok__law_summed {f : Addr} {fd : FuncData} (F : Fun K "_law_summed" "_law_summed" s__law_summed f fd) (T : Txt K mg t_MOST_PLANNED C_KeepError C_NoPlan C_Task)  : FnOk P w K mg base (CXx P w) 1 f fd ["_law_script", "_law_day", "_law_many"] (sp_summed K) := by
  refine F.okX sc__law_summed (fun vs H Q E h => ?_) (fun cdv A outer s H vs Q E hr h => ?_)
  · obtain ⟨a, ns, d, m, rfl, hS, hlen, hm, q⟩ := h; rfl
  · obtain ⟨a, ns, d, m, rfl, hS, hlen, hm, q⟩ := h
    refine ⟨_, (pss_cons (ps_set (i := 3) sc__law_summed.nd rfl (Or.inl rfl) (pv 1))
      (pss_cons (ps_for PassesOwn.leaving rfl (pi_range2 rfl T.b_range (pa_cons pe_int (pa_cons (pe_callB call_len_seq (by rfl) T.b_len PySem.boot_len (pa_cons (pv 0) pa_nil)) pa_nil))) (pg_name (i := 4) sc__law_summed.nd rfl (Or.inl rfl))
      (pss_one (ps_if (pt_cmpR op_eq (pe_op op_mod (pv 4) (pv 2)) (pv 1) (nomark _)) (pss_one (ps_set (i := 3) sc__law_summed.nd rfl (Or.inl rfl) (pe_op op_add (pv 3) (pe_ix ix_list (pv 0) (pv 4) (fun _ _ => rfl))))) pss_nil)))
      (pss_one (ps_ret (pv 3))))), ?_⟩
    refine ⟨_, rfl, ?_⟩
    refine ⟨_, rfl, a, _, rfl, .inl hS, _, _, rfl, (by rw [List.length_map]; omega), for_range (lo := 1) (n := (((ns.map V.int).length : Int) - 1).toNat) (fun i σ H2 => ∃ (t : Int) (v4 : Option V), σ = [some (.ref a), some (.int (d : Int)), some (.int (m : Int)), some (.int t), v4] ∧ H2 = H) ⟨_, none, rfl, rfl⟩ ?_ ?_⟩
    · rintro i σ H2 hi ⟨t, v4, rfl, rfl⟩
      rw [List.length_map] at hi
      refine ⟨_, rfl, _, rfl, _, _, rfl, rfl, (by show (0 : Int) < (m : Int); omega), _, rfl, rfl, _, rfl, ?_⟩
      refine ite2 (fun _ => ?_) (fun _ => ?_)
      · obtain ⟨x, ex, _⟩ := at_in (xs := ns) (k := 1 + (i : Int)) (by omega) (by omega)
        refine ⟨_, rfl, _, rfl, _, rfl, a, _, _, V.int x, rfl, rfl, hS, ex, _, _, rfl, rfl, ?_⟩
        exact ⟨_, _, rfl, rfl⟩
      · exact ⟨_, _, rfl, rfl⟩
    · rintro σ H2 ⟨t, v4, rfl, rfl⟩
      exact ⟨_, rfl, q t⟩
theorem ok__law_plain {f : Addr} {fd : FuncData} (F : Fun K "_law_plain" "_law_plain" s__law_plain f fd) (T : Txt K mg t_MOST_PLANNED C_KeepError C_NoPlan C_Task) (D__law_drawn : DefX P w K mg base "_law_drawn" 1 ["_law_cell", "_law_many"] sp_drawn) (D__law_cell_at : DefX P w K mg base "_law_cell_at" 1 ["_law_script", "_law_k"] (sp_cell K)) (D__law_summed : DefX P w K mg base "_law_summed" 1 ["_law_script", "_law_day", "_law_many"] (sp_summed K)) (D__law_scale : DefX P w K mg base "_law_scale" 1 ["_law_number", "_law_other", "_law_way"] sp_scale) : FnOk P w K mg base (CXx P w) 2 f fd ["_law_script", "_law_most"] (sp_plain K) := by
  refine F.okX sc__law_plain (fun vs H Q E h => ?_) (fun cdv A outer s H vs Q E hr h => ?_)
  · obtain ⟨a, ns, m, rfl, hS, hlen, m4, m7, q⟩ := h; rfl
  · obtain ⟨a, ns, m, rfl, hS, hlen, m4, m7, q⟩ := h
    refine ⟨_, (pss_cons (ps_set (i := 2) sc__law_plain.nd rfl (Or.inr rfl) (pe_callS D__law_drawn passesN (hr.mono (by decide)) rfl (pa_cons (pe_callS D__law_cell_at passesN (hr.mono (by decide)) rfl (pa_cons (pv 0) (pa_cons pe_int pa_nil))) (pa_cons pe_int pa_nil))))
      (pss_cons (ps_set (i := 3) sc__law_plain.nd rfl (Or.inl rfl) (pe_op op_add pe_int (pe_op op_mod (pe_ix ix_list (pv 2) pe_int (fun _ _ => rfl)) (pe_callB (call_min2 rfl) (by rfl) T.b_min PyProof.Rows.boot_min (pa_cons (pv 1) (pa_cons pe_int pa_nil))))))
      (pss_cons (ps_if (pt_cmpR op_eq (pe_op op_mod (pe_ix ix_list (pv 2) pe_int (fun _ _ => rfl)) pe_int) pe_int (nomark _)) (pss_one (ps_set (i := 3) sc__law_plain.nd rfl (Or.inl rfl) (pe_op op_add pe_int (pe_op op_mod (pe_ix ix_list (pv 2) pe_int (fun _ _ => rfl)) (pv 1))))) pss_nil)
      (pss_cons (ps_set (i := 4) sc__law_plain.nd rfl (Or.inr rfl) (pe_op op_mod (pe_op op_fdivB (pe_ix ix_list (pv 2) pe_int (fun _ _ => rfl)) pe_int) pe_int))
      (pss_cons (ps_set (i := 5) sc__law_plain.nd rfl (Or.inl rfl) (pe_lst pa_nil))
      (pss_cons (ps_set (i := 6) sc__law_plain.nd rfl (Or.inl rfl) (pe_lst pa_nil))
      (pss_cons (ps_for PassesOwn.leaving rfl (pi_range1 rfl T.b_range (pa_cons (pv 3) pa_nil)) (pg_name (i := 7) sc__law_plain.nd rfl (Or.inl rfl))
      (pss_cons (ps_set (i := 8) sc__law_plain.nd rfl (Or.inr rfl) (pe_callS D__law_drawn passesN (hr.mono (by decide)) rfl (pa_cons (pe_callS D__law_summed passesN (hr.mono (by decide)) rfl (pa_cons (pv 0) (pa_cons (pv 7) (pa_cons (pv 3) pa_nil)))) (pa_cons (pe_op op_add (pv 7) pe_int) pa_nil))))
      (pss_cons (ps_expr (pe_bm PySem.F.plainAttrs_list PySem.F.slot_list_append PySem.F.type_list_append mt_append (pv 5) (pa_cons (pe_comp (N := ["_law_k", "_law_way", "_law_xs"]) (k := 1) (cap := [4, 8]) rfl rfl (pi_range1 rfl T.b_range (pa_cons (pe_op op_add (pv 7) pe_int) pa_nil)) (fun _ _ _ _ => (pg_name (i := 0) (show (["_law_k", "_law_way", "_law_xs"] : List Str).Nodup from by decide +kernel) rfl (Or.inl rfl) (.inr rfl))) (fun _ _ _ _ => pts_nil) (fun _ _ _ _ => (pe_callS D__law_scale passesN (hr.mono (by decide)) rfl (pa_cons (pe_ix (ix_listK (K := K) rfl) (pv 2) (pv 0) (fun _ _ => rfl)) (pa_cons (pe_ix (ix_listK (K := K) rfl) (pv 2) (pe_op op_add (pv 0) pe_int) (fun _ _ => rfl)) (pa_cons (pv 1) pa_nil)))))) pa_nil)))
      (pss_cons (ps_expr (pe_bm PySem.F.plainAttrs_list PySem.F.slot_list_append PySem.F.type_list_append mt_append (pv 6) (pa_cons (pe_callS D__law_scale passesN (hr.mono (by decide)) rfl (pa_cons (pe_ix ix_list (pv 8) (pe_op op_add (pv 7) pe_int) (fun _ _ => rfl)) (pa_cons (pe_ix ix_list (pv 8) (pe_op op_add (pv 7) pe_int) (fun _ _ => rfl)) (pa_cons (pe_op op_mod (pe_ix ix_list (pv 2) pe_int (fun _ _ => rfl)) pe_int) pa_nil)))) pa_nil)))
      (pss_one (ps_if (pt_cmpR op_eq (pe_op op_mod (pe_ix ix_list (pv 8) (pe_op op_add (pv 7) pe_int) (fun _ _ => rfl)) pe_int) pe_int (nomark _)) (pss_one (ps_asg pe_int (pg_sub (pv 6) (pv 7) set_list))) pss_nil))))))
      (pss_cons (ps_setComp (i := 9) sc__law_plain.nd rfl (Or.inl rfl) (N := ["_law_k", "_law_head"]) (k := 1) (cap := [2]) rfl rfl (pi_range2 rfl T.b_range (pa_cons pe_int (pa_cons pe_int pa_nil))) (fun _ _ _ _ => (pg_name (i := 0) (show (["_law_k", "_law_head"] : List Str).Nodup from by decide +kernel) rfl (Or.inl rfl) (.inr rfl))) (fun _ _ _ _ => pts_nil) (fun _ _ _ _ => (pe_callS D__law_scale passesN (hr.mono (by decide)) rfl (pa_cons (pe_ix (ix_listK (K := K) rfl) (pv 1) (pv 0) (fun _ _ => rfl)) (pa_cons (pe_ix (ix_listK (K := K) rfl) (pv 1) (pe_op op_add (pv 0) pe_int) (fun _ _ => rfl)) (pa_cons (pe_op op_mod (pe_op op_fdivB (pe_ix (ix_listK (K := K) rfl) (pv 1) pe_int (fun _ _ => rfl)) (pe_op op_add (pv 0) pe_int)) pe_int) pa_nil))))))
      (pss_one (ps_ret (pe_tup (pa_cons (pv 5) (pa_cons (pv 6) (pa_cons (pv 9) pa_nil)))))))))))))), ?_⟩
    refine ⟨_, rfl, a, ns, 0, rfl, hS, _, 9, rfl, by omega, fun hd hs H1 h1 hn1 hls hx s1 => ?_⟩
    obtain ⟨x0, e0, m0⟩ := get_at (xs := hs) (j := 0) (by omega)
    obtain ⟨x1, e1, m1⟩ := get_at (xs := hs) (j := 1) (by omega)
    obtain ⟨x2, e2, m2⟩ := get_at (xs := hs) (j := 2) (by omega)
    obtain ⟨x3, e3, m3⟩ := get_at (xs := hs) (j := 3) (by omega)
    have hS1 := s1.seq hS
    refine ⟨_, rfl, hd, _, _, V.int x0, rfl, rfl, SqL.of h1, atI_nat (j := 0) e0, _, rfl, _, _, rfl, _, _, rfl, rfl, (by split <;> omega), _, _, rfl, rfl, ?_⟩
    refine ⟨_, rfl, hd, _, _, V.int x1, rfl, rfl, SqL.of h1, atI_nat (j := 1) e1, _, _, rfl, rfl, (by first | decide | (dsimp only; decide)), rfl, _, rfl, ?_⟩
    refine ite2 (fun _ => ?_) (fun _ => ?_)
    · refine ⟨_, rfl, hd, _, _, V.int x0, rfl, rfl, SqL.of h1, atI_nat (j := 0) e0, _, rfl, _, _, rfl, rfl, (by omega), _, _, rfl, rfl, ?_⟩
      have b0 := Int.emod_nonneg x0 (show (m : Int) ≠ 0 by omega)
      have b1 := Int.emod_lt_of_pos x0 (show (0 : Int) < (m : Int) by omega)
      obtain ⟨n, hn⟩ : ∃ n : Nat, 1 + x0 % (m : Int) = (n : Int) := ⟨(1 + x0 % (m : Int)).toNat, by omega⟩
      change tSeq _ _ _ [some (.ref a), some (.int (m : Int)), some (.ref hd), some (.int (1 + x0 % (m : Int))), none, none, none, none, none, none] _
      rw [hn]
      refine ⟨_, rfl, hd, _, _, V.int x1, rfl, rfl, SqL.of h1, atI_nat (j := 1) e1, _, _, rfl, rfl, ⟨by first | decide | (dsimp only; decide), by first | decide | (dsimp only; decide)⟩, _, _, rfl, rfl, (by first | decide | (dsimp only; decide)), ?_⟩
      refine ⟨Nat.zero_le _, fun ls hls => ⟨Nat.zero_le _, fun lw hlw => ?_⟩⟩
      obtain ⟨hlw1, nlw⟩ := upd_none hlw
      have s2 : Same H1 (upd (upd H1 ls (.lst [])) lw (.lst [])) := (Same.new hls).trans (Same.new hlw)
      refine ⟨_, rfl, _, rfl, by omega, by omega, for_range (lo := 0) (n := ((n : Nat) : Int).toNat) (fun i σ H2 => ∃ (v7 v8 v9 : Option V) (SL : List Addr) (szs : List (List Int)) (wts : List Int), σ = [some (.ref a), some (.int (m : Int)), some (.ref hd), some (.int (n : Int)), some (.int (x1 / 8 % 3)), some (.ref ls), some (.ref lw), v7, v8, v9] ∧ Same H1 H2 ∧ H2 ls = some (.lst (SL.map V.ref)) ∧ Rows H2 SL szs ∧ (∀ b ∈ SL, H1 b = none ∧ b ≠ ls ∧ b ≠ lw) ∧ H2 lw = some (.lst (wts.map V.int)) ∧ szs.length = i ∧ wts.length = i ∧ (∀ (j : Nat) xs, szs[j]? = some xs → xs.length = j + 1) ∧ (∀ xs ∈ szs, ∀ x ∈ xs, 0 ≤ x ∧ x ≤ 1000000000000) ∧ (∀ x ∈ wts, 0 ≤ x ∧ x ≤ 1000000000000))
        ⟨none, none, none, [], [], [], rfl, s2, by rw [upd_ne nlw.symm, upd_same]; rfl, ⟨rfl, fun i a xs e => by simp at e⟩, by simp, upd_same, rfl, rfl, by simp, by simp, by simp⟩ ?_ ?_⟩
      · rintro i σ H2 hi ⟨v7, v8, v9, SL, szs, wts, rfl, s2, hs2, R, hSL, hw2, hz1, hw1, hrow, hb1, hb2⟩
        have hS2 := s2.seq hS1
        have Rl := R.len
        refine ⟨_, rfl, _, rfl, _, rfl, a, ns, i, n, (by rw [Int.zero_add]), hS2, hlen, by omega, fun r0 => ?_⟩
        refine ⟨_, rfl, _, _, rfl, rfl, r0, i + 5, (by rw [Int.zero_add]; rfl), by omega, fun l xs H3 h3 hl3 hx3 hxb s3 => ?_⟩
        have hs3 := s3 ls _ hs2
        have hw3 := s3 lw _ hw2
        have R3 : Rows H3 SL szs := R.mono fun a _ o e => s3 a o e
        refine ⟨_, rfl, .inl ⟨rfl, _, SqL.of hs3⟩, ?_⟩
        refine ⟨_, rfl, _, _, rfl, rfl, _, rfl, by omega, by omega, fun D hD => ?_⟩
        refine comp_range (lo := 0) (n := (0 + (i : Int) + 1).toNat) D (fun j σ H4 ys => ∃ (v : Option V) (zs : List Int), σ = [v, some (.int (x1 / 8 % 3)), some (.ref l)] ∧ Same H3 H4 ∧ H4 D = some (.lst ys) ∧ ys = zs.map V.int ∧ zs.length = j ∧ (∀ z ∈ zs, 0 ≤ z ∧ z ≤ 1000000000000)) ⟨none, [], rfl, Same.new hD, upd_same, rfl, rfl, by simp⟩ ?_ ?_
        · rintro j σ H4 ys hj ⟨v, zs, rfl, s4, hD4, rfl, hzl, hz⟩
          obtain ⟨y0, ey0, my0⟩ := at_in (xs := xs) (k := 0 + (j : Int)) (by omega) (by omega)
          obtain ⟨y1, ey1, my1⟩ := at_in (xs := xs) (k := 0 + (j : Int) + 1) (by omega) (by omega)
          have l4 := s4 l _ h3
          refine ⟨_, rfl, _, rfl, l, _, _, V.int y0, rfl, rfl, SqL.of l4, ey0, _, rfl, _, rfl, _, _, rfl, rfl, l, _, _, V.int y1, rfl, rfl, SqL.of l4, ey1, _, rfl, y0, y1, _, rfl, (hxb y0 my0).1, (hxb y0 my0).2, fun r q0 q1 => ?_⟩
          refine ⟨hD4, (by rw [List.length_map]; exact small1000 (by omega)), _, zs ++ [r], rfl, fun b o e => ?_, upd_same, by simp, by simp [hzl], fun z hz' => ?_⟩
          · rw [upd_ne (ne_of_none e hD)]; exact s4 b _ e
          · rcases List.mem_append.mp hz' with h | h
            · exact hz z h
            · have : z = r := by simpa using h
              rw [this]; exact ⟨q0, q1⟩
        rintro σ H4 ys ⟨v, zs, rfl, s4, hD4, rfl, hzl, hz⟩
        have hs4 := s4 ls _ hs3
        refine ⟨ls, _, _, rfl, rfl, hs4, (by rw [List.length_map]; exact small1000 (by omega)), ?_⟩
        have nDs : D ≠ ls := (ne_of_none hs3 hD).symm
        have nDw : D ≠ lw := (ne_of_none hw3 hD).symm
        have hD1 : H1 D = none := s2.free (s3.free hD)
        have hw5 : upd H4 ls (.lst (SL.map V.ref ++ [V.ref D])) lw = some (.lst (wts.map V.int)) := by rw [upd_ne nlw]; exact s4 lw _ hw3
        have k5 : ∀ b o, H4 b = some o → b ≠ ls → upd H4 ls (.lst (SL.map V.ref ++ [V.ref D])) b = some o := fun b o e hb => by rw [upd_ne hb]; exact e
        have hs5 : upd H4 ls (.lst (SL.map V.ref ++ [V.ref D])) ls = some (.lst ((SL ++ [D]).map V.ref)) := by rw [upd_same]; simp
        generalize upd H4 ls (.lst (SL.map V.ref ++ [V.ref D])) = H5 at hw5 k5 hs5
        have nl1 : l ≠ ls := fun z => by subst z; rw [hs2] at hl3; cases hl3
        have nl2 : l ≠ lw := fun z => by subst z; rw [hw2] at hl3; cases hl3
        have l5 := k5 l _ (s4 l _ h3) nl1
        have hd4 := s4 hd _ (s3 hd _ (s2 hd _ h1))
        have ndl : hd ≠ ls := ne_of_none h1 hls
        have ndw : hd ≠ lw := ne_of_none h1 hlw1
        have hd5 := k5 hd _ hd4 ndl
        obtain ⟨u2, eu2, mu2⟩ := at_in (xs := xs) (k := 0 + (i : Int) + 2) (by omega) (by omega)
        obtain ⟨u3, eu3, mu3⟩ := at_in (xs := xs) (k := 0 + (i : Int) + 3) (by omega) (by omega)
        obtain ⟨u4, eu4, mu4⟩ := at_in (xs := xs) (k := 0 + (i : Int) + 4) (by omega) (by omega)
        refine ⟨_, rfl, .inl ⟨rfl, _, SqL.of hw5⟩, ?_⟩
        refine ⟨_, rfl, _, rfl, _, _, rfl, rfl, l, _, _, V.int u2, rfl, rfl, SqL.of l5, eu2, _, rfl, _, rfl, _, _, rfl, rfl, l, _, _, V.int u3, rfl, rfl, SqL.of l5, eu3, _, rfl, hd, _, _, V.int x2, rfl, rfl, SqL.of hd5, atI_nat (j := 2) e2, _, _, rfl, rfl, (by first | decide | (dsimp only; decide)), u2, u3, _, rfl, (hxb u2 mu2).1, (hxb u2 mu2).2, fun r q0 q1 => ?_⟩
        refine ⟨lw, _, _, rfl, rfl, hw5, (by rw [List.length_map]; exact small1000 (by omega)), ?_⟩
        have k6 : ∀ b o, H5 b = some o → b ≠ lw → upd H5 lw (.lst (wts.map V.int ++ [V.int r])) b = some o := fun b o e hb => by rw [upd_ne hb]; exact e
        have hw6 : upd H5 lw (.lst (wts.map V.int ++ [V.int r])) lw = some (.lst ((wts ++ [r]).map V.int)) := by rw [upd_same]; simp
        generalize upd H5 lw (.lst (wts.map V.int ++ [V.int r])) = H6 at k6 hw6
        have l6 := k6 l _ l5 nl2
        have up : ∀ b o, H4 b = some o → b ≠ ls → b ≠ lw → H6 b = some o := fun b o e n1 n2 => k6 b o (k5 b o e n1) n2
        have s16 : Same H1 H6 := fun b o e => up b o (s4 b o (s3 b o (s2 b o e))) (ne_of_none e hls) (ne_of_none e hlw1)
        have R6 : Rows H6 (SL ++ [D]) (szs ++ [zs]) := (R3.mono fun b hb o e => up b o (s4 b o e) (hSL b hb).2.1 (hSL b hb).2.2).snoc (up D _ hD4 nDs nDw)
        have hs6 := k6 ls _ hs5 nlw.symm
        have hSL6 : ∀ b ∈ SL ++ [D], H1 b = none ∧ b ≠ ls ∧ b ≠ lw := fun b hb => by
          rcases List.mem_append.mp hb with h | h
          · exact hSL b h
          · have : b = D := by simpa using h
            subst this; exact ⟨hD1, nDs, nDw⟩
        have hrow6 : ∀ (j : Nat) ys, (szs ++ [zs])[j]? = some ys → ys.length = j + 1 := fun j ys e => by
          by_cases hj : j < szs.length
          · rw [List.getElem?_append_left hj] at e; exact hrow j ys e
          · rw [List.getElem?_append_right (by omega)] at e
            have hz0 : j - szs.length = 0 := by have := (List.getElem?_eq_some_iff.mp e).1; simp at this; omega
            rw [hz0] at e
            have e : zs = ys := by simpa using e
            subst e; omega
        have hb6 : ∀ ys ∈ szs ++ [zs], ∀ x ∈ ys, 0 ≤ x ∧ x ≤ 1000000000000 := fun ys hy => by
          rcases List.mem_append.mp hy with h | h
          · exact hb1 ys h
          · have : ys = zs := by simpa using h
            subst this; exact hz
        have hbw : ∀ x ∈ wts ++ [r], 0 ≤ x ∧ x ≤ 1000000000000 := fun x hx' => by
          rcases List.mem_append.mp hx' with h | h
          · exact hb2 x h
          · have : x = r := by simpa using h
            subst this; exact ⟨q0, q1⟩
        refine ⟨_, rfl, _, rfl, _, _, rfl, rfl, l, _, _, V.int u4, rfl, rfl, SqL.of l6, eu4, _, _, rfl, rfl, (by first | decide | (dsimp only; decide)), rfl, _, rfl, ?_⟩
        refine ite2 (fun _ => ?_) (fun _ => ?_)
        · refine ⟨_, rfl, _, rfl, lw, _, _, i, rfl, rfl, hw6, (by rw [List.length_map, Int.zero_add]; unfold ixN; rw [if_pos (by omega), if_pos (by simp; omega)]; simp), ?_⟩
          rw [show ((wts ++ [r]).map V.int).set i (V.int 0) = ((wts ++ [r]).set i 0).map V.int by rw [List.map_set]]
          have k7 : ∀ b o, H6 b = some o → b ≠ lw → upd H6 lw (.lst (((wts ++ [r]).set i 0).map V.int)) b = some o := fun b o e hb => by rw [upd_ne hb]; exact e
          refine ⟨_, _, _, SL ++ [D], szs ++ [zs], (wts ++ [r]).set i 0, rfl, fun b o e => k7 b o (s16 b o e) (ne_of_none e hlw1), k7 ls _ hs6 nlw.symm, R6.mono fun b hb o e => k7 b o e (hSL6 b hb).2.2, hSL6, upd_same, by simp; omega, by simp; omega, hrow6, hb6, fun x hx' => ?_⟩
          rcases List.mem_or_eq_of_mem_set hx' with h | h
          · exact hbw x h
          · subst h; exact ⟨by decide, by decide⟩
        · exact ⟨_, _, _, SL ++ [D], szs ++ [zs], wts ++ [r], rfl, s16, hs6, R6, hSL6, hw6, by simp; omega, by simp; omega, hrow6, hb6, hbw⟩
      rintro σ H2 ⟨v7, v8, v9, SL, szs, wts, rfl, s2, hs2, R, hSL, hw2, hz1, hw1, hrow, hb1, hb2⟩
      have hd2 := s2 hd _ h1
      refine ⟨_, _, rfl, ⟨by decide, by decide, by decide, by decide⟩, fun D hD => ?_⟩
      refine comp_range (lo := 4) (n := ((8 : Int) - 4).toNat) D (fun j σ H4 ys => ∃ (v : Option V) (zs : List Int), σ = [v, some (.ref hd)] ∧ Same H2 H4 ∧ H4 D = some (.lst ys) ∧ ys = zs.map V.int ∧ zs.length = j ∧ (∀ z ∈ zs, 0 ≤ z ∧ z ≤ 1000000000000)) ⟨none, [], rfl, Same.new hD, upd_same, rfl, rfl, by simp⟩ ?_ ?_
      · rintro j σ H4 ys hj ⟨v, zs, rfl, s4, hD4, rfl, hzl, hz⟩
        have hj : j < 4 := hj
        obtain ⟨y0, ey0, my0⟩ := at_in (xs := hs) (k := 4 + (j : Int)) (by omega) (by omega)
        obtain ⟨y1, ey1, my1⟩ := at_in (xs := hs) (k := 4 + (j : Int) + 1) (by omega) (by omega)
        have d4 := s4 hd _ hd2
        refine ⟨_, rfl, _, rfl, hd, _, _, V.int y0, rfl, rfl, SqL.of d4, ey0, _, rfl, _, rfl, _, _, rfl, rfl, hd, _, _, V.int y1, rfl, rfl, SqL.of d4, ey1, _, rfl, hd, _, _, V.int x3, rfl, rfl, SqL.of d4, atI_nat (j := 3) e3, _, rfl, _, _, rfl, rfl, _, _, rfl, rfl, ⟨by omega, log2_ok (by omega) (by omega)⟩, _, _, rfl, rfl, (by first | decide | (dsimp only; decide)), y0, y1, _, rfl, (hx y0 my0).1, (hx y0 my0).2, fun r q0 q1 => ?_⟩
        refine ⟨hD4, (by rw [List.length_map]; exact small1000 (by omega)), _, zs ++ [r], rfl, fun b o e => ?_, upd_same, by simp, by simp [hzl], fun z hz' => ?_⟩
        · rw [upd_ne (ne_of_none e hD)]; exact s4 b _ e
        · rcases List.mem_append.mp hz' with h | h
          · exact hz z h
          · have : z = r := by simpa using h
            rw [this]; exact ⟨q0, q1⟩
      rintro σ H4 ys ⟨v, zs, rfl, s4, hD4, rfl, hzl, hz⟩
      have s04 : Same H H4 := s1.trans (s2.trans s4)
      refine ⟨_, rfl, _, rfl, _, rfl, (by show 3 ≤ sizeLine; decide), fun t ht => ?_⟩
      have sT : Same H4 (upd H4 t (.tup [V.ref ls, V.ref lw, V.ref D])) := Same.new ht
      refine q t ls lw D SL szs wts zs _ ⟨upd_same, sT _ _ (s4 _ _ hs2), R.mono fun b _ o e => sT _ _ (s4 _ _ e), sT _ _ (s4 _ _ hw2), sT _ _ hD4, by omega, by omega, by omega, hzl, hrow, hb1, hb2, hz⟩ (fun b hb => ?_) (s04.trans sT)
      simp only [List.mem_cons] at hb
      rcases hb with rfl | rfl | rfl | hb
      · exact s1.free hls
      · exact s1.free hlw1
      · exact s1.free (s2.free hD)
      · exact s1.free (hSL b hb).1
    · have hmin : (if (4 : Int) < (m : Int) then (4 : Int) else (m : Int)) = 4 := by split <;> omega
      obtain ⟨n, hn⟩ : ∃ n : Nat, 1 + x0 % (if (4 : Int) < (m : Int) then (4 : Int) else (m : Int)) = (n : Int) := ⟨(1 + x0 % 4).toNat, by rw [hmin]; omega⟩
      have hn4 := hn
      rw [hmin] at hn4
      change tSeq _ _ _ [some (.ref a), some (.int (m : Int)), some (.ref hd), some (.int (1 + x0 % (if (4 : Int) < (m : Int) then (4 : Int) else (m : Int)))), none, none, none, none, none, none] _
      rw [hn]
      refine ⟨_, rfl, hd, _, _, V.int x1, rfl, rfl, SqL.of h1, atI_nat (j := 1) e1, _, _, rfl, rfl, ⟨by first | decide | (dsimp only; decide), by first | decide | (dsimp only; decide)⟩, _, _, rfl, rfl, (by first | decide | (dsimp only; decide)), ?_⟩
      refine ⟨Nat.zero_le _, fun ls hls => ⟨Nat.zero_le _, fun lw hlw => ?_⟩⟩
      obtain ⟨hlw1, nlw⟩ := upd_none hlw
      have s2 : Same H1 (upd (upd H1 ls (.lst [])) lw (.lst [])) := (Same.new hls).trans (Same.new hlw)
      refine ⟨_, rfl, _, rfl, by omega, by omega, for_range (lo := 0) (n := ((n : Nat) : Int).toNat) (fun i σ H2 => ∃ (v7 v8 v9 : Option V) (SL : List Addr) (szs : List (List Int)) (wts : List Int), σ = [some (.ref a), some (.int (m : Int)), some (.ref hd), some (.int (n : Int)), some (.int (x1 / 8 % 3)), some (.ref ls), some (.ref lw), v7, v8, v9] ∧ Same H1 H2 ∧ H2 ls = some (.lst (SL.map V.ref)) ∧ Rows H2 SL szs ∧ (∀ b ∈ SL, H1 b = none ∧ b ≠ ls ∧ b ≠ lw) ∧ H2 lw = some (.lst (wts.map V.int)) ∧ szs.length = i ∧ wts.length = i ∧ (∀ (j : Nat) xs, szs[j]? = some xs → xs.length = j + 1) ∧ (∀ xs ∈ szs, ∀ x ∈ xs, 0 ≤ x ∧ x ≤ 1000000000000) ∧ (∀ x ∈ wts, 0 ≤ x ∧ x ≤ 1000000000000))
        ⟨none, none, none, [], [], [], rfl, s2, by rw [upd_ne nlw.symm, upd_same]; rfl, ⟨rfl, fun i a xs e => by simp at e⟩, by simp, upd_same, rfl, rfl, by simp, by simp, by simp⟩ ?_ ?_⟩
      · rintro i σ H2 hi ⟨v7, v8, v9, SL, szs, wts, rfl, s2, hs2, R, hSL, hw2, hz1, hw1, hrow, hb1, hb2⟩
        have hS2 := s2.seq hS1
        have Rl := R.len
        refine ⟨_, rfl, _, rfl, _, rfl, a, ns, i, n, (by rw [Int.zero_add]), hS2, hlen, by omega, fun r0 => ?_⟩
        refine ⟨_, rfl, _, _, rfl, rfl, r0, i + 5, (by rw [Int.zero_add]; rfl), by omega, fun l xs H3 h3 hl3 hx3 hxb s3 => ?_⟩
        have hs3 := s3 ls _ hs2
        have hw3 := s3 lw _ hw2
        have R3 : Rows H3 SL szs := R.mono fun a _ o e => s3 a o e
        refine ⟨_, rfl, .inl ⟨rfl, _, SqL.of hs3⟩, ?_⟩
        refine ⟨_, rfl, _, _, rfl, rfl, _, rfl, by omega, by omega, fun D hD => ?_⟩
        refine comp_range (lo := 0) (n := (0 + (i : Int) + 1).toNat) D (fun j σ H4 ys => ∃ (v : Option V) (zs : List Int), σ = [v, some (.int (x1 / 8 % 3)), some (.ref l)] ∧ Same H3 H4 ∧ H4 D = some (.lst ys) ∧ ys = zs.map V.int ∧ zs.length = j ∧ (∀ z ∈ zs, 0 ≤ z ∧ z ≤ 1000000000000)) ⟨none, [], rfl, Same.new hD, upd_same, rfl, rfl, by simp⟩ ?_ ?_
        · rintro j σ H4 ys hj ⟨v, zs, rfl, s4, hD4, rfl, hzl, hz⟩
          obtain ⟨y0, ey0, my0⟩ := at_in (xs := xs) (k := 0 + (j : Int)) (by omega) (by omega)
          obtain ⟨y1, ey1, my1⟩ := at_in (xs := xs) (k := 0 + (j : Int) + 1) (by omega) (by omega)
          have l4 := s4 l _ h3
          refine ⟨_, rfl, _, rfl, l, _, _, V.int y0, rfl, rfl, SqL.of l4, ey0, _, rfl, _, rfl, _, _, rfl, rfl, l, _, _, V.int y1, rfl, rfl, SqL.of l4, ey1, _, rfl, y0, y1, _, rfl, (hxb y0 my0).1, (hxb y0 my0).2, fun r q0 q1 => ?_⟩
          refine ⟨hD4, (by rw [List.length_map]; exact small1000 (by omega)), _, zs ++ [r], rfl, fun b o e => ?_, upd_same, by simp, by simp [hzl], fun z hz' => ?_⟩
          · rw [upd_ne (ne_of_none e hD)]; exact s4 b _ e
          · rcases List.mem_append.mp hz' with h | h
            · exact hz z h
            · have : z = r := by simpa using h
              rw [this]; exact ⟨q0, q1⟩
        rintro σ H4 ys ⟨v, zs, rfl, s4, hD4, rfl, hzl, hz⟩
        have hs4 := s4 ls _ hs3
        refine ⟨ls, _, _, rfl, rfl, hs4, (by rw [List.length_map]; exact small1000 (by omega)), ?_⟩
        have nDs : D ≠ ls := (ne_of_none hs3 hD).symm
        have nDw : D ≠ lw := (ne_of_none hw3 hD).symm
        have hD1 : H1 D = none := s2.free (s3.free hD)
        have hw5 : upd H4 ls (.lst (SL.map V.ref ++ [V.ref D])) lw = some (.lst (wts.map V.int)) := by rw [upd_ne nlw]; exact s4 lw _ hw3
        have k5 : ∀ b o, H4 b = some o → b ≠ ls → upd H4 ls (.lst (SL.map V.ref ++ [V.ref D])) b = some o := fun b o e hb => by rw [upd_ne hb]; exact e
        have hs5 : upd H4 ls (.lst (SL.map V.ref ++ [V.ref D])) ls = some (.lst ((SL ++ [D]).map V.ref)) := by rw [upd_same]; simp
        generalize upd H4 ls (.lst (SL.map V.ref ++ [V.ref D])) = H5 at hw5 k5 hs5
        have nl1 : l ≠ ls := fun z => by subst z; rw [hs2] at hl3; cases hl3
        have nl2 : l ≠ lw := fun z => by subst z; rw [hw2] at hl3; cases hl3
        have l5 := k5 l _ (s4 l _ h3) nl1
        have hd4 := s4 hd _ (s3 hd _ (s2 hd _ h1))
        have ndl : hd ≠ ls := ne_of_none h1 hls
        have ndw : hd ≠ lw := ne_of_none h1 hlw1
        have hd5 := k5 hd _ hd4 ndl
        obtain ⟨u2, eu2, mu2⟩ := at_in (xs := xs) (k := 0 + (i : Int) + 2) (by omega) (by omega)
        obtain ⟨u3, eu3, mu3⟩ := at_in (xs := xs) (k := 0 + (i : Int) + 3) (by omega) (by omega)
        obtain ⟨u4, eu4, mu4⟩ := at_in (xs := xs) (k := 0 + (i : Int) + 4) (by omega) (by omega)
        refine ⟨_, rfl, .inl ⟨rfl, _, SqL.of hw5⟩, ?_⟩
        refine ⟨_, rfl, _, rfl, _, _, rfl, rfl, l, _, _, V.int u2, rfl, rfl, SqL.of l5, eu2, _, rfl, _, rfl, _, _, rfl, rfl, l, _, _, V.int u3, rfl, rfl, SqL.of l5, eu3, _, rfl, hd, _, _, V.int x2, rfl, rfl, SqL.of hd5, atI_nat (j := 2) e2, _, _, rfl, rfl, (by first | decide | (dsimp only; decide)), u2, u3, _, rfl, (hxb u2 mu2).1, (hxb u2 mu2).2, fun r q0 q1 => ?_⟩
        refine ⟨lw, _, _, rfl, rfl, hw5, (by rw [List.length_map]; exact small1000 (by omega)), ?_⟩
        have k6 : ∀ b o, H5 b = some o → b ≠ lw → upd H5 lw (.lst (wts.map V.int ++ [V.int r])) b = some o := fun b o e hb => by rw [upd_ne hb]; exact e
        have hw6 : upd H5 lw (.lst (wts.map V.int ++ [V.int r])) lw = some (.lst ((wts ++ [r]).map V.int)) := by rw [upd_same]; simp
        generalize upd H5 lw (.lst (wts.map V.int ++ [V.int r])) = H6 at k6 hw6
        have l6 := k6 l _ l5 nl2
        have up : ∀ b o, H4 b = some o → b ≠ ls → b ≠ lw → H6 b = some o := fun b o e n1 n2 => k6 b o (k5 b o e n1) n2
        have s16 : Same H1 H6 := fun b o e => up b o (s4 b o (s3 b o (s2 b o e))) (ne_of_none e hls) (ne_of_none e hlw1)
        have R6 : Rows H6 (SL ++ [D]) (szs ++ [zs]) := (R3.mono fun b hb o e => up b o (s4 b o e) (hSL b hb).2.1 (hSL b hb).2.2).snoc (up D _ hD4 nDs nDw)
        have hs6 := k6 ls _ hs5 nlw.symm
        have hSL6 : ∀ b ∈ SL ++ [D], H1 b = none ∧ b ≠ ls ∧ b ≠ lw := fun b hb => by
          rcases List.mem_append.mp hb with h | h
          · exact hSL b h
          · have : b = D := by simpa using h
            subst this; exact ⟨hD1, nDs, nDw⟩
        have hrow6 : ∀ (j : Nat) ys, (szs ++ [zs])[j]? = some ys → ys.length = j + 1 := fun j ys e => by
          by_cases hj : j < szs.length
          · rw [List.getElem?_append_left hj] at e; exact hrow j ys e
          · rw [List.getElem?_append_right (by omega)] at e
            have hz0 : j - szs.length = 0 := by have := (List.getElem?_eq_some_iff.mp e).1; simp at this; omega
            rw [hz0] at e
            have e : zs = ys := by simpa using e
            subst e; omega
        have hb6 : ∀ ys ∈ szs ++ [zs], ∀ x ∈ ys, 0 ≤ x ∧ x ≤ 1000000000000 := fun ys hy => by
          rcases List.mem_append.mp hy with h | h
          · exact hb1 ys h
          · have : ys = zs := by simpa using h
            subst this; exact hz
        have hbw : ∀ x ∈ wts ++ [r], 0 ≤ x ∧ x ≤ 1000000000000 := fun x hx' => by
          rcases List.mem_append.mp hx' with h | h
          · exact hb2 x h
          · have : x = r := by simpa using h
            subst this; exact ⟨q0, q1⟩
        refine ⟨_, rfl, _, rfl, _, _, rfl, rfl, l, _, _, V.int u4, rfl, rfl, SqL.of l6, eu4, _, _, rfl, rfl, (by first | decide | (dsimp only; decide)), rfl, _, rfl, ?_⟩
        refine ite2 (fun _ => ?_) (fun _ => ?_)
        · refine ⟨_, rfl, _, rfl, lw, _, _, i, rfl, rfl, hw6, (by rw [List.length_map, Int.zero_add]; unfold ixN; rw [if_pos (by omega), if_pos (by simp; omega)]; simp), ?_⟩
          rw [show ((wts ++ [r]).map V.int).set i (V.int 0) = ((wts ++ [r]).set i 0).map V.int by rw [List.map_set]]
          have k7 : ∀ b o, H6 b = some o → b ≠ lw → upd H6 lw (.lst (((wts ++ [r]).set i 0).map V.int)) b = some o := fun b o e hb => by rw [upd_ne hb]; exact e
          refine ⟨_, _, _, SL ++ [D], szs ++ [zs], (wts ++ [r]).set i 0, rfl, fun b o e => k7 b o (s16 b o e) (ne_of_none e hlw1), k7 ls _ hs6 nlw.symm, R6.mono fun b hb o e => k7 b o e (hSL6 b hb).2.2, hSL6, upd_same, by simp; omega, by simp; omega, hrow6, hb6, fun x hx' => ?_⟩
          rcases List.mem_or_eq_of_mem_set hx' with h | h
          · exact hbw x h
          · subst h; exact ⟨by decide, by decide⟩
        · exact ⟨_, _, _, SL ++ [D], szs ++ [zs], wts ++ [r], rfl, s16, hs6, R6, hSL6, hw6, by simp; omega, by simp; omega, hrow6, hb6, hbw⟩
      rintro σ H2 ⟨v7, v8, v9, SL, szs, wts, rfl, s2, hs2, R, hSL, hw2, hz1, hw1, hrow, hb1, hb2⟩
      have hd2 := s2 hd _ h1
      refine ⟨_, _, rfl, ⟨by decide, by decide, by decide, by decide⟩, fun D hD => ?_⟩
      refine comp_range (lo := 4) (n := ((8 : Int) - 4).toNat) D (fun j σ H4 ys => ∃ (v : Option V) (zs : List Int), σ = [v, some (.ref hd)] ∧ Same H2 H4 ∧ H4 D = some (.lst ys) ∧ ys = zs.map V.int ∧ zs.length = j ∧ (∀ z ∈ zs, 0 ≤ z ∧ z ≤ 1000000000000)) ⟨none, [], rfl, Same.new hD, upd_same, rfl, rfl, by simp⟩ ?_ ?_
      · rintro j σ H4 ys hj ⟨v, zs, rfl, s4, hD4, rfl, hzl, hz⟩
        have hj : j < 4 := hj
        obtain ⟨y0, ey0, my0⟩ := at_in (xs := hs) (k := 4 + (j : Int)) (by omega) (by omega)
        obtain ⟨y1, ey1, my1⟩ := at_in (xs := hs) (k := 4 + (j : Int) + 1) (by omega) (by omega)
        have d4 := s4 hd _ hd2
        refine ⟨_, rfl, _, rfl, hd, _, _, V.int y0, rfl, rfl, SqL.of d4, ey0, _, rfl, _, rfl, _, _, rfl, rfl, hd, _, _, V.int y1, rfl, rfl, SqL.of d4, ey1, _, rfl, hd, _, _, V.int x3, rfl, rfl, SqL.of d4, atI_nat (j := 3) e3, _, rfl, _, _, rfl, rfl, _, _, rfl, rfl, ⟨by omega, log2_ok (by omega) (by omega)⟩, _, _, rfl, rfl, (by first | decide | (dsimp only; decide)), y0, y1, _, rfl, (hx y0 my0).1, (hx y0 my0).2, fun r q0 q1 => ?_⟩
        refine ⟨hD4, (by rw [List.length_map]; exact small1000 (by omega)), _, zs ++ [r], rfl, fun b o e => ?_, upd_same, by simp, by simp [hzl], fun z hz' => ?_⟩
        · rw [upd_ne (ne_of_none e hD)]; exact s4 b _ e
        · rcases List.mem_append.mp hz' with h | h
          · exact hz z h
          · have : z = r := by simpa using h
            rw [this]; exact ⟨q0, q1⟩
      rintro σ H4 ys ⟨v, zs, rfl, s4, hD4, rfl, hzl, hz⟩
      have s04 : Same H H4 := s1.trans (s2.trans s4)
      refine ⟨_, rfl, _, rfl, _, rfl, (by show 3 ≤ sizeLine; decide), fun t ht => ?_⟩
      have sT : Same H4 (upd H4 t (.tup [V.ref ls, V.ref lw, V.ref D])) := Same.new ht
      refine q t ls lw D SL szs wts zs _ ⟨upd_same, sT _ _ (s4 _ _ hs2), R.mono fun b _ o e => sT _ _ (s4 _ _ e), sT _ _ (s4 _ _ hw2), sT _ _ hD4, by omega, by omega, by omega, hzl, hrow, hb1, hb2, hz⟩ (fun b hb => ?_) (s04.trans sT)
      simp only [List.mem_cons] at hb
      rcases hb with rfl | rfl | rfl | hb
      · exact s1.free hls
      · exact s1.free hlw1
      · exact s1.free (s2.free hD)
      · exact s1.free (hSL b hb).1
theorem ok__law_whole {f : Addr} {fd : FuncData} (F : Fun K "_law_whole" "_law_whole" s__law_whole f fd) (T : Txt K mg t_MOST_PLANNED C_KeepError C_NoPlan C_Task)  : FnOk P w K mg base (CXx P w) 1 f fd ["_law_found"] (sp_whole) := by
  refine F.okX sc__law_whole (fun vs H Q E h => ?_) (fun cdv A outer s H vs Q E hr h => ?_)
  · obtain ⟨n, rfl, q⟩ := h; rfl
  · obtain ⟨n, rfl, q⟩ := h
    refine ⟨_, (pss_one (ps_ret (pe_and (pe_callB call_isinst (by rfl) T.b_isinstance PyProof.Rows.boot_isinstance (pa_cons (pv 0) (pa_cons (pe_bltn (v := .ty "int") rfl T.b_int PyProof.Rows.boot_int rfl) pa_nil))) (pe_one (pe_not (pe_callB call_isinst (by rfl) T.b_isinstance PyProof.Rows.boot_isinstance (pa_cons (pv 0) (pa_cons (pe_bltn (v := .ty "bool") rfl T.b_bool PyProof.Rows.boot_bool rfl) pa_nil)))))))), ?_⟩
    refine ⟨_, rfl, _, _, _, _, true, rfl, rfl, .int _, rfl, _, rfl, ?_⟩
    refine iteT ?_
    refine ⟨_, rfl, _, _, _, _, false, rfl, rfl, .int _, (by with_unfolding_all rfl), _, rfl, ?_⟩
    exact q
theorem ok_leg_cost {f : Addr} {fd : FuncData} (F : Fun K "leg_cost" "leg_cost" s_leg_cost f fd) (T : Txt K mg t_MOST_PLANNED C_KeepError C_NoPlan C_Task)  : FnOk P w K mg base (CXx P w) 1 f fd ["task", "size"] (sp_legc C_Task) := by
  refine F.okX sc_leg_cost (fun vs H Q E h => ?_) (fun cdv A outer s H vs Q E hr h => ?_)
  · obtain ⟨p, sizes, weights, r0, r1, r2, r3, size, rfl, hT, F, q⟩ := h; rfl
  · obtain ⟨p, sizes, weights, r0, r1, r2, r3, size, rfl, hT, F, q⟩ := h
    refine ⟨_, (pss_one (ps_ret (pe_op op_add (pe_ix ix_tup (pe_fld (pv 0) rfl) pe_int (fun _ _ => rfl)) (pe_op op_mul (pe_ix ix_tup (pe_fld (pv 0) rfl) pe_int (fun _ _ => rfl)) (pv 1))))), ?_⟩
    obtain ⟨dx, t1, t2, t3, TL, g1, g2, g3, g4, g5⟩ := id hT
    have b := F.b3 r3 (by simp)
    exact ⟨_, rfl, p, C_Task, dx, _, _, rfl, g1, T.cl_Task, T.n_Task_rates, lk_rates, t3, _, _, V.int r2, rfl, rfl, SqT.of g5, rfl, _, rfl, p, C_Task, dx, _, _, rfl, g1, T.cl_Task, T.n_Task_rates, lk_rates, t3, _, _, V.int r3, rfl, rfl, SqT.of g5, rfl, _, rfl, _, _, rfl, rfl, .inl ⟨by omega, by omega⟩, _, _, rfl, rfl, q⟩
theorem ok_day_cost {f : Addr} {fd : FuncData} (F : Fun K "day_cost" "day_cost" s_day_cost f fd) (T : Txt K mg t_MOST_PLANNED C_KeepError C_NoPlan C_Task)  : FnOk P w K mg base (CXx P w) 1 f fd ["task", "day", "size", "way"] (sp_dayc C_Task) := by
  refine F.okX sc_day_cost (fun vs H Q E h => ?_) (fun cdv A outer s H vs Q E hr h => ?_)
  · obtain ⟨p, sizes, weights, r0, r1, r2, r3, size, way, d, rfl, hT, F, hd, z0, z1, q⟩ := h; rfl
  · obtain ⟨p, sizes, weights, r0, r1, r2, r3, size, way, d, rfl, hT, F, hd, z0, z1, q⟩ := h
    refine ⟨_, (pss_cons (ps_set (i := 4) sc_day_cost.nd rfl (Or.inl rfl) (pe_op op_sub (pe_callB call_len_seq (by rfl) T.b_len PySem.boot_len (pa_cons (pe_fld (pv 0) rfl) pa_nil)) (pv 1)))
      (pss_one (ps_ret (pe_op op_add (pe_op op_mul (pe_op op_add (pe_ix ix_tup (pe_fld (pv 0) rfl) pe_int (fun _ _ => rfl)) (pe_op op_mul (pe_ix ix_tup (pe_fld (pv 0) rfl) pe_int (fun _ _ => rfl)) (pv 4))) (pv 2)) (pe_op op_mul (pe_ix ix_tup (pe_fld (pv 0) rfl) (pv 1) (fun _ _ => rfl)) (pv 3)))))), ?_⟩
    obtain ⟨dx, t1, t2, t3, TL, g1, g2, g3, g4, g5⟩ := id hT
    have b := F.b3 r1 (by simp)
    have TLl := g3.len
    have nw := F.nw
    have ew : weights[d]? = some (weights.getD d 0) := by
      rw [List.getD_eq_getElem?_getD, List.getElem?_eq_getElem (show d < weights.length by omega)]; rfl
    have bw := F.b2 _ (List.mem_of_getElem? ew)
    refine ⟨_, rfl, p, C_Task, dx, _, _, rfl, g1, T.cl_Task, T.n_Task_sizes, lk_sizes, t1, _, rfl, .inr (SqT.of g2), _, rfl, _, _, rfl, rfl, ?_⟩
    rw [List.length_map, TLl]
    exact ⟨_, rfl, p, C_Task, dx, _, _, rfl, g1, T.cl_Task, T.n_Task_rates, lk_rates, t3, _, _, V.int r0, rfl, rfl, SqT.of g5, rfl, _, rfl, p, C_Task, dx, _, _, rfl, g1, T.cl_Task, T.n_Task_rates, lk_rates, t3, _, _, V.int r1, rfl, rfl, SqT.of g5, rfl, _, rfl, _, _, rfl, rfl, .inl ⟨by omega, by omega⟩, _, _, rfl, rfl, _, rfl, _, _, rfl, rfl, .inr ⟨by omega, by omega⟩, _, rfl, p, C_Task, dx, _, _, rfl, g1, T.cl_Task, T.n_Task_weights, lk_weights, _, rfl, t2, _, _, V.int (weights.getD d 0), rfl, rfl, SqT.of g4, atI_nat (by rw [List.getElem?_map, ew]; rfl), _, rfl, _, _, rfl, rfl, .inl ⟨by omega, by omega⟩, _, _, rfl, rfl, q⟩
theorem ok_bases_of {f : Addr} {fd : FuncData} (F : Fun K "bases_of" "bases_of" s_bases_of f fd) (T : Txt K mg t_MOST_PLANNED C_KeepError C_NoPlan C_Task) (D_bases_behind : DefX P w K mg base "bases_behind" 1 ["choices"] (sp_bases K)) : FnOk P w K mg base (CXx P w) 2 f fd ["choices"] (sp_bof K) := by
  refine F.okX sc_bases_of (fun vs H Q E h => ?_) (fun cdv A outer s H vs Q E hr h => ?_)
  · obtain ⟨tu, c, ws, rfl, hc, hV, h7, q⟩ := h; rfl
  · obtain ⟨tu, c, ws, rfl, hc, hV, h7, q⟩ := h
    refine ⟨_, (pss_one (ps_ret (pe_comp (N := ["day", "word", "choices"]) (k := 2) (cap := [0]) rfl rfl (pi_or (pi_enum false rfl T.b_enumerate (pa_cons (pv 0) pa_nil)) (pi_enum true rfl T.b_enumerate (pa_cons (pv 0) pa_nil))) (fun _ _ _ _ => (pg_tupK (K := K) (n := 2) rfl rfl (pgs_cons (pg_name (i := 0) (show (["day", "word", "choices"] : List Str).Nodup from by decide +kernel) rfl (Or.inl rfl) (.inr rfl)) (pgs_cons (pg_name (i := 1) (show (["day", "word", "choices"] : List Str).Nodup from by decide +kernel) rfl (Or.inl rfl) (.inr rfl)) pgs_nil)))) (fun _ _ _ _ => pts_nil) (fun _ _ _ _ => (pe_dget1 (hu_of hr) (pe_callS D_bases_behind passesN (hr.mono (by decide)) rfl (pa_cons (pe_or2 (pe_slice (sl_listK (K := K) rfl) (pv 2) po_none (po_some (pv 0))) (pe_slice (sl_tupK (K := K) rfl) (pv 2) po_none (po_some (pv 0)))) pa_nil)) (pv 1) ⟨rfl, rfl, rfl, rfl⟩))))), ?_⟩
    cases tu
    · refine .inl ⟨_, rfl, c, rfl, ⟨_, hc⟩, fun D hD => ?_⟩
      refine comp_enum (K := K) (tu := false) (l := c) D (xs := ws.map V.str) (fun i σ H2 ys => ∃ (v0 v1 : Option V), σ = [v0, v1, some (.ref c)] ∧ Same H H2 ∧ H2 D = some (.lst ys) ∧ ys = (List.range i).map (bvAt ws)) ⟨none, none, rfl, Same.new hD, upd_same, rfl⟩ (fun i σ H2 ys ⟨_, _, _, s2, _⟩ => hc.same s2) ?_ ?_
      · rintro i x σ H2 ys T0 hi ⟨v0, v1, rfl, s2, hD2, hy⟩ nT
        obtain ⟨w, hw, rfl⟩ := str_at hi
        have hil : i < ws.length := (List.getElem?_eq_some_iff.mp hw).1
        refine ⟨T0, _, rfl, SqT.of upd_same, rfl, _, _, rfl, _, _, rfl, rfl, ?_⟩
        have s3 : Same H2 (upd H2 T0 (.tup [V.int (i : Int), V.str w])) := Same.new nT
        generalize upd H2 T0 (.tup [V.int (i : Int), V.str w]) = H3 at s3
        have s03 := s2.trans s3
        have hc3 := hc.same s03
        have cut : cutV (ws.map V.str) none (some (i : Int)) = (ws.take i).map V.str := by
          unfold cutV
          rw [HT.sIx_nat, HT.sIx_none, List.drop_zero, ← List.map_take, List.length_map, Nat.sub_zero, Nat.min_eq_left (by omega)]
        refine .inl ⟨_, rfl, _, rfl, _, rfl, c, _, rfl, hc3, fun c1 hc1 => ?_⟩
        rw [cut]
        have s4 : Same H3 (upd H3 c1 (.lst ((ws.take i).map V.str))) := Same.new hc1
        have h4 : upd H3 c1 (.lst ((ws.take i).map V.str)) c1 = some (.lst ((ws.take i).map V.str)) := upd_same
        generalize upd H3 c1 (.lst ((ws.take i).map V.str)) = H4 at s4 h4
        refine ⟨false, c1, ws.take i, rfl, SqL.of h4, (by rw [List.length_take]; omega), fun d kvs H5 hd hdn B s5 => ?_⟩
        refine ⟨d, rfl, .inl ⟨_, .inl hd⟩, _, rfl, (bOf (ws.take i) w).map V.int, (B.get (hV.four hw)) ▸ DGet.k (k := Sum.inr w) hd, ?_⟩
        have s25 : Same H2 H5 := s3.trans (s4.trans s5)
        refine ⟨s25 _ _ hD2, (by rw [hy]; exact small1000 (by simp; omega)), _, _, rfl, fun b o e => ?_, upd_same, ?_⟩
        · rw [upd_ne (ne_of_none e hD)]; exact s25 b o (s2 b o e)
        · rw [hy, List.range_succ, List.map_append, List.map_cons, List.map_nil, bvAt_at hw]
      · rintro σ H2 ys ⟨v0, v1, rfl, s2, hD2, hy⟩
        rw [List.length_map] at hy
        refine q D H2 ?_ hD s2
        rw [hD2, hy]; rfl
    · refine .inr ⟨_, rfl, c, rfl, ⟨_, hc⟩, fun D hD => ?_⟩
      refine comp_enum (K := K) (tu := true) (l := c) D (xs := ws.map V.str) (fun i σ H2 ys => ∃ (v0 v1 : Option V), σ = [v0, v1, some (.ref c)] ∧ Same H H2 ∧ H2 D = some (.lst ys) ∧ ys = (List.range i).map (bvAt ws)) ⟨none, none, rfl, Same.new hD, upd_same, rfl⟩ (fun i σ H2 ys ⟨_, _, _, s2, _⟩ => hc.same s2) ?_ ?_
      · rintro i x σ H2 ys T0 hi ⟨v0, v1, rfl, s2, hD2, hy⟩ nT
        obtain ⟨w, hw, rfl⟩ := str_at hi
        have hil : i < ws.length := (List.getElem?_eq_some_iff.mp hw).1
        refine ⟨T0, _, rfl, SqT.of upd_same, rfl, _, _, rfl, _, _, rfl, rfl, ?_⟩
        have s3 : Same H2 (upd H2 T0 (.tup [V.int (i : Int), V.str w])) := Same.new nT
        generalize upd H2 T0 (.tup [V.int (i : Int), V.str w]) = H3 at s3
        have s03 := s2.trans s3
        have hc3 := hc.same s03
        have cut : cutV (ws.map V.str) none (some (i : Int)) = (ws.take i).map V.str := by
          unfold cutV
          rw [HT.sIx_nat, HT.sIx_none, List.drop_zero, ← List.map_take, List.length_map, Nat.sub_zero, Nat.min_eq_left (by omega)]
        refine .inr ⟨_, rfl, _, rfl, _, rfl, c, _, rfl, hc3, (by rw [List.length_map, HT.sIx_nat, HT.sIx_none]; omega), fun c1 hc1 => ?_⟩
        rw [cut]
        have s4 : Same H3 (upd H3 c1 (.tup ((ws.take i).map V.str))) := Same.new hc1
        have h4 : upd H3 c1 (.tup ((ws.take i).map V.str)) c1 = some (.tup ((ws.take i).map V.str)) := upd_same
        generalize upd H3 c1 (.tup ((ws.take i).map V.str)) = H4 at s4 h4
        refine ⟨true, c1, ws.take i, rfl, SqT.of h4, (by rw [List.length_take]; omega), fun d kvs H5 hd hdn B s5 => ?_⟩
        refine ⟨d, rfl, .inl ⟨_, .inl hd⟩, _, rfl, (bOf (ws.take i) w).map V.int, (B.get (hV.four hw)) ▸ DGet.k (k := Sum.inr w) hd, ?_⟩
        have s25 : Same H2 H5 := s3.trans (s4.trans s5)
        refine ⟨s25 _ _ hD2, (by rw [hy]; exact small1000 (by simp; omega)), _, _, rfl, fun b o e => ?_, upd_same, ?_⟩
        · rw [upd_ne (ne_of_none e hD)]; exact s25 b o (s2 b o e)
        · rw [hy, List.range_succ, List.map_append, List.map_cons, List.map_nil, bvAt_at hw]
      · rintro σ H2 ys ⟨v0, v1, rfl, s2, hD2, hy⟩
        rw [List.length_map] at hy
        refine q D H2 ?_ hD s2
        rw [hD2, hy]; rfl
theorem ok_costs_of {f : Addr} {fd : FuncData} (F : Fun K "costs_of" "costs_of" s_costs_of f fd) (T : Txt K mg t_MOST_PLANNED C_KeepError C_NoPlan C_Task) (D_bases_of : DefX P w K mg base "bases_of" 2 ["choices"] (sp_bof K)) (D_leg_cost : DefX P w K mg base "leg_cost" 1 ["task", "size"] (sp_legc C_Task)) (D_day_cost : DefX P w K mg base "day_cost" 1 ["task", "day", "size", "way"] (sp_dayc C_Task)) : FnOk P w K mg base (CXx P w) 3 f fd ["task", "choices"] (sp_costs K C_Task) := by
  refine F.okX sc_costs_of (fun vs H Q E h => ?_) (fun cdv A outer s H vs Q E hr h => ?_)
  · obtain ⟨p, c, tu, sizes, weights, r0, r1, r2, r3, ws, rfl, hT, F, hc, hV, hle, q⟩ := h; rfl
  · obtain ⟨p, c, tu, sizes, weights, r0, r1, r2, r3, ws, rfl, hT, F, hc, hV, hle, q⟩ := h
    refine ⟨_, (pss_cons (ps_set (i := 2) sc_costs_of.nd rfl (Or.inl rfl) (pe_lst pa_nil))
      (pss_cons (ps_set (i := 3) sc_costs_of.nd rfl (Or.inl rfl) (pe_disp (pps_cons (pe_un un_neg pe_int) pe_int pps_nil) rfl rfl (by decide) (by decide)))
      (pss_cons (ps_for PassesOwn.leaving rfl (pi_enum false rfl T.b_enumerate (pa_cons (pe_callS D_bases_of passesN (hr.mono (by decide)) rfl (pa_cons (pv 1) pa_nil)) pa_nil)) (pg_tup rfl (pgs_cons (pg_name (i := 4) sc_costs_of.nd rfl (Or.inl rfl)) (pgs_cons (pg_name (i := 5) sc_costs_of.nd rfl (Or.inl rfl)) pgs_nil)))
      (pss_one (ps_if (pt_cmpR op_isN (pv 5) pe_non (nomark _)) (pss_one (ps_expr (pe_bm PySem.F.plainAttrs_list PySem.F.slot_list_append PySem.F.type_list_append mt_append (pv 2) (pa_cons (pe_tup (pa_cons pe_non (pa_cons pe_non (pa_cons pe_int pa_nil)))) pa_nil)))) (pss_cons (ps_set (i := 6) sc_costs_of.nd rfl (Or.inl rfl) (pe_ix ix_tup (pe_ix ix_tup (pe_fld (pv 0) rfl) (pv 4) (fun _ _ => rfl)) (pe_op op_add (pv 5) pe_int) (fun _ _ => rfl)))
      (pss_cons (ps_dput (hu_of hr) (pv 3) (pv 4) (pe_op op_add (pe_dget (hu_of hr) (pv 3) (pv 5) (fun _ _ => rfl)) (pe_callS D_leg_cost passesN (hr.mono (by decide)) rfl (pa_cons (pv 0) (pa_cons (pv 6) pa_nil)))) rfl)
      (pss_one (ps_expr (pe_bm PySem.F.plainAttrs_list PySem.F.slot_list_append PySem.F.type_list_append mt_append (pv 2) (pa_cons (pe_tup (pa_cons (pv 6) (pa_cons (pe_dget (hu_of hr) (pv 3) (pv 4) (fun _ _ => rfl)) (pa_cons (pe_callS D_day_cost passesN (hr.mono (by decide)) rfl (pa_cons (pv 0) (pa_cons (pv 4) (pa_cons (pv 6) (pa_cons (pe_dget (hu_of hr) (pv 3) (pv 4) (fun _ _ => rfl)) pa_nil))))) pa_nil)))) pa_nil)))))))))
      (pss_one (ps_ret (pv 2)))))), ?_⟩
    have n7 := F.n7
    refine ⟨Nat.zero_le _, fun rl hrl => ?_⟩
    refine fun wd hwd => ⟨_, rfl, upd_same, [(Sum.inl (-1), V.int 0)], rfl, by decide, ?_⟩
    have s1 : Same H (upd (upd (upd H rl (.lst [])) wd (.dK [])) wd (.dK (mergeK [] [(Sum.inl (-1), V.int 0)]))) := by rw [upd_upd]; exact (Same.new hrl).trans (Same.new hwd)
    have h1 : upd (upd (upd H rl (.lst [])) wd (.dK [])) wd (.dK (mergeK [] [(Sum.inl (-1), V.int 0)])) wd = some (.dK (putK [] (Sum.inl (-1)) (V.int 0))) := upd_same
    obtain ⟨hwd0, nwr⟩ := upd_none hwd
    have hr1 : upd (upd (upd H rl (.lst [])) wd (.dK [])) wd (.dK (mergeK [] [(Sum.inl (-1), V.int 0)])) rl = some (.lst []) := by rw [upd_ne nwr.symm, upd_ne nwr.symm, upd_same]
    generalize upd (upd (upd H rl (.lst [])) wd (.dK [])) wd (.dK (mergeK [] [(Sum.inl (-1), V.int 0)])) = H1 at s1 h1 hr1
    refine ⟨_, rfl, tu, c, ws, rfl, hc.same s1, hV, by omega, fun bl H2 hbl hbn s2 => ?_⟩
    have hb2 : SqB K false H2 bl (bvals ws) := SqL.of hbl
    have s02 := s1.trans s2
    have bvl : (bvals ws).length = ws.length := by unfold bvals; simp
    refine ⟨bl, rfl, ⟨_, hb2⟩, for_enum (K := K) (tu := false) (l := bl) (xs := bvals ws) (fun i σ H3 => ∃ (v4 v5 v6 : Option V) (L : List V) (kvs : List (Key × V)), σ = [some (.ref p), some (.ref c), some (.ref rl), some (.ref wd), v4, v5, v6] ∧ Same H H3 ∧ H3 bl = some (.lst (bvals ws)) ∧ H3 rl = some (.lst L) ∧ L.length = i ∧ CostsAt H3 L (costD sizes weights r0 r1 r2 r3 ws) ∧ H3 wd = some (.dK kvs) ∧ kvs.length ≤ 1 + i ∧ valV kvs (Sum.inl (-1)) = some (V.int 0) ∧ (∀ j : Nat, j < i → Kept ws j → valV kvs (Sum.inl (j : Int)) = some (V.int (wayD sizes r2 r3 ws j))))
      ⟨none, none, none, [], _, rfl, s02, hbl, s2 _ _ hr1, rfl, ⟨fun i v e => by simp at e⟩, s2 _ _ h1, Nat.le_of_eq rfl, by rw [valV_put, if_pos rfl], fun j hj => absurd hj (Nat.not_lt_zero _)⟩ (fun i σ H3 ⟨_, _, _, _, _, _, _, hb, _⟩ => SqL.of hb) ?_ ?_⟩
    · rintro i x σ H3 T0 hi ⟨v4, v5, v6, L, kvs, rfl, s3, hb3, hr3, hLl, CA, hw3, hkl, hm1, hway⟩ nT
      have hil : i < ws.length := by have := (List.getElem?_eq_some_iff.mp hi).1; omega
      have ews : ws[i]? = some ws[i] := List.getElem?_eq_getElem hil
      generalize ws[i] = w at ews
      have hx : x = bvAt ws i := by
        unfold bvals at hi
        rw [List.getElem?_map, List.getElem?_range hil] at hi
        exact (Option.some.inj hi).symm
      rw [bvAt_at ews] at hx
      refine ⟨T0, _, rfl, SqT.of upd_same, rfl, _, _, rfl, _, _, rfl, rfl, ?_⟩
      have s4 : Same H3 (upd H3 T0 (.tup [V.int (i : Int), x])) := Same.new nT
      generalize upd H3 T0 (.tup [V.int (i : Int), x]) = H4 at s4
      have s04 := s3.trans s4
      have hr4 := s4 _ _ hr3
      have hw4 := s4 _ _ hw3
      have hb4 := s4 _ _ hb3
      have T4 := hT.keep s04
      refine ⟨_, rfl, rfl, _, rfl, ?_⟩
      have nrw : rl ≠ wd := nwr.symm
      by_cases e : w = wN
      · have hx : x = V.non := by rw [hx, e, bOf_N]; rfl
        refine iteY hx ?_
        refine ⟨_, rfl, .inl ⟨rfl, _, SqL.of hr4⟩, (by show 3 ≤ sizeLine; decide), fun t ht => ?_⟩
        have nrt : rl ≠ t := ne_of_none hr4 ht
        refine ⟨rl, _, _, rfl, rfl, Same.new ht _ _ hr4, small1000 (by omega), ?_⟩
        have k6 : ∀ b o, H4 b = some o → b ≠ rl → upd (upd H4 t (.tup [V.non, V.non, V.int 0])) rl (.lst (L ++ [V.ref t])) b = some o := fun b o e hb => by rw [upd_ne hb]; exact Same.new ht _ _ e
        have kT : ∀ b xs, H4 b = some (.tup xs) → upd (upd H4 t (.tup [V.non, V.non, V.int 0])) rl (.lst (L ++ [V.ref t])) b = some (.tup xs) := fun b xs e => k6 b _ e (ne_of e hr4 (by intro z; cases z))
        refine ⟨_, _, _, L ++ [V.ref t], kvs, rfl, fun b o e => k6 b o (s04 b o e) (ne_of_none e hrl), k6 _ _ hb4 (ne_of_none hr1 hbn).symm, upd_same, by simp [hLl], (CA.mono fun b xs e => kT b xs (s4 _ _ e)).snoc (x := V.non) (y := V.non) ?_, k6 _ _ hw4 nrw.symm, by omega, hm1, fun j hj hk => ?_⟩
        · rw [upd_ne nrt.symm, upd_same, hLl]
          unfold costD
          rw [if_pos (by rw [ews, e])]
        · by_cases hji : j = i
          · subst hji
            obtain ⟨y, ey, hy⟩ := hk
            rw [ews] at ey; cases ey
            exact absurd e hy
          · exact hway j (by omega) hk
      · have hbase := hV.base ews e
        have hx : x = V.int (baseI ws i) := by rw [hx, hbase]; rfl
        subst hx
        refine iteN (by intro h; cases h) ?_
        obtain ⟨dx, t1, t2, t3, TL, g1, g2, g3, g4, g5⟩ := id T4
        obtain ⟨row, erow, esz, z0, z1⟩ := F.sz ws (d := i) (by omega)
        have TLl := g3.len
        obtain ⟨ra, eTL⟩ : ∃ ra, TL[i]? = some ra := ⟨_, List.getElem?_eq_getElem (by omega)⟩
        have hrow := g3.get i ra row eTL erow
        have bb := baseI_ge ws i
        have blt := baseI_lt ws i
        refine ⟨_, rfl, p, C_Task, dx, _, _, rfl, g1, T.cl_Task, T.n_Task_sizes, lk_sizes, _, rfl, t1, _, _, V.ref ra, rfl, rfl, SqT.of g2, atI_nat (by rw [List.getElem?_map, eTL]; rfl), _, rfl, _, _, rfl, rfl, ra, _, _, V.int (szD sizes ws i), rfl, rfl, SqT.of hrow, (by rw [show baseI ws i + 1 = (((baseI ws i + 1).toNat : Nat) : Int) by omega]; exact atI_nat (by rw [List.getElem?_map, esz]; rfl)), ?_⟩
        have hvb : valV kvs (Sum.inl (baseI ws i)) = some (V.int (wayDI sizes r2 r3 ws (baseI ws i))) := by
          rcases baseI_cases ws i with h | ⟨j, h, hj, hk⟩
          · rw [h, wayDI_neg]; exact hm1
          · rw [h, wayDI_nat]; exact hway j hj hk
        have lp := length_putK kvs (Sum.inl (i : Int)) (V.int (wayD sizes r2 r3 ws i))
        refine ⟨_, rfl, _, rfl, wd, V.int (wayDI sizes r2 r3 ws (baseI ws i)), rfl, hvb ▸ DGet.k (k := Sum.inl (baseI ws i)) hw4, _, rfl, _, rfl, p, sizes, weights, r0, r1, r2, r3, szD sizes ws i, rfl, T4, F, _, _, rfl, rfl, _, rfl, _, rfl, wd, _, rfl, DPut.k (k := Sum.inl (i : Int)) hw4 (small1000 (by omega)), ?_⟩
        have ewy : wayDI sizes r2 r3 ws (baseI ws i) + (r2 + r3 * szD sizes ws i) = wayD sizes r2 r3 ws i := by rw [wayD_eq]; exact Int.add_comm _ _
        have k5 : ∀ b o, H4 b = some o → b ≠ wd → upd H4 wd (.dK (putK kvs (Sum.inl (i : Int)) (V.int (wayDI sizes r2 r3 ws (baseI ws i) + (r2 + r3 * szD sizes ws i))))) b = some o := fun b o e hb => by rw [upd_ne hb]; exact e
        have hw5 : upd H4 wd (.dK (putK kvs (Sum.inl (i : Int)) (V.int (wayDI sizes r2 r3 ws (baseI ws i) + (r2 + r3 * szD sizes ws i))))) wd = some (.dK (putK kvs (Sum.inl (i : Int)) (V.int (wayDI sizes r2 r3 ws (baseI ws i) + (r2 + r3 * szD sizes ws i))))) := upd_same
        generalize upd H4 wd (.dK (putK kvs (Sum.inl (i : Int)) (V.int (wayDI sizes r2 r3 ws (baseI ws i) + (r2 + r3 * szD sizes ws i))))) = H5 at k5 hw5
        rw [ewy] at hw5
        have kT5 : ∀ b xs, H4 b = some (.tup xs) → H5 b = some (.tup xs) := fun b xs e => k5 b _ e (ne_of e hw4 (by intro z; cases z))
        have hr5 := k5 rl _ hr4 nrw
        have hb5 := k5 bl _ hb4 (ne_of hb4 hw4 (by intro z; cases z))
        have T5 : TaskAt C_Task H5 p sizes weights [r0, r1, r2, r3] := ⟨dx, t1, t2, t3, TL, k5 _ _ g1 (ne_of g1 hw4 (by intro z; cases z)), kT5 _ _ g2, g3.keep kT5, kT5 _ _ g4, kT5 _ _ g5⟩
        have hvi : valV (putK kvs (Sum.inl (i : Int)) (V.int (wayD sizes r2 r3 ws i))) (Sum.inl (i : Int)) = some (V.int (wayD sizes r2 r3 ws i)) := by rw [valV_put, if_pos rfl]
        refine ⟨_, rfl, .inl ⟨rfl, _, SqL.of hr5⟩, _, rfl, _, rfl, _, rfl, wd, V.int (wayD sizes r2 r3 ws i), rfl, hvi ▸ DGet.k (k := Sum.inl (i : Int)) hw5, _, rfl, _, rfl, _, rfl, _, rfl, _, rfl, wd, V.int (wayD sizes r2 r3 ws i), rfl, hvi ▸ DGet.k (k := Sum.inl (i : Int)) hw5, p, sizes, weights, r0, r1, r2, r3, szD sizes ws i, wayD sizes r2 r3 ws i, i, rfl, T5, F, by omega, z0, z1, (by show 3 ≤ sizeLine; decide), fun t ht => ?_⟩
        have nrt : rl ≠ t := ne_of_none hr5 ht
        refine ⟨rl, _, _, rfl, rfl, Same.new ht _ _ hr5, small1000 (by omega), ?_⟩
        have ecost : costD sizes weights r0 r1 r2 r3 ws i = (r0 + r1 * ((sizes.length : Int) - (i : Int))) * szD sizes ws i + weights.getD i 0 * wayD sizes r2 r3 ws i := by
          unfold costD
          rw [if_neg (by rw [ews]; intro h; exact e (Option.some.inj h))]
        rw [← ecost]
        have k6 : ∀ b o, H5 b = some o → b ≠ rl → upd (upd H5 t (.tup [V.int (szD sizes ws i), V.int (wayD sizes r2 r3 ws i), V.int (costD sizes weights r0 r1 r2 r3 ws i)])) rl (.lst (L ++ [V.ref t])) b = some o := fun b o e hb => by rw [upd_ne hb]; exact Same.new ht _ _ e
        have kT : ∀ b xs, H5 b = some (.tup xs) → upd (upd H5 t (.tup [V.int (szD sizes ws i), V.int (wayD sizes r2 r3 ws i), V.int (costD sizes weights r0 r1 r2 r3 ws i)])) rl (.lst (L ++ [V.ref t])) b = some (.tup xs) := fun b xs e => k6 b _ e (ne_of e hr5 (by intro z; cases z))
        refine ⟨_, _, _, L ++ [V.ref t], putK kvs (Sum.inl (i : Int)) (V.int (wayD sizes r2 r3 ws i)), rfl, fun b o e => k6 b o (k5 b o (s04 b o e) (ne_of_none e hwd0)) (ne_of_none e hrl), k6 _ _ hb5 (ne_of_none hr1 hbn).symm, upd_same, by simp [hLl], (CA.mono fun b xs e => kT b xs (kT5 _ _ (s4 _ _ e))).snoc (x := V.int (szD sizes ws i)) (y := V.int (wayD sizes r2 r3 ws i)) ?_, k6 _ _ hw5 nrw.symm, by omega, ?_, fun j hj hk => ?_⟩
        · rw [upd_ne nrt.symm, upd_same, hLl]
        · rw [valV_put, if_neg (fun z => by have := Sum.inl.inj z; omega)]; exact hm1
        · rw [valV_put]
          by_cases hji : j = i
          · subst hji; rw [if_pos rfl]
          · rw [if_neg (fun z => by have := Sum.inl.inj z; omega)]; exact hway j (by omega) hk
    · rintro σ H3 ⟨v4, v5, v6, L, kvs, rfl, s3, hb3, hr3, hLl, CA, hw3, hkl, hm1, hway⟩
      exact ⟨_, rfl, q rl L H3 hr3 (by omega) CA s3⟩
theorem ok_cost_of {f : Addr} {fd : FuncData} (F : Fun K "cost_of" "cost_of" s_cost_of f fd) (T : Txt K mg t_MOST_PLANNED C_KeepError C_NoPlan C_Task) (D_costs_of : DefX P w K mg base "costs_of" 3 ["task", "choices"] (sp_costs K C_Task)) : FnOk P w K mg base (CXx P w) 4 f fd ["task", "choices"] (sp_cost K C_Task) := by
  refine F.okX sc_cost_of (fun vs H Q E h => ?_) (fun cdv A outer s H vs Q E hr h => ?_)
  · obtain ⟨p, c, tu, sizes, weights, r0, r1, r2, r3, ws, rfl, hT, F, hc, hV, hle, q⟩ := h; rfl
  · obtain ⟨p, c, tu, sizes, weights, r0, r1, r2, r3, ws, rfl, hT, F, hc, hV, hle, q⟩ := h
    refine ⟨_, (pss_one (ps_ret (pe_callB (call_sum_int rfl) (by rfl) T.b_sum PyProof.Rows.boot_sum (pa_cons (pe_comp (N := ["row"]) (k := 1) (cap := []) rfl rfl (pi_list (pe_callS D_costs_of passesN (hr.mono (by decide)) rfl (pa_cons (pv 0) (pa_cons (pv 1) pa_nil)))) (fun _ _ _ _ => (pg_name (i := 0) (show (["row"] : List Str).Nodup from by decide +kernel) rfl (Or.inl rfl) (.inr rfl))) (fun _ _ _ _ => pts_nil) (fun _ _ _ _ => (pe_ix (ix_tupK (K := K) rfl) (pv 0) pe_int (fun _ _ => rfl)))) pa_nil)))), ?_⟩
    have n7 := F.n7
    refine ⟨_, rfl, _, rfl, p, c, tu, sizes, weights, r0, r1, r2, r3, ws, rfl, hT, F, hc, hV, hle, fun l L H1 hl hLl CA s1 => ⟨l, rfl, ⟨_, SqL.of hl⟩, fun D hD => ?_⟩⟩
    refine comp_list D (K := K) (a := l) (xs := L) (fun i σ H2 ys => ∃ (v : Option V), σ = [v] ∧ Same H1 H2 ∧ H2 D = some (.lst ys) ∧ ys = ((List.range i).map (costD sizes weights r0 r1 r2 r3 ws)).map V.int) ⟨none, rfl, Same.new hD, upd_same, rfl⟩ (fun i σ H2 ys _ ⟨_, _, s2, _⟩ => SqL.of (s2 _ _ hl)) ?_ ?_
    · rintro i x σ H2 ys hi ⟨v, rfl, s2, hD2, hy⟩
      have hil : i < L.length := (List.getElem?_eq_some_iff.mp hi).1
      obtain ⟨t, x1, x2, rfl, ht⟩ := CA.get i x hi
      refine ⟨_, rfl, t, _, _, V.int (costD sizes weights r0 r1 r2 r3 ws i), rfl, rfl, SqT.of (s2 _ _ ht), rfl, hD2, (by rw [hy]; exact small1000 (by simp; omega)), _, rfl, fun b o e => ?_, upd_same, ?_⟩
      · rw [upd_ne (ne_of_none e hD)]; exact s2 b o e
      · rw [hy, List.range_succ]; simp
    rintro σ H2 ys ⟨v, rfl, s2, hD2, hy⟩
    subst hy
    refine ⟨D, _, rfl, SqL.of hD2, ?_⟩
    rw [sum_range, hLl]
    exact q H2 (s1.trans s2)
theorem ok__law_bases {f : Addr} {fd : FuncData} (F : Fun K "_law_bases" "_law_bases" s__law_bases f fd) (T : Txt K mg t_MOST_PLANNED C_KeepError C_NoPlan C_Task)  : FnOk P w K mg base (CXx P w) 1 f fd ["_law_choices"] (sp_lbases) := by
  refine F.okX sc__law_bases (fun vs H Q E h => ?_) (fun cdv A outer s H vs Q E hr h => ?_)
  · obtain ⟨c, ws, rfl, hc, hV, h7, q⟩ := h; rfl
  · obtain ⟨c, ws, rfl, hc, hV, h7, q⟩ := h
    refine ⟨_, (pss_cons (ps_set (i := 1) sc__law_bases.nd rfl (Or.inl rfl) (pe_lst pa_nil))
      (pss_cons (ps_set (i := 2) sc__law_bases.nd rfl (Or.inl rfl) (pe_un un_neg pe_int))
      (pss_cons (ps_set (i := 3) sc__law_bases.nd rfl (Or.inl rfl) (pe_un un_neg pe_int))
      (pss_cons (ps_for PassesOwn.leaving rfl (pi_enum true rfl T.b_enumerate (pa_cons (pv 0) pa_nil)) (pg_tup rfl (pgs_cons (pg_name (i := 4) sc__law_bases.nd rfl (Or.inl rfl)) (pgs_cons (pg_name (i := 5) sc__law_bases.nd rfl (Or.inl rfl)) pgs_nil)))
      (pss_cons (ps_if (pt_cmpR op_eq (pv 5) pe_str (nomark _)) (pss_one (ps_expr (pe_bm PySem.F.plainAttrs_list PySem.F.slot_list_append PySem.F.type_list_append mt_append (pv 1) (pa_cons (pv 2) pa_nil)))) (pss_one (ps_if (pt_cmpR op_eq (pv 5) pe_str (nomark _)) (pss_one (ps_expr (pe_bm PySem.F.plainAttrs_list PySem.F.slot_list_append PySem.F.type_list_append mt_append (pv 1) (pa_cons (pv 3) pa_nil)))) (pss_one (ps_expr (pe_bm PySem.F.plainAttrs_list PySem.F.slot_list_append PySem.F.type_list_append mt_append (pv 1) (pa_cons (pe_un un_neg pe_int) pa_nil)))))))
      (pss_cons (ps_if (pt_cmpR op_eq (pv 5) pe_str (nomark _)) (pss_one (ps_set (i := 2) sc__law_bases.nd rfl (Or.inl rfl) (pv 4))) pss_nil)
      (pss_one (ps_if (pt_cmpR op_ne (pv 5) pe_str (nomark _)) (pss_one (ps_set (i := 3) sc__law_bases.nd rfl (Or.inl rfl) (pv 4))) pss_nil)))))
      (pss_one (ps_ret (pv 1))))))), ?_⟩
    refine ⟨Nat.zero_le _, fun bl hbl => ?_⟩
    refine ⟨_, rfl, ?_⟩
    refine ⟨_, rfl, ?_⟩
    have s0 : Same H (upd H bl (.lst [])) := Same.new hbl
    refine ⟨_, rfl, c, rfl, ⟨_, SqT.of (s0 _ _ hc)⟩, for_enum (K := K) (tu := true) (l := c) (xs := ws.map V.str) (fun i σ H2 => ∃ (v4 v5 : Option V), σ = [some (.ref c), some (.ref bl), some (.int (((lastIx isW (ws.take i)).map (fun j : Nat => (j : Int))).getD (-1))), some (.int (((lastIx isK (ws.take i)).map (fun j : Nat => (j : Int))).getD (-1))), v4, v5] ∧ Same H H2 ∧ H2 bl = some (.lst (((List.range i).map (baseI ws)).map V.int))) ⟨none, none, rfl, s0, upd_same⟩ (fun i σ H2 ⟨_, _, _, s2, _⟩ => SqT.of (s2 _ _ hc)) ?_ ?_⟩
    · rintro i x σ H2 T0 hi ⟨v4, v5, rfl, s2, hb2⟩ nT
      obtain ⟨w, hw, rfl⟩ := str_at hi
      have hil : i < ws.length := (List.getElem?_eq_some_iff.mp hw).1
      have htk : ws.take (i + 1) = ws.take i ++ [w] := by rw [List.take_add_one, hw]; rfl
      have hlen : (ws.take i).length = i := by rw [List.length_take]; omega
      refine ⟨T0, _, rfl, SqT.of upd_same, rfl, _, _, rfl, _, _, rfl, rfl, ?_⟩
      have s3 : Same H2 (upd H2 T0 (.tup [V.int (i : Int), V.str w])) := Same.new nT
      generalize upd H2 T0 (.tup [V.int (i : Int), V.str w]) = H3 at s3
      have s03 := s2.trans s3
      have hb3 := s3 _ _ hb2
      rcases hV.four hw with hw4 | hw4 | hw4 | hw4
      · subst hw4
        have eb : baseI ws i = -1 := by rw [baseI_at hw, bOf_N]; rfl
        have eW : (lastIx isW (ws.take (i + 1))).map (fun j : Nat => (j : Int)) = (lastIx isW (ws.take i)).map (fun j : Nat => (j : Int)) := by rw [htk, lastIx_snoc, if_neg (by decide +kernel)]
        have eK : (lastIx isK (ws.take (i + 1))).map (fun j : Nat => (j : Int)) = (lastIx isK (ws.take i)).map (fun j : Nat => (j : Int)) := by rw [htk, lastIx_snoc, if_neg (by decide +kernel)]
        refine ⟨_, rfl, rfl, _, rfl, ?_⟩
        refine iteN (by decide +kernel) ?_
        refine ⟨_, rfl, rfl, _, rfl, ?_⟩
        refine iteN (by decide +kernel) ?_
        refine ⟨_, rfl, .inl ⟨rfl, _, SqL.of hb3⟩, _, rfl, bl, _, _, rfl, rfl, hb3, (by exact small1000 (by simp; omega)), ?_⟩
        refine ⟨_, rfl, rfl, _, rfl, ?_⟩
        refine iteN (by decide +kernel) ?_
        refine ⟨_, rfl, rfl, _, rfl, ?_⟩
        refine iteNS rfl ?_
        exact ⟨_, _, by rw [eW, eK]; rfl, fun b o e => by rw [upd_ne (ne_of_none e hbl)]; exact s03 b o e, by rw [upd_same, List.range_succ, List.map_append, List.map_append, List.map_cons, List.map_cons, List.map_nil, List.map_nil, eb]⟩
      · subst hw4
        have eb : baseI ws i = -1 := by rw [baseI_at hw, bOf_W]; rfl
        have eW : (lastIx isW (ws.take (i + 1))).map (fun j : Nat => (j : Int)) = some (i : Int) := by rw [htk, lastIx_snoc, if_pos (by decide +kernel), hlen]; rfl
        have eK : (lastIx isK (ws.take (i + 1))).map (fun j : Nat => (j : Int)) = some (i : Int) := by rw [htk, lastIx_snoc, if_pos (by decide +kernel), hlen]; rfl
        refine ⟨_, rfl, rfl, _, rfl, ?_⟩
        refine iteN (by decide +kernel) ?_
        refine ⟨_, rfl, rfl, _, rfl, ?_⟩
        refine iteN (by decide +kernel) ?_
        refine ⟨_, rfl, .inl ⟨rfl, _, SqL.of hb3⟩, _, rfl, bl, _, _, rfl, rfl, hb3, (by exact small1000 (by simp; omega)), ?_⟩
        refine ⟨_, rfl, rfl, _, rfl, ?_⟩
        refine iteY rfl ?_
        refine ⟨_, rfl, ?_⟩
        refine ⟨_, rfl, rfl, _, rfl, ?_⟩
        refine iteNN (by decide +kernel) ?_
        refine ⟨_, rfl, ?_⟩
        exact ⟨_, _, by rw [eW, eK]; rfl, fun b o e => by rw [upd_ne (ne_of_none e hbl)]; exact s03 b o e, by rw [upd_same, List.range_succ, List.map_append, List.map_append, List.map_cons, List.map_cons, List.map_nil, List.map_nil, eb]⟩
      · subst hw4
        have eb : baseI ws i = ((lastIx isW (ws.take i)).map (fun j : Nat => (j : Int))).getD (-1) := by rw [baseI_at hw, bOf_S]
        have eW : (lastIx isW (ws.take (i + 1))).map (fun j : Nat => (j : Int)) = (lastIx isW (ws.take i)).map (fun j : Nat => (j : Int)) := by rw [htk, lastIx_snoc, if_neg (by decide +kernel)]
        have eK : (lastIx isK (ws.take (i + 1))).map (fun j : Nat => (j : Int)) = some (i : Int) := by rw [htk, lastIx_snoc, if_pos (by decide +kernel), hlen]; rfl
        refine ⟨_, rfl, rfl, _, rfl, ?_⟩
        refine iteY rfl ?_
        refine ⟨_, rfl, .inl ⟨rfl, _, SqL.of hb3⟩, _, rfl, bl, _, _, rfl, rfl, hb3, (by exact small1000 (by simp; omega)), ?_⟩
        refine ⟨_, rfl, rfl, _, rfl, ?_⟩
        refine iteN (by decide +kernel) ?_
        refine ⟨_, rfl, rfl, _, rfl, ?_⟩
        refine iteNN (by decide +kernel) ?_
        refine ⟨_, rfl, ?_⟩
        exact ⟨_, _, by rw [eW, eK]; rfl, fun b o e => by rw [upd_ne (ne_of_none e hbl)]; exact s03 b o e, by rw [upd_same, List.range_succ, List.map_append, List.map_append, List.map_cons, List.map_cons, List.map_nil, List.map_nil, eb]⟩
      · subst hw4
        have eb : baseI ws i = ((lastIx isK (ws.take i)).map (fun j : Nat => (j : Int))).getD (-1) := by rw [baseI_at hw, bOf_L]
        have eW : (lastIx isW (ws.take (i + 1))).map (fun j : Nat => (j : Int)) = (lastIx isW (ws.take i)).map (fun j : Nat => (j : Int)) := by rw [htk, lastIx_snoc, if_neg (by decide +kernel)]
        have eK : (lastIx isK (ws.take (i + 1))).map (fun j : Nat => (j : Int)) = some (i : Int) := by rw [htk, lastIx_snoc, if_pos (by decide +kernel), hlen]; rfl
        refine ⟨_, rfl, rfl, _, rfl, ?_⟩
        refine iteN (by decide +kernel) ?_
        refine ⟨_, rfl, rfl, _, rfl, ?_⟩
        refine iteY rfl ?_
        refine ⟨_, rfl, .inl ⟨rfl, _, SqL.of hb3⟩, _, rfl, bl, _, _, rfl, rfl, hb3, (by exact small1000 (by simp; omega)), ?_⟩
        refine ⟨_, rfl, rfl, _, rfl, ?_⟩
        refine iteN (by decide +kernel) ?_
        refine ⟨_, rfl, rfl, _, rfl, ?_⟩
        refine iteNN (by decide +kernel) ?_
        refine ⟨_, rfl, ?_⟩
        exact ⟨_, _, by rw [eW, eK]; rfl, fun b o e => by rw [upd_ne (ne_of_none e hbl)]; exact s03 b o e, by rw [upd_same, List.range_succ, List.map_append, List.map_append, List.map_cons, List.map_cons, List.map_nil, List.map_nil, eb]⟩
    · rintro σ H2 ⟨v4, v5, rfl, s2, hb2⟩
      rw [List.length_map] at hb2
      exact ⟨_, rfl, q bl H2 hb2 hbl s2⟩
theorem ok__law_cost {f : Addr} {fd : FuncData} (F : Fun K "_law_cost" "_law_cost" s__law_cost f fd) (T : Txt K mg t_MOST_PLANNED C_KeepError C_NoPlan C_Task) (D__law_bases : DefX P w K mg base "_law_bases" 1 ["_law_choices"] sp_lbases) : FnOk P w K mg base (CXx P w) 2 f fd ["_law_plain_here", "_law_choices"] (sp_lcost) := by
  refine F.okX sc__law_cost (fun vs H Q E h => ?_) (fun cdv A outer s H vs Q E hr h => ?_)
  · obtain ⟨t, ls, lw, lr, c, SL, sizes, weights, r0, r1, r2, r3, ws, rfl, P, F, hc, hV, hle, q⟩ := h; rfl
  · obtain ⟨t, ls, lw, lr, c, SL, sizes, weights, r0, r1, r2, r3, ws, rfl, P, F, hc, hV, hle, q⟩ := h
    refine ⟨_, (pss_cons (ps_asg (pv 0) (pg_tup rfl (pgs_cons (pg_name (i := 2) sc__law_cost.nd rfl (Or.inl rfl)) (pgs_cons (pg_name (i := 3) sc__law_cost.nd rfl (Or.inl rfl)) (pgs_cons (pg_name (i := 4) sc__law_cost.nd rfl (Or.inl rfl)) pgs_nil)))))
      (pss_cons (ps_set (i := 5) sc__law_cost.nd rfl (Or.inl rfl) (pe_callS D__law_bases passesN (hr.mono (by decide)) rfl (pa_cons (pv 1) pa_nil)))
      (pss_cons (ps_set (i := 6) sc__law_cost.nd rfl (Or.inl rfl) pe_int)
      (pss_cons (ps_for PassesOwn.leaving rfl (pi_enum true rfl T.b_enumerate (pa_cons (pv 1) pa_nil)) (pg_tup rfl (pgs_cons (pg_name (i := 7) sc__law_cost.nd rfl (Or.inl rfl)) (pgs_cons (pg_name (i := 8) sc__law_cost.nd rfl (Or.inl rfl)) pgs_nil)))
      (pss_one (ps_if (pt_cmpR op_ne (pv 8) pe_str (nomark _)) (pss_cons (ps_set (i := 9) sc__law_cost.nd rfl (Or.inl rfl) (pe_op op_sub (pe_callB call_len_seq (by rfl) T.b_len PySem.boot_len (pa_cons (pv 3) pa_nil)) (pv 7)))
      (pss_cons (ps_set (i := 10) sc__law_cost.nd rfl (Or.inl rfl) (pe_ix ix_list (pe_ix ix_list (pv 2) (pv 7) (fun _ _ => rfl)) (pe_op op_add (pe_ix ix_list (pv 5) (pv 7) (fun _ _ => rfl)) pe_int) (fun _ _ => rfl)))
      (pss_cons (ps_set (i := 6) sc__law_cost.nd rfl (Or.inl rfl) (pe_op op_add (pv 6) (pe_op op_mul (pe_op op_add (pe_ix ix_list (pv 4) pe_int (fun _ _ => rfl)) (pe_op op_mul (pe_ix ix_list (pv 4) pe_int (fun _ _ => rfl)) (pv 9))) (pv 10))))
      (pss_cons (ps_set (i := 11) sc__law_cost.nd rfl (Or.inl rfl) (pv 7))
      (pss_one (ps_while PassesOwn.leaving (pt_cmpR op_ge (pv 11) pe_int (nomark _)) (pss_cons (ps_set (i := 10) sc__law_cost.nd rfl (Or.inl rfl) (pe_ix ix_list (pe_ix ix_list (pv 2) (pv 11) (fun _ _ => rfl)) (pe_op op_add (pe_ix ix_list (pv 5) (pv 11) (fun _ _ => rfl)) pe_int) (fun _ _ => rfl)))
      (pss_cons (ps_set (i := 6) sc__law_cost.nd rfl (Or.inl rfl) (pe_op op_add (pv 6) (pe_op op_mul (pe_ix ix_list (pv 3) (pv 7) (fun _ _ => rfl)) (pe_op op_add (pe_ix ix_list (pv 4) pe_int (fun _ _ => rfl)) (pe_op op_mul (pe_ix ix_list (pv 4) pe_int (fun _ _ => rfl)) (pv 10))))))
      (pss_one (ps_set (i := 11) sc__law_cost.nd rfl (Or.inl rfl) (pe_ix ix_list (pv 5) (pv 11) (fun _ _ => rfl)))))))))))) pss_nil)))
      (pss_one (ps_ret (pv 6))))))), ?_⟩
    have n7 := F.n7
    have nw := F.nw
    refine ⟨_, rfl, t, _, rfl, SqT.of P.t, rfl, _, _, rfl, _, _, rfl, _, _, rfl, rfl, ?_⟩
    refine ⟨_, rfl, c, ws, rfl, hc, hV, by omega, fun bl H1 hbl hbn s1 => ?_⟩
    have P1 := P.keep s1
    have hc1 := s1 _ _ hc
    refine ⟨_, rfl, c, rfl, ⟨_, SqT.of hc1⟩, for_enum (K := K) (tu := true) (l := c) (xs := ws.map V.str) (fun i σ H2 => ∃ (v7 v8 v9 v10 v11 : Option V), σ = [some (.ref t), some (.ref c), some (.ref ls), some (.ref lw), some (.ref lr), some (.ref bl), some (.int (sumTo (costD sizes weights r0 r1 r2 r3 ws) i)), v7, v8, v9, v10, v11] ∧ Same H1 H2) ⟨none, none, none, none, none, rfl, Same.refl _⟩ (fun i σ H2 ⟨_, _, _, _, _, _, s2⟩ => SqT.of (s2 _ _ hc1)) ?_ ?_⟩
    · rintro i x σ H2 T0 hi ⟨v7, v8, v9, v10, v11, rfl, s2⟩ nT
      obtain ⟨w, hw, rfl⟩ := str_at hi
      have hil : i < ws.length := (List.getElem?_eq_some_iff.mp hw).1
      refine ⟨T0, _, rfl, SqT.of upd_same, rfl, _, _, rfl, _, _, rfl, rfl, ?_⟩
      have s3 : Same H2 (upd H2 T0 (.tup [V.int (i : Int), V.str w])) := Same.new nT
      generalize upd H2 T0 (.tup [V.int (i : Int), V.str w]) = H3 at s3
      have s13 := s2.trans s3
      have P3 := P1.keep s13
      have hb3 := s13 _ _ hbl
      refine ⟨_, rfl, rfl, _, rfl, ?_⟩
      by_cases e : w = wN
      · refine iteNS (by rw [e]) ?_
        refine ⟨some (.int (i : Int)), some (.str w), v9, v10, v11, ?_, s13⟩
        show _ = [_, _, _, _, _, _, some (V.int (sumTo (costD sizes weights r0 r1 r2 r3 ws) i + (costD sizes weights r0 r1 r2 r3 ws) i)), _, _, _, _, _]
        have : (costD sizes weights r0 r1 r2 r3 ws) i = 0 := by unfold costD; rw [if_pos (by rw [hw, e])]
        rw [this, Int.add_zero]; rfl
      refine iteNN (fun h => e (V.str.inj h)) ?_
      have at1 : ∀ {k : Nat}, k < ws.length → ∃ (row : List Int) (ra : Addr), SL[k]? = some ra ∧ H3 ra = some (.lst (row.map V.int)) ∧ atI (row.map V.int) (baseI ws k + 1) = some (V.int (szD sizes ws k)) ∧ atI (SL.map V.ref) (k : Int) = some (V.ref ra) ∧ atI (((List.range ws.length).map (baseI ws)).map V.int) (k : Int) = some (V.int (baseI ws k)) ∧ 0 ≤ szD sizes ws k ∧ szD sizes ws k ≤ 1000000000000 := fun {k} hk => by
        obtain ⟨row, erow, esz, z0, z1⟩ := F.sz ws (d := k) (by omega)
        have Rl := P3.rows.len
        obtain ⟨ra, era⟩ : ∃ ra, SL[k]? = some ra := ⟨_, List.getElem?_eq_getElem (by omega)⟩
        have bb := baseI_ge ws k
        refine ⟨row, ra, era, P3.rows.get k ra row era erow, ?_, atI_nat (by rw [List.getElem?_map, era]; rfl), atI_nat (by rw [List.getElem?_map, List.getElem?_map, List.getElem?_range hk]; rfl), z0, z1⟩
        rw [show baseI ws k + 1 = (((baseI ws k + 1).toNat : Nat) : Int) by omega]
        exact atI_nat (by rw [List.getElem?_map, esz]; rfl)
      obtain ⟨row, ra, era, hrow, esz, eSL, ebl, z0, z1⟩ := at1 hil
      have ew : weights[i]? = some (weights.getD i 0) := by
        rw [List.getD_eq_getElem?_getD, List.getElem?_eq_getElem (show i < weights.length by omega)]; rfl
      have bw := F.b2 _ (List.mem_of_getElem? ew)
      have br1 := F.b3 r1 (by simp)
      have br3 := F.b3 r3 (by simp)
      refine ⟨_, rfl, lw, _, rfl, .inl (SqL.of P3.lw), _, rfl, _, _, rfl, rfl, ?_⟩
      rw [List.length_map, nw]
      refine ⟨_, rfl, _, rfl, ls, _, _, V.ref ra, rfl, rfl, SqL.of P3.ls, eSL, _, rfl, _, rfl, bl, _, _, V.int (baseI ws i), rfl, rfl, SqL.of hb3, ebl, _, _, rfl, rfl, ra, _, _, V.int (szD sizes ws i), rfl, rfl, SqL.of hrow, esz, ?_⟩
      refine ⟨_, rfl, _, rfl, lr, _, _, V.int r0, rfl, rfl, SqL.of P3.lr, rfl, _, rfl, lr, _, _, V.int r1, rfl, rfl, SqL.of P3.lr, rfl, _, rfl, _, _, rfl, rfl, .inl ⟨by omega, by omega⟩, _, _, rfl, rfl, _, rfl, _, _, rfl, rfl, .inr ⟨by omega, by omega⟩, _, _, rfl, rfl, ?_⟩
      refine ⟨_, rfl, ?_⟩
      obtain ⟨T1, hT1⟩ : ∃ T1 : Int, T1 = sumTo (costD sizes weights r0 r1 r2 r3 ws) i + (r0 + r1 * ((sizes.length : Int) - (i : Int))) * szD sizes ws i := ⟨_, rfl⟩
      refine ⟨fun m σ H4 => ∃ (hh tot : Int) (v10 : Option V), m = (hh + 1).toNat ∧ σ = [some (.ref t), some (.ref c), some (.ref ls), some (.ref lw), some (.ref lr), some (.ref bl), some (.int tot), some (.int (i : Int)), some (.str w), some (.int ((sizes.length : Int) - (i : Int))), v10, some (.int hh)] ∧ H4 = H3 ∧ -1 ≤ hh ∧ hh ≤ (i : Int) ∧ tot = T1 + weights.getD i 0 * (wayD sizes r2 r3 ws i - wayDI sizes r2 r3 ws hh), ⟨_, (i : Int), sumTo (costD sizes weights r0 r1 r2 r3 ws) i + (r0 + r1 * ((sizes.length : Int) - (i : Int))) * szD sizes ws i, some (.int (szD sizes ws i)), rfl, rfl, rfl, by omega, by omega, by rw [wayDI_nat, Int.sub_self, Int.mul_zero, Int.add_zero, hT1]⟩, ?_⟩
      rintro m σ H4 ⟨hh, tot, v10, rfl, rfl, rfl, h0, h1, htot⟩
      refine ⟨_, rfl, _, _, rfl, rfl, _, rfl, ?_⟩
      by_cases hp : hh ≥ 0
      · refine iteY hp ?_
        refine ⟨_, fun σ' H' h => h, ?_⟩
        obtain ⟨k, rfl⟩ : ∃ k : Nat, hh = (k : Int) := ⟨hh.toNat, by omega⟩
        obtain ⟨row2, ra2, era2, hrow2, esz2, eSL2, ebl2, y0, y1⟩ := at1 (k := k) (by omega)
        have bb := baseI_ge ws k
        have blt := baseI_lt ws k
        refine ⟨_, rfl, _, rfl, ls, _, _, V.ref ra2, rfl, rfl, SqL.of P3.ls, eSL2, _, rfl, _, rfl, bl, _, _, V.int (baseI ws k), rfl, rfl, SqL.of hb3, ebl2, _, _, rfl, rfl, ra2, _, _, V.int (szD sizes ws k), rfl, rfl, SqL.of hrow2, esz2, ?_⟩
        refine ⟨_, rfl, _, rfl, _, rfl, lw, _, _, V.int (weights.getD i 0), rfl, rfl, SqL.of P3.lw, atI_nat (by rw [List.getElem?_map, ew]; rfl), _, rfl, lr, _, _, V.int r2, rfl, rfl, SqL.of P3.lr, rfl, _, rfl, lr, _, _, V.int r3, rfl, rfl, SqL.of P3.lr, rfl, _, rfl, _, _, rfl, rfl, .inl ⟨by omega, by omega⟩, _, _, rfl, rfl, _, _, rfl, rfl, .inl ⟨by omega, by omega⟩, _, _, rfl, rfl, ?_⟩
        refine ⟨_, rfl, _, rfl, bl, _, _, V.int (baseI ws k), rfl, rfl, SqL.of hb3, ebl2, ?_⟩
        refine ⟨(baseI ws k + 1).toNat, by omega, baseI ws k, _, _, rfl, rfl, rfl, by omega, by omega, ?_⟩
        rw [htot, wayDI_nat, wayD_eq sizes r2 r3 ws k, Int.mul_sub, Int.mul_sub, Int.mul_add]
        omega
      · refine iteN hp ?_
        have hm : hh = -1 := by omega
        subst hm
        refine ⟨some (.int (i : Int)), some (.str w), some (.int ((sizes.length : Int) - (i : Int))), v10, some (.int (-1)), ?_, s13⟩
        show _ = [_, _, _, _, _, _, some (V.int (sumTo (costD sizes weights r0 r1 r2 r3 ws) i + (costD sizes weights r0 r1 r2 r3 ws) i)), _, _, _, _, _]
        have ecost : (costD sizes weights r0 r1 r2 r3 ws) i = (r0 + r1 * ((sizes.length : Int) - (i : Int))) * szD sizes ws i + weights.getD i 0 * wayD sizes r2 r3 ws i := by
          unfold costD
          rw [if_neg (by rw [hw]; intro h; exact e (Option.some.inj h))]
        rw [ecost, ← Int.add_assoc, ← hT1]
        rw [wayDI_neg, Int.sub_zero] at htot
        rw [← htot]
    · rintro σ H2 ⟨v7, v8, v9, v10, v11, rfl, s2⟩
      refine ⟨_, rfl, ?_⟩
      rw [List.length_map]
      exact q H2 (s1.trans s2)
theorem ok_bound_of {f : Addr} {fd : FuncData} (F : Fun K "bound_of" "bound_of" s_bound_of f fd) (T : Txt K mg t_MOST_PLANNED C_KeepError C_NoPlan C_Task) (D_cost_of : DefX P w K mg base "cost_of" 4 ["task", "choices"] (sp_cost K C_Task)) (D_day_cost : DefX P w K mg base "day_cost" 1 ["task", "day", "size", "way"] (sp_dayc C_Task)) (D_leg_cost : DefX P w K mg base "leg_cost" 1 ["task", "size"] (sp_legc C_Task)) : FnOk P w K mg base (CXx P w) 5 f fd ["task", "choices"] (sp_bound K C_Task) := by
  refine F.okX sc_bound_of (fun vs H Q E h => ?_) (fun cdv A outer s H vs Q E hr h => ?_)
  · obtain ⟨p, c, tu, sizes, weights, r0, r1, r2, r3, ws, rfl, hT, F, hc, hV, hle, q⟩ := h; rfl
  · obtain ⟨p, c, tu, sizes, weights, r0, r1, r2, r3, ws, rfl, hT, F, hc, hV, hle, q⟩ := h
    refine ⟨_, (pss_cons (ps_set (i := 2) sc_bound_of.nd rfl (Or.inl rfl) (pe_callS D_cost_of passesN (hr.mono (by decide)) rfl (pa_cons (pv 0) (pa_cons (pv 1) pa_nil))))
      (pss_cons (ps_for PassesOwn.leaving rfl (pi_range2 rfl T.b_range (pa_cons (pe_callB call_len_seq (by rfl) T.b_len PySem.boot_len (pa_cons (pv 1) pa_nil)) (pa_cons (pe_callB call_len_seq (by rfl) T.b_len PySem.boot_len (pa_cons (pe_fld (pv 0) rfl) pa_nil)) pa_nil))) (pg_name (i := 3) sc_bound_of.nd rfl (Or.inl rfl))
      (pss_one (ps_if (pt_cmpR op_gt (pe_ix ix_tup (pe_fld (pv 0) rfl) (pv 3) (fun _ _ => rfl)) pe_int (nomark _)) (pss_cons (ps_set (i := 4) sc_bound_of.nd rfl (Or.inl rfl) (pe_callB (call_minT rfl) (by rfl) T.b_min PyProof.Rows.boot_min (pa_cons (pe_ix ix_tup (pe_fld (pv 0) rfl) (pv 3) (fun _ _ => rfl)) pa_nil)))
      (pss_one (ps_set (i := 2) sc_bound_of.nd rfl (Or.inl rfl) (pe_op op_add (pv 2) (pe_callS D_day_cost passesN (hr.mono (by decide)) rfl (pa_cons (pv 0) (pa_cons (pv 3) (pa_cons (pv 4) (pa_cons (pe_callS D_leg_cost passesN (hr.mono (by decide)) rfl (pa_cons (pv 0) (pa_cons (pv 4) pa_nil))) pa_nil))))))))) pss_nil)))
      (pss_one (ps_ret (pv 2))))), ?_⟩
    have n7 := F.n7
    have nw := F.nw
    have br1 := F.b3 r1 (by simp)
    have br3 := F.b3 r3 (by simp)
    refine ⟨_, rfl, _, rfl, p, c, tu, sizes, weights, r0, r1, r2, r3, ws, rfl, hT, F, hc, hV, hle, fun H1 s1 => ?_⟩
    have hT1 := hT.keep s1
    obtain ⟨dx, t1, t2, t3, TL, g1, g2, g3, g4, g5⟩ := id hT1
    have TLl := g3.len
    refine ⟨_, rfl, c, _, rfl, (hc.same s1).len, _, rfl, p, C_Task, dx, _, _, rfl, g1, T.cl_Task, T.n_Task_sizes, lk_sizes, t1, _, rfl, .inr (SqT.of g2), ?_⟩
    rw [List.length_map, List.length_map, TLl]
    have e0 : sumTo (costD sizes weights r0 r1 r2 r3 ws) ws.length = sumTo (bdD sizes weights r0 r1 r2 r3 ws) ws.length := sumTo_congr fun d hd => (if_pos hd).symm
    rw [e0]
    refine ⟨_, _, rfl, ⟨by omega, by omega, by omega, by omega⟩, for_range (lo := (ws.length : Int)) (n := ((sizes.length : Int) - (ws.length : Int)).toNat) (fun i σ H2 => ∃ (v3 v4 : Option V), σ = [some (.ref p), some (.ref c), some (.int (sumTo (bdD sizes weights r0 r1 r2 r3 ws) (ws.length + i))), v3, v4] ∧ H2 = H1) ⟨none, none, rfl, rfl⟩ ?_ ?_⟩
    · rintro i σ H2 hi ⟨v3, v4, rfl, rfl⟩
      have hd : ws.length + i < sizes.length := by omega
      obtain ⟨row, erow, hne, eg, rl7, m0, m1⟩ := F.row_ne hd
      have ew : weights[ws.length + i]? = some (weights.getD (ws.length + i) 0) := by
        rw [List.getD_eq_getElem?_getD, List.getElem?_eq_getElem (show ws.length + i < weights.length by omega)]; rfl
      have ebd : (bdD sizes weights r0 r1 r2 r3 ws) (ws.length + i) = lowD sizes weights r0 r1 r2 r3 (ws.length + i) := if_neg (by omega)
      have ei : (ws.length : Int) + (i : Int) = ((ws.length + i : Nat) : Int) := rfl
      refine ⟨_, rfl, p, C_Task, dx, _, _, rfl, g1, T.cl_Task, T.n_Task_weights, lk_weights, _, rfl, t2, _, _, V.int (weights.getD (ws.length + i) 0), rfl, rfl, SqT.of g4, atI_nat (j := ws.length + i) (by rw [List.getElem?_map, ew]; rfl), _, _, rfl, rfl, _, rfl, ?_⟩
      by_cases hp : weights.getD (ws.length + i) 0 > 0
      · refine iteY hp ?_
        obtain ⟨ra, era⟩ : ∃ ra, TL[ws.length + i]? = some ra := ⟨_, List.getElem?_eq_getElem (by omega)⟩
        refine ⟨_, rfl, p, C_Task, dx, _, _, rfl, g1, T.cl_Task, T.n_Task_sizes, lk_sizes, _, rfl, t1, _, _, V.ref ra, rfl, rfl, SqT.of g2, atI_nat (j := ws.length + i) (by rw [List.getElem?_map, era]; rfl), ra, row, rfl, SqT.of (g3.get _ ra row era erow), hne, ?_⟩
        refine ⟨_, rfl, _, rfl, _, rfl, _, rfl, _, rfl, _, rfl, p, sizes, weights, r0, r1, r2, r3, minL row, rfl, hT1, F, p, sizes, weights, r0, r1, r2, r3, minL row, _, ws.length + i, rfl, hT1, F, hd, m0, m1, _, _, rfl, rfl, ?_⟩
        refine ⟨some (.int ((ws.length : Int) + (i : Int))), some (.int (minL row)), ?_, rfl⟩
        show _ = [_, _, some (V.int (sumTo (bdD sizes weights r0 r1 r2 r3 ws) (ws.length + i) + (bdD sizes weights r0 r1 r2 r3 ws) (ws.length + i))), _, _]
        rw [ebd]
        unfold lowD
        rw [if_pos hp, eg]
        rfl
      · refine iteN hp ?_
        refine ⟨some (.int ((ws.length : Int) + (i : Int))), v4, ?_, rfl⟩
        show _ = [_, _, some (V.int (sumTo (bdD sizes weights r0 r1 r2 r3 ws) (ws.length + i) + (bdD sizes weights r0 r1 r2 r3 ws) (ws.length + i))), _, _]
        rw [ebd]
        unfold lowD
        rw [if_neg hp, Int.add_zero]
        rfl
    · rintro σ H2 ⟨v3, v4, rfl, rfl⟩
      refine ⟨_, rfl, ?_⟩
      rw [show ws.length + ((sizes.length : Int) - (ws.length : Int)).toNat = sizes.length by omega]
      exact q _ s1
theorem ok__law_bound {f : Addr} {fd : FuncData} (F : Fun K "_law_bound" "_law_bound" s__law_bound f fd) (T : Txt K mg t_MOST_PLANNED C_KeepError C_NoPlan C_Task) (D__law_cost : DefX P w K mg base "_law_cost" 2 ["_law_plain_here", "_law_choices"] sp_lcost) : FnOk P w K mg base (CXx P w) 3 f fd ["_law_plain_here", "_law_choices"] (sp_lbound) := by
  refine F.okX sc__law_bound (fun vs H Q E h => ?_) (fun cdv A outer s H vs Q E hr h => ?_)
  · obtain ⟨t, ls, lw, lr, c, SL, sizes, weights, r0, r1, r2, r3, ws, rfl, P, F, hc, hV, hle, q⟩ := h; rfl
  · obtain ⟨t, ls, lw, lr, c, SL, sizes, weights, r0, r1, r2, r3, ws, rfl, P, F, hc, hV, hle, q⟩ := h
    refine ⟨_, (pss_cons (ps_asg (pv 0) (pg_tup rfl (pgs_cons (pg_name (i := 2) sc__law_bound.nd rfl (Or.inl rfl)) (pgs_cons (pg_name (i := 3) sc__law_bound.nd rfl (Or.inl rfl)) (pgs_cons (pg_name (i := 4) sc__law_bound.nd rfl (Or.inl rfl)) pgs_nil)))))
      (pss_cons (ps_set (i := 5) sc__law_bound.nd rfl (Or.inl rfl) (pe_callS D__law_cost passesN (hr.mono (by decide)) rfl (pa_cons (pv 0) (pa_cons (pv 1) pa_nil))))
      (pss_cons (ps_for PassesOwn.leaving rfl (pi_range2 rfl T.b_range (pa_cons (pe_callB call_len_seq (by rfl) T.b_len PySem.boot_len (pa_cons (pv 1) pa_nil)) (pa_cons (pe_callB call_len_seq (by rfl) T.b_len PySem.boot_len (pa_cons (pv 3) pa_nil)) pa_nil))) (pg_name (i := 6) sc__law_bound.nd rfl (Or.inl rfl))
      (pss_one (ps_if (pt_cmpR op_gt (pe_ix ix_list (pv 3) (pv 6) (fun _ _ => rfl)) pe_int (nomark _)) (pss_cons (ps_set (i := 7) sc__law_bound.nd rfl (Or.inl rfl) (pe_ix ix_list (pe_callB call_sorted (by rfl) T.b_sorted PyProof.Rows.boot_sorted (pa_cons (pe_ix ix_list (pv 2) (pv 6) (fun _ _ => rfl)) pa_nil)) pe_int (fun _ _ => rfl)))
      (pss_cons (ps_set (i := 5) sc__law_bound.nd rfl (Or.inl rfl) (pe_op op_add (pv 5) (pe_op op_mul (pe_op op_add (pe_ix ix_list (pv 4) pe_int (fun _ _ => rfl)) (pe_op op_mul (pe_ix ix_list (pv 4) pe_int (fun _ _ => rfl)) (pe_op op_sub (pe_callB call_len_seq (by rfl) T.b_len PySem.boot_len (pa_cons (pv 3) pa_nil)) (pv 6)))) (pv 7))))
      (pss_one (ps_set (i := 5) sc__law_bound.nd rfl (Or.inl rfl) (pe_op op_add (pv 5) (pe_op op_mul (pe_ix ix_list (pv 3) (pv 6) (fun _ _ => rfl)) (pe_op op_add (pe_ix ix_list (pv 4) pe_int (fun _ _ => rfl)) (pe_op op_mul (pe_ix ix_list (pv 4) pe_int (fun _ _ => rfl)) (pv 7))))))))) pss_nil)))
      (pss_one (ps_ret (pv 5)))))), ?_⟩
    have n7 := F.n7
    have nw := F.nw
    have br1 := F.b3 r1 (by simp)
    have br3 := F.b3 r3 (by simp)
    refine ⟨_, rfl, t, _, rfl, SqT.of P.t, rfl, _, _, rfl, _, _, rfl, _, _, rfl, rfl, ?_⟩
    refine ⟨_, rfl, _, rfl, t, ls, lw, lr, c, SL, sizes, weights, r0, r1, r2, r3, ws, rfl, P, F, hc, hV, hle, fun H1 s1 => ?_⟩
    have P1 := P.keep s1
    have Rl := P1.rows.len
    refine ⟨_, rfl, c, _, rfl, .inr (SqT.of (s1 _ _ hc)), _, rfl, lw, _, rfl, .inl (SqL.of P1.lw), ?_⟩
    rw [List.length_map, List.length_map, nw]
    have e0 : sumTo (costD sizes weights r0 r1 r2 r3 ws) ws.length = sumTo (bdD sizes weights r0 r1 r2 r3 ws) ws.length := sumTo_congr fun d hd => (if_pos hd).symm
    rw [e0]
    refine ⟨_, _, rfl, ⟨by omega, by omega, by omega, by omega⟩, for_range (lo := (ws.length : Int)) (n := ((sizes.length : Int) - (ws.length : Int)).toNat) (fun i σ H2 => ∃ (v6 v7 : Option V), σ = [some (.ref t), some (.ref c), some (.ref ls), some (.ref lw), some (.ref lr), some (.int (sumTo (bdD sizes weights r0 r1 r2 r3 ws) (ws.length + i))), v6, v7] ∧ Same H1 H2) ⟨none, none, rfl, Same.refl _⟩ ?_ ?_⟩
    · rintro i σ H2 hi ⟨v6, v7, rfl, s2⟩
      have P2 := P1.keep s2
      have hd : ws.length + i < sizes.length := by omega
      obtain ⟨row, erow, hne, eg, rl7, m0, m1⟩ := F.row_ne hd
      have ew : weights[ws.length + i]? = some (weights.getD (ws.length + i) 0) := by
        rw [List.getD_eq_getElem?_getD, List.getElem?_eq_getElem (show ws.length + i < weights.length by omega)]; rfl
      have bw := F.b2 _ (List.mem_of_getElem? ew)
      have ebd : (bdD sizes weights r0 r1 r2 r3 ws) (ws.length + i) = lowD sizes weights r0 r1 r2 r3 (ws.length + i) := if_neg (by omega)
      refine ⟨_, rfl, _, rfl, lw, _, _, V.int (weights.getD (ws.length + i) 0), rfl, rfl, SqL.of P2.lw, atI_nat (j := ws.length + i) (by rw [List.getElem?_map, ew]; rfl), _, _, rfl, rfl, _, rfl, ?_⟩
      by_cases hp : weights.getD (ws.length + i) 0 > 0
      · refine iteY hp ?_
        obtain ⟨ra, era⟩ : ∃ ra, SL[ws.length + i]? = some ra := ⟨_, List.getElem?_eq_getElem (by omega)⟩
        refine ⟨_, rfl, _, rfl, ls, _, _, V.ref ra, rfl, rfl, SqL.of P2.ls, atI_nat (j := ws.length + i) (by rw [List.getElem?_map, era]; rfl), ra, row, rfl, SqL.of (P2.rows.get _ ra row era erow), by omega, fun sl ns' hsl hpm hso => ?_⟩
        have s3 : Same H2 (upd H2 sl (.lst (ns'.map V.int))) := Same.new hsl
        have h3 : upd H2 sl (.lst (ns'.map V.int)) sl = some (.lst (ns'.map V.int)) := upd_same
        generalize upd H2 sl (.lst (ns'.map V.int)) = H3 at s3 h3
        have hpl := hpm.length_eq
        have rpos : 0 < row.length := List.length_pos_iff.mpr hne
        obtain ⟨mm, emm⟩ : ∃ mm, ns'[0]? = some mm := ⟨_, List.getElem?_eq_getElem (by omega)⟩
        have em := sorted_min hpm hso emm
        subst em
        have P3 := P2.keep s3
        refine ⟨sl, _, _, V.int (minL row), rfl, rfl, SqL.of h3, atI_nat (j := 0) (by rw [List.getElem?_map, emm]; rfl), ?_⟩
        refine ⟨_, rfl, _, rfl, lr, _, _, V.int r0, rfl, rfl, SqL.of P3.lr, rfl, _, rfl, lr, _, _, V.int r1, rfl, rfl, SqL.of P3.lr, rfl, _, rfl, lw, _, rfl, .inl (SqL.of P3.lw), _, rfl, _, _, rfl, rfl, _, _, rfl, rfl, .inl ⟨by omega, by omega⟩, _, _, rfl, rfl, _, rfl, _, _, rfl, rfl, .inr ⟨by omega, by omega⟩, _, _, rfl, rfl, ?_⟩
        rw [List.length_map, nw]
        refine ⟨_, rfl, _, rfl, _, rfl, lw, _, _, V.int (weights.getD (ws.length + i) 0), rfl, rfl, SqL.of P3.lw, atI_nat (j := ws.length + i) (by rw [List.getElem?_map, ew]; rfl), _, rfl, lr, _, _, V.int r2, rfl, rfl, SqL.of P3.lr, rfl, _, rfl, lr, _, _, V.int r3, rfl, rfl, SqL.of P3.lr, rfl, _, rfl, _, _, rfl, rfl, .inl ⟨by omega, by omega⟩, _, _, rfl, rfl, _, _, rfl, rfl, .inl ⟨by omega, by omega⟩, _, _, rfl, rfl, ?_⟩
        refine ⟨some (.int ((ws.length : Int) + (i : Int))), some (.int (minL row)), ?_, s2.trans s3⟩
        show _ = [_, _, _, _, _, some (V.int (sumTo (bdD sizes weights r0 r1 r2 r3 ws) (ws.length + i) + (bdD sizes weights r0 r1 r2 r3 ws) (ws.length + i))), _, _]
        rw [ebd]
        unfold lowD
        rw [if_pos hp, eg, ← Int.add_assoc]
        rfl
      · refine iteN hp ?_
        refine ⟨some (.int ((ws.length : Int) + (i : Int))), v7, ?_, s2⟩
        show _ = [_, _, _, _, _, some (V.int (sumTo (bdD sizes weights r0 r1 r2 r3 ws) (ws.length + i) + (bdD sizes weights r0 r1 r2 r3 ws) (ws.length + i))), _, _]
        rw [ebd]
        unfold lowD
        rw [if_neg hp, Int.add_zero]
        rfl
    · rintro σ H2 ⟨v6, v7, rfl, s2⟩
      refine ⟨_, rfl, ?_⟩
      rw [show ws.length + ((sizes.length : Int) - (ws.length : Int)).toNat = sizes.length by omega]
      exact q _ (s1.trans s2)
theorem ok_best_plan {f : Addr} {fd : FuncData} (F : Fun K "best_plan" "best_plan" s_best_plan f fd) (T : Txt K mg t_MOST_PLANNED C_KeepError C_NoPlan C_Task) (D_bound_of : DefX P w K mg base "bound_of" 5 ["task", "choices"] (sp_bound K C_Task)) (D_allowed : DefX P w K mg base "allowed" 2 ["task", "choices"] (sp_allowed K C_Task)) : FnOk P w K mg base (CXx P w) 6 f fd ["task"] (sp_bplan C_Task) := by
  refine F.okX sc_best_plan (fun vs H Q E h => ?_) (fun cdv A outer s H vs Q E hr h => ?_)
  · obtain ⟨p, sizes, weights, r0, r1, r2, r3, rfl, hT, F, q⟩ := h; rfl
  · obtain ⟨p, sizes, weights, r0, r1, r2, r3, rfl, hT, F, q⟩ := h
    refine ⟨_, (pss_cons (ps_set (i := 1) sc_best_plan.nd rfl (Or.inl rfl) pe_non)
      (pss_cons (ps_set (i := 2) sc_best_plan.nd rfl (Or.inl rfl) pe_non)
      (pss_cons (ps_set (i := 3) sc_best_plan.nd rfl (Or.inl rfl) (pe_lst pa_nil))
      (pss_cons (ps_set (i := 4) sc_best_plan.nd rfl (Or.inl rfl) (pe_lst (pa_cons (pe_tup pa_nil) pa_nil)))
      (pss_cons (ps_while PassesOwn.leaving (pt_cmpR op_gt (pe_callB call_len_seq (by rfl) T.b_len PySem.boot_len (pa_cons (pv 4) pa_nil)) pe_int (nomark _)) (pss_cons (ps_set (i := 5) sc_best_plan.nd rfl (Or.inr rfl) (pe_bm0 PySem.F.plainAttrs_list PySem.F.slot_list_pop PySem.F.type_list_pop mt_pop (pv 4)))
      (pss_cons (ps_set (i := 6) sc_best_plan.nd rfl (Or.inl rfl) (pe_callS D_bound_of passesN (hr.mono (by decide)) rfl (pa_cons (pv 0) (pa_cons (pv 5) pa_nil))))
      (pss_one (ps_if (PW.pt (pw_and (pt_cmpR op_notN (pv 2) pe_non (nomark _)) (pw_and1 (pt_cmpR op_ge (pv 6) (pv 2) (nomark _))))) (pss_one (ps_expr (pe_bm PySem.F.plainAttrs_list PySem.F.slot_list_append PySem.F.type_list_append mt_append (pv 3) (pa_cons (pe_tup (pa_cons (pv 5) (pa_cons (pv 6) pa_nil))) pa_nil)))) (pss_one (ps_if (pt_cmpR op_eq (pe_callB call_len_seq (by rfl) T.b_len PySem.boot_len (pa_cons (pv 5) pa_nil)) (pe_callB call_len_seq (by rfl) T.b_len PySem.boot_len (pa_cons (pe_fld (pv 0) rfl) pa_nil)) (nomark _)) (pss_cons (ps_expr (pe_bm PySem.F.plainAttrs_list PySem.F.slot_list_append PySem.F.type_list_append mt_append (pv 3) (pa_cons (pe_tup (pa_cons (pv 5) (pa_cons (pv 6) pa_nil))) pa_nil)))
      (pss_cons (ps_set (i := 1) sc_best_plan.nd rfl (Or.inl rfl) (pv 5))
      (pss_one (ps_set (i := 2) sc_best_plan.nd rfl (Or.inl rfl) (pv 6))))) (pss_one (ps_expr (pe_bm PySem.F.plainAttrs_list PySem.F.slot_list_extend PySem.F.type_list_extend mt_extend (pv 4) (pa_cons (pe_comp (N := ["word", "choices"]) (k := 1) (cap := [5]) rfl rfl (pi_rev rfl T.b_reversed (pa_cons (pe_callS D_allowed passesN (hr.mono (by decide)) rfl (pa_cons (pv 0) (pa_cons (pv 5) pa_nil))) pa_nil)) (fun _ _ _ _ => (pg_name (i := 0) (show (["word", "choices"] : List Str).Nodup from by decide +kernel) rfl (Or.inl rfl) (.inr rfl))) (fun _ _ _ _ => pts_nil) (fun _ _ _ _ => (pe_op (op_cat1 (K := K) rfl) (pv 1) (pe_tup (pa_cons (pv 0) pa_nil))))) pa_nil)))))))))))
      (pss_one (ps_ret (pe_tup (pa_cons (pv 1) (pa_cons (pv 2) (pa_cons (pv 3) pa_nil))))))))))), ?_⟩
    have nw := F.nw
    have n6 := F.n7
    refine ⟨Nat.zero_le _, fun ll hll => ?_⟩
    have s1 : Same H (upd H ll (.lst [])) := Same.new hll
    have l1 : upd H ll (.lst []) ll = some (.lst ([].map V.ref)) := upd_same
    refine ⟨Nat.zero_le _, fun e0 he0 => ⟨(by show 1 ≤ sizeLine; decide), fun wl hwl => ?_⟩⟩
    generalize upd H ll (.lst []) = H1 at s1 l1 he0 hwl
    have s2 : Same H1 (upd H1 e0 (.tup [])) := Same.new he0
    have e2 : upd H1 e0 (.tup []) e0 = some (.tup (([] : List PySem.Str).map V.str)) := upd_same
    generalize upd H1 e0 (.tup []) = H2 at s2 e2 hwl
    have s3 : Same H2 (upd H2 wl (.lst [V.ref e0])) := Same.new hwl
    have w3 : upd H2 wl (.lst [V.ref e0]) wl = some (.lst (([e0] : List Addr).map V.ref)) := upd_same
    generalize upd H2 wl (.lst [V.ref e0]) = H3 at s3 w3
    have hnw : H wl = none := (s1.trans s2).free hwl
    have l3 := s3 _ _ (s2 _ _ l1)
    have nlw : ll ≠ wl := fun z => by rw [← z, s2 _ _ l1] at hwl; cases hwl
    have hn : ∀ ws, nextWs weights ws = [] ↔ sizes.length ≤ ws.length := fun ws => by rw [nextWs_nil, nw]
    refine ⟨fun m σ H4 => ∃ (v1 v2 : V) (v5 v6 : Option V) (LL PL : List Addr) (lv : List Lf) (S : List (List PySem.Str)) (b : Option Lf), m = work sizes.length S ∧ σ = [some (.ref p), some v1, some v2, some (.ref ll), some (.ref wl), v5, v6] ∧ Same H H4 ∧ H4 ll = some (.lst (LL.map V.ref)) ∧ H4 wl = some (.lst (PL.map V.ref)) ∧ LfsAt H4 LL lv ∧ BgsAt H4 PL S ∧ BestV H4 v1 v2 b ∧ (∀ ws ∈ S, VW ws ∧ ws.length ≤ sizes.length) ∧ lv.length + work sizes.length S ≤ 390625 ∧ visF sizes weights r0 r1 r2 r3 (sizes.length + 1) [] none = (lv ++ (pile (nextWs weights) (bdF sizes weights r0 r1 r2 r3) sizes.length S.reverse b).1, (pile (nextWs weights) (bdF sizes weights r0 r1 r2 r3) sizes.length S.reverse b).2), ⟨_, .non, .non, none, none, [], [e0], [], [[]], none, rfl, rfl, s1.trans (s2.trans s3), l3, w3, LfsAt.nil, BgsAt.one (s3 _ _ e2), ⟨rfl, rfl⟩, fun ws h => by simp at h; subst h; exact ⟨VW.nil, Nat.zero_le _⟩, by have := pow5 n6; simp [work]; exact this, by simp [pile, vL, visF]⟩, ?_⟩
    rintro m σ H4 ⟨v1, v2, v5, v6, LL, PL, lv, S, b, rfl, rfl, s4, l4, w4, hL, hB, hb, hS, hsz, htot⟩
    have Bl := hB.len
    have Ll := hL.len
    have Sl := work_len sizes.length S
    refine ⟨_, rfl, wl, _, rfl, .inl (SqL.of w4), _, _, rfl, rfl, _, rfl, ?_⟩
    rcases List.eq_nil_or_concat S with hS0 | ⟨S', ws, hS0⟩
    · subst hS0
      refine iteN (by rw [List.length_map, Bl]; simp) ?_
      have hv : visF sizes weights r0 r1 r2 r3 (sizes.length + 1) [] none = (lv, b) := by simpa [pile, vL] using htot
      have hne := (visit_ne (bd := bdF sizes weights r0 r1 r2 r3) hn (sizes.length + 1) [] none (by simp) (by omega)).2
      rw [show visit (nextWs weights) (bdF sizes weights r0 r1 r2 r3) (sizes.length + 1) [] none = (lv, b) from hv] at hne
      cases b with
      | none => exact absurd rfl hne
      | some x =>
        obtain ⟨bt, rfl, hbt, rfl⟩ := hb
        refine ⟨_, rfl, _, rfl, _, rfl, (by show 3 ≤ sizeLine; decide), fun t ht => ?_⟩
        have s5 : Same H4 (upd H4 t (.tup [V.ref bt, V.int x.2, V.ref ll])) := Same.new ht
        exact q t bt ll LL lv x _ upd_same (s5 _ _ hbt) (s5 _ _ l4) hll (hL.mono (.of s5)) hv (by simpa [work] using hsz) (s4.trans s5)
    · rw [List.concat_eq_append] at hS0
      subst hS0
      obtain ⟨PM, ca, rfl, hB', hca⟩ := hB.last
      refine iteY (by rw [List.length_map, Bl]; simp) ?_
      refine ⟨_, fun σ' H' h => h, ?_⟩
      obtain ⟨hV, hle⟩ := hS ws (by simp)
      refine ⟨_, rfl, .inl ⟨rfl, _, SqL.of w4⟩, wl, _, V.ref ca, rfl, rfl, w4, (by simp), ?_⟩
      have k5 : KeepT H4 (upd H4 wl (.lst ((PM ++ [ca]).map V.ref).dropLast)) := KeepT.lst w4
      have w5 : upd H4 wl (.lst ((PM ++ [ca]).map V.ref).dropLast) wl = some (.lst (PM.map V.ref)) := by rw [upd_same]; simp
      have l5 : upd H4 wl (.lst ((PM ++ [ca]).map V.ref).dropLast) ll = some (.lst (LL.map V.ref)) := by rw [upd_ne nlw]; exact l4
      have s5 : Same H (upd H4 wl (.lst ((PM ++ [ca]).map V.ref).dropLast)) := fun b o e => by rw [upd_ne (ne_of_none e hnw)]; exact s4 b o e
      generalize upd H4 wl (.lst ((PM ++ [ca]).map V.ref).dropLast) = H5 at k5 w5 l5 s5
      refine ⟨_, rfl, _, rfl, p, ca, true, sizes, weights, r0, r1, r2, r3, ws, rfl, hT.keep s5, F, SqT.of (k5 _ _ hca), hV, hle, fun H6 s6 => ?_⟩
      refine gName_to (σ' := [some (.ref p), some v1, some v2, some (.ref ll), some (.ref wl), some (.ref ca), some (.int (bdF sizes weights r0 r1 r2 r3 ws))]) rfl ?_
      dsimp only
      have k6 := k5.trans (.of s6)
      have w6 := s6 _ _ w5
      have l6 := s6 _ _ l5
      have s06 := s5.trans s6
      have hca6 := k6 _ _ hca
      have hL6 := hL.mono k6
      have hB6 := hB'.mono k6
      have hb6 := hb.mono k6
      rw [work_append] at hsz
      have hw1 : work sizes.length [ws] = 5 ^ (sizes.length + 1 - ws.length) := by simp [work]
      rw [hw1] at hsz
      have hpos := Nat.pow_pos (n := sizes.length + 1 - ws.length) (show 0 < 5 by omega)
      rw [List.reverse_append, show [ws].reverse ++ S'.reverse = ws :: S'.reverse from rfl] at htot
      have hS' : ∀ x ∈ S', VW x ∧ x.length ≤ sizes.length := fun x hx => hS x (by simp [hx])
      have hless : work sizes.length S' < work sizes.length (S' ++ [ws]) := by rw [work_append, hw1]; omega
      have leaf : ∀ tt, H6 tt = none → ∃ H8, H8 = upd (upd H6 tt (.tup [V.ref ca, V.int (bdF sizes weights r0 r1 r2 r3 ws)])) ll (.lst (LL.map V.ref ++ [V.ref tt])) ∧ Same H H8 ∧ KeepT H6 H8 ∧ H8 ll = some (.lst ((LL ++ [tt]).map V.ref)) ∧ H8 wl = some (.lst (PM.map V.ref)) ∧ LfsAt H8 (LL ++ [tt]) (lv ++ [(ws, bdF sizes weights r0 r1 r2 r3 ws)]) ∧ BgsAt H8 PM S' := fun tt htt => by
        have ntl : tt ≠ ll := fun z => by rw [z, l6] at htt; cases htt
        have l7 : upd H6 tt (.tup [V.ref ca, V.int (bdF sizes weights r0 r1 r2 r3 ws)]) ll = some (.lst (LL.map V.ref)) := by rw [upd_ne ntl.symm]; exact l6
        have k7 : KeepT H6 (upd H6 tt (.tup [V.ref ca, V.int (bdF sizes weights r0 r1 r2 r3 ws)])) := .of (Same.new htt)
        have k8 := k7.trans (KeepT.lst (ys := LL.map V.ref ++ [V.ref tt]) l7)
        refine ⟨_, rfl, fun b o e => ?_, k8, by rw [upd_same, List.map_append]; rfl, ?_, (hL6.mono k8).snoc ⟨ca, ?_, k8 _ _ hca6⟩, hB6.mono k8⟩
        · rw [upd_ne (ne_of_none e hll)]; exact Same.new htt b o (s06 b o e)
        · rw [upd_ne nlw.symm]; exact Same.new htt _ _ w6
        · rw [upd_ne ntl]; exact upd_same
      by_cases hcut : cutB b (bdF sizes weights r0 r1 r2 r3 ws) = true
      · cases b with
        | none => cases hcut
        | some x =>
          obtain ⟨bt, rfl, hbt, rfl⟩ := id hb6
          refine if_yes (fun Qb hq => ?_) ?_
          · refine ⟨_, rfl, rfl, _, rfl, iteNN (by simp) ⟨_, rfl, _, rfl, _, _, rfl, rfl, _, rfl, ?_⟩⟩
            rw [decide_eq_true (of_decide_eq_true hcut)]; exact hq
          · refine ⟨_, rfl, .inl ⟨rfl, _, SqL.of l6⟩, _, rfl, _, rfl, (by show 2 ≤ sizeLine; decide), fun tt htt => ?_⟩
            obtain ⟨H8, e8, s8, k8, l8, w8, hL8, hB8⟩ := leaf tt htt
            refine ⟨ll, _, _, rfl, rfl, Same.new htt _ _ l6, (by rw [List.length_map]; exact small78 (by omega)), ?_⟩
            rw [← e8]
            refine ⟨_, hless, V.ref bt, V.int x.2, _, _, LL ++ [tt], PM, lv ++ [(ws, bdF sizes weights r0 r1 r2 r3 ws)], S', some x, rfl, rfl, s8, l8, w8, hL8, hB8, hb6.mono k8, hS', by simp; omega, ?_⟩
            rw [htot, pile_cut hle hcut]
            simp
      have hcut' : cutB b (bdF sizes weights r0 r1 r2 r3 ws) = false := by simpa using hcut
      refine if_no (fun Qb hq => ?_) ?_
      · cases b with
        | none =>
          obtain ⟨rfl, rfl⟩ := hb6
          exact ⟨_, rfl, rfl, _, rfl, iteNS rfl hq⟩
        | some x =>
          obtain ⟨bt, rfl, hbt, rfl⟩ := hb6
          refine ⟨_, rfl, rfl, _, rfl, iteNN (by simp) ⟨_, rfl, _, rfl, _, _, rfl, rfl, _, rfl, ?_⟩⟩
          rw [decide_eq_false (fun z => hcut (decide_eq_true z))]; exact hq
      have hT6 := hT.keep s06
      obtain ⟨dx, t1, t2, t3, TL, g1, g2, g3, g4, g5⟩ := id hT6
      have TLl := g3.len
      refine ⟨_, rfl, ca, _, rfl, .inr (SqT.of hca6), _, rfl, p, C_Task, dx, _, _, rfl, g1, T.cl_Task, T.n_Task_sizes, lk_sizes, t1, _, rfl, .inr (SqT.of g2), rfl, _, rfl, ?_⟩
      by_cases hfull : ws.length = sizes.length
      · refine iteY (by rw [List.length_map, List.length_map, TLl, hfull]) ?_
        refine ⟨_, rfl, .inl ⟨rfl, _, SqL.of l6⟩, _, rfl, _, rfl, (by show 2 ≤ sizeLine; decide), fun tt htt => ?_⟩
        obtain ⟨H8, e8, s8, k8, l8, w8, hL8, hB8⟩ := leaf tt htt
        refine ⟨ll, _, _, rfl, rfl, Same.new htt _ _ l6, (by rw [List.length_map]; exact small78 (by omega)), ?_⟩
        rw [← e8]
        refine ⟨_, rfl, _, rfl, ?_⟩
        refine ⟨_, hless, V.ref ca, V.int (bdF sizes weights r0 r1 r2 r3 ws), _, _, LL ++ [tt], PM, lv ++ [(ws, bdF sizes weights r0 r1 r2 r3 ws)], S', some (ws, bdF sizes weights r0 r1 r2 r3 ws), rfl, rfl, s8, l8, w8, hL8, hB8, ⟨ca, rfl, k8 _ _ hca6, rfl⟩, hS', by simp; omega, ?_⟩
        rw [htot, pile_full hle hcut' ((hn ws).mpr (by omega))]
        simp
      · refine iteN (fun z => hfull (by have := V.int.inj z; rw [List.length_map, List.length_map, TLl] at this; omega)) ?_
        have hlt : ws.length < sizes.length := by omega
        have n4 := nextWs_four weights ws
        refine ⟨_, rfl, .inl ⟨rfl, _, SqL.of w6⟩, _, rfl, _, rfl, p, ca, true, sizes, weights, [r0, r1, r2, r3], ws, rfl, hT6, SqT.of hca6, by omega, nw.symm, by omega, fun al H7 hal haln s7 => ⟨al, _, rfl, SqL.of hal, fun D hD => ?_⟩⟩
        refine comp_rev D (K := K) (a := al) (xs := (nextWs weights ws).map V.str) (fun i σ H9 ys => ∃ (v : Option V) (KL : List Addr), σ = [v, some (.ref ca)] ∧ Same H7 H9 ∧ H9 D = some (.lst ys) ∧ ys = KL.map V.ref ∧ BgsAt H9 KL (((nextWs weights ws).reverse.take i).map (fun w => ws ++ [w]))) ⟨none, [], rfl, Same.new hD, upd_same, rfl, BgsAt.nil⟩ (fun i σ H9 ys ⟨_, _, _, s9, _⟩ => SqL.of (s9 _ _ hal)) ?_ ?_
        · rintro i x σ H9 ys hi ⟨v, KL, rfl, s9, hD9, rfl, hK⟩
          rw [← List.map_reverse] at hi
          obtain ⟨w, hw, rfl⟩ := str_at hi
          have hKl := hK.len
          have hil : i < (nextWs weights ws).length := by have := (List.getElem?_eq_some_iff.mp hw).1; simpa using this
          have hKl4 : KL.length ≤ 4 := by rw [hKl, List.length_map, List.length_take, List.length_reverse]; omega
          refine ⟨_, rfl, _, rfl, (by show 1 ≤ sizeLine; decide), fun tt htt => ⟨ca, tt, ws.map V.str, [V.str w], rfl, rfl, SqT.of (Same.new htt _ _ (s9 _ _ (s7 _ _ hca6))), upd_same, by simp, Nat.le_of_lt (small1000 (by simp; omega)), fun pp H11 hp11 s11 => ?_⟩⟩
          have s911 : Same H9 H11 := (Same.new htt).trans s11
          have hD11 := s911 _ _ hD9
          have kD : KeepT H11 (upd H11 D (.lst (KL.map V.ref ++ [V.ref pp]))) := KeepT.lst hD11
          refine ⟨hD11, (by rw [List.length_map]; exact small1000 (by omega)), _, KL ++ [pp], rfl, fun b o e => ?_, upd_same, by rw [List.map_append]; rfl, ?_⟩
          · rw [upd_ne (ne_of_none e hD)]; exact s911 b o (s9 b o e)
          · rw [List.take_add_one, hw, List.map_append]
            refine (hK.mono ((KeepT.of s911).trans kD)).append (BgsAt.one (kD _ _ ?_))
            rw [hp11, List.map_append]; rfl
        rintro σ H9 ys ⟨v, KL, rfl, s9, hD9, rfl, hK⟩
        rw [List.length_map, ← List.length_reverse, List.take_length] at hK
        have hKl := hK.len
        rw [List.length_map, List.length_reverse] at hKl
        have w9 := s9 _ _ (s7 _ _ w6)
        have k9 : KeepT H6 H9 := (KeepT.of s7).trans (.of s9)
        have hPl := hB'.len
        have hSl := work_len sizes.length S'
        refine ⟨wl, D, _, _, rfl, rfl, w9, hD9, (by rw [List.length_map, List.length_map]; exact Nat.le_of_lt (small78 (by omega))), ?_⟩
        have k10 := k9.trans (KeepT.lst (ys := PM.map V.ref ++ KL.map V.ref) w9)
        have hwk := work_step hlt n4
        have hwk2 : work sizes.length ((nextWs weights ws).reverse.map (fun w => ws ++ [w])) < 5 ^ (sizes.length + 1 - ws.length) := by rw [List.map_reverse, work_rev]; exact hwk
        refine ⟨work sizes.length (S' ++ (nextWs weights ws).reverse.map (fun w => ws ++ [w])), by rw [work_append, work_append, hw1]; omega, v1, v2, _, _, LL, PM ++ KL, lv, S' ++ (nextWs weights ws).reverse.map (fun w => ws ++ [w]), b, rfl, rfl, fun b o e => ?_, ?_, by rw [upd_same, List.map_append], hL6.mono k10, (hB6.mono k10).append (hK.mono (KeepT.lst w9)), hb6.mono k10, ?_, by rw [work_append]; omega, ?_⟩
        · rw [upd_ne (ne_of_none e hnw)]; exact s9 b o (s7 b o (s06 b o e))
        · rw [upd_ne nlw]; exact s9 _ _ (s7 _ _ l6)
        · intro x hx
          rcases List.mem_append.mp hx with hx | hx
          · exact hS' x hx
          · obtain ⟨w, hw, rfl⟩ := List.mem_map.mp hx
            obtain ⟨wt, _, hw2⟩ := nextWs_mem (List.mem_reverse.mp hw)
            exact ⟨hV.snoc hw2, by simp; omega⟩
        · rw [htot, pile_one hle hcut' (fun z => by have := (hn ws).mp z; omega), List.reverse_append, List.map_reverse, List.reverse_reverse]
theorem ok__law_leaf {f : Addr} {fd : FuncData} (F : Fun K "_law_leaf" "_law_leaf" s__law_leaf f fd) (T : Txt K mg t_MOST_PLANNED C_KeepError C_NoPlan C_Task) (D__law_whole : DefX P w K mg base "_law_whole" 1 ["_law_found"] sp_whole) : FnOk P w K mg base (CXx P w) 2 f fd ["_law_leaf_here"] (sp_leaf) := by
  refine F.okX sc__law_leaf (fun vs H Q E h => ?_) (fun cdv A outer s H vs Q E hr h => ?_)
  · obtain ⟨a, l, rfl, ⟨t, ha, ht⟩, h7, q⟩ := h; rfl
  · obtain ⟨a, l, rfl, ⟨t, ha, ht⟩, h7, q⟩ := h
    refine ⟨_, (pss_cons (ps_if (PW.pt (pw_or (pt_not (pt_val (pe_callB call_isinst (by rfl) T.b_isinstance PyProof.Rows.boot_isinstance (pa_cons (pv 0) (pa_cons (pe_bltn (v := .ty "tuple") rfl T.b_tuple PyProof.Rows.boot_tuple rfl) pa_nil))))) (pw_or (pt_cmpR op_ne (pe_callB call_len_seq (by rfl) T.b_len PySem.boot_len (pa_cons (pv 0) pa_nil)) pe_int (nomark _)) (pw_or (pt_not (pt_val (pe_callB call_isinst (by rfl) T.b_isinstance PyProof.Rows.boot_isinstance (pa_cons (pe_ix ix_tup (pv 0) pe_int (fun _ _ => rfl)) (pa_cons (pe_bltn (v := .ty "tuple") rfl T.b_tuple PyProof.Rows.boot_tuple rfl) pa_nil))))) (pw_or1 (pt_not (pt_val (pe_callS D__law_whole passesN (hr.mono (by decide)) rfl (pa_cons (pe_ix ix_tup (pv 0) pe_int (fun _ _ => rfl)) pa_nil))))))))) (pss_one (ps_ret pe_bl)) pss_nil)
      (pss_one (ps_ret (pe_cmpR op_eq (pe_callB call_len_seq (by rfl) T.b_len PySem.boot_len (pa_cons (pe_comp (N := ["_law_word"]) (k := 1) (cap := []) rfl rfl (pi_tup (pe_ix ix_tup (pv 0) pe_int (fun _ _ => rfl))) (fun _ _ _ _ => (pg_name (i := 0) (show (["_law_word"] : List Str).Nodup from by decide +kernel) rfl (Or.inl rfl) (.inr rfl))) (fun _ _ _ _ => (pts_one (pt_val (pe_callB (call_isinstK (K := K) rfl) (by rfl) T.b_isinstance PyProof.Rows.boot_isinstance (pa_cons (pv 0) (pa_cons (pe_bltn (v := .ty "str") rfl T.b_str PyProof.Rows.boot_str rfl) pa_nil)))))) (fun _ _ _ _ => (pv 0))) pa_nil)) (pe_callB call_len_seq (by rfl) T.b_len PySem.boot_len (pa_cons (pe_ix ix_tup (pv 0) pe_int (fun _ _ => rfl)) pa_nil)) (nomark _))))), ?_⟩
    refine if_no (fun Qb hq => ?_) ?_
    · refine ⟨_, rfl, _, _, _, _, true, rfl, rfl, .tup ha, rfl, _, rfl, iteF ?_⟩
      refine ⟨_, rfl, a, _, rfl, .inr (SqT.of ha), rfl, _, rfl, iteNS rfl ?_⟩
      refine ⟨_, rfl, a, _, _, V.ref t, rfl, rfl, SqT.of ha, rfl, _, _, _, _, true, rfl, rfl, .tup ht, rfl, _, rfl, iteF ?_⟩
      exact ⟨_, rfl, a, _, _, V.int l.2, rfl, rfl, SqT.of ha, rfl, l.2, rfl, _, rfl, hq⟩
    refine ⟨_, rfl, a, _, _, V.ref t, rfl, rfl, SqT.of ha, rfl, t, rfl, ⟨_, SqT.of ht⟩, fun D hD => ?_⟩
    refine comp_tup D (K := K) (a := t) (xs := l.1.map V.str) (fun i σ H5 ys => ∃ (v : Option V), σ = [v] ∧ Same H H5 ∧ H5 D = some (.lst ys) ∧ ys = (l.1.take i).map V.str) ⟨none, rfl, Same.new hD, upd_same, rfl⟩ (fun i σ H5 ys _ ⟨_, _, s5, _⟩ => SqT.of (s5 _ _ ht)) ?_ ?_
    · rintro i x σ H5 ys hi ⟨v, rfl, s5, hD5, rfl⟩
      obtain ⟨w, hw, rfl⟩ := str_at hi
      refine ⟨_, rfl, _, _, _, _, true, rfl, rfl, .str _, rfl, _, rfl, ?_⟩
      refine iteT ?_
      refine ⟨_, rfl, hD5, (by rw [List.length_map, List.length_take]; exact small1000 (by omega)), _, rfl, fun b o e => ?_, upd_same, ?_⟩
      · rw [upd_ne (ne_of_none e hD)]; exact s5 b _ e
      · rw [List.take_add_one, hw, List.map_append]; rfl
    rintro σ H5 ys ⟨v, rfl, s5, hD5, rfl⟩
    rw [List.length_map, List.take_length] at hD5
    refine ⟨D, _, rfl, .inl (SqL.of hD5), _, rfl, a, _, _, V.ref t, rfl, rfl, SqT.of (s5 _ _ ha), rfl, t, _, rfl, .inr (SqT.of (s5 _ _ ht)), rfl, ?_⟩
    have := q H5 s5
    simpa using this
theorem ok__law_under0 {f : Addr} {fd : FuncData} (F : Fun K "_law_under" "_law_under" s__law_under f fd) : FnOk P w K mg base (CXx P w) (0 + 3) f fd ["_law_plain_here", "_law_begin", "_law_leaves", "_law_at", "_law_best"] (sp_under 0) := by
  refine F.okX sc__law_under (fun vs H Q E h => ?_) (fun cdv A outer s H vs Q E hr h => ?_)
  · obtain ⟨t, ls, lw, lr, c, ll, SL, sizes, weights, r0, r1, r2, r3, ws, LL, all, i0, bv, b, f, rest, rfl, _⟩ := h; rfl
  · obtain ⟨t, ls, lw, lr, c, ll, SL, sizes, weights, r0, r1, r2, r3, ws, LL, all, i0, bv, b, f, rest, rfl, P0, F0, hc, hV, hle, hll, hL, hb, hf, hfk, hd, h7, q⟩ := h; omega
variable {n : Nat}
theorem ok__law_under {f : Addr} {fd : FuncData} (F : Fun K "_law_under" "_law_under" s__law_under f fd) (T : Txt K mg t_MOST_PLANNED C_KeepError C_NoPlan C_Task) (D__law_leaf : DefX P w K mg base "_law_leaf" 2 ["_law_leaf_here"] sp_leaf) (D__law_bound : DefX P w K mg base "_law_bound" 3 ["_law_plain_here", "_law_choices"] sp_lbound) (D__law_next : DefX P w K mg base "_law_next" 1 ["_law_weights", "_law_choices"] sp_next) (D__law_under : DefX P w K mg base "_law_under" (n + 3) ["_law_plain_here", "_law_begin", "_law_leaves", "_law_at", "_law_best"] (sp_under n)) : FnOk P w K mg base (CXx P w) (n + 4) f fd ["_law_plain_here", "_law_begin", "_law_leaves", "_law_at", "_law_best"] (sp_under (n + 1)) := by
  refine F.okX sc__law_under (fun vs H Q E h => ?_) (fun cdv A outer s H vs Q E hr h => ?_)
  · obtain ⟨t, ls, lw, lr, c, ll, SL, sizes, weights, r0, r1, r2, r3, ws, LL, all, i0, bv, b, f, rest, rfl, P0, F0, hc, hV, hle, hll, hL, hb, hf, hfk, hd, h7, q⟩ := h; rfl
  · obtain ⟨t, ls, lw, lr, c, ll, SL, sizes, weights, r0, r1, r2, r3, ws, LL, all, i0, bv, b, f, rest, rfl, P0, F0, hc, hV, hle, hll, hL, hb, hf, hfk, hd, h7, q⟩ := h
    refine ⟨_, (pss_cons (ps_if (PW.pt (pw_or (pt_cmpR op_ge (pv 3) (pe_callB call_len_seq (by rfl) T.b_len PySem.boot_len (pa_cons (pv 2) pa_nil)) (nomark _)) (pw_or1 (pt_not (pt_val (pe_callS D__law_leaf passesN (hr.mono (by omega)) rfl (pa_cons (pe_ix ix_list (pv 2) (pv 3) (fun _ _ => rfl)) pa_nil))))))) (pss_one (ps_ret pe_non)) pss_nil)
      (pss_cons (ps_set (i := 5) sc__law_under.nd rfl (Or.inl rfl) (pe_callS D__law_bound passesN (hr.mono (by omega)) rfl (pa_cons (pv 0) (pa_cons (pv 1) pa_nil))))
      (pss_cons (ps_set (i := 6) sc__law_under.nd rfl (Or.inl rfl) (pe_callS D__law_next passesN (hr.mono (by omega)) rfl (pa_cons (pe_ix ix_tup (pv 0) pe_int (fun _ _ => rfl)) (pa_cons (pv 1) pa_nil))))
      (pss_cons (ps_set (i := 7) sc__law_under.nd rfl (Or.inl rfl) (pe_or (pe_cmpR op_isN (pv 4) pe_non (nomark _)) (pe_one (pe_cmpR op_lt (pv 5) (pe_ix ix_tup (pv 4) pe_int (fun _ _ => rfl)) (nomark _)))))
      (pss_cons (ps_if (pt_cmpR (op_eq_ref hr.units) (pe_ix ix_tup (pe_ix ix_list (pv 2) (pv 3) (fun _ _ => rfl)) pe_int (fun _ _ => rfl)) (pv 1) (nomark _)) (pss_cons (ps_if (PW.pt (pw_or (pt_cmpR op_ne (pe_ix ix_tup (pe_ix ix_list (pv 2) (pv 3) (fun _ _ => rfl)) pe_int (fun _ _ => rfl)) (pv 5) (nomark _)) (pw_or1 (PW.pt (pw_and (pt_val (pv 7)) (pw_and1 (pt_cmpR (op_ne_ref hr.units) (pv 6) (pe_lst pa_nil) (nomark _)))))))) (pss_one (ps_ret pe_non)) pss_nil)
      (pss_cons (ps_if (pt_val (pv 7)) (pss_one (ps_set (i := 4) sc__law_under.nd rfl (Or.inl rfl) (pe_tup (pa_cons (pv 1) (pa_cons (pv 5) pa_nil))))) pss_nil)
      (pss_one (ps_ret (pe_lst (pa_cons (pe_op op_add (pv 3) pe_int) (pa_cons (pv 4) pa_nil))))))) pss_nil)
      (pss_cons (ps_if (PW.pt (pw_or (pt_not (pt_val (pv 7))) (pw_or1 (pt_cmpR (op_eq_ref hr.units) (pv 6) (pe_lst pa_nil) (nomark _))))) (pss_one (ps_ret pe_non)) pss_nil)
      (pss_cons (ps_for PassesOwn.leaving rfl (pi_list (pv 6)) (pg_name (i := 8) sc__law_under.nd rfl (Or.inl rfl))
      (pss_cons (ps_set (i := 9) sc__law_under.nd rfl (Or.inl rfl) (pe_callS D__law_under passesN (hr.mono (by omega)) rfl (pa_cons (pv 0) (pa_cons (pe_op (op_cat1 (K := K) rfl) (pv 1) (pe_tup (pa_cons (pv 8) pa_nil))) (pa_cons (pv 2) (pa_cons (pv 3) (pa_cons (pv 4) pa_nil)))))))
      (pss_cons (ps_if (pt_cmpR op_isN (pv 9) pe_non (nomark _)) (pss_one (ps_ret pe_non)) pss_nil)
      (pss_cons (ps_set (i := 3) sc__law_under.nd rfl (Or.inl rfl) (pe_ix ix_list (pv 9) pe_int (fun _ _ => rfl)))
      (pss_one (ps_set (i := 4) sc__law_under.nd rfl (Or.inl rfl) (pe_ix ix_list (pv 9) pe_int (fun _ _ => rfl))))))))
      (pss_one (ps_ret (pe_lst (pa_cons (pv 3) (pa_cons (pv 4) pa_nil)))))))))))), ?_⟩
    have n7 := F0.n7
    have nw := F0.nw
    have hn : ∀ ws, nextWs weights ws = [] ↔ sizes.length ≤ ws.length := fun ws => by rw [nextWs_nil, nw]
    have Ll := hL.len
    obtain ⟨f0, rfl⟩ : ∃ f0, f = f0 + 1 := ⟨f - 1, by omega⟩
    have hne := (visit_ne (bd := bdF sizes weights r0 r1 r2 r3) hn (f0 + 1) ws b (by omega) (by omega)).1
    obtain ⟨l0, lr0, hlv⟩ : ∃ l0 lr0, (visF sizes weights r0 r1 r2 r3 (f0 + 1) ws b).1 = l0 :: lr0 := by
      cases e : (visF sizes weights r0 r1 r2 r3 (f0 + 1) ws b).1 with
      | nil => exact absurd e hne
      | cons x y => exact ⟨x, y, rfl⟩
    have hat : all[i0]? = some l0 := by
      have := congrArg (·[0]?) hd
      simp only [List.getElem?_drop, hlv] at this
      simpa using this
    have hil : i0 < all.length := (List.getElem?_eq_some_iff.mp hat).1
    obtain ⟨la, hla⟩ : ∃ la, LL[i0]? = some la := ⟨_, List.getElem?_eq_getElem (by omega)⟩
    obtain ⟨lt, hA, hlt⟩ := hL.get i0 la l0 hla hat
    have eat : atI (LL.map V.ref) (i0 : Int) = some (V.ref la) := atI_nat (by rw [List.getElem?_map, hla]; rfl)
    have hl7 := h7 l0 (List.mem_of_getElem? hat)
    refine ⟨_, rfl, _, rfl, ll, _, rfl, .inl (SqL.of hll), _, _, rfl, rfl, _, rfl, iteN (by rw [List.length_map]; omega) ?_⟩
    refine ⟨_, rfl, _, rfl, ll, _, _, V.ref la, rfl, rfl, SqL.of hll, eat, la, l0, rfl, ⟨lt, hA, hlt⟩, hl7, fun H1 s1 => ⟨_, rfl, iteF ?_⟩⟩
    have P1 := P0.keep s1
    refine ⟨_, rfl, _, rfl, t, ls, lw, lr, c, SL, sizes, weights, r0, r1, r2, r3, ws, rfl, P1, F0, s1 _ _ hc, hV, hle, fun H2 s2 => ?_⟩
    have P2 := P1.keep s2
    have s02 := s1.trans s2
    refine ⟨_, rfl, t, _, _, V.ref lw, rfl, rfl, SqT.of P2.t, rfl, _, rfl, lw, c, weights, ws, rfl, P2.lw, s02 _ _ hc, by omega, by omega, fun wl H3 hwl hwn s3 => ?_⟩
    have s03 := s02.trans s3
    have P3 := P2.keep s3
    have hb3 := hb.mono (.of s03)
    have hc3 := s03 _ _ hc
    have hll3 := s03 _ _ hll
    have hL3 := hL.mono (.of s03)
    have hA3 := s03 _ _ hA
    have hlt3 := s03 _ _ hlt
    refine gName_to (σ' := [some (.ref t), some (.ref c), some (.ref ll), some (.int (i0 : Int)), some bv, some (.int (bdF sizes weights r0 r1 r2 r3 ws)), some (.ref wl), none, none, none]) rfl ?_
    dsimp only
    refine kcut1 (fun σ' H' => σ' = [some (.ref t), some (.ref c), some (.ref ll), some (.int (i0 : Int)), some bv, some (.int (bdF sizes weights r0 r1 r2 r3 ws)), some (.ref wl), some (.bl (!cutB b (bdF sizes weights r0 r1 r2 r3 ws))), none, none] ∧ H' = H3) (fun N hN => ?_) ?_
    · cases b with
      | none =>
        obtain rfl := hb3
        exact ⟨_, rfl, rfl, _, rfl, iteY rfl (hN _ _ ⟨rfl, rfl⟩)⟩
      | some x =>
        obtain ⟨ba, rfl, bt, hba, hbt⟩ := hb3
        refine ⟨_, rfl, rfl, _, rfl, iteN (by simp) ⟨_, rfl, _, rfl, ba, _, _, V.int x.2, rfl, rfl, SqT.of hba, rfl, _, _, rfl, rfl, hN _ _ ⟨?_, rfl⟩⟩⟩
        have e : (!decide (x.2 ≤ (bdF sizes weights r0 r1 r2 r3 ws))) = decide ((bdF sizes weights r0 r1 r2 r3 ws) < x.2) := by
          by_cases z : x.2 ≤ (bdF sizes weights r0 r1 r2 r3 ws)
          · rw [decide_eq_true z, decide_eq_false (by omega)]; rfl
          · rw [decide_eq_false z, decide_eq_true (by omega)]; rfl
        show _ = [_, _, _, _, _, _, _, some (V.bl (!decide (x.2 ≤ (bdF sizes weights r0 r1 r2 r3 ws)))), _, _]
        rw [e]; rfl
    rintro σ' H' ⟨rfl, rfl⟩
    refine ⟨_, rfl, _, rfl, ll, _, _, V.ref la, rfl, rfl, SqL.of hll3, eat, la, _, _, V.ref lt, rfl, rfl, SqT.of hA3, rfl, _, rfl, 0, decide (l0.1 = ws), by omega, SeqEq.strsT (SqT.of hlt3) (SqT.of hc3), _, rfl, ?_⟩
    by_cases hin : cutB b (bdF sizes weights r0 r1 r2 r3 ws) = false ∧ nextWs weights ws ≠ []
    · obtain ⟨hcut, hnx⟩ := hin
      have hvi : visF sizes weights r0 r1 r2 r3 (f0 + 1) ws b = vL (fun w => visF sizes weights r0 r1 r2 r3 f0 (ws ++ [w])) (nextWs weights ws) b := visit_in hcut hnx
      have hlen : ws.length + 1 ≤ l0.1.length := by
        have hm : l0 ∈ (vL (fun w => visF sizes weights r0 r1 r2 r3 f0 (ws ++ [w])) (nextWs weights ws) b).1 := by rw [← hvi, hlv]; simp
        exact vL_all (p := fun l => ws.length + 1 ≤ l.1.length) (fun w b l hl => by have := visit_len f0 (ws ++ [w]) b l hl; simpa using this) _ _ l0 hm
      refine iteN (fun z => by rw [z] at hlen; omega) ?_
      refine ⟨_, rfl, _, rfl, iteBF (by rw [hcut]; rfl) ⟨_, rfl, Nat.zero_le _, fun el hel => ⟨0, _, by omega, SeqEq.strsL (SqL.of (Same.new hel _ _ hwl)) (SqL.of upd_same), _, rfl, iteN hnx ?_⟩⟩⟩
      have s4 : Same H' (upd H' el (.lst [])) := Same.new hel
      generalize upd H' el (.lst []) = H4 at s4
      have hwl4 := s4 _ _ hwl
      have P4 := P3.keep s4
      obtain ⟨g, hg⟩ : ∃ g, g = fun w => visF sizes weights r0 r1 r2 r3 f0 (ws ++ [w]) := ⟨_, rfl⟩
      rw [hvi, ← hg] at q hd
      refine ⟨_, rfl, wl, rfl, ⟨_, SqL.of hwl4⟩, for_list (K := K) (a := wl) (xs := (nextWs weights ws).map V.str) (fun i σ H5 => ∃ (v8 v9 : Option V) (bv' : V), σ = [some (.ref t), some (.ref c), some (.ref ll), some (.int ((i0 + (vL g ((nextWs weights ws).take i) b).1.length : Nat) : Int)), some bv', some (.int (bdF sizes weights r0 r1 r2 r3 ws)), some (.ref wl), some (.bl (!cutB b (bdF sizes weights r0 r1 r2 r3 ws))), v8, v9] ∧ Same H4 H5 ∧ BestT H5 bv' (vL g ((nextWs weights ws).take i) b).2) ⟨none, none, bv, rfl, Same.refl _, hb3.mono (.of s4)⟩ (fun i σ H5 _ ⟨_, _, _, _, s5, _⟩ => SqL.of (s5 _ _ hwl4)) ?_ ?_⟩
      · rintro i x σ H5 hi ⟨v8, v9, bv', rfl, s5, hb5⟩
        obtain ⟨w, hw, rfl⟩ := str_at hi
        have hil2 : i < (nextWs weights ws).length := (List.getElem?_eq_some_iff.mp hw).1
        have hlt2 : ws.length < sizes.length := by have := mt (hn ws).mpr hnx; omega
        have s45 := s4.trans s5
        have htk : (nextWs weights ws).take (i + 1) = (nextWs weights ws).take i ++ [w] := by rw [List.take_add_one, hw]; rfl
        have hnw : nextWs weights ws = (nextWs weights ws).take i ++ w :: (nextWs weights ws).drop (i + 1) := by
          have := List.take_append_drop (i + 1) (nextWs weights ws)
          rw [htk, List.append_assoc] at this
          exact this.symm
        obtain ⟨wt, _, hw2⟩ := nextWs_mem (List.mem_of_getElem? hw)
        refine ⟨_, rfl, _, rfl, _, rfl, (by show 1 ≤ sizeLine; decide), fun tt htt => ⟨c, tt, ws.map V.str, [V.str w], rfl, rfl, SqT.of (Same.new htt _ _ (s45 _ _ hc3)), upd_same, by simp, Nat.le_of_lt (small1000 (by simp; omega)), fun pp H7 hp7 s7 => ?_⟩⟩
        have s57 : Same H5 H7 := (Same.new htt).trans s7
        have s37 := s45.trans s57
        have hdrop : all.drop (i0 + (vL g ((nextWs weights ws).take i) b).1.length) = (visF sizes weights r0 r1 r2 r3 f0 (ws ++ [w]) (vL g ((nextWs weights ws).take i) b).2).1 ++ ((vL g ((nextWs weights ws).drop (i + 1)) (g w (vL g ((nextWs weights ws).take i) b).2).2).1 ++ rest) := by
          rw [← List.drop_drop, hd]
          rw [show vL g (nextWs weights ws) b = vL g ((nextWs weights ws).take i ++ w :: (nextWs weights ws).drop (i + 1)) b from congrArg (fun z => vL g z b) hnw, vL_append]
          show List.drop _ ((_ ++ ((g w _).1 ++ _)) ++ rest) = _
          rw [List.append_assoc, List.drop_left, List.append_assoc, hg]
        refine ⟨_, rfl, _, rfl, _, rfl, t, ls, lw, lr, pp, ll, SL, sizes, weights, r0, r1, r2, r3, ws ++ [w], LL, all, i0 + (vL g ((nextWs weights ws).take i) b).1.length, bv', (vL g ((nextWs weights ws).take i) b).2, f0, _, rfl, P3.keep s37, F0, by rw [hp7, List.map_append]; rfl, hV.snoc hw2, by simp; omega, s37 _ _ hll3, hL3.mono (.of s37), hb5.mono (.of s57), by simp; omega, by omega, hdrop, h7, fun r bv'' H8 hr8 hb8 s8 => ?_⟩
        refine ⟨_, rfl, rfl, _, rfl, iteN (by simp) ?_⟩
        refine ⟨_, rfl, r, _, _, V.int _, rfl, rfl, SqL.of hr8, rfl, ?_⟩
        refine ⟨_, rfl, r, _, _, bv'', rfl, rfl, SqL.of hr8, rfl, ?_⟩
        have e1 : vL g ((nextWs weights ws).take (i + 1)) b = ((vL g ((nextWs weights ws).take i) b).1 ++ (g w (vL g ((nextWs weights ws).take i) b).2).1, (g w (vL g ((nextWs weights ws).take i) b).2).2) := by
          rw [htk, vL_append]
          simp [vL]
        refine ⟨some (.str w), some (.ref r), bv'', ?_, s5.trans (s57.trans s8), ?_⟩
        · rw [e1, List.length_append, ← Nat.add_assoc, hg]; rfl
        · rw [e1]; rw [hg] at hb8 ⊢; exact hb8
      · rintro σ H5 ⟨v8, v9, bv', rfl, s5, hb5⟩
        rw [List.length_map, List.take_length] at hb5 ⊢
        refine ⟨_, rfl, _, rfl, (by show 2 ≤ sizeLine; decide), fun r hr => ?_⟩
        have s6 := Same.new (o := HO.lst [V.int ((i0 + (vL g (nextWs weights ws) b).1.length : Nat) : Int), bv']) hr
        exact q r bv' _ upd_same (hb5.mono (.of s6)) (s03.trans (s4.trans (s5.trans s6)))
    · have hleaf : (visF sizes weights r0 r1 r2 r3 (f0 + 1) ws b).1 = [(ws, (bdF sizes weights r0 r1 r2 r3 ws))] := by
        by_cases hcut : cutB b (bdF sizes weights r0 r1 r2 r3 ws) = true
        · exact congrArg Prod.fst (visit_cut hcut)
        · have hcut : cutB b (bdF sizes weights r0 r1 r2 r3 ws) = false := by simpa using hcut
          have hnx : nextWs weights ws = [] := Classical.byContradiction fun z => hin ⟨hcut, z⟩
          exact congrArg Prod.fst (visit_full hcut hnx)
      rw [hleaf] at hlv
      have hl0 : l0 = (ws, (bdF sizes weights r0 r1 r2 r3 ws)) := by simp at hlv; exact hlv.1.symm
      subst hl0
      refine iteY rfl ?_
      by_cases hcut : cutB b (bdF sizes weights r0 r1 r2 r3 ws) = true
      · have hv : visF sizes weights r0 r1 r2 r3 (f0 + 1) ws b = ([(ws, (bdF sizes weights r0 r1 r2 r3 ws))], b) := visit_cut hcut
        rw [hv] at q
        refine ⟨_, rfl, _, rfl, ll, _, _, V.ref la, rfl, rfl, SqL.of hll3, eat, la, _, _, V.int (bdF sizes weights r0 r1 r2 r3 ws), rfl, rfl, SqT.of hA3, rfl, _, rfl, rfl, _, rfl, iteNS rfl ?_⟩
        refine ⟨_, rfl, _, rfl, iteBF (by rw [hcut]; rfl) (iteF ?_)⟩
        refine ⟨_, rfl, _, rfl, iteBF (by rw [hcut]; rfl) ?_⟩
        refine ⟨_, rfl, _, _, rfl, rfl, _, rfl, (by show 2 ≤ sizeLine; decide), fun r hr => ?_⟩
        have s6 := Same.new (o := HO.lst [V.int ((i0 : Int) + 1), bv]) hr
        exact q r bv _ upd_same (hb3.mono (.of s6)) (s03.trans s6)
      · have hcut : cutB b (bdF sizes weights r0 r1 r2 r3 ws) = false := by simpa using hcut
        have hnx : nextWs weights ws = [] := Classical.byContradiction fun z => hin ⟨hcut, z⟩
        have hv : visF sizes weights r0 r1 r2 r3 (f0 + 1) ws b = ([(ws, (bdF sizes weights r0 r1 r2 r3 ws))], some (ws, (bdF sizes weights r0 r1 r2 r3 ws))) := visit_full hcut hnx
        rw [hv] at q
        refine ⟨_, rfl, _, rfl, ll, _, _, V.ref la, rfl, rfl, SqL.of hll3, eat, la, _, _, V.int (bdF sizes weights r0 r1 r2 r3 ws), rfl, rfl, SqT.of hA3, rfl, _, rfl, rfl, _, rfl, iteNS rfl ?_⟩
        refine ⟨_, rfl, _, rfl, iteBT (by rw [hcut]; rfl) ⟨_, rfl, Nat.zero_le _, fun el hel => ⟨0, _, by omega, SeqEq.strsL (SqL.of (Same.new hel _ _ hwl)) (SqL.of upd_same), _, rfl, iteNS hnx ?_⟩⟩⟩
        have s4 : Same H' (upd H' el (.lst [])) := Same.new hel
        generalize upd H' el (.lst []) = H4 at s4
        refine ⟨_, rfl, _, rfl, iteBT (by rw [hcut]; rfl) ⟨_, rfl, _, rfl, (by show 2 ≤ sizeLine; decide), fun nb hnb => ?_⟩⟩
        have s5 : Same H4 (upd H4 nb (.tup [V.ref c, V.int (bdF sizes weights r0 r1 r2 r3 ws)])) := Same.new hnb
        have h5 : upd H4 nb (.tup [V.ref c, V.int (bdF sizes weights r0 r1 r2 r3 ws)]) nb = some (.tup [V.ref c, V.int (bdF sizes weights r0 r1 r2 r3 ws)]) := upd_same
        generalize upd H4 nb (.tup [V.ref c, V.int (bdF sizes weights r0 r1 r2 r3 ws)]) = H5 at s5 h5
        refine ⟨_, rfl, _, _, rfl, rfl, _, rfl, (by show 2 ≤ sizeLine; decide), fun r hr => ?_⟩
        have s6 := Same.new (o := HO.lst [V.int ((i0 : Int) + 1), V.ref nb]) hr
        exact q r (.ref nb) _ upd_same ⟨nb, rfl, c, s6 _ _ h5, s6 _ _ (s5 _ _ (s4 _ _ hc3))⟩ (s03.trans (s4.trans (s5.trans s6)))
theorem ok_law {f : Addr} {fd : FuncData} (F : Fun K "law" "law" s_law f fd) (T : Txt K mg t_MOST_PLANNED C_KeepError C_NoPlan C_Task) (D__law_plain : DefX P w K mg base "_law_plain" 2 ["_law_script", "_law_most"] (sp_plain K)) (D_Task : MakeX P w K mg base "Task" C_Task 4 ["self", "sizes", "weights", "rates"] (sp_tinit C_Task)) (D_best_plan : DefX P w K mg base "best_plan" 6 ["task"] (sp_bplan C_Task)) (D__law_leaf : DefX P w K mg base "_law_leaf" 2 ["_law_leaf_here"] sp_leaf) (D__law_under : DefX P w K mg base "_law_under" 11 ["_law_plain_here", "_law_begin", "_law_leaves", "_law_at", "_law_best"] (sp_under 8)) : FnOk P w K mg base (CXx P w) 12 f fd ["_law_script"] (sp_law K) := by
  refine F.okX sc_law (fun vs H Q E h => ?_) (fun cdv A outer s H vs Q E hr h => ?_)
  · obtain ⟨a, ns, rfl, hS, hlen, q⟩ := h; rfl
  · obtain ⟨a, ns, rfl, hS, hlen, q⟩ := h
    refine ⟨_, (pss_cons (ps_set (i := 1) sc_law.nd rfl (Or.inl rfl) (pe_callS D__law_plain passesN (hr.mono (by decide)) rfl (pa_cons (pv 0) (pa_cons pe_int pa_nil))))
      (pss_cons (ps_set (i := 2) sc_law.nd rfl (Or.inl rfl) (pe_makeS D_Task passesN (hr.mono (by decide)) rfl (pa_cons (pe_ix ix_tup (pv 1) pe_int (fun _ _ => rfl)) (pa_cons (pe_ix ix_tup (pv 1) pe_int (fun _ _ => rfl)) (pa_cons (pe_ix ix_tup (pv 1) pe_int (fun _ _ => rfl)) pa_nil)))))
      (pss_cons (ps_set (i := 3) sc_law.nd rfl (Or.inl rfl) (pe_callS D_best_plan passesN (hr.mono (by decide)) rfl (pa_cons (pv 2) pa_nil)))
      (pss_cons (ps_if (PW.pt (pw_or (pt_not (pt_val (pe_callB call_isinst (by rfl) T.b_isinstance PyProof.Rows.boot_isinstance (pa_cons (pv 3) (pa_cons (pe_bltn (v := .ty "tuple") rfl T.b_tuple PyProof.Rows.boot_tuple rfl) pa_nil))))) (pw_or (pt_cmpR op_ne (pe_callB call_len_seq (by rfl) T.b_len PySem.boot_len (pa_cons (pv 3) pa_nil)) pe_int (nomark _)) (pw_or1 (pt_not (pt_val (pe_callB call_isinst (by rfl) T.b_isinstance PyProof.Rows.boot_isinstance (pa_cons (pe_ix ix_tup (pv 3) pe_int (fun _ _ => rfl)) (pa_cons (pe_bltn (v := .ty "list") rfl T.b_list PyProof.Rows.boot_list rfl) pa_nil))))))))) (pss_one (ps_ret pe_bl)) pss_nil)
      (pss_cons (ps_if (pt_not (pt_val (pe_callS D__law_leaf passesN (hr.mono (by decide)) rfl (pa_cons (pe_tup (pa_cons (pe_ix ix_tup (pv 3) pe_int (fun _ _ => rfl)) (pa_cons (pe_ix ix_tup (pv 3) pe_int (fun _ _ => rfl)) pa_nil))) pa_nil)))) (pss_one (ps_ret pe_bl)) pss_nil)
      (pss_cons (ps_set (i := 4) sc_law.nd rfl (Or.inl rfl) (pe_callS D__law_under passesN (hr.mono (by decide)) rfl (pa_cons (pv 1) (pa_cons (pe_tup pa_nil) (pa_cons (pe_ix ix_tup (pv 3) pe_int (fun _ _ => rfl)) (pa_cons pe_int (pa_cons pe_non pa_nil)))))))
      (pss_cons (ps_if (PW.pt (pw_or (pt_cmpR op_isN (pv 4) pe_non (nomark _)) (pw_or (pt_cmpR op_ne (pe_ix ix_list (pv 4) pe_int (fun _ _ => rfl)) (pe_callB call_len_seq (by rfl) T.b_len PySem.boot_len (pa_cons (pe_ix ix_tup (pv 3) pe_int (fun _ _ => rfl)) pa_nil)) (nomark _)) (pw_or1 (pt_cmpR (op_ne_ref hr.units) (pe_ix ix_list (pv 4) pe_int (fun _ _ => rfl)) (pe_tup (pa_cons (pe_ix ix_tup (pv 3) pe_int (fun _ _ => rfl)) (pa_cons (pe_ix ix_tup (pv 3) pe_int (fun _ _ => rfl)) pa_nil))) (nomark _)))))) (pss_one (ps_ret pe_bl)) pss_nil)
      (pss_cons (ps_set (i := 5) sc_law.nd rfl (Or.inl rfl) pe_bl)
      (pss_cons (ps_for PassesOwn.leaving rfl (pi_list (pe_ix ix_tup (pv 3) pe_int (fun _ _ => rfl))) (pg_name (i := 6) sc_law.nd rfl (Or.inl rfl))
      (pss_cons (ps_if (pt_cmpR (op_eq_ref hr.units) (pe_ix ix_tup (pv 6) pe_int (fun _ _ => rfl)) (pe_ix ix_tup (pv 3) pe_int (fun _ _ => rfl)) (nomark _)) (pss_one (ps_set (i := 5) sc_law.nd rfl (Or.inl rfl) pe_bl)) pss_nil)
      (pss_one (ps_if (PW.pt (pw_or (pt_cmpR op_lt (pe_ix ix_tup (pv 6) pe_int (fun _ _ => rfl)) (pe_ix ix_tup (pv 3) pe_int (fun _ _ => rfl)) (nomark _)) (pw_or1 (PW.pt (pw_and (pt_val (pv 5)) (pw_and1 (pt_cmpR op_eq (pe_ix ix_tup (pv 6) pe_int (fun _ _ => rfl)) (pe_ix ix_tup (pv 3) pe_int (fun _ _ => rfl)) (nomark _)))))))) (pss_one (ps_ret pe_bl)) pss_nil))))
      (pss_cons (ps_set (i := 7) sc_law.nd rfl (Or.inl rfl) (pe_callTy call_list_of (by rfl) T.b_list PyProof.Rows.boot_list (pa_cons (pe_ix ix_tup (pv 3) pe_int (fun _ _ => rfl)) pa_nil)))
      (pss_cons (ps_expr (pe_bm0 PySem.F.plainAttrs_list PySem.F.slot_list_clear PySem.F.type_list_clear mt_clear (pe_ix ix_tup (pv 3) pe_int (fun _ _ => rfl))))
      (pss_one (ps_ret (pe_cmpR (op_eq_ref hr.units) (pe_callS D_best_plan passesN (hr.mono (by decide)) rfl (pa_cons (pv 2) pa_nil)) (pe_tup (pa_cons (pe_ix ix_tup (pv 3) pe_int (fun _ _ => rfl)) (pa_cons (pe_ix ix_tup (pv 3) pe_int (fun _ _ => rfl)) (pa_cons (pv 7) pa_nil)))) (nomark _))))))))))))))), ?_⟩
    refine ⟨_, rfl, a, ns, 6, rfl, hS, hlen, by omega, by omega, fun t ls lw lr SL sizes weights rates H1 P hfr s1 => ?_⟩
    obtain ⟨r0, r1, r2, r3, rfl, F⟩ := P.four
    have n1 := P.n1
    have n7 := P.n7
    have nw := P.nw
    have hn : ∀ ws, nextWs weights ws = [] ↔ sizes.length ≤ ws.length := fun ws => by rw [nextWs_nil, nw]
    refine ⟨_, rfl, t, _, _, V.ref ls, rfl, rfl, SqT.of P.t, rfl, _, rfl, t, _, _, V.ref lw, rfl, rfl, SqT.of P.t, rfl, _, rfl, t, _, _, V.ref lr, rfl, rfl, SqT.of P.t, rfl, fun x dx hx hd ne => ⟨x, dx, ls, lw, lr, SL, sizes, weights, [r0, r1, r2, r3], rfl, upd_same, n1, n7, by omega, by simp, .inl ⟨upK hx hd _ _ P.ls, (P.rows.mono fun b _ o e => upK hx hd _ _ e), upK hx hd _ _ P.lw, upK hx hd _ _ P.lr⟩, fun H2 hT k2 => ⟨rfl, ?_⟩⟩⟩
    have s2 : Same H1 H2 := made_same hx hd k2
    have P2 := P.keep s2
    refine ⟨_, rfl, x, sizes, weights, r0, r1, r2, r3, rfl, hT, F, fun tt bt ll LL lv y H3 ht3 hbt3 hll3 hln hL3 hvis hlv s3 => ?_⟩
    have G := visit_good (nx := nextWs weights) (bd := bdF sizes weights r0 r1 r2 r3) (sizes.length + 1) [] none
    have hall0 := visit_le (bd := bdF sizes weights r0 r1 r2 r3) hn (sizes.length + 1) [] none (Nat.zero_le _)
    rw [show visit (nextWs weights) (bdF sizes weights r0 r1 r2 r3) (sizes.length + 1) [] none = (lv, some y) from hvis] at G hall0
    have hall : ∀ l ∈ lv, l.1.length ≤ 7 := fun l hl => Nat.le_trans (hall0 l hl) n7
    have hlow : ∀ l ∈ lv, y.2 ≤ l.2 := fun l hl => by
      obtain ⟨z, ez, hz⟩ := G.low l hl
      cases ez
      exact hz
    obtain ⟨jy, hjy, hjb⟩ : ∃ j, lv[j]? = some y ∧ ∀ (i : Nat) l, i < j → lv[i]? = some l → y.2 < l.2 := by
      rcases G.pos with z | ⟨z, j, ez, hj, hb, _⟩
      · cases z
      · cases ez
        exact ⟨j, hj, hb⟩
    have hy7 := hall y (List.mem_of_getElem? hjy)
    refine ⟨_, rfl, _, _, _, _, true, rfl, rfl, .tup ht3, rfl, _, rfl, iteF ⟨_, rfl, tt, _, rfl, .inr (SqT.of ht3), rfl, _, rfl, iteNS rfl ⟨_, rfl, tt, _, _, V.ref ll, rfl, rfl, SqT.of ht3, rfl, _, _, _, _, true, rfl, rfl, .lst hll3, rfl, _, rfl, iteF ?_⟩⟩⟩
    refine ⟨_, rfl, tt, _, _, V.ref bt, rfl, rfl, SqT.of ht3, rfl, _, rfl, tt, _, _, V.int y.2, rfl, rfl, SqT.of ht3, rfl, (by show 2 ≤ sizeLine; decide), fun pa hpa => ⟨pa, y, rfl, ⟨bt, upd_same, Same.new hpa _ _ hbt3⟩, hy7, fun H4 s4 => ⟨_, rfl, iteF ?_⟩⟩⟩
    have s34 : Same H3 H4 := (Same.new hpa).trans s4
    have ht4 := s34 _ _ ht3
    have s24 := s3.trans s34
    refine ⟨_, rfl, Nat.zero_le _, fun e0 he0 => ?_⟩
    have s5 : Same H4 (upd H4 e0 (.tup [])) := Same.new he0
    have h5 : upd H4 e0 (.tup []) e0 = some (.tup (([] : List PySem.Str).map V.str)) := upd_same
    generalize upd H4 e0 (.tup []) = H5 at s5 h5
    have s25 := s24.trans s5
    have s35 := s34.trans s5
    have ht5 := s35 _ _ ht3
    refine ⟨_, rfl, tt, _, _, V.ref ll, rfl, rfl, SqT.of ht5, rfl, t, ls, lw, lr, e0, ll, SL, sizes, weights, r0, r1, r2, r3, [], LL, lv, 0, .non, none, sizes.length + 1, [], rfl, P2.keep s25, F, h5, VW.nil, Nat.zero_le _, s35 _ _ hll3, hL3.mono (.of s35), rfl, by simp, by omega, by rw [hvis]; simp, hall, fun r bv H6 hr6 hb6 s6 => ?_⟩
    rw [hvis] at hr6 hb6
    obtain ⟨ba, rfl, bt2, hba, hbt2⟩ := hb6
    have s36 := s35.trans s6
    have ht6 := s36 _ _ ht3
    have hbt6 := s36 _ _ hbt3
    have Ll := hL3.len
    refine ⟨_, rfl, rfl, _, rfl, iteN (by simp) ⟨_, rfl, r, _, _, V.int _, rfl, rfl, SqL.of hr6, rfl, _, rfl, tt, _, _, V.ref ll, rfl, rfl, SqT.of ht6, rfl, ll, _, rfl, .inl (SqL.of (s36 _ _ hll3)), rfl, _, rfl, iteNS (by rw [List.length_map, Ll, Nat.zero_add]) ⟨_, rfl, r, _, _, V.ref ba, rfl, rfl, SqL.of hr6, rfl, _, rfl, tt, _, _, V.ref bt, rfl, rfl, SqT.of ht6, rfl, _, rfl, tt, _, _, V.int y.2, rfl, rfl, SqT.of ht6, rfl, (by show 2 ≤ sizeLine; decide), fun pb hpb => ⟨1, true, by omega, lf_eq (l := y) ⟨bt2, Same.new hpb _ _ hba, Same.new hpb _ _ hbt2⟩ ⟨bt, upd_same, Same.new hpb _ _ hbt6⟩, _, rfl, iteF ?_⟩⟩⟩⟩
    have s67 : Same H6 (upd H6 pb (.tup [V.ref bt, V.int y.2])) := Same.new hpb
    generalize upd H6 pb (.tup [V.ref bt, V.int y.2]) = H7 at s67
    have s37 := s36.trans s67
    have ht7 := s37 _ _ ht3
    have hll7 := s37 _ _ hll3
    have hL7 := hL3.mono (.of s37)
    have hbt7 := s37 _ _ hbt3
    refine ⟨_, rfl, tt, _, _, V.ref ll, rfl, rfl, SqT.of ht7, rfl, ll, rfl, ⟨_, SqL.of hll7⟩, for_list (K := K) (a := ll) (xs := LL.map V.ref) (fun i σ H8 => ∃ (v6 : Option V), σ = [some (.ref a), some (.ref t), some (.ref x), some (.ref tt), some (.ref r), some (.bl (noneB y.1 (lv.take i))), v6, none] ∧ H8 = H7) ⟨none, rfl, rfl⟩ (fun i σ H8 _ ⟨_, _, e⟩ => by rw [e]; exact SqL.of hll7) ?_ ?_⟩
    · rintro i z σ H8 hi ⟨v6, rfl, rfl⟩
      rw [List.getElem?_map] at hi
      obtain ⟨la, hla, rfl⟩ := Option.map_eq_some_iff.mp hi
      obtain ⟨l, hl⟩ : ∃ l, lv[i]? = some l := ⟨_, List.getElem?_eq_getElem (by have := (List.getElem?_eq_some_iff.mp hla).1; omega)⟩
      obtain ⟨lt, hA, hlt⟩ := hL7.get i la l hla hl
      have hmem := List.mem_of_getElem? hl
      refine kcut1 (fun σ' H' => σ' = [some (.ref a), some (.ref t), some (.ref x), some (.ref tt), some (.ref r), some (.bl (noneB y.1 (lv.take (i + 1)))), some (.ref la), none] ∧ H' = H8) (fun N hN => ?_) ?_
      · refine ⟨_, rfl, la, _, _, V.ref lt, rfl, rfl, SqT.of hA, rfl, _, rfl, tt, _, _, V.ref bt, rfl, rfl, SqT.of ht7, rfl, 0, decide (l.1 = y.1), by omega, SeqEq.strsT (SqT.of hlt) (SqT.of hbt7), _, rfl, ?_⟩
        by_cases e : l.1 = y.1
        · refine iteY e (hN _ _ ⟨?_, rfl⟩)
          rw [noneB_snoc hl, decide_eq_false (fun z => z e), Bool.and_false]; rfl
        · refine iteN e (hN _ _ ⟨?_, rfl⟩)
          rw [noneB_snoc hl, decide_eq_true e, Bool.and_true]; rfl
      rintro σ' H' ⟨rfl, rfl⟩
      refine ⟨_, rfl, la, _, _, V.int l.2, rfl, rfl, SqT.of hA, rfl, _, rfl, tt, _, _, V.int y.2, rfl, rfl, SqT.of ht7, rfl, _, _, rfl, rfl, _, rfl, iteN (by have := hlow l hmem; omega) ?_⟩
      refine ⟨_, rfl, _, rfl, ?_⟩
      by_cases hah : noneB y.1 (lv.take (i + 1)) = true
      · refine iteBT hah ⟨_, rfl, la, _, _, V.int l.2, rfl, rfl, SqT.of hA, rfl, _, rfl, tt, _, _, V.int y.2, rfl, rfl, SqT.of ht7, rfl, rfl, _, rfl, iteN (fun z => ?_) ⟨_, rfl, rfl⟩⟩
        have e2 : l.2 = y.2 := V.int.inj z
        by_cases hij : i < jy
        · have := hjb i l hij hl; omega
        · exact noneB_no hah hjy (by omega) rfl
      · exact iteBF (by simpa using hah) (iteF ⟨_, rfl, rfl⟩)
    rintro σ H8 ⟨v6, rfl, rfl⟩
    refine ⟨_, rfl, tt, _, _, V.ref ll, rfl, rfl, SqT.of ht7, rfl, ll, _, rfl, .inl (SqL.of hll7), fun kl hkl => ?_⟩
    have s9 : Same H8 (upd H8 kl (.lst (LL.map V.ref))) := Same.new hkl
    have k9 : upd H8 kl (.lst (LL.map V.ref)) kl = some (.lst (LL.map V.ref)) := upd_same
    have nkl : kl ≠ ll := fun z => by rw [z, hll7] at hkl; cases hkl
    generalize upd H8 kl (.lst (LL.map V.ref)) = H9 at s9 k9
    have ht9 := s9 _ _ ht7
    have hll9 := s9 _ _ hll7
    refine ⟨_, rfl, tt, _, _, V.ref ll, rfl, rfl, SqT.of ht9, rfl, .inl ⟨rfl, _, SqL.of hll9⟩, ll, _, rfl, rfl, hll9, ?_⟩
    have hT10 : TaskAt C_Task (upd H9 ll (.lst [])) x sizes weights [r0, r1, r2, r3] := (hT.keep (s3.trans (s37.trans s9))).keepL fun b o e hno => by
      rw [upd_ne (fun z => by rw [z, hll9] at e; cases e; exact hno _ rfl)]; exact e
    have k10 : KeepT H9 (upd H9 ll (.lst [])) := KeepT.lst hll9
    have kl10 : upd H9 ll (.lst []) kl = some (.lst (LL.map V.ref)) := by rw [upd_ne nkl]; exact k9
    generalize upd H9 ll (.lst []) = H10 at hT10 k10 kl10
    refine ⟨_, rfl, x, sizes, weights, r0, r1, r2, r3, rfl, hT10, F, fun t2 bt' ll' LL' lv' y' H11 ht11 hbt11 hll11 _ hL11 hvis' _ s11 => ?_⟩
    have ev := hvis.symm.trans hvis'
    have e1 : lv = lv' := congrArg Prod.fst ev
    have e2 : y = y' := Option.some.inj (congrArg Prod.snd ev)
    subst e1 e2
    have k11 : KeepT H8 H11 := (KeepT.of s9).trans (k10.trans (.of s11))
    have ht12 := k11 _ _ ht7
    refine ⟨_, rfl, tt, _, _, V.ref bt, rfl, rfl, SqT.of ht12, rfl, _, rfl, tt, _, _, V.int y.2, rfl, rfl, SqT.of ht12, rfl, _, rfl, (by show 3 ≤ sizeLine; decide), fun pc hpc => ⟨3, true, by omega, plan_eq (x := y) (lv := lv) (Same.new hpc _ _ ht11) upd_same (Same.new hpc _ _ hbt11) (Same.new hpc _ _ (k11 _ _ hbt7)) (Same.new hpc _ _ hll11) (Same.new hpc _ _ (s11 _ _ kl10)) (hL11.mono (.of (Same.new hpc))) (hL7.mono (k11.trans (.of (Same.new hpc)))), q _⟩⟩
end
theorem all_mk {l : PySem.W.OpenLaw} {w : World} {K : PySem.W.Frag} {h : Heap} {mg : Str → Option Value} {fa : Addr} (X : K.In h) (G : h.Ns mainGlobals mg) (hfa : mg "law" = some (.ref fa))
    {t_MOST_PLANNED : Tok} (g_MOST_PLANNED : PySem.W.nsIn K mainGlobals "MOST_PLANNED" = some (some (.int 7 t_MOST_PLANNED)))
    {C_KeepError : Addr} (a_KeepError : PySem.W.nsIn K mainGlobals "KeepError" = some (some (.ref C_KeepError)))
    {C_NoPlan : Addr} (a_NoPlan : PySem.W.nsIn K mainGlobals "NoPlan" = some (some (.ref C_NoPlan)))
    {C_Task : Addr} (a_Task : PySem.W.nsIn K mainGlobals "Task" = some (some (.ref C_Task)))
    (clg : PySem.W.specialIn K (.builtin "object.__class__") "__get__" = some (some (.builtin "getset_descriptor.__get__"))) (clt : PySem.W.takesIn K (.builtin "object.__class__") = some true)
    (xo_KeepError : xobjIn K C_KeepError = true) (xs_KeepError : PySem.W.findIn K (.ref C_KeepError) "__setattr__" = some (some (.builtin "object.__setattr__"))) (xg_KeepError : PySem.W.findIn K (.ref C_KeepError) "__getattribute__" = some (some (.builtin "BaseException.__getattribute__"))) (xh_KeepError : PySem.W.findIn K (.ref C_KeepError) "__getattr__" = some none) (xc_KeepError : PySem.W.findIn K (.ref C_KeepError) "__class__" = some (some (.builtin "object.__class__"))) (kc_KeepError : PySem.W.keepIn K (.ref C_KeepError) = true)
    (xo_NoPlan : xobjIn K C_NoPlan = true) (xs_NoPlan : PySem.W.findIn K (.ref C_NoPlan) "__setattr__" = some (some (.builtin "object.__setattr__"))) (xg_NoPlan : PySem.W.findIn K (.ref C_NoPlan) "__getattribute__" = some (some (.builtin "BaseException.__getattribute__"))) (xh_NoPlan : PySem.W.findIn K (.ref C_NoPlan) "__getattr__" = some none) (xc_NoPlan : PySem.W.findIn K (.ref C_NoPlan) "__class__" = some (some (.builtin "object.__class__"))) (kc_NoPlan : PySem.W.keepIn K (.ref C_NoPlan) = true)
    (n_NoPlan_many : PySem.W.findIn K (.ref C_NoPlan) "many" = some none)
    (pg_Task : PySem.W.plainGet K C_Task Str.empty = true) (hd_Task : PySem.W.hasDictIn K C_Task = true) (po_Task : PySem.W.plainOver K C_Task = true) (sa_Task : PySem.W.findIn K (.ref C_Task) "__setattr__" = some (some (.builtin "object.__setattr__"))) (mk_Task : PySem.W.makesIn K C_Task = true) (kc_Task : PySem.W.keepIn K (.ref C_Task) = true)
    (n_Task_sizes : PySem.W.findIn K (.ref C_Task) "sizes" = some none)
    (n_Task_weights : PySem.W.findIn K (.ref C_Task) "weights" = some none)
    (n_Task_rates : PySem.W.findIn K (.ref C_Task) "rates" = some none)
    {f_NoPlan___init__ : Addr} {od_NoPlan___init__ an_NoPlan___init__ : Option Addr} {sl_NoPlan___init__ : Array (Option Value)} {oc_NoPlan___init__ kV_NoPlan___init__ dc_NoPlan___init__ pm_NoPlan___init__ cd_NoPlan___init__ ct_NoPlan___init__ : Value}
    (a_NoPlan___init__ : PySem.W.findIn K (.ref C_NoPlan) "__init__" = some (some (.ref f_NoPlan___init__))) (i_NoPlan___init__ : PySem.W.isFn K (.ref f_NoPlan___init__) = true)
    (l_NoPlan___init__ : K.lookup f_NoPlan___init__ = some ⟨oc_NoPlan___init__, od_NoPlan___init__, .func (PySem.W.fnOf "__init__" "NoPlan.__init__" (defArgs s_NoPlan___init__) (defBody s_NoPlan___init__) (defScope s_NoPlan___init__) .none kV_NoPlan___init__ dc_NoPlan___init__ pm_NoPlan___init__ an_NoPlan___init__ cd_NoPlan___init__ ct_NoPlan___init__), sl_NoPlan___init__⟩) (c_NoPlan___init__ : PySem.W.codeIn K cd_NoPlan___init__ "NoPlan.__init__" = true) (k_NoPlan___init__ : PySem.W.keepIn K (.ref f_NoPlan___init__) = true)
    {f_Task___init__ : Addr} {od_Task___init__ an_Task___init__ : Option Addr} {sl_Task___init__ : Array (Option Value)} {oc_Task___init__ kV_Task___init__ dc_Task___init__ pm_Task___init__ cd_Task___init__ ct_Task___init__ : Value}
    (a_Task___init__ : PySem.W.findIn K (.ref C_Task) "__init__" = some (some (.ref f_Task___init__))) (i_Task___init__ : PySem.W.isFn K (.ref f_Task___init__) = true)
    (l_Task___init__ : K.lookup f_Task___init__ = some ⟨oc_Task___init__, od_Task___init__, .func (PySem.W.fnOf "__init__" "Task.__init__" (defArgs s_Task___init__) (defBody s_Task___init__) (defScope s_Task___init__) .none kV_Task___init__ dc_Task___init__ pm_Task___init__ an_Task___init__ cd_Task___init__ ct_Task___init__), sl_Task___init__⟩) (c_Task___init__ : PySem.W.codeIn K cd_Task___init__ "Task.__init__" = true) (k_Task___init__ : PySem.W.keepIn K (.ref f_Task___init__) = true)
    {f_ask_many : Addr} {od_ask_many an_ask_many : Option Addr} {sl_ask_many : Array (Option Value)} {oc_ask_many kV_ask_many dc_ask_many pm_ask_many cd_ask_many ct_ask_many : Value}
    (a_ask_many : PySem.W.nsIn K mainGlobals "ask_many" = some (some (.ref f_ask_many)))
    (l_ask_many : K.lookup f_ask_many = some ⟨oc_ask_many, od_ask_many, .func (PySem.W.fnOf "ask_many" "ask_many" (defArgs s_ask_many) (defBody s_ask_many) (defScope s_ask_many) .none kV_ask_many dc_ask_many pm_ask_many an_ask_many cd_ask_many ct_ask_many), sl_ask_many⟩) (c_ask_many : PySem.W.codeIn K cd_ask_many "ask_many" = true) (k_ask_many : PySem.W.keepIn K (.ref f_ask_many) = true)
    {f_allowed : Addr} {od_allowed an_allowed : Option Addr} {sl_allowed : Array (Option Value)} {oc_allowed kV_allowed dc_allowed pm_allowed cd_allowed ct_allowed : Value}
    (a_allowed : PySem.W.nsIn K mainGlobals "allowed" = some (some (.ref f_allowed)))
    (l_allowed : K.lookup f_allowed = some ⟨oc_allowed, od_allowed, .func (PySem.W.fnOf "allowed" "allowed" (defArgs s_allowed) (defBody s_allowed) (defScope s_allowed) .none kV_allowed dc_allowed pm_allowed an_allowed cd_allowed ct_allowed), sl_allowed⟩) (c_allowed : PySem.W.codeIn K cd_allowed "allowed" = true) (k_allowed : PySem.W.keepIn K (.ref f_allowed) = true)
    {f_bases_behind : Addr} {od_bases_behind an_bases_behind : Option Addr} {sl_bases_behind : Array (Option Value)} {oc_bases_behind kV_bases_behind dc_bases_behind pm_bases_behind cd_bases_behind ct_bases_behind : Value}
    (a_bases_behind : PySem.W.nsIn K mainGlobals "bases_behind" = some (some (.ref f_bases_behind)))
    (l_bases_behind : K.lookup f_bases_behind = some ⟨oc_bases_behind, od_bases_behind, .func (PySem.W.fnOf "bases_behind" "bases_behind" (defArgs s_bases_behind) (defBody s_bases_behind) (defScope s_bases_behind) .none kV_bases_behind dc_bases_behind pm_bases_behind an_bases_behind cd_bases_behind ct_bases_behind), sl_bases_behind⟩) (c_bases_behind : PySem.W.codeIn K cd_bases_behind "bases_behind" = true) (k_bases_behind : PySem.W.keepIn K (.ref f_bases_behind) = true)
    {f_bases_of : Addr} {od_bases_of an_bases_of : Option Addr} {sl_bases_of : Array (Option Value)} {oc_bases_of kV_bases_of dc_bases_of pm_bases_of cd_bases_of ct_bases_of : Value}
    (a_bases_of : PySem.W.nsIn K mainGlobals "bases_of" = some (some (.ref f_bases_of)))
    (l_bases_of : K.lookup f_bases_of = some ⟨oc_bases_of, od_bases_of, .func (PySem.W.fnOf "bases_of" "bases_of" (defArgs s_bases_of) (defBody s_bases_of) (defScope s_bases_of) .none kV_bases_of dc_bases_of pm_bases_of an_bases_of cd_bases_of ct_bases_of), sl_bases_of⟩) (c_bases_of : PySem.W.codeIn K cd_bases_of "bases_of" = true) (k_bases_of : PySem.W.keepIn K (.ref f_bases_of) = true)
    {f_cost_of : Addr} {od_cost_of an_cost_of : Option Addr} {sl_cost_of : Array (Option Value)} {oc_cost_of kV_cost_of dc_cost_of pm_cost_of cd_cost_of ct_cost_of : Value}
    (a_cost_of : PySem.W.nsIn K mainGlobals "cost_of" = some (some (.ref f_cost_of)))
    (l_cost_of : K.lookup f_cost_of = some ⟨oc_cost_of, od_cost_of, .func (PySem.W.fnOf "cost_of" "cost_of" (defArgs s_cost_of) (defBody s_cost_of) (defScope s_cost_of) .none kV_cost_of dc_cost_of pm_cost_of an_cost_of cd_cost_of ct_cost_of), sl_cost_of⟩) (c_cost_of : PySem.W.codeIn K cd_cost_of "cost_of" = true) (k_cost_of : PySem.W.keepIn K (.ref f_cost_of) = true)
    {f_costs_of : Addr} {od_costs_of an_costs_of : Option Addr} {sl_costs_of : Array (Option Value)} {oc_costs_of kV_costs_of dc_costs_of pm_costs_of cd_costs_of ct_costs_of : Value}
    (a_costs_of : PySem.W.nsIn K mainGlobals "costs_of" = some (some (.ref f_costs_of)))
    (l_costs_of : K.lookup f_costs_of = some ⟨oc_costs_of, od_costs_of, .func (PySem.W.fnOf "costs_of" "costs_of" (defArgs s_costs_of) (defBody s_costs_of) (defScope s_costs_of) .none kV_costs_of dc_costs_of pm_costs_of an_costs_of cd_costs_of ct_costs_of), sl_costs_of⟩) (c_costs_of : PySem.W.codeIn K cd_costs_of "costs_of" = true) (k_costs_of : PySem.W.keepIn K (.ref f_costs_of) = true)
    {f_leg_cost : Addr} {od_leg_cost an_leg_cost : Option Addr} {sl_leg_cost : Array (Option Value)} {oc_leg_cost kV_leg_cost dc_leg_cost pm_leg_cost cd_leg_cost ct_leg_cost : Value}
    (a_leg_cost : PySem.W.nsIn K mainGlobals "leg_cost" = some (some (.ref f_leg_cost)))
    (l_leg_cost : K.lookup f_leg_cost = some ⟨oc_leg_cost, od_leg_cost, .func (PySem.W.fnOf "leg_cost" "leg_cost" (defArgs s_leg_cost) (defBody s_leg_cost) (defScope s_leg_cost) .none kV_leg_cost dc_leg_cost pm_leg_cost an_leg_cost cd_leg_cost ct_leg_cost), sl_leg_cost⟩) (c_leg_cost : PySem.W.codeIn K cd_leg_cost "leg_cost" = true) (k_leg_cost : PySem.W.keepIn K (.ref f_leg_cost) = true)
    {f_day_cost : Addr} {od_day_cost an_day_cost : Option Addr} {sl_day_cost : Array (Option Value)} {oc_day_cost kV_day_cost dc_day_cost pm_day_cost cd_day_cost ct_day_cost : Value}
    (a_day_cost : PySem.W.nsIn K mainGlobals "day_cost" = some (some (.ref f_day_cost)))
    (l_day_cost : K.lookup f_day_cost = some ⟨oc_day_cost, od_day_cost, .func (PySem.W.fnOf "day_cost" "day_cost" (defArgs s_day_cost) (defBody s_day_cost) (defScope s_day_cost) .none kV_day_cost dc_day_cost pm_day_cost an_day_cost cd_day_cost ct_day_cost), sl_day_cost⟩) (c_day_cost : PySem.W.codeIn K cd_day_cost "day_cost" = true) (k_day_cost : PySem.W.keepIn K (.ref f_day_cost) = true)
    {f_bound_of : Addr} {od_bound_of an_bound_of : Option Addr} {sl_bound_of : Array (Option Value)} {oc_bound_of kV_bound_of dc_bound_of pm_bound_of cd_bound_of ct_bound_of : Value}
    (a_bound_of : PySem.W.nsIn K mainGlobals "bound_of" = some (some (.ref f_bound_of)))
    (l_bound_of : K.lookup f_bound_of = some ⟨oc_bound_of, od_bound_of, .func (PySem.W.fnOf "bound_of" "bound_of" (defArgs s_bound_of) (defBody s_bound_of) (defScope s_bound_of) .none kV_bound_of dc_bound_of pm_bound_of an_bound_of cd_bound_of ct_bound_of), sl_bound_of⟩) (c_bound_of : PySem.W.codeIn K cd_bound_of "bound_of" = true) (k_bound_of : PySem.W.keepIn K (.ref f_bound_of) = true)
    {f_best_plan : Addr} {od_best_plan an_best_plan : Option Addr} {sl_best_plan : Array (Option Value)} {oc_best_plan kV_best_plan dc_best_plan pm_best_plan cd_best_plan ct_best_plan : Value}
    (a_best_plan : PySem.W.nsIn K mainGlobals "best_plan" = some (some (.ref f_best_plan)))
    (l_best_plan : K.lookup f_best_plan = some ⟨oc_best_plan, od_best_plan, .func (PySem.W.fnOf "best_plan" "best_plan" (defArgs s_best_plan) (defBody s_best_plan) (defScope s_best_plan) .none kV_best_plan dc_best_plan pm_best_plan an_best_plan cd_best_plan ct_best_plan), sl_best_plan⟩) (c_best_plan : PySem.W.codeIn K cd_best_plan "best_plan" = true) (k_best_plan : PySem.W.keepIn K (.ref f_best_plan) = true)
    {f__law_cell_at : Addr} {od__law_cell_at an__law_cell_at : Option Addr} {sl__law_cell_at : Array (Option Value)} {oc__law_cell_at kV__law_cell_at dc__law_cell_at pm__law_cell_at cd__law_cell_at ct__law_cell_at : Value}
    (a__law_cell_at : PySem.W.nsIn K mainGlobals "_law_cell_at" = some (some (.ref f__law_cell_at)))
    (l__law_cell_at : K.lookup f__law_cell_at = some ⟨oc__law_cell_at, od__law_cell_at, .func (PySem.W.fnOf "_law_cell_at" "_law_cell_at" (defArgs s__law_cell_at) (defBody s__law_cell_at) (defScope s__law_cell_at) .none kV__law_cell_at dc__law_cell_at pm__law_cell_at an__law_cell_at cd__law_cell_at ct__law_cell_at), sl__law_cell_at⟩) (c__law_cell_at : PySem.W.codeIn K cd__law_cell_at "_law_cell_at" = true) (k__law_cell_at : PySem.W.keepIn K (.ref f__law_cell_at) = true)
    {f__law_whole : Addr} {od__law_whole an__law_whole : Option Addr} {sl__law_whole : Array (Option Value)} {oc__law_whole kV__law_whole dc__law_whole pm__law_whole cd__law_whole ct__law_whole : Value}
    (a__law_whole : PySem.W.nsIn K mainGlobals "_law_whole" = some (some (.ref f__law_whole)))
    (l__law_whole : K.lookup f__law_whole = some ⟨oc__law_whole, od__law_whole, .func (PySem.W.fnOf "_law_whole" "_law_whole" (defArgs s__law_whole) (defBody s__law_whole) (defScope s__law_whole) .none kV__law_whole dc__law_whole pm__law_whole an__law_whole cd__law_whole ct__law_whole), sl__law_whole⟩) (c__law_whole : PySem.W.codeIn K cd__law_whole "_law_whole" = true) (k__law_whole : PySem.W.keepIn K (.ref f__law_whole) = true)
    {f__law_drawn : Addr} {od__law_drawn an__law_drawn : Option Addr} {sl__law_drawn : Array (Option Value)} {oc__law_drawn kV__law_drawn dc__law_drawn pm__law_drawn cd__law_drawn ct__law_drawn : Value}
    (a__law_drawn : PySem.W.nsIn K mainGlobals "_law_drawn" = some (some (.ref f__law_drawn)))
    (l__law_drawn : K.lookup f__law_drawn = some ⟨oc__law_drawn, od__law_drawn, .func (PySem.W.fnOf "_law_drawn" "_law_drawn" (defArgs s__law_drawn) (defBody s__law_drawn) (defScope s__law_drawn) .none kV__law_drawn dc__law_drawn pm__law_drawn an__law_drawn cd__law_drawn ct__law_drawn), sl__law_drawn⟩) (c__law_drawn : PySem.W.codeIn K cd__law_drawn "_law_drawn" = true) (k__law_drawn : PySem.W.keepIn K (.ref f__law_drawn) = true)
    {f__law_scale : Addr} {od__law_scale an__law_scale : Option Addr} {sl__law_scale : Array (Option Value)} {oc__law_scale kV__law_scale dc__law_scale pm__law_scale cd__law_scale ct__law_scale : Value}
    (a__law_scale : PySem.W.nsIn K mainGlobals "_law_scale" = some (some (.ref f__law_scale)))
    (l__law_scale : K.lookup f__law_scale = some ⟨oc__law_scale, od__law_scale, .func (PySem.W.fnOf "_law_scale" "_law_scale" (defArgs s__law_scale) (defBody s__law_scale) (defScope s__law_scale) .none kV__law_scale dc__law_scale pm__law_scale an__law_scale cd__law_scale ct__law_scale), sl__law_scale⟩) (c__law_scale : PySem.W.codeIn K cd__law_scale "_law_scale" = true) (k__law_scale : PySem.W.keepIn K (.ref f__law_scale) = true)
    {f__law_summed : Addr} {od__law_summed an__law_summed : Option Addr} {sl__law_summed : Array (Option Value)} {oc__law_summed kV__law_summed dc__law_summed pm__law_summed cd__law_summed ct__law_summed : Value}
    (a__law_summed : PySem.W.nsIn K mainGlobals "_law_summed" = some (some (.ref f__law_summed)))
    (l__law_summed : K.lookup f__law_summed = some ⟨oc__law_summed, od__law_summed, .func (PySem.W.fnOf "_law_summed" "_law_summed" (defArgs s__law_summed) (defBody s__law_summed) (defScope s__law_summed) .none kV__law_summed dc__law_summed pm__law_summed an__law_summed cd__law_summed ct__law_summed), sl__law_summed⟩) (c__law_summed : PySem.W.codeIn K cd__law_summed "_law_summed" = true) (k__law_summed : PySem.W.keepIn K (.ref f__law_summed) = true)
    {f__law_plain : Addr} {od__law_plain an__law_plain : Option Addr} {sl__law_plain : Array (Option Value)} {oc__law_plain kV__law_plain dc__law_plain pm__law_plain cd__law_plain ct__law_plain : Value}
    (a__law_plain : PySem.W.nsIn K mainGlobals "_law_plain" = some (some (.ref f__law_plain)))
    (l__law_plain : K.lookup f__law_plain = some ⟨oc__law_plain, od__law_plain, .func (PySem.W.fnOf "_law_plain" "_law_plain" (defArgs s__law_plain) (defBody s__law_plain) (defScope s__law_plain) .none kV__law_plain dc__law_plain pm__law_plain an__law_plain cd__law_plain ct__law_plain), sl__law_plain⟩) (c__law_plain : PySem.W.codeIn K cd__law_plain "_law_plain" = true) (k__law_plain : PySem.W.keepIn K (.ref f__law_plain) = true)
    {f__law_next : Addr} {od__law_next an__law_next : Option Addr} {sl__law_next : Array (Option Value)} {oc__law_next kV__law_next dc__law_next pm__law_next cd__law_next ct__law_next : Value}
    (a__law_next : PySem.W.nsIn K mainGlobals "_law_next" = some (some (.ref f__law_next)))
    (l__law_next : K.lookup f__law_next = some ⟨oc__law_next, od__law_next, .func (PySem.W.fnOf "_law_next" "_law_next" (defArgs s__law_next) (defBody s__law_next) (defScope s__law_next) .none kV__law_next dc__law_next pm__law_next an__law_next cd__law_next ct__law_next), sl__law_next⟩) (c__law_next : PySem.W.codeIn K cd__law_next "_law_next" = true) (k__law_next : PySem.W.keepIn K (.ref f__law_next) = true)
    {f__law_bases : Addr} {od__law_bases an__law_bases : Option Addr} {sl__law_bases : Array (Option Value)} {oc__law_bases kV__law_bases dc__law_bases pm__law_bases cd__law_bases ct__law_bases : Value}
    (a__law_bases : PySem.W.nsIn K mainGlobals "_law_bases" = some (some (.ref f__law_bases)))
    (l__law_bases : K.lookup f__law_bases = some ⟨oc__law_bases, od__law_bases, .func (PySem.W.fnOf "_law_bases" "_law_bases" (defArgs s__law_bases) (defBody s__law_bases) (defScope s__law_bases) .none kV__law_bases dc__law_bases pm__law_bases an__law_bases cd__law_bases ct__law_bases), sl__law_bases⟩) (c__law_bases : PySem.W.codeIn K cd__law_bases "_law_bases" = true) (k__law_bases : PySem.W.keepIn K (.ref f__law_bases) = true)
    {f__law_cost : Addr} {od__law_cost an__law_cost : Option Addr} {sl__law_cost : Array (Option Value)} {oc__law_cost kV__law_cost dc__law_cost pm__law_cost cd__law_cost ct__law_cost : Value}
    (a__law_cost : PySem.W.nsIn K mainGlobals "_law_cost" = some (some (.ref f__law_cost)))
    (l__law_cost : K.lookup f__law_cost = some ⟨oc__law_cost, od__law_cost, .func (PySem.W.fnOf "_law_cost" "_law_cost" (defArgs s__law_cost) (defBody s__law_cost) (defScope s__law_cost) .none kV__law_cost dc__law_cost pm__law_cost an__law_cost cd__law_cost ct__law_cost), sl__law_cost⟩) (c__law_cost : PySem.W.codeIn K cd__law_cost "_law_cost" = true) (k__law_cost : PySem.W.keepIn K (.ref f__law_cost) = true)
    {f__law_bound : Addr} {od__law_bound an__law_bound : Option Addr} {sl__law_bound : Array (Option Value)} {oc__law_bound kV__law_bound dc__law_bound pm__law_bound cd__law_bound ct__law_bound : Value}
    (a__law_bound : PySem.W.nsIn K mainGlobals "_law_bound" = some (some (.ref f__law_bound)))
    (l__law_bound : K.lookup f__law_bound = some ⟨oc__law_bound, od__law_bound, .func (PySem.W.fnOf "_law_bound" "_law_bound" (defArgs s__law_bound) (defBody s__law_bound) (defScope s__law_bound) .none kV__law_bound dc__law_bound pm__law_bound an__law_bound cd__law_bound ct__law_bound), sl__law_bound⟩) (c__law_bound : PySem.W.codeIn K cd__law_bound "_law_bound" = true) (k__law_bound : PySem.W.keepIn K (.ref f__law_bound) = true)
    {f__law_leaf : Addr} {od__law_leaf an__law_leaf : Option Addr} {sl__law_leaf : Array (Option Value)} {oc__law_leaf kV__law_leaf dc__law_leaf pm__law_leaf cd__law_leaf ct__law_leaf : Value}
    (a__law_leaf : PySem.W.nsIn K mainGlobals "_law_leaf" = some (some (.ref f__law_leaf)))
    (l__law_leaf : K.lookup f__law_leaf = some ⟨oc__law_leaf, od__law_leaf, .func (PySem.W.fnOf "_law_leaf" "_law_leaf" (defArgs s__law_leaf) (defBody s__law_leaf) (defScope s__law_leaf) .none kV__law_leaf dc__law_leaf pm__law_leaf an__law_leaf cd__law_leaf ct__law_leaf), sl__law_leaf⟩) (c__law_leaf : PySem.W.codeIn K cd__law_leaf "_law_leaf" = true) (k__law_leaf : PySem.W.keepIn K (.ref f__law_leaf) = true)
    {f__law_under : Addr} {od__law_under an__law_under : Option Addr} {sl__law_under : Array (Option Value)} {oc__law_under kV__law_under dc__law_under pm__law_under cd__law_under ct__law_under : Value}
    (a__law_under : PySem.W.nsIn K mainGlobals "_law_under" = some (some (.ref f__law_under)))
    (l__law_under : K.lookup f__law_under = some ⟨oc__law_under, od__law_under, .func (PySem.W.fnOf "_law_under" "_law_under" (defArgs s__law_under) (defBody s__law_under) (defScope s__law_under) .none kV__law_under dc__law_under pm__law_under an__law_under cd__law_under ct__law_under), sl__law_under⟩) (c__law_under : PySem.W.codeIn K cd__law_under "_law_under" = true) (k__law_under : PySem.W.keepIn K (.ref f__law_under) = true)
    {f_law : Addr} {od_law an_law : Option Addr} {sl_law : Array (Option Value)} {oc_law kV_law dc_law pm_law cd_law ct_law : Value}
    (a_law : PySem.W.nsIn K mainGlobals "law" = some (some (.ref f_law)))
    (l_law : K.lookup f_law = some ⟨oc_law, od_law, .func (PySem.W.fnOf "law" "law" (defArgs s_law) (defBody s_law) (defScope s_law) .none kV_law dc_law pm_law an_law cd_law ct_law), sl_law⟩) (c_law : PySem.W.codeIn K cd_law "law" = true) (k_law : PySem.W.keepIn K (.ref f_law) = true)
    (z_len : PySem.W.nsIn K mainGlobals "len" = some none)
    (z_isinstance : PySem.W.nsIn K mainGlobals "isinstance" = some none)
    (z_int : PySem.W.nsIn K mainGlobals "int" = some none)
    (z_bool : PySem.W.nsIn K mainGlobals "bool" = some none)
    (z_list : PySem.W.nsIn K mainGlobals "list" = some none)
    (z_tuple : PySem.W.nsIn K mainGlobals "tuple" = some none)
    (z_range : PySem.W.nsIn K mainGlobals "range" = some none)
    (z_min : PySem.W.nsIn K mainGlobals "min" = some none)
    (z_enumerate : PySem.W.nsIn K mainGlobals "enumerate" = some none)
    (z_sum : PySem.W.nsIn K mainGlobals "sum" = some none)
    (z_sorted : PySem.W.nsIn K mainGlobals "sorted" = some none)
    (z_reversed : PySem.W.nsIn K mainGlobals "reversed" = some none)
    (z_str : PySem.W.nsIn K mainGlobals "str" = some none)
    : ∃ fd : FuncData, (∀ (s : Shared) (v : Value), BindsTo s fd ⟨[v], []⟩ [("_law_script", v)]) ∧ ∀ base : Heap, K.In base → base.Ns mainGlobals mg → FnOk l.prog w K mg base (CXx l.prog w) 12 fa fd ["_law_script"] (sp_law K) := by
  have e := hfa.symm.trans (PySem.W.mg_of X G a_law)
  cases e
  have T : Txt K mg t_MOST_PLANNED C_KeepError C_NoPlan C_Task := ⟨PySem.W.mg_of X G g_MOST_PLANNED, PySem.W.mg_of X G a_KeepError, ⟨xo_KeepError, xs_KeepError, xg_KeepError, xh_KeepError, xc_KeepError, clg, clt⟩, PySem.W.mg_of X G a_NoPlan, ⟨xo_NoPlan, xs_NoPlan, xg_NoPlan, xh_NoPlan, xc_NoPlan, clg, clt⟩, n_NoPlan_many, PySem.W.mg_of X G a_Task, ⟨pg_Task, hd_Task, po_Task, sa_Task⟩, n_Task_sizes, n_Task_weights, n_Task_rates, PySem.W.mg_none_of X G z_len, PySem.W.mg_none_of X G z_isinstance, PySem.W.mg_none_of X G z_int, PySem.W.mg_none_of X G z_bool, PySem.W.mg_none_of X G z_list, PySem.W.mg_none_of X G z_tuple, PySem.W.mg_none_of X G z_range, PySem.W.mg_none_of X G z_min, PySem.W.mg_none_of X G z_enumerate, PySem.W.mg_none_of X G z_sum, PySem.W.mg_none_of X G z_sorted, PySem.W.mg_none_of X G z_reversed, PySem.W.mg_none_of X G z_str⟩
  have F_NoPlan___init__ := fun_mk (st := s_NoPlan___init__) l_NoPlan___init__ c_NoPlan___init__ k_NoPlan___init__
  have b_NoPlan___init__ := F_NoPlan___init__.binds (ps := ["self", "many"]) fun _ _ _ _ _ _ us hl => match us, hl with | [_, _], _ => rfl
  have F_Task___init__ := fun_mk (st := s_Task___init__) l_Task___init__ c_Task___init__ k_Task___init__
  have b_Task___init__ := F_Task___init__.binds (ps := ["self", "sizes", "weights", "rates"]) fun _ _ _ _ _ _ us hl => match us, hl with | [_, _, _, _], _ => rfl
  have F_ask_many := fun_mk (st := s_ask_many) l_ask_many c_ask_many k_ask_many
  have b_ask_many := F_ask_many.binds (ps := ["many"]) fun _ _ _ _ _ _ us hl => match us, hl with | [_], _ => rfl
  have F_allowed := fun_mk (st := s_allowed) l_allowed c_allowed k_allowed
  have b_allowed := F_allowed.binds (ps := ["task", "choices"]) fun _ _ _ _ _ _ us hl => match us, hl with | [_, _], _ => rfl
  have F_bases_behind := fun_mk (st := s_bases_behind) l_bases_behind c_bases_behind k_bases_behind
  have b_bases_behind := F_bases_behind.binds (ps := ["choices"]) fun _ _ _ _ _ _ us hl => match us, hl with | [_], _ => rfl
  have F_bases_of := fun_mk (st := s_bases_of) l_bases_of c_bases_of k_bases_of
  have b_bases_of := F_bases_of.binds (ps := ["choices"]) fun _ _ _ _ _ _ us hl => match us, hl with | [_], _ => rfl
  have F_cost_of := fun_mk (st := s_cost_of) l_cost_of c_cost_of k_cost_of
  have b_cost_of := F_cost_of.binds (ps := ["task", "choices"]) fun _ _ _ _ _ _ us hl => match us, hl with | [_, _], _ => rfl
  have F_costs_of := fun_mk (st := s_costs_of) l_costs_of c_costs_of k_costs_of
  have b_costs_of := F_costs_of.binds (ps := ["task", "choices"]) fun _ _ _ _ _ _ us hl => match us, hl with | [_, _], _ => rfl
  have F_leg_cost := fun_mk (st := s_leg_cost) l_leg_cost c_leg_cost k_leg_cost
  have b_leg_cost := F_leg_cost.binds (ps := ["task", "size"]) fun _ _ _ _ _ _ us hl => match us, hl with | [_, _], _ => rfl
  have F_day_cost := fun_mk (st := s_day_cost) l_day_cost c_day_cost k_day_cost
  have b_day_cost := F_day_cost.binds (ps := ["task", "day", "size", "way"]) fun _ _ _ _ _ _ us hl => match us, hl with | [_, _, _, _], _ => rfl
  have F_bound_of := fun_mk (st := s_bound_of) l_bound_of c_bound_of k_bound_of
  have b_bound_of := F_bound_of.binds (ps := ["task", "choices"]) fun _ _ _ _ _ _ us hl => match us, hl with | [_, _], _ => rfl
  have F_best_plan := fun_mk (st := s_best_plan) l_best_plan c_best_plan k_best_plan
  have b_best_plan := F_best_plan.binds (ps := ["task"]) fun _ _ _ _ _ _ us hl => match us, hl with | [_], _ => rfl
  have F__law_cell_at := fun_mk (st := s__law_cell_at) l__law_cell_at c__law_cell_at k__law_cell_at
  have b__law_cell_at := F__law_cell_at.binds (ps := ["_law_script", "_law_k"]) fun _ _ _ _ _ _ us hl => match us, hl with | [_, _], _ => rfl
  have F__law_whole := fun_mk (st := s__law_whole) l__law_whole c__law_whole k__law_whole
  have b__law_whole := F__law_whole.binds (ps := ["_law_found"]) fun _ _ _ _ _ _ us hl => match us, hl with | [_], _ => rfl
  have F__law_drawn := fun_mk (st := s__law_drawn) l__law_drawn c__law_drawn k__law_drawn
  have b__law_drawn := F__law_drawn.binds (ps := ["_law_cell", "_law_many"]) fun _ _ _ _ _ _ us hl => match us, hl with | [_, _], _ => rfl
  have F__law_scale := fun_mk (st := s__law_scale) l__law_scale c__law_scale k__law_scale
  have b__law_scale := F__law_scale.binds (ps := ["_law_number", "_law_other", "_law_way"]) fun _ _ _ _ _ _ us hl => match us, hl with | [_, _, _], _ => rfl
  have F__law_summed := fun_mk (st := s__law_summed) l__law_summed c__law_summed k__law_summed
  have b__law_summed := F__law_summed.binds (ps := ["_law_script", "_law_day", "_law_many"]) fun _ _ _ _ _ _ us hl => match us, hl with | [_, _, _], _ => rfl
  have F__law_plain := fun_mk (st := s__law_plain) l__law_plain c__law_plain k__law_plain
  have b__law_plain := F__law_plain.binds (ps := ["_law_script", "_law_most"]) fun _ _ _ _ _ _ us hl => match us, hl with | [_, _], _ => rfl
  have F__law_next := fun_mk (st := s__law_next) l__law_next c__law_next k__law_next
  have b__law_next := F__law_next.binds (ps := ["_law_weights", "_law_choices"]) fun _ _ _ _ _ _ us hl => match us, hl with | [_, _], _ => rfl
  have F__law_bases := fun_mk (st := s__law_bases) l__law_bases c__law_bases k__law_bases
  have b__law_bases := F__law_bases.binds (ps := ["_law_choices"]) fun _ _ _ _ _ _ us hl => match us, hl with | [_], _ => rfl
  have F__law_cost := fun_mk (st := s__law_cost) l__law_cost c__law_cost k__law_cost
  have b__law_cost := F__law_cost.binds (ps := ["_law_plain_here", "_law_choices"]) fun _ _ _ _ _ _ us hl => match us, hl with | [_, _], _ => rfl
  have F__law_bound := fun_mk (st := s__law_bound) l__law_bound c__law_bound k__law_bound
  have b__law_bound := F__law_bound.binds (ps := ["_law_plain_here", "_law_choices"]) fun _ _ _ _ _ _ us hl => match us, hl with | [_, _], _ => rfl
  have F__law_leaf := fun_mk (st := s__law_leaf) l__law_leaf c__law_leaf k__law_leaf
  have b__law_leaf := F__law_leaf.binds (ps := ["_law_leaf_here"]) fun _ _ _ _ _ _ us hl => match us, hl with | [_], _ => rfl
  have F__law_under := fun_mk (st := s__law_under) l__law_under c__law_under k__law_under
  have b__law_under := F__law_under.binds (ps := ["_law_plain_here", "_law_begin", "_law_leaves", "_law_at", "_law_best"]) fun _ _ _ _ _ _ us hl => match us, hl with | [_, _, _, _, _], _ => rfl
  have F_law := fun_mk (st := s_law) l_law c_law k_law
  have b_law := F_law.binds (ps := ["_law_script"]) fun _ _ _ _ _ _ us hl => match us, hl with | [_], _ => rfl
  refine ⟨PySem.W.fnOf "law" "law" (defArgs s_law) (defBody s_law) (defScope s_law) .none kV_law dc_law pm_law an_law cd_law ct_law, fun s v => .of_eq rfl, fun base _ _ => ?_⟩
  have D_NoPlan : ExcX l.prog w K mg base "NoPlan" C_NoPlan 1 ["self", "many"] (sp_x1 C_NoPlan "many") := ⟨_, _, PySem.W.mg_of X G a_NoPlan, ⟨T.x_NoPlan, a_NoPlan___init__, i_NoPlan___init__, kc_NoPlan⟩, ok_NoPlan___init__ F_NoPlan___init__ T , b_NoPlan___init__⟩
  have D_ask_many : DefX l.prog w K mg base "ask_many" 3 ["many"] sp_askm := ⟨_, _, PySem.W.mg_of X G a_ask_many, ok_ask_many F_ask_many T D_NoPlan, k_ask_many, b_ask_many⟩
  have D_Task : MakeX l.prog w K mg base "Task" C_Task 4 ["self", "sizes", "weights", "rates"] (sp_tinit C_Task) := ⟨_, _, PySem.W.mg_of X G a_Task, ⟨mk_Task, a_Task___init__, i_Task___init__, kc_Task⟩, ok_Task___init__ F_Task___init__ T D_ask_many, b_Task___init__⟩
  have D_bases_behind : DefX l.prog w K mg base "bases_behind" 1 ["choices"] (sp_bases K) := ⟨_, _, PySem.W.mg_of X G a_bases_behind, ok_bases_behind F_bases_behind T , k_bases_behind, b_bases_behind⟩
  have D_allowed : DefX l.prog w K mg base "allowed" 2 ["task", "choices"] (sp_allowed K C_Task) := ⟨_, _, PySem.W.mg_of X G a_allowed, ok_allowed F_allowed T D_bases_behind, k_allowed, b_allowed⟩
  have D_bases_of : DefX l.prog w K mg base "bases_of" 2 ["choices"] (sp_bof K) := ⟨_, _, PySem.W.mg_of X G a_bases_of, ok_bases_of F_bases_of T D_bases_behind, k_bases_of, b_bases_of⟩
  have D_leg_cost : DefX l.prog w K mg base "leg_cost" 1 ["task", "size"] (sp_legc C_Task) := ⟨_, _, PySem.W.mg_of X G a_leg_cost, ok_leg_cost F_leg_cost T , k_leg_cost, b_leg_cost⟩
  have D_day_cost : DefX l.prog w K mg base "day_cost" 1 ["task", "day", "size", "way"] (sp_dayc C_Task) := ⟨_, _, PySem.W.mg_of X G a_day_cost, ok_day_cost F_day_cost T , k_day_cost, b_day_cost⟩
  have D_costs_of : DefX l.prog w K mg base "costs_of" 3 ["task", "choices"] (sp_costs K C_Task) := ⟨_, _, PySem.W.mg_of X G a_costs_of, ok_costs_of F_costs_of T D_bases_of D_leg_cost D_day_cost, k_costs_of, b_costs_of⟩
  have D_cost_of : DefX l.prog w K mg base "cost_of" 4 ["task", "choices"] (sp_cost K C_Task) := ⟨_, _, PySem.W.mg_of X G a_cost_of, ok_cost_of F_cost_of T D_costs_of, k_cost_of, b_cost_of⟩
  have D_bound_of : DefX l.prog w K mg base "bound_of" 5 ["task", "choices"] (sp_bound K C_Task) := ⟨_, _, PySem.W.mg_of X G a_bound_of, ok_bound_of F_bound_of T D_cost_of D_day_cost D_leg_cost, k_bound_of, b_bound_of⟩
  have D_best_plan : DefX l.prog w K mg base "best_plan" 6 ["task"] (sp_bplan C_Task) := ⟨_, _, PySem.W.mg_of X G a_best_plan, ok_best_plan F_best_plan T D_bound_of D_allowed, k_best_plan, b_best_plan⟩
  have D__law_cell_at : DefX l.prog w K mg base "_law_cell_at" 1 ["_law_script", "_law_k"] (sp_cell K) := ⟨_, _, PySem.W.mg_of X G a__law_cell_at, ok__law_cell_at F__law_cell_at T , k__law_cell_at, b__law_cell_at⟩
  have D__law_whole : DefX l.prog w K mg base "_law_whole" 1 ["_law_found"] sp_whole := ⟨_, _, PySem.W.mg_of X G a__law_whole, ok__law_whole F__law_whole T , k__law_whole, b__law_whole⟩
  have D__law_drawn : DefX l.prog w K mg base "_law_drawn" 1 ["_law_cell", "_law_many"] sp_drawn := ⟨_, _, PySem.W.mg_of X G a__law_drawn, ok__law_drawn F__law_drawn T , k__law_drawn, b__law_drawn⟩
  have D__law_scale : DefX l.prog w K mg base "_law_scale" 1 ["_law_number", "_law_other", "_law_way"] sp_scale := ⟨_, _, PySem.W.mg_of X G a__law_scale, ok__law_scale F__law_scale T , k__law_scale, b__law_scale⟩
  have D__law_summed : DefX l.prog w K mg base "_law_summed" 1 ["_law_script", "_law_day", "_law_many"] (sp_summed K) := ⟨_, _, PySem.W.mg_of X G a__law_summed, ok__law_summed F__law_summed T , k__law_summed, b__law_summed⟩
  have D__law_plain : DefX l.prog w K mg base "_law_plain" 2 ["_law_script", "_law_most"] (sp_plain K) := ⟨_, _, PySem.W.mg_of X G a__law_plain, ok__law_plain F__law_plain T D__law_drawn D__law_cell_at D__law_summed D__law_scale, k__law_plain, b__law_plain⟩
  have D__law_next : DefX l.prog w K mg base "_law_next" 1 ["_law_weights", "_law_choices"] sp_next := ⟨_, _, PySem.W.mg_of X G a__law_next, ok__law_next F__law_next T , k__law_next, b__law_next⟩
  have D__law_bases : DefX l.prog w K mg base "_law_bases" 1 ["_law_choices"] sp_lbases := ⟨_, _, PySem.W.mg_of X G a__law_bases, ok__law_bases F__law_bases T , k__law_bases, b__law_bases⟩
  have D__law_cost : DefX l.prog w K mg base "_law_cost" 2 ["_law_plain_here", "_law_choices"] sp_lcost := ⟨_, _, PySem.W.mg_of X G a__law_cost, ok__law_cost F__law_cost T D__law_bases, k__law_cost, b__law_cost⟩
  have D__law_bound : DefX l.prog w K mg base "_law_bound" 3 ["_law_plain_here", "_law_choices"] sp_lbound := ⟨_, _, PySem.W.mg_of X G a__law_bound, ok__law_bound F__law_bound T D__law_cost, k__law_bound, b__law_bound⟩
  have D__law_leaf : DefX l.prog w K mg base "_law_leaf" 2 ["_law_leaf_here"] sp_leaf := ⟨_, _, PySem.W.mg_of X G a__law_leaf, ok__law_leaf F__law_leaf T D__law_whole, k__law_leaf, b__law_leaf⟩
  have R__law_under : ∀ n : Nat, DefX l.prog w K mg base "_law_under" (n + 3) ["_law_plain_here", "_law_begin", "_law_leaves", "_law_at", "_law_best"] (sp_under n) := by
    intro n
    induction n with
    | zero => exact ⟨_, _, PySem.W.mg_of X G a__law_under, ok__law_under0 F__law_under, k__law_under, b__law_under⟩
    | succ n ih => exact ⟨_, _, PySem.W.mg_of X G a__law_under, ok__law_under F__law_under T D__law_leaf D__law_bound D__law_next ih, k__law_under, b__law_under⟩
  have D__law_under : DefX l.prog w K mg base "_law_under" 11 ["_law_plain_here", "_law_begin", "_law_leaves", "_law_at", "_law_best"] (sp_under 8) := R__law_under 8
  exact ok_law F_law T D__law_plain D_Task D_best_plan D__law_leaf D__law_under
theorem walk {l : PySem.W.OpenLaw} {q : Program} {loose : List Str} {XP : (Str → Option Value) → Heap → Prop} {YP : World → Heap → Prop} {d : DefRec} {K : Params → PySem.W.Frag} (hn : l.most = some 63) (hdf : d.params.defaults = [])
    (hY : ∀ (w : World) (h : Heap), YP w h → (K w.params).In h)
    (F : ∀ (w : World) (mg : Str → Option Value) (fa : Addr) (h : Heap), (K w.params).In h → h.Ns mainGlobals mg → mg d.name = some (.ref fa) →
      ∃ fd : FuncData, (∀ (s : Shared) (u : Value), BindsTo s fd ⟨[u], []⟩ [("_law_script", u)]) ∧ ∀ base : Heap, (K w.params).In base → base.Ns mainGlobals mg → FnOk l.prog w (K w.params) mg base (CXx l.prog w) 12 fa fd ["_law_script"] (sp_law (K w.params))) :
    PySem.W.WalkO q loose XP YP l.row.toRowW d [] (fun f vs => PySem.call f vs) :=
  L2.walk_of (n := 63) (k := 12) (x := "_law_script") (CX := fun w => CXx l.prog w) (sp := fun w => sp_law (K w.params)) hn (by decide) hdf ⟨rfl, by decide, by decide⟩ hY F (fun _ _ a ns hl _ hS => ⟨a, ns, rfl, hS, hl, fun _ => rfl⟩) fun _ _ _ _ _ z => L2.cxx_no z
end Mine
open PySem PySem.W PyProof.Rows
set_option maxRecDepth 100000 in
set_option maxHeartbeats 0 in
theorem PySem.Challenge.cw_keepsakes_k74_whole_leaves_cover_all_pla_holds : PySem.Challenge.rw_keepsakes_k74_whole_leaves_cover_all_pla.Holds := by
  w_on; o_law; k_head; (case hw => w_witness2)
  k_fill
  refine Mine.walk (l := PySem.Challenge.rw_keepsakes_k74_whole_leaves_cover_all_pla) rfl rfl (fun w h Y => PySem.W.kIn_of Y) ?F
  case F =>
    intro w mg fa h KX G hmg
    refine' Mine.all_mk KX G hmg ?g_MOST_PLANNED ?a_KeepError ?a_NoPlan ?a_Task ?clg ?clt ?xo_KeepError ?xs_KeepError ?xg_KeepError ?xh_KeepError ?xc_KeepError ?kc_KeepError ?xo_NoPlan ?xs_NoPlan ?xg_NoPlan ?xh_NoPlan ?xc_NoPlan ?kc_NoPlan ?n_NoPlan_many ?pg_Task ?hd_Task ?po_Task ?sa_Task ?mk_Task ?kc_Task ?n_Task_sizes ?n_Task_weights ?n_Task_rates ?a_NoPlan___init__ ?i_NoPlan___init__ ?l_NoPlan___init__ ?c_NoPlan___init__ ?k_NoPlan___init__ ?a_Task___init__ ?i_Task___init__ ?l_Task___init__ ?c_Task___init__ ?k_Task___init__ ?a_ask_many ?l_ask_many ?c_ask_many ?k_ask_many ?a_allowed ?l_allowed ?c_allowed ?k_allowed ?a_bases_behind ?l_bases_behind ?c_bases_behind ?k_bases_behind ?a_bases_of ?l_bases_of ?c_bases_of ?k_bases_of ?a_cost_of ?l_cost_of ?c_cost_of ?k_cost_of ?a_costs_of ?l_costs_of ?c_costs_of ?k_costs_of ?a_leg_cost ?l_leg_cost ?c_leg_cost ?k_leg_cost ?a_day_cost ?l_day_cost ?c_day_cost ?k_day_cost ?a_bound_of ?l_bound_of ?c_bound_of ?k_bound_of ?a_best_plan ?l_best_plan ?c_best_plan ?k_best_plan ?a__law_cell_at ?l__law_cell_at ?c__law_cell_at ?k__law_cell_at ?a__law_whole ?l__law_whole ?c__law_whole ?k__law_whole ?a__law_drawn ?l__law_drawn ?c__law_drawn ?k__law_drawn ?a__law_scale ?l__law_scale ?c__law_scale ?k__law_scale ?a__law_summed ?l__law_summed ?c__law_summed ?k__law_summed ?a__law_plain ?l__law_plain ?c__law_plain ?k__law_plain ?a__law_next ?l__law_next ?c__law_next ?k__law_next ?a__law_bases ?l__law_bases ?c__law_bases ?k__law_bases ?a__law_cost ?l__law_cost ?c__law_cost ?k__law_cost ?a__law_bound ?l__law_bound ?c__law_bound ?k__law_bound ?a__law_leaf ?l__law_leaf ?c__law_leaf ?k__law_leaf ?a__law_under ?l__law_under ?c__law_under ?k__law_under ?a_law ?l_law ?c_law ?k_law ?z_len ?z_isinstance ?z_int ?z_bool ?z_list ?z_tuple ?z_range ?z_min ?z_enumerate ?z_sum ?z_sorted ?z_reversed ?z_str
    (case g_MOST_PLANNED => first | k_is | kit_is | kernel_rfl)
    (case a_KeepError => first | k_is | kit_is | kernel_rfl)
    (case a_NoPlan => first | k_is | kit_is | kernel_rfl)
    (case a_Task => first | k_is | kit_is | kernel_rfl)
    (case clg => first | k_is | kit_is | kernel_rfl)
    (case clt => first | k_is | kit_is | kernel_rfl)
    (case xo_KeepError => first | k_is | kit_is | kernel_rfl)
    (case xs_KeepError => first | k_is | kit_is | kernel_rfl)
    (case xg_KeepError => first | k_is | kit_is | kernel_rfl)
    (case xh_KeepError => first | k_is | kit_is | kernel_rfl)
    (case xc_KeepError => first | k_is | kit_is | kernel_rfl)
    (case kc_KeepError => first | k_is | kit_is | kernel_rfl)
    (case xo_NoPlan => first | k_is | kit_is | kernel_rfl)
    (case xs_NoPlan => first | k_is | kit_is | kernel_rfl)
    (case xg_NoPlan => first | k_is | kit_is | kernel_rfl)
    (case xh_NoPlan => first | k_is | kit_is | kernel_rfl)
    (case xc_NoPlan => first | k_is | kit_is | kernel_rfl)
    (case kc_NoPlan => first | k_is | kit_is | kernel_rfl)
    (case n_NoPlan_many => first | k_is | kit_is | kernel_rfl)
    (case pg_Task => first | k_is | kit_is | kernel_rfl)
    (case hd_Task => first | k_is | kit_is | kernel_rfl)
    (case po_Task => first | k_is | kit_is | kernel_rfl)
    (case sa_Task => first | k_is | kit_is | kernel_rfl)
    (case mk_Task => first | k_is | kit_is | kernel_rfl)
    (case kc_Task => first | k_is | kit_is | kernel_rfl)
    (case n_Task_sizes => first | k_is | kit_is | kernel_rfl)
    (case n_Task_weights => first | k_is | kit_is | kernel_rfl)
    (case n_Task_rates => first | k_is | kit_is | kernel_rfl)
    (case a_NoPlan___init__ => first | k_is | kit_is | kernel_rfl)
    (case i_NoPlan___init__ => first | k_is | kit_is | kernel_rfl)
    (case l_NoPlan___init__ => first | k_is | kit_is | kernel_rfl)
    (case c_NoPlan___init__ => first | k_is | kit_is | kernel_rfl)
    (case k_NoPlan___init__ => first | k_is | kit_is | kernel_rfl)
    (case a_Task___init__ => first | k_is | kit_is | kernel_rfl)
    (case i_Task___init__ => first | k_is | kit_is | kernel_rfl)
    (case l_Task___init__ => first | k_is | kit_is | kernel_rfl)
    (case c_Task___init__ => first | k_is | kit_is | kernel_rfl)
    (case k_Task___init__ => first | k_is | kit_is | kernel_rfl)
    (case a_ask_many => first | k_is | kit_is | kernel_rfl)
    (case l_ask_many => first | k_is | kit_is | kernel_rfl)
    (case c_ask_many => first | k_is | kit_is | kernel_rfl)
    (case k_ask_many => first | k_is | kit_is | kernel_rfl)
    (case a_allowed => first | k_is | kit_is | kernel_rfl)
    (case l_allowed => first | k_is | kit_is | kernel_rfl)
    (case c_allowed => first | k_is | kit_is | kernel_rfl)
    (case k_allowed => first | k_is | kit_is | kernel_rfl)
    (case a_bases_behind => first | k_is | kit_is | kernel_rfl)
    (case l_bases_behind => first | k_is | kit_is | kernel_rfl)
    (case c_bases_behind => first | k_is | kit_is | kernel_rfl)
    (case k_bases_behind => first | k_is | kit_is | kernel_rfl)
    (case a_bases_of => first | k_is | kit_is | kernel_rfl)
    (case l_bases_of => first | k_is | kit_is | kernel_rfl)
    (case c_bases_of => first | k_is | kit_is | kernel_rfl)
    (case k_bases_of => first | k_is | kit_is | kernel_rfl)
    (case a_cost_of => first | k_is | kit_is | kernel_rfl)
    (case l_cost_of => first | k_is | kit_is | kernel_rfl)
    (case c_cost_of => first | k_is | kit_is | kernel_rfl)
    (case k_cost_of => first | k_is | kit_is | kernel_rfl)
    (case a_costs_of => first | k_is | kit_is | kernel_rfl)
    (case l_costs_of => first | k_is | kit_is | kernel_rfl)
    (case c_costs_of => first | k_is | kit_is | kernel_rfl)
    (case k_costs_of => first | k_is | kit_is | kernel_rfl)
    (case a_leg_cost => first | k_is | kit_is | kernel_rfl)
    (case l_leg_cost => first | k_is | kit_is | kernel_rfl)
    (case c_leg_cost => first | k_is | kit_is | kernel_rfl)
    (case k_leg_cost => first | k_is | kit_is | kernel_rfl)
    (case a_day_cost => first | k_is | kit_is | kernel_rfl)
    (case l_day_cost => first | k_is | kit_is | kernel_rfl)
    (case c_day_cost => first | k_is | kit_is | kernel_rfl)
    (case k_day_cost => first | k_is | kit_is | kernel_rfl)
    (case a_bound_of => first | k_is | kit_is | kernel_rfl)
    (case l_bound_of => first | k_is | kit_is | kernel_rfl)
    (case c_bound_of => first | k_is | kit_is | kernel_rfl)
    (case k_bound_of => first | k_is | kit_is | kernel_rfl)
    (case a_best_plan => first | k_is | kit_is | kernel_rfl)
    (case l_best_plan => first | k_is | kit_is | kernel_rfl)
    (case c_best_plan => first | k_is | kit_is | kernel_rfl)
    (case k_best_plan => first | k_is | kit_is | kernel_rfl)
    (case a__law_cell_at => first | k_is | kit_is | kernel_rfl)
    (case l__law_cell_at => first | k_is | kit_is | kernel_rfl)
    (case c__law_cell_at => first | k_is | kit_is | kernel_rfl)
    (case k__law_cell_at => first | k_is | kit_is | kernel_rfl)
    (case a__law_whole => first | k_is | kit_is | kernel_rfl)
    (case l__law_whole => first | k_is | kit_is | kernel_rfl)
    (case c__law_whole => first | k_is | kit_is | kernel_rfl)
    (case k__law_whole => first | k_is | kit_is | kernel_rfl)
    (case a__law_drawn => first | k_is | kit_is | kernel_rfl)
    (case l__law_drawn => first | k_is | kit_is | kernel_rfl)
    (case c__law_drawn => first | k_is | kit_is | kernel_rfl)
    (case k__law_drawn => first | k_is | kit_is | kernel_rfl)
    (case a__law_scale => first | k_is | kit_is | kernel_rfl)
    (case l__law_scale => first | k_is | kit_is | kernel_rfl)
    (case c__law_scale => first | k_is | kit_is | kernel_rfl)
    (case k__law_scale => first | k_is | kit_is | kernel_rfl)
    (case a__law_summed => first | k_is | kit_is | kernel_rfl)
    (case l__law_summed => first | k_is | kit_is | kernel_rfl)
    (case c__law_summed => first | k_is | kit_is | kernel_rfl)
    (case k__law_summed => first | k_is | kit_is | kernel_rfl)
    (case a__law_plain => first | k_is | kit_is | kernel_rfl)
    (case l__law_plain => first | k_is | kit_is | kernel_rfl)
    (case c__law_plain => first | k_is | kit_is | kernel_rfl)
    (case k__law_plain => first | k_is | kit_is | kernel_rfl)
    (case a__law_next => first | k_is | kit_is | kernel_rfl)
    (case l__law_next => first | k_is | kit_is | kernel_rfl)
    (case c__law_next => first | k_is | kit_is | kernel_rfl)
    (case k__law_next => first | k_is | kit_is | kernel_rfl)
    (case a__law_bases => first | k_is | kit_is | kernel_rfl)
    (case l__law_bases => first | k_is | kit_is | kernel_rfl)
    (case c__law_bases => first | k_is | kit_is | kernel_rfl)
    (case k__law_bases => first | k_is | kit_is | kernel_rfl)
    (case a__law_cost => first | k_is | kit_is | kernel_rfl)
    (case l__law_cost => first | k_is | kit_is | kernel_rfl)
    (case c__law_cost => first | k_is | kit_is | kernel_rfl)
    (case k__law_cost => first | k_is | kit_is | kernel_rfl)
    (case a__law_bound => first | k_is | kit_is | kernel_rfl)
    (case l__law_bound => first | k_is | kit_is | kernel_rfl)
    (case c__law_bound => first | k_is | kit_is | kernel_rfl)
    (case k__law_bound => first | k_is | kit_is | kernel_rfl)
    (case a__law_leaf => first | k_is | kit_is | kernel_rfl)
    (case l__law_leaf => first | k_is | kit_is | kernel_rfl)
    (case c__law_leaf => first | k_is | kit_is | kernel_rfl)
    (case k__law_leaf => first | k_is | kit_is | kernel_rfl)
    (case a__law_under => first | k_is | kit_is | kernel_rfl)
    (case l__law_under => first | k_is | kit_is | kernel_rfl)
    (case c__law_under => first | k_is | kit_is | kernel_rfl)
    (case k__law_under => first | k_is | kit_is | kernel_rfl)
    (case a_law => first | k_is | kit_is | kernel_rfl)
    (case l_law => first | k_is | kit_is | kernel_rfl)
    (case c_law => first | k_is | kit_is | kernel_rfl)
    (case k_law => first | k_is | kit_is | kernel_rfl)
    (case z_len => first | k_is | kit_is | kernel_rfl)
    (case z_isinstance => first | k_is | kit_is | kernel_rfl)
    (case z_int => first | k_is | kit_is | kernel_rfl)
    (case z_bool => first | k_is | kit_is | kernel_rfl)
    (case z_list => first | k_is | kit_is | kernel_rfl)
    (case z_tuple => first | k_is | kit_is | kernel_rfl)
    (case z_range => first | k_is | kit_is | kernel_rfl)
    (case z_min => first | k_is | kit_is | kernel_rfl)
    (case z_enumerate => first | k_is | kit_is | kernel_rfl)
    (case z_sum => first | k_is | kit_is | kernel_rfl)
    (case z_sorted => first | k_is | kit_is | kernel_rfl)
    (case z_reversed => first | k_is | kit_is | kernel_rfl)
    (case z_str => first | k_is | kit_is | kernel_rfl)
