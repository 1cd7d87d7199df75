import PyProof.Rows.All
import Wide.All
import OpenK.AllK
import Wide.FinOn
import Lean
import PyProof.EqAt
import PyProof.EqKinds
import PyProof.TupleCall
import PyProof.AttrMissHeap
import PyProof.DictWalks
import KE.KDictObj
import KE.KEqDict
import KE.KUnpack
import PyProof.Rows.SetFrom
import KE.KRevIter
import KE.KDictSum
import KE.KFmtOwn
import PyProof.FactsAll.set_1
import PyProof.FactsAll.set_2
import PyProof.FactsAll.tuple_1
import PyProof.FactsAll.tuple_2
import KE.KSortTup
import PySem.Challenge.RW_keepsakes_k32_a_heap_gives_all
set_option Elab.async false
set_option linter.all false
set_option maxRecDepth 100000
namespace L2
open PySem PySem.Spec PyProof.Rows
abbrev Key := Sum Int Str
def keyIs : Key->Value->Bool
  | .inl k, v => Value.isInt k v
  | .inr x, v => Value.isStrOf x v
def keyH (w : World) : Key->Int
  | .inl k => hashInt k
  | .inr x => hashStr w x
theorem keyIs_shape : ∀ {k : Key} {v : Value}, keyIs k v = true->(∃ i t, k = Sum.inl i /\ v = Value.int i t) ∨ (∃ x t, k = Sum.inr x /\ v = Value.str x t)
  | .inl i, v, h => by
    obtain ⟨t, e⟩ := Value.isInt_shape (k := i) (v := v) h
    exact .inl ⟨i, t, rfl, e⟩
  | .inr x, v, h => by
    obtain ⟨t, e⟩ := Value.isStrOf_shape (x := x) (v := v) h
    exact .inr ⟨x, t, rfl, e⟩
theorem key_ll (a b : Int) : decide ((Sum.inl a : Key) = Sum.inl b) = (a == b) := by
  by_cases e : a = b
  · subst e; simp
  · have h : ¬ (Sum.inl a : Key) = Sum.inl b := fun q => e (Sum.inl.inj q)
    rw [decide_eq_false h]
    exact (beq_eq_false_iff_ne.mpr e).symm
theorem key_rr (a b : Str) : decide ((Sum.inr a : Key) = Sum.inr b) = decide (a = b) := by
  by_cases e : a = b
  · subst e; simp
  · have h : ¬ (Sum.inr a : Key) = Sum.inr b := fun q => e (Sum.inr.inj q)
    rw [decide_eq_false h, decide_eq_false e]
theorem key_lr (a : Int) (b : Str) : decide ((Sum.inl a : Key) = Sum.inr b) = false := decide_eq_false (fun q => nomatch q)
theorem key_rl (a : Str) (b : Int) : decide ((Sum.inr a : Key) = Sum.inl b) = false := decide_eq_false (fun q => nomatch q)
def mixKind (prog : Program) (w : World) : PySem.KeyKind prog w Key where
  is := keyIs
  hash := keyH w
  inj := fun v a b ha hb => by
    rcases keyIs_shape ha with ⟨i, t, rfl, rfl⟩ | ⟨x, t, rfl, rfl⟩
    · rcases keyIs_shape hb with ⟨j, u, rfl, e⟩ | ⟨y, u, rfl, e⟩
      · injection e with e1 _; rw [e1]
      · exact nomatch e
    · rcases keyIs_shape hb with ⟨j, u, rfl, e⟩ | ⟨y, u, rfl, e⟩
      · exact nomatch e
      · injection e with e1 _; rw [e1]
  byValue := fun k v h => by
    rcases keyIs_shape h with ⟨i, t, rfl, rfl⟩ | ⟨x, t, rfl, rfl⟩ <;> rfl
  pyHash := fun hv h => by
    rcases keyIs_shape hv with ⟨i, t, rfl, rfl⟩ | ⟨x, t, rfl, rfl⟩
    · exact wpAny_pyHash_int h
    · exact wpAny_pyHash_str h
  eqBool := fun hu hv h => by
    rcases keyIs_shape hu with ⟨i, t, rfl, rfl⟩ | ⟨x, t, rfl, rfl⟩
    · rcases keyIs_shape hv with ⟨j, u, rfl, rfl⟩ | ⟨y, u, rfl, rfl⟩
      · rw [key_ll] at h; exact wpAny_eqBool_int h
      · rw [key_lr] at h; exact SeqAt.EqAt.int_str i t y u _ _ _ _ h
    · rcases keyIs_shape hv with ⟨j, u, rfl, rfl⟩ | ⟨y, u, rfl, rfl⟩
      · rw [key_rl] at h; exact SeqAt.EqAt.str_int x t j u _ _ _ _ h
      · rw [key_rr] at h; exact wpAny_eqBool_str h
  «strs» := fun k x t v h => by
    rcases keyIs_shape h with ⟨i, u, rfl, e⟩ | ⟨y, u, rfl, e⟩
    · exact nomatch e
    · injection e with e1 _
      subst e1
      cases v <;> rfl
open PySem PySem.Spec PyProof.Rows
inductive V where
  | non | bl (b : Bool) | int (i : Int) | str (x : Str) | byt (b : Array UInt8) | flt (b : UInt64) | ref (a : Addr) | ty (n : String)
  deriving DecidableEq
def RelV : V->Value->Prop
  | .non, u => u = Value.none
  | .bl b, u => u = Value.bool b
  | .int i, u => ∃ t, u = Value.int i t
  | .str x, u => ∃ t, u = Value.str x t
  | .byt b, u => ∃ t, u = Value.bytes b t
  | .flt b, u => ∃ t, u = Value.float b t
  | .ref a, u => u = Value.ref a
  | .ty n, u => u = Value.type n
abbrev Vals : List V->List Value->Prop := Paired RelV
theorem Vals.length {xs : List V} {us : List Value} (r : Vals xs us) : xs.length = us.length := Paired.length r
theorem Vals.get : ∀ {xs : List V} {us : List Value} {i : Nat} {x : V}, Vals xs us->xs[i]? = some x->∃ u, us[i]? = some u /\ RelV x u
  | _, _, _, _, .nil, e => by simp at e
  | _, _, 0, _, .cons r _, e => by simp at e; subst e; exact ⟨_, rfl, r⟩
  | _, _, i + 1, x, .cons _ t, e => by
    obtain ⟨u, h1, h2⟩ := Vals.get (i := i) (x := x) t (by simpa using e)
    exact ⟨u, by simpa using h1, h2⟩
theorem Vals.set {x : V} {u : Value} (r : RelV x u) : ∀ {xs : List V} {us : List Value} (i : Nat), Vals xs us->Vals (xs.set i x) (us.set i u)
  | _, _, _, .nil => .nil
  | _, _, 0, .cons _ t => .cons r t
  | _, _, i + 1, .cons q t => .cons q (Vals.set r i t)
theorem Vals.append : ∀ {xs ys : List V} {us ws : List Value}, Vals xs us->Vals ys ws->Vals (xs ++ ys) (us ++ ws)
  | _, _, _, _, .nil, s => s
  | _, _, _, _, .cons r t, s => .cons r (Vals.append t s)
theorem Vals.take : ∀ {xs : List V} {us : List Value} (n : Nat), Vals xs us->Vals (xs.take n) (us.take n)
  | _, _, 0, _ => .nil
  | _, _, _ + 1, .nil => .nil
  | _, _, n + 1, .cons r t => .cons r (Vals.take n t)
theorem Vals.drop : ∀ {xs : List V} {us : List Value} (n : Nat), Vals xs us->Vals (xs.drop n) (us.drop n)
  | _, _, 0, r => r
  | _, _, _ + 1, .nil => .nil
  | _, _, n + 1, .cons _ t => Vals.drop n t
def RelO : Option V->Option Value->Prop
  | some v, some u => RelV v u
  | none, none => True
  | _, _ => False
def KV {κ : Type} : List (κ × V)->List (κ × Value)->Prop := Paired fun (p : κ × V) (q : κ × Value) => p.1 = q.1 /\ RelV p.2 q.2
def kV : Key->V
  | .inl i => .int i
  | .inr x => .str x
inductive HO where
    | lst (xs : List V)
    | tup (xs : List V)
    | dK (kvs : List (Key × V)) | dT (kvs : List (List Key × V))
    | set (S : Int->Bool) (n : Nat)
    | ins (C dx : Addr) (fs : List (Str × V))
    | own (x : Addr)
    | xd (fs : List (Str × V))
    | met (f x : Addr)
    | rng (lo hi : Int)
    | frz (o : Obj) (u : HO)
    | tbl (ps : Array Value)
    | ext (φ : Heap->Prop)
abbrev Hp := Addr->Option HO
def upd (H : Hp) (a : Addr) (o : HO) : Hp := fun b => if b = a then some o else H b
theorem upd_same {H : Hp} {a : Addr} {o : HO} : upd H a o a = some o := by unfold upd; rw [if_pos rfl]
theorem upd_ne {H : Hp} {a b : Addr} {o : HO} (h : b ≠ a) : upd H a o b = H b := by unfold upd; rw [if_neg h]
theorem upd_upd {H : Hp} {a : Addr} {o u : HO} : upd (upd H a o) a u = upd H a u := by
  funext b; unfold upd; split <;> rfl
theorem ne_of {H : Hp} {a b : Addr} {o u : HO} (h : H a = some o) (h' : H b = some u) (d : o ≠ u) : a ≠ b := by
  intro e; subst e; rw [h] at h'; exact d (Option.some.inj h')
theorem ne_of_none {H : Hp} {a b : Addr} {o : HO} (h : H a = some o) (h' : H b = none) : a ≠ b := by
  intro e; subst e; rw [h] at h'; cases h'
section
variable (P : Program) (w : World)
def ObjOk (H : Hp) (h : Heap) (a : Addr) : HO->Prop
  | .lst xs => xs.length ≤ sizeLine /\ ∃ (its : List Value) (n : Nat), Vals xs its /\ h.get? a = some { cls := .type "list", data := .seq its.toArray n }
  | .tup xs => xs.length ≤ sizeLine /\ ∃ its : List Value, Vals xs its /\ IsTup h a its.toArray
  | .dK kvs => kvs.length ≤ sizeLine /\ (a == sysModules) = false /\ ∃ vs, KV kvs vs /\ h.DictOf (mixKind P w) a vs
  | .dT kvs => kvs.length ≤ sizeLine /\ (a == sysModules) = false /\ ∃ xs : List (List Key × Addr × Value),
      Paired (fun (p : List Key × V) (q : List Key × Addr × Value) => p.1 = q.1 /\ H q.2.1 = some (.tup (p.1.map kV)) /\ RelV p.2 q.2.2) kvs xs ∧
      ∃ o es ep, h.get? a = some o /\ o.ExactDict /\ o.data = .dict es ep /\ es.toList = xs.map (entryOfKey (tupleKind (mixKind P w))) /\ (xs.map (·.1)).Nodup
  | .set S n => h.SetOf (intKind P w) a S n
  | .ins C dx fs => H dx = some (.own a) /\ fs.length ≤ 1000 /\ dx ≠ a /\ h.get? a = some (PySem.W.instObj C dx) ∧
      ∃ mA, h.Ns1 dx mA /\ (∀ f, RelO (fs.lookup f) (mA f)) /\ PySem.Within mA (fs.map (·.1))
  | .own _ => ∃ o, h.get? a = some o
  | .xd fs => ∃ mA, h.Ns1 a mA /\ ∀ f, RelO (fs.lookup f) (mA f)
  | .rng lo hi => ∃ t u v, h.get? a = some { cls := .type "range", data := .fields #[.int lo t, .int hi u, .int 1 v] }
  | .frz o u => h.get? a = some o /\ ObjOk H h a u
  | .tbl ps => h.get? a = some { cls := .none, data := .fields ps }
  | .met f x => h.get? a = some (PySem.W.methodObj (.ref f) (.ref x))
  | .ext φ => φ h /\ (∃ o, h.get? a = some o) /\ ∀ h1 h2 : Heap, φ h1->(∀ o, h1.get? a = some o->h2.get? a = some o)->φ h2
def HOk (H : Hp) (h : Heap) : Prop := ∀ a o, H a = some o->ObjOk P w H h a o
end
section
variable {P : Program} {w : World} {H H' : Hp} {h h' : Heap} {a : Addr} {o : HO}
theorem ObjOk.lt (x : ObjOk P w H h a o) : a < h.objs.size := by
  cases o with
  | lst xs => obtain ⟨_, _, _, _, e⟩ := x; exact Heap.lt_size e
  | tup xs => obtain ⟨_, _, _, p⟩ := x; exact p.lt
  | dK kvs => obtain ⟨_, _, _, _, o, _, _, e, _⟩ := x; exact Heap.lt_size e
  | dT kvs => obtain ⟨_, _, _, _, o, _, _, e, _⟩ := x; exact Heap.lt_size e
  | set S n => obtain ⟨o, _, _, _, e, _⟩ := x; exact Heap.lt_size e
  | ins C dx fs => obtain ⟨_, _, _, e, _⟩ := x; exact Heap.lt_size e
  | own y => obtain ⟨_, e⟩ := x; exact Heap.lt_size e
  | xd fs => obtain ⟨_, ⟨_, _, _, e, _⟩, _⟩ := x; exact Heap.lt_size e
  | rng lo hi => obtain ⟨_, _, _, e⟩ := x; exact Heap.lt_size e
  | frz ob u => obtain ⟨e, _⟩ := x; exact Heap.lt_size e
  | tbl ps => exact Heap.lt_size (show h.get? a = some _ from x)
  | met f y => exact Heap.lt_size (show h.get? a = some _ from x)
  | ext φ => obtain ⟨_, ⟨_, e⟩, _⟩ := x; exact Heap.lt_size e
theorem Paired.mapP {α β : Type} {F G : α->β->Prop} : ∀ {l₁ : List α} {l₂ : List β}, Paired F l₁ l₂->(∀ a b, F a b->G a b)->Paired G l₁ l₂
  | _, _, .nil, _ => .nil
  | _, _, .cons r t, f => .cons (f _ _ r) (Paired.mapP t f)
theorem ObjOk.stay (x : ObjOk P w H h a o) (k : ∀ b u, (b = a ∨ H b = some (.own a))->h.get? b = some u->h'.get? b = some u)
    (ho : ∀ b, H b = some (.own a)->H' b = some (.own a)) (ht : ∀ b xs, H b = some (.tup xs)->H' b = some (.tup xs)) : ObjOk P w H' h' a o := by
  induction o with
  | lst xs => obtain ⟨z, its, n, r, e⟩ := x; exact ⟨z, its, n, r, k _ _ (.inl rfl) e⟩
  | tup xs => obtain ⟨z, its, r, ob, e, c⟩ := x; exact ⟨z, its, r, ob, k _ _ (.inl rfl) e, c⟩
  | dK kvs => obtain ⟨z, y, vs, r, ob, es, ep, e, c⟩ := x; exact ⟨z, y, vs, r, ob, es, ep, k _ _ (.inl rfl) e, c⟩
  | dT kvs =>
    obtain ⟨z, y, xs, r, ob, es, ep, e, c⟩ := x
    exact ⟨z, y, xs, Paired.mapP r fun p q z => ⟨z.1, ht _ _ z.2.1, z.2.2⟩, ob, es, ep, k _ _ (.inl rfl) e, c⟩
  | set S n => obtain ⟨ob, es, ep, t, e, c⟩ := x; exact ⟨ob, es, ep, t, k _ _ (.inl rfl) e, c⟩
  | ins C dx fs =>
    obtain ⟨d, z, ne, e, mA, ⟨od, es, ep, e2, c⟩, r⟩ := x
    exact ⟨ho _ d, z, ne, k _ _ (.inl rfl) e, mA, ⟨od, es, ep, k _ _ (.inr d) e2, c⟩, r⟩
  | own y => obtain ⟨ob, e⟩ := x; exact ⟨ob, k _ _ (.inl rfl) e⟩
  | xd fs => obtain ⟨mA, ⟨od, es, ep, e, c⟩, r⟩ := x; exact ⟨mA, ⟨od, es, ep, k _ _ (.inl rfl) e, c⟩, r⟩
  | rng lo hi => obtain ⟨t, u, v, e⟩ := x; exact ⟨t, u, v, k _ _ (.inl rfl) e⟩
  | frz ob u ih => obtain ⟨e, q⟩ := x; exact ⟨k _ _ (.inl rfl) e, ih q⟩
  | tbl ps =>
    have e : h.get? a = some { cls := .none, data := .fields ps } := x
    show h'.get? a = some { cls := .none, data := .fields ps }
    exact k a _ (.inl rfl) e
  | met f y =>
    have e : h.get? a = some (PySem.W.methodObj (.ref f) (.ref y)) := x
    show h'.get? a = some (PySem.W.methodObj (.ref f) (.ref y))
    exact k a _ (.inl rfl) e
  | ext φ => obtain ⟨p, ⟨o, e⟩, st⟩ := x; exact ⟨st _ _ p fun o q => k _ _ (.inl rfl) q, ⟨o, k _ _ (.inl rfl) e⟩, st⟩
theorem HOk.lt (x : HOk P w H h) (e : H a = some o) : a < h.objs.size := (x a o e).lt
theorem HOk.fresh (x : HOk P w H h) (e : h.objs.size ≤ a) : H a = none := by
  cases q : H a with
  | none => rfl
  | some u => exact absurd (Nat.lt_of_lt_of_le (x.lt q) e) (Nat.lt_irrefl _)
theorem HOk.kept (x : HOk P w H h) (k : ∀ b u, h.get? b = some u->h'.get? b = some u) : HOk P w H h' := fun a o e =>
  (x a o e).stay (fun b u _ q => k b u q) (fun _ q => q) fun _ _ q => q
theorem HOk.laid (x : HOk P w H h) (k : ∀ b u, h.get? b = some u->h'.get? b = some u) (hp : h.objs.size ≤ a) (new : ObjOk P w (upd H a o) h' a o) : HOk P w (upd H a o) h' := fun b u e => by
  have hn := x.fresh hp
  by_cases hb : b = a
  · subst hb; rw [upd_same] at e; cases e; exact new
  · rw [upd_ne hb] at e
    exact (x b u e).stay (fun c v _ q => k c v q) (fun c q => by rw [upd_ne (ne_of_none q hn)]; exact q) fun c xs q => by rw [upd_ne (ne_of_none q hn)]; exact q
end
def Rd (H : Hp) (a : Addr) (u : HO) : Prop := H a = some u ∨ ∃ o, H a = some (.frz o u)
theorem Rd.ok {P : Program} {w : World} {H : Hp} {h : Heap} {a : Addr} {u : HO} (r : Rd H a u) (x : HOk P w H h) : ObjOk P w H h a u := by
  rcases r with r | ⟨o, r⟩
  · exact x a u r
  · obtain ⟨_, q⟩ := x a _ r
    exact q
def Mut : Option HO->Prop
  | some (.lst _) => True
  | some (.dK _) => True
  | some (.dT _) => True
  | some (.set _ _) => True
  | some (.ins _ _ _) => True
  | some (.ext _) => True
  | _ => False
section
variable {P : Program} {w : World} {H : Hp} {h h' : Heap} {x e : Addr} {o' : HO}
theorem HOk.write (ok : HOk P w H h) (mu : Mut (H x)) (he : e = x ∨ H e = some (.own x)) (k : ∀ b u, b ≠ e->h.get? b = some u->h'.get? b = some u) (heo : ∃ u, h'.get? e = some u)
    (new : ObjOk P w (upd H x o') h' x o') : HOk P w (upd H x o') h' := fun b u q => by
  have nown : ∀ c y, H c = some (.own y)->c ≠ x := fun c y r z => by subst z; rw [r] at mu; exact mu
  have ntup : ∀ c xs, H c = some (.tup xs)->c ≠ x := fun c xs r z => by subst z; rw [r] at mu; exact mu
  by_cases hb : b = x
  · subst hb; rw [upd_same] at q; cases q; exact new
  · rw [upd_ne hb] at q
    by_cases hbe : b = e
    · have q' : H b = some (.own x) := by
        rcases he with z | z
        · exact absurd (hbe.trans z) hb
        · rw [hbe]; exact z
      rw [q] at q'; cases q'
      obtain ⟨v, hv⟩ := heo
      exact ⟨v, by rw [hbe]; exact hv⟩
    · refine (ok b u q).stay (fun c v hc r => k c v ?_ r) (fun c r => by rw [upd_ne (nown c b r)]; exact r) fun c xs r => by rw [upd_ne (ntup c xs r)]; exact r
      rcases hc with rfl | hc
      · exact hbe
      · rintro rfl
        rcases he with z | z
        · exact nown c b hc z
        · rw [hc] at z; cases z; exact hb rfl
end
structure Un (fs ex : List Addr) (H H' : Hp) (h h' : Heap) : Prop where
  keep : ∀ b o, h.get? b = some o->H b = none->b ∉ fs->b ∉ ex->h'.get? b = some o
  slot : ∀ b o, h.get? b = some o->H b = none->b ∈ fs->b ∉ ex->∃ sl, h'.get? b = some { o with slots := sl }
  free : ∀ b o, h.get? b = some o->H b = none->b ∉ ex->H' b = none
  there : ∀ b o, h.get? b = some o->b ∉ ex->∃ o', h'.get? b = some o'
  tups : ∀ b xs, H b = some (.tup xs)->H' b = some (.tup xs)
  frzs : ∀ b o u, H b = some (.frz o u)->H' b = some (.frz o u)
  tbls : ∀ b ps, H b = some (.tbl ps)->∃ more, H' b = some (.tbl (ps ++ more))
section
variable {fs fs' ex ex' : List Addr} {H H1 H2 : Hp} {h h1 h2 h' : Heap} {a x e : Addr} {o : HO}
theorem Un.any (u : Un fs ex H H1 h h1) {b : Addr} {ob : Obj} (q : h.get? b = some ob) (n : H b = none) (hx : b ∉ ex) : ∃ sl, h1.get? b = some { ob with slots := sl } := by
  by_cases hb : b ∈ fs
  · exact u.slot b ob q n hb hx
  · exact ⟨ob.slots, u.keep b ob q n hb hx⟩
theorem Un.kept (k : ∀ b u, h.get? b = some u->h'.get? b = some u) : Un fs ex H H h h' :=
  ⟨fun b ob q _ _ _ => k b ob q, fun b ob q _ _ _ => ⟨ob.slots, k b ob q⟩, fun _ _ _ n _ => n, fun b ob q _ => ⟨ob, k b ob q⟩, fun _ _ q => q, fun _ _ _ q => q, fun _ ps q => ⟨#[], by rw [q]; simp⟩⟩
theorem Un.refl : Un fs ex H H h h := Un.kept fun _ _ q => q
theorem Un.laid (k : ∀ b u, h.get? b = some u->h'.get? b = some u) (hp : h.objs.size ≤ a) (hn : H a = none) : Un fs ex H (upd H a o) h h' where
  keep := fun b u q _ _ _ => k b u q
  slot := fun b u q _ _ _ => ⟨u.slots, k b u q⟩
  free := fun b u q n _ => by rw [upd_ne (Nat.ne_of_lt (Nat.lt_of_lt_of_le (Heap.lt_size q) hp))]; exact n
  there := fun b u q _ => ⟨u, k b u q⟩
  tups := fun b xs q => by rw [upd_ne (ne_of_none q hn)]; exact q
  frzs := fun b u xs q => by rw [upd_ne (ne_of_none q hn)]; exact q
  tbls := fun b ps q => ⟨#[], by rw [upd_ne (ne_of_none q hn), q]; simp⟩
theorem Un.write (mu : Mut (H x)) (he : e = x ∨ H e = some (.own x)) (k : ∀ b u, b ≠ e->h.get? b = some u->h'.get? b = some u) (heo : ∃ u, h'.get? e = some u) : Un fs ex H (upd H x o) h h' := by
  have hx : ∀ b, H b = none->b ≠ x := fun b n z => by subst z; rw [n] at mu; exact mu
  have hb : ∀ b, H b = none->b ≠ e := fun b n z => by
    subst z
    rcases he with r | r
    · exact hx b n r
    · rw [n] at r; cases r
  have hm : ∀ b u, H b = some u->¬ Mut (some u)->b ≠ x := fun b u q nm z => by subst z; rw [q] at mu; exact nm mu
  refine ⟨fun b u q n _ _ => k b u (hb b n) q, fun b u q n _ _ => ⟨u.slots, k b u (hb b n) q⟩, fun b u q n _ => by rw [upd_ne (hx b n)]; exact n, fun b u q _ => ?_,
    fun b xs q => by rw [upd_ne (hm b _ q fun z => z)]; exact q, fun b u xs q => by rw [upd_ne (hm b _ q fun z => z)]; exact q, fun b ps q => ⟨#[], by rw [upd_ne (hm b _ q fun z => z), q]; simp⟩⟩
  by_cases hbe : b = e
  · subst hbe; exact heo
  · exact ⟨u, k b u hbe q⟩
end
def trk (h : Heap) (H : Hp) : List Addr := (List.range h.objs.size).filter fun a => (H a).isSome
def hidT (h : Heap) (H : Hp) : Heap := PySem.W.hideAll h (trk h H)
theorem hidT_size (h : Heap) (H : Hp) : (hidT h H).objs.size = h.objs.size := PySem.W.hideAll_size _ _
theorem hidT_get {h : Heap} {H : Hp} {b : Addr} {o : Obj} (e : h.get? b = some o) (n : H b = none) : (hidT h H).get? b = some o :=
  PySem.W.hideAll_get _ e fun hm => by
    have q : (H b).isSome = true := (List.mem_filter.mp hm).2
    rw [n] at q; simp at q
theorem of_hidT {h : Heap} {H : Hp} {b : Addr} {o : Obj} (e : (hidT h H).get? b = some o) : h.get? b = some o /\ H b = none := by
  have e' : h.get? b = some o := PySem.W.of_hideAll (trk h H) e
  refine ⟨e', ?_⟩
  cases q : H b with
  | none => rfl
  | some x =>
    have hm : b ∈ trk h H := List.mem_filter.mpr ⟨List.mem_range.mpr (Heap.lt_size e'), by simp [q]⟩
    have z : (hidT h H).get? b = none := PySem.W.hideAll_none (trk h H) hm
    rw [z] at e; cases e
def allNews (g h : Heap) (L : Addr) : List (Addr × Obj) := (List.range h.objs.size).filterMap fun a => if a = L ∨ (g.get? a).isSome = true then none else (h.get? a).map fun o => (a, o)
def rest (g h : Heap) (L d : Addr) : List (Addr × Obj) := (allNews g h L).filter fun p => decide (p.1 ≠ d)
open PySem PySem.Spec PyProof.Rows
structure Mod (K : PySem.W.Frag) (mg : Str->Option Value) (base : Heap) : Prop where
  kin : K.In base
  glob : base.Ns mainGlobals mg
  blt : ∃ mb, base.Ns builtinsNs mb /\ ∀ x : Str, x ≠ "__name__"->mb x = bootBuiltins x
  nolimit : base.NoLimit
structure Cx where
  prog : Program
  w : World
  K : PySem.W.Frag
  mg : Str->Option Value
  base : Heap
  A : Around
  N : List Str
  s₀ : Shared
  H₀ : Hp
  env : Env
  outer : List Env
  stack : List Env
  ex : List Addr
  fn : Str->Bool
  calm : Bool
  pn : List (Addr × Obj)
  xe : Value->Shared->Prop
def frs (l : List Env) : List Addr := l.filterMap (·.frame)
abbrev Cx.fs (X : Cx) : List Addr := frs X.outer
def Vis (sc : Scope) (x : Str) : Prop := sc.names.lookup x = some .local ∨ sc.names.lookup x = some .cell ∨ sc.names.lookup x = some .free
def Loc (sc : Scope) (x : Str) : Prop := sc.names.lookup x = some .local ∨ sc.names.lookup x = some .cell
def Look (env : Env) (h : Heap) (m : Str->Option Value) (x : Str) (u : Value) : Prop :=
  (env.kindOf x = some .local /\ m x = some u) ∨ ((env.kindOf x = some .cell ∨ env.kindOf x = some .free) /\ ∃ c, env.cells.lookup x = some c /\ h.IsCell c (some u))
structure Cx.Ok (X : Cx) : Prop where
  mod : Mod X.K X.mg X.base
  kind : X.env.scope.kind = .function
  glob : X.env.globals = mainGlobals
  blt : X.env.builtins = builtinsNs
  above : X.s₀.heap.objs.size ≤ X.env.locals
  inj : ∀ x y c, X.env.cells.lookup x = some c->X.env.cells.lookup y = some c->x = y
  has : ∀ x, (X.env.kindOf x = some .cell ∨ X.env.kindOf x = some .free)->∃ c, X.env.cells.lookup x = some c
  cab : ∀ x c, X.fn x = true->X.env.cells.lookup x = some c->X.s₀.heap.objs.size ≤ c
  hd : X.calm = true->X.A.handled = none
  frames : X.A.frames = some X.stack
  stk : X.stack = X.outer ∨ (X.stack = X.env :: X.outer /\ X.env.frame = some X.env.locals)
  exf : ∀ b ∈ X.ex, b ≠ X.env.locals /\ ∀ x c, X.env.cells.lookup x = some c->c ≠ b
  bs : ∀ b o, X.base.get? b = some o->X.s₀.heap.get? b = some o /\ X.H₀ b = none
  bsz : X.base.objs.size ≤ X.s₀.heap.objs.size
  noex : ∀ b o, X.base.get? b = some o->b ∉ X.ex
  exfs : ∀ b ∈ X.ex, b ∉ X.fs
  funs : X.s₀.heap.FunFrames X.base X.outer
  frf : ∀ b ∈ X.fs, X.H₀ b = none
structure Inv (X : Cx) (pins : List (Addr × Obj)) (σ : List (Option V)) (H : Hp) (s : Shared) : Prop where
  ok : X.Ok
  os : s.os = X.s₀.os
  bare : AllBare s.gens
  base : Un X.fs X.ex X.H₀ H X.s₀.heap s.heap
  loc : ∃ m, s.heap.Ns X.env.locals m /\ ∀ (i : Nat) (x : Str) (v : V), X.N[i]? = some x->σ[i]? = some (some v)->Vis X.env.scope x->∃ u, RelV v u /\ Look X.env s.heap m x u
  cell : ∀ x c, X.env.cells.lookup x = some c->∃ v, s.heap.IsCell c v
  free : H X.env.locals = none
  freeC : ∀ x c, X.env.cells.lookup x = some c->H c = none
  pin : ∀ p ∈ X.pn ++ pins, s.heap.get? p.1 = some p.2 /\ H p.1 = none /\ p.1 ≠ X.env.locals /\ p.1 ∉ X.fs /\ ∀ v, p.2.data ≠ .cell v
  hok : HOk X.prog X.w H s.heap
  len : σ.length = X.N.length
section
variable {X : Cx} {pins : List (Addr × Obj)} {σ : List (Option V)} {H H' : Hp} {s : Shared} {h' : Heap}
theorem Cx.Ok.nofr (ok : X.Ok) {b : Addr} {o : Obj} (e : X.base.get? b = some o) : b ∉ X.fs := fun hb => by
  have := (ok.funs.mem hb).1
  rw [e] at this; cases this
theorem Inv.bs (I : Inv X pins σ H s) : ∀ b o, X.base.get? b = some o->s.heap.get? b = some o /\ H b = none := fun b o e =>
  ⟨I.base.keep b o (I.ok.bs b o e).1 (I.ok.bs b o e).2 (I.ok.nofr e) (I.ok.noex b o e), I.base.free b o (I.ok.bs b o e).1 (I.ok.bs b o e).2 (I.ok.noex b o e)⟩
theorem Inv.bk (I : Inv X pins σ H s) : ∀ b o, X.base.get? b = some o->s.heap.get? b = some o := fun b o e => (I.bs b o e).1
theorem Inv.mod (I : Inv X pins σ H s) : Mod X.K X.mg X.base := I.ok.mod
theorem Inv.kIn (I : Inv X pins σ H s) : X.K.In s.heap := I.ok.mod.kin.keeps I.bk
theorem Inv.lt (I : Inv X pins σ H s) : X.env.locals < s.heap.objs.size := let ⟨_, hn, _⟩ := I.loc; hn.lt
theorem Inv.sz (I : Inv X pins σ H s) : X.s₀.heap.objs.size ≤ s.heap.objs.size := Nat.le_trans I.ok.above (Nat.le_of_lt I.lt)
theorem Inv.nofs (I : Inv X pins σ H s) {a : Addr} (h : s.heap.objs.size ≤ a) : a ∉ X.fs := fun hb => by
  obtain ⟨_, o, ho, _⟩ := I.ok.funs.mem hb
  exact absurd (Nat.lt_of_lt_of_le (Heap.lt_size ho) (Nat.le_trans I.sz h)) (Nat.lt_irrefl _)
theorem Inv.cne (I : Inv X pins σ H s) : ∀ x c, X.env.cells.lookup x = some c->c ≠ X.env.locals := fun x c e z => by
  obtain ⟨v, o, ho, hd⟩ := I.cell x c e
  obtain ⟨m, ⟨o', es, ep, ho', hd', _⟩, _⟩ := I.loc
  rw [z, ho'] at ho; cases ho; rw [hd'] at hd; cases hd
theorem Inv.funs (I : Inv X pins σ H s) : s.heap.FunFrames X.base X.outer := by
  have all : ∀ (l : List Env), (∀ b ∈ frs l, b ∈ X.fs)->X.s₀.heap.FunFrames X.base l->s.heap.FunFrames X.base l := by
    intro l
    induction l with
    | nil => intro _ _; trivial
    | cons env r ih =>
      intro hs hl
      obtain ⟨hk, ⟨L, o, hf, hn, ho, hd⟩, hr⟩ := hl
      have hL : L ∈ X.fs := hs L (by unfold frs; rw [List.filterMap_cons, hf]; exact List.mem_cons_self)
      obtain ⟨sl, e⟩ := I.base.slot L o ho (I.ok.frf L hL) hL fun z => I.ok.exfs L z hL
      exact ⟨hk, ⟨L, _, hf, hn, e, hd⟩, ih (fun b hb => hs b (by unfold frs; rw [List.filterMap_cons, hf]; exact List.mem_cons_of_mem _ hb)) hr⟩
  exact all X.outer (fun _ hb => hb) I.ok.funs
theorem Inv.stack (I : Inv X pins σ H s) : s.heap.FunFrames X.base X.stack := by
  rcases I.ok.stk with e | ⟨e, hf⟩
  · rw [e]; exact I.funs
  · rw [e]
    obtain ⟨m, hn, _⟩ := I.loc
    refine .cons (by rw [I.ok.kind]; decide) hf hn ?_ I.funs
    exact Heap.get?_none_of_le (Nat.le_trans I.ok.bsz I.ok.above)
theorem Inv.stkSub (I : Inv X pins σ H s) : ∀ b ∈ frs X.stack, b ∈ X.env.locals :: X.fs := fun b hb => by
  rcases I.ok.stk with e | ⟨e, hf⟩
  · rw [e] at hb; exact List.mem_cons_of_mem _ hb
  · rw [e] at hb
    unfold frs at hb
    rw [List.filterMap_cons, hf] at hb
    exact hb
theorem Inv.stkFree (I : Inv X pins σ H s) : ∀ b ∈ frs X.stack, H b = none := fun b hb => by
  rcases List.mem_cons.mp (I.stkSub b hb) with e | hb
  · rw [e]; exact I.free
  · obtain ⟨_, o, ho, _⟩ := I.ok.funs.mem hb
    exact I.base.free b o ho (I.ok.frf b hb) fun z => I.ok.exfs b z hb
theorem Inv.step {g' : Array GenState} {t' : Nat} {d' : Drawn} {ch : List Addr} (I : Inv X pins σ H s)
    (hch : ∀ b ∈ ch, (b ∈ X.ex ∨ X.s₀.heap.objs.size ≤ b) /\ b ≠ X.env.locals /\ (∀ x c, X.env.cells.lookup x = some c->c ≠ b) /\ ∀ p ∈ X.pn ++ pins, p.1 ≠ b)
    (keep : ∀ b o, b ≠ X.env.locals->b ∉ X.fs->b ∉ ch->s.heap.get? b = some o->H b = none->h'.get? b = some o)
    (slot : ∀ b o, b ≠ X.env.locals->b ∈ X.fs->b ∉ ch->s.heap.get? b = some o->H b = none->∃ sl, h'.get? b = some { o with slots := sl }) (free : ∀ b o, b ∉ ch->s.heap.get? b = some o->H b = none->H' b = none)
    (there : ∀ b o, b ∉ ch->s.heap.get? b = some o->∃ o', h'.get? b = some o')
    (tups : ∀ b xs, H b = some (.tup xs)->H' b = some (.tup xs)) (frzs : ∀ b o u, H b = some (.frz o u)->H' b = some (.frz o u)) (tbls : ∀ b ps, H b = some (.tbl ps)->∃ more, H' b = some (.tbl (ps ++ more)))
    (ns : ∀ m, s.heap.Ns X.env.locals m->h'.Ns X.env.locals m) (hok : HOk X.prog X.w H' h') (hg : AllBare g') :
    Inv X pins σ H' { s with heap := h', gens := g', drawn := d', toks := t' } := by
  have neL : ∀ b o, X.s₀.heap.get? b = some o->b ≠ X.env.locals := fun b o e => Nat.ne_of_lt (Nat.lt_of_lt_of_le (Heap.lt_size e) I.ok.above)
  have neC : ∀ b o, X.s₀.heap.get? b = some o->b ∉ X.ex->b ∉ ch := fun b o e hx hb => by
    rcases (hch b hb).1 with z | z
    · exact hx z
    · exact absurd (Nat.lt_of_lt_of_le (Heap.lt_size e) z) (Nat.lt_irrefl _)
  have cellK : ∀ x c, X.env.cells.lookup x = some c->∀ v, s.heap.IsCell c v->h'.IsCell c v := fun x c e v ⟨o, ho, hd⟩ => by
    have nch : c ∉ ch := fun z => (hch c z).2.2.1 x c e rfl
    by_cases hc : c ∈ X.fs
    · obtain ⟨sl, q⟩ := slot c o (I.cne x c e) hc nch ho (I.freeC x c e)
      exact ⟨_, q, hd⟩
    · exact ⟨o, keep c o (I.cne x c e) hc nch ho (I.freeC x c e), hd⟩
  refine ⟨I.ok, I.os, hg, ⟨fun b o e n hb hx => ?_, fun b o e n hb hx => ?_, fun b o e n hx => ?_, fun b o e hx => ?_, fun b xs e => tups b xs (I.base.tups b xs e), fun b o xs e => frzs b o xs (I.base.frzs b o xs e), fun b ps e => ?_⟩, ?_, fun x c e => ?_, ?_, fun x c e => ?_, fun p hp => ?_, hok, I.len⟩
  · exact keep b o (neL b o e) hb (neC b o e hx) (I.base.keep b o e n hb hx) (I.base.free b o e n hx)
  · obtain ⟨sl, e1⟩ := I.base.slot b o e n hb hx
    obtain ⟨sl', e2⟩ := slot b _ (neL b o e) hb (neC b o e hx) e1 (I.base.free b o e n hx)
    exact ⟨sl', e2⟩
  · obtain ⟨o', e1⟩ := I.base.there b o e hx
    exact free b o' (neC b o e hx) e1 (I.base.free b o e n hx)
  · obtain ⟨o', e1⟩ := I.base.there b o e hx
    exact there b o' (neC b o e hx) e1
  · obtain ⟨m1, e1⟩ := I.base.tbls b ps e
    obtain ⟨m2, e2⟩ := tbls b _ e1
    exact ⟨m1 ++ m2, by rw [e2, Array.append_assoc]⟩
  · obtain ⟨m, hn, hl⟩ := I.loc
    refine ⟨m, ns m hn, fun i x v e1 e2 e3 => ?_⟩
    obtain ⟨u, r, l⟩ := hl i x v e1 e2 e3
    refine ⟨u, r, ?_⟩
    rcases l with l | ⟨k, c, e, z⟩
    · exact .inl l
    · exact .inr ⟨k, c, e, cellK x c e _ z⟩
  · obtain ⟨v, z⟩ := I.cell x c e
    exact ⟨v, cellK x c e v z⟩
  · obtain ⟨m, ⟨o, _, _, ho, _⟩, _⟩ := I.loc
    exact free _ o (fun z => (hch _ z).2.1 rfl) ho I.free
  · obtain ⟨v, o, ho, hd⟩ := I.cell x c e
    exact free c o (fun z => (hch c z).2.2.1 x c e rfl) ho (I.freeC x c e)
  · obtain ⟨e, n, ne, nf, d⟩ := I.pin p hp
    have nch : p.1 ∉ ch := fun z => (hch p.1 z).2.2.2 p hp rfl
    exact ⟨keep p.1 p.2 ne nf nch e n, free p.1 p.2 nch e n, ne, nf, d⟩
theorem Inv.un {t' : Nat} (I : Inv X pins σ H s) (u : Un X.fs [] H H' s.heap h') (hok : HOk X.prog X.w H' h') : Inv X pins σ H' { s with heap := h', toks := t' } := by
  obtain ⟨m, ⟨o, es, ep, ho, r⟩, _⟩ := id I.loc
  obtain ⟨sl, hL⟩ := u.any ho I.free (by simp)
  exact I.step (g' := s.gens) (d' := s.drawn) (ch := []) (fun _ z => nomatch z) (fun b o _ hb _ e n => u.keep b o e n hb (by simp)) (fun b o _ hb _ e n => u.slot b o e n hb (by simp)) (fun b o _ e n => u.free b o e n (by simp)) (fun b o _ e => u.there b o e (by simp)) u.tups u.frzs u.tbls (fun m' hm => by
    obtain ⟨o', es', ep', ho', r'⟩ := hm
    rw [ho] at ho'; cases ho'
    exact ⟨_, es', ep', hL, r'⟩) hok I.bare
theorem Inv.call {g' : Array GenState} {t' : Nat} {d' : Drawn} {ch : List Addr} (I : Inv X pins σ H s) (u : Un (frs X.stack) ch H H' s.heap h') (hok : HOk X.prog X.w H' h') (hg : AllBare g')
    (hch : ∀ b ∈ ch, (b ∈ X.ex ∨ X.s₀.heap.objs.size ≤ b) /\ b ≠ X.env.locals /\ (∀ x c, X.env.cells.lookup x = some c->c ≠ b) /\ ∀ p ∈ X.pn ++ pins, p.1 ≠ b) :
    Inv X pins σ H' { s with heap := h', gens := g', drawn := d', toks := t' } := by
  obtain ⟨m, ⟨o, es, ep, ho, r⟩, _⟩ := id I.loc
  obtain ⟨sl, hL⟩ := u.any ho I.free fun z => (hch _ z).2.1 rfl
  exact I.step (ch := ch) hch (fun b o hL hb hc e n => u.keep b o e n (fun z => (List.mem_cons.mp (I.stkSub b z)).elim hL hb) hc) (fun b o _ _ hc e n => u.any e n hc) (fun b o hc e n => u.free b o e n hc) (fun b o hc e => u.there b o e hc) u.tups u.frzs u.tbls (fun m' hm => by
    obtain ⟨o', es', ep', ho', r'⟩ := hm
    rw [ho] at ho'; cases ho'
    exact ⟨_, es', ep', hL, r'⟩) hok hg
theorem Inv.turned {t' : Nat} {it : Addr} (I : Inv X pins σ H s) (k : ∀ b o, b ≠ it->s.heap.get? b = some o->h'.get? b = some o) (hn : H it = none) (hL : it ≠ X.env.locals)
    (h1 : it ∈ X.ex ∨ X.s₀.heap.objs.size ≤ it) (h2 : ∀ x c, X.env.cells.lookup x = some c->c ≠ it) (h3 : ∀ p ∈ X.pn ++ pins, p.1 ≠ it) : Inv X pins σ H { s with heap := h', toks := t' } := by
  have nit : ∀ b u, H b = some u->b ≠ it := fun b u e z => by rw [z, hn] at e; cases e
  refine I.step (g' := s.gens) (d' := s.drawn) (ch := [it]) (fun b hb => ?_) (fun b o _ _ hc e _ => k b o (fun z => hc (by simp [z])) e) (fun b o _ _ hc e _ => ⟨o.slots, k b o (fun z => hc (by simp [z])) e⟩) (fun _ _ _ _ n => n)
    (fun b o hc e => ⟨o, k b o (fun z => hc (by simp [z])) e⟩) (fun _ _ e => e) (fun _ _ _ e => e) (fun b ps e => ⟨#[], by rw [e]; simp⟩) (fun m hm => ?_) (fun b u e => ?_) I.bare
  · have e : b = it := by simpa using hb
    subst e
    exact ⟨h1, hL, h2, h3⟩
  · obtain ⟨o, es, ep, ho, r⟩ := hm
    exact ⟨o, es, ep, k _ o (Ne.symm hL) ho, r⟩
  · refine (I.hok b u e).stay (fun c v hc q => k c v ?_ q) (fun _ q => q) fun _ _ q => q
    rcases hc with z | z
    · rw [z]; exact nit b u e
    · exact nit c _ z
theorem Inv.tok (I : Inv X pins σ H s) (t : Nat) : Inv X pins σ H { s with toks := t } := I.un (h' := s.heap) (t' := t) Un.refl I.hok
theorem Inv.kept {t' : Nat} (I : Inv X pins σ H s) (k : ∀ b u, s.heap.get? b = some u->h'.get? b = some u) : Inv X pins σ H { s with heap := h', toks := t' } := I.un (Un.kept k) (I.hok.kept k)
theorem Inv.laid {a : Addr} {o : HO} {t' : Nat} (I : Inv X pins σ H s) (k : ∀ b u, s.heap.get? b = some u->h'.get? b = some u) (hp : s.heap.objs.size ≤ a) (new : ObjOk X.prog X.w (upd H a o) h' a o) :
    Inv X pins σ (upd H a o) { s with heap := h', toks := t' } := I.un (Un.laid k hp (I.hok.fresh hp)) (I.hok.laid k hp new)
theorem Inv.write {x e : Addr} {o : HO} {t' : Nat} (I : Inv X pins σ H s) (mu : Mut (H x)) (he : e = x ∨ H e = some (.own x)) (k : ∀ b u, b ≠ e->s.heap.get? b = some u->h'.get? b = some u) (heo : ∃ u, h'.get? e = some u)
    (new : ObjOk X.prog X.w (upd H x o) h' x o) : Inv X pins σ (upd H x o) { s with heap := h', toks := t' } := I.un (Un.write mu he k heo) (I.hok.write mu he k heo new)
theorem Inv.pins_of {pins' : List (Addr × Obj)} (I : Inv X pins σ H s) (h : ∀ p ∈ pins', s.heap.get? p.1 = some p.2 /\ H p.1 = none /\ p.1 ≠ X.env.locals /\ p.1 ∉ X.fs /\ ∀ v, p.2.data ≠ .cell v) : Inv X pins' σ H s :=
  ⟨I.ok, I.os, I.bare, I.base, I.loc, I.cell, I.free, I.freeC, fun p hp => (List.mem_append.mp hp).elim (fun z => I.pin p (List.mem_append_left _ z)) (h p), I.hok, I.len⟩
theorem nodup_ix {N : List Str} (hN : N.Nodup) {i j : Nat} {x : Str} (a : N[i]? = some x) (b : N[j]? = some x) : i = j := by
  obtain ⟨h1, e1⟩ := List.getElem?_eq_some_iff.mp a
  obtain ⟨h2, e2⟩ := List.getElem?_eq_some_iff.mp b
  exact (List.getElem_inj hN).mp (e1.trans e2.symm)
theorem store_ok2 {M : Model} {A : Around} {E : Value->Shared->Prop} {i : Nat} {x : Str} {v : V} {u : Value} {Q : Unit->Shared->Prop} (I : Inv X pins σ H s) (hN : X.N.Nodup) (hi : X.N[i]? = some x) (hx : Loc X.env.scope x) (r : RelV v u)
    (h : ∀ s', Inv X pins (σ.set i (some v)) H s'->(∃ a, Heap.SameBut a s.heap s'.heap /\ (a = X.env.locals ∨ X.env.cells.lookup x = some a))->Q () s') (hf : X.fn x = true ∨ X.env.scope.names.lookup x = some .local := by first | exact .inl rfl | exact .inr rfl | assumption) : wpAny M A (storeName X.env x u) Q E s := by
  obtain ⟨m, hn, hl⟩ := id I.loc
  have hcls : (X.env.scope.kind == .class || (X.env.scope.kind == .module && X.env.locals != X.env.globals)) = false := by rw [I.ok.kind]; rfl
  have hiσ : i < σ.length := by rw [I.len]; exact (List.getElem?_eq_some_iff.mp hi).1
  have cne := I.cne
  have tracked : ∀ {a : Addr} {h' : Heap}, (∃ o, s.heap.get? a = some o /\ H a = none)->Heap.SameBut a s.heap h'->HOk X.prog X.w H h' := fun {a h'} ha hs b ob e => by
    obtain ⟨_, _, hfree⟩ := ha
    refine (I.hok b ob e).stay (fun c w' hc q => (hs.2 c ?_).trans q) (fun _ q => q) fun _ _ q => q
    rintro rfl
    rcases hc with rfl | hc
    · rw [hfree] at e; cases e
    · rw [hfree] at hc; cases hc
  rcases hx with hk | hk
  · refine wpAny_storeName_local hk hn (fun h' hn' hs => ?_) hcls
    obtain ⟨oL, _, _, hoL, _⟩ := id hn
    refine h _ ⟨I.ok, I.os, I.bare, ⟨fun b o e n hb hx => ?_, fun b o e n hb hx => ?_, I.base.free, fun b o e hx => ?_, I.base.tups, I.base.frzs, I.base.tbls⟩, ⟨_, hn', fun j y v' e1 e2 e3 => ?_⟩, fun y c e => ?_, I.free, I.freeC, fun p hp => ?_, tracked ⟨oL, hoL, I.free⟩ hs, by simpa using I.len⟩ ⟨_, hs, .inl rfl⟩
    · exact (hs.2 b (Nat.ne_of_lt (Nat.lt_of_lt_of_le (Heap.lt_size e) I.ok.above))).trans (I.base.keep b o e n hb hx)
    · obtain ⟨sl, e1⟩ := I.base.slot b o e n hb hx
      exact ⟨sl, (hs.2 b (Nat.ne_of_lt (Nat.lt_of_lt_of_le (Heap.lt_size e) I.ok.above))).trans e1⟩
    · obtain ⟨o', e1⟩ := I.base.there b o e hx
      exact ⟨o', (hs.2 b (Nat.ne_of_lt (Nat.lt_of_lt_of_le (Heap.lt_size e) I.ok.above))).trans e1⟩
    · by_cases hj : j = i
      · subst hj
        rw [hi] at e1; cases e1
        rw [List.getElem?_set_self hiσ] at e2
        cases e2
        exact ⟨u, r, .inl ⟨hk, by simp⟩⟩
      · rw [List.getElem?_set_ne (Ne.symm hj)] at e2
        obtain ⟨u', r', q⟩ := hl j y v' e1 e2 e3
        refine ⟨u', r', ?_⟩
        rcases q with ⟨k, e⟩ | ⟨k, c, e, z⟩
        · refine .inl ⟨k, ?_⟩
          have : y ≠ x := fun e => hj (nodup_ix hN e1 (e ▸ hi))
          simp [this, e]
        · exact .inr ⟨k, c, e, z.sameBut hs (cne y c e)⟩
    · obtain ⟨w', z⟩ := I.cell y c e
      exact ⟨w', z.sameBut hs (cne y c e)⟩
    · obtain ⟨e, n, ne, nf, d⟩ := I.pin p hp
      exact ⟨(hs.2 p.1 ne).trans e, n, ne, nf, d⟩
  · have hfn : X.fn x = true := by
      rcases hf with z | z
      · exact z
      · rw [z] at hk; cases hk
    obtain ⟨c, hc⟩ := I.ok.has x (.inl hk)
    obtain ⟨w', z⟩ := I.cell x c hc
    refine wpAny_storeName_cell I.ok.kind hk hc z (fun h' hc' hs => ?_)
    obtain ⟨oc, hoc, hocd⟩ := id z
    refine h { s with heap := h' } ⟨I.ok, I.os, I.bare, ⟨fun b o e n hb hx => ?_, fun b o e n hb hx => ?_, I.base.free, fun b o e hx => ?_, I.base.tups, I.base.frzs, I.base.tbls⟩, ⟨m, hn.sameBut hs (Ne.symm (cne x c hc)), fun j y v' e1 e2 e3 => ?_⟩, fun y c' e => ?_, I.free, I.freeC, fun p hp => ?_, tracked ⟨oc, hoc, I.freeC x c hc⟩ hs, by simpa using I.len⟩ ⟨c, hs, .inr hc⟩
    · exact (hs.2 b (Nat.ne_of_lt (Nat.lt_of_lt_of_le (Heap.lt_size e) (I.ok.cab x c hfn hc)))).trans (I.base.keep b o e n hb hx)
    · obtain ⟨sl, e1⟩ := I.base.slot b o e n hb hx
      exact ⟨sl, (hs.2 b (Nat.ne_of_lt (Nat.lt_of_lt_of_le (Heap.lt_size e) (I.ok.cab x c hfn hc)))).trans e1⟩
    · obtain ⟨o', e1⟩ := I.base.there b o e hx
      exact ⟨o', (hs.2 b (Nat.ne_of_lt (Nat.lt_of_lt_of_le (Heap.lt_size e) (I.ok.cab x c hfn hc)))).trans e1⟩
    · by_cases hj : j = i
      · subst hj
        rw [hi] at e1; cases e1
        rw [List.getElem?_set_self hiσ] at e2
        cases e2
        exact ⟨u, r, .inr ⟨.inl hk, c, hc, hc'⟩⟩
      · rw [List.getElem?_set_ne (Ne.symm hj)] at e2
        obtain ⟨u', r', q⟩ := hl j y v' e1 e2 e3
        refine ⟨u', r', ?_⟩
        rcases q with q | ⟨k, c', e, z'⟩
        · exact .inl q
        · refine .inr ⟨k, c', e, z'.sameBut hs ?_⟩
          rintro rfl
          exact hj (nodup_ix hN e1 (I.ok.inj _ _ _ e hc ▸ hi))
    · by_cases hcc : c' = c
      · subst hcc; exact ⟨_, hc'⟩
      · obtain ⟨w2, z2⟩ := I.cell y c' e
        exact ⟨w2, z2.sameBut hs hcc⟩
    · obtain ⟨e, n, ne, nf, d⟩ := I.pin p hp
      refine ⟨(hs.2 p.1 ?_).trans e, n, ne, nf, d⟩
      intro q
      rw [q, hoc] at e
      have q' : oc = p.2 := Option.some.inj e
      exact d w' (by rw [← q']; exact hocd)
theorem store_ok {M : Model} {A : Around} {E : Value->Shared->Prop} {i : Nat} {x : Str} {v : V} {u : Value} {Q : Unit->Shared->Prop} (I : Inv X pins σ H s) (hN : X.N.Nodup) (hi : X.N[i]? = some x) (hx : Loc X.env.scope x) (r : RelV v u)
    (h : ∀ s', Inv X pins (σ.set i (some v)) H s'->Q () s') (hf : X.fn x = true ∨ X.env.scope.names.lookup x = some .local := by first | exact .inl rfl | exact .inr rfl | assumption) : wpAny M A (storeName X.env x u) Q E s :=
  store_ok2 I hN hi hx r (fun s' I' _ => h s' I') hf
theorem Inv.call' {s' : Shared} {ch : List Addr} (I : Inv X pins σ H s) (ho : s'.os = s.os) (u : Un (frs X.stack) ch H H' s.heap s'.heap) (hok : HOk X.prog X.w H' s'.heap) (hg : AllBare s'.gens)
    (hch : ∀ b ∈ ch, (b ∈ X.ex ∨ X.s₀.heap.objs.size ≤ b) /\ b ≠ X.env.locals /\ (∀ x c, X.env.cells.lookup x = some c->c ≠ b) /\ ∀ p ∈ X.pn ++ pins, p.1 ≠ b) : Inv X pins σ H' s' := by
  obtain ⟨h', g', d', t', o'⟩ := s'
  have e : o' = s.os := ho
  subst e
  exact I.call (g' := g') (t' := t') (d' := d') u hok hg hch
end
abbrev XK := Value->Option Addr->Hp->Prop
abbrev St := List (Option V)
abbrev VK := V->Hp->Prop
abbrev TE := St->Hp->VK->Prop
abbrev TT := St->Hp->(Bool->Hp->Prop)->Prop
abbrev TA := St->Hp->(List V->Hp->Prop)->Prop
structure Ends where
  nx : St->Hp->Prop
  rt : VK
  bk : St->Hp->Prop := fun _ _ => False
  ct : St->Hp->Prop := fun _ _ => False
abbrev TS := Ends->St->Hp->Prop
def EP (X : Cx) (pins : List (Addr × Obj)) (σ : St) (Q : VK) (u : Value) (s' : Shared) : Prop := ∃ v H', Inv X pins σ H' s' /\ RelV v u /\ Q v H'
def TP (X : Cx) (pins : List (Addr × Obj)) (σ : St) (Q : Bool->Hp->Prop) (b : Bool) (s' : Shared) : Prop := ∃ H', Inv X pins σ H' s' /\ Q b H'
def AP (X : Cx) (pins : List (Addr × Obj)) (σ : St) (Q : List V->Hp->Prop) (us : List Value) (s' : Shared) : Prop := ∃ vs H', Inv X pins σ H' s' /\ Vals vs us /\ Q vs H'
def SP (X : Cx) (pins : List (Addr × Obj)) (D : Ends) (f : Flow) (s' : Shared) : Prop :=
  match f with
  | .next => ∃ σ' H', Inv X pins σ' H' s' /\ D.nx σ' H'
  | .brk => ∃ σ' H', Inv X pins σ' H' s' /\ D.bk σ' H'
  | .cont => ∃ σ' H', Inv X pins σ' H' s' /\ D.ct σ' H'
  | .ret u => ∃ v σ' H', Inv X pins σ' H' s' /\ RelV v u /\ D.rt v H'
def PE (X : Cx) (e : Expr) (t : TE) : Prop :=
  ∀ (pins : List (Addr × Obj)) (s : Shared) (σ : St) (H : Hp) (Q : VK), Inv X pins σ H s->t σ H Q->wpAny (model X.prog X.w) X.A (eval e X.env) (EP X pins σ Q) X.xe s
def PT (X : Cx) (e : Expr) (t : TT) : Prop :=
  ∀ (pins : List (Addr × Obj)) (s : Shared) (σ : St) (H : Hp) (Q : Bool->Hp->Prop), Inv X pins σ H s->t σ H Q->wpAny (model X.prog X.w) X.A (isTrue e X.env (eval e X.env)) (TP X pins σ Q) X.xe s
def PW (X : Cx) (e : Expr) (t : TT) : Prop :=
  ∀ (whole : Sem Value) (pins : List (Addr × Obj)) (s : Shared) (σ : St) (H : Hp) (Q : Bool->Hp->Prop), Inv X pins σ H s->t σ H Q->wpAny (model X.prog X.w) X.A (isTrue e X.env whole) (TP X pins σ Q) X.xe s
theorem PW.pt {X : Cx} {e : Expr} {t : TT} (h : PW X e t) : PT X e t := h _
def PA (X : Cx) (es : List Expr) (t : TA) : Prop :=
  ∀ (pos : Pos) (pins : List (Addr × Obj)) (s : Shared) (σ : St) (H : Hp) (Q : List V->Hp->Prop), Inv X pins σ H s->t σ H Q->wpAny (model X.prog X.w) X.A (spliced (backTo pos (starEach es X.env))) (AP X pins σ Q) X.xe s
def PS (X : Cx) (st : Stmt) (t : TS) : Prop :=
  ∀ (pins : List (Addr × Obj)) (s : Shared) (σ : St) (H : Hp) (D : Ends), Inv X pins σ H s->t D σ H->wpAny (model X.prog X.w) X.A (exec st X.env) (SP X pins D) X.xe s
def PSs (X : Cx) (st : List Stmt) (t : TS) : Prop :=
  ∀ (pins : List (Addr × Obj)) (s : Shared) (σ : St) (H : Hp) (D : Ends), Inv X pins σ H s->t D σ H->wpAny (model X.prog X.w) X.A (execs st X.env) (SP X pins D) X.xe s
theorem thn {α : Type} {t : Sem α} {Q Q' : α->Shared->Prop} {M : Model} {A : Around} {E : Value->Shared->Prop} {s : Shared} (h : wpAny M A t Q E s) (hQ : ∀ a s, Q a s->Q' a s) : wpAny M A t Q' E s := wpAny_mono h hQ fun _ _ x => x
open PySem PySem.Spec PyProof.Rows
section
variable {X : Cx}
def tVar (i : Nat) : TE := fun σ H Q => ∃ v, σ[i]? = some (some v) /\ Q v H
def tC (v : V) : TE := fun _ H Q => Q v H
theorem pe_var {i : Nat} {x : Str} {pos : Pos} (hN : X.N[i]? = some x) (hv : Vis X.env.scope x) (hd : (x == ("__debug__" : Str)) = false := by decide) (hcd : (x == ("__classdict__" : Str)) = false := by decide) : PE X (.Name x pos) (tVar i) := by
  intro pins s σ H Q I h
  obtain ⟨v, e, h⟩ := h
  obtain ⟨m, hn, hl⟩ := I.loc
  obtain ⟨u, r, l⟩ := hl i x v hN e hv
  have fin : EP X pins σ Q u s := ⟨v, H, I, r, h⟩
  rcases l with ⟨hk, hm⟩ | ⟨hk, c, hc, hcell⟩
  · exact wpAny_Name (wpAny_loadName_local I.ok.kind hk hn hm fin) hd
  · rcases hk with hk | hk
    · exact wpAny_Name (wpAny_loadName_cell I.ok.kind hk hc hcell fin) hd
    · exact wpAny_Name (wpAny_loadName_free I.ok.kind hk hc hcell fin hcd) hd
theorem pe_int {i j pos} : PE X (.Constant (.int i) j pos) (tC (.int i)) := fun _ _ _ H _ I h => wpAny_Constant_int ⟨.int i, H, I.tok _, ⟨_, rfl⟩, h⟩
theorem pe_bl {b j pos} : PE X (.Constant (.bool b) j pos) (tC (.bl b)) := fun _ _ _ H _ I h => Constant_bool ⟨.bl b, H, I, rfl, h⟩
theorem pe_non {j pos} : PE X (.Constant .none j pos) (tC .non) := fun _ _ _ H _ I h => Constant_none ⟨.non, H, I, rfl, h⟩
def Gl (X : Cx) (x : Str) : Prop := X.env.kindOf x = some .globalImplicit
theorem ld_glob {E : Value->Shared->Prop} {pins : List (Addr × Obj)} {s : Shared} {σ : St} {H : Hp} {x : Str} {u : Value} {pos : Pos} {Q : Value->Shared->Prop} (I : Inv X pins σ H s) (hg : Gl X x) (hm : X.mg x = some u) (h : Q u s)
    (hd : (x == ("__debug__" : Str)) = false := by decide) : wpAny (model X.prog X.w) X.A (eval (.Name x pos) X.env) Q E s :=
  Calls.Name_function_global I.ok.kind hg (Calls.loadGlobal_global (by rw [I.ok.glob]; exact I.mod.glob.keeps I.bk) hm h) hd
theorem ld_blt {E : Value->Shared->Prop} {pins : List (Addr × Obj)} {s : Shared} {σ : St} {H : Hp} {x : Str} {u : Value} {pos : Pos} {Q : Value->Shared->Prop} (I : Inv X pins σ H s) (hg : Gl X x) (hm : X.mg x = none) (hv : bootBuiltins x = some u) (h : Q u s)
    (hn : x ≠ "__name__" := by decide) (hd : (x == ("__debug__" : Str)) = false := by decide) : wpAny (model X.prog X.w) X.A (eval (.Name x pos) X.env) Q E s := by
  obtain ⟨mb, h1, h2⟩ := I.mod.blt
  exact Calls.Name_function_global I.ok.kind hg (Calls.loadGlobal_builtin (by rw [I.ok.glob]; exact I.mod.glob.keeps I.bk) hm (by rw [I.ok.blt]; exact h1.keeps I.bk) ((h2 x hn).trans hv) h) hd
theorem pe_glob {x : Str} {v : V} {u : Value} {pos : Pos} (hg : Gl X x) (hm : X.mg x = some u) (r : RelV v u) (hd : (x == ("__debug__" : Str)) = false := by decide) : PE X (.Name x pos) (tC v) :=
  fun _ _ _ H _ I h => ld_glob I hg hm ⟨v, H, I, r, h⟩ hd
theorem pe_bltn {x : Str} {v : V} {u : Value} {pos : Pos} (hg : Gl X x) (hm : X.mg x = none) (hv : bootBuiltins x = some u) (r : RelV v u) (hn : x ≠ "__name__" := by decide) (hd : (x == ("__debug__" : Str)) = false := by decide) : PE X (.Name x pos) (tC v) :=
  fun _ _ _ H _ I h => ld_blt I hg hm hv ⟨v, H, I, r, h⟩ hn hd
variable {a b : Expr} {ta tb : TE} {pos : Pos}
def tB (t : TE) : TT := fun σ H Q => t σ H fun x H1 => ∃ c, x = .bl c /\ Q c H1
theorem pt_val {e : Expr} {t : TE} (h : PE X e t) (he : ∀ whole, isTrue e X.env whole = (do let v ← whole; standAt e.pos; holding [v] (truthy v)) := by intro _; rfl) : PT X e (tB t) := by
  intro pins s σ H Q I hw
  refine isTrue_plain (thn (h pins s σ H _ I hw) fun v s1 ⟨x, H1, I1, r1, q1⟩ => ?_) (he _)
  obtain ⟨d, rfl, q⟩ := q1
  cases r1
  exact wpAny_truthy_bool ⟨H1, I1, q⟩
variable {tA tB' : TT} {rest : List Expr}
def tAnd (t u : TT) : TT := fun σ H Q => t σ H fun c H1 => if c = true then u σ H1 Q else Q false H1
def tOr (t u : TT) : TT := fun σ H Q => t σ H fun c H1 => if c = true then Q true H1 else u σ H1 Q
def tNot (t : TT) : TT := fun σ H Q => t σ H fun c H1 => Q (!c) H1
theorem pw_and1 (ha : PT X a tA) : PW X (.BoolOp .And [a] pos) tA := by
  intro wh pins s σ H Q I h
  refine isTrue_and (thn (ha pins s σ H Q I h) fun c s1 e => ?_)
  cases c with
  | true => exact isTrue_and_nil e
  | false => exact e
theorem pw_or1 (ha : PT X a tA) : PW X (.BoolOp .Or [a] pos) tA := by
  intro wh pins s σ H Q I h
  refine isTrue_or (thn (ha pins s σ H Q I h) fun c s1 e => ?_)
  cases c with
  | false => exact isTrue_or_nil e
  | true => exact e
theorem pw_and (ha : PT X a tA) (hb : PW X (.BoolOp .And (b :: rest) pos) tB') : PW X (.BoolOp .And (a :: b :: rest) pos) (tAnd tA tB') := by
  intro wh pins s σ H Q I h
  refine isTrue_and (thn (ha pins s σ H _ I h) fun c s1 ⟨H1, I1, q1⟩ => ?_)
  cases c with
  | true => exact hb wh pins s1 σ H1 Q I1 q1
  | false => exact ⟨H1, I1, q1⟩
theorem pw_or (ha : PT X a tA) (hb : PW X (.BoolOp .Or (b :: rest) pos) tB') : PW X (.BoolOp .Or (a :: b :: rest) pos) (tOr tA tB') := by
  intro wh pins s σ H Q I h
  refine isTrue_or (thn (ha pins s σ H _ I h) fun c s1 ⟨H1, I1, q1⟩ => ?_)
  cases c with
  | true => exact ⟨H1, I1, q1⟩
  | false => exact hb wh pins s1 σ H1 Q I1 q1
theorem pt_not (ha : PT X a tA) : PT X (.UnaryOp .Not a pos) (tNot tA) := by
  intro pins s σ H Q I h
  exact isTrue_not (ha pins s σ H (fun c H1 => Q (!c) H1) I h)
def tAndV (ta tb : TE) : TE := fun σ H Q => ta σ H fun x H1 => ∃ c, x = .bl c /\ if c = true then tb σ H1 Q else Q (.bl false) H1
def tNotV (ta : TE) : TE := fun σ H Q => ta σ H fun x H1 => ∃ c, x = .bl c /\ Q (.bl (!c)) H1
theorem pe_one {op} {t : TE} (h : PE X a t) : PE X (.BoolOp op [a] pos) t := fun pins s σ H Q I hw => BoolOp_one (h pins s σ H Q I hw)
theorem pe_and (ha : PE X a ta) (hb : PE X (.BoolOp .And (b :: rest) pos) tb) : PE X (.BoolOp .And (a :: b :: rest) pos) (tAndV ta tb) := by
  intro pins s σ H Q I h
  refine BoolOp_and (thn (ha pins s σ H _ I h) fun v s1 ⟨x, H1, I1, r1, q1⟩ => ?_)
  obtain ⟨c, rfl, q1⟩ := q1
  cases r1
  refine wpAny_truthy_bool ?_
  cases c with
  | true => exact hb pins s1 σ H1 Q I1 q1
  | false => exact ⟨.bl false, H1, I1, rfl, q1⟩
theorem pe_not (ha : PE X a ta) : PE X (.UnaryOp .Not a pos) (tNotV ta) := by
  intro pins s σ H Q I h
  refine UnaryOp_ (thn (ha pins s σ H _ I h) fun v s1 ⟨x, H1, I1, r1, q1⟩ => ?_)
  obtain ⟨c, rfl, q1⟩ := q1
  cases r1
  exact not_of (wpAny_truthy_bool ⟨.bl (!c), H1, I1, rfl, q1⟩)
end
open PySem PySem.Spec PyProof.Rows
def SqL (K : PySem.W.Frag) (H : Hp) (a : Addr) (xs : List V) : Prop :=
  Rd H a (.lst xs) ∨
    ∃ (o : Obj) (its : Array Value) (n : Nat), K.lookup a = some o /\ o.cls = .type "list" /\ o.dict = none /\ o.data = .seq its n /\ its.size ≤ sizeLine /\ Vals xs its.toList
def SqT (K : PySem.W.Frag) (H : Hp) (a : Addr) (xs : List V) : Prop :=
  Rd H a (.tup xs) ∨
    ∃ (o : Obj) (its : Array Value) (n : Nat), K.lookup a = some o /\ o.cls = .type "tuple" /\ o.data = .seq its n /\ its.size ≤ sizeLine /\ Vals xs its.toList
def absV : Value->Option V
  | .none => some .non
  | .bool b => some (.bl b)
  | .int i _ => some (.int i)
  | .str x _ => some (.str x)
  | .bytes b _ => some (.byt b)
  | .float b _ => some (.flt b)
  | .ref a => some (.ref a)
  | .type n => some (.ty n)
  | _ => none
theorem RelV.abs {x : V} {u : Value} (r : RelV x u) : absV u = some x := by
  cases x with
  | non => cases r; rfl
  | bl _ => cases r; rfl
  | int _ => obtain ⟨t, rfl⟩ := r; rfl
  | str _ => obtain ⟨t, rfl⟩ := r; rfl
  | byt _ => obtain ⟨t, rfl⟩ := r; rfl
  | flt _ => obtain ⟨t, rfl⟩ := r; rfl
  | ref _ => cases r; rfl
  | ty _ => cases r; rfl
theorem RelV.inj {x y : V} {u : Value} (r : RelV x u) (q : RelV y u) : x = y := Option.some.inj (r.abs.symm.trans q.abs)
theorem Vals.inj : ∀ {xs ys : List V} {us : List Value}, Vals xs us->Vals ys us->xs = ys
  | _, _, _, .nil, .nil => rfl
  | _, _, _, .cons r t, .cons r' t' => by rw [r.inj r', Vals.inj t t']
section
variable {X : Cx} {pins : List (Addr × Obj)} {σ : St} {H : Hp} {s : Shared} {a : Addr} {xs ys : List V}
theorem SqL.of {K : PySem.W.Frag} (h : H a = some (.lst xs)) : SqL K H a xs := .inl (.inl h)
theorem SqT.of {K : PySem.W.Frag} (h : H a = some (.tup xs)) : SqT K H a xs := .inl (.inl h)
theorem Inv.list (I : Inv X pins σ H s) (h : SqL X.K H a xs) : ∃ its : List Value, Vals xs its /\ PlainL s.heap a its.toArray /\ xs.length ≤ sizeLine := by
  rcases h with h | ⟨o, its, n, hk, hc, hd, hs, hz, r⟩
  · obtain ⟨z, its, n, r, e⟩ := h.ok I.hok
    exact ⟨its, r, ⟨_, n, e, rfl, rfl, rfl⟩, z⟩
  · refine ⟨its.toList, r, ⟨o, n, I.kIn a o hk, hc, hd, by simpa using hs⟩, ?_⟩
    have e := r.length
    simp only [Array.length_toList] at e
    omega
theorem Inv.tuple (I : Inv X pins σ H s) (h : SqT X.K H a xs) : ∃ its : List Value, Vals xs its /\ IsTup s.heap a its.toArray /\ xs.length ≤ sizeLine := by
  rcases h with h | ⟨o, its, n, hk, hc, hs, hz, r⟩
  · obtain ⟨z, its, r, p⟩ := h.ok I.hok
    exact ⟨its, r, p, z⟩
  · refine ⟨its.toList, r, ⟨o, I.kIn a o hk, hc, n, by simpa using hs⟩, ?_⟩
    have e := r.length
    simp only [Array.length_toList] at e
    omega
theorem Inv.list_inj (I : Inv X pins σ H s) (h : SqL X.K H a xs) (h' : SqL X.K H a ys) : xs = ys := by
  obtain ⟨its, r, ⟨o, n, e, _, _, d⟩, _⟩ := I.list h
  obtain ⟨its', r', ⟨o', n', e', _, _, d'⟩, _⟩ := I.list h'
  rw [e] at e'; cases e'
  rw [d] at d'
  injection d' with d1 _
  have : its = its' := by simpa using congrArg Array.toList d1
  subst this
  exact r.inj r'
theorem Inv.tuple_inj (I : Inv X pins σ H s) (h : SqT X.K H a xs) (h' : SqT X.K H a ys) : xs = ys := by
  obtain ⟨its, r, ⟨o, e, _, n, d⟩, _⟩ := I.tuple h
  obtain ⟨its', r', ⟨o', e', _, n', d'⟩, _⟩ := I.tuple h'
  rw [e] at e'; cases e'
  rw [d] at d'
  injection d' with d1 _
  have : its = its' := by simpa using congrArg Array.toList d1
  subst this
  exact r.inj r'
end
abbrev Cx.wish (X : Cx) (E : Value->Shared->Prop) : Cx := { X with xe := E }
abbrev Cx.nox (X : Cx) : Cx := X.wish fun _ _ => False
theorem Cx.Ok.wish {X : Cx} (ok : X.Ok) (E : Value->Shared->Prop) : (X.wish E).Ok :=
  ⟨ok.mod, ok.kind, ok.glob, ok.blt, ok.above, ok.inj, ok.has, ok.cab, ok.hd, ok.frames, ok.stk, ok.exf, ok.bs, ok.bsz, ok.noex, ok.exfs, ok.funs, ok.frf⟩
theorem Cx.Ok.unwish {X : Cx} {E : Value->Shared->Prop} (ok : (X.wish E).Ok) : X.Ok :=
  ⟨ok.mod, ok.kind, ok.glob, ok.blt, ok.above, ok.inj, ok.has, ok.cab, ok.hd, ok.frames, ok.stk, ok.exf, ok.bs, ok.bsz, ok.noex, ok.exfs, ok.funs, ok.frf⟩
section
variable {X : Cx} {pins : List (Addr × Obj)} {σ : St} {H : Hp} {s : Shared} {E : Value->Shared->Prop}
theorem Inv.wish (I : Inv X pins σ H s) (E : Value->Shared->Prop) : Inv (X.wish E) pins σ H s := ⟨I.ok.wish E, I.os, I.bare, I.base, I.loc, I.cell, I.free, I.freeC, I.pin, I.hok, I.len⟩
theorem Inv.unwish (I : Inv (X.wish E) pins σ H s) : Inv X pins σ H s := ⟨I.ok.unwish, I.os, I.bare, I.base, I.loc, I.cell, I.free, I.freeC, I.pin, I.hok, I.len⟩
end
section
variable {X : Cx} {st : Stmt} {rest : List Stmt} {t u : TS} {e : Expr} {te : TE} {pos : Pos}
def tNext : TS := fun D σ H => D.nx σ H
def tSeq (t u : TS) : TS := fun D σ H => t { D with nx := u D } σ H
theorem pss_nil : PSs X [] tNext := fun _ _ σ H _ I h => wpAny_execs_nil ⟨σ, H, I, h⟩
theorem pss_cons (h1 : PS X st t) (h2 : PSs X rest u) : PSs X (st :: rest) (tSeq t u) := by
  intro pins s σ H D I h
  refine wpAny_execs_cons (thn (h1 pins s σ H { D with nx := u D } I h) fun f s1 q => ?_)
  cases f with
  | next =>
    obtain ⟨σ', H', I', q⟩ := q
    exact h2 pins s1 σ' H' D I' q
  | ret v => exact q
  | brk => exact q
  | cont => exact q
theorem pss_one (h1 : PS X st t) : PSs X [st] t := by
  intro pins s σ H D I h
  refine wpAny_execs_cons (thn (h1 pins s σ H D I h) fun f s1 q => ?_)
  cases f with
  | next => exact wpAny_execs_nil q
  | ret v => exact q
  | brk => exact q
  | cont => exact q
theorem Inv.quiet {pins : List (Addr × Obj)} {σ : St} {H : Hp} {s : Shared} (I : Inv X pins σ H s) : interactive X.env = false := by simp [interactive, I.ok.kind]
def tDrop (te : TE) : TS := fun D σ H => te σ H fun _ H1 => D.nx σ H1
theorem ps_expr (he : PE X e te) (hs : swapsWith e none pos.line X.env = pure false := by rfl) : PS X (.Expr e pos) (tDrop te) := by
  intro pins s σ H D I h
  exact wpAny_Expr_any (thn (he pins s σ H _ I h) fun v s1 ⟨x, H1, I1, r1, q1⟩ => ⟨σ, H1, I1, q1⟩) I.quiet hs
def tRet (te : TE) : TS := fun D σ H => te σ H D.rt
theorem ps_ret (he : PE X e te) : PS X (.Return (some e) pos) (tRet te) := by
  intro pins s σ H D I h
  exact wpAny_Return_some (thn (he pins s σ H _ I h) fun v s1 ⟨x, H1, I1, r1, q1⟩ => ⟨x, σ, H1, I1, r1, q1⟩)
def tIfS (c : TT) (t u : TS) : TS := fun D σ H => c σ H fun b H1 => if b = true then t D σ H1 else u D σ H1
theorem ps_if {c : Expr} {a b : List Stmt} {tc : TT} (hc : PT X c tc) (ha : PSs X a t) (hb : PSs X b u) : PS X (.If c a b pos) (tIfS tc t u) := by
  intro pins s σ H D I h
  refine wpAny_If (thn (hc pins s σ H _ I h) fun d s1 ⟨H1, I1, q1⟩ => ?_)
  cases d with
  | true => exact ha pins s1 σ H1 D I1 q1
  | false => exact hb pins s1 σ H1 D I1 q1
end
abbrev TG := V->St->Hp->(St->Hp->Prop)->Prop
abbrev TGs := List V->St->Hp->(St->Hp->Prop)->Prop
def PG (X : Cx) (target : Expr) (t : TG) : Prop :=
  ∀ (pins : List (Addr × Obj)) (s : Shared) (σ : St) (H : Hp) (v : V) (u : Value) (Q : St->Hp->Prop), Inv X pins σ H s->RelV v u->t v σ H Q →
    wpAny (model X.prog X.w) X.A (assign target X.env u) (fun _ s' => ∃ σ' H', Inv X pins σ' H' s' /\ Q σ' H') X.xe s
def PGs (X : Cx) (ts : List Expr) (t : TGs) : Prop :=
  ∀ (pins : List (Addr × Obj)) (s : Shared) (σ : St) (H : Hp) (vs : List V) (us : List Value) (Q : St->Hp->Prop), Inv X pins σ H s->Vals vs us->t vs σ H Q →
    wpAny (model X.prog X.w) X.A (assignInOrder ((assignEach ts X.env).map (·.2)) us) (fun _ s' => ∃ σ' H', Inv X pins σ' H' s' /\ Q σ' H') X.xe s
abbrev TSet := V->V->V->Hp->(Hp->Prop)->Prop
def PSet (X : Cx) (t : TSet) : Prop :=
  ∀ (pins : List (Addr × Obj)) (s : Shared) (σ : St) (H : Hp) (o i v : V) (ov iv u : Value) (Q : Hp->Prop), Inv X pins σ H s->RelV o ov->RelV i iv->RelV v u->t o i v H Q →
    wpAny (model X.prog X.w) X.A (setItem ov iv u) (fun _ s' => ∃ H', Inv X pins σ H' s' /\ Q H') X.xe s
section
variable {X : Cx} {pos : Pos}
def gName (i : Nat) : TG := fun v σ H Q => Q (σ.set i (some v)) H
theorem pg_name {i : Nat} {x : Str} (hN : X.N.Nodup) (hi : X.N[i]? = some x) (hx : Loc X.env.scope x) (hf : X.fn x = true ∨ X.env.scope.names.lookup x = some .local := by first | exact .inl rfl | exact .inr rfl | assumption) : PG X (.Name x pos) (gName i) := by
  intro pins s σ H v u Q I r h
  exact wpAny_assign_Name (store_ok I hN hi hx r (fun s' I' => ⟨_, H, I', h⟩) hf)
def gNil : TGs := fun vs σ H Q => vs = [] /\ Q σ H
def gCons (t : TG) (u : TGs) : TGs := fun vs σ H Q => ∃ v r, vs = v :: r /\ t v σ H fun σ' H' => u r σ' H' Q
theorem pgs_nil : PGs X [] gNil := by
  intro pins s σ H vs us Q I r h
  obtain ⟨e, h⟩ := h
  subst e
  cases r
  exact assignInOrder_nil ⟨σ, H, I, h⟩
theorem pgs_cons {e : Expr} {es : List Expr} {t : TG} {u : TGs} (h1 : PG X e t) (h2 : PGs X es u)
    (hs : (assignEach (e :: es) X.env).map (·.2) = assign e X.env :: (assignEach es X.env).map (·.2) := by rfl) : PGs X (e :: es) (gCons t u) := by
  intro pins s σ H vs us Q I r h
  obtain ⟨v, vr, e1, h⟩ := h
  subst e1
  cases r with
  | cons r rr =>
    rw [hs]
    refine assignInOrder_cons (thn (h1 pins s σ H _ _ _ I r h) fun _ s1 ⟨σ1, H1, I1, q1⟩ => ?_)
    exact h2 pins s1 σ1 H1 _ _ Q I1 rr q1
def gTup (K : PySem.W.Frag) (n : Nat) (t : TGs) : TG := fun v σ H Q => ∃ a xs, v = .ref a /\ SqT K H a xs /\ xs.length = n /\ t xs σ H Q
theorem pg_tup {es : List Expr} {k : Nat} {t : TGs} {n : Nat} (hc : X.calm = true) (h : PGs X es t)
    (hn : (assignEach es X.env).length = n := by rfl) (hst : (assignEach es X.env).findIdx? (·.1) = none := by rfl) : PG X (.Tuple es k pos) (gTup X.K n t) := by
  intro pins s σ H v u Q I r hw
  obtain ⟨a, xs, e1, hq, hl, hw⟩ := hw
  subst e1
  cases r
  obtain ⟨its, rv, ht, hz⟩ := I.tuple hq
  refine assign_Tuple_tuple (I.ok.hd hc) ht (by simp [hn, ← hl, rv.length]) hst fun h' hx => ?_
  have I1 : Inv X pins σ H { s with heap := h' } := I.kept (t' := s.toks) fun b o e => hx b o (Nat.ne_of_lt (Heap.lt_size e)) e
  exact h pins _ σ H xs _ Q I1 (by simpa using rv) hw
def gSub (to ti : TE) (t : TSet) : TG := fun v σ H Q => to σ H fun o H1 => ti σ H1 fun i H2 => t o i v H2 fun H3 => Q σ H3
theorem pg_sub {o i : Expr} {to ti : TE} {t : TSet} (ho : PE X o to) (hi : PE X i ti) (hs : PSet X t)
    (ha : ∀ v, assign (.Subscript o i pos) X.env v = (do
      let ov ← holding [v] (eval o X.env)
      let iv ← holding [v, ov] (eval i X.env)
      standAt pos
      holding [v, ov, iv] (setItem ov iv v)
      release [v, ov, iv] []) := by intro _; rfl) : PG X (.Subscript o i pos) (gSub to ti t) := by
  intro pins s σ H v u Q I r h
  rw [ha]
  refine wpAny_bind (wpAny_holding (thn (ho pins s σ H _ I h) fun ov s1 ⟨x, H1, I1, r1, q1⟩ => ?_))
  refine wpAny_bind (wpAny_holding (thn (hi pins s1 σ H1 _ I1 q1) fun iv s2 ⟨y, H2, I2, r2, q2⟩ => ?_))
  refine wpAny_bind (wpAny_standAt (wpAny_bind (wpAny_holding (thn (hs pins s2 σ H2 x y v ov iv u _ I2 r1 r2 r q2) fun _ s3 ⟨H3, I3, q3⟩ => ?_))))
  exact wpAny_release ⟨σ, H3, I3, q3⟩
def tAsg (te : TE) (g : TG) : TS := fun D σ H => te σ H fun x H1 => g x σ H1 D.nx
theorem ps_asg {tg e : Expr} {te : TE} {g : TG} (he : PE X e te) (hg : PG X tg g) (hs : swapsWithSole [tg] e pos.line X.env = pure false := by rfl) (hw : swappedStores [tg] e X.env = pure none := by rfl)
    (h1 : (assignEach [tg] X.env).map (·.2) = [assign tg X.env] := by rfl) : PS X (.Assign [tg] e pos) (tAsg te g) := by
  intro pins s σ H D I h
  refine wpAny_Assign_stores (thn (he pins s σ H _ I h) fun v s1 ⟨x, H1, I1, r1, q1⟩ => ?_) hs hw
  rw [h1]
  exact thn (hg pins s1 σ H1 x v _ I1 r1 q1) fun _ s2 q => q
theorem ps_set {i : Nat} {x : Str} {e : Expr} {te : TE} {pos' : Pos} (hN : X.N.Nodup) (hi : X.N[i]? = some x) (hx : Loc X.env.scope x) (he : PE X e te) (hs : swapsWith e (some (.Name x pos')) pos.line X.env = pure false := by rfl) (hf : X.fn x = true ∨ X.env.scope.names.lookup x = some .local := by first | exact .inl rfl | exact .inr rfl | assumption) :
    PS X (.Assign [.Name x pos'] e pos) (tAsg te (gName i)) := by
  intro pins s σ H D I h
  refine wpAny_Assign_Name (thn (he pins s σ H _ I h) fun v s1 ⟨y, H1, I1, r1, q1⟩ => ?_) hs
  exact store_ok I1 hN hi hx r1 (fun s2 I2 => ⟨_, H1, I2, q1⟩) hf
end
section
variable {X : Cx} {pos : Pos}
def tWhile (c : TT) (tb : TS) : TS := fun D σ H => ∃ W : Nat->St->Hp->Prop, (∃ m, W m σ H) /\ ∀ m σ H, W m σ H →
  c σ H fun b H1 => if b = true then ∃ N : St->Hp->Prop, (∀ σ' H', N σ' H'->∃ m', m' < m /\ W m' σ' H') /\ tb { D with nx := N, ct := N, bk := D.nx } σ H1 else D.nx σ H1
theorem ps_while {c : Expr} {body : List Stmt} {tc : TT} {tb : TS} (hp : PassesOwn (model X.prog X.w) X.A X.env X.xe) (hc : PT X c tc) (hb : PSs X body tb) : PS X (.While c body [] pos) (tWhile tc tb) := by
  intro pins s σ H D I h
  obtain ⟨W, ⟨m0, w0⟩, turn⟩ := h
  refine wpAny_While (codeAny_whileLoop (fun n s' => ∃ σ' H', Inv X pins σ' H' s' /\ W n σ' H') ?_ m0 ⟨σ, H, I, w0⟩)
  rintro n s1 ⟨σ1, H1, I1, w1⟩
  refine wpAny_passesOwn hp (thn (hc pins s1 σ1 H1 _ I1 (turn n σ1 H1 w1)) fun b s2 ⟨H2, I2, q2⟩ => ?_)
  cases b with
  | true =>
    obtain ⟨N, hN, q2⟩ := q2
    rw [if_pos rfl]
    refine wpAny_passesOwn hp (thn (hb pins s2 σ1 H2 _ I2 q2) fun f s3 q3 => ?_)
    cases f with
    | next =>
      obtain ⟨σ3, H3, I3, n3⟩ := q3
      obtain ⟨m', hm, w3⟩ := hN σ3 H3 n3
      exact ⟨m', hm, σ3, H3, I3, w3⟩
    | cont =>
      obtain ⟨σ3, H3, I3, n3⟩ := q3
      obtain ⟨m', hm, w3⟩ := hN σ3 H3 n3
      exact ⟨m', hm, σ3, H3, I3, w3⟩
    | brk => exact q3
    | ret v => exact q3
  | false =>
    rw [if_neg Bool.false_ne_true]
    exact wpAny_execs_nil ⟨σ1, H2, I2, q2⟩
end
structure It where
  go : Nat->Hp->Prop
  yld : Nat->Hp->V->Hp->Prop
  stop : Nat->Hp->Prop
def FpOk (X : Cx) (pins : List (Addr × Obj)) (H : Hp) (b : Addr) : Prop :=
  H b = none /\ b ≠ X.env.locals /\ b ∉ X.fs /\ (b ∈ X.ex ∨ X.s₀.heap.objs.size ≤ b) /\ (∀ x c, X.env.cells.lookup x = some c->c ≠ b) /\ ∀ p ∈ X.pn ++ pins, p.1 ≠ b
theorem Inv.fpOk {X : Cx} {pins : List (Addr × Obj)} {σ : St} {H H' : Hp} {s : Shared} {b : Addr} (I : Inv X pins σ H s) (hb : s.heap.objs.size ≤ b) (hn : H' b = none) : FpOk X pins H' b := by
  refine ⟨hn, Nat.ne_of_gt (Nat.lt_of_lt_of_le I.lt hb), I.nofs hb, .inr (Nat.le_trans I.sz hb), fun x c e z => ?_, fun p hp z => ?_⟩
  · obtain ⟨v, q⟩ := I.cell x c e
    exact absurd (Nat.lt_of_lt_of_le q.lt (by rw [z]; exact hb)) (Nat.lt_irrefl _)
  · exact absurd (Nat.lt_of_lt_of_le (Heap.lt_size (I.pin p hp).1) (by rw [z]; exact hb)) (Nat.lt_irrefl _)
structure Turn (P : Program) (w : World) (K : PySem.W.Frag) (tg : Expr) (J : It) (fp : List Addr) (it : Addr) (tn : Nat->Heap->Prop) : Prop where
  mem : it ∈ fp
  obj : ∀ i h, tn i h->∀ b ∈ fp, ∃ o, h.get? b = some o /\ ∀ v, o.data ≠ .cell v
  keep : ∀ i h h', tn i h->(∀ b ∈ fp, ∀ o, h.get? b = some o->h'.get? b = some o)->tn i h'
  item : ∀ (X : Cx), X.prog = P->X.w = w->X.K = K->X.calm = true->∀ (i : Nat) (pins : List (Addr × Obj)) (s : Shared) (σ : St) (H : Hp) (E : Value->Shared->Prop), Inv X pins σ H s->(∀ b ∈ fp, FpOk X pins H b)->tn i s.heap->J.go i H →
    wpAny (model P w) X.A (pyNext (.ref it)) (fun r s1 => ∃ u, r = some u ∧
      wpAny (model P w) X.A (letOwnedTupleGo tg (.ref it) u) (fun _ s2 => ∃ x H', Inv X pins σ H' s2 /\ RelV x u /\ J.yld i H x H' /\ tn (i + 1) s2.heap /\ ∀ b ∈ fp, H' b = none) E s1) E s
  done : ∀ (X : Cx), X.prog = P->X.w = w->X.K = K->X.calm = true->∀ (i : Nat) (pins : List (Addr × Obj)) (s : Shared) (σ : St) (H : Hp) (E : Value->Shared->Prop), Inv X pins σ H s->(∀ b ∈ fp, FpOk X pins H b)->tn i s.heap->J.stop i H →
    wpAny (model P w) X.A (pyNext (.ref it)) (fun r s1 => r = none /\ Inv X pins σ H s1) E s
  self : ∀ (A : Around) (i : Nat) (s : Shared) (Q : Value->Shared->Prop) (E : Value->Shared->Prop), tn i s.heap->Q (.ref it) s->wpAny (model P w) A (pyIter (.ref it)) Q E s
abbrev TI := St->Hp->(It->Hp->Prop)->Prop
def PIE (X : Cx) (pins : List (Addr × Obj)) (σ : St) (tg : Expr) (R : It->Hp->Prop) (itv : Value) (s2 : Shared) : Prop :=
  ∃ (it : Addr) (fp : List Addr) (tn : Nat->Heap->Prop) (J : It) (H' : Hp), itv = .ref it /\ Inv X pins σ H' s2 /\ Turn X.prog X.w X.K tg J fp it tn /\ tn 0 s2.heap /\ (∀ b ∈ fp, FpOk X pins H' b) /\ R J H'
def PI (X : Cx) (tg iter : Expr) (wi : TI) : Prop :=
  ∀ (pins : List (Addr × Obj)) (s : Shared) (σ : St) (H : Hp) (R : It->Hp->Prop), Inv X pins σ H s->wi σ H R →
    wpAny (model X.prog X.w) X.A (eval iter X.env) (fun v s1 => wpAny (model X.prog X.w) X.A (pyIter v) (PIE X pins σ tg R) X.xe s1) X.xe s
theorem go_of {M : Model} {A : Around} {E : Value->Shared->Prop} {s : Shared} {tg : Expr} {it : Addr} {u : Value} {o : Obj} {n : String} {vs : Array Value} {Q : Unit->Shared->Prop} (ho : s.heap.get? it = some o) (hc : o.cls = .type n) (hd : o.data = .fields vs)
    (hn : ["enumerate", "zip", "dict_itemiterator", "dict_reverseitemiterator", "odict_iterator", "itertools.zip_longest", "itertools.pairwise"].contains n = false) (hQ : Q () s) : wpAny M A (letOwnedTupleGo tg (.ref it) u) Q E s := by
  unfold letOwnedTupleGo
  cases tg <;> first
    | exact wpAny_pure hQ
    | (cases u <;> first
        | exact wpAny_pure hQ
        | (refine wpAny_bind (wpAny_load ho ?_)
           rw [hc, hd]
           show wpAny M A (if (["enumerate", "zip", "dict_itemiterator", "dict_reverseitemiterator", "odict_iterator", "itertools.zip_longest", "itertools.pairwise"].contains n && vs[0]? == some (rawInt _)) = true then _ else _) Q E s
           rw [if_neg (by intro h; rw [hn, Bool.false_and] at h; cases h)]
           exact wpAny_pure hQ))
def Itl (K : PySem.W.Frag) (a : Addr) : It :=
  ⟨fun i H => ∃ xs x, SqL K H a xs /\ xs[i]? = some x, fun i H x H' => H' = H /\ ∀ xs, SqL K H a xs->xs[i]? = some x, fun i H => ∃ xs, SqL K H a xs /\ xs.length ≤ i⟩
def Itt (K : PySem.W.Frag) (a : Addr) : It :=
  ⟨fun i H => ∃ xs x, SqT K H a xs /\ xs[i]? = some x, fun i H x H' => H' = H /\ ∀ xs, SqT K H a xs->xs[i]? = some x, fun i H => ∃ xs, SqT K H a xs /\ xs.length ≤ i⟩
def Itr (lo : Int) (n : Nat) : It := ⟨fun i _ => i < n, fun i H x H' => H' = H /\ x = .int (lo + i), fun i _ => n ≤ i⟩
theorem turn_list {P : Program} {w : World} {K : PySem.W.Frag} {tg : Expr} (a it : Addr) : Turn P w K tg (Itl K a) [it] it (fun i h => h.IsListIter it a i) where
  mem := by simp
  obj := fun i h st b hb => by
    have e : b = it := by simpa using hb
    subst e
    obtain ⟨o, e, c, d⟩ := st
    exact ⟨o, e, fun v z => by rw [d] at z; cases z⟩
  keep := fun i h h' st k => st.at fun o e => k it (by simp) o e
  item := by
    intro X hP hw hK hc i pins s σ H E I hf st hg
    subst hP hw hK
    obtain ⟨xs, x, hq, hx⟩ := hg
    obtain ⟨its, rv, p, hz⟩ := I.list hq
    obtain ⟨u, hu, ru⟩ := rv.get hx
    obtain ⟨f0, f1, f2, f3, f4, f5⟩ := hf it (by simp)
    refine wpAny_pyNext_list_item st p.isList (x := u) (by simpa using hu) fun h' st' sb => ?_
    have I1 : Inv X pins σ H { s with heap := h' } := I.turned (t' := s.toks) (fun b o hb e => (sb.2 b hb).trans e) f0 f1 f3 f4 f5
    obtain ⟨o, e, c, d⟩ := id st'
    exact ⟨u, rfl, go_of (s := { s with heap := h' }) e c d (by decide) ⟨x, H, I1, ru, ⟨rfl, fun ys hy => by rw [I.list_inj hy hq]; exact hx⟩, st', fun b hb => (hf b hb).1⟩⟩
  done := by
    intro X hP hw hK hc i pins s σ H E I hf st hg
    subst hP hw hK
    obtain ⟨xs, hq, hx⟩ := hg
    obtain ⟨its, rv, p, hz⟩ := I.list hq
    obtain ⟨f0, f1, f2, f3, f4, f5⟩ := hf it (by simp)
    have hl := rv.length
    exact wpAny_pyNext_list_end (I.ok.hd hc) st p.isList (by simp; omega) fun h' eb => ⟨rfl, I.turned (t' := s.toks) (fun b o hb e => eb b o hb e) f0 f1 f3 f4 f5⟩
  self := fun _ _ _ _ _ st h => wpAny_pyIter_listiter st h
theorem turn_tuple {P : Program} {w : World} {K : PySem.W.Frag} {tg : Expr} (a it : Addr) : Turn P w K tg (Itt K a) [it] it (fun i h => h.IsTupleIter it a i) where
  mem := by simp
  obj := fun i h st b hb => by
    have e : b = it := by simpa using hb
    subst e
    obtain ⟨o, e, c, d⟩ := st
    exact ⟨o, e, fun v z => by rw [d] at z; cases z⟩
  keep := fun i h h' st k => st.at fun o e => k it (by simp) o e
  item := by
    intro X hP hw hK hc i pins s σ H E I hf st hg
    subst hP hw hK
    obtain ⟨xs, x, hq, hx⟩ := hg
    obtain ⟨its, rv, p, hz⟩ := I.tuple hq
    obtain ⟨u, hu, ru⟩ := rv.get hx
    obtain ⟨f0, f1, f2, f3, f4, f5⟩ := hf it (by simp)
    refine wpAny_pyNext_tuple_item st (show s.heap.IsTuple a its.toArray from p) (x := u) (by simpa using hu) fun h' st' sb => ?_
    have I1 : Inv X pins σ H { s with heap := h' } := I.turned (t' := s.toks) (fun b o hb e => (sb.2 b hb).trans e) f0 f1 f3 f4 f5
    obtain ⟨o, e, c, d⟩ := id st'
    exact ⟨u, rfl, go_of (s := { s with heap := h' }) e c d (by decide) ⟨x, H, I1, ru, ⟨rfl, fun ys hy => by rw [I.tuple_inj hy hq]; exact hx⟩, st', fun b hb => (hf b hb).1⟩⟩
  done := by
    intro X hP hw hK hc i pins s σ H E I hf st hg
    subst hP hw hK
    obtain ⟨xs, hq, hx⟩ := hg
    obtain ⟨its, rv, p, hz⟩ := I.tuple hq
    obtain ⟨f0, f1, f2, f3, f4, f5⟩ := hf it (by simp)
    have hl := rv.length
    exact wpAny_pyNext_tuple_end (I.ok.hd hc) st (show s.heap.IsTuple a its.toArray from p) (by simp; omega) fun h' eb => ⟨rfl, I.turned (t' := s.toks) (fun b o hb e => eb b o hb e) f0 f1 f3 f4 f5⟩
  self := fun _ _ _ _ _ st h => wpAny_pyIter_tupleiter st h
theorem turn_range {P : Program} {w : World} {K : PySem.W.Frag} {tg : Expr} (it : Addr) (lo : Int) (n : Nat) : Turn P w K tg (Itr lo n) [it] it (fun i h => IsRangeIter h it (lo + (i : Nat) * 1) ((n : Int) - (i : Nat)) 1) where
  mem := by simp
  obj := fun i h st b hb => by
    have e : b = it := by simpa using hb
    subst e
    exact ⟨_, st, fun v z => by
      have z' : Data.fields _ = Data.cell v := z
      cases z'⟩
  keep := fun i h h' st k => k it (by simp) _ st
  item := by
    intro X hP hw hK hc i pins s σ H E I hf st hg
    subst hP hw hK
    obtain ⟨f0, f1, f2, f3, f4, f5⟩ := hf it (by simp)
    have W := Walks.range (prog := X.prog) (w := X.w) (I.ok.hd hc) it lo 1 n
    refine W.item i s _ _ hg st fun v h' tk hv st' kk => ?_
    obtain ⟨t, rfl⟩ := hv
    have I1 : Inv X pins σ H { s with heap := h', toks := tk } := I.turned (fun b o hb e => kk b o (by simpa using hb) e) f0 f1 f3 f4 f5
    refine ⟨_, rfl, go_of (s := { s with heap := h', toks := tk }) (n := "range_iterator") st' rfl rfl (by decide) ⟨.int (lo + i), H, I1, ⟨t, ?_⟩, ⟨rfl, rfl⟩, st', fun b hb => (hf b hb).1⟩⟩
    rw [Int.mul_one]
  done := by
    intro X hP hw hK hc i pins s σ H E I hf st hg
    subst hP hw hK
    obtain ⟨f0, f1, f2, f3, f4, f5⟩ := hf it (by simp)
    exact wpAny_pyNext_range_end (I.ok.hd hc) st (by have : n ≤ i := hg; omega) fun h' eb => ⟨rfl, I.turned (t' := s.toks) (fun b o hb e => eb b o hb e) f0 f1 f3 f4 f5⟩
  self := fun _ _ _ _ _ st h => wpAny_pyIter_rangeiter st h
open PySem PySem.Spec PyProof.Rows
section
variable {X : Cx} {tg : Expr}
def iList (K : PySem.W.Frag) (tl : TE) : TI := fun σ H R => tl σ H fun x H1 => ∃ a, x = .ref a /\ (∃ xs, SqL K H1 a xs) /\ R (Itl K a) H1
def iTup (K : PySem.W.Frag) (tl : TE) : TI := fun σ H R => tl σ H fun x H1 => ∃ a, x = .ref a /\ (∃ xs, SqT K H1 a xs) /\ R (Itt K a) H1
theorem pi_list {l : Expr} {tl : TE} (hl : PE X l tl) : PI X tg l (iList X.K tl) := by
  intro pins s σ H R I h
  refine thn (hl pins s σ H _ I h) fun v s1 ⟨x, H1, I1, r1, q1⟩ => ?_
  obtain ⟨a, e, ⟨xs, hq⟩, q⟩ := q1
  subst e
  cases r1
  obtain ⟨its, rv, p, hz⟩ := I1.list hq
  refine wpAny_pyIter_list p.isList ?_
  refine ⟨s1.heap.objs.size, [s1.heap.objs.size], _, _, H1, rfl, I1.kept (t' := s1.toks) fun b o e => Heap.get?_push_of_some _ e, turn_list a _, ⟨_, Heap.get?_push_size _ rfl, rfl, rfl⟩, fun b hb => ?_, q⟩
  have e : b = s1.heap.objs.size := by simpa using hb
  subst e
  exact I1.fpOk (Nat.le_refl _) (I1.hok.fresh (Nat.le_refl _))
theorem pi_tup {l : Expr} {tl : TE} (hl : PE X l tl) : PI X tg l (iTup X.K tl) := by
  intro pins s σ H R I h
  refine thn (hl pins s σ H _ I h) fun v s1 ⟨x, H1, I1, r1, q1⟩ => ?_
  obtain ⟨a, e, ⟨xs, hq⟩, q⟩ := q1
  subst e
  cases r1
  obtain ⟨its, rv, p, hz⟩ := I1.tuple hq
  refine wpAny_pyIter_tuple (show s1.heap.IsTuple a its.toArray from p) ?_
  refine ⟨s1.heap.objs.size, [s1.heap.objs.size], _, _, H1, rfl, I1.kept (t' := s1.toks) fun b o e => Heap.get?_push_of_some _ e, turn_tuple a _, ⟨_, Heap.get?_push_size _ rfl, rfl, rfl⟩, fun b hb => ?_, q⟩
  have e : b = s1.heap.objs.size := by simpa using hb
  subst e
  exact I1.fpOk (Nat.le_refl _) (I1.hok.fresh (Nat.le_refl _))
theorem range_it {pins : List (Addr × Obj)} {σ : St} {H : Hp} {s : Shared} {R : It->Hp->Prop} {E : Value->Shared->Prop} {lo hi : Int} {t u v : Tok} {tk : Nat} (I : Inv X pins σ H s) (h1 : -(2 ^ 62) ≤ lo) (h2 : lo < 2 ^ 62) (h3 : -(2 ^ 62) ≤ hi) (h4 : hi < 2 ^ 62)
    (q : R (Itr lo (hi - lo).toNat) H) : wpAny (model X.prog X.w) X.A (pyIter (.ref s.heap.objs.size)) (PIE X pins σ tg R) E { s with heap := s.heap.push { cls := .type "range", data := .fields #[.int lo t, .int hi u, .int 1 v] }, toks := tk } := by
  refine wpAny_pyIter_range (IsRange.new ..) (small_one h1 h2 h3 h4) ?_
  have I1 : Inv X pins σ H { s with heap := s.heap.push { cls := .type "range", data := .fields #[.int lo t, .int hi u, .int 1 v] }, toks := tk } := I.kept fun b o e => Heap.get?_push_of_some _ e
  refine ⟨(s.heap.push { cls := .type "range", data := .fields #[.int lo t, .int hi u, .int 1 v] }).objs.size, [(s.heap.push { cls := .type "range", data := .fields #[.int lo t, .int hi u, .int 1 v] }).objs.size], _, _, H, rfl,
    I1.kept (t' := tk) fun b o e => Heap.get?_push_of_some _ e, turn_range _ lo (hi - lo).toNat, ?_, fun b hb => ?_, q⟩
  · have e1 : lo + ((0 : Nat) : Int) * 1 = lo := by simp
    have e2 : (((hi - lo).toNat : Nat) : Int) - ((0 : Nat) : Int) = Builtin.Range.rangeSize lo hi 1 := by rw [rangeSize_one]; split <;> omega
    show IsRangeIter _ _ (lo + ((0 : Nat) : Int) * 1) ((((hi - lo).toNat : Nat) : Int) - ((0 : Nat) : Int)) 1
    rw [e1, e2]
    exact Heap.get?_push_size _ rfl
  · have e : b = (s.heap.push { cls := .type "range", data := .fields #[.int lo t, .int hi u, .int 1 v] }).objs.size := by simpa using hb
    subst e
    exact I1.fpOk (Nat.le_refl _) (I1.hok.fresh (Nat.le_refl _))
def iRng1 (ta : TA) : TI := fun σ H R => ta σ H fun vs H1 => ∃ j : Int, vs = [.int j] /\ -(2 ^ 62) ≤ j /\ j < 2 ^ 62 /\ R (Itr 0 j.toNat) H1
def iRng2 (ta : TA) : TI := fun σ H R => ta σ H fun vs H1 => ∃ i j : Int, vs = [.int i, .int j] /\ (-(2 ^ 62) ≤ i /\ i < 2 ^ 62 /\ -(2 ^ 62) ≤ j /\ j < 2 ^ 62) /\ R (Itr i (j - i).toNat) H1
theorem pi_range1 {a : Expr} {ta : TA} {p pos : Pos} (hg : Gl X "range") (hm : X.mg "range" = none) (ha : PA X [a] ta) (hs : starEach [a] X.env = [(false, eval a X.env)] := by rfl) : PI X tg (.Call (.Name "range" p) [a] [] pos) (iRng1 ta) := by
  intro pins s σ H R I h
  refine Call_ (ld_blt I hg hm boot_range (PyProof.Rows.callWith_type1 (thn (ha pos pins s σ H _ I h) fun us s1 ⟨vs, H1, I1, r1, q1⟩ => ?_) hs rfl))
  obtain ⟨j, e, q1, q2, q⟩ := q1
  subst e
  cases r1 with
  | cons r rr =>
    cases rr
    obtain ⟨t, rfl⟩ := r
    exact call_range_1 (range_it I1 (by omega) (by omega) q1 q2 (by simpa using q))
theorem pi_range2 {a b : Expr} {ta : TA} {p pos : Pos} (hg : Gl X "range") (hm : X.mg "range" = none) (ha : PA X [a, b] ta) (hs : starEach [a, b] X.env = [(false, eval a X.env), (false, eval b X.env)] := by rfl) (hs2 : starEach [b] X.env = [(false, eval b X.env)] := by rfl) :
    PI X tg (.Call (.Name "range" p) [a, b] [] pos) (iRng2 ta) := by
  intro pins s σ H R I h
  refine Call_ (ld_blt I hg hm boot_range (PyProof.Rows.callWith_type1 (thn (ha pos pins s σ H _ I h) fun us s1 ⟨vs, H1, I1, r1, q1⟩ => ?_) (by rw [hs, hs2]) (by rw [hs2]; rfl)))
  obtain ⟨i, j, e, ⟨q1, q2, q3, q4⟩, q⟩ := q1
  subst e
  cases r1 with
  | cons r rr =>
    cases rr with
    | cons r' rr =>
      cases rr
      obtain ⟨t, rfl⟩ := r
      obtain ⟨t', rfl⟩ := r'
      exact call_range_2 (range_it I1 q1 q2 q3 q4 q)
def tFor (wi : TI) (g : TG) (tb : TS) : TS := fun D σ H => wi σ H fun J H1 => ∃ W : Nat->Nat->St->Hp->Prop, (∃ m, W 0 m σ H1) /\ ∀ i m σ H, W i m σ H →
  (J.stop i H /\ D.nx σ H) ∨ (J.go i H /\ ∃ N : St->Hp->Prop, (∀ σ' H', N σ' H'->∃ m', m' < m /\ W (i + 1) m' σ' H') /\ ∀ x H', J.yld i H x H'->g x σ H' fun σ2 H2 => tb { D with nx := N, ct := N, bk := D.nx } σ2 H2)
def pinsAt (fp : List Addr) (h : Heap) : List (Addr × Obj) := fp.filterMap fun b => (h.get? b).map fun o => (b, o)
theorem mem_pinsAt {fp : List Addr} {h : Heap} {b : Addr} {o : Obj} (hb : b ∈ fp) (e : h.get? b = some o) : (b, o) ∈ pinsAt fp h := List.mem_filterMap.mpr ⟨b, hb, by rw [e]; rfl⟩
theorem of_pinsAt {fp : List Addr} {h : Heap} {p : Addr × Obj} (hp : p ∈ pinsAt fp h) : p.1 ∈ fp /\ h.get? p.1 = some p.2 := by
  obtain ⟨b, hb, e⟩ := List.mem_filterMap.mp hp
  cases q : h.get? b with
  | none => rw [q] at e; cases e
  | some o =>
    rw [q] at e
    have e' : (b, o) = p := Option.some.inj e
    subst e'
    exact ⟨hb, q⟩
theorem Inv.pinned {pins : List (Addr × Obj)} {σ : St} {H : Hp} {s : Shared} {fp : List Addr} (I : Inv X pins σ H s) (hf : ∀ b ∈ fp, FpOk X pins H b) (ho : ∀ b ∈ fp, ∃ o, s.heap.get? b = some o /\ ∀ v, o.data ≠ .cell v) : Inv X (pins ++ pinsAt fp s.heap) σ H s :=
  I.pins_of fun p hp => (List.mem_append.mp hp).elim (fun z => I.pin p (List.mem_append_right _ z)) fun z => by
    obtain ⟨hb, e⟩ := of_pinsAt z
    obtain ⟨f0, f1, f2, _⟩ := hf p.1 hb
    obtain ⟨o, e', d⟩ := ho p.1 hb
    rw [e] at e'; cases e'
    exact ⟨e, f0, f1, f2, d⟩
theorem Inv.unpinned {pins pl : List (Addr × Obj)} {σ : St} {H : Hp} {s : Shared} (I : Inv X (pins ++ pl) σ H s) : Inv X pins σ H s := I.pins_of fun p hp => I.pin p (List.mem_append_right _ (List.mem_append_left _ hp))
theorem ps_for {iter : Expr} {body : List Stmt} {wi : TI} {g : TG} {tb : TS} {pos : Pos} (hp : PassesOwn (model X.prog X.w) X.A X.env X.xe) (hc : X.calm = true) (hi : PI X tg iter wi) (hg : PG X tg g) (hb : PSs X body tb)
    (hs : ∀ x, foldedSetIterable iter X.env x = pure x := by intro _; rfl) : PS X (.For tg iter body [] pos) (tFor wi g tb) := by
  intro pins s σ H D I h
  refine wpAny_For (thn (hi pins s σ H _ I h) fun v s1 h1 => thn h1 fun itv s2 h2 => ?_) hs
  obtain ⟨it, fp, tn, J, H2, e, I2, T, st2, f2, W, ⟨m0, w0⟩, turn⟩ := h2
  subst e
  have stat : ∀ {H' : Hp}, (∀ b ∈ fp, H' b = none)->∀ b ∈ fp, FpOk X pins H' b := fun hn b hb => ⟨hn b hb, (f2 b hb).2⟩
  refine codeAny_forLoop_any (fun n s' => ∃ i σ' H', Inv X pins σ' H' s' /\ tn i s'.heap /\ (∀ b ∈ fp, H' b = none) /\ W i n σ' H') ?_ m0 ⟨0, σ, H2, I2, st2, fun b hb => (f2 b hb).1, w0⟩
  rintro n s3 ⟨i, σ3, H3, I3, st3, fr3, w3⟩
  rcases turn i n σ3 H3 w3 with ⟨stop, qn⟩ | ⟨go, N, hN, step⟩
  · refine wpAny_passesOwn hp (thn (T.done X rfl rfl rfl hc i pins s3 σ3 H3 X.xe I3 (stat fr3) st3 stop) fun r s4 ⟨hr, I4⟩ => ?_)
    subst hr
    exact wpAny_execs_nil ⟨σ3, H3, I4, qn⟩
  · refine wpAny_passesOwn hp (thn (T.item X rfl rfl rfl hc i pins s3 σ3 H3 X.xe I3 (stat fr3) st3 go) fun r s4 ⟨u, hr, h4⟩ => ?_)
    subst hr
    refine wpAny_passesOwn hp (thn h4 fun _ s5 ⟨x, H5, I5, r5, y5, st5, fr5⟩ => ?_)
    have I5' := I5.pinned (stat fr5) (T.obj _ _ st5)
    refine wpAny_passesOwn hp (thn (hg _ s5 σ3 H5 x u _ I5' r5 (step x H5 y5)) fun _ s6 ⟨σ6, H6, I6, q6⟩ => ?_)
    refine wpAny_passesOwn hp (thn (hb _ s6 σ6 H6 _ I6 q6) fun f s7 q7 => ?_)
    have again : ∀ {σ7 : St} {H7 : Hp}, Inv X (pins ++ pinsAt fp s5.heap) σ7 H7 s7->N σ7 H7->∃ m, m < n /\ ∃ i σ' H', Inv X pins σ' H' s7 /\ tn i s7.heap /\ (∀ b ∈ fp, H' b = none) /\ W i m σ' H' := fun {σ7 H7} I7 n7 => by
      obtain ⟨m', hm, w7⟩ := hN σ7 H7 n7
      refine ⟨m', hm, i + 1, σ7, H7, I7.unpinned, T.keep _ _ _ st5 fun b hb o e => (I7.pin (b, o) (List.mem_append_right _ (List.mem_append_right _ (mem_pinsAt hb e)))).1, fun b hb => ?_, w7⟩
      obtain ⟨o, e, d⟩ := T.obj _ _ st5 b hb
      exact (I7.pin (b, o) (List.mem_append_right _ (List.mem_append_right _ (mem_pinsAt hb e)))).2.1
    cases f with
    | next => obtain ⟨σ7, H7, I7, n7⟩ := q7; exact again I7 n7
    | cont => obtain ⟨σ7, H7, I7, n7⟩ := q7; exact again I7 n7
    | brk => obtain ⟨σ7, H7, I7, q7⟩ := q7; exact ⟨σ7, H7, I7.unpinned, q7⟩
    | ret v => obtain ⟨x7, σ7, H7, I7, r7, q7⟩ := q7; exact ⟨x7, σ7, H7, I7.unpinned, r7, q7⟩
end
theorem for_list {K : PySem.W.Frag} {a : Addr} {xs : List V} {g : TG} {tb : TS} {D : Ends} {σ : St} {H : Hp} (Pv : Nat->St->Hp->Prop) (h0 : Pv 0 σ H) (hl : ∀ i σ H, i ≤ xs.length->Pv i σ H->SqL K H a xs)
    (hs : ∀ i x σ H, xs[i]? = some x->Pv i σ H->g x σ H fun σ2 H2 => tb { D with nx := Pv (i + 1), ct := Pv (i + 1), bk := D.nx } σ2 H2) (hd : ∀ σ H, Pv xs.length σ H->D.nx σ H) :
    ∃ W : Nat->Nat->St->Hp->Prop, (∃ m, W 0 m σ H) /\ ∀ i m σ H, W i m σ H →
      ((Itl K a).stop i H /\ D.nx σ H) ∨ ((Itl K a).go i H /\ ∃ N : St->Hp->Prop, (∀ σ' H', N σ' H'->∃ m', m' < m /\ W (i + 1) m' σ' H') /\ ∀ x H', (Itl K a).yld i H x H'->g x σ H' fun σ2 H2 => tb { D with nx := N, ct := N, bk := D.nx } σ2 H2) := by
  refine ⟨fun i m σ H => m = xs.length - i /\ i ≤ xs.length /\ Pv i σ H, ⟨xs.length, by simp, Nat.zero_le _, h0⟩, ?_⟩
  rintro i m σ H ⟨rfl, hi, p⟩
  have q := hl i σ H hi p
  by_cases hlt : i < xs.length
  · refine .inr ⟨⟨xs, xs[i], q, by simp [hlt]⟩, Pv (i + 1), fun σ' H' p' => ⟨xs.length - (i + 1), by omega, rfl, hlt, p'⟩, fun x H' y => ?_⟩
    obtain ⟨e, y⟩ := y
    subst e
    exact hs i x σ _ (y xs q) p
  · have e : i = xs.length := by omega
    subst e
    exact .inl ⟨⟨xs, q, Nat.le_refl _⟩, hd σ H p⟩
theorem for_range {lo : Int} {n : Nat} {g : TG} {tb : TS} {D : Ends} {σ : St} {H : Hp} (Pv : Nat->St->Hp->Prop) (h0 : Pv 0 σ H)
    (hs : ∀ i σ H, i < n->Pv i σ H->g (.int (lo + i)) σ H fun σ2 H2 => tb { D with nx := Pv (i + 1), ct := Pv (i + 1), bk := D.nx } σ2 H2) (hd : ∀ σ H, Pv n σ H->D.nx σ H) :
    ∃ W : Nat->Nat->St->Hp->Prop, (∃ m, W 0 m σ H) /\ ∀ i m σ H, W i m σ H →
      ((Itr lo n).stop i H /\ D.nx σ H) ∨ ((Itr lo n).go i H /\ ∃ N : St->Hp->Prop, (∀ σ' H', N σ' H'->∃ m', m' < m /\ W (i + 1) m' σ' H') /\ ∀ x H', (Itr lo n).yld i H x H'->g x σ H' fun σ2 H2 => tb { D with nx := N, ct := N, bk := D.nx } σ2 H2) := by
  refine ⟨fun i m σ H => m = n - i /\ i ≤ n /\ Pv i σ H, ⟨n, by simp, Nat.zero_le _, h0⟩, ?_⟩
  rintro i m σ H ⟨rfl, hi, p⟩
  by_cases hlt : i < n
  · refine .inr ⟨hlt, Pv (i + 1), fun σ' H' p' => ⟨n - (i + 1), by omega, rfl, hlt, p'⟩, fun x H' y => ?_⟩
    obtain ⟨e, y⟩ := y
    subst e y
    exact hs i σ _ hlt p
  · have e : i = n := by omega
    subst e
    exact .inl ⟨Nat.le_refl _, hd σ H p⟩
open PySem PySem.Spec PyProof.Rows
abbrev R2 := V->V->Hp->VK->Prop
def OpR (X : Cx) (f : Value->Value->Sem Value) (r : R2) : Prop :=
  ∀ (pins : List (Addr × Obj)) (s : Shared) (σ : St) (H : Hp) (x y : V) (v u : Value) (Q : VK), Inv X pins σ H s->RelV x v->RelV y u->r x y H Q →
    wpAny (model X.prog X.w) X.A (f v u) (EP X pins σ Q) X.xe s
def CallR (X : Cx) (f : Value) (r : List V->Hp->VK->Prop) : Prop :=
  ∀ (pins : List (Addr × Obj)) (s : Shared) (σ : St) (H : Hp) (xs : List V) (us : List Value) (Q : VK), Inv X pins σ H s->Vals xs us->r xs H Q →
    wpAny (model X.prog X.w) X.A (call f us) (EP X pins σ Q) X.xe s
def tOp (r : R2) (ta tb : TE) : TE := fun σ H Q => ta σ H fun x H1 => tb σ H1 fun y H2 => r x y H2 Q
def rI (C : Int->Int->Prop) (g : Int->Int->V) : R2 := fun x y H Q => ∃ i j, x = .int i /\ y = .int j /\ C i j /\ Q (g i j) H
def rI0 (g : Int->Int->V) : R2 := fun x y H Q => ∃ i j, x = .int i /\ y = .int j /\ Q (g i j) H
section
variable {X : Cx} {a b c : Expr} {ta tb tc : TE} {pos : Pos}
theorem binT (ha : PE X a ta) (hb : PE X b tb) {pins : List (Addr × Obj)} {s : Shared} {σ : St} {H : Hp} {R : V->V->Hp->Prop} (I : Inv X pins σ H s)
    (h : ta σ H fun x H1 => tb σ H1 fun y H2 => R x y H2) {Q : Value->Shared->Prop} {f : Value->Value->Sem Value}
    (hf : ∀ v u s2 x y H2, Inv X pins σ H2 s2->RelV x v->RelV y u->R x y H2->wpAny (model X.prog X.w) X.A (f v u) Q X.xe s2) :
    wpAny (model X.prog X.w) X.A (eval a X.env) (fun v s₁ => wpAny (model X.prog X.w) X.A (eval b X.env) (fun u s₂ => wpAny (model X.prog X.w) X.A (f v u) Q X.xe s₂) X.xe s₁) X.xe s := by
  refine thn (ha pins s σ H _ I h) fun v s1 ⟨x, H1, I1, r1, q1⟩ => ?_
  refine thn (hb pins s1 σ H1 _ I1 q1) fun u s2 ⟨y, H2, I2, r2, q2⟩ => ?_
  exact hf v u s2 x y H2 I2 r1 r2 q2
theorem pe_op {op : Operator} {r : R2} (ho : OpR X (binaryOp op) r) (ha : PE X a ta) (hb : PE X b tb) : PE X (.BinOp a op b pos) (tOp r ta tb) := by
  intro pins s σ H Q I h
  exact wpAny_BinOp (binT ha hb I h fun v u s2 x y H2 I2 rx ry q => ho pins s2 σ H2 x y v u Q I2 rx ry q)
theorem opI {f : Value->Value->Sem Value} {C : Int->Int->Prop} {g : Int->Int->Int}
    (rule : ∀ (i j : Int) (t u : Tok) (s : Shared) (Q : Value->Shared->Prop) (E : Value->Shared->Prop), C i j->Q (.int (g i j) s.toks) { s with toks := s.toks + 1 }->wpAny (model X.prog X.w) X.A (f (.int i t) (.int j u)) Q E s) :
    OpR X f (rI C fun i j => .int (g i j)) := by
  intro pins s σ H x y v u Q I rx ry h
  obtain ⟨i, j, rfl, rfl, hc, q⟩ := h
  obtain ⟨t, rfl⟩ := rx
  obtain ⟨t', rfl⟩ := ry
  exact rule i j t t' s _ _ hc ⟨.int (g i j), H, I.tok _, ⟨_, rfl⟩, q⟩
theorem opI0 {f : Value->Value->Sem Value} {g : Int->Int->Int}
    (rule : ∀ (i j : Int) (t u : Tok) (s : Shared) (Q : Value->Shared->Prop) (E : Value->Shared->Prop), Q (.int (g i j) s.toks) { s with toks := s.toks + 1 }->wpAny (model X.prog X.w) X.A (f (.int i t) (.int j u)) Q E s) :
    OpR X f (rI0 fun i j => .int (g i j)) := by
  intro pins s σ H x y v u Q I rx ry h
  obtain ⟨i, j, rfl, rfl, q⟩ := h
  obtain ⟨t, rfl⟩ := rx
  obtain ⟨t', rfl⟩ := ry
  exact rule i j t t' s _ _ ⟨.int (g i j), H, I.tok _, ⟨_, rfl⟩, q⟩
theorem opB0 {f : Value->Value->Sem Value} {g : Int->Int->Bool}
    (rule : ∀ (i j : Int) (t u : Tok) (s : Shared) (Q : Value->Shared->Prop) (E : Value->Shared->Prop), Q (.bool (g i j)) s->wpAny (model X.prog X.w) X.A (f (.int i t) (.int j u)) Q E s) :
    OpR X f (rI0 fun i j => .bl (g i j)) := by
  intro pins s σ H x y v u Q I rx ry h
  obtain ⟨i, j, rfl, rfl, q⟩ := h
  obtain ⟨t, rfl⟩ := rx
  obtain ⟨t', rfl⟩ := ry
  exact rule i j t t' s _ _ ⟨.bl (g i j), H, I, rfl, q⟩
def CPow (i j : Int) : Prop := 0 ≤ j /\ j ≤ 1000000 /\ i.natAbs < 2 ^ 64
def CMul (i j : Int) : Prop := (-(2 ^ 64) < i /\ i < 2 ^ 64) ∨ (-(2 ^ 64) < j /\ j < 2 ^ 64)
theorem CMul.ok {i j : Int} (h : CMul i j) : IntMulOk i j := by
  rcases h with ⟨h1, h2⟩ | ⟨h1, h2⟩
  · exact .of_left (intBits_le_64 h1 h2)
  · exact .of_right (intBits_le_64 h1 h2)
theorem op_add : OpR X (binaryOp .Add) (rI0 fun i j => .int (i + j)) := opI0 fun _ _ _ _ _ _ _ q => add_int q
theorem op_sub : OpR X (binaryOp .Sub) (rI0 fun i j => .int (i - j)) := opI0 fun _ _ _ _ _ _ _ q => sub_int q
theorem op_mul : OpR X (binaryOp .Mult) (rI CMul fun i j => .int (i * j)) := opI fun _ _ _ _ _ _ _ hc q => mul_int q hc.ok
theorem op_mod : OpR X (binaryOp .Mod) (rI (fun _ j => 0 < j) fun i j => .int (i % j)) := opI fun i j _ _ _ _ _ hc q => by
  have h1 : (0 : Int) < j := hc
  exact mod_int' (by omega) (by rw [Int.fmod_eq_emod_of_nonneg i (by omega)]; exact q)
theorem op_pow : OpR X (binaryOp .Pow) (rI CPow fun i j => .int (i ^ j.toNat)) := opI fun _ _ _ _ _ _ _ hc q => pow_int_small hc.1 hc.2.1 hc.2.2 q
end
def scal : V->V->Bool
  | .non, .non => true | .non, .int _ => true | .int _, .non => true | .non, .bl _ => true | .bl _, .non => true | .non, .str _ => true | .str _, .non => true
  | .int _, .int _ => true | .bl _, .bl _ => true | .str _, .str _ => true | .byt _, .byt _ => true
  | .int _, .str _ => true | .str _, .int _ => true | .bl _, .str _ => true | .str _, .bl _ => true
  | _, _ => false
def rEq : R2 := fun x y H Q => scal x y = true /\ Q (.bl (decide (x = y))) H
theorem dec_int {i j : Int} : decide (V.int i = V.int j) = (i == j) := by
  rw [Bool.eq_iff_iff]
  simp
theorem dec_bl {i j : Bool} : decide (V.bl i = V.bl j) = (i == j) := by
  rw [Bool.eq_iff_iff]
  simp
theorem dec_str {i j : Str} : decide (V.str i = V.str j) = (i == j) := by
  rw [Bool.eq_iff_iff]
  simp
theorem dec_byt {i j : Array UInt8} : decide (V.byt i = V.byt j) = (i.toList == j.toList) := by
  rw [Bool.eq_iff_iff]
  cases i
  cases j
  simp
section
variable {X : Cx} {a b c : Expr} {ta tb tc : TE} {pos : Pos}
theorem fin_bl {pins : List (Addr × Obj)} {σ : St} {H : Hp} {s : Shared} {Q : VK} {k k' : Bool} (I : Inv X pins σ H s) (q : Q (.bl k) H) (e : k = k') : EP X pins σ Q (.bool k') s := by
  subst e
  exact ⟨.bl k, H, I, rfl, q⟩
theorem op_eq : OpR X (compareOp .Eq) rEq := by
  intro pins s σ H x y v u Q I rx ry h
  obtain ⟨hs, q⟩ := h
  cases x with
  | non =>
    cases rx
    cases y with
    | non => cases ry; exact PySem.EqNone.eq_none_none (fin_bl I q (by simp))
    | bl j => cases ry; exact PySem.EqNone.eq_none_bool (fin_bl I q (by simp))
    | int j => obtain ⟨t', rfl⟩ := ry; exact PySem.EqNone.eq_none_int (fin_bl I q (by simp))
    | str j => obtain ⟨t', rfl⟩ := ry; exact PySem.EqNone.eq_none_str (fin_bl I q (by simp))
    | _ => exact absurd (show false = true from hs) Bool.false_ne_true
  | bl i =>
    cases rx
    cases y with
    | non => cases ry; exact PySem.EqNone.eq_bool_none (fin_bl I q (by simp))
    | bl j => cases ry; exact eq_bool (fin_bl I q dec_bl)
    | str j => obtain ⟨t', rfl⟩ := ry; exact PySem.EqMixed.eq_bool_str (fin_bl I q (by simp))
    | _ => exact absurd (show false = true from hs) Bool.false_ne_true
  | int i =>
    obtain ⟨t, rfl⟩ := rx
    cases y with
    | non => cases ry; exact PySem.EqNone.eq_int_none (fin_bl I q (by simp))
    | int j => obtain ⟨t', rfl⟩ := ry; exact eq_int (fin_bl I q dec_int)
    | str j => obtain ⟨t', rfl⟩ := ry; exact PySem.EqMixed.eq_int_str (fin_bl I q (by simp))
    | _ => exact absurd (show false = true from hs) Bool.false_ne_true
  | str i =>
    obtain ⟨t, rfl⟩ := rx
    cases y with
    | non => cases ry; exact PySem.EqNone.eq_str_none (fin_bl I q (by simp))
    | bl j => cases ry; exact PySem.EqMixed.eq_str_bool (fin_bl I q (by simp))
    | int j => obtain ⟨t', rfl⟩ := ry; exact PySem.EqMixed.eq_str_int (fin_bl I q (by simp))
    | str j => obtain ⟨t', rfl⟩ := ry; exact eq_str (fin_bl I q dec_str)
    | _ => exact absurd (show false = true from hs) Bool.false_ne_true
  | byt i =>
    obtain ⟨t, rfl⟩ := rx
    cases y with
    | byt j => obtain ⟨t', rfl⟩ := ry; exact PySem.W.eq_bytes (fin_bl I q dec_byt)
    | _ => exact absurd (show false = true from hs) Bool.false_ne_true
  | _ => cases y <;> exact absurd (show false = true from hs) Bool.false_ne_true
theorem op_lt : OpR X (compareOp .Lt) (rI0 fun i j => .bl (decide (i < j))) := opB0 fun _ _ _ _ _ _ _ q => lt_int q
theorem op_gt : OpR X (compareOp .Gt) (rI0 fun i j => .bl (decide (j < i))) := opB0 fun _ _ _ _ _ _ _ q => gt_int q
theorem nomark (b : Expr) {op : CmpOp} (h : op ≠ .In := by decide) (h2 : op ≠ .NotIn := by decide) : behindInMarks op b = false := by
  have e1 : (op == CmpOp.In) = false := by cases op <;> first | rfl | exact absurd rfl h
  have e2 : (op == CmpOp.NotIn) = false := by cases op <;> first | rfl | exact absurd rfl h2
  cases b <;> simp [behindInMarks, e1, e2]
theorem pe_cmpR {op : CmpOp} {r : R2} (ho : OpR X (compareOp op) r) (ha : PE X a ta) (hb : PE X b tb) (hm : behindInMarks op b = false) : PE X (.Compare a [op] [b] pos) (tOp r ta tb) := by
  intro pins s σ H Q I h
  exact wpAny_Compare1 (binT ha hb I h fun v u s2 x y H2 I2 rx ry q => ho pins s2 σ H2 x y v u Q I2 rx ry q) hm
def tTest (t : TE) : TT := fun σ H Q => t σ H fun x H' => ∃ k, x = .bl k /\ Q k H'
theorem pt_cmpR {op : CmpOp} {r : R2} (ho : OpR X (compareOp op) r) (ha : PE X a ta) (hb : PE X b tb) (hm : behindInMarks op b = false) : PT X (.Compare a [op] [b] pos) (tTest (tOp r ta tb)) := by
  intro pins s σ H Q I h
  refine wpAny_isTrue_Compare1 (thn (ha pins s σ H _ I h) fun v s1 ⟨x, H1, I1, r1, q1⟩ => thn (hb pins s1 σ H1 _ I1 q1) fun u s2 ⟨y, H2, I2, r2, q2⟩ =>
    thn (ho pins s2 σ H2 x y v u _ I2 r1 r2 q2) fun c s3 ⟨z, H3, I3, r3, k, e, q3⟩ => ?_) hm
  subst e
  cases r3
  exact wpAny_truthy_bool ⟨H3, I3, q3⟩
theorem line63 : (sizeLine : Nat) < 2 ^ 63 := by rw [sizeLine_eq]; decide
theorem vals1 {x : V} {us : List Value} (r : Vals [x] us) : ∃ u, us = [u] /\ RelV x u := by
  cases r with
  | cons r1 r2 => cases r2; exact ⟨_, rfl, r1⟩
theorem vals2 {x y : V} {us : List Value} (r : Vals [x, y] us) : ∃ u w', us = [u, w'] /\ RelV x u /\ RelV y w' := by
  cases r with
  | cons r1 r2 =>
    cases r2 with
    | cons r3 r4 => cases r4; exact ⟨_, _, rfl, r1, r3⟩
end
open PySem PySem.Spec PyProof.Rows
structure ObjM (h : Heap) (x dx C : Addr) (mA : Str->Option Value) : Prop where
  obj : h.get? x = some (PySem.W.instObj C dx)
  ns : h.Ns1 dx mA
  ne : dx ≠ x
theorem lookIn_ns {h : Heap} {dx : Addr} {mA : Str->Option Value} (n : h.Ns1 dx mA) : ∃ od, h.get? dx = some od /\ ∀ name, PySem.W.lookIn name od = some (mA name) := by
  obtain ⟨o, es, ep, ho, hd, hk, _, hm⟩ := n
  refine ⟨o, ho, fun name => ?_⟩
  have e := hm name
  unfold nsFind findBy at e
  rw [← Array.find?_toList] at e
  unfold PySem.W.lookIn
  rw [hd]
  dsimp only
  split
  · rename_i y q
    rw [q] at e
    exact congrArg some e
  · rename_i q
    rw [q] at e
    have a : es.toList.any (·.refKey) = false := by
      rw [List.any_eq_false]
      intro y hy
      obtain ⟨z, t, hkey⟩ := hk y (Array.mem_toList_iff.mp hy)
      simp [DictEntry.refKey, hkey]
    have a' : ¬ es.toList.any (·.refKey) = true := by rw [a]; exact Bool.false_ne_true
    rw [if_neg a']
    exact congrArg some e
theorem ObjM.look {h : Heap} {x dx C : Addr} {mA : Str->Option Value} (I : ObjM h x dx C mA) : ∃ od, PySem.W.InstAt h x (PySem.W.instObj C dx) C (some od) /\ ∀ name, PySem.W.lookIn name od = some (mA name) :=
  let ⟨od, ho, hl⟩ := lookIn_ns I.ns
  ⟨od, ⟨I.obj, rfl, rfl, ho⟩, hl⟩
section
variable {prog : Program} {w : World} {A : Around} {E : Value->Shared->Prop} {s : Shared} {K : PySem.W.Frag} {x dx C f : Addr} {mA : Str->Option Value} {name : Str} {v : Value}
theorem get_map {expr : Bool} {Q : Value->Shared->Prop} (X : K.In s.heap) (I : ObjM s.heap x dx C mA) (hg : PySem.W.plainGet K C name = true) (hh : PySem.W.hasDictIn K C = true)
    (ha : PySem.W.findIn K (.ref C) name = some none) (hv : mA name = some v) (hv' : PySem.W.handedIn v = true) (h : Q v { s with toks := s.toks + 1 }) :
    wpAny (model prog w) A (getAttr (.ref x) name expr) Q E s := by
  obtain ⟨od, J, hl⟩ := I.look
  exact PySem.W.get_value X J (PySem.W.plainGet_of hg).1 (PySem.W.findObj_own hh ha rfl (by rw [hl, hv])) hv' h
theorem get_meth {pl : Sem Bool} {Q : Value × List Value->Shared->Prop} (X : K.In s.heap) (I : ObjM s.heap x dx C mA) (hg : PySem.W.plainGet K C name = true)
    (hf : PySem.W.findIn K (.ref C) name = some (some (.ref f))) (ht : PySem.W.isFn K (.ref f) = true) (hv : mA name = none) (h : Q (.ref f, [.ref x]) s) :
    wpAny (model prog w) A (getMethod (.ref x) name pl) Q E s := by
  obtain ⟨od, J, hl⟩ := I.look
  exact PySem.W.method_fn X J (PySem.W.plainGet_of hg).1 (PySem.W.plainGet_of hg).2 hf (beq_iff_eq.mp ht) (by show (PySem.W.lookIn name od).map (·.isSome) = some false; rw [hl, hv]; rfl) h
theorem set_map {ns : List Str} {Q : Unit->Shared->Prop} (X : K.In s.heap) (I : ObjM s.heap x dx C mA)
    (hs : PySem.W.findIn K (.ref C) "__setattr__" = some (some (.builtin "object.__setattr__"))) (hp : PySem.W.plainOver K C = true) (ht : PySem.W.takerIn K C name = some none) (hh : PySem.W.hasDictIn K C = true)
    (hw : PySem.Within mA ns) (hsz : ns.length ≤ sizeLine)
    (h : ∀ h', ObjM h' x dx C (fun y => if y = name then some v else mA y)->Heap.SameBut dx s.heap h'->Q () { s with heap := h', toks := s.toks + 2 }) :
    wpAny (model prog w) A (setAttr (.ref x) name v) Q E s := by
  obtain ⟨od, J, hl⟩ := I.look
  refine PySem.W.set_plain X J hs (PySem.W.osa_open (s := { s with toks := s.toks + 1 }) (r := none) X J hp ht fun b => ?_)
  obtain ⟨cd, hc, hd'⟩ := PySem.W.any_some hh
  have hx : s.heap.get? x = some ⟨.ref C, some dx, .plain, #[]⟩ := I.obj
  refine wpAny_bind (wpAny_pure (wpAny_bind (wpAny_bind (wpAny_loadPart hx (wpAny_bind (PySem.W.Looks.here (s := { s with toks := s.toks + 1 }) (PySem.W.looks_clsIn X hc) ?_))))))
  rw [hd']
  refine wpAny_pure (a := some dx) (wpAny_bind (wpAny_pure (wpAny_bind ?_)))
  refine wpAny_nsSet1 (s := { s with toks := s.toks + 1 }) I.ns fun h' hn2 hs2 => ?_
  obtain ⟨oD, esD, epD, hoD, hdD, hcD⟩ := hn2.count (PySem.Within.cons name v hw)
  refine wpAny_bind (wpAny_lookBehind hoD (by rw [hdD]; exact pastItsLine_dict (Nat.le_trans hcD (by rw [List.length_cons]; omega))) ?_)
  exact wpAny_pure (h _ ⟨(hs2.2 _ (Ne.symm I.ne)).trans I.obj, hn2, I.ne⟩ hs2)
theorem make_map {R : Result->Shared->Prop} {vs : List Value} {kw : List (Str × Value)} (X : K.In s.heap) (hm : PySem.W.makesIn K C = true)
    (hi : PySem.W.findIn K (.ref C) "__init__" = some (some (.ref f))) (hf : PySem.W.typeIn K (.ref f) = some (.type "function"))
    (h : codeAny (model prog w) (A.under (.builtin "type.__call__" ⟨.ref C :: vs, kw⟩)) (.call (.ref f) ⟨.ref (s.heap.objs.size + 1) :: vs, kw⟩) (PySem.W.InitBack (s.heap.objs.size + 1) R)
      { s with heap := (s.heap.push PySem.W.emptyDict).push (PySem.W.instObj C s.heap.objs.size) }) :
    codeAny (model prog w) A (.call (.ref C) ⟨vs, kw⟩) R s := by
  obtain ⟨hh, g, d, t, os⟩ := s
  exact PySem.W.make_core (PySem.W.makes_of X hm) (PySem.W.looks_findIn X hi) (fun self => PySem.W.bind_fn X self hf) (.inl rfl) h
end
def putF (f : Str) (v : V) : List (Str × V)->List (Str × V)
  | [] => [(f, v)]
  | (g, x) :: r => if g = f then (g, v) :: r else (g, x) :: putF f v r
theorem lookup_putF (f g : Str) (v : V) : ∀ fs : List (Str × V), (putF f v fs).lookup g = if g = f then some v else fs.lookup g
  | [] => by
    show List.lookup g [(f, v)] = _
    by_cases h : g = f
    · have hb : (g == f) = true := beq_iff_eq.mpr h
      simp only [List.lookup, hb, if_pos h]
    · have hb : (g == f) = false := beq_eq_false_iff_ne.mpr h
      simp only [List.lookup, hb, if_neg h]
  | (k, x) :: r => by
    have ih := lookup_putF f g v r
    rw [show putF f v ((k, x) :: r) = (if k = f then (k, v) :: r else (k, x) :: putF f v r) from rfl]
    by_cases hk : k = f
    · rw [if_pos hk]
      by_cases h : g = k
      · have hb : (g == k) = true := beq_iff_eq.mpr h
        simp only [List.lookup, hb, if_pos (h.trans hk)]
      · have hb : (g == k) = false := beq_eq_false_iff_ne.mpr h
        simp only [List.lookup, hb, if_neg (fun e : g = f => h (e.trans hk.symm))]
    · rw [if_neg hk]
      by_cases h : g = k
      · have hb : (g == k) = true := beq_iff_eq.mpr h
        simp only [List.lookup, hb, if_neg (fun e : g = f => hk (h.symm.trans e))]
      · have hb : (g == k) = false := beq_eq_false_iff_ne.mpr h
        simp only [List.lookup, hb]
        exact ih
theorem keys_putF (f : Str) (v : V) : ∀ fs : List (Str × V), f ∈ (putF f v fs).map (·.1) /\ ∀ g, g ∈ fs.map (·.1)->g ∈ (putF f v fs).map (·.1)
  | [] => ⟨by simp [putF], fun g h => by simp at h⟩
  | (k, x) :: r => by
    obtain ⟨i1, i2⟩ := keys_putF f v r
    rw [show putF f v ((k, x) :: r) = (if k = f then (k, v) :: r else (k, x) :: putF f v r) from rfl]
    by_cases hk : k = f
    · rw [if_pos hk]
      subst hk
      exact ⟨by simp, fun g h => by simpa using h⟩
    · rw [if_neg hk]
      refine ⟨?_, fun g h => ?_⟩
      · rw [List.map_cons]
        exact List.mem_cons_of_mem _ i1
      · rw [List.map_cons] at h ⊢
        rcases List.mem_cons.mp h with e | e
        · exact List.mem_cons.mpr (.inl e)
        · exact List.mem_cons_of_mem _ (i2 g e)
theorem length_putF (f : Str) (v : V) : ∀ fs : List (Str × V), (putF f v fs).length ≤ fs.length + 1
  | [] => by simp [putF]
  | (k, x) :: r => by
    have ih := length_putF f v r
    rw [show putF f v ((k, x) :: r) = (if k = f then (k, v) :: r else (k, x) :: putF f v r) from rfl]
    by_cases hk : k = f
    · rw [if_pos hk, List.length_cons, List.length_cons]; omega
    · rw [if_neg hk, List.length_cons, List.length_cons]; omega
theorem RelO.some_of {v : V} {o : Option Value} (r : RelO (some v) o) : ∃ u, o = some u /\ RelV v u := by
  cases o with
  | none => exact (show False from r).elim
  | some u => exact ⟨u, rfl, r⟩
theorem RelO.none_of {o : Option Value} (r : RelO none o) : o = none := by
  cases o with
  | none => rfl
  | some u => exact (show False from r).elim
theorem handed_of {v : V} {u : Value} (r : RelV v u) : PySem.W.handedIn u = true := by
  cases v with
  | non => cases (show u = Value.none from r); rfl
  | bl b => cases (show u = Value.bool b from r); rfl
  | int i => obtain ⟨t, e⟩ := (show ∃ t, u = Value.int i t from r); cases e; rfl
  | str x => obtain ⟨t, e⟩ := (show ∃ t, u = Value.str x t from r); cases e; rfl
  | byt b => obtain ⟨t, e⟩ := (show ∃ t, u = Value.bytes b t from r); cases e; rfl
  | flt b => obtain ⟨t, e⟩ := (show ∃ t, u = Value.float b t from r); cases e; rfl
  | ref a => cases (show u = Value.ref a from r); rfl
  | ty n => cases (show u = Value.type n from r); rfl
section
variable {P : Program} {w : World} {H H' : Hp} {h h' : Heap} {a C dx : Addr} {fs fs' : List (Str × V)}
theorem ins_get (hok : HOk P w H h) (e : H a = some (.ins C dx fs)) : ∃ mA, ObjM h a dx C mA /\ (∀ f, RelO (fs.lookup f) (mA f)) /\ PySem.Within mA (fs.map (·.1)) /\ fs.length ≤ 1000 /\ H dx = some (.own a) := by
  obtain ⟨d, z, ne, ob, mA, n, r, q⟩ := (show ObjOk P w H h a (.ins C dx fs) from hok a _ e)
  exact ⟨mA, ⟨ob, n, ne⟩, r, q, z, d⟩
end
structure Cls (K : PySem.W.Frag) (C : Addr) : Prop where
  pg : PySem.W.plainGet K C Str.empty = true
  hd : PySem.W.hasDictIn K C = true
  po : PySem.W.plainOver K C = true
  sa : PySem.W.findIn K (.ref C) "__setattr__" = some (some (.builtin "object.__setattr__"))
theorem Cls.get {K : PySem.W.Frag} {C : Addr} (c : Cls K C) (f : Str) : PySem.W.plainGet K C f = true := c.pg
def NoAttr (K : PySem.W.Frag) (C : Addr) (f : Str) : Prop := PySem.W.findIn K (.ref C) f = some none
theorem NoAttr.taker {K : PySem.W.Frag} {C : Addr} {f : Str} (n : NoAttr K C f) : PySem.W.takerIn K C f = some none := by
  unfold PySem.W.takerIn
  rw [show PySem.W.findIn K (.ref C) f = some none from n]
  rfl
structure Meth (K : PySem.W.Frag) (C : Addr) (m : Str) (f : Addr) : Prop where
  at_ : PySem.W.findIn K (.ref C) m = some (some (.ref f))
  fn : PySem.W.isFn K (.ref f) = true
  kp : PySem.W.keepIn K (.ref f) = true
section
variable {X : Cx} {pins : List (Addr × Obj)} {σ : St} {H : Hp} {s : Shared} {a C dx : Addr} {fs : List (Str × V)} {f : Str} {v : V} {A : Around} {E : Value->Shared->Prop}
theorem getattr_ok {b : Bool} {Q : Value->Shared->Prop} (I : Inv X pins σ H s) (e : H a = some (.ins C dx fs)) (c : Cls X.K C) (n : NoAttr X.K C f) (l : fs.lookup f = some v)
    (h : ∀ u s', Inv X pins σ H s'->RelV v u->Q u s') : wpAny (model X.prog X.w) A (getAttr (.ref a) f b) Q E s := by
  obtain ⟨mA, O, r, _, _, _⟩ := ins_get I.hok e
  obtain ⟨u, hu, ru⟩ := RelO.some_of (v := v) (o := mA f) (by rw [← l]; exact r f)
  exact get_map I.kIn O (c.get f) c.hd n hu (handed_of ru) (h u _ (I.tok _) ru)
theorem getmeth_ok {m : Str} {g : Addr} {pl : Sem Bool} {Q : Value × List Value->Shared->Prop} (I : Inv X pins σ H s) (e : H a = some (.ins C dx fs)) (c : Cls X.K C) (k : Meth X.K C m g) (l : fs.lookup m = none)
    (h : Q (.ref g, [.ref a]) s) : wpAny (model X.prog X.w) A (getMethod (.ref a) m pl) Q E s := by
  obtain ⟨mA, O, r, _, _, _⟩ := ins_get I.hok e
  have hn : mA m = none := RelO.none_of (by rw [← l]; exact r m)
  exact get_meth I.kIn O (c.get m) k.at_ k.fn hn h
theorem setattr_ok {y : V} {u : Value} {Q : Unit->Shared->Prop} (I : Inv X pins σ H s) (e : H a = some (.ins C dx fs)) (c : Cls X.K C) (n : NoAttr X.K C f) (hl : fs.length < 1000) (ry : RelV y u)
    (h : ∀ s', Inv X pins σ (upd H a (.ins C dx (putF f y fs))) s'->Q () s') : wpAny (model X.prog X.w) A (setAttr (.ref a) f u) Q E s := by
  obtain ⟨mA, O, r, wi, _, ho⟩ := ins_get I.hok e
  have hz : (fs.map (·.1)).length ≤ sizeLine := by rw [List.length_map, sizeLine_eq]; omega
  refine set_map I.kIn O c.sa c.po n.taker c.hd wi hz fun h' O' sb => h _ ?_
  have hd : ∃ o, h'.get? dx = some o := let ⟨o, _, _, e', _⟩ := O'.ns; ⟨o, e'⟩
  refine I.write (x := a) (e := dx) (by rw [e]; exact True.intro) (.inr ho) (fun b q hb z => (sb.2 b hb).trans z) hd ?_
  refine ⟨by rw [upd_ne O.ne]; exact ho, ?_, O.ne, O'.obj, _, O'.ns, fun g => ?_, fun g hg => ?_⟩
  · have := length_putF f y fs; omega
  · show RelO ((putF f y fs).lookup g) (if g = f then some u else mA g)
    rw [lookup_putF]
    by_cases q : g = f
    · rw [if_pos q, if_pos q]; exact ry
    · rw [if_neg q, if_neg q]; exact r g
  · by_cases q : g = f
    · rw [q]; exact (keys_putF f y fs).1
    · refine (keys_putF f y fs).2 g (wi g fun z => hg ?_)
      show (if g = f then some u else mA g) = none
      rw [if_neg q]; exact z
theorem Inv.made (I : Inv X pins σ H s) : Inv X pins σ (upd (upd H s.heap.objs.size (.own (s.heap.objs.size + 1))) (s.heap.objs.size + 1) (.ins C s.heap.objs.size []))
    { s with heap := (s.heap.push PySem.W.emptyDict).push (PySem.W.instObj C s.heap.objs.size) } := by
  have e1 : (s.heap.push PySem.W.emptyDict).get? s.heap.objs.size = some PySem.W.emptyDict := Heap.get?_push_size s.heap rfl
  have e2 : ((s.heap.push PySem.W.emptyDict).push (PySem.W.instObj C s.heap.objs.size)).get? (s.heap.objs.size + 1) = some (PySem.W.instObj C s.heap.objs.size) := by
    have := Heap.get?_push_size (s.heap.push PySem.W.emptyDict) (o := PySem.W.instObj C s.heap.objs.size) rfl
    rwa [Heap.size_push] at this
  have e3 : (s.heap.push PySem.W.emptyDict).Ns s.heap.objs.size (fun _ => none) := ⟨PySem.W.emptyDict, #[], _, e1, rfl, (fun e he => absurd he (by simp)), fun _ => rfl⟩
  have I1 := I.laid (a := s.heap.objs.size) (o := .own (s.heap.objs.size + 1)) (h' := s.heap.push PySem.W.emptyDict) (t' := s.toks) (fun b u q => Heap.get?_push_of_some _ q) (Nat.le_refl _) ⟨_, e1⟩
  refine I1.laid (a := s.heap.objs.size + 1) (o := .ins C s.heap.objs.size []) (t' := s.toks) (fun b u q => Heap.get?_push_of_some _ q) (Nat.le_of_eq (Heap.size_push _ _)) ?_
  have ne : s.heap.objs.size ≠ s.heap.objs.size + 1 := Nat.ne_of_lt (Nat.lt_succ_self _)
  refine ⟨by rw [upd_ne ne, upd_same], Nat.zero_le _, ne, e2, fun _ => none, (Heap.Ns1.of_empty e3).at fun o q => Heap.get?_push_of_some _ q, fun _ => True.intro, fun y hy => absurd rfl hy⟩
theorem attr_of {prog : Program} {w : World} {env : Env} {e : Expr} {f : Str} {pos : Pos} {s : Shared} {Q : Value->Shared->Prop} (hb : attributeBase e f env (eval e env) = eval e env)
    (h : wpAny (model prog w) A (eval e env) (fun o s₁ => wpAny (model prog w) A (getAttr o f true) Q E s₁) E s) : wpAny (model prog w) A (eval (.Attribute e f pos) env) Q E s :=
  Attribute_any_ h (by rw [arm_eval_Attribute, hb])
end
def tFld (K : PySem.W.Frag) (ta : TE) (f : Str) : TE := fun σ H Q => ta σ H fun x H1 => ∃ a C dx fs v, x = .ref a /\ H1 a = some (.ins C dx fs) /\ Cls K C /\ NoAttr K C f /\ fs.lookup f = some v /\ Q v H1
def sFld (K : PySem.W.Frag) (ta tv : TE) (f : Str) : TS := fun D σ H => tv σ H fun y H1 => ta σ H1 fun x H2 => ∃ a C dx fs, x = .ref a /\ H2 a = some (.ins C dx fs) /\ Cls K C /\ NoAttr K C f /\ fs.length < 1000 ∧
  D.nx σ (upd H2 a (.ins C dx (putF f y fs)))
section
variable {X : Cx} {o e value : Expr} {f : Str} {pos pos' tpos : Pos} {ta tv : TE}
theorem pe_fld (he : PE X e ta) (hb : attributeBase e f X.env (eval e X.env) = eval e X.env) : PE X (.Attribute e f pos) (tFld X.K ta f) := by
  intro pins s σ H Q I h
  refine attr_of hb (thn (he pins s σ H _ I h) fun u s1 ⟨x, H1, I1, rx, a, C, dx, fs, v, ex, ea, c, n, l, q⟩ => ?_)
  subst ex
  obtain rfl : u = Value.ref a := rx
  exact getattr_ok I1 ea c n l fun u' s2 I2 ru => ⟨v, H1, I2, ru, q⟩
theorem ps_fld (ha : PE X o ta) (hv : PE X value tv) (hs : swapsWith value (some (.Attribute o f pos')) pos.line X.env = pure false) : PS X (.Assign [.Attribute o f pos'] value pos) (sFld X.K ta tv f) := by
  intro pins s σ H D I h
  refine plainObj_wpAny_Assign_Attribute (thn (hv pins s σ H _ I h) fun u s1 ⟨y, H1, I1, ry, q⟩ => thn (ha pins s1 σ H1 _ I1 q) fun ov s2 ⟨x, H2, I2, rx, a, C, dx, fs, ex, ea, c, n, l, q2⟩ => ?_) hs
  subst ex
  obtain rfl : ov = Value.ref a := rx
  exact setattr_ok I2 ea c n l ry fun s3 I3 => ⟨σ, _, I3, q2⟩
end
section
variable {X : Cx} {pins : List (Addr × Obj)} {σ : St} {H : Hp} {s : Shared} {A : Around} {E : Value->Shared->Prop} {Q : Value->Shared->Prop} {c : Value} {b : Bool}
inductive TyOf (K : PySem.W.Frag) (H : Hp) : V->Value->Prop where
  | non : TyOf K H .non (.type "NoneType")
  | bl (x : Bool) : TyOf K H (.bl x) (.type "bool")
  | int (i : Int) : TyOf K H (.int i) (.type "int")
  | str (x : Str) : TyOf K H (.str x) (.type "str")
  | flt (x : UInt64) : TyOf K H (.flt x) (.type "float")
  | lst {a : Addr} {xs : List V} (e : H a = some (.lst xs)) : TyOf K H (.ref a) (.type "list")
  | frz {a : Addr} {o : Obj} {xs : List V} (e : H a = some (.frz o (.lst xs))) : TyOf K H (.ref a) (.type "list")
  | tup {a : Addr} {xs : List V} (e : H a = some (.tup xs)) : TyOf K H (.ref a) (.type "tuple")
  | dK {a : Addr} {kvs : List (Key × V)} (e : H a = some (.dK kvs)) : TyOf K H (.ref a) (.type "dict")
  | dT {a : Addr} {kvs : List (List Key × V)} (e : H a = some (.dT kvs)) : TyOf K H (.ref a) (.type "dict")
  | ins {a C dx : Addr} {fs : List (Str × V)} (e : H a = some (.ins C dx fs)) (cl : Cls K C) (ha : PySem.W.findIn K (.ref C) "__class__" = some (some (.builtin "object.__class__")))
      (hn : PySem.W.specialIn K (.builtin "object.__class__") "__get__" = some (some (.builtin "getset_descriptor.__get__"))) (htk : PySem.W.takesIn K (.builtin "object.__class__") = some true)
      (hm : PySem.W.mroIn K C (.type "object") = some true) : TyOf K H (.ref a) (.ref C)
theorem isinst_ok {x : V} {u t : Value} (I : Inv X pins σ H s) (rx : RelV x u) (ty : TyOf X.K H x t) (e : PySem.W.kitOne X.K t c = some b) (h : ∀ tk, Q (.bool b) { s with toks := tk }) :
    wpAny (model X.prog X.w) A (call (.builtin "isinstance") [u, c]) Q E s := by
  cases ty with
  | non => cases (show u = Value.none from rx); exact PySem.W.kia_one PySem.W.kitx_none I.kIn True.intro e (fun z => nomatch z) h
  | bl y => cases (show u = Value.bool y from rx); exact PySem.W.kia_one PySem.W.kitx_bool I.kIn True.intro e (fun z => nomatch z) h
  | int i => obtain ⟨t, q⟩ := (show ∃ t, u = Value.int i t from rx); cases q; exact PySem.W.kia_one PySem.W.kitx_int I.kIn True.intro e (fun z => nomatch z) h
  | str y => obtain ⟨t, q⟩ := (show ∃ t, u = Value.str y t from rx); cases q; exact PySem.W.kia_one PySem.W.kitx_str I.kIn True.intro e (fun z => nomatch z) h
  | flt y => obtain ⟨t, q⟩ := (show ∃ t, u = Value.float y t from rx); cases q; exact PySem.W.kia_one PySem.W.kitx_float I.kIn True.intro e (fun z => nomatch z) h
  | @lst a xs ea =>
    cases (show u = Value.ref a from rx)
    obtain ⟨_, _, n, _, h1⟩ := (show ObjOk X.prog X.w H s.heap a (.lst xs) from I.hok a _ ea)
    exact PySem.W.kia_one PySem.W.kitx_list I.kIn ⟨_, h1, rfl⟩ e (fun z => nomatch z) h
  | @frz a ob xs ea =>
    cases (show u = Value.ref a from rx)
    obtain ⟨_, _, _, n, _, h1⟩ := (show ObjOk X.prog X.w H s.heap a (.frz ob (.lst xs)) from I.hok a _ ea)
    exact PySem.W.kia_one PySem.W.kitx_list I.kIn ⟨_, h1, rfl⟩ e (fun z => nomatch z) h
  | @tup a xs ea =>
    cases (show u = Value.ref a from rx)
    obtain ⟨_, _, _, p⟩ := (show ObjOk X.prog X.w H s.heap a (.tup xs) from I.hok a _ ea)
    obtain ⟨o, h1, h2, _⟩ := p
    exact PySem.W.kia_one PySem.W.kitx_tuple I.kIn ⟨o, h1, h2⟩ e (fun z => nomatch z) h
  | @dK a kvs ea =>
    cases (show u = Value.ref a from rx)
    obtain ⟨_, _, vs, _, p⟩ := (show ObjOk X.prog X.w H s.heap a (.dK kvs) from I.hok a _ ea)
    obtain ⟨o, es, ep, h1, h2, _⟩ := p
    exact PySem.W.kia_one PySem.W.kitx_dict I.kIn ⟨o, h1, h2.1⟩ e (fun z => nomatch z) h
  | @dT a kvs ea =>
    cases (show u = Value.ref a from rx)
    obtain ⟨_, _, xs, _, o, es, ep, h1, h2, _⟩ := (show ObjOk X.prog X.w H s.heap a (.dT kvs) from I.hok a _ ea)
    exact PySem.W.kia_one PySem.W.kitx_dict I.kIn ⟨o, h1, h2.1⟩ e (fun z => nomatch z) h
  | @ins a C dx fs ea cl ha hn htk hm =>
    cases (show u = Value.ref a from rx)
    obtain ⟨mA, O, _⟩ := ins_get I.hok ea
    obtain ⟨od, J, _⟩ := O.look
    exact PySem.W.kia_one (PySem.W.kitx_own (cl.get _) cl.hd ha hn htk hm) I.kIn J e (fun z => nomatch z) h
end
open PySem PySem.Spec PyProof.Rows
structure Room (k : Nat) (A : Around) : Prop where
  hd : A.handled = none
  dp : A.depth + 3 * k + 5 < recursionLimit
  un : A.units + 16 * k + 200 < cLine
theorem Room.mono {j k : Nat} {A : Around} (r : Room k A) (h : j ≤ k) : Room j A := ⟨r.hd, by have := r.dp; omega, by have := r.un; omega⟩
theorem Room.deeper {k : Nat} {A : Around} (r : Room (k + 1) A) (env : Env) : Room k (A.deeper env) :=
  ⟨r.hd, by have := r.dp; show A.depth + 1 + 3 * k + 5 < _; omega, by have := r.un; show A.units + 3 + 16 * k + 200 < _; omega⟩
theorem make_depth {A : Around} {C : Addr} {us : List Value} {kw : List (Str × Value)} : (A.under (.builtin "type.__call__" ⟨.ref C :: us, kw⟩)).depth = A.depth + 1 := by
  first | rfl | simp [Around.under, Code.weight, Code.isCreation, Code.isGuard, Code.isCaller, Code.frames, Code.isFrame, guardIds]
theorem make_units {A : Around} {C : Addr} {us : List Value} {kw : List (Str × Value)} : (A.under (.builtin "type.__call__" ⟨.ref C :: us, kw⟩)).units = A.units + 1 := by
  first | rfl | simp [Around.under, Code.cUnits, Code.frames, Code.isFrame]
theorem Room.make {k : Nat} {A : Around} (r : Room (k + 1) A) (C : Addr) (us : List Value) (kw : List (Str × Value)) : Room k (A.under (.builtin "type.__call__" ⟨.ref C :: us, kw⟩)) :=
  ⟨r.hd, by have := r.dp; rw [make_depth]; omega, by have := r.un; rw [make_units]; omega⟩
theorem Room.depth {k : Nat} {A : Around} (r : Room k A) : A.depth < recursionLimit := by have := r.dp; omega
theorem Room.units {k : Nat} {A : Around} (r : Room k A) : A.units + 64 < cLine := by have := r.un; omega
def tNil : TA := fun _ H Q => Q [] H
def tCons (ta : TE) (tr : TA) : TA := fun σ H Q => ta σ H fun x H1 => tr σ H1 fun xs H2 => Q (x :: xs) H2
section
variable {X : Cx} {e : Expr} {es : List Expr} {te : TE} {t : TA} {pos : Pos}
theorem pa_nil : PA X [] tNil := fun _ _ _ _ H Q I h => Calls.spliced_nil ⟨[], H, I, .nil, h⟩
theorem pa_cons (ha : PE X e te) (hr : PA X es t) (hs : starEach (e :: es) X.env = (false, eval e X.env) :: starEach es X.env := by rfl) : PA X (e :: es) (tCons te t) := by
  intro pos pins s σ H Q I h
  rw [hs]
  show wpAny _ _ (spliced ((false, eval e X.env) :: backTo pos (starEach es X.env))) _ _ s
  refine Calls.spliced_cons (thn (ha pins s σ H _ I h) fun u s1 ⟨x, H1, I1, r1, q1⟩ => ?_)
  exact thn (hr pos pins s1 σ H1 _ I1 q1) fun us s2 ⟨xs, H2, I2, r2, q2⟩ => ⟨x :: xs, H2, I2, .cons r1 r2, q2⟩
def tLst (t : TA) : TE := fun σ H Q => t σ H fun xs H1 => xs.length ≤ sizeLine /\ ∀ p, H1 p = none->Q (.ref p) (upd H1 p (.lst xs))
theorem pe_lst (h : PA X es t) : PE X (.List es pos) (tLst t) := by
  intro pins s σ H Q I hq
  refine wpAny_List_spliced (thn (h pos pins s σ H _ I hq) fun us s1 ⟨xs, H1, I1, r, z, q⟩ => ⟨by rw [← r.length]; exact z, ?_⟩)
  have hf : H1 s1.heap.objs.size = none := I1.hok.fresh (Nat.le_refl _)
  refine ⟨.ref s1.heap.objs.size, upd H1 s1.heap.objs.size (.lst xs), I1.laid (t' := s1.toks) (fun b u e => Heap.get?_push_of_some _ e) (Nat.le_refl _) ?_, rfl, q _ hf⟩
  exact ⟨z, us, 0, r, Heap.get?_push_size _ rfl⟩
end
abbrev Sp := List V->Hp->VK->XK->Prop
abbrev CXT := List Env->Hp->Shared->XK->Value->Shared->Prop
structure Env0 (P : Program) (w : World) (K : PySem.W.Frag) (mg : Str->Option Value) (base : Heap) (A : Around) (outer : List Env) (s : Shared) (H : Hp) : Prop where
  frames : A.frames = some outer
  mod : Mod K mg base
  bs : ∀ b o, base.get? b = some o->s.heap.get? b = some o /\ H b = none
  bsz : base.objs.size ≤ s.heap.objs.size
  funs : s.heap.FunFrames base outer
  frf : ∀ b ∈ frs outer, H b = none
  hok : HOk P w H s.heap
  bare : AllBare s.gens
def CE (outer : List Env) (P : Program) (w : World) (H : Hp) (s : Shared) (Q : VK) (u : Value) (s' : Shared) : Prop :=
  ∃ v H', s'.os = s.os /\ AllBare s'.gens /\ Un (frs outer) [] H H' s.heap s'.heap /\ HOk P w H' s'.heap /\ RelV v u /\ Q v H'
def CR (CX : CXT) (outer : List Env) (P : Program) (w : World) (H : Hp) (s : Shared) (Q : VK) (E : XK) (r : Result) (s' : Shared) : Prop :=
  match r with
  | .ok (.ret u) => CE outer P w H s Q u s'
  | .ok _ => False
  | .error e => CX outer H s E e s'
structure FnOk (P : Program) (w : World) (K : PySem.W.Frag) (mg : Str->Option Value) (base : Heap) (CX : CXT) (k : Nat) (f : Addr) (fd : FuncData) (ps : List Str) (sp : Sp) : Prop where
  len : ∀ vs H Q E, sp vs H Q E->vs.length = ps.length
  run : ∀ (A : Around) (outer : List Env) (s : Shared) (H : Hp) (args : Args) (us : List Value) (vs : List V) (Q : VK) (E : XK), Room k A->Env0 P w K mg base A outer s H->BindsTo s fd args (ps.zip us)->Vals vs us->sp vs H Q E →
    codeAny (model P w) A (.call (.ref f) args) (CR CX outer P w H s Q E) s
theorem Env0.make {P : Program} {w : World} {K : PySem.W.Frag} {mg : Str->Option Value} {base : Heap} {A : Around} {outer : List Env} {s : Shared} {H : Hp} (e : Env0 P w K mg base A outer s H) (C : Addr) (us : List Value) (kw : List (Str × Value)) :
    Env0 P w K mg base (A.under (.builtin "type.__call__" ⟨.ref C :: us, kw⟩)) outer s H := ⟨by first | exact e.frames | (simpa [Around.under, Code.envs, Code.isFrame, pushEnvs] using e.frames), e.mod, e.bs, e.bsz, e.funs, e.frf, e.hok, e.bare⟩
section
variable {X : Cx} {pins : List (Addr × Obj)} {σ : St} {H : Hp} {s s' : Shared}
theorem Inv.env0 (I : Inv X pins σ H s) : Env0 X.prog X.w X.K X.mg X.base X.A X.stack s H :=
  ⟨I.ok.frames, I.ok.mod, I.bs, Nat.le_trans I.ok.bsz I.sz, I.stack, I.stkFree, I.hok, I.bare⟩
theorem Inv.after {Q : VK} {u : Value} (I : Inv X pins σ H s) (h : CE X.stack X.prog X.w H s Q u s') : EP X pins σ Q u s' := by
  obtain ⟨v, H', os, bare, un, hok, r, q⟩ := h
  obtain ⟨hh, g, d, t, os'⟩ := s'
  obtain rfl : os' = s.os := os
  exact ⟨v, H', I.call (h' := hh) (g' := g) (d' := d) (t' := t) (ch := []) un hok bare (fun b z => absurd z (by simp)), r, q⟩
end
def Binds (K : PySem.W.Frag) (fd : FuncData) (ps : List Str) (ds : List Value) : Prop :=
  ∀ (s : Shared) (us : List Value), K.In s.heap->(us ++ ds).length = ps.length->BindsTo s fd ⟨us, []⟩ (ps.zip (us ++ ds))
theorem Binds.all {K : PySem.W.Frag} {fd : FuncData} {ps : List Str} (h : ∀ us : List Value, us.length = ps.length->bindArgs fd ⟨us, []⟩ = pure (ps.zip us)) : Binds K fd ps [] := fun s us _ hl => by
  rw [List.append_nil] at hl ⊢
  exact .of_eq (h us hl)
section
variable {X : Cx} {CX : CXT} {k : Nat} {f C : Addr} {fd : FuncData} {ps : List Str} {sp : Sp} {dvs : List V} {ds : List Value} {E : XK} {x m : Str} {p pos apos : Pos} {e o : Expr} {es : List Expr} {ta : TE} {t : TA}
structure Mk (K : PySem.W.Frag) (C f : Addr) : Prop where
  makes : PySem.W.makesIn K C = true
  init : PySem.W.findIn K (.ref C) "__init__" = some (some (.ref f))
  fn : PySem.W.isFn K (.ref f) = true
  kp : PySem.W.keepIn K (.ref C) = true
end
structure FnScope (N P : List Str) (sc : Scope) : Prop where
  kind : sc.kind = .function
  co : sc.isCoroutine = false
  gen : sc.isGenerator = false
  nd : N.Nodup
  pre : N.take P.length = P
  par : ∀ x ∈ P, sc.names.lookup x = some .local ∨ sc.names.lookup x = some .cell
  nofree : ∀ y ∈ sc.names, y.2 ≠ .free
theorem bindL_out {kindOf : Str->Option NameKind} {x : Str} : ∀ {binds : List (Str × Value)} {m : Str->Option Value}, (∀ v, (x, v) ∉ binds)->bindL kindOf binds m x = m x
  | [], _, _ => rfl
  | (n, v) :: r, m, h => by
    unfold bindL
    rw [bindL_out fun w hw => h w (List.mem_cons_of_mem _ hw)]
    split
    · have : x ≠ n := by rintro rfl; exact h v List.mem_cons_self
      simp [this]
    · rfl
theorem bindC_out {kindOf : Str->Option NameKind} {x : Str} : ∀ {binds : List (Str × Value)} {m : Str->Option Value}, (∀ v, (x, v) ∉ binds)->bindC kindOf binds m x = m x
  | [], _, _ => rfl
  | (n, v) :: r, m, h => by
    unfold bindC
    rw [bindC_out fun w hw => h w (List.mem_cons_of_mem _ hw)]
    split
    · rfl
    · have : x ≠ n := by rintro rfl; exact h v List.mem_cons_self
      simp [this]
theorem bindL_get {kindOf : Str->Option NameKind} {x : Str} {v : Value} : ∀ {P : List Str} {vs : List Value} {i : Nat} {m : Str->Option Value}, P.Nodup->P[i]? = some x->vs[i]? = some v->kindOf x = some .local →
    bindL kindOf (P.zip vs) m x = some v
  | [], _, _, _, _, h, _, _ => by simp at h
  | _ :: _, [], _, _, _, _, h, _ => by simp at h
  | p :: P, w :: vs, 0, m, nd, h1, h2, hk => by
    simp at h1 h2; subst h1; subst h2
    show bindL kindOf ((p, w) :: P.zip vs) m p = _
    unfold bindL
    rw [bindL_out fun v hv => (List.nodup_cons.mp nd).1 (List.of_mem_zip hv).1, if_pos hk]
    simp
  | p :: P, w :: vs, i + 1, m, nd, h1, h2, hk => by
    show bindL kindOf ((p, w) :: P.zip vs) m x = _
    unfold bindL
    exact bindL_get (i := i) (List.nodup_cons.mp nd).2 (by simpa using h1) (by simpa using h2) hk
theorem bindC_get {kindOf : Str->Option NameKind} {x : Str} {v : Value} : ∀ {P : List Str} {vs : List Value} {i : Nat} {m : Str->Option Value}, P.Nodup->P[i]? = some x->vs[i]? = some v->kindOf x ≠ some .local →
    bindC kindOf (P.zip vs) m x = some v
  | [], _, _, _, _, h, _, _ => by simp at h
  | _ :: _, [], _, _, _, _, h, _ => by simp at h
  | p :: P, w :: vs, 0, m, nd, h1, h2, hk => by
    simp at h1 h2; subst h1; subst h2
    show bindC kindOf ((p, w) :: P.zip vs) m p = _
    unfold bindC
    rw [bindC_out fun v hv => (List.nodup_cons.mp nd).1 (List.of_mem_zip hv).1, if_neg hk]
    simp
  | p :: P, w :: vs, i + 1, m, nd, h1, h2, hk => by
    show bindC kindOf ((p, w) :: P.zip vs) m x = _
    unfold bindC
    exact bindC_get (i := i) (List.nodup_cons.mp nd).2 (by simpa using h1) (by simpa using h2) hk
def start (N : List Str) (vs : List V) : St := vs.map some ++ List.replicate (N.length - vs.length) none
def cxOf (CX : CXT) (P : Program) (w : World) (K : PySem.W.Frag) (mg : Str->Option Value) (base : Heap) (N : List Str) (qual : Str) (scope : Scope) (f : Addr) (cd : Value) (A : Around) (outer : List Env) (s : Shared) (H : Hp) (E : XK) : Cx where
  prog := P
  w := w
  K := K
  mg := mg
  base := base
  A := A.deeper (envOfC qual scope s.heap.objs.size f cd)
  N := N
  s₀ := s
  H₀ := H
  env := envOfC qual scope s.heap.objs.size f cd
  outer := outer
  stack := envOfC qual scope s.heap.objs.size f cd :: outer
  ex := []
  calm := true
  fn := fun _ => true
  pn := []
  xe := fun e s' => wpAny (model P w) (A.deeper (envOfC qual scope s.heap.objs.size f cd)) (leaving (envOfC qual scope s.heap.objs.size f cd) e) (fun _ s'' => CX outer H s E e s'') (fun e' s'' => CX outer H s E e' s'') s'
theorem cell_has {sc : Scope} {n : Nat} {x : Str} (h : sc.names.lookup x = some .cell) : ∃ c, (cellsFrom n sc.names []).lookup x = some c := by
  have q := PySem.W.cellsFrom_some sc.names n [] (.inl h)
  exact Option.isSome_iff_exists.mp q
theorem inv_start {CX : CXT} {P : Program} {w : World} {K : PySem.W.Frag} {mg : Str->Option Value} {base : Heap} {N ps : List Str} {qual : Str} {scope : Scope} {f : Addr} {cd : Value} {A : Around} {outer : List Env} {s s1 : Shared} {H : Hp} {E : XK} {us : List Value} {vs : List V}
    (S : FnScope N ps scope) (hd : A.handled = none) (e0 : Env0 P w K mg base A outer s H) (hl : vs.length = ps.length) (r : Vals vs us)
    (x : InCallC s s.heap.objs.size (bindL (envOfC qual scope s.heap.objs.size f cd).kindOf (ps.zip us) fun _ => none) (cellsFrom (s.heap.objs.size + 1) scope.names []) (bindC (envOfC qual scope s.heap.objs.size f cd).kindOf (ps.zip us) fun _ => none) s1) :
    Inv (cxOf CX P w K mg base N qual scope f cd A outer s H E) [] (start N vs) H s1 := by
  have hpl : ps.length ≤ N.length := by have := congrArg List.length S.pre; rw [List.length_take] at this; omega
  obtain ⟨h1, tk, rfl, hk⟩ := x.done
  have noA : ∀ b : Addr, b ∉ (cxOf CX P w K mg base N qual scope f cd A outer s H E).ex := fun b z => absurd (show b ∈ ([] : List Addr) from z) (by simp)
  refine ⟨⟨e0.mod, S.kind, rfl, rfl, Nat.le_refl _, fun y z c h1 h2 => ?_, fun y hy => ?_, fun y c _ h => ?_, fun _ => hd, Around.frames_deeper e0.frames, .inr ⟨rfl, rfl⟩, fun b z => absurd z (noA b), e0.bs, e0.bsz, fun b _ _ => noA b, fun b z => absurd z (noA b), e0.funs, e0.frf⟩,
    rfl, e0.bare, Un.kept hk, ⟨_, x.toInCall.ns, fun i y v h1 h2 h3 => ?_⟩, fun y c h => ⟨_, x.cell y c h⟩, e0.hok.fresh (Nat.le_refl _), fun y c h => ?_, fun p hp => absurd (show p ∈ ([] : List (Addr × Obj)) from hp) (by simp), e0.hok.kept hk, ?_⟩
  · exact name_of_addr x.apart (PySem.mem_of_lookup h1) (PySem.mem_of_lookup h2)
  · have hy : scope.names.lookup y = some .cell ∨ scope.names.lookup y = some .free := hy
    rcases hy with hy | hy
    · exact cell_has hy
    · exact absurd rfl (S.nofree _ (PySem.mem_of_lookup hy))
  · exact Nat.le_of_lt (x.above y c (PySem.mem_of_lookup h))
  · have hi : i < vs.length := by
      unfold start at h2
      by_cases hi : i < vs.length
      · exact hi
      · rw [List.getElem?_append_right (by simpa using hi)] at h2
        rw [List.getElem?_replicate] at h2
        split at h2 <;> cases h2
    have ha : vs[i]? = some v := by
      unfold start at h2
      rw [List.getElem?_append_left (by simpa using hi), List.getElem?_map] at h2
      cases e : vs[i]? with
      | none => rw [e] at h2; cases h2
      | some a => rw [e] at h2; cases h2; rfl
    obtain ⟨u, hu, rv⟩ := r.get ha
    have hp : ps[i]? = some y := by
      rw [← S.pre, List.getElem?_take_of_lt (by omega)]; exact h1
    have ndP : ps.Nodup := by rw [← S.pre]; exact S.nd.sublist (List.take_sublist _ _)
    refine ⟨u, rv, ?_⟩
    rcases S.par y (List.mem_of_getElem? hp) with k | k
    · exact .inl ⟨k, bindL_get ndP hp hu k⟩
    · obtain ⟨c, e⟩ := cell_has (n := s.heap.objs.size + 1) k
      refine .inr ⟨.inl k, c, e, ?_⟩
      have q := x.cell y c e
      rw [bindC_get ndP hp hu (by show scope.names.lookup y ≠ _; rw [k]; decide)] at q
      exact q
  · exact e0.hok.fresh (Nat.le_of_lt (x.above y c (PySem.mem_of_lookup h)))
  · unfold start
    show _ = N.length
    rw [List.length_append, List.length_map, List.length_replicate]
    omega
theorem fn_of {CX : CXT} {P : Program} {w : World} {K : PySem.W.Frag} {mg : Str->Option Value} {base : Heap} {k : Nat} {f : Addr} {name qual : Str} {params : Arguments} {body : List Stmt} {scope : Scope} {dV kV doc pm cdv ct oc : Value} {an od : Option Addr}
    {osl : Array (Option Value)} {N ps : List Str} {sp : Sp} (lk : K.lookup f = some ⟨oc, od, .func (PySem.W.fnOf name qual params body scope dV kV doc pm an cdv ct), osl⟩) (hcd : PySem.W.codeIn K cdv qual = true) (S : FnScope N ps scope)
    (len : ∀ vs H Q E, sp vs H Q E->vs.length = ps.length)
    (hbody : ∀ (A : Around) (outer : List Env) (s : Shared) (H : Hp) (vs : List V) (Q : VK) (E : XK), Room k (A.deeper (envOfC qual scope s.heap.objs.size f cdv))->sp vs H Q E →
      ∃ t, PSs (cxOf CX P w K mg base N qual scope f cdv A outer s H E) body t /\ t { nx := fun _ H' => Q .non H', rt := Q } (start N vs) H) :
    FnOk P w K mg base CX (k + 1) f (PySem.W.fnOf name qual params body scope dV kV doc pm an cdv ct) ps sp := by
  refine ⟨len, fun A outer s H args us vs Q E hr e0 hb r hsp => ?_⟩
  have hl := len _ _ _ _ hsp
  have KX : K.In s.heap := e0.mod.kin.keeps fun b o e => (e0.bs b o e).1
  have lim : s.heap.NoLimit := e0.mod.nolimit.keeps fun b o e => (e0.bs b o e).1
  have hkind : ∀ y ∈ ps.zip us, scope.names.lookup y.1 = some .local ∨ (scope.names.lookup y.1 = some .cell /\ ((cellsFrom (s.heap.objs.size + 1) scope.names []).lookup y.1).isSome = true) := fun ⟨n, v⟩ hy => by
    rcases S.par n (List.of_mem_zip hy).1 with q | q
    · exact .inl q
    · exact .inr ⟨q, PySem.W.cellsFrom_some _ _ _ (.inl q)⟩
  refine codeAny_call_function hr.depth (KX _ _ lk) rfl S.co S.gen rfl (PySem.W.codeRec_of KX hcd) (hb _ _ _ _ ?_)
  refine wpAny_newFunctionEnv_cells S.kind hkind fun env he s1 x => ?_
  subst he
  refine ⟨lim.keeps x.toInCall.keep, codeAny_func ?_⟩
  obtain ⟨t, ht, hq⟩ := hbody A outer s H vs Q E (hr.deeper _) hsp
  have I : Inv (cxOf CX P w K mg base N qual scope f cdv A outer s H E) [] (start N vs) H s1 := inv_start S hr.hd e0 hl r x
  refine wpAny_mono (ht [] s1 (start N vs) H _ I hq) (fun fl s' hs => ?_) fun e s' hs => hs
  have fin : ∀ {σ' : St} {H' : Hp} {v : V} {u : Value}, Inv (cxOf CX P w K mg base N qual scope f cdv A outer s H E) [] σ' H' s'->RelV v u->Q v H'->CE outer P w H s Q u s' :=
    fun {σ' H' v u} J rv q => ⟨v, H', J.os, J.bare, J.base, J.hok, rv, q⟩
  cases fl with
  | ret u =>
    obtain ⟨v, σ', H', J, rv, q⟩ := hs
    exact fin J rv q
  | next =>
    obtain ⟨σ', H', J, q⟩ := hs
    exact fin (v := V.non) (u := Value.none) J rfl q
  | brk =>
    obtain ⟨_, _, _, q⟩ := hs
    exact False.elim q
  | cont =>
    obtain ⟨_, _, _, q⟩ := hs
    exact False.elim q
open PySem PySem.Spec PyProof.Rows
section
variable {X : Cx} {x : Str} {p pos : Pos} {e : Expr} {es : List Expr} {t : TA} {id T : String} {r : List V->Hp->VK->Prop}
def tCB (r : List V->Hp->VK->Prop) (t : TA) : TE := fun σ H Q => t σ H fun vs H1 => r vs H1 Q
theorem pe_callB (hc : CallR X (.builtin id) r) (hg : Gl X x) (hm : X.mg x = none) (hv : bootBuiltins x = some (.builtin id)) (ha : PA X (e :: es) t) (hn : x ≠ "__name__" := by decide) (hdb : (x == ("__debug__" : Str)) = false := by decide)
    (he : starEach (e :: es) X.env = (false, eval e X.env) :: starEach es X.env := by rfl) (hpl : (backTo pos (starEach es X.env)).any (·.1) = false := by rfl) : PE X (.Call (.Name x p) (e :: es) [] pos) (tCB r t) := by
  intro pins s σ H Q I h
  refine wpAny_Call_Name_kw (ld_blt I hg hm hv ?_ hn hdb)
  exact PyProof.Rows.callWith_builtin1 (thn (ha pos pins s σ H _ I h) fun us s1 ⟨vs, H1, I1, r1, q1⟩ => hc pins s1 σ H1 vs us Q I1 r1 q1) he hpl
theorem pe_callTy (hc : CallR X (.type T) r) (hg : Gl X x) (hm : X.mg x = none) (hv : bootBuiltins x = some (.type T)) (ha : PA X (e :: es) t) (hn : x ≠ "__name__" := by decide) (hdb : (x == ("__debug__" : Str)) = false := by decide)
    (he : starEach (e :: es) X.env = (false, eval e X.env) :: starEach es X.env := by rfl) (hpl : (backTo pos (starEach es X.env)).any (·.1) = false := by rfl) : PE X (.Call (.Name x p) (e :: es) [] pos) (tCB r t) := by
  intro pins s σ H Q I h
  refine wpAny_Call_Name_kw (ld_blt I hg hm hv ?_ hn hdb)
  exact PyProof.Rows.callWith_type1 (thn (ha pos pins s σ H _ I h) fun us s1 ⟨vs, H1, I1, r1, q1⟩ => hc pins s1 σ H1 vs us Q I1 r1 q1) he hpl
end
end L2
namespace HT
open PySem PyProof.Rows
def lexLt : List Int->List Int->Bool
  | [], [] => false
  | [], _ :: _ => true
  | _ :: _, [] => false
  | x :: xs, y :: ys => if x = y then lexLt xs ys else decide (x < y)
theorem lexLt_cons (x y : Int) (xs ys : List Int) : lexLt (x :: xs) (y :: ys) = if x = y then lexLt xs ys else decide (x < y) := rfl
theorem lexLt_nil_nil : lexLt [] [] = false := rfl
theorem lexLt_nil_cons (y : Int) (ys : List Int) : lexLt [] (y :: ys) = true := rfl
theorem lexLt_cons_nil (x : Int) (xs : List Int) : lexLt (x :: xs) [] = false := rfl
theorem eqAt_int (A : Around) (s : Shared) (a : Int) (t : Tok) (c : Int) (u : Tok) : ∃ e, SeqAt.EqAt A s (.int a t) (.int c u) e /\ (e = true ↔ a = c) :=
  ⟨(a == c), SeqAt.EqAt.int_int a t c u, by simp⟩
theorem rcLt_int (A : Around) (s : Shared) (a : Int) (t : Tok) (c : Int) (u : Tok) (prog : Program) (w : World) (E : Value->Shared->Prop) (Q : Value->Shared->Prop) (h : Q (.bool (decide (a < c))) s) :
    wpAny (model prog w) A (richCompare .Lt (.int a t) (.int c u)) Q E s :=
  (PyProof.Rows.lt_int h : wpAny (model prog w) A (compareOp .Lt (.int a t) (.int c u)) Q E s)
section
open PySem.SeqAt
open PySem.AutoSeq1 (wpAny_loadPart')
open PySem.MeetsSeq PySem.MeetsSeq2 PySem.MeetsSeq3
theorem tuple_lt_ints (l b : Addr) (items items2 : Array Value) (n n2 : Nat) (dd dd2 : Option Addr) (sl sl2 : Array (Option Value)) (ns ms : List Int) (hi : IntsAre items.toList ns) (hj : IntsAre items2.toList ms) :
    Meets (Builtin.«tuple.__lt__» ⟨[.ref l, .ref b], []⟩)
      (fun _ R s => s.heap.get? l = some { cls := .type "tuple", dict := dd, data := .seq items n, slots := sl } /\ s.heap.get? b = some { cls := .type "tuple", dict := dd2, data := .seq items2 n2, slots := sl2 } ∧
        R (.ok (.ret (.bool (lexLt ns ms)))) s) :=
  .of_wp fun prog w A R s h => by
    obtain ⟨hp, g, d, tk, os⟩ := s; obtain ⟨hl, hb, h⟩ := h
    have f2 := AutoSeq1.sub_tuple_tuple
    have z1 : items.size = ns.length := by rw [← hi.length]; simp
    have z2 : items2.size = ms.length := by rw [← hj.length]; simp
    wp_walk using wpAny_loadPart' hl, wpAny_loadPart' hb, wpAny_forIn_list _ (fun rest b s' => b.1 = none /\ s' = ⟨hp, g, d, tk, os⟩ /\ ∃ (vs ws : List Value) (ns' ms' : List Int), rest = vs.zip ws ∧
      IntsAre vs ns' /\ IntsAre ws ms' /\ ns'.length + items2.size = ms'.length + items.size /\ R (.ok (.ret (.bool (lexLt ns' ms')))) ⟨hp, g, d, tk, os⟩) _
    case turn =>
      rintro ⟨y, x⟩ rest b s' ⟨hb', rfl, vs, ws, ns', ms', hz, hvi, hwi, hlen, hR⟩
      cases hvi with
      | nil => rw [List.zip_nil_left] at hz; cases hz
      | cons a t hvi' =>
        cases hwi with
        | nil => rw [List.zip_nil_right] at hz; cases hz
        | cons c u hwi' =>
          rw [List.zip_cons_cons] at hz
          injection hz with hyx hrest
          injection hyx with hy hx
          subst hy hx
          rw [lexLt_cons] at hR
          simp only [List.length_cons] at hlen
          obtain ⟨e, he, hiff⟩ := eqAt_int A.in1 ⟨hp, g, d, tk, os⟩ a t c u
          refine wpAny_bind (he prog w _ _ ?_)
          cases e with
          | true =>
            rw [if_pos (hiff.mp rfl)] at hR
            wp_walk
            exact ⟨rfl, rfl, _, _, _, _, hrest, hvi', hwi', by omega, hR⟩
          | false =>
            rw [if_neg (fun q => absurd (hiff.mpr q) Bool.false_ne_true)] at hR
            have hri := rcLt_int A.in1 ⟨hp, g, d, tk, os⟩ a t c u prog w
            wp_walk using hri
            exact ⟨_, rfl, by simpa using hR⟩
    case fin =>
      rintro ⟨b1, b2⟩ s' ⟨hb', rfl, vs, ws, ns', ms', hz, hvi, hwi, hlen, hR⟩
      simp only at hb'
      subst hb'
      have hv : lexLt ns' ms' = decide (items.size < items2.size) := by
        cases hvi with
        | nil =>
          cases hwi with
          | nil =>
            simp only [List.length_nil] at hlen
            rw [lexLt_nil_nil]
            exact (decide_eq_false (by omega)).symm
          | cons c u hw =>
            simp only [List.length_nil, List.length_cons] at hlen
            rw [lexLt_nil_cons]
            exact (decide_eq_true (by omega)).symm
        | cons a t hv =>
          cases hwi with
          | nil =>
            simp only [List.length_nil, List.length_cons] at hlen
            rw [lexLt_cons_nil]
            exact (decide_eq_false (by omega)).symm
          | cons c u hw =>
            rw [List.zip_cons_cons] at hz
            cases hz
      rw [hv] at hR
      wp_walk
      exact ⟨_, rfl, by simpa [Builtin.Tuple.tupleCompareSizes] using hR⟩
    case h =>
      exact ⟨rfl, rfl, items.toList, items2.toList, ns, ms, rfl, hi, hj, by omega, h⟩
end
section
variable {prog : Program} {w : World} {A : Around} {E : Value->Shared->Prop} {s : Shared}
theorem lt_tupInts {l b : Addr} {items items2 : Array Value} {ns ms : List Int} {Q : Value->Shared->Prop} (hl : IsTup s.heap l items) (hb : IsTup s.heap b items2) (hi : IntsAre items.toList ns) (hj : IntsAre items2.toList ms)
    (hu : A.units < cLine) (h : Q (.bool (lexLt ns ms)) s) : wpAny (model prog w) A (compareOp .Lt (.ref l) (.ref b)) Q E s := by
  obtain ⟨⟨cls, dd, data, sl⟩, ho, hc, n, hd⟩ := id hl
  obtain ⟨⟨cls2, dd2, data2, sl2⟩, ho2, hc2, n2, hd2⟩ := id hb
  simp only at hc hd hc2 hd2
  subst hc hd hc2 hd2
  exact richCompare_meets_room (op := .Lt) ⟨_, ho, rfl⟩ ⟨_, ho2, rfl⟩ PySem.F.slot_tuple_lt PySem.F.entry_tuple_lt (PySem.F.args_tuple_lt_2 _ _) (tuple_lt_ints l b items items2 n n2 dd dd2 sl sl2 ns ms hi hj)
    ⟨ho, ho2, show Value.bool (lexLt ns ms) ≠ Value.notImplemented /\ Q (.bool (lexLt ns ms)) s from ⟨(fun x => nomatch x), h⟩⟩ hu
def sIx (n d : Nat) : Option Int->Nat
  | none => d
  | some v => if v < 0 then (v + (n : Int)).toNat else min v.toNat n
end
end HT
namespace L2
open PySem PySem.Spec PyProof.Rows
abbrev TO := St->Hp->(Option Int->Hp->Prop)->Prop
def PO (X : Cx) (e : Option Expr) (t : TO) : Prop :=
  ∀ (pins : List (Addr × Obj)) (s : Shared) (σ : St) (H : Hp) (Q : Option Int->Hp->Prop), Inv X pins σ H s->t σ H Q →
    wpAny (model X.prog X.w) X.A (evalPart e X.env) (fun u s' => ∃ o H', Inv X pins σ H' s' /\ IsPart u o /\ Q o H') X.xe s
def tPart (t : TE) : TO := fun σ H Q => t σ H fun x H1 => ∃ i, x = .int i /\ Q (some i) H1
theorem intsAre_of {ns : List Int} : ∀ {us : List Value}, Vals (ns.map V.int) us->IntsAre us ns := by
  induction ns with
  | nil => intro us r; rw [List.map_nil] at r; cases r; exact .nil
  | cons n ns ih =>
    intro us r
    rw [List.map_cons] at r
    cases r with
    | cons r1 r2 =>
      obtain ⟨t, e⟩ := r1
      subst e
      exact .cons n t (ih r2)
section
variable {X : Cx} {e : Expr} {te : TE} {lo hi : Option Expr} {tl th : TO} {pos p2 : Pos}
theorem po_some (h : PE X e te) : PO X (some e) (tPart te) := by
  intro pins s σ H Q I hw
  rw [evalPart_some]
  refine thn (h pins s σ H _ I hw) fun u s1 ⟨x, H1, I1, r1, q1⟩ => ?_
  obtain ⟨i, rfl, q⟩ := q1
  obtain ⟨t, rfl⟩ := r1
  exact ⟨some i, H1, I1, .int i t, q⟩
def SlR (X : Cx) (r : V->Option Int->Option Int->Hp->VK->Prop) : Prop :=
  ∀ (pins : List (Addr × Obj)) (s : Shared) (σ : St) (H : Hp) (x : V) (v vl vu : Value) (lo hi : Option Int) (sl : Addr) (Q : VK), Inv X pins σ H s->RelV x v->s.heap.IsSliceOf sl vl vu .none->IsPart vl lo->IsPart vu hi->r x lo hi H Q →
    ∃ T id, typeLookup (.type T) "__getitem__" = pure (some (.builtin id)) /\ s.TypeIs v T /\ wpAny (model X.prog X.w) X.A (getItem v (.ref sl)) (EP X pins σ Q) X.xe s
def tSl (r : V->Option Int->Option Int->Hp->VK->Prop) (te : TE) (tl th : TO) : TE := fun σ H Q => te σ H fun x H1 => tl σ H1 fun l H2 => th σ H2 fun u H3 => r x l u H3 Q
theorem pe_slice {r : V->Option Int->Option Int->Hp->VK->Prop} (hr : SlR X r) (he : PE X e te) (hl : PO X lo tl) (hu : PO X hi th) : PE X (.Subscript e (.Slice lo hi none p2) pos) (tSl r te tl th) := by
  intro pins s σ H Q I h
  refine Subscript_ (thn (he pins s σ H _ I h) fun v s1 ⟨x, H1, I1, r1, q1⟩ => ?_)
  refine wpAny_Slice (thn (hl pins s1 σ H1 _ I1 q1) fun vl s2 ⟨l, H2, I2, pl, q2⟩ => thn (hu pins s2 σ H2 _ I2 q2) fun vu s3 ⟨u, H3, I3, pu, q3⟩ => ?_)
  rw [evalPart_none]
  refine wpAny_pure ?_
  have I4 : Inv X pins σ H3 { s3 with heap := s3.heap.push { cls := .type "slice", data := .fields #[vl, vu, .none] } } := I3.kept (t' := s3.toks) fun b ob q => Heap.get?_push_of_some _ q
  obtain ⟨T, id, hT, ht, hg⟩ := hr pins { s3 with heap := s3.heap.push { cls := .type "slice", data := .fields #[vl, vu, .none] } } σ H3 x v vl vu l u s3.heap.objs.size Q I4 r1 (Heap.IsSliceOf.new ..) pl pu q3
  show wpAny (model X.prog X.w) X.A (subscriptTail e (.Slice lo hi none p2) v (.ref s3.heap.objs.size)) (EP X pins σ Q) X.xe { s3 with heap := s3.heap.push { cls := .type "slice", data := .fields #[vl, vu, .none] } }
  exact tail_any (ops := [.ref s3.heap.objs.size, v]) ht hT hg (by with_unfolding_all rfl)
def cutV (xs : List V) (lo hi : Option Int) : List V := (xs.drop (HT.sIx xs.length 0 lo)).take (HT.sIx xs.length xs.length hi - HT.sIx xs.length 0 lo)
theorem cutV_length (xs : List V) (lo hi : Option Int) : (cutV xs lo hi).length ≤ xs.length := by
  unfold cutV
  rw [List.length_take, List.length_drop]
  omega
def rLtT (K : PySem.W.Frag) : R2 := fun x y H Q => ∃ a b ns ms, x = .ref a /\ y = .ref b /\ SqT K H a (ns.map V.int) /\ SqT K H b (ms.map V.int) /\ Q (.bl (HT.lexLt ns ms)) H
theorem op_ltT (hu : X.A.units < cLine) : OpR X (compareOp .Lt) (rLtT X.K) := by
  intro pins s σ H x y v u Q I rx ry h
  obtain ⟨a, b, ns, ms, rfl, rfl, ha, hb, q⟩ := h
  cases rx
  cases ry
  obtain ⟨its, r1, p1, _⟩ := I.tuple ha
  obtain ⟨its2, r2, p2, _⟩ := I.tuple hb
  have i1 : IntsAre its.toArray.toList ns := intsAre_of r1
  have i2 : IntsAre its2.toArray.toList ms := intsAre_of r2
  exact HT.lt_tupInts p1 p2 i1 i2 hu ⟨.bl (HT.lexLt ns ms), H, I, rfl, q⟩
end
open PySem PySem.Spec PyProof.Rows
def ixN (n : Nat) (i : Int) : Option Nat := if 0 ≤ i then (if i < n then some i.toNat else none) else if -(n : Int) ≤ i then some (i + n).toNat else none
def atI {α : Type} (xs : List α) (i : Int) : Option α := (ixN xs.length i).bind fun j => xs[j]?
theorem ixN_seq {n : Nat} {i : Int} {j : Nat} (h : ixN n i = some j) : seqIndex? i n = some j /\ j < n /\ -(n : Int) ≤ i /\ i < n := by
  unfold ixN at h
  by_cases h0 : 0 ≤ i
  · rw [if_pos h0] at h
    by_cases h1 : i < n
    · rw [if_pos h1] at h
      have e : i.toNat = j := Option.some.inj h
      exact ⟨by rw [seqIndex_of h0 h1, e], by omega, by omega, h1⟩
    · rw [if_neg h1] at h; cases h
  · rw [if_neg h0] at h
    by_cases h1 : -(n : Int) ≤ i
    · rw [if_pos h1] at h
      have e : (i + n).toNat = j := Option.some.inj h
      exact ⟨by rw [seqIndex_neg (by omega) h1, e], by omega, h1, by omega⟩
    · rw [if_neg h1] at h; cases h
theorem atI_get {α : Type} {xs : List α} {i : Int} {v : α} (h : atI xs i = some v) : ∃ j, seqIndex? i xs.length = some j /\ xs[j]? = some v /\ j < xs.length /\ -(xs.length : Int) ≤ i /\ i < xs.length := by
  unfold atI at h
  cases e : ixN xs.length i with
  | none => rw [e] at h; cases h
  | some j =>
    rw [e] at h
    obtain ⟨h1, h2, h3, h4⟩ := ixN_seq e
    exact ⟨j, h1, h, h2, h3, h4⟩
theorem atI_nat {α : Type} {xs : List α} {j : Nat} {v : α} (h : xs[j]? = some v) : atI xs (j : Int) = some v := by
  have hj : j < xs.length := (List.getElem?_eq_some_iff.mp h).1
  have e : ixN xs.length (j : Int) = some j := by
    unfold ixN
    rw [if_pos (by omega), if_pos (by omega)]; simp
  unfold atI; rw [e]; exact h
def PlainIx (b : Expr) : Prop := ∀ o i, subscripted b false o i = operate [o, i] (getItem o i)
def IxR (X : Cx) (r : R2) : Prop :=
  ∀ (value slice : Expr) (pins : List (Addr × Obj)) (s : Shared) (σ : St) (H : Hp) (x y : V) (v u : Value) (Q : VK), Inv X pins σ H s->RelV x v->RelV y u->r x y H Q →
    subscripted slice false v u = operate [v, u] (getItem v u)->wpAny (model X.prog X.w) X.A (subscriptTail value slice v u) (EP X pins σ Q) X.xe s
def MtR (X : Cx) (id : String) (r : V->List V->Hp->VK->Prop) : Prop :=
  ∀ (pins : List (Addr × Obj)) (s : Shared) (σ : St) (H : Hp) (x : V) (xs : List V) (v : Value) (us : List Value) (Q : VK), Inv X pins σ H s->RelV x v->Vals xs us->r x xs H Q →
    wpAny (model X.prog X.w) X.A (call (.builtin id) (v :: us)) (EP X pins σ Q) X.xe s
section
variable {X : Cx} {a b : Expr} {ta tb : TE} {pos : Pos}
theorem pe_ix {r : R2} (hr : IxR X r) (ha : PE X a ta) (hb : PE X b tb) (hs : PlainIx b) : PE X (.Subscript a b pos) (tOp r ta tb) := by
  intro pins s σ H Q I h
  exact Subscript_ (binT ha hb I h fun v u s2 x y H2 I2 rx ry q => hr a b pins s2 σ H2 x y v u Q I2 rx ry q (hs _ _))
def rIxL (K : PySem.W.Frag) : R2 := fun x y H Q => ∃ p xs i v, x = .ref p /\ y = .int i /\ SqL K H p xs /\ atI xs i = some v /\ Q v H
theorem ix_list : IxR X (rIxL X.K) := by
  intro value slice pins s σ H x y v u Q I rx ry h hs
  obtain ⟨p, xs, i, z, rfl, rfl, hq, he, q⟩ := h
  cases rx
  obtain ⟨t, rfl⟩ := ry
  obtain ⟨its, r, pl, hz⟩ := I.list hq
  obtain ⟨j, h1, h2, h3, h4, h5⟩ := atI_get he
  obtain ⟨w, ew, rw'⟩ := r.get h2
  have hl := r.length
  have hn := line63
  have fin : EP X pins σ Q w s := ⟨z, H, I, rw', q⟩
  by_cases h0 : 0 ≤ i
  · have hj : i.toNat = j := by
      rw [seqIndex_of h0 h5] at h1
      exact Option.some.inj h1
    exact item_listR pl.isList h0 (by omega) (by rw [hj]; simpa using ew) fin hs
  · have hj : (i + (its.toArray.size : Int)).toNat = j := by
      rw [seqIndex_neg (by omega) h4] at h1
      rw [List.size_toArray, ← hl]
      exact Option.some.inj h1
    exact subscriptTail_builtinR (x := w) pl.isList.typeIs slot_list_getitem.lookup
      (wpAny_getItem_list_neg (Q := fun r s' => r = w /\ EP X pins σ Q r s') pl.isList (by omega) (by rw [List.size_toArray] <;> omega) (by omega) (by rw [hj]; simpa using ew) ⟨rfl, fin⟩) hs
theorem mapSeq_set (its : List Value) (n j : Nat) (u : Value) : Obj.mapSeq (·.setIfInBounds j u) { cls := .type "list", data := .seq its.toArray n } = { cls := .type "list", data := .seq (its.set j u).toArray n } := by
  simp [Obj.mapSeq]
theorem Inv.lst {pins : List (Addr × Obj)} {σ : St} {H : Hp} {s : Shared} {p : Addr} {xs : List V} (I : Inv X pins σ H s) (h : H p = some (.lst xs)) :
    ∃ (its : List Value) (n : Nat), Vals xs its /\ s.heap.get? p = some { cls := .type "list", data := .seq its.toArray n } /\ xs.length ≤ sizeLine := by
  obtain ⟨z, its, n, r, e⟩ := I.hok p _ h
  exact ⟨its, n, r, e, z⟩
theorem Inv.lstUpd {pins : List (Addr × Obj)} {σ : St} {H : Hp} {s : Shared} {p : Addr} {xs ys : List V} {its its' : List Value} {n n' : Nat} {f : Obj->Obj} (I : Inv X pins σ H s) (h : H p = some (.lst xs))
    (ho : s.heap.get? p = some { cls := .type "list", data := .seq its.toArray n }) (hf : f { cls := .type "list", data := .seq its.toArray n } = { cls := .type "list", data := .seq its'.toArray n' }) (r : Vals ys its') (hz : ys.length ≤ sizeLine) (t : Nat) :
    Inv X pins σ (upd H p (.lst ys)) { s with heap := s.heap.update p f, toks := t } := by
  have e : (s.heap.update p f).get? p = some { cls := .type "list", data := .seq its'.toArray n' } := by
    rw [Heap.get?_update_self f ho (by rw [hf] <;> rfl), hf]
  refine I.write (x := p) (e := p) (by rw [h]; trivial) (.inl rfl) (fun b u hb q => (Heap.get?_update_other _ _ (Ne.symm hb)).trans q) ⟨_, e⟩ ?_
  exact ⟨hz, its', n', r, e⟩
def rSetL : V->V->V->Hp->(Hp->Prop)->Prop := fun o i v H Q => ∃ p xs k j, o = .ref p /\ i = .int k /\ H p = some (.lst xs) /\ ixN xs.length k = some j /\ Q (upd H p (.lst (xs.set j v)))
theorem set_list : PSet X rSetL := by
  intro pins s σ H o i v ov iv u Q I ro ri rv h
  obtain ⟨p, xs, k, j, rfl, rfl, hp, hj, q⟩ := h
  cases ro
  obtain ⟨t, rfl⟩ := ri
  obtain ⟨its, n, r, ho, hz⟩ := I.lst hp
  obtain ⟨h1, h2, h3, h4⟩ := ixN_seq hj
  have hl := r.length
  have hn := line63
  have I' : Inv X pins σ (upd H p (.lst (xs.set j v))) { s with heap := s.heap.update p (Obj.mapSeq (·.setIfInBounds j u)) } :=
    I.lstUpd hp ho (mapSeq_set its n j u) (r.set rv j) (by rw [List.length_set]; exact hz) s.toks
  by_cases h0 : 0 ≤ k
  · have hk : k.toNat = j := by
      rw [seqIndex_of h0 h4] at h1
      exact Option.some.inj h1
    exact PySem.W.ki_setAt ho h0 (by omega) (by rw [List.size_toArray, ← hl]; exact h4) (by rw [hk]; exact ⟨_, I', q⟩)
  · have hk : (k + (its.toArray.size : Int)).toNat = j := by
      rw [seqIndex_neg (by omega) h3] at h1
      rw [List.size_toArray, ← hl]
      exact Option.some.inj h1
    exact PySem.W.ki_setBack ho (by omega) (by rw [List.size_toArray, ← hl]; exact h3) (by omega) (by rw [hk]; exact ⟨_, I', q⟩)
theorem slice_bounds (lo hi : Option Int) (n : Nat) : (sliceBounds lo hi none n).1 = ((HT.sIx n 0 lo : Nat) : Int) /\ (sliceBounds lo hi none n).2.1 = ((HT.sIx n n hi : Nat) : Int) /\ (sliceBounds lo hi none n).2.2 = 1 := by
  refine ⟨?_, ?_, rfl⟩
  · cases lo with
    | none => simp [sliceBounds, HT.sIx]
    | some i =>
      simp only [sliceBounds, HT.sIx, Option.getD_none, show (1 : Int) > 0 by decide, if_true]
      by_cases h : i < 0
      · simp only [h, if_true] <;> omega
      · simp only [h, if_false] <;> omega
  · cases hi with
    | none => simp [sliceBounds, HT.sIx]
    | some i =>
      simp only [sliceBounds, HT.sIx, Option.getD_none, show (1 : Int) > 0 by decide, if_true]
      by_cases h : i < 0
      · simp only [h, if_true] <;> omega
      · simp only [h, if_false] <;> omega
theorem slicePick_cut (its : List Value) (lo hi : Option Int) : slicePick its.toArray lo hi none = ((its.drop (HT.sIx its.length 0 lo)).take (HT.sIx its.length its.length hi - HT.sIx its.length 0 lo)).toArray := by
  obtain ⟨h1, h2, h3⟩ := slice_bounds lo hi its.toArray.size
  unfold slicePick
  rw [h1, h2, h3]
  simp only [sliceRange_one, pick_run, List.size_toArray] <;> rfl
def rSlL (K : PySem.W.Frag) : V->Option Int->Option Int->Hp->VK->Prop := fun x lo hi H Q => ∃ a xs, x = .ref a /\ SqL K H a xs /\ ∀ p, H p = none->Q (.ref p) (upd H p (.lst (cutV xs lo hi)))
theorem sl_list : SlR X (rSlL X.K) := by
  intro pins s σ H x v vl vu lo hi sl Q I rx hs pl pu h
  obtain ⟨a, xs, rfl, hx, q⟩ := h
  cases rx
  obtain ⟨its, r, ht, hz⟩ := I.list hx
  have hlen := r.length
  refine ⟨"list", _, slot_list_getitem.lookup, ht.isList.typeIs, ?_⟩
  refine wpAny_getItem_list_slice ht.isList hs pl pu .none (by simp) ?_ (by rw [List.size_toArray] <;> omega)
  rw [slicePick_cut, ← hlen]
  refine ⟨.ref s.heap.objs.size, _, I.laid (t' := s.toks) (o := .lst (cutV xs lo hi)) (fun b ob q => Heap.get?_push_of_some _ q) (Nat.le_refl _) ?_, rfl, q _ (I.hok.fresh (Nat.le_refl _))⟩
  exact ⟨Nat.le_trans (cutV_length xs lo hi) hz, _, 0, (r.drop (HT.sIx xs.length 0 lo)).take (HT.sIx xs.length xs.length hi - HT.sIx xs.length 0 lo), Heap.get?_push_size _ rfl⟩
def flatV : V->Bool
  | .non => true
  | .bl _ => true
  | .int _ => true
  | .str _ => true
  | _ => false
def eqV : V->V->Bool
  | .non, .non => true
  | .bl a, .bl b => a == b
  | .bl a, .int b => (if a then 1 else 0) == b
  | .int a, .bl b => a == (if b then 1 else 0)
  | .int a, .int b => a == b
  | .str a, .str b => a == b
  | _, _ => false
theorem eqAt_V {A : Around} {s : Shared} {y x : V} {u v : Value} (ry : RelV y u) (rx : RelV x v) (fy : flatV y = true) (fx : flatV x = true) : SeqAt.EqAt A s u v (eqV y x) := by
  cases y with
  | non =>
    cases ry
    cases x with
    | non => cases rx; exact SeqAt.EqAt.same _
    | bl b => cases rx; exact SeqAt.EqAt.none_bool b
    | int b => obtain ⟨t, rfl⟩ := rx; exact SeqAt.EqAt.none_int b t
    | str b => obtain ⟨t, rfl⟩ := rx; exact SeqAt.EqAt.none_str b t
    | _ => exact absurd (show false = true from fx) Bool.false_ne_true
  | bl a =>
    cases ry
    cases x with
    | non => cases rx; exact SeqAt.EqAt.bool_none a
    | bl b => cases rx; exact SeqAt.EqAt.bool_bool a b
    | int b => obtain ⟨t, rfl⟩ := rx; exact SeqAt.EqAt.bool_int a b t
    | str b => obtain ⟨t, rfl⟩ := rx; exact SeqAt.EqAt.bool_str a b t
    | _ => exact absurd (show false = true from fx) Bool.false_ne_true
  | int a =>
    obtain ⟨t', rfl⟩ := ry
    cases x with
    | non => cases rx; exact SeqAt.EqAt.int_none a t'
    | bl b => cases rx; exact SeqAt.EqAt.int_bool a t' b
    | int b => obtain ⟨t, rfl⟩ := rx; exact SeqAt.EqAt.int_int a t' b t
    | str b => obtain ⟨t, rfl⟩ := rx; exact SeqAt.EqAt.int_str a t' b t
    | _ => exact absurd (show false = true from fx) Bool.false_ne_true
  | str a =>
    obtain ⟨t', rfl⟩ := ry
    cases x with
    | non => cases rx; exact SeqAt.EqAt.str_none a t'
    | bl b => cases rx; exact SeqAt.EqAt.str_bool a t' b
    | int b => obtain ⟨t, rfl⟩ := rx; exact SeqAt.EqAt.str_int a t' b t
    | str b => obtain ⟨t, rfl⟩ := rx; exact SeqAt.EqAt.str_str a t' b t
    | _ => exact absurd (show false = true from fx) Bool.false_ne_true
  | _ => exact absurd (show false = true from fy) Bool.false_ne_true
theorem call_len_seq : CallR X (.builtin "len") (fun xs H Q => ∃ p ys, xs = [.ref p] /\ (SqL X.K H p ys ∨ SqT X.K H p ys) /\ Q (.int ys.length) H) := by
  intro pins s σ H xs us Q I r h
  obtain ⟨p, ys, rfl, hq, q⟩ := h
  obtain ⟨u, rfl, rx⟩ := vals1 r
  cases rx
  have hn := line63
  rcases hq with hq | hq
  · obtain ⟨its, r', pl, hz⟩ := I.list hq
    have hlen := r'.length
    exact Calls.call_len_list pl.isList (by simp only [List.size_toArray] <;> omega) ⟨.int ys.length, H, I.tok _, ⟨s.toks + 1, by rw [List.size_toArray, hlen]⟩, q⟩
  · obtain ⟨its, r', pl, hz⟩ := I.tuple hq
    have hlen := r'.length
    exact len_tuple pl (by simp only [List.size_toArray] <;> omega) ⟨.int ys.length, H, I.tok _, ⟨s.toks + 1, by rw [List.size_toArray, hlen]⟩, q⟩
theorem call_list_of : CallR X (.type "list") (fun xs H Q => ∃ p ys, xs = [.ref p] /\ (SqL X.K H p ys ∨ SqT X.K H p ys) /\ ∀ l, H l = none->Q (.ref l) (upd H l (.lst ys))) := by
  intro pins s σ H xs us Q I r h
  obtain ⟨p, ys, rfl, hq, q⟩ := h
  obtain ⟨u, rfl, rx⟩ := vals1 r
  cases rx
  have fin : ∀ (its : List Value), Vals ys its->ys.length ≤ sizeLine->∀ (h' : Heap) (c' : Nat), (∀ b o', s.heap.get? b = some o'->h'.get? b = some o') →
      h'.get? s.heap.objs.size = some { cls := .type "list", dict := none, data := .seq its.toArray c', slots := #[] }->EP X pins σ Q (.ref s.heap.objs.size) { s with heap := h' } := fun its r' hz h' c' kp e =>
    ⟨.ref s.heap.objs.size, _, I.laid (t' := s.toks) kp (Nat.le_refl _) (show ObjOk X.prog X.w _ h' _ (.lst ys) from ⟨hz, its, c', r', e⟩), rfl, q _ (I.hok.fresh (Nat.le_refl _))⟩
  rcases hq with hq | hq
  · obtain ⟨its, r', pl, hz⟩ := I.list hq
    have hlen := r'.length
    obtain ⟨o, ho, hc, n, hd⟩ := pl.isList
    exact call_list_seq p (.inl rfl) ho hc hd (fun h' c' kp e => fin its r' hz h' c' kp e) (by simp only [List.size_toArray] <;> omega)
  · obtain ⟨its, r', pl, hz⟩ := I.tuple hq
    have hlen := r'.length
    obtain ⟨o, ho, hc, n, hd⟩ := pl
    exact call_list_seq p (.inr rfl) ho hc hd (fun h' c' kp e => fin its r' hz h' c' kp e) (by simp only [List.size_toArray] <;> omega)
theorem call_tuple_of : CallR X (.type "tuple") (fun xs H Q => ∃ p ys, xs = [.ref p] /\ ((SqL X.K H p ys /\ ∀ l, H l = none->Q (.ref l) (upd H l (.tup ys))) ∨ (SqT X.K H p ys /\ Q (.ref p) H))) := by
  intro pins s σ H xs us Q I r h
  obtain ⟨p, ys, rfl, h⟩ := h
  obtain ⟨u, rfl, rx⟩ := vals1 r
  cases rx
  rcases h with ⟨hq, q⟩ | ⟨hq, q⟩
  · obtain ⟨its, r', pl, hz⟩ := I.list hq
    have hlen := r'.length
    refine call_tuple_list pl.isList (fun h' kp => ?_) (by simp only [List.size_toArray] <;> omega)
    have I1 : Inv X pins σ H { s with heap := h' } := I.kept (t' := s.toks) kp
    have I2 : Inv X pins σ (upd H h'.objs.size (.tup ys)) { s with heap := h'.push { cls := .type "tuple", data := .seq its.toArray } } :=
      I1.laid (t' := s.toks) (fun b o e => Heap.get?_push_of_some _ e) (Nat.le_refl _) (show ObjOk X.prog X.w _ _ _ (.tup ys) from ⟨hz, its, r', IsTup.new _ _⟩)
    exact ⟨.ref h'.objs.size, _, I2, rfl, q _ (I1.hok.fresh (Nat.le_refl _))⟩
  · obtain ⟨its, r', pl, hz⟩ := I.tuple hq
    exact call_tuple_same pl ⟨.ref p, H, I, rfl, q⟩
def tyV (K : PySem.W.Frag) (T : String) (x : V) (H : Hp) : Prop := match x with
  | .str _ => T = "str"
  | .int _ => T = "int"
  | .ref p => (T = "list" /\ ∃ xs, SqL K H p xs) ∨ (T = "tuple" /\ ∃ o, K.lookup p = some o /\ o.cls = .type "tuple" /\ o.dict = none) ∨
      (T = "dict" /\ ((∃ kvs, H p = some (.dK kvs)) ∨ ∃ kvs, H p = some (.dT kvs))) ∨ (T = "set" /\ ∃ S n, H p = some (.set S n))
  | _ => False
theorem tyV_is {pins : List (Addr × Obj)} {σ : St} {H : Hp} {s : Shared} {T : String} {x : V} {v : Value} (I : Inv X pins σ H s) (r : RelV x v) (ty : tyV X.K T x H) :
    s.TypeIs v T /\ ∀ a, v = .ref a->∃ ob, s.heap.get? a = some ob /\ ob.dict = none := by
  cases x with
  | str z =>
    obtain ⟨t, rfl⟩ := r
    cases (show T = "str" from ty)
    exact ⟨typeIs_str s z t, fun _ e => nomatch e⟩
  | int i =>
    obtain ⟨t, rfl⟩ := r
    cases (show T = "int" from ty)
    exact ⟨typeIs_int s i t, fun _ e => nomatch e⟩
  | ref p =>
    cases r
    rcases ty with ⟨rfl, xs, hq⟩ | ⟨rfl, o, hk, hc, hd⟩ | ⟨rfl, hk⟩ | ⟨rfl, S, n, hk⟩
    · obtain ⟨its, _, pl, _⟩ := I.list hq
      refine ⟨pl.isList.typeIs, fun a e => ?_⟩
      cases e
      obtain ⟨o, n, e, c, hd, _⟩ := pl
      exact ⟨o, e, hd⟩
    · refine ⟨⟨o, I.kIn p o hk, hc⟩, fun a e => ?_⟩
      cases e
      exact ⟨o, I.kIn _ o hk, hd⟩
    · have z : ∃ o, s.heap.get? p = some o /\ o.ExactDict := by
        rcases hk with ⟨kvs, hk⟩ | ⟨kvs, hk⟩
        · obtain ⟨_, _, _, _, o, _, _, e, ex, _⟩ := I.hok p _ hk
          exact ⟨o, e, ex⟩
        · obtain ⟨_, _, _, _, o, _, _, e, ex, _⟩ := I.hok p _ hk
          exact ⟨o, e, ex⟩
      obtain ⟨o, e, ex⟩ := z
      refine ⟨⟨o, e, ex.1⟩, fun a e2 => ?_⟩
      cases e2
      exact ⟨o, e, ex.2.1⟩
    · obtain ⟨o, _, _, _, e, ex, _⟩ := I.hok p _ hk
      refine ⟨⟨o, e, ex.1⟩, fun a e2 => ?_⟩
      cases e2
      exact ⟨o, e, ex.2.1⟩
  | _ => exact False.elim ty
def tBM0 (K : PySem.W.Frag) (T : String) (r : V->List V->Hp->VK->Prop) (to : TE) : TE := fun σ H Q => to σ H fun x H1 => tyV K T x H1 /\ r x [] H1 Q
def tBM (K : PySem.W.Frag) (T : String) (r : V->List V->Hp->VK->Prop) (to : TE) (t : TA) : TE := fun σ H Q => to σ H fun x H1 => tyV K T x H1 /\ t σ H1 fun xs H2 => r x xs H2 Q
variable {o e : Expr} {es : List Expr} {to : TE} {t : TA} {name : Str} {apos cpos : Pos} {T id : String} {r : V->List V->Hp->VK->Prop}
theorem pe_bm0 (pa : PlainAttrs T) (slot : Slot T name id) (hty : typeOf (.builtin id) = pure (.type "method_descriptor")) (hm : MtR X id r) (ho : PE X o to)
    (hbase : attributeBase o name X.env (eval o X.env) = eval o X.env := by rfl) (hline : (apos.endLine == cpos.line) = true := by rfl) : PE X (.Call (.Attribute o name apos) [] [] cpos) (tBM0 X.K T r to) := by
  intro pins s σ H Q I h
  refine wpAny_Call_method0_late hbase hline (thn (ho pins s σ H _ I h) fun v s1 ⟨x, H1, I1, r1, ty, q1⟩ => ?_)
  obtain ⟨h1, h2⟩ := tyV_is I1 r1 ty
  exact ⟨T, id, pa, slot, hty, h1, h2, Calls.callWith_builtin rfl (PySem.evalArgs_none (hm pins s1 σ H1 x [] v [] Q I1 r1 .nil q1))⟩
theorem pe_bm (pa : PlainAttrs T) (slot : Slot T name id) (hty : typeOf (.builtin id) = pure (.type "method_descriptor")) (hm : MtR X id r) (ho : PE X o to) (ha : PA X (e :: es) t)
    (hbase : attributeBase o name X.env (eval o X.env) = eval o X.env := by rfl)
    (hfew : ((backTo cpos (starEach (e :: es) X.env)).all (fun x => !x.1) && (backToKw cpos (keywordEach [] X.env)).all (fun x => x.1.isSome)
      && decide ((e :: es).length + ([] : List Keyword).length + (if ([] : List Keyword).isEmpty then 0 else 1) < 30)) = true := by rfl)
    (hline : (apos.endLine == cpos.line) = true := by rfl) (hs : starEach (e :: es) X.env = (false, eval e X.env) :: starEach es X.env := by rfl) (hplain : (backTo cpos (starEach es X.env)).any (·.1) = false := by rfl) :
    PE X (.Call (.Attribute o name apos) (e :: es) [] cpos) (tBM X.K T r to t) := by
  intro pins s σ H Q I h
  refine wpAny_Call_method_late hbase hfew hline rfl (thn (ho pins s σ H _ I h) fun v s1 ⟨x, H1, I1, r1, ty, q1⟩ => ?_)
  obtain ⟨h1, h2⟩ := tyV_is I1 r1 ty
  refine ⟨T, id, pa, slot, hty, h1, h2, ?_⟩
  have hA := ha cpos pins s1 σ H1 _ I1 q1
  rw [hs] at hA ⊢
  refine Calls.callWith_builtin (by show (false || (backTo cpos (starEach es X.env)).any (·.1)) = false; rw [hplain] <;> rfl) (Calls.evalArgs_plain ?_)
  exact thn hA fun us s2 ⟨vs, H2, I2, r2, q2⟩ => hm pins s2 σ H2 x vs v us Q I2 r1 r2 q2
/- xs.append(e), list.index on a module's tuple .. are MtR facts of 06m -/
end
open PySem PySem.Spec PyProof.Rows
def MtM (X : Cx) (id : String) (r : V->List V->Hp->VK->Prop) : Prop :=
  ∀ (pins : List (Addr × Obj)) (s : Shared) (σ : St) (H : Hp) (x : V) (xs : List V) (v : Value) (us : List Value) (Q : VK), Inv X pins σ H s->RelV x v->Vals xs us->r x xs H Q →
    wpAny (model X.prog X.w) X.A (call (.builtin id) (v :: us)) (EP X pins σ Q) X.xe s
theorem Vals.one : ∀ {x : V} {us : List Value}, Vals [x] us->∃ u, us = [u] /\ RelV x u
  | _, _, .cons r .nil => ⟨_, rfl, r⟩
theorem Vals.zero : ∀ {us : List Value}, Vals [] us->us = []
  | _, .nil => rfl
theorem Vals.dropLast {xs : List V} {us : List Value} (h : Vals xs us) : Vals xs.dropLast us.dropLast := by
  induction h with
  | nil => exact .nil
  | cons r t ih =>
    cases t with
    | nil => exact .nil
    | cons q t' => exact .cons r ih
theorem Vals.eraseIdx : ∀ {xs : List V} {us : List Value} (i : Nat), Vals xs us->Vals (xs.eraseIdx i) (us.eraseIdx i)
  | _, _, _, .nil => .nil
  | _, _, 0, .cons _ t => t
  | _, _, i + 1, .cons r t => .cons r (Vals.eraseIdx i t)
theorem erase_last {α : Type} (l : List α) : l.eraseIdx (l.length - 1) = l.dropLast := by
  induction l with
  | nil => rfl
  | cons a r ih =>
    cases r with
    | nil => rfl
    | cons b r =>
      have e : (a :: b :: r).length - 1 = ((b :: r).length - 1) + 1 := by
        have h1 : (a :: b :: r).length = r.length + 2 := rfl
        have h2 : (b :: r).length = r.length + 1 := rfl
        omega
      rw [e, List.eraseIdx_cons_succ, ih]
      all_goals rfl
theorem len_erase {α : Type} : ∀ (l : List α) (i : Nat), (l.eraseIdx i).length ≤ l.length
  | [], _ => Nat.le_refl _
  | _ :: _, 0 => Nat.le_succ _
  | _ :: r, i + 1 => Nat.succ_le_succ (len_erase r i)
section
variable {X : Cx} {pins : List (Addr × Obj)} {σ : St} {H : Hp} {s : Shared} {l b : Addr} {xs ys zs : List V}
theorem Inv.lset {its its' : List Value} {n : Nat} {f : Array Value->Array Value} {t' : Nat} (I : Inv X pins σ H s) (hH : H l = some (.lst xs))
    (e : s.heap.get? l = some { cls := .type "list", data := .seq its.toArray n }) (hf : f its.toArray = its'.toArray) (hv : Vals ys its') (hz : ys.length ≤ sizeLine) :
    Inv X pins σ (upd H l (.lst ys)) { s with heap := s.heap.update l (Obj.mapSeq f), toks := t' } := by
  have q := PySem.IsL.update e f
  rw [hf] at q
  refine I.write (x := l) (e := l) (by rw [hH]; exact trivial) (.inl rfl) (fun b' u hb hu => (Heap.get?_update_other s.heap (Obj.mapSeq f) (Ne.symm hb)).trans hu) ⟨_, q⟩ ?_
  exact ⟨hz, its', _, hv, q⟩
theorem Inv.lnew {its : List Value} {t' : Nat} (I : Inv X pins σ H s) (hv : Vals ys its) (hz : ys.length ≤ sizeLine) :
    Inv X pins σ (upd H s.heap.objs.size (.lst ys)) { s with heap := s.heap.push { cls := .type "list", data := .seq its.toArray }, toks := t' } :=
  I.laid (fun _ _ q => Heap.get?_push_of_some _ q) (Nat.le_refl _) ⟨hz, its, 0, hv, Heap.get?_push_size _ rfl⟩
theorem Inv.fresh (I : Inv X pins σ H s) : H s.heap.objs.size = none := I.hok.fresh (Nat.le_refl _)
theorem Inv.lstM (I : Inv X pins σ H s) (hH : H l = some (.lst xs)) : xs.length ≤ sizeLine /\ ∃ (its : List Value) (n : Nat), Vals xs its /\ xs.length = its.length /\ s.heap.get? l = some { cls := .type "list", data := .seq its.toArray n } := by
  obtain ⟨z, its, n, r, e⟩ := I.hok l _ hH
  exact ⟨z, its, n, r, r.length, e⟩
end
section
variable {X : Cx}
def rAppend : V->List V->Hp->VK->Prop := fun x vs H Q => ∃ l xs y, x = .ref l /\ vs = [y] /\ H l = some (.lst xs) /\ xs.length < sizeLine /\ Q .non (upd H l (.lst (xs ++ [y])))
theorem mt_append : MtM X "list.append" rAppend := by
  intro pins s σ H x vs v us Q I rx rv h
  obtain ⟨l, xs, y, rfl, rfl, hH, hz, q⟩ := h
  cases rx
  obtain ⟨u, rfl, ru⟩ := rv.one
  obtain ⟨z, its, n, r, hl, e⟩ := I.lstM hH
  refine call_meets F.slot_list_append ⟨_, e, rfl⟩ F.entry_list_append (F.args_list_append_2 _ _) (PySem.list_append l its.toArray n u (by rw [List.size_toArray]; omega)) ⟨e, ?_⟩
  refine ⟨.non, _, I.lset (its' := its ++ [u]) hH e (by simp) (r.append (.cons ru .nil)) ?_, rfl, q⟩
  rw [List.length_append, List.length_singleton]
  omega
def rPop : V->List V->Hp->VK->Prop := fun x vs H Q => ∃ l xs y, x = .ref l /\ vs = [] /\ H l = some (.lst xs) /\ xs[xs.length - 1]? = some y /\ Q y (upd H l (.lst xs.dropLast))
theorem mt_pop : MtM X "list.pop" rPop := by
  intro pins s σ H x vs v us Q I rx rv h
  obtain ⟨l, xs, y, rfl, rfl, hH, hy, q⟩ := h
  cases rx
  have hus := rv.zero
  subst hus
  obtain ⟨z, its, n, r, hl, e⟩ := I.lstM hH
  obtain ⟨u, hu, ru⟩ := r.get hy
  have hy' : its.toArray[its.toArray.size - 1]? = some u := by
    show its.toArray[its.length - 1]? = some u
    rw [← Array.getElem?_toList, ← hl]
    exact hu
  refine call_meets F.slot_list_pop ⟨_, e, rfl⟩ F.entry_list_pop (F.args_list_pop_1 _) (MeetsSeq.list_pop_last l its.toArray n u hy' (by rw [List.size_toArray]; omega)) ⟨e, ?_⟩
  refine ⟨y, _, I.lset (its' := its.dropLast) hH e ?_ r.dropLast ?_, ru, q⟩
  · show its.toArray.eraseIdxIfInBounds (its.toArray.size - 1) = its.dropLast.toArray
    rw [List.size_toArray, List.eraseIdxIfInBounds_toArray, erase_last]
  · rw [List.length_dropLast]
    omega
def rPopAt : V->List V->Hp->VK->Prop := fun x vs H Q => ∃ l xs i k y, x = .ref l /\ vs = [.int i] /\ H l = some (.lst xs) /\ -(2 ^ 63) ≤ i /\ i < 2 ^ 63 /\ seqIndex? i xs.length = some k /\ xs[k]? = some y /\ Q y (upd H l (.lst (xs.eraseIdx k)))
theorem mt_popAt : MtM X "list.pop" rPopAt := by
  intro pins s σ H x vs v us Q I rx rv h
  obtain ⟨l, xs, i, k, y, rfl, rfl, hH, h1, h2, hk, hy, q⟩ := h
  cases rx
  obtain ⟨u, rfl, ru⟩ := rv.one
  obtain ⟨t, rfl⟩ := ru
  obtain ⟨z, its, n, r, hl, e⟩ := I.lstM hH
  obtain ⟨w, hw, rw'⟩ := r.get hy
  refine call_meets F.slot_list_pop ⟨_, e, rfl⟩ F.entry_list_pop (F.args_list_pop_2 _ _)
    (MeetsSeq.list_pop_at l its.toArray n i t k w (fitsIndex_both h1 h2) (by rw [List.size_toArray, ← hl]; exact hk) (by rw [← Array.getElem?_toList]; exact hw) (by rw [List.size_toArray]; omega)) ⟨e, ?_⟩
  refine ⟨y, _, I.lset (its' := its.eraseIdx k) hH e ?_ (r.eraseIdx k) ?_, rw', q⟩
  · show its.toArray.eraseIdxIfInBounds k = (its.eraseIdx k).toArray
    rw [List.eraseIdxIfInBounds_toArray]
  · have := len_erase xs k
    omega
def rClear : V->List V->Hp->VK->Prop := fun x vs H Q => ∃ l xs, x = .ref l /\ vs = [] /\ H l = some (.lst xs) /\ Q .non (upd H l (.lst []))
theorem mt_clear : MtM X "list.clear" rClear := by
  intro pins s σ H x vs v us Q I rx rv h
  obtain ⟨l, xs, rfl, rfl, hH, q⟩ := h
  cases rx
  have hus := rv.zero
  subst hus
  obtain ⟨z, its, n, r, hl, e⟩ := I.lstM hH
  refine call_meets F.slot_list_clear ⟨_, e, rfl⟩ F.entry_list_clear (F.args_list_clear_1 _) (AutoSeq1.list_clear_list_0 l its.toArray n (by rw [List.size_toArray]; omega)) ⟨e, ?_⟩
  exact ⟨.non, _, I.lset (its' := []) (ys := []) hH e rfl .nil (Nat.zero_le _), rfl, q⟩
def rCat : R2 := fun x y H Q => ∃ l b xs zs, x = .ref l /\ y = .ref b /\ H l = some (.lst xs) /\ H b = some (.lst zs) /\ xs.length + zs.length ≤ sizeLine /\ ∀ p, H p = none->Q (.ref p) (upd H p (.lst (xs ++ zs)))
theorem op_cat : OpR X (binaryOp .Add) rCat := by
  intro pins s σ H x y v u Q I rx ry h
  obtain ⟨l, b, xs, zs, rfl, rfl, hH, hB, hz, q⟩ := h
  cases rx
  cases ry
  obtain ⟨z, its, n, r, hl, e⟩ := I.lstM hH
  obtain ⟨z2, its2, n2, r2, hl2, e2⟩ := I.lstM hB
  refine PySem.P.add_list e e2 ?_ (by rw [List.size_toArray, List.size_toArray]; omega)
  have ea : its.toArray ++ its2.toArray = (its ++ its2).toArray := by simp
  rw [ea]
  exact ⟨.ref _, _, I.lnew (t' := s.toks) (r.append r2) (by rw [List.length_append]; omega), rfl, q _ I.fresh⟩
end
section
variable {prog : Program} {w : World} {A : Around} {E : Value->Shared->Prop} {s : Shared}
set_option maxRecDepth 100000 in
end
end L2
namespace Att
open PySem PySem.W PySem.Calls PyProof.Rows
theorem ints_of_wellAll {P : Params} {h : Heap} : ∀ (ns : List Int) (vs : List Value), WellAll P h vs (ns.map WData.int)->IntsAre vs ns := by
  intro ns
  induction ns with
  | nil =>
    intro vs w
    rw [List.map_nil] at w
    cases w
    exact .nil
  | cons n ns ih =>
    intro vs w
    rw [List.map_cons] at w
    cases w with
    | cons a b =>
      cases a
      exact .cons _ _ (ih _ b)
theorem script_of {l : OpenLaw} {n : Nat} (hn : l.most = some n) {P : Params} {h : Heap} {args : List WData} {vals : List Value}
    (hpre : l.row.toRowW.claim.pre args = true) (hwl : WellAll P h vals args) :
    ∃ a vs ns, vals = [Value.ref a] /\ args = [WData.list (ns.map WData.int)] /\ h.get? a = some { cls := .type "list", data := .seq vs.toArray } /\ IntsAre vs ns /\ ns.length ≤ n := by
  have hsh : WShape.hasAll [] args [.list .int] = true := (pre_splitW hpre).1
  have hc : l.pre.holds [] { args := args } = true := (pre_splitW hpre).2
  obtain ⟨d, r, rfl, h1, h2⟩ := hasAllW_cons hsh
  obtain rfl := hasAllW_nil h2
  obtain ⟨xs, rfl, h3⟩ := hasW_list h1
  obtain ⟨ns, rfl⟩ := items_int h3
  have hlen : ns.length ≤ n := by
    unfold OpenLaw.pre at hc
    have h4 : (WTm.not (.lt (.lit (.int (n : Int))) (.len (.arg 0)))).holds [] { args := [.list (ns.map .int)] } = true := by
      have h4 := (holds_andW hc).1
      rw [hn] at h4
      exact h4
    have h5 := condW_of h4 (w_not (w_lt w_lit (w_len_list (w_arg rfl))))
    rw [List.length_map] at h5
    refine Nat.le_of_not_lt fun q => ?_
    have q' : (n : Int) < ((ns.length : Nat) : Int) := by omega
    first
      | (rw [decide_eq_true q'] at h5; exact absurd h5 (by decide))
      | (simp at h5; omega)
  cases hwl with
  | cons w1 w2 =>
    cases w2
    cases w1 with
    | list ho hall => exact ⟨_, _, ns, rfl, rfl, ho, ints_of_wellAll ns _ hall, hlen⟩
theorem post_true (l : OpenLaw) (args : List WData) : l.row.toRowW.claim.post args (.bool true) args = true :=
  postW_of (r := l.row.toRowW) (X := (true == true))
    (show WShape.has [] (.bool true) .bool = true by first | rfl | decide | simp [WShape.has, WShape.arms, WShape.armsAll])
    (show (WTm.eq .res (.lit (.bool true))).value [] { args := args, res := some (.bool true), after := args } = some (.bool (true == true)) from w_eq_bool (w_res rfl) w_lit) rfl
theorem attach_call {l : OpenLaw} {n : Nat} {q : Program} {loose : List Str} {XP : (Str->Option Value)->Heap->Prop} {YP : World->Heap->Prop} {d : DefRec}
    (hn : l.most = some n) (hdf : d.params.defaults = [])
    (call : ∀ (w : World) (s₀ s₁ : Shared) (mg mb : Str->Option Value) (fa : Addr) (o : Obj) (pm cd doc : Value) (a : Addr) (vs : List Value) (ns : List Int),
      Ground q loose [] XP w s₀ mg mb s₁.heap->YP w s₁.heap →
      s₁.heap.get? fa = some o->o.data = .func (docDef d.name d.params d.body d.scope pm cd doc)->s₁.heap.CodeRec cd d.name->mg d.name = some (.ref fa) →
      s₁.heap.get? a = some { cls := .type "list", data := .seq vs.toArray }->IntsAre vs ns->ns.length ≤ n->s₁.gens = #[] →
      codeAny (model l.prog w) callerA (.call (.ref fa) ⟨[.ref a], []⟩) (fun r s' => r = .ok (.ret (.bool true)) /\ OldK s₁.heap s'.heap /\ s'.os = s₁.os /\ AllBare s'.gens) s₁) :
    WalkO q loose XP YP l.row.toRowW d [] (fun f vs => PySem.call f vs) := by
  intro w s₀ s₁ mg mb G Y fa o pm cd doc dV kV ho hd hcd hD hmg hg args vals as hpre hlay hrd hwl hlo
  obtain rfl : dV = .none := Dflts.none hD hdf
  obtain rfl : kV = .none := Dflts.noKw hD
  obtain ⟨a, vs, ns, rfl, rfl, hobj, hints, hlen⟩ := script_of hn hpre hwl
  refine enter_call (codeAny_mono (call w s₀ s₁ mg mb fa o pm cd doc a vs ns G Y ho (fd_plain hd) hcd hmg hobj hints hlen hg) fun r s' hq => ?_)
  obtain ⟨rfl, h2, h3, h4⟩ := hq
  exact ⟨.inl ⟨.bool true, .bool true, [], rfl, fun _ => rfl, .bool true, post_true l _, fun _ => ⟨List.Pairwise.nil, fun _ hm => (nomatch hm)⟩⟩, h2, h3, h4⟩
section
variable {prog : Program} {w : World} {A : Around} {E : Value->Shared->Prop} {s : Shared} {K : Frag}
def ledger (h : Heap) (L d : Addr) : List (Addr × Obj) := (List.range h.objs.size).filterMap fun a => if a = L ∨ a = d then none else (h.get? a).map fun o => (a, o)
end
end Att
namespace L2
open PySem PySem.Spec PyProof.Rows
theorem vals_ints : ∀ {vs : List Value} {ns : List Int}, IntsAre vs ns->Vals (ns.map V.int) vs
  | _, _, .nil => .nil
  | _, _, .cons n t h => .cons ⟨t, rfl⟩ (vals_ints h)
def Only (H : Hp) : Prop := ∀ b, H b = none ∨ ∃ o xs, H b = some (.frz o (.lst xs))
theorem law_call {P : Program} {w : World} {K : PySem.W.Frag} {mg mb : Str->Option Value} {CX : CXT} {k : Nat} {fa a : Addr} {fd : FuncData} {x : Str} {sp : Sp} {s₁ : Shared} {vs : List Value} {ns : List Int}
    (KX : K.In s₁.heap) (hns : s₁.heap.Ns mainGlobals mg) (hb : s₁.heap.Ns builtinsNs mb) (hbb : ∀ x : Str, x ≠ "__name__"->mb x = bootBuiltins x) (hlim : s₁.heap.NoLimit) (hg : s₁.gens = #[])
    (ha : s₁.heap.get? a = some { cls := .type "list", data := .seq vs.toArray }) (hi : IntsAre vs ns) (hl : ns.length ≤ sizeLine) (hr : Room k callerA)
    (F : ∀ base : Heap, K.In base->base.Ns mainGlobals mg->FnOk P w K mg base CX k fa fd [x] sp) (hbind : ∀ (s : Shared) (u : Value), BindsTo s fd ⟨[u], []⟩ [(x, u)])
    (hsp : ∀ H : Hp, Only H->SqL K H a (ns.map V.int)->sp [.ref a] H (fun v _ => v = .bl true) fun _ _ _ => False)
    (hCX : ∀ H e s', CX [] H s₁ (fun _ _ _ => False) e s'->False) :
    codeAny (model P w) callerA (.call (.ref fa) ⟨[.ref a], []⟩) (fun r s' => r = .ok (.ret (.bool true)) /\ OldK s₁.heap s'.heap /\ s'.os = s₁.os /\ AllBare s'.gens) s₁ := by
  have rv := vals_ints hi
  have lenV := hi.length
  have core : ∀ H : Hp, Only H->SqL K H a (ns.map V.int)->HOk P w H s₁.heap->(∀ b, H b ≠ none->b = a)->(H a ≠ none->K.lookup a = none) →
      codeAny (model P w) callerA (.call (.ref fa) ⟨[.ref a], []⟩) (fun r s' => r = .ok (.ret (.bool true)) /\ OldK s₁.heap s'.heap /\ s'.os = s₁.os /\ AllBare s'.gens) s₁ := by
    intro H hO hS hok hA hK
    have base_of : ∀ {b : Addr} {o : Obj}, s₁.heap.get? b = some o->H b = none->(hidT s₁.heap H).get? b = some o := fun e n => hidT_get e n
    have noA : ∀ {b : Addr} {o : Obj} {es : Array DictEntry} {ep : Nat}, s₁.heap.get? b = some o->o.data = .dict es ep->H b = none := fun {b o es ep} e d => by
      cases q : H b with
      | none => rfl
      | some u =>
        have e' : b = a := hA b (by rw [q]; simp)
        subst e'
        rw [ha] at e; cases e
        have d' : Data.seq vs.toArray _ = Data.dict es ep := d
        cases d'
    have nsK : ∀ {b : Addr} {m : Str->Option Value}, s₁.heap.Ns b m->(hidT s₁.heap H).Ns b m := fun {b m} ⟨o, es, ep, e, d, r⟩ => ⟨o, es, ep, base_of e (noA e d), d, r⟩
    have hKb : K.In (hidT s₁.heap H) := fun b o e => base_of (KX b o e) (by
      cases q : H b with
      | none => rfl
      | some u =>
        have e' : b = a := hA b (by rw [q]; simp)
        subst e'
        rw [hK (by rw [q]; simp)] at e; cases e)
    have hM : Mod K mg (hidT s₁.heap H) := ⟨hKb, nsK hns, ⟨mb, nsK hb, hbb⟩, let ⟨mc, h1, h2⟩ := hlim; ⟨mc, nsK h1, h2⟩⟩
    have e0 : Env0 P w K mg (hidT s₁.heap H) callerA [] s₁ H := ⟨rfl, hM, fun b o e => of_hidT e, Nat.le_of_eq (hidT_size _ _), trivial, fun b hb => absurd (show b ∈ ([] : List Addr) from hb) (by simp), hok, .of_eq hg⟩
    refine codeAny_mono ((F _ hKb (nsK hns)).run callerA [] s₁ H ⟨[.ref a], []⟩ [.ref a] [.ref a] _ _ hr e0 (hbind s₁ (.ref a)) (.cons rfl .nil) (hsp H hO hS)) fun r s' h => ?_
    cases r with
    | error e => exact (hCX H e s' h).elim
    | ok fl =>
      cases fl with
      | next => exact False.elim h
      | brk => exact False.elim h
      | cont => exact False.elim h
      | ret u =>
        obtain ⟨v, H', os, bare, un, hok', r', q⟩ := h
        have q' : v = .bl true := q
        subst q'
        obtain rfl : u = Value.bool true := r'
        refine ⟨rfl, OldK.of_keep fun b o e => ?_, os, bare⟩
        cases q : H b with
        | none => exact un.keep b o e q (by intro z; exact absurd (show b ∈ ([] : List Addr) from z) (by simp)) (by simp)
        | some u =>
          rcases hO b with z | ⟨ob, xs, z⟩
          · rw [q] at z; cases z
          · have z2 := un.frzs b ob _ z
            obtain ⟨e1, _⟩ := hok b _ z
            obtain ⟨e2, _⟩ := hok' b _ z2
            rw [e] at e1; cases e1
            exact e2
  cases hk : K.lookup a with
  | some o =>
    have e := KX a o hk
    rw [ha] at e
    cases e
    refine core (fun _ => none) (fun _ => .inl rfl) (.inr ⟨_, vs.toArray, _, hk, rfl, rfl, rfl, by rw [List.size_toArray, lenV]; exact hl, by simpa using rv⟩) (fun b u z => by have z' : (none : Option HO) = some u := z; cases z') (fun b z => absurd rfl z) fun z => absurd rfl z
  | none =>
    refine core (fun b => if b = a then some (.frz { cls := .type "list", data := .seq vs.toArray } (.lst (ns.map V.int))) else none) (fun b => ?_) (.inl (.inr ⟨{ cls := .type "list", data := .seq vs.toArray }, if_pos rfl⟩)) (fun b u z => ?_) (fun b z => ?_) fun _ => hk
    · by_cases hb : b = a
      · exact .inr ⟨_, _, if_pos hb⟩
      · exact .inl (if_neg hb)
    · by_cases hb : b = a
      · have z' := (if_pos hb).symm.trans z
        cases z'
        subst hb
        exact ⟨ha, by rw [List.length_map]; exact hl, vs, _, rv, ha⟩
      · have z' := (if_neg hb).symm.trans z
        cases z'
    · by_cases hb : b = a
      · exact hb
      · exact absurd (if_neg hb) z
open PySem PySem.Spec PyProof.Rows
abbrev KOf {K : PySem.W.Frag} {h : Heap} (_ : K.In h) : PySem.W.Frag := K
theorem walk_of {l : PySem.W.OpenLaw} {n k : Nat} {q : Program} {loose : List Str} {XP : (Str->Option Value)->Heap->Prop} {YP : World->Heap->Prop} {d : DefRec} {K : Params->PySem.W.Frag} {CX : World->CXT} {sp : World->Sp} {x : Str}
    (hn : l.most = some n) (hn2 : n ≤ sizeLine) (hdf : d.params.defaults = []) (hr : Room k callerA)
    (hY : ∀ (w : World) (h : Heap), YP w h->(K w.params).In h)
    (F : ∀ (w : World) (mg : Str->Option Value) (fa : Addr) (h : Heap), (K w.params).In h->h.Ns mainGlobals mg->mg d.name = some (.ref fa) →
      ∃ fd : FuncData, (∀ (s : Shared) (u : Value), BindsTo s fd ⟨[u], []⟩ [(x, u)]) ∧
        ∀ base : Heap, (K w.params).In base->base.Ns mainGlobals mg->FnOk l.prog w (K w.params) mg base (CX w) k fa fd [x] (sp w))
    (hsp : ∀ (w : World) (H : Hp) (a : Addr) (ns : List Int), ns.length ≤ n->Only H->SqL (K w.params) H a (ns.map V.int)->sp w [.ref a] H (fun v _ => v = .bl true) fun _ _ _ => False)
    (hCX : ∀ (w : World) (H : Hp) (s : Shared) (e : Value) (s' : Shared), CX w [] H s (fun _ _ _ => False) e s'->False) :
    PySem.W.WalkO q loose XP YP l.row.toRowW d [] (fun f vs => PySem.call f vs) := by
  refine Att.attach_call hn hdf fun w s₀ s₁ mg mb fa o pm cd doc a vs ns G Y ho hd hcd hmg hobj hints hlen hg => ?_
  have KX := hY w _ Y
  obtain ⟨fd, hb, hF⟩ := F w mg fa _ KX G.T.g hmg
  exact law_call KX G.T.g G.T.b G.T.builtins G.T.nolimit hg hobj hints (Nat.le_trans hlen hn2) hr hF hb (fun H hO hS => hsp w H a ns hlen hO hS) fun H e s' => hCX w H s₁ e s'
end L2
/- THE LAST THEOREM (shape; LID, My.* are yours):
   My.Adr: a structure of the addresses that your layer names (classes, functions); My.Txt K t: a structure (Prop) of the equations over K;
   My.txt_mk : {K} {implicit addresses ..} (e1 : nsIn K mainGlobals "law" = some (some (.ref f))) (e2 : K.lookup f = some ⟨oc, od, .func (fnOf "law" "law" params body scope dV kV doc pm an cdv ct), sl⟩) (e3 : codeIn K cdv "law" = true) .. : ∃ t, My.Txt K t
set_option maxRecDepth 100000 in
set_option maxHeartbeats 0 in
theorem PySem.Challenge.cw_LID_holds : PySem.Challenge.rw_LID.Holds := by
  w_on; o_law; k_head; (case hw => w_witness2)
  k_fill
  refine L2.walk_of (l := PySem.Challenge.rw_LID) (n := 63) (k := 40) (x := "script") (CX := fun w => ..) (sp := fun _ => My.sp_law) rfl (by decide) rfl ⟨rfl, by decide, by decide⟩ (fun w h Y => PySem.W.kIn_of Y) ?F ?S ?C
  case F =>
    intro w mg fa h KX G hmg
    have T : ∃ t, My.Txt (L2.KOf KX) t := by
      dsimp only [L2.KOf]                          -- K must stand as «<heap const> w.params» for k_is
      refine' My.txt_mk ?e1 ?e2 ?e3 ..
      (case e1 => PySem.W.k_is)                    -- in the order: a name -> its address -> its object -> its parts
      (case e2 => PySem.W.k_is)
      ..
    obtain ⟨t, T⟩ := T
    have e0 := hmg.symm.trans (PySem.W.mg_of KX G T.law)
    cases e0                                       -- fa is the law's own address
    exact ⟨_, fun s u => .of_eq rfl, fun base kb nb => My.law_fn T kb nb⟩     -- if «.of_eq rfl» comes too early: refine' ⟨_, ?b, fun base kb nb => My.law_fn T kb nb⟩; exact fun s u => .of_eq rfl
  case S => exact fun w H a ns hl hO hS => ..
  case C => exact ..
(the tactic k_is has no namespace: write k_is) -/
namespace L2
open PySem PySem.Spec PyProof.Rows
def inClass (s : Stmt) (j : Nat) : Stmt := match s with
  | .ClassDef _ _ _ body _ _ _ _ _ _ _ => body.getD j (.Pass ⟨0, 0, 0, 0⟩)
  | _ => .Pass ⟨0, 0, 0, 0⟩
def defArgs (s : Stmt) : Arguments := match s with
  | .FunctionDef _ a _ _ _ _ _ _ _ _ => a
  | _ => { posonlyargs := [], args := [], vararg := none, kwonlyargs := [], kw_defaults := [], kwarg := none, defaults := [] }
def defBody (s : Stmt) : List Stmt := match s with
  | .FunctionDef _ _ b _ _ _ _ _ _ _ => b
  | _ => []
def defScope (s : Stmt) : Scope := match s with
  | .FunctionDef _ _ _ _ _ _ sc _ _ _ => sc
  | _ => { kind := .function, names := [], isGenerator := false, isCoroutine := false }
abbrev E0 : XK := fun _ _ _ => False
structure Fun (K : PySem.W.Frag) (x qual : Str) (st : Stmt) (f : Addr) (fd : FuncData) : Prop where
  ex : ∃ (oc : Value) (od : Option Addr) (kV doc pm : Value) (an : Option Addr) (cdv ct : Value) (osl : Array (Option Value)),
    fd = PySem.W.fnOf x qual (defArgs st) (defBody st) (defScope st) .none kV doc pm an cdv ct /\ K.lookup f = some ⟨oc, od, .func fd, osl⟩ /\ PySem.W.codeIn K cdv qual = true
  kp : PySem.W.keepIn K (.ref f) = true
section
variable {P : Program} {w : World} {K : PySem.W.Frag} {mg : Str->Option Value} {base : Heap}
theorem Fun.binds {x qual : Str} {st : Stmt} {f : Addr} {fd : FuncData} {ps : List Str} (F : Fun K x qual st f fd)
    (h : ∀ (kV doc pm : Value) (an : Option Addr) (cdv ct : Value) (us : List Value), us.length = ps.length->bindArgs (PySem.W.fnOf x qual (defArgs st) (defBody st) (defScope st) .none kV doc pm an cdv ct) ⟨us, []⟩ = pure (ps.zip us)) : Binds K fd ps [] := by
  obtain ⟨oc, od, kV, doc, pm, an, cdv, ct, osl, rfl, lk, hcd⟩ := F.ex
  exact .all (h kV doc pm an cdv ct)
theorem fun_mk {x qual : Str} {st : Stmt} {f : Addr} {oc : Value} {od an : Option Addr} {osl : Array (Option Value)} {kV doc pm cdv ct : Value} (l : K.lookup f = some ⟨oc, od, .func (PySem.W.fnOf x qual (defArgs st) (defBody st) (defScope st) .none kV doc pm an cdv ct), osl⟩)
    (c : PySem.W.codeIn K cdv qual = true) (k : PySem.W.keepIn K (.ref f) = true) : Fun K x qual st f (PySem.W.fnOf x qual (defArgs st) (defBody st) (defScope st) .none kV doc pm an cdv ct) := ⟨⟨oc, od, kV, doc, pm, an, cdv, ct, osl, rfl, l, c⟩, k⟩
end
theorem small1000 {n : Nat} (h : n ≤ 1000) : n < sizeLine := Nat.lt_of_le_of_lt h (by decide)
section
variable {X : Cx}
theorem pv (i : Nat) {x : Str} {pos : Pos} (hN : X.N[i]? = some x := by rfl) (hv : Vis X.env.scope x := by first | exact Or.inl rfl | exact Or.inr (Or.inl rfl) | exact Or.inr (Or.inr rfl)) (hd : (x == ("__debug__" : Str)) = false := by decide)
    (hcd : (x == ("__classdict__" : Str)) = false := by decide) : PE X (.Name x pos) (tVar i) := pe_var hN hv hd hcd
end
theorem iteF {A B : Prop} (h : B) : if false = true then A else B := by
  rw [if_neg Bool.false_ne_true]
  exact h
theorem iteT {A B : Prop} (h : A) : if true = true then A else B := by
  rw [if_pos rfl]
  exact h
theorem ite2 {c A B : Prop} [Decidable c] (h1 : c->A) (h2 : ¬ c->B) : if c then A else B := by
  by_cases h : c
  · rw [if_pos h]
    exact h1 h
  · rw [if_neg h]
    exact h2 h
def Same (H H' : Hp) : Prop := ∀ b o, H b = some o->H' b = some o
theorem Same.refl (H : Hp) : Same H H := fun _ _ h => h
theorem Same.trans {H H1 H2 : Hp} (a : Same H H1) (b : Same H1 H2) : Same H H2 := fun c o h => b c o (a c o h)
theorem Same.free {H H' : Hp} (e : Same H H') {l : Addr} (h : H' l = Option.none) : H l = Option.none := by
  cases q : H l with
  | none => rfl
  | some o =>
    rw [e l o q] at h
    cases h
theorem Same.seq {K : PySem.W.Frag} {H H' : Hp} {a : Addr} {xs : List V} (e : Same H H') (h : SqL K H a xs) : SqL K H' a xs := by
  rcases h with (h | ⟨o, h⟩) | h
  · exact .inl (.inl (e _ _ h))
  · exact .inl (.inr ⟨o, e _ _ h⟩)
  · exact .inr h
end L2
set_option maxHeartbeats 4000000
namespace Chk
def T (n : Nat) : Nat := n * 128 % 2 ^ 64 + n / 2 ^ 57
def D (n : Nat) : Nat := if n * 2 ≥ 2 ^ 64 then n * 2 - 2 ^ 64 + 1 else n * 2
end Chk
namespace L2
open PySem PySem.Spec PyProof.Rows
section
variable {X : Cx}
theorem op_fdivB : OpR X (binaryOp .FloorDiv) (rI (fun _ j => 0 < j /\ j.natAbs.log2 < 9000) fun i j => .int (i / j)) := opI fun i j _ _ _ _ _ hc q => by
  have h1 : (0 : Int) < j := hc.1
  exact floordiv_int (by omega) (by rw [Int.fdiv_eq_ediv_of_nonneg i (by omega)]; exact q) (.inl (PyProof.noPylong_of_log2 hc.2))
theorem pe_powc {a b n : Int} {j1 j2 p1 p2 pos} (h : 0 ≤ b /\ b ≤ 1000000 /\ a.natAbs < 2 ^ 64 := by decide) (e : a ^ b.toNat = n := by first | rfl | decide +kernel) :
    PE X (.BinOp (.Constant (.int a) j1 p1) .Pow (.Constant (.int b) j2 p2) pos) (tC (.int n)) := fun pins s σ H Q I hw =>
  pe_op op_pow pe_int pe_int pins s σ H Q I ⟨_, _, rfl, rfl, h, by subst e; exact hw⟩
def clsV : V->Option Value
  | .ty n => some (.type n)
  | .ref a => some (.ref a)
  | _ => none
theorem call_isinst : CallR X (.builtin "isinstance") (fun xs H Q => ∃ x c cv t b, xs = [x, c] /\ clsV c = some cv /\ TyOf X.K H x t /\ PySem.W.kitOne X.K t cv = some b /\ Q (.bl b) H) := by
  rintro pins s σ H xs us Q I r ⟨x, c, cv, t, b, rfl, hc, ty, e, q⟩
  obtain ⟨u, v, rfl, ru, rv⟩ := vals2 r
  have hv : v = cv := by
    cases c <;> simp [clsV] at hc <;> subst hc <;> exact rv
  subst hv
  exact isinst_ok I ru ty e fun tk => ⟨.bl b, H, I.tok tk, rfl, q⟩
end
theorem iteY {c A B : Prop} [Decidable c] (hc : c) (h : A) : if decide c = true then A else B := by
  rw [if_pos (decide_eq_true hc)]; exact h
theorem iteN {c A B : Prop} [Decidable c] (hc : ¬ c) (h : B) : if decide c = true then A else B := by
  rw [if_neg (by rw [decide_eq_false hc]; decide)]; exact h
open PySem
def clos (cells : List (Str × Addr)) : List (Str × NameKind)->List (Str × Addr)->List (Str × Addr)
  | [], acc => acc
  | (n, k) :: r, acc => clos cells r (if k == .free then (n, (cells.lookup n).getD 0) :: acc else acc)
theorem clos_loop {env : Env} : ∀ (l : List (Str × NameKind)) (acc : List (Str × Addr)), (∀ y ∈ l, y.2 = .free->∃ c, env.cells.lookup y.1 = some c) →
    (forIn l acc fun (x : Str × NameKind) (cs : List (Str × Addr)) => if (x.2 == NameKind.free) = true then do let a ← cellOf env x.1; pure (ForInStep.yield ((x.1, a) :: cs)) else pure (ForInStep.yield cs) : Sem (List (Str × Addr))) = pure (clos env.cells l acc)
  | [], acc, _ => by simp only [List.forIn_nil]; rfl
  | (n, k) :: r, acc, h => by
    simp only [List.forIn_cons]
    cases hk : (k == NameKind.free) with
    | false =>
      simp only [Bool.false_eq_true, if_false]
      have ih := clos_loop (env := env) r acc fun y hy => h y (List.mem_cons_of_mem _ hy)
      simp only [pure_bind, ih, clos, hk, Bool.false_eq_true, if_false]
    | true =>
      obtain ⟨c, hc⟩ := h (n, k) List.mem_cons_self (by simpa using hk)
      have e : cellOf env n = pure c := by
        unfold cellOf; rw [show env.cells.lookup n = some c from hc]
      simp only [if_true, e, pure_bind]
      have ih := clos_loop (env := env) r ((n, c) :: acc) fun y hy => h y (List.mem_cons_of_mem _ hy)
      rw [ih]
      simp only [clos, hk, if_true]
      rw [show env.cells.lookup n = some c from hc]; rfl
theorem closureFor_eq {scope : Scope} {env : Env} (h : ∀ y ∈ scope.names, y.2 = .free->∃ c, env.cells.lookup y.1 = some c) : closureFor scope env = pure (clos env.cells scope.names []) := by
  have := clos_loop (env := env) scope.names [] h
  unfold closureFor
  simp only [bind_pure]
  exact this
theorem clos_sub {cells : List (Str × Addr)} : ∀ {names : List (Str × NameKind)} {acc : List (Str × Addr)}, (∀ y ∈ names, y.2 = .free->∃ c, cells.lookup y.1 = some c)->(∀ x c, acc.lookup x = some c->cells.lookup x = some c) →
    ∀ x c, (clos cells names acc).lookup x = some c->cells.lookup x = some c
  | [], _, _, ha, x, c, h => ha x c h
  | (n, k) :: r, acc, hn, ha, x, c, h => by
    refine clos_sub (names := r) (fun y hy => hn y (List.mem_cons_of_mem _ hy)) ?_ x c h
    intro x c h
    split at h
    · rename_i hk
      obtain ⟨d, hd⟩ := hn (n, k) List.mem_cons_self (by simpa using hk)
      rw [show cells.lookup n = some d from hd, List.lookup_cons] at h
      split at h
      · rename_i e
        rw [eq_of_beq e, show cells.lookup n = some d from hd]; exact h
      · exact ha x c h
    · exact ha x c h
theorem clos_has {cells : List (Str × Addr)} : ∀ {names : List (Str × NameKind)} {acc : List (Str × Addr)} {x : Str}, ((x, NameKind.free) ∈ names ∨ ∃ c, acc.lookup x = some c)->∃ c, (clos cells names acc).lookup x = some c
  | [], acc, x, h => by
    rcases h with h | h
    · cases h
    · exact h
  | (n, k) :: r, acc, x, h => by
    refine clos_has (names := r) ?_
    rcases h with h | ⟨c, h⟩
    · rcases List.mem_cons.mp h with h | h
      · injection h with h1 h2
        subst h1; subst h2
        exact .inr ⟨(cells.lookup x).getD 0, by simp [List.lookup_cons]⟩
      · exact .inl h
    · right
      split
      · rw [List.lookup_cons]
        split
        · exact ⟨_, rfl⟩
        · exact ⟨c, h⟩
      · exact ⟨c, h⟩
theorem mem_of_lookup {α : Type} {x : Str} {a : α} : ∀ {l : List (Str × α)}, l.lookup x = some a->(x, a) ∈ l
  | [], h => by simp at h
  | (n, k) :: r, h => by
    rw [List.lookup_cons] at h
    split at h
    · rename_i e
      injection h with h
      rw [eq_of_beq e, h]; exact List.mem_cons_self
    · exact List.mem_cons_of_mem _ (mem_of_lookup h)
theorem lookup_relabel {env : Env} {x : Str} : ∀ (names : List (Str × NameKind)),
    (names.map fun (n, k) => if (k == NameKind.free && env.scope.kind == .function && env.kindOf n == some .cell) then (n, NameKind.cell) else (n, k)).lookup x =
      (names.lookup x).map fun k => if (k == NameKind.free && env.scope.kind == .function && env.kindOf x == some .cell) then NameKind.cell else k
  | [] => rfl
  | (n, k) :: r => by
    have ih := lookup_relabel (env := env) (x := x) r
    simp only [List.map_cons]
    by_cases e : x = n
    · subst e
      split <;> rename_i hc
      · simp only [List.lookup_cons, beq_self_eq_true, Option.map_some, hc, if_true]
      · simp only [List.lookup_cons, beq_self_eq_true, Option.map_some]
        rw [if_neg hc]
    · have e' : (x == n) = false := by simpa using e
      split <;> simp only [List.lookup_cons, e'] <;> exact ih
open PySem PySem.Spec PyProof.Rows
theorem anelt {a b n : Nat} (h1 : a < n) (h2 : n ≤ b) : a ≠ b := by omega
def Cx.comp (X : Cx) (scope : Scope) (N : List Str) (C : Addr) (s₀ : Shared) (H₀ : Hp) (ex : List Addr) : Cx :=
  { X with N := N, s₀ := s₀, H₀ := H₀, env := compEnvC scope (clos X.env.cells scope.names []) C X.env, outer := X.stack, stack := X.stack, ex := ex, fn := fun _ => false, pn := [] }
def st0 (k : Nat) (cap : List Nat) (σ : St) : St := List.replicate k none ++ cap.map fun j => (σ[j]?).getD none
def compOk (XN : List Str) (fs sc : Scope) (N : List Str) (k : Nat) (cap : List Nat) : Bool :=
  decide (sc.kind = .function) && sc.names.all (fun y => decide (y.2 ≠ .cell)) && sc.names.all (fun y => decide (y.2 ≠ .local) || decide (sc.names.lookup y.1 = some .local)) &&
  sc.names.all (fun y => decide (y.2 ≠ .free) || decide (fs.names.lookup y.1 = some .cell)) && decide (N.length = k + cap.length) &&
  (cap.zip (N.drop k)).all (fun p => decide (XN[p.1]? = some p.2) && decide (sc.names.lookup p.2 = some .free))
structure CompOk (XN : List Str) (fs sc : Scope) (N : List Str) (k : Nat) (cap : List Nat) : Prop where
  kind : sc.kind = .function
  nocell : ∀ y ∈ sc.names, y.2 ≠ .cell
  locs : ∀ y ∈ sc.names, y.2 = .local->sc.names.lookup y.1 = some .local
  frees : ∀ y ∈ sc.names, y.2 = .free->fs.names.lookup y.1 = some .cell
  len : N.length = k + cap.length
  caps : ∀ p ∈ cap.zip (N.drop k), XN[p.1]? = some p.2 /\ sc.names.lookup p.2 = some .free
theorem CompOk.of {XN : List Str} {fs sc : Scope} {N : List Str} {k : Nat} {cap : List Nat} (h : compOk XN fs sc N k cap = true) : CompOk XN fs sc N k cap := by
  unfold compOk at h
  simp only [Bool.and_eq_true, List.all_eq_true, decide_eq_true_eq, Bool.or_eq_true] at h
  obtain ⟨⟨⟨⟨⟨h1, h2⟩, h3⟩, h4⟩, h5⟩, h6⟩ := h
  exact ⟨h1, h2, fun y hy e => (h3 y hy).resolve_left fun z => z e, fun y hy e => (h4 y hy).resolve_left fun z => z e, h5, h6⟩
section
variable {X : Cx} {pins : List (Addr × Obj)} {σ : St} {H : Hp} {s : Shared} {scope : Scope} {N : List Str} {k : Nat} {cap : List Nat} {fp : List Addr}
theorem Cx.comp_kind {x : Str} {C : Addr} {s₀ : Shared} {H₀ : Hp} {ex : List Addr} (hk : X.env.scope.kind = .function) :
    (X.comp scope N C s₀ H₀ ex).env.kindOf x = (scope.names.lookup x).map fun k => if (k == NameKind.free && X.env.kindOf x == some .cell) then NameKind.cell else k := by
  show (relabel scope X.env).names.lookup x = _
  unfold relabel
  rw [lookup_relabel]
  congr 1
  funext k
  rw [hk]; simp
theorem Inv.freeCells (I : Inv X pins σ H s) (c : CompOk X.N X.env.scope scope N k cap) : ∀ y ∈ scope.names, y.2 = .free->∃ d, X.env.cells.lookup y.1 = some d :=
  fun y hy e => I.ok.has y.1 (.inl (c.frees y hy e))
theorem Inv.block (I : Inv X pins σ H s) (c : CompOk X.N X.env.scope scope N k cap) (hf : ∀ b ∈ fp, FpOk X pins H b) (ho : ∀ b ∈ fp, ∃ o, s.heap.get? b = some o) {D C : Addr} {s1 : Shared}
    (hD : s.heap.objs.size ≤ D) (hC : s.heap.objs.size ≤ C) (hDC : D ≠ C) (hos : s1.os = s.os) (hg : s1.gens = s.gens) (keep : ∀ b o, s.heap.get? b = some o->s1.heap.get? b = some o)
    (hl : s1.heap.get? D = some { cls := .type "list", data := .seq #[] }) (hn : s1.heap.Ns C fun _ => none) :
    Inv (X.comp scope N C s H fp) [] (st0 k cap σ) (upd H D (.lst [])) s1 := by
  have hfc := I.freeCells c
  have lt : ∀ b ∈ fp, b < s.heap.objs.size := fun b hb => let ⟨o, e⟩ := ho b hb; Heap.lt_size e
  have clt : ∀ x d, X.env.cells.lookup x = some d->d < s.heap.objs.size := fun x d e => let ⟨v, o, q, _⟩ := I.cell x d e; Heap.lt_size q
  have sub := clos_sub (cells := X.env.cells) (names := scope.names) (acc := []) hfc (fun x c h => by simp at h)
  have fresh : ∀ a, s.heap.objs.size ≤ a->H a = none := fun a h => I.hok.fresh h
  have kindf : ∀ x, ((X.comp scope N C s H fp).env.kindOf x = some .cell ∨ (X.comp scope N C s H fp).env.kindOf x = some .free)->(x, NameKind.free) ∈ scope.names := fun x h => by
    rw [Cx.comp_kind I.ok.kind] at h
    cases e : scope.names.lookup x with
    | none => rw [e] at h; simp at h
    | some kd =>
      have m := mem_of_lookup e
      rw [e] at h
      cases kd with
      | free => exact m
      | cell => exact absurd rfl (c.nocell _ m)
      | «local» => simp at h
      | globalExplicit => simp at h
      | globalImplicit => simp at h
  have ok : (X.comp scope N C s H fp).Ok :=
    { mod := I.ok.mod
      kind := c.kind
      glob := I.ok.glob
      blt := I.ok.blt
      above := hC
      inj := fun x y d hx hy => I.ok.inj x y d (sub x d hx) (sub y d hy)
      has := fun x h => clos_has (.inl (kindf x h))
      cab := fun x d h => by cases h
      hd := I.ok.hd
      frames := I.ok.frames
      stk := .inl rfl
      exf := fun b hb => ⟨fun z => anelt (lt b hb) hC z, fun x d hx => (hf b hb).2.2.2.2.1 x d (sub x d hx)⟩
      bs := I.bs
      bsz := Nat.le_trans I.ok.bsz I.sz
      noex := fun b o e hb => by
        rcases (hf b hb).2.2.2.1 with h | h
        · exact I.ok.noex b o e h
        · exact absurd (Heap.lt_size (I.ok.bs b o e).1) (Nat.not_lt.mpr h)
      exfs := fun b hb hm => by
        rcases List.mem_cons.mp (I.stkSub b hm) with h | h
        · exact (hf b hb).2.1 h
        · exact (hf b hb).2.2.1 h
      funs := I.stack
      frf := I.stkFree }
  have nD : H D = none := fresh D hD
  refine
    { ok := ok
      os := hos
      bare := by rw [hg]; exact I.bare
      base := Un.laid keep hD nD
      loc := ⟨_, hn, ?_⟩
      cell := fun x d h => let ⟨v, q⟩ := I.cell x d (sub x d h); ⟨v, q.keeps keep⟩
      free := by
        show upd H D _ C = none
        rw [upd_ne (Ne.symm hDC)]; exact fresh C hC
      freeC := fun x d h => by
        have h' := sub x d h
        rw [upd_ne (anelt (clt x d h') hD)]; exact I.freeC x d h'
      pin := fun p hp => by cases hp
      hok := I.hok.laid keep hD ⟨Nat.zero_le _, [], 0, .nil, hl⟩
      len := by
        show (st0 k cap σ).length = N.length
        unfold st0; rw [List.length_append, List.length_replicate, List.length_map, c.len] }
  intro i x v hi hv _
  have hi : N[i]? = some x := hi
  unfold st0 at hv
  by_cases hik : i < k
  · rw [List.getElem?_append_left (by rw [List.length_replicate]; exact hik), List.getElem?_replicate, if_pos hik] at hv
    cases hv
  · rw [List.getElem?_append_right (by rw [List.length_replicate]; omega), List.length_replicate, List.getElem?_map] at hv
    cases ej : cap[i - k]? with
    | none => rw [ej] at hv; cases hv
    | some j =>
      rw [ej] at hv
      have hv : (σ[j]?).getD none = some v := Option.some.inj hv
      have hσ : σ[j]? = some (some v) := by
        cases e : σ[j]? with
        | none => rw [e] at hv; cases hv
        | some z => rw [e] at hv; exact congrArg some hv
      have hm : (j, x) ∈ cap.zip (N.drop k) := by
        refine List.mem_iff_getElem?.mpr ⟨i - k, ?_⟩
        rw [List.getElem?_zip_eq_some]
        refine ⟨ej, ?_⟩
        rw [List.getElem?_drop, show k + (i - k) = i by omega]; exact hi
      obtain ⟨hX, hfree⟩ := c.caps _ hm
      have mf := mem_of_lookup hfree
      have hcell := c.frees _ mf rfl
      obtain ⟨m, _, q⟩ := I.loc
      obtain ⟨u, ru, lk⟩ := q j x v hX hσ (.inr (.inl hcell))
      refine ⟨u, ru, .inr ⟨.inl ?_, ?_⟩⟩
      · rw [Cx.comp_kind I.ok.kind, hfree]
        have : (X.env.kindOf x == some NameKind.cell) = true := by
          show (X.env.scope.names.lookup x == some NameKind.cell) = true
          rw [hcell]; rfl
        simp [this]
      · rcases lk with ⟨hloc, _⟩ | ⟨_, d, hd, hcv⟩
        · have hloc : X.env.scope.names.lookup x = some .local := hloc
          rw [hcell] at hloc; cases hloc
        · obtain ⟨d', hd'⟩ := clos_has (cells := X.env.cells) (acc := []) (.inl mf : (x, NameKind.free) ∈ scope.names ∨ _)
          have := sub x d' hd'
          rw [hd] at this; cases this
          exact ⟨d, hd', hcv.keeps keep⟩
theorem Inv.unblock {H' : Hp} {σ' : St} {s1 : Shared} {C : Addr} {ps : List (Addr × Obj)} (I : Inv X pins σ H s) (hf : ∀ b ∈ fp, FpOk X pins H b) (J : Inv (X.comp scope N C s H fp) ps σ' H' s1) : Inv X pins σ H' s1 :=
  I.call' (ch := fp) J.os J.base J.hok J.bare fun b hb => ⟨(hf b hb).2.2.2.1, (hf b hb).2.1, (hf b hb).2.2.2.2.1, (hf b hb).2.2.2.2.2⟩
end
def tComp (k : Nat) (cap : List Nat) (wi : TI) (g : TG) (tt : TT) (te : TE) : TE := fun σ H Q => wi σ H fun J H1 => ∀ D, H1 D = none->∃ W : Nat->Nat->St->Hp->List V->Prop,
  (∃ m, W 0 m (st0 k cap σ) (upd H1 D (.lst [])) []) /\ ∀ i m σ' H' ys, W i m σ' H' ys->(J.stop i H' /\ Q (.ref D) H') ∨
    (J.go i H' /\ ∃ N : St->Hp->List V->Prop, (∀ σ' H' ys', N σ' H' ys'->∃ m', m' < m /\ W (i + 1) m' σ' H' ys') /\ ∀ x H2, J.yld i H' x H2->g x σ' H2 fun σ3 H3 => tt σ3 H3 fun b H4 => if b = true then
      te σ3 H4 fun y H5 => H5 D = some (.lst ys) /\ ys.length < sizeLine /\ N σ3 (upd H5 D (.lst (ys ++ [y]))) (ys ++ [y])
      else N σ3 H4 ys)
def tYes : TT := fun _ H Q => Q true H
def PTs (X : Cx) (ifs : List Expr) (t : TT) : Prop :=
  ∀ (pins : List (Addr × Obj)) (s : Shared) (σ : St) (H : Hp) (Q : Bool->Hp->Prop), Inv X pins σ H s->t σ H Q →
    wpAny (model X.prog X.w) X.A (forIn ifs true fun c r => if r = true then do let ok ← isTrue c X.env (eval c X.env); pure (ForInStep.yield ok) else pure (ForInStep.yield r)) (TP X pins σ Q) X.xe s
theorem pts_nil {X : Cx} : PTs X [] tYes := fun _ _ _ H _ I h => wpAny_tests_nil ⟨H, I, h⟩
theorem pts_one {X : Cx} {c : Expr} {t : TT} (h : PT X c t) : PTs X [c] t := fun pins s σ H Q I hw => wpAny_tests_one (h pins s σ H Q I hw)
section
variable {prog : Program} {w : World} {A : Around} {R : Result->Shared->Prop} {s : Shared}
theorem codeAny_compLoop_go {elt target iter : Expr} {ifs : List Expr} {scope : Scope} {pos : Pos} {it acc : Value} {env : Env} (I : Nat->Shared->Prop)
    (turn : ∀ n s, I n s->wpAny (model prog w) A (pyNext it) (fun r s₁ => match r with
      | none => R (.ok .next) s₁
      | some v => wpAny (model prog w) A (letOwnedTupleGo target it v) (fun _ s₀ => wpAny (model prog w) A (assign target env v) (fun _ s₂ =>
          wpAny (model prog w) A (forIn ifs true fun c r => if r = true then do let ok ← isTrue c env (eval c env); pure (ForInStep.yield ok) else pure (ForInStep.yield r)) (fun ok s₃ =>
            if ok = true then wpAny (model prog w) A (eval elt env) (fun x s₄ =>
              wpAny (model prog w) A (call (.builtin "list.append") [acc, x]) (fun _ s₅ => ∃ m, m < n /\ I m s₅) (notedBy (model prog w) A env fun e s' => R (.error e) s') s₄) (notedBy (model prog w) A env fun e s' => R (.error e) s') s₃
            else ∃ m, m < n /\ I m s₃) (notedBy (model prog w) A env fun e s' => R (.error e) s') s₂) (notedBy (model prog w) A env fun e s' => R (.error e) s') s₀) (notedBy (model prog w) A env fun e s' => R (.error e) s') s₁) (notedBy (model prog w) A env fun e s' => R (.error e) s') s)
    (n : Nat) (h : I n s) :
    codeAny (model prog w) A (.compLoop (.ListComp elt [⟨target, iter, ifs, 0⟩] scope pos) 0 it acc env) R s := by
  refine codeAny_loop rfl I (fun n s hI => ?_) n h
  show wpAny _ A ((compTurn (.ListComp elt [⟨target, iter, ifs, 0⟩] scope pos) 0 it acc env).onRaise (fun x => do noteFrame x env; theTreesLotGoes x)) _ _ s
  refine wpAny_noted ?_
  rw [compTurn_list]
  refine wpAny_bind (wpAny_standAt (wpAny_bind (wpAny_mono (turn n s hI) (fun r s₁ h₁ => ?_) fun _ _ h' => h')))
  cases r with
  | none => exact wpAny_pure h₁
  | some v =>
    refine wpAny_bind (wpAny_mono h₁ (fun _ s₀ h₀ => ?_) fun _ _ h' => h')
    refine wpAny_bind (wpAny_mono h₀ (fun _ s₂ h₂ => wpAny_bind (wpAny_mono h₂ (fun ok s₃ h₃ => ?_) fun _ _ h' => h')) fun _ _ h' => h')
    cases ok with
    | false => exact wpAny_pure ⟨rfl, h₃⟩
    | true =>
      exact wpAny_bind (wpAny_bind (wpAny_mono h₃ (fun x s₄ h₄ => wpAny_bind (wpAny_mono h₄ (fun _ s₅ h₅ => wpAny_pure (wpAny_pure ⟨rfl, h₅⟩)) fun _ _ h' => h')) fun _ _ h' => h'))
end
section
variable {X : Cx} {scope : Scope} {N : List Str} {k : Nat} {cap : List Nat} {tg iter elt : Expr} {ifs : List Expr} {wi : TI} {g : TG} {tt : TT} {te : TE} {pos : Pos}
theorem comp_loop {E : Value->Shared->Prop} {use : Option (Value->Sem Unit)} {QQ : Value->Shared->Prop} {pins : List (Addr × Obj)} {s : Shared} {σ : St} {H : Hp} {it : Addr} {fp : List Addr} {tn : Nat->Heap->Prop} {J : It} {Q : VK}
    (hc : X.calm = true) (c : CompOk X.N X.env.scope scope N k cap)
    (hg : ∀ C s₀ H₀ ex, PG (X.comp scope N C s₀ H₀ ex).nox tg g) (ht : ∀ C s₀ H₀ ex, PTs (X.comp scope N C s₀ H₀ ex).nox ifs tt) (he : ∀ C s₀ H₀ ex, PE (X.comp scope N C s₀ H₀ ex).nox elt te)
    (I : Inv X pins σ H s) (T : Turn X.prog X.w X.K tg J fp it tn) (st : tn 0 s.heap) (hf : ∀ b ∈ fp, FpOk X pins H b)
    (h : ∀ D, H D = none->∃ W : Nat->Nat->St->Hp->List V->Prop, (∃ m, W 0 m (st0 k cap σ) (upd H D (.lst [])) []) /\ ∀ i m σ' H' ys, W i m σ' H' ys->(J.stop i H' /\ Q (.ref D) H') ∨
      (J.go i H' /\ ∃ N : St->Hp->List V->Prop, (∀ σ' H' ys', N σ' H' ys'->∃ m', m' < m /\ W (i + 1) m' σ' H' ys') /\ ∀ x H2, J.yld i H' x H2->g x σ' H2 fun σ3 H3 => tt σ3 H3 fun b H4 => if b = true then
        te σ3 H4 fun y H5 => H5 D = some (.lst ys) /\ ys.length < sizeLine /\ N σ3 (upd H5 D (.lst (ys ++ [y]))) (ys ++ [y])
        else N σ3 H4 ys))
    (hQ : ∀ D C s1 H', Inv X pins σ H' s1->Q (.ref D) H'->(∃ m, s1.heap.Ns C m)->H' C = none->X.s₀.heap.objs.size ≤ C->C ≠ X.env.locals->(∀ x c, X.env.cells.lookup x = some c->c ≠ C)->(∀ p ∈ X.pn ++ pins, p.1 ≠ C) →
      compPost (model X.prog X.w) X.A E use QQ (.ref D) C (.ok .next) s1) :
    wpAny (model X.prog X.w) X.A (newList []) (fun acc s₃ => wpAny (model X.prog X.w) X.A (newFunctionEnv scope X.env.globals (clos X.env.cells scope.names []) [] X.env.qual none .none (some X.env)) (fun cenv s₄ =>
      codeAny (model X.prog X.w) X.A (.compStart (.ListComp elt [⟨tg, iter, ifs, 0⟩] scope pos) 0 (.ref it) acc { cenv with scope := relabel scope X.env }) (compPost (model X.prog X.w) X.A E use QQ acc cenv.locals) s₄) E s₃) E s := by
  refine wpAny_newObj_type (wpAny_newFunctionEnv c.nocell (by intro y hy; simp at hy) (fun h₁ hns₁ hsb₁ => ?_) c.kind)
  dsimp only at hns₁ hsb₁ ⊢
  generalize hH2 : s.heap.push { cls := .type "list", dict := none, data := .seq ([] : List Value).toArray } = H2 at hns₁ hsb₁ ⊢
  have hC : H2.objs.size = s.heap.objs.size + 1 := by rw [← hH2, Heap.size_push]
  have hDC : s.heap.objs.size ≠ H2.objs.size := by rw [hC]; exact Nat.ne_of_lt (Nat.lt_succ_self _)
  have hle : s.heap.objs.size ≤ H2.objs.size := by rw [hC]; exact Nat.le_succ _
  have keep : ∀ b o, s.heap.get? b = some o->h₁.get? b = some o := fun b o e => by
    exact hsb₁.extBut b o (anelt (Heap.lt_size e) hle) (Heap.get?_push_of_some _ (hH2 ▸ Heap.get?_push_of_some _ e))
  have hl : h₁.get? s.heap.objs.size = some { cls := .type "list", data := .seq #[] } := hsb₁.extBut _ _ hDC (Heap.get?_push_of_some _ (hH2 ▸ Heap.get?_push_size _ rfl))
  have nD : H s.heap.objs.size = none := I.hok.fresh (Nat.le_refl _)
  obtain ⟨W, ⟨m0, w0⟩, turn⟩ := h _ nD
  have ho : ∀ b ∈ fp, ∃ o, s.heap.get? b = some o := fun b hb => let ⟨o, e, _⟩ := T.obj _ _ st b hb; ⟨o, e⟩
  have hCs : X.s₀.heap.objs.size ≤ H2.objs.size := Nat.le_trans I.sz hle
  have hCl : H2.objs.size ≠ X.env.locals := (anelt I.lt hle).symm
  have hCc : ∀ x d, X.env.cells.lookup x = some d->d ≠ H2.objs.size := fun x d e => by
    obtain ⟨v, o, q, _⟩ := I.cell x d e
    exact anelt (Heap.lt_size q) hle
  have hCp : ∀ p ∈ X.pn ++ pins, p.1 ≠ H2.objs.size := fun p hp => by
    exact anelt (Heap.lt_size (I.pin p hp).1) hle
  have loop : ∀ s₃ : Shared, s₃ = { s with heap := h₁, toks := s.toks + ([] : List (Str × Value)).length } →
      codeAny (model X.prog X.w) X.A (.compLoop (.ListComp elt [⟨tg, iter, ifs, 0⟩] scope pos) 0 (.ref it) (.ref s.heap.objs.size) (compEnvC scope (clos X.env.cells scope.names []) H2.objs.size X.env))
        (compPost (model X.prog X.w) X.A E use QQ (.ref s.heap.objs.size) H2.objs.size) s₃ := by
    rintro s₃ rfl
    have I0 : Inv (X.comp scope N H2.objs.size s H fp) [] (st0 k cap σ) (upd H s.heap.objs.size (.lst [])) { s with heap := h₁, toks := s.toks + ([] : List (Str × Value)).length } :=
      I.block c hf ho (Nat.le_refl _) hle hDC rfl rfl keep hl (by simpa using hns₁)
    have stat : ∀ {H' : Hp} {ps : List (Addr × Obj)}, (∀ b ∈ fp, H' b = none)->ps = []->∀ b ∈ fp, FpOk (X.comp scope N H2.objs.size s H fp).nox ps H' b := fun hn hp b hb => by
      subst hp
      exact ⟨hn b hb, (I0.ok.exf b hb).1, I0.ok.exfs b hb, .inl hb, (I0.ok.exf b hb).2, fun p hp => by cases hp⟩
    have nok : ∀ b ∈ fp, upd H s.heap.objs.size (.lst []) b = none := fun b hb => by
      obtain ⟨o, e⟩ := ho b hb
      rw [upd_ne (anelt (Heap.lt_size e) (Nat.le_refl _))]; exact (hf b hb).1
    refine codeAny_compLoop_go (fun n s' => ∃ i σ' H' ys, Inv (X.comp scope N H2.objs.size s H fp).nox [] σ' H' s' /\ tn i s'.heap /\ (∀ b ∈ fp, H' b = none) /\ W i n σ' H' ys) ?_ m0
      ⟨0, _, _, [], I0.wish _, T.keep _ _ _ st fun b _ o e => keep b o e, nok, w0⟩
    rintro n s' ⟨i, σ', H', ys, I', st', fr', w'⟩
    rcases turn i n σ' H' ys w' with ⟨stop, q⟩ | ⟨go, NN, hNN, step⟩
    · refine wpAny_mono (T.done (X.comp scope N H2.objs.size s H fp).nox rfl rfl rfl hc i [] s' σ' H' (fun _ _ => False) I' (stat fr' rfl) st' stop) (fun r s4 ⟨hr, I4⟩ => ?_) (fun _ _ x => x.elim)
      subst hr
      exact hQ _ _ s4 H' (I.unblock hf I4.unwish) q (let ⟨m, hn, _⟩ := I4.loc; ⟨m, hn⟩) I4.free hCs hCl hCc hCp
    · refine wpAny_mono (T.item (X.comp scope N H2.objs.size s H fp).nox rfl rfl rfl hc i [] s' σ' H' (fun _ _ => False) I' (stat fr' rfl) st' go) (fun r s4 ⟨u, hr, h4⟩ => ?_) (fun _ _ x => x.elim)
      subst hr
      refine wpAny_mono h4 (fun _ s5 ⟨x, H5, I5, r5, y5, st5, fr5⟩ => ?_) (fun _ _ x => x.elim)
      have I5' := I5.pinned (stat fr5 rfl) (T.obj _ _ st5)
      refine wpAny_mono (hg _ _ _ _ _ s5 σ' H5 x u _ I5' r5 (step x H5 y5)) (fun _ s6 ⟨σ6, H6, I6, q6⟩ => ?_) (fun _ _ x => x.elim)
      refine wpAny_mono (ht _ _ _ _ _ s6 σ6 H6 _ I6 q6) (fun ok s7 ⟨H7, I7, q7⟩ => ?_) (fun _ _ x => x.elim)
      have again : ∀ {H8 : Hp} {s8 : Shared} {ys8 : List V}, Inv (X.comp scope N H2.objs.size s H fp).nox ([] ++ pinsAt fp s5.heap) σ6 H8 s8->NN σ6 H8 ys8 →
          ∃ m, m < n /\ ∃ i σ' H' ys, Inv (X.comp scope N H2.objs.size s H fp).nox [] σ' H' s8 /\ tn i s8.heap /\ (∀ b ∈ fp, H' b = none) /\ W i m σ' H' ys := fun {H8 s8 ys8} I8 n8 => by
        obtain ⟨m', hm, w8⟩ := hNN _ _ _ n8
        refine ⟨m', hm, i + 1, σ6, H8, ys8, I8.unpinned, T.keep _ _ _ st5 fun b hb o e => (I8.pin (b, o) (List.mem_append_right _ (List.mem_append_right _ (mem_pinsAt hb e)))).1, fun b hb => ?_, w8⟩
        obtain ⟨o, e, d⟩ := T.obj _ _ st5 b hb
        exact (I8.pin (b, o) (List.mem_append_right _ (List.mem_append_right _ (mem_pinsAt hb e)))).2.1
      cases ok with
      | false => exact again I7 q7
      | true =>
        refine wpAny_mono (he _ _ _ _ _ s7 σ6 H7 _ I7 q7) (fun y s8 ⟨v, H8, I8, rv, hD, hlen, w8⟩ => ?_) (fun _ _ x => x.elim)
        refine wpAny_mono (mt_append (X := (X.comp scope N H2.objs.size s H fp).nox) _ s8 σ6 H8 (.ref s.heap.objs.size) [v] (.ref s.heap.objs.size) [y] (fun _ H9 => H9 = upd H8 s.heap.objs.size (.lst (ys ++ [v]))) I8 rfl (.cons rv .nil) ⟨_, ys, v, rfl, rfl, hD, hlen, rfl⟩) (fun _ s9 ⟨_, H9, I9, _, e9⟩ => ?_) (fun _ _ x => x.elim)
        subst e9
        exact again I9 w8
  exact codeAny_compStart_list (loop _ rfl) (T.self _ 0 _ _ _ (T.keep _ _ _ st fun b _ o e => keep b o e) (loop _ rfl))
theorem pe_comp (hc : X.calm = true) (hco : compOk X.N X.env.scope scope N k cap = true) (hi : PI X tg iter wi)
    (hg : ∀ C s₀ H₀ ex, PG (X.comp scope N C s₀ H₀ ex).nox tg g) (ht : ∀ C s₀ H₀ ex, PTs (X.comp scope N C s₀ H₀ ex).nox ifs tt) (he : ∀ C s₀ H₀ ex, PE (X.comp scope N C s₀ H₀ ex).nox elt te)
    (hs : ∀ x, foldedSetIterable iter X.env x = pure x := by intro _; rfl) : PE X (.ListComp elt [⟨tg, iter, ifs, 0⟩] scope pos) (tComp k cap wi g tt te) := by
  intro pins s σ H Q I h
  have c := CompOk.of hco
  rw [eval_ListComp]
  refine wpAny_comprehension_free (use := none) (cl := clos X.env.cells scope.names []) rfl hs (closureFor_eq (I.freeCells c)) c.kind c.locs (thn (hi pins s σ H _ I h) fun xv s₁ h₁ => thn h₁ fun itv s₂ h₂ => ?_)
  obtain ⟨it, fp, tn, J, H2, e, I2, T, st, hf, q⟩ := h₂
  subst e
  exact comp_loop (use := none) hc c hg ht he I2 T st hf q fun D C s1 H' I1 q1 ⟨m, hn⟩ hCn hCs hCl hCc hCp =>
    ⟨m, hn, fun h' hs' => ⟨.ref D, H', I1.turned (t' := s1.toks) (fun b o hb e => hs'.extBut b o hb e) hCn hCl (.inr hCs) hCc hCp, rfl, q1⟩⟩
end
theorem comp_range {lo : Int} {n : Nat} (D : Addr) {g : TG} {tt : TT} {te : TE} {σ : St} {H : Hp} {R : Hp->Prop} (Pv : Nat->St->Hp->List V->Prop) (h0 : Pv 0 σ H [])
    (hs : ∀ i σ H ys, i < n->Pv i σ H ys->g (.int (lo + i)) σ H fun σ3 H3 => tt σ3 H3 fun b H4 => if b = true then
      te σ3 H4 fun y H5 => H5 D = some (.lst ys) /\ ys.length < sizeLine /\ Pv (i + 1) σ3 (upd H5 D (.lst (ys ++ [y]))) (ys ++ [y]) else Pv (i + 1) σ3 H4 ys) (hd : ∀ σ H ys, Pv n σ H ys->R H) :
    ∃ W : Nat->Nat->St->Hp->List V->Prop, (∃ m, W 0 m σ H []) /\ ∀ i m σ' H' ys, W i m σ' H' ys->((Itr lo n).stop i H' /\ R H') ∨
      ((Itr lo n).go i H' /\ ∃ N : St->Hp->List V->Prop, (∀ σ' H' ys', N σ' H' ys'->∃ m', m' < m /\ W (i + 1) m' σ' H' ys') /\ ∀ x H2, (Itr lo n).yld i H' x H2->g x σ' H2 fun σ3 H3 => tt σ3 H3 fun b H4 => if b = true then
        te σ3 H4 fun y H5 => H5 D = some (.lst ys) /\ ys.length < sizeLine /\ N σ3 (upd H5 D (.lst (ys ++ [y]))) (ys ++ [y])
        else N σ3 H4 ys) := by
  refine ⟨fun i m σ H ys => m = n - i /\ i ≤ n /\ Pv i σ H ys, ⟨n, by simp, Nat.zero_le _, h0⟩, ?_⟩
  rintro i m σ H ys ⟨rfl, hi, p⟩
  by_cases hlt : i < n
  · refine .inr ⟨hlt, Pv (i + 1), fun σ' H' ys' p' => ⟨n - (i + 1), by omega, rfl, hlt, p'⟩, fun x H' y => ?_⟩
    obtain ⟨e, y⟩ := y
    subst e y
    exact hs i σ _ ys hlt p
  · have e : i = n := by omega
    subst e
    exact .inl ⟨Nat.le_refl _, hd σ H ys p⟩
open PySem PySem.Spec PyProof.Rows
theorem Same.new {H : Hp} {p : Addr} {o : HO} (h : H p = none) : Same H (upd H p o) := fun b u e => by rw [upd_ne (ne_of_none e h)]; exact e
open PySem PySem.Spec PyProof.Rows PySem.SeqAt
def SeqEq (K : PySem.W.Frag) (H : Hp) (R : V->V->Bool->Prop) (x y : V) (b : Bool) : Prop :=
  ∃ (a c : Addr) (xs ys : List V) (e : Nat->Bool), x = .ref a /\ y = .ref c ∧
    ((SqL K H a xs /\ SqL K H c ys /\ xs.length = ys.length /\ (∀ (j : Nat) x' y', xs[j]? = some x'->ys[j]? = some y'->R x' y' (e j)) /\ b = (List.range xs.length).all e) ∨
     (SqL K H a xs /\ SqL K H c ys /\ xs.length ≠ ys.length /\ b = false) ∨
     (SqT K H a xs /\ SqT K H c ys /\ (∀ (j : Nat) x' y', xs[j]? = some x'->ys[j]? = some y'->R x' y' (e j)) /\ b = ((List.range (min xs.length ys.length)).all e && xs.length == ys.length)))
def EqI (K : PySem.W.Frag) (H : Hp) : Nat->V->V->Bool->Prop
  | 0 => fun x y b => (flatV x = true /\ flatV y = true /\ b = eqV x y) ∨ ∃ a, x = .ref a /\ y = .ref a /\ b = true
  | n + 1 => fun x y b => EqI K H n x y b ∨ (x ≠ y /\ SeqEq K H (EqI K H n) x y b)
section
variable {X : Cx} {pins : List (Addr × Obj)} {σ : St} {H : Hp} {s : Shared} {A : Around}
theorem items_at {xs ys : List V} {us vs : List Value} {R : V->V->Bool->Prop} {e : Nat->Bool} (r : Vals xs us) (q : Vals ys vs) (he : ∀ (j : Nat) x' y', xs[j]? = some x'->ys[j]? = some y'->R x' y' (e j))
    (hR : ∀ x y b u v, R x y b->RelV x u->RelV y v->EqAt A s u v b) : ∀ j (h1 : j < us.toArray.size) (h2 : j < vs.toArray.size), EqAt A s us.toArray[j] vs.toArray[j] (e j) := fun j h1 h2 => by
  have h1' : j < us.length := by simpa using h1
  have h2' : j < vs.length := by simpa using h2
  have l1 := r.length
  have l2 := q.length
  have ex : xs[j]? = some (xs[j]'(by omega)) := List.getElem?_eq_getElem (by omega)
  have ey : ys[j]? = some (ys[j]'(by omega)) := List.getElem?_eq_getElem (by omega)
  obtain ⟨u, eu, ru⟩ := Vals.get r ex
  obtain ⟨v, ev, rv⟩ := Vals.get q ey
  have e1 : us.toArray[j] = u := by
    have := (List.getElem?_eq_some_iff.mp eu).2
    simpa using this
  have e2 : vs.toArray[j] = v := by
    have := (List.getElem?_eq_some_iff.mp ev).2
    simpa using this
  rw [e1, e2]
  exact hR _ _ _ _ _ (he j _ _ ex ey) ru rv
theorem SeqEq.rc {R : V->V->Bool->Prop} {x y : V} {b : Bool} {u v : Value} (I : Inv X pins σ H s) (hR : ∀ x y b u v, R x y b->RelV x u->RelV y v->EqAt A.in1 s u v b) (hu : A.units < cLine)
    (h : SeqEq X.K H R x y b) (rx : RelV x u) (ry : RelV y v) : RcAt A s u v b := by
  obtain ⟨a, c, xs, ys, e, rfl, rfl, h⟩ := h
  cases rx
  cases ry
  rcases h with ⟨h1, h2, hl, he, rfl⟩ | ⟨h1, h2, hl, rfl⟩ | ⟨h1, h2, he, rfl⟩
  · obtain ⟨us, r, p, _⟩ := I.list h1
    obtain ⟨vs, q, p2, _⟩ := I.list h2
    have l1 := r.length
    have l2 := q.length
    have z := RcAt.lists (A := A) (e := e) p.isList p2.isList (by simp; omega) hu (items_at r q he hR)
    rw [show us.toArray.size = xs.length by simp; omega] at z
    exact z
  · obtain ⟨us, r, p, _⟩ := I.list h1
    obtain ⟨vs, q, p2, _⟩ := I.list h2
    have l1 := r.length
    have l2 := q.length
    exact RcAt.lists_lengths p.isList p2.isList (by simp; omega) hu
  · obtain ⟨us, r, p, _⟩ := I.tuple h1
    obtain ⟨vs, q, p2, _⟩ := I.tuple h2
    have l1 := r.length
    have l2 := q.length
    have z := RcAt.tuples (A := A) (e := e) (show s.heap.IsTuple a us.toArray from p) (show s.heap.IsTuple c vs.toArray from p2) hu (items_at r q he hR)
    rw [show us.toArray.size = xs.length by simp; omega, show vs.toArray.size = ys.length by simp; omega] at z
    exact z
theorem SeqEq.rcNe {R : V->V->Bool->Prop} {x y : V} {b : Bool} {u v : Value} (I : Inv X pins σ H s) (hR : ∀ x y b u v, R x y b->RelV x u->RelV y v->EqAt A.in1 s u v b) (hu : A.units < cLine)
    (h : SeqEq X.K H R x y b) (rx : RelV x u) (ry : RelV y v) : RcNeAt A s u v (!b) := by
  obtain ⟨a, c, xs, ys, e, rfl, rfl, h⟩ := h
  cases rx
  cases ry
  rcases h with ⟨h1, h2, hl, he, rfl⟩ | ⟨h1, h2, hl, rfl⟩ | ⟨h1, h2, he, rfl⟩
  · obtain ⟨us, r, p, _⟩ := I.list h1
    obtain ⟨vs, q, p2, _⟩ := I.list h2
    have l1 := r.length
    have l2 := q.length
    have z := RcNeAt.lists (A := A) (e := e) p.isList p2.isList (by simp; omega) hu (items_at r q he hR)
    rw [show us.toArray.size = xs.length by simp; omega] at z
    exact z
  · obtain ⟨us, r, p, _⟩ := I.list h1
    obtain ⟨vs, q, p2, _⟩ := I.list h2
    have l1 := r.length
    have l2 := q.length
    exact RcNeAt.lists_lengths p.isList p2.isList (by simp; omega) hu
  · obtain ⟨us, r, p, _⟩ := I.tuple h1
    obtain ⟨vs, q, p2, _⟩ := I.tuple h2
    have l1 := r.length
    have l2 := q.length
    have z := RcNeAt.tuples (A := A) (e := e) (show s.heap.IsTuple a us.toArray from p) (show s.heap.IsTuple c vs.toArray from p2) hu (items_at r q he hR)
    rw [show us.toArray.size = xs.length by simp; omega, show vs.toArray.size = ys.length by simp; omega] at z
    exact z
theorem EqI.at (I : Inv X pins σ H s) : ∀ (n : Nat) {A : Around} {x y : V} {b : Bool} {u v : Value}, A.units + n < cLine->EqI X.K H n x y b->RelV x u->RelV y v->EqAt A s u v b
  | 0, A, x, y, b, u, v, hu, h, rx, ry => by
    rcases h with ⟨fx, fy, rfl⟩ | ⟨a, rfl, rfl, rfl⟩
    · exact eqAt_V rx ry fx fy
    · cases rx
      cases ry
      exact EqAt.same _
  | n + 1, A, x, y, b, u, v, hu, h, rx, ry => by
    rcases h with h | ⟨hne, h⟩
    · exact EqI.at I n (by omega) h rx ry
    · have z := SeqEq.rc (A := A) I (fun x y b u v h rx ry => EqI.at I n (A := A.in1) (by show A.units + 1 + n < cLine; omega) h rx ry) (by omega) h rx ry
      obtain ⟨a, c, xs, ys, e, rfl, rfl, _⟩ := h
      cases rx
      cases ry
      exact EqAt.of_refs (fun e => hne (by rw [e])) z
def rEqR (K : PySem.W.Frag) : R2 := fun x y H Q => ∃ (n : Nat) (b : Bool), n ≤ 8 /\ SeqEq K H (EqI K H n) x y b /\ Q (.bl b) H
def rNeR (K : PySem.W.Frag) : R2 := fun x y H Q => ∃ (n : Nat) (b : Bool), n ≤ 8 /\ SeqEq K H (EqI K H n) x y b /\ Q (.bl (!b)) H
theorem op_eq_ref (hu : X.A.units + 64 < cLine) : OpR X (compareOp .Eq) (rEqR X.K) := by
  rintro pins s σ H x y v u Q I rx ry ⟨n, b, hn, h, q⟩
  exact SeqEq.rc (A := X.A) I (fun x y b u v h rx ry => EqI.at I n (A := X.A.in1) (by show X.A.units + 1 + n < cLine; omega) h rx ry) (by omega) h rx ry X.prog X.w X.xe _ ⟨.bl b, H, I, rfl, q⟩
theorem op_ne_ref (hu : X.A.units + 64 < cLine) : OpR X (compareOp .NotEq) (rNeR X.K) := by
  rintro pins s σ H x y v u Q I rx ry ⟨n, b, hn, h, q⟩
  exact SeqEq.rcNe (A := X.A) I (fun x y b u v h rx ry => EqI.at I n (A := X.A.in1) (by show X.A.units + 1 + n < cLine; omega) h rx ry) (by omega) h rx ry X.prog X.w X.xe _ ⟨.bl (!b), H, I, rfl, q⟩
end
theorem SeqEq.sameT {K : PySem.W.Frag} {H : Hp} {a c : Addr} {xs : List V} (h1 : SqT K H a xs) (h2 : SqT K H c xs) (hx : ∀ x ∈ xs, EqI K H n x x true) : SeqEq K H (EqI K H n) (.ref a) (.ref c) true :=
  ⟨a, c, xs, xs, fun _ => true, rfl, rfl, .inr (.inr ⟨h1, h2, fun j x y e1 e2 => by
    rw [e1] at e2; cases e2
    exact hx x (List.mem_of_getElem? e1), by simp⟩)⟩
theorem eqI_int {K : PySem.W.Frag} {H : Hp} (i : Int) : EqI K H 0 (.int i) (.int i) true := .inl ⟨rfl, rfl, by simp [eqV]⟩
theorem eqI_same {K : PySem.W.Frag} {H : Hp} (a : Addr) : EqI K H 0 (.ref a) (.ref a) true := .inr ⟨a, rfl, rfl, rfl⟩
theorem anelt' {a b n : Nat} (h1 : a < n) (h2 : n ≤ b) : a ≠ b := by omega
open PySem PySem.Spec PyProof.Rows
def Itz (K : PySem.W.Frag) (l1 l2 : Addr) : It :=
  ⟨fun i H => ∃ xs ys x y, SqL K H l1 xs /\ SqL K H l2 ys /\ xs[i]? = some x /\ ys[i]? = some y,
   fun i H v H' => ∃ T x y, H T = none /\ v = .ref T /\ H' = upd H T (.tup [x, y]) /\ (∀ xs, SqL K H l1 xs->xs[i]? = some x) /\ ∀ ys, SqL K H l2 ys->ys[i]? = some y,
   fun i H => ∃ xs ys, SqL K H l1 xs /\ SqL K H l2 ys /\ (xs.length ≤ i ∨ ys.length ≤ i)⟩
def ZipSt (z TI TO i1 i2 l1 l2 : Addr) (i : Nat) (h : Heap) : Prop :=
  IsZip h z TI TO .none /\ IsPair h TI (.ref i1) (.ref i2) /\ (∃ a b, IsPair h TO a b) /\ h.IsListIter i1 l1 i /\ h.IsListIter i2 l2 i
theorem Inv.turnedMany {X : Cx} {pins : List (Addr × Obj)} {σ : St} {H : Hp} {s : Shared} {h' : Heap} {t' : Nat} {ch : List Addr} (I : Inv X pins σ H s) (k : ∀ b o, b ∉ ch->s.heap.get? b = some o->h'.get? b = some o) (hf : ∀ b ∈ ch, FpOk X pins H b) :
    Inv X pins σ H { s with heap := h', toks := t' } := by
  have nit : ∀ b u, H b = some u->b ∉ ch := fun b u e z => by rw [(hf b z).1] at e; cases e
  refine I.step (g' := s.gens) (d' := s.drawn) (ch := ch) (fun b hb => ⟨(hf b hb).2.2.2.1, (hf b hb).2.1, (hf b hb).2.2.2.2.1, (hf b hb).2.2.2.2.2⟩) (fun b o _ _ hc e _ => k b o hc e) (fun b o _ _ hc e _ => ⟨o.slots, k b o hc e⟩) (fun _ _ _ _ n => n)
    (fun b o hc e => ⟨o, k b o hc e⟩) (fun _ _ e => e) (fun _ _ _ e => e) (fun b ps e => ⟨#[], by rw [e]; simp⟩) (fun m hm => ?_) (fun b u e => ?_) I.bare
  · obtain ⟨o, es, ep, ho, r⟩ := hm
    exact ⟨o, es, ep, k _ o (fun z => (hf _ z).2.1 rfl) ho, r⟩
  · refine (I.hok b u e).stay (fun c v hc q => k c v ?_ q) (fun _ q => q) fun _ _ q => q
    rcases hc with z | z
    · rw [z]; exact nit b u e
    · exact nit c _ z
theorem Inv.turnedLaid {X : Cx} {pins : List (Addr × Obj)} {σ : St} {H : Hp} {s : Shared} {h' : Heap} {t' : Nat} {ch : List Addr} {T : Addr} {u : HO} (I : Inv X pins σ H s) (k : ∀ b o, b ∉ ch->s.heap.get? b = some o->h'.get? b = some o) (hf : ∀ b ∈ ch, FpOk X pins H b)
    (hT : s.heap.objs.size ≤ T) (new : ObjOk X.prog X.w (upd H T u) h' T u) : Inv X pins σ (upd H T u) { s with heap := h', toks := t' } := by
  have hn : H T = none := I.hok.fresh hT
  have nit : ∀ b u, H b = some u->b ∉ ch := fun b u e z => by rw [(hf b z).1] at e; cases e
  have nT : ∀ b o, s.heap.get? b = some o->b ≠ T := fun b o e => anelt' (Heap.lt_size e) hT
  refine I.step (g' := s.gens) (d' := s.drawn) (ch := ch) (fun b hb => ⟨(hf b hb).2.2.2.1, (hf b hb).2.1, (hf b hb).2.2.2.2.1, (hf b hb).2.2.2.2.2⟩) (fun b o _ _ hc e _ => k b o hc e) (fun b o _ _ hc e _ => ⟨o.slots, k b o hc e⟩) (fun b o _ e n => by rw [upd_ne (nT b o e)]; exact n)
    (fun b o hc e => ⟨o, k b o hc e⟩) (fun b xs e => by rw [upd_ne (ne_of_none e hn)]; exact e) (fun b o xs e => by rw [upd_ne (ne_of_none e hn)]; exact e) (fun b ps e => ⟨#[], by rw [upd_ne (ne_of_none e hn), e]; simp⟩) (fun m hm => ?_) (fun b v e => ?_) I.bare
  · obtain ⟨o, es, ep, ho, r⟩ := hm
    exact ⟨o, es, ep, k _ o (fun z => (hf _ z).2.1 rfl) ho, r⟩
  · by_cases hb : b = T
    · subst hb; rw [upd_same] at e; cases e; exact new
    · rw [upd_ne hb] at e
      refine (I.hok b v e).stay (fun c v hc q => k c v ?_ q) (fun c q => by rw [upd_ne (ne_of_none q hn)]; exact q) fun c xs q => by rw [upd_ne (ne_of_none q hn)]; exact q
      rcases hc with z | z
      · rw [z]; exact nit b _ e
      · exact nit c _ z
theorem turn_zip {P : Program} {w : World} {K : PySem.W.Frag} {es : List Expr} {x1} {tp : Pos} (z TI TO i1 i2 l1 l2 : Addr) (D : ZipApart z TI TO i1 i2 l1 l2) :
    Turn P w K (.Tuple es x1 tp) (Itz K l1 l2) [z, TI, TO, i1, i2] z (ZipSt z TI TO i1 i2 l1 l2) where
  mem := by simp
  obj := fun i h st b hb => by
    obtain ⟨h1, h2, ⟨_, _, h3⟩, h4, h5⟩ := st
    simp only [List.mem_cons, List.not_mem_nil, or_false] at hb
    rcases hb with rfl | rfl | rfl | rfl | rfl
    · exact ⟨_, h1, fun v q => nomatch q⟩
    · exact ⟨_, h2, fun v q => nomatch q⟩
    · exact ⟨_, h3, fun v q => nomatch q⟩
    · obtain ⟨o, e, _, d⟩ := h4
      exact ⟨o, e, fun v q => by rw [d] at q; cases q⟩
    · obtain ⟨o, e, _, d⟩ := h5
      exact ⟨o, e, fun v q => by rw [d] at q; cases q⟩
  keep := fun i h h' st k => by
    obtain ⟨h1, h2, ⟨a, b, h3⟩, ⟨o4, e4, r4⟩, ⟨o5, e5, r5⟩⟩ := st
    exact ⟨k z (by simp) _ h1, k TI (by simp) _ h2, ⟨a, b, k TO (by simp) _ h3⟩, ⟨o4, k i1 (by simp) _ e4, r4⟩, ⟨o5, k i2 (by simp) _ e5, r5⟩⟩
  item := by
    intro X hP hw hK hc i pins s σ H E I hf st hg
    subst hP hw hK
    obtain ⟨h1, h2, ⟨a, b, h3⟩, h4, h5⟩ := st
    obtain ⟨xs, ys, x, y, hx, hy, ex, ey⟩ := hg
    obtain ⟨us, rx, px, _⟩ := I.list hx
    obtain ⟨vs, ry, py, _⟩ := I.list hy
    obtain ⟨u, eu, ru⟩ := Vals.get rx ex
    obtain ⟨v, ev, rv⟩ := Vals.get ry ey
    refine wpAny_pyNext_zip_item D h1 h2 h3 h4 h5 px.isList py.isList (by simpa using eu) (by simpa using ev) fun h' z1 z2 z3 z4 z5 z6 kk => ?_
    refine ⟨_, rfl, wpAny_letOwnedTupleGo_zip z1 fun h'' y1 sb => ?_⟩
    have lt : ∀ b ∈ [z, TI, TO, i1, i2], b < s.heap.objs.size := fun b hb => by
      simp only [List.mem_cons, List.not_mem_nil, or_false] at hb
      rcases hb with rfl | rfl | rfl | rfl | rfl
      · exact Heap.lt_size h1
      · exact Heap.lt_size h2
      · exact Heap.lt_size h3
      · obtain ⟨o, e, _⟩ := h4; exact Heap.lt_size e
      · obtain ⟨o, e, _⟩ := h5; exact Heap.lt_size e
    have nz : s.heap.objs.size ≠ z := (anelt' (lt z (by simp)) (Nat.le_refl _)).symm
    have keep : ∀ c o, c ∉ [z, TI, TO, i1, i2]->s.heap.get? c = some o->h''.get? c = some o := fun c o hc e => by
      simp only [List.mem_cons, List.not_mem_nil, or_false, not_or] at hc
      exact sb.extBut c o hc.1 (kk c o hc.1 hc.2.2.1 hc.2.2.2.1 hc.2.2.2.2 e)
    have nT : H s.heap.objs.size = none := I.hok.fresh (Nat.le_refl _)
    have hT : h''.get? s.heap.objs.size = some { cls := .type "tuple", data := .seq #[u, v] } := sb.extBut _ _ nz z5
    have I2 : Inv X pins σ (upd H s.heap.objs.size (.tup [x, y])) { s with heap := h'', toks := s.toks } :=
      I.turnedLaid (ch := [z, TI, TO, i1, i2]) keep hf (Nat.le_refl _) ⟨by show 2 ≤ sizeLine; decide, [u, v], .cons ru (.cons rv .nil), ⟨_, hT, rfl, 0, rfl⟩⟩
    refine ⟨.ref s.heap.objs.size, _, I2, rfl, ⟨_, x, y, nT, rfl, rfl, fun xs' h => ?_, fun ys' h => ?_⟩, ⟨y1, ?_, ⟨u, v, ?_⟩, ?_, ?_⟩, fun b hb => ?_⟩
    · rw [I.list_inj h hx]; exact ex
    · rw [I.list_inj h hy]; exact ey
    · exact sb.extBut _ _ D.TIz (kk _ _ D.TIz D.TITO D.TIi1 D.TIi2 h2)
    · exact sb.extBut _ _ D.TOz z2
    · obtain ⟨o, e, r⟩ := z3; exact ⟨o, sb.extBut _ _ D.i1z e, r⟩
    · obtain ⟨o, e, r⟩ := z4; exact ⟨o, sb.extBut _ _ D.i2z e, r⟩
    · rw [upd_ne (anelt' (lt b hb) (Nat.le_refl _))]; exact (hf b hb).1
  done := by
    intro X hP hw hK hc i pins s σ H E I hf st hg
    subst hP hw hK
    obtain ⟨h1, h2, ⟨a, b, h3⟩, h4, h5⟩ := st
    obtain ⟨xs, ys, hx, hy, hl⟩ := hg
    obtain ⟨us, rx, px, _⟩ := I.list hx
    obtain ⟨vs, ry, py, _⟩ := I.list hy
    have l1 := rx.length
    have l2 := ry.length
    refine wpAny_pyNext_zip_end (I.ok.hd hc) D h1 h2 h3 h4 h5 px.isList py.isList (by simp; omega) fun h' kk => ⟨rfl, ?_⟩
    exact I.turnedMany (t' := s.toks) (ch := [z, TI, TO, i1, i2]) (fun c o hc e => by
      simp only [List.mem_cons, List.not_mem_nil, or_false, not_or] at hc
      exact kk c o hc.1 hc.2.2.1 hc.2.2.2.1 hc.2.2.2.2 e) hf
  self := fun _ _ _ _ _ st h => wpAny_pyIter_zip st.1 h
theorem zip_apart {n l1 l2 : Nat} (h1 : l1 < n) (h2 : l2 < n) : ZipApart (n + 4) (n + 2) (n + 3) n (n + 1) l1 l2 := by
  constructor <;> (show ¬ (_ : Nat) = _) <;> omega
def iZip (K : PySem.W.Frag) (ta : TA) : TI := fun σ H R => ta σ H fun vs H1 => ∃ l1 l2, vs = [.ref l1, .ref l2] /\ (∃ xs, SqL K H1 l1 xs) /\ (∃ ys, SqL K H1 l2 ys) /\ R (Itz K l1 l2) H1
theorem pi_zip {X : Cx} {a b : Expr} {ta : TA} {p pos : Pos} {es : List Expr} {x1} {tp : Pos} (hg : Gl X "zip") (hm : X.mg "zip" = none) (ha : PA X [a, b] ta) (hs : starEach [a, b] X.env = (false, eval a X.env) :: starEach [b] X.env := by rfl) (hs2 : (backTo pos (starEach [b] X.env)).any (·.1) = false := by rfl) :
    PI X (.Tuple es x1 tp) (.Call (.Name "zip" p) [a, b] [] pos) (iZip X.K ta) := by
  intro pins s σ H R I h
  refine Call_ (ld_blt I hg hm boot_zip (PyProof.Rows.callWith_type1 (thn (ha pos pins s σ H _ I h) fun us s1 ⟨vs, H1, I1, r1, q1⟩ => ?_) hs hs2))
  obtain ⟨l1, l2, e, ⟨xs, hx⟩, ⟨ys, hy⟩, q⟩ := q1
  subst e
  obtain ⟨u, v, rfl, ru, rv⟩ := vals2 r1
  cases ru
  cases rv
  obtain ⟨us1, rx, px, _⟩ := I1.list hx
  obtain ⟨vs1, ry, py, _⟩ := I1.list hy
  have ll1 : l1 < s1.heap.objs.size := by obtain ⟨o, e, _⟩ := px.isList; exact Heap.lt_size e
  have ll2 : l2 < s1.heap.objs.size := by obtain ⟨o, e, _⟩ := py.isList; exact Heap.lt_size e
  refine call_zip_2 px.isList py.isList fun h' z1 z2 z3 z4 z5 z6 kk => ?_
  refine wpAny_pyIter_zip z1 ?_
  have I2 : Inv X pins σ H1 { s1 with heap := h', toks := s1.toks } := I1.kept kk
  refine ⟨s1.heap.objs.size + 4, _, _, _, H1, rfl, I2, turn_zip (s1.heap.objs.size + 4) (s1.heap.objs.size + 2) (s1.heap.objs.size + 3) s1.heap.objs.size (s1.heap.objs.size + 1) l1 l2 (zip_apart ll1 ll2), ⟨z1, z2, ⟨_, _, z3⟩, z4, z5⟩, fun b hb => ?_, q⟩
  have hbs : s1.heap.objs.size ≤ b := by
    simp only [List.mem_cons, List.not_mem_nil, or_false] at hb
    rcases hb with h | h | h | h | h <;> rw [h] <;> first | exact Nat.le_refl _ | exact Nat.le_add_right _ _
  exact I1.fpOk hbs (I1.hok.fresh hbs)
theorem for_zip {K : PySem.W.Frag} {l1 l2 : Addr} {xs ys : List V} {g : TG} {tb : TS} {D : Ends} {σ : St} {H : Hp} (Pv : Nat->St->Hp->Prop) (h0 : Pv 0 σ H) (hl : ∀ i σ H, Pv i σ H->SqL K H l1 xs /\ SqL K H l2 ys) (hlen : xs.length = ys.length)
    (hs : ∀ i x y σ H T, xs[i]? = some x->ys[i]? = some y->Pv i σ H->H T = none->g (.ref T) σ (upd H T (.tup [x, y])) fun σ2 H2 => tb { D with nx := Pv (i + 1), ct := Pv (i + 1), bk := D.nx } σ2 H2) (hd : ∀ σ H, Pv xs.length σ H->D.nx σ H) :
    ∃ W : Nat->Nat->St->Hp->Prop, (∃ m, W 0 m σ H) /\ ∀ i m σ H, W i m σ H →
      ((Itz K l1 l2).stop i H /\ D.nx σ H) ∨ ((Itz K l1 l2).go i H /\ ∃ N : St->Hp->Prop, (∀ σ' H', N σ' H'->∃ m', m' < m /\ W (i + 1) m' σ' H') /\ ∀ x H', (Itz K l1 l2).yld i H x H'->g x σ H' fun σ2 H2 => tb { D with nx := N, ct := N, bk := D.nx } σ2 H2) := by
  refine ⟨fun i m σ H => m = xs.length - i /\ i ≤ xs.length /\ Pv i σ H, ⟨xs.length, by simp, Nat.zero_le _, h0⟩, ?_⟩
  rintro i m σ H ⟨rfl, hi, p⟩
  obtain ⟨q1, q2⟩ := hl i σ H p
  by_cases hlt : i < xs.length
  · have ex : xs[i]? = some xs[i] := List.getElem?_eq_getElem hlt
    have ey : ys[i]? = some (ys[i]'(by omega)) := List.getElem?_eq_getElem (by omega)
    refine .inr ⟨⟨xs, ys, _, _, q1, q2, ex, ey⟩, Pv (i + 1), fun σ' H' p' => ⟨xs.length - (i + 1), by omega, rfl, hlt, p'⟩, ?_⟩
    rintro v H' ⟨T, x, y, nT, rfl, rfl, hx, hy⟩
    exact hs i x y σ H T (hx xs q1) (hy ys q2) p nT
  · have e : i = xs.length := by omega
    subst e
    exact .inl ⟨⟨xs, ys, q1, q2, .inl (Nat.le_refl _)⟩, hd σ H p⟩
open PySem PySem.Spec PyProof.Rows
def veTail : List Value := [.type "ValueError", .type "Exception", .type "BaseException", .type "object"]
def isRefV : Value->Bool
  | .ref _ => true
  | _ => false
def excMro (l : List Value) : Bool := l.dropWhile isRefV == veTail
theorem excMro_at {l : List Value} (h : excMro l = true) : ∃ rs : List Addr, l = rs.map Value.ref ++ veTail := by
  induction l with
  | nil => exact absurd h (by decide)
  | cons x r ih =>
    unfold excMro at h
    by_cases hx : isRefV x = true
    · rw [List.dropWhile_cons, if_pos hx] at h
      obtain ⟨rs, e⟩ := ih h
      cases x <;> first | cases hx | skip
      rename_i a
      exact ⟨a :: rs, by rw [e]; rfl⟩
    · rw [List.dropWhile_cons, if_neg hx] at h
      exact ⟨[], by rw [beq_iff_eq.mp h]; rfl⟩
theorem excMro_has {T : String} (hT : veTail.contains (.type T) = true) {l : List Value} (h : excMro l = true) : l.contains (.type T) = true := by
  obtain ⟨rs, rfl⟩ := excMro_at h
  rw [List.contains_eq_mem]
  simp only [List.contains_eq_mem, decide_eq_true_eq] at hT ⊢
  exact List.mem_append_right _ hT
theorem excMro_ne {l : List Value} (h : excMro l = true) : l.isEmpty = false := by
  cases l with
  | nil => exact absurd h (by decide)
  | cons _ _ => rfl
def xobjIn (K : PySem.W.Frag) (C : Addr) : Bool := match K.lookup C with
  | some ⟨.type "type", _, .cls cd, sl⟩ => (match cd.mro, sl.toList with
    | .ref D :: bm, [_, _, _, _, some (.builtin n), _] => D == C && !cd.hasDel && excMro bm && n == "ValueError.__new__" && cd.hasDict
    | _, _ => false)
  | _ => false
structure XObj (h : Heap) (C : Addr) : Prop where
  ex : ∃ nm q N bs bm sn sub ab col dd k0 k1 k2 k3 k5, h.get? C = some (excClassObj nm q C N bs bm true sn sub ab col dd k0 k1 k2 k3 k5 "ValueError.__new__") /\ excMro bm = true
theorem xobj_of {K : PySem.W.Frag} {C : Addr} (q : xobjIn K C = true) : ∃ nm qn N bs bm sn sub ab col dd k0 k1 k2 k3 k5, K.lookup C = some (excClassObj nm qn C N bs bm true sn sub ab col dd k0 k1 k2 k3 k5 "ValueError.__new__") /\ excMro bm = true := by
  unfold xobjIn at q
  split at q
  · rename_i dd cd sl ho
    split at q
    · rename_i D bm k0 k1 k2 k3 n k5 hm hs
      simp only [Bool.and_eq_true, beq_iff_eq, Bool.not_eq_true'] at q
      obtain ⟨⟨⟨⟨rfl, hdel⟩, hb⟩, rfl⟩, hd⟩ := q
      obtain ⟨nm, bs, mro, ns, qn, hd', sn, sub, ab, col, del⟩ := cd
      dsimp only at hm hdel hd
      subst hm hdel hd
      have hsl : sl = #[k0, k1, k2, k3, some (.builtin "ValueError.__new__"), k5] := by
        obtain ⟨l⟩ := sl
        simp only at hs
        rw [hs]
      subst hsl
      exact ⟨nm, qn, ns, bs, bm, sn, sub, ab, col, dd, k0, k1, k2, k3, k5, ho, hb⟩
    · cases q
  · cases q
structure XCls (K : PySem.W.Frag) (C : Addr) : Prop where
  obj : xobjIn K C = true
  sa : PySem.W.findIn K (.ref C) "__setattr__" = some (some (.builtin "object.__setattr__"))
  ga : PySem.W.findIn K (.ref C) "__getattribute__" = some (some (.builtin "BaseException.__getattribute__"))
  gh : PySem.W.findIn K (.ref C) "__getattr__" = some none
  cl : PySem.W.findIn K (.ref C) "__class__" = some (some (.builtin "object.__class__"))
  clg : PySem.W.specialIn K (.builtin "object.__class__") "__get__" = some (some (.builtin "getset_descriptor.__get__"))
  clt : PySem.W.takesIn K (.builtin "object.__class__") = some true
theorem excMro_cons {C : Addr} {bm : List Value} (h : excMro bm = true) : excMro (.ref C :: bm) = true := h
theorem XCls.mro {K : PySem.W.Frag} {C : Addr} (c : XCls K C) : ∃ cd, PySem.W.clsIn K C = some cd /\ excMro cd.mro = true /\ cd.hasDict = true := by
  obtain ⟨nm, qn, N, bs, bm, sn, sub, ab, col, dd, k0, k1, k2, k3, k5, ho, hb⟩ := xobj_of c.obj
  refine ⟨{ name := nm, bases := bs, mro := .ref C :: bm, ns := N, qualname := qn, hasDict := true, slotNames := sn, subclasses := sub, abstract := ab, collection := col, hasDel := false }, ?_, excMro_cons (C := C) hb, rfl⟩
  unfold PySem.W.clsIn
  rw [ho]
theorem XCls.at {K : PySem.W.Frag} {C : Addr} {h : Heap} (c : XCls K C) (X : K.In h) : XObj h C := by
  obtain ⟨nm, qn, N, bs, bm, sn, sub, ab, col, dd, k0, k1, k2, k3, k5, ho, hb⟩ := xobj_of c.obj
  exact ⟨nm, qn, N, bs, bm, sn, sub, ab, col, dd, k0, k1, k2, k3, k5, X _ _ ho, hb⟩
theorem XCls.has {K : PySem.W.Frag} {C : Addr} (c : XCls K C) {T : String} (hT : veTail.contains (.type T) = true) : PySem.W.mroIn K C (.type T) = some true := by
  obtain ⟨cd, h1, h2, _⟩ := c.mro
  unfold PySem.W.mroIn
  rw [h1, Option.bind_some, if_neg (by rw [excMro_ne h2]; decide), excMro_has hT h2]
section
variable {prog : Program} {w : World} {A : Around} {E : Value->Shared->Prop} {s : Shared} {K : PySem.W.Frag} {x C : Addr} {ox : Obj} {od : Option Obj} {name : Str} {v : Value}
theorem xget_class {Q : Option Value->Shared->Prop} (X : K.In s.heap) (I : PySem.W.InstAt s.heap x ox C od) (c : XCls K C) (h : Q (some (.ref C)) { s with toks := s.toks + 1 }) :
    wpAny (model prog w) A (getAttr? (.ref x) "__class__") Q E s := by
  obtain ⟨cd, hcd, _⟩ := c.mro
  have hf : PySem.W.findObj K C od "__class__" = some (.bind (.builtin "getset_descriptor.__get__") (.builtin "object.__class__")) := by
    unfold PySem.W.findObj
    rw [hcd, Option.bind_some, c.cl, Option.bind_some]
    dsimp only
    rw [c.clg, Option.bind_some]
    dsimp only
    rw [c.clt, Option.bind_some]
  obtain ⟨hp, g, d, t, os⟩ := s
  have L0 := I.type (M := model prog w)
  have L1 := PySem.W.looks_findIn (M := model prog w) X c.ga
  have L2 := PySem.W.looks_findIn (M := model prog w) X c.gh
  have L3 := PySem.W.looks_find (M := model prog w) X I hf
  have LB : PySem.W.Looks (model prog w) hp (isInstance (.ref x) (.type "BaseException")) true := L0.andThen (PySem.W.looks_mroIn X (c.has (by decide)))
  have hx1 : (onTheHeap (Value.ref C) && Value.builtin "BaseException.__getattribute__" == Value.builtin "object.__getattribute__") = false := by
    have : (Value.builtin "BaseException.__getattribute__" == Value.builtin "object.__getattribute__") = false := by decide +kernel
    rw [this, Bool.and_false]
  have hb := PySem.F.excAttr_ValueError.ga.bind (.ref x)
  unfold getAttr? getAttrBy? getAttrBy
  refine wpAny_bind (wpAny_mkText (wpAny_bind (wpAny_attempt (wpAny_holding (wpAny_bind (L0.at (wpAny_bind (L1.at ?_))))))))
  dsimp only
  rw [hx1, if_neg (by decide)]
  unfold getAttrByItsOwn
  refine wpAny_bind (m := hookBefore (.ref C)) ?_
  show wpAny _ _ (typeLookup (.ref C) "__getattr__") _ _ _
  refine L2.at ?_
  refine wpAny_bind (wpAny_attempt (wpAny_holding ?_))
  unfold callGetattribute
  rw [if_neg (by decide)]
  unfold boundAndCalled
  rw [hb]
  refine wpAny_bind (wpAny_pure ?_)
  refine wpAny_call (codeAny_call_builtin PySem.F.excAttr_ValueError.ga.plain PySem.F.entry_bexc_ga (@PySem.W.check_slot (model prog w) _ _ _ "BaseException.__getattribute__" "BaseException" "__getattribute__" (.ref x) _ [] _ (by decide +kernel) (by decide +kernel) LB (PySem.F.args_bexc_ga _ _) ?_))
  unfold Builtin.«object.__getattribute__»
  refine wpAny_bind (wpAny_pure (wpAny_bind (wpAny_pure (wpAny_bind (L0.at (wpAny_bind (L3.at ?_)))))))
  show wpAny _ _ (Builtin.ObjectAttr.bindTo _ _ _ _) _ _ _
  unfold Builtin.ObjectAttr.bindTo
  refine wpAny_bind (wpAny_holding (wpAny_call (PySem.W.class_get (s := ⟨hp, g, d, t + 1, os⟩) X I (c.has (by decide)) ?_)))
  refine wpAny_pure ?_
  show wpAny _ _ (handedOut (.ref C)) _ _ _
  rw [PySem.W.handedOut_of rfl]
  exact wpAny_pure (wpAny_pure h)
theorem kitx_exc (c : XCls K C) {h₁ : Heap->Prop} (hI : ∀ h, h₁ h->∃ ox od, PySem.W.InstAt h x ox C od) : PySem.W.KitX K (.ref x) (.ref C) h₁ where
  ty := fun _ _ _ I => let ⟨_, _, J⟩ := hI _ I; J.type
  it := fun _ _ X _ => by
    obtain ⟨cdD, hcD, _⟩ := c.mro
    unfold PySem.W.clsIn at hcD
    split at hcD
    · rename_i c' d' cd' sl' ho
      intro A' Q' E' s' k q
      unfold isType loadHead
      exact wpAny_bind (wpAny_loadPart (k _ _ (X _ _ ho)) (wpAny_pure q))
    · cases hcD
  ne := fun h tp dd its n sl X htp => by
    obtain ⟨cdD, hcD, _⟩ := c.mro
    refine Bool.eq_false_iff.mpr fun q => ?_
    have e : C = tp := Value.ref.inj (beq_iff_eq.mp q)
    subst e
    unfold PySem.W.clsIn at hcD
    split at hcD
    · rename_i c' d' cd' sl' ho
      have z := (X _ _ ho).symm.trans htp
      cases z
    · cases hcD
  ca := fun X p k => let ⟨_, _, J⟩ := hI _ p; xget_class X J c k
end
open PySem PySem.Spec PyProof.Rows
abbrev excNew (C t : Addr) : Obj := { cls := .ref C, data := .fields #[.ref t, .none, .none, .none, .bool false, .none] }
abbrev tupNew (rest : List Value) : Obj := { cls := .type "tuple", data := .seq rest.toArray }
theorem own_has {C : Addr} {bm : List Value} (hb : excMro bm = true) {T : String} (hT : veTail.contains (.type T) = true) : (Value.ref C :: bm).contains (.type T) = true := by
  rw [List.contains_cons, excMro_has hT hb, Bool.or_true]
theorem own_not {C : Addr} {bm : List Value} (hb : excMro bm = true) {T : String} (hT : veTail.contains (.type T) = false) : (Value.ref C :: bm).contains (.type T) = false := by
  obtain ⟨rs, rfl⟩ := excMro_at hb
  rw [List.contains_cons, List.contains_eq_mem, decide_eq_false, Bool.or_false]
  · rfl
  · intro hm
    rcases List.mem_append.mp hm with h | h
    · obtain ⟨a, _, e⟩ := List.mem_map.mp h
      cases e
    · rw [List.contains_eq_mem] at hT
      exact (of_decide_eq_false hT) h
section
variable {prog : Program} {w : World} {A : Around} {E : Value->Shared->Prop} {h : Heap} {g : Array GenState} {d : Drawn} {t : Nat} {os : OsState} {K : PySem.W.Frag} {C f : Addr}
variable {nm q : Str} {N : Addr} {bs bm : List Value} {sn : List Str} {sub : List Value} {ab : Bool} {col : Option Bool} {dd : Option Addr} {k0 k1 k2 k3 k5 : Option Value}
theorem xcheck_new {M : Model} {rest : List Value} {Q : Unit->Shared->Prop} (hb : excMro bm = true) (hC : h.get? C = some (excClassObj nm q C N bs bm true sn sub ab col dd k0 k1 k2 k3 k5 "ValueError.__new__")) (hq : Q () ⟨h, g, d, t, os⟩) :
    wpAny M A (checkBuiltinCall "ValueError.__new__" ⟨.ref C :: rest, []⟩) Q E ⟨h, g, d, t, os⟩ := by
  have F := PySem.F.excBase_ValueError
  have hcont := own_has (C := C) hb (T := "ValueError") (by decide)
  have hstar := F.noStar
  simp only [checkBuiltinCall, F.newKind, F.newSplit, F.newRow]
  repeat (first
    | refine wpAny_loadPart_at hC ?_
    | (refine wpAny_isSubtype_exc hC ?_; rw [hcont])
    | refine wpAny_staticBase_exc hC ?_
    | refine wpAny_madeBy_exc hC ?_
    | simp only [bne_self_eq_false, Bool.false_eq_true, if_false]
    | wp_step)
  exact hq
theorem xcode_new {R : Result->Shared->Prop} {rest : List Value} (hb : excMro bm = true) (hC : h.get? C = some (excClassObj nm q C N bs bm true sn sub ab col dd k0 k1 k2 k3 k5 "ValueError.__new__")) (hrest : rest.length ≤ sizeLine)
    (hq : R (.ok (.ret (.ref (h.objs.size + 1)))) ⟨(h.push (tupNew rest)).push (excNew C h.objs.size), g, d, t, os⟩) :
    codeAny (model prog w) A (.builtin "ValueError.__new__" ⟨.ref C :: rest, []⟩) R ⟨h, g, d, t, os⟩ := by
  have F := PySem.F.excBase_ValueError
  have hends := F.ends
  have hcB := own_has (C := C) hb (T := "ValueError") (by decide)
  have hcA := own_not (C := C) hb (T := "AttributeError") (by decide)
  have hcN := own_not (C := C) hb (T := "NameError") (by decide)
  refine codeAny_builtinAt F.entry ?_
  unfold Builtin.«BaseException.__new__»
  refine PySem.wpAt_bind ?_
  show PySem.wpAt _ _ _ (stack >>= _) _ _ _
  refine PySem.wpAt_bind (PySem.wpAt_stack fun p below => PySem.wpAt_of_wpAny ?_)
  wp_walk
  refine PySem.wpAt_of_wpAny ?_
  rw [F.owner]
  repeat (first
    | with_reducible refine wpAny_madeHere_exc F.canon hC ?_
    | with_reducible refine wpAny_loadPart_at hC ?_
    | (with_reducible refine wpAny_isSubtype_exc hC ?_; first | rw [hcB] | rw [hcA] | rw [hcN])
    | wp_step)
  show R _ _
  rw [Heap.size_push]
  exact hq
theorem xkeeps {rest : List Value} : ∀ b o, h.get? b = some o->((h.push (tupNew rest)).push (excNew C h.objs.size)).get? b = some o := fun b o e => Heap.get?_push_of_some _ (Heap.get?_push_of_some _ e)
theorem xnew_at {rest : List Value} : ((h.push (tupNew rest)).push (excNew C h.objs.size)).get? (h.objs.size + 1) = some (excNew C h.objs.size) := by
  have := Heap.get?_push_size (h.push (tupNew rest)) (o := excNew C h.objs.size) rfl
  rwa [Heap.size_push] at this
end
open PySem PySem.Spec PyProof.Rows
def IsExc (raw : Bool) (e C : Addr) (od : Option Addr) (h : Heap) : Prop := ∃ vs sl, h.get? e = some ⟨.ref C, od, .fields vs, sl⟩ /\ vs.size = 6 /\ (raw = true->vs[1]? = some .none)
def IsXd (dx : Addr) (fs : List (Str × V)) (h : Heap) : Prop := ∃ mA, h.Ns1 dx mA /\ (∀ f, RelO (fs.lookup f) (mA f)) /\ PySem.Within mA (fs.map (·.1))
abbrev exO (raw : Bool) (e C : Addr) (od : Option Addr) : HO := .ext (IsExc raw e C od)
abbrev xdO (dx : Addr) (fs : List (Str × V)) : HO := .ext (IsXd dx fs)
def ExcAt (H : Hp) (e C : Addr) (fs : List (Str × V)) : Prop := ∃ raw od, H e = some (exO raw e C od) /\ match od with
  | none => fs = []
  | some dx => H dx = some (xdO dx fs) /\ dx ≠ e
section
variable {P : Program} {w : World} {H : Hp} {h : Heap} {e C dx : Addr} {od : Option Addr} {raw : Bool} {fs : List (Str × V)}
theorem objOk_exc (x : IsExc raw e C od h) : ObjOk P w H h e (exO raw e C od) := by
  refine ⟨x, ?_, ?_⟩
  · obtain ⟨vs, sl, q, _⟩ := x
    exact ⟨_, q⟩
  · rintro h1 h2 ⟨vs, sl, q, r⟩ k
    exact ⟨vs, sl, k _ q, r⟩
theorem exc_of (x : HOk P w H h) (q : H e = some (exO raw e C od)) : IsExc raw e C od h := (x e _ q).1
theorem xd_of (x : HOk P w H h) (q : H dx = some (xdO dx fs)) : IsXd dx fs h := (x dx _ q).1
end
section
variable {X : Cx} {pins : List (Addr × Obj)} {σ : St} {H : Hp} {s : Shared} {a C dx : Addr} {od : Option Addr} {raw : Bool} {fs : List (Str × V)} {f : Str} {v : V} {A : Around} {E : Value->Shared->Prop}
theorem ExcAt.inst (I : Inv X pins σ H s) (e : ExcAt H a C fs) : ∃ ox od, PySem.W.InstAt s.heap a ox C od /\ ∀ f v, fs.lookup f = some v->∃ o u, od = some o /\ PySem.W.lookIn f o = some (some u) /\ RelV v u := by
  obtain ⟨raw, od, h1, h2⟩ := e
  obtain ⟨vs, sl, q, _⟩ := exc_of I.hok h1
  cases od with
  | none =>
    subst h2
    exact ⟨_, none, ⟨q, rfl, rfl, trivial⟩, fun f v h => by simp at h⟩
  | some dx =>
    obtain ⟨mA, n, r, _⟩ := xd_of I.hok h2.1
    obtain ⟨o, ho, hl⟩ := lookIn_ns n
    refine ⟨_, some o, ⟨q, rfl, rfl, ho⟩, fun f v h => ?_⟩
    obtain ⟨u, hu, ru⟩ := RelO.some_of (v := v) (o := mA f) (by rw [← h]; exact r f)
    exact ⟨o, u, rfl, by rw [hl, hu], ru⟩
end
section
variable {X : Cx} {o e value : Expr} {f : Str} {pos pos' : Pos} {ta tv : TE}
theorem call_isinstX : CallR X (.builtin "isinstance") (fun xs H Q => ∃ a C fs c cv b, xs = [.ref a, c] /\ clsV c = some cv /\ ExcAt H a C fs /\ XCls X.K C /\ PySem.W.kitOne X.K (.ref C) cv = some b /\ Q (.bl b) H) := by
  rintro pins s σ H xs us Q I r ⟨a, C, fs, c, cv, b, rfl, hc, ea, cl, e, q⟩
  obtain ⟨u, v, rfl, ru, rv⟩ := vals2 r
  have hv : v = cv := by
    cases c <;> simp [clsV] at hc <;> subst hc <;> exact rv
  subst hv
  cases (show u = Value.ref a from ru)
  exact PySem.W.kia_one (kitx_exc (h₁ := fun h => ∃ ox od, PySem.W.InstAt h a ox C od) cl fun _ z => z) I.kIn (let ⟨ox, od, J, _⟩ := ea.inst I; ⟨ox, od, J⟩) e (fun z => nomatch z) fun tk => ⟨.bl b, H, I.tok tk, rfl, q⟩
end
open PySem PySem.Spec PyProof.Rows
def Fly (h : Heap) (e T : Addr) (fl : Value) : Prop := ∃ oe vs oT ts, h.get? e = some oe /\ oe.data = .fields vs /\ vs[1]? = some (.ref T) /\ h.get? T = some oT /\ oT.data = .fields ts /\ ts[3]? = some fl /\ T ≠ e
structure Noted (fs ch : List Addr) (e T : Addr) (fl : Value) (h h' : Heap) : Prop where
  keep : ∀ b o, b ∉ fs->b ∉ ch->b ≠ e->h.get? b = some o->h'.get? b = some o
  slot : ∀ b o, b ∈ fs->b ∉ ch->b ≠ e->h.get? b = some o->∃ sl, h'.get? b = some { o with slots := sl }
  new : h.objs.size ≤ T
  exc : ∀ oe vs, h.get? e = some oe->oe.data = .fields vs->h'.get? e = some (oe.mapFields (·.setIfInBounds 1 (.ref T)))
  fly : Fly h' e T fl
section
variable {M : Model} {A : Around} {E : Value->Shared->Prop} {s : Shared} {base : Heap} {env : Env} {outer : List Env} {L e : Addr} {oe : Obj} {vs : Array Value} {Q : Unit->Shared->Prop}
theorem entry_ok {head : Value} {b : Bool} (hfr : A.frames = some (env :: outer)) (hl : s.heap.FunFrames base (env :: outer)) (hf : env.frame = some L) (he : s.heap.get? e = some oe) (hd : oe.data = .fields vs) (hsz : 1 < vs.size)
    (h : ∀ h' T, Noted (frs (env :: outer)) [] e T (rawInt L) s.heap h'->Q () { s with heap := h' }) :
    wpAny M A (do let a ← frameOf env; let pl ← entryPlaceOf L b; let x ← EntryCells.newEntry head a .none (rawInt L) .none pl; setField (.ref e) 1 x) Q E s := by
  have hene : e ∉ frs (env :: outer) := fun hm => by
    obtain ⟨_, o, ho, hnf⟩ := hl.mem hm
    rw [he] at ho
    cases ho
    exact hnf vs hd
  refine wpAny_bind (wpAny_frameOf_fun hfr hl hf fun h1 hs => ?_)
  refine wpAny_bind (wpAny_entryPlaceOf fun pl hpl => ?_)
  unfold EntryCells.newEntry newFields
  refine wpAny_bind (wpAny_newObj_type ?_ (hpl.sizeOk5 _ _ _ _ _))
  have he1 : h1.get? e = some oe := (hs.2.1 e hene).trans he
  generalize hT : ({ cls := .type "traceback", dict := none, data := .fields ([head, .ref L, .none, rawInt L, .none] ++ (if pl.isEmpty then List.replicate 6 Value.none else pl)).toArray } : Obj) = oT
  have he2 := Heap.get?_push_of_some (h := h1) oT he1
  refine wpAny_setField he2 hd hsz (h _ h1.objs.size ?_)
  have hTe : h1.objs.size ≠ e := Nat.ne_of_gt (Heap.lt_size he1)
  have hd3 := Obj.data_mapFields hd (·.setIfInBounds 1 (Value.ref h1.objs.size))
  have he3 := Heap.get?_update_self (Obj.mapFields (·.setIfInBounds 1 (Value.ref h1.objs.size))) he2 (Obj.isFreed_of_fields hd3)
  have hT3 : ((h1.push oT).update e (Obj.mapFields (·.setIfInBounds 1 (Value.ref h1.objs.size)))).get? h1.objs.size = some oT :=
    (Heap.get?_update_other _ _ (Ne.symm hTe)).trans (Heap.get?_push_size h1 (by rw [← hT]; rfl))
  have keep : ∀ b o, b ≠ e->h1.get? b = some o->((h1.push oT).update e (Obj.mapFields (·.setIfInBounds 1 (Value.ref h1.objs.size)))).get? b = some o := fun b o hb q => by
    rw [Heap.get?_update_other _ _ (Ne.symm hb)]
    exact Heap.get?_push_of_some _ q
  refine ⟨fun b o hb _ hbe q => keep b o hbe ((hs.2.1 b hb).trans q), fun b o hb _ hbe q => ?_, ?_, fun oe' vs' q' d' => ?_, ?_⟩
  · obtain ⟨sl, z⟩ := hs.2.2 b o q
    exact ⟨sl, keep b _ hbe z⟩
  · rw [hs.1]; exact Nat.le_refl _
  · rw [he] at q'; cases q'; exact he3
  · refine ⟨_, _, oT, _, he3, hd3, by simp [hsz], hT3, by rw [← hT], ?_, hTe⟩
    simp
theorem note_new (hfr : A.frames = some (env :: outer)) (hl : s.heap.FunFrames base (env :: outer)) (hf : env.frame = some L) (he : s.heap.get? e = some oe) (hd : oe.data = .fields vs) (h1 : vs[1]? = some .none)
    (h : ∀ h' T, Noted (frs (env :: outer)) [] e T (rawInt L) s.heap h'->Q () { s with heap := h' }) : wpAny M A (noteFrame (.ref e) env) Q E s := by
  unfold noteFrame
  simp only [hf]
  refine wpAny_bind (wpAny_field he hd h1 ?_)
  rw [if_neg (by decide)]
  exact entry_ok hfr hl hf he hd (Array.getElem?_eq_some_iff.mp h1).1 h
theorem note_next {T : Addr} (hfr : A.frames = some (env :: outer)) (hl : s.heap.FunFrames base (env :: outer)) (hf : env.frame = some L) (hF : Fly s.heap e T .none)
    (h : ∀ h' T', Noted (frs (env :: outer)) [T] e T' (rawInt L) s.heap h'->Q () { s with heap := h' }) : wpAny M A (noteFrame (.ref e) env) Q E s := by
  obtain ⟨oe, vs, oT, ts, he, hd, h1, hT, hdT, h3, hTe⟩ := hF
  unfold noteFrame
  simp only [hf]
  refine wpAny_bind (wpAny_field he hd h1 ?_)
  rw [if_pos (show (Value.ref T != Value.none) = true from by simp)]
  refine wpAny_bind (wpAny_field hT hdT h3 ?_)
  rw [if_neg (show ¬ ((Value.none == rawInt L) = true) from by simp [rawInt])]
  refine wpAny_bind (wpAny_setField hT hdT (Array.getElem?_eq_some_iff.mp h3).1 ?_)
  have other : ∀ b, b ≠ T->(s.heap.update T (Obj.mapFields (·.setIfInBounds 3 Value.none))).get? b = s.heap.get? b := fun b hb => Heap.get?_update_other _ _ (Ne.symm hb)
  have nrec : ∀ b o, s.heap.get? b = some o->(∀ vs, o.data ≠ .fields vs)->b ≠ T := fun b o hb hnf q => by
    rw [q, hT] at hb
    cases hb
    exact hnf ts hdT
  have sz : (s.heap.update T (Obj.mapFields (·.setIfInBounds 3 Value.none))).objs.size = s.heap.objs.size := Heap.size_after_update _ _ _
  refine entry_ok hfr (hl.of_keeps fun b o hb hnf => ⟨o, (other b (nrec b o hb hnf)).trans hb, rfl⟩) hf ((other e (Ne.symm hTe)).trans he) hd (Array.getElem?_eq_some_iff.mp h1).1 fun h' T' N => h h' T' ?_
  dsimp only at N
  refine ⟨fun b o hb hc hbe q => N.keep b o hb (by simp) hbe ((other b (by simpa using hc)).trans q), fun b o hb hc hbe q => N.slot b o hb (by simp) hbe ((other b (by simpa using hc)).trans q), ?_, fun oe' vs' q d => N.exc oe' vs' ((other e (Ne.symm hTe)).trans q) d, N.fly⟩
  rw [← sz]; exact N.new
theorem flight_none {T : Addr} {fl : Value} (hF : Fly s.heap e T fl) (h : ∀ h', (∀ b o, b ≠ T->s.heap.get? b = some o->h'.get? b = some o)->h'.objs.size = s.heap.objs.size->Fly h' e T .none->Q () { s with heap := h' }) : wpAny M A (setFlight (.ref e) none) Q E s := by
  obtain ⟨oe, vs, oT, ts, he, hd, h1, hT, hdT, h3, hTe⟩ := hF
  have hsz : 3 < ts.size := (Array.getElem?_eq_some_iff.mp h3).1
  have other : ∀ b, b ≠ T->(s.heap.update T (Obj.mapFields (·.setIfInBounds 3 ((none : Option Addr).elim Value.none fun f => rawInt f)))).get? b = s.heap.get? b := fun b hb => Heap.get?_update_other _ _ (Ne.symm hb)
  unfold setFlight
  refine wpAny_bind (wpAny_field he hd h1 ?_)
  rw [if_pos (show (Value.ref T != Value.none) = true from by simp)]
  refine wpAny_setField hT hdT hsz (h _ (fun b o hb q => (other b hb).trans q) (Heap.size_after_update _ _ _) ?_)
  exact ⟨oe, vs, _, _, (other e (Ne.symm hTe)).trans he, hd, h1, Heap.get?_update_self _ hT (Obj.isFreed_of_fields (Obj.data_mapFields hdT _)), Obj.data_mapFields hdT _, by simp [hsz], hTe⟩
theorem Noted.landed {fs ch : List Addr} {T : Addr} {fl : Value} {h h1 h2 : Heap} (N : Noted fs ch e T fl h h1) (k : ∀ b o, b ≠ T->h1.get? b = some o->h2.get? b = some o) (F : Fly h2 e T .none) : Noted fs ch e T .none h h2 := by
  have nT : ∀ b o, h.get? b = some o->b ≠ T := fun b o q => Nat.ne_of_lt (Nat.lt_of_lt_of_le (Heap.lt_size q) N.new)
  refine ⟨fun b o hb hc hbe q => k b o (nT b o q) (N.keep b o hb hc hbe q), fun b o hb hc hbe q => ?_, N.new, fun oe vs q d => k e _ (nT e oe q) (N.exc oe vs q d), F⟩
  obtain ⟨sl, z⟩ := N.slot b o hb hc hbe q
  exact ⟨sl, k b _ (nT b o q) z⟩
theorem leave_new (hfr : A.frames = some (env :: outer)) (hl : s.heap.FunFrames base (env :: outer)) (hf : env.frame = some L) (he : s.heap.get? e = some oe) (hd : oe.data = .fields vs) (h1 : vs[1]? = some .none)
    (h : ∀ h' T, Noted (frs (env :: outer)) [] e T .none s.heap h'->Q () { s with heap := h' }) : wpAny M A (leaving env (.ref e)) Q E s := by
  unfold leaving
  exact wpAny_bind (note_new hfr hl hf he hd h1 fun h' T N => flight_none (s := { s with heap := h' }) N.fly fun h2 k _ F => h h2 T (N.landed k F))
theorem leave_next {T : Addr} (hfr : A.frames = some (env :: outer)) (hl : s.heap.FunFrames base (env :: outer)) (hf : env.frame = some L) (hF : Fly s.heap e T .none)
    (h : ∀ h' T', Noted (frs (env :: outer)) [T] e T' .none s.heap h'->Q () { s with heap := h' }) : wpAny M A (leaving env (.ref e)) Q E s := by
  unfold leaving
  exact wpAny_bind (note_next hfr hl hf hF fun h' T' N => flight_none (s := { s with heap := h' }) N.fly fun h2 k _ F => h h2 T' (N.landed k F))
end
open PySem PySem.Spec PyProof.Rows
section
variable {X : Cx} {pins : List (Addr × Obj)} {σ : St} {H : Hp} {s : Shared} {e C T : Addr} {od : Option Addr} {raw : Bool} {fl : Value} {h' : Heap} {ch : List Addr}
theorem upd_id {o : HO} (q : H e = some o) : upd H e o = H := by
  funext b
  unfold upd
  split
  · rename_i z; rw [z]; exact q.symm
  · rfl
theorem Inv.noted (I : Inv X pins σ H s) (q : H e = some (exO raw e C od)) (N : Noted (frs X.stack) ch e T fl s.heap h') (hc : ∀ b ∈ ch, FpOk X pins H b) :
    Inv X pins σ (upd H e (exO false e C od)) { s with heap := h' } := by
  obtain ⟨vs, sl, g, hz, _⟩ := exc_of I.hok q
  have ne : ∀ b, H b = none->b ≠ e := fun b n z => by rw [z, q] at n; cases n
  have tfs : ∀ b o, H b = some o->b ∉ frs X.stack := fun b o z hm => by rw [I.stkFree b hm] at z; cases z
  have tch : ∀ b o, H b = some o->b ∉ ch := fun b o z hm => by rw [(hc b hm).1] at z; cases z
  have hE : IsExc false e C od h' := by
    have := N.exc _ vs g rfl
    refine ⟨vs.setIfInBounds 1 (.ref T), sl, this, by simpa using hz, fun z => by cases z⟩
  refine I.call' (s' := { s with heap := h' }) (ch := ch) rfl ⟨fun b o e' n hf hx => N.keep b o hf hx (ne b n) e', fun b o e' n hf hx => N.slot b o hf hx (ne b n) e', fun b o e' n hx => ?_, fun b o e' hx => ?_, fun b xs e' => ?_, fun b o u e' => ?_, fun b ps e' => ⟨#[], ?_⟩⟩ (fun b o e' => ?_) I.bare fun b hb => ⟨(hc b hb).2.2.2.1, (hc b hb).2.1, (hc b hb).2.2.2.2.1, (hc b hb).2.2.2.2.2⟩
  · rw [upd_ne (ne b n)]; exact n
  · by_cases z : b = e
    · subst z; obtain ⟨vs', sl', g', _⟩ := hE; exact ⟨_, g'⟩
    · by_cases hf : b ∈ frs X.stack
      · obtain ⟨sl', g'⟩ := N.slot b o hf hx z e'; exact ⟨_, g'⟩
      · exact ⟨o, N.keep b o hf hx z e'⟩
  · rw [upd_ne (fun z => by rw [z, q] at e'; cases e')]; exact e'
  · rw [upd_ne (fun z => by rw [z, q] at e'; cases e')]; exact e'
  · rw [upd_ne (fun z => by rw [z, q] at e'; cases e'), e']; simp
  · by_cases z : b = e
    · subst z; rw [upd_same] at e'; cases e'; exact objOk_exc hE
    · rw [upd_ne z] at e'
      refine (I.hok b o e').stay (fun c v hcv g' => ?_) (fun c g' => ?_) fun c xs g' => ?_
      · have hcH : ∃ u, H c = some u := by
          rcases hcv with z | z
          · exact ⟨o, by rw [z]; exact e'⟩
          · exact ⟨_, z⟩
        obtain ⟨u, hu⟩ := hcH
        have hce : c ≠ e := by
          rcases hcv with z' | z'
          · rw [z']; exact z
          · intro z2; rw [z2, q] at z'; cases z'
        exact N.keep c v (tfs c u hu) (tch c u hu) hce g'
      · rw [upd_ne (fun z2 => by rw [z2, q] at g'; cases g')]; exact g'
      · rw [upd_ne (fun z2 => by rw [z2, q] at g'; cases g')]; exact g'
theorem Inv.landed {T : Addr} (I : Inv X pins σ H s) (f : FpOk X pins H T) (k : ∀ b o, b ≠ T->s.heap.get? b = some o->h'.get? b = some o) : Inv X pins σ H { s with heap := h' } :=
  I.turned (it := T) (t' := s.toks) k f.1 f.2.1 f.2.2.2.1 f.2.2.2.2.1 f.2.2.2.2.2
end
def CXx (P : Program) (w : World) : CXT := fun outer H s E v s' => ∃ e C od T H', v = .ref e /\ s'.os = s.os /\ AllBare s'.gens /\ Un (frs outer) [] H H' s.heap s'.heap /\ HOk P w H' s'.heap ∧
  H' e = some (exO false e C od) /\ s.heap.objs.size ≤ T /\ H' T = none /\ Fly s'.heap e T .none /\ E (.ref C) (some e) H'
abbrev XS := St->XK
def PassesS (X : Cx) (E : XS) : Prop := ∀ (pins : List (Addr × Obj)) (σ : St) (H : Hp) (s : Shared) (v : Value) (s' : Shared), Inv X pins σ H s->CXx X.prog X.w X.stack H s (E σ) v s'->X.xe v s'
def RaisesS (X : Cx) (E : XS) : Prop := ∀ (pins : List (Addr × Obj)) (σ : St) (H : Hp) (s : Shared) (e C : Addr) (od : Option Addr), Inv X pins σ H s->H e = some (exO true e C od)->E σ (.ref C) (some e) (upd H e (exO false e C od))->X.xe (.ref e) s
theorem passesN {X : Cx} : PassesS X (fun _ => E0) := fun _ _ _ _ _ _ _ ⟨_, _, _, _, _, _, _, _, _, _, _, _, _, _, h⟩ => h.elim
section
variable {P : Program} {w : World} {K : PySem.W.Frag} {mg : Str->Option Value} {base : Heap} {N : List Str} {qual : Str} {scope : Scope} {f : Addr} {cd : Value} {A : Around} {outer : List Env} {s₀ : Shared} {H₀ : Hp} {E : XK}
theorem passesB : PassesS (cxOf (CXx P w) P w K mg base N qual scope f cd A outer s₀ H₀ E) (fun _ => E) := by
  rintro pins σ H s v s' I ⟨e, C, od, T, H', rfl, os, bare, un, hok, he, hT, nT, fly, hE⟩
  have I' := I.call' (ch := []) os un hok bare (fun b z => absurd z (by simp))
  have hTn : FpOk (cxOf (CXx P w) P w K mg base N qual scope f cd A outer s₀ H₀ E) pins H' T := I.fpOk hT nT
  show wpAny _ _ (leaving _ (.ref e)) _ _ _
  refine leave_next I.ok.frames I'.stack rfl fly fun h2 T2 Nd => ?_
  have J := I'.noted (ch := [T]) he Nd (fun b hb => by have := List.mem_singleton.mp hb; subst this; exact hTn)
  rw [upd_id he] at J
  exact ⟨e, C, od, T2, H', rfl, J.os, J.bare, J.base, J.hok, he, Nat.le_trans I'.sz Nd.new, I'.hok.fresh Nd.new, Nd.fly, hE⟩
theorem raisesB : RaisesS (cxOf (CXx P w) P w K mg base N qual scope f cd A outer s₀ H₀ E) (fun _ => E) := by
  rintro pins σ H s e C od I he hE
  obtain ⟨vs, sl, g, hz, hr⟩ := exc_of I.hok he
  show wpAny _ _ (leaving _ (.ref e)) _ _ _
  refine leave_new I.ok.frames I.stack rfl g rfl (hr rfl) fun h2 T2 Nd => ?_
  have J := I.noted (ch := []) he Nd (fun b hb => by cases hb)
  exact ⟨e, C, od, T2, _, rfl, J.os, J.bare, J.base, J.hok, upd_same, Nat.le_trans I.sz Nd.new, by rw [upd_ne (fun z => by rw [← z] at g; exact absurd (Heap.lt_size g) (Nat.not_lt.mpr Nd.new))]; exact I.hok.fresh Nd.new, Nd.fly, hE⟩
theorem Fun.okX {x qual : Str} {st : Stmt} {f : Addr} {fd : FuncData} {N ps : List Str} {k : Nat} {sp : Sp} (F : Fun K x qual st f fd) (S : FnScope N ps (defScope st)) (len : ∀ vs H Q E, sp vs H Q E->vs.length = ps.length)
    (hbody : ∀ (cdv : Value) (A : Around) (outer : List Env) (s : Shared) (H : Hp) (vs : List V) (Q : VK) (E : XK), Room k (A.deeper (envOfC qual (defScope st) s.heap.objs.size f cdv))->sp vs H Q E →
      ∃ t, PSs (cxOf (CXx P w) P w K mg base N qual (defScope st) f cdv A outer s H E) (defBody st) t /\ t { nx := fun _ H' => Q .non H', rt := Q } (start N vs) H) : FnOk P w K mg base (CXx P w) (k + 1) f fd ps sp := by
  obtain ⟨oc, od, kV, doc, pm, an, cdv, ct, osl, rfl, lk, hcd⟩ := F.ex
  exact fn_of lk hcd S len fun A outer s H vs Q E hr hsp => hbody cdv A outer s H vs Q E hr hsp
end
open PySem PySem.Spec PyProof.Rows
section
variable (P : Program) (w : World) (K : PySem.W.Frag) (mg : Str->Option Value) (base : Heap)
structure DefX (x : Str) (k : Nat) (ps : List Str) (sp : Sp) : Prop where
  ex : ∃ (f : Addr) (fd : FuncData), mg x = some (.ref f) /\ FnOk P w K mg base (CXx P w) k f fd ps sp /\ PySem.W.keepIn K (.ref f) = true /\ Binds K fd ps []
structure MethX (C : Addr) (m : Str) (k : Nat) (ps : List Str) (sp : Sp) : Prop where
  ex : ∃ (f : Addr) (fd : FuncData), Meth K C m f /\ FnOk P w K mg base (CXx P w) k f fd ps sp /\ Binds K fd ps []
structure MakeX (x : Str) (C : Addr) (k : Nat) (ps : List Str) (sp : Sp) : Prop where
  ex : ∃ (f : Addr) (fd : FuncData), mg x = some (.ref C) /\ Mk K C f /\ FnOk P w K mg base (CXx P w) k f fd ps sp /\ Binds K fd ps []
end
def tCallS (sp : Sp) (E : XS) (t : TA) : TE := fun σ H Q => t σ H fun vs H1 => sp vs H1 Q (E σ)
def tMethS (C : Addr) (m : Str) (sp : Sp) (E : XS) (ta : TE) (t : TA) : TE := fun σ H Q => ta σ H fun x H1 => ∃ a dx fs, x = .ref a /\ H1 a = some (.ins C dx fs) /\ fs.lookup m = none /\ t σ H1 fun vs H2 => sp (x :: vs) H2 Q (E σ)
def tMakeS (C : Addr) (sp : Sp) (E : XS) (t : TA) : TE := fun σ H Q => t σ H fun vs H1 => ∀ x dx, H1 x = none->H1 dx = none->dx ≠ x →
  sp (.ref x :: vs) (upd (upd H1 dx (.own x)) x (.ins C dx [])) (fun v H2 => v = .non /\ Q (.ref x) H2) (E σ)
section
variable {X : Cx} {k : Nat} {f C : Addr} {fd : FuncData} {ps : List Str} {sp : Sp} {E : XS} {x m : Str} {p pos apos : Pos} {e o : Expr} {es : List Expr} {ta : TE} {t : TA}
theorem run_fnS {pins : List (Addr × Obj)} {σ : St} {H : Hp} {s : Shared} {Q : VK} {us : List Value} {vs : List V} (F : FnOk X.prog X.w X.K X.mg X.base (CXx X.prog X.w) k f fd ps sp) (hr : Room k X.A) (hb : Binds X.K fd ps []) (hx : PassesS X E)
    (I : Inv X pins σ H s) (r : Vals vs us) (h : sp vs H Q (E σ)) : wpAny (model X.prog X.w) X.A (call (.ref f) us) (EP X pins σ Q) X.xe s := by
  have hl : us.length = ps.length := by rw [← r.length]; exact F.len _ _ _ _ h
  have hb' := hb s us I.kIn (by rw [List.append_nil]; exact hl)
  rw [List.append_nil] at hb'
  refine wpAny_call (codeAny_mono (F.run X.A X.stack s H ⟨us, []⟩ us vs Q (E σ) hr I.env0 hb' r h) fun r s' hq => ?_)
  cases r with
  | error e => exact hx pins σ H s e s' I hq
  | ok fl =>
    cases fl with
    | ret u => exact I.after hq
    | next => exact False.elim hq
    | brk => exact False.elim hq
    | cont => exact False.elim hq
theorem pe_callS (D : DefX X.prog X.w X.K X.mg X.base x k ps sp) (hx : PassesS X E) (hr : Room k X.A) (hg : Gl X x) (ha : PA X (e :: es) t)
    (hdb : (x == ("__debug__" : Str)) = false := by decide) (he : starEach (e :: es) X.env = (false, eval e X.env) :: starEach es X.env := by rfl) (hpl : (backTo pos (starEach es X.env)).any (·.1) = false := by rfl) :
    PE X (.Call (.Name x p) (e :: es) [] pos) (tCallS sp E t) := by
  obtain ⟨f, fd, m, F, kp, b⟩ := D.ex
  intro pins s σ H Q I h
  refine wpAny_Call_Name_kw (ld_glob I hg m ?_ hdb)
  refine PySem.W.callWith_K (h₀ := X.base) I.ok.mod.kin kp (thn (ha pos pins s σ H _ I h) fun us s1 ⟨vs, H1, I1, r, q⟩ => ⟨I1.kIn, ?_⟩) he hpl
  exact run_fnS F hr b hx I1 r q
theorem pe_methS {pl : Sem Bool} (he : PE X o ta) (c : Cls X.K C) (D : MethX X.prog X.w X.K X.mg X.base C m k ps sp) (hx : PassesS X E) (hr : Room k X.A) (ha : PA X (e :: es) t)
    (hst : starEach (e :: es) X.env = (false, eval e X.env) :: starEach es X.env := by rfl) (hpl : (backTo pos (starEach es X.env)).any (·.1) = false := by rfl)
    (ht : eval (.Call (.Attribute o m apos) (e :: es) [] pos) X.env = (do
      let ov ← eval o X.env
      standAt apos.atName
      let (f, first) ← holding [ov] (getMethod ov m pl)
      callWith pos f first (backTo pos (starEach (e :: es) X.env)) (backToKw pos (keywordEach [] X.env))) := by rfl) :
    PE X (.Call (.Attribute o m apos) (e :: es) [] pos) (tMethS C m sp E ta t) := by
  obtain ⟨f, fd, hm, F, b⟩ := D.ex
  intro pins s σ H Q I h
  refine PySem.W.methodCall_KW (pl := pl) (thn (he pins s σ H _ I h) fun u s1 ⟨x, H1, I1, rx, a, dx, fs, ex, ea, l, q⟩ => ?_) ht
  subst ex
  obtain rfl : u = Value.ref a := rx
  refine getmeth_ok I1 ea c hm l ?_
  refine PySem.W.callWith_K (first := [.ref a]) (h₀ := X.base) I.ok.mod.kin hm.kp (thn (ha pos pins s1 σ H1 _ I1 q) fun us s2 ⟨vs, H2, I2, r, q2⟩ => ⟨I2.kIn, ?_⟩) hst hpl
  exact run_fnS (us := .ref a :: us) (vs := .ref a :: vs) F hr b hx I2 (.cons rfl r) q2
theorem pe_methS0 {pl : Sem Bool} (he : PE X o ta) (c : Cls X.K C) (D : MethX X.prog X.w X.K X.mg X.base C m k ps sp) (hx : PassesS X E) (hr : Room k X.A)
    (ht : eval (.Call (.Attribute o m apos) [] [] pos) X.env = (do
      let ov ← eval o X.env
      standAt apos.atName
      let (f, first) ← holding [ov] (getMethod ov m pl)
      callWith pos f first (backTo pos (starEach [] X.env)) (backToKw pos (keywordEach [] X.env))) := by rfl) :
    PE X (.Call (.Attribute o m apos) [] [] pos) (tMethS C m sp E ta tNil) := by
  obtain ⟨f, fd, hm, F, b⟩ := D.ex
  intro pins s σ H Q I h
  refine PySem.W.methodCall_KW (pl := pl) (thn (he pins s σ H _ I h) fun u s1 ⟨x, H1, I1, rx, a, dx, fs, ex, ea, l, q⟩ => ?_) ht
  subst ex
  obtain rfl : u = Value.ref a := rx
  refine getmeth_ok I1 ea c hm l ?_
  exact PySem.W.callWith_K0 (first := [.ref a]) I1.kIn hm.kp (run_fnS (us := [.ref a]) (vs := [.ref a]) F hr b hx I1 (.cons rfl .nil) q)
theorem run_makeS {pins : List (Addr × Obj)} {σ : St} {H : Hp} {s : Shared} {Q : VK} {us : List Value} {vs : List V} (M : Mk X.K C f) (F : FnOk X.prog X.w X.K X.mg X.base (CXx X.prog X.w) k f fd ps sp) (hr : Room (k + 1) X.A) (hb : Binds X.K fd ps [])
    (hx : PassesS X E) (I : Inv X pins σ H s) (r : Vals vs us)
    (h : ∀ x dx, H x = none->H dx = none->dx ≠ x->sp (.ref x :: vs) (upd (upd H dx (.own x)) x (.ins C dx [])) (fun v H2 => v = .non /\ Q (.ref x) H2) (E σ)) :
    wpAny (model X.prog X.w) X.A (call (.ref C) us) (EP X pins σ Q) X.xe s := by
  have hq := h (s.heap.objs.size + 1) s.heap.objs.size (I.hok.fresh (Nat.le_succ _)) (I.hok.fresh (Nat.le_refl _)) (Nat.ne_of_lt (Nat.lt_succ_self _))
  have I2 := Inv.made (C := C) I
  have r2 : Vals (V.ref (s.heap.objs.size + 1) :: vs) (Value.ref (s.heap.objs.size + 1) :: us) := .cons rfl r
  have hl : (Value.ref (s.heap.objs.size + 1) :: us).length = ps.length := by
    have e := r2.length
    rw [F.len _ _ _ _ hq] at e
    exact e.symm
  have hb' := hb _ (Value.ref (s.heap.objs.size + 1) :: us) I2.kIn (by rw [List.append_nil]; exact hl)
  rw [List.append_nil] at hb'
  refine wpAny_call (make_map (f := f) I.kIn M.makes M.init (beq_iff_eq.mp M.fn) (codeAny_mono (F.run _ X.stack _ _ ⟨Value.ref (s.heap.objs.size + 1) :: us, []⟩ (Value.ref (s.heap.objs.size + 1) :: us) _ _ (E σ) (hr.make C us [])
    (I2.env0.make C us []) hb' r2 hq) fun r s' hq' => ?_))
  cases r with
  | error e => exact hx pins σ _ _ e s' I2 hq'
  | ok fl =>
    cases fl with
    | ret u =>
      obtain ⟨v, H', I3, rv, ev, q3⟩ := I2.after hq'
      subst ev
      exact ⟨rv, ⟨V.ref (s.heap.objs.size + 1), H', I3, rfl, q3⟩⟩
    | next => exact False.elim hq'
    | brk => exact False.elim hq'
    | cont => exact False.elim hq'
theorem pe_makeS0 (D : MakeX X.prog X.w X.K X.mg X.base x C k ps sp) (hx : PassesS X E) (hr : Room (k + 1) X.A) (hg : Gl X x) (hdb : (x == ("__debug__" : Str)) = false := by decide) : PE X (.Call (.Name x p) [] [] pos) (tMakeS C sp E tNil) := by
  obtain ⟨f, fd, m, M, F, b⟩ := D.ex
  intro pins s σ H Q I h
  refine wpAny_Call_Name_kw (ld_glob I hg m ?_ hdb)
  exact PySem.W.callWith_K0 I.kIn M.kp (run_makeS (us := []) M F hr b hx I .nil h)
end
def sRaise (K : PySem.W.Frag) (te : TE) (E : XS) : TS := fun _ σ H => te σ H fun v H1 => ∃ e C od, v = .ref e /\ H1 e = some (exO true e C od) /\ XCls K C /\ E σ (.ref C) (some e) (upd H1 e (exO false e C od))
section
variable {X : Cx} {x : Expr} {te : TE} {E : XS} {pos : Pos}
theorem raise_ok {M : Model} {A : Around} {E : Value->Shared->Prop} {env : Env} {s : Shared} {x : Sem Value} {Q : Flow->Shared->Prop} (hh : A.handled = none)
    (h : wpAny M A x (fun v s₁ => ∃ e vs sl C od, v = .ref e /\ s₁.heap.get? e = some ⟨.ref C, od, .fields vs, sl⟩ /\ vs[1]? = some .none /\ XObj s₁.heap C /\ E (.ref e) s₁) E s) :
    wpAny M A (raiseStmt env (some x) none) Q E s := by
  unfold raiseStmt
  refine wpAny_bind (wpAny_mono h (fun v s₁ h₁ => ?_) fun _ _ x => x)
  obtain ⟨e, vs, sl, C, od, rfl, he, h1, hC, hE⟩ := h₁
  obtain ⟨nm, qn, N, bs, bm, sn, sub, ab, col, dd, k0, k1, k2, k3, k5, hC, hb⟩ := hC.ex
  have hcB := own_has (C := C) hb (T := "BaseException") (by decide)
  obtain ⟨hp, g, d, tk, os⟩ := s₁
  repeat (first
    | with_reducible refine wpAny_loadPart_at he ?_
    | with_reducible refine wpAny_loadPart_at hC ?_
    | (with_reducible refine wpAny_isSubtype_exc hC ?_; rw [hcB])
    | with_reducible refine wpAny_field he rfl h1 ?_
    | wp_step)
  exact wpAny_raiseNew_none hh hE
theorem ps_raise (hc : X.calm = true) (hx : RaisesS X E) (he : PE X x te) : PS X (.Raise (some x) none pos) (sRaise X.K te E) := by
  intro pins s σ H D I h
  rw [arm_exec_Raise]
  have hh := I.ok.hd hc
  have key : wpAny (model X.prog X.w) X.A (eval x X.env) (fun v s₁ => ∃ e vs sl C od, v = .ref e /\ s₁.heap.get? e = some ⟨.ref C, od, .fields vs, sl⟩ /\ vs[1]? = some .none /\ XObj s₁.heap C /\ X.xe (.ref e) s₁) X.xe s := by
    refine thn (he pins s σ H _ I h) fun u s1 ⟨v, H1, I1, rv, e, C, od, ev, eo, hcl, hE⟩ => ?_
    subst ev
    cases (show u = Value.ref e from rv)
    obtain ⟨vs, sl, g, hz, hr⟩ := exc_of I1.hok eo
    exact ⟨e, vs, sl, C, od, rfl, g, hr rfl, hcl.at I1.kIn, hx pins σ H1 s1 e C od I1 eo hE⟩
  exact wpAny_bind (wpAny_standAt (raise_ok hh (wpAny_bind (wpAny_mono key (fun v s₁ h₁ => wpAny_bind (wpAny_standAt (wpAny_pure h₁))) fun _ _ x => x))))
end
open PySem PySem.Spec PyProof.Rows
section
variable {M : Model} {A : Around} {E : Value->Shared->Prop} {s : Shared} {K : PySem.W.Frag} {e C DC : Addr} {b : Bool}
theorem xmatch {ox : Obj} {Q : Bool->Shared->Prop} (X : K.In s.heap) (hx : s.heap.get? e = some ox) (hcl : ox.cls = .ref C) (cd : XCls K DC) (hm : PySem.W.mroIn K C (.ref DC) = some b) (h : Q b s) :
    wpAny M A (excMatches (.ref e) (.ref DC)) Q E s := by
  obtain ⟨hp, g, d, t, os⟩ := s
  obtain ⟨nm, qn, N, bs, bm, sn, sub, ab, col, dd, k0, k1, k2, k3, k5, hC, hb⟩ := (cd.at X).ex
  have hcB := own_has (C := DC) hb (T := "BaseException") (by decide)
  have f := tc_notTuple
  have L0 : PySem.W.Looks M hp (typeOf (.ref e)) (.ref C) := hcl ▸ (PySem.W.Looks.ld hx).andThen .now
  have L1 := PySem.W.looks_mroIn (M := M) X hm
  unfold excMatches
  repeat (first
    | with_reducible refine wpAny_loadPart_at hC ?_
    | (with_reducible refine wpAny_isSubtype_exc hC ?_; rw [hcB])
    | with_reducible refine L0.at ?_
    | with_reducible refine L1.at ?_
    | wp_step)
  cases b
  · wp_walk; exact h
  · wp_walk; exact h
end
abbrev Cx.held (X : Cx) (e : Addr) (pn : List (Addr × Obj)) : Cx := { X with A := X.A.mark (some (.ref e)), calm := false, pn := pn, xe := fun _ _ => False }
abbrev Cx.tried (X : Cx) (pn : List (Addr × Obj)) (xe : Value->Shared->Prop) : Cx := { X with pn := pn, xe := xe }
section
variable {X : Cx} {pins : List (Addr × Obj)} {σ : St} {H : Hp} {s : Shared} {e : Addr} {xe : Value->Shared->Prop}
theorem Inv.held (I : Inv X pins σ H s) (e : Addr) : Inv (X.held e (X.pn ++ pins)) [] σ H s :=
  ⟨⟨I.ok.mod, I.ok.kind, I.ok.glob, I.ok.blt, I.ok.above, I.ok.inj, I.ok.has, I.ok.cab, (fun z => by cases z), I.ok.frames, I.ok.stk, I.ok.exf, I.ok.bs, I.ok.bsz, I.ok.noex, I.ok.exfs, I.ok.funs, I.ok.frf⟩,
    I.os, I.bare, I.base, I.loc, I.cell, I.free, I.freeC, fun p hp => I.pin p (by simpa using hp), I.hok, I.len⟩
theorem Inv.unheld (ok : X.Ok) (I : Inv (X.held e (X.pn ++ pins)) [] σ H s) : Inv X pins σ H s :=
  ⟨ok, I.os, I.bare, I.base, I.loc, I.cell, I.free, I.freeC, fun p hp => I.pin p (by simpa using hp), I.hok, I.len⟩
theorem Inv.tried (I : Inv X pins σ H s) : Inv (X.tried (X.pn ++ pins) xe) [] σ H s :=
  ⟨⟨I.ok.mod, I.ok.kind, I.ok.glob, I.ok.blt, I.ok.above, I.ok.inj, I.ok.has, I.ok.cab, I.ok.hd, I.ok.frames, I.ok.stk, I.ok.exf, I.ok.bs, I.ok.bsz, I.ok.noex, I.ok.exfs, I.ok.funs, I.ok.frf⟩,
    I.os, I.bare, I.base, I.loc, I.cell, I.free, I.freeC, fun p hp => I.pin p (by simpa using hp), I.hok, I.len⟩
theorem Inv.untried {ps : List (Addr × Obj)} (ok : X.Ok) (I : Inv (X.tried (X.pn ++ pins) xe) ps σ H s) : Inv X pins σ H s :=
  ⟨ok, I.os, I.bare, I.base, I.loc, I.cell, I.free, I.freeC, fun p hp => I.pin p (List.mem_append_left _ hp), I.hok, I.len⟩
theorem unbind_ok {M : Model} {A : Around} {E : Value->Shared->Prop} {i : Nat} {n : Str} {pos : Pos} {Q : Unit->Shared->Prop} (I : Inv X pins σ H s) (hN : X.N.Nodup) (hi : X.N[i]? = some n) (hl : X.env.scope.names.lookup n = some .local)
    (h : ∀ s', Inv X pins (σ.set i none) H s'->Q () s') : wpAny M A (do bindName X.env n .none; unbindBehindTheSuite X.env n pos) Q E s := by
  refine wpAny_bind (wpAny_bindName (store_ok (v := .non) I hN hi (.inl hl) rfl (fun s' I' => ?_) (.inr hl)))
  unfold unbindBehindTheSuite
  obtain ⟨m, hn, hm⟩ := id I'.loc
  have hcls : (X.env.scope.kind == .class || (X.env.scope.kind == .module && X.env.locals != X.env.globals)) = false := by rw [I.ok.kind]; rfl
  have hiσ : i < σ.length := by rw [I.len]; exact (List.getElem?_eq_some_iff.mp hi).1
  obtain ⟨u, ru, lk⟩ := hm i n .non hi (by rw [List.getElem?_set_self hiσ]) (.inl hl)
  have hv : m n = some u := by
    rcases lk with ⟨_, z⟩ | ⟨k, _⟩
    · exact z
    · rcases k with k | k
      · have k : X.env.scope.names.lookup n = some .cell := k
        rw [hl] at k; cases k
      · have k : X.env.scope.names.lookup n = some .free := k
        rw [hl] at k; cases k
  refine wpAny_onRaise (wpAny_unbindName_local (env := X.env) hl hn hv hcls fun h' u' hn' hs => h _ ?_)
  obtain ⟨oL, _, _, hoL, _⟩ := id hn
  have cne := I'.cne
  refine ⟨I'.ok, I'.os, I'.bare, ⟨fun b o e n' hb hx => ?_, fun b o e n' hb hx => ?_, I'.base.free, fun b o e hx => ?_, I'.base.tups, I'.base.frzs, I'.base.tbls⟩, ⟨_, hn', fun j y v' e1 e2 e3 => ?_⟩, fun y c q => ?_, I'.free, I'.freeC, fun p hp => ?_, fun b ob q => ?_, by simpa using I.len⟩
  · exact (hs.2 b (Nat.ne_of_lt (Nat.lt_of_lt_of_le (Heap.lt_size e) I'.ok.above))).trans (I'.base.keep b o e n' hb hx)
  · obtain ⟨sl, e1⟩ := I'.base.slot b o e n' hb hx
    exact ⟨sl, (hs.2 b (Nat.ne_of_lt (Nat.lt_of_lt_of_le (Heap.lt_size e) I'.ok.above))).trans e1⟩
  · obtain ⟨o', e1⟩ := I'.base.there b o e hx
    exact ⟨o', (hs.2 b (Nat.ne_of_lt (Nat.lt_of_lt_of_le (Heap.lt_size e) I'.ok.above))).trans e1⟩
  · by_cases hj : j = i
    · subst hj
      rw [List.getElem?_set_self hiσ] at e2
      cases e2
    · rw [List.getElem?_set_ne (Ne.symm hj)] at e2
      obtain ⟨u2, r2, q⟩ := hm j y v' e1 (by rw [List.getElem?_set_ne (Ne.symm hj)]; exact e2) e3
      refine ⟨u2, r2, ?_⟩
      rcases q with ⟨k, e⟩ | ⟨k, c, e, z⟩
      · refine .inl ⟨k, ?_⟩
        have : y ≠ n := fun e => hj (nodup_ix hN e1 (e ▸ hi))
        simp [this, e]
      · exact .inr ⟨k, c, e, z.sameBut hs (cne y c e)⟩
  · obtain ⟨w', z⟩ := I'.cell y c q
    exact ⟨w', z.sameBut hs (cne y c q)⟩
  · obtain ⟨e, n', ne, nf, d⟩ := I'.pin p hp
    exact ⟨(hs.2 p.1 ne).trans e, n', ne, nf, d⟩
  · refine (I'.hok b ob q).stay (fun c w' hc q' => (hs.2 c ?_).trans q') (fun _ q' => q') fun _ _ q' => q'
    rintro rfl
    rcases hc with z | z
    · rw [← z, I'.free] at q; cases q
    · rw [I'.free] at z; cases z
end
abbrev TH := Addr->Addr->TS
def PH (X : Cx) (hs : List ExceptHandler) (th : TH) : Prop :=
  ∀ (pins : List (Addr × Obj)) (s : Shared) (σ : St) (H : Hp) (D : Ends) (e C : Addr) (od : Option Addr) (T : Addr), Inv X pins σ H s->H e = some (exO false e C od)->Fly s.heap e T .none->FpOk X pins H T->th e C D σ H →
    wpAny (model X.prog X.w) X.A (handleBy (.ref e) X.env hs) (SP X pins D) X.xe s
def hNil : TH := fun _ _ _ _ _ => False
theorem ph_nil {X : Cx} : PH X [] hNil := fun _ _ _ _ _ _ _ _ _ _ _ _ _ h => h.elim
def hAs (K : PySem.W.Frag) (DC : Addr) (i : Nat) (ts : Addr->List (Addr × Obj)->TS) (tr : TH) : TH := fun e C D σ H => ∃ b, PySem.W.mroIn K C (.ref DC) = some b /\ if b = true then
  ∀ pn, ts e pn { nx := fun σ' H' => D.nx (σ'.set i none) H', rt := D.rt, bk := fun σ' H' => D.bk (σ'.set i none) H', ct := fun σ' H' => D.ct (σ'.set i none) H' } (σ.set i (some (.ref e))) H else tr e C D σ H
section
variable {X : Cx} {x n : Str} {i : Nat} {DC : Addr} {np pos : Pos} {b0 : Stmt} {suite : List Stmt} {rest : List ExceptHandler} {ts : Addr->List (Addr × Obj)->TS} {tr : TH}
theorem SP.untried {pins : List (Addr × Obj)} {D : Ends} {xe : Value->Shared->Prop} {fl : Flow} {s' : Shared} (ok : X.Ok) (h : SP (X.tried (X.pn ++ pins) xe) [] D fl s') : SP X pins D fl s' := by
  cases fl with
  | next => obtain ⟨σ', H', J, q⟩ := h; exact ⟨σ', H', J.untried ok, q⟩
  | brk => obtain ⟨σ', H', J, q⟩ := h; exact ⟨σ', H', J.untried ok, q⟩
  | cont => obtain ⟨σ', H', J, q⟩ := h; exact ⟨σ', H', J.untried ok, q⟩
  | ret u => obtain ⟨v, σ', H', J, r, q⟩ := h; exact ⟨v, σ', H', J.untried ok, r, q⟩
theorem ph_as (hg : Gl X x) (hm : X.mg x = some (.ref DC)) (c : XCls X.K DC) (hN : X.N.Nodup) (hi : X.N[i]? = some n) (hl : X.env.scope.names.lookup n = some .local)
    (hs : ∀ e pn, PSs (X.held e pn) (b0 :: suite) (ts e pn)) (hr : PH X rest tr) (hd : (x == ("__debug__" : Str)) = false := by decide) :
    PH X (.ExceptHandler (some (.Name x np)) (some n) (b0 :: suite) pos :: rest) (hAs X.K DC i ts tr) := by
  rintro pins s σ H D e C od T I q fly fp ⟨b, hb, h⟩
  obtain ⟨vs, sl, g, _⟩ := exc_of I.hok q
  have IH := I.held e
  refine wpAny_handleBy_cons (codeAny_handlers_test (ld_glob (X := X.held e (X.pn ++ pins)) IH hg hm ?_ hd)) (by intro z; cases z)
  refine xmatch I.kIn g rfl c hb ?_
  cases b with
  | false =>
    rw [if_neg (by decide)] at h
    exact hr pins s σ H D e C od T I q fly fp h
  | true =>
    rw [if_pos rfl] at h
    refine codeAny_handlers_suite_as (flight_none fly fun h2 k _ fly2 => ?_)
    have I2 := I.landed fp k
    refine store_ok (X := X.held e (X.pn ++ pins)) (I2.held e) hN hi (.inl hl) (v := .ref e) rfl (fun s3 I3 => ?_) (.inr hl)
    refine wpAny_mono (hs e _ [] s3 _ _ _ I3 (h _)) (fun fl s4 h4 => ?_) fun _ _ z => z.elim
    cases fl with
    | next => obtain ⟨σ', H', J, q'⟩ := h4; exact unbind_ok (J.unheld I.ok) hN hi hl fun s5 I5 => ⟨_, _, I5, q'⟩
    | brk => obtain ⟨σ', H', J, q'⟩ := h4; exact unbind_ok (J.unheld I.ok) hN hi hl fun s5 I5 => ⟨_, _, I5, q'⟩
    | cont => obtain ⟨σ', H', J, q'⟩ := h4; exact unbind_ok (J.unheld I.ok) hN hi hl fun s5 I5 => ⟨_, _, I5, q'⟩
    | ret u => obtain ⟨v, σ', H', J, r, q'⟩ := h4; exact unbind_ok (J.unheld I.ok) hN hi hl fun s5 I5 => ⟨v, _, _, I5, r, q'⟩
def tTry (tb : List (Addr × Obj)->(Value->Shared->Prop)->XS->TS) (th : TH) : TS := fun D σ H => ∀ pn xe, tb pn xe (fun σ' cls oe H' => ∃ e C, cls = .ref C /\ oe = some e /\ th e C D σ' H') D σ H
theorem ps_try {body : List Stmt} {h0 : ExceptHandler} {hs : List ExceptHandler} {tb : List (Addr × Obj)->(Value->Shared->Prop)->XS->TS} {th : TH} (hb : ∀ pn xe E, PassesS (X.tried pn xe) E->PSs (X.tried pn xe) body (tb pn xe E)) (hh : PH X (h0 :: hs) th) (hst : X.stack = X.env :: X.outer) (hfr : X.env.frame = some X.env.locals) :
    PS X (.Try body (h0 :: hs) [] [] pos) (tTry tb th) := by
  intro pins s σ H D I h
  refine wpAny_Try_except ?_
  refine wpAny_mono (hb (X.pn ++ pins) (fun v s₁ => wpAny (model X.prog X.w) X.A (noteFrame v X.env) (fun _ s₂ => wpAny (model X.prog X.w) X.A (setFlight v none) (fun _ s₃ => wpAny (model X.prog X.w) X.A (handleBy v X.env (h0 :: hs)) (SP X pins D) X.xe s₃) X.xe s₂) X.xe s₁)
    (fun σ' cls oe H' => ∃ e C, cls = .ref C /\ oe = some e /\ th e C D σ' H') ?_ [] s σ H D I.tried (h _ _)) (fun fl s1 h1 => ?_) fun v s1 h1 => h1
  · rintro ps σ' H1 s1 v s2 J ⟨e, C, od, T, H2, rfl, os, bare, un, hok, he, hT, nT, fly, e', C', ec, ee, hth⟩
    cases ec
    cases ee
    have J2 := J.call' (ch := []) os un hok bare (fun b z => absurd z (by simp))
    have K2 : Inv X pins σ' H2 s2 := J2.untried I.ok
    have fp : FpOk X pins H2 T := (J.untried I.ok).fpOk hT nT
    have fr : X.A.frames = some (X.env :: X.outer) := by rw [← hst]; exact I.ok.frames
    show wpAny _ _ (noteFrame (.ref e) X.env) _ _ _
    refine note_next fr (by rw [← hst]; exact K2.stack) hfr fly fun h3 T3 Nd => ?_
    rw [← hst] at Nd
    have K3 := K2.noted (ch := [T]) he Nd (fun b hb => by have := List.mem_singleton.mp hb; subst this; exact fp)
    rw [upd_id he] at K3
    have fp3 : FpOk X pins H2 T3 := K2.fpOk Nd.new (K2.hok.fresh Nd.new)
    refine flight_none (s := { s2 with heap := h3 }) Nd.fly fun h4 k4 _ fly4 => ?_
    have K4 := K3.landed fp3 k4
    exact hh pins _ σ' H2 D e C od T3 K4 he fly4 fp3 hth
  · cases fl with
    | next => exact wpAny_execs_nil (SP.untried I.ok h1)
    | brk => exact SP.untried I.ok h1
    | cont => exact SP.untried I.ok h1
    | ret u => exact SP.untried I.ok h1
end
open PySem PySem.Spec PyProof.Rows
theorem cxx_no {P : Program} {w : World} {o : List Env} {H : Hp} {s s' : Shared} {e : Value} (h : CXx P w o H s (fun _ _ _ => False) e s') : False := by
  obtain ⟨_, _, _, _, _, _, _, _, _, _, _, _, _, _, z⟩ := h
  exact z
open PySem
theorem look_ne {f g : Str} {x : V} {r : List (Str × V)} (h : ¬ f = g) : List.lookup f ((g, x) :: r) = List.lookup f r := by
  rw [List.lookup_cons]
  have : (f == g) = false := by simpa using h
  rw [this]
theorem look_eq {f : Str} {x : V} {r : List (Str × V)} : List.lookup f ((f, x) :: r) = some x := by
  rw [List.lookup_cons]; simp
def Keep (F : List Addr) (H H' : Hp) : Prop := ∀ b o, H b = some o->b ∉ F->H' b = some o
theorem Keep.of_same {F : List Addr} {H H' : Hp} (h : Same H H') : Keep F H H' := fun b o e _ => h b o e
theorem keep_upd {F : List Addr} {H H' : Hp} {p : Addr} {o : HO} (s : Keep F H H') (h : p ∈ F ∨ H p = none) : Keep F H (upd H' p o) := fun b u e hb => by
  rw [upd_ne]
  · exact s b u e hb
  · rintro rfl
    rcases h with h | h
    · exact hb h
    · rw [h] at e; cases e
theorem Keep.refl {F : List Addr} {H : Hp} : Keep F H H := fun _ _ e _ => e
def fl (wd ls : Int) (ta sa : Addr) : List (Str × V) := [("wide", .int wd), ("last", .int ls), ("tables", .ref ta), ("set_places", .ref sa)]
theorem s1 : ¬ (("wide" : Str) = "last") := by decide +kernel
theorem s2 : ¬ (("wide" : Str) = "tables") := by decide +kernel
theorem s3 : ¬ (("wide" : Str) = "set_places") := by decide +kernel
theorem s4 : ¬ (("last" : Str) = "tables") := by decide +kernel
theorem s5 : ¬ (("last" : Str) = "set_places") := by decide +kernel
theorem s6 : ¬ (("tables" : Str) = "set_places") := by decide +kernel
open PySem PySem.Spec PyProof.Rows
theorem boot_ValueError : bootBuiltins "ValueError" = some (.type "ValueError") := by decide +kernel
open PySem PySem.Spec PyProof.Rows
section
variable {prog : Program} {w : World} {A : Around} {E : Value->Shared->Prop} {h : Heap} {g : Array GenState} {d : Drawn} {t : Nat} {os : OsState} {K : PySem.W.Frag} {C f : Addr}
variable {nm q : Str} {N : Addr} {bs bm : List Value} {sn : List Str} {sub : List Value} {ab : Bool} {col : Option Bool} {dd : Option Addr} {k0 k1 k2 k3 k5 : Option Value}
theorem xcheck_init {M : Model} {e : Addr} {oe : Obj} {rest : List Value} {Q : Unit->Shared->Prop} (hb : excMro bm = true) (hC : h.get? C = some (excClassObj nm q C N bs bm true sn sub ab col dd k0 k1 k2 k3 k5 "ValueError.__new__"))
    (he : h.get? e = some oe) (hcls : oe.cls = .ref C) (hq : Q () ⟨h, g, d, t, os⟩) : wpAny M A (checkBuiltinCall "ValueError.__init__" ⟨.ref e :: rest, []⟩) Q E ⟨h, g, d, t, os⟩ := by
  have F := PySem.F.excBase_ValueError
  have hcB := own_has (C := C) hb (T := "ValueError") (by decide)
  have hshort := F.noStar
  simp only [checkBuiltinCall, F.initKind, F.initSplit, F.initRow]
  repeat (first | (with_reducible refine wpAny_loadPart_at he ?_; rw [hcls]) | with_reducible refine wpAny_loadPart_at hC ?_ | (with_reducible refine wpAny_isSubtype_exc hC ?_; rw [hcB]) | wp_step)
  refine wpAny_onRaise ?_
  rw [show ∀ (a b : String) (n : Nat), Bind.check ⟨.positional, "*", "ValueError", .self, [⟨"args", .varPos, false⟩]⟩ a b n (List.map (fun x => x.fst) ({ pos := Value.ref e :: rest } : Args).kw) = pure () from
    fun a b n => check_star_args _ _ _ _ _ _]
  exact wpAny_pure hq
theorem xtype_call0 {Q : Fin->Shared->Prop} (hb : excMro bm = true) (hC : h.get? C = some (excClassObj nm q C N bs bm true sn sub ab col dd k0 k1 k2 k3 k5 "ValueError.__new__")) (X : K.In h)
    (hi : PySem.W.findIn K (.ref C) "__init__" = some (some (.builtin "ValueError.__init__")))
    (hq : ∀ h', (∀ b o, h.get? b = some o->h'.get? b = some o)->h'.get? (h.objs.size + 1) = some (excNew C (h.objs.size + 2))->Q (.done (.ret (.ref (h.objs.size + 1)))) ⟨h', g, d, t, os⟩) :
    wpAny (model prog w) A (Builtin.«type.__call__» ⟨.ref C :: [], []⟩) Q E ⟨h, g, d, t, os⟩ := by
  have F := PySem.F.excBase_ValueError
  repeat (first | with_reducible refine wpAny_loadPart_at hC ?_ | with_reducible refine wpAny_madeBy_exc hC ?_ | wp_step)
  refine codeAny_call_builtin_code (Code.quiet_builtin _ F.quiet) (xcheck_new hb hC ?_)
  refine xcode_new hb hC (Nat.zero_le _) ?_
  show wpAny _ _ _ _ _ _
  have X1 : K.In ((h.push (tupNew [])).push (excNew C h.objs.size)) := X.keeps xkeeps
  have hC1 := xkeeps (C := C) (rest := []) _ _ hC
  have hcC : (Value.ref C :: bm).contains (.ref C) = true := by simp
  have L1 := PySem.W.looks_findIn (M := model prog w) X1 hi
  unfold isInstance
  repeat (first | with_reducible refine wpAny_loadPart_at xnew_at ?_ | (with_reducible refine wpAny_isSubtype_exc hC1 ?_; rw [hcC]) | wp_step)
  show wpAny _ _ (typeLookup (.ref C) _) _ _ _
  refine L1.at ?_
  refine wpAny_holding (wpAny_bind (wpAny_of_eq (F.init.bind _) ?_))
  refine wpAny_bind (wpAny_call (codeAny_call_builtin F.init.plain F.initEntry (xcheck_init hb hC1 xnew_at rfl ?_)))
  wp_walk
  refine hq _ (fun b o hb => ?_) ?_
  · rw [Heap.get?_update_other _ _ (Nat.ne_of_gt (Nat.lt_succ_of_lt (Heap.lt_size hb)))]
    exact Heap.get?_push_of_some _ (Heap.get?_push_of_some _ (Heap.get?_push_of_some _ hb))
  · rw [Heap.get?_update_self _ (Heap.get?_push_of_some _ xnew_at) rfl]
    simp only [Heap.size_push]
    rfl
theorem xcall_init0 {Q : Value->Shared->Prop} (X : K.In h) (c : XCls K C) (hi : PySem.W.findIn K (.ref C) "__init__" = some (some (.builtin "ValueError.__init__")))
    (hq : ∀ h', (∀ b o, h.get? b = some o->h'.get? b = some o)->h'.get? (h.objs.size + 1) = some (excNew C (h.objs.size + 2))->Q (.ref (h.objs.size + 1)) ⟨h', g, d, t, os⟩) :
    wpAny (model prog w) A (call (.ref C) []) Q E ⟨h, g, d, t, os⟩ := by
  obtain ⟨nm, qn, N, bs, bm, sn, sub, ab, col, dd, k0, k1, k2, k3, k5, hC, hb⟩ := (c.at X).ex
  have f1 := tc_lookup
  have f2 := tc_bind (.ref C)
  have hT : (⟨h, g, d, t, os⟩ : Shared).TypeIs (.ref C) "type" := ⟨_, hC, rfl⟩
  refine wpAny_call (codeAny_of_tree ?_)
  show wpAny _ _ (callAny (.ref C) _) _ _ _
  repeat (any_goals (first | assumption | with_reducible refine wpAny_loadPart_at hC ?_ | wp_step))
  refine ⟨rfl, ?_⟩
  exact codeAny_call_builtin_at (Code.quiet_builtin _ (by decide +kernel)) entry_typeCall (wpAny_check_type_call_sub hC (xtype_call0 hb hC X hi hq))
end
def tExc0 (C : Addr) : TE := fun σ H Q => ∀ x, H x = none->Q (.ref x) (upd H x (exO true x C none))
theorem pe_exc0 {X : Cx} {x : Str} {C : Addr} {p pos : Pos} (m : X.mg x = some (.ref C)) (c : XCls X.K C) (hi : PySem.W.findIn X.K (.ref C) "__init__" = some (some (.builtin "ValueError.__init__"))) (kp : PySem.W.keepIn X.K (.ref C) = true) (hg : Gl X x)
    (hdb : (x == ("__debug__" : Str)) = false := by decide) : PE X (.Call (.Name x p) [] [] pos) (tExc0 C) := by
  intro pins s σ H Q I h
  refine wpAny_Call_Name_kw (ld_glob I hg m ?_ hdb)
  refine PySem.W.callWith_K0 I.kIn kp ?_
  have hq := h (s.heap.objs.size + 1) (I.hok.fresh (Nat.le_succ _))
  obtain ⟨hp, g, d, t, os⟩ := s
  refine xcall_init0 I.kIn c hi fun h' hk hx => ?_
  exact ⟨.ref (hp.objs.size + 1), _, I.laid (a := hp.objs.size + 1) (t' := t) (fun b u q => hk b u q) (Nat.le_succ _) (objOk_exc ⟨_, _, hx, rfl, fun _ => rfl⟩), rfl, hq⟩
open PySem PySem.Spec PyProof.Rows
theorem comp_tup {K : PySem.W.Frag} {a : Addr} (D : Addr) {xs : List V} {g : TG} {tt : TT} {te : TE} {σ : St} {H : Hp} {R : Hp->Prop} (Pv : Nat->St->Hp->List V->Prop) (h0 : Pv 0 σ H []) (hl : ∀ i σ H ys, i ≤ xs.length->Pv i σ H ys->SqT K H a xs)
    (hs : ∀ i x σ H ys, xs[i]? = some x->Pv i σ H ys->g x σ H fun σ3 H3 => tt σ3 H3 fun b H4 => if b = true then
      te σ3 H4 fun y H5 => H5 D = some (.lst ys) /\ ys.length < sizeLine /\ Pv (i + 1) σ3 (upd H5 D (.lst (ys ++ [y]))) (ys ++ [y]) else Pv (i + 1) σ3 H4 ys) (hd : ∀ σ H ys, Pv xs.length σ H ys->R H) :
    ∃ W : Nat->Nat->St->Hp->List V->Prop, (∃ m, W 0 m σ H []) /\ ∀ i m σ' H' ys, W i m σ' H' ys->((Itt K a).stop i H' /\ R H') ∨
      ((Itt K a).go i H' /\ ∃ N : St->Hp->List V->Prop, (∀ σ' H' ys', N σ' H' ys'->∃ m', m' < m /\ W (i + 1) m' σ' H' ys') /\ ∀ x H2, (Itt K a).yld i H' x H2->g x σ' H2 fun σ3 H3 => tt σ3 H3 fun b H4 => if b = true then
        te σ3 H4 fun y H5 => H5 D = some (.lst ys) /\ ys.length < sizeLine /\ N σ3 (upd H5 D (.lst (ys ++ [y]))) (ys ++ [y])
        else N σ3 H4 ys) := by
  refine ⟨fun i m σ H ys => m = xs.length - i /\ i ≤ xs.length /\ Pv i σ H ys, ⟨xs.length, by simp, Nat.zero_le _, h0⟩, ?_⟩
  rintro i m σ H ys ⟨rfl, hi, p⟩
  have q := hl i σ H ys hi p
  by_cases hlt : i < xs.length
  · refine .inr ⟨⟨xs, xs[i], q, by simp [hlt]⟩, Pv (i + 1), fun σ' H' ys' p' => ⟨xs.length - (i + 1), by omega, rfl, hlt, p'⟩, fun x H' y => ?_⟩
    obtain ⟨e, y⟩ := y
    subst e
    exact hs i x σ _ ys (y xs q) p
  · have e : i = xs.length := by omega
    subst e
    exact .inl ⟨⟨xs, q, Nat.le_refl _⟩, hd σ H ys p⟩
def flat (rows : List (Nat × Nat)) : List Nat := rows.flatMap fun r => [r.1, r.2]
open PySem PySem.Spec PyProof.Rows
theorem vals_of : ∀ {us : List Value} {ns : List Int}, IntsAre us ns->Vals (ns.map V.int) us
  | _, _, .nil => .nil
  | _, _, .cons _ t r => .cons ⟨t, rfl⟩ (vals_of r)
theorem ints_len {us : List Value} {ns : List Int} (h : IntsAre us ns) : us.length = ns.length := by
  have := (vals_of h).length
  rw [List.length_map] at this
  exact this.symm
section
variable {X : Cx}
theorem call_sorted : CallR X (.builtin "sorted") (fun xs H Q => ∃ (a : Addr) (ns : List Int), xs = [.ref a] /\ SqL X.K H a (ns.map V.int) /\ ns.length < 64 ∧
    ∀ (l : Addr) (ns' : List Int), H l = none->ns'.Perm ns->ns'.Pairwise (· ≤ ·)->Q (.ref l) (upd H l (.lst (ns'.map V.int)))) := by
  rintro pins s σ H xs us Q I r ⟨a, ns, rfl, hS, h64, q⟩
  obtain ⟨u, rfl, ru⟩ := vals1 r
  cases (show u = Value.ref a from ru)
  obtain ⟨its, rv, pl, _⟩ := I.list hS
  have hI := intsAre_of rv
  refine sorted_ints pl.isList hI (by rw [ints_len hI]; exact h64) fun out ns' b1 b2 b3 => ?_
  obtain ⟨e, hat⟩ := sortedAll_at s.heap its out
  have hl : out.toList.length = ns'.length := ints_len b1
  refine ⟨.ref (s.heap.objs.size + 1), _, I.laid (t' := s.toks) (o := .lst (ns'.map V.int)) (fun b ob z => sortedAll_old z) (Nat.le_succ _) ⟨?_, out.toList, e, vals_of b1, by simpa using hat⟩, rfl, q _ ns' (I.hok.fresh (Nat.le_succ _)) b2 b3⟩
  rw [List.length_map, b2.length_eq]
  exact Nat.le_of_lt (small1000 (by omega))
end
open PySem HT
theorem lex_irr : ∀ a : List Int, HT.lexLt a a = false
  | [] => rfl
  | x :: a => by rw [HT.lexLt_cons, if_pos rfl]; exact lex_irr a
theorem lex_tr : ∀ {a b c : List Int}, HT.lexLt a b = true->HT.lexLt b c = true->HT.lexLt a c = true
  | _, [], [], _, h2 => by simp [HT.lexLt_nil_nil] at h2
  | [], [], _ :: _, h1, _ => by simp [HT.lexLt_nil_nil] at h1
  | _ :: _, [], _ :: _, h1, _ => by simp [HT.lexLt_cons_nil] at h1
  | _, _ :: _, [], _, h2 => by simp [HT.lexLt_cons_nil] at h2
  | [], _ :: _, _ :: _, _, _ => HT.lexLt_nil_cons _ _
  | x :: a, y :: b, z :: c, h1, h2 => by
    rw [HT.lexLt_cons] at h1 h2 ⊢
    by_cases e1 : x = y
    · subst e1
      rw [if_pos rfl] at h1
      by_cases e2 : x = z
      · subst e2
        rw [if_pos rfl] at h2 ⊢
        exact lex_tr h1 h2
      · rw [if_neg e2] at h2 ⊢
        exact h2
    · rw [if_neg e1] at h1
      have h1 := of_decide_eq_true h1
      by_cases e2 : y = z
      · subst e2
        rw [if_neg e1]; exact decide_eq_true h1
      · rw [if_neg e2] at h2
        have h2 := of_decide_eq_true h2
        rw [if_neg (by omega)]; exact decide_eq_true (by omega)
theorem lex_tot : ∀ {a b : List Int}, HT.lexLt a b = false->HT.lexLt b a = false->a = b
  | [], [], _, _ => rfl
  | [], _ :: _, h, _ => by simp [HT.lexLt_nil_cons] at h
  | _ :: _, [], _, h => by simp [HT.lexLt_nil_cons] at h
  | x :: a, y :: b, h1, h2 => by
    rw [HT.lexLt_cons] at h1 h2
    by_cases e : x = y
    · subst e
      rw [if_pos rfl] at h1 h2
      rw [lex_tot h1 h2]
    · rw [if_neg e] at h1
      rw [if_neg (Ne.symm e)] at h2
      have h1 := of_decide_eq_false h1
      have h2 := of_decide_eq_false h2
      omega
def Le (a b : List Int) : Prop := HT.lexLt b a = false
theorem Le.refl (a : List Int) : Le a a := lex_irr a
theorem Le.of_lt {a b : List Int} (h : HT.lexLt a b = true) : Le a b := by
  unfold Le
  cases e : HT.lexLt b a with
  | false => rfl
  | true => have := lex_tr h e; rw [lex_irr] at this; cases this
theorem Le.trans {a b c : List Int} (h1 : Le a b) (h2 : Le b c) : Le a c := by
  unfold Le
  cases e : HT.lexLt c a with
  | false => rfl
  | true =>
    unfold Le at h1 h2
    cases e1 : HT.lexLt a b with
    | true => have := lex_tr e e1; rw [h2] at this; cases this
    | false => have z := lex_tot e1 h1; subst z; rw [h2] at e; cases e
theorem Le.antisymm {a b : List Int} (h1 : Le a b) (h2 : Le b a) : a = b := lex_tot h2 h1
abbrev gK (l : List (List Int)) (i : Nat) : List Int := l.getD i []
def swp (l : List (List Int)) (i j : Nat) : List (List Int) := (l.set i (gK l j)).set j (gK l i)
theorem swp_len (l : List (List Int)) (i j : Nat) : (swp l i j).length = l.length := by simp [swp]
theorem swp_get {l : List (List Int)} {i j : Nat} (hi : i < l.length) (hj : j < l.length) (k : Nat) : gK (swp l i j) k = if k = j then gK l i else if k = i then gK l j else gK l k := by
  unfold swp gK
  simp only [List.getD_eq_getElem?_getD, List.getElem?_set, List.length_set]
  by_cases h1 : j = k
  · subst h1; simp [hj]
  · rw [if_neg h1, if_neg (Ne.symm h1)]
    by_cases h2 : i = k
    · subst h2; simp [hi]
    · rw [if_neg h2, if_neg (Ne.symm h2)]
theorem swp_perm {l : List (List Int)} {i j : Nat} (hi : i < l.length) (hj : j < l.length) : (swp l i j).Perm l := by
  have h := Array.swap_perm (xs := l.toArray) (i := i) (j := j) (by simpa using hi) (by simpa using hj)
  have h := h.toList
  refine List.Perm.trans (List.Perm.of_eq ?_) h
  unfold swp gK Array.swap
  simp [List.getD_eq_getElem?_getD, hi, hj]
def HOrd (l : List (List Int)) : Prop := ∀ i, 0 < i->i < l.length->Le (gK l ((i - 1) / 2)) (gK l i)
def LiftI (l : List (List Int)) (k : Nat) : Prop := (∀ i, 0 < i->i < l.length->i ≠ k->Le (gK l ((i - 1) / 2)) (gK l i)) /\ (0 < k->∀ i, 0 < i->i < l.length->(i - 1) / 2 = k->Le (gK l ((k - 1) / 2)) (gK l i))
def SinkI (l : List (List Int)) (h : Nat) : Prop := (∀ i, 0 < i->i < l.length->(i - 1) / 2 ≠ h->Le (gK l ((i - 1) / 2)) (gK l i)) /\ (0 < h->∀ i, 0 < i->i < l.length->(i - 1) / 2 = h->Le (gK l ((h - 1) / 2)) (gK l i))
theorem lift_step {l : List (List Int)} {k : Nat} (I : LiftI l k) (hk : 0 < k) (hl : k < l.length) (lt : HT.lexLt (gK l k) (gK l ((k - 1) / 2)) = true) : LiftI (swp l k ((k - 1) / 2)) ((k - 1) / 2) := by
  have hp : (k - 1) / 2 < l.length := by omega
  refine ⟨fun i h0 hi hne => ?_, fun h0' i h0 hi hpar => ?_⟩
  · rw [swp_len] at hi
    rw [swp_get hl hp, swp_get hl hp, if_neg hne]
    by_cases e1 : i = k
    · subst e1
      rw [if_pos rfl, if_pos rfl]; exact Le.of_lt lt
    rw [if_neg e1]
    by_cases e2 : (i - 1) / 2 = (k - 1) / 2
    · rw [if_pos e2]
      have := I.1 i h0 hi e1
      rw [e2] at this
      exact (Le.of_lt lt).trans this
    rw [if_neg e2]
    by_cases e3 : (i - 1) / 2 = k
    · rw [if_pos e3]; exact I.2 hk i h0 hi e3
    · rw [if_neg e3]; exact I.1 i h0 hi e1
  · rw [swp_len] at hi
    have hpk : (k - 1) / 2 ≠ k := by omega
    have hq := I.1 ((k - 1) / 2) h0' hp hpk
    rw [swp_get hl hp, swp_get hl hp, if_neg (by omega), if_neg (by omega), if_neg (by omega)]
    by_cases e1 : i = k
    · rw [if_pos e1]; exact hq
    · rw [if_neg e1]
      have := I.1 i h0 hi e1
      rw [hpar] at this
      exact hq.trans this
theorem lift_end {l : List (List Int)} {k : Nat} (I : LiftI l k) (h : k = 0 ∨ HT.lexLt (gK l k) (gK l ((k - 1) / 2)) = false) : HOrd l := fun i h0 hi => by
  by_cases e : i = k
  · subst e
    rcases h with h | h
    · omega
    · exact h
  · exact I.1 i h0 hi e
def lsr (l : List (List Int)) (p : Nat) : Nat := if 2 * p + 2 < l.length /\ HT.lexLt (gK l (2 * p + 2)) (gK l (2 * p + 1)) = true then 2 * p + 2 else 2 * p + 1
theorem lsr_par (l : List (List Int)) (p : Nat) : (lsr l p - 1) / 2 = p /\ 0 < lsr l p := by unfold lsr; split <;> omega
theorem lsr_le {l : List (List Int)} {p : Nat} {i : Nat} (h0 : 0 < i) (hi : i < l.length) (hp : (i - 1) / 2 = p) : lsr l p < l.length /\ Le (gK l (lsr l p)) (gK l i) := by
  have hi2 : i = 2 * p + 1 ∨ i = 2 * p + 2 := by omega
  unfold lsr
  split
  · rename_i h
    refine ⟨h.1, ?_⟩
    rcases hi2 with e | e
    · rw [e]; exact Le.of_lt h.2
    · rw [e]; exact Le.refl _
  · rename_i h
    refine ⟨by omega, ?_⟩
    rcases hi2 with e | e
    · rw [e]; exact Le.refl _
    · rw [e]
      unfold Le
      cases z : HT.lexLt (gK l (2 * p + 2)) (gK l (2 * p + 1)) with
      | false => rfl
      | true => exact absurd ⟨by omega, z⟩ h
theorem sink_step {l : List (List Int)} {h : Nat} (I : SinkI l h) (hl : lsr l h < l.length) (lt : HT.lexLt (gK l (lsr l h)) (gK l h) = true) : SinkI (swp l (lsr l h) h) (lsr l h) := by
  obtain ⟨hpar, hpos⟩ := lsr_par l h
  have hle := fun i h0 hi hp => (lsr_le (l := l) (p := h) (i := i) h0 hi hp).2
  generalize lsr l h = w at *
  have hh : h < l.length := by omega
  refine ⟨fun i h0 hi hne => ?_, fun _ i h0 hi hp => ?_⟩
  · rw [swp_len] at hi
    rw [swp_get hl hh, swp_get hl hh, if_neg (show ¬ (i - 1) / 2 = w from hne)]
    by_cases e1 : i = h
    · subst e1
      rw [if_pos rfl, if_neg (by omega)]
      exact I.2 h0 w hpos hl hpar
    rw [if_neg e1]
    by_cases e2 : i = w
    · subst e2
      rw [if_pos rfl, if_pos hpar]; exact Le.of_lt lt
    rw [if_neg e2]
    by_cases e3 : (i - 1) / 2 = h
    · rw [if_pos e3]; exact hle i h0 hi e3
    · rw [if_neg e3]; exact I.1 i h0 hi e3
  · rw [swp_len] at hi
    rw [swp_get hl hh, swp_get hl hh, hpar, if_pos rfl, if_neg (by omega), if_neg (by omega)]
    have := I.1 i h0 hi (by omega)
    rw [hp] at this
    exact this
theorem sink_end {l : List (List Int)} {h : Nat} (I : SinkI l h) (he : l.length ≤ lsr l h ∨ HT.lexLt (gK l (lsr l h)) (gK l h) = false) : HOrd l := fun i h0 hi => by
  by_cases e : (i - 1) / 2 = h
  · have := lsr_le h0 hi e
    rcases he with z | z
    · omega
    · rw [e]; exact Le.trans (show Le (gK l h) (gK l (lsr l h)) from z) this.2
  · exact I.1 i h0 hi e
theorem hord_min {l : List (List Int)} (h : HOrd l) : ∀ i, i < l.length->Le (gK l 0) (gK l i) := by
  intro i
  induction i using Nat.strongRecOn with
  | _ i ih =>
    intro hi
    by_cases e : i = 0
    · subst e; exact Le.refl _
    · exact (ih ((i - 1) / 2) (by omega) (by omega)).trans (h i (by omega) hi)
open PySem PyProof.Rows
def KeyAt (tu : Bool) (H : Hp) (v : V) (ks : List Int) : Prop := match tu with
  | true => ∃ a, v = .ref a /\ H a = some (.tup (ks.map V.int))
  | false => ∃ i, v = .int i /\ ks = [i]
theorem KeyAt.mono {tu : Bool} {H H' : Hp} {v : V} {ks : List Int} (h : KeyAt tu H v ks) (m : ∀ t xs, H t = some (.tup xs)->H' t = some (.tup xs)) : KeyAt tu H' v ks := by
  cases tu with
  | true => obtain ⟨a, e, h⟩ := h; exact ⟨a, e, m a _ h⟩
  | false => exact h
structure KeysAt (tu : Bool) (H : Hp) (vs : List V) (its : List (List Int)) : Prop where
  len : vs.length = its.length
  get : ∀ (i : Nat) v ks, vs[i]? = some v->its[i]? = some ks->KeyAt tu H v ks
section
variable {tu : Bool} {H H' : Hp} {vs : List V} {its : List (List Int)}
theorem KeysAt.mono (R : KeysAt tu H vs its) (m : ∀ t xs, H t = some (.tup xs)->H' t = some (.tup xs)) : KeysAt tu H' vs its := ⟨R.len, fun i v ks e1 e2 => (R.get i v ks e1 e2).mono m⟩
theorem KeysAt.nil : KeysAt tu H [] [] := ⟨rfl, fun i v ks e => by simp at e⟩
theorem KeysAt.at_ (R : KeysAt tu H vs its) {i : Nat} (hi : i < its.length) : ∃ v, vs[i]? = some v /\ KeyAt tu H v (gK its i) := by
  have h1 : i < vs.length := by rw [R.len]; exact hi
  refine ⟨vs[i], List.getElem?_eq_getElem h1, R.get i _ _ (List.getElem?_eq_getElem h1) ?_⟩
  rw [List.getElem?_eq_getElem hi]
  simp [gK, List.getD_eq_getElem?_getD, hi]
theorem KeysAt.snoc (R : KeysAt tu H vs its) {v : V} {ks : List Int} (h : KeyAt tu H v ks) : KeysAt tu H (vs ++ [v]) (its ++ [ks]) :=
  ⟨by simp [R.len], fun i w ls e1 e2 => by
    by_cases hi : i < vs.length
    · rw [List.getElem?_append_left hi] at e1
      rw [List.getElem?_append_left (by rw [← R.len]; exact hi)] at e2
      exact R.get i w ls e1 e2
    · have hlt := (List.getElem?_eq_some_iff.mp e1).1
      have : i = vs.length := by simp at hlt; omega
      subst this
      rw [List.getElem?_append_right (Nat.le_refl _)] at e1
      rw [R.len, List.getElem?_append_right (Nat.le_refl _)] at e2
      simp at e1 e2
      subst e1 e2
      exact h⟩
theorem KeysAt.set (R : KeysAt tu H vs its) {i : Nat} {v : V} {ks : List Int} (h : KeyAt tu H v ks) : KeysAt tu H (vs.set i v) (its.set i ks) :=
  ⟨by simp [R.len], fun j w ls e1 e2 => by
    rw [List.getElem?_set] at e1 e2
    by_cases hj : i = j
    · subst hj
      rw [if_pos rfl] at e1 e2
      split at e1
      · rw [if_pos (by rw [← R.len]; assumption)] at e2
        cases e1; cases e2; exact h
      · cases e1
    · rw [if_neg hj] at e1 e2
      exact R.get j w ls e1 e2⟩
theorem KeysAt.swap (R : KeysAt tu H vs its) {i j : Nat} {v w : V} (hi : i < its.length) (hj : j < its.length) (ei : vs[i]? = some v) (ej : vs[j]? = some w) : KeysAt tu H ((vs.set i w).set j v) (swp its i j) := by
  have kv := R.get i v (gK its i) ei (by rw [List.getElem?_eq_getElem hi]; simp [gK, List.getD_eq_getElem?_getD, hi])
  have kw := R.get j w (gK its j) ej (by rw [List.getElem?_eq_getElem hj]; simp [gK, List.getD_eq_getElem?_getD, hj])
  exact (R.set kw).set kv
end
theorem KeysAt.dropLast {tu : Bool} {H : Hp} {vs : List V} {its : List (List Int)} (R : KeysAt tu H vs its) : KeysAt tu H vs.dropLast its.dropLast :=
  ⟨by rw [List.length_dropLast, List.length_dropLast, R.len], fun i v ks e1 e2 => by
    rw [List.getElem?_dropLast] at e1 e2
    split at e1
    · split at e2
      · exact R.get i v ks e1 e2
      · cases e2
    · cases e1⟩
def rLtO (K : PySem.W.Frag) : R2 := fun x y H Q => rLtT K x y H Q ∨ ∃ i j, x = .int i /\ y = .int j /\ Q (.bl (decide (i < j))) H
theorem op_ltO {X : Cx} (hu : X.A.units < cLine) : OpR X (compareOp .Lt) (rLtO X.K) := by
  intro pins s σ H x y v u Q I rx ry h
  rcases h with h | ⟨i, j, e1, e2, q⟩
  · exact op_ltT hu pins s σ H x y v u Q I rx ry h
  · exact op_lt pins s σ H x y v u Q I rx ry ⟨i, j, e1, e2, q⟩
theorem lex_one (i j : Int) : HT.lexLt [i] [j] = decide (i < j) := by
  rw [HT.lexLt_cons]
  by_cases h : i = j
  · subst h; rw [if_pos rfl, HT.lexLt_nil_nil]; simp
  · rw [if_neg h]
theorem ltO_of {K : PySem.W.Frag} {tu : Bool} {H : Hp} {x y : V} {ks ls : List Int} {Q : VK} (h1 : KeyAt tu H x ks) (h2 : KeyAt tu H y ls) (q : Q (.bl (HT.lexLt ks ls)) H) : rLtO K x y H Q := by
  cases tu with
  | true =>
    obtain ⟨a, e1, h1⟩ := h1
    obtain ⟨b, e2, h2⟩ := h2
    exact .inl ⟨a, b, ks, ls, e1, e2, SqT.of h1, SqT.of h2, q⟩
  | false =>
    obtain ⟨i, e1, rfl⟩ := h1
    obtain ⟨j, e2, rfl⟩ := h2
    rw [lex_one] at q
    exact .inr ⟨i, j, e1, e2, q⟩
structure HpAt (C : Addr) (tu : Bool) (H : Hp) (p r : Addr) (vs : List V) (its : List (List Int)) : Prop where
  ob : ∃ dx, H p = some (.ins C dx [("row", .ref r)])
  row : H r = some (.lst vs)
  ks : KeysAt tu H vs its
section
variable {C : Addr} {tu : Bool} {H H' : Hp} {p r : Addr} {vs : List V} {its : List (List Int)}
theorem HpAt.ne (h : HpAt C tu H p r vs its) : p ≠ r := by
  obtain ⟨dx, ob⟩ := h.ob
  exact ne_of ob h.row (by intro z; cases z)
theorem HpAt.put (h : HpAt C tu H p r vs its) {vs' : List V} {its' : List (List Int)} (k : KeysAt tu H vs' its') : HpAt C tu (upd H r (.lst vs')) p r vs' its' := by
  obtain ⟨dx, ob⟩ := h.ob
  refine ⟨⟨dx, by rw [upd_ne h.ne]; exact ob⟩, upd_same, k.mono fun t xs e => ?_⟩
  rw [upd_ne (ne_of e h.row (by intro z; cases z))]; exact e
theorem HpAt.same (h : HpAt C tu H p r vs its) (s : Same H H') : HpAt C tu H' p r vs its := by
  obtain ⟨dx, ob⟩ := h.ob
  exact ⟨⟨dx, s _ _ ob⟩, s _ _ h.row, h.ks.mono fun t xs e => s _ _ e⟩
end
open PySem
structure Leg where
  num : Int
  start : Int
  to : Int
  bad : Int
  cost : Int
def ahead (legs : List Leg) (P : Int->Option (List Int)) : Nat := (legs.filter fun g => (P g.start).isNone).length
open PySem PySem.Spec PyProof.Rows
def tfs (a b c : Addr) : List (Str × V) := [("sizes", V.ref a), ("weights", V.ref b), ("rates", V.ref c)]
theorem seq_intsT {K : PySem.W.Frag} {H : Hp} {a c : Addr} {xs : List Int} (h1 : H a = some (.tup (xs.map V.int))) (h2 : H c = some (.tup (xs.map V.int))) : SeqEq K H (EqI K H 0) (.ref a) (.ref c) true :=
  SeqEq.sameT (SqT.of h1) (SqT.of h2) fun x hx => by obtain ⟨z, _, rfl⟩ := List.mem_map.mp hx; exact eqI_int z
theorem eqI_in {K : PySem.W.Frag} {H : Hp} {n : Nat} {a c : Addr} (h0 : ∀ a, EqI K H n (.ref a) (.ref a) true) (h : SeqEq K H (EqI K H n) (.ref a) (.ref c) true) : EqI K H (n + 1) (.ref a) (.ref c) true := by
  by_cases e : a = c
  · subst e; exact .inl (h0 a)
  · exact .inr ⟨fun z => e (by cases z; rfl), h⟩
open PySem PySem.Spec PyProof.Rows
def wyF (f b : Nat->Int) : Nat->Nat->Int
  | 0, _ => 0
  | k + 1, d => f d + (if b d < 0 then 0 else wyF f b k (b d).toNat)
def wy (f b : Nat->Int) (d : Nat) : Int := wyF f b (d + 1) d
open PySem PySem.Spec PyProof.Rows
section
variable {prog : Program} {w : World} {A : Around} {E : Value->Shared->Prop} {s : Shared}
set_option maxHeartbeats 6400000 in
end
open PySem PySem.Spec PyProof.Rows
section
variable {X : Cx}
def dd (ns : List Int) : List Int := firstMet (fun i => ns.getD i 0) ns.length
end
open PySem PySem.W PyProof.Rows
def hwT {α : Type} (n : Nat) (lt : Nat->Nat->Bool) : KasT α->(α->Prop)->Prop
  | .ret a, Q => Q a
  | .ask i j k, Q => i < n /\ j < n /\ hwT n lt (k (lt i j)) Q
theorem hwT_bind {α β : Type} {n : Nat} {lt : Nat->Nat->Bool} {f : α->KasT β} {Q : β->Prop} : ∀ (t : KasT α), hwT n lt t (fun a => hwT n lt (f a) Q)->hwT n lt (t.bind f) Q
  | .ret a, h => h
  | .ask i j k, h => ⟨h.1, h.2.1, hwT_bind (k (lt i j)) h.2.2⟩
theorem hwT_mono {α : Type} {n : Nat} {lt : Nat->Nat->Bool} {Q Q' : α->Prop} (hq : ∀ a, Q a->Q' a) : ∀ (t : KasT α), hwT n lt t Q->hwT n lt t Q'
  | .ret a, h => hq a h
  | .ask i j k, h => ⟨h.1, h.2.1, hwT_mono hq (k (lt i j)) h.2.2⟩
theorem hwT_wp {α : Type} {n : Nat} {lt : Nat->Nat->Bool} {cmp : Nat->Nat->(Bool->Shared->Prop)->Shared->Prop} {s : Shared} {Q : α->Shared->Prop}
    (hc : ∀ i j (C : Bool->Shared->Prop), i < n->j < n->C (lt i j) s->cmp i j C s) : ∀ (t : KasT α), hwT n lt t (fun a => Q a s)->t.kasWp cmp Q s
  | .ret a, h => h
  | .ask i j k, h => hc i j _ h.1 h.2.1 (hwT_wp hc (k (lt i j)) h.2.2)
abbrev gA (p : Array Nat) (i : Nat) : Nat := p.getD i 0
theorem gA_eq (p : Array Nat) (i : Nat) : gA p i = (p[i]?).getD 0 := by
  unfold gA; rw [Array.getD_eq_getD_getElem?]
theorem gA_rev {p : Array Nat} {i j : Nat} (hj : j ≤ p.size) (k : Nat) : gA (kas_rev p i j) k = if i ≤ k /\ k < j then gA p (i + j - 1 - k) else gA p k := by
  rw [gA_eq]; unfold kas_rev; rw [getElem?_mirror_all hj]
  split <;> rw [gA_eq]
theorem gA_bub {p : Array Nat} {k l : Nat} (hk : k < p.size) (hl : l ≤ k) (i : Nat) : gA (bubble p k (k - l)) i = if i = l then gA p k else if l < i /\ i ≤ k then gA p (i - 1) else gA p i := by
  rw [gA_eq, getElem?_bubble hk _ (by omega)]
  have e : k - (k - l) = l := by omega
  rw [e]
  by_cases c1 : i = l
  · simp only [if_pos c1]; exact (gA_eq p k).symm
  · simp only [if_neg c1]
    by_cases c2 : l < i /\ i ≤ k
    · simp only [if_pos c2]; exact (gA_eq p (i - 1)).symm
    · simp only [if_neg c2]; exact (gA_eq p i).symm
structure POrd (lt : Nat->Nat->Bool) : Prop where
  irr : ∀ a, lt a a = false
  asy : ∀ a b, lt a b = true->lt b a = false
  tr : ∀ a b c, lt b a = false->lt c b = false->lt c a = false
section
variable {lt : Nat->Nat->Bool} {n : Nat}
def SoTo (lt : Nat->Nat->Bool) (p : Array Nat) (k : Nat) : Prop := ∀ i j, i ≤ j->j < k->lt (gA p j) (gA p i) = false
def NoInc (lt : Nat->Nat->Bool) (p : Array Nat) (k : Nat) : Prop := ∀ i j, i ≤ j->j < k->lt (gA p i) (gA p j) = false
def IsP (n : Nat) (p : Array Nat) : Prop := p.toList.Perm (List.range n)
theorem IsP.size {p : Array Nat} (h : IsP n p) : p.size = n := by
  have := h.length_eq; simpa using this
theorem IsP.bd {p : Array Nat} (h : IsP n p) (h0 : 0 < n) (i : Nat) : gA p i < n := by
  rw [gA_eq]
  by_cases hi : i < p.size
  · rw [getElem?_pos p i hi]
    have : p[i] ∈ List.range n := h.mem_iff.mp (by simp)
    simpa using this
  · rw [getElem?_neg p i hi]; exact h0
theorem IsP.rev {p : Array Nat} (h : IsP n p) (i j : Nat) : IsP n (kas_rev p i j) := (Array.perm_iff_toList_perm.mp (mirror_perm p i j _)).trans h
theorem IsP.bub {p : Array Nat} (h : IsP n p) (i j : Nat) : IsP n (bubble p i j) := (Array.perm_iff_toList_perm.mp (bubble_perm p i j)).trans h
theorem SoTo.one (O : POrd lt) (p : Array Nat) : SoTo lt p 1 := fun i j h1 h2 => by
  have : i = 0 := by omega
  have : j = 0 := by omega
  subst_vars; exact O.irr _
theorem SoTo.next (O : POrd lt) {p : Array Nat} {k : Nat} (h : SoTo lt p k) (h1 : 1 ≤ k) (hk : lt (gA p k) (gA p (k - 1)) = false) : SoTo lt p (k + 1) := fun i j h2 h3 => by
  by_cases e : j = k
  · subst e
    by_cases e : i = j
    · subst e; exact O.irr _
    · exact O.tr _ _ _ (h i (j - 1) (by omega) (by omega)) hk
  · exact h i j h2 (by omega)
theorem NoInc.next (O : POrd lt) {p : Array Nat} {k : Nat} (h : NoInc lt p k) (h1 : 1 ≤ k) (hk : lt (gA p (k - 1)) (gA p k) = false) : NoInc lt p (k + 1) := fun i j h2 h3 => by
  by_cases e : j = k
  · subst e
    by_cases e : i = j
    · subst e; exact O.irr _
    · exact O.tr _ _ _ hk (h i (j - 1) (by omega) (by omega))
  · exact h i j h2 (by omega)
theorem NoInc.turn {p : Array Nat} {k : Nat} (hk : k ≤ p.size) (h : NoInc lt p k) : SoTo lt (kas_rev p 0 k) k := fun i j h1 h2 => by
  rw [gA_rev hk, gA_rev hk, if_pos (by omega), if_pos (by omega)]
  exact h _ _ (by omega) (by omega)
theorem NoInc.alike (O : POrd lt) {p : Array Nat} {k a b : Nat} (hb : b ≤ p.size) (h : NoInc lt p k) (he : ∀ i, a ≤ i->i < b->lt (gA p i) (gA p (b - 1)) = false /\ lt (gA p (b - 1)) (gA p i) = false) : NoInc lt (kas_rev p a b) k := fun i j h1 h2 => by
  rw [gA_rev hb, gA_rev hb]
  split
  · next c1 =>
    have x1 := he i c1.1 c1.2
    have x2 := he (a + b - 1 - i) (by omega) (by omega)
    have al : ∀ y, lt (gA p i) y = false->lt (gA p (a + b - 1 - i)) y = false := fun y hy => O.tr _ _ _ hy (O.tr _ _ _ x1.2 x2.1)
    split
    · next c2 =>
      have y1 := he (a + b - 1 - j) (by omega) (by omega)
      exact O.tr _ _ _ y1.2 x2.1
    · exact al _ (h i j h1 h2)
  · next c1 =>
    split
    · next c2 =>
      have y1 := he j c2.1 c2.2
      have y2 := he (a + b - 1 - j) (by omega) (by omega)
      exact O.tr _ _ _ (O.tr _ _ _ y2.2 y1.1) (h i j h1 h2)
    · exact h i j h1 h2
theorem hw_asc (O : POrd lt) {p : Array Nat} (hp : IsP n p) (h0 : 0 < n) : ∀ (f m : Nat), 1 ≤ m->SoTo lt p m->hwT n lt (kas_asc p f m) (fun r => m ≤ r /\ r ≤ m + f /\ SoTo lt p r /\ (r < m + f->lt (gA p r) (gA p (r - 1)) = true))
  | 0, m, h1, hs => ⟨Nat.le_refl _, Nat.le_refl _, hs, fun h => absurd h (Nat.lt_irrefl _)⟩
  | f + 1, m, h1, hs => by
    refine ⟨hp.bd h0 _, hp.bd h0 _, ?_⟩
    cases e : lt (gA p m) (gA p (m - 1)) with
    | true =>
      dsimp only [gA] at e ⊢
      rw [if_pos rfl]
      exact ⟨Nat.le_refl _, by omega, hs, fun _ => e⟩
    | false =>
      have e' := e
      dsimp only [gA] at e ⊢
      rw [if_neg (by simp)]
      exact hwT_mono (fun r ⟨a1, a2, a3, a4⟩ => ⟨by omega, by omega, a3, fun h => a4 (by omega)⟩) _ (hw_asc O hp h0 f (m + 1) (by omega) (hs.next O h1 e'))
def Tail (lt : Nat->Nat->Bool) (p : Array Nat) (m q : Nat) : Prop := q + 1 ≤ m /\ ∀ i, m - (q + 1) ≤ i->i < m->lt (gA p i) (gA p (m - 1)) = false /\ lt (gA p (m - 1)) (gA p i) = false
theorem Tail.zero (O : POrd lt) {p : Array Nat} {m : Nat} (h : 1 ≤ m) : Tail lt p m 0 := ⟨by omega, fun i h1 h2 => by
  have : i = m - 1 := by omega
  subst this; exact ⟨O.irr _, O.irr _⟩⟩
theorem hw_desc (O : POrd lt) (h0 : 0 < n) : ∀ (f : Nat) (p : Array Nat) (m q : Nat), IsP n p->m + f ≤ n->NoInc lt p m->Tail lt p m q →
    hwT n lt (kas_desc f p m q) (fun r => IsP n r.1 /\ m ≤ r.2.1 /\ r.2.1 ≤ m + f /\ NoInc lt r.1 r.2.1 /\ Tail lt r.1 r.2.1 r.2.2)
  | 0, p, m, q, hp, hm, hn, ht => ⟨hp, Nat.le_refl _, Nat.le_refl _, hn, ht⟩
  | f + 1, p, m, q, hp, hm, hn, ht => by
    have h1 : 1 ≤ m := by have := ht.1; omega
    have more : ∀ {p' q'}, IsP n p'->NoInc lt p' (m + 1)->Tail lt p' (m + 1) q'->hwT n lt (kas_desc f p' (m + 1) q') (fun r => IsP n r.1 /\ m ≤ r.2.1 /\ r.2.1 ≤ m + (f + 1) /\ NoInc lt r.1 r.2.1 /\ Tail lt r.1 r.2.1 r.2.2) := fun a1 a2 a3 =>
      hwT_mono (fun r ⟨b1, b2, b3, b4, b5⟩ => ⟨b1, by omega, by omega, b4, b5⟩) _ (hw_desc O h0 f _ (m + 1) _ a1 (by omega) a2 a3)
    refine ⟨hp.bd h0 _, hp.bd h0 _, ?_⟩
    cases e : lt (gA p m) (gA p (m - 1)) with
    | true =>
      have ni := hn.next O h1 (O.asy _ _ e)
      dsimp only [gA] at e ⊢
      rw [if_pos rfl]
      split
      · exact more (hp.rev _ _) (ni.alike O (by rw [hp.size]; omega) ht.2) (Tail.zero O (by omega))
      · exact more hp ni (Tail.zero O (by omega))
    | false =>
      have e' := e
      dsimp only [gA] at e ⊢
      rw [if_neg (by simp)]
      refine ⟨hp.bd h0 _, hp.bd h0 _, ?_⟩
      cases d : lt (gA p (m - 1)) (gA p m) with
      | true =>
        dsimp only [gA] at d ⊢
        rw [if_pos rfl]
        exact ⟨hp, Nat.le_refl _, by show m ≤ m + (f + 1); omega, hn, ht⟩
      | false =>
        have d' := d
        dsimp only [gA] at d ⊢
        rw [if_neg (by simp)]
        refine more hp (hn.next O h1 d') ⟨by have := ht.1; omega, fun i i1 i2 => ?_⟩
        rw [Nat.add_sub_cancel]
        by_cases z : i = m
        · subst z; exact ⟨O.irr _, O.irr _⟩
        · obtain ⟨x1, x2⟩ := ht.2 i (by omega) (by omega)
          exact ⟨O.tr _ _ _ d' x1, O.tr _ _ _ x2 e'⟩
theorem hw_tail3 (O : POrd lt) (h0 : 0 < n) {p : Array Nat} {m : Nat} (hp : IsP n p) (h1 : 1 ≤ m) (hm : m ≤ n) (hn : NoInc lt p m) : hwT n lt (kas_tail3 m n p) (fun r => IsP n r.2 /\ 1 ≤ r.1 /\ r.1 ≤ n /\ SoTo lt r.2 r.1) := by
  refine hwT_bind _ (hwT_mono (fun r ⟨a1, a2, a3, a4⟩ => ?_) _ (hw_asc O (hp.rev 0 m) h0 (n - m) m h1 (hn.turn (by rw [hp.size]; omega))))
  exact ⟨hp.rev _ _, by show 1 ≤ r; omega, by show r ≤ n; omega, a3⟩
theorem hw_descPart (O : POrd lt) (h0 : 0 < n) {p : Array Nat} {m : Nat} (hp : IsP n p) (hm : m + 1 ≤ n) (hn : NoInc lt p (m + 1)) : hwT n lt (kas_descPart m n p) (fun r => IsP n r.2 /\ 1 ≤ r.1 /\ r.1 ≤ n /\ SoTo lt r.2 r.1) := by
  refine hwT_bind _ (hwT_mono (fun r ⟨a1, a2, a3, a4, a5⟩ => ?_) _ (hw_desc O h0 (n - (m + 1)) p (m + 1) 0 hp (by omega) hn (Tail.zero O (by omega))))
  split
  · exact hw_tail3 O h0 (a1.rev _ _) (by omega) (by omega) (a4.alike O (by rw [a1.size]; omega) a5.2)
  · exact hw_tail3 O h0 a1 (by omega) (by omega) a4
theorem hw_count (O : POrd lt) (h0 : 0 < n) {p : Array Nat} (hp : IsP n p) : hwT n lt (kas_count n p) (fun r => IsP n r.2 /\ 1 ≤ r.1 /\ r.1 ≤ n /\ SoTo lt r.2 r.1) := by
  refine hwT_bind _ (hwT_mono (fun m ⟨a1, a2, a3, a4⟩ => ?_) _ (hw_asc O hp h0 (n - 1) 1 (Nat.le_refl _) (SoTo.one O p)))
  split
  · exact ⟨hp, a1, by show m ≤ n; omega, a3⟩
  · next hne =>
    have hm : m < n := by
      have : m ≠ n := by simpa using hne
      omega
    have st := a4 (by omega)
    split
    · next h2 =>
      refine ⟨hp.bd h0 _, hp.bd h0 _, ?_⟩
      cases e : lt (gA p 0) (gA p (m - 1)) with
      | true =>
        dsimp only [gA] at e ⊢
        rw [if_pos rfl]
        exact ⟨hp, a1, by show m ≤ n; omega, a3⟩
      | false =>
        have e' := e
        dsimp only [gA] at e ⊢
        rw [if_neg (by simp)]
        have al : ∀ i, i < m->lt (gA p i) (gA p (m - 1)) = false /\ lt (gA p (m - 1)) (gA p i) = false := fun i hi =>
          ⟨O.tr _ _ _ e' (a3 0 i (by omega) hi), a3 i (m - 1) (by omega) (by omega)⟩
        have ni : NoInc lt p m := fun i j h1 h2 => O.tr _ _ _ (al j h2).2 (al i (by omega)).1
        exact hw_descPart O h0 (hp.rev _ _) (by omega) ((ni.next O (by omega) (O.asy _ _ st)).alike O (by rw [hp.size]; omega) fun i _ hi => al i hi)
    · next h2 =>
      have : m = 1 := by omega
      subst this
      have ni : NoInc lt p 1 := fun i j h1 h2 => by
        have : i = 0 := by omega
        have : j = 0 := by omega
        subst_vars; exact O.irr _
      exact hw_descPart O h0 hp (by omega) (ni.next O (by omega) (O.asy _ _ st))
theorem hw_place (O : POrd lt) (h0 : 0 < n) {p : Array Nat} {k : Nat} (hp : IsP n p) (hs : SoTo lt p k) : ∀ (f l r : Nat), r ≤ l + f->l ≤ r->r ≤ k->(∀ i, i < l->lt (gA p k) (gA p i) = false)->(∀ i, r ≤ i->i < k->lt (gA p i) (gA p k) = false) →
    hwT n lt (kas_place p k f l r) (fun l => l ≤ k /\ (∀ i, i < l->lt (gA p k) (gA p i) = false) /\ (∀ i, l ≤ i->i < k->lt (gA p i) (gA p k) = false))
  | 0, l, r, hf, hl, hr, a, b => ⟨by omega, a, fun i h1 h2 => b i (by omega) h2⟩
  | f + 1, l, r, hf, hl, hr, a, b => by
    unfold kas_place
    split
    · exact ⟨by omega, a, fun i h1 h2 => b i (by omega) h2⟩
    · next hlr =>
      refine ⟨hp.bd h0 _, hp.bd h0 _, ?_⟩
      cases e : lt (gA p k) (gA p ((l + r) / 2)) with
      | true =>
        have e' := O.asy _ _ e
        dsimp only [gA] at e ⊢
        rw [if_pos rfl]
        exact hw_place O h0 hp hs f l _ (by omega) (by omega) (by omega) a fun i h1 h2 => by
          have x := hs ((l + r) / 2) i h1 h2
          cases z : lt (gA p i) (gA p k) with
          | false => rfl
          | true =>
            exact absurd (O.tr _ _ _ x (O.asy _ _ z)) (by rw [show lt (gA p k) (gA p ((l + r) / 2)) = true from e]; simp)
      | false =>
        have e' := e
        dsimp only [gA] at e ⊢
        rw [if_neg (by simp)]
        exact hw_place O h0 hp hs f _ r (by omega) (by omega) hr (fun i h1 => O.tr _ _ _ (hs i ((l + r) / 2) (by omega) (by omega)) e') b
theorem hw_bin (O : POrd lt) (h0 : 0 < n) : ∀ (f : Nat) (p : Array Nat) (k : Nat), IsP n p->k + f = n->SoTo lt p k->hwT n lt (kas_bin f p k) (fun r => IsP n r /\ SoTo lt r n)
  | 0, p, k, hp, hk, hs => ⟨hp, by rw [← hk]; exact hs⟩
  | f + 1, p, k, hp, hk, hs => by
    refine hwT_bind _ (hwT_mono (fun l ⟨hl, a, b⟩ => ?_) _ (hw_place O h0 hp hs k 0 k (by omega) (by omega) (Nat.le_refl _) (fun i h => absurd h (Nat.not_lt_zero _)) fun i h1 h2 => absurd h1 (by omega)))
    refine hw_bin O h0 f _ (k + 1) (hp.bub _ _) (by omega) fun i j h1 h2 => ?_
    have hk' : k < p.size := by rw [hp.size]; omega
    rw [gA_bub hk' hl, gA_bub hk' hl]
    by_cases c1 : j = l
    · rw [if_pos c1]
      by_cases c2 : i = l
      · rw [if_pos c2]; exact O.irr _
      · rw [if_neg c2, if_neg (by omega)]; exact a i (by omega)
    · rw [if_neg c1]
      by_cases c2 : i = l
      · rw [if_pos c2, if_pos (by omega)]; exact b (j - 1) (by omega) (by omega)
      · rw [if_neg c2]
        by_cases c3 : l < j /\ j ≤ k
        · rw [if_pos c3]
          by_cases c4 : l < i /\ i ≤ k
          · rw [if_pos c4]; exact hs _ _ (by omega) (by omega)
          · rw [if_neg c4]; exact hs _ _ (by omega) (by omega)
        · rw [if_neg c3, if_neg (by omega)]; exact hs _ _ (by omega) (by omega)
theorem hw_sort (O : POrd lt) (h0 : 0 < n) : hwT n lt (kas_sort n) (fun p => IsP n p /\ SoTo lt p n) := by
  refine hwT_bind _ (hwT_mono (fun r ⟨a1, a2, a3, a4⟩ => ?_) _ (hw_count O h0 (p := List.toArray (List.range n)) (by unfold IsP; simp)))
  have e : max r.1 1 = r.1 := by omega
  split
  · rw [e]; exact hw_bin O h0 _ _ _ a1 (by omega) a4
  · have : r.1 = n := by omega
    exact ⟨a1, by rw [← this]; exact a4⟩
end
open PySem PySem.W PyProof.Rows
def TupAt (h : Heap) (v : Value) (ks : List Int) : Prop := ∃ a o xs n, v = .ref a /\ h.get? a = some o /\ o.cls = .type "tuple" /\ o.data = .seq xs n /\ IntsAre xs.toList ks
inductive TupsAt (h : Heap) : List Value->List (List Int)->Prop
  | nil : TupsAt h [] []
  | cons {v ks vs its} : TupAt h v ks->TupsAt h vs its->TupsAt h (v :: vs) (ks :: its)
theorem TupAt.mono {h h' : Heap} {v : Value} {ks : List Int} (t : TupAt h v ks) (m : ∀ b o, h.get? b = some o->o.cls = .type "tuple"->h'.get? b = some o) : TupAt h' v ks := by
  obtain ⟨a, o, xs, n, e, ho, hc, hd, hi⟩ := t
  exact ⟨a, o, xs, n, e, m _ _ ho hc, hc, hd, hi⟩
theorem TupsAt.mono {h h' : Heap} (m : ∀ b o, h.get? b = some o->o.cls = .type "tuple"->h'.get? b = some o) : ∀ {vs : List Value} {its : List (List Int)}, TupsAt h vs its->TupsAt h' vs its
  | _, _, .nil => .nil
  | _, _, .cons t r => .cons (t.mono m) (r.mono m)
theorem TupsAt.at_ {h : Heap} : ∀ {vs : List Value} {its : List (List Int)}, TupsAt h vs its->∀ i, i < vs.length->TupAt h (vs.getD i Value.none) (its.getD i [])
  | _, _, .nil, i, hi => absurd hi (Nat.not_lt_zero _)
  | _, _, .cons t r, 0, _ => by simpa using t
  | _, _, .cons t r, i + 1, hi => by simpa using r.at_ i (by simpa using hi)
section
variable {prog : Program} {w : World} {A : Around} {E : Value->Shared->Prop} {s : Shared}
theorem lex_ask {C : Bool->Shared->Prop} : ∀ {us vs : List Value} {ks ls : List Int} (i : Nat) (fin : Bool), IntsAre us ks->IntsAre vs ls->fin = decide (i + us.length < i + vs.length)->C (HT.lexLt ks ls) s->KatLex prog w A true fin C (us.zip vs) i s
  | _, _, _, _, i, fin, .nil, .nil, hf, q => by
    rw [HT.lexLt_nil_nil] at q
    exact kat_nil (by rw [hf]; simpa using q)
  | _, _, _, _, i, fin, .nil, .cons n t r, hf, q => by
    rw [HT.lexLt_nil_cons] at q
    refine kat_nil ?_
    rw [hf, decide_eq_true (by simp)]; exact q
  | _, _, _, _, i, fin, .cons n t r, .nil, hf, q => by
    rw [HT.lexLt_cons_nil] at q
    refine kat_nil ?_
    rw [hf, decide_eq_false (by simp)]; exact q
  | _, _, _, _, i, fin, .cons n t r, .cons m u r', hf, q => by
    rw [HT.lexLt_cons] at q
    refine kat_cons (wpAny_eqBool_int ?_)
    by_cases e : n = m
    · rw [if_pos e] at q
      rw [beq_iff_eq.mpr e]
      refine kat_yes (lex_ask (i + 1) fin r r' ?_ q)
      rw [hf]; simp only [List.length_cons]; congr 1; apply propext; omega
    · rw [if_neg e] at q
      rw [beq_eq_false_iff_ne.mpr e]
      refine kat_no ?_
      cases i with
      | zero => exact oneLt_int q
      | succ i => exact kat_one _ _ (lt_int (show W.BoolBack C (.bool (decide (n < m))) s from q))
theorem tup_ask {C : Bool->Shared->Prop} {v u : Value} {ks ls : List Int} (h1 : TupAt s.heap v ks) (h2 : TupAt s.heap u ls) (q : C (HT.lexLt ks ls) s) : wpAny (model prog w) A (keyLt' (tuples' true) v u) C E s := by
  obtain ⟨a, o, xs, n, rfl, ho, _, hd, hi⟩ := h1
  obtain ⟨b, o', ys, m, rfl, ho', _, hd', hi'⟩ := h2
  exact kat_lt ho hd ho' hd' (lex_ask 0 _ hi hi' (by simp) q)
theorem TupsAt.kat {h : Heap} : ∀ {vs : List Value} {its : List (List Int)}, TupsAt h vs its->(∀ k ∈ its, k ≠ [])->∃ fs, KatTups h vs fs /\ fs.length = vs.length /\ ∀ v ∈ fs, ∃ n t, v = Value.int n t
  | _, _, .nil, _ => ⟨[], KatTups.nil, rfl, fun v hv => absurd hv (by simp)⟩
  | _, _, .cons (ks := ks) t r, hne => by
    obtain ⟨fs, a1, a2, a3⟩ := r.kat fun k hk => hne k (by simp [hk])
    obtain ⟨a, o, xs, n, rfl, ho, hc, hd, hi⟩ := t
    have : ks ≠ [] := hne ks (by simp)
    obtain ⟨us, hus⟩ : ∃ us, xs.toList = us := ⟨_, rfl⟩
    rw [hus] at hi
    cases hi with
    | nil => exact absurd rfl this
    | cons m u r' =>
      refine ⟨_ :: fs, KatTups.cons (f := Value.int m u) ho hc hd ?_ a1, by simp [a2], fun v hv => ?_⟩
      · rw [← Array.getElem?_toList, hus]; rfl
      · rcases List.mem_cons.mp hv with rfl | hv
        · exact ⟨m, u, rfl⟩
        · exact a3 v hv
def ltK (its : List (List Int)) (i j : Nat) : Bool := HT.lexLt (its.getD i []) (its.getD j [])
theorem ltK_ord (its : List (List Int)) : POrd (ltK its) := ⟨fun a => lex_irr _, fun a b h => Le.of_lt h, fun a b c h1 h2 => Le.trans (a := its.getD a []) h1 h2⟩
theorem SoTo.pw {its : List (List Int)} {p : Array Nat} {n : Nat} (hs : SoTo (ltK its) p n) (hn : p.size = n) : (p.toList.map fun i => its.getD i []).Pairwise Le := by
  rw [List.pairwise_map, List.pairwise_iff_getElem]
  intro i j hi hj hij
  have := hs i j (by omega) (by rw [← hn]; simpa using hj)
  rw [gA_eq, gA_eq, ← Array.getElem?_toList, ← Array.getElem?_toList, List.getElem?_eq_getElem hi, List.getElem?_eq_getElem hj] at this
  exact this
theorem list_sort_tups {a : Addr} {vs : List Value} {its : List (List Int)} {n : Nat} {P : PySem.Fin->Shared->Prop} (ho : s.heap.get? a = some (seqObj "list" vs.toArray n))
    (hT : TupsAt s.heap vs its) (hne : ∀ k ∈ its, k ≠ []) (h64 : vs.length < 64)
    (h : ∀ (p : List Nat), p.Perm (List.range vs.length)->(p.map fun i => its.getD i []).Pairwise Le->P (.done (.ret .none)) { s with heap := sortedHeap s.heap a vs (p.map fun i => vs.getD i Value.none).toArray }) :
    wpAny (model prog w) A (Builtin.«list.sort» ⟨[.ref a], []⟩) P E s := by
  rw [list_sort_plain]
  have ha : a < s.heap.objs.size := Heap.lt_size ho
  refine wpAny_bind (listItems_at ho rfl ?_)
  refine wpAny_bind (listUpdate_at ho rfl ?_)
  obtain ⟨e1, ho1⟩ : ∃ e1, (s.heap.update a (Obj.mapSeq fun _ => #[])).get? a = some (seqObj "list" #[] e1) := ⟨_, get?_update_seq ho (fun _ => #[])⟩
  refine wpAny_bind (seqEpoch_at ho1 rfl ?_)
  refine wpAny_bind (wpAny_newTuple ?_)
  refine wpAny_bind (wpAny_newList ?_)
  refine wpAny_holding ?_
  have hpush : ∀ b, b < s.heap.objs.size->(((s.heap.update a (Obj.mapSeq fun _ => #[])).push (seqObj "tuple" vs.toArray 0)).push (seqObj "list" #[] 0)).get? b = (s.heap.update a (Obj.mapSeq fun _ => #[])).get? b := fun b hb => by
    rw [Heap.get?_push_ne _ _ _ (by rw [size_push', Heap.size_update]; exact Nat.ne_of_lt (Nat.lt_succ_of_lt hb)), Heap.get?_push_ne _ _ _ (by rw [Heap.size_update]; exact Nat.ne_of_lt hb)]
  have ho6 : (((s.heap.update a (Obj.mapSeq fun _ => #[])).push (seqObj "tuple" vs.toArray 0)).push (seqObj "list" #[] 0)).get? a = some (seqObj "list" #[] e1) := by
    rw [hpush a ha]; exact ho1
  have hT6 : TupsAt (((s.heap.update a (Obj.mapSeq fun _ => #[])).push (seqObj "tuple" vs.toArray 0)).push (seqObj "list" #[] 0)) vs its := hT.mono fun b o hb hc => by
    rw [hpush b (Heap.lt_size hb), Heap.get?_update_ne _ _ _ _ (fun e => ?_)]
    · exact hb
    · subst e; rw [ho] at hb; cases hb; exact absurd hc (by show ¬ (Value.type "list" = Value.type "tuple"); simp)
  show wpAny (model prog w) A _ P E { s with heap := ((s.heap.update a (Obj.mapSeq fun _ => #[])).push (seqObj "tuple" vs.toArray 0)).push (seqObj "list" #[] 0) }
  dsimp only
  have hsz : vs.toArray.size = vs.length := by simp
  by_cases h2 : vs.toArray.size < 2
  · rw [if_pos h2, if_pos h2]
    refine wpAny_bind (wpAny_pure ?_)
    rw [StateT.run_pure]
    refine wpAny_bind (wpAny_pure ?_)
    dsimp only
    refine wpAny_bind (seqEpoch_at ho6 rfl ?_)
    refine wpAny_bind (listUpdate_at ho6 rfl ?_ (hsz2 := by rw [Array.size_map]; show (pairsOf vs).size ≤ _; rw [pairsOf_size, sizeLine_eq]; omega))
    simp only [bne_self_eq_false, Bool.false_eq_true, if_false]
    have hout := kat_snds (vs := vs) (ks := vs) rfl (st := SortSt.mk' general' (vs.toArray.zip vs.toArray) #[] 7 none) (p := List.toArray (List.range vs.length)) (by
      have e := kas_range (vs.toArray.zip vs.toArray)
      rw [show (vs.toArray.zip vs.toArray).size = vs.length by simp] at e
      show vs.toArray.zip vs.toArray = _
      rw [e])
    refine wpAny_pure ?_
    have := h (List.range vs.length) (List.Perm.refl _) (by
      rw [List.pairwise_map, List.pairwise_iff_getElem]
      intro i j hi hj hij
      rw [List.length_range] at hi hj
      omega)
    unfold sortedHeap at this
    exact hout ▸ this
  · rw [if_neg h2, if_neg h2]
    obtain ⟨fs, f1, f2, f3⟩ := hT6.kat hne
    refine wpAny_bind (kat_kind (T := Value.type "int") f1 (by omega) (fun v hv => by obtain ⟨m, t, rfl⟩ := f3 v hv; exact Looks.of_pure rfl) rfl ?_)
    refine wpAny_bind (wpAny_mono (kat_run (vs := vs) (ks := vs) (Q := fun st' s' => s' = { s with heap := ((s.heap.update a (Obj.mapSeq fun _ => #[])).push (seqObj "tuple" vs.toArray 0)).push (seqObj "list" #[] 0) } /\ ∃ p : Array Nat, p.size = vs.length /\ arrOf st' = p.map (kas_item (vs.toArray.zip vs.toArray)) /\ failedOf st' = none /\ IsP vs.length p /\ SoTo (ltK its) p vs.length)
      (G := fun p s' => s' = { s with heap := ((s.heap.update a (Obj.mapSeq fun _ => #[])).push (seqObj "tuple" vs.toArray 0)).push (seqObj "list" #[] 0) } /\ IsP vs.length p /\ SoTo (ltK its) p vs.length)
      rfl (by omega) h64 (fun p' st' s' a1 a2 a3 a4 => ⟨a4.1, p', a1, a2, a3, a4.2⟩) ?_) ?_ fun _ _ e => e)
    · refine hwT_wp (n := vs.length) (lt := ltK its) (fun i j C hi hj q => ?_) _ (hwT_mono (fun p hp => ⟨rfl, hp⟩) _ (hw_sort (ltK_ord its) (by omega)))
      exact tup_ask (hT6.at_ i hi) (hT6.at_ j hj) q
    rintro ⟨⟨⟩, st'⟩ s' ⟨rfl, p, hp, har, hf, hP, hS⟩
    dsimp only
    have hout := kat_snds rfl har
    rw [hout]
    refine wpAny_bind (seqEpoch_at ho6 rfl ?_)
    refine wpAny_bind (listUpdate_at ho6 rfl ?_ (hsz2 := by simp only [List.size_toArray, List.length_map, Array.length_toList]; rw [hp, sizeLine_eq]; omega))
    rw [hf]
    simp only [bne_self_eq_false, Bool.false_eq_true, if_false]
    exact wpAny_pure (h p.toList hP (hS.pw hp))
theorem sorted_tups {l : Addr} {vs : List Value} {its : List (List Int)} {Q : Value->Shared->Prop} (hl : s.heap.IsList l vs.toArray) (hT : TupsAt s.heap vs its) (hne : ∀ k ∈ its, k ≠ []) (h64 : vs.length < 64)
    (h : ∀ (p : List Nat), p.Perm (List.range vs.length)->(p.map fun i => its.getD i []).Pairwise Le->Q (.ref (s.heap.objs.size + 1)) { s with heap := sortedAll s.heap vs (p.map fun i => vs.getD i Value.none).toArray }) :
    wpAny (model prog w) A (call (.builtin "sorted") [.ref l]) Q E s := by
  refine Calls.call_function_entry kind_sorted plain_sorted entry_sorted (args_sorted1 _) ?_
  unfold Builtin.«sorted»
  refine wpAny_bind (m := checkCount "sorted" 1 1 _) (wpAny_pure ?_)
  refine wpAny_bind (collect_list hl ?_)
  refine wpAny_bind (wpAny_newList ?_)
  have hsz : ((s.heap.push (seqObj "list" #[] 0)).update s.heap.objs.size (Obj.mapSeq (· ++ vs.toArray))).objs.size = s.heap.objs.size + 1 := by
    rw [Heap.size_update, size_push']
  have hoL : (((s.heap.push (seqObj "list" #[] 0)).update s.heap.objs.size (Obj.mapSeq (· ++ vs.toArray))).push (seqObj "list" vs.toArray 0)).get? (s.heap.objs.size + 1) = some (seqObj "list" vs.toArray 0) := by
    rw [← hsz]; exact Heap.get?_push_size _ rfl
  have keep : ∀ b o, s.heap.get? b = some o->(((s.heap.push (seqObj "list" #[] 0)).update s.heap.objs.size (Obj.mapSeq (· ++ vs.toArray))).push (seqObj "list" vs.toArray 0)).get? b = some o := fun b o q => by
    have hlt : b < s.heap.objs.size := Heap.lt_size q
    rw [Heap.get?_push_ne _ _ _ (by rw [hsz]; exact Nat.ne_of_lt (Nat.lt_succ_of_lt hlt)), Heap.get?_update_ne _ _ _ _ (Nat.ne_of_lt hlt), Heap.get?_push_ne _ _ _ (Nat.ne_of_lt hlt)]
    exact q
  show wpAny _ _ _ _ _ { s with heap := ((s.heap.push (seqObj "list" #[] 0)).update s.heap.objs.size (Obj.mapSeq (· ++ vs.toArray))).push (seqObj "list" vs.toArray 0) }
  rw [hsz]
  refine wpAny_bind (wpAny_holding (wpAny_call_entry slot_list_sort ⟨_, hoL, rfl⟩ entry_list_sort (list_sort_tups hoL (hT.mono fun b o hb _ => keep b o hb) hne h64 fun p a1 a2 => ⟨_, rfl, ?_⟩) (args_list_sort _)))
  exact wpAny_pure ⟨_, rfl, h p a1 a2⟩
end
section
variable {X : Cx}
theorem tupsAt_of {pins : List (Addr × Obj)} {σ : St} {H : Hp} {s : Shared} (I : Inv X pins σ H s) : ∀ {vs : List V} {us : List Value} {its : List (List Int)}, Vals vs us->KeysAt true H vs its->TupsAt s.heap us its
  | _, _, [], .nil, _ => .nil
  | _, _, _ :: _, .nil, R => absurd R.len (by simp)
  | _, _, [], .cons _ _, R => absurd R.len (by simp)
  | _, _, ks :: its, .cons (a := v) r rs, R => by
    obtain ⟨a, rfl, ha⟩ := R.get 0 v ks rfl rfl
    obtain ⟨xs, rv, ⟨o, ho, hc, n, hd⟩, _⟩ := I.tuple (SqT.of ha)
    refine .cons ⟨a, o, _, n, r, ho, hc, hd, by simpa using intsAre_of rv⟩ (tupsAt_of I rs ⟨by simpa using R.len, fun i v k e1 e2 => R.get (i + 1) v k (by simpa using e1) (by simpa using e2)⟩)
theorem Vals.getD : ∀ {vs : List V} {us : List Value}, Vals vs us->∀ (p : List Nat), (∀ i ∈ p, i < vs.length)->Vals (p.map fun i => vs.getD i .non) (p.map fun i => us.getD i Value.none) := by
  intro vs us r p
  induction p with
  | nil => intro _; exact .nil
  | cons i p ih =>
    intro h
    refine .cons ?_ (ih fun j hj => h j (by simp [hj]))
    have hi := h i (by simp)
    clear h ih
    induction r generalizing i with
    | nil => exact absurd hi (Nat.not_lt_zero _)
    | cons a b ih => cases i with
      | zero => simpa using a
      | succ i => simpa using ih i (by simpa using hi)
theorem call_sortedT : CallR X (.builtin "sorted") (fun xs H Q => ∃ (a : Addr) (vs : List V) (its : List (List Int)), xs = [.ref a] /\ SqL X.K H a vs /\ KeysAt true H vs its /\ (∀ k ∈ its, k ≠ []) /\ vs.length < 64 ∧
    ∀ (l : Addr) (p : List Nat), H l = none->p.Perm (List.range vs.length)->(p.map fun i => its.getD i []).Pairwise Le->Q (.ref l) (upd H l (.lst (p.map fun i => vs.getD i .non)))) := by
  rintro pins s σ H xs us Q I r ⟨a, vs, its, rfl, hS, hK, hne, h64, q⟩
  obtain ⟨u, rfl, ru⟩ := vals1 r
  cases (show u = Value.ref a from ru)
  obtain ⟨us, rv, pl, _⟩ := I.list hS
  have hl := rv.length
  refine sorted_tups pl.isList (tupsAt_of I rv hK) hne (by omega) fun p b1 b2 => ?_
  rw [← hl] at b1
  obtain ⟨e, hat⟩ := sortedAll_at s.heap us (p.map fun i => us.getD i Value.none).toArray
  refine ⟨.ref (s.heap.objs.size + 1), _, I.laid (t' := s.toks) (o := .lst (p.map fun i => vs.getD i .non)) (fun b ob z => sortedAll_old z) (Nat.le_succ _) ⟨?_, p.map fun i => us.getD i Value.none, e, rv.getD p fun i hi => ?_, by simpa using hat⟩, rfl, q _ p (I.hok.fresh (Nat.le_succ _)) b1 b2⟩
  · rw [List.length_map, b1.length_eq, List.length_range]
    exact Nat.le_of_lt (small1000 (by omega))
  · have := b1.mem_iff.mp hi
    simpa using this
end
end L2
namespace Mine
open PySem L2
def top (i : Nat) : Stmt := PySem.Challenge.pw_keepsakes_k32_a_heap_gives_all.main.body.getD i (.Pass ⟨0, 0, 0, 0⟩)
abbrev s_Heap___init__ : Stmt := inClass (top 5) 0
abbrev s_Heap_add : Stmt := inClass (top 5) 1
abbrev s_Heap_least : Stmt := inClass (top 5) 2
abbrev s_Heap_take : Stmt := inClass (top 5) 3
abbrev s_Heap_size : Stmt := inClass (top 5) 4
abbrev s_Heap_lying : Stmt := inClass (top 5) 5
abbrev s_Heap_lift : Stmt := inClass (top 5) 6
abbrev s_Heap_sink : Stmt := inClass (top 5) 7
abbrev s_Heap_lesser_below : Stmt := inClass (top 5) 8
abbrev s_Heap_swap : Stmt := inClass (top 5) 9
abbrev s__law_cell_at : Stmt := top 7
abbrev s__law_whole : Stmt := top 8
abbrev s__law_drawn : Stmt := top 9
abbrev s__law_number : Stmt := top 10
abbrev s__law_item : Stmt := top 11
abbrev s__law_alike : Stmt := top 12
abbrev s__law_refused : Stmt := top 13
abbrev s__law_none : Stmt := top 14
abbrev s__law_lies : Stmt := top 15
abbrev s__law_taken : Stmt := top 16
abbrev s_law : Stmt := top 17
theorem sc_Heap___init__ : FnScope ["self"] ["self"] (defScope s_Heap___init__) := ⟨rfl, rfl, rfl, by decide +kernel, rfl, by decide +kernel, by decide +kernel⟩
theorem sc_Heap_add : FnScope ["self", "item"] ["self", "item"] (defScope s_Heap_add) := ⟨rfl, rfl, rfl, by decide +kernel, rfl, by decide +kernel, by decide +kernel⟩
theorem sc_Heap_least : FnScope ["self"] ["self"] (defScope s_Heap_least) := ⟨rfl, rfl, rfl, by decide +kernel, rfl, by decide +kernel, by decide +kernel⟩
theorem sc_Heap_take : FnScope ["self", "item", "last"] ["self"] (defScope s_Heap_take) := ⟨rfl, rfl, rfl, by decide +kernel, rfl, by decide +kernel, by decide +kernel⟩
theorem sc_Heap_size : FnScope ["self"] ["self"] (defScope s_Heap_size) := ⟨rfl, rfl, rfl, by decide +kernel, rfl, by decide +kernel, by decide +kernel⟩
theorem sc_Heap_lying : FnScope ["self"] ["self"] (defScope s_Heap_lying) := ⟨rfl, rfl, rfl, by decide +kernel, rfl, by decide +kernel, by decide +kernel⟩
theorem sc_Heap_lift : FnScope ["self", "place", "low"] ["self", "place"] (defScope s_Heap_lift) := ⟨rfl, rfl, rfl, by decide +kernel, rfl, by decide +kernel, by decide +kernel⟩
theorem sc_Heap_sink : FnScope ["self", "place", "high", "low"] ["self", "place"] (defScope s_Heap_sink) := ⟨rfl, rfl, rfl, by decide +kernel, rfl, by decide +kernel, by decide +kernel⟩
theorem sc_Heap_lesser_below : FnScope ["self", "place", "low"] ["self", "place"] (defScope s_Heap_lesser_below) := ⟨rfl, rfl, rfl, by decide +kernel, rfl, by decide +kernel, by decide +kernel⟩
theorem sc_Heap_swap : FnScope ["self", "one", "other", "item"] ["self", "one", "other"] (defScope s_Heap_swap) := ⟨rfl, rfl, rfl, by decide +kernel, rfl, by decide +kernel, by decide +kernel⟩
theorem sc__law_cell_at : FnScope ["_law_script", "_law_k"] ["_law_script", "_law_k"] (defScope s__law_cell_at) := ⟨rfl, rfl, rfl, by decide +kernel, rfl, by decide +kernel, by decide +kernel⟩
theorem sc__law_whole : FnScope ["_law_found"] ["_law_found"] (defScope s__law_whole) := ⟨rfl, rfl, rfl, by decide +kernel, rfl, by decide +kernel, by decide +kernel⟩
theorem sc__law_drawn : FnScope ["_law_cell", "_law_many", "_law_found", "_law_number_here", "_law_k"] ["_law_cell", "_law_many"] (defScope s__law_drawn) := ⟨rfl, rfl, rfl, by decide +kernel, rfl, by decide +kernel, by decide +kernel⟩
theorem sc__law_number : FnScope ["_law_xs", "_law_k", "_law_way"] ["_law_xs", "_law_k", "_law_way"] (defScope s__law_number) := ⟨rfl, rfl, rfl, by decide +kernel, rfl, by decide +kernel, by decide +kernel⟩
theorem sc__law_item : FnScope ["_law_cell", "_law_way", "_law_xs"] ["_law_cell", "_law_way"] (defScope s__law_item) := ⟨rfl, rfl, rfl, by decide +kernel, rfl, by decide +kernel, by decide +kernel⟩
theorem sc__law_alike : FnScope ["_law_found", "_law_due"] ["_law_found", "_law_due"] (defScope s__law_alike) := ⟨rfl, rfl, rfl, by decide +kernel, rfl, by decide +kernel, by decide +kernel⟩
theorem sc__law_refused : FnScope ["_law_heap", "_law_out", "_law_caught", "e"] ["_law_heap", "_law_out"] (defScope s__law_refused) := ⟨rfl, rfl, rfl, by decide +kernel, rfl, by decide +kernel, by decide +kernel⟩
theorem sc__law_none : FnScope ["_law_heap"] ["_law_heap"] (defScope s__law_none) := ⟨rfl, rfl, rfl, by decide +kernel, rfl, by decide +kernel, by decide +kernel⟩
theorem sc__law_lies : FnScope ["_law_heap", "_law_due", "_law_found", "_law_k"] ["_law_heap", "_law_due"] (defScope s__law_lies) := ⟨rfl, rfl, rfl, by decide +kernel, rfl, by decide +kernel, by decide +kernel⟩
theorem sc__law_taken : FnScope ["_law_heap", "_law_due"] ["_law_heap", "_law_due"] (defScope s__law_taken) := ⟨rfl, rfl, rfl, by decide +kernel, rfl, by decide +kernel, by decide +kernel⟩
theorem sc_law : FnScope ["_law_script", "_law_way", "_law_pair", "_law_dues", "_law_cell", "_law_xs", "_law_side", "_law_item_here", "_law_heap", "_law_due"] ["_law_script"] (defScope s_law) := ⟨rfl, rfl, rfl, by decide +kernel, rfl, by decide +kernel, by decide +kernel⟩
theorem seq_ifP {c : TT} {t R : TS} {D : Ends} {σ : St} {H : Hp} (P : Hp->Prop) (hc : ∀ Q : Bool->Hp->Prop, (∀ H', P H'->Q false H')->c σ H Q) (h : ∀ H', P H'->R D σ H') : tSeq (tIfS c t tNext) R D σ H := hc _ fun H' p => iteF (h H' p)
theorem cutA {S1 R : TS} {D : Ends} {σ : St} {H : Hp} (Post : St->Hp->Prop) (h : ∀ N : St->Hp->Prop, (∀ σ' H', Post σ' H'->N σ' H')->S1 { D with nx := N } σ H) (hr : ∀ σ' H', Post σ' H'->R D σ' H') : tSeq S1 R D σ H := h (R D) hr
theorem gNameA {k : Nat} {x : V} {σ : St} (σ' : St) {H : Hp} {N : St->Hp->Prop} (h : N σ' H) (e : σ.set k (some x) = σ' := by rfl) : gName k x σ H N := by subst e; exact h
theorem upd_upd {H : Hp} {a : Addr} {o o' : HO} : upd (upd H a o) a o' = upd H a o' := by
  funext b
  by_cases h : b = a
  · subst h; rw [upd_same, upd_same]
  · rw [upd_ne h, upd_ne h, upd_ne h]
def sp_hinit (C : Addr) : Sp := fun vs H Q _ => ∃ (p dx : Addr), vs = [.ref p] /\ H p = some (.ins C dx []) /\ ∀ r H', H r = none->HpAt C true H' p r [] []->HpAt C false H' p r [] []->Keep [p] H H'->Q .non H'
def sp_swap (C : Addr) : Sp := fun vs H Q _ => ∃ (tu : Bool) (p r : Addr) (xs : List V) (its : List (List Int)) (i j : Nat), vs = [.ref p, .int (i : Int), .int (j : Int)] /\ HpAt C tu H p r xs its /\ i < its.length /\ j < its.length ∧
  ∀ xs' H', HpAt C tu H' p r xs' (swp its i j)->Keep [r] H H'->Q .non H'
def sp_lesser (C : Addr) : Sp := fun vs H Q _ => ∃ (tu : Bool) (p r : Addr) (xs : List V) (its : List (List Int)) (i : Nat), vs = [.ref p, .int (i : Int)] /\ HpAt C tu H p r xs its /\ Q (.int (lsr its i : Int)) H
def sp_lift (C : Addr) : Sp := fun vs H Q _ => ∃ (tu : Bool) (p r : Addr) (xs : List V) (its : List (List Int)) (k : Nat), vs = [.ref p, .int (k : Int)] /\ HpAt C tu H p r xs its /\ k < its.length /\ LiftI its k ∧
  ∀ xs' its' H', HpAt C tu H' p r xs' its'->HOrd its'->its'.Perm its->Keep [r] H H'->Q .non H'
def sp_sink (C : Addr) : Sp := fun vs H Q _ => ∃ (tu : Bool) (p r : Addr) (xs : List V) (its : List (List Int)) (k : Nat), vs = [.ref p, .int (k : Int)] /\ HpAt C tu H p r xs its /\ k < its.length /\ SinkI its k ∧
  ∀ xs' its' H', HpAt C tu H' p r xs' its'->HOrd its'->its'.Perm its->Keep [r] H H'->Q .non H'
def sp_add (C : Addr) : Sp := fun vs H Q _ => ∃ (tu : Bool) (p r : Addr) (xs : List V) (its : List (List Int)) (v : V) (ks : List Int), vs = [.ref p, v] /\ HpAt C tu H p r xs its /\ HOrd its /\ KeyAt tu H v ks /\ its.length < 100000 ∧
  ∀ xs' its' H', HpAt C tu H' p r xs' its'->HOrd its'->its'.Perm (its ++ [ks])->Keep [r] H H'->Q .non H'
def sp_least (C CN : Addr) : Sp := fun vs H Q E => ∃ (tu : Bool) (p r : Addr) (xs : List V) (its : List (List Int)), vs = [.ref p] /\ HpAt C tu H p r xs its /\ HOrd its ∧
  (∀ v, its ≠ []->xs[0]? = some v->KeyAt tu H v (gK its 0)->(∀ ks ∈ its, Le (gK its 0) ks)->Q v H) /\ (its = []->∀ e H', ExcAt H' e CN []->Same H H'->E (.ref CN) (some e) H')
def sp_take (C CN : Addr) : Sp := fun vs H Q E => ∃ (tu : Bool) (p r : Addr) (xs : List V) (its : List (List Int)), vs = [.ref p] /\ HpAt C tu H p r xs its /\ HOrd its ∧
  (its ≠ []->∀ v m xs' its' H', KeyAt tu H' v m->HpAt C tu H' p r xs' its'->HOrd its'->its.Perm (m :: its')->(∀ ks ∈ its, Le m ks)->v ∈ xs->Keep [r] H H'->Q v H') /\ (its = []->∀ e H', ExcAt H' e CN []->Same H H'->E (.ref CN) (some e) H')
def sp_hsize (C : Addr) : Sp := fun vs H Q _ => ∃ (tu : Bool) (p r : Addr) (xs : List V) (its : List (List Int)), vs = [.ref p] /\ HpAt C tu H p r xs its /\ Q (.int (its.length : Int)) H
theorem mem_le {l : List (List Int)} (h : HOrd l) : ∀ ks ∈ l, Le (gK l 0) ks := fun ks hk => by
  obtain ⟨i, hi, e⟩ := List.getElem_of_mem hk
  have := hord_min h i hi
  rw [show gK l i = ks by simp [gK, List.getD_eq_getElem?_getD, hi, e]] at this
  exact this
theorem row_no {m : Str} {r : Addr} (h : ¬ m = "row") : ([("row", V.ref r)] : List (Str × V)).lookup m = none := by rw [look_ne h]; rfl
def cellI (ns : List Int) (k : Int) : Int := if k < (ns.length : Int) then ns.getD k.toNat 0 else 0
def sp_cell (K : PySem.W.Frag) : Sp := fun vs H Q _ => ∃ (a : Addr) (ns : List Int) (k : Nat), vs = [.ref a, .int (k : Int)] /\ SqL K H a (ns.map V.int) /\ Q (.int (cellI ns k)) H
def sp_whole : Sp := fun vs H Q _ => ∃ n : Int, vs = [.int n] /\ Q (.bl true) H
def sp_drawn : Sp := fun vs H Q _ => ∃ (c : Int) (m : Nat), vs = [.int c, .int (m : Int)] /\ m ≤ 60 /\ ∀ (l : Addr) (xs : List Int) H', H' l = some (.lst (xs.map V.int))->H l = none->xs.length = m->(∀ x ∈ xs, (0 : Int) ≤ x /\ x < 2147483647)->Same H H'->Q (.ref l) H'
def sp_number : Sp := fun vs H Q _ => ∃ (l : Addr) (xs : List Int) (k : Nat) (wy : Int), vs = [.ref l, .int (k : Int), .int wy] /\ H l = some (.lst (xs.map V.int)) /\ k + 1 < xs.length /\ (∀ x ∈ xs, (0 : Int) ≤ x /\ x < 2147483647) /\ ∀ n : Int, Q (.int n) H
def sp_item : Sp := fun vs H Q _ => ∃ (c wy : Int), vs = [.int c, .int wy] /\ ∀ v ks H', KeyAt (!decide (wy < 3)) H' v ks->ks ≠ [] /\ ks.length < 1000->Same H H'->Q v H'
def sp_alike : Sp := fun vs H Q _ => ∃ (tu : Bool) (v u : V) (ks : List Int), vs = [v, u] /\ KeyAt tu H v ks /\ KeyAt tu H u ks /\ ks.length < 1000 /\ ∀ H', Same H H'->Q (.bl true) H'
def sp_refused (C : Addr) : Sp := fun vs H Q _ => ∃ (b tu : Bool) (p r : Addr) (xs : List V), vs = [.ref p, .bl b] /\ HpAt C tu H p r xs [] /\ ∀ H', Same H H'->Q (.bl true) H'
def sp_none (C : Addr) : Sp := fun vs H Q _ => ∃ (tu : Bool) (p r : Addr) (xs : List V), vs = [.ref p] /\ HpAt C tu H p r xs [] /\ ∀ H', Same H H'->Q (.bl true) H'
def sp_lying (C : Addr) : Sp := fun vs H Q _ => ∃ (tu : Bool) (p r : Addr) (xs : List V) (its : List (List Int)), vs = [.ref p] /\ HpAt C tu H p r xs its /\ ∀ l, H l = none->Q (.ref l) (upd H l (.lst xs))
structure Side (C : Addr) (tu : Bool) (H : Hp) (p r d : Addr) (D : List (List Int)) : Prop where
  hp : ∃ xs its, HpAt C tu H p r xs its /\ HOrd its /\ D.Perm its
  du : ∃ ws, H d = some (.lst ws) /\ KeysAt tu H ws D
  so : D.Pairwise Le
  ne : ∀ k ∈ D, k ≠ [] /\ k.length < 1000
def sp_lies (C : Addr) : Sp := fun vs H Q _ => ∃ (tu : Bool) (p r d : Addr) (D : List (List Int)), vs = [.ref p, .ref d] /\ Side C tu H p r d D /\ D.length < 64 /\ ∀ H', Same H H'->Q (.bl true) H'
def sp_taken (C : Addr) : Sp := fun vs H Q _ => ∃ (tu : Bool) (p r d : Addr) (m : List Int) (D : List (List Int)), vs = [.ref p, .ref d] /\ Side C tu H p r d (m :: D) /\ r ≠ d /\ ∀ H', Side C tu H' p r d D->Keep [r, d] H H'->Q (.bl true) H'
def sp_law (K : PySem.W.Frag) : Sp := fun vs H Q _ => ∃ (a : Addr) (ns : List Int), vs = [.ref a] /\ SqL K H a (ns.map V.int) /\ ns.length ≤ 63 /\ ∀ H', Q (.bl true) H'
theorem KeysAt.ints {H : Hp} {vs : List V} {its : List (List Int)} (h : KeysAt false H vs its) : ∃ ns : List Int, vs = ns.map V.int /\ its = ns.map fun i => [i] := by
  obtain ⟨hl, hg⟩ := h
  induction vs generalizing its with
  | nil => cases its with
    | nil => exact ⟨[], rfl, rfl⟩
    | cons a b => cases hl
  | cons v vs ih => cases its with
    | nil => cases hl
    | cons a b =>
      obtain ⟨ns, rfl, rfl⟩ := ih (its := b) (by simpa using hl) fun i v ks e1 e2 => hg (i + 1) v ks (by simpa using e1) (by simpa using e2)
      obtain ⟨i, rfl, rfl⟩ := hg 0 v a rfl rfl
      exact ⟨i :: ns, rfl, rfl⟩
theorem KeysAt.of_ints {H : Hp} (ns : List Int) : KeysAt false H (ns.map V.int) (ns.map fun i => [i]) := ⟨by simp, fun i v ks e1 e2 => by
  rw [List.getElem?_map] at e1 e2
  obtain ⟨n, en, rfl⟩ := Option.map_eq_some_iff.mp e1
  rw [en] at e2
  cases e2
  exact ⟨n, rfl, rfl⟩⟩
theorem call_sortedO {X : Cx} : CallR X (.builtin "sorted") (fun xs H Q => ∃ (tu : Bool) (a : Addr) (vs : List V) (its : List (List Int)), xs = [.ref a] /\ SqL X.K H a vs /\ KeysAt tu H vs its /\ (∀ k ∈ its, k ≠ []) /\ vs.length < 64 ∧
    ∀ (l : Addr) (vs' : List V) (its' : List (List Int)), H l = none->KeysAt tu H vs' its'->its'.Perm its->its'.Pairwise Le->Q (.ref l) (upd H l (.lst vs'))) := by
  rintro pins s σ H xs us Q I r ⟨tu, a, vs, its, rfl, hS, hK, hne, h64, q⟩
  cases tu with
  | true =>
    refine call_sortedT pins s σ H _ us Q I r ⟨a, vs, its, rfl, hS, hK, hne, h64, fun l p hl hp hs => q l _ _ hl ?_ ?_ hs⟩
    · refine ⟨by simp, fun i v ks e1 e2 => ?_⟩
      rw [List.getElem?_map] at e1 e2
      obtain ⟨n, en, rfl⟩ := Option.map_eq_some_iff.mp e1
      rw [en] at e2
      cases e2
      have hn : n < vs.length := by
        have := hp.mem_iff.mp (List.mem_of_getElem? en)
        simpa using this
      have hn2 : n < its.length := by rw [← hK.len]; exact hn
      refine hK.get n _ _ ?_ ?_
      · rw [List.getD_eq_getElem?_getD, List.getElem?_eq_getElem hn]; rfl
      · show its[n]? = some (its.getD n [])
        rw [List.getD_eq_getElem?_getD, List.getElem?_eq_getElem hn2]; rfl
    · have e : (List.range vs.length).map (fun i => its.getD i []) = its := by
        rw [hK.len]
        refine List.ext_getElem (by simp) fun i h1 h2 => ?_
        simp [List.getD_eq_getElem?_getD, h2]
      have := hp.map fun i => its.getD i []
      rw [e] at this
      exact this
  | false =>
    obtain ⟨ns, rfl, rfl⟩ := KeysAt.ints hK
    refine call_sorted pins s σ H _ us Q I r ⟨a, ns, rfl, hS, by simpa using h64, fun l ns' hl hp hs => ?_⟩
    refine q l _ (ns'.map fun i => [i]) hl (KeysAt.of_ints ns') (hp.map _) ?_
    rw [List.pairwise_map]
    refine hs.imp fun {x y} hxy => ?_
    show HT.lexLt [y] [x] = false
    rw [lex_one]
    exact decide_eq_false (by omega)
theorem pw_unique : ∀ {a b : List (List Int)}, a.Perm b->a.Pairwise Le->b.Pairwise Le->a = b
  | [], b, h, _, _ => (List.nil_perm.mp h).symm
  | x :: a, [], h, _, _ => absurd h.length_eq (by simp)
  | x :: a, y :: b, h, ha, hb => by
    have h1 : y ∈ x :: a := h.mem_iff.mpr (by simp)
    have h2 : x ∈ y :: b := h.mem_iff.mp (by simp)
    have e : x = y := by
      rcases List.mem_cons.mp h1 with e | h1
      · exact e.symm
      rcases List.mem_cons.mp h2 with e | h2
      · exact e
      exact Le.antisymm ((List.pairwise_cons.mp ha).1 y h1) ((List.pairwise_cons.mp hb).1 x h2)
    subst e
    rw [pw_unique (List.Perm.cons_inv h) (List.pairwise_cons.mp ha).2 (List.pairwise_cons.mp hb).2]
theorem seq_keys {K : PySem.W.Frag} {H : Hp} {tu : Bool} {a c : Addr} {vs ws : List V} {its : List (List Int)} (h1 : H a = some (.lst vs)) (h2 : H c = some (.lst ws)) (k1 : KeysAt tu H vs its) (k2 : KeysAt tu H ws its) : SeqEq K H (EqI K H 1) (.ref a) (.ref c) true := by
  refine ⟨a, c, vs, ws, fun _ => true, rfl, rfl, .inl ⟨SqL.of h1, SqL.of h2, by rw [k1.len, k2.len], fun j x y e1 e2 => ?_, by simp⟩⟩
  have hj : j < its.length := by rw [← k1.len]; exact (List.getElem?_eq_some_iff.mp e1).1
  have z1 := k1.get j x _ e1 (List.getElem?_eq_getElem hj)
  have z2 := k2.get j y _ e2 (List.getElem?_eq_getElem hj)
  cases tu with
  | true =>
    obtain ⟨b, rfl, hb⟩ := z1
    obtain ⟨b', rfl, hb'⟩ := z2
    exact eqI_in (fun a => eqI_same a) (seq_intsT hb hb')
  | false =>
    obtain ⟨i, rfl, e⟩ := z1
    obtain ⟨i', rfl, e'⟩ := z2
    rw [e] at e'
    cases e'
    exact .inl (eqI_int i)
theorem seq_none {K : PySem.W.Frag} {H : Hp} {a c : Addr} {vs : List V} (h1 : H a = some (.lst vs)) (h2 : H c = some (.lst [])) : SeqEq K H (EqI K H 0) (.ref a) (.ref c) (decide (vs = [])) := by
  cases vs with
  | nil => exact ⟨a, c, [], [], fun _ => true, rfl, rfl, .inl ⟨SqL.of h1, SqL.of h2, rfl, fun j x y e => by simp at e, by simp⟩⟩
  | cons v vs => exact ⟨a, c, _, _, fun _ => true, rfl, rfl, .inr (.inl ⟨SqL.of h1, SqL.of h2, by simp, by simp⟩)⟩
theorem Side.keep {C : Addr} {tu : Bool} {H H' : Hp} {p r d : Addr} {D : List (List Int)} {F : List Addr} (S : Side C tu H p r d D) (k : Keep F H H') (hF : ∀ f ∈ F, ∃ xs, H f = some (.lst xs)) (hr : r ∉ F) (hd : d ∉ F) : Side C tu H' p r d D := by
  obtain ⟨⟨xs, its, W, hO, hP⟩, ⟨ws, hw, kw⟩, so, ne⟩ := S
  obtain ⟨dx, ob⟩ := W.ob
  have nl : ∀ b o, H b = some o->(∀ ys, o ≠ .lst ys)->b ∉ F := fun b o e h z => by
    obtain ⟨ys, hy⟩ := hF b z
    rw [hy] at e; cases e; exact h ys rfl
  have kt : ∀ t ys, H t = some (.tup ys)->H' t = some (.tup ys) := fun t ys e => k t _ e (nl t _ e fun _ z => by cases z)
  exact ⟨⟨xs, its, ⟨⟨dx, k _ _ ob (nl _ _ ob fun _ z => by cases z)⟩, k _ _ W.row hr, W.ks.mono kt⟩, hO, hP⟩, ⟨ws, k _ _ hw hd, kw.mono kt⟩, so, ne⟩
theorem Side.same {C : Addr} {tu : Bool} {H H' : Hp} {p r d : Addr} {D : List (List Int)} (S : Side C tu H p r d D) (s : Same H H') : Side C tu H' p r d D := S.keep (F := []) (Keep.of_same s) (fun f h => by cases h) (by simp) (by simp)
theorem ex6 {xs : List Int} (h : xs.length = 6) : ∃ a b c d e f, xs = [a, b, c, d, e, f] := by
  match xs, h with
  | [a, b, c, d, e, f], _ => exact ⟨_, _, _, _, _, _, rfl⟩
theorem KeysAt.tail {tu : Bool} {H : Hp} {ws : List V} {m : List Int} {D : List (List Int)} (h : KeysAt tu H ws (m :: D)) : KeysAt tu H (ws.eraseIdx 0) D := by
  cases ws with
  | nil => exact absurd h.len (by simp)
  | cons w ws => exact ⟨by simpa using h.len, fun i v ks e1 e2 => h.get (i + 1) v ks (by simpa using e1) (by simpa using e2)⟩
theorem KeysAt.upd {tu : Bool} {H : Hp} {ws : List V} {D : List (List Int)} {l : Addr} {xs ys : List V} (h : KeysAt tu H ws D) (hl : H l = some (.lst xs)) : KeysAt tu (upd H l (.lst ys)) ws D := h.mono fun t zs e => by
  rw [upd_ne (ne_of e hl (by intro z; cases z))]; exact e
structure Pair (C : Addr) (tu : Bool) (H : Hp) (pl dl : Addr) (P R E : Nat->Addr) (D : Nat->List (List Int)) : Prop where
  pr : H pl = some (.lst [.ref (P 0), .ref (P 1)])
  du : H dl = some (.lst [.ref (E 0), .ref (E 1)])
  sd : ∀ j < 2, Side C tu H (P j) (R j) (E j) (D j)
  rr : R 0 ≠ R 1
  ee : E 0 ≠ E 1
  re : ∀ j < 2, ∀ k < 2, R j ≠ E k
  pn : ∀ j < 2, pl ≠ R j /\ pl ≠ E j /\ dl ≠ R j /\ dl ≠ E j
  nn : pl ≠ dl
section
variable {C : Addr} {tu : Bool} {H H' : Hp} {pl dl : Addr} {P R E : Nat->Addr} {D : Nat->List (List Int)}
theorem two (j : Nat) (h : j < 2) : j = 0 ∨ j = 1 := by omega
theorem Pair.atP (W : Pair C tu H pl dl P R E D) {j : Nat} (hj : j < 2) : atI [V.ref (P 0), V.ref (P 1)] (j : Int) = some (.ref (P j)) := by
  rcases two j hj with rfl | rfl <;> rfl
theorem Pair.atE (W : Pair C tu H pl dl P R E D) {j : Nat} (hj : j < 2) : atI [V.ref (E 0), V.ref (E 1)] (j : Int) = some (.ref (E j)) := by
  rcases two j hj with rfl | rfl <;> rfl
theorem Pair.same (W : Pair C tu H pl dl P R E D) (s : Same H H') : Pair C tu H' pl dl P R E D :=
  ⟨s _ _ W.pr, s _ _ W.du, fun j hj => (W.sd j hj).same s, W.rr, W.ee, W.re, W.pn, W.nn⟩
theorem Side.row {p r d : Addr} {D : List (List Int)} (S : Side C tu H p r d D) : ∃ xs, H r = some (.lst xs) := by
  obtain ⟨⟨xs, its, W, _⟩, _⟩ := S
  exact ⟨xs, W.row⟩
theorem Side.due {p r d : Addr} {D : List (List Int)} (S : Side C tu H p r d D) : ∃ xs, H d = some (.lst xs) := by
  obtain ⟨_, ⟨ws, h, _⟩, _⟩ := S
  exact ⟨ws, h⟩
theorem Pair.put (W : Pair C tu H pl dl P R E D) {j : Nat} (hj : j < 2) {F : List Addr} {D' : List (List Int)} (k : Keep F H H') (hF : ∀ f ∈ F, f = R j ∨ f = E j) (S : Side C tu H' (P j) (R j) (E j) D') : Pair C tu H' pl dl P R E (fun i => if i = j then D' else D i) := by
  have hl : ∀ f ∈ F, ∃ xs, H f = some (.lst xs) := fun f hf => by
    rcases hF f hf with rfl | rfl
    · exact (W.sd j hj).row
    · exact (W.sd j hj).due
  have nF : ∀ x, x ≠ R j->x ≠ E j->x ∉ F := fun x h1 h2 h => by
    rcases hF x h with e | e
    · exact h1 e
    · exact h2 e
  obtain ⟨a1, a2, a3, a4⟩ := W.pn j hj
  refine ⟨k _ _ W.pr (nF _ a1 a2), k _ _ W.du (nF _ a3 a4), fun i hi => ?_, W.rr, W.ee, W.re, W.pn, W.nn⟩
  by_cases e : i = j
  · subst e; rw [if_pos rfl]; exact S
  · rw [if_neg e]
    refine (W.sd i hi).keep k hl (nF _ ?_ (W.re i hi j hj)) (nF _ (W.re j hj i hi).symm ?_)
    · rcases two i hi with rfl | rfl <;> rcases two j hj with rfl | rfl <;> first | exact absurd rfl e | exact W.rr | exact W.rr.symm
    · rcases two i hi with rfl | rfl <;> rcases two j hj with rfl | rfl <;> first | exact absurd rfl e | exact W.ee | exact W.ee.symm
end
theorem cut_ints (ns : List Int) (lo hi : Option Int) : ∃ cs : List Int, cutV (ns.map V.int) lo hi = cs.map V.int /\ cs.length ≤ ns.length := by
  unfold cutV
  refine ⟨(ns.drop (HT.sIx (ns.map V.int).length 0 lo)).take (HT.sIx (ns.map V.int).length (ns.map V.int).length hi - HT.sIx (ns.map V.int).length 0 lo), by rw [List.map_take, List.map_drop], ?_⟩
  rw [List.length_take, List.length_drop]; omega
theorem Pair.renew {C : Addr} {tu : Bool} {H H1 H2 : Hp} {pl dl l : Addr} {P R E : Nat->Addr} {D : Nat->List (List Int)} {j : Nat} {xs vs : List V} {its D' : List (List Int)} (W : Pair C tu H pl dl P R E D) (hj : j < 2) (k : Keep [R j] H H1) (s : Same H1 H2) (hl : H1 l = none)
    (Wh : HpAt C tu H1 (P j) (R j) xs its) (hO : HOrd its) (h2 : H2 l = some (.lst vs)) (K' : KeysAt tu H2 vs D') (so : D'.Pairwise Le) (ne : ∀ k ∈ D', k ≠ [] /\ k.length < 1000) (hP : D'.Perm its) :
    Pair C tu (upd H2 dl (.lst ([V.ref (E 0), V.ref (E 1)].set j (.ref l)))) pl dl P R (fun i => if i = j then l else E i) (fun i => if i = j then D' else D i) := by
  have hpl1 : H1 pl = some (.lst [.ref (P 0), .ref (P 1)]) := k _ _ W.pr (by simpa using (W.pn j hj).1)
  have hdl1 : H1 dl = some (.lst [.ref (E 0), .ref (E 1)]) := k _ _ W.du (by simpa using (W.pn j hj).2.2.1)
  have nld : l ≠ dl := (ne_of_none hdl1 hl).symm
  have nlp : l ≠ pl := (ne_of_none hpl1 hl).symm
  have hr1 : ∀ i < 2, ∃ ys, H1 (R i) = some (.lst ys) := fun i hi => by
    by_cases e : R i = R j
    · rw [e]; exact ⟨xs, Wh.row⟩
    · obtain ⟨ys, h⟩ := (W.sd i hi).row
      exact ⟨ys, k _ _ h (by simpa using e)⟩
  have he1 : ∀ i < 2, ∃ ys, H1 (E i) = some (.lst ys) := fun i hi => by
    obtain ⟨ys, h⟩ := (W.sd i hi).due
    exact ⟨ys, k _ _ h (by simpa using (W.re j hj i hi).symm)⟩
  have nlr : ∀ i < 2, R i ≠ l := fun i hi => by obtain ⟨ys, h⟩ := hr1 i hi; exact ne_of_none h hl
  have nle : ∀ i < 2, E i ≠ l := fun i hi => by obtain ⟨ys, h⟩ := he1 i hi; exact ne_of_none h hl
  have kt : ∀ t ys, H2 t = some (.tup ys)->upd H2 dl (.lst ([V.ref (E 0), V.ref (E 1)].set j (.ref l))) t = some (.tup ys) := fun t ys e => by
    rw [upd_ne (ne_of e (s _ _ hdl1) (by intro z; cases z))]; exact e
  have kk : Keep [R j, dl] H (upd H2 dl (.lst ([V.ref (E 0), V.ref (E 1)].set j (.ref l)))) := fun b o e hb => by
    simp only [List.mem_cons, List.not_mem_nil, or_false, not_or] at hb
    rw [upd_ne hb.2]
    exact s b o (k b o e (by simpa using hb.1))
  have hF : ∀ f ∈ [R j, dl], ∃ ys, H f = some (.lst ys) := fun f hf => by
    simp only [List.mem_cons, List.not_mem_nil, or_false] at hf
    rcases hf with rfl | rfl
    · exact (W.sd j hj).row
    · exact ⟨_, W.du⟩
  refine ⟨by rw [upd_ne W.nn]; exact s _ _ hpl1, ?_, fun i hi => ?_, W.rr, ?_, fun i hi m hm => ?_, fun i hi => ?_, W.nn⟩
  · rw [upd_same]; rcases two j hj with rfl | rfl <;> rfl
  · by_cases e : i = j
    · subst e
      rw [if_pos rfl, if_pos rfl]
      obtain ⟨dx, ob⟩ := Wh.ob
      refine ⟨⟨xs, its, ⟨⟨dx, ?_⟩, ?_, ?_⟩, hO, hP⟩, ⟨vs, ?_, K'.mono kt⟩, so, ne⟩
      · rw [upd_ne (ne_of ob hdl1 (by intro z; cases z))]; exact s _ _ ob
      · rw [upd_ne (W.pn i hi).2.2.1.symm]; exact s _ _ Wh.row
      · exact Wh.ks.mono fun t ys e => kt t ys (s t _ e)
      · rw [upd_ne nld]; exact h2
    · rw [if_neg e, if_neg e]
      refine (W.sd i hi).keep kk hF ?_ ?_
      · simp only [List.mem_cons, List.not_mem_nil, or_false, not_or]
        refine ⟨?_, (W.pn i hi).2.2.1.symm⟩
        rcases two i hi with rfl | rfl <;> rcases two j hj with rfl | rfl <;> first | exact absurd rfl e | exact W.rr | exact W.rr.symm
      · simp only [List.mem_cons, List.not_mem_nil, or_false, not_or]
        exact ⟨(W.re j hj i hi).symm, (W.pn i hi).2.2.2.symm⟩
  · rcases two j hj with rfl | rfl
    · exact (nle 1 (by omega)).symm
    · exact nle 0 (by omega)
  · show R i ≠ if m = j then l else E m
    split
    · exact nlr i hi
    · exact W.re i hi m hm
  · obtain ⟨a1, a2, a3, a4⟩ := W.pn i hi
    refine ⟨a1, ?_, a3, ?_⟩
    · show pl ≠ if i = j then l else E i
      split
      · exact nlp.symm
      · exact a2
    · show dl ≠ if i = j then l else E i
      split
      · exact nld.symm
      · exact a4
structure Txt (K : PySem.W.Frag) (mg : Str->Option Value) (C_KeepError : Addr) (C_NoDay : Addr) (C_NoItem : Addr) (C_Heap : Addr) : Prop where
  mg_KeepError : mg "KeepError" = some (.ref C_KeepError)
  x_KeepError : XCls K C_KeepError
  mg_NoDay : mg "NoDay" = some (.ref C_NoDay)
  x_NoDay : XCls K C_NoDay
  n_NoDay_day : NoAttr K C_NoDay "day"
  mg_NoItem : mg "NoItem" = some (.ref C_NoItem)
  x_NoItem : XCls K C_NoItem
  mg_Heap : mg "Heap" = some (.ref C_Heap)
  cl_Heap : Cls K C_Heap
  n_Heap_row : NoAttr K C_Heap "row"
  b_len : mg "len" = none
  b_isinstance : mg "isinstance" = none
  b_int : mg "int" = none
  b_bool : mg "bool" = none
  b_list : mg "list" = none
  b_tuple : mg "tuple" = none
  b_range : mg "range" = none
  b_sorted : mg "sorted" = none
  b_zip : mg "zip" = none
  b_ValueError : mg "ValueError" = none
  in0_NoItem : PySem.W.findIn K (.ref C_NoItem) "__init__" = some (some (.builtin "ValueError.__init__"))
  kp0_NoItem : PySem.W.keepIn K (.ref C_NoItem) = true
  kp1 : PySem.W.mroIn K C_NoItem (.ref C_KeepError) = some true
  kp2 : PySem.W.kitOne K (.ref C_NoItem) (.ref C_NoItem) = some true
  kp3 : PySem.W.kitOne K (.ref C_NoItem) (.type "ValueError") = some true
  kp4 : PySem.W.kitOne K (.ref C_NoItem) (.ref C_NoDay) = some false
section
variable {P : Program} {w : World} {K : PySem.W.Frag} {mg : Str->Option Value} {base : Heap} {C_KeepError : Addr} {C_NoDay : Addr} {C_NoItem : Addr} {C_Heap : Addr}
theorem ok_Heap___init__ {f : Addr} {fd : FuncData} (F : Fun K "__init__" "Heap.__init__" s_Heap___init__ f fd) (T : Txt K mg C_KeepError C_NoDay C_NoItem C_Heap)  : FnOk P w K mg base (CXx P w) 1 f fd ["self"] (sp_hinit C_Heap) := by
  refine F.okX sc_Heap___init__ (fun vs H Q E h => ?_) (fun cdv A outer s H vs Q E hr h => ?_)
  · obtain ⟨p, dx, rfl, hp, q⟩ := h; rfl
  obtain ⟨p, dx, rfl, hp, q⟩ := h
  refine ⟨_, (pss_one (ps_fld (pv 0) (pe_lst pa_nil) rfl)), ?_⟩
  repeat (first | refine ⟨_, rfl, ?_⟩ | refine ⟨_, _, rfl, rfl, ?_⟩ | refine ⟨(by first | decide | (dsimp only; decide) | (show 2 ≤ sizeLine; decide) | (show 1 ≤ sizeLine; decide) | (show 3 ≤ sizeLine; decide) | (show 4 ≤ sizeLine; decide)), ?_⟩ | refine ⟨.inl ⟨by first | decide | (dsimp only; decide), by first | decide | (dsimp only; decide)⟩, ?_⟩ | refine ⟨.inr ⟨by first | decide | (dsimp only; decide), by first | decide | (dsimp only; decide)⟩, ?_⟩ | refine ⟨⟨by first | decide | (dsimp only; decide), by first | decide | (dsimp only; decide)⟩, ?_⟩ | refine ⟨rfl, ?_⟩ | refine ⟨_, _, rfl, ?_⟩)
  intro r hr
  refine ⟨_, rfl, p, C_Heap, dx, _, rfl, Same.new hr _ _ hp, T.cl_Heap, T.n_Heap_row, by decide, ?_⟩
  have npr : p ≠ r := ne_of_none hp hr
  have ob : upd (upd H r (.lst [])) p (.ins C_Heap dx (putF "row" (V.ref r) [])) p = some (.ins C_Heap dx [("row", V.ref r)]) := upd_same
  have rw' : upd (upd H r (.lst [])) p (.ins C_Heap dx (putF "row" (V.ref r) [])) r = some (.lst []) := by rw [upd_ne npr.symm, upd_same]
  exact q r _ hr ⟨⟨dx, ob⟩, rw', KeysAt.nil⟩ ⟨⟨dx, ob⟩, rw', KeysAt.nil⟩ (keep_upd (Keep.of_same (Same.new hr)) (.inl (by simp)))
theorem ok_Heap_swap {f : Addr} {fd : FuncData} (F : Fun K "swap" "Heap.swap" s_Heap_swap f fd) (T : Txt K mg C_KeepError C_NoDay C_NoItem C_Heap)  : FnOk P w K mg base (CXx P w) 1 f fd ["self", "one", "other"] (sp_swap C_Heap) := by
  refine F.okX sc_Heap_swap (fun vs H Q E h => ?_) (fun cdv A outer s H vs Q E hr h => ?_)
  · obtain ⟨tu, p, r, xs, its, i, j, rfl, W, hi, hj, q⟩ := h; rfl
  obtain ⟨tu, p, r, xs, its, i, j, rfl, W, hi, hj, q⟩ := h
  refine ⟨_, (pss_cons (ps_set (i := 3) sc_Heap_swap.nd rfl (Or.inl rfl) (pe_ix ix_list (pe_fld (pv 0) rfl) (pv 1) (fun _ _ => rfl)))
      (pss_cons (ps_asg (pe_ix ix_list (pe_fld (pv 0) rfl) (pv 2) (fun _ _ => rfl)) (pg_sub (pe_fld (pv 0) rfl) (pv 1) set_list))
      (pss_one (ps_asg (pv 3) (pg_sub (pe_fld (pv 0) rfl) (pv 2) set_list))))), ?_⟩
  obtain ⟨dx, ob⟩ := W.ob
  obtain ⟨v, ev, kv⟩ := W.ks.at_ hi
  obtain ⟨w', ew, kw⟩ := W.ks.at_ hj
  have npr := W.ne
  have hxl : xs.length = its.length := W.ks.len
  refine ⟨_, rfl, p, C_Heap, dx, _, _, rfl, ob, T.cl_Heap, T.n_Heap_row, look_eq, _, rfl, r, _, _, v, rfl, rfl, SqL.of W.row, atI_nat ev, ?_⟩
  refine gNameA [some (.ref p), some (.int (i : Int)), some (.int (j : Int)), some v] ?_
  refine ⟨_, rfl, p, C_Heap, dx, _, _, rfl, ob, T.cl_Heap, T.n_Heap_row, look_eq, _, rfl, r, _, _, w', rfl, rfl, SqL.of W.row, atI_nat ew, ?_⟩
  refine ⟨_, rfl, p, C_Heap, dx, _, _, rfl, ob, T.cl_Heap, T.n_Heap_row, look_eq, _, rfl, r, _, _, i, rfl, rfl, W.row, by unfold ixN; rw [if_pos (by omega), if_pos (by omega)]; rfl, ?_⟩
  refine ⟨_, rfl, _, rfl, p, C_Heap, dx, _, _, rfl, by rw [upd_ne npr]; exact ob, T.cl_Heap, T.n_Heap_row, look_eq, _, rfl, r, _, _, j, rfl, rfl, upd_same, by rw [List.length_set]; unfold ixN; rw [if_pos (by omega), if_pos (by omega)]; rfl, ?_⟩
  have e2 : upd (upd H r (.lst (xs.set i w'))) r (.lst ((xs.set i w').set j v)) = upd H r (.lst ((xs.set i w').set j v)) := upd_upd
  rw [e2]
  exact q _ _ (W.put (W.ks.swap hi hj ev ew)) (keep_upd Keep.refl (.inl (by simp)))
theorem ok_Heap_lesser_below {f : Addr} {fd : FuncData} (F : Fun K "lesser_below" "Heap.lesser_below" s_Heap_lesser_below f fd) (T : Txt K mg C_KeepError C_NoDay C_NoItem C_Heap)  : FnOk P w K mg base (CXx P w) 1 f fd ["self", "place"] (sp_lesser C_Heap) := by
  refine F.okX sc_Heap_lesser_below (fun vs H Q E h => ?_) (fun cdv A outer s H vs Q E hr h => ?_)
  · obtain ⟨tu, p, r, xs, its, i, rfl, W, q⟩ := h; rfl
  obtain ⟨tu, p, r, xs, its, i, rfl, W, q⟩ := h
  refine ⟨_, (pss_cons (ps_set (i := 2) sc_Heap_lesser_below.nd rfl (Or.inl rfl) (pe_op op_add (pe_op op_mul pe_int (pv 1)) pe_int))
      (pss_cons (ps_if (PW.pt (pw_and (pt_cmpR op_lt (pe_op op_add (pv 2) pe_int) (pe_callB call_len_seq (by rfl) T.b_len PySem.boot_len (pa_cons (pe_fld (pv 0) rfl) pa_nil)) (nomark _)) (pw_and1 (pt_cmpR (op_ltO (Nat.lt_of_le_of_lt (Nat.le_add_right _ 64) hr.units)) (pe_ix ix_list (pe_fld (pv 0) rfl) (pe_op op_add (pv 2) pe_int) (fun _ _ => rfl)) (pe_ix ix_list (pe_fld (pv 0) rfl) (pv 2) (fun _ _ => rfl)) (nomark _))))) (pss_one (ps_ret (pe_op op_add (pv 2) pe_int))) pss_nil)
      (pss_one (ps_ret (pv 2))))), ?_⟩
  obtain ⟨dx, ob⟩ := W.ob
  have hxl : xs.length = its.length := W.ks.len
  refine ⟨_, rfl, _, _, rfl, rfl, .inl ⟨by decide, by decide⟩, _, _, rfl, rfl, ?_⟩
  refine gNameA [some (.ref p), some (.int (i : Int)), some (.int ((2 * i + 1 : Nat) : Int))] ?_ (by show [_, _, some (V.int (2 * (i : Int) + 1))] = _; rw [show (2 * (i : Int) + 1) = ((2 * i + 1 : Nat) : Int) by omega])
  refine ⟨_, rfl, _, _, rfl, rfl, _, rfl, p, C_Heap, dx, _, _, rfl, ob, T.cl_Heap, T.n_Heap_row, look_eq, r, _, rfl, .inl (SqL.of W.row), _, _, rfl, rfl, _, rfl, ?_⟩
  have r1 : 2 * i + 2 < its.length->HT.lexLt (gK its (2 * i + 2)) (gK its (2 * i + 1)) = true->lsr its i = 2 * i + 2 := fun a b => if_pos ⟨a, b⟩
  have r2 : ¬ (2 * i + 2 < its.length /\ HT.lexLt (gK its (2 * i + 2)) (gK its (2 * i + 1)) = true)->lsr its i = 2 * i + 1 := fun a => if_neg a
  by_cases hlt : 2 * i + 2 < its.length
  · refine iteY (by omega) ?_
    obtain ⟨v, ev, kv⟩ := W.ks.at_ hlt
    obtain ⟨w', ew, kw⟩ := W.ks.at_ (show 2 * i + 1 < its.length by omega)
    refine ⟨_, rfl, p, C_Heap, dx, _, _, rfl, ob, T.cl_Heap, T.n_Heap_row, look_eq, _, rfl, _, _, rfl, rfl, r, _, _, v, rfl, rfl, SqL.of W.row, ?_, ?_⟩
    · rw [show ((2 * i + 1 : Nat) : Int) + 1 = ((2 * i + 2 : Nat) : Int) by omega]; exact atI_nat ev
    refine ⟨_, rfl, p, C_Heap, dx, _, _, rfl, ob, T.cl_Heap, T.n_Heap_row, look_eq, _, rfl, r, _, _, w', rfl, rfl, SqL.of W.row, atI_nat ew, ?_⟩
    refine ltO_of kv kw ⟨_, rfl, ?_⟩
    cases hc : HT.lexLt (gK its (2 * i + 2)) (gK its (2 * i + 1)) with
    | true =>
      rw [r1 hlt hc] at q
      refine iteT ⟨_, rfl, _, _, rfl, rfl, ?_⟩
      show Q (V.int (((2 * i + 1 : Nat) : Int) + 1)) H
      rw [show ((2 * i + 1 : Nat) : Int) + 1 = ((2 * i + 2 : Nat) : Int) by omega]
      exact q
    | false =>
      rw [r2 (fun h => by rw [hc] at h; cases h.2)] at q
      exact iteF ⟨_, rfl, q⟩
  · refine iteN (by omega) (iteF ⟨_, rfl, ?_⟩)
    rw [r2 (fun h => hlt h.1)] at q
    exact q
theorem ok_Heap_lift {f : Addr} {fd : FuncData} (F : Fun K "lift" "Heap.lift" s_Heap_lift f fd) (T : Txt K mg C_KeepError C_NoDay C_NoItem C_Heap) (D_Heap_swap : MethX P w K mg base C_Heap "swap" 1 ["self", "one", "other"] (sp_swap C_Heap)) : FnOk P w K mg base (CXx P w) 2 f fd ["self", "place"] (sp_lift C_Heap) := by
  refine F.okX sc_Heap_lift (fun vs H Q E h => ?_) (fun cdv A outer s H vs Q E hr h => ?_)
  · obtain ⟨tu, p, r, xs, its, k, rfl, W, hk, I, q⟩ := h; rfl
  obtain ⟨tu, p, r, xs, its, k, rfl, W, hk, I, q⟩ := h
  refine ⟨_, (pss_cons (ps_set (i := 2) sc_Heap_lift.nd rfl (Or.inl rfl) (pv 1))
      (pss_one (ps_while PassesOwn.leaving (PW.pt (pw_and (pt_cmpR op_gt (pv 2) pe_int (nomark _)) (pw_and1 (pt_cmpR (op_ltO (Nat.lt_of_le_of_lt (Nat.le_add_right _ 64) hr.units)) (pe_ix ix_list (pe_fld (pv 0) rfl) (pv 2) (fun _ _ => rfl)) (pe_ix ix_list (pe_fld (pv 0) rfl) (pe_op op_fdivB (pe_op op_sub (pv 2) pe_int) pe_int) (fun _ _ => rfl)) (nomark _))))) (pss_cons (ps_expr (pe_methS (pv 0) T.cl_Heap D_Heap_swap passesN (hr.mono (by decide)) (pa_cons (pv 2) (pa_cons (pe_op op_fdivB (pe_op op_sub (pv 2) pe_int) pe_int) pa_nil))))
      (pss_one (ps_set (i := 2) sc_Heap_lift.nd rfl (Or.inl rfl) (pe_op op_fdivB (pe_op op_sub (pv 2) pe_int) pe_int))))))), ?_⟩
  refine ⟨_, rfl, ?_⟩
  refine gNameA [some (.ref p), some (.int (k : Int)), some (.int (k : Int))] ?_
  refine ⟨fun m σ H' => ∃ xs' its', σ = [some (.ref p), some (.int (k : Int)), some (.int (m : Int))] /\ HpAt C_Heap tu H' p r xs' its' /\ m < its'.length /\ LiftI its' m /\ its'.Perm its /\ Keep [r] H H', ⟨k, xs, its, rfl, W, hk, I, List.Perm.refl _, Keep.refl⟩, ?_⟩
  rintro m σ H1 ⟨xs1, its1, rfl, W1, hm, I1, P1, k1⟩
  obtain ⟨dx, ob⟩ := W1.ob
  refine ⟨_, rfl, _, _, rfl, rfl, _, rfl, ?_⟩
  by_cases h0 : m = 0
  · subst h0
    refine iteN (by omega) (iteF ?_)
    exact q _ _ _ W1 (lift_end I1 (.inl rfl)) P1 k1
  refine iteY (by omega) ?_
  have hpm : (m - 1) / 2 < its1.length := by omega
  obtain ⟨v, ev, kv⟩ := W1.ks.at_ hm
  obtain ⟨w', ew, kw⟩ := W1.ks.at_ hpm
  have e2 : ((m : Int) - 1) / 2 = (((m - 1) / 2 : Nat) : Int) := by omega
  refine ⟨_, rfl, p, C_Heap, dx, _, _, rfl, ob, T.cl_Heap, T.n_Heap_row, look_eq, _, rfl, r, _, _, v, rfl, rfl, SqL.of W1.row, atI_nat ev, ?_⟩
  refine ⟨_, rfl, p, C_Heap, dx, _, _, rfl, ob, T.cl_Heap, T.n_Heap_row, look_eq, _, rfl, _, _, rfl, rfl, _, _, rfl, rfl, ⟨by decide, by decide⟩, r, _, _, w', rfl, rfl, SqL.of W1.row, by show atI xs1 (((m : Int) - 1) / 2) = _; rw [e2]; exact atI_nat ew, ?_⟩
  refine ltO_of kv kw ⟨_, rfl, ?_⟩
  cases hlt : HT.lexLt (gK its1 m) (gK its1 ((m - 1) / 2)) with
  | false => exact iteF (q _ _ _ W1 (lift_end I1 (.inr hlt)) P1 k1)
  | true =>
    refine iteT ⟨_, fun σ' H' h => h, ?_⟩
    refine ⟨_, rfl, p, dx, _, rfl, ob, row_no (by decide +kernel), _, rfl, _, rfl, _, _, rfl, rfl, _, _, rfl, rfl, ⟨by decide, by decide⟩, ?_⟩
    refine ⟨tu, p, r, xs1, its1, m, (m - 1) / 2, by show [_, _, V.int (((m : Int) - 1) / 2)] = _; rw [e2], W1, hm, hpm, fun xs2 H2 W2 k2 => ?_⟩
    refine ⟨_, rfl, _, _, rfl, rfl, _, _, rfl, rfl, ⟨by decide, by decide⟩, ?_⟩
    refine ⟨(m - 1) / 2, by omega, xs2, _, by show [_, _, some (V.int (((m : Int) - 1) / 2))] = _; rw [e2], W2, by rw [swp_len]; exact hpm, lift_step I1 (by omega) hm hlt, (swp_perm hm hpm).trans P1, fun b o e hb => k2 b o (k1 b o e hb) hb⟩
theorem ok_Heap_sink {f : Addr} {fd : FuncData} (F : Fun K "sink" "Heap.sink" s_Heap_sink f fd) (T : Txt K mg C_KeepError C_NoDay C_NoItem C_Heap) (D_Heap_lesser_below : MethX P w K mg base C_Heap "lesser_below" 1 ["self", "place"] (sp_lesser C_Heap)) (D_Heap_swap : MethX P w K mg base C_Heap "swap" 1 ["self", "one", "other"] (sp_swap C_Heap)) : FnOk P w K mg base (CXx P w) 2 f fd ["self", "place"] (sp_sink C_Heap) := by
  refine F.okX sc_Heap_sink (fun vs H Q E h => ?_) (fun cdv A outer s H vs Q E hr h => ?_)
  · obtain ⟨tu, p, r, xs, its, k, rfl, W, hk, I, q⟩ := h; rfl
  obtain ⟨tu, p, r, xs, its, k, rfl, W, hk, I, q⟩ := h
  refine ⟨_, (pss_cons (ps_set (i := 2) sc_Heap_sink.nd rfl (Or.inl rfl) (pv 1))
      (pss_cons (ps_set (i := 3) sc_Heap_sink.nd rfl (Or.inl rfl) (pe_methS (pv 0) T.cl_Heap D_Heap_lesser_below passesN (hr.mono (by decide)) (pa_cons (pv 2) pa_nil)))
      (pss_one (ps_while PassesOwn.leaving (PW.pt (pw_and (pt_cmpR op_lt (pv 3) (pe_callB call_len_seq (by rfl) T.b_len PySem.boot_len (pa_cons (pe_fld (pv 0) rfl) pa_nil)) (nomark _)) (pw_and1 (pt_cmpR (op_ltO (Nat.lt_of_le_of_lt (Nat.le_add_right _ 64) hr.units)) (pe_ix ix_list (pe_fld (pv 0) rfl) (pv 3) (fun _ _ => rfl)) (pe_ix ix_list (pe_fld (pv 0) rfl) (pv 2) (fun _ _ => rfl)) (nomark _))))) (pss_cons (ps_expr (pe_methS (pv 0) T.cl_Heap D_Heap_swap passesN (hr.mono (by decide)) (pa_cons (pv 3) (pa_cons (pv 2) pa_nil))))
      (pss_cons (ps_set (i := 2) sc_Heap_sink.nd rfl (Or.inl rfl) (pv 3))
      (pss_one (ps_set (i := 3) sc_Heap_sink.nd rfl (Or.inl rfl) (pe_methS (pv 0) T.cl_Heap D_Heap_lesser_below passesN (hr.mono (by decide)) (pa_cons (pv 2) pa_nil)))))))))), ?_⟩
  obtain ⟨dx, ob⟩ := W.ob
  refine ⟨_, rfl, ?_⟩
  refine gNameA [some (.ref p), some (.int (k : Int)), some (.int (k : Int)), none] ?_
  refine ⟨_, rfl, p, dx, _, rfl, ob, row_no (by decide +kernel), _, rfl, tu, p, r, xs, its, k, rfl, W, ?_⟩
  refine gNameA [some (.ref p), some (.int (k : Int)), some (.int (k : Int)), some (.int (lsr its k : Int))] ?_
  refine ⟨fun m σ H' => ∃ (xs' : List V) (its' : List (List Int)) (h : Nat), σ = [some (.ref p), some (.int (k : Int)), some (.int (h : Int)), some (.int (lsr its' h : Int))] /\ HpAt C_Heap tu H' p r xs' its' /\ h < its'.length /\ SinkI its' h /\ its'.Perm its /\ Keep [r] H H' /\ m = its'.length - h, ⟨_, xs, its, k, rfl, W, hk, I, List.Perm.refl _, Keep.refl, rfl⟩, ?_⟩
  rintro m σ H1 ⟨xs1, its1, h, rfl, W1, hm, I1, P1, k1, rfl⟩
  clear ob
  obtain ⟨dx, ob⟩ := W1.ob
  have hxl : xs1.length = its1.length := W1.ks.len
  refine ⟨_, rfl, _, rfl, p, C_Heap, dx, _, _, rfl, ob, T.cl_Heap, T.n_Heap_row, look_eq, r, _, rfl, .inl (SqL.of W1.row), _, _, rfl, rfl, _, rfl, ?_⟩
  by_cases h0 : its1.length ≤ lsr its1 h
  · refine iteN (by omega) (iteF ?_)
    exact q _ _ _ W1 (sink_end I1 (.inl h0)) P1 k1
  refine iteY (by omega) ?_
  have hw : lsr its1 h < its1.length := by omega
  obtain ⟨v, ev, kv⟩ := W1.ks.at_ hw
  obtain ⟨w', ew, kw⟩ := W1.ks.at_ hm
  refine ⟨_, rfl, p, C_Heap, dx, _, _, rfl, ob, T.cl_Heap, T.n_Heap_row, look_eq, _, rfl, r, _, _, v, rfl, rfl, SqL.of W1.row, atI_nat ev, ?_⟩
  refine ⟨_, rfl, p, C_Heap, dx, _, _, rfl, ob, T.cl_Heap, T.n_Heap_row, look_eq, _, rfl, r, _, _, w', rfl, rfl, SqL.of W1.row, atI_nat ew, ?_⟩
  refine ltO_of kv kw ⟨_, rfl, ?_⟩
  cases hlt : HT.lexLt (gK its1 (lsr its1 h)) (gK its1 h) with
  | false => exact iteF (q _ _ _ W1 (sink_end I1 (.inr hlt)) P1 k1)
  | true =>
    refine iteT ⟨_, fun σ' H' h => h, ?_⟩
    refine ⟨_, rfl, p, dx, _, rfl, ob, row_no (by decide +kernel), _, rfl, _, rfl, tu, p, r, xs1, its1, lsr its1 h, h, rfl, W1, hw, hm, fun xs2 H2 W2 k2 => ?_⟩
    obtain ⟨dx2, ob2⟩ := W2.ob
    refine ⟨_, rfl, ?_⟩
    refine gNameA [some (.ref p), some (.int (k : Int)), some (.int (lsr its1 h : Int)), some (.int (lsr its1 h : Int))] ?_
    refine ⟨_, rfl, p, dx2, _, rfl, ob2, row_no (by decide +kernel), _, rfl, tu, p, r, xs2, _, lsr its1 h, rfl, W2, ?_⟩
    have hgt := lsr_par its1 h
    refine ⟨_, ?_, xs2, _, lsr its1 h, rfl, W2, by rw [swp_len]; exact hw, sink_step I1 hw hlt, (swp_perm hw hm).trans P1, fun b o e hb => k2 b o (k1 b o e hb) hb, rfl⟩
    rw [swp_len]; omega
theorem ok_Heap_add {f : Addr} {fd : FuncData} (F : Fun K "add" "Heap.add" s_Heap_add f fd) (T : Txt K mg C_KeepError C_NoDay C_NoItem C_Heap) (D_Heap_lift : MethX P w K mg base C_Heap "lift" 2 ["self", "place"] (sp_lift C_Heap)) : FnOk P w K mg base (CXx P w) 3 f fd ["self", "item"] (sp_add C_Heap) := by
  refine F.okX sc_Heap_add (fun vs H Q E h => ?_) (fun cdv A outer s H vs Q E hr h => ?_)
  · obtain ⟨tu, p, r, xs, its, v, ks, rfl, W, hO, hv, hl, q⟩ := h; rfl
  obtain ⟨tu, p, r, xs, its, v, ks, rfl, W, hO, hv, hl, q⟩ := h
  refine ⟨_, (pss_cons (ps_expr (pe_bm PySem.F.plainAttrs_list PySem.F.slot_list_append PySem.F.type_list_append mt_append (pe_fld (pv 0) rfl) (pa_cons (pv 1) pa_nil)))
      (pss_one (ps_expr (pe_methS (pv 0) T.cl_Heap D_Heap_lift passesN (hr.mono (by decide)) (pa_cons (pe_op op_sub (pe_callB call_len_seq (by rfl) T.b_len PySem.boot_len (pa_cons (pe_fld (pv 0) rfl) pa_nil)) pe_int) pa_nil))))), ?_⟩
  obtain ⟨dx, ob⟩ := W.ob
  have hxl : xs.length = its.length := W.ks.len
  refine ⟨_, rfl, p, C_Heap, dx, _, _, rfl, ob, T.cl_Heap, T.n_Heap_row, look_eq, .inl ⟨rfl, _, SqL.of W.row⟩, _, rfl, r, _, _, rfl, rfl, W.row, by rw [hxl]; exact Nat.lt_of_lt_of_le hl (by decide), ?_⟩
  have W2 := W.put (W.ks.snoc hv)
  have k2 : Keep [r] H (upd H r (.lst (xs ++ [v]))) := keep_upd Keep.refl (.inl (by simp))
  generalize upd H r (.lst (xs ++ [v])) = H2 at W2 k2
  obtain ⟨dx2, ob2⟩ := W2.ob
  have e2 : (((xs ++ [v]).length : Nat) : Int) - 1 = (its.length : Int) := by simp [hxl]
  refine ⟨_, rfl, p, dx2, _, rfl, ob2, row_no (by decide +kernel), _, rfl, p, C_Heap, dx2, _, _, rfl, ob2, T.cl_Heap, T.n_Heap_row, look_eq, r, _, rfl, .inl (SqL.of W2.row), _, _, rfl, rfl, ?_⟩
  refine ⟨tu, p, r, xs ++ [v], its ++ [ks], its.length, by show [_, V.int ((((xs ++ [v]).length : Nat) : Int) - 1)] = _; rw [e2], W2, by simp, ⟨fun i h0 hi hne => ?_, fun h0 i h1 hi hp => ?_⟩, fun xs' its' H' W' hO' P' k' => q _ _ _ W' hO' P' fun b o e hb => k' b o (k2 b o e hb) hb⟩
  · rw [List.length_append] at hi
    have hi' : i < its.length := by simp at hi; omega
    have hg : ∀ j, j < its.length->gK (its ++ [ks]) j = gK its j := fun j hj => by simp [gK, List.getD_eq_getElem?_getD, List.getElem?_append_left hj]
    rw [hg _ hi', hg _ (by omega)]
    exact hO i h0 hi'
  · rw [List.length_append] at hi
    simp at hi; omega
theorem ok_Heap_least {f : Addr} {fd : FuncData} (F : Fun K "least" "Heap.least" s_Heap_least f fd) (T : Txt K mg C_KeepError C_NoDay C_NoItem C_Heap)  : FnOk P w K mg base (CXx P w) 2 f fd ["self"] (sp_least C_Heap C_NoItem) := by
  refine F.okX sc_Heap_least (fun vs H Q E h => ?_) (fun cdv A outer s H vs Q E hr h => ?_)
  · obtain ⟨tu, p, r, xs, its, rfl, W, hO, q0, q1⟩ := h; rfl
  obtain ⟨tu, p, r, xs, its, rfl, W, hO, q0, q1⟩ := h
  refine ⟨_, (pss_cons (ps_if (pt_cmpR op_eq (pe_callB call_len_seq (by rfl) T.b_len PySem.boot_len (pa_cons (pe_fld (pv 0) rfl) pa_nil)) pe_int (nomark _)) (pss_one (ps_raise rfl raisesB (pe_exc0 T.mg_NoItem T.x_NoItem T.in0_NoItem T.kp0_NoItem rfl))) pss_nil)
      (pss_one (ps_ret (pe_ix ix_list (pe_fld (pv 0) rfl) pe_int (fun _ _ => rfl))))), ?_⟩
  obtain ⟨dx, ob⟩ := W.ob
  have hxl : xs.length = its.length := W.ks.len
  refine ⟨_, rfl, p, C_Heap, dx, _, _, rfl, ob, T.cl_Heap, T.n_Heap_row, look_eq, r, _, rfl, .inl (SqL.of W.row), rfl, _, rfl, ?_⟩
  by_cases h0 : its = []
  · have hx0 : (xs.length : Int) = 0 := by rw [hxl, h0]; rfl
    rw [hx0, decide_eq_true rfl]
    refine iteT fun e he => ⟨e, C_NoItem, none, rfl, upd_same, T.x_NoItem, ?_⟩
    refine q1 h0 e _ ⟨false, none, upd_same, rfl⟩ fun b o eb => ?_
    have := ne_of_none eb he
    rw [upd_ne this, upd_ne this]; exact eb
  · have hpos : 0 < its.length := List.length_pos_iff.mpr h0
    rw [decide_eq_false (show ¬ V.int (xs.length : Int) = V.int 0 from fun e => by have := V.int.inj e; omega)]
    obtain ⟨v, ev, kv⟩ := W.ks.at_ hpos
    refine iteF ⟨_, rfl, p, C_Heap, dx, _, _, rfl, ob, T.cl_Heap, T.n_Heap_row, look_eq, r, _, _, v, rfl, rfl, SqL.of W.row, atI_nat (j := 0) ev, ?_⟩
    exact q0 v h0 ev kv (mem_le hO)
theorem ok_Heap_take {f : Addr} {fd : FuncData} (F : Fun K "take" "Heap.take" s_Heap_take f fd) (T : Txt K mg C_KeepError C_NoDay C_NoItem C_Heap) (D_Heap_least : MethX P w K mg base C_Heap "least" 2 ["self"] (sp_least C_Heap C_NoItem)) (D_Heap_sink : MethX P w K mg base C_Heap "sink" 2 ["self", "place"] (sp_sink C_Heap)) : FnOk P w K mg base (CXx P w) 3 f fd ["self"] (sp_take C_Heap C_NoItem) := by
  refine F.okX sc_Heap_take (fun vs H Q E h => ?_) (fun cdv A outer s H vs Q E hr h => ?_)
  · obtain ⟨tu, p, r, xs, its, rfl, W, hO, q0, q1⟩ := h; rfl
  obtain ⟨tu, p, r, xs, its, rfl, W, hO, q0, q1⟩ := h
  refine ⟨_, (pss_cons (ps_set (i := 1) sc_Heap_take.nd rfl (Or.inl rfl) (pe_methS0 (pv 0) T.cl_Heap D_Heap_least passesB (hr.mono (by decide))))
      (pss_cons (ps_set (i := 2) sc_Heap_take.nd rfl (Or.inl rfl) (pe_bm0 PySem.F.plainAttrs_list PySem.F.slot_list_pop PySem.F.type_list_pop mt_pop (pe_fld (pv 0) rfl)))
      (pss_cons (ps_if (pt_cmpR op_gt (pe_callB call_len_seq (by rfl) T.b_len PySem.boot_len (pa_cons (pe_fld (pv 0) rfl) pa_nil)) pe_int (nomark _)) (pss_cons (ps_asg (pv 2) (pg_sub (pe_fld (pv 0) rfl) pe_int set_list))
      (pss_one (ps_expr (pe_methS (pv 0) T.cl_Heap D_Heap_sink passesN (hr.mono (by decide)) (pa_cons pe_int pa_nil))))) pss_nil)
      (pss_one (ps_ret (pv 1)))))), ?_⟩
  obtain ⟨dx, ob⟩ := W.ob
  have hxl : xs.length = its.length := W.ks.len
  refine ⟨_, rfl, p, dx, _, rfl, ob, row_no (by decide +kernel), tu, p, r, xs, its, rfl, W, hO, fun v hne ev kv hmin => ?_, q1⟩
  refine gNameA [some (.ref p), some v, none] ?_
  have hpos : 0 < its.length := List.length_pos_iff.mpr hne
  obtain ⟨lv, elv, klv⟩ := W.ks.at_ (show its.length - 1 < its.length by omega)
  have elv' : xs[xs.length - 1]? = some lv := by rw [hxl]; exact elv
  have hvx : v ∈ xs := List.mem_of_getElem? ev
  refine ⟨_, rfl, p, C_Heap, dx, _, _, rfl, ob, T.cl_Heap, T.n_Heap_row, look_eq, .inl ⟨rfl, _, SqL.of W.row⟩, r, _, lv, rfl, rfl, W.row, elv', ?_⟩
  refine gNameA [some (.ref p), some v, some lv] ?_
  have W2 := W.put W.ks.dropLast
  have k2 : Keep [r] H (upd H r (.lst xs.dropLast)) := keep_upd Keep.refl (.inl (by simp))
  have kt2 : ∀ t ys, H t = some (.tup ys)->upd H r (.lst xs.dropLast) t = some (.tup ys) := fun t ys e => by rw [upd_ne (ne_of e W.row (by intro z; cases z))]; exact e
  generalize upd H r (.lst xs.dropLast) = H2 at W2 k2 kt2 ⊢
  clear ob
  obtain ⟨dx, ob⟩ := W2.ob
  have hdl : xs.dropLast.length = its.length - 1 := by rw [List.length_dropLast, hxl]
  by_cases h1 : its.length = 1
  · obtain ⟨a, rfl⟩ := List.length_eq_one_iff.mp h1
    refine ⟨_, rfl, p, C_Heap, dx, _, _, rfl, ob, T.cl_Heap, T.n_Heap_row, look_eq, r, _, rfl, .inl (SqL.of W2.row), _, _, rfl, rfl, _, rfl, iteN (by rw [hdl, h1]; decide) ⟨_, rfl, ?_⟩⟩
    exact q0 hne v a _ _ H2 (kv.mono kt2) W2 (fun i h0 hi => by simp at hi) (List.Perm.refl _) hmin hvx k2
  · obtain ⟨a, tl, b, rfl⟩ : ∃ a tl b, its = a :: (tl ++ [b]) := by
      match its, h1, hpos with
      | a :: r', h1, _ =>
        have hr : r' ≠ [] := fun e => h1 (by rw [e]; rfl)
        exact ⟨a, r'.dropLast, r'.getLast hr, by rw [List.dropLast_concat_getLast hr]⟩
    refine ⟨_, rfl, p, C_Heap, dx, _, _, rfl, ob, T.cl_Heap, T.n_Heap_row, look_eq, r, _, rfl, .inl (SqL.of W2.row), _, _, rfl, rfl, _, rfl, iteY (by rw [hdl]; simp) ?_⟩
    have hd2 : (a :: (tl ++ [b])).dropLast = a :: tl := by rw [show a :: (tl ++ [b]) = (a :: tl) ++ [b] from rfl, List.dropLast_concat]
    rw [hd2] at W2
    have hb : gK (a :: (tl ++ [b])) ((a :: (tl ++ [b])).length - 1) = b := by
      simp [gK, List.getD_eq_getElem?_getD]
    rw [hb] at klv
    refine ⟨_, rfl, _, rfl, p, C_Heap, dx, _, _, rfl, ob, T.cl_Heap, T.n_Heap_row, look_eq, r, _, _, 0, rfl, rfl, W2.row, by unfold ixN; rw [if_pos (by omega), if_pos (by rw [hdl]; simp)]; rfl, ?_⟩
    have W3 := W2.put (W2.ks.set (i := 0) (klv.mono kt2))
    have k3 : Keep [r] H2 (upd H2 r (.lst (xs.dropLast.set 0 lv))) := keep_upd Keep.refl (.inl (by simp))
    have kt3 : ∀ t ys, H2 t = some (.tup ys)->upd H2 r (.lst (xs.dropLast.set 0 lv)) t = some (.tup ys) := fun t ys e => by rw [upd_ne (ne_of e W2.row (by intro z; cases z))]; exact e
    generalize upd H2 r (.lst (xs.dropLast.set 0 lv)) = H3 at W3 k3 kt3 ⊢
    obtain ⟨dx3, ob3⟩ := W3.ob
    refine ⟨_, rfl, p, dx3, _, rfl, ob3, row_no (by decide +kernel), tu, p, r, _, _, 0, rfl, W3, by simp, ⟨fun i h0 hi hp => ?_, fun h => absurd h (by decide)⟩, fun xs' its' H' W' hO' P' k' => ?_⟩
    · have hi' : i < (a :: tl).length := by simpa using hi
      have hg : ∀ j, 0 < j->j < (a :: tl).length->gK ((a :: tl).set 0 b) j = gK (a :: (tl ++ [b])) j := fun j h0 hj => by
        cases j with
        | zero => omega
        | succ j => simp at hj; simp [gK, List.getD_eq_getElem?_getD, List.getElem?_append_left hj]
      rw [hg i h0 hi', hg _ (by omega) (by omega)]
      exact hO i h0 (by simp at hi' ⊢; omega)
    · refine ⟨_, rfl, q0 hne v a _ _ H' (KeyAt.mono (H := H3) ((kv.mono kt2).mono kt3) fun t ys e => k' t _ e ?_) W' hO' ?_ hmin hvx fun b' o e hb => k' b' o (k3 b' o (k2 b' o e hb) hb) hb⟩
      · have := ne_of e W3.row (by intro z; cases z)
        simpa using this
      · refine List.Perm.cons a ?_
        refine List.Perm.trans ?_ P'.symm
        show (tl ++ [b]).Perm (b :: tl)
        exact List.perm_append_comm
theorem ok_Heap_size {f : Addr} {fd : FuncData} (F : Fun K "size" "Heap.size" s_Heap_size f fd) (T : Txt K mg C_KeepError C_NoDay C_NoItem C_Heap)  : FnOk P w K mg base (CXx P w) 1 f fd ["self"] (sp_hsize C_Heap) := by
  refine F.okX sc_Heap_size (fun vs H Q E h => ?_) (fun cdv A outer s H vs Q E hr h => ?_)
  · obtain ⟨tu, p, r, xs, its, rfl, W, q⟩ := h; rfl
  obtain ⟨tu, p, r, xs, its, rfl, W, q⟩ := h
  refine ⟨_, (pss_one (ps_ret (pe_callB call_len_seq (by rfl) T.b_len PySem.boot_len (pa_cons (pe_fld (pv 0) rfl) pa_nil)))), ?_⟩
  obtain ⟨dx, ob⟩ := W.ob
  refine ⟨_, rfl, p, C_Heap, dx, _, _, rfl, ob, T.cl_Heap, T.n_Heap_row, look_eq, r, _, rfl, .inl (SqL.of W.row), ?_⟩
  rw [W.ks.len]
  exact q
theorem ok__law_cell_at {f : Addr} {fd : FuncData} (F : Fun K "_law_cell_at" "_law_cell_at" s__law_cell_at f fd) (T : Txt K mg C_KeepError C_NoDay C_NoItem C_Heap)  : FnOk P w K mg base (CXx P w) 1 f fd ["_law_script", "_law_k"] (sp_cell K) := by
  refine F.okX sc__law_cell_at (fun vs H Q E h => ?_) (fun cdv A outer s H vs Q E hr h => ?_)
  · obtain ⟨a, ns, k, rfl, hS, q⟩ := h; rfl
  obtain ⟨a, ns, k, rfl, hS, q⟩ := h
  refine ⟨_, (pss_cons (ps_if (pt_cmpR op_lt (pv 1) (pe_callB call_len_seq (by rfl) T.b_len PySem.boot_len (pa_cons (pv 0) pa_nil)) (nomark _)) (pss_one (ps_ret (pe_ix ix_list (pv 0) (pv 1) (fun _ _ => rfl)))) pss_nil)
      (pss_one (ps_ret pe_int))), ?_⟩
  refine ⟨_, rfl, _, rfl, a, _, rfl, .inl hS, _, _, rfl, rfl, _, rfl, ?_⟩
  refine ite2 (fun h => ?_) (fun h => ?_)
  · have h : k < ns.length := by simpa using h
    refine ⟨_, rfl, _, rfl, a, _, _, V.int (ns.getD k 0), rfl, rfl, hS, atI_nat ?_, ?_⟩
    · simp [h]
    · have e : cellI ns k = ns.getD k 0 := by unfold cellI; rw [if_pos (by omega)]; rfl
      rw [e] at q; exact q
  · have h : ¬ k < ns.length := by simpa using h
    have e : cellI ns k = 0 := by unfold cellI; rw [if_neg (by omega)]
    rw [e] at q; exact q
theorem ok__law_whole {f : Addr} {fd : FuncData} (F : Fun K "_law_whole" "_law_whole" s__law_whole f fd) (T : Txt K mg C_KeepError C_NoDay C_NoItem C_Heap)  : FnOk P w K mg base (CXx P w) 1 f fd ["_law_found"] (sp_whole) := by
  refine F.okX sc__law_whole (fun vs H Q E h => ?_) (fun cdv A outer s H vs Q E hr h => ?_)
  · obtain ⟨n, rfl, q⟩ := h; rfl
  obtain ⟨n, rfl, q⟩ := h
  refine ⟨_, (pss_one (ps_ret (pe_and (pe_callB call_isinst (by rfl) T.b_isinstance PyProof.Rows.boot_isinstance (pa_cons (pv 0) (pa_cons (pe_bltn (v := .ty "int") rfl T.b_int PyProof.Rows.boot_int rfl) pa_nil))) (pe_one (pe_not (pe_callB call_isinst (by rfl) T.b_isinstance PyProof.Rows.boot_isinstance (pa_cons (pv 0) (pa_cons (pe_bltn (v := .ty "bool") rfl T.b_bool PyProof.Rows.boot_bool rfl) pa_nil)))))))), ?_⟩
  refine ⟨_, rfl, _, _, _, _, true, rfl, rfl, .int _, rfl, _, rfl, ?_⟩
  refine iteT ?_
  refine ⟨_, rfl, _, _, _, _, false, rfl, rfl, .int _, (by with_unfolding_all rfl), _, rfl, ?_⟩
  exact q
theorem ok__law_drawn {f : Addr} {fd : FuncData} (F : Fun K "_law_drawn" "_law_drawn" s__law_drawn f fd) (T : Txt K mg C_KeepError C_NoDay C_NoItem C_Heap)  : FnOk P w K mg base (CXx P w) 1 f fd ["_law_cell", "_law_many"] (sp_drawn) := by
  refine F.okX sc__law_drawn (fun vs H Q E h => ?_) (fun cdv A outer s H vs Q E hr h => ?_)
  · obtain ⟨c, m, rfl, hm, q⟩ := h; rfl
  obtain ⟨c, m, rfl, hm, q⟩ := h
  refine ⟨_, (pss_cons (ps_set (i := 2) sc__law_drawn.nd rfl (Or.inl rfl) (pe_lst pa_nil))
      (pss_cons (ps_set (i := 3) sc__law_drawn.nd rfl (Or.inl rfl) (pe_op op_add (pe_op op_mod (pv 0) pe_int) pe_int))
      (pss_cons (ps_for PassesOwn.leaving rfl (pi_range1 rfl T.b_range (pa_cons (pv 1) pa_nil)) (pg_name (i := 4) sc__law_drawn.nd rfl (Or.inl rfl))
      (pss_cons (ps_set (i := 3) sc__law_drawn.nd rfl (Or.inl rfl) (pe_op op_mod (pe_op op_add (pe_op op_add (pe_op op_mul (pv 3) (pv 3)) (pe_op op_mul pe_int (pv 3))) (pv 4)) pe_int))
      (pss_one (ps_expr (pe_bm PySem.F.plainAttrs_list PySem.F.slot_list_append PySem.F.type_list_append mt_append (pv 2) (pa_cons (pv 3) pa_nil))))))
      (pss_one (ps_ret (pv 2)))))), ?_⟩
  refine ⟨Nat.zero_le _, fun l hl => ?_⟩
  refine ⟨_, rfl, _, _, rfl, rfl, (by first | decide | (dsimp only; decide)), _, _, rfl, rfl, ?_⟩
  refine ⟨_, rfl, _, rfl, by omega, by omega, for_range (lo := 0) (n := (m : Int).toNat) (fun i σ H2 => ∃ (num : Int) (v4 : Option V) (xs : List Int), σ = [some (.int c), some (.int (m : Int)), some (.ref l), some (.int num), v4] /\ Same H H2 /\ H2 l = some (.lst (xs.map V.int)) /\ xs.length = i /\ (∀ x ∈ xs, 0 ≤ x /\ x < 2147483647) /\ 0 ≤ num /\ num < 2147531918)
    ⟨c % 2147483647 + 48271, none, [], rfl, Same.new hl, upd_same, rfl, by simp, by omega, by omega⟩ ?_ ?_⟩
  · rintro i σ H2 hi ⟨num, v4, xs, rfl, s2, h2, hlx, hx, n0, n1⟩
    refine ⟨_, rfl, _, rfl, _, _, rfl, rfl, .inl ⟨by omega, by omega⟩, _, rfl, _, _, rfl, rfl, .inl ⟨by decide, by decide⟩, _, _, rfl, rfl, _, rfl, _, _, rfl, rfl, _, _, rfl, rfl, (by first | decide | (dsimp only; decide)), ?_⟩
    refine ⟨_, rfl, .inl ⟨rfl, _, SqL.of h2⟩, _, rfl, l, _, _, rfl, rfl, h2, (by rw [List.length_map]; exact small1000 (by omega)), ?_⟩
    have b0 := Int.emod_nonneg (num * num + 48271 * num + (0 + (i : Int))) (show (2147483647 : Int) ≠ 0 by decide)
    have b1 := Int.emod_lt_of_pos (num * num + 48271 * num + (0 + (i : Int))) (show (0 : Int) < 2147483647 by decide)
    refine ⟨_, _, xs ++ [(num * num + 48271 * num + (0 + (i : Int))) % 2147483647], rfl, fun b o e => ?_, by rw [upd_same]; simp, by simp [hlx], ?_, b0, by omega⟩
    · rw [upd_ne (ne_of_none e hl)]; exact s2 b _ e
    · intro x hx'
      rcases List.mem_append.mp hx' with h | h
      · exact hx x h
      · have : x = (num * num + 48271 * num + (0 + (i : Int))) % 2147483647 := by simpa using h
        rw [this]; exact ⟨b0, b1⟩
  · rintro σ H2 ⟨num, v4, xs, rfl, s2, h2, hlx, hx, n0, n1⟩
    exact ⟨_, rfl, q l xs H2 h2 hl (by omega) hx s2⟩
theorem ok_Heap_lying {f : Addr} {fd : FuncData} (F : Fun K "lying" "Heap.lying" s_Heap_lying f fd) (T : Txt K mg C_KeepError C_NoDay C_NoItem C_Heap)  : FnOk P w K mg base (CXx P w) 1 f fd ["self"] (sp_lying C_Heap) := by
  refine F.okX sc_Heap_lying (fun vs H Q E h => ?_) (fun cdv A outer s H vs Q E hr h => ?_)
  · obtain ⟨tu, p, r, xs, its, rfl, W, q⟩ := h; rfl
  obtain ⟨tu, p, r, xs, its, rfl, W, q⟩ := h
  refine ⟨_, (pss_one (ps_ret (pe_callTy call_list_of (by rfl) T.b_list PyProof.Rows.boot_list (pa_cons (pe_fld (pv 0) rfl) pa_nil)))), ?_⟩
  obtain ⟨dx, ob⟩ := W.ob
  exact ⟨_, rfl, p, C_Heap, dx, _, _, rfl, ob, T.cl_Heap, T.n_Heap_row, look_eq, r, _, rfl, .inl (SqL.of W.row), fun l hl => q l hl⟩
theorem ok__law_number {f : Addr} {fd : FuncData} (F : Fun K "_law_number" "_law_number" s__law_number f fd) (T : Txt K mg C_KeepError C_NoDay C_NoItem C_Heap)  : FnOk P w K mg base (CXx P w) 1 f fd ["_law_xs", "_law_k", "_law_way"] (sp_number) := by
  refine F.okX sc__law_number (fun vs H Q E h => ?_) (fun cdv A outer s H vs Q E hr h => ?_)
  · obtain ⟨l, xs, k, wy, rfl, hl, hk, hx, q⟩ := h; rfl
  obtain ⟨l, xs, k, wy, rfl, hl, hk, hx, q⟩ := h
  refine ⟨_, (pss_cons (ps_if (pt_cmpR op_eq (pv 2) pe_int (nomark _)) (pss_one (ps_ret (pe_op op_sub (pe_op op_mod (pe_ix ix_list (pv 0) (pv 1) (fun _ _ => rfl)) pe_int) pe_int))) pss_nil)
      (pss_cons (ps_if (pt_cmpR op_eq (pv 2) pe_int (nomark _)) (pss_one (ps_ret (pe_op op_sub (pe_op op_mod (pe_ix ix_list (pv 0) (pv 1) (fun _ _ => rfl)) pe_int) pe_int))) pss_nil)
      (pss_one (ps_ret (pe_op op_sub (pe_op op_add (pe_op op_mul (pe_op op_add (pe_op op_mul (pe_ix ix_list (pv 0) (pv 1) (fun _ _ => rfl)) pe_int) (pe_ix ix_list (pv 0) (pe_op op_add (pv 1) pe_int) (fun _ _ => rfl))) (pe_powc (n := 1000000000000000000000000000000000000000))) (pe_ix ix_list (pv 0) (pv 1) (fun _ _ => rfl))) (pe_op op_mul pe_int (pe_powc (n := 1000000000000000000000000000000000000000000000000000000000)))))))), ?_⟩
  obtain ⟨y0, h0, m0⟩ : ∃ y, atI (xs.map V.int) (k : Int) = some (V.int y) /\ y ∈ xs := ⟨xs[k], atI_nat (by rw [List.getElem?_map, List.getElem?_eq_getElem (by omega)]; rfl), List.getElem_mem _⟩
  obtain ⟨y1, h1, m1⟩ : ∃ y, atI (xs.map V.int) ((k : Int) + 1) = some (V.int y) /\ y ∈ xs := ⟨xs[k + 1], atI_nat (j := k + 1) (by rw [List.getElem?_map, List.getElem?_eq_getElem hk]; rfl), List.getElem_mem _⟩
  have b0 := hx y0 m0
  have b1 := hx y1 m1
  refine ⟨_, rfl, rfl, _, rfl, ?_⟩
  refine ite2 (fun h => ?_) (fun h => ?_)
  · exact ⟨_, rfl, _, rfl, l, _, _, V.int y0, rfl, rfl, SqL.of hl, h0, _, _, rfl, rfl, (by first | decide | (dsimp only; decide)), _, _, rfl, rfl, q _⟩
  refine ⟨_, rfl, rfl, _, rfl, ?_⟩
  refine ite2 (fun h => ?_) (fun h => ?_)
  · exact ⟨_, rfl, _, rfl, l, _, _, V.int y0, rfl, rfl, SqL.of hl, h0, _, _, rfl, rfl, (by first | decide | (dsimp only; decide)), _, _, rfl, rfl, q _⟩
  refine ⟨_, rfl, _, rfl, l, _, _, V.int y0, rfl, rfl, SqL.of hl, h0, _, _, rfl, rfl, .inl ⟨by omega, by omega⟩, ?_⟩
  refine ⟨_, rfl, _, rfl, _, _, rfl, rfl, l, _, _, V.int y1, rfl, rfl, SqL.of hl, h1, _, _, rfl, rfl, _, _, rfl, rfl, .inl ⟨by omega, by omega⟩, ?_⟩
  refine ⟨_, rfl, _, rfl, l, _, _, V.int y0, rfl, rfl, SqL.of hl, h0, _, _, rfl, rfl, ?_⟩
  exact ⟨_, _, rfl, rfl, .inl ⟨by decide, by decide⟩, _, _, rfl, rfl, q _⟩
theorem ok__law_item {f : Addr} {fd : FuncData} (F : Fun K "_law_item" "_law_item" s__law_item f fd) (T : Txt K mg C_KeepError C_NoDay C_NoItem C_Heap) (D__law_drawn : DefX P w K mg base "_law_drawn" 1 ["_law_cell", "_law_many"] sp_drawn) (D__law_number : DefX P w K mg base "_law_number" 1 ["_law_xs", "_law_k", "_law_way"] sp_number) : FnOk P w K mg base (CXx P w) 2 f fd ["_law_cell", "_law_way"] (sp_item) := by
  refine F.okX sc__law_item (fun vs H Q E h => ?_) (fun cdv A outer s H vs Q E hr h => ?_)
  · obtain ⟨c, wy, rfl, q⟩ := h; rfl
  obtain ⟨c, wy, rfl, q⟩ := h
  refine ⟨_, (pss_cons (ps_set (i := 2) sc__law_item.nd rfl (Or.inr rfl) (pe_callS D__law_drawn passesN (hr.mono (by decide)) rfl (pa_cons (pv 0) (pa_cons pe_int pa_nil))))
      (pss_cons (ps_if (pt_cmpR op_lt (pv 1) pe_int (nomark _)) (pss_one (ps_ret (pe_callS D__law_number passesN (hr.mono (by decide)) rfl (pa_cons (pv 2) (pa_cons pe_int (pa_cons (pv 1) pa_nil)))))) pss_nil)
      (pss_one (ps_ret (pe_callTy call_tuple_of (by rfl) T.b_tuple PyProof.Rows.boot_tuple (pa_cons (pe_comp (N := ["_law_k", "_law_xs", "_law_way"]) (k := 1) (cap := [2, 1]) rfl rfl (pi_range1 rfl T.b_range (pa_cons (pe_op op_add pe_int (pe_op op_mod (pe_ix ix_list (pv 2) pe_int (fun _ _ => rfl)) pe_int)) pa_nil)) (fun _ _ _ _ => (pg_name (i := 0) (show (["_law_k", "_law_xs", "_law_way"] : List Str).Nodup from by decide +kernel) rfl (Or.inl rfl) (.inr rfl))) (fun _ _ _ _ => pts_nil) (fun _ _ _ _ => (pe_callS D__law_number passesN (hr.mono (by decide)) rfl (pa_cons (pv 1) (pa_cons (pv 0) (pa_cons (pe_op op_sub (pv 2) pe_int) pa_nil)))))) pa_nil)))))), ?_⟩
  refine ⟨_, rfl, c, 6, rfl, by decide, fun l xs H1 hl nl hlen hx s1 => ?_⟩
  refine gNameA [some (.int c), some (.int wy), some (.ref l)] ?_
  obtain ⟨x0, x1, x2, x3, x4, x5, rfl⟩ := ex6 hlen
  refine ⟨_, rfl, _, _, rfl, rfl, _, rfl, ?_⟩
  by_cases h3 : wy < 3
  · rw [decide_eq_true h3] at q
    refine iteY h3 ⟨_, rfl, _, rfl, l, _, 0, wy, rfl, hl, by simp, hx, fun n => ?_⟩
    exact q (.int n) [n] H1 ⟨n, rfl, rfl⟩ ⟨by simp, by simp⟩ s1
  rw [decide_eq_false h3] at q
  refine iteN h3 ?_
  have b5 := hx x5 (by simp)
  refine ⟨_, rfl, l, _, _, V.int x5, rfl, rfl, SqL.of hl, rfl, _, _, rfl, rfl, (by first | decide | (dsimp only; decide)), _, _, rfl, rfl, _, rfl, by omega, by omega, fun D' hD' => ?_⟩
  refine comp_range (lo := 0) (n := (1 + x5 % 3).toNat) D' (fun i σ H2 ys => ∃ (v : Option V) (ws : List Int), σ = [v, some (.ref l), some (.int wy)] /\ Same H1 H2 /\ H2 D' = some (.lst ys) /\ ys = ws.map V.int /\ ws.length = i) ⟨none, [], rfl, Same.new hD', upd_same, rfl, rfl⟩ ?_ ?_
  · rintro i σ H2 ys hi ⟨v, ws, rfl, s2, h2, rfl, hwn⟩
    refine ⟨_, rfl, _, rfl, _, rfl, _, _, rfl, rfl, l, _, i, _, by rw [Int.zero_add], s2 _ _ hl, ?_, hx, fun n => ?_⟩
    · simp; omega
    refine ⟨h2, by rw [List.length_map]; exact small1000 (by omega), _, ws ++ [n], rfl, fun b o e => ?_, upd_same, by simp, by simp [hwn]⟩
    rw [upd_ne (ne_of_none e hD')]; exact s2 b o e
  rintro σ H2 ys ⟨v, ws, rfl, s2, h2, rfl, hwn⟩
  refine ⟨D', _, rfl, .inl ⟨SqL.of h2, fun t ht => ?_⟩⟩
  refine q (.ref t) ws _ ⟨t, rfl, upd_same⟩ ⟨fun e => ?_, by rw [hwn]; omega⟩ ((s1.trans s2).trans (Same.new ht))
  rw [e] at hwn; simp at hwn; omega
theorem ok__law_alike {f : Addr} {fd : FuncData} (F : Fun K "_law_alike" "_law_alike" s__law_alike f fd) (T : Txt K mg C_KeepError C_NoDay C_NoItem C_Heap) (D__law_whole : DefX P w K mg base "_law_whole" 1 ["_law_found"] sp_whole) : FnOk P w K mg base (CXx P w) 2 f fd ["_law_found", "_law_due"] (sp_alike) := by
  refine F.okX sc__law_alike (fun vs H Q E h => ?_) (fun cdv A outer s H vs Q E hr h => ?_)
  · obtain ⟨tu, v, u, ks, rfl, hv, hu, hks, q⟩ := h; rfl
  obtain ⟨tu, v, u, ks, rfl, hv, hu, hks, q⟩ := h
  refine ⟨_, (pss_cons (ps_if (pt_not (pt_val (pe_callB call_isinst (by rfl) T.b_isinstance PyProof.Rows.boot_isinstance (pa_cons (pv 1) (pa_cons (pe_bltn (v := .ty "tuple") rfl T.b_tuple PyProof.Rows.boot_tuple rfl) pa_nil))))) (pss_one (ps_ret (pe_and (pe_callS D__law_whole passesN (hr.mono (by decide)) rfl (pa_cons (pv 0) pa_nil)) (pe_one (pe_cmpR op_eq (pv 0) (pv 1) (nomark _)))))) pss_nil)
      (pss_cons (ps_if (PW.pt (pw_or (pt_not (pt_val (pe_callB call_isinst (by rfl) T.b_isinstance PyProof.Rows.boot_isinstance (pa_cons (pv 0) (pa_cons (pe_bltn (v := .ty "tuple") rfl T.b_tuple PyProof.Rows.boot_tuple rfl) pa_nil))))) (pw_or1 (pt_cmpR (op_ne_ref hr.units) (pv 0) (pv 1) (nomark _))))) (pss_one (ps_ret pe_bl)) pss_nil)
      (pss_one (ps_ret (pe_cmpR op_eq (pe_callB call_len_seq (by rfl) T.b_len PySem.boot_len (pa_cons (pe_comp (N := ["_law_part"]) (k := 1) (cap := []) rfl rfl (pi_tup (pv 0)) (fun _ _ _ _ => (pg_name (i := 0) (show (["_law_part"] : List Str).Nodup from by decide +kernel) rfl (Or.inl rfl) (.inr rfl))) (fun _ _ _ _ => (pts_one (pt_val (pe_callS D__law_whole passesN (hr.mono (by decide)) rfl (pa_cons (pv 0) pa_nil))))) (fun _ _ _ _ => (pv 0))) pa_nil)) (pe_callB call_len_seq (by rfl) T.b_len PySem.boot_len (pa_cons (pv 1) pa_nil)) (nomark _)))))), ?_⟩
  cases tu with
  | false =>
    obtain ⟨i, rfl, rfl⟩ := hv
    obtain ⟨j, rfl, e⟩ := hu
    cases e
    refine ⟨_, rfl, _, _, _, _, false, rfl, rfl, .int _, (by with_unfolding_all rfl), _, rfl, iteT ⟨_, rfl, i, rfl, true, rfl, iteT ⟨_, rfl, _, rfl, rfl, ?_⟩⟩⟩
    rw [decide_eq_true rfl]
    exact q _ (Same.refl _)
  | true =>
    obtain ⟨a, rfl, ha⟩ := hv
    obtain ⟨b, rfl, hb⟩ := hu
    refine ⟨_, rfl, _, _, _, _, true, rfl, rfl, .tup hb, rfl, _, rfl, iteF ?_⟩
    refine ⟨_, rfl, _, _, _, _, true, rfl, rfl, .tup ha, rfl, _, rfl, iteF ⟨_, rfl, _, rfl, 0, true, by decide, seq_intsT ha hb, _, rfl, iteF ?_⟩⟩
    refine ⟨_, rfl, a, rfl, ⟨_, SqT.of ha⟩, fun D' hD' => ?_⟩
    refine comp_tup D' (K := K) (a := a) (xs := ks.map V.int) (fun i σ H5 ys => ∃ (v : Option V), σ = [v] /\ Same H H5 /\ H5 D' = some (.lst ys) /\ ys.length = i) ⟨none, rfl, Same.new hD', upd_same, rfl⟩ (fun i σ H5 ys _ ⟨_, _, s5, _⟩ => SqT.of (s5 _ _ ha)) ?_ ?_
    · rintro i x σ H5 ys hi ⟨v, rfl, s5, h5, hl5⟩
      rw [List.getElem?_map] at hi
      obtain ⟨n, en, rfl⟩ := Option.map_eq_some_iff.mp hi
      have hin := (List.getElem?_eq_some_iff.mp en).1
      refine ⟨_, rfl, n, rfl, _, rfl, iteT ⟨_, rfl, h5, small1000 (by omega), _, rfl, fun b' o e => ?_, upd_same, by simp [hl5]⟩⟩
      rw [upd_ne (ne_of_none e hD')]; exact s5 b' o e
    rintro σ H5 ys ⟨v, rfl, s5, h5, hl5⟩
    refine ⟨D', _, rfl, .inl (SqL.of h5), _, rfl, b, _, rfl, .inr (SqT.of (s5 _ _ hb)), rfl, ?_⟩
    rw [hl5, decide_eq_true (show V.int _ = V.int _ by simp)]
    exact q _ s5
theorem ok__law_refused {f : Addr} {fd : FuncData} (F : Fun K "_law_refused" "_law_refused" s__law_refused f fd) (T : Txt K mg C_KeepError C_NoDay C_NoItem C_Heap) (D_Heap_take : MethX P w K mg base C_Heap "take" 3 ["self"] (sp_take C_Heap C_NoItem)) (D_Heap_least : MethX P w K mg base C_Heap "least" 2 ["self"] (sp_least C_Heap C_NoItem)) : FnOk P w K mg base (CXx P w) 4 f fd ["_law_heap", "_law_out"] (sp_refused C_Heap) := by
  refine F.okX sc__law_refused (fun vs H Q E h => ?_) (fun cdv A outer s H vs Q E hr h => ?_)
  · obtain ⟨b, tu, p, r, xs, rfl, W, q⟩ := h; rfl
  obtain ⟨b, tu, p, r, xs, rfl, W, q⟩ := h
  refine ⟨_, (pss_cons (ps_set (i := 2) sc__law_refused.nd rfl (Or.inl rfl) pe_non)
      (pss_cons (ps_try (fun pn xe E hx => (pss_one (ps_if (pt_val (pv 1)) (pss_one (ps_expr (pe_methS0 (pv 0) T.cl_Heap D_Heap_take hx (hr.mono (by decide))))) (pss_one (ps_expr (pe_methS0 (pv 0) T.cl_Heap D_Heap_least hx (hr.mono (by decide)))))))) (ph_as (i := 3) rfl T.mg_KeepError T.x_KeepError sc__law_refused.nd rfl rfl (fun _ _ => (pss_one (ps_set (i := 2) sc__law_refused.nd rfl (Or.inl rfl) (pv 3)))) ph_nil) rfl rfl)
      (pss_one (ps_ret (pe_and (pe_callB call_isinstX (by rfl) T.b_isinstance PyProof.Rows.boot_isinstance (pa_cons (pv 2) (pa_cons (pe_glob (v := .ref C_NoItem) rfl T.mg_NoItem rfl) pa_nil))) (pe_and (pe_callB call_isinstX (by rfl) T.b_isinstance PyProof.Rows.boot_isinstance (pa_cons (pv 2) (pa_cons (pe_bltn (v := .ty "ValueError") rfl T.b_ValueError L2.boot_ValueError rfl) pa_nil))) (pe_one (pe_not (pe_callB call_isinstX (by rfl) T.b_isinstance PyProof.Rows.boot_isinstance (pa_cons (pv 2) (pa_cons (pe_glob (v := .ref C_NoDay) rfl T.mg_NoDay rfl) pa_nil))))))))))), ?_⟩
  obtain ⟨dx, ob⟩ := W.ob
  have hO : HOrd [] := fun i _ h => absurd h (Nat.not_lt_zero _)
  refine gNameA [some (.ref p), some (.bl b), some .non, none] ?_
  dsimp only
  refine cutA (fun σ' H' => ∃ e, σ' = [some (.ref p), some (.bl b), some (.ref e), none] /\ ExcAt H' e C_NoItem [] /\ Same H H') (fun N hN => ?_) ?_
  · intro pn xe
    have hx : ∀ e H', ExcAt H' e C_NoItem []->Same H H'->hAs K C_KeepError 3 (fun _ _ => tAsg (tVar 3) (gName 2)) hNil e C_NoItem { nx := N, rt := Q } [some (.ref p), some (.bl b), some .non, none] H' := fun e H' he s' => by
      refine ⟨true, T.kp1, ?_⟩
      rw [if_pos rfl]
      intro pn2
      exact ⟨_, rfl, hN _ _ ⟨e, rfl, he, s'⟩⟩
    refine ⟨_, rfl, _, rfl, ?_⟩
    cases b with
    | true => exact iteT ⟨_, rfl, p, dx, _, rfl, ob, row_no (by decide +kernel), tu, p, r, xs, [], rfl, W, hO, fun z => absurd rfl z, fun _ e H' he s' => ⟨e, C_NoItem, rfl, rfl, hx e H' he s'⟩⟩
    | false => exact iteF ⟨_, rfl, p, dx, _, rfl, ob, row_no (by decide +kernel), tu, p, r, xs, [], rfl, W, hO, fun v z => absurd rfl z, fun _ e H' he s' => ⟨e, C_NoItem, rfl, rfl, hx e H' he s'⟩⟩
  rintro σ H1 ⟨e, rfl, he, s1⟩
  refine ⟨_, rfl, e, C_NoItem, _, _, _, true, rfl, rfl, he, T.x_NoItem, T.kp2, _, rfl, iteT ⟨_, rfl, e, C_NoItem, _, _, _, true, rfl, rfl, he, T.x_NoItem, T.kp3, _, rfl, iteT ?_⟩⟩
  exact ⟨_, rfl, e, C_NoItem, _, _, _, false, rfl, rfl, he, T.x_NoItem, T.kp4, _, rfl, q _ s1⟩
theorem ok__law_none {f : Addr} {fd : FuncData} (F : Fun K "_law_none" "_law_none" s__law_none f fd) (T : Txt K mg C_KeepError C_NoDay C_NoItem C_Heap) (D_Heap_lying : MethX P w K mg base C_Heap "lying" 1 ["self"] (sp_lying C_Heap)) (D_Heap_size : MethX P w K mg base C_Heap "size" 1 ["self"] (sp_hsize C_Heap)) (D__law_refused : DefX P w K mg base "_law_refused" 4 ["_law_heap", "_law_out"] (sp_refused C_Heap)) : FnOk P w K mg base (CXx P w) 5 f fd ["_law_heap"] (sp_none C_Heap) := by
  refine F.okX sc__law_none (fun vs H Q E h => ?_) (fun cdv A outer s H vs Q E hr h => ?_)
  · obtain ⟨tu, p, r, xs, rfl, W, q⟩ := h; rfl
  obtain ⟨tu, p, r, xs, rfl, W, q⟩ := h
  refine ⟨_, (pss_one (ps_ret (pe_and (pe_callS D__law_refused passesN (hr.mono (by decide)) rfl (pa_cons (pv 0) (pa_cons pe_bl pa_nil))) (pe_and (pe_callS D__law_refused passesN (hr.mono (by decide)) rfl (pa_cons (pv 0) (pa_cons pe_bl pa_nil))) (pe_and (pe_cmpR op_eq (pe_methS0 (pv 0) T.cl_Heap D_Heap_size passesN (hr.mono (by decide))) pe_int (nomark _)) (pe_one (pe_cmpR (op_eq_ref hr.units) (pe_methS0 (pv 0) T.cl_Heap D_Heap_lying passesN (hr.mono (by decide))) (pe_lst pa_nil) (nomark _)))))))), ?_⟩
  refine ⟨_, rfl, false, tu, p, r, xs, rfl, W, fun H1 s1 => ⟨_, rfl, iteT ?_⟩⟩
  refine ⟨_, rfl, true, tu, p, r, xs, rfl, W.same s1, fun H2 s2 => ⟨_, rfl, iteT ?_⟩⟩
  have W2 := W.same (s1.trans s2)
  obtain ⟨dx, ob⟩ := W2.ob
  refine ⟨_, rfl, p, dx, _, rfl, ob, row_no (by decide +kernel), tu, p, r, xs, [], rfl, W2, rfl, _, rfl, iteT ?_⟩
  refine ⟨_, rfl, p, dx, _, rfl, ob, row_no (by decide +kernel), tu, p, r, xs, [], rfl, W2, fun l hl => ⟨Nat.zero_le _, fun e he => ?_⟩⟩
  have hx : xs = [] := List.length_eq_zero_iff.mp W2.ks.len
  subst hx
  refine ⟨0, true, by decide, seq_none (vs := []) (Same.new he _ _ upd_same) upd_same, ?_⟩
  exact q _ (((s1.trans s2).trans (Same.new hl)).trans (Same.new he))
theorem ok__law_lies {f : Addr} {fd : FuncData} (F : Fun K "_law_lies" "_law_lies" s__law_lies f fd) (T : Txt K mg C_KeepError C_NoDay C_NoItem C_Heap) (D_Heap_lying : MethX P w K mg base C_Heap "lying" 1 ["self"] (sp_lying C_Heap)) : FnOk P w K mg base (CXx P w) 2 f fd ["_law_heap", "_law_due"] (sp_lies C_Heap) := by
  refine F.okX sc__law_lies (fun vs H Q E h => ?_) (fun cdv A outer s H vs Q E hr h => ?_)
  · obtain ⟨tu, p, r, d, D, rfl, S, h64, q⟩ := h; rfl
  obtain ⟨tu, p, r, d, D, rfl, S, h64, q⟩ := h
  refine ⟨_, (pss_cons (ps_set (i := 2) sc__law_lies.nd rfl (Or.inl rfl) (pe_methS0 (pv 0) T.cl_Heap D_Heap_lying passesN (hr.mono (by decide))))
      (pss_cons (ps_if (PW.pt (pw_or (pt_not (pt_val (pe_callB call_isinst (by rfl) T.b_isinstance PyProof.Rows.boot_isinstance (pa_cons (pv 2) (pa_cons (pe_bltn (v := .ty "list") rfl T.b_list PyProof.Rows.boot_list rfl) pa_nil))))) (pw_or1 (pt_cmpR (op_ne_ref hr.units) (pe_callB call_sortedO (by rfl) T.b_sorted PyProof.Rows.boot_sorted (pa_cons (pv 2) pa_nil)) (pv 1) (nomark _))))) (pss_one (ps_ret pe_bl)) pss_nil)
      (pss_cons (ps_for PassesOwn.leaving rfl (pi_range2 rfl T.b_range (pa_cons pe_int (pa_cons (pe_callB call_len_seq (by rfl) T.b_len PySem.boot_len (pa_cons (pv 2) pa_nil)) pa_nil))) (pg_name (i := 3) sc__law_lies.nd rfl (Or.inl rfl))
      (pss_one (ps_if (pt_cmpR (op_ltO (Nat.lt_of_le_of_lt (Nat.le_add_right _ 64) hr.units)) (pe_ix ix_list (pv 2) (pv 3) (fun _ _ => rfl)) (pe_ix ix_list (pv 2) (pe_op op_fdivB (pe_op op_sub (pv 3) pe_int) pe_int) (fun _ _ => rfl)) (nomark _)) (pss_one (ps_ret pe_bl)) pss_nil)))
      (pss_cons (ps_expr (pe_bm0 PySem.F.plainAttrs_list PySem.F.slot_list_clear PySem.F.type_list_clear mt_clear (pv 2)))
      (pss_one (ps_ret pe_bl)))))), ?_⟩
  obtain ⟨⟨xs, its, W, hO, hP⟩, ⟨ws, hw, kw⟩, so, hne⟩ := S
  obtain ⟨dx, ob⟩ := W.ob
  have hxl : xs.length = its.length := W.ks.len
  have hil : its.length = D.length := hP.length_eq.symm
  refine ⟨_, rfl, p, dx, _, rfl, ob, row_no (by decide +kernel), tu, p, r, xs, its, rfl, W, fun l hl => ?_⟩
  refine gNameA [some (.ref p), some (.ref d), some (.ref l), none] ?_
  have s1 : Same H (upd H l (.lst xs)) := Same.new hl
  have hl1 : upd H l (.lst xs) l = some (.lst xs) := upd_same
  generalize upd H l (.lst xs) = H1 at s1 hl1 ⊢
  have K1 := W.ks.mono fun t ys e => s1 t _ e
  dsimp only
  refine seq_ifP (fun H' => Same H1 H') (fun Qb hq => ?_) (fun H2 s2 => ?_)
  · refine ⟨_, rfl, _, _, _, _, true, rfl, rfl, .lst hl1, rfl, _, rfl, iteF ⟨_, rfl, tu, l, xs, its, rfl, SqL.of hl1, K1, fun k hk => (hne k (hP.mem_iff.mpr hk)).1, by omega, fun l' vs' its' hl' K' P' so' => ?_⟩⟩
    have e : its' = D := pw_unique (P'.trans hP.symm) so' so
    subst e
    have s3 : Same H1 (upd H1 l' (.lst vs')) := Same.new hl'
    refine ⟨_, rfl, 1, true, by decide, seq_keys (tu := tu) (its := its') upd_same (s3 _ _ (s1 _ _ hw)) (K'.mono fun t ys e => s3 t _ e) (kw.mono fun t ys e => s3 t _ (s1 t _ e)), _, rfl, hq _ s3⟩
  have hl2 := s2 _ _ hl1
  have K2 := K1.mono fun t ys e => s2 t _ e
  refine cutA (fun σ' H' => ∃ v, σ' = [some (.ref p), some (.ref d), some (.ref l), v] /\ H' = H2) (fun N hN => ?_) ?_
  · refine ⟨_, rfl, l, _, rfl, .inl (SqL.of hl2), _, _, rfl, ⟨by decide, by decide, by omega, by omega⟩, for_range (lo := 1) (n := ((xs.length : Int) - 1).toNat) (fun i σ H' => ∃ v, σ = [some (.ref p), some (.ref d), some (.ref l), v] /\ H' = H2) ⟨none, rfl, rfl⟩ ?_ ?_⟩
    · rintro i σ H' hi ⟨v, rfl, rfl⟩
      have hk : i + 1 < its.length := by omega
      obtain ⟨y1, e1, z1⟩ := K2.at_ hk
      obtain ⟨y2, e2, z2⟩ := K2.at_ (show i / 2 < its.length by omega)
      refine gNameA [some (.ref p), some (.ref d), some (.ref l), some (.int ((i + 1 : Nat) : Int))] ?_ (by show [_, _, _, some (V.int (1 + (i : Int)))] = _; rw [show (1 + (i : Int)) = ((i + 1 : Nat) : Int) by omega])
      refine ⟨_, rfl, _, rfl, l, _, _, y1, rfl, rfl, SqL.of hl2, atI_nat e1, ?_⟩
      refine ⟨_, rfl, _, rfl, _, _, rfl, rfl, _, _, rfl, rfl, ⟨by decide, by decide⟩, l, _, _, y2, rfl, rfl, SqL.of hl2, ?_, ?_⟩
      · rw [show (((i + 1 : Nat) : Int) - 1) / 2 = ((i / 2 : Nat) : Int) by omega]; exact atI_nat e2
      refine ltO_of z1 z2 ⟨_, rfl, ?_⟩
      have := hO (i + 1) (by omega) hk
      rw [show (i + 1 - 1) / 2 = i / 2 by omega] at this
      rw [show HT.lexLt (gK its (i + 1)) (gK its (i / 2)) = false from this]
      exact iteF ⟨_, rfl, rfl⟩
    · rintro σ H' ⟨v, rfl, rfl⟩
      exact hN _ _ ⟨v, rfl, rfl⟩
  rintro σ _ ⟨v, rfl, rfl⟩
  refine ⟨_, rfl, .inl ⟨rfl, _, SqL.of hl2⟩, l, _, rfl, rfl, hl2, q _ fun b o e => ?_⟩
  rw [upd_ne (ne_of_none e hl)]
  exact s2 b o (s1 b o e)
theorem ok__law_taken {f : Addr} {fd : FuncData} (F : Fun K "_law_taken" "_law_taken" s__law_taken f fd) (T : Txt K mg C_KeepError C_NoDay C_NoItem C_Heap) (D__law_alike : DefX P w K mg base "_law_alike" 2 ["_law_found", "_law_due"] sp_alike) (D_Heap_take : MethX P w K mg base C_Heap "take" 3 ["self"] (sp_take C_Heap C_NoItem)) (D_Heap_least : MethX P w K mg base C_Heap "least" 2 ["self"] (sp_least C_Heap C_NoItem)) (D_Heap_size : MethX P w K mg base C_Heap "size" 1 ["self"] (sp_hsize C_Heap)) : FnOk P w K mg base (CXx P w) 4 f fd ["_law_heap", "_law_due"] (sp_taken C_Heap) := by
  refine F.okX sc__law_taken (fun vs H Q E h => ?_) (fun cdv A outer s H vs Q E hr h => ?_)
  · obtain ⟨tu, p, r, d, m, D, rfl, S, nrd, q⟩ := h; rfl
  obtain ⟨tu, p, r, d, m, D, rfl, S, nrd, q⟩ := h
  refine ⟨_, (pss_cons (ps_if (PW.pt (pw_or (pt_not (pt_val (pe_callS D__law_alike passesN (hr.mono (by decide)) rfl (pa_cons (pe_methS0 (pv 0) T.cl_Heap D_Heap_least passesB (hr.mono (by decide))) (pa_cons (pe_ix ix_list (pv 1) pe_int (fun _ _ => rfl)) pa_nil))))) (pw_or1 (pt_not (pt_val (pe_callS D__law_alike passesN (hr.mono (by decide)) rfl (pa_cons (pe_methS0 (pv 0) T.cl_Heap D_Heap_take passesB (hr.mono (by decide))) (pa_cons (pe_ix ix_list (pv 1) pe_int (fun _ _ => rfl)) pa_nil)))))))) (pss_one (ps_ret pe_bl)) pss_nil)
      (pss_cons (ps_expr (pe_bm PySem.F.plainAttrs_list PySem.F.slot_list_pop PySem.F.type_list_pop mt_popAt (pv 1) (pa_cons pe_int pa_nil)))
      (pss_one (ps_ret (pe_cmpR op_eq (pe_methS0 (pv 0) T.cl_Heap D_Heap_size passesN (hr.mono (by decide))) (pe_callB call_len_seq (by rfl) T.b_len PySem.boot_len (pa_cons (pv 1) pa_nil)) (nomark _)))))), ?_⟩
  obtain ⟨⟨xs, its, W, hO, hP⟩, ⟨ws, hw, kw⟩, so, hne⟩ := S
  obtain ⟨dx, ob⟩ := W.ob
  have hxl : xs.length = its.length := W.ks.len
  have hil : its.length = D.length + 1 := by rw [← hP.length_eq]; rfl
  have hin : its ≠ [] := fun e => by rw [e] at hil; simp at hil
  obtain ⟨w0, hw0, kw0⟩ := kw.at_ (show 0 < (m :: D).length by simp)
  have kw0 : KeyAt tu H w0 m := kw0
  have hle : ∀ k ∈ its, Le m k := fun k hk => by
    rcases List.mem_cons.mp (hP.mem_iff.mpr hk) with rfl | h
    · exact Le.refl _
    · exact (List.pairwise_cons.mp so).1 k h
  have hm := hne m (by simp)
  have hmi : m ∈ its := hP.mem_iff.mp (by simp)
  refine seq_ifP (fun H' => (∃ xs' its', HpAt C_Heap tu H' p r xs' its' /\ HOrd its' /\ D.Perm its') /\ H' d = some (.lst ws) /\ KeysAt tu H' ws (m :: D) /\ Keep [r] H H') (fun Qb hq => ?_) (fun H3 ⟨⟨xs', its', W', hO', hP'⟩, hw', kw', k'⟩ => ?_)
  · refine ⟨_, rfl, p, dx, _, rfl, ob, row_no (by decide +kernel), tu, p, r, xs, its, rfl, W, hO, fun v _ ev kv hmin => ?_, fun e => absurd e hin⟩
    have em : gK its 0 = m := Le.antisymm (hmin m hmi) (hle _ (by
      have : 0 < its.length := by omega
      rw [show gK its 0 = its[0] by simp [gK, List.getD_eq_getElem?_getD, this]]
      exact List.getElem_mem _))
    rw [em] at kv
    refine ⟨_, rfl, d, _, _, w0, rfl, rfl, SqL.of hw, atI_nat (j := 0) hw0, tu, v, w0, m, rfl, kv, kw0, hm.2, fun H1 s1 => ⟨_, rfl, iteF ?_⟩⟩
    have W1 := W.same s1
    obtain ⟨dx1, ob1⟩ := W1.ob
    refine ⟨_, rfl, p, dx1, _, rfl, ob1, row_no (by decide +kernel), tu, p, r, xs, its, rfl, W1, hO, fun _ v' m' xs' its' H2 kv' W2 hO2 P2 hmin' hvx k2 => ?_, fun e => absurd e hin⟩
    have em' : m' = m := Le.antisymm (hmin' m hmi) (hle _ (P2.mem_iff.mpr (by simp)))
    subst em'
    have hw2 : H2 d = some (.lst ws) := k2 _ _ (s1 _ _ hw) (by simpa using nrd.symm)
    have kt : ∀ t ys, H t = some (.tup ys)->H2 t = some (.tup ys) := fun t ys e => k2 t _ (s1 t _ e) (by
      have := ne_of (s1 t _ e) W1.row (by intro z; cases z)
      simpa using this)
    have kw2 := kw.mono kt
    refine ⟨_, rfl, d, _, _, w0, rfl, rfl, SqL.of hw2, atI_nat (j := 0) hw0, tu, v', w0, m', rfl, kv', kw0.mono kt, hm.2, fun H3 s3 => ⟨_, rfl, hq _ ?_⟩⟩
    exact ⟨⟨xs', its', W2.same s3, hO2, List.Perm.cons_inv (hP.trans P2)⟩, s3 _ _ hw2, kw2.mono fun t ys e => s3 t _ e, fun b o e hb => s3 b o (k2 b o (s1 b o e) hb)⟩
  refine ⟨_, rfl, .inl ⟨rfl, _, SqL.of hw'⟩, d, ws, 0, 0, w0, rfl, rfl, hw', by decide, by decide, ?_, hw0, ?_⟩
  · have := kw'.len
    show (if _ then _ else _) = _
    rw [if_pos]
    · rfl
    · simp at this ⊢; omega
  have W4 : HpAt C_Heap tu (upd H3 d (.lst (ws.eraseIdx 0))) p r xs' its' := by
    obtain ⟨dx', ob'⟩ := W'.ob
    exact ⟨⟨dx', by rw [upd_ne (ne_of ob' hw' (by intro z; cases z))]; exact ob'⟩, by rw [upd_ne nrd]; exact W'.row, KeysAt.upd W'.ks hw'⟩
  have kd := KeysAt.upd (l := d) (ys := ws.eraseIdx 0) (KeysAt.tail kw') hw'
  have hd4 : upd H3 d (.lst (ws.eraseIdx 0)) d = some (.lst (ws.eraseIdx 0)) := upd_same
  have k4 : Keep [r, d] H (upd H3 d (.lst (ws.eraseIdx 0))) := fun b o e hb => by
    simp only [List.mem_cons, List.not_mem_nil, or_false, not_or] at hb
    rw [upd_ne hb.2]
    exact k' b o e (by simpa using hb.1)
  generalize upd H3 d (.lst (ws.eraseIdx 0)) = H4 at W4 kd hd4 k4 ⊢
  obtain ⟨dx4, ob4⟩ := W4.ob
  refine ⟨_, rfl, p, dx4, _, rfl, ob4, row_no (by decide +kernel), tu, p, r, xs', its', rfl, W4, _, rfl, d, _, rfl, .inl (SqL.of hd4), rfl, ?_⟩
  rw [kd.len, hP'.length_eq, decide_eq_true rfl]
  exact q _ ⟨⟨xs', its', W4, hO', hP'⟩, ⟨_, hd4, kd⟩, (List.pairwise_cons.mp so).2, fun k hk => hne k (by simp [hk])⟩ k4
theorem ok_law {f : Addr} {fd : FuncData} (F : Fun K "law" "law" s_law f fd) (T : Txt K mg C_KeepError C_NoDay C_NoItem C_Heap) (D__law_cell_at : DefX P w K mg base "_law_cell_at" 1 ["_law_script", "_law_k"] (sp_cell K)) (D_Heap : MakeX P w K mg base "Heap" C_Heap 1 ["self"] (sp_hinit C_Heap)) (D__law_drawn : DefX P w K mg base "_law_drawn" 1 ["_law_cell", "_law_many"] sp_drawn) (D__law_item : DefX P w K mg base "_law_item" 2 ["_law_cell", "_law_way"] sp_item) (D_Heap_add : MethX P w K mg base C_Heap "add" 3 ["self", "item"] (sp_add C_Heap)) (D__law_none : DefX P w K mg base "_law_none" 5 ["_law_heap"] (sp_none C_Heap)) (D__law_taken : DefX P w K mg base "_law_taken" 4 ["_law_heap", "_law_due"] (sp_taken C_Heap)) (D__law_lies : DefX P w K mg base "_law_lies" 2 ["_law_heap", "_law_due"] (sp_lies C_Heap)) : FnOk P w K mg base (CXx P w) 6 f fd ["_law_script"] (sp_law K) := by
  refine F.okX sc_law (fun vs H Q E h => ?_) (fun cdv A outer s H vs Q E hr h => ?_)
  · obtain ⟨a, ns, rfl, hS, hlen, q⟩ := h; rfl
  obtain ⟨a, ns, rfl, hS, hlen, q⟩ := h
  refine ⟨_, (pss_cons (ps_set (i := 1) sc_law.nd rfl (Or.inl rfl) (pe_op op_mod (pe_callS D__law_cell_at passesN (hr.mono (by decide)) rfl (pa_cons (pv 0) (pa_cons pe_int pa_nil))) pe_int))
      (pss_cons (ps_set (i := 2) sc_law.nd rfl (Or.inl rfl) (pe_lst (pa_cons (pe_makeS0 D_Heap passesN (hr.mono (by decide)) rfl) (pa_cons (pe_makeS0 D_Heap passesN (hr.mono (by decide)) rfl) pa_nil))))
      (pss_cons (ps_set (i := 3) sc_law.nd rfl (Or.inl rfl) (pe_lst (pa_cons (pe_lst pa_nil) (pa_cons (pe_lst pa_nil) pa_nil))))
      (pss_cons (ps_for PassesOwn.leaving rfl (pi_list (pe_slice sl_list (pv 0) (po_some pe_int) (po_some pe_int))) (pg_name (i := 4) sc_law.nd rfl (Or.inl rfl))
      (pss_cons (ps_set (i := 5) sc_law.nd rfl (Or.inl rfl) (pe_callS D__law_drawn passesN (hr.mono (by decide)) rfl (pa_cons (pe_op op_fdivB (pv 4) pe_int) (pa_cons pe_int pa_nil))))
      (pss_cons (ps_set (i := 6) sc_law.nd rfl (Or.inl rfl) (pe_op op_mod (pe_ix ix_list (pv 5) pe_int (fun _ _ => rfl)) pe_int))
      (pss_cons (ps_if (pt_cmpR op_lt (pe_op op_mod (pe_ix ix_list (pv 5) pe_int (fun _ _ => rfl)) pe_int) pe_int (nomark _)) (pss_cons (ps_set (i := 7) sc_law.nd rfl (Or.inl rfl) (pe_callS D__law_item passesN (hr.mono (by decide)) rfl (pa_cons (pv 4) (pa_cons (pv 1) pa_nil))))
      (pss_cons (ps_expr (pe_methS (pe_ix ix_list (pv 2) (pv 6) (fun _ _ => rfl)) T.cl_Heap D_Heap_add passesN (hr.mono (by decide)) (pa_cons (pv 7) pa_nil)))
      (pss_one (ps_asg (pe_callB call_sortedO (by rfl) T.b_sorted PyProof.Rows.boot_sorted (pa_cons (pe_op op_cat (pe_ix ix_list (pv 3) (pv 6) (fun _ _ => rfl)) (pe_lst (pa_cons (pv 7) pa_nil))) pa_nil)) (pg_sub (pv 3) (pv 6) set_list))))) (pss_one (ps_if (pt_cmpR (op_eq_ref hr.units) (pe_ix ix_list (pv 3) (pv 6) (fun _ _ => rfl)) (pe_lst pa_nil) (nomark _)) (pss_one (ps_if (pt_not (pt_val (pe_callS D__law_none passesN (hr.mono (by decide)) rfl (pa_cons (pe_ix ix_list (pv 2) (pv 6) (fun _ _ => rfl)) pa_nil)))) (pss_one (ps_ret pe_bl)) pss_nil)) (pss_one (ps_if (pt_not (pt_val (pe_callS D__law_taken passesN (hr.mono (by decide)) rfl (pa_cons (pe_ix ix_list (pv 2) (pv 6) (fun _ _ => rfl)) (pa_cons (pe_ix ix_list (pv 3) (pv 6) (fun _ _ => rfl)) pa_nil))))) (pss_one (ps_ret pe_bl)) pss_nil)))))
      (pss_one (ps_if (pt_not (pt_val (pe_callS D__law_lies passesN (hr.mono (by decide)) rfl (pa_cons (pe_ix ix_list (pv 2) (pv 6) (fun _ _ => rfl)) (pa_cons (pe_ix ix_list (pv 3) (pv 6) (fun _ _ => rfl)) pa_nil))))) (pss_one (ps_ret pe_bl)) pss_nil))))))
      (pss_cons (ps_for PassesOwn.leaving rfl (pi_zip rfl T.b_zip (pa_cons (pv 2) (pa_cons (pv 3) pa_nil))) (pg_tup rfl (pgs_cons (pg_name (i := 8) sc_law.nd rfl (Or.inl rfl)) (pgs_cons (pg_name (i := 9) sc_law.nd rfl (Or.inl rfl)) pgs_nil)))
      (pss_cons (ps_while PassesOwn.leaving (pt_cmpR (op_ne_ref hr.units) (pv 9) (pe_lst pa_nil) (nomark _)) (pss_one (ps_if (PW.pt (pw_or (pt_not (pt_val (pe_callS D__law_taken passesN (hr.mono (by decide)) rfl (pa_cons (pv 8) (pa_cons (pv 9) pa_nil))))) (pw_or1 (pt_not (pt_val (pe_callS D__law_lies passesN (hr.mono (by decide)) rfl (pa_cons (pv 8) (pa_cons (pv 9) pa_nil)))))))) (pss_one (ps_ret pe_bl)) pss_nil)))
      (pss_one (ps_if (pt_not (pt_val (pe_callS D__law_none passesN (hr.mono (by decide)) rfl (pa_cons (pv 8) pa_nil)))) (pss_one (ps_ret pe_bl)) pss_nil))))
      (pss_one (ps_ret pe_bl))))))), ?_⟩
  refine ⟨_, rfl, a, ns, 0, rfl, hS, _, _, rfl, rfl, (by first | decide | (dsimp only; decide)), ?_⟩
  have w0 := Int.emod_nonneg (cellI ns ((0 : Nat) : Int)) (show (6 : Int) ≠ 0 by decide)
  obtain ⟨wy, ewy⟩ : ∃ wy, cellI ns ((0 : Nat) : Int) % 6 = wy := ⟨_, rfl⟩
  rw [ewy] at w0
  refine gNameA [some (.ref a), some (.int wy), none, none, none, none, none, none, none, none] ?_ (by rw [← ewy]; rfl)
  obtain ⟨tu, etu⟩ : ∃ tu, (!decide (wy < 3)) = tu := ⟨_, rfl⟩
  refine fun p0 dx0 hp0 hdx0 hne0 => ?_
  have sA : Same H (upd (upd H dx0 (HO.own p0)) p0 (HO.ins C_Heap dx0 [])) := fun b o e => by rw [upd_ne (ne_of_none e hp0), upd_ne (ne_of_none e hdx0)]; exact e
  have hA : upd (upd H dx0 (HO.own p0)) p0 (HO.ins C_Heap dx0 []) p0 = some (HO.ins C_Heap dx0 []) := upd_same
  generalize upd (upd H dx0 (HO.own p0)) p0 (HO.ins C_Heap dx0 []) = HA at sA hA ⊢
  refine ⟨p0, dx0, rfl, hA, fun r0 H1 hr0 W1 W1' k1 => ⟨rfl, ?_⟩⟩
  have s1 : Same H H1 := fun b o e => k1 b o (sA b o e) (by have := ne_of_none e hp0; simpa using this)
  have W1 : HpAt C_Heap tu H1 p0 r0 [] [] := by cases tu <;> assumption
  clear W1'
  refine fun p1 dx1 hp1 hdx1 hne1 => ?_
  have sB : Same H1 (upd (upd H1 dx1 (HO.own p1)) p1 (HO.ins C_Heap dx1 [])) := fun b o e => by rw [upd_ne (ne_of_none e hp1), upd_ne (ne_of_none e hdx1)]; exact e
  have hB : upd (upd H1 dx1 (HO.own p1)) p1 (HO.ins C_Heap dx1 []) p1 = some (HO.ins C_Heap dx1 []) := upd_same
  generalize upd (upd H1 dx1 (HO.own p1)) p1 (HO.ins C_Heap dx1 []) = HB at sB hB ⊢
  refine ⟨p1, dx1, rfl, hB, fun r1 H2 hr1 W2 W2' k2 => ⟨rfl, ?_⟩⟩
  have s2 : Same H1 H2 := fun b o e => k2 b o (sB b o e) (by have := ne_of_none e hp1; simpa using this)
  have W2 : HpAt C_Heap tu H2 p1 r1 [] [] := by cases tu <;> assumption
  clear W2'
  have nr : r0 ≠ r1 := ne_of_none (sB _ _ W1.row) hr1
  refine ⟨(by show 2 ≤ sizeLine; decide), fun pl hpl => ?_⟩
  refine gNameA [some (.ref a), some (.int wy), some (.ref pl), none, none, none, none, none, none, none] ?_
  have s3 : Same H2 (upd H2 pl (.lst [.ref p0, .ref p1])) := Same.new hpl
  have h3 : upd H2 pl (.lst [.ref p0, .ref p1]) pl = some (.lst [.ref p0, .ref p1]) := upd_same
  generalize upd H2 pl (.lst [.ref p0, .ref p1]) = H3 at s3 h3 ⊢
  refine ⟨Nat.zero_le _, fun e0 he0 => ⟨Nat.zero_le _, fun e1 he1 => ⟨(by show 2 ≤ sizeLine; decide), fun dl hdl => ?_⟩⟩⟩
  refine gNameA [some (.ref a), some (.int wy), some (.ref pl), some (.ref dl), none, none, none, none, none, none] ?_
  have s4 : Same H3 (upd H3 e0 (.lst [])) := Same.new he0
  have h4 : upd H3 e0 (.lst []) e0 = some (.lst []) := upd_same
  generalize upd H3 e0 (.lst []) = H4 at s4 h4 he1 hdl ⊢
  have s5 : Same H4 (upd H4 e1 (.lst [])) := Same.new he1
  have h5 : upd H4 e1 (.lst []) e1 = some (.lst []) := upd_same
  have n01 : e0 ≠ e1 := ne_of_none h4 he1
  generalize upd H4 e1 (.lst []) = H5 at s5 h5 hdl ⊢
  have s6 : Same H5 (upd H5 dl (.lst [.ref e0, .ref e1])) := Same.new hdl
  have h6 : upd H5 dl (.lst [.ref e0, .ref e1]) dl = some (.lst [.ref e0, .ref e1]) := upd_same
  have nd0 : e0 ≠ dl := ne_of_none (s5 _ _ h4) hdl
  have nd1 : e1 ≠ dl := ne_of_none h5 hdl
  generalize upd H5 dl (.lst [.ref e0, .ref e1]) = H6 at s6 h6 ⊢
  have s26 := ((s3.trans s4).trans s5).trans s6
  have fr : ∀ {x : Addr} {o : HO}, H2 x = some o->x ≠ pl /\ x ≠ e0 /\ x ≠ e1 /\ x ≠ dl := fun e => ⟨ne_of_none e hpl, ne_of_none (s3 _ _ e) he0, ne_of_none (s4 _ _ (s3 _ _ e)) he1, ne_of_none (s5 _ _ (s4 _ _ (s3 _ _ e))) hdl⟩
  have f0 := fr (s2 _ _ W1.row)
  have f1 := fr W2.row
  have np0 : pl ≠ e0 := ne_of_none h3 he0
  have np1 : pl ≠ e1 := ne_of_none (s4 _ _ h3) he1
  have npd : pl ≠ dl := ne_of_none (s5 _ _ (s4 _ _ h3)) hdl
  have hor : HOrd [] := fun i _ h => absurd h (Nat.not_lt_zero _)
  obtain ⟨Pp, hPd⟩ : ∃ P : Nat->Addr, P = fun j => if j = 0 then p0 else p1 := ⟨_, rfl⟩
  obtain ⟨R, hRd⟩ : ∃ P : Nat->Addr, P = fun j => if j = 0 then r0 else r1 := ⟨_, rfl⟩
  obtain ⟨E1, hEd⟩ : ∃ P : Nat->Addr, P = fun j => if j = 0 then e0 else e1 := ⟨_, rfl⟩
  have PW : Pair C_Heap tu H6 pl dl Pp R E1 (fun _ => []) := by
    subst hPd hRd hEd
    refine ⟨s6 _ _ (s5 _ _ (s4 _ _ h3)), h6, fun j hj => ?_, nr, n01, fun j hj k hk => ?_, fun j hj => ?_, npd⟩
    · rcases two j hj with rfl | rfl
      · exact ⟨⟨[], [], (W1.same s2).same s26, hor, List.Perm.refl _⟩, ⟨[], s6 _ _ (s5 _ _ h4), KeysAt.nil⟩, List.Pairwise.nil, fun k h => by cases h⟩
      · exact ⟨⟨[], [], W2.same s26, hor, List.Perm.refl _⟩, ⟨[], s6 _ _ h5, KeysAt.nil⟩, List.Pairwise.nil, fun k h => by cases h⟩
    · rcases two j hj with rfl | rfl <;> rcases two k hk with rfl | rfl <;> first | exact f0.2.1 | exact f0.2.2.1 | exact f1.2.1 | exact f1.2.2.1
    · rcases two j hj with rfl | rfl
      · exact ⟨f0.1.symm, np0, f0.2.2.2.symm, nd0.symm⟩
      · exact ⟨f1.1.symm, np1, f1.2.2.2.symm, nd1.symm⟩
  have sH6 : Same H H6 := (s1.trans s2).trans s26
  have hS6 := sH6.seq hS
  clear hPd hRd hEd W1 W2 hA hB
  dsimp only
  refine cutA (fun σ' H' => ∃ (v4 v5 v6 v7 : Option V) (Ee : Nat->Addr) (Dd : Nat->List (List Int)), σ' = [some (.ref a), some (.int wy), some (.ref pl), some (.ref dl), v4, v5, v6, v7, none, none] /\ Pair C_Heap tu H' pl dl Pp R Ee Dd /\ ∀ j < 2, (Dd j).length < 64) (fun N hN => ?_) ?_
  · refine ⟨_, rfl, _, rfl, _, rfl, a, _, rfl, hS6, fun c1 hc1 => ?_⟩
    obtain ⟨cs, hcs, hcl⟩ := cut_ints ns (some 1) (some 101)
    rw [hcs]
    have s7 : Same H6 (upd H6 c1 (.lst (cs.map V.int))) := Same.new hc1
    have h7 : upd H6 c1 (.lst (cs.map V.int)) c1 = some (.lst (cs.map V.int)) := upd_same
    have PW7 := PW.same s7
    have nc : ∀ j < 2, c1 ≠ R j /\ c1 ≠ E1 j := fun j hj => by
      obtain ⟨xs, hx⟩ := (PW.sd j hj).row
      obtain ⟨ys, hy⟩ := (PW.sd j hj).due
      exact ⟨(ne_of_none hx hc1).symm, (ne_of_none hy hc1).symm⟩
    have ncd : c1 ≠ dl := (ne_of_none h6 hc1).symm
    generalize upd H6 c1 (.lst (cs.map V.int)) = H7 at s7 h7 PW7 ⊢
    refine ⟨c1, rfl, ⟨_, SqL.of h7⟩, for_list (K := K) (a := c1) (xs := cs.map V.int) (fun i σ H' => ∃ (v4 v5 v6 v7 : Option V) (Ee : Nat->Addr) (Dd : Nat->List (List Int)), σ = [some (.ref a), some (.int wy), some (.ref pl), some (.ref dl), v4, v5, v6, v7, none, none] /\ Pair C_Heap tu H' pl dl Pp R Ee Dd /\ (∀ j < 2, (Dd j).length ≤ i) /\ H' c1 = some (.lst (cs.map V.int)) /\ ∀ j < 2, c1 ≠ Ee j) ⟨none, none, none, none, E1, fun _ => [], rfl, PW7, fun j _ => Nat.zero_le _, h7, fun j hj => (nc j hj).2⟩ (fun i σ H' _ ⟨_, _, _, _, _, _, _, _, _, h, _⟩ => SqL.of h) ?_ ?_⟩
    · rintro i v σ H8 hi ⟨v4, v5, v6, v7, Ee, Dd, rfl, W8, hD8, hc8, nE8⟩
      have hil : i < cs.length := by have := (List.getElem?_eq_some_iff.mp hi).1; simpa using this
      rw [List.getElem?_map, Option.map_eq_some_iff] at hi
      obtain ⟨c, _, rfl⟩ := hi
      refine gNameA [some (.ref a), some (.int wy), some (.ref pl), some (.ref dl), some (.int c), v5, v6, v7, none, none] ?_
      refine ⟨_, rfl, _, _, rfl, rfl, ⟨by decide, by decide⟩, _, 2, rfl, by decide, fun xl xs H9 hxl nxl hxn hx s9 => ?_⟩
      refine gNameA [some (.ref a), some (.int wy), some (.ref pl), some (.ref dl), some (.int c), some (.ref xl), v6, v7, none, none] ?_
      obtain ⟨x0, x1, rfl⟩ : ∃ x y, xs = [x, y] := by
        match xs, hxn with
        | [x, y], _ => exact ⟨x, y, rfl⟩
      have b0 := hx x0 (by simp)
      have W9 := W8.same s9
      have hc9 := s9 _ _ hc8
      obtain ⟨j, hj2, ej⟩ : ∃ j : Nat, j < 2 /\ x0 % 2 = (j : Int) := ⟨(x0 % 2).toNat, by omega, by omega⟩
      refine ⟨_, rfl, xl, _, _, V.int x0, rfl, rfl, SqL.of hxl, rfl, _, _, rfl, rfl, (by first | decide | (dsimp only; decide)), ?_⟩
      refine gNameA [some (.ref a), some (.int wy), some (.ref pl), some (.ref dl), some (.int c), some (.ref xl), some (.int (j : Int)), v7, none, none] ?_ (by rw [← ej]; rfl)
      dsimp only
      refine cutA (fun σ' H' => ∃ (v7 : Option V) (Ee : Nat->Addr) (Dd : Nat->List (List Int)), σ' = [some (.ref a), some (.int wy), some (.ref pl), some (.ref dl), some (.int c), some (.ref xl), some (.int (j : Int)), v7, none, none] /\ Pair C_Heap tu H' pl dl Pp R Ee Dd /\ (∀ j < 2, (Dd j).length ≤ i + 1) /\ H' c1 = some (.lst (cs.map V.int)) /\ ∀ j < 2, c1 ≠ Ee j) (fun N hN => ?_) ?_
      · have hDj := hD8 j hj2
        refine ⟨_, rfl, xl, _, _, V.int x1, rfl, rfl, SqL.of hxl, rfl, _, _, rfl, rfl, (by first | decide | (dsimp only; decide)), _, _, rfl, rfl, _, rfl, ?_⟩
        refine ite2 (fun h => ?_) (fun h => ?_)
        · refine ⟨_, rfl, _, rfl, c, wy, rfl, fun v ks H10 hv hks s10 => ?_⟩
          rw [etu] at hv
          refine gNameA [some (.ref a), some (.int wy), some (.ref pl), some (.ref dl), some (.int c), some (.ref xl), some (.int (j : Int)), some v, none, none] ?_
          have W10 := W9.same s10
          obtain ⟨⟨xs, its, Wh, hO, hP⟩, ⟨ws, hw, kw⟩, so, hne⟩ := W10.sd j hj2
          obtain ⟨dx, ob⟩ := Wh.ob
          have hlen10 : its.length = (Dd j).length := hP.length_eq.symm
          refine ⟨_, rfl, _, rfl, pl, _, _, V.ref (Pp j), rfl, rfl, SqL.of W10.pr, W10.atP hj2, Pp j, dx, _, rfl, ob, row_no (by decide +kernel), _, rfl, ?_⟩
          refine ⟨tu, Pp j, R j, xs, its, v, ks, rfl, Wh, hO, hv, by omega, fun xs' its' H11 W11 hO11 P11 k11 => ?_⟩
          have hdl11 : H11 dl = some (.lst [.ref (Ee 0), .ref (Ee 1)]) := k11 _ _ W10.du (by simpa using (W10.pn j hj2).2.2.1)
          have hw11 : H11 (Ee j) = some (.lst ws) := k11 _ _ hw (by simpa using (W10.re j hj2 j hj2).symm)
          have hc11 : H11 c1 = some (.lst (cs.map V.int)) := k11 _ _ (s10 _ _ hc9) (by simpa using (nc j hj2).1)
          have kt : ∀ t ys, H10 t = some (.tup ys)->H11 t = some (.tup ys) := fun t ys e => k11 t _ e (by
            have := ne_of e Wh.row (by intro z; cases z)
            simpa using this)
          have kw11 := kw.mono kt
          have hv11 : KeyAt tu H11 v ks := hv.mono kt
          have hwl : ws.length = (Dd j).length := kw.len
          refine ⟨_, rfl, _, rfl, dl, _, _, V.ref (Ee j), rfl, rfl, SqL.of hdl11, W10.atE hj2, _, rfl, (by show 1 ≤ sizeLine; decide), fun b1 hb1 => ?_⟩
          have s12 : Same H11 (upd H11 b1 (.lst [v])) := Same.new hb1
          have h12 : upd H11 b1 (.lst [v]) b1 = some (.lst [v]) := upd_same
          generalize upd H11 b1 (.lst [v]) = H12 at s12 h12 ⊢
          refine ⟨Ee j, b1, ws, [v], rfl, rfl, s12 _ _ hw11, h12, Nat.le_of_lt (small1000 (by simp; omega)), fun p2 hp2 => ?_⟩
          have s13 : Same H12 (upd H12 p2 (.lst (ws ++ [v]))) := Same.new hp2
          have h13 : upd H12 p2 (.lst (ws ++ [v])) p2 = some (.lst (ws ++ [v])) := upd_same
          generalize upd H12 p2 (.lst (ws ++ [v])) = H13 at s13 h13 ⊢
          have s113 := s12.trans s13
          have K13 : KeysAt tu H13 (ws ++ [v]) (Dd j ++ [ks]) := (kw11.mono fun t ys e => s113 t _ e).snoc (hv11.mono fun t ys e => s113 t _ e)
          have hne13 : ∀ k ∈ Dd j ++ [ks], k ≠ [] /\ k.length < 1000 := fun k hk => by
            rcases List.mem_append.mp hk with h | h
            · exact hne k h
            · rw [List.mem_singleton.mp h]; exact hks
          refine ⟨tu, p2, _, Dd j ++ [ks], rfl, SqL.of h13, K13, fun k hk => (hne13 k hk).1, by simp; omega, fun l vs' D' hl14 K14 P14 so14 => ?_⟩
          have s14 : Same H13 (upd H13 l (.lst vs')) := Same.new hl14
          have h14 : upd H13 l (.lst vs') l = some (.lst vs') := upd_same
          have nlc : c1 ≠ l := ne_of_none (s113 _ _ hc11) hl14
          generalize upd H13 l (.lst vs') = H14 at s14 h14 ⊢
          have s1114 := s113.trans s14
          refine ⟨_, rfl, _, rfl, dl, _, _, j, rfl, rfl, s1114 _ _ hdl11, ?_, ?_⟩
          · rcases two j hj2 with rfl | rfl <;> rfl
          have WN := W10.renew hj2 k11 s1114 (s113.free hl14) W11 hO11 h14 (K14.mono fun t ys e => s14 t _ e) so14 (fun k hk => hne13 k (P14.mem_iff.mp hk)) (P14.trans ((hP.append_right _).trans P11.symm))
          refine hN _ _ ⟨_, _, _, rfl, WN, fun i' hi' => ?_, ?_, fun i' hi' => ?_⟩
          · show (if i' = j then D' else Dd i').length ≤ _
            split
            · rw [P14.length_eq]; simp; omega
            · have := hD8 i' hi'; omega
          · rw [upd_ne ncd]; exact s1114 _ _ hc11
          · show c1 ≠ if i' = j then l else Ee i'
            split
            · exact nlc
            · exact nE8 i' hi'
        · obtain ⟨⟨xs, its, Wh, hO, hP⟩, ⟨ws, hw, kw⟩, so, hne⟩ := W9.sd j hj2
          refine ⟨_, rfl, _, rfl, dl, _, _, V.ref (Ee j), rfl, rfl, SqL.of W9.du, W9.atE hj2, Nat.zero_le _, fun b1 hb1 => ?_⟩
          have s10 : Same H9 (upd H9 b1 (.lst [])) := Same.new hb1
          have h10 : upd H9 b1 (.lst []) b1 = some (.lst []) := upd_same
          generalize upd H9 b1 (.lst []) = H10 at s10 h10 ⊢
          have W10 := W9.same s10
          refine ⟨0, _, by decide, seq_none (s10 _ _ hw) h10, _, rfl, ?_⟩
          cases hDd : Dd j with
          | nil =>
            rw [hDd] at hP kw
            have e1 : its = [] := List.nil_perm.mp hP
            have e2 : ws = [] := List.length_eq_zero_iff.mp kw.len
            subst e1 e2
            rw [decide_eq_true rfl]
            refine iteT ⟨_, rfl, _, rfl, pl, _, _, V.ref (Pp j), rfl, rfl, SqL.of W10.pr, W10.atP hj2, tu, Pp j, R j, xs, rfl, Wh.same s10, fun H11 s11 => ⟨_, rfl, iteF ?_⟩⟩
            exact hN _ _ ⟨_, Ee, Dd, rfl, W10.same s11, fun i' hi' => by have := hD8 i' hi'; omega, s11 _ _ (s10 _ _ hc9), nE8⟩
          | cons m D' =>
            have hws : ws ≠ [] := fun e => by have := kw.len; rw [e, hDd] at this; simp at this
            rw [decide_eq_false hws]
            have S10 := W10.sd j hj2
            rw [hDd] at S10
            refine iteF ⟨_, rfl, _, rfl, pl, _, _, V.ref (Pp j), rfl, rfl, SqL.of W10.pr, W10.atP hj2, _, rfl, _, rfl, dl, _, _, V.ref (Ee j), rfl, rfl, SqL.of W10.du, W10.atE hj2, tu, Pp j, R j, Ee j, m, D', rfl, S10, W10.re j hj2 j hj2, fun H11 S11 k11 => ⟨_, rfl, iteF ?_⟩⟩
            refine hN _ _ ⟨_, Ee, _, rfl, W10.put hj2 k11 (fun f hf => by simpa using hf) S11, fun i' hi' => ?_, k11 _ _ (s10 _ _ hc9) ?_, nE8⟩
            · show (if i' = j then D' else Dd i').length ≤ _
              split
              · rw [hDd] at hDj; simp at hDj; omega
              · have := hD8 i' hi'; omega
            · simp only [List.mem_cons, List.not_mem_nil, or_false, not_or]
              exact ⟨(nc j hj2).1, nE8 j hj2⟩
      rintro σ Hx ⟨v7, Ee, Dd, rfl, Wx, hDx, hcx, nEx⟩
      have hDj := hDx j hj2
      refine ⟨_, rfl, _, rfl, pl, _, _, V.ref (Pp j), rfl, rfl, SqL.of Wx.pr, Wx.atP hj2, _, rfl, _, rfl, dl, _, _, V.ref (Ee j), rfl, rfl, SqL.of Wx.du, Wx.atE hj2, tu, Pp j, R j, Ee j, Dd j, rfl, Wx.sd j hj2, by omega, fun Hy sy => ⟨_, rfl, iteF ?_⟩⟩
      exact ⟨_, _, _, _, Ee, Dd, rfl, Wx.same sy, hDx, sy _ _ hcx, nEx⟩
    · rintro σ H8 ⟨v4, v5, v6, v7, Ee, Dd, rfl, W8, hD8, hc8, nE8⟩
      refine hN _ _ ⟨v4, v5, v6, v7, Ee, Dd, rfl, W8, fun j hj => ?_⟩
      have := hD8 j hj
      rw [List.length_map] at this
      omega
  rintro σ H7 ⟨v4, v5, v6, v7, Ee, Dd, rfl, W7, hD7⟩
  refine ⟨_, rfl, _, rfl, pl, dl, rfl, ⟨_, SqL.of W7.pr⟩, ⟨_, SqL.of W7.du⟩, for_zip (K := K) (l1 := pl) (l2 := dl) (xs := [.ref (Pp 0), .ref (Pp 1)]) (ys := [.ref (Ee 0), .ref (Ee 1)]) (fun i σ H' => ∃ (v8 v9 : Option V) (Dd : Nat->List (List Int)), σ = [some (.ref a), some (.int wy), some (.ref pl), some (.ref dl), v4, v5, v6, v7, v8, v9] /\ Pair C_Heap tu H' pl dl Pp R Ee Dd /\ ∀ j < 2, (Dd j).length < 64) ⟨none, none, Dd, rfl, W7, hD7⟩ (fun i σ H' ⟨_, _, _, _, W, _⟩ => ⟨SqL.of W.pr, SqL.of W.du⟩) rfl ?_ ?_⟩
  · rintro i x y σ H8 tt hx hy ⟨v8, v9, Dd, rfl, W8, hD8⟩ htt
    have hi : i < 2 := by have := (List.getElem?_eq_some_iff.mp hx).1; simpa using this
    have ex : x = .ref (Pp i) := by rcases two i hi with rfl | rfl <;> (cases hx; rfl)
    have ey : y = .ref (Ee i) := by rcases two i hi with rfl | rfl <;> (cases hy; rfl)
    subst ex ey
    refine ⟨tt, _, rfl, SqT.of upd_same, rfl, ?_⟩
    have W9 := W8.same (Same.new (o := .tup [V.ref (Pp i), V.ref (Ee i)]) htt)
    generalize upd H8 tt (.tup [V.ref (Pp i), V.ref (Ee i)]) = H9 at W9 ⊢
    refine ⟨_, _, rfl, gNameA [some (.ref a), some (.int wy), some (.ref pl), some (.ref dl), v4, v5, v6, v7, some (.ref (Pp i)), v9] ⟨_, _, rfl, gNameA [some (.ref a), some (.int wy), some (.ref pl), some (.ref dl), v4, v5, v6, v7, some (.ref (Pp i)), some (.ref (Ee i))] ⟨rfl, ?_⟩⟩⟩
    dsimp only
    refine cutA (fun σ' H' => ∃ (Dd : Nat->List (List Int)), σ' = [some (.ref a), some (.int wy), some (.ref pl), some (.ref dl), v4, v5, v6, v7, some (.ref (Pp i)), some (.ref (Ee i))] /\ Pair C_Heap tu H' pl dl Pp R Ee Dd /\ (∀ j < 2, (Dd j).length < 64) /\ Dd i = []) (fun N hN => ?_) ?_
    · refine ⟨fun m σ H' => ∃ (Dd : Nat->List (List Int)), σ = [some (.ref a), some (.int wy), some (.ref pl), some (.ref dl), v4, v5, v6, v7, some (.ref (Pp i)), some (.ref (Ee i))] /\ Pair C_Heap tu H' pl dl Pp R Ee Dd /\ (∀ j < 2, (Dd j).length < 64) /\ m = (Dd i).length, ⟨_, Dd, rfl, W9, hD8, rfl⟩, ?_⟩
      rintro m σ HA ⟨Dd, rfl, WA, hDA, rfl⟩
      obtain ⟨⟨xs, its, Wh, hO, hP⟩, ⟨ws, hw, kw⟩, so, hne⟩ := WA.sd i hi
      refine ⟨_, rfl, Nat.zero_le _, fun b1 hb1 => ?_⟩
      have s10 : Same HA (upd HA b1 (.lst [])) := Same.new hb1
      have h10 : upd HA b1 (.lst []) b1 = some (.lst []) := upd_same
      generalize upd HA b1 (.lst []) = HB at s10 h10 ⊢
      have WB := WA.same s10
      refine ⟨0, _, by decide, seq_none (s10 _ _ hw) h10, _, rfl, ?_⟩
      cases hDd : Dd i with
      | nil =>
        rw [hDd] at kw
        have e2 : ws = [] := List.length_eq_zero_iff.mp kw.len
        rw [decide_eq_true e2]
        exact iteF (hN _ _ ⟨Dd, rfl, WB, hDA, hDd⟩)
      | cons m D' =>
        have hws : ws ≠ [] := fun e => by have := kw.len; rw [e, hDd] at this; simp at this
        rw [decide_eq_false hws]
        have SB := WB.sd i hi
        rw [hDd] at SB
        have hl := hDA i hi
        rw [hDd] at hl
        simp only [List.length_cons] at hl
        refine iteT ⟨_, fun σ' H' h => h, ?_⟩
        refine ⟨_, rfl, _, rfl, tu, Pp i, R i, Ee i, m, D', rfl, SB, WB.re i hi i hi, fun HC SC kC => ⟨_, rfl, iteF ?_⟩⟩
        have WC := WB.put hi kC (fun f hf => by simpa using hf) SC
        refine ⟨_, rfl, _, rfl, tu, Pp i, R i, Ee i, D', rfl, SC, by omega, fun HD sD => ⟨_, rfl, iteF ?_⟩⟩
        refine ⟨D'.length, by simp, _, rfl, WC.same sD, fun i' hi' => ?_, by simp⟩
        show (if i' = i then D' else Dd i').length < 64
        split
        · omega
        · exact hDA i' hi'
    rintro σ HA ⟨Dd, rfl, WA, hDA, hDi⟩
    obtain ⟨⟨xs, its, Wh, hO, hP⟩, _⟩ := WA.sd i hi
    rw [hDi] at hP
    have e1 : its = [] := List.nil_perm.mp hP
    subst e1
    exact ⟨_, rfl, tu, Pp i, R i, xs, rfl, Wh, fun HB sB => ⟨_, rfl, iteF ⟨_, _, Dd, rfl, WA.same sB, hDA⟩⟩⟩
  · rintro σ H8 ⟨v8, v9, Dd, rfl, W8, hD8⟩
    exact q _
end
theorem all_mk {l : PySem.W.OpenLaw} {w : World} {K : PySem.W.Frag} {h : Heap} {mg : Str->Option Value} {fa : Addr} (X : K.In h) (G : h.Ns mainGlobals mg) (hfa : mg "law" = some (.ref fa))
    {C_KeepError : Addr} (a_KeepError : PySem.W.nsIn K mainGlobals "KeepError" = some (some (.ref C_KeepError)))
    {C_NoDay : Addr} (a_NoDay : PySem.W.nsIn K mainGlobals "NoDay" = some (some (.ref C_NoDay)))
    {C_NoItem : Addr} (a_NoItem : PySem.W.nsIn K mainGlobals "NoItem" = some (some (.ref C_NoItem)))
    {C_Heap : Addr} (a_Heap : PySem.W.nsIn K mainGlobals "Heap" = some (some (.ref C_Heap)))
    (clg : PySem.W.specialIn K (.builtin "object.__class__") "__get__" = some (some (.builtin "getset_descriptor.__get__"))) (clt : PySem.W.takesIn K (.builtin "object.__class__") = some true)
    (xo_KeepError : xobjIn K C_KeepError = true) (xs_KeepError : PySem.W.findIn K (.ref C_KeepError) "__setattr__" = some (some (.builtin "object.__setattr__"))) (xg_KeepError : PySem.W.findIn K (.ref C_KeepError) "__getattribute__" = some (some (.builtin "BaseException.__getattribute__"))) (xh_KeepError : PySem.W.findIn K (.ref C_KeepError) "__getattr__" = some none) (xc_KeepError : PySem.W.findIn K (.ref C_KeepError) "__class__" = some (some (.builtin "object.__class__"))) (kc_KeepError : PySem.W.keepIn K (.ref C_KeepError) = true)
    (xo_NoDay : xobjIn K C_NoDay = true) (xs_NoDay : PySem.W.findIn K (.ref C_NoDay) "__setattr__" = some (some (.builtin "object.__setattr__"))) (xg_NoDay : PySem.W.findIn K (.ref C_NoDay) "__getattribute__" = some (some (.builtin "BaseException.__getattribute__"))) (xh_NoDay : PySem.W.findIn K (.ref C_NoDay) "__getattr__" = some none) (xc_NoDay : PySem.W.findIn K (.ref C_NoDay) "__class__" = some (some (.builtin "object.__class__"))) (kc_NoDay : PySem.W.keepIn K (.ref C_NoDay) = true)
    (n_NoDay_day : PySem.W.findIn K (.ref C_NoDay) "day" = some none)
    (xo_NoItem : xobjIn K C_NoItem = true) (xs_NoItem : PySem.W.findIn K (.ref C_NoItem) "__setattr__" = some (some (.builtin "object.__setattr__"))) (xg_NoItem : PySem.W.findIn K (.ref C_NoItem) "__getattribute__" = some (some (.builtin "BaseException.__getattribute__"))) (xh_NoItem : PySem.W.findIn K (.ref C_NoItem) "__getattr__" = some none) (xc_NoItem : PySem.W.findIn K (.ref C_NoItem) "__class__" = some (some (.builtin "object.__class__"))) (kc_NoItem : PySem.W.keepIn K (.ref C_NoItem) = true)
    (pg_Heap : PySem.W.plainGet K C_Heap Str.empty = true) (hd_Heap : PySem.W.hasDictIn K C_Heap = true) (po_Heap : PySem.W.plainOver K C_Heap = true) (sa_Heap : PySem.W.findIn K (.ref C_Heap) "__setattr__" = some (some (.builtin "object.__setattr__"))) (mk_Heap : PySem.W.makesIn K C_Heap = true) (kc_Heap : PySem.W.keepIn K (.ref C_Heap) = true)
    (n_Heap_row : PySem.W.findIn K (.ref C_Heap) "row" = some none)
    {f0 : Addr} {od0 an0 : Option Addr} {sl0 : Array (Option Value)} {oc0 kV0 dc0 pm0 cd0 ct0 : Value}
    (a0 : PySem.W.findIn K (.ref C_Heap) "__init__" = some (some (.ref f0))) (i0 : PySem.W.isFn K (.ref f0) = true)
    (l0 : K.lookup f0 = some ⟨oc0, od0, .func (PySem.W.fnOf "__init__" "Heap.__init__" (defArgs s_Heap___init__) (defBody s_Heap___init__) (defScope s_Heap___init__) .none kV0 dc0 pm0 an0 cd0 ct0), sl0⟩) (c0 : PySem.W.codeIn K cd0 "Heap.__init__" = true) (k0 : PySem.W.keepIn K (.ref f0) = true)
    {f1 : Addr} {od1 an1 : Option Addr} {sl1 : Array (Option Value)} {oc1 kV1 dc1 pm1 cd1 ct1 : Value}
    (a1 : PySem.W.findIn K (.ref C_Heap) "add" = some (some (.ref f1))) (i1 : PySem.W.isFn K (.ref f1) = true)
    (l1 : K.lookup f1 = some ⟨oc1, od1, .func (PySem.W.fnOf "add" "Heap.add" (defArgs s_Heap_add) (defBody s_Heap_add) (defScope s_Heap_add) .none kV1 dc1 pm1 an1 cd1 ct1), sl1⟩) (c1 : PySem.W.codeIn K cd1 "Heap.add" = true) (k1 : PySem.W.keepIn K (.ref f1) = true)
    {f2 : Addr} {od2 an2 : Option Addr} {sl2 : Array (Option Value)} {oc2 kV2 dc2 pm2 cd2 ct2 : Value}
    (a2 : PySem.W.findIn K (.ref C_Heap) "least" = some (some (.ref f2))) (i2 : PySem.W.isFn K (.ref f2) = true)
    (l2 : K.lookup f2 = some ⟨oc2, od2, .func (PySem.W.fnOf "least" "Heap.least" (defArgs s_Heap_least) (defBody s_Heap_least) (defScope s_Heap_least) .none kV2 dc2 pm2 an2 cd2 ct2), sl2⟩) (c2 : PySem.W.codeIn K cd2 "Heap.least" = true) (k2 : PySem.W.keepIn K (.ref f2) = true)
    {f3 : Addr} {od3 an3 : Option Addr} {sl3 : Array (Option Value)} {oc3 kV3 dc3 pm3 cd3 ct3 : Value}
    (a3 : PySem.W.findIn K (.ref C_Heap) "take" = some (some (.ref f3))) (i3 : PySem.W.isFn K (.ref f3) = true)
    (l3 : K.lookup f3 = some ⟨oc3, od3, .func (PySem.W.fnOf "take" "Heap.take" (defArgs s_Heap_take) (defBody s_Heap_take) (defScope s_Heap_take) .none kV3 dc3 pm3 an3 cd3 ct3), sl3⟩) (c3 : PySem.W.codeIn K cd3 "Heap.take" = true) (k3 : PySem.W.keepIn K (.ref f3) = true)
    {f4 : Addr} {od4 an4 : Option Addr} {sl4 : Array (Option Value)} {oc4 kV4 dc4 pm4 cd4 ct4 : Value}
    (a4 : PySem.W.findIn K (.ref C_Heap) "size" = some (some (.ref f4))) (i4 : PySem.W.isFn K (.ref f4) = true)
    (l4 : K.lookup f4 = some ⟨oc4, od4, .func (PySem.W.fnOf "size" "Heap.size" (defArgs s_Heap_size) (defBody s_Heap_size) (defScope s_Heap_size) .none kV4 dc4 pm4 an4 cd4 ct4), sl4⟩) (c4 : PySem.W.codeIn K cd4 "Heap.size" = true) (k4 : PySem.W.keepIn K (.ref f4) = true)
    {f5 : Addr} {od5 an5 : Option Addr} {sl5 : Array (Option Value)} {oc5 kV5 dc5 pm5 cd5 ct5 : Value}
    (a5 : PySem.W.findIn K (.ref C_Heap) "lying" = some (some (.ref f5))) (i5 : PySem.W.isFn K (.ref f5) = true)
    (l5 : K.lookup f5 = some ⟨oc5, od5, .func (PySem.W.fnOf "lying" "Heap.lying" (defArgs s_Heap_lying) (defBody s_Heap_lying) (defScope s_Heap_lying) .none kV5 dc5 pm5 an5 cd5 ct5), sl5⟩) (c5 : PySem.W.codeIn K cd5 "Heap.lying" = true) (k5 : PySem.W.keepIn K (.ref f5) = true)
    {f6 : Addr} {od6 an6 : Option Addr} {sl6 : Array (Option Value)} {oc6 kV6 dc6 pm6 cd6 ct6 : Value}
    (a6 : PySem.W.findIn K (.ref C_Heap) "lift" = some (some (.ref f6))) (i6 : PySem.W.isFn K (.ref f6) = true)
    (l6 : K.lookup f6 = some ⟨oc6, od6, .func (PySem.W.fnOf "lift" "Heap.lift" (defArgs s_Heap_lift) (defBody s_Heap_lift) (defScope s_Heap_lift) .none kV6 dc6 pm6 an6 cd6 ct6), sl6⟩) (c6 : PySem.W.codeIn K cd6 "Heap.lift" = true) (k6 : PySem.W.keepIn K (.ref f6) = true)
    {f7 : Addr} {od7 an7 : Option Addr} {sl7 : Array (Option Value)} {oc7 kV7 dc7 pm7 cd7 ct7 : Value}
    (a7 : PySem.W.findIn K (.ref C_Heap) "sink" = some (some (.ref f7))) (i7 : PySem.W.isFn K (.ref f7) = true)
    (l7 : K.lookup f7 = some ⟨oc7, od7, .func (PySem.W.fnOf "sink" "Heap.sink" (defArgs s_Heap_sink) (defBody s_Heap_sink) (defScope s_Heap_sink) .none kV7 dc7 pm7 an7 cd7 ct7), sl7⟩) (c7 : PySem.W.codeIn K cd7 "Heap.sink" = true) (k7 : PySem.W.keepIn K (.ref f7) = true)
    {f8 : Addr} {od8 an8 : Option Addr} {sl8 : Array (Option Value)} {oc8 kV8 dc8 pm8 cd8 ct8 : Value}
    (a8 : PySem.W.findIn K (.ref C_Heap) "lesser_below" = some (some (.ref f8))) (i8 : PySem.W.isFn K (.ref f8) = true)
    (l8 : K.lookup f8 = some ⟨oc8, od8, .func (PySem.W.fnOf "lesser_below" "Heap.lesser_below" (defArgs s_Heap_lesser_below) (defBody s_Heap_lesser_below) (defScope s_Heap_lesser_below) .none kV8 dc8 pm8 an8 cd8 ct8), sl8⟩) (c8 : PySem.W.codeIn K cd8 "Heap.lesser_below" = true) (k8 : PySem.W.keepIn K (.ref f8) = true)
    {f9 : Addr} {od9 an9 : Option Addr} {sl9 : Array (Option Value)} {oc9 kV9 dc9 pm9 cd9 ct9 : Value}
    (a9 : PySem.W.findIn K (.ref C_Heap) "swap" = some (some (.ref f9))) (i9 : PySem.W.isFn K (.ref f9) = true)
    (l9 : K.lookup f9 = some ⟨oc9, od9, .func (PySem.W.fnOf "swap" "Heap.swap" (defArgs s_Heap_swap) (defBody s_Heap_swap) (defScope s_Heap_swap) .none kV9 dc9 pm9 an9 cd9 ct9), sl9⟩) (c9 : PySem.W.codeIn K cd9 "Heap.swap" = true) (k9 : PySem.W.keepIn K (.ref f9) = true)
    {f10 : Addr} {od10 an10 : Option Addr} {sl10 : Array (Option Value)} {oc10 kV10 dc10 pm10 cd10 ct10 : Value}
    (a10 : PySem.W.nsIn K mainGlobals "_law_cell_at" = some (some (.ref f10)))
    (l10 : K.lookup f10 = some ⟨oc10, od10, .func (PySem.W.fnOf "_law_cell_at" "_law_cell_at" (defArgs s__law_cell_at) (defBody s__law_cell_at) (defScope s__law_cell_at) .none kV10 dc10 pm10 an10 cd10 ct10), sl10⟩) (c10 : PySem.W.codeIn K cd10 "_law_cell_at" = true) (k10 : PySem.W.keepIn K (.ref f10) = true)
    {f11 : Addr} {od11 an11 : Option Addr} {sl11 : Array (Option Value)} {oc11 kV11 dc11 pm11 cd11 ct11 : Value}
    (a11 : PySem.W.nsIn K mainGlobals "_law_whole" = some (some (.ref f11)))
    (l11 : K.lookup f11 = some ⟨oc11, od11, .func (PySem.W.fnOf "_law_whole" "_law_whole" (defArgs s__law_whole) (defBody s__law_whole) (defScope s__law_whole) .none kV11 dc11 pm11 an11 cd11 ct11), sl11⟩) (c11 : PySem.W.codeIn K cd11 "_law_whole" = true) (k11 : PySem.W.keepIn K (.ref f11) = true)
    {f12 : Addr} {od12 an12 : Option Addr} {sl12 : Array (Option Value)} {oc12 kV12 dc12 pm12 cd12 ct12 : Value}
    (a12 : PySem.W.nsIn K mainGlobals "_law_drawn" = some (some (.ref f12)))
    (l12 : K.lookup f12 = some ⟨oc12, od12, .func (PySem.W.fnOf "_law_drawn" "_law_drawn" (defArgs s__law_drawn) (defBody s__law_drawn) (defScope s__law_drawn) .none kV12 dc12 pm12 an12 cd12 ct12), sl12⟩) (c12 : PySem.W.codeIn K cd12 "_law_drawn" = true) (k12 : PySem.W.keepIn K (.ref f12) = true)
    {f13 : Addr} {od13 an13 : Option Addr} {sl13 : Array (Option Value)} {oc13 kV13 dc13 pm13 cd13 ct13 : Value}
    (a13 : PySem.W.nsIn K mainGlobals "_law_number" = some (some (.ref f13)))
    (l13 : K.lookup f13 = some ⟨oc13, od13, .func (PySem.W.fnOf "_law_number" "_law_number" (defArgs s__law_number) (defBody s__law_number) (defScope s__law_number) .none kV13 dc13 pm13 an13 cd13 ct13), sl13⟩) (c13 : PySem.W.codeIn K cd13 "_law_number" = true) (k13 : PySem.W.keepIn K (.ref f13) = true)
    {f14 : Addr} {od14 an14 : Option Addr} {sl14 : Array (Option Value)} {oc14 kV14 dc14 pm14 cd14 ct14 : Value}
    (a14 : PySem.W.nsIn K mainGlobals "_law_item" = some (some (.ref f14)))
    (l14 : K.lookup f14 = some ⟨oc14, od14, .func (PySem.W.fnOf "_law_item" "_law_item" (defArgs s__law_item) (defBody s__law_item) (defScope s__law_item) .none kV14 dc14 pm14 an14 cd14 ct14), sl14⟩) (c14 : PySem.W.codeIn K cd14 "_law_item" = true) (k14 : PySem.W.keepIn K (.ref f14) = true)
    {f15 : Addr} {od15 an15 : Option Addr} {sl15 : Array (Option Value)} {oc15 kV15 dc15 pm15 cd15 ct15 : Value}
    (a15 : PySem.W.nsIn K mainGlobals "_law_alike" = some (some (.ref f15)))
    (l15 : K.lookup f15 = some ⟨oc15, od15, .func (PySem.W.fnOf "_law_alike" "_law_alike" (defArgs s__law_alike) (defBody s__law_alike) (defScope s__law_alike) .none kV15 dc15 pm15 an15 cd15 ct15), sl15⟩) (c15 : PySem.W.codeIn K cd15 "_law_alike" = true) (k15 : PySem.W.keepIn K (.ref f15) = true)
    {f16 : Addr} {od16 an16 : Option Addr} {sl16 : Array (Option Value)} {oc16 kV16 dc16 pm16 cd16 ct16 : Value}
    (a16 : PySem.W.nsIn K mainGlobals "_law_refused" = some (some (.ref f16)))
    (l16 : K.lookup f16 = some ⟨oc16, od16, .func (PySem.W.fnOf "_law_refused" "_law_refused" (defArgs s__law_refused) (defBody s__law_refused) (defScope s__law_refused) .none kV16 dc16 pm16 an16 cd16 ct16), sl16⟩) (c16 : PySem.W.codeIn K cd16 "_law_refused" = true) (k16 : PySem.W.keepIn K (.ref f16) = true)
    {f17 : Addr} {od17 an17 : Option Addr} {sl17 : Array (Option Value)} {oc17 kV17 dc17 pm17 cd17 ct17 : Value}
    (a17 : PySem.W.nsIn K mainGlobals "_law_none" = some (some (.ref f17)))
    (l17 : K.lookup f17 = some ⟨oc17, od17, .func (PySem.W.fnOf "_law_none" "_law_none" (defArgs s__law_none) (defBody s__law_none) (defScope s__law_none) .none kV17 dc17 pm17 an17 cd17 ct17), sl17⟩) (c17 : PySem.W.codeIn K cd17 "_law_none" = true) (k17 : PySem.W.keepIn K (.ref f17) = true)
    {f18 : Addr} {od18 an18 : Option Addr} {sl18 : Array (Option Value)} {oc18 kV18 dc18 pm18 cd18 ct18 : Value}
    (a18 : PySem.W.nsIn K mainGlobals "_law_lies" = some (some (.ref f18)))
    (l18 : K.lookup f18 = some ⟨oc18, od18, .func (PySem.W.fnOf "_law_lies" "_law_lies" (defArgs s__law_lies) (defBody s__law_lies) (defScope s__law_lies) .none kV18 dc18 pm18 an18 cd18 ct18), sl18⟩) (c18 : PySem.W.codeIn K cd18 "_law_lies" = true) (k18 : PySem.W.keepIn K (.ref f18) = true)
    {f19 : Addr} {od19 an19 : Option Addr} {sl19 : Array (Option Value)} {oc19 kV19 dc19 pm19 cd19 ct19 : Value}
    (a19 : PySem.W.nsIn K mainGlobals "_law_taken" = some (some (.ref f19)))
    (l19 : K.lookup f19 = some ⟨oc19, od19, .func (PySem.W.fnOf "_law_taken" "_law_taken" (defArgs s__law_taken) (defBody s__law_taken) (defScope s__law_taken) .none kV19 dc19 pm19 an19 cd19 ct19), sl19⟩) (c19 : PySem.W.codeIn K cd19 "_law_taken" = true) (k19 : PySem.W.keepIn K (.ref f19) = true)
    {f20 : Addr} {od20 an20 : Option Addr} {sl20 : Array (Option Value)} {oc20 kV20 dc20 pm20 cd20 ct20 : Value}
    (a20 : PySem.W.nsIn K mainGlobals "law" = some (some (.ref f20)))
    (l20 : K.lookup f20 = some ⟨oc20, od20, .func (PySem.W.fnOf "law" "law" (defArgs s_law) (defBody s_law) (defScope s_law) .none kV20 dc20 pm20 an20 cd20 ct20), sl20⟩) (c20 : PySem.W.codeIn K cd20 "law" = true) (k20 : PySem.W.keepIn K (.ref f20) = true)
    (z_len : PySem.W.nsIn K mainGlobals "len" = some none)
    (z_isinstance : PySem.W.nsIn K mainGlobals "isinstance" = some none)
    (z_int : PySem.W.nsIn K mainGlobals "int" = some none)
    (z_bool : PySem.W.nsIn K mainGlobals "bool" = some none)
    (z_list : PySem.W.nsIn K mainGlobals "list" = some none)
    (z_tuple : PySem.W.nsIn K mainGlobals "tuple" = some none)
    (z_range : PySem.W.nsIn K mainGlobals "range" = some none)
    (z_sorted : PySem.W.nsIn K mainGlobals "sorted" = some none)
    (z_zip : PySem.W.nsIn K mainGlobals "zip" = some none)
    (z_ValueError : PySem.W.nsIn K mainGlobals "ValueError" = some none)
    (in0_NoItem : PySem.W.findIn K (.ref C_NoItem) "__init__" = some (some (.builtin "ValueError.__init__")))
    (kp0_NoItem : PySem.W.keepIn K (.ref C_NoItem) = true)
    (kp1 : PySem.W.mroIn K C_NoItem (.ref C_KeepError) = some true)
    (kp2 : PySem.W.kitOne K (.ref C_NoItem) (.ref C_NoItem) = some true)
    (kp3 : PySem.W.kitOne K (.ref C_NoItem) (.type "ValueError") = some true)
    (kp4 : PySem.W.kitOne K (.ref C_NoItem) (.ref C_NoDay) = some false)
    : ∃ fd : FuncData, (∀ (s : Shared) (v : Value), BindsTo s fd ⟨[v], []⟩ [("_law_script", v)]) /\ ∀ base : Heap, K.In base->base.Ns mainGlobals mg->FnOk l.prog w K mg base (CXx l.prog w) 6 fa fd ["_law_script"] (sp_law K) := by
  have e := hfa.symm.trans (PySem.W.mg_of X G a20)
  cases e
  have T : Txt K mg C_KeepError C_NoDay C_NoItem C_Heap := ⟨PySem.W.mg_of X G a_KeepError, ⟨xo_KeepError, xs_KeepError, xg_KeepError, xh_KeepError, xc_KeepError, clg, clt⟩, PySem.W.mg_of X G a_NoDay, ⟨xo_NoDay, xs_NoDay, xg_NoDay, xh_NoDay, xc_NoDay, clg, clt⟩, n_NoDay_day, PySem.W.mg_of X G a_NoItem, ⟨xo_NoItem, xs_NoItem, xg_NoItem, xh_NoItem, xc_NoItem, clg, clt⟩, PySem.W.mg_of X G a_Heap, ⟨pg_Heap, hd_Heap, po_Heap, sa_Heap⟩, n_Heap_row, PySem.W.mg_none_of X G z_len, PySem.W.mg_none_of X G z_isinstance, PySem.W.mg_none_of X G z_int, PySem.W.mg_none_of X G z_bool, PySem.W.mg_none_of X G z_list, PySem.W.mg_none_of X G z_tuple, PySem.W.mg_none_of X G z_range, PySem.W.mg_none_of X G z_sorted, PySem.W.mg_none_of X G z_zip, PySem.W.mg_none_of X G z_ValueError, in0_NoItem, kp0_NoItem, kp1, kp2, kp3, kp4⟩
  have F0 := fun_mk (st := s_Heap___init__) l0 c0 k0
  have b0 := F0.binds (ps := ["self"]) fun _ _ _ _ _ _ us hl => match us, hl with | [_], _ => rfl
  have F1 := fun_mk (st := s_Heap_add) l1 c1 k1
  have b1 := F1.binds (ps := ["self", "item"]) fun _ _ _ _ _ _ us hl => match us, hl with | [_, _], _ => rfl
  have F2 := fun_mk (st := s_Heap_least) l2 c2 k2
  have b2 := F2.binds (ps := ["self"]) fun _ _ _ _ _ _ us hl => match us, hl with | [_], _ => rfl
  have F3 := fun_mk (st := s_Heap_take) l3 c3 k3
  have b3 := F3.binds (ps := ["self"]) fun _ _ _ _ _ _ us hl => match us, hl with | [_], _ => rfl
  have F4 := fun_mk (st := s_Heap_size) l4 c4 k4
  have b4 := F4.binds (ps := ["self"]) fun _ _ _ _ _ _ us hl => match us, hl with | [_], _ => rfl
  have F5 := fun_mk (st := s_Heap_lying) l5 c5 k5
  have b5 := F5.binds (ps := ["self"]) fun _ _ _ _ _ _ us hl => match us, hl with | [_], _ => rfl
  have F6 := fun_mk (st := s_Heap_lift) l6 c6 k6
  have b6 := F6.binds (ps := ["self", "place"]) fun _ _ _ _ _ _ us hl => match us, hl with | [_, _], _ => rfl
  have F7 := fun_mk (st := s_Heap_sink) l7 c7 k7
  have b7 := F7.binds (ps := ["self", "place"]) fun _ _ _ _ _ _ us hl => match us, hl with | [_, _], _ => rfl
  have F8 := fun_mk (st := s_Heap_lesser_below) l8 c8 k8
  have b8 := F8.binds (ps := ["self", "place"]) fun _ _ _ _ _ _ us hl => match us, hl with | [_, _], _ => rfl
  have F9 := fun_mk (st := s_Heap_swap) l9 c9 k9
  have b9 := F9.binds (ps := ["self", "one", "other"]) fun _ _ _ _ _ _ us hl => match us, hl with | [_, _, _], _ => rfl
  have F10 := fun_mk (st := s__law_cell_at) l10 c10 k10
  have b10 := F10.binds (ps := ["_law_script", "_law_k"]) fun _ _ _ _ _ _ us hl => match us, hl with | [_, _], _ => rfl
  have F11 := fun_mk (st := s__law_whole) l11 c11 k11
  have b11 := F11.binds (ps := ["_law_found"]) fun _ _ _ _ _ _ us hl => match us, hl with | [_], _ => rfl
  have F12 := fun_mk (st := s__law_drawn) l12 c12 k12
  have b12 := F12.binds (ps := ["_law_cell", "_law_many"]) fun _ _ _ _ _ _ us hl => match us, hl with | [_, _], _ => rfl
  have F13 := fun_mk (st := s__law_number) l13 c13 k13
  have b13 := F13.binds (ps := ["_law_xs", "_law_k", "_law_way"]) fun _ _ _ _ _ _ us hl => match us, hl with | [_, _, _], _ => rfl
  have F14 := fun_mk (st := s__law_item) l14 c14 k14
  have b14 := F14.binds (ps := ["_law_cell", "_law_way"]) fun _ _ _ _ _ _ us hl => match us, hl with | [_, _], _ => rfl
  have F15 := fun_mk (st := s__law_alike) l15 c15 k15
  have b15 := F15.binds (ps := ["_law_found", "_law_due"]) fun _ _ _ _ _ _ us hl => match us, hl with | [_, _], _ => rfl
  have F16 := fun_mk (st := s__law_refused) l16 c16 k16
  have b16 := F16.binds (ps := ["_law_heap", "_law_out"]) fun _ _ _ _ _ _ us hl => match us, hl with | [_, _], _ => rfl
  have F17 := fun_mk (st := s__law_none) l17 c17 k17
  have b17 := F17.binds (ps := ["_law_heap"]) fun _ _ _ _ _ _ us hl => match us, hl with | [_], _ => rfl
  have F18 := fun_mk (st := s__law_lies) l18 c18 k18
  have b18 := F18.binds (ps := ["_law_heap", "_law_due"]) fun _ _ _ _ _ _ us hl => match us, hl with | [_, _], _ => rfl
  have F19 := fun_mk (st := s__law_taken) l19 c19 k19
  have b19 := F19.binds (ps := ["_law_heap", "_law_due"]) fun _ _ _ _ _ _ us hl => match us, hl with | [_, _], _ => rfl
  have F20 := fun_mk (st := s_law) l20 c20 k20
  have b20 := F20.binds (ps := ["_law_script"]) fun _ _ _ _ _ _ us hl => match us, hl with | [_], _ => rfl
  refine ⟨PySem.W.fnOf "law" "law" (defArgs s_law) (defBody s_law) (defScope s_law) .none kV20 dc20 pm20 an20 cd20 ct20, fun s v => .of_eq rfl, fun base _ _ => ?_⟩
  have D_Heap : MakeX l.prog w K mg base "Heap" C_Heap 1 ["self"] (sp_hinit C_Heap) := ⟨_, _, PySem.W.mg_of X G a_Heap, ⟨mk_Heap, a0, i0, kc_Heap⟩, ok_Heap___init__ F0 T , b0⟩
  have D_Heap_swap : MethX l.prog w K mg base C_Heap "swap" 1 ["self", "one", "other"] (sp_swap C_Heap) := ⟨_, _, ⟨a9, i9, k9⟩, ok_Heap_swap F9 T , b9⟩
  have D_Heap_lift : MethX l.prog w K mg base C_Heap "lift" 2 ["self", "place"] (sp_lift C_Heap) := ⟨_, _, ⟨a6, i6, k6⟩, ok_Heap_lift F6 T D_Heap_swap, b6⟩
  have D_Heap_add : MethX l.prog w K mg base C_Heap "add" 3 ["self", "item"] (sp_add C_Heap) := ⟨_, _, ⟨a1, i1, k1⟩, ok_Heap_add F1 T D_Heap_lift, b1⟩
  have D_Heap_least : MethX l.prog w K mg base C_Heap "least" 2 ["self"] (sp_least C_Heap C_NoItem) := ⟨_, _, ⟨a2, i2, k2⟩, ok_Heap_least F2 T , b2⟩
  have D_Heap_lesser_below : MethX l.prog w K mg base C_Heap "lesser_below" 1 ["self", "place"] (sp_lesser C_Heap) := ⟨_, _, ⟨a8, i8, k8⟩, ok_Heap_lesser_below F8 T , b8⟩
  have D_Heap_sink : MethX l.prog w K mg base C_Heap "sink" 2 ["self", "place"] (sp_sink C_Heap) := ⟨_, _, ⟨a7, i7, k7⟩, ok_Heap_sink F7 T D_Heap_lesser_below D_Heap_swap, b7⟩
  have D_Heap_take : MethX l.prog w K mg base C_Heap "take" 3 ["self"] (sp_take C_Heap C_NoItem) := ⟨_, _, ⟨a3, i3, k3⟩, ok_Heap_take F3 T D_Heap_least D_Heap_sink, b3⟩
  have D_Heap_size : MethX l.prog w K mg base C_Heap "size" 1 ["self"] (sp_hsize C_Heap) := ⟨_, _, ⟨a4, i4, k4⟩, ok_Heap_size F4 T , b4⟩
  have D_Heap_lying : MethX l.prog w K mg base C_Heap "lying" 1 ["self"] (sp_lying C_Heap) := ⟨_, _, ⟨a5, i5, k5⟩, ok_Heap_lying F5 T , b5⟩
  have D__law_cell_at : DefX l.prog w K mg base "_law_cell_at" 1 ["_law_script", "_law_k"] (sp_cell K) := ⟨_, _, PySem.W.mg_of X G a10, ok__law_cell_at F10 T , k10, b10⟩
  have D__law_whole : DefX l.prog w K mg base "_law_whole" 1 ["_law_found"] sp_whole := ⟨_, _, PySem.W.mg_of X G a11, ok__law_whole F11 T , k11, b11⟩
  have D__law_drawn : DefX l.prog w K mg base "_law_drawn" 1 ["_law_cell", "_law_many"] sp_drawn := ⟨_, _, PySem.W.mg_of X G a12, ok__law_drawn F12 T , k12, b12⟩
  have D__law_number : DefX l.prog w K mg base "_law_number" 1 ["_law_xs", "_law_k", "_law_way"] sp_number := ⟨_, _, PySem.W.mg_of X G a13, ok__law_number F13 T , k13, b13⟩
  have D__law_item : DefX l.prog w K mg base "_law_item" 2 ["_law_cell", "_law_way"] sp_item := ⟨_, _, PySem.W.mg_of X G a14, ok__law_item F14 T D__law_drawn D__law_number, k14, b14⟩
  have D__law_alike : DefX l.prog w K mg base "_law_alike" 2 ["_law_found", "_law_due"] sp_alike := ⟨_, _, PySem.W.mg_of X G a15, ok__law_alike F15 T D__law_whole, k15, b15⟩
  have D__law_refused : DefX l.prog w K mg base "_law_refused" 4 ["_law_heap", "_law_out"] (sp_refused C_Heap) := ⟨_, _, PySem.W.mg_of X G a16, ok__law_refused F16 T D_Heap_take D_Heap_least, k16, b16⟩
  have D__law_none : DefX l.prog w K mg base "_law_none" 5 ["_law_heap"] (sp_none C_Heap) := ⟨_, _, PySem.W.mg_of X G a17, ok__law_none F17 T D_Heap_lying D_Heap_size D__law_refused, k17, b17⟩
  have D__law_lies : DefX l.prog w K mg base "_law_lies" 2 ["_law_heap", "_law_due"] (sp_lies C_Heap) := ⟨_, _, PySem.W.mg_of X G a18, ok__law_lies F18 T D_Heap_lying, k18, b18⟩
  have D__law_taken : DefX l.prog w K mg base "_law_taken" 4 ["_law_heap", "_law_due"] (sp_taken C_Heap) := ⟨_, _, PySem.W.mg_of X G a19, ok__law_taken F19 T D__law_alike D_Heap_take D_Heap_least D_Heap_size, k19, b19⟩
  exact ok_law F20 T D__law_cell_at D_Heap D__law_drawn D__law_item D_Heap_add D__law_none D__law_taken D__law_lies
theorem walk {l : PySem.W.OpenLaw} {q : Program} {loose : List Str} {XP : (Str->Option Value)->Heap->Prop} {YP : World->Heap->Prop} {d : DefRec} {K : Params->PySem.W.Frag} (hn : l.most = some 63) (hdf : d.params.defaults = [])
    (hY : ∀ (w : World) (h : Heap), YP w h->(K w.params).In h)
    (F : ∀ (w : World) (mg : Str->Option Value) (fa : Addr) (h : Heap), (K w.params).In h->h.Ns mainGlobals mg->mg d.name = some (.ref fa) →
      ∃ fd : FuncData, (∀ (s : Shared) (u : Value), BindsTo s fd ⟨[u], []⟩ [("_law_script", u)]) /\ ∀ base : Heap, (K w.params).In base->base.Ns mainGlobals mg->FnOk l.prog w (K w.params) mg base (CXx l.prog w) 6 fa fd ["_law_script"] (sp_law (K w.params))) :
    PySem.W.WalkO q loose XP YP l.row.toRowW d [] (fun f vs => PySem.call f vs) :=
  L2.walk_of (n := 63) (k := 6) (x := "_law_script") (CX := fun w => CXx l.prog w) (sp := fun w => sp_law (K w.params)) hn (by decide) hdf ⟨rfl, by decide, by decide⟩ hY F (fun _ _ a ns hl _ hS => ⟨a, ns, rfl, hS, hl, fun _ => rfl⟩) fun _ _ _ _ _ z => L2.cxx_no z
end Mine
open PySem PySem.W PyProof.Rows
namespace Hd
noncomputable section
open PySem
abbrev h0 := (((((Str.ofString "<module>", Str.ofString "/claim/cut.py"), Str.ofString "__main__"), ((Str.ofString "__name__", Str.ofString "keepsakes.errors"), Str.ofString "__doc__")), (((Str.ofString "__package__", Str.ofString "__loader__"), Str.ofString "__spec__"), ((Str.ofString "__annotations__", Str.ofString "__builtins__"), Str.ofString "__file__"))), ((((Str.ofString "__cached__", Str.ofString "KeepError"), Str.ofString "__module__"), ((Str.ofString "__qualname__", Str.ofString "__firstlineno__"), Str.ofString "__static_attributes__")), (((Str.ofString "__weakref__", Str.ofString "NoDay"), Str.ofString "__init__"), ((Str.ofString "self", Str.ofString "day"), Str.ofString "NoDay.__init__"))))
abbrev h1 := (((((Str.ofString "keepsakes.heaps", Str.ofString "NoItem"), Str.ofString "Heap"), ((Str.ofString "add", Str.ofString "least"), Str.ofString "take")), (((Str.ofString "size", Str.ofString "lying"), Str.ofString "lift"), ((Str.ofString "sink", Str.ofString "lesser_below"), Str.ofString "swap"))), ((((Str.ofString "Heap.__init__", Str.ofString "item"), Str.ofString "Heap.add"), ((Str.ofString "Heap.least", Str.ofString "last"), Str.ofString "Heap.take")), (((Str.ofString "Heap.size", Str.ofString "Heap.lying"), Str.ofString "place"), ((Str.ofString "low", Str.ofString "Heap.lift"), Str.ofString "high"))))
abbrev h2 := (((((Str.ofString "Heap.sink", Str.ofString "Heap.lesser_below"), Str.ofString "one"), ((Str.ofString "other", Str.ofString "Heap.swap"), Str.ofString "row")), (((Str.ofString "__dict__", Str.ofString "law_keepsakes_k32_a_heap_gives_all"), Str.ofString "_law_cell_at"), ((Str.ofString "_law_whole", Str.ofString "_law_drawn"), Str.ofString "_law_number"))), ((((Str.ofString "_law_item", Str.ofString "_law_alike"), Str.ofString "_law_refused"), ((Str.ofString "_law_none", Str.ofString "_law_lies"), Str.ofString "_law_taken")), (((Str.ofString "law", Str.ofString "_law_script"), Str.ofString "_law_k"), ((Str.ofString "_law_found", Str.ofString "_law_cell"), Str.ofString "_law_many"))))
abbrev h3 := ((((Str.ofString "_law_number_here", Str.ofString "_law_xs"), Str.ofString "_law_way"), ((Str.ofString "_law_heap", Str.ofString "_law_out"), Str.ofString "_law_caught")), (((Str.ofString "e", Str.ofString "_law_due"), Str.ofString "_law_pair"), ((Str.ofString "_law_dues", Str.ofString "_law_side"), Str.ofString "_law_item_here")))
abbrev h4 := ((((("tuple", "code"), "frame"), (("dict", "__main__.__loader__#opaque"), "ValueError")), ((("builtin_function_or_method", "type.__prepare__"), "type"), ("Exception", "BaseException"))), (((("object", "ValueError.__new__"), "getset_descriptor"), ("ExceptionGroup.__weakref__", "super")), ((("object.__init_subclass__", "function"), "object.__new__"), ("function.__dict__", "function.__dict__#set"))))
abbrev X : Type := ((((((((Str × Str) × Str) × ((Str × Str) × Str)) × (((Str × Str) × Str) × ((Str × Str) × Str))) × ((((Str × Str) × Str) × ((Str × Str) × Str)) × (((Str × Str) × Str) × ((Str × Str) × Str)))) × (((((Str × Str) × Str) × ((Str × Str) × Str)) × (((Str × Str) × Str) × ((Str × Str) × Str))) × ((((Str × Str) × Str) × ((Str × Str) × Str)) × (((Str × Str) × Str) × ((Str × Str) × Str))))) × (((((Str × Str) × Str) × ((Str × Str) × Str)) × (((Str × Str) × Str) × ((Str × Str) × Str))) × ((((Str × Str) × Str) × ((Str × Str) × Str)) × (((Str × Str) × Str) × ((Str × Str) × Str))))) × ((((((Str × Str) × Str) × ((Str × Str) × Str)) × (((Str × Str) × Str) × ((Str × Str) × Str))) × (((((String × String) × String) × ((String × String) × String)) × (((String × String) × String) × (String × String))) × ((((String × String) × String) × (String × String)) × (((String × String) × String) × (String × String))))) × PySem.Program)) × PySem.Params
abbrev hs := (((h0, h1), h2), ((h3, h4), PySem.Challenge.pw_keepsakes_k32_a_heap_gives_all))
lay_quick h0 h1 h2 h3 h4 PySem.Challenge.pw_keepsakes_k32_a_heap_gives_all
lay_quick hs
abbrev s0 (x : X) := x.1.1.1.1.1.1.1.1.1
abbrev s1 (x : X) := x.1.1.1.1.1.1.1.1.2
abbrev s2 (x : X) := x.1.1.1.1.1.1.1.2
abbrev s3 (x : X) := x.1.1.1.1.1.1.2.1.1
abbrev s4 (x : X) := x.1.1.1.1.1.1.2.1.2
abbrev s5 (x : X) := x.1.1.1.1.1.1.2.2
abbrev s6 (x : X) := x.1.1.1.1.1.2.1.1.1
abbrev s7 (x : X) := x.1.1.1.1.1.2.1.1.2
abbrev s8 (x : X) := x.1.1.1.1.1.2.1.2
abbrev s9 (x : X) := x.1.1.1.1.1.2.2.1.1
abbrev s10 (x : X) := x.1.1.1.1.1.2.2.1.2
abbrev s11 (x : X) := x.1.1.1.1.1.2.2.2
abbrev s12 (x : X) := x.1.1.1.1.2.1.1.1.1
abbrev s13 (x : X) := x.1.1.1.1.2.1.1.1.2
abbrev s14 (x : X) := x.1.1.1.1.2.1.1.2
abbrev s15 (x : X) := x.1.1.1.1.2.1.2.1.1
abbrev s16 (x : X) := x.1.1.1.1.2.1.2.1.2
abbrev s17 (x : X) := x.1.1.1.1.2.1.2.2
abbrev s18 (x : X) := x.1.1.1.1.2.2.1.1.1
abbrev s19 (x : X) := x.1.1.1.1.2.2.1.1.2
abbrev s20 (x : X) := x.1.1.1.1.2.2.1.2
abbrev s21 (x : X) := x.1.1.1.1.2.2.2.1.1
abbrev s22 (x : X) := x.1.1.1.1.2.2.2.1.2
abbrev s23 (x : X) := x.1.1.1.1.2.2.2.2
abbrev s24 (x : X) := x.1.1.1.2.1.1.1.1.1
abbrev s25 (x : X) := x.1.1.1.2.1.1.1.1.2
abbrev s26 (x : X) := x.1.1.1.2.1.1.1.2
abbrev s27 (x : X) := x.1.1.1.2.1.1.2.1.1
abbrev s28 (x : X) := x.1.1.1.2.1.1.2.1.2
abbrev s29 (x : X) := x.1.1.1.2.1.1.2.2
abbrev s30 (x : X) := x.1.1.1.2.1.2.1.1.1
abbrev s31 (x : X) := x.1.1.1.2.1.2.1.1.2
abbrev s32 (x : X) := x.1.1.1.2.1.2.1.2
abbrev s33 (x : X) := x.1.1.1.2.1.2.2.1.1
abbrev s34 (x : X) := x.1.1.1.2.1.2.2.1.2
abbrev s35 (x : X) := x.1.1.1.2.1.2.2.2
abbrev s36 (x : X) := x.1.1.1.2.2.1.1.1.1
abbrev s37 (x : X) := x.1.1.1.2.2.1.1.1.2
abbrev s38 (x : X) := x.1.1.1.2.2.1.1.2
abbrev s39 (x : X) := x.1.1.1.2.2.1.2.1.1
abbrev s40 (x : X) := x.1.1.1.2.2.1.2.1.2
abbrev s41 (x : X) := x.1.1.1.2.2.1.2.2
abbrev s42 (x : X) := x.1.1.1.2.2.2.1.1.1
abbrev s43 (x : X) := x.1.1.1.2.2.2.1.1.2
abbrev s44 (x : X) := x.1.1.1.2.2.2.1.2
abbrev s45 (x : X) := x.1.1.1.2.2.2.2.1.1
abbrev s46 (x : X) := x.1.1.1.2.2.2.2.1.2
abbrev s47 (x : X) := x.1.1.1.2.2.2.2.2
abbrev s48 (x : X) := x.1.1.2.1.1.1.1.1
abbrev s49 (x : X) := x.1.1.2.1.1.1.1.2
abbrev s50 (x : X) := x.1.1.2.1.1.1.2
abbrev s51 (x : X) := x.1.1.2.1.1.2.1.1
abbrev s52 (x : X) := x.1.1.2.1.1.2.1.2
abbrev s53 (x : X) := x.1.1.2.1.1.2.2
abbrev s54 (x : X) := x.1.1.2.1.2.1.1.1
abbrev s55 (x : X) := x.1.1.2.1.2.1.1.2
abbrev s56 (x : X) := x.1.1.2.1.2.1.2
abbrev s57 (x : X) := x.1.1.2.1.2.2.1.1
abbrev s58 (x : X) := x.1.1.2.1.2.2.1.2
abbrev s59 (x : X) := x.1.1.2.1.2.2.2
abbrev s60 (x : X) := x.1.1.2.2.1.1.1.1
abbrev s61 (x : X) := x.1.1.2.2.1.1.1.2
abbrev s62 (x : X) := x.1.1.2.2.1.1.2
abbrev s63 (x : X) := x.1.1.2.2.1.2.1.1
abbrev s64 (x : X) := x.1.1.2.2.1.2.1.2
abbrev s65 (x : X) := x.1.1.2.2.1.2.2
abbrev s66 (x : X) := x.1.1.2.2.2.1.1.1
abbrev s67 (x : X) := x.1.1.2.2.2.1.1.2
abbrev s68 (x : X) := x.1.1.2.2.2.1.2
abbrev s69 (x : X) := x.1.1.2.2.2.2.1.1
abbrev s70 (x : X) := x.1.1.2.2.2.2.1.2
abbrev s71 (x : X) := x.1.1.2.2.2.2.2
abbrev s72 (x : X) := x.1.2.1.1.1.1.1.1
abbrev s73 (x : X) := x.1.2.1.1.1.1.1.2
abbrev s74 (x : X) := x.1.2.1.1.1.1.2
abbrev s75 (x : X) := x.1.2.1.1.1.2.1.1
abbrev s76 (x : X) := x.1.2.1.1.1.2.1.2
abbrev s77 (x : X) := x.1.2.1.1.1.2.2
abbrev s78 (x : X) := x.1.2.1.1.2.1.1.1
abbrev s79 (x : X) := x.1.2.1.1.2.1.1.2
abbrev s80 (x : X) := x.1.2.1.1.2.1.2
abbrev s81 (x : X) := x.1.2.1.1.2.2.1.1
abbrev s82 (x : X) := x.1.2.1.1.2.2.1.2
abbrev s83 (x : X) := x.1.2.1.1.2.2.2
abbrev l0 (x : X) := x.1.2.1.2.1.1.1.1.1
abbrev l1 (x : X) := x.1.2.1.2.1.1.1.1.2
abbrev l2 (x : X) := x.1.2.1.2.1.1.1.2
abbrev l3 (x : X) := x.1.2.1.2.1.1.2.1.1
abbrev l4 (x : X) := x.1.2.1.2.1.1.2.1.2
abbrev l5 (x : X) := x.1.2.1.2.1.1.2.2
abbrev l6 (x : X) := x.1.2.1.2.1.2.1.1.1
abbrev l7 (x : X) := x.1.2.1.2.1.2.1.1.2
abbrev l8 (x : X) := x.1.2.1.2.1.2.1.2
abbrev l9 (x : X) := x.1.2.1.2.1.2.2.1
abbrev l10 (x : X) := x.1.2.1.2.1.2.2.2
abbrev l11 (x : X) := x.1.2.1.2.2.1.1.1.1
abbrev l12 (x : X) := x.1.2.1.2.2.1.1.1.2
abbrev l13 (x : X) := x.1.2.1.2.2.1.1.2
abbrev l14 (x : X) := x.1.2.1.2.2.1.2.1
abbrev l15 (x : X) := x.1.2.1.2.2.1.2.2
abbrev l16 (x : X) := x.1.2.1.2.2.2.1.1.1
abbrev l17 (x : X) := x.1.2.1.2.2.2.1.1.2
abbrev l18 (x : X) := x.1.2.1.2.2.2.1.2
abbrev l19 (x : X) := x.1.2.1.2.2.2.2.1
abbrev l20 (x : X) := x.1.2.1.2.2.2.2.2
abbrev b0 (x : X) := PySem.W.boot_o_0 x.2
abbrev b1 (x : X) := PySem.W.boot_o_1 x.2
abbrev b2 (x : X) := PySem.W.boot_o_2 x.2
abbrev b3 (x : X) := PySem.W.boot_o_3 x.2
abbrev b4 (x : X) := PySem.W.boot_o_4 x.2
abbrev b5 (x : X) := PySem.W.boot_o_5 x.2
abbrev b6 (x : X) := PySem.W.boot_o_6 x.2
abbrev b7 (x : X) := PySem.W.boot_o_7 x.2
abbrev b8 (x : X) := PySem.W.boot_o_8 x.2
abbrev b9 (x : X) := PySem.W.boot_o_9 x.2
abbrev b10 (x : X) := PySem.W.boot_o_10 x.2
abbrev pg (x : X) : PySem.Program := x.1.2.2
def nth : List PySem.Stmt->Nat->PySem.Stmt := fun l => @List.rec PySem.Stmt (fun _ => Nat->PySem.Stmt) (fun _ => .Pass ⟨0, 0, 0, 0⟩) (fun a _ ih n => @Nat.rec (fun _ => PySem.Stmt) a (fun m _ => ih m) n) l
abbrev st (x : X) (k : Nat) : PySem.Stmt := nth (pg x).main.body k
def cb : PySem.Stmt->List PySem.Stmt | .ClassDef _ _ _ y _ _ _ _ _ _ _ => y | _ => []
abbrev sm (x : X) (k m : Nat) : PySem.Stmt := nth (cb (st x k)) m
def f0 : PySem.Stmt->Str | .FunctionDef y _ _ _ _ _ _ _ _ _ => y | _ => default
def f1 : PySem.Stmt->Arguments | .FunctionDef _ y _ _ _ _ _ _ _ _ => y | _ => default
def f2 : PySem.Stmt->List Stmt | .FunctionDef _ _ y _ _ _ _ _ _ _ => y | _ => []
def f6 : PySem.Stmt->Scope | .FunctionDef _ _ _ _ _ _ y _ _ _ => y | _ => default
abbrev u0 := @PySem.Obj.mk
abbrev u1 := @PySem.Value.type
abbrev u2 := @Option.none.{0} (@Nat)
abbrev u3 := @PySem.Data.seq
abbrev u4 := @List.toArray.{0} (@PySem.Value)
abbrev u5 := @List.nil.{0} (@PySem.Value)
abbrev u6 := @List.toArray.{0} (@Option.{0} (@PySem.Value))
abbrev u7 := @List.nil.{0} (@Option.{0} (@PySem.Value))
abbrev u8 := @PySem.Value.none
abbrev u9 := @PySem.Data.fields
abbrev u10 := @List.cons.{0} (@PySem.Value)
abbrev u11 := @PySem.Value.str
abbrev u12 := @PySem.Value.int
abbrev u13 := @PySem.Value.ref
abbrev u14 := @PySem.Value.bool
abbrev u15 := @Bool.false
abbrev u16 := @PySem.Data.plain
abbrev u17 := @List.cons.{0} (@Option.{0} (@PySem.Value))
abbrev u18 := @Option.some.{0} (@PySem.Value)
abbrev u19 := @Option.none.{0} (@PySem.Value)
abbrev u20 := @PySem.Data.dict
abbrev u21 := @List.toArray.{0} (@PySem.DictEntry)
abbrev u22 := @List.cons.{0} (@PySem.DictEntry)
abbrev u23 := @PySem.DictEntry.mk
abbrev u24 := @PySem.PyData.keyHash
abbrev u25 := @PySem.Value.builtin
abbrev u26 := @List.nil.{0} (@PySem.DictEntry)
abbrev u27 := @PySem.Data.cls
abbrev u28 := @PySem.ClassData.mk
abbrev u29 := @Bool.true
abbrev u30 := @List.nil.{0} (@PySem.Str)
abbrev u31 := @Option.none.{0} (@Bool)
abbrev u32 := @PySem.Data.func
abbrev u33 := @PySem.FuncData.mk
abbrev u34 := @PySem.FuncBody.stmts
abbrev u35 := @List.nil.{0} (@Prod.{0, 0} (@PySem.Str) (@Nat))
abbrev u36 := @List.cons.{0} (@Prod.{0, 0} (@Nat) (@PySem.Obj))
abbrev u37 := @Prod.mk.{0, 0} (@Nat) (@PySem.Obj)
abbrev u38 := @List.nil.{0} (@Prod.{0, 0} (@Nat) (@PySem.Obj))
abbrev u39 := @PySem.Heap.mk
abbrev u40 := @Array.mk.{0} (@PySem.Obj)
abbrev u41 := @List.cons.{0} (@PySem.Obj)
abbrev u42 := @List.nil.{0} (@PySem.Obj)
abbrev u43 := @PySem.Life.mk
abbrev u44 := @List.nil.{0} (@Nat)
abbrev u45 := @List.nil.{0} (@Prod.{0, 0} (@Nat) (@Nat))
abbrev u46 := @List.toArray.{0} (@Nat)
abbrev u47 := @List.cons.{0} (@Int)
abbrev u48 := @List.nil.{0} (@Int)
abbrev u49 := @PySem.W.BT.node
abbrev u50 := @PySem.W.BT.nil
abbrev M (c : PySem.Value) (d : PySem.Data) : PySem.Obj := PySem.Obj.mk c none d #[]
abbrev E (x : X) (s : PySem.Str) (n : Nat) (v : PySem.Value) : PySem.DictEntry := ⟨PySem.PyData.keyHash x.2 s, .str s n, v⟩
abbrev N (o : X->PySem.Obj) (l r : X->PySem.W.BT) : X->PySem.W.BT := fun x => .node (o x) (l x) (r x)
abbrev Z : X->PySem.W.BT := fun _ => .nil
abbrev Q (o : X->PySem.Obj) (l : X->List PySem.Obj) : X->List PySem.Obj := fun x => o x :: l x
abbrev R : X->List PySem.Obj := fun _ => []
abbrev J (k : Nat) (o : X->PySem.Obj) (l : X->List (Nat × PySem.Obj)) : X->List (Nat × PySem.Obj) := fun x => (k, o x) :: l x
abbrev I : X->List (Nat × PySem.Obj) := fun _ => []
def k0 (x : X) : PySem.Obj := (M (u1 (l0 x)) (u3 (u4 u5) 0))
def k1 (x : X) (a0 : PySem.Str) (a1 a2 a3 : Nat) (a4 : Int) (a5 a6 : Nat) (a7 : Int) (a8 : Nat) : PySem.Obj := (M (u1 (l1 x)) (u9 (u4 [(u11 a0 a1), (u11 a0 a2), (u11 (s1 x) a3), (u12 a4 0), (u12 0 0), (u12 0 0), (u12 0 0), (u12 0 0), (u13 a5), (u14 u15), (u12 181 0), (u13 a6), u8, u8, u8, u8, (u12 a7 0), (u12 a4 0), (u11 (s1 x) a8)])))
def k2 (x : X) (a0 a1 : Nat) (a2 : PySem.Str) (a3 : Nat) : PySem.Obj := (u0 (u1 (l2 x)) u2 u16 (u6 [(u18 (u13 a0)), (u18 (u13 3)), (u18 (u13 a1)), u19, (u18 (u11 a2 a3)), u19, (u18 (u13 0))]))
def k3 (x : X) : PySem.Obj := (M (u1 (l6 x)) (u9 (u4 [(u25 (l7 x)), (u1 (l8 x))])))
def k4 (x : X) (a0 : Nat) : PySem.Obj := (M (u1 (l15 x)) (u9 (u4 [(u13 a0), (u13 a0), (u13 a0)])))
def k5 (x : X) (a0 : Nat) : PySem.Obj := (M (u1 (l6 x)) (u9 (u4 [(u25 (l16 x)), (u13 a0)])))
def k6 (x : X) (a0 : PySem.Str) (a1 : Nat) (a2 : PySem.Str) (a3 : Nat) : PySem.Obj := (M (u1 (l0 x)) (u3 (u4 [(u11 a0 a1), (u11 a2 a3)]) 0))
def k7 (x : X) (a0 a1 : PySem.Str) (a2 : PySem.Stmt) : PySem.Obj := (M u8 (u32 (u33 a0 a1 (f1 a2) (u34 (f2 a2)) (f6 a2) 0 u35 u8 u8 u8 u8 u2 u8 u8 0)))
def k8 (x : X) (a0 : PySem.Str) (a1 : Nat) (a2 : PySem.Str) (a3 a4 : Nat) (a5 a6 : Int) (a7 a8 a9 a10 a11 : Nat) (a12 : Int) (a13 : Nat) : PySem.Obj := (M (u1 (l1 x)) (u9 (u4 [(u11 a0 a1), (u11 a2 a3), (u11 (s1 x) a4), (u12 a5 0), (u12 a6 0), (u12 0 0), (u12 0 0), (u12 3 0), (u13 a7), (u14 u29), (u12 181 0), (u13 a8), u8, (u13 a9), (u13 a10), (u13 a11), (u12 a12 0), (u12 a5 0), (u11 (s1 x) a13)])))
def k9 (x : X) (a0 a1 : PySem.Str) (a2 : PySem.Stmt) (a3 : PySem.Str) (a4 a5 : Nat) : PySem.Obj := (M (u1 (l17 x)) (u32 (u33 a0 a1 (f1 a2) (u34 (f2 a2)) (f6 a2) 3 u35 u8 u8 u8 (u11 a3 a4) u2 (u13 a5) u8 0)))
def k10 (x : X) (a0 : PySem.Str) (a1 : Nat) : PySem.Obj := (M (u1 (l0 x)) (u3 (u4 [(u11 a0 a1)]) 0))
def k11 (x : X) (a0 : PySem.Str) (a1 : Nat) (a2 : PySem.Str) (a3 : Nat) (a4 : PySem.Str) (a5 : Nat) : PySem.Obj := (M (u1 (l0 x)) (u3 (u4 [(u11 a0 a1), (u11 a2 a3), (u11 a4 a5)]) 0))
def k12 (x : X) (a0 : PySem.Str) (a1 : Nat) (a2 : PySem.Str) (a3 : Nat) (a4 : PySem.Str) (a5 : Nat) (a6 : PySem.Str) (a7 : Nat) : PySem.Obj := (M (u1 (l0 x)) (u3 (u4 [(u11 a0 a1), (u11 a2 a3), (u11 a4 a5), (u11 a6 a7)]) 0))
def k13 (x : X) (a0 : PySem.Stmt) : PySem.Obj := (M u8 (u32 (u33 (f0 a0) (f0 a0) (f1 a0) (u34 (f2 a0)) (f6 a0) 0 u35 u8 u8 u8 u8 u2 u8 u8 0)))
def k14 (x : X) (a0 : PySem.Stmt) (a1 : Nat) : PySem.Obj := (M (u1 (l17 x)) (u32 (u33 (f0 a0) (f0 a0) (f1 a0) (u34 (f2 a0)) (f6 a0) 3 u35 u8 u8 u8 (u11 (s55 x) 354) u2 (u13 a1) u8 0)))
def k15 (x : X) (a0 : PySem.Str) (a1 : PySem.Stmt) : PySem.Obj := (M u8 (u32 (u33 a0 a0 (f1 a1) (u34 (f2 a1)) (f6 a1) 0 u35 u8 u8 u8 u8 u2 u8 u8 0)))
def k16 (x : X) (a0 : PySem.Str) (a1 : PySem.Stmt) (a2 : Nat) : PySem.Obj := (M (u1 (l17 x)) (u32 (u33 a0 a0 (f1 a1) (u34 (f2 a1)) (f6 a1) 3 u35 u8 u8 u8 (u11 (s55 x) 354) u2 (u13 a2) u8 0)))
variable (x : X)
def o43 := k0 x 
def o44 (x : X) : Obj := (M u8 (u9 (u4 u5)))
def o45 := k1 x (s0 x) 182 183 184 1 11 12 185 186
def o46 := k2 x 13 3 (s2 x) 164
def o49 := (M (u1 (l3 x)) (u20 (u21 [(E x (s3 x) 165 (u11 (s4 x) 187)), (E x (s5 x) 166 u8), (E x (s6 x) 167 u8), (E x (s7 x) 168 (u25 (l4 x))), (E x (s8 x) 169 u8), (E x (s9 x) 170 (u13 6)), (E x (s10 x) 171 (u13 4)), (E x (s11 x) 173 (u11 (s1 x) 172)), (E x (s12 x) 174 u8), (E x (s13 x) 206 (u13 24))]) 10))
def o50 (x : X) : Obj := (M u8 (u9 (u4 [(u12 2 0), (u12 0 0), (u13 20)])))
def o51 := (M (u1 (l0 x)) (u3 (u4 [(u1 (l5 x))]) 0))
def o52 := k3 x 
def o53 := (M (u1 (l3 x)) (u20 (u21 [(E x (s14 x) 196 (u11 (s4 x) 187)), (E x (s15 x) 198 (u11 (s13 x) 197)), (E x (s16 x) 200 (u12 2 199)), (E x (s17 x) 201 (u13 22))]) 4))
def o54 := k0 x 
def o55 (x : X) : Obj := (M u8 (u9 (u4 u5)))
def o56 := k1 x (s13 x) 191 192 193 2 18 19 194 195
def o57 := k2 x 20 17 (s4 x) 187
def o58 := k0 x 
def o59 := (M (u1 (l3 x)) (u20 (u21 [(E x (s14 x) 196 (u11 (s4 x) 187)), (E x (s16 x) 200 (u12 2 199)), (E x (s17 x) 201 (u13 22)), (E x (s18 x) 203 (u13 25)), (E x (s5 x) 204 u8)]) 3))
def o60 := (u0 (u1 (l8 x)) u2 (u27 (u28 (s13 x) [(u1 (l5 x))] [(u13 24), (u1 (l5 x)), (u1 (l9 x)), (u1 (l10 x)), (u1 (l11 x))] 23 (s13 x) u29 u30 u5 u15 u31 u15)) (u6 [(u18 (u13 15)), u19, (u18 (u11 (s13 x) 189)), (u18 (u11 (s13 x) 197)), (u18 (u25 (l12 x))), (u18 (u14 u29))]))
def o61 := (M (u1 (l13 x)) (u9 (u4 [(u11 (s18 x) 202), (u13 24), (u25 (l14 x)), u8])))
def o62 := k4 x 24
def o63 := k5 x 24
def o64 := (M (u1 (l3 x)) (u20 (u21 [(E x (s3 x) 165 (u11 (s4 x) 187)), (E x (s5 x) 166 u8), (E x (s6 x) 167 u8), (E x (s7 x) 168 (u25 (l4 x))), (E x (s8 x) 169 u8), (E x (s9 x) 170 (u13 6)), (E x (s10 x) 171 (u13 4)), (E x (s11 x) 173 (u11 (s1 x) 172)), (E x (s12 x) 174 u8), (E x (s13 x) 206 (u13 24)), (E x (s19 x) 231 (u13 44))]) 11))
def o65 (x : X) : Obj := (M u8 (u9 (u4 [(u12 2 0), (u12 0 0), (u13 20), (u12 4 0), (u12 0 0), (u13 33)])))
def o66 := (u0 (u1 (l8 x)) u2 (u27 (u28 (s13 x) [(u1 (l5 x))] [(u13 24), (u1 (l5 x)), (u1 (l9 x)), (u1 (l10 x)), (u1 (l11 x))] 23 (s13 x) u29 u30 [(u13 44)] u15 u31 u15)) (u6 [(u18 (u13 15)), u19, (u18 (u11 (s13 x) 189)), (u18 (u11 (s13 x) 197)), (u18 (u25 (l12 x))), (u18 (u14 u29))]))
def o67 := (M (u1 (l0 x)) (u3 (u4 [(u13 24)]) 0))
def o68 := k3 x 
def o69 := (M (u1 (l3 x)) (u20 (u21 [(E x (s14 x) 214 (u11 (s4 x) 187)), (E x (s15 x) 216 (u11 (s19 x) 215)), (E x (s16 x) 218 (u12 4 217)), (E x (s20 x) 226 (u13 41)), (E x (s17 x) 228 (u13 42))]) 5))
def o70 := k0 x 
def o71 (x : X) : Obj := (M u8 (u9 (u4 [(u12 6 0), (u12 4 0), (u13 40)])))
def o72 := k1 x (s19 x) 209 210 211 4 31 32 212 213
def o73 := k2 x 33 30 (s4 x) 187
def o74 := k0 x 
def o75 (x : X) : Obj := (M u8 (u9 (u4 u5)))
def o76 := k6 x (s21 x) 222 (s22 x) 223
def o77 := k0 x 
def o78 := k7 x (s20 x) (s23 x) (sm x 2 0)
def o79 := k8 x (s20 x) 219 (s23 x) 220 221 6 2 35 36 37 38 39 224 225
def o80 := k9 x (s20 x) (s23 x) (sm x 2 0) (s4 x) 187 40
def o81 := k10 x (s22 x) 227
def o82 := (M (u1 (l3 x)) (u20 (u21 [(E x (s14 x) 214 (u11 (s4 x) 187)), (E x (s16 x) 218 (u12 4 217)), (E x (s20 x) 226 (u13 41)), (E x (s17 x) 228 (u13 42)), (E x (s5 x) 229 u8)]) 2))
def o83 := (u0 (u1 (l8 x)) u2 (u27 (u28 (s19 x) [(u13 24)] [(u13 44), (u13 24), (u1 (l5 x)), (u1 (l9 x)), (u1 (l10 x)), (u1 (l11 x))] 43 (s19 x) u29 u30 u5 u15 u31 u15)) (u6 [(u18 (u13 28)), u19, (u18 (u11 (s19 x) 207)), (u18 (u11 (s19 x) 215)), (u18 (u25 (l12 x))), (u18 (u14 u29))]))
def o84 := k4 x 44
def o85 := k5 x 44
def o86 := (M (u1 (l3 x)) (u20 (u21 [(E x (s3 x) 165 (u11 (s24 x) 248)), (E x (s5 x) 166 u8), (E x (s6 x) 167 u8), (E x (s7 x) 168 (u25 (l4 x))), (E x (s8 x) 169 u8), (E x (s9 x) 170 (u13 6)), (E x (s10 x) 171 (u13 4)), (E x (s11 x) 173 (u11 (s1 x) 172)), (E x (s12 x) 174 u8), (E x (s13 x) 206 (u13 24)), (E x (s19 x) 231 (u13 44)), (E x (s25 x) 247 (u13 56))]) 12))
def o87 (x : X) : Obj := (M u8 (u9 (u4 [(u12 2 0), (u12 0 0), (u13 20), (u12 4 0), (u12 0 0), (u13 33), (u12 8 0), (u12 0 0), (u13 52)])))
def o88 := (u0 (u1 (l8 x)) u2 (u27 (u28 (s13 x) [(u1 (l5 x))] [(u13 24), (u1 (l5 x)), (u1 (l9 x)), (u1 (l10 x)), (u1 (l11 x))] 23 (s13 x) u29 u30 [(u13 44), (u13 56)] u15 u31 u15)) (u6 [(u18 (u13 15)), u19, (u18 (u11 (s13 x) 189)), (u18 (u11 (s13 x) 197)), (u18 (u25 (l12 x))), (u18 (u14 u29))]))
def o89 := (M (u1 (l0 x)) (u3 (u4 [(u13 24)]) 0))
def o90 := k3 x 
def o91 := (M (u1 (l3 x)) (u20 (u21 [(E x (s14 x) 239 (u11 (s4 x) 187)), (E x (s15 x) 241 (u11 (s25 x) 240)), (E x (s16 x) 243 (u12 8 242)), (E x (s17 x) 244 (u13 54))]) 4))
def o92 := k0 x 
def o93 (x : X) : Obj := (M u8 (u9 (u4 u5)))
def o94 := k1 x (s25 x) 234 235 236 8 50 51 237 238
def o95 := k2 x 52 49 (s4 x) 187
def o96 := k0 x 
def o97 := (M (u1 (l3 x)) (u20 (u21 [(E x (s14 x) 239 (u11 (s4 x) 187)), (E x (s16 x) 243 (u12 8 242)), (E x (s17 x) 244 (u13 54)), (E x (s5 x) 245 u8)]) 2))
def o98 := (u0 (u1 (l8 x)) u2 (u27 (u28 (s25 x) [(u13 24)] [(u13 56), (u13 24), (u1 (l5 x)), (u1 (l9 x)), (u1 (l10 x)), (u1 (l11 x))] 55 (s25 x) u29 u30 u5 u15 u31 u15)) (u6 [(u18 (u13 47)), u19, (u18 (u11 (s25 x) 232)), (u18 (u11 (s25 x) 240)), (u18 (u25 (l12 x))), (u18 (u14 u29))]))
def o99 := k4 x 56
def o100 := k5 x 56
def o101 := (M (u1 (l3 x)) (u20 (u21 [(E x (s3 x) 165 (u11 (s24 x) 248)), (E x (s5 x) 166 u8), (E x (s6 x) 167 u8), (E x (s7 x) 168 (u25 (l4 x))), (E x (s8 x) 169 u8), (E x (s9 x) 170 (u13 6)), (E x (s10 x) 171 (u13 4)), (E x (s11 x) 173 (u11 (s1 x) 172)), (E x (s12 x) 174 u8), (E x (s13 x) 206 (u13 24)), (E x (s19 x) 231 (u13 44)), (E x (s25 x) 247 (u13 56)), (E x (s26 x) 353 (u13 138))]) 13))
def o102 (x : X) : Obj := (M u8 (u9 (u4 [(u12 2 0), (u12 0 0), (u13 20), (u12 4 0), (u12 0 0), (u13 33), (u12 8 0), (u12 0 0), (u13 52), (u12 11 0), (u12 0 0), (u13 64)])))
def o103 := k0 x 
def o104 := k3 x 
def o105 := (M (u1 (l3 x)) (u20 (u21 [(E x (s14 x) 257 (u11 (s24 x) 248)), (E x (s15 x) 259 (u11 (s26 x) 258)), (E x (s16 x) 261 (u12 11 260)), (E x (s20 x) 268 (u13 72)), (E x (s27 x) 276 (u13 79)), (E x (s28 x) 283 (u13 86)), (E x (s29 x) 292 (u13 93)), (E x (s30 x) 299 (u13 100)), (E x (s31 x) 306 (u13 107)), (E x (s32 x) 315 (u13 114)), (E x (s33 x) 325 (u13 121)), (E x (s34 x) 334 (u13 128)), (E x (s35 x) 344 (u13 135)), (E x (s17 x) 346 (u13 136))]) 14))
def o106 := k0 x 
def o107 (x : X) : Obj := (M u8 (u9 (u4 [(u12 13 0), (u12 4 0), (u13 71), (u12 16 0), (u12 4 0), (u13 78), (u12 20 0), (u12 4 0), (u13 85), (u12 25 0), (u12 4 0), (u13 92), (u12 33 0), (u12 4 0), (u13 99), (u12 36 0), (u12 4 0), (u13 106), (u12 39 0), (u12 4 0), (u13 113), (u12 45 0), (u12 4 0), (u13 120), (u12 53 0), (u12 4 0), (u13 127), (u12 59 0), (u12 4 0), (u13 134)])))
def o108 := k1 x (s26 x) 252 253 254 11 62 63 255 256
def o109 := k2 x 64 61 (s24 x) 248
def o110 := k0 x 
def o111 (x : X) : Obj := (M u8 (u9 (u4 u5)))
def o112 := k10 x (s21 x) 265
def o113 := k0 x 
def o114 := k7 x (s20 x) (s36 x) (sm x 5 0)
def o115 := k8 x (s20 x) 262 (s36 x) 263 264 13 1 66 67 68 69 70 266 267
def o116 := k9 x (s20 x) (s36 x) (sm x 5 0) (s24 x) 248 71
def o117 := k0 x 
def o118 (x : X) : Obj := (M u8 (u9 (u4 u5)))
def o119 := k6 x (s21 x) 272 (s37 x) 273
def o120 := k0 x 
def o121 := k7 x (s27 x) (s38 x) (sm x 5 1)
def o122 := k8 x (s27 x) 269 (s38 x) 270 271 16 2 73 74 75 76 77 274 275
def o123 := k9 x (s27 x) (s38 x) (sm x 5 1) (s24 x) 248 78
def o124 := k0 x 
def o125 (x : X) : Obj := (M u8 (u9 (u4 u5)))
def o126 := k10 x (s21 x) 280
def o127 := k0 x 
def o128 := k7 x (s28 x) (s39 x) (sm x 5 2)
def o129 := k8 x (s28 x) 277 (s39 x) 278 279 20 1 80 81 82 83 84 281 282
def o130 := k9 x (s28 x) (s39 x) (sm x 5 2) (s24 x) 248 85
def o131 := k0 x 
def o132 (x : X) : Obj := (M u8 (u9 (u4 u5)))
def o133 := k11 x (s21 x) 287 (s37 x) 288 (s40 x) 289
def o134 := k0 x 
def o135 := k7 x (s29 x) (s41 x) (sm x 5 3)
def o136 := k8 x (s29 x) 284 (s41 x) 285 286 25 1 87 88 89 90 91 290 291
def o137 := k9 x (s29 x) (s41 x) (sm x 5 3) (s24 x) 248 92
def o138 := k0 x 
def o139 (x : X) : Obj := (M u8 (u9 (u4 u5)))
def o140 := k10 x (s21 x) 296
def o141 := k0 x 
def o142 := k7 x (s30 x) (s42 x) (sm x 5 4)
def o143 := k8 x (s30 x) 293 (s42 x) 294 295 33 1 94 95 96 97 98 297 298
def o144 := k9 x (s30 x) (s42 x) (sm x 5 4) (s24 x) 248 99
def o145 := k0 x 
def o146 (x : X) : Obj := (M u8 (u9 (u4 u5)))
def o147 := k10 x (s21 x) 303
def o148 := k0 x 
def o149 := k7 x (s31 x) (s43 x) (sm x 5 5)
def o150 := k8 x (s31 x) 300 (s43 x) 301 302 36 1 101 102 103 104 105 304 305
def o151 := k9 x (s31 x) (s43 x) (sm x 5 5) (s24 x) 248 106
def o152 := k0 x 
def o153 (x : X) : Obj := (M u8 (u9 (u4 u5)))
def o154 := k11 x (s21 x) 310 (s44 x) 311 (s45 x) 312
def o155 := k0 x 
def o156 := k7 x (s32 x) (s46 x) (sm x 5 6)
def o157 := k8 x (s32 x) 307 (s46 x) 308 309 39 2 108 109 110 111 112 313 314
def o158 := k9 x (s32 x) (s46 x) (sm x 5 6) (s24 x) 248 113
def o159 := k0 x 
def o160 (x : X) : Obj := (M u8 (u9 (u4 u5)))
def o161 := k12 x (s21 x) 319 (s44 x) 320 (s47 x) 321 (s45 x) 322
def o162 := k0 x 
def o163 := k7 x (s33 x) (s48 x) (sm x 5 7)
def o164 := k8 x (s33 x) 316 (s48 x) 317 318 45 2 115 116 117 118 119 323 324
def o165 := k9 x (s33 x) (s48 x) (sm x 5 7) (s24 x) 248 120
def o166 := k0 x 
def o167 (x : X) : Obj := (M u8 (u9 (u4 u5)))
def o168 := k11 x (s21 x) 329 (s44 x) 330 (s45 x) 331
def o169 := k0 x 
def o170 := (M u8 (u32 (u33 (f0 (sm x 5 8)) (s49 x) (f1 (sm x 5 8)) (u34 (f2 (sm x 5 8))) (f6 (sm x 5 8)) 0 u35 u8 u8 u8 u8 u2 u8 u8 0)))
def o171 := k8 x (s34 x) 326 (s49 x) 327 328 53 2 122 123 124 125 126 332 333
def o172 := (M (u1 (l17 x)) (u32 (u33 (f0 (sm x 5 8)) (s49 x) (f1 (sm x 5 8)) (u34 (f2 (sm x 5 8))) (f6 (sm x 5 8)) 3 u35 u8 u8 u8 (u11 (s24 x) 248) u2 (u13 127) u8 0)))
def o173 := k0 x 
def o174 (x : X) : Obj := (M u8 (u9 (u4 u5)))
def o175 := k12 x (s21 x) 338 (s50 x) 339 (s51 x) 340 (s37 x) 341
def o176 := k0 x 
def o177 := k7 x (s35 x) (s52 x) (sm x 5 9)
def o178 := k8 x (s35 x) 335 (s52 x) 336 337 59 3 129 130 131 132 133 342 343
def o179 := k9 x (s35 x) (s52 x) (sm x 5 9) (s24 x) 248 134
def o180 := k10 x (s53 x) 345
def o181 := (M (u1 (l3 x)) (u20 (u21 [(E x (s14 x) 257 (u11 (s24 x) 248)), (E x (s16 x) 261 (u12 11 260)), (E x (s20 x) 268 (u13 72)), (E x (s27 x) 276 (u13 79)), (E x (s28 x) 283 (u13 86)), (E x (s29 x) 292 (u13 93)), (E x (s30 x) 299 (u13 100)), (E x (s31 x) 306 (u13 107)), (E x (s32 x) 315 (u13 114)), (E x (s33 x) 325 (u13 121)), (E x (s34 x) 334 (u13 128)), (E x (s35 x) 344 (u13 135)), (E x (s17 x) 346 (u13 136)), (E x (s54 x) 348 (u13 139)), (E x (s18 x) 350 (u13 140)), (E x (s5 x) 351 u8)]) 4))
def o182 := (u0 (u1 (l8 x)) u2 (u27 (u28 (s26 x) [(u1 (l11 x))] [(u13 138), (u1 (l11 x))] 137 (s26 x) u29 u30 u5 u15 u31 u15)) (u6 [u19, u19, (u18 (u11 (s26 x) 250)), (u18 (u11 (s26 x) 258)), (u18 (u25 (l18 x))), (u18 (u14 u29))]))
def o183 := (M (u1 (l13 x)) (u9 (u4 [(u11 (s54 x) 347), (u13 138), (u25 (l19 x)), (u25 (l20 x))])))
def o184 := (M (u1 (l13 x)) (u9 (u4 [(u11 (s18 x) 349), (u13 138), (u25 (l14 x)), u8])))
def o185 := k4 x 138
def o186 := k5 x 138
def o187 := (M (u1 (l3 x)) (u20 (u21 [(E x (s3 x) 165 (u11 (s55 x) 354)), (E x (s5 x) 166 u8), (E x (s6 x) 167 u8), (E x (s7 x) 168 (u25 (l4 x))), (E x (s8 x) 169 u8), (E x (s9 x) 170 (u13 6)), (E x (s10 x) 171 (u13 4)), (E x (s11 x) 173 (u11 (s1 x) 172)), (E x (s12 x) 174 u8), (E x (s13 x) 206 (u13 24)), (E x (s19 x) 231 (u13 44)), (E x (s25 x) 247 (u13 56)), (E x (s26 x) 353 (u13 138)), (E x (s56 x) 363 (u13 149)), (E x (s57 x) 370 (u13 156)), (E x (s58 x) 381 (u13 163)), (E x (s59 x) 390 (u13 170)), (E x (s60 x) 396 (u13 175)), (E x (s61 x) 402 (u13 180)), (E x (s62 x) 412 (u13 187)), (E x (s63 x) 419 (u13 194)), (E x (s64 x) 429 (u13 201)), (E x (s65 x) 437 (u13 208)), (E x (s66 x) 453 (u13 215))]) 24))
def o188 (x : X) : Obj := (M u8 (u9 (u4 (u10 (u12 2 0) (u10 (u12 0 0) (u10 (u13 20) (u10 (u12 4 0) (u10 (u12 0 0) [(u13 33), (u12 8 0), (u12 0 0), (u13 52), (u12 11 0), (u12 0 0), (u13 64), (u12 64 0), (u12 0 0), (u13 148), (u12 68 0), (u12 0 0), (u13 155), (u12 70 0), (u12 0 0), (u13 162), (u12 77 0), (u12 0 0), (u13 169), (u12 83 0), (u12 0 0), (u13 174), (u12 88 0), (u12 0 0), (u13 179), (u12 94 0), (u12 0 0), (u13 186), (u12 104 0), (u12 0 0), (u13 193), (u12 106 0), (u12 0 0), (u13 200), (u12 115 0), (u12 0 0), (u13 207), (u12 120 0), (u12 0 0), (u13 214)]))))))))
def o189 := k0 x 
def o190 (x : X) : Obj := (M u8 (u9 (u4 u5)))
def o191 := k6 x (s67 x) 359 (s68 x) 360
def o192 := k0 x 
def o193 := k13 x (st x 7)
def o194 := k8 x (s56 x) 356 (s56 x) 357 358 64 2 143 144 145 146 147 361 362
def o195 := k14 x (st x 7) 148
def o196 := k0 x 
def o197 (x : X) : Obj := (M u8 (u9 (u4 u5)))
def o198 := k10 x (s69 x) 367
def o199 := k0 x 
def o200 := k15 x (s57 x) (st x 8)
def o201 := k8 x (s57 x) 364 (s57 x) 365 366 68 1 150 151 152 153 154 368 369
def o202 := k16 x (s57 x) (st x 8) 155
def o203 := k0 x 
def o204 (x : X) : Obj := (M u8 (u9 (u4 u5)))
def o205 := (M (u1 (l0 x)) (u3 (u4 [(u11 (s70 x) 374), (u11 (s71 x) 375), (u11 (s69 x) 376), (u11 (s72 x) 377), (u11 (s68 x) 378)]) 0))
def o206 := k0 x 
def o207 := k15 x (s58 x) (st x 9)
def o208 := k8 x (s58 x) 371 (s58 x) 372 373 70 2 157 158 159 160 161 379 380
def o209 := k16 x (s58 x) (st x 9) 162
def o210 := k0 x 
def o211 (x : X) : Obj := (M u8 (u9 (u4 u5)))
def o212 := k11 x (s73 x) 385 (s68 x) 386 (s74 x) 387
def o213 := k0 x 
def o214 := k13 x (st x 10)
def o215 := k8 x (s59 x) 382 (s59 x) 383 384 77 3 164 165 166 167 168 388 389
def o216 := k14 x (st x 10) 169
def o217 := k0 x 
def o218 (x : X) : Obj := (M u8 (u9 (u4 u5)))
def o219 := k15 x (s60 x) (st x 11)
def o220 := (M (u1 (l1 x)) (u9 (u4 [(u11 (s60 x) 391), (u11 (s60 x) 392), (u11 (s1 x) 393), (u12 83 0), (u12 2 0), (u12 0 0), (u12 0 0), (u12 3 0), (u13 171), (u14 u29), (u12 181 0), (u13 172), u8, u8, u8, (u13 173), (u12 394 0), (u12 83 0), (u11 (s1 x) 395)])))
def o221 := k16 x (s60 x) (st x 11) 174
def o222 := k0 x 
def o223 (x : X) : Obj := (M u8 (u9 (u4 u5)))
def o224 := k15 x (s61 x) (st x 12)
def o225 := (M (u1 (l1 x)) (u9 (u4 [(u11 (s61 x) 397), (u11 (s61 x) 398), (u11 (s1 x) 399), (u12 88 0), (u12 2 0), (u12 0 0), (u12 0 0), (u12 3 0), (u13 176), (u14 u29), (u12 181 0), (u13 177), u8, u8, u8, (u13 178), (u12 400 0), (u12 88 0), (u11 (s1 x) 401)])))
def o226 := k16 x (s61 x) (st x 12) 179
def o227 := k0 x 
def o228 (x : X) : Obj := (M u8 (u9 (u4 u5)))
def o229 := k12 x (s75 x) 406 (s76 x) 407 (s77 x) 408 (s78 x) 409
def o230 := k0 x 
def o231 := k13 x (st x 13)
def o232 := k8 x (s62 x) 403 (s62 x) 404 405 94 2 181 182 183 184 185 410 411
def o233 := k14 x (st x 13) 186
def o234 := k0 x 
def o235 (x : X) : Obj := (M u8 (u9 (u4 u5)))
def o236 := k10 x (s75 x) 416
def o237 := k0 x 
def o238 := k15 x (s63 x) (st x 14)
def o239 := k8 x (s63 x) 413 (s63 x) 414 415 104 1 188 189 190 191 192 417 418
def o240 := k16 x (s63 x) (st x 14) 193
def o241 := k0 x 
def o242 (x : X) : Obj := (M u8 (u9 (u4 u5)))
def o243 := k12 x (s75 x) 423 (s79 x) 424 (s69 x) 425 (s68 x) 426
def o244 := k0 x 
def o245 := k15 x (s64 x) (st x 15)
def o246 := k8 x (s64 x) 420 (s64 x) 421 422 106 2 195 196 197 198 199 427 428
def o247 := k16 x (s64 x) (st x 15) 200
def o248 := k0 x 
def o249 (x : X) : Obj := (M u8 (u9 (u4 u5)))
def o250 := k6 x (s75 x) 433 (s79 x) 434
def o251 := k0 x 
def o252 := k15 x (s65 x) (st x 16)
def o253 := k8 x (s65 x) 430 (s65 x) 431 432 115 2 202 203 204 205 206 435 436
def o254 := k16 x (s65 x) (st x 16) 207
def o255 := k0 x 
def o256 (x : X) : Obj := (M u8 (u9 (u4 u5)))
def o257 := (M (u1 (l0 x)) (u3 (u4 [(u11 (s67 x) 441), (u11 (s74 x) 442), (u11 (s80 x) 443), (u11 (s81 x) 444), (u11 (s70 x) 445), (u11 (s73 x) 446), (u11 (s82 x) 447), (u11 (s83 x) 448), (u11 (s75 x) 449), (u11 (s79 x) 450)]) 0))
def o258 := k0 x 
def o259 := k15 x (s66 x) (st x 17)
def o260 := k8 x (s66 x) 438 (s66 x) 439 440 120 1 209 210 211 212 213 451 452
def o261 := k16 x (s66 x) (st x 17) 214
def q1 (x : X) : PySem.Obj := (M u8 (u20 (u21 u26) 0))
def heap39 : X->PySem.W.Frag := (J 2 q1 (J 3 o187 (J 15 o51 (J 22 o258 (J 23 o59 (J 24 o88 (J 25 o61 (J 28 o89 (J 35 o258 (J 37 o76 (J 38 o258 (J 40 o79 (J 41 o80 (J 42 o81 (J 43 o82 (J 44 o83 (J 47 o89 (J 54 o258 (J 55 o97 (J 56 o98 (J 66 o258 (J 68 o112 (J 69 o258 (J 71 o115 (J 72 o116 (J 73 o258 (J 75 o119 (J 76 o258 (J 78 o122 (J 79 o123 (J 80 o258 (J 82 o126 (J 83 o258 (J 85 o129 (J 86 o130 (J 87 o258 (J 89 o133 (J 90 o258 (J 92 o136 (J 93 o137 (J 94 o258 (J 96 o140 (J 97 o258 (J 99 o143 (J 100 o144 (J 101 o258 (J 103 o147 (J 104 o258 (J 106 o150 (J 107 o151 (J 108 o258 (J 110 o154 (J 111 o258 (J 113 o157 (J 114 o158 (J 115 o258 (J 117 o161 (J 118 o258 (J 120 o164 (J 121 o165 (J 122 o258 (J 124 o168 (J 125 o258 (J 127 o171 (J 128 o172 (J 129 o258 (J 131 o175 (J 132 o258 (J 134 o178 (J 135 o179 (J 136 o180 (J 137 o181 (J 138 o182 (J 139 o183 (J 140 o184 (J 143 o258 (J 145 o191 (J 146 o258 (J 148 o194 (J 149 o195 (J 150 o258 (J 152 o198 (J 153 o258 (J 155 o201 (J 156 o202 (J 157 o258 (J 159 o205 (J 160 o258 (J 162 o208 (J 163 o209 (J 164 o258 (J 166 o212 (J 167 o258 (J 169 o215 (J 170 o216 (J 171 o258 (J 174 o220 (J 175 o221 (J 176 o258 (J 179 o225 (J 180 o226 (J 181 o258 (J 183 o229 (J 184 o258 (J 186 o232 (J 187 o233 (J 188 o258 (J 190 o236 (J 191 o258 (J 193 o239 (J 194 o240 (J 195 o258 (J 197 o243 (J 198 o258 (J 200 o246 (J 201 o247 (J 202 o258 (J 204 o250 (J 205 o258 (J 207 o253 (J 208 o254 (J 209 o258 (J 211 o257 (J 212 o258 (J 214 o260 (J 215 o261 I))))))))))))))))))))))))))))))))))))))))))))))))))))))))))))))))))))))))))))))))))))))))))))))))))))))))))))))))))))))))))))))
def heap46 : X->PySem.Heap := fun x => u39 (u40 ((Q b0 (Q b1 (Q b2 (Q b3 (Q b4 (Q b5 (Q b6 (Q b7 (Q b8 (Q b9 (Q b10 (Q o43 (Q o44 (Q o45 (Q o46 R))))))))))))))) x)) (u43 u44 u44 u44 0 u45 u44 u15 (u46 u44) u44 0 u15 u15 u15 0 [2000, 10, 10] u15 0 u29 u44 u44 0 u15)
def tree47 : X->PySem.W.BT := (N b0 (N b1 (N b3 (N b7 Z Z) (N o43 Z Z)) (N b5 (N b9 Z Z) (N o45 Z Z))) (N b2 (N b4 (N b8 Z Z) (N o44 Z Z)) (N b6 (N b10 Z Z) (N o46 Z Z))))
def tree63 : X->PySem.W.BT := (N b0 (N b1 (N o49 (N b7 (N o51 Z Z) (N o59 Z Z)) (N o43 (N o55 Z Z) (N o63 Z Z))) (N b5 (N b9 (N o53 Z Z) (N o61 Z Z)) (N o45 (N o57 Z Z) Z))) (N b2 (N b4 (N b8 (N o52 Z Z) (N o60 Z Z)) (N o50 (N o56 Z Z) Z)) (N b6 (N b10 (N o54 Z Z) (N o62 Z Z)) (N o46 (N o58 Z Z) Z))))
def tree85 : X->PySem.W.BT := (N b0 (N b1 (N o64 (N b7 (N o51 (N o70 Z Z) Z) (N o59 (N o78 Z Z) Z)) (N o43 (N o55 (N o74 Z Z) Z) (N o63 (N o82 Z Z) Z))) (N b5 (N b9 (N o53 (N o72 Z Z) Z) (N o61 (N o80 Z Z) Z)) (N o45 (N o57 (N o76 Z Z) Z) (N o68 (N o84 Z Z) Z)))) (N b2 (N b4 (N b8 (N o52 (N o71 Z Z) Z) (N o66 (N o79 Z Z) Z)) (N o65 (N o56 (N o75 Z Z) Z) (N o67 (N o83 Z Z) Z))) (N b6 (N b10 (N o54 (N o73 Z Z) Z) (N o62 (N o81 Z Z) Z)) (N o46 (N o58 (N o77 Z Z) Z) (N o69 (N o85 Z Z) Z)))))
def tree100 : X->PySem.W.BT := (N b0 (N b1 (N o86 (N b7 (N o51 (N o70 Z Z) (N o89 Z Z)) (N o59 (N o78 Z Z) (N o97 Z Z))) (N o43 (N o55 (N o74 Z Z) (N o93 Z Z)) (N o63 (N o82 Z Z) Z))) (N b5 (N b9 (N o53 (N o72 Z Z) (N o91 Z Z)) (N o61 (N o80 Z Z) (N o99 Z Z))) (N o45 (N o57 (N o76 Z Z) (N o95 Z Z)) (N o68 (N o84 Z Z) Z)))) (N b2 (N b4 (N b8 (N o52 (N o71 Z Z) (N o90 Z Z)) (N o88 (N o79 Z Z) (N o98 Z Z))) (N o87 (N o56 (N o75 Z Z) (N o94 Z Z)) (N o67 (N o83 Z Z) Z))) (N b6 (N b10 (N o54 (N o73 Z Z) (N o92 Z Z)) (N o62 (N o81 Z Z) (N o100 Z Z))) (N o46 (N o58 (N o77 Z Z) (N o96 Z Z)) (N o69 (N o85 Z Z) Z)))))
def tree186 : X->PySem.W.BT := (N b0 (N b1 (N o101 (N b7 (N o51 (N o70 (N o107 (N o171 Z Z) Z) (N o139 Z Z)) (N o89 (N o123 Z Z) (N o155 Z Z))) (N o59 (N o78 (N o115 (N o179 Z Z) Z) (N o147 Z Z)) (N o97 (N o131 Z Z) (N o163 Z Z)))) (N o43 (N o55 (N o74 (N o111 (N o175 Z Z) Z) (N o143 Z Z)) (N o93 (N o127 Z Z) (N o159 Z Z))) (N o63 (N o82 (N o119 (N o183 Z Z) Z) (N o151 Z Z)) (N o103 (N o135 Z Z) (N o167 Z Z))))) (N b5 (N b9 (N o53 (N o72 (N o109 (N o173 Z Z) Z) (N o141 Z Z)) (N o91 (N o125 Z Z) (N o157 Z Z))) (N o61 (N o80 (N o117 (N o181 Z Z) Z) (N o149 Z Z)) (N o99 (N o133 Z Z) (N o165 Z Z)))) (N o45 (N o57 (N o76 (N o113 (N o177 Z Z) Z) (N o145 Z Z)) (N o95 (N o129 Z Z) (N o161 Z Z))) (N o68 (N o84 (N o121 (N o185 Z Z) Z) (N o153 Z Z)) (N o105 (N o137 Z Z) (N o169 Z Z)))))) (N b2 (N b4 (N b8 (N o52 (N o71 (N o108 (N o172 Z Z) Z) (N o140 Z Z)) (N o90 (N o124 Z Z) (N o156 Z Z))) (N o88 (N o79 (N o116 (N o180 Z Z) Z) (N o148 Z Z)) (N o98 (N o132 Z Z) (N o164 Z Z)))) (N o102 (N o56 (N o75 (N o112 (N o176 Z Z) Z) (N o144 Z Z)) (N o94 (N o128 Z Z) (N o160 Z Z))) (N o67 (N o83 (N o120 (N o184 Z Z) Z) (N o152 Z Z)) (N o104 (N o136 Z Z) (N o168 Z Z))))) (N b6 (N b10 (N o54 (N o73 (N o110 (N o174 Z Z) Z) (N o142 Z Z)) (N o92 (N o126 Z Z) (N o158 Z Z))) (N o62 (N o81 (N o118 (N o182 Z Z) Z) (N o150 Z Z)) (N o100 (N o134 Z Z) (N o166 Z Z)))) (N o46 (N o58 (N o77 (N o114 (N o178 Z Z) Z) (N o146 Z Z)) (N o96 (N o130 Z Z) (N o162 Z Z))) (N o69 (N o85 (N o122 (N o186 Z Z) Z) (N o154 Z Z)) (N o106 (N o138 Z Z) (N o170 Z Z)))))))
def tree261 : X->PySem.W.BT := (N b0 (N b1 (N o187 (N b7 (N o51 (N o70 (N o107 (N o171 Z Z) (N o237 Z Z)) (N o139 (N o205 Z Z) Z)) (N o89 (N o123 (N o189 Z Z) (N o253 Z Z)) (N o155 (N o221 Z Z) Z))) (N o59 (N o78 (N o115 (N o179 Z Z) (N o245 Z Z)) (N o147 (N o213 Z Z) Z)) (N o97 (N o131 (N o197 Z Z) (N o261 Z Z)) (N o163 (N o229 Z Z) Z)))) (N o43 (N o55 (N o74 (N o111 (N o175 Z Z) (N o241 Z Z)) (N o143 (N o209 Z Z) Z)) (N o93 (N o127 (N o193 Z Z) (N o257 Z Z)) (N o159 (N o225 Z Z) Z))) (N o63 (N o82 (N o119 (N o183 Z Z) (N o249 Z Z)) (N o151 (N o217 Z Z) Z)) (N o103 (N o135 (N o201 Z Z) Z) (N o167 (N o233 Z Z) Z))))) (N b5 (N b9 (N o53 (N o72 (N o109 (N o173 Z Z) (N o239 Z Z)) (N o141 (N o207 Z Z) Z)) (N o91 (N o125 (N o191 Z Z) (N o255 Z Z)) (N o157 (N o223 Z Z) Z))) (N o61 (N o80 (N o117 (N o181 Z Z) (N o247 Z Z)) (N o149 (N o215 Z Z) Z)) (N o99 (N o133 (N o199 Z Z) Z) (N o165 (N o231 Z Z) Z)))) (N o45 (N o57 (N o76 (N o113 (N o177 Z Z) (N o243 Z Z)) (N o145 (N o211 Z Z) Z)) (N o95 (N o129 (N o195 Z Z) (N o259 Z Z)) (N o161 (N o227 Z Z) Z))) (N o68 (N o84 (N o121 (N o185 Z Z) (N o251 Z Z)) (N o153 (N o219 Z Z) Z)) (N o105 (N o137 (N o203 Z Z) Z) (N o169 (N o235 Z Z) Z)))))) (N b2 (N b4 (N b8 (N o52 (N o71 (N o108 (N o172 Z Z) (N o238 Z Z)) (N o140 (N o206 Z Z) Z)) (N o90 (N o124 (N o190 Z Z) (N o254 Z Z)) (N o156 (N o222 Z Z) Z))) (N o88 (N o79 (N o116 (N o180 Z Z) (N o246 Z Z)) (N o148 (N o214 Z Z) Z)) (N o98 (N o132 (N o198 Z Z) Z) (N o164 (N o230 Z Z) Z)))) (N o188 (N o56 (N o75 (N o112 (N o176 Z Z) (N o242 Z Z)) (N o144 (N o210 Z Z) Z)) (N o94 (N o128 (N o194 Z Z) (N o258 Z Z)) (N o160 (N o226 Z Z) Z))) (N o67 (N o83 (N o120 (N o184 Z Z) (N o250 Z Z)) (N o152 (N o218 Z Z) Z)) (N o104 (N o136 (N o202 Z Z) Z) (N o168 (N o234 Z Z) Z))))) (N b6 (N b10 (N o54 (N o73 (N o110 (N o174 Z Z) (N o240 Z Z)) (N o142 (N o208 Z Z) Z)) (N o92 (N o126 (N o192 Z Z) (N o256 Z Z)) (N o158 (N o224 Z Z) Z))) (N o62 (N o81 (N o118 (N o182 Z Z) (N o248 Z Z)) (N o150 (N o216 Z Z) Z)) (N o100 (N o134 (N o200 Z Z) Z) (N o166 (N o232 Z Z) Z)))) (N o46 (N o58 (N o77 (N o114 (N o178 Z Z) (N o244 Z Z)) (N o146 (N o212 Z Z) Z)) (N o96 (N o130 (N o196 Z Z) (N o260 Z Z)) (N o162 (N o228 Z Z) Z))) (N o69 (N o85 (N o122 (N o186 Z Z) (N o252 Z Z)) (N o154 (N o220 Z Z) Z)) (N o106 (N o138 (N o204 Z Z) Z) (N o170 (N o236 Z Z) Z)))))))
def heap262 : X->PySem.Heap := fun x => u39 (u40 ((Q b0 (Q b1 (Q b2 (Q o187 (Q b4 (Q b5 (Q b6 (Q b7 (Q b8 (Q b9 (Q b10 (Q o43 (Q o188 (Q o45 (Q o46 (Q o51 (Q o52 (Q o53 (Q o54 (Q o55 (Q o56 (Q o57 (Q o58 (Q o59 (Q o88 (Q o61 (Q o62 (Q o63 (Q o67 (Q o68 (Q o69 (Q o70 (Q o71 (Q o72 (Q o73 (Q o74 (Q o75 (Q o76 (Q o77 (Q o78 (Q o79 (Q o80 (Q o81 (Q o82 (Q o83 (Q o84 (Q o85 (Q o89 (Q o90 (Q o91 (Q o92 (Q o93 (Q o94 (Q o95 (Q o96 (Q o97 (Q o98 (Q o99 (Q o100 (Q o103 (Q o104 (Q o105 (Q o106 (Q o107 (Q o108 (Q o109 (Q o110 (Q o111 (Q o112 (Q o113 (Q o114 (Q o115 (Q o116 (Q o117 (Q o118 (Q o119 (Q o120 (Q o121 (Q o122 (Q o123 (Q o124 (Q o125 (Q o126 (Q o127 (Q o128 (Q o129 (Q o130 (Q o131 (Q o132 (Q o133 (Q o134 (Q o135 (Q o136 (Q o137 (Q o138 (Q o139 (Q o140 (Q o141 (Q o142 (Q o143 (Q o144 (Q o145 (Q o146 (Q o147 (Q o148 (Q o149 (Q o150 (Q o151 (Q o152 (Q o153 (Q o154 (Q o155 (Q o156 (Q o157 (Q o158 (Q o159 (Q o160 (Q o161 (Q o162 (Q o163 (Q o164 (Q o165 (Q o166 (Q o167 (Q o168 (Q o169 (Q o170 (Q o171 (Q o172 (Q o173 (Q o174 (Q o175 (Q o176 (Q o177 (Q o178 (Q o179 (Q o180 (Q o181 (Q o182 (Q o183 (Q o184 (Q o185 (Q o186 (Q o189 (Q o190 (Q o191 (Q o192 (Q o193 (Q o194 (Q o195 (Q o196 (Q o197 (Q o198 (Q o199 (Q o200 (Q o201 (Q o202 (Q o203 (Q o204 (Q o205 (Q o206 (Q o207 (Q o208 (Q o209 (Q o210 (Q o211 (Q o212 (Q o213 (Q o214 (Q o215 (Q o216 (Q o217 (Q o218 (Q o219 (Q o220 (Q o221 (Q o222 (Q o223 (Q o224 (Q o225 (Q o226 (Q o227 (Q o228 (Q o229 (Q o230 (Q o231 (Q o232 (Q o233 (Q o234 (Q o235 (Q o236 (Q o237 (Q o238 (Q o239 (Q o240 (Q o241 (Q o242 (Q o243 (Q o244 (Q o245 (Q o246 (Q o247 (Q o248 (Q o249 (Q o250 (Q o251 (Q o252 (Q o253 (Q o254 (Q o255 (Q o256 (Q o257 (Q o258 (Q o259 (Q o260 (Q o261 R)))))))))))))))))))))))))))))))))))))))))))))))))))))))))))))))))))))))))))))))))))))))))))))))))))))))))))))))))))))))))))))))))))))))))))))))))))))))))))))))))))))))))))))))))))))))))))))))))))))))))))))))))))))))) x)) (u43 u44 u44 u44 0 u45 u44 u15 (u46 u44) u44 0 u15 u15 u15 0 [2000, 10, 10] u15 0 u29 u44 u44 0 u15)
end
end Hd
noncomputable def PySem.W.Fast.tw15680423124504046468 : PySem.Params->PySem.W.Frag := fun P => Hd.heap39 (PySem.W.Fast.tw13745409909519247493, P)
theorem PySem.W.Fast.te15680423124504046468 : (fun P => Hd.heap39 (Hd.hs, P)) = PySem.W.Fast.tw15680423124504046468 := congrArg (fun σ P => Hd.heap39 (σ, P)) PySem.W.Fast.te13745409909519247493
noncomputable def PySem.W.Fast.tw9145861563306080156 : PySem.Params->PySem.Heap := fun P => Hd.heap46 (PySem.W.Fast.tw13745409909519247493, P)
theorem PySem.W.Fast.te9145861563306080156 : (fun P => Hd.heap46 (Hd.hs, P)) = PySem.W.Fast.tw9145861563306080156 := congrArg (fun σ P => Hd.heap46 (σ, P)) PySem.W.Fast.te13745409909519247493
noncomputable def PySem.W.Fast.tw7369104623926627662 : PySem.Params->PySem.W.BT := fun P => Hd.tree47 (PySem.W.Fast.tw13745409909519247493, P)
theorem PySem.W.Fast.te7369104623926627662 : (fun P => Hd.tree47 (Hd.hs, P)) = PySem.W.Fast.tw7369104623926627662 := congrArg (fun σ P => Hd.tree47 (σ, P)) PySem.W.Fast.te13745409909519247493
noncomputable def PySem.W.Fast.tw8946313059376057731 : PySem.Params->PySem.W.BT := fun P => Hd.tree63 (PySem.W.Fast.tw13745409909519247493, P)
theorem PySem.W.Fast.te8946313059376057731 : (fun P => Hd.tree63 (Hd.hs, P)) = PySem.W.Fast.tw8946313059376057731 := congrArg (fun σ P => Hd.tree63 (σ, P)) PySem.W.Fast.te13745409909519247493
noncomputable def PySem.W.Fast.tw7732691606483528837 : PySem.Params->PySem.W.BT := fun P => Hd.tree85 (PySem.W.Fast.tw13745409909519247493, P)
theorem PySem.W.Fast.te7732691606483528837 : (fun P => Hd.tree85 (Hd.hs, P)) = PySem.W.Fast.tw7732691606483528837 := congrArg (fun σ P => Hd.tree85 (σ, P)) PySem.W.Fast.te13745409909519247493
noncomputable def PySem.W.Fast.tw16576960994956015134 : PySem.Params->PySem.W.BT := fun P => Hd.tree100 (PySem.W.Fast.tw13745409909519247493, P)
theorem PySem.W.Fast.te16576960994956015134 : (fun P => Hd.tree100 (Hd.hs, P)) = PySem.W.Fast.tw16576960994956015134 := congrArg (fun σ P => Hd.tree100 (σ, P)) PySem.W.Fast.te13745409909519247493
noncomputable def PySem.W.Fast.tw2408831639935630523 : PySem.Params->PySem.W.BT := fun P => Hd.tree186 (PySem.W.Fast.tw13745409909519247493, P)
theorem PySem.W.Fast.te2408831639935630523 : (fun P => Hd.tree186 (Hd.hs, P)) = PySem.W.Fast.tw2408831639935630523 := congrArg (fun σ P => Hd.tree186 (σ, P)) PySem.W.Fast.te13745409909519247493
noncomputable def PySem.W.Fast.tw4937577574681566591 : PySem.Params->PySem.W.BT := fun P => Hd.tree261 (PySem.W.Fast.tw13745409909519247493, P)
theorem PySem.W.Fast.te4937577574681566591 : (fun P => Hd.tree261 (Hd.hs, P)) = PySem.W.Fast.tw4937577574681566591 := congrArg (fun σ P => Hd.tree261 (σ, P)) PySem.W.Fast.te13745409909519247493
noncomputable def PySem.W.Fast.tw13393403026395704027 : PySem.Params->PySem.Heap := fun P => Hd.heap262 (PySem.W.Fast.tw13745409909519247493, P)
theorem PySem.W.Fast.te13393403026395704027 : (fun P => Hd.heap262 (Hd.hs, P)) = PySem.W.Fast.tw13393403026395704027 := congrArg (fun σ P => Hd.heap262 (σ, P)) PySem.W.Fast.te13745409909519247493
set_option maxRecDepth 100000 in
set_option maxHeartbeats 0 in
theorem PySem.Challenge.cw_keepsakes_k32_a_heap_gives_all_holds : PySem.Challenge.rw_keepsakes_k32_a_heap_gives_all.Holds := by
  w_on; o_law; k_head; (case hw => w_witness2)
  k_fill
  refine Mine.walk (l := PySem.Challenge.rw_keepsakes_k32_a_heap_gives_all) rfl rfl (fun w h Y => PySem.W.kIn_of Y) ?F
  case F =>
    intro w mg fa h KX G hmg
    refine' Mine.all_mk KX G hmg ?a_KeepError ?a_NoDay ?a_NoItem ?a_Heap ?clg ?clt ?xo_KeepError ?xs_KeepError ?xg_KeepError ?xh_KeepError ?xc_KeepError ?kc_KeepError ?xo_NoDay ?xs_NoDay ?xg_NoDay ?xh_NoDay ?xc_NoDay ?kc_NoDay ?n_NoDay_day ?xo_NoItem ?xs_NoItem ?xg_NoItem ?xh_NoItem ?xc_NoItem ?kc_NoItem ?pg_Heap ?hd_Heap ?po_Heap ?sa_Heap ?mk_Heap ?kc_Heap ?n_Heap_row ?a0 ?i0 ?l0 ?c0 ?k0 ?a1 ?i1 ?l1 ?c1 ?k1 ?a2 ?i2 ?l2 ?c2 ?k2 ?a3 ?i3 ?l3 ?c3 ?k3 ?a4 ?i4 ?l4 ?c4 ?k4 ?a5 ?i5 ?l5 ?c5 ?k5 ?a6 ?i6 ?l6 ?c6 ?k6 ?a7 ?i7 ?l7 ?c7 ?k7 ?a8 ?i8 ?l8 ?c8 ?k8 ?a9 ?i9 ?l9 ?c9 ?k9 ?a10 ?l10 ?c10 ?k10 ?a11 ?l11 ?c11 ?k11 ?a12 ?l12 ?c12 ?k12 ?a13 ?l13 ?c13 ?k13 ?a14 ?l14 ?c14 ?k14 ?a15 ?l15 ?c15 ?k15 ?a16 ?l16 ?c16 ?k16 ?a17 ?l17 ?c17 ?k17 ?a18 ?l18 ?c18 ?k18 ?a19 ?l19 ?c19 ?k19 ?a20 ?l20 ?c20 ?k20 ?z_len ?z_isinstance ?z_int ?z_bool ?z_list ?z_tuple ?z_range ?z_sorted ?z_zip ?z_ValueError ?in0_NoItem ?kp0_NoItem ?kp1 ?kp2 ?kp3 ?kp4
    case a_KeepError | a_NoDay | a_NoItem | a_Heap | clg | clt | xo_KeepError | xs_KeepError | xg_KeepError | xh_KeepError | xc_KeepError | kc_KeepError | xo_NoDay | xs_NoDay | xg_NoDay | xh_NoDay | xc_NoDay | kc_NoDay | n_NoDay_day | xo_NoItem | xs_NoItem | xg_NoItem | xh_NoItem | xc_NoItem | kc_NoItem | pg_Heap | hd_Heap | po_Heap | sa_Heap | mk_Heap | kc_Heap | n_Heap_row | a0 | i0 | l0 | c0 | k0 | a1 | i1 | l1 | c1 | k1 | a2 | i2 | l2 | c2 | k2 | a3 | i3 | l3 | c3 | k3 | a4 | i4 | l4 | c4 | k4 | a5 | i5 | l5 | c5 | k5 | a6 | i6 | l6 | c6 | k6 | a7 | i7 | l7 | c7 | k7 | a8 | i8 | l8 | c8 | k8 | a9 | i9 | l9 | c9 | k9 | a10 | l10 | c10 | k10 | a11 | l11 | c11 | k11 | a12 | l12 | c12 | k12 | a13 | l13 | c13 | k13 | a14 | l14 | c14 | k14 | a15 | l15 | c15 | k15 | a16 | l16 | c16 | k16 | a17 | l17 | c17 | k17 | a18 | l18 | c18 | k18 | a19 | l19 | c19 | k19 | a20 | l20 | c20 | k20 | z_len | z_isinstance | z_int | z_bool | z_list | z_tuple | z_range | z_sorted | z_zip | z_ValueError | in0_NoItem | kp0_NoItem | kp1 | kp2 | kp3 | kp4 => first | k_is | kit_is | kernel_rfl | decide
