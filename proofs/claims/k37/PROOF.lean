import PyProof.Rows.All
import Wide.All
import OpenK.AllK
import Wide.FinOn
import Lean
import PyProof.EqAt
import PyProof.EqKinds
import PyProof.TupleCall
import PyProof.AttrMissHeap
import PyProof.DictWalks
import KE.KDictObj
import KE.KEqDict
import KE.KUnpack
import PyProof.Rows.SetFrom
import KE.KRevIter
import KE.KDictSum
import KE.KFmtOwn
import PyProof.FactsAll.set_1
import PyProof.FactsAll.set_2
import PyProof.FactsAll.tuple_1
import PyProof.FactsAll.tuple_2
import PySem.Challenge.RW_keepsakes_k37_papers_by_the_points
set_option Elab.async false
set_option linter.all false
set_option maxRecDepth 100000
namespace L2
open PySem PySem.Spec PyProof.Rows
abbrev Key := Sum Int Str
def keyIs : Key->Value->Bool
  | .inl k, v => Value.isInt k v
  | .inr x, v => Value.isStrOf x v
def keyH (w : World) : Key->Int
  | .inl k => hashInt k
  | .inr x => hashStr w x
theorem keyIs_shape : ∀ {k : Key} {v : Value}, keyIs k v = true->(∃ i t, k = Sum.inl i /\ v = Value.int i t) ∨ (∃ x t, k = Sum.inr x /\ v = Value.str x t)
  | .inl i, v, h => by
    obtain ⟨t, e⟩ := Value.isInt_shape (k := i) (v := v) h
    exact .inl ⟨i, t, rfl, e⟩
  | .inr x, v, h => by
    obtain ⟨t, e⟩ := Value.isStrOf_shape (x := x) (v := v) h
    exact .inr ⟨x, t, rfl, e⟩
theorem keyIs_int (i : Int) (t : Tok) : keyIs (.inl i) (.int i t) = true := by simp [keyIs, Value.isInt]
theorem keyIs_str (x : Str) (t : Tok) : keyIs (.inr x) (.str x t) = true := by simp [keyIs, Value.isStrOf]
theorem key_ll (a b : Int) : decide ((Sum.inl a : Key) = Sum.inl b) = (a == b) := by
  by_cases e : a = b
  · subst e; simp
  · have h : ¬ (Sum.inl a : Key) = Sum.inl b := fun q => e (Sum.inl.inj q)
    rw [decide_eq_false h]
    exact (beq_eq_false_iff_ne.mpr e).symm
theorem key_rr (a b : Str) : decide ((Sum.inr a : Key) = Sum.inr b) = decide (a = b) := by
  by_cases e : a = b
  · subst e; simp
  · have h : ¬ (Sum.inr a : Key) = Sum.inr b := fun q => e (Sum.inr.inj q)
    rw [decide_eq_false h, decide_eq_false e]
theorem key_lr (a : Int) (b : Str) : decide ((Sum.inl a : Key) = Sum.inr b) = false := decide_eq_false (fun q => nomatch q)
theorem key_rl (a : Str) (b : Int) : decide ((Sum.inr a : Key) = Sum.inl b) = false := decide_eq_false (fun q => nomatch q)
def mixKind (prog : Program) (w : World) : PySem.KeyKind prog w Key where
  is := keyIs
  hash := keyH w
  inj := fun v a b ha hb => by
    rcases keyIs_shape ha with ⟨i, t, rfl, rfl⟩ | ⟨x, t, rfl, rfl⟩
    · rcases keyIs_shape hb with ⟨j, u, rfl, e⟩ | ⟨y, u, rfl, e⟩
      · injection e with e1 _; rw [e1]
      · exact nomatch e
    · rcases keyIs_shape hb with ⟨j, u, rfl, e⟩ | ⟨y, u, rfl, e⟩
      · exact nomatch e
      · injection e with e1 _; rw [e1]
  byValue := fun k v h => by
    rcases keyIs_shape h with ⟨i, t, rfl, rfl⟩ | ⟨x, t, rfl, rfl⟩ <;> rfl
  pyHash := fun hv h => by
    rcases keyIs_shape hv with ⟨i, t, rfl, rfl⟩ | ⟨x, t, rfl, rfl⟩
    · exact wpAny_pyHash_int h
    · exact wpAny_pyHash_str h
  eqBool := fun hu hv h => by
    rcases keyIs_shape hu with ⟨i, t, rfl, rfl⟩ | ⟨x, t, rfl, rfl⟩
    · rcases keyIs_shape hv with ⟨j, u, rfl, rfl⟩ | ⟨y, u, rfl, rfl⟩
      · rw [key_ll] at h; exact wpAny_eqBool_int h
      · rw [key_lr] at h; exact SeqAt.EqAt.int_str i t y u _ _ _ _ h
    · rcases keyIs_shape hv with ⟨j, u, rfl, rfl⟩ | ⟨y, u, rfl, rfl⟩
      · rw [key_rl] at h; exact SeqAt.EqAt.str_int x t j u _ _ _ _ h
      · rw [key_rr] at h; exact wpAny_eqBool_str h
  «strs» := fun k x t v h => by
    rcases keyIs_shape h with ⟨i, u, rfl, e⟩ | ⟨y, u, rfl, e⟩
    · exact nomatch e
    · injection e with e1 _
      subst e1
      cases v <;> rfl
theorem mixKind_int (prog : Program) (w : World) (i : Int) (t : Tok) : (mixKind prog w).is (.inl i) (.int i t) = true := keyIs_int i t
theorem mixKind_str (prog : Program) (w : World) (x : Str) (t : Tok) : (mixKind prog w).is (.inr x) (.str x t) = true := keyIs_str x t
open PySem PySem.Spec PyProof.Rows
inductive V where
  | non | bl (b : Bool) | int (i : Int) | str (x : Str) | byt (b : Array UInt8) | flt (b : UInt64) | ref (a : Addr) | ty (n : String)
  deriving DecidableEq
def RelV : V->Value->Prop
  | .non, u => u = Value.none
  | .bl b, u => u = Value.bool b
  | .int i, u => ∃ t, u = Value.int i t
  | .str x, u => ∃ t, u = Value.str x t
  | .byt b, u => ∃ t, u = Value.bytes b t
  | .flt b, u => ∃ t, u = Value.float b t
  | .ref a, u => u = Value.ref a
  | .ty n, u => u = Value.type n
abbrev Vals : List V->List Value->Prop := Paired RelV
theorem Vals.length {xs : List V} {us : List Value} (r : Vals xs us) : xs.length = us.length := Paired.length r
theorem Vals.get : ∀ {xs : List V} {us : List Value} {i : Nat} {x : V}, Vals xs us->xs[i]? = some x->∃ u, us[i]? = some u /\ RelV x u
  | _, _, _, _, .nil, e => by simp at e
  | _, _, 0, _, .cons r _, e => by simp at e; subst e; exact ⟨_, rfl, r⟩
  | _, _, i + 1, x, .cons _ t, e => by
    obtain ⟨u, h1, h2⟩ := Vals.get (i := i) (x := x) t (by simpa using e)
    exact ⟨u, by simpa using h1, h2⟩
theorem Vals.set {x : V} {u : Value} (r : RelV x u) : ∀ {xs : List V} {us : List Value} (i : Nat), Vals xs us->Vals (xs.set i x) (us.set i u)
  | _, _, _, .nil => .nil
  | _, _, 0, .cons _ t => .cons r t
  | _, _, i + 1, .cons q t => .cons q (Vals.set r i t)
theorem Vals.append : ∀ {xs ys : List V} {us ws : List Value}, Vals xs us->Vals ys ws->Vals (xs ++ ys) (us ++ ws)
  | _, _, _, _, .nil, s => s
  | _, _, _, _, .cons r t, s => .cons r (Vals.append t s)
theorem Vals.take : ∀ {xs : List V} {us : List Value} (n : Nat), Vals xs us->Vals (xs.take n) (us.take n)
  | _, _, 0, _ => .nil
  | _, _, _ + 1, .nil => .nil
  | _, _, n + 1, .cons r t => .cons r (Vals.take n t)
theorem Vals.drop : ∀ {xs : List V} {us : List Value} (n : Nat), Vals xs us->Vals (xs.drop n) (us.drop n)
  | _, _, 0, r => r
  | _, _, _ + 1, .nil => .nil
  | _, _, n + 1, .cons _ t => Vals.drop n t
def RelO : Option V->Option Value->Prop
  | some v, some u => RelV v u
  | none, none => True
  | _, _ => False
def KV {κ : Type} : List (κ × V)->List (κ × Value)->Prop := Paired fun (p : κ × V) (q : κ × Value) => p.1 = q.1 /\ RelV p.2 q.2
def kV : Key->V
  | .inl i => .int i
  | .inr x => .str x
inductive HO where
    | lst (xs : List V)
    | tup (xs : List V)
    | dK (kvs : List (Key × V)) | dT (kvs : List (List Key × V))
    | set (S : Int->Bool) (n : Nat)
    | ins (C dx : Addr) (fs : List (Str × V))
    | own (x : Addr)
    | xd (fs : List (Str × V))
    | met (f x : Addr)
    | rng (lo hi : Int)
    | frz (o : Obj) (u : HO)
    | tbl (ps : Array Value)
    | ext (φ : Heap->Prop)
abbrev Hp := Addr->Option HO
def upd (H : Hp) (a : Addr) (o : HO) : Hp := fun b => if b = a then some o else H b
theorem upd_same {H : Hp} {a : Addr} {o : HO} : upd H a o a = some o := by unfold upd; rw [if_pos rfl]
theorem upd_ne {H : Hp} {a b : Addr} {o : HO} (h : b ≠ a) : upd H a o b = H b := by unfold upd; rw [if_neg h]
theorem ne_of {H : Hp} {a b : Addr} {o u : HO} (h : H a = some o) (h' : H b = some u) (d : o ≠ u) : a ≠ b := by
  intro e; subst e; rw [h] at h'; exact d (Option.some.inj h')
theorem ne_of_none {H : Hp} {a b : Addr} {o : HO} (h : H a = some o) (h' : H b = none) : a ≠ b := by
  intro e; subst e; rw [h] at h'; cases h'
section
variable (P : Program) (w : World)
def ObjOk (H : Hp) (h : Heap) (a : Addr) : HO->Prop
  | .lst xs => xs.length ≤ sizeLine /\ ∃ (its : List Value) (n : Nat), Vals xs its /\ h.get? a = some { cls := .type "list", data := .seq its.toArray n }
  | .tup xs => xs.length ≤ sizeLine /\ ∃ its : List Value, Vals xs its /\ IsTup h a its.toArray
  | .dK kvs => kvs.length ≤ sizeLine /\ (a == sysModules) = false /\ ∃ vs, KV kvs vs /\ h.DictOf (mixKind P w) a vs
  | .dT kvs => kvs.length ≤ sizeLine /\ (a == sysModules) = false /\ ∃ xs : List (List Key × Addr × Value),
      Paired (fun (p : List Key × V) (q : List Key × Addr × Value) => p.1 = q.1 /\ H q.2.1 = some (.tup (p.1.map kV)) /\ RelV p.2 q.2.2) kvs xs ∧
      ∃ o es ep, h.get? a = some o /\ o.ExactDict /\ o.data = .dict es ep /\ es.toList = xs.map (entryOfKey (tupleKind (mixKind P w))) /\ (xs.map (·.1)).Nodup
  | .set S n => h.SetOf (intKind P w) a S n
  | .ins C dx fs => H dx = some (.own a) /\ fs.length ≤ 1000 /\ dx ≠ a /\ h.get? a = some (PySem.W.instObj C dx) ∧
      ∃ mA, h.Ns1 dx mA /\ (∀ f, RelO (fs.lookup f) (mA f)) /\ PySem.Within mA (fs.map (·.1))
  | .own _ => ∃ o, h.get? a = some o
  | .xd fs => ∃ mA, h.Ns1 a mA /\ ∀ f, RelO (fs.lookup f) (mA f)
  | .rng lo hi => ∃ t u v, h.get? a = some { cls := .type "range", data := .fields #[.int lo t, .int hi u, .int 1 v] }
  | .frz o u => h.get? a = some o /\ ObjOk H h a u
  | .tbl ps => h.get? a = some { cls := .none, data := .fields ps }
  | .met f x => h.get? a = some (PySem.W.methodObj (.ref f) (.ref x))
  | .ext φ => φ h /\ (∃ o, h.get? a = some o) /\ ∀ h1 h2 : Heap, φ h1->(∀ o, h1.get? a = some o->h2.get? a = some o)->φ h2
def HOk (H : Hp) (h : Heap) : Prop := ∀ a o, H a = some o->ObjOk P w H h a o
end
section
variable {P : Program} {w : World} {H H' : Hp} {h h' : Heap} {a : Addr} {o : HO}
theorem ObjOk.lt (x : ObjOk P w H h a o) : a < h.objs.size := by
  cases o with
  | lst xs => obtain ⟨_, _, _, _, e⟩ := x; exact Heap.lt_size e
  | tup xs => obtain ⟨_, _, _, p⟩ := x; exact p.lt
  | dK kvs => obtain ⟨_, _, _, _, o, _, _, e, _⟩ := x; exact Heap.lt_size e
  | dT kvs => obtain ⟨_, _, _, _, o, _, _, e, _⟩ := x; exact Heap.lt_size e
  | set S n => obtain ⟨o, _, _, _, e, _⟩ := x; exact Heap.lt_size e
  | ins C dx fs => obtain ⟨_, _, _, e, _⟩ := x; exact Heap.lt_size e
  | own y => obtain ⟨_, e⟩ := x; exact Heap.lt_size e
  | xd fs => obtain ⟨_, ⟨_, _, _, e, _⟩, _⟩ := x; exact Heap.lt_size e
  | rng lo hi => obtain ⟨_, _, _, e⟩ := x; exact Heap.lt_size e
  | frz ob u => obtain ⟨e, _⟩ := x; exact Heap.lt_size e
  | tbl ps => exact Heap.lt_size (show h.get? a = some _ from x)
  | met f y => exact Heap.lt_size (show h.get? a = some _ from x)
  | ext φ => obtain ⟨_, ⟨_, e⟩, _⟩ := x; exact Heap.lt_size e
theorem Paired.mapP {α β : Type} {F G : α->β->Prop} : ∀ {l₁ : List α} {l₂ : List β}, Paired F l₁ l₂->(∀ a b, F a b->G a b)->Paired G l₁ l₂
  | _, _, .nil, _ => .nil
  | _, _, .cons r t, f => .cons (f _ _ r) (Paired.mapP t f)
theorem ObjOk.stay (x : ObjOk P w H h a o) (k : ∀ b u, (b = a ∨ H b = some (.own a))->h.get? b = some u->h'.get? b = some u)
    (ho : ∀ b, H b = some (.own a)->H' b = some (.own a)) (ht : ∀ b xs, H b = some (.tup xs)->H' b = some (.tup xs)) : ObjOk P w H' h' a o := by
  induction o with
  | lst xs => obtain ⟨z, its, n, r, e⟩ := x; exact ⟨z, its, n, r, k _ _ (.inl rfl) e⟩
  | tup xs => obtain ⟨z, its, r, ob, e, c⟩ := x; exact ⟨z, its, r, ob, k _ _ (.inl rfl) e, c⟩
  | dK kvs => obtain ⟨z, y, vs, r, ob, es, ep, e, c⟩ := x; exact ⟨z, y, vs, r, ob, es, ep, k _ _ (.inl rfl) e, c⟩
  | dT kvs =>
    obtain ⟨z, y, xs, r, ob, es, ep, e, c⟩ := x
    exact ⟨z, y, xs, Paired.mapP r fun p q z => ⟨z.1, ht _ _ z.2.1, z.2.2⟩, ob, es, ep, k _ _ (.inl rfl) e, c⟩
  | set S n => obtain ⟨ob, es, ep, t, e, c⟩ := x; exact ⟨ob, es, ep, t, k _ _ (.inl rfl) e, c⟩
  | ins C dx fs =>
    obtain ⟨d, z, ne, e, mA, ⟨od, es, ep, e2, c⟩, r⟩ := x
    exact ⟨ho _ d, z, ne, k _ _ (.inl rfl) e, mA, ⟨od, es, ep, k _ _ (.inr d) e2, c⟩, r⟩
  | own y => obtain ⟨ob, e⟩ := x; exact ⟨ob, k _ _ (.inl rfl) e⟩
  | xd fs => obtain ⟨mA, ⟨od, es, ep, e, c⟩, r⟩ := x; exact ⟨mA, ⟨od, es, ep, k _ _ (.inl rfl) e, c⟩, r⟩
  | rng lo hi => obtain ⟨t, u, v, e⟩ := x; exact ⟨t, u, v, k _ _ (.inl rfl) e⟩
  | frz ob u ih => obtain ⟨e, q⟩ := x; exact ⟨k _ _ (.inl rfl) e, ih q⟩
  | tbl ps =>
    have e : h.get? a = some { cls := .none, data := .fields ps } := x
    show h'.get? a = some { cls := .none, data := .fields ps }
    exact k a _ (.inl rfl) e
  | met f y =>
    have e : h.get? a = some (PySem.W.methodObj (.ref f) (.ref y)) := x
    show h'.get? a = some (PySem.W.methodObj (.ref f) (.ref y))
    exact k a _ (.inl rfl) e
  | ext φ => obtain ⟨p, ⟨o, e⟩, st⟩ := x; exact ⟨st _ _ p fun o q => k _ _ (.inl rfl) q, ⟨o, k _ _ (.inl rfl) e⟩, st⟩
theorem HOk.lt (x : HOk P w H h) (e : H a = some o) : a < h.objs.size := (x a o e).lt
theorem HOk.fresh (x : HOk P w H h) (e : h.objs.size ≤ a) : H a = none := by
  cases q : H a with
  | none => rfl
  | some u => exact absurd (Nat.lt_of_lt_of_le (x.lt q) e) (Nat.lt_irrefl _)
theorem HOk.kept (x : HOk P w H h) (k : ∀ b u, h.get? b = some u->h'.get? b = some u) : HOk P w H h' := fun a o e =>
  (x a o e).stay (fun b u _ q => k b u q) (fun _ q => q) fun _ _ q => q
theorem HOk.laid (x : HOk P w H h) (k : ∀ b u, h.get? b = some u->h'.get? b = some u) (hp : h.objs.size ≤ a) (new : ObjOk P w (upd H a o) h' a o) : HOk P w (upd H a o) h' := fun b u e => by
  have hn := x.fresh hp
  by_cases hb : b = a
  · subst hb; rw [upd_same] at e; cases e; exact new
  · rw [upd_ne hb] at e
    exact (x b u e).stay (fun c v _ q => k c v q) (fun c q => by rw [upd_ne (ne_of_none q hn)]; exact q) fun c xs q => by rw [upd_ne (ne_of_none q hn)]; exact q
end
def Rd (H : Hp) (a : Addr) (u : HO) : Prop := H a = some u ∨ ∃ o, H a = some (.frz o u)
theorem Rd.ok {P : Program} {w : World} {H : Hp} {h : Heap} {a : Addr} {u : HO} (r : Rd H a u) (x : HOk P w H h) : ObjOk P w H h a u := by
  rcases r with r | ⟨o, r⟩
  · exact x a u r
  · obtain ⟨_, q⟩ := x a _ r
    exact q
def Mut : Option HO->Prop
  | some (.lst _) => True
  | some (.dK _) => True
  | some (.dT _) => True
  | some (.set _ _) => True
  | some (.ins _ _ _) => True
  | some (.ext _) => True
  | _ => False
section
variable {P : Program} {w : World} {H : Hp} {h h' : Heap} {x e : Addr} {o' : HO}
theorem HOk.write (ok : HOk P w H h) (mu : Mut (H x)) (he : e = x ∨ H e = some (.own x)) (k : ∀ b u, b ≠ e->h.get? b = some u->h'.get? b = some u) (heo : ∃ u, h'.get? e = some u)
    (new : ObjOk P w (upd H x o') h' x o') : HOk P w (upd H x o') h' := fun b u q => by
  have nown : ∀ c y, H c = some (.own y)->c ≠ x := fun c y r z => by subst z; rw [r] at mu; exact mu
  have ntup : ∀ c xs, H c = some (.tup xs)->c ≠ x := fun c xs r z => by subst z; rw [r] at mu; exact mu
  by_cases hb : b = x
  · subst hb; rw [upd_same] at q; cases q; exact new
  · rw [upd_ne hb] at q
    by_cases hbe : b = e
    · have q' : H b = some (.own x) := by
        rcases he with z | z
        · exact absurd (hbe.trans z) hb
        · rw [hbe]; exact z
      rw [q] at q'; cases q'
      obtain ⟨v, hv⟩ := heo
      exact ⟨v, by rw [hbe]; exact hv⟩
    · refine (ok b u q).stay (fun c v hc r => k c v ?_ r) (fun c r => by rw [upd_ne (nown c b r)]; exact r) fun c xs r => by rw [upd_ne (ntup c xs r)]; exact r
      rcases hc with rfl | hc
      · exact hbe
      · rintro rfl
        rcases he with z | z
        · exact nown c b hc z
        · rw [hc] at z; cases z; exact hb rfl
end
structure Un (fs ex : List Addr) (H H' : Hp) (h h' : Heap) : Prop where
  keep : ∀ b o, h.get? b = some o->H b = none->b ∉ fs->b ∉ ex->h'.get? b = some o
  slot : ∀ b o, h.get? b = some o->H b = none->b ∈ fs->b ∉ ex->∃ sl, h'.get? b = some { o with slots := sl }
  free : ∀ b o, h.get? b = some o->H b = none->b ∉ ex->H' b = none
  there : ∀ b o, h.get? b = some o->b ∉ ex->∃ o', h'.get? b = some o'
  tups : ∀ b xs, H b = some (.tup xs)->H' b = some (.tup xs)
  frzs : ∀ b o u, H b = some (.frz o u)->H' b = some (.frz o u)
  tbls : ∀ b ps, H b = some (.tbl ps)->∃ more, H' b = some (.tbl (ps ++ more))
section
variable {fs fs' ex ex' : List Addr} {H H1 H2 : Hp} {h h1 h2 h' : Heap} {a x e : Addr} {o : HO}
theorem Un.any (u : Un fs ex H H1 h h1) {b : Addr} {ob : Obj} (q : h.get? b = some ob) (n : H b = none) (hx : b ∉ ex) : ∃ sl, h1.get? b = some { ob with slots := sl } := by
  by_cases hb : b ∈ fs
  · exact u.slot b ob q n hb hx
  · exact ⟨ob.slots, u.keep b ob q n hb hx⟩
theorem Un.kept (k : ∀ b u, h.get? b = some u->h'.get? b = some u) : Un fs ex H H h h' :=
  ⟨fun b ob q _ _ _ => k b ob q, fun b ob q _ _ _ => ⟨ob.slots, k b ob q⟩, fun _ _ _ n _ => n, fun b ob q _ => ⟨ob, k b ob q⟩, fun _ _ q => q, fun _ _ _ q => q, fun _ ps q => ⟨#[], by rw [q]; simp⟩⟩
theorem Un.refl : Un fs ex H H h h := Un.kept fun _ _ q => q
theorem Un.laid (k : ∀ b u, h.get? b = some u->h'.get? b = some u) (hp : h.objs.size ≤ a) (hn : H a = none) : Un fs ex H (upd H a o) h h' where
  keep := fun b u q _ _ _ => k b u q
  slot := fun b u q _ _ _ => ⟨u.slots, k b u q⟩
  free := fun b u q n _ => by rw [upd_ne (Nat.ne_of_lt (Nat.lt_of_lt_of_le (Heap.lt_size q) hp))]; exact n
  there := fun b u q _ => ⟨u, k b u q⟩
  tups := fun b xs q => by rw [upd_ne (ne_of_none q hn)]; exact q
  frzs := fun b u xs q => by rw [upd_ne (ne_of_none q hn)]; exact q
  tbls := fun b ps q => ⟨#[], by rw [upd_ne (ne_of_none q hn), q]; simp⟩
theorem Un.write (mu : Mut (H x)) (he : e = x ∨ H e = some (.own x)) (k : ∀ b u, b ≠ e->h.get? b = some u->h'.get? b = some u) (heo : ∃ u, h'.get? e = some u) : Un fs ex H (upd H x o) h h' := by
  have hx : ∀ b, H b = none->b ≠ x := fun b n z => by subst z; rw [n] at mu; exact mu
  have hb : ∀ b, H b = none->b ≠ e := fun b n z => by
    subst z
    rcases he with r | r
    · exact hx b n r
    · rw [n] at r; cases r
  have hm : ∀ b u, H b = some u->¬ Mut (some u)->b ≠ x := fun b u q nm z => by subst z; rw [q] at mu; exact nm mu
  refine ⟨fun b u q n _ _ => k b u (hb b n) q, fun b u q n _ _ => ⟨u.slots, k b u (hb b n) q⟩, fun b u q n _ => by rw [upd_ne (hx b n)]; exact n, fun b u q _ => ?_,
    fun b xs q => by rw [upd_ne (hm b _ q fun z => z)]; exact q, fun b u xs q => by rw [upd_ne (hm b _ q fun z => z)]; exact q, fun b ps q => ⟨#[], by rw [upd_ne (hm b _ q fun z => z), q]; simp⟩⟩
  by_cases hbe : b = e
  · subst hbe; exact heo
  · exact ⟨u, k b u hbe q⟩
end
def trk (h : Heap) (H : Hp) : List Addr := (List.range h.objs.size).filter fun a => (H a).isSome
def hidT (h : Heap) (H : Hp) : Heap := PySem.W.hideAll h (trk h H)
theorem hidT_size (h : Heap) (H : Hp) : (hidT h H).objs.size = h.objs.size := PySem.W.hideAll_size _ _
theorem hidT_get {h : Heap} {H : Hp} {b : Addr} {o : Obj} (e : h.get? b = some o) (n : H b = none) : (hidT h H).get? b = some o :=
  PySem.W.hideAll_get _ e fun hm => by
    have q : (H b).isSome = true := (List.mem_filter.mp hm).2
    rw [n] at q; simp at q
theorem of_hidT {h : Heap} {H : Hp} {b : Addr} {o : Obj} (e : (hidT h H).get? b = some o) : h.get? b = some o /\ H b = none := by
  have e' : h.get? b = some o := PySem.W.of_hideAll (trk h H) e
  refine ⟨e', ?_⟩
  cases q : H b with
  | none => rfl
  | some x =>
    have hm : b ∈ trk h H := List.mem_filter.mpr ⟨List.mem_range.mpr (Heap.lt_size e'), by simp [q]⟩
    have z : (hidT h H).get? b = none := PySem.W.hideAll_none (trk h H) hm
    rw [z] at e; cases e
def allNews (g h : Heap) (L : Addr) : List (Addr × Obj) := (List.range h.objs.size).filterMap fun a => if a = L ∨ (g.get? a).isSome = true then none else (h.get? a).map fun o => (a, o)
def rest (g h : Heap) (L d : Addr) : List (Addr × Obj) := (allNews g h L).filter fun p => decide (p.1 ≠ d)
open PySem PySem.Spec PyProof.Rows
structure Mod (K : PySem.W.Frag) (mg : Str->Option Value) (base : Heap) : Prop where
  kin : K.In base
  glob : base.Ns mainGlobals mg
  blt : ∃ mb, base.Ns builtinsNs mb /\ ∀ x : Str, x ≠ "__name__"->mb x = bootBuiltins x
  nolimit : base.NoLimit
structure Cx where
  prog : Program
  w : World
  K : PySem.W.Frag
  mg : Str->Option Value
  base : Heap
  A : Around
  N : List Str
  s₀ : Shared
  H₀ : Hp
  env : Env
  outer : List Env
  stack : List Env
  ex : List Addr
  fn : Str->Bool
  calm : Bool
  pn : List (Addr × Obj)
  xe : Value->Shared->Prop
def frs (l : List Env) : List Addr := l.filterMap (·.frame)
abbrev Cx.fs (X : Cx) : List Addr := frs X.outer
def Vis (sc : Scope) (x : Str) : Prop := sc.names.lookup x = some .local ∨ sc.names.lookup x = some .cell ∨ sc.names.lookup x = some .free
def Loc (sc : Scope) (x : Str) : Prop := sc.names.lookup x = some .local ∨ sc.names.lookup x = some .cell
def Look (env : Env) (h : Heap) (m : Str->Option Value) (x : Str) (u : Value) : Prop :=
  (env.kindOf x = some .local /\ m x = some u) ∨ ((env.kindOf x = some .cell ∨ env.kindOf x = some .free) /\ ∃ c, env.cells.lookup x = some c /\ h.IsCell c (some u))
structure Cx.Ok (X : Cx) : Prop where
  mod : Mod X.K X.mg X.base
  kind : X.env.scope.kind = .function
  glob : X.env.globals = mainGlobals
  blt : X.env.builtins = builtinsNs
  above : X.s₀.heap.objs.size ≤ X.env.locals
  inj : ∀ x y c, X.env.cells.lookup x = some c->X.env.cells.lookup y = some c->x = y
  has : ∀ x, (X.env.kindOf x = some .cell ∨ X.env.kindOf x = some .free)->∃ c, X.env.cells.lookup x = some c
  cab : ∀ x c, X.fn x = true->X.env.cells.lookup x = some c->X.s₀.heap.objs.size ≤ c
  hd : X.calm = true->X.A.handled = none
  frames : X.A.frames = some X.stack
  stk : X.stack = X.outer ∨ (X.stack = X.env :: X.outer /\ X.env.frame = some X.env.locals)
  exf : ∀ b ∈ X.ex, b ≠ X.env.locals /\ ∀ x c, X.env.cells.lookup x = some c->c ≠ b
  bs : ∀ b o, X.base.get? b = some o->X.s₀.heap.get? b = some o /\ X.H₀ b = none
  bsz : X.base.objs.size ≤ X.s₀.heap.objs.size
  noex : ∀ b o, X.base.get? b = some o->b ∉ X.ex
  exfs : ∀ b ∈ X.ex, b ∉ X.fs
  funs : X.s₀.heap.FunFrames X.base X.outer
  frf : ∀ b ∈ X.fs, X.H₀ b = none
structure Inv (X : Cx) (pins : List (Addr × Obj)) (σ : List (Option V)) (H : Hp) (s : Shared) : Prop where
  ok : X.Ok
  os : s.os = X.s₀.os
  bare : AllBare s.gens
  base : Un X.fs X.ex X.H₀ H X.s₀.heap s.heap
  loc : ∃ m, s.heap.Ns X.env.locals m /\ ∀ (i : Nat) (x : Str) (v : V), X.N[i]? = some x->σ[i]? = some (some v)->Vis X.env.scope x->∃ u, RelV v u /\ Look X.env s.heap m x u
  cell : ∀ x c, X.env.cells.lookup x = some c->∃ v, s.heap.IsCell c v
  free : H X.env.locals = none
  freeC : ∀ x c, X.env.cells.lookup x = some c->H c = none
  pin : ∀ p ∈ X.pn ++ pins, s.heap.get? p.1 = some p.2 /\ H p.1 = none /\ p.1 ≠ X.env.locals /\ p.1 ∉ X.fs /\ ∀ v, p.2.data ≠ .cell v
  hok : HOk X.prog X.w H s.heap
  len : σ.length = X.N.length
section
variable {X : Cx} {pins : List (Addr × Obj)} {σ : List (Option V)} {H H' : Hp} {s : Shared} {h' : Heap}
theorem Cx.Ok.nofr (ok : X.Ok) {b : Addr} {o : Obj} (e : X.base.get? b = some o) : b ∉ X.fs := fun hb => by
  have := (ok.funs.mem hb).1
  rw [e] at this; cases this
theorem Inv.bs (I : Inv X pins σ H s) : ∀ b o, X.base.get? b = some o->s.heap.get? b = some o /\ H b = none := fun b o e =>
  ⟨I.base.keep b o (I.ok.bs b o e).1 (I.ok.bs b o e).2 (I.ok.nofr e) (I.ok.noex b o e), I.base.free b o (I.ok.bs b o e).1 (I.ok.bs b o e).2 (I.ok.noex b o e)⟩
theorem Inv.bk (I : Inv X pins σ H s) : ∀ b o, X.base.get? b = some o->s.heap.get? b = some o := fun b o e => (I.bs b o e).1
theorem Inv.mod (I : Inv X pins σ H s) : Mod X.K X.mg X.base := I.ok.mod
theorem Inv.kIn (I : Inv X pins σ H s) : X.K.In s.heap := I.ok.mod.kin.keeps I.bk
theorem Inv.lt (I : Inv X pins σ H s) : X.env.locals < s.heap.objs.size := let ⟨_, hn, _⟩ := I.loc; hn.lt
theorem Inv.sz (I : Inv X pins σ H s) : X.s₀.heap.objs.size ≤ s.heap.objs.size := Nat.le_trans I.ok.above (Nat.le_of_lt I.lt)
theorem Inv.nofs (I : Inv X pins σ H s) {a : Addr} (h : s.heap.objs.size ≤ a) : a ∉ X.fs := fun hb => by
  obtain ⟨_, o, ho, _⟩ := I.ok.funs.mem hb
  exact absurd (Nat.lt_of_lt_of_le (Heap.lt_size ho) (Nat.le_trans I.sz h)) (Nat.lt_irrefl _)
theorem Inv.cne (I : Inv X pins σ H s) : ∀ x c, X.env.cells.lookup x = some c->c ≠ X.env.locals := fun x c e z => by
  obtain ⟨v, o, ho, hd⟩ := I.cell x c e
  obtain ⟨m, ⟨o', es, ep, ho', hd', _⟩, _⟩ := I.loc
  rw [z, ho'] at ho; cases ho; rw [hd'] at hd; cases hd
theorem Inv.funs (I : Inv X pins σ H s) : s.heap.FunFrames X.base X.outer := by
  have all : ∀ (l : List Env), (∀ b ∈ frs l, b ∈ X.fs)->X.s₀.heap.FunFrames X.base l->s.heap.FunFrames X.base l := by
    intro l
    induction l with
    | nil => intro _ _; trivial
    | cons env r ih =>
      intro hs hl
      obtain ⟨hk, ⟨L, o, hf, hn, ho, hd⟩, hr⟩ := hl
      have hL : L ∈ X.fs := hs L (by unfold frs; rw [List.filterMap_cons, hf]; exact List.mem_cons_self)
      obtain ⟨sl, e⟩ := I.base.slot L o ho (I.ok.frf L hL) hL fun z => I.ok.exfs L z hL
      exact ⟨hk, ⟨L, _, hf, hn, e, hd⟩, ih (fun b hb => hs b (by unfold frs; rw [List.filterMap_cons, hf]; exact List.mem_cons_of_mem _ hb)) hr⟩
  exact all X.outer (fun _ hb => hb) I.ok.funs
theorem Inv.stack (I : Inv X pins σ H s) : s.heap.FunFrames X.base X.stack := by
  rcases I.ok.stk with e | ⟨e, hf⟩
  · rw [e]; exact I.funs
  · rw [e]
    obtain ⟨m, hn, _⟩ := I.loc
    refine .cons (by rw [I.ok.kind]; decide) hf hn ?_ I.funs
    exact Heap.get?_none_of_le (Nat.le_trans I.ok.bsz I.ok.above)
theorem Inv.stkSub (I : Inv X pins σ H s) : ∀ b ∈ frs X.stack, b ∈ X.env.locals :: X.fs := fun b hb => by
  rcases I.ok.stk with e | ⟨e, hf⟩
  · rw [e] at hb; exact List.mem_cons_of_mem _ hb
  · rw [e] at hb
    unfold frs at hb
    rw [List.filterMap_cons, hf] at hb
    exact hb
theorem Inv.stkFree (I : Inv X pins σ H s) : ∀ b ∈ frs X.stack, H b = none := fun b hb => by
  rcases List.mem_cons.mp (I.stkSub b hb) with e | hb
  · rw [e]; exact I.free
  · obtain ⟨_, o, ho, _⟩ := I.ok.funs.mem hb
    exact I.base.free b o ho (I.ok.frf b hb) fun z => I.ok.exfs b z hb
theorem Inv.step {g' : Array GenState} {t' : Nat} {d' : Drawn} {ch : List Addr} (I : Inv X pins σ H s)
    (hch : ∀ b ∈ ch, (b ∈ X.ex ∨ X.s₀.heap.objs.size ≤ b) /\ b ≠ X.env.locals /\ (∀ x c, X.env.cells.lookup x = some c->c ≠ b) /\ ∀ p ∈ X.pn ++ pins, p.1 ≠ b)
    (keep : ∀ b o, b ≠ X.env.locals->b ∉ X.fs->b ∉ ch->s.heap.get? b = some o->H b = none->h'.get? b = some o)
    (slot : ∀ b o, b ≠ X.env.locals->b ∈ X.fs->b ∉ ch->s.heap.get? b = some o->H b = none->∃ sl, h'.get? b = some { o with slots := sl }) (free : ∀ b o, b ∉ ch->s.heap.get? b = some o->H b = none->H' b = none)
    (there : ∀ b o, b ∉ ch->s.heap.get? b = some o->∃ o', h'.get? b = some o')
    (tups : ∀ b xs, H b = some (.tup xs)->H' b = some (.tup xs)) (frzs : ∀ b o u, H b = some (.frz o u)->H' b = some (.frz o u)) (tbls : ∀ b ps, H b = some (.tbl ps)->∃ more, H' b = some (.tbl (ps ++ more)))
    (ns : ∀ m, s.heap.Ns X.env.locals m->h'.Ns X.env.locals m) (hok : HOk X.prog X.w H' h') (hg : AllBare g') :
    Inv X pins σ H' { s with heap := h', gens := g', drawn := d', toks := t' } := by
  have neL : ∀ b o, X.s₀.heap.get? b = some o->b ≠ X.env.locals := fun b o e => Nat.ne_of_lt (Nat.lt_of_lt_of_le (Heap.lt_size e) I.ok.above)
  have neC : ∀ b o, X.s₀.heap.get? b = some o->b ∉ X.ex->b ∉ ch := fun b o e hx hb => by
    rcases (hch b hb).1 with z | z
    · exact hx z
    · exact absurd (Nat.lt_of_lt_of_le (Heap.lt_size e) z) (Nat.lt_irrefl _)
  have cellK : ∀ x c, X.env.cells.lookup x = some c->∀ v, s.heap.IsCell c v->h'.IsCell c v := fun x c e v ⟨o, ho, hd⟩ => by
    have nch : c ∉ ch := fun z => (hch c z).2.2.1 x c e rfl
    by_cases hc : c ∈ X.fs
    · obtain ⟨sl, q⟩ := slot c o (I.cne x c e) hc nch ho (I.freeC x c e)
      exact ⟨_, q, hd⟩
    · exact ⟨o, keep c o (I.cne x c e) hc nch ho (I.freeC x c e), hd⟩
  refine ⟨I.ok, I.os, hg, ⟨fun b o e n hb hx => ?_, fun b o e n hb hx => ?_, fun b o e n hx => ?_, fun b o e hx => ?_, fun b xs e => tups b xs (I.base.tups b xs e), fun b o xs e => frzs b o xs (I.base.frzs b o xs e), fun b ps e => ?_⟩, ?_, fun x c e => ?_, ?_, fun x c e => ?_, fun p hp => ?_, hok, I.len⟩
  · exact keep b o (neL b o e) hb (neC b o e hx) (I.base.keep b o e n hb hx) (I.base.free b o e n hx)
  · obtain ⟨sl, e1⟩ := I.base.slot b o e n hb hx
    obtain ⟨sl', e2⟩ := slot b _ (neL b o e) hb (neC b o e hx) e1 (I.base.free b o e n hx)
    exact ⟨sl', e2⟩
  · obtain ⟨o', e1⟩ := I.base.there b o e hx
    exact free b o' (neC b o e hx) e1 (I.base.free b o e n hx)
  · obtain ⟨o', e1⟩ := I.base.there b o e hx
    exact there b o' (neC b o e hx) e1
  · obtain ⟨m1, e1⟩ := I.base.tbls b ps e
    obtain ⟨m2, e2⟩ := tbls b _ e1
    exact ⟨m1 ++ m2, by rw [e2, Array.append_assoc]⟩
  · obtain ⟨m, hn, hl⟩ := I.loc
    refine ⟨m, ns m hn, fun i x v e1 e2 e3 => ?_⟩
    obtain ⟨u, r, l⟩ := hl i x v e1 e2 e3
    refine ⟨u, r, ?_⟩
    rcases l with l | ⟨k, c, e, z⟩
    · exact .inl l
    · exact .inr ⟨k, c, e, cellK x c e _ z⟩
  · obtain ⟨v, z⟩ := I.cell x c e
    exact ⟨v, cellK x c e v z⟩
  · obtain ⟨m, ⟨o, _, _, ho, _⟩, _⟩ := I.loc
    exact free _ o (fun z => (hch _ z).2.1 rfl) ho I.free
  · obtain ⟨v, o, ho, hd⟩ := I.cell x c e
    exact free c o (fun z => (hch c z).2.2.1 x c e rfl) ho (I.freeC x c e)
  · obtain ⟨e, n, ne, nf, d⟩ := I.pin p hp
    have nch : p.1 ∉ ch := fun z => (hch p.1 z).2.2.2 p hp rfl
    exact ⟨keep p.1 p.2 ne nf nch e n, free p.1 p.2 nch e n, ne, nf, d⟩
theorem Inv.un {t' : Nat} (I : Inv X pins σ H s) (u : Un X.fs [] H H' s.heap h') (hok : HOk X.prog X.w H' h') : Inv X pins σ H' { s with heap := h', toks := t' } := by
  obtain ⟨m, ⟨o, es, ep, ho, r⟩, _⟩ := id I.loc
  obtain ⟨sl, hL⟩ := u.any ho I.free (by simp)
  exact I.step (g' := s.gens) (d' := s.drawn) (ch := []) (fun _ z => nomatch z) (fun b o _ hb _ e n => u.keep b o e n hb (by simp)) (fun b o _ hb _ e n => u.slot b o e n hb (by simp)) (fun b o _ e n => u.free b o e n (by simp)) (fun b o _ e => u.there b o e (by simp)) u.tups u.frzs u.tbls (fun m' hm => by
    obtain ⟨o', es', ep', ho', r'⟩ := hm
    rw [ho] at ho'; cases ho'
    exact ⟨_, es', ep', hL, r'⟩) hok I.bare
theorem Inv.call {g' : Array GenState} {t' : Nat} {d' : Drawn} {ch : List Addr} (I : Inv X pins σ H s) (u : Un (frs X.stack) ch H H' s.heap h') (hok : HOk X.prog X.w H' h') (hg : AllBare g')
    (hch : ∀ b ∈ ch, (b ∈ X.ex ∨ X.s₀.heap.objs.size ≤ b) /\ b ≠ X.env.locals /\ (∀ x c, X.env.cells.lookup x = some c->c ≠ b) /\ ∀ p ∈ X.pn ++ pins, p.1 ≠ b) :
    Inv X pins σ H' { s with heap := h', gens := g', drawn := d', toks := t' } := by
  obtain ⟨m, ⟨o, es, ep, ho, r⟩, _⟩ := id I.loc
  obtain ⟨sl, hL⟩ := u.any ho I.free fun z => (hch _ z).2.1 rfl
  exact I.step (ch := ch) hch (fun b o hL hb hc e n => u.keep b o e n (fun z => (List.mem_cons.mp (I.stkSub b z)).elim hL hb) hc) (fun b o _ _ hc e n => u.any e n hc) (fun b o hc e n => u.free b o e n hc) (fun b o hc e => u.there b o e hc) u.tups u.frzs u.tbls (fun m' hm => by
    obtain ⟨o', es', ep', ho', r'⟩ := hm
    rw [ho] at ho'; cases ho'
    exact ⟨_, es', ep', hL, r'⟩) hok hg
theorem Inv.turned {t' : Nat} {it : Addr} (I : Inv X pins σ H s) (k : ∀ b o, b ≠ it->s.heap.get? b = some o->h'.get? b = some o) (hn : H it = none) (hL : it ≠ X.env.locals)
    (h1 : it ∈ X.ex ∨ X.s₀.heap.objs.size ≤ it) (h2 : ∀ x c, X.env.cells.lookup x = some c->c ≠ it) (h3 : ∀ p ∈ X.pn ++ pins, p.1 ≠ it) : Inv X pins σ H { s with heap := h', toks := t' } := by
  have nit : ∀ b u, H b = some u->b ≠ it := fun b u e z => by rw [z, hn] at e; cases e
  refine I.step (g' := s.gens) (d' := s.drawn) (ch := [it]) (fun b hb => ?_) (fun b o _ _ hc e _ => k b o (fun z => hc (by simp [z])) e) (fun b o _ _ hc e _ => ⟨o.slots, k b o (fun z => hc (by simp [z])) e⟩) (fun _ _ _ _ n => n)
    (fun b o hc e => ⟨o, k b o (fun z => hc (by simp [z])) e⟩) (fun _ _ e => e) (fun _ _ _ e => e) (fun b ps e => ⟨#[], by rw [e]; simp⟩) (fun m hm => ?_) (fun b u e => ?_) I.bare
  · have e : b = it := by simpa using hb
    subst e
    exact ⟨h1, hL, h2, h3⟩
  · obtain ⟨o, es, ep, ho, r⟩ := hm
    exact ⟨o, es, ep, k _ o (Ne.symm hL) ho, r⟩
  · refine (I.hok b u e).stay (fun c v hc q => k c v ?_ q) (fun _ q => q) fun _ _ q => q
    rcases hc with z | z
    · rw [z]; exact nit b u e
    · exact nit c _ z
theorem Inv.tok (I : Inv X pins σ H s) (t : Nat) : Inv X pins σ H { s with toks := t } := I.un (h' := s.heap) (t' := t) Un.refl I.hok
theorem Inv.kept {t' : Nat} (I : Inv X pins σ H s) (k : ∀ b u, s.heap.get? b = some u->h'.get? b = some u) : Inv X pins σ H { s with heap := h', toks := t' } := I.un (Un.kept k) (I.hok.kept k)
theorem Inv.laid {a : Addr} {o : HO} {t' : Nat} (I : Inv X pins σ H s) (k : ∀ b u, s.heap.get? b = some u->h'.get? b = some u) (hp : s.heap.objs.size ≤ a) (new : ObjOk X.prog X.w (upd H a o) h' a o) :
    Inv X pins σ (upd H a o) { s with heap := h', toks := t' } := I.un (Un.laid k hp (I.hok.fresh hp)) (I.hok.laid k hp new)
theorem Inv.write {x e : Addr} {o : HO} {t' : Nat} (I : Inv X pins σ H s) (mu : Mut (H x)) (he : e = x ∨ H e = some (.own x)) (k : ∀ b u, b ≠ e->s.heap.get? b = some u->h'.get? b = some u) (heo : ∃ u, h'.get? e = some u)
    (new : ObjOk X.prog X.w (upd H x o) h' x o) : Inv X pins σ (upd H x o) { s with heap := h', toks := t' } := I.un (Un.write mu he k heo) (I.hok.write mu he k heo new)
theorem Inv.pins_of {pins' : List (Addr × Obj)} (I : Inv X pins σ H s) (h : ∀ p ∈ pins', s.heap.get? p.1 = some p.2 /\ H p.1 = none /\ p.1 ≠ X.env.locals /\ p.1 ∉ X.fs /\ ∀ v, p.2.data ≠ .cell v) : Inv X pins' σ H s :=
  ⟨I.ok, I.os, I.bare, I.base, I.loc, I.cell, I.free, I.freeC, fun p hp => (List.mem_append.mp hp).elim (fun z => I.pin p (List.mem_append_left _ z)) (h p), I.hok, I.len⟩
theorem nodup_ix {N : List Str} (hN : N.Nodup) {i j : Nat} {x : Str} (a : N[i]? = some x) (b : N[j]? = some x) : i = j := by
  obtain ⟨h1, e1⟩ := List.getElem?_eq_some_iff.mp a
  obtain ⟨h2, e2⟩ := List.getElem?_eq_some_iff.mp b
  exact (List.getElem_inj hN).mp (e1.trans e2.symm)
theorem store_ok2 {M : Model} {A : Around} {E : Value->Shared->Prop} {i : Nat} {x : Str} {v : V} {u : Value} {Q : Unit->Shared->Prop} (I : Inv X pins σ H s) (hN : X.N.Nodup) (hi : X.N[i]? = some x) (hx : Loc X.env.scope x) (r : RelV v u)
    (h : ∀ s', Inv X pins (σ.set i (some v)) H s'->(∃ a, Heap.SameBut a s.heap s'.heap /\ (a = X.env.locals ∨ X.env.cells.lookup x = some a))->Q () s') (hf : X.fn x = true ∨ X.env.scope.names.lookup x = some .local := by first | exact .inl rfl | exact .inr rfl | assumption) : wpAny M A (storeName X.env x u) Q E s := by
  obtain ⟨m, hn, hl⟩ := id I.loc
  have hcls : (X.env.scope.kind == .class || (X.env.scope.kind == .module && X.env.locals != X.env.globals)) = false := by rw [I.ok.kind]; rfl
  have hiσ : i < σ.length := by rw [I.len]; exact (List.getElem?_eq_some_iff.mp hi).1
  have cne := I.cne
  have tracked : ∀ {a : Addr} {h' : Heap}, (∃ o, s.heap.get? a = some o /\ H a = none)->Heap.SameBut a s.heap h'->HOk X.prog X.w H h' := fun {a h'} ha hs b ob e => by
    obtain ⟨_, _, hfree⟩ := ha
    refine (I.hok b ob e).stay (fun c w' hc q => (hs.2 c ?_).trans q) (fun _ q => q) fun _ _ q => q
    rintro rfl
    rcases hc with rfl | hc
    · rw [hfree] at e; cases e
    · rw [hfree] at hc; cases hc
  rcases hx with hk | hk
  · refine wpAny_storeName_local hk hn (fun h' hn' hs => ?_) hcls
    obtain ⟨oL, _, _, hoL, _⟩ := id hn
    refine h _ ⟨I.ok, I.os, I.bare, ⟨fun b o e n hb hx => ?_, fun b o e n hb hx => ?_, I.base.free, fun b o e hx => ?_, I.base.tups, I.base.frzs, I.base.tbls⟩, ⟨_, hn', fun j y v' e1 e2 e3 => ?_⟩, fun y c e => ?_, I.free, I.freeC, fun p hp => ?_, tracked ⟨oL, hoL, I.free⟩ hs, by simpa using I.len⟩ ⟨_, hs, .inl rfl⟩
    · exact (hs.2 b (Nat.ne_of_lt (Nat.lt_of_lt_of_le (Heap.lt_size e) I.ok.above))).trans (I.base.keep b o e n hb hx)
    · obtain ⟨sl, e1⟩ := I.base.slot b o e n hb hx
      exact ⟨sl, (hs.2 b (Nat.ne_of_lt (Nat.lt_of_lt_of_le (Heap.lt_size e) I.ok.above))).trans e1⟩
    · obtain ⟨o', e1⟩ := I.base.there b o e hx
      exact ⟨o', (hs.2 b (Nat.ne_of_lt (Nat.lt_of_lt_of_le (Heap.lt_size e) I.ok.above))).trans e1⟩
    · by_cases hj : j = i
      · subst hj
        rw [hi] at e1; cases e1
        rw [List.getElem?_set_self hiσ] at e2
        cases e2
        exact ⟨u, r, .inl ⟨hk, by simp⟩⟩
      · rw [List.getElem?_set_ne (Ne.symm hj)] at e2
        obtain ⟨u', r', q⟩ := hl j y v' e1 e2 e3
        refine ⟨u', r', ?_⟩
        rcases q with ⟨k, e⟩ | ⟨k, c, e, z⟩
        · refine .inl ⟨k, ?_⟩
          have : y ≠ x := fun e => hj (nodup_ix hN e1 (e ▸ hi))
          simp [this, e]
        · exact .inr ⟨k, c, e, z.sameBut hs (cne y c e)⟩
    · obtain ⟨w', z⟩ := I.cell y c e
      exact ⟨w', z.sameBut hs (cne y c e)⟩
    · obtain ⟨e, n, ne, nf, d⟩ := I.pin p hp
      exact ⟨(hs.2 p.1 ne).trans e, n, ne, nf, d⟩
  · have hfn : X.fn x = true := by
      rcases hf with z | z
      · exact z
      · rw [z] at hk; cases hk
    obtain ⟨c, hc⟩ := I.ok.has x (.inl hk)
    obtain ⟨w', z⟩ := I.cell x c hc
    refine wpAny_storeName_cell I.ok.kind hk hc z (fun h' hc' hs => ?_)
    obtain ⟨oc, hoc, hocd⟩ := id z
    refine h { s with heap := h' } ⟨I.ok, I.os, I.bare, ⟨fun b o e n hb hx => ?_, fun b o e n hb hx => ?_, I.base.free, fun b o e hx => ?_, I.base.tups, I.base.frzs, I.base.tbls⟩, ⟨m, hn.sameBut hs (Ne.symm (cne x c hc)), fun j y v' e1 e2 e3 => ?_⟩, fun y c' e => ?_, I.free, I.freeC, fun p hp => ?_, tracked ⟨oc, hoc, I.freeC x c hc⟩ hs, by simpa using I.len⟩ ⟨c, hs, .inr hc⟩
    · exact (hs.2 b (Nat.ne_of_lt (Nat.lt_of_lt_of_le (Heap.lt_size e) (I.ok.cab x c hfn hc)))).trans (I.base.keep b o e n hb hx)
    · obtain ⟨sl, e1⟩ := I.base.slot b o e n hb hx
      exact ⟨sl, (hs.2 b (Nat.ne_of_lt (Nat.lt_of_lt_of_le (Heap.lt_size e) (I.ok.cab x c hfn hc)))).trans e1⟩
    · obtain ⟨o', e1⟩ := I.base.there b o e hx
      exact ⟨o', (hs.2 b (Nat.ne_of_lt (Nat.lt_of_lt_of_le (Heap.lt_size e) (I.ok.cab x c hfn hc)))).trans e1⟩
    · by_cases hj : j = i
      · subst hj
        rw [hi] at e1; cases e1
        rw [List.getElem?_set_self hiσ] at e2
        cases e2
        exact ⟨u, r, .inr ⟨.inl hk, c, hc, hc'⟩⟩
      · rw [List.getElem?_set_ne (Ne.symm hj)] at e2
        obtain ⟨u', r', q⟩ := hl j y v' e1 e2 e3
        refine ⟨u', r', ?_⟩
        rcases q with q | ⟨k, c', e, z'⟩
        · exact .inl q
        · refine .inr ⟨k, c', e, z'.sameBut hs ?_⟩
          rintro rfl
          exact hj (nodup_ix hN e1 (I.ok.inj _ _ _ e hc ▸ hi))
    · by_cases hcc : c' = c
      · subst hcc; exact ⟨_, hc'⟩
      · obtain ⟨w2, z2⟩ := I.cell y c' e
        exact ⟨w2, z2.sameBut hs hcc⟩
    · obtain ⟨e, n, ne, nf, d⟩ := I.pin p hp
      refine ⟨(hs.2 p.1 ?_).trans e, n, ne, nf, d⟩
      intro q
      rw [q, hoc] at e
      have q' : oc = p.2 := Option.some.inj e
      exact d w' (by rw [← q']; exact hocd)
theorem store_ok {M : Model} {A : Around} {E : Value->Shared->Prop} {i : Nat} {x : Str} {v : V} {u : Value} {Q : Unit->Shared->Prop} (I : Inv X pins σ H s) (hN : X.N.Nodup) (hi : X.N[i]? = some x) (hx : Loc X.env.scope x) (r : RelV v u)
    (h : ∀ s', Inv X pins (σ.set i (some v)) H s'->Q () s') (hf : X.fn x = true ∨ X.env.scope.names.lookup x = some .local := by first | exact .inl rfl | exact .inr rfl | assumption) : wpAny M A (storeName X.env x u) Q E s :=
  store_ok2 I hN hi hx r (fun s' I' _ => h s' I') hf
theorem Inv.call' {s' : Shared} {ch : List Addr} (I : Inv X pins σ H s) (ho : s'.os = s.os) (u : Un (frs X.stack) ch H H' s.heap s'.heap) (hok : HOk X.prog X.w H' s'.heap) (hg : AllBare s'.gens)
    (hch : ∀ b ∈ ch, (b ∈ X.ex ∨ X.s₀.heap.objs.size ≤ b) /\ b ≠ X.env.locals /\ (∀ x c, X.env.cells.lookup x = some c->c ≠ b) /\ ∀ p ∈ X.pn ++ pins, p.1 ≠ b) : Inv X pins σ H' s' := by
  obtain ⟨h', g', d', t', o'⟩ := s'
  have e : o' = s.os := ho
  subst e
  exact I.call (g' := g') (t' := t') (d' := d') u hok hg hch
end
abbrev XK := Value->Option Addr->Hp->Prop
abbrev St := List (Option V)
abbrev VK := V->Hp->Prop
abbrev TE := St->Hp->VK->Prop
abbrev TT := St->Hp->(Bool->Hp->Prop)->Prop
abbrev TA := St->Hp->(List V->Hp->Prop)->Prop
structure Ends where
  nx : St->Hp->Prop
  rt : VK
  bk : St->Hp->Prop := fun _ _ => False
  ct : St->Hp->Prop := fun _ _ => False
abbrev TS := Ends->St->Hp->Prop
def EP (X : Cx) (pins : List (Addr × Obj)) (σ : St) (Q : VK) (u : Value) (s' : Shared) : Prop := ∃ v H', Inv X pins σ H' s' /\ RelV v u /\ Q v H'
def TP (X : Cx) (pins : List (Addr × Obj)) (σ : St) (Q : Bool->Hp->Prop) (b : Bool) (s' : Shared) : Prop := ∃ H', Inv X pins σ H' s' /\ Q b H'
def AP (X : Cx) (pins : List (Addr × Obj)) (σ : St) (Q : List V->Hp->Prop) (us : List Value) (s' : Shared) : Prop := ∃ vs H', Inv X pins σ H' s' /\ Vals vs us /\ Q vs H'
def SP (X : Cx) (pins : List (Addr × Obj)) (D : Ends) (f : Flow) (s' : Shared) : Prop :=
  match f with
  | .next => ∃ σ' H', Inv X pins σ' H' s' /\ D.nx σ' H'
  | .brk => ∃ σ' H', Inv X pins σ' H' s' /\ D.bk σ' H'
  | .cont => ∃ σ' H', Inv X pins σ' H' s' /\ D.ct σ' H'
  | .ret u => ∃ v σ' H', Inv X pins σ' H' s' /\ RelV v u /\ D.rt v H'
def PE (X : Cx) (e : Expr) (t : TE) : Prop :=
  ∀ (pins : List (Addr × Obj)) (s : Shared) (σ : St) (H : Hp) (Q : VK), Inv X pins σ H s->t σ H Q->wpAny (model X.prog X.w) X.A (eval e X.env) (EP X pins σ Q) X.xe s
def PT (X : Cx) (e : Expr) (t : TT) : Prop :=
  ∀ (pins : List (Addr × Obj)) (s : Shared) (σ : St) (H : Hp) (Q : Bool->Hp->Prop), Inv X pins σ H s->t σ H Q->wpAny (model X.prog X.w) X.A (isTrue e X.env (eval e X.env)) (TP X pins σ Q) X.xe s
def PW (X : Cx) (e : Expr) (t : TT) : Prop :=
  ∀ (whole : Sem Value) (pins : List (Addr × Obj)) (s : Shared) (σ : St) (H : Hp) (Q : Bool->Hp->Prop), Inv X pins σ H s->t σ H Q->wpAny (model X.prog X.w) X.A (isTrue e X.env whole) (TP X pins σ Q) X.xe s
theorem PW.pt {X : Cx} {e : Expr} {t : TT} (h : PW X e t) : PT X e t := h _
def PA (X : Cx) (es : List Expr) (t : TA) : Prop :=
  ∀ (pos : Pos) (pins : List (Addr × Obj)) (s : Shared) (σ : St) (H : Hp) (Q : List V->Hp->Prop), Inv X pins σ H s->t σ H Q->wpAny (model X.prog X.w) X.A (spliced (backTo pos (starEach es X.env))) (AP X pins σ Q) X.xe s
def PS (X : Cx) (st : Stmt) (t : TS) : Prop :=
  ∀ (pins : List (Addr × Obj)) (s : Shared) (σ : St) (H : Hp) (D : Ends), Inv X pins σ H s->t D σ H->wpAny (model X.prog X.w) X.A (exec st X.env) (SP X pins D) X.xe s
def PSs (X : Cx) (st : List Stmt) (t : TS) : Prop :=
  ∀ (pins : List (Addr × Obj)) (s : Shared) (σ : St) (H : Hp) (D : Ends), Inv X pins σ H s->t D σ H->wpAny (model X.prog X.w) X.A (execs st X.env) (SP X pins D) X.xe s
theorem thn {α : Type} {t : Sem α} {Q Q' : α->Shared->Prop} {M : Model} {A : Around} {E : Value->Shared->Prop} {s : Shared} (h : wpAny M A t Q E s) (hQ : ∀ a s, Q a s->Q' a s) : wpAny M A t Q' E s := wpAny_mono h hQ fun _ _ x => x
open PySem PySem.Spec PyProof.Rows
section
variable {X : Cx}
def tVar (i : Nat) : TE := fun σ H Q => ∃ v, σ[i]? = some (some v) /\ Q v H
def tC (v : V) : TE := fun _ H Q => Q v H
theorem pe_var {i : Nat} {x : Str} {pos : Pos} (hN : X.N[i]? = some x) (hv : Vis X.env.scope x) (hd : (x == ("__debug__" : Str)) = false := by decide) (hcd : (x == ("__classdict__" : Str)) = false := by decide) : PE X (.Name x pos) (tVar i) := by
  intro pins s σ H Q I h
  obtain ⟨v, e, h⟩ := h
  obtain ⟨m, hn, hl⟩ := I.loc
  obtain ⟨u, r, l⟩ := hl i x v hN e hv
  have fin : EP X pins σ Q u s := ⟨v, H, I, r, h⟩
  rcases l with ⟨hk, hm⟩ | ⟨hk, c, hc, hcell⟩
  · exact wpAny_Name (wpAny_loadName_local I.ok.kind hk hn hm fin) hd
  · rcases hk with hk | hk
    · exact wpAny_Name (wpAny_loadName_cell I.ok.kind hk hc hcell fin) hd
    · exact wpAny_Name (wpAny_loadName_free I.ok.kind hk hc hcell fin hcd) hd
theorem pe_int {i j pos} : PE X (.Constant (.int i) j pos) (tC (.int i)) := fun _ _ _ H _ I h => wpAny_Constant_int ⟨.int i, H, I.tok _, ⟨_, rfl⟩, h⟩
theorem pe_bl {b j pos} : PE X (.Constant (.bool b) j pos) (tC (.bl b)) := fun _ _ _ H _ I h => Constant_bool ⟨.bl b, H, I, rfl, h⟩
theorem pe_non {j pos} : PE X (.Constant .none j pos) (tC .non) := fun _ _ _ H _ I h => Constant_none ⟨.non, H, I, rfl, h⟩
def Gl (X : Cx) (x : Str) : Prop := X.env.kindOf x = some .globalImplicit
theorem ld_glob {E : Value->Shared->Prop} {pins : List (Addr × Obj)} {s : Shared} {σ : St} {H : Hp} {x : Str} {u : Value} {pos : Pos} {Q : Value->Shared->Prop} (I : Inv X pins σ H s) (hg : Gl X x) (hm : X.mg x = some u) (h : Q u s)
    (hd : (x == ("__debug__" : Str)) = false := by decide) : wpAny (model X.prog X.w) X.A (eval (.Name x pos) X.env) Q E s :=
  Calls.Name_function_global I.ok.kind hg (Calls.loadGlobal_global (by rw [I.ok.glob]; exact I.mod.glob.keeps I.bk) hm h) hd
theorem ld_blt {E : Value->Shared->Prop} {pins : List (Addr × Obj)} {s : Shared} {σ : St} {H : Hp} {x : Str} {u : Value} {pos : Pos} {Q : Value->Shared->Prop} (I : Inv X pins σ H s) (hg : Gl X x) (hm : X.mg x = none) (hv : bootBuiltins x = some u) (h : Q u s)
    (hn : x ≠ "__name__" := by decide) (hd : (x == ("__debug__" : Str)) = false := by decide) : wpAny (model X.prog X.w) X.A (eval (.Name x pos) X.env) Q E s := by
  obtain ⟨mb, h1, h2⟩ := I.mod.blt
  exact Calls.Name_function_global I.ok.kind hg (Calls.loadGlobal_builtin (by rw [I.ok.glob]; exact I.mod.glob.keeps I.bk) hm (by rw [I.ok.blt]; exact h1.keeps I.bk) ((h2 x hn).trans hv) h) hd
theorem pe_bltn {x : Str} {v : V} {u : Value} {pos : Pos} (hg : Gl X x) (hm : X.mg x = none) (hv : bootBuiltins x = some u) (r : RelV v u) (hn : x ≠ "__name__" := by decide) (hd : (x == ("__debug__" : Str)) = false := by decide) : PE X (.Name x pos) (tC v) :=
  fun _ _ _ H _ I h => ld_blt I hg hm hv ⟨v, H, I, r, h⟩ hn hd
variable {a b : Expr} {ta tb : TE} {pos : Pos}
def PC (X : Cx) (op : CmpOp) (a b : Expr) (t : TE) : Prop :=
  ∀ (pins : List (Addr × Obj)) (s : Shared) (σ : St) (H : Hp) (Q : VK), Inv X pins σ H s->t σ H Q →
    wpAny (model X.prog X.w) X.A (eval a X.env) (fun v s₁ => wpAny (model X.prog X.w) X.A (eval b X.env) (fun u s₂ => wpAny (model X.prog X.w) X.A (compareOp op v u) (EP X pins σ Q) X.xe s₂) X.xe s₁) X.xe s
theorem nobehind (b : Expr) {op : CmpOp} (h : op ≠ .In) (h2 : op ≠ .NotIn) : behindInMarks op b = false := by
  have e1 : (op == CmpOp.In) = false := by cases op <;> first | rfl | exact absurd rfl h
  have e2 : (op == CmpOp.NotIn) = false := by cases op <;> first | rfl | exact absurd rfl h2
  cases b <;> simp [behindInMarks, e1, e2]
def tB (t : TE) : TT := fun σ H Q => t σ H fun x H1 => ∃ c, x = .bl c /\ Q c H1
theorem pe_cmp {op : CmpOp} {t : TE} (h : PC X op a b t) (h1 : behindInMarks op b = false := by first | exact nobehind _ (by decide) (by decide) | rfl) : PE X (.Compare a [op] [b] pos) t := fun pins s σ H Q I hw => wpAny_Compare1 (h pins s σ H Q I hw) h1
theorem pt_cmp {op : CmpOp} {t : TE} (h : PC X op a b t) (h1 : behindInMarks op b = false := by first | exact nobehind _ (by decide) (by decide) | rfl) : PT X (.Compare a [op] [b] pos) (tB t) := by
  intro pins s σ H Q I hw
  refine wpAny_isTrue_Compare1 (thn (h pins s σ H _ I hw) fun v s1 h1 => thn h1 fun u s2 h2 => thn h2 fun c s3 ⟨x, H1, I1, r1, q1⟩ => ?_) h1
  obtain ⟨d, rfl, q⟩ := q1
  cases r1
  exact wpAny_truthy_bool ⟨H1, I1, q⟩
theorem pt_val {e : Expr} {t : TE} (h : PE X e t) (he : ∀ whole, isTrue e X.env whole = (do let v ← whole; standAt e.pos; holding [v] (truthy v)) := by intro _; rfl) : PT X e (tB t) := by
  intro pins s σ H Q I hw
  refine isTrue_plain (thn (h pins s σ H _ I hw) fun v s1 ⟨x, H1, I1, r1, q1⟩ => ?_) (he _)
  obtain ⟨d, rfl, q⟩ := q1
  cases r1
  exact wpAny_truthy_bool ⟨H1, I1, q⟩
variable {tA tB' : TT} {rest : List Expr}
def tAnd (t u : TT) : TT := fun σ H Q => t σ H fun c H1 => if c = true then u σ H1 Q else Q false H1
def tOr (t u : TT) : TT := fun σ H Q => t σ H fun c H1 => if c = true then Q true H1 else u σ H1 Q
def tNot (t : TT) : TT := fun σ H Q => t σ H fun c H1 => Q (!c) H1
theorem pw_and1 (ha : PT X a tA) : PW X (.BoolOp .And [a] pos) tA := by
  intro wh pins s σ H Q I h
  refine isTrue_and (thn (ha pins s σ H Q I h) fun c s1 e => ?_)
  cases c with
  | true => exact isTrue_and_nil e
  | false => exact e
theorem pw_or1 (ha : PT X a tA) : PW X (.BoolOp .Or [a] pos) tA := by
  intro wh pins s σ H Q I h
  refine isTrue_or (thn (ha pins s σ H Q I h) fun c s1 e => ?_)
  cases c with
  | false => exact isTrue_or_nil e
  | true => exact e
theorem pw_and (ha : PT X a tA) (hb : PW X (.BoolOp .And (b :: rest) pos) tB') : PW X (.BoolOp .And (a :: b :: rest) pos) (tAnd tA tB') := by
  intro wh pins s σ H Q I h
  refine isTrue_and (thn (ha pins s σ H _ I h) fun c s1 ⟨H1, I1, q1⟩ => ?_)
  cases c with
  | true => exact hb wh pins s1 σ H1 Q I1 q1
  | false => exact ⟨H1, I1, q1⟩
theorem pw_or (ha : PT X a tA) (hb : PW X (.BoolOp .Or (b :: rest) pos) tB') : PW X (.BoolOp .Or (a :: b :: rest) pos) (tOr tA tB') := by
  intro wh pins s σ H Q I h
  refine isTrue_or (thn (ha pins s σ H _ I h) fun c s1 ⟨H1, I1, q1⟩ => ?_)
  cases c with
  | true => exact ⟨H1, I1, q1⟩
  | false => exact hb wh pins s1 σ H1 Q I1 q1
theorem pt_not (ha : PT X a tA) : PT X (.UnaryOp .Not a pos) (tNot tA) := by
  intro pins s σ H Q I h
  exact isTrue_not (ha pins s σ H (fun c H1 => Q (!c) H1) I h)
def tAndV (ta tb : TE) : TE := fun σ H Q => ta σ H fun x H1 => ∃ c, x = .bl c /\ if c = true then tb σ H1 Q else Q (.bl false) H1
theorem pe_one {op} {t : TE} (h : PE X a t) : PE X (.BoolOp op [a] pos) t := fun pins s σ H Q I hw => BoolOp_one (h pins s σ H Q I hw)
theorem pe_and (ha : PE X a ta) (hb : PE X (.BoolOp .And (b :: rest) pos) tb) : PE X (.BoolOp .And (a :: b :: rest) pos) (tAndV ta tb) := by
  intro pins s σ H Q I h
  refine BoolOp_and (thn (ha pins s σ H _ I h) fun v s1 ⟨x, H1, I1, r1, q1⟩ => ?_)
  obtain ⟨c, rfl, q1⟩ := q1
  cases r1
  refine wpAny_truthy_bool ?_
  cases c with
  | true => exact hb pins s1 σ H1 Q I1 q1
  | false => exact ⟨.bl false, H1, I1, rfl, q1⟩
def tIf (t : TT) (ta tb : TE) : TE := fun σ H Q => t σ H fun c H1 => if c = true then ta σ H1 Q else tb σ H1 Q
theorem pe_ifExp {c : Expr} (hc : PT X c tA) (ha : PE X a ta) (hb : PE X b tb) : PE X (.IfExp c a b pos) (tIf tA ta tb) := by
  intro pins s σ H Q I h
  refine wpAny_IfExp (thn (hc pins s σ H _ I h) fun d s1 ⟨H1, I1, q1⟩ => ?_)
  cases d with
  | true => exact ha pins s1 σ H1 Q I1 q1
  | false => exact hb pins s1 σ H1 Q I1 q1
end
open PySem PySem.Spec PyProof.Rows
def SqL (K : PySem.W.Frag) (H : Hp) (a : Addr) (xs : List V) : Prop :=
  Rd H a (.lst xs) ∨
    ∃ (o : Obj) (its : Array Value) (n : Nat), K.lookup a = some o /\ o.cls = .type "list" /\ o.dict = none /\ o.data = .seq its n /\ its.size ≤ sizeLine /\ Vals xs its.toList
def SqT (K : PySem.W.Frag) (H : Hp) (a : Addr) (xs : List V) : Prop :=
  Rd H a (.tup xs) ∨
    ∃ (o : Obj) (its : Array Value) (n : Nat), K.lookup a = some o /\ o.cls = .type "tuple" /\ o.data = .seq its n /\ its.size ≤ sizeLine /\ Vals xs its.toList
def absV : Value->Option V
  | .none => some .non
  | .bool b => some (.bl b)
  | .int i _ => some (.int i)
  | .str x _ => some (.str x)
  | .bytes b _ => some (.byt b)
  | .float b _ => some (.flt b)
  | .ref a => some (.ref a)
  | .type n => some (.ty n)
  | _ => none
theorem RelV.abs {x : V} {u : Value} (r : RelV x u) : absV u = some x := by
  cases x with
  | non => cases r; rfl
  | bl _ => cases r; rfl
  | int _ => obtain ⟨t, rfl⟩ := r; rfl
  | str _ => obtain ⟨t, rfl⟩ := r; rfl
  | byt _ => obtain ⟨t, rfl⟩ := r; rfl
  | flt _ => obtain ⟨t, rfl⟩ := r; rfl
  | ref _ => cases r; rfl
  | ty _ => cases r; rfl
theorem RelV.inj {x y : V} {u : Value} (r : RelV x u) (q : RelV y u) : x = y := Option.some.inj (r.abs.symm.trans q.abs)
theorem Vals.inj : ∀ {xs ys : List V} {us : List Value}, Vals xs us->Vals ys us->xs = ys
  | _, _, _, .nil, .nil => rfl
  | _, _, _, .cons r t, .cons r' t' => by rw [r.inj r', Vals.inj t t']
section
variable {X : Cx} {pins : List (Addr × Obj)} {σ : St} {H : Hp} {s : Shared} {a : Addr} {xs ys : List V}
theorem SqL.of {K : PySem.W.Frag} (h : H a = some (.lst xs)) : SqL K H a xs := .inl (.inl h)
theorem SqT.of {K : PySem.W.Frag} (h : H a = some (.tup xs)) : SqT K H a xs := .inl (.inl h)
theorem Inv.list (I : Inv X pins σ H s) (h : SqL X.K H a xs) : ∃ its : List Value, Vals xs its /\ PlainL s.heap a its.toArray /\ xs.length ≤ sizeLine := by
  rcases h with h | ⟨o, its, n, hk, hc, hd, hs, hz, r⟩
  · obtain ⟨z, its, n, r, e⟩ := h.ok I.hok
    exact ⟨its, r, ⟨_, n, e, rfl, rfl, rfl⟩, z⟩
  · refine ⟨its.toList, r, ⟨o, n, I.kIn a o hk, hc, hd, by simpa using hs⟩, ?_⟩
    have e := r.length
    simp only [Array.length_toList] at e
    omega
theorem Inv.tuple (I : Inv X pins σ H s) (h : SqT X.K H a xs) : ∃ its : List Value, Vals xs its /\ IsTup s.heap a its.toArray /\ xs.length ≤ sizeLine := by
  rcases h with h | ⟨o, its, n, hk, hc, hs, hz, r⟩
  · obtain ⟨z, its, r, p⟩ := h.ok I.hok
    exact ⟨its, r, p, z⟩
  · refine ⟨its.toList, r, ⟨o, I.kIn a o hk, hc, n, by simpa using hs⟩, ?_⟩
    have e := r.length
    simp only [Array.length_toList] at e
    omega
theorem Inv.list_inj (I : Inv X pins σ H s) (h : SqL X.K H a xs) (h' : SqL X.K H a ys) : xs = ys := by
  obtain ⟨its, r, ⟨o, n, e, _, _, d⟩, _⟩ := I.list h
  obtain ⟨its', r', ⟨o', n', e', _, _, d'⟩, _⟩ := I.list h'
  rw [e] at e'; cases e'
  rw [d] at d'
  injection d' with d1 _
  have : its = its' := by simpa using congrArg Array.toList d1
  subst this
  exact r.inj r'
end
abbrev Cx.wish (X : Cx) (E : Value->Shared->Prop) : Cx := { X with xe := E }
abbrev Cx.nox (X : Cx) : Cx := X.wish fun _ _ => False
theorem Cx.Ok.wish {X : Cx} (ok : X.Ok) (E : Value->Shared->Prop) : (X.wish E).Ok :=
  ⟨ok.mod, ok.kind, ok.glob, ok.blt, ok.above, ok.inj, ok.has, ok.cab, ok.hd, ok.frames, ok.stk, ok.exf, ok.bs, ok.bsz, ok.noex, ok.exfs, ok.funs, ok.frf⟩
theorem Cx.Ok.unwish {X : Cx} {E : Value->Shared->Prop} (ok : (X.wish E).Ok) : X.Ok :=
  ⟨ok.mod, ok.kind, ok.glob, ok.blt, ok.above, ok.inj, ok.has, ok.cab, ok.hd, ok.frames, ok.stk, ok.exf, ok.bs, ok.bsz, ok.noex, ok.exfs, ok.funs, ok.frf⟩
section
variable {X : Cx} {pins : List (Addr × Obj)} {σ : St} {H : Hp} {s : Shared} {E : Value->Shared->Prop}
theorem Inv.wish (I : Inv X pins σ H s) (E : Value->Shared->Prop) : Inv (X.wish E) pins σ H s := ⟨I.ok.wish E, I.os, I.bare, I.base, I.loc, I.cell, I.free, I.freeC, I.pin, I.hok, I.len⟩
theorem Inv.unwish (I : Inv (X.wish E) pins σ H s) : Inv X pins σ H s := ⟨I.ok.unwish, I.os, I.bare, I.base, I.loc, I.cell, I.free, I.freeC, I.pin, I.hok, I.len⟩
end
section
variable {X : Cx} {st : Stmt} {rest : List Stmt} {t u : TS} {e : Expr} {te : TE} {pos : Pos}
def tNext : TS := fun D σ H => D.nx σ H
def tSeq (t u : TS) : TS := fun D σ H => t { D with nx := u D } σ H
theorem pss_nil : PSs X [] tNext := fun _ _ σ H _ I h => wpAny_execs_nil ⟨σ, H, I, h⟩
theorem pss_cons (h1 : PS X st t) (h2 : PSs X rest u) : PSs X (st :: rest) (tSeq t u) := by
  intro pins s σ H D I h
  refine wpAny_execs_cons (thn (h1 pins s σ H { D with nx := u D } I h) fun f s1 q => ?_)
  cases f with
  | next =>
    obtain ⟨σ', H', I', q⟩ := q
    exact h2 pins s1 σ' H' D I' q
  | ret v => exact q
  | brk => exact q
  | cont => exact q
theorem pss_one (h1 : PS X st t) : PSs X [st] t := by
  intro pins s σ H D I h
  refine wpAny_execs_cons (thn (h1 pins s σ H D I h) fun f s1 q => ?_)
  cases f with
  | next => exact wpAny_execs_nil q
  | ret v => exact q
  | brk => exact q
  | cont => exact q
theorem Inv.quiet {pins : List (Addr × Obj)} {σ : St} {H : Hp} {s : Shared} (I : Inv X pins σ H s) : interactive X.env = false := by simp [interactive, I.ok.kind]
def tDrop (te : TE) : TS := fun D σ H => te σ H fun _ H1 => D.nx σ H1
theorem ps_expr (he : PE X e te) (hs : swapsWith e none pos.line X.env = pure false := by rfl) : PS X (.Expr e pos) (tDrop te) := by
  intro pins s σ H D I h
  exact wpAny_Expr_any (thn (he pins s σ H _ I h) fun v s1 ⟨x, H1, I1, r1, q1⟩ => ⟨σ, H1, I1, q1⟩) I.quiet hs
def tRet (te : TE) : TS := fun D σ H => te σ H D.rt
theorem ps_ret (he : PE X e te) : PS X (.Return (some e) pos) (tRet te) := by
  intro pins s σ H D I h
  exact wpAny_Return_some (thn (he pins s σ H _ I h) fun v s1 ⟨x, H1, I1, r1, q1⟩ => ⟨x, σ, H1, I1, r1, q1⟩)
def tIfS (c : TT) (t u : TS) : TS := fun D σ H => c σ H fun b H1 => if b = true then t D σ H1 else u D σ H1
theorem ps_if {c : Expr} {a b : List Stmt} {tc : TT} (hc : PT X c tc) (ha : PSs X a t) (hb : PSs X b u) : PS X (.If c a b pos) (tIfS tc t u) := by
  intro pins s σ H D I h
  refine wpAny_If (thn (hc pins s σ H _ I h) fun d s1 ⟨H1, I1, q1⟩ => ?_)
  cases d with
  | true => exact ha pins s1 σ H1 D I1 q1
  | false => exact hb pins s1 σ H1 D I1 q1
end
abbrev TG := V->St->Hp->(St->Hp->Prop)->Prop
abbrev TGs := List V->St->Hp->(St->Hp->Prop)->Prop
def PG (X : Cx) (target : Expr) (t : TG) : Prop :=
  ∀ (pins : List (Addr × Obj)) (s : Shared) (σ : St) (H : Hp) (v : V) (u : Value) (Q : St->Hp->Prop), Inv X pins σ H s->RelV v u->t v σ H Q →
    wpAny (model X.prog X.w) X.A (assign target X.env u) (fun _ s' => ∃ σ' H', Inv X pins σ' H' s' /\ Q σ' H') X.xe s
def PGs (X : Cx) (ts : List Expr) (t : TGs) : Prop :=
  ∀ (pins : List (Addr × Obj)) (s : Shared) (σ : St) (H : Hp) (vs : List V) (us : List Value) (Q : St->Hp->Prop), Inv X pins σ H s->Vals vs us->t vs σ H Q →
    wpAny (model X.prog X.w) X.A (assignInOrder ((assignEach ts X.env).map (·.2)) us) (fun _ s' => ∃ σ' H', Inv X pins σ' H' s' /\ Q σ' H') X.xe s
abbrev TSet := V->V->V->Hp->(Hp->Prop)->Prop
def PSet (X : Cx) (t : TSet) : Prop :=
  ∀ (pins : List (Addr × Obj)) (s : Shared) (σ : St) (H : Hp) (o i v : V) (ov iv u : Value) (Q : Hp->Prop), Inv X pins σ H s->RelV o ov->RelV i iv->RelV v u->t o i v H Q →
    wpAny (model X.prog X.w) X.A (setItem ov iv u) (fun _ s' => ∃ H', Inv X pins σ H' s' /\ Q H') X.xe s
section
variable {X : Cx} {pos : Pos}
def gName (i : Nat) : TG := fun v σ H Q => Q (σ.set i (some v)) H
theorem pg_name {i : Nat} {x : Str} (hN : X.N.Nodup) (hi : X.N[i]? = some x) (hx : Loc X.env.scope x) (hf : X.fn x = true ∨ X.env.scope.names.lookup x = some .local := by first | exact .inl rfl | exact .inr rfl | assumption) : PG X (.Name x pos) (gName i) := by
  intro pins s σ H v u Q I r h
  exact wpAny_assign_Name (store_ok I hN hi hx r (fun s' I' => ⟨_, H, I', h⟩) hf)
def gNil : TGs := fun vs σ H Q => vs = [] /\ Q σ H
def gCons (t : TG) (u : TGs) : TGs := fun vs σ H Q => ∃ v r, vs = v :: r /\ t v σ H fun σ' H' => u r σ' H' Q
theorem pgs_nil : PGs X [] gNil := by
  intro pins s σ H vs us Q I r h
  obtain ⟨e, h⟩ := h
  subst e
  cases r
  exact assignInOrder_nil ⟨σ, H, I, h⟩
theorem pgs_cons {e : Expr} {es : List Expr} {t : TG} {u : TGs} (h1 : PG X e t) (h2 : PGs X es u)
    (hs : (assignEach (e :: es) X.env).map (·.2) = assign e X.env :: (assignEach es X.env).map (·.2) := by rfl) : PGs X (e :: es) (gCons t u) := by
  intro pins s σ H vs us Q I r h
  obtain ⟨v, vr, e1, h⟩ := h
  subst e1
  cases r with
  | cons r rr =>
    rw [hs]
    refine assignInOrder_cons (thn (h1 pins s σ H _ _ _ I r h) fun _ s1 ⟨σ1, H1, I1, q1⟩ => ?_)
    exact h2 pins s1 σ1 H1 _ _ Q I1 rr q1
def gSub (to ti : TE) (t : TSet) : TG := fun v σ H Q => to σ H fun o H1 => ti σ H1 fun i H2 => t o i v H2 fun H3 => Q σ H3
theorem pg_sub {o i : Expr} {to ti : TE} {t : TSet} (ho : PE X o to) (hi : PE X i ti) (hs : PSet X t)
    (ha : ∀ v, assign (.Subscript o i pos) X.env v = (do
      let ov ← holding [v] (eval o X.env)
      let iv ← holding [v, ov] (eval i X.env)
      standAt pos
      holding [v, ov, iv] (setItem ov iv v)
      release [v, ov, iv] []) := by intro _; rfl) : PG X (.Subscript o i pos) (gSub to ti t) := by
  intro pins s σ H v u Q I r h
  rw [ha]
  refine wpAny_bind (wpAny_holding (thn (ho pins s σ H _ I h) fun ov s1 ⟨x, H1, I1, r1, q1⟩ => ?_))
  refine wpAny_bind (wpAny_holding (thn (hi pins s1 σ H1 _ I1 q1) fun iv s2 ⟨y, H2, I2, r2, q2⟩ => ?_))
  refine wpAny_bind (wpAny_standAt (wpAny_bind (wpAny_holding (thn (hs pins s2 σ H2 x y v ov iv u _ I2 r1 r2 r q2) fun _ s3 ⟨H3, I3, q3⟩ => ?_))))
  exact wpAny_release ⟨σ, H3, I3, q3⟩
def tAsg (te : TE) (g : TG) : TS := fun D σ H => te σ H fun x H1 => g x σ H1 D.nx
theorem ps_asg {tg e : Expr} {te : TE} {g : TG} (he : PE X e te) (hg : PG X tg g) (hs : swapsWithSole [tg] e pos.line X.env = pure false := by rfl) (hw : swappedStores [tg] e X.env = pure none := by rfl)
    (h1 : (assignEach [tg] X.env).map (·.2) = [assign tg X.env] := by rfl) : PS X (.Assign [tg] e pos) (tAsg te g) := by
  intro pins s σ H D I h
  refine wpAny_Assign_stores (thn (he pins s σ H _ I h) fun v s1 ⟨x, H1, I1, r1, q1⟩ => ?_) hs hw
  rw [h1]
  exact thn (hg pins s1 σ H1 x v _ I1 r1 q1) fun _ s2 q => q
theorem ps_set {i : Nat} {x : Str} {e : Expr} {te : TE} {pos' : Pos} (hN : X.N.Nodup) (hi : X.N[i]? = some x) (hx : Loc X.env.scope x) (he : PE X e te) (hs : swapsWith e (some (.Name x pos')) pos.line X.env = pure false := by rfl) (hf : X.fn x = true ∨ X.env.scope.names.lookup x = some .local := by first | exact .inl rfl | exact .inr rfl | assumption) :
    PS X (.Assign [.Name x pos'] e pos) (tAsg te (gName i)) := by
  intro pins s σ H D I h
  refine wpAny_Assign_Name (thn (he pins s σ H _ I h) fun v s1 ⟨y, H1, I1, r1, q1⟩ => ?_) hs
  exact store_ok I1 hN hi hx r1 (fun s2 I2 => ⟨_, H1, I2, q1⟩) hf
def tPar (i j : Nat) (ta : TA) : TS := fun D σ H => ta σ H fun vs H1 => ∃ v w, vs = [v, w] /\ D.nx ((σ.set i (some v)).set j (some w)) H1
theorem ps_par {i j : Nat} {x y : Str} {a b : Expr} {ta : TA} {px py pt : Pos} {kt k2 pt2} (hc : X.calm = true) (hN : X.N.Nodup) (hi : X.N[i]? = some x) (hj : X.N[j]? = some y) (hij : i ≠ j)
    (hx : X.env.scope.names.lookup x = some .local) (hy : X.env.scope.names.lookup y = some .local) (ha : PA X [a, b] ta)
    (hw : swappedStores [.Tuple [.Name x px, .Name y py] kt pt] (.Tuple [a, b] k2 pt2) X.env = pure (some [x, y]))
    (hs : swapsWithSole [.Tuple [.Name x px, .Name y py] kt pt] (.Tuple [a, b] k2 pt2) pos.line X.env = pure false := by rfl) :
    PS X (.Assign [.Tuple [.Name x px, .Name y py] kt pt] (.Tuple [a, b] k2 pt2) pos) (tPar i j ta) := by
  intro pins s σ H D I h
  rw [exec_Assign_arm]
  refine wpAny_bind (wpAny_standAt ?_)
  rw [hs]
  refine wpAny_bind (wpAny_pure ?_)
  rw [if_neg (by decide)]
  refine wpAny_bind (Tuple_ (thn (ha _ pins s σ H _ I h) fun us s1 ⟨vs, H1, I1, r1, q1⟩ => ?_))
  obtain ⟨v, w, e1, q1⟩ := q1
  subst e1
  obtain ⟨u1, u2, rfl, rv, rw'⟩ : ∃ u1 u2, us = [u1, u2] /\ RelV v u1 /\ RelV w u2 := by
    cases r1 with
    | cons p q =>
      cases q with
      | cons p' q' =>
        cases q'
        exact ⟨_, _, rfl, p, p'⟩
  refine wpAny_newObj_type ?_ (by show 2 ≤ sizeLine; decide)
  have I2 : Inv X pins σ H1 { s1 with heap := s1.heap.push { cls := .type "tuple", data := .seq [u1, u2].toArray } } := I1.kept (t' := s1.toks) fun b o e => Heap.get?_push_of_some _ e
  rw [hw]
  refine wpAny_bind (wpAny_pure ?_)
  show wpAny (model X.prog X.w) X.A (do rule "assign.swapped-stores"; let items ← unpackItems (.ref s1.heap.objs.size) 2 none; assignInOrder [fun v => bindName X.env y v, fun v => bindName X.env x v] items.reverse; pure Flow.next) _ _ _
  refine wpAny_bind (wpAny_rule (wpAny_bind (unpackItems_tuple (items := #[u1, u2]) (I.ok.hd hc) (IsTup.new s1.heap _) fun h' hx' => ?_)))
  have I3 := I2.kept (h' := h') (t' := s1.toks) fun b o e => hx' b o (Nat.ne_of_lt (Heap.lt_size e)) e
  show wpAny _ _ (assignInOrder [fun v => bindName X.env y v, fun v => bindName X.env x v] [u2, u1] >>= fun _ => pure Flow.next) _ _ _
  refine wpAny_bind (assignInOrder_cons (wpAny_bindName (store_ok I3 hN hj (.inl hy) rw' (fun s2 I4 => ?_) (.inr hy))))
  refine assignInOrder_cons (wpAny_bindName (store_ok I4 hN hi (.inl hx) rv (fun s3 I5 => assignInOrder_nil (wpAny_pure ?_)) (.inr hx)))
  rw [List.set_comm _ _ (Ne.symm hij)] at I5
  exact ⟨_, H1, I5, q1⟩
end
section
variable {X : Cx} {pos : Pos}
def tWhile (c : TT) (tb : TS) : TS := fun D σ H => ∃ W : Nat->St->Hp->Prop, (∃ m, W m σ H) /\ ∀ m σ H, W m σ H →
  c σ H fun b H1 => if b = true then ∃ N : St->Hp->Prop, (∀ σ' H', N σ' H'->∃ m', m' < m /\ W m' σ' H') /\ tb { D with nx := N, ct := N, bk := D.nx } σ H1 else D.nx σ H1
theorem ps_while {c : Expr} {body : List Stmt} {tc : TT} {tb : TS} (hp : PassesOwn (model X.prog X.w) X.A X.env X.xe) (hc : PT X c tc) (hb : PSs X body tb) : PS X (.While c body [] pos) (tWhile tc tb) := by
  intro pins s σ H D I h
  obtain ⟨W, ⟨m0, w0⟩, turn⟩ := h
  refine wpAny_While (codeAny_whileLoop (fun n s' => ∃ σ' H', Inv X pins σ' H' s' /\ W n σ' H') ?_ m0 ⟨σ, H, I, w0⟩)
  rintro n s1 ⟨σ1, H1, I1, w1⟩
  refine wpAny_passesOwn hp (thn (hc pins s1 σ1 H1 _ I1 (turn n σ1 H1 w1)) fun b s2 ⟨H2, I2, q2⟩ => ?_)
  cases b with
  | true =>
    obtain ⟨N, hN, q2⟩ := q2
    rw [if_pos rfl]
    refine wpAny_passesOwn hp (thn (hb pins s2 σ1 H2 _ I2 q2) fun f s3 q3 => ?_)
    cases f with
    | next =>
      obtain ⟨σ3, H3, I3, n3⟩ := q3
      obtain ⟨m', hm, w3⟩ := hN σ3 H3 n3
      exact ⟨m', hm, σ3, H3, I3, w3⟩
    | cont =>
      obtain ⟨σ3, H3, I3, n3⟩ := q3
      obtain ⟨m', hm, w3⟩ := hN σ3 H3 n3
      exact ⟨m', hm, σ3, H3, I3, w3⟩
    | brk => exact q3
    | ret v => exact q3
  | false =>
    rw [if_neg Bool.false_ne_true]
    exact wpAny_execs_nil ⟨σ1, H2, I2, q2⟩
end
structure It where
  go : Nat->Hp->Prop
  yld : Nat->Hp->V->Hp->Prop
  stop : Nat->Hp->Prop
def FpOk (X : Cx) (pins : List (Addr × Obj)) (H : Hp) (b : Addr) : Prop :=
  H b = none /\ b ≠ X.env.locals /\ b ∉ X.fs /\ (b ∈ X.ex ∨ X.s₀.heap.objs.size ≤ b) /\ (∀ x c, X.env.cells.lookup x = some c->c ≠ b) /\ ∀ p ∈ X.pn ++ pins, p.1 ≠ b
theorem Inv.fpOk {X : Cx} {pins : List (Addr × Obj)} {σ : St} {H H' : Hp} {s : Shared} {b : Addr} (I : Inv X pins σ H s) (hb : s.heap.objs.size ≤ b) (hn : H' b = none) : FpOk X pins H' b := by
  refine ⟨hn, Nat.ne_of_gt (Nat.lt_of_lt_of_le I.lt hb), I.nofs hb, .inr (Nat.le_trans I.sz hb), fun x c e z => ?_, fun p hp z => ?_⟩
  · obtain ⟨v, q⟩ := I.cell x c e
    exact absurd (Nat.lt_of_lt_of_le q.lt (by rw [z]; exact hb)) (Nat.lt_irrefl _)
  · exact absurd (Nat.lt_of_lt_of_le (Heap.lt_size (I.pin p hp).1) (by rw [z]; exact hb)) (Nat.lt_irrefl _)
structure Turn (P : Program) (w : World) (K : PySem.W.Frag) (tg : Expr) (J : It) (fp : List Addr) (it : Addr) (tn : Nat->Heap->Prop) : Prop where
  mem : it ∈ fp
  obj : ∀ i h, tn i h->∀ b ∈ fp, ∃ o, h.get? b = some o /\ ∀ v, o.data ≠ .cell v
  keep : ∀ i h h', tn i h->(∀ b ∈ fp, ∀ o, h.get? b = some o->h'.get? b = some o)->tn i h'
  item : ∀ (X : Cx), X.prog = P->X.w = w->X.K = K->X.calm = true->∀ (i : Nat) (pins : List (Addr × Obj)) (s : Shared) (σ : St) (H : Hp) (E : Value->Shared->Prop), Inv X pins σ H s->(∀ b ∈ fp, FpOk X pins H b)->tn i s.heap->J.go i H →
    wpAny (model P w) X.A (pyNext (.ref it)) (fun r s1 => ∃ u, r = some u ∧
      wpAny (model P w) X.A (letOwnedTupleGo tg (.ref it) u) (fun _ s2 => ∃ x H', Inv X pins σ H' s2 /\ RelV x u /\ J.yld i H x H' /\ tn (i + 1) s2.heap /\ ∀ b ∈ fp, H' b = none) E s1) E s
  done : ∀ (X : Cx), X.prog = P->X.w = w->X.K = K->X.calm = true->∀ (i : Nat) (pins : List (Addr × Obj)) (s : Shared) (σ : St) (H : Hp) (E : Value->Shared->Prop), Inv X pins σ H s->(∀ b ∈ fp, FpOk X pins H b)->tn i s.heap->J.stop i H →
    wpAny (model P w) X.A (pyNext (.ref it)) (fun r s1 => r = none /\ Inv X pins σ H s1) E s
  self : ∀ (A : Around) (i : Nat) (s : Shared) (Q : Value->Shared->Prop) (E : Value->Shared->Prop), tn i s.heap->Q (.ref it) s->wpAny (model P w) A (pyIter (.ref it)) Q E s
abbrev TI := St->Hp->(It->Hp->Prop)->Prop
def PIE (X : Cx) (pins : List (Addr × Obj)) (σ : St) (tg : Expr) (R : It->Hp->Prop) (itv : Value) (s2 : Shared) : Prop :=
  ∃ (it : Addr) (fp : List Addr) (tn : Nat->Heap->Prop) (J : It) (H' : Hp), itv = .ref it /\ Inv X pins σ H' s2 /\ Turn X.prog X.w X.K tg J fp it tn /\ tn 0 s2.heap /\ (∀ b ∈ fp, FpOk X pins H' b) /\ R J H'
def PI (X : Cx) (tg iter : Expr) (wi : TI) : Prop :=
  ∀ (pins : List (Addr × Obj)) (s : Shared) (σ : St) (H : Hp) (R : It->Hp->Prop), Inv X pins σ H s->wi σ H R →
    wpAny (model X.prog X.w) X.A (eval iter X.env) (fun v s1 => wpAny (model X.prog X.w) X.A (pyIter v) (PIE X pins σ tg R) X.xe s1) X.xe s
theorem go_of {M : Model} {A : Around} {E : Value->Shared->Prop} {s : Shared} {tg : Expr} {it : Addr} {u : Value} {o : Obj} {n : String} {vs : Array Value} {Q : Unit->Shared->Prop} (ho : s.heap.get? it = some o) (hc : o.cls = .type n) (hd : o.data = .fields vs)
    (hn : ["enumerate", "zip", "dict_itemiterator", "dict_reverseitemiterator", "odict_iterator", "itertools.zip_longest", "itertools.pairwise"].contains n = false) (hQ : Q () s) : wpAny M A (letOwnedTupleGo tg (.ref it) u) Q E s := by
  unfold letOwnedTupleGo
  cases tg <;> first
    | exact wpAny_pure hQ
    | (cases u <;> first
        | exact wpAny_pure hQ
        | (refine wpAny_bind (wpAny_load ho ?_)
           rw [hc, hd]
           show wpAny M A (if (["enumerate", "zip", "dict_itemiterator", "dict_reverseitemiterator", "odict_iterator", "itertools.zip_longest", "itertools.pairwise"].contains n && vs[0]? == some (rawInt _)) = true then _ else _) Q E s
           rw [if_neg (by intro h; rw [hn, Bool.false_and] at h; cases h)]
           exact wpAny_pure hQ))
def Itl (K : PySem.W.Frag) (a : Addr) : It :=
  ⟨fun i H => ∃ xs x, SqL K H a xs /\ xs[i]? = some x, fun i H x H' => H' = H /\ ∀ xs, SqL K H a xs->xs[i]? = some x, fun i H => ∃ xs, SqL K H a xs /\ xs.length ≤ i⟩
def Itr (lo : Int) (n : Nat) : It := ⟨fun i _ => i < n, fun i H x H' => H' = H /\ x = .int (lo + i), fun i _ => n ≤ i⟩
theorem turn_list {P : Program} {w : World} {K : PySem.W.Frag} {tg : Expr} (a it : Addr) : Turn P w K tg (Itl K a) [it] it (fun i h => h.IsListIter it a i) where
  mem := by simp
  obj := fun i h st b hb => by
    have e : b = it := by simpa using hb
    subst e
    obtain ⟨o, e, c, d⟩ := st
    exact ⟨o, e, fun v z => by rw [d] at z; cases z⟩
  keep := fun i h h' st k => st.at fun o e => k it (by simp) o e
  item := by
    intro X hP hw hK hc i pins s σ H E I hf st hg
    subst hP hw hK
    obtain ⟨xs, x, hq, hx⟩ := hg
    obtain ⟨its, rv, p, hz⟩ := I.list hq
    obtain ⟨u, hu, ru⟩ := rv.get hx
    obtain ⟨f0, f1, f2, f3, f4, f5⟩ := hf it (by simp)
    refine wpAny_pyNext_list_item st p.isList (x := u) (by simpa using hu) fun h' st' sb => ?_
    have I1 : Inv X pins σ H { s with heap := h' } := I.turned (t' := s.toks) (fun b o hb e => (sb.2 b hb).trans e) f0 f1 f3 f4 f5
    obtain ⟨o, e, c, d⟩ := id st'
    exact ⟨u, rfl, go_of (s := { s with heap := h' }) e c d (by decide) ⟨x, H, I1, ru, ⟨rfl, fun ys hy => by rw [I.list_inj hy hq]; exact hx⟩, st', fun b hb => (hf b hb).1⟩⟩
  done := by
    intro X hP hw hK hc i pins s σ H E I hf st hg
    subst hP hw hK
    obtain ⟨xs, hq, hx⟩ := hg
    obtain ⟨its, rv, p, hz⟩ := I.list hq
    obtain ⟨f0, f1, f2, f3, f4, f5⟩ := hf it (by simp)
    have hl := rv.length
    exact wpAny_pyNext_list_end (I.ok.hd hc) st p.isList (by simp; omega) fun h' eb => ⟨rfl, I.turned (t' := s.toks) (fun b o hb e => eb b o hb e) f0 f1 f3 f4 f5⟩
  self := fun _ _ _ _ _ st h => wpAny_pyIter_listiter st h
theorem turn_range {P : Program} {w : World} {K : PySem.W.Frag} {tg : Expr} (it : Addr) (lo : Int) (n : Nat) : Turn P w K tg (Itr lo n) [it] it (fun i h => IsRangeIter h it (lo + (i : Nat) * 1) ((n : Int) - (i : Nat)) 1) where
  mem := by simp
  obj := fun i h st b hb => by
    have e : b = it := by simpa using hb
    subst e
    exact ⟨_, st, fun v z => by
      have z' : Data.fields _ = Data.cell v := z
      cases z'⟩
  keep := fun i h h' st k => k it (by simp) _ st
  item := by
    intro X hP hw hK hc i pins s σ H E I hf st hg
    subst hP hw hK
    obtain ⟨f0, f1, f2, f3, f4, f5⟩ := hf it (by simp)
    have W := Walks.range (prog := X.prog) (w := X.w) (I.ok.hd hc) it lo 1 n
    refine W.item i s _ _ hg st fun v h' tk hv st' kk => ?_
    obtain ⟨t, rfl⟩ := hv
    have I1 : Inv X pins σ H { s with heap := h', toks := tk } := I.turned (fun b o hb e => kk b o (by simpa using hb) e) f0 f1 f3 f4 f5
    refine ⟨_, rfl, go_of (s := { s with heap := h', toks := tk }) (n := "range_iterator") st' rfl rfl (by decide) ⟨.int (lo + i), H, I1, ⟨t, ?_⟩, ⟨rfl, rfl⟩, st', fun b hb => (hf b hb).1⟩⟩
    rw [Int.mul_one]
  done := by
    intro X hP hw hK hc i pins s σ H E I hf st hg
    subst hP hw hK
    obtain ⟨f0, f1, f2, f3, f4, f5⟩ := hf it (by simp)
    exact wpAny_pyNext_range_end (I.ok.hd hc) st (by have : n ≤ i := hg; omega) fun h' eb => ⟨rfl, I.turned (t' := s.toks) (fun b o hb e => eb b o hb e) f0 f1 f3 f4 f5⟩
  self := fun _ _ _ _ _ st h => wpAny_pyIter_rangeiter st h
open PySem PySem.Spec PyProof.Rows
section
variable {X : Cx} {tg : Expr}
def iList (K : PySem.W.Frag) (tl : TE) : TI := fun σ H R => tl σ H fun x H1 => ∃ a, x = .ref a /\ (∃ xs, SqL K H1 a xs) /\ R (Itl K a) H1
theorem pi_list {l : Expr} {tl : TE} (hl : PE X l tl) : PI X tg l (iList X.K tl) := by
  intro pins s σ H R I h
  refine thn (hl pins s σ H _ I h) fun v s1 ⟨x, H1, I1, r1, q1⟩ => ?_
  obtain ⟨a, e, ⟨xs, hq⟩, q⟩ := q1
  subst e
  cases r1
  obtain ⟨its, rv, p, hz⟩ := I1.list hq
  refine wpAny_pyIter_list p.isList ?_
  refine ⟨s1.heap.objs.size, [s1.heap.objs.size], _, _, H1, rfl, I1.kept (t' := s1.toks) fun b o e => Heap.get?_push_of_some _ e, turn_list a _, ⟨_, Heap.get?_push_size _ rfl, rfl, rfl⟩, fun b hb => ?_, q⟩
  have e : b = s1.heap.objs.size := by simpa using hb
  subst e
  exact I1.fpOk (Nat.le_refl _) (I1.hok.fresh (Nat.le_refl _))
theorem range_it {pins : List (Addr × Obj)} {σ : St} {H : Hp} {s : Shared} {R : It->Hp->Prop} {E : Value->Shared->Prop} {lo hi : Int} {t u v : Tok} {tk : Nat} (I : Inv X pins σ H s) (h1 : -(2 ^ 62) ≤ lo) (h2 : lo < 2 ^ 62) (h3 : -(2 ^ 62) ≤ hi) (h4 : hi < 2 ^ 62)
    (q : R (Itr lo (hi - lo).toNat) H) : wpAny (model X.prog X.w) X.A (pyIter (.ref s.heap.objs.size)) (PIE X pins σ tg R) E { s with heap := s.heap.push { cls := .type "range", data := .fields #[.int lo t, .int hi u, .int 1 v] }, toks := tk } := by
  refine wpAny_pyIter_range (IsRange.new ..) (small_one h1 h2 h3 h4) ?_
  have I1 : Inv X pins σ H { s with heap := s.heap.push { cls := .type "range", data := .fields #[.int lo t, .int hi u, .int 1 v] }, toks := tk } := I.kept fun b o e => Heap.get?_push_of_some _ e
  refine ⟨(s.heap.push { cls := .type "range", data := .fields #[.int lo t, .int hi u, .int 1 v] }).objs.size, [(s.heap.push { cls := .type "range", data := .fields #[.int lo t, .int hi u, .int 1 v] }).objs.size], _, _, H, rfl,
    I1.kept (t' := tk) fun b o e => Heap.get?_push_of_some _ e, turn_range _ lo (hi - lo).toNat, ?_, fun b hb => ?_, q⟩
  · have e1 : lo + ((0 : Nat) : Int) * 1 = lo := by simp
    have e2 : (((hi - lo).toNat : Nat) : Int) - ((0 : Nat) : Int) = Builtin.Range.rangeSize lo hi 1 := by rw [rangeSize_one]; split <;> omega
    show IsRangeIter _ _ (lo + ((0 : Nat) : Int) * 1) ((((hi - lo).toNat : Nat) : Int) - ((0 : Nat) : Int)) 1
    rw [e1, e2]
    exact Heap.get?_push_size _ rfl
  · have e : b = (s.heap.push { cls := .type "range", data := .fields #[.int lo t, .int hi u, .int 1 v] }).objs.size := by simpa using hb
    subst e
    exact I1.fpOk (Nat.le_refl _) (I1.hok.fresh (Nat.le_refl _))
def iRng1 (ta : TA) : TI := fun σ H R => ta σ H fun vs H1 => ∃ j : Int, vs = [.int j] /\ -(2 ^ 62) ≤ j /\ j < 2 ^ 62 /\ R (Itr 0 j.toNat) H1
theorem pi_range1 {a : Expr} {ta : TA} {p pos : Pos} (hg : Gl X "range") (hm : X.mg "range" = none) (ha : PA X [a] ta) (hs : starEach [a] X.env = [(false, eval a X.env)] := by rfl) : PI X tg (.Call (.Name "range" p) [a] [] pos) (iRng1 ta) := by
  intro pins s σ H R I h
  refine Call_ (ld_blt I hg hm boot_range (PyProof.Rows.callWith_type1 (thn (ha pos pins s σ H _ I h) fun us s1 ⟨vs, H1, I1, r1, q1⟩ => ?_) hs rfl))
  obtain ⟨j, e, q1, q2, q⟩ := q1
  subst e
  cases r1 with
  | cons r rr =>
    cases rr
    obtain ⟨t, rfl⟩ := r
    exact call_range_1 (range_it I1 (by omega) (by omega) q1 q2 (by simpa using q))
def tFor (wi : TI) (g : TG) (tb : TS) : TS := fun D σ H => wi σ H fun J H1 => ∃ W : Nat->Nat->St->Hp->Prop, (∃ m, W 0 m σ H1) /\ ∀ i m σ H, W i m σ H →
  (J.stop i H /\ D.nx σ H) ∨ (J.go i H /\ ∃ N : St->Hp->Prop, (∀ σ' H', N σ' H'->∃ m', m' < m /\ W (i + 1) m' σ' H') /\ ∀ x H', J.yld i H x H'->g x σ H' fun σ2 H2 => tb { D with nx := N, ct := N, bk := D.nx } σ2 H2)
def pinsAt (fp : List Addr) (h : Heap) : List (Addr × Obj) := fp.filterMap fun b => (h.get? b).map fun o => (b, o)
theorem mem_pinsAt {fp : List Addr} {h : Heap} {b : Addr} {o : Obj} (hb : b ∈ fp) (e : h.get? b = some o) : (b, o) ∈ pinsAt fp h := List.mem_filterMap.mpr ⟨b, hb, by rw [e]; rfl⟩
theorem of_pinsAt {fp : List Addr} {h : Heap} {p : Addr × Obj} (hp : p ∈ pinsAt fp h) : p.1 ∈ fp /\ h.get? p.1 = some p.2 := by
  obtain ⟨b, hb, e⟩ := List.mem_filterMap.mp hp
  cases q : h.get? b with
  | none => rw [q] at e; cases e
  | some o =>
    rw [q] at e
    have e' : (b, o) = p := Option.some.inj e
    subst e'
    exact ⟨hb, q⟩
theorem Inv.pinned {pins : List (Addr × Obj)} {σ : St} {H : Hp} {s : Shared} {fp : List Addr} (I : Inv X pins σ H s) (hf : ∀ b ∈ fp, FpOk X pins H b) (ho : ∀ b ∈ fp, ∃ o, s.heap.get? b = some o /\ ∀ v, o.data ≠ .cell v) : Inv X (pins ++ pinsAt fp s.heap) σ H s :=
  I.pins_of fun p hp => (List.mem_append.mp hp).elim (fun z => I.pin p (List.mem_append_right _ z)) fun z => by
    obtain ⟨hb, e⟩ := of_pinsAt z
    obtain ⟨f0, f1, f2, _⟩ := hf p.1 hb
    obtain ⟨o, e', d⟩ := ho p.1 hb
    rw [e] at e'; cases e'
    exact ⟨e, f0, f1, f2, d⟩
theorem Inv.unpinned {pins pl : List (Addr × Obj)} {σ : St} {H : Hp} {s : Shared} (I : Inv X (pins ++ pl) σ H s) : Inv X pins σ H s := I.pins_of fun p hp => I.pin p (List.mem_append_right _ (List.mem_append_left _ hp))
theorem ps_for {iter : Expr} {body : List Stmt} {wi : TI} {g : TG} {tb : TS} {pos : Pos} (hp : PassesOwn (model X.prog X.w) X.A X.env X.xe) (hc : X.calm = true) (hi : PI X tg iter wi) (hg : PG X tg g) (hb : PSs X body tb)
    (hs : ∀ x, foldedSetIterable iter X.env x = pure x := by intro _; rfl) : PS X (.For tg iter body [] pos) (tFor wi g tb) := by
  intro pins s σ H D I h
  refine wpAny_For (thn (hi pins s σ H _ I h) fun v s1 h1 => thn h1 fun itv s2 h2 => ?_) hs
  obtain ⟨it, fp, tn, J, H2, e, I2, T, st2, f2, W, ⟨m0, w0⟩, turn⟩ := h2
  subst e
  have stat : ∀ {H' : Hp}, (∀ b ∈ fp, H' b = none)->∀ b ∈ fp, FpOk X pins H' b := fun hn b hb => ⟨hn b hb, (f2 b hb).2⟩
  refine codeAny_forLoop_any (fun n s' => ∃ i σ' H', Inv X pins σ' H' s' /\ tn i s'.heap /\ (∀ b ∈ fp, H' b = none) /\ W i n σ' H') ?_ m0 ⟨0, σ, H2, I2, st2, fun b hb => (f2 b hb).1, w0⟩
  rintro n s3 ⟨i, σ3, H3, I3, st3, fr3, w3⟩
  rcases turn i n σ3 H3 w3 with ⟨stop, qn⟩ | ⟨go, N, hN, step⟩
  · refine wpAny_passesOwn hp (thn (T.done X rfl rfl rfl hc i pins s3 σ3 H3 X.xe I3 (stat fr3) st3 stop) fun r s4 ⟨hr, I4⟩ => ?_)
    subst hr
    exact wpAny_execs_nil ⟨σ3, H3, I4, qn⟩
  · refine wpAny_passesOwn hp (thn (T.item X rfl rfl rfl hc i pins s3 σ3 H3 X.xe I3 (stat fr3) st3 go) fun r s4 ⟨u, hr, h4⟩ => ?_)
    subst hr
    refine wpAny_passesOwn hp (thn h4 fun _ s5 ⟨x, H5, I5, r5, y5, st5, fr5⟩ => ?_)
    have I5' := I5.pinned (stat fr5) (T.obj _ _ st5)
    refine wpAny_passesOwn hp (thn (hg _ s5 σ3 H5 x u _ I5' r5 (step x H5 y5)) fun _ s6 ⟨σ6, H6, I6, q6⟩ => ?_)
    refine wpAny_passesOwn hp (thn (hb _ s6 σ6 H6 _ I6 q6) fun f s7 q7 => ?_)
    have again : ∀ {σ7 : St} {H7 : Hp}, Inv X (pins ++ pinsAt fp s5.heap) σ7 H7 s7->N σ7 H7->∃ m, m < n /\ ∃ i σ' H', Inv X pins σ' H' s7 /\ tn i s7.heap /\ (∀ b ∈ fp, H' b = none) /\ W i m σ' H' := fun {σ7 H7} I7 n7 => by
      obtain ⟨m', hm, w7⟩ := hN σ7 H7 n7
      refine ⟨m', hm, i + 1, σ7, H7, I7.unpinned, T.keep _ _ _ st5 fun b hb o e => (I7.pin (b, o) (List.mem_append_right _ (List.mem_append_right _ (mem_pinsAt hb e)))).1, fun b hb => ?_, w7⟩
      obtain ⟨o, e, d⟩ := T.obj _ _ st5 b hb
      exact (I7.pin (b, o) (List.mem_append_right _ (List.mem_append_right _ (mem_pinsAt hb e)))).2.1
    cases f with
    | next => obtain ⟨σ7, H7, I7, n7⟩ := q7; exact again I7 n7
    | cont => obtain ⟨σ7, H7, I7, n7⟩ := q7; exact again I7 n7
    | brk => obtain ⟨σ7, H7, I7, q7⟩ := q7; exact ⟨σ7, H7, I7.unpinned, q7⟩
    | ret v => obtain ⟨x7, σ7, H7, I7, r7, q7⟩ := q7; exact ⟨x7, σ7, H7, I7.unpinned, r7, q7⟩
end
theorem for_list {K : PySem.W.Frag} {a : Addr} {xs : List V} {g : TG} {tb : TS} {D : Ends} {σ : St} {H : Hp} (Pv : Nat->St->Hp->Prop) (h0 : Pv 0 σ H) (hl : ∀ i σ H, i ≤ xs.length->Pv i σ H->SqL K H a xs)
    (hs : ∀ i x σ H, xs[i]? = some x->Pv i σ H->g x σ H fun σ2 H2 => tb { D with nx := Pv (i + 1), ct := Pv (i + 1), bk := D.nx } σ2 H2) (hd : ∀ σ H, Pv xs.length σ H->D.nx σ H) :
    ∃ W : Nat->Nat->St->Hp->Prop, (∃ m, W 0 m σ H) /\ ∀ i m σ H, W i m σ H →
      ((Itl K a).stop i H /\ D.nx σ H) ∨ ((Itl K a).go i H /\ ∃ N : St->Hp->Prop, (∀ σ' H', N σ' H'->∃ m', m' < m /\ W (i + 1) m' σ' H') /\ ∀ x H', (Itl K a).yld i H x H'->g x σ H' fun σ2 H2 => tb { D with nx := N, ct := N, bk := D.nx } σ2 H2) := by
  refine ⟨fun i m σ H => m = xs.length - i /\ i ≤ xs.length /\ Pv i σ H, ⟨xs.length, by simp, Nat.zero_le _, h0⟩, ?_⟩
  rintro i m σ H ⟨rfl, hi, p⟩
  have q := hl i σ H hi p
  by_cases hlt : i < xs.length
  · refine .inr ⟨⟨xs, xs[i], q, by simp [hlt]⟩, Pv (i + 1), fun σ' H' p' => ⟨xs.length - (i + 1), by omega, rfl, hlt, p'⟩, fun x H' y => ?_⟩
    obtain ⟨e, y⟩ := y
    subst e
    exact hs i x σ _ (y xs q) p
  · have e : i = xs.length := by omega
    subst e
    exact .inl ⟨⟨xs, q, Nat.le_refl _⟩, hd σ H p⟩
theorem for_range {lo : Int} {n : Nat} {g : TG} {tb : TS} {D : Ends} {σ : St} {H : Hp} (Pv : Nat->St->Hp->Prop) (h0 : Pv 0 σ H)
    (hs : ∀ i σ H, i < n->Pv i σ H->g (.int (lo + i)) σ H fun σ2 H2 => tb { D with nx := Pv (i + 1), ct := Pv (i + 1), bk := D.nx } σ2 H2) (hd : ∀ σ H, Pv n σ H->D.nx σ H) :
    ∃ W : Nat->Nat->St->Hp->Prop, (∃ m, W 0 m σ H) /\ ∀ i m σ H, W i m σ H →
      ((Itr lo n).stop i H /\ D.nx σ H) ∨ ((Itr lo n).go i H /\ ∃ N : St->Hp->Prop, (∀ σ' H', N σ' H'->∃ m', m' < m /\ W (i + 1) m' σ' H') /\ ∀ x H', (Itr lo n).yld i H x H'->g x σ H' fun σ2 H2 => tb { D with nx := N, ct := N, bk := D.nx } σ2 H2) := by
  refine ⟨fun i m σ H => m = n - i /\ i ≤ n /\ Pv i σ H, ⟨n, by simp, Nat.zero_le _, h0⟩, ?_⟩
  rintro i m σ H ⟨rfl, hi, p⟩
  by_cases hlt : i < n
  · refine .inr ⟨hlt, Pv (i + 1), fun σ' H' p' => ⟨n - (i + 1), by omega, rfl, hlt, p'⟩, fun x H' y => ?_⟩
    obtain ⟨e, y⟩ := y
    subst e y
    exact hs i σ _ hlt p
  · have e : i = n := by omega
    subst e
    exact .inl ⟨Nat.le_refl _, hd σ H p⟩
open PySem PySem.Spec PyProof.Rows
abbrev R2 := V->V->Hp->VK->Prop
def OpR (X : Cx) (f : Value->Value->Sem Value) (r : R2) : Prop :=
  ∀ (pins : List (Addr × Obj)) (s : Shared) (σ : St) (H : Hp) (x y : V) (v u : Value) (Q : VK), Inv X pins σ H s->RelV x v->RelV y u->r x y H Q →
    wpAny (model X.prog X.w) X.A (f v u) (EP X pins σ Q) X.xe s
def UnR (X : Cx) (f : Value->Sem Value) (r : V->Hp->VK->Prop) : Prop :=
  ∀ (pins : List (Addr × Obj)) (s : Shared) (σ : St) (H : Hp) (x : V) (v : Value) (Q : VK), Inv X pins σ H s->RelV x v->r x H Q →
    wpAny (model X.prog X.w) X.A (f v) (EP X pins σ Q) X.xe s
def CallR (X : Cx) (f : Value) (r : List V->Hp->VK->Prop) : Prop :=
  ∀ (pins : List (Addr × Obj)) (s : Shared) (σ : St) (H : Hp) (xs : List V) (us : List Value) (Q : VK), Inv X pins σ H s->Vals xs us->r xs H Q →
    wpAny (model X.prog X.w) X.A (call f us) (EP X pins σ Q) X.xe s
def tOp (r : R2) (ta tb : TE) : TE := fun σ H Q => ta σ H fun x H1 => tb σ H1 fun y H2 => r x y H2 Q
def tUn (r : V->Hp->VK->Prop) (ta : TE) : TE := fun σ H Q => ta σ H fun x H1 => r x H1 Q
def rI (C : Int->Int->Prop) (g : Int->Int->V) : R2 := fun x y H Q => ∃ i j, x = .int i /\ y = .int j /\ C i j /\ Q (g i j) H
def rI0 (g : Int->Int->V) : R2 := fun x y H Q => ∃ i j, x = .int i /\ y = .int j /\ Q (g i j) H
def rU (g : Int->V) : V->Hp->VK->Prop := fun x H Q => ∃ i, x = .int i /\ Q (g i) H
section
variable {X : Cx} {a b c : Expr} {ta tb tc : TE} {pos : Pos}
theorem binT (ha : PE X a ta) (hb : PE X b tb) {pins : List (Addr × Obj)} {s : Shared} {σ : St} {H : Hp} {R : V->V->Hp->Prop} (I : Inv X pins σ H s)
    (h : ta σ H fun x H1 => tb σ H1 fun y H2 => R x y H2) {Q : Value->Shared->Prop} {f : Value->Value->Sem Value}
    (hf : ∀ v u s2 x y H2, Inv X pins σ H2 s2->RelV x v->RelV y u->R x y H2->wpAny (model X.prog X.w) X.A (f v u) Q X.xe s2) :
    wpAny (model X.prog X.w) X.A (eval a X.env) (fun v s₁ => wpAny (model X.prog X.w) X.A (eval b X.env) (fun u s₂ => wpAny (model X.prog X.w) X.A (f v u) Q X.xe s₂) X.xe s₁) X.xe s := by
  refine thn (ha pins s σ H _ I h) fun v s1 ⟨x, H1, I1, r1, q1⟩ => ?_
  refine thn (hb pins s1 σ H1 _ I1 q1) fun u s2 ⟨y, H2, I2, r2, q2⟩ => ?_
  exact hf v u s2 x y H2 I2 r1 r2 q2
theorem pe_op {op : Operator} {r : R2} (ho : OpR X (binaryOp op) r) (ha : PE X a ta) (hb : PE X b tb) : PE X (.BinOp a op b pos) (tOp r ta tb) := by
  intro pins s σ H Q I h
  exact wpAny_BinOp (binT ha hb I h fun v u s2 x y H2 I2 rx ry q => ho pins s2 σ H2 x y v u Q I2 rx ry q)
theorem pe_un {op : UnaryOp} {r : V->Hp->VK->Prop} (ho : UnR X (unaryOp op) r) (ha : PE X a ta) : PE X (.UnaryOp op a pos) (tUn r ta) := by
  intro pins s σ H Q I h
  exact UnaryOp_ (thn (ha pins s σ H _ I h) fun v s1 ⟨x, H1, I1, r1, q1⟩ => ho pins s1 σ H1 x v Q I1 r1 q1)
theorem opI {f : Value->Value->Sem Value} {C : Int->Int->Prop} {g : Int->Int->Int}
    (rule : ∀ (i j : Int) (t u : Tok) (s : Shared) (Q : Value->Shared->Prop) (E : Value->Shared->Prop), C i j->Q (.int (g i j) s.toks) { s with toks := s.toks + 1 }->wpAny (model X.prog X.w) X.A (f (.int i t) (.int j u)) Q E s) :
    OpR X f (rI C fun i j => .int (g i j)) := by
  intro pins s σ H x y v u Q I rx ry h
  obtain ⟨i, j, rfl, rfl, hc, q⟩ := h
  obtain ⟨t, rfl⟩ := rx
  obtain ⟨t', rfl⟩ := ry
  exact rule i j t t' s _ _ hc ⟨.int (g i j), H, I.tok _, ⟨_, rfl⟩, q⟩
theorem opI0 {f : Value->Value->Sem Value} {g : Int->Int->Int}
    (rule : ∀ (i j : Int) (t u : Tok) (s : Shared) (Q : Value->Shared->Prop) (E : Value->Shared->Prop), Q (.int (g i j) s.toks) { s with toks := s.toks + 1 }->wpAny (model X.prog X.w) X.A (f (.int i t) (.int j u)) Q E s) :
    OpR X f (rI0 fun i j => .int (g i j)) := by
  intro pins s σ H x y v u Q I rx ry h
  obtain ⟨i, j, rfl, rfl, q⟩ := h
  obtain ⟨t, rfl⟩ := rx
  obtain ⟨t', rfl⟩ := ry
  exact rule i j t t' s _ _ ⟨.int (g i j), H, I.tok _, ⟨_, rfl⟩, q⟩
theorem opB0 {f : Value->Value->Sem Value} {g : Int->Int->Bool}
    (rule : ∀ (i j : Int) (t u : Tok) (s : Shared) (Q : Value->Shared->Prop) (E : Value->Shared->Prop), Q (.bool (g i j)) s->wpAny (model X.prog X.w) X.A (f (.int i t) (.int j u)) Q E s) :
    OpR X f (rI0 fun i j => .bl (g i j)) := by
  intro pins s σ H x y v u Q I rx ry h
  obtain ⟨i, j, rfl, rfl, q⟩ := h
  obtain ⟨t, rfl⟩ := rx
  obtain ⟨t', rfl⟩ := ry
  exact rule i j t t' s _ _ ⟨.bl (g i j), H, I, rfl, q⟩
def CPow (i j : Int) : Prop := 0 ≤ j /\ j ≤ 1000000 /\ i.natAbs < 2 ^ 64
def CMul (i j : Int) : Prop := (-(2 ^ 64) < i /\ i < 2 ^ 64) ∨ (-(2 ^ 64) < j /\ j < 2 ^ 64)
theorem CMul.ok {i j : Int} (h : CMul i j) : IntMulOk i j := by
  rcases h with ⟨h1, h2⟩ | ⟨h1, h2⟩
  · exact .of_left (intBits_le_64 h1 h2)
  · exact .of_right (intBits_le_64 h1 h2)
theorem op_add : OpR X (binaryOp .Add) (rI0 fun i j => .int (i + j)) := opI0 fun _ _ _ _ _ _ _ q => add_int q
theorem op_sub : OpR X (binaryOp .Sub) (rI0 fun i j => .int (i - j)) := opI0 fun _ _ _ _ _ _ _ q => sub_int q
theorem op_mul : OpR X (binaryOp .Mult) (rI CMul fun i j => .int (i * j)) := opI fun _ _ _ _ _ _ _ hc q => mul_int q hc.ok
theorem op_mod : OpR X (binaryOp .Mod) (rI (fun _ j => 0 < j) fun i j => .int (i % j)) := opI fun i j _ _ _ _ _ hc q => by
  have h1 : (0 : Int) < j := hc
  exact mod_int' (by omega) (by rw [Int.fmod_eq_emod_of_nonneg i (by omega)]; exact q)
theorem op_pow : OpR X (binaryOp .Pow) (rI CPow fun i j => .int (i ^ j.toNat)) := opI fun _ _ _ _ _ _ _ hc q => pow_int_small hc.1 hc.2.1 hc.2.2 q
theorem unI {f : Value->Sem Value} {g : Int->Int}
    (rule : ∀ (i : Int) (t : Tok) (s : Shared) (Q : Value->Shared->Prop) (E : Value->Shared->Prop), Q (.int (g i) s.toks) { s with toks := s.toks + 1 }->wpAny (model X.prog X.w) X.A (f (.int i t)) Q E s) :
    UnR X f (rU fun i => .int (g i)) := by
  intro pins s σ H x v Q I rx h
  obtain ⟨i, rfl, q⟩ := h
  obtain ⟨t, rfl⟩ := rx
  exact rule i t s _ _ ⟨.int (g i), H, I.tok _, ⟨_, rfl⟩, q⟩
theorem un_neg : UnR X (unaryOp .USub) (rU fun i => .int (-i)) := unI fun _ _ _ _ _ q => neg_int q
end
def scal : V->V->Bool
  | .non, .non => true | .non, .int _ => true | .int _, .non => true | .non, .bl _ => true | .bl _, .non => true | .non, .str _ => true | .str _, .non => true
  | .int _, .int _ => true | .bl _, .bl _ => true | .str _, .str _ => true | .byt _, .byt _ => true
  | .int _, .str _ => true | .str _, .int _ => true | .bl _, .str _ => true | .str _, .bl _ => true
  | _, _ => false
def rEq : R2 := fun x y H Q => scal x y = true /\ Q (.bl (decide (x = y))) H
def rNe : R2 := fun x y H Q => scal x y = true /\ Q (.bl (!decide (x = y))) H
theorem dec_int {i j : Int} : decide (V.int i = V.int j) = (i == j) := by
  rw [Bool.eq_iff_iff]
  simp
theorem dec_bl {i j : Bool} : decide (V.bl i = V.bl j) = (i == j) := by
  rw [Bool.eq_iff_iff]
  simp
theorem dec_str {i j : Str} : decide (V.str i = V.str j) = (i == j) := by
  rw [Bool.eq_iff_iff]
  simp
theorem dec_byt {i j : Array UInt8} : decide (V.byt i = V.byt j) = (i.toList == j.toList) := by
  rw [Bool.eq_iff_iff]
  cases i
  cases j
  simp
section
variable {X : Cx} {a b c : Expr} {ta tb tc : TE} {pos : Pos}
theorem fin_bl {pins : List (Addr × Obj)} {σ : St} {H : Hp} {s : Shared} {Q : VK} {k k' : Bool} (I : Inv X pins σ H s) (q : Q (.bl k) H) (e : k = k') : EP X pins σ Q (.bool k') s := by
  subst e
  exact ⟨.bl k, H, I, rfl, q⟩
theorem op_eq : OpR X (compareOp .Eq) rEq := by
  intro pins s σ H x y v u Q I rx ry h
  obtain ⟨hs, q⟩ := h
  cases x with
  | non =>
    cases rx
    cases y with
    | non => cases ry; exact PySem.EqNone.eq_none_none (fin_bl I q (by simp))
    | bl j => cases ry; exact PySem.EqNone.eq_none_bool (fin_bl I q (by simp))
    | int j => obtain ⟨t', rfl⟩ := ry; exact PySem.EqNone.eq_none_int (fin_bl I q (by simp))
    | str j => obtain ⟨t', rfl⟩ := ry; exact PySem.EqNone.eq_none_str (fin_bl I q (by simp))
    | _ => exact absurd (show false = true from hs) Bool.false_ne_true
  | bl i =>
    cases rx
    cases y with
    | non => cases ry; exact PySem.EqNone.eq_bool_none (fin_bl I q (by simp))
    | bl j => cases ry; exact eq_bool (fin_bl I q dec_bl)
    | str j => obtain ⟨t', rfl⟩ := ry; exact PySem.EqMixed.eq_bool_str (fin_bl I q (by simp))
    | _ => exact absurd (show false = true from hs) Bool.false_ne_true
  | int i =>
    obtain ⟨t, rfl⟩ := rx
    cases y with
    | non => cases ry; exact PySem.EqNone.eq_int_none (fin_bl I q (by simp))
    | int j => obtain ⟨t', rfl⟩ := ry; exact eq_int (fin_bl I q dec_int)
    | str j => obtain ⟨t', rfl⟩ := ry; exact PySem.EqMixed.eq_int_str (fin_bl I q (by simp))
    | _ => exact absurd (show false = true from hs) Bool.false_ne_true
  | str i =>
    obtain ⟨t, rfl⟩ := rx
    cases y with
    | non => cases ry; exact PySem.EqNone.eq_str_none (fin_bl I q (by simp))
    | bl j => cases ry; exact PySem.EqMixed.eq_str_bool (fin_bl I q (by simp))
    | int j => obtain ⟨t', rfl⟩ := ry; exact PySem.EqMixed.eq_str_int (fin_bl I q (by simp))
    | str j => obtain ⟨t', rfl⟩ := ry; exact eq_str (fin_bl I q dec_str)
    | _ => exact absurd (show false = true from hs) Bool.false_ne_true
  | byt i =>
    obtain ⟨t, rfl⟩ := rx
    cases y with
    | byt j => obtain ⟨t', rfl⟩ := ry; exact PySem.W.eq_bytes (fin_bl I q dec_byt)
    | _ => exact absurd (show false = true from hs) Bool.false_ne_true
  | _ => cases y <;> exact absurd (show false = true from hs) Bool.false_ne_true
theorem op_ne : OpR X (compareOp .NotEq) rNe := by
  intro pins s σ H x y v u Q I rx ry h
  obtain ⟨hs, q⟩ := h
  cases x with
  | non =>
    cases rx
    cases y with
    | non => cases ry; exact PySem.EqNone.ne_none_none (fin_bl I q (by simp))
    | bl j => cases ry; exact PySem.EqNone.ne_none_bool (fin_bl I q (by simp))
    | int j => obtain ⟨t', rfl⟩ := ry; exact PySem.EqNone.ne_none_int (fin_bl I q (by simp))
    | str j => obtain ⟨t', rfl⟩ := ry; exact PySem.EqNone.ne_none_str (fin_bl I q (by simp))
    | _ => exact absurd (show false = true from hs) Bool.false_ne_true
  | bl i =>
    cases rx
    cases y with
    | non => cases ry; exact PySem.EqNone.ne_bool_none (fin_bl I q (by simp))
    | bl j => cases ry; exact ne_bool (fin_bl I q (congrArg not dec_bl))
    | str j => obtain ⟨t', rfl⟩ := ry; exact PySem.EqMixed.ne_bool_str (fin_bl I q (by simp))
    | _ => exact absurd (show false = true from hs) Bool.false_ne_true
  | int i =>
    obtain ⟨t, rfl⟩ := rx
    cases y with
    | non => cases ry; exact PySem.EqNone.ne_int_none (fin_bl I q (by simp))
    | int j => obtain ⟨t', rfl⟩ := ry; exact ne_int (fin_bl I q (congrArg not dec_int))
    | str j => obtain ⟨t', rfl⟩ := ry; exact PySem.EqMixed.ne_int_str (fin_bl I q (by simp))
    | _ => exact absurd (show false = true from hs) Bool.false_ne_true
  | str i =>
    obtain ⟨t, rfl⟩ := rx
    cases y with
    | non => cases ry; exact PySem.EqNone.ne_str_none (fin_bl I q (by simp))
    | bl j => cases ry; exact PySem.EqMixed.ne_str_bool (fin_bl I q (by simp))
    | int j => obtain ⟨t', rfl⟩ := ry; exact PySem.EqMixed.ne_str_int (fin_bl I q (by simp))
    | str j => obtain ⟨t', rfl⟩ := ry; exact ne_str (fin_bl I q (congrArg not dec_str))
    | _ => exact absurd (show false = true from hs) Bool.false_ne_true
  | byt i =>
    obtain ⟨t, rfl⟩ := rx
    cases y with
    | byt j => obtain ⟨t', rfl⟩ := ry; exact PySem.W.ne_bytes (fin_bl I q (congrArg not dec_byt))
    | _ => exact absurd (show false = true from hs) Bool.false_ne_true
  | _ => cases y <;> exact absurd (show false = true from hs) Bool.false_ne_true
theorem op_lt : OpR X (compareOp .Lt) (rI0 fun i j => .bl (decide (i < j))) := opB0 fun _ _ _ _ _ _ _ q => lt_int q
theorem op_le : OpR X (compareOp .LtE) (rI0 fun i j => .bl (decide (i ≤ j))) := opB0 fun _ _ _ _ _ _ _ q => le_int q
theorem op_gt : OpR X (compareOp .Gt) (rI0 fun i j => .bl (decide (j < i))) := opB0 fun _ _ _ _ _ _ _ q => gt_int q
theorem op_ge : OpR X (compareOp .GtE) (rI0 fun i j => .bl (decide (j ≤ i))) := opB0 fun _ _ _ _ _ _ _ q => ge_int q
theorem op_isN : OpR X (compareOp .Is) (fun x y H Q => y = .non /\ Q (.bl (decide (x = .non))) H) := by
  intro pins s σ H x y v u Q I rx ry h
  obtain ⟨rfl, q⟩ := h
  cases ry
  refine is_none_gen (fin_bl I q ?_)
  cases x <;> first
    | (cases rx; rfl)
    | (obtain ⟨t, rfl⟩ := rx; rfl)
theorem op_notN : OpR X (compareOp .IsNot) (fun x y H Q => y = .non /\ Q (.bl (!decide (x = .non))) H) := by
  intro pins s σ H x y v u Q I rx ry h
  obtain ⟨rfl, q⟩ := h
  cases ry
  refine isnot_none_gen (fin_bl I q ?_)
  cases x <;> first
    | (cases rx; rfl)
    | (obtain ⟨t, rfl⟩ := rx; rfl)
theorem nomark (b : Expr) {op : CmpOp} (h : op ≠ .In := by decide) (h2 : op ≠ .NotIn := by decide) : behindInMarks op b = false := by
  have e1 : (op == CmpOp.In) = false := by cases op <;> first | rfl | exact absurd rfl h
  have e2 : (op == CmpOp.NotIn) = false := by cases op <;> first | rfl | exact absurd rfl h2
  cases b <;> simp [behindInMarks, e1, e2]
theorem pe_cmpR {op : CmpOp} {r : R2} (ho : OpR X (compareOp op) r) (ha : PE X a ta) (hb : PE X b tb) (hm : behindInMarks op b = false) : PE X (.Compare a [op] [b] pos) (tOp r ta tb) := by
  intro pins s σ H Q I h
  exact wpAny_Compare1 (binT ha hb I h fun v u s2 x y H2 I2 rx ry q => ho pins s2 σ H2 x y v u Q I2 rx ry q) hm
def tTest (t : TE) : TT := fun σ H Q => t σ H fun x H' => ∃ k, x = .bl k /\ Q k H'
theorem pt_cmpR {op : CmpOp} {r : R2} (ho : OpR X (compareOp op) r) (ha : PE X a ta) (hb : PE X b tb) (hm : behindInMarks op b = false) : PT X (.Compare a [op] [b] pos) (tTest (tOp r ta tb)) := by
  intro pins s σ H Q I h
  refine wpAny_isTrue_Compare1 (thn (ha pins s σ H _ I h) fun v s1 ⟨x, H1, I1, r1, q1⟩ => thn (hb pins s1 σ H1 _ I1 q1) fun u s2 ⟨y, H2, I2, r2, q2⟩ =>
    thn (ho pins s2 σ H2 x y v u _ I2 r1 r2 q2) fun c s3 ⟨z, H3, I3, r3, k, e, q3⟩ => ?_) hm
  subst e
  cases r3
  exact wpAny_truthy_bool ⟨H3, I3, q3⟩
theorem line63 : (sizeLine : Nat) < 2 ^ 63 := by rw [sizeLine_eq]; decide
theorem vals1 {x : V} {us : List Value} (r : Vals [x] us) : ∃ u, us = [u] /\ RelV x u := by
  cases r with
  | cons r1 r2 => cases r2; exact ⟨_, rfl, r1⟩
theorem vals2 {x y : V} {us : List Value} (r : Vals [x, y] us) : ∃ u w', us = [u, w'] /\ RelV x u /\ RelV y w' := by
  cases r with
  | cons r1 r2 =>
    cases r2 with
    | cons r3 r4 => cases r4; exact ⟨_, _, rfl, r1, r3⟩
theorem call_max2 (hc : X.calm = true) : CallR X (.builtin "max") (fun xs H Q => ∃ i j, xs = [.int i, .int j] /\ Q (.int (if j > i then j else i)) H) := by
  intro pins s σ H xs us Q I r h
  obtain ⟨i, j, rfl, q⟩ := h
  obtain ⟨u, w', rfl, ⟨t, rfl⟩, ⟨t', rfl⟩⟩ := vals2 r
  refine max_two_ints (I.ok.hd hc) fun h' tk k => ⟨_, H, I.kept k, ?_, q⟩
  by_cases hj : j > i
  · rw [if_pos hj, if_pos hj]; exact ⟨_, rfl⟩
  · rw [if_neg hj, if_neg hj]; exact ⟨_, rfl⟩
end
open PySem PySem.Spec PyProof.Rows
structure ObjM (h : Heap) (x dx C : Addr) (mA : Str->Option Value) : Prop where
  obj : h.get? x = some (PySem.W.instObj C dx)
  ns : h.Ns1 dx mA
  ne : dx ≠ x
theorem lookIn_ns {h : Heap} {dx : Addr} {mA : Str->Option Value} (n : h.Ns1 dx mA) : ∃ od, h.get? dx = some od /\ ∀ name, PySem.W.lookIn name od = some (mA name) := by
  obtain ⟨o, es, ep, ho, hd, hk, _, hm⟩ := n
  refine ⟨o, ho, fun name => ?_⟩
  have e := hm name
  unfold nsFind findBy at e
  rw [← Array.find?_toList] at e
  unfold PySem.W.lookIn
  rw [hd]
  dsimp only
  split
  · rename_i y q
    rw [q] at e
    exact congrArg some e
  · rename_i q
    rw [q] at e
    have a : es.toList.any (·.refKey) = false := by
      rw [List.any_eq_false]
      intro y hy
      obtain ⟨z, t, hkey⟩ := hk y (Array.mem_toList_iff.mp hy)
      simp [DictEntry.refKey, hkey]
    have a' : ¬ es.toList.any (·.refKey) = true := by rw [a]; exact Bool.false_ne_true
    rw [if_neg a']
    exact congrArg some e
theorem ObjM.look {h : Heap} {x dx C : Addr} {mA : Str->Option Value} (I : ObjM h x dx C mA) : ∃ od, PySem.W.InstAt h x (PySem.W.instObj C dx) C (some od) /\ ∀ name, PySem.W.lookIn name od = some (mA name) :=
  let ⟨od, ho, hl⟩ := lookIn_ns I.ns
  ⟨od, ⟨I.obj, rfl, rfl, ho⟩, hl⟩
theorem RelO.some_of {v : V} {o : Option Value} (r : RelO (some v) o) : ∃ u, o = some u /\ RelV v u := by
  cases o with
  | none => exact (show False from r).elim
  | some u => exact ⟨u, rfl, r⟩
section
variable {P : Program} {w : World} {H H' : Hp} {h h' : Heap} {a C dx : Addr} {fs fs' : List (Str × V)}
theorem ins_get (hok : HOk P w H h) (e : H a = some (.ins C dx fs)) : ∃ mA, ObjM h a dx C mA /\ (∀ f, RelO (fs.lookup f) (mA f)) /\ PySem.Within mA (fs.map (·.1)) /\ fs.length ≤ 1000 /\ H dx = some (.own a) := by
  obtain ⟨d, z, ne, ob, mA, n, r, q⟩ := (show ObjOk P w H h a (.ins C dx fs) from hok a _ e)
  exact ⟨mA, ⟨ob, n, ne⟩, r, q, z, d⟩
end
structure Cls (K : PySem.W.Frag) (C : Addr) : Prop where
  pg : PySem.W.plainGet K C Str.empty = true
  hd : PySem.W.hasDictIn K C = true
  po : PySem.W.plainOver K C = true
  sa : PySem.W.findIn K (.ref C) "__setattr__" = some (some (.builtin "object.__setattr__"))
theorem Cls.get {K : PySem.W.Frag} {C : Addr} (c : Cls K C) (f : Str) : PySem.W.plainGet K C f = true := c.pg
structure Con (K : PySem.W.Frag) (C : Addr) (f : Str) (v : V) (u : Value) : Prop where
  at_ : PySem.W.findIn K (.ref C) f = some (some u)
  rel : RelV v u
  get : PySem.W.specialIn K u "__get__" = some none
  cp : PySem.W.copiedNames.contains f = false
structure Meth (K : PySem.W.Frag) (C : Addr) (m : Str) (f : Addr) : Prop where
  at_ : PySem.W.findIn K (.ref C) m = some (some (.ref f))
  fn : PySem.W.isFn K (.ref f) = true
  kp : PySem.W.keepIn K (.ref f) = true
section
variable {X : Cx} {pins : List (Addr × Obj)} {σ : St} {H : Hp} {s : Shared} {A : Around} {E : Value->Shared->Prop} {Q : Value->Shared->Prop} {c : Value} {b : Bool}
inductive TyOf (K : PySem.W.Frag) (H : Hp) : V->Value->Prop where
  | non : TyOf K H .non (.type "NoneType")
  | bl (x : Bool) : TyOf K H (.bl x) (.type "bool")
  | int (i : Int) : TyOf K H (.int i) (.type "int")
  | str (x : Str) : TyOf K H (.str x) (.type "str")
  | flt (x : UInt64) : TyOf K H (.flt x) (.type "float")
  | lst {a : Addr} {xs : List V} (e : H a = some (.lst xs)) : TyOf K H (.ref a) (.type "list")
  | frz {a : Addr} {o : Obj} {xs : List V} (e : H a = some (.frz o (.lst xs))) : TyOf K H (.ref a) (.type "list")
  | tup {a : Addr} {xs : List V} (e : H a = some (.tup xs)) : TyOf K H (.ref a) (.type "tuple")
  | dK {a : Addr} {kvs : List (Key × V)} (e : H a = some (.dK kvs)) : TyOf K H (.ref a) (.type "dict")
  | dT {a : Addr} {kvs : List (List Key × V)} (e : H a = some (.dT kvs)) : TyOf K H (.ref a) (.type "dict")
  | ins {a C dx : Addr} {fs : List (Str × V)} (e : H a = some (.ins C dx fs)) (cl : Cls K C) (ha : PySem.W.findIn K (.ref C) "__class__" = some (some (.builtin "object.__class__")))
      (hn : PySem.W.specialIn K (.builtin "object.__class__") "__get__" = some (some (.builtin "getset_descriptor.__get__"))) (htk : PySem.W.takesIn K (.builtin "object.__class__") = some true)
      (hm : PySem.W.mroIn K C (.type "object") = some true) : TyOf K H (.ref a) (.ref C)
theorem isinst_ok {x : V} {u t : Value} (I : Inv X pins σ H s) (rx : RelV x u) (ty : TyOf X.K H x t) (e : PySem.W.kitOne X.K t c = some b) (h : ∀ tk, Q (.bool b) { s with toks := tk }) :
    wpAny (model X.prog X.w) A (call (.builtin "isinstance") [u, c]) Q E s := by
  cases ty with
  | non => cases (show u = Value.none from rx); exact PySem.W.kia_one PySem.W.kitx_none I.kIn True.intro e (fun z => nomatch z) h
  | bl y => cases (show u = Value.bool y from rx); exact PySem.W.kia_one PySem.W.kitx_bool I.kIn True.intro e (fun z => nomatch z) h
  | int i => obtain ⟨t, q⟩ := (show ∃ t, u = Value.int i t from rx); cases q; exact PySem.W.kia_one PySem.W.kitx_int I.kIn True.intro e (fun z => nomatch z) h
  | str y => obtain ⟨t, q⟩ := (show ∃ t, u = Value.str y t from rx); cases q; exact PySem.W.kia_one PySem.W.kitx_str I.kIn True.intro e (fun z => nomatch z) h
  | flt y => obtain ⟨t, q⟩ := (show ∃ t, u = Value.float y t from rx); cases q; exact PySem.W.kia_one PySem.W.kitx_float I.kIn True.intro e (fun z => nomatch z) h
  | @lst a xs ea =>
    cases (show u = Value.ref a from rx)
    obtain ⟨_, _, n, _, h1⟩ := (show ObjOk X.prog X.w H s.heap a (.lst xs) from I.hok a _ ea)
    exact PySem.W.kia_one PySem.W.kitx_list I.kIn ⟨_, h1, rfl⟩ e (fun z => nomatch z) h
  | @frz a ob xs ea =>
    cases (show u = Value.ref a from rx)
    obtain ⟨_, _, _, n, _, h1⟩ := (show ObjOk X.prog X.w H s.heap a (.frz ob (.lst xs)) from I.hok a _ ea)
    exact PySem.W.kia_one PySem.W.kitx_list I.kIn ⟨_, h1, rfl⟩ e (fun z => nomatch z) h
  | @tup a xs ea =>
    cases (show u = Value.ref a from rx)
    obtain ⟨_, _, _, p⟩ := (show ObjOk X.prog X.w H s.heap a (.tup xs) from I.hok a _ ea)
    obtain ⟨o, h1, h2, _⟩ := p
    exact PySem.W.kia_one PySem.W.kitx_tuple I.kIn ⟨o, h1, h2⟩ e (fun z => nomatch z) h
  | @dK a kvs ea =>
    cases (show u = Value.ref a from rx)
    obtain ⟨_, _, vs, _, p⟩ := (show ObjOk X.prog X.w H s.heap a (.dK kvs) from I.hok a _ ea)
    obtain ⟨o, es, ep, h1, h2, _⟩ := p
    exact PySem.W.kia_one PySem.W.kitx_dict I.kIn ⟨o, h1, h2.1⟩ e (fun z => nomatch z) h
  | @dT a kvs ea =>
    cases (show u = Value.ref a from rx)
    obtain ⟨_, _, xs, _, o, es, ep, h1, h2, _⟩ := (show ObjOk X.prog X.w H s.heap a (.dT kvs) from I.hok a _ ea)
    exact PySem.W.kia_one PySem.W.kitx_dict I.kIn ⟨o, h1, h2.1⟩ e (fun z => nomatch z) h
  | @ins a C dx fs ea cl ha hn htk hm =>
    cases (show u = Value.ref a from rx)
    obtain ⟨mA, O, _⟩ := ins_get I.hok ea
    obtain ⟨od, J, _⟩ := O.look
    exact PySem.W.kia_one (PySem.W.kitx_own (cl.get _) cl.hd ha hn htk hm) I.kIn J e (fun z => nomatch z) h
end
open PySem PySem.Spec PyProof.Rows
structure Room (k : Nat) (A : Around) : Prop where
  hd : A.handled = none
  dp : A.depth + 3 * k + 5 < recursionLimit
  un : A.units + 16 * k + 200 < cLine
theorem Room.mono {j k : Nat} {A : Around} (r : Room k A) (h : j ≤ k) : Room j A := ⟨r.hd, by have := r.dp; omega, by have := r.un; omega⟩
theorem Room.deeper {k : Nat} {A : Around} (r : Room (k + 1) A) (env : Env) : Room k (A.deeper env) :=
  ⟨r.hd, by have := r.dp; show A.depth + 1 + 3 * k + 5 < _; omega, by have := r.un; show A.units + 3 + 16 * k + 200 < _; omega⟩
theorem Room.depth {k : Nat} {A : Around} (r : Room k A) : A.depth < recursionLimit := by have := r.dp; omega
theorem Room.units {k : Nat} {A : Around} (r : Room k A) : A.units + 64 < cLine := by have := r.un; omega
def tNil : TA := fun _ H Q => Q [] H
def tCons (ta : TE) (tr : TA) : TA := fun σ H Q => ta σ H fun x H1 => tr σ H1 fun xs H2 => Q (x :: xs) H2
section
variable {X : Cx} {e : Expr} {es : List Expr} {te : TE} {t : TA} {pos : Pos}
theorem pa_nil : PA X [] tNil := fun _ _ _ _ H Q I h => Calls.spliced_nil ⟨[], H, I, .nil, h⟩
theorem pa_cons (ha : PE X e te) (hr : PA X es t) (hs : starEach (e :: es) X.env = (false, eval e X.env) :: starEach es X.env := by rfl) : PA X (e :: es) (tCons te t) := by
  intro pos pins s σ H Q I h
  rw [hs]
  show wpAny _ _ (spliced ((false, eval e X.env) :: backTo pos (starEach es X.env))) _ _ s
  refine Calls.spliced_cons (thn (ha pins s σ H _ I h) fun u s1 ⟨x, H1, I1, r1, q1⟩ => ?_)
  exact thn (hr pos pins s1 σ H1 _ I1 q1) fun us s2 ⟨xs, H2, I2, r2, q2⟩ => ⟨x :: xs, H2, I2, .cons r1 r2, q2⟩
def tTup (t : TA) : TE := fun σ H Q => t σ H fun xs H1 => xs.length ≤ sizeLine /\ ∀ p, H1 p = none->Q (.ref p) (upd H1 p (.tup xs))
def tLst (t : TA) : TE := fun σ H Q => t σ H fun xs H1 => xs.length ≤ sizeLine /\ ∀ p, H1 p = none->Q (.ref p) (upd H1 p (.lst xs))
theorem pe_tup {x1} (h : PA X es t) : PE X (.Tuple es x1 pos) (tTup t) := by
  intro pins s σ H Q I hq
  refine wpAny_Tuple_spliced (thn (h pos pins s σ H _ I hq) fun us s1 ⟨xs, H1, I1, r, z, q⟩ => ⟨by rw [← r.length]; exact z, ?_⟩)
  have hf : H1 s1.heap.objs.size = none := I1.hok.fresh (Nat.le_refl _)
  refine ⟨.ref s1.heap.objs.size, upd H1 s1.heap.objs.size (.tup xs), I1.laid (t' := s1.toks) (fun b u e => Heap.get?_push_of_some _ e) (Nat.le_refl _) ?_, rfl, q _ hf⟩
  exact ⟨z, us, r, ⟨_, Heap.get?_push_size _ rfl, rfl, _, rfl⟩⟩
theorem pe_lst (h : PA X es t) : PE X (.List es pos) (tLst t) := by
  intro pins s σ H Q I hq
  refine wpAny_List_spliced (thn (h pos pins s σ H _ I hq) fun us s1 ⟨xs, H1, I1, r, z, q⟩ => ⟨by rw [← r.length]; exact z, ?_⟩)
  have hf : H1 s1.heap.objs.size = none := I1.hok.fresh (Nat.le_refl _)
  refine ⟨.ref s1.heap.objs.size, upd H1 s1.heap.objs.size (.lst xs), I1.laid (t' := s1.toks) (fun b u e => Heap.get?_push_of_some _ e) (Nat.le_refl _) ?_, rfl, q _ hf⟩
  exact ⟨z, us, 0, r, Heap.get?_push_size _ rfl⟩
end
abbrev Sp := List V->Hp->VK->XK->Prop
abbrev CXT := List Env->Hp->Shared->XK->Value->Shared->Prop
structure Env0 (P : Program) (w : World) (K : PySem.W.Frag) (mg : Str->Option Value) (base : Heap) (A : Around) (outer : List Env) (s : Shared) (H : Hp) : Prop where
  frames : A.frames = some outer
  mod : Mod K mg base
  bs : ∀ b o, base.get? b = some o->s.heap.get? b = some o /\ H b = none
  bsz : base.objs.size ≤ s.heap.objs.size
  funs : s.heap.FunFrames base outer
  frf : ∀ b ∈ frs outer, H b = none
  hok : HOk P w H s.heap
  bare : AllBare s.gens
def CE (outer : List Env) (P : Program) (w : World) (H : Hp) (s : Shared) (Q : VK) (u : Value) (s' : Shared) : Prop :=
  ∃ v H', s'.os = s.os /\ AllBare s'.gens /\ Un (frs outer) [] H H' s.heap s'.heap /\ HOk P w H' s'.heap /\ RelV v u /\ Q v H'
def CR (CX : CXT) (outer : List Env) (P : Program) (w : World) (H : Hp) (s : Shared) (Q : VK) (E : XK) (r : Result) (s' : Shared) : Prop :=
  match r with
  | .ok (.ret u) => CE outer P w H s Q u s'
  | .ok _ => False
  | .error e => CX outer H s E e s'
structure FnOk (P : Program) (w : World) (K : PySem.W.Frag) (mg : Str->Option Value) (base : Heap) (CX : CXT) (k : Nat) (f : Addr) (fd : FuncData) (ps : List Str) (sp : Sp) : Prop where
  len : ∀ vs H Q E, sp vs H Q E->vs.length = ps.length
  run : ∀ (A : Around) (outer : List Env) (s : Shared) (H : Hp) (args : Args) (us : List Value) (vs : List V) (Q : VK) (E : XK), Room k A->Env0 P w K mg base A outer s H->BindsTo s fd args (ps.zip us)->Vals vs us->sp vs H Q E →
    codeAny (model P w) A (.call (.ref f) args) (CR CX outer P w H s Q E) s
section
variable {X : Cx} {pins : List (Addr × Obj)} {σ : St} {H : Hp} {s s' : Shared}
theorem Inv.env0 (I : Inv X pins σ H s) : Env0 X.prog X.w X.K X.mg X.base X.A X.stack s H :=
  ⟨I.ok.frames, I.ok.mod, I.bs, Nat.le_trans I.ok.bsz I.sz, I.stack, I.stkFree, I.hok, I.bare⟩
theorem Inv.after {Q : VK} {u : Value} (I : Inv X pins σ H s) (h : CE X.stack X.prog X.w H s Q u s') : EP X pins σ Q u s' := by
  obtain ⟨v, H', os, bare, un, hok, r, q⟩ := h
  obtain ⟨hh, g, d, t, os'⟩ := s'
  obtain rfl : os' = s.os := os
  exact ⟨v, H', I.call (h' := hh) (g' := g) (d' := d) (t' := t) (ch := []) un hok bare (fun b z => absurd z (by simp)), r, q⟩
end
def Binds (K : PySem.W.Frag) (fd : FuncData) (ps : List Str) (ds : List Value) : Prop :=
  ∀ (s : Shared) (us : List Value), K.In s.heap->(us ++ ds).length = ps.length->BindsTo s fd ⟨us, []⟩ (ps.zip (us ++ ds))
theorem Binds.all {K : PySem.W.Frag} {fd : FuncData} {ps : List Str} (h : ∀ us : List Value, us.length = ps.length->bindArgs fd ⟨us, []⟩ = pure (ps.zip us)) : Binds K fd ps [] := fun s us _ hl => by
  rw [List.append_nil] at hl ⊢
  exact .of_eq (h us hl)
section
variable {X : Cx} {CX : CXT} {k : Nat} {f C : Addr} {fd : FuncData} {ps : List Str} {sp : Sp} {dvs : List V} {ds : List Value} {E : XK} {x m : Str} {p pos apos : Pos} {e o : Expr} {es : List Expr} {ta : TE} {t : TA}
structure Mk (K : PySem.W.Frag) (C f : Addr) : Prop where
  makes : PySem.W.makesIn K C = true
  init : PySem.W.findIn K (.ref C) "__init__" = some (some (.ref f))
  fn : PySem.W.isFn K (.ref f) = true
  kp : PySem.W.keepIn K (.ref C) = true
end
section
variable {X : Cx} {CX : CXT} {k : Nat} {f C : Addr} {fd : FuncData} {ps ks : List Str} {sp : Sp} {E : XK} {x m : Str} {p pos apos kpos : Pos} {e o : Expr} {es : List Expr} {kws : List Keyword} {te ta : TE} {t tk : TA} {nm : Option Str}
structure KBinds (K : PySem.W.Frag) (fd : FuncData) (ps ks : List Str) (g : List Value->List Value->List Value) (gV : List V->List V->List V) : Prop where
  to : ∀ (s : Shared) (us ws : List Value), K.In s.heap->(g us ws).length = ps.length->BindsTo s fd ⟨us, ks.zip ws⟩ (ps.zip (g us ws))
  rel : ∀ {vs : List V} {us : List Value} {zs : List V} {ws : List Value}, Vals vs us->Vals zs ws->Vals (gV vs zs) (g us ws)
variable {g : List Value->List Value->List Value} {gV : List V->List V->List V}
end
structure FnScope (N P : List Str) (sc : Scope) : Prop where
  kind : sc.kind = .function
  co : sc.isCoroutine = false
  gen : sc.isGenerator = false
  nd : N.Nodup
  pre : N.take P.length = P
  par : ∀ x ∈ P, sc.names.lookup x = some .local ∨ sc.names.lookup x = some .cell
  nofree : ∀ y ∈ sc.names, y.2 ≠ .free
theorem bindL_out {kindOf : Str->Option NameKind} {x : Str} : ∀ {binds : List (Str × Value)} {m : Str->Option Value}, (∀ v, (x, v) ∉ binds)->bindL kindOf binds m x = m x
  | [], _, _ => rfl
  | (n, v) :: r, m, h => by
    unfold bindL
    rw [bindL_out fun w hw => h w (List.mem_cons_of_mem _ hw)]
    split
    · have : x ≠ n := by rintro rfl; exact h v List.mem_cons_self
      simp [this]
    · rfl
theorem bindC_out {kindOf : Str->Option NameKind} {x : Str} : ∀ {binds : List (Str × Value)} {m : Str->Option Value}, (∀ v, (x, v) ∉ binds)->bindC kindOf binds m x = m x
  | [], _, _ => rfl
  | (n, v) :: r, m, h => by
    unfold bindC
    rw [bindC_out fun w hw => h w (List.mem_cons_of_mem _ hw)]
    split
    · rfl
    · have : x ≠ n := by rintro rfl; exact h v List.mem_cons_self
      simp [this]
theorem bindL_get {kindOf : Str->Option NameKind} {x : Str} {v : Value} : ∀ {P : List Str} {vs : List Value} {i : Nat} {m : Str->Option Value}, P.Nodup->P[i]? = some x->vs[i]? = some v->kindOf x = some .local →
    bindL kindOf (P.zip vs) m x = some v
  | [], _, _, _, _, h, _, _ => by simp at h
  | _ :: _, [], _, _, _, _, h, _ => by simp at h
  | p :: P, w :: vs, 0, m, nd, h1, h2, hk => by
    simp at h1 h2; subst h1; subst h2
    show bindL kindOf ((p, w) :: P.zip vs) m p = _
    unfold bindL
    rw [bindL_out fun v hv => (List.nodup_cons.mp nd).1 (List.of_mem_zip hv).1, if_pos hk]
    simp
  | p :: P, w :: vs, i + 1, m, nd, h1, h2, hk => by
    show bindL kindOf ((p, w) :: P.zip vs) m x = _
    unfold bindL
    exact bindL_get (i := i) (List.nodup_cons.mp nd).2 (by simpa using h1) (by simpa using h2) hk
theorem bindC_get {kindOf : Str->Option NameKind} {x : Str} {v : Value} : ∀ {P : List Str} {vs : List Value} {i : Nat} {m : Str->Option Value}, P.Nodup->P[i]? = some x->vs[i]? = some v->kindOf x ≠ some .local →
    bindC kindOf (P.zip vs) m x = some v
  | [], _, _, _, _, h, _, _ => by simp at h
  | _ :: _, [], _, _, _, _, h, _ => by simp at h
  | p :: P, w :: vs, 0, m, nd, h1, h2, hk => by
    simp at h1 h2; subst h1; subst h2
    show bindC kindOf ((p, w) :: P.zip vs) m p = _
    unfold bindC
    rw [bindC_out fun v hv => (List.nodup_cons.mp nd).1 (List.of_mem_zip hv).1, if_neg hk]
    simp
  | p :: P, w :: vs, i + 1, m, nd, h1, h2, hk => by
    show bindC kindOf ((p, w) :: P.zip vs) m x = _
    unfold bindC
    exact bindC_get (i := i) (List.nodup_cons.mp nd).2 (by simpa using h1) (by simpa using h2) hk
def start (N : List Str) (vs : List V) : St := vs.map some ++ List.replicate (N.length - vs.length) none
def cxOf (CX : CXT) (P : Program) (w : World) (K : PySem.W.Frag) (mg : Str->Option Value) (base : Heap) (N : List Str) (qual : Str) (scope : Scope) (f : Addr) (cd : Value) (A : Around) (outer : List Env) (s : Shared) (H : Hp) (E : XK) : Cx where
  prog := P
  w := w
  K := K
  mg := mg
  base := base
  A := A.deeper (envOfC qual scope s.heap.objs.size f cd)
  N := N
  s₀ := s
  H₀ := H
  env := envOfC qual scope s.heap.objs.size f cd
  outer := outer
  stack := envOfC qual scope s.heap.objs.size f cd :: outer
  ex := []
  calm := true
  fn := fun _ => true
  pn := []
  xe := fun e s' => wpAny (model P w) (A.deeper (envOfC qual scope s.heap.objs.size f cd)) (leaving (envOfC qual scope s.heap.objs.size f cd) e) (fun _ s'' => CX outer H s E e s'') (fun e' s'' => CX outer H s E e' s'') s'
theorem cell_has {sc : Scope} {n : Nat} {x : Str} (h : sc.names.lookup x = some .cell) : ∃ c, (cellsFrom n sc.names []).lookup x = some c := by
  have q := PySem.W.cellsFrom_some sc.names n [] (.inl h)
  exact Option.isSome_iff_exists.mp q
theorem inv_start {CX : CXT} {P : Program} {w : World} {K : PySem.W.Frag} {mg : Str->Option Value} {base : Heap} {N ps : List Str} {qual : Str} {scope : Scope} {f : Addr} {cd : Value} {A : Around} {outer : List Env} {s s1 : Shared} {H : Hp} {E : XK} {us : List Value} {vs : List V}
    (S : FnScope N ps scope) (hd : A.handled = none) (e0 : Env0 P w K mg base A outer s H) (hl : vs.length = ps.length) (r : Vals vs us)
    (x : InCallC s s.heap.objs.size (bindL (envOfC qual scope s.heap.objs.size f cd).kindOf (ps.zip us) fun _ => none) (cellsFrom (s.heap.objs.size + 1) scope.names []) (bindC (envOfC qual scope s.heap.objs.size f cd).kindOf (ps.zip us) fun _ => none) s1) :
    Inv (cxOf CX P w K mg base N qual scope f cd A outer s H E) [] (start N vs) H s1 := by
  have hpl : ps.length ≤ N.length := by have := congrArg List.length S.pre; rw [List.length_take] at this; omega
  obtain ⟨h1, tk, rfl, hk⟩ := x.done
  have noA : ∀ b : Addr, b ∉ (cxOf CX P w K mg base N qual scope f cd A outer s H E).ex := fun b z => absurd (show b ∈ ([] : List Addr) from z) (by simp)
  refine ⟨⟨e0.mod, S.kind, rfl, rfl, Nat.le_refl _, fun y z c h1 h2 => ?_, fun y hy => ?_, fun y c _ h => ?_, fun _ => hd, Around.frames_deeper e0.frames, .inr ⟨rfl, rfl⟩, fun b z => absurd z (noA b), e0.bs, e0.bsz, fun b _ _ => noA b, fun b z => absurd z (noA b), e0.funs, e0.frf⟩,
    rfl, e0.bare, Un.kept hk, ⟨_, x.toInCall.ns, fun i y v h1 h2 h3 => ?_⟩, fun y c h => ⟨_, x.cell y c h⟩, e0.hok.fresh (Nat.le_refl _), fun y c h => ?_, fun p hp => absurd (show p ∈ ([] : List (Addr × Obj)) from hp) (by simp), e0.hok.kept hk, ?_⟩
  · exact name_of_addr x.apart (PySem.mem_of_lookup h1) (PySem.mem_of_lookup h2)
  · have hy : scope.names.lookup y = some .cell ∨ scope.names.lookup y = some .free := hy
    rcases hy with hy | hy
    · exact cell_has hy
    · exact absurd rfl (S.nofree _ (PySem.mem_of_lookup hy))
  · exact Nat.le_of_lt (x.above y c (PySem.mem_of_lookup h))
  · have hi : i < vs.length := by
      unfold start at h2
      by_cases hi : i < vs.length
      · exact hi
      · rw [List.getElem?_append_right (by simpa using hi)] at h2
        rw [List.getElem?_replicate] at h2
        split at h2 <;> cases h2
    have ha : vs[i]? = some v := by
      unfold start at h2
      rw [List.getElem?_append_left (by simpa using hi), List.getElem?_map] at h2
      cases e : vs[i]? with
      | none => rw [e] at h2; cases h2
      | some a => rw [e] at h2; cases h2; rfl
    obtain ⟨u, hu, rv⟩ := r.get ha
    have hp : ps[i]? = some y := by
      rw [← S.pre, List.getElem?_take_of_lt (by omega)]; exact h1
    have ndP : ps.Nodup := by rw [← S.pre]; exact S.nd.sublist (List.take_sublist _ _)
    refine ⟨u, rv, ?_⟩
    rcases S.par y (List.mem_of_getElem? hp) with k | k
    · exact .inl ⟨k, bindL_get ndP hp hu k⟩
    · obtain ⟨c, e⟩ := cell_has (n := s.heap.objs.size + 1) k
      refine .inr ⟨.inl k, c, e, ?_⟩
      have q := x.cell y c e
      rw [bindC_get ndP hp hu (by show scope.names.lookup y ≠ _; rw [k]; decide)] at q
      exact q
  · exact e0.hok.fresh (Nat.le_of_lt (x.above y c (PySem.mem_of_lookup h)))
  · unfold start
    show _ = N.length
    rw [List.length_append, List.length_map, List.length_replicate]
    omega
theorem fn_of {CX : CXT} {P : Program} {w : World} {K : PySem.W.Frag} {mg : Str->Option Value} {base : Heap} {k : Nat} {f : Addr} {name qual : Str} {params : Arguments} {body : List Stmt} {scope : Scope} {dV kV doc pm cdv ct oc : Value} {an od : Option Addr}
    {osl : Array (Option Value)} {N ps : List Str} {sp : Sp} (lk : K.lookup f = some ⟨oc, od, .func (PySem.W.fnOf name qual params body scope dV kV doc pm an cdv ct), osl⟩) (hcd : PySem.W.codeIn K cdv qual = true) (S : FnScope N ps scope)
    (len : ∀ vs H Q E, sp vs H Q E->vs.length = ps.length)
    (hbody : ∀ (A : Around) (outer : List Env) (s : Shared) (H : Hp) (vs : List V) (Q : VK) (E : XK), Room k (A.deeper (envOfC qual scope s.heap.objs.size f cdv))->sp vs H Q E →
      ∃ t, PSs (cxOf CX P w K mg base N qual scope f cdv A outer s H E) body t /\ t { nx := fun _ H' => Q .non H', rt := Q } (start N vs) H) :
    FnOk P w K mg base CX (k + 1) f (PySem.W.fnOf name qual params body scope dV kV doc pm an cdv ct) ps sp := by
  refine ⟨len, fun A outer s H args us vs Q E hr e0 hb r hsp => ?_⟩
  have hl := len _ _ _ _ hsp
  have KX : K.In s.heap := e0.mod.kin.keeps fun b o e => (e0.bs b o e).1
  have lim : s.heap.NoLimit := e0.mod.nolimit.keeps fun b o e => (e0.bs b o e).1
  have hkind : ∀ y ∈ ps.zip us, scope.names.lookup y.1 = some .local ∨ (scope.names.lookup y.1 = some .cell /\ ((cellsFrom (s.heap.objs.size + 1) scope.names []).lookup y.1).isSome = true) := fun ⟨n, v⟩ hy => by
    rcases S.par n (List.of_mem_zip hy).1 with q | q
    · exact .inl q
    · exact .inr ⟨q, PySem.W.cellsFrom_some _ _ _ (.inl q)⟩
  refine codeAny_call_function hr.depth (KX _ _ lk) rfl S.co S.gen rfl (PySem.W.codeRec_of KX hcd) (hb _ _ _ _ ?_)
  refine wpAny_newFunctionEnv_cells S.kind hkind fun env he s1 x => ?_
  subst he
  refine ⟨lim.keeps x.toInCall.keep, codeAny_func ?_⟩
  obtain ⟨t, ht, hq⟩ := hbody A outer s H vs Q E (hr.deeper _) hsp
  have I : Inv (cxOf CX P w K mg base N qual scope f cdv A outer s H E) [] (start N vs) H s1 := inv_start S hr.hd e0 hl r x
  refine wpAny_mono (ht [] s1 (start N vs) H _ I hq) (fun fl s' hs => ?_) fun e s' hs => hs
  have fin : ∀ {σ' : St} {H' : Hp} {v : V} {u : Value}, Inv (cxOf CX P w K mg base N qual scope f cdv A outer s H E) [] σ' H' s'->RelV v u->Q v H'->CE outer P w H s Q u s' :=
    fun {σ' H' v u} J rv q => ⟨v, H', J.os, J.bare, J.base, J.hok, rv, q⟩
  cases fl with
  | ret u =>
    obtain ⟨v, σ', H', J, rv, q⟩ := hs
    exact fin J rv q
  | next =>
    obtain ⟨σ', H', J, q⟩ := hs
    exact fin (v := V.non) (u := Value.none) J rfl q
  | brk =>
    obtain ⟨_, _, _, q⟩ := hs
    exact False.elim q
  | cont =>
    obtain ⟨_, _, _, q⟩ := hs
    exact False.elim q
open PySem PySem.Spec PyProof.Rows
section
variable {X : Cx} {x : Str} {p pos : Pos} {e : Expr} {es : List Expr} {t : TA} {id T : String} {r : List V->Hp->VK->Prop}
def tCB (r : List V->Hp->VK->Prop) (t : TA) : TE := fun σ H Q => t σ H fun vs H1 => r vs H1 Q
theorem pe_callB (hc : CallR X (.builtin id) r) (hg : Gl X x) (hm : X.mg x = none) (hv : bootBuiltins x = some (.builtin id)) (ha : PA X (e :: es) t) (hn : x ≠ "__name__" := by decide) (hdb : (x == ("__debug__" : Str)) = false := by decide)
    (he : starEach (e :: es) X.env = (false, eval e X.env) :: starEach es X.env := by rfl) (hpl : (backTo pos (starEach es X.env)).any (·.1) = false := by rfl) : PE X (.Call (.Name x p) (e :: es) [] pos) (tCB r t) := by
  intro pins s σ H Q I h
  refine wpAny_Call_Name_kw (ld_blt I hg hm hv ?_ hn hdb)
  exact PyProof.Rows.callWith_builtin1 (thn (ha pos pins s σ H _ I h) fun us s1 ⟨vs, H1, I1, r1, q1⟩ => hc pins s1 σ H1 vs us Q I1 r1 q1) he hpl
theorem pe_callTy (hc : CallR X (.type T) r) (hg : Gl X x) (hm : X.mg x = none) (hv : bootBuiltins x = some (.type T)) (ha : PA X (e :: es) t) (hn : x ≠ "__name__" := by decide) (hdb : (x == ("__debug__" : Str)) = false := by decide)
    (he : starEach (e :: es) X.env = (false, eval e X.env) :: starEach es X.env := by rfl) (hpl : (backTo pos (starEach es X.env)).any (·.1) = false := by rfl) : PE X (.Call (.Name x p) (e :: es) [] pos) (tCB r t) := by
  intro pins s σ H Q I h
  refine wpAny_Call_Name_kw (ld_blt I hg hm hv ?_ hn hdb)
  exact PyProof.Rows.callWith_type1 (thn (ha pos pins s σ H _ I h) fun us s1 ⟨vs, H1, I1, r1, q1⟩ => hc pins s1 σ H1 vs us Q I1 r1 q1) he hpl
end
end L2
namespace HT
open PySem PyProof.Rows
def lexLt : List Int->List Int->Bool
  | [], [] => false
  | [], _ :: _ => true
  | _ :: _, [] => false
  | x :: xs, y :: ys => if x = y then lexLt xs ys else decide (x < y)
theorem lexLt_cons (x y : Int) (xs ys : List Int) : lexLt (x :: xs) (y :: ys) = if x = y then lexLt xs ys else decide (x < y) := rfl
theorem lexLt_nil_nil : lexLt [] [] = false := rfl
theorem lexLt_nil_cons (y : Int) (ys : List Int) : lexLt [] (y :: ys) = true := rfl
theorem lexLt_cons_nil (x : Int) (xs : List Int) : lexLt (x :: xs) [] = false := rfl
theorem eqAt_int (A : Around) (s : Shared) (a : Int) (t : Tok) (c : Int) (u : Tok) : ∃ e, SeqAt.EqAt A s (.int a t) (.int c u) e /\ (e = true ↔ a = c) :=
  ⟨(a == c), SeqAt.EqAt.int_int a t c u, by simp⟩
theorem rcLt_int (A : Around) (s : Shared) (a : Int) (t : Tok) (c : Int) (u : Tok) (prog : Program) (w : World) (E : Value->Shared->Prop) (Q : Value->Shared->Prop) (h : Q (.bool (decide (a < c))) s) :
    wpAny (model prog w) A (richCompare .Lt (.int a t) (.int c u)) Q E s :=
  (PyProof.Rows.lt_int h : wpAny (model prog w) A (compareOp .Lt (.int a t) (.int c u)) Q E s)
section
open PySem.SeqAt
open PySem.AutoSeq1 (wpAny_loadPart')
open PySem.MeetsSeq PySem.MeetsSeq2 PySem.MeetsSeq3
theorem tuple_lt_ints (l b : Addr) (items items2 : Array Value) (n n2 : Nat) (dd dd2 : Option Addr) (sl sl2 : Array (Option Value)) (ns ms : List Int) (hi : IntsAre items.toList ns) (hj : IntsAre items2.toList ms) :
    Meets (Builtin.«tuple.__lt__» ⟨[.ref l, .ref b], []⟩)
      (fun _ R s => s.heap.get? l = some { cls := .type "tuple", dict := dd, data := .seq items n, slots := sl } /\ s.heap.get? b = some { cls := .type "tuple", dict := dd2, data := .seq items2 n2, slots := sl2 } ∧
        R (.ok (.ret (.bool (lexLt ns ms)))) s) :=
  .of_wp fun prog w A R s h => by
    obtain ⟨hp, g, d, tk, os⟩ := s; obtain ⟨hl, hb, h⟩ := h
    have f2 := AutoSeq1.sub_tuple_tuple
    have z1 : items.size = ns.length := by rw [← hi.length]; simp
    have z2 : items2.size = ms.length := by rw [← hj.length]; simp
    wp_walk using wpAny_loadPart' hl, wpAny_loadPart' hb, wpAny_forIn_list _ (fun rest b s' => b.1 = none /\ s' = ⟨hp, g, d, tk, os⟩ /\ ∃ (vs ws : List Value) (ns' ms' : List Int), rest = vs.zip ws ∧
      IntsAre vs ns' /\ IntsAre ws ms' /\ ns'.length + items2.size = ms'.length + items.size /\ R (.ok (.ret (.bool (lexLt ns' ms')))) ⟨hp, g, d, tk, os⟩) _
    case turn =>
      rintro ⟨y, x⟩ rest b s' ⟨hb', rfl, vs, ws, ns', ms', hz, hvi, hwi, hlen, hR⟩
      cases hvi with
      | nil => rw [List.zip_nil_left] at hz; cases hz
      | cons a t hvi' =>
        cases hwi with
        | nil => rw [List.zip_nil_right] at hz; cases hz
        | cons c u hwi' =>
          rw [List.zip_cons_cons] at hz
          injection hz with hyx hrest
          injection hyx with hy hx
          subst hy hx
          rw [lexLt_cons] at hR
          simp only [List.length_cons] at hlen
          obtain ⟨e, he, hiff⟩ := eqAt_int A.in1 ⟨hp, g, d, tk, os⟩ a t c u
          refine wpAny_bind (he prog w _ _ ?_)
          cases e with
          | true =>
            rw [if_pos (hiff.mp rfl)] at hR
            wp_walk
            exact ⟨rfl, rfl, _, _, _, _, hrest, hvi', hwi', by omega, hR⟩
          | false =>
            rw [if_neg (fun q => absurd (hiff.mpr q) Bool.false_ne_true)] at hR
            have hri := rcLt_int A.in1 ⟨hp, g, d, tk, os⟩ a t c u prog w
            wp_walk using hri
            exact ⟨_, rfl, by simpa using hR⟩
    case fin =>
      rintro ⟨b1, b2⟩ s' ⟨hb', rfl, vs, ws, ns', ms', hz, hvi, hwi, hlen, hR⟩
      simp only at hb'
      subst hb'
      have hv : lexLt ns' ms' = decide (items.size < items2.size) := by
        cases hvi with
        | nil =>
          cases hwi with
          | nil =>
            simp only [List.length_nil] at hlen
            rw [lexLt_nil_nil]
            exact (decide_eq_false (by omega)).symm
          | cons c u hw =>
            simp only [List.length_nil, List.length_cons] at hlen
            rw [lexLt_nil_cons]
            exact (decide_eq_true (by omega)).symm
        | cons a t hv =>
          cases hwi with
          | nil =>
            simp only [List.length_nil, List.length_cons] at hlen
            rw [lexLt_cons_nil]
            exact (decide_eq_false (by omega)).symm
          | cons c u hw =>
            rw [List.zip_cons_cons] at hz
            cases hz
      rw [hv] at hR
      wp_walk
      exact ⟨_, rfl, by simpa [Builtin.Tuple.tupleCompareSizes] using hR⟩
    case h =>
      exact ⟨rfl, rfl, items.toList, items2.toList, ns, ms, rfl, hi, hj, by omega, h⟩
end
section
variable {prog : Program} {w : World} {A : Around} {E : Value->Shared->Prop} {s : Shared}
theorem lt_tupInts {l b : Addr} {items items2 : Array Value} {ns ms : List Int} {Q : Value->Shared->Prop} (hl : IsTup s.heap l items) (hb : IsTup s.heap b items2) (hi : IntsAre items.toList ns) (hj : IntsAre items2.toList ms)
    (hu : A.units < cLine) (h : Q (.bool (lexLt ns ms)) s) : wpAny (model prog w) A (compareOp .Lt (.ref l) (.ref b)) Q E s := by
  obtain ⟨⟨cls, dd, data, sl⟩, ho, hc, n, hd⟩ := id hl
  obtain ⟨⟨cls2, dd2, data2, sl2⟩, ho2, hc2, n2, hd2⟩ := id hb
  simp only at hc hd hc2 hd2
  subst hc hd hc2 hd2
  exact richCompare_meets_room (op := .Lt) ⟨_, ho, rfl⟩ ⟨_, ho2, rfl⟩ PySem.F.slot_tuple_lt PySem.F.entry_tuple_lt (PySem.F.args_tuple_lt_2 _ _) (tuple_lt_ints l b items items2 n n2 dd dd2 sl sl2 ns ms hi hj)
    ⟨ho, ho2, show Value.bool (lexLt ns ms) ≠ Value.notImplemented /\ Q (.bool (lexLt ns ms)) s from ⟨(fun x => nomatch x), h⟩⟩ hu
theorem cat_tup {t b : Addr} {vs ws : List Value} {Q : Value->Shared->Prop} (ht : IsTup s.heap t vs.toArray) (hb : IsTup s.heap b ws.toArray) (hv : vs ≠ [])
    (h1 : ws = []->Q (.ref t) s) (h2 : ws ≠ []->Q (.ref s.heap.objs.size) { s with heap := s.heap.push { cls := .type "tuple", data := .seq (vs ++ ws).toArray } })
    (hsz : vs.length + ws.length ≤ sizeLine) : wpAny (model prog w) A (binaryOp .Add (.ref t) (.ref b)) Q E s := by
  obtain ⟨⟨cls, dd, data, sl⟩, ho, hc, n, hd⟩ := id ht
  obtain ⟨⟨cls2, dd2, data2, sl2⟩, ho2, hc2, n2, hd2⟩ := id hb
  simp only at hc hd hc2 hd2
  subst hc hd hc2 hd2
  have e : vs.toArray ++ ws.toArray = (vs ++ ws).toArray := by simp
  by_cases hw : ws = []
  · exact concat_meets ⟨_, ho, rfl⟩ ⟨_, ho2, rfl⟩ noFill_tuple_add seq_tuple_add PySem.F.slot_tuple_add PySem.F.entry_tuple_add (PySem.F.args_tuple_add_2 _ _)
      (tuple_addW1 t b vs.toArray ws.toArray n n2 dd dd2 sl sl2 (by simpa using hv) (by simp [hw])) ⟨ho, ho2, h1 hw⟩
  · refine concat_meets ⟨_, ho, rfl⟩ ⟨_, ho2, rfl⟩ noFill_tuple_add seq_tuple_add PySem.F.slot_tuple_add PySem.F.entry_tuple_add (PySem.F.args_tuple_add_2 _ _)
      (tuple_addW2 t b vs.toArray ws.toArray n n2 dd dd2 sl sl2 (by simpa using hv) (by simpa using hw) (by rw [List.size_toArray, List.size_toArray]; exact hsz)) ⟨ho, ho2, ?_⟩
    rw [e]
    exact h2 hw
def sIx (n d : Nat) : Option Int->Nat
  | none => d
  | some v => if v < 0 then (v + (n : Int)).toNat else min v.toNat n
theorem sIx_none (n d : Nat) : sIx n d none = d := rfl
theorem sIx_nat (n d k : Nat) : sIx n d (some (k : Int)) = min k n := by
  show (if (k : Int) < 0 then ((k : Int) + (n : Int)).toNat else min (k : Int).toNat n) = min k n
  rw [if_neg (by omega), Int.toNat_natCast]
theorem sIx_le (n d : Nat) (hd : d ≤ n) (o : Option Int) : sIx n d o ≤ n := by
  cases o with
  | none => exact hd
  | some v =>
    show (if v < 0 then (v + (n : Int)).toNat else min v.toNat n) ≤ n
    by_cases hv : v < 0
    · rw [if_pos hv]; omega
    · rw [if_neg hv]; exact Nat.min_le_right _ _
theorem clip_eq (v : Int) (n d : Nat) : (if v < 0 then max (v + (n : Int)) 0 else min v (n : Int)) = ((sIx n d (some v) : Nat) : Int) := by
  show (if v < 0 then max (v + (n : Int)) 0 else min v (n : Int)) = (((if v < 0 then (v + (n : Int)).toNat else min v.toNat n) : Nat) : Int)
  by_cases hv : v < 0
  · simp only [if_pos hv]; omega
  · simp only [if_neg hv]; omega
theorem adjust_gen (lo hi : Option Int) (n : Nat) : Builtin.Slice.sliceAdjust lo hi 1 (n : Int) = (((sIx n 0 lo : Nat) : Int), ((sIx n n hi : Nat) : Int)) := by
  have h1 : ¬ ((1 : Int) < 0) := by omega
  unfold Builtin.Slice.sliceAdjust
  simp only [h1, if_false]
  refine Prod.ext ?_ ?_
  · cases lo with
    | none => rfl
    | some v => exact clip_eq v n 0
  · cases hi with
    | none => rfl
    | some v => exact clip_eq v n n
theorem places_gen (i j : Nat) : Builtin.Slice.slicePlaces (i : Int) (j : Int) 1 = j - i := by
  unfold Builtin.Slice.slicePlaces
  have h1 : (1 : Int) > 0 := by omega
  simp only [h1, if_true, Int.ediv_one]
  split <;> omega
theorem slicePart_ {v : Value} {o : Option Int} {Q : Option Int->Shared->Prop} (p : IsPart v o) (h : Q o s) : wpAny (model prog w) A (Builtin.Slice.slicePartIndex v) Q E s := by
  cases p with
  | none => exact slicePart_none h
  | int i t => exact slicePart_int h
theorem sliceApplied_gen {sl : Addr} {vl vu : Value} {lo hi : Option Int} {n : Nat} {Q : Int × Int × Nat->Shared->Prop} (hs : s.heap.IsSliceOf sl vl vu .none) (pl : IsPart vl lo) (pu : IsPart vu hi)
    (h : Q (((sIx n 0 lo : Nat) : Int), 1, sIx n n hi - sIx n 0 lo) s) : wpAny (model prog w) A (Builtin.Slice.sliceApplied (.ref sl) (pure (n : Int))) Q E s := by
  obtain ⟨os, hos, hcs, hds⟩ := id hs
  unfold Builtin.Slice.sliceApplied Builtin.Slice.sliceFields
  refine wpAny_bind (wpAny_bind (wpAny_field hos hds (x := vl) rfl (wpAny_bind (wpAny_field hos hds (x := vu) rfl (wpAny_bind (wpAny_field hos hds (x := .none) rfl (wpAny_pure ?_)))))))
  refine wpAny_bind (slicePart_none ?_)
  show wpAny _ _ (if ((1 : Int) == 0) = true then _ else _) _ _ s
  rw [if_neg (by decide)]
  refine wpAny_bind (slicePart_ pl (wpAny_bind (slicePart_ pu (wpAny_bind (wpAny_pure ?_)))))
  show wpAny _ _ (match Builtin.Slice.sliceAdjust lo hi 1 (n : Int) with | (lo, hi) => pure (lo, (1 : Int), Builtin.Slice.slicePlaces lo hi 1)) _ _ s
  rw [adjust_gen lo hi n]
  show wpAny _ _ (pure (((sIx n 0 lo : Nat) : Int), (1 : Int), Builtin.Slice.slicePlaces ((sIx n 0 lo : Nat) : Int) ((sIx n n hi : Nat) : Int) 1)) _ _ s
  rw [places_gen]
  exact wpAny_pure h
theorem pick_gen (xs : Array Value) (i k : Nat) : ((List.range k).filterMap fun (m : Nat) => xs[((i : Int) + (m : Int) * 1).toNat]?).toArray = ((xs.toList.drop i).take k).toArray := by
  have e : (fun (m : Nat) => xs[((i : Int) + (m : Int) * 1).toNat]?) = fun m => xs[i + m]? := by
    funext m
    have : ((i : Int) + (m : Int) * 1).toNat = i + m := by omega
    rw [this]
  rw [e]
  have := pick_run xs i k
  rw [List.filterMap_map] at this
  have e2 : ((fun x => xs[x]?) ∘ fun x => i + x) = fun m => xs[i + m]? := rfl
  rw [e2] at this
  rw [this]
theorem getItem_tuple_cut {t sl : Addr} {items : Array Value} {vl vu : Value} {lo hi : Option Int} {Q : Value->Shared->Prop} (ht : IsTup s.heap t items) (hs : s.heap.IsSliceOf sl vl vu .none) (pl : IsPart vl lo) (pu : IsPart vu hi)
    (hw : ¬ (sIx items.size 0 lo = 0 /\ sIx items.size items.size hi = items.size))
    (h : Q (.ref s.heap.objs.size) { s with heap := s.heap.push { cls := .type "tuple", data := .seq ((items.toList.drop (sIx items.size 0 lo)).take (sIx items.size items.size hi - sIx items.size 0 lo)).toArray } })
    (hsz : items.size ≤ sizeLine) : wpAny (model prog w) A (getItem (.ref t) (.ref sl)) Q E s := by
  have htake : sizeOk (.seq ((items.toList.drop (sIx items.size 0 lo)).take (sIx items.size items.size hi - sIx items.size 0 lo)).toArray) := by
    show ((items.toList.drop (sIx items.size 0 lo)).take (sIx items.size items.size hi - sIx items.size 0 lo)).toArray.size ≤ sizeLine
    rw [List.size_toArray, List.length_take, List.length_drop, Array.length_toList]
    omega
  have hj : sIx items.size items.size hi ≤ items.size := sIx_le _ _ (Nat.le_refl _) hi
  obtain ⟨os, hos, hcs, hds⟩ := id hs
  have hTs : s.TypeIs (.ref sl) "slice" := ⟨os, hos, hcs⟩
  unfold getItem
  try with_reducible refine wpAny_holding ?_
  first | refine wpAny_bind (wpAny_pure ?_) | skip
  refine wpAny_bind (wpAny_sequenceKey ht.typeIs (by decide) ?_)
  refine wpAny_bind (wpAny_callSpecial?_slot (name := Str.ofString "__getitem__") ht.typeIs PyProof.Rows.slot_tuple_getitem
    (wpAny_call_entry PyProof.Rows.slot_tuple_getitem ht.typeIs entry_tuple_getitem ?_ (args_tuple_getitem _ _)))
  show wpAny _ _ (Builtin.Tuple.tupleItemsOf (.ref t) >>= _) _ _ s
  refine wpAny_bind (tupleItemsOf_ ht ?_)
  refine wpAny_bind (wpAny_typeOf hTs ?_)
  rw [if_pos (by decide)]
  refine wpAny_bind (sliceApplied_gen hs pl pu ?_)
  have hno : ¬ ((((sIx items.size 0 lo : Nat) : Int) == 0 && (1 : Int) == 1 && (sIx items.size items.size hi - sIx items.size 0 lo) == items.size) = true) := by
    intro q
    rw [Bool.and_eq_true, Bool.and_eq_true] at q
    have q1 : ((sIx items.size 0 lo : Nat) : Int) = 0 := eq_of_beq q.1.1
    have q2 : sIx items.size items.size hi - sIx items.size 0 lo = items.size := eq_of_beq q.2
    exact hw ⟨by omega, by omega⟩
  show wpAny _ _ (if (((sIx items.size 0 lo : Nat) : Int) == 0 && (1 : Int) == 1 && (sIx items.size items.size hi - sIx items.size 0 lo) == items.size) = true then _ else _) _ _ s
  rw [if_neg hno, pick_gen]
  first
    | exact wpAny_bind (m := Builtin.Tuple.tupleExact _) (wpAny_newObj_type (wpAny_pure ⟨_, rfl, wpAny_pure h⟩) htake)
    | exact wpAny_bind (m := Builtin.Tuple.tupleExact _) (wpAny_newObj_type (wpAny_bind (wpAny_pure (wpAny_pure ⟨_, rfl, wpAny_pure h⟩))) htake)
    | exact wpAny_bind (wpAny_bind (m := Builtin.Tuple.tupleExact _) (wpAny_newObj_type (wpAny_pure (wpAny_pure ⟨_, rfl, wpAny_pure h⟩)) htake))
    | exact wpAny_bind (wpAny_bind (m := Builtin.Tuple.tupleExact _) (wpAny_newObj_type (wpAny_pure ⟨_, rfl, wpAny_pure h⟩) htake))
end
end HT
namespace L2
open PySem PySem.Spec PyProof.Rows
abbrev TO := St->Hp->(Option Int->Hp->Prop)->Prop
def PO (X : Cx) (e : Option Expr) (t : TO) : Prop :=
  ∀ (pins : List (Addr × Obj)) (s : Shared) (σ : St) (H : Hp) (Q : Option Int->Hp->Prop), Inv X pins σ H s->t σ H Q →
    wpAny (model X.prog X.w) X.A (evalPart e X.env) (fun u s' => ∃ o H', Inv X pins σ H' s' /\ IsPart u o /\ Q o H') X.xe s
def tNoPart : TO := fun _ H Q => Q none H
def tPart (t : TE) : TO := fun σ H Q => t σ H fun x H1 => ∃ i, x = .int i /\ Q (some i) H1
theorem intsAre_of {ns : List Int} : ∀ {us : List Value}, Vals (ns.map V.int) us->IntsAre us ns := by
  induction ns with
  | nil => intro us r; rw [List.map_nil] at r; cases r; exact .nil
  | cons n ns ih =>
    intro us r
    rw [List.map_cons] at r
    cases r with
    | cons r1 r2 =>
      obtain ⟨t, e⟩ := r1
      subst e
      exact .cons n t (ih r2)
section
variable {X : Cx} {e : Expr} {te : TE} {lo hi : Option Expr} {tl th : TO} {pos p2 : Pos}
theorem po_none : PO X none tNoPart := by
  intro pins s σ H Q I h
  rw [evalPart_none]
  exact wpAny_pure ⟨none, H, I, .none, h⟩
theorem po_some (h : PE X e te) : PO X (some e) (tPart te) := by
  intro pins s σ H Q I hw
  rw [evalPart_some]
  refine thn (h pins s σ H _ I hw) fun u s1 ⟨x, H1, I1, r1, q1⟩ => ?_
  obtain ⟨i, rfl, q⟩ := q1
  obtain ⟨t, rfl⟩ := r1
  exact ⟨some i, H1, I1, .int i t, q⟩
def SlR (X : Cx) (r : V->Option Int->Option Int->Hp->VK->Prop) : Prop :=
  ∀ (pins : List (Addr × Obj)) (s : Shared) (σ : St) (H : Hp) (x : V) (v vl vu : Value) (lo hi : Option Int) (sl : Addr) (Q : VK), Inv X pins σ H s->RelV x v->s.heap.IsSliceOf sl vl vu .none->IsPart vl lo->IsPart vu hi->r x lo hi H Q →
    ∃ T id, typeLookup (.type T) "__getitem__" = pure (some (.builtin id)) /\ s.TypeIs v T /\ wpAny (model X.prog X.w) X.A (getItem v (.ref sl)) (EP X pins σ Q) X.xe s
def tSl (r : V->Option Int->Option Int->Hp->VK->Prop) (te : TE) (tl th : TO) : TE := fun σ H Q => te σ H fun x H1 => tl σ H1 fun l H2 => th σ H2 fun u H3 => r x l u H3 Q
theorem pe_slice {r : V->Option Int->Option Int->Hp->VK->Prop} (hr : SlR X r) (he : PE X e te) (hl : PO X lo tl) (hu : PO X hi th) : PE X (.Subscript e (.Slice lo hi none p2) pos) (tSl r te tl th) := by
  intro pins s σ H Q I h
  refine Subscript_ (thn (he pins s σ H _ I h) fun v s1 ⟨x, H1, I1, r1, q1⟩ => ?_)
  refine wpAny_Slice (thn (hl pins s1 σ H1 _ I1 q1) fun vl s2 ⟨l, H2, I2, pl, q2⟩ => thn (hu pins s2 σ H2 _ I2 q2) fun vu s3 ⟨u, H3, I3, pu, q3⟩ => ?_)
  rw [evalPart_none]
  refine wpAny_pure ?_
  have I4 : Inv X pins σ H3 { s3 with heap := s3.heap.push { cls := .type "slice", data := .fields #[vl, vu, .none] } } := I3.kept (t' := s3.toks) fun b ob q => Heap.get?_push_of_some _ q
  obtain ⟨T, id, hT, ht, hg⟩ := hr pins { s3 with heap := s3.heap.push { cls := .type "slice", data := .fields #[vl, vu, .none] } } σ H3 x v vl vu l u s3.heap.objs.size Q I4 r1 (Heap.IsSliceOf.new ..) pl pu q3
  show wpAny (model X.prog X.w) X.A (subscriptTail e (.Slice lo hi none p2) v (.ref s3.heap.objs.size)) (EP X pins σ Q) X.xe { s3 with heap := s3.heap.push { cls := .type "slice", data := .fields #[vl, vu, .none] } }
  exact tail_any (ops := [.ref s3.heap.objs.size, v]) ht hT hg (by with_unfolding_all rfl)
def cutV (xs : List V) (lo hi : Option Int) : List V := (xs.drop (HT.sIx xs.length 0 lo)).take (HT.sIx xs.length xs.length hi - HT.sIx xs.length 0 lo)
theorem cutV_length (xs : List V) (lo hi : Option Int) : (cutV xs lo hi).length ≤ xs.length := by
  unfold cutV
  rw [List.length_take, List.length_drop]
  omega
def rSlT (K : PySem.W.Frag) : V->Option Int->Option Int->Hp->VK->Prop := fun x lo hi H Q => ∃ a xs, x = .ref a /\ SqT K H a xs ∧
  ¬ (HT.sIx xs.length 0 lo = 0 /\ HT.sIx xs.length xs.length hi = xs.length) /\ ∀ p, H p = none->Q (.ref p) (upd H p (.tup (cutV xs lo hi)))
theorem sl_tup : SlR X (rSlT X.K) := by
  intro pins s σ H x v vl vu lo hi sl Q I rx hs pl pu h
  obtain ⟨a, xs, rfl, hx, hw, q⟩ := h
  cases rx
  obtain ⟨its, r, ht, hz⟩ := I.tuple hx
  have hlen : its.toArray.size = xs.length := by rw [List.size_toArray]; exact r.length.symm
  refine ⟨"tuple", _, PyProof.Rows.slot_tuple_getitem.lookup, ht.typeIs, ?_⟩
  refine HT.getItem_tuple_cut ht hs pl pu (by rw [hlen]; exact hw) ?_ (by rw [hlen]; exact hz)
  rw [hlen]
  refine ⟨.ref s.heap.objs.size, _, I.laid (t' := s.toks) (o := .tup (cutV xs lo hi)) (fun b ob q => Heap.get?_push_of_some _ q) (Nat.le_refl _) ?_, rfl, q _ (I.hok.fresh (Nat.le_refl _))⟩
  exact ⟨Nat.le_trans (cutV_length xs lo hi) hz, _, (r.drop (HT.sIx xs.length 0 lo)).take (HT.sIx xs.length xs.length hi - HT.sIx xs.length 0 lo), IsTup.new _ _⟩
def rLtT (K : PySem.W.Frag) : R2 := fun x y H Q => ∃ a b ns ms, x = .ref a /\ y = .ref b /\ SqT K H a (ns.map V.int) /\ SqT K H b (ms.map V.int) /\ Q (.bl (HT.lexLt ns ms)) H
theorem op_ltT (hu : X.A.units < cLine) : OpR X (compareOp .Lt) (rLtT X.K) := by
  intro pins s σ H x y v u Q I rx ry h
  obtain ⟨a, b, ns, ms, rfl, rfl, ha, hb, q⟩ := h
  cases rx
  cases ry
  obtain ⟨its, r1, p1, _⟩ := I.tuple ha
  obtain ⟨its2, r2, p2, _⟩ := I.tuple hb
  have i1 : IntsAre its.toArray.toList ns := intsAre_of r1
  have i2 : IntsAre its2.toArray.toList ms := intsAre_of r2
  exact HT.lt_tupInts p1 p2 i1 i2 hu ⟨.bl (HT.lexLt ns ms), H, I, rfl, q⟩
def rCatT (K : PySem.W.Frag) : R2 := fun x y H Q => ∃ a b xs ys, x = .ref a /\ y = .ref b /\ SqT K H a xs /\ SqT K H b ys /\ xs ≠ [] /\ xs.length + ys.length ≤ sizeLine ∧
  (ys = []->Q (.ref a) H) /\ (ys ≠ []->∀ p, H p = none->Q (.ref p) (upd H p (.tup (xs ++ ys))))
theorem Vals.nil_iff {xs : List V} {us : List Value} (r : Vals xs us) : us = [] ↔ xs = [] := by
  cases r with
  | nil => simp
  | cons _ _ => simp
theorem op_catT : OpR X (binaryOp .Add) (rCatT X.K) := by
  intro pins s σ H x y v u Q I rx ry h
  obtain ⟨a, b, xs, ys, rfl, rfl, ha, hb, hx, hz, q1, q2⟩ := h
  cases rx
  cases ry
  obtain ⟨its, r1, p1, _⟩ := I.tuple ha
  obtain ⟨its2, r2, p2, _⟩ := I.tuple hb
  refine HT.cat_tup p1 p2 (fun z => hx (r1.nil_iff.mp z)) (fun z => ⟨.ref a, H, I, rfl, q1 (r2.nil_iff.mp z)⟩) (fun z => ?_) (by rw [← r1.length, ← r2.length]; exact hz)
  refine ⟨.ref s.heap.objs.size, _, I.laid (t' := s.toks) (o := .tup (xs ++ ys)) (fun b ob q => Heap.get?_push_of_some _ q) (Nat.le_refl _) ?_, rfl, q2 (fun w => z (r2.nil_iff.mpr w)) _ (I.hok.fresh (Nat.le_refl _))⟩
  exact ⟨by rw [List.length_append]; exact hz, _, r1.append r2, IsTup.new _ _⟩
end
open PySem PySem.Spec PyProof.Rows
def ixN (n : Nat) (i : Int) : Option Nat := if 0 ≤ i then (if i < n then some i.toNat else none) else if -(n : Int) ≤ i then some (i + n).toNat else none
def atI {α : Type} (xs : List α) (i : Int) : Option α := (ixN xs.length i).bind fun j => xs[j]?
theorem ixN_seq {n : Nat} {i : Int} {j : Nat} (h : ixN n i = some j) : seqIndex? i n = some j /\ j < n /\ -(n : Int) ≤ i /\ i < n := by
  unfold ixN at h
  by_cases h0 : 0 ≤ i
  · rw [if_pos h0] at h
    by_cases h1 : i < n
    · rw [if_pos h1] at h
      have e : i.toNat = j := Option.some.inj h
      exact ⟨by rw [seqIndex_of h0 h1, e], by omega, by omega, h1⟩
    · rw [if_neg h1] at h; cases h
  · rw [if_neg h0] at h
    by_cases h1 : -(n : Int) ≤ i
    · rw [if_pos h1] at h
      have e : (i + n).toNat = j := Option.some.inj h
      exact ⟨by rw [seqIndex_neg (by omega) h1, e], by omega, h1, by omega⟩
    · rw [if_neg h1] at h; cases h
theorem atI_get {α : Type} {xs : List α} {i : Int} {v : α} (h : atI xs i = some v) : ∃ j, seqIndex? i xs.length = some j /\ xs[j]? = some v /\ j < xs.length /\ -(xs.length : Int) ≤ i /\ i < xs.length := by
  unfold atI at h
  cases e : ixN xs.length i with
  | none => rw [e] at h; cases h
  | some j =>
    rw [e] at h
    obtain ⟨h1, h2, h3, h4⟩ := ixN_seq e
    exact ⟨j, h1, h, h2, h3, h4⟩
theorem atI_nat {α : Type} {xs : List α} {j : Nat} {v : α} (h : xs[j]? = some v) : atI xs (j : Int) = some v := by
  have hj : j < xs.length := (List.getElem?_eq_some_iff.mp h).1
  have e : ixN xs.length (j : Int) = some j := by
    unfold ixN
    rw [if_pos (by omega), if_pos (by omega)]; simp
  unfold atI; rw [e]; exact h
theorem atI_last {α : Type} (xs : List α) (v : α) : atI (xs ++ [v]) (-1) = some v := by
  have hl : (xs ++ [v]).length = xs.length + 1 := by simp
  have e : ixN (xs ++ [v]).length (-1) = some xs.length := by
    unfold ixN
    rw [hl, if_neg (by decide), if_pos (by omega)]
    congr 1
    omega
  unfold atI
  rw [e]
  show (xs ++ [v])[xs.length]? = some v
  simp
def PlainIx (b : Expr) : Prop := ∀ o i, subscripted b false o i = operate [o, i] (getItem o i)
def IxR (X : Cx) (r : R2) : Prop :=
  ∀ (value slice : Expr) (pins : List (Addr × Obj)) (s : Shared) (σ : St) (H : Hp) (x y : V) (v u : Value) (Q : VK), Inv X pins σ H s->RelV x v->RelV y u->r x y H Q →
    subscripted slice false v u = operate [v, u] (getItem v u)->wpAny (model X.prog X.w) X.A (subscriptTail value slice v u) (EP X pins σ Q) X.xe s
def MtR (X : Cx) (id : String) (r : V->List V->Hp->VK->Prop) : Prop :=
  ∀ (pins : List (Addr × Obj)) (s : Shared) (σ : St) (H : Hp) (x : V) (xs : List V) (v : Value) (us : List Value) (Q : VK), Inv X pins σ H s->RelV x v->Vals xs us->r x xs H Q →
    wpAny (model X.prog X.w) X.A (call (.builtin id) (v :: us)) (EP X pins σ Q) X.xe s
section
variable {X : Cx} {a b : Expr} {ta tb : TE} {pos : Pos}
theorem pe_ix {r : R2} (hr : IxR X r) (ha : PE X a ta) (hb : PE X b tb) (hs : PlainIx b) : PE X (.Subscript a b pos) (tOp r ta tb) := by
  intro pins s σ H Q I h
  exact Subscript_ (binT ha hb I h fun v u s2 x y H2 I2 rx ry q => hr a b pins s2 σ H2 x y v u Q I2 rx ry q (hs _ _))
def rIxL (K : PySem.W.Frag) : R2 := fun x y H Q => ∃ p xs i v, x = .ref p /\ y = .int i /\ SqL K H p xs /\ atI xs i = some v /\ Q v H
def rIxT (K : PySem.W.Frag) : R2 := fun x y H Q => ∃ p xs i v, x = .ref p /\ y = .int i /\ SqT K H p xs /\ atI xs i = some v /\ Q v H
theorem ix_list : IxR X (rIxL X.K) := by
  intro value slice pins s σ H x y v u Q I rx ry h hs
  obtain ⟨p, xs, i, z, rfl, rfl, hq, he, q⟩ := h
  cases rx
  obtain ⟨t, rfl⟩ := ry
  obtain ⟨its, r, pl, hz⟩ := I.list hq
  obtain ⟨j, h1, h2, h3, h4, h5⟩ := atI_get he
  obtain ⟨w, ew, rw'⟩ := r.get h2
  have hl := r.length
  have hn := line63
  have fin : EP X pins σ Q w s := ⟨z, H, I, rw', q⟩
  by_cases h0 : 0 ≤ i
  · have hj : i.toNat = j := by
      rw [seqIndex_of h0 h5] at h1
      exact Option.some.inj h1
    exact item_listR pl.isList h0 (by omega) (by rw [hj]; simpa using ew) fin hs
  · have hj : (i + (its.toArray.size : Int)).toNat = j := by
      rw [seqIndex_neg (by omega) h4] at h1
      rw [List.size_toArray, ← hl]
      exact Option.some.inj h1
    exact subscriptTail_builtinR (x := w) pl.isList.typeIs slot_list_getitem.lookup
      (wpAny_getItem_list_neg (Q := fun r s' => r = w /\ EP X pins σ Q r s') pl.isList (by omega) (by rw [List.size_toArray] <;> omega) (by omega) (by rw [hj]; simpa using ew) ⟨rfl, fin⟩) hs
theorem ix_tup : IxR X (rIxT X.K) := by
  intro value slice pins s σ H x y v u Q I rx ry h hs
  obtain ⟨p, xs, i, z, rfl, rfl, hq, he, q⟩ := h
  cases rx
  obtain ⟨t, rfl⟩ := ry
  obtain ⟨its, r, pl, hz⟩ := I.tuple hq
  obtain ⟨j, h1, h2, h3, h4, h5⟩ := atI_get he
  obtain ⟨w, ew, rw'⟩ := r.get h2
  have hl := r.length
  have hn := line63
  have fin : EP X pins σ Q w s := ⟨z, H, I, rw', q⟩
  exact subscriptTail_builtinR (x := w) pl.typeIs slot_tuple_getitem.lookup
    (getItem_tuple (j := j) (Q := fun r s' => r = w /\ EP X pins σ Q r s') pl (by omega) (by omega) (by rw [List.size_toArray, ← hl]; exact h1) (by simpa using ew) ⟨rfl, fin⟩) hs
theorem mapSeq_set (its : List Value) (n j : Nat) (u : Value) : Obj.mapSeq (·.setIfInBounds j u) { cls := .type "list", data := .seq its.toArray n } = { cls := .type "list", data := .seq (its.set j u).toArray n } := by
  simp [Obj.mapSeq]
theorem Inv.lst {pins : List (Addr × Obj)} {σ : St} {H : Hp} {s : Shared} {p : Addr} {xs : List V} (I : Inv X pins σ H s) (h : H p = some (.lst xs)) :
    ∃ (its : List Value) (n : Nat), Vals xs its /\ s.heap.get? p = some { cls := .type "list", data := .seq its.toArray n } /\ xs.length ≤ sizeLine := by
  obtain ⟨z, its, n, r, e⟩ := I.hok p _ h
  exact ⟨its, n, r, e, z⟩
theorem Inv.lstUpd {pins : List (Addr × Obj)} {σ : St} {H : Hp} {s : Shared} {p : Addr} {xs ys : List V} {its its' : List Value} {n n' : Nat} {f : Obj->Obj} (I : Inv X pins σ H s) (h : H p = some (.lst xs))
    (ho : s.heap.get? p = some { cls := .type "list", data := .seq its.toArray n }) (hf : f { cls := .type "list", data := .seq its.toArray n } = { cls := .type "list", data := .seq its'.toArray n' }) (r : Vals ys its') (hz : ys.length ≤ sizeLine) (t : Nat) :
    Inv X pins σ (upd H p (.lst ys)) { s with heap := s.heap.update p f, toks := t } := by
  have e : (s.heap.update p f).get? p = some { cls := .type "list", data := .seq its'.toArray n' } := by
    rw [Heap.get?_update_self f ho (by rw [hf] <;> rfl), hf]
  refine I.write (x := p) (e := p) (by rw [h]; trivial) (.inl rfl) (fun b u hb q => (Heap.get?_update_other _ _ (Ne.symm hb)).trans q) ⟨_, e⟩ ?_
  exact ⟨hz, its', n', r, e⟩
def rSetL : V->V->V->Hp->(Hp->Prop)->Prop := fun o i v H Q => ∃ p xs k j, o = .ref p /\ i = .int k /\ H p = some (.lst xs) /\ ixN xs.length k = some j /\ Q (upd H p (.lst (xs.set j v)))
theorem set_list : PSet X rSetL := by
  intro pins s σ H o i v ov iv u Q I ro ri rv h
  obtain ⟨p, xs, k, j, rfl, rfl, hp, hj, q⟩ := h
  cases ro
  obtain ⟨t, rfl⟩ := ri
  obtain ⟨its, n, r, ho, hz⟩ := I.lst hp
  obtain ⟨h1, h2, h3, h4⟩ := ixN_seq hj
  have hl := r.length
  have hn := line63
  have I' : Inv X pins σ (upd H p (.lst (xs.set j v))) { s with heap := s.heap.update p (Obj.mapSeq (·.setIfInBounds j u)) } :=
    I.lstUpd hp ho (mapSeq_set its n j u) (r.set rv j) (by rw [List.length_set]; exact hz) s.toks
  by_cases h0 : 0 ≤ k
  · have hk : k.toNat = j := by
      rw [seqIndex_of h0 h4] at h1
      exact Option.some.inj h1
    exact PySem.W.ki_setAt ho h0 (by omega) (by rw [List.size_toArray, ← hl]; exact h4) (by rw [hk]; exact ⟨_, I', q⟩)
  · have hk : (k + (its.toArray.size : Int)).toNat = j := by
      rw [seqIndex_neg (by omega) h3] at h1
      rw [List.size_toArray, ← hl]
      exact Option.some.inj h1
    exact PySem.W.ki_setBack ho (by omega) (by rw [List.size_toArray, ← hl]; exact h3) (by omega) (by rw [hk]; exact ⟨_, I', q⟩)
theorem slice_bounds (lo hi : Option Int) (n : Nat) : (sliceBounds lo hi none n).1 = ((HT.sIx n 0 lo : Nat) : Int) /\ (sliceBounds lo hi none n).2.1 = ((HT.sIx n n hi : Nat) : Int) /\ (sliceBounds lo hi none n).2.2 = 1 := by
  refine ⟨?_, ?_, rfl⟩
  · cases lo with
    | none => simp [sliceBounds, HT.sIx]
    | some i =>
      simp only [sliceBounds, HT.sIx, Option.getD_none, show (1 : Int) > 0 by decide, if_true]
      by_cases h : i < 0
      · simp only [h, if_true] <;> omega
      · simp only [h, if_false] <;> omega
  · cases hi with
    | none => simp [sliceBounds, HT.sIx]
    | some i =>
      simp only [sliceBounds, HT.sIx, Option.getD_none, show (1 : Int) > 0 by decide, if_true]
      by_cases h : i < 0
      · simp only [h, if_true] <;> omega
      · simp only [h, if_false] <;> omega
theorem slicePick_cut (its : List Value) (lo hi : Option Int) : slicePick its.toArray lo hi none = ((its.drop (HT.sIx its.length 0 lo)).take (HT.sIx its.length its.length hi - HT.sIx its.length 0 lo)).toArray := by
  obtain ⟨h1, h2, h3⟩ := slice_bounds lo hi its.toArray.size
  unfold slicePick
  rw [h1, h2, h3]
  simp only [sliceRange_one, pick_run, List.size_toArray] <;> rfl
def rSlL (K : PySem.W.Frag) : V->Option Int->Option Int->Hp->VK->Prop := fun x lo hi H Q => ∃ a xs, x = .ref a /\ SqL K H a xs /\ ∀ p, H p = none->Q (.ref p) (upd H p (.lst (cutV xs lo hi)))
theorem sl_list : SlR X (rSlL X.K) := by
  intro pins s σ H x v vl vu lo hi sl Q I rx hs pl pu h
  obtain ⟨a, xs, rfl, hx, q⟩ := h
  cases rx
  obtain ⟨its, r, ht, hz⟩ := I.list hx
  have hlen := r.length
  refine ⟨"list", _, slot_list_getitem.lookup, ht.isList.typeIs, ?_⟩
  refine wpAny_getItem_list_slice ht.isList hs pl pu .none (by simp) ?_ (by rw [List.size_toArray] <;> omega)
  rw [slicePick_cut, ← hlen]
  refine ⟨.ref s.heap.objs.size, _, I.laid (t' := s.toks) (o := .lst (cutV xs lo hi)) (fun b ob q => Heap.get?_push_of_some _ q) (Nat.le_refl _) ?_, rfl, q _ (I.hok.fresh (Nat.le_refl _))⟩
  exact ⟨Nat.le_trans (cutV_length xs lo hi) hz, _, 0, (r.drop (HT.sIx xs.length 0 lo)).take (HT.sIx xs.length xs.length hi - HT.sIx xs.length 0 lo), Heap.get?_push_size _ rfl⟩
def flatV : V->Bool
  | .non => true
  | .bl _ => true
  | .int _ => true
  | .str _ => true
  | _ => false
def eqV : V->V->Bool
  | .non, .non => true
  | .bl a, .bl b => a == b
  | .bl a, .int b => (if a then 1 else 0) == b
  | .int a, .bl b => a == (if b then 1 else 0)
  | .int a, .int b => a == b
  | .str a, .str b => a == b
  | _, _ => false
theorem eqAt_V {A : Around} {s : Shared} {y x : V} {u v : Value} (ry : RelV y u) (rx : RelV x v) (fy : flatV y = true) (fx : flatV x = true) : SeqAt.EqAt A s u v (eqV y x) := by
  cases y with
  | non =>
    cases ry
    cases x with
    | non => cases rx; exact SeqAt.EqAt.same _
    | bl b => cases rx; exact SeqAt.EqAt.none_bool b
    | int b => obtain ⟨t, rfl⟩ := rx; exact SeqAt.EqAt.none_int b t
    | str b => obtain ⟨t, rfl⟩ := rx; exact SeqAt.EqAt.none_str b t
    | _ => exact absurd (show false = true from fx) Bool.false_ne_true
  | bl a =>
    cases ry
    cases x with
    | non => cases rx; exact SeqAt.EqAt.bool_none a
    | bl b => cases rx; exact SeqAt.EqAt.bool_bool a b
    | int b => obtain ⟨t, rfl⟩ := rx; exact SeqAt.EqAt.bool_int a b t
    | str b => obtain ⟨t, rfl⟩ := rx; exact SeqAt.EqAt.bool_str a b t
    | _ => exact absurd (show false = true from fx) Bool.false_ne_true
  | int a =>
    obtain ⟨t', rfl⟩ := ry
    cases x with
    | non => cases rx; exact SeqAt.EqAt.int_none a t'
    | bl b => cases rx; exact SeqAt.EqAt.int_bool a t' b
    | int b => obtain ⟨t, rfl⟩ := rx; exact SeqAt.EqAt.int_int a t' b t
    | str b => obtain ⟨t, rfl⟩ := rx; exact SeqAt.EqAt.int_str a t' b t
    | _ => exact absurd (show false = true from fx) Bool.false_ne_true
  | str a =>
    obtain ⟨t', rfl⟩ := ry
    cases x with
    | non => cases rx; exact SeqAt.EqAt.str_none a t'
    | bl b => cases rx; exact SeqAt.EqAt.str_bool a t' b
    | int b => obtain ⟨t, rfl⟩ := rx; exact SeqAt.EqAt.str_int a t' b t
    | str b => obtain ⟨t, rfl⟩ := rx; exact SeqAt.EqAt.str_str a t' b t
    | _ => exact absurd (show false = true from fx) Bool.false_ne_true
  | _ => exact absurd (show false = true from fy) Bool.false_ne_true
theorem call_len_seq : CallR X (.builtin "len") (fun xs H Q => ∃ p ys, xs = [.ref p] /\ (SqL X.K H p ys ∨ SqT X.K H p ys) /\ Q (.int ys.length) H) := by
  intro pins s σ H xs us Q I r h
  obtain ⟨p, ys, rfl, hq, q⟩ := h
  obtain ⟨u, rfl, rx⟩ := vals1 r
  cases rx
  have hn := line63
  rcases hq with hq | hq
  · obtain ⟨its, r', pl, hz⟩ := I.list hq
    have hlen := r'.length
    exact Calls.call_len_list pl.isList (by simp only [List.size_toArray] <;> omega) ⟨.int ys.length, H, I.tok _, ⟨s.toks + 1, by rw [List.size_toArray, hlen]⟩, q⟩
  · obtain ⟨its, r', pl, hz⟩ := I.tuple hq
    have hlen := r'.length
    exact len_tuple pl (by simp only [List.size_toArray] <;> omega) ⟨.int ys.length, H, I.tok _, ⟨s.toks + 1, by rw [List.size_toArray, hlen]⟩, q⟩
theorem call_list_of : CallR X (.type "list") (fun xs H Q => ∃ p ys, xs = [.ref p] /\ (SqL X.K H p ys ∨ SqT X.K H p ys) /\ ∀ l, H l = none->Q (.ref l) (upd H l (.lst ys))) := by
  intro pins s σ H xs us Q I r h
  obtain ⟨p, ys, rfl, hq, q⟩ := h
  obtain ⟨u, rfl, rx⟩ := vals1 r
  cases rx
  have fin : ∀ (its : List Value), Vals ys its->ys.length ≤ sizeLine->∀ (h' : Heap) (c' : Nat), (∀ b o', s.heap.get? b = some o'->h'.get? b = some o') →
      h'.get? s.heap.objs.size = some { cls := .type "list", dict := none, data := .seq its.toArray c', slots := #[] }->EP X pins σ Q (.ref s.heap.objs.size) { s with heap := h' } := fun its r' hz h' c' kp e =>
    ⟨.ref s.heap.objs.size, _, I.laid (t' := s.toks) kp (Nat.le_refl _) (show ObjOk X.prog X.w _ h' _ (.lst ys) from ⟨hz, its, c', r', e⟩), rfl, q _ (I.hok.fresh (Nat.le_refl _))⟩
  rcases hq with hq | hq
  · obtain ⟨its, r', pl, hz⟩ := I.list hq
    have hlen := r'.length
    obtain ⟨o, ho, hc, n, hd⟩ := pl.isList
    exact call_list_seq p (.inl rfl) ho hc hd (fun h' c' kp e => fin its r' hz h' c' kp e) (by simp only [List.size_toArray] <;> omega)
  · obtain ⟨its, r', pl, hz⟩ := I.tuple hq
    have hlen := r'.length
    obtain ⟨o, ho, hc, n, hd⟩ := pl
    exact call_list_seq p (.inr rfl) ho hc hd (fun h' c' kp e => fin its r' hz h' c' kp e) (by simp only [List.size_toArray] <;> omega)
def tyV (K : PySem.W.Frag) (T : String) (x : V) (H : Hp) : Prop := match x with
  | .str _ => T = "str"
  | .int _ => T = "int"
  | .ref p => (T = "list" /\ ∃ xs, SqL K H p xs) ∨ (T = "tuple" /\ ∃ o, K.lookup p = some o /\ o.cls = .type "tuple" /\ o.dict = none) ∨
      (T = "dict" /\ ((∃ kvs, H p = some (.dK kvs)) ∨ ∃ kvs, H p = some (.dT kvs))) ∨ (T = "set" /\ ∃ S n, H p = some (.set S n))
  | _ => False
theorem tyV_is {pins : List (Addr × Obj)} {σ : St} {H : Hp} {s : Shared} {T : String} {x : V} {v : Value} (I : Inv X pins σ H s) (r : RelV x v) (ty : tyV X.K T x H) :
    s.TypeIs v T /\ ∀ a, v = .ref a->∃ ob, s.heap.get? a = some ob /\ ob.dict = none := by
  cases x with
  | str z =>
    obtain ⟨t, rfl⟩ := r
    cases (show T = "str" from ty)
    exact ⟨typeIs_str s z t, fun _ e => nomatch e⟩
  | int i =>
    obtain ⟨t, rfl⟩ := r
    cases (show T = "int" from ty)
    exact ⟨typeIs_int s i t, fun _ e => nomatch e⟩
  | ref p =>
    cases r
    rcases ty with ⟨rfl, xs, hq⟩ | ⟨rfl, o, hk, hc, hd⟩ | ⟨rfl, hk⟩ | ⟨rfl, S, n, hk⟩
    · obtain ⟨its, _, pl, _⟩ := I.list hq
      refine ⟨pl.isList.typeIs, fun a e => ?_⟩
      cases e
      obtain ⟨o, n, e, c, hd, _⟩ := pl
      exact ⟨o, e, hd⟩
    · refine ⟨⟨o, I.kIn p o hk, hc⟩, fun a e => ?_⟩
      cases e
      exact ⟨o, I.kIn _ o hk, hd⟩
    · have z : ∃ o, s.heap.get? p = some o /\ o.ExactDict := by
        rcases hk with ⟨kvs, hk⟩ | ⟨kvs, hk⟩
        · obtain ⟨_, _, _, _, o, _, _, e, ex, _⟩ := I.hok p _ hk
          exact ⟨o, e, ex⟩
        · obtain ⟨_, _, _, _, o, _, _, e, ex, _⟩ := I.hok p _ hk
          exact ⟨o, e, ex⟩
      obtain ⟨o, e, ex⟩ := z
      refine ⟨⟨o, e, ex.1⟩, fun a e2 => ?_⟩
      cases e2
      exact ⟨o, e, ex.2.1⟩
    · obtain ⟨o, _, _, _, e, ex, _⟩ := I.hok p _ hk
      refine ⟨⟨o, e, ex.1⟩, fun a e2 => ?_⟩
      cases e2
      exact ⟨o, e, ex.2.1⟩
  | _ => exact False.elim ty
def tBM (K : PySem.W.Frag) (T : String) (r : V->List V->Hp->VK->Prop) (to : TE) (t : TA) : TE := fun σ H Q => to σ H fun x H1 => tyV K T x H1 /\ t σ H1 fun xs H2 => r x xs H2 Q
variable {o e : Expr} {es : List Expr} {to : TE} {t : TA} {name : Str} {apos cpos : Pos} {T id : String} {r : V->List V->Hp->VK->Prop}
theorem pe_bm (pa : PlainAttrs T) (slot : Slot T name id) (hty : typeOf (.builtin id) = pure (.type "method_descriptor")) (hm : MtR X id r) (ho : PE X o to) (ha : PA X (e :: es) t)
    (hbase : attributeBase o name X.env (eval o X.env) = eval o X.env := by rfl)
    (hfew : ((backTo cpos (starEach (e :: es) X.env)).all (fun x => !x.1) && (backToKw cpos (keywordEach [] X.env)).all (fun x => x.1.isSome)
      && decide ((e :: es).length + ([] : List Keyword).length + (if ([] : List Keyword).isEmpty then 0 else 1) < 30)) = true := by rfl)
    (hline : (apos.endLine == cpos.line) = true := by rfl) (hs : starEach (e :: es) X.env = (false, eval e X.env) :: starEach es X.env := by rfl) (hplain : (backTo cpos (starEach es X.env)).any (·.1) = false := by rfl) :
    PE X (.Call (.Attribute o name apos) (e :: es) [] cpos) (tBM X.K T r to t) := by
  intro pins s σ H Q I h
  refine wpAny_Call_method_late hbase hfew hline rfl (thn (ho pins s σ H _ I h) fun v s1 ⟨x, H1, I1, r1, ty, q1⟩ => ?_)
  obtain ⟨h1, h2⟩ := tyV_is I1 r1 ty
  refine ⟨T, id, pa, slot, hty, h1, h2, ?_⟩
  have hA := ha cpos pins s1 σ H1 _ I1 q1
  rw [hs] at hA ⊢
  refine Calls.callWith_builtin (by show (false || (backTo cpos (starEach es X.env)).any (·.1)) = false; rw [hplain] <;> rfl) (Calls.evalArgs_plain ?_)
  exact thn hA fun us s2 ⟨vs, H2, I2, r2, q2⟩ => hm pins s2 σ H2 x vs v us Q I2 r1 r2 q2
/- xs.append(e), list.index on a module's tuple .. are MtR facts of 06m -/
end
open PySem PySem.Spec PyProof.Rows
def MtM (X : Cx) (id : String) (r : V->List V->Hp->VK->Prop) : Prop :=
  ∀ (pins : List (Addr × Obj)) (s : Shared) (σ : St) (H : Hp) (x : V) (xs : List V) (v : Value) (us : List Value) (Q : VK), Inv X pins σ H s->RelV x v->Vals xs us->r x xs H Q →
    wpAny (model X.prog X.w) X.A (call (.builtin id) (v :: us)) (EP X pins σ Q) X.xe s
theorem Vals.one : ∀ {x : V} {us : List Value}, Vals [x] us->∃ u, us = [u] /\ RelV x u
  | _, _, .cons r .nil => ⟨_, rfl, r⟩
theorem Vals.reverse {xs : List V} {us : List Value} (h : Vals xs us) : Vals xs.reverse us.reverse := by
  induction h with
  | nil => exact .nil
  | cons r t ih => rw [List.reverse_cons, List.reverse_cons]; exact Vals.append ih (.cons r .nil)
section
variable {X : Cx} {pins : List (Addr × Obj)} {σ : St} {H : Hp} {s : Shared} {l b : Addr} {xs ys zs : List V}
theorem Inv.lset {its its' : List Value} {n : Nat} {f : Array Value->Array Value} {t' : Nat} (I : Inv X pins σ H s) (hH : H l = some (.lst xs))
    (e : s.heap.get? l = some { cls := .type "list", data := .seq its.toArray n }) (hf : f its.toArray = its'.toArray) (hv : Vals ys its') (hz : ys.length ≤ sizeLine) :
    Inv X pins σ (upd H l (.lst ys)) { s with heap := s.heap.update l (Obj.mapSeq f), toks := t' } := by
  have q := PySem.IsL.update e f
  rw [hf] at q
  refine I.write (x := l) (e := l) (by rw [hH]; exact trivial) (.inl rfl) (fun b' u hb hu => (Heap.get?_update_other s.heap (Obj.mapSeq f) (Ne.symm hb)).trans hu) ⟨_, q⟩ ?_
  exact ⟨hz, its', _, hv, q⟩
theorem Inv.lnew {its : List Value} {t' : Nat} (I : Inv X pins σ H s) (hv : Vals ys its) (hz : ys.length ≤ sizeLine) :
    Inv X pins σ (upd H s.heap.objs.size (.lst ys)) { s with heap := s.heap.push { cls := .type "list", data := .seq its.toArray }, toks := t' } :=
  I.laid (fun _ _ q => Heap.get?_push_of_some _ q) (Nat.le_refl _) ⟨hz, its, 0, hv, Heap.get?_push_size _ rfl⟩
theorem Inv.fresh (I : Inv X pins σ H s) : H s.heap.objs.size = none := I.hok.fresh (Nat.le_refl _)
theorem Inv.lstM (I : Inv X pins σ H s) (hH : H l = some (.lst xs)) : xs.length ≤ sizeLine /\ ∃ (its : List Value) (n : Nat), Vals xs its /\ xs.length = its.length /\ s.heap.get? l = some { cls := .type "list", data := .seq its.toArray n } := by
  obtain ⟨z, its, n, r, e⟩ := I.hok l _ hH
  exact ⟨z, its, n, r, r.length, e⟩
end
section
variable {X : Cx}
def rAppend : V->List V->Hp->VK->Prop := fun x vs H Q => ∃ l xs y, x = .ref l /\ vs = [y] /\ H l = some (.lst xs) /\ xs.length < sizeLine /\ Q .non (upd H l (.lst (xs ++ [y])))
theorem mt_append : MtM X "list.append" rAppend := by
  intro pins s σ H x vs v us Q I rx rv h
  obtain ⟨l, xs, y, rfl, rfl, hH, hz, q⟩ := h
  cases rx
  obtain ⟨u, rfl, ru⟩ := rv.one
  obtain ⟨z, its, n, r, hl, e⟩ := I.lstM hH
  refine call_meets F.slot_list_append ⟨_, e, rfl⟩ F.entry_list_append (F.args_list_append_2 _ _) (PySem.list_append l its.toArray n u (by rw [List.size_toArray]; omega)) ⟨e, ?_⟩
  refine ⟨.non, _, I.lset (its' := its ++ [u]) hH e (by simp) (r.append (.cons ru .nil)) ?_, rfl, q⟩
  rw [List.length_append, List.length_singleton]
  omega
def rCat : R2 := fun x y H Q => ∃ l b xs zs, x = .ref l /\ y = .ref b /\ H l = some (.lst xs) /\ H b = some (.lst zs) /\ xs.length + zs.length ≤ sizeLine /\ ∀ p, H p = none->Q (.ref p) (upd H p (.lst (xs ++ zs)))
theorem op_cat : OpR X (binaryOp .Add) rCat := by
  intro pins s σ H x y v u Q I rx ry h
  obtain ⟨l, b, xs, zs, rfl, rfl, hH, hB, hz, q⟩ := h
  cases rx
  cases ry
  obtain ⟨z, its, n, r, hl, e⟩ := I.lstM hH
  obtain ⟨z2, its2, n2, r2, hl2, e2⟩ := I.lstM hB
  refine PySem.P.add_list e e2 ?_ (by rw [List.size_toArray, List.size_toArray]; omega)
  have ea : its.toArray ++ its2.toArray = (its ++ its2).toArray := by simp
  rw [ea]
  exact ⟨.ref _, _, I.lnew (t' := s.toks) (r.append r2) (by rw [List.length_append]; omega), rfl, q _ I.fresh⟩
end
section
variable {prog : Program} {w : World} {A : Around} {E : Value->Shared->Prop} {s : Shared}
set_option maxRecDepth 100000 in
end
end L2
namespace Att
open PySem PySem.W PySem.Calls PyProof.Rows
theorem ints_of_wellAll {P : Params} {h : Heap} : ∀ (ns : List Int) (vs : List Value), WellAll P h vs (ns.map WData.int)->IntsAre vs ns := by
  intro ns
  induction ns with
  | nil =>
    intro vs w
    rw [List.map_nil] at w
    cases w
    exact .nil
  | cons n ns ih =>
    intro vs w
    rw [List.map_cons] at w
    cases w with
    | cons a b =>
      cases a
      exact .cons _ _ (ih _ b)
theorem script_of {l : OpenLaw} {n : Nat} (hn : l.most = some n) {P : Params} {h : Heap} {args : List WData} {vals : List Value}
    (hpre : l.row.toRowW.claim.pre args = true) (hwl : WellAll P h vals args) :
    ∃ a vs ns, vals = [Value.ref a] /\ args = [WData.list (ns.map WData.int)] /\ h.get? a = some { cls := .type "list", data := .seq vs.toArray } /\ IntsAre vs ns /\ ns.length ≤ n := by
  have hsh : WShape.hasAll [] args [.list .int] = true := (pre_splitW hpre).1
  have hc : l.pre.holds [] { args := args } = true := (pre_splitW hpre).2
  obtain ⟨d, r, rfl, h1, h2⟩ := hasAllW_cons hsh
  obtain rfl := hasAllW_nil h2
  obtain ⟨xs, rfl, h3⟩ := hasW_list h1
  obtain ⟨ns, rfl⟩ := items_int h3
  have hlen : ns.length ≤ n := by
    unfold OpenLaw.pre at hc
    have h4 : (WTm.not (.lt (.lit (.int (n : Int))) (.len (.arg 0)))).holds [] { args := [.list (ns.map .int)] } = true := by
      have h4 := (holds_andW hc).1
      rw [hn] at h4
      exact h4
    have h5 := condW_of h4 (w_not (w_lt w_lit (w_len_list (w_arg rfl))))
    rw [List.length_map] at h5
    refine Nat.le_of_not_lt fun q => ?_
    have q' : (n : Int) < ((ns.length : Nat) : Int) := by omega
    first
      | (rw [decide_eq_true q'] at h5; exact absurd h5 (by decide))
      | (simp at h5; omega)
  cases hwl with
  | cons w1 w2 =>
    cases w2
    cases w1 with
    | list ho hall => exact ⟨_, _, ns, rfl, rfl, ho, ints_of_wellAll ns _ hall, hlen⟩
theorem post_true (l : OpenLaw) (args : List WData) : l.row.toRowW.claim.post args (.bool true) args = true :=
  postW_of (r := l.row.toRowW) (X := (true == true))
    (show WShape.has [] (.bool true) .bool = true by first | rfl | decide | simp [WShape.has, WShape.arms, WShape.armsAll])
    (show (WTm.eq .res (.lit (.bool true))).value [] { args := args, res := some (.bool true), after := args } = some (.bool (true == true)) from w_eq_bool (w_res rfl) w_lit) rfl
theorem attach_call {l : OpenLaw} {n : Nat} {q : Program} {loose : List Str} {XP : (Str->Option Value)->Heap->Prop} {YP : World->Heap->Prop} {d : DefRec}
    (hn : l.most = some n) (hdf : d.params.defaults = [])
    (call : ∀ (w : World) (s₀ s₁ : Shared) (mg mb : Str->Option Value) (fa : Addr) (o : Obj) (pm cd doc : Value) (a : Addr) (vs : List Value) (ns : List Int),
      Ground q loose [] XP w s₀ mg mb s₁.heap->YP w s₁.heap →
      s₁.heap.get? fa = some o->o.data = .func (docDef d.name d.params d.body d.scope pm cd doc)->s₁.heap.CodeRec cd d.name->mg d.name = some (.ref fa) →
      s₁.heap.get? a = some { cls := .type "list", data := .seq vs.toArray }->IntsAre vs ns->ns.length ≤ n->s₁.gens = #[] →
      codeAny (model l.prog w) callerA (.call (.ref fa) ⟨[.ref a], []⟩) (fun r s' => r = .ok (.ret (.bool true)) /\ OldK s₁.heap s'.heap /\ s'.os = s₁.os /\ AllBare s'.gens) s₁) :
    WalkO q loose XP YP l.row.toRowW d [] (fun f vs => PySem.call f vs) := by
  intro w s₀ s₁ mg mb G Y fa o pm cd doc dV kV ho hd hcd hD hmg hg args vals as hpre hlay hrd hwl hlo
  obtain rfl : dV = .none := Dflts.none hD hdf
  obtain rfl : kV = .none := Dflts.noKw hD
  obtain ⟨a, vs, ns, rfl, rfl, hobj, hints, hlen⟩ := script_of hn hpre hwl
  refine enter_call (codeAny_mono (call w s₀ s₁ mg mb fa o pm cd doc a vs ns G Y ho (fd_plain hd) hcd hmg hobj hints hlen hg) fun r s' hq => ?_)
  obtain ⟨rfl, h2, h3, h4⟩ := hq
  exact ⟨.inl ⟨.bool true, .bool true, [], rfl, fun _ => rfl, .bool true, post_true l _, fun _ => ⟨List.Pairwise.nil, fun _ hm => (nomatch hm)⟩⟩, h2, h3, h4⟩
section
variable {prog : Program} {w : World} {A : Around} {E : Value->Shared->Prop} {s : Shared} {K : Frag}
def ledger (h : Heap) (L d : Addr) : List (Addr × Obj) := (List.range h.objs.size).filterMap fun a => if a = L ∨ a = d then none else (h.get? a).map fun o => (a, o)
end
end Att
namespace L2
open PySem PySem.Spec PyProof.Rows
theorem vals_ints : ∀ {vs : List Value} {ns : List Int}, IntsAre vs ns->Vals (ns.map V.int) vs
  | _, _, .nil => .nil
  | _, _, .cons n t h => .cons ⟨t, rfl⟩ (vals_ints h)
def Only (H : Hp) : Prop := ∀ b, H b = none ∨ ∃ o xs, H b = some (.frz o (.lst xs))
theorem law_call {P : Program} {w : World} {K : PySem.W.Frag} {mg mb : Str->Option Value} {CX : CXT} {k : Nat} {fa a : Addr} {fd : FuncData} {x : Str} {sp : Sp} {s₁ : Shared} {vs : List Value} {ns : List Int}
    (KX : K.In s₁.heap) (hns : s₁.heap.Ns mainGlobals mg) (hb : s₁.heap.Ns builtinsNs mb) (hbb : ∀ x : Str, x ≠ "__name__"->mb x = bootBuiltins x) (hlim : s₁.heap.NoLimit) (hg : s₁.gens = #[])
    (ha : s₁.heap.get? a = some { cls := .type "list", data := .seq vs.toArray }) (hi : IntsAre vs ns) (hl : ns.length ≤ sizeLine) (hr : Room k callerA)
    (F : ∀ base : Heap, K.In base->base.Ns mainGlobals mg->FnOk P w K mg base CX k fa fd [x] sp) (hbind : ∀ (s : Shared) (u : Value), BindsTo s fd ⟨[u], []⟩ [(x, u)])
    (hsp : ∀ H : Hp, Only H->SqL K H a (ns.map V.int)->sp [.ref a] H (fun v _ => v = .bl true) fun _ _ _ => False)
    (hCX : ∀ H e s', CX [] H s₁ (fun _ _ _ => False) e s'->False) :
    codeAny (model P w) callerA (.call (.ref fa) ⟨[.ref a], []⟩) (fun r s' => r = .ok (.ret (.bool true)) /\ OldK s₁.heap s'.heap /\ s'.os = s₁.os /\ AllBare s'.gens) s₁ := by
  have rv := vals_ints hi
  have lenV := hi.length
  have core : ∀ H : Hp, Only H->SqL K H a (ns.map V.int)->HOk P w H s₁.heap->(∀ b, H b ≠ none->b = a)->(H a ≠ none->K.lookup a = none) →
      codeAny (model P w) callerA (.call (.ref fa) ⟨[.ref a], []⟩) (fun r s' => r = .ok (.ret (.bool true)) /\ OldK s₁.heap s'.heap /\ s'.os = s₁.os /\ AllBare s'.gens) s₁ := by
    intro H hO hS hok hA hK
    have base_of : ∀ {b : Addr} {o : Obj}, s₁.heap.get? b = some o->H b = none->(hidT s₁.heap H).get? b = some o := fun e n => hidT_get e n
    have noA : ∀ {b : Addr} {o : Obj} {es : Array DictEntry} {ep : Nat}, s₁.heap.get? b = some o->o.data = .dict es ep->H b = none := fun {b o es ep} e d => by
      cases q : H b with
      | none => rfl
      | some u =>
        have e' : b = a := hA b (by rw [q]; simp)
        subst e'
        rw [ha] at e; cases e
        have d' : Data.seq vs.toArray _ = Data.dict es ep := d
        cases d'
    have nsK : ∀ {b : Addr} {m : Str->Option Value}, s₁.heap.Ns b m->(hidT s₁.heap H).Ns b m := fun {b m} ⟨o, es, ep, e, d, r⟩ => ⟨o, es, ep, base_of e (noA e d), d, r⟩
    have hKb : K.In (hidT s₁.heap H) := fun b o e => base_of (KX b o e) (by
      cases q : H b with
      | none => rfl
      | some u =>
        have e' : b = a := hA b (by rw [q]; simp)
        subst e'
        rw [hK (by rw [q]; simp)] at e; cases e)
    have hM : Mod K mg (hidT s₁.heap H) := ⟨hKb, nsK hns, ⟨mb, nsK hb, hbb⟩, let ⟨mc, h1, h2⟩ := hlim; ⟨mc, nsK h1, h2⟩⟩
    have e0 : Env0 P w K mg (hidT s₁.heap H) callerA [] s₁ H := ⟨rfl, hM, fun b o e => of_hidT e, Nat.le_of_eq (hidT_size _ _), trivial, fun b hb => absurd (show b ∈ ([] : List Addr) from hb) (by simp), hok, .of_eq hg⟩
    refine codeAny_mono ((F _ hKb (nsK hns)).run callerA [] s₁ H ⟨[.ref a], []⟩ [.ref a] [.ref a] _ _ hr e0 (hbind s₁ (.ref a)) (.cons rfl .nil) (hsp H hO hS)) fun r s' h => ?_
    cases r with
    | error e => exact (hCX H e s' h).elim
    | ok fl =>
      cases fl with
      | next => exact False.elim h
      | brk => exact False.elim h
      | cont => exact False.elim h
      | ret u =>
        obtain ⟨v, H', os, bare, un, hok', r', q⟩ := h
        have q' : v = .bl true := q
        subst q'
        obtain rfl : u = Value.bool true := r'
        refine ⟨rfl, OldK.of_keep fun b o e => ?_, os, bare⟩
        cases q : H b with
        | none => exact un.keep b o e q (by intro z; exact absurd (show b ∈ ([] : List Addr) from z) (by simp)) (by simp)
        | some u =>
          rcases hO b with z | ⟨ob, xs, z⟩
          · rw [q] at z; cases z
          · have z2 := un.frzs b ob _ z
            obtain ⟨e1, _⟩ := hok b _ z
            obtain ⟨e2, _⟩ := hok' b _ z2
            rw [e] at e1; cases e1
            exact e2
  cases hk : K.lookup a with
  | some o =>
    have e := KX a o hk
    rw [ha] at e
    cases e
    refine core (fun _ => none) (fun _ => .inl rfl) (.inr ⟨_, vs.toArray, _, hk, rfl, rfl, rfl, by rw [List.size_toArray, lenV]; exact hl, by simpa using rv⟩) (fun b u z => by have z' : (none : Option HO) = some u := z; cases z') (fun b z => absurd rfl z) fun z => absurd rfl z
  | none =>
    refine core (fun b => if b = a then some (.frz { cls := .type "list", data := .seq vs.toArray } (.lst (ns.map V.int))) else none) (fun b => ?_) (.inl (.inr ⟨{ cls := .type "list", data := .seq vs.toArray }, if_pos rfl⟩)) (fun b u z => ?_) (fun b z => ?_) fun _ => hk
    · by_cases hb : b = a
      · exact .inr ⟨_, _, if_pos hb⟩
      · exact .inl (if_neg hb)
    · by_cases hb : b = a
      · have z' := (if_pos hb).symm.trans z
        cases z'
        subst hb
        exact ⟨ha, by rw [List.length_map]; exact hl, vs, _, rv, ha⟩
      · have z' := (if_neg hb).symm.trans z
        cases z'
    · by_cases hb : b = a
      · exact hb
      · exact absurd (if_neg hb) z
open PySem PySem.Spec PyProof.Rows
abbrev KOf {K : PySem.W.Frag} {h : Heap} (_ : K.In h) : PySem.W.Frag := K
theorem walk_of {l : PySem.W.OpenLaw} {n k : Nat} {q : Program} {loose : List Str} {XP : (Str->Option Value)->Heap->Prop} {YP : World->Heap->Prop} {d : DefRec} {K : Params->PySem.W.Frag} {CX : World->CXT} {sp : World->Sp} {x : Str}
    (hn : l.most = some n) (hn2 : n ≤ sizeLine) (hdf : d.params.defaults = []) (hr : Room k callerA)
    (hY : ∀ (w : World) (h : Heap), YP w h->(K w.params).In h)
    (F : ∀ (w : World) (mg : Str->Option Value) (fa : Addr) (h : Heap), (K w.params).In h->h.Ns mainGlobals mg->mg d.name = some (.ref fa) →
      ∃ fd : FuncData, (∀ (s : Shared) (u : Value), BindsTo s fd ⟨[u], []⟩ [(x, u)]) ∧
        ∀ base : Heap, (K w.params).In base->base.Ns mainGlobals mg->FnOk l.prog w (K w.params) mg base (CX w) k fa fd [x] (sp w))
    (hsp : ∀ (w : World) (H : Hp) (a : Addr) (ns : List Int), ns.length ≤ n->Only H->SqL (K w.params) H a (ns.map V.int)->sp w [.ref a] H (fun v _ => v = .bl true) fun _ _ _ => False)
    (hCX : ∀ (w : World) (H : Hp) (s : Shared) (e : Value) (s' : Shared), CX w [] H s (fun _ _ _ => False) e s'->False) :
    PySem.W.WalkO q loose XP YP l.row.toRowW d [] (fun f vs => PySem.call f vs) := by
  refine Att.attach_call hn hdf fun w s₀ s₁ mg mb fa o pm cd doc a vs ns G Y ho hd hcd hmg hobj hints hlen hg => ?_
  have KX := hY w _ Y
  obtain ⟨fd, hb, hF⟩ := F w mg fa _ KX G.T.g hmg
  exact law_call KX G.T.g G.T.b G.T.builtins G.T.nolimit hg hobj hints (Nat.le_trans hlen hn2) hr hF hb (fun H hO hS => hsp w H a ns hlen hO hS) fun H e s' => hCX w H s₁ e s'
end L2
/- THE LAST THEOREM (shape; LID, My.* are yours):
   My.Adr: a structure of the addresses that your layer names (classes, functions); My.Txt K t: a structure (Prop) of the equations over K;
   My.txt_mk : {K} {implicit addresses ..} (e1 : nsIn K mainGlobals "law" = some (some (.ref f))) (e2 : K.lookup f = some ⟨oc, od, .func (fnOf "law" "law" params body scope dV kV doc pm an cdv ct), sl⟩) (e3 : codeIn K cdv "law" = true) .. : ∃ t, My.Txt K t
set_option maxRecDepth 100000 in
set_option maxHeartbeats 0 in
theorem PySem.Challenge.cw_LID_holds : PySem.Challenge.rw_LID.Holds := by
  w_on; o_law; k_head; (case hw => w_witness2)
  k_fill
  refine L2.walk_of (l := PySem.Challenge.rw_LID) (n := 63) (k := 40) (x := "script") (CX := fun w => ..) (sp := fun _ => My.sp_law) rfl (by decide) rfl ⟨rfl, by decide, by decide⟩ (fun w h Y => PySem.W.kIn_of Y) ?F ?S ?C
  case F =>
    intro w mg fa h KX G hmg
    have T : ∃ t, My.Txt (L2.KOf KX) t := by
      dsimp only [L2.KOf]                          -- K must stand as «<heap const> w.params» for k_is
      refine' My.txt_mk ?e1 ?e2 ?e3 ..
      (case e1 => PySem.W.k_is)                    -- in the order: a name -> its address -> its object -> its parts
      (case e2 => PySem.W.k_is)
      ..
    obtain ⟨t, T⟩ := T
    have e0 := hmg.symm.trans (PySem.W.mg_of KX G T.law)
    cases e0                                       -- fa is the law's own address
    exact ⟨_, fun s u => .of_eq rfl, fun base kb nb => My.law_fn T kb nb⟩     -- if «.of_eq rfl» comes too early: refine' ⟨_, ?b, fun base kb nb => My.law_fn T kb nb⟩; exact fun s u => .of_eq rfl
  case S => exact fun w H a ns hl hO hS => ..
  case C => exact ..
(the tactic k_is has no namespace: write k_is) -/
namespace L2
open PySem PySem.Spec PyProof.Rows
def defArgs (s : Stmt) : Arguments := match s with
  | .FunctionDef _ a _ _ _ _ _ _ _ _ => a
  | _ => { posonlyargs := [], args := [], vararg := none, kwonlyargs := [], kw_defaults := [], kwarg := none, defaults := [] }
def defBody (s : Stmt) : List Stmt := match s with
  | .FunctionDef _ _ b _ _ _ _ _ _ _ => b
  | _ => []
def defScope (s : Stmt) : Scope := match s with
  | .FunctionDef _ _ _ _ _ _ sc _ _ _ => sc
  | _ => { kind := .function, names := [], isGenerator := false, isCoroutine := false }
abbrev CX0 : CXT := fun _ _ _ _ _ _ => False
abbrev E0 : XK := fun _ _ _ => False
structure Fun (K : PySem.W.Frag) (x qual : Str) (st : Stmt) (f : Addr) (fd : FuncData) : Prop where
  ex : ∃ (oc : Value) (od : Option Addr) (kV doc pm : Value) (an : Option Addr) (cdv ct : Value) (osl : Array (Option Value)),
    fd = PySem.W.fnOf x qual (defArgs st) (defBody st) (defScope st) .none kV doc pm an cdv ct /\ K.lookup f = some ⟨oc, od, .func fd, osl⟩ /\ PySem.W.codeIn K cdv qual = true
  kp : PySem.W.keepIn K (.ref f) = true
section
variable {P : Program} {w : World} {K : PySem.W.Frag} {mg : Str->Option Value} {base : Heap}
theorem Fun.binds {x qual : Str} {st : Stmt} {f : Addr} {fd : FuncData} {ps : List Str} (F : Fun K x qual st f fd)
    (h : ∀ (kV doc pm : Value) (an : Option Addr) (cdv ct : Value) (us : List Value), us.length = ps.length->bindArgs (PySem.W.fnOf x qual (defArgs st) (defBody st) (defScope st) .none kV doc pm an cdv ct) ⟨us, []⟩ = pure (ps.zip us)) : Binds K fd ps [] := by
  obtain ⟨oc, od, kV, doc, pm, an, cdv, ct, osl, rfl, lk, hcd⟩ := F.ex
  exact .all (h kV doc pm an cdv ct)
theorem fun_mk {x qual : Str} {st : Stmt} {f : Addr} {oc : Value} {od an : Option Addr} {osl : Array (Option Value)} {kV doc pm cdv ct : Value} (l : K.lookup f = some ⟨oc, od, .func (PySem.W.fnOf x qual (defArgs st) (defBody st) (defScope st) .none kV doc pm an cdv ct), osl⟩)
    (c : PySem.W.codeIn K cdv qual = true) (k : PySem.W.keepIn K (.ref f) = true) : Fun K x qual st f (PySem.W.fnOf x qual (defArgs st) (defBody st) (defScope st) .none kV doc pm an cdv ct) := ⟨⟨oc, od, kV, doc, pm, an, cdv, ct, osl, rfl, l, c⟩, k⟩
end
theorem hu_of {A : Around} {k : Nat} (hr : Room k A) : A.units + 1 < cLine := Nat.lt_of_le_of_lt (Nat.add_le_add_left (by decide : 1 ≤ 64) _) hr.units
theorem small1000 {n : Nat} (h : n ≤ 1000) : n < sizeLine := Nat.lt_of_le_of_lt h (by decide)
section
variable {X : Cx}
theorem pv (i : Nat) {x : Str} {pos : Pos} (hN : X.N[i]? = some x := by rfl) (hv : Vis X.env.scope x := by first | exact Or.inl rfl | exact Or.inr (Or.inl rfl) | exact Or.inr (Or.inr rfl)) (hd : (x == ("__debug__" : Str)) = false := by decide)
    (hcd : (x == ("__classdict__" : Str)) = false := by decide) : PE X (.Name x pos) (tVar i) := pe_var hN hv hd hcd
end
theorem iteF {A B : Prop} (h : B) : if false = true then A else B := by
  rw [if_neg Bool.false_ne_true]
  exact h
theorem iteT {A B : Prop} (h : A) : if true = true then A else B := by
  rw [if_pos rfl]
  exact h
theorem ite2 {c A B : Prop} [Decidable c] (h1 : c->A) (h2 : ¬ c->B) : if c then A else B := by
  by_cases h : c
  · rw [if_pos h]
    exact h1 h
  · rw [if_neg h]
    exact h2 h
def Same (H H' : Hp) : Prop := ∀ b o, H b = some o->H' b = some o
theorem Same.refl (H : Hp) : Same H H := fun _ _ h => h
theorem Same.trans {H H1 H2 : Hp} (a : Same H H1) (b : Same H1 H2) : Same H H2 := fun c o h => b c o (a c o h)
theorem Same.free {H H' : Hp} (e : Same H H') {l : Addr} (h : H' l = Option.none) : H l = Option.none := by
  cases q : H l with
  | none => rfl
  | some o =>
    rw [e l o q] at h
    cases h
theorem Same.seq {K : PySem.W.Frag} {H H' : Hp} {a : Addr} {xs : List V} (e : Same H H') (h : SqL K H a xs) : SqL K H' a xs := by
  rcases h with (h | ⟨o, h⟩) | h
  · exact .inl (.inl (e _ _ h))
  · exact .inl (.inr ⟨o, e _ _ h⟩)
  · exact .inr h
end L2
set_option maxHeartbeats 4000000
namespace L2
open PySem PySem.Spec PyProof.Rows
section
variable {κ : Type} [DecidableEq κ]
def valV (kvs : List (κ × V)) (k : κ) : Option V := (kvs.find? fun kv => decide (kv.1 = k)).map (·.2)
def putK (kvs : List (κ × V)) (k : κ) (v : V) : List (κ × V) :=
  if (kvs.any fun kv => decide (kv.1 = k)) = true then kvs.map (fun kv => if kv.1 = k then (kv.1, v) else kv) else kvs ++ [(k, v)]
def dropK (kvs : List (κ × V)) (k : κ) : List (κ × V) := kvs.filter fun kv => decide (kv.1 ≠ k)
theorem valV_pos {p : κ × V} {r : List (κ × V)} {k : κ} (e : p.1 = k) : valV (p :: r) k = some p.2 := by simp [valV, List.find?_cons, e]
theorem valV_neg {p : κ × V} {r : List (κ × V)} {k : κ} (e : ¬ p.1 = k) : valV (p :: r) k = valV r k := by simp [valV, List.find?_cons, e]
theorem valV_any (k : κ) : ∀ kvs : List (κ × V), (kvs.any fun kv => decide (kv.1 = k)) = (valV kvs k).isSome
  | [] => rfl
  | p :: r => by
    rw [List.any_cons]
    by_cases e : p.1 = k
    · simp only [valV_pos e, decide_eq_true e, Bool.true_or, Option.isSome_some]
    · rw [valV_neg e, decide_eq_false e, Bool.false_or]; exact valV_any k r
theorem valV_map (k j : κ) (y : V) : ∀ kvs : List (κ × V), valV (kvs.map fun kv => if kv.1 = k then (kv.1, y) else kv) j = (valV kvs j).map fun x => if j = k then y else x
  | [] => rfl
  | p :: r => by
    have ih := valV_map k j y r
    rw [List.map_cons]
    by_cases h : p.1 = k
    · rw [if_pos h]
      by_cases e : p.1 = j
      · rw [valV_pos (p := (p.1, y)) e, valV_pos e, Option.map_some, if_pos (e.symm.trans h)]
      · rw [valV_neg (p := (p.1, y)) e, valV_neg e, ih]
    · rw [if_neg h]
      by_cases e : p.1 = j
      · rw [valV_pos (p := p) e, valV_pos e, Option.map_some, if_neg (fun z => h (e.trans z))]
      · rw [valV_neg (p := p) e, valV_neg e, ih]
theorem valV_snoc (k j : κ) (y : V) : ∀ kvs : List (κ × V), valV kvs k = none->valV (kvs ++ [(k, y)]) j = if j = k then some y else valV kvs j
  | [], _ => by
    by_cases e : k = j
    · rw [if_pos e.symm]; exact valV_pos (p := (k, y)) e
    · rw [if_neg (fun z => e z.symm)]; exact valV_neg (p := (k, y)) e
  | p :: r, hn => by
    rw [List.cons_append]
    have hk : ¬ p.1 = k := fun z => by rw [valV_pos z] at hn; cases hn
    rw [valV_neg hk] at hn
    have ih := valV_snoc k j y r hn
    by_cases e : p.1 = j
    · rw [valV_pos e, valV_pos e, if_neg (fun z => hk (e.trans z))]
    · rw [valV_neg e, valV_neg e, ih]
theorem valV_put (kvs : List (κ × V)) (k j : κ) (y : V) : valV (putK kvs k y) j = if j = k then some y else valV kvs j := by
  unfold putK
  by_cases a : (kvs.any fun kv => decide (kv.1 = k)) = true
  · rw [if_pos a, valV_map]
    rw [valV_any] at a
    by_cases e : j = k
    · obtain ⟨x, hx⟩ := Option.isSome_iff_exists.mp a
      rw [if_pos e, e, hx, Option.map_some, if_pos rfl]
    · rw [if_neg e]
      cases valV kvs j with
      | none => rfl
      | some x => rw [Option.map_some, if_neg e]
  · rw [if_neg a]
    refine valV_snoc k j y kvs ?_
    rw [valV_any] at a
    cases q : valV kvs k with
    | none => rfl
    | some x => rw [q] at a; exact (a rfl).elim
theorem length_putK (kvs : List (κ × V)) (k : κ) (v : V) : (putK kvs k v).length ≤ kvs.length + 1 := by
  unfold putK
  split
  · rw [List.length_map]; omega
  · rw [List.length_append, List.length_cons, List.length_nil]; omega
theorem putK_new {kvs : List (κ × V)} {k : κ} (v : V) (h : valV kvs k = none) : putK kvs k v = kvs ++ [(k, v)] := by
  unfold putK
  rw [valV_any, h]
  exact if_neg (by decide)
theorem RelO.isSome_eq {o : Option V} {u : Option Value} (r : RelO o u) : o.isSome = u.isSome := by
  cases o with
  | none => cases u with
    | none => rfl
    | some _ => exact (show False from r).elim
  | some _ => cases u with
    | none => exact (show False from r).elim
    | some _ => rfl
theorem RelO.getD {o : Option V} {u : Option Value} {d : V} {d' : Value} (r : RelO o u) (rd : RelV d d') : RelV (o.getD d) (u.getD d') := by
  cases o with
  | none => cases u with
    | none => exact rd
    | some _ => exact (show False from r).elim
  | some _ => cases u with
    | none => exact (show False from r).elim
    | some _ => exact r
theorem KV.val {kvs : List (κ × V)} {vs : List (κ × Value)} (r : KV kvs vs) (k : κ) : RelO (valV kvs k) (valueAt vs k) := by
  unfold KV at r
  induction r with
  | nil => exact True.intro
  | @cons p q ps qs h t ih =>
    obtain ⟨h1, h2⟩ := h
    by_cases e : p.1 = k
    · have e' : q.1 = k := h1.symm.trans e
      have b : valueAt (q :: qs) k = some q.2 := by simp [valueAt, List.find?_cons, e']
      rw [valV_pos e, b]; exact h2
    · have e' : ¬ q.1 = k := fun z => e (h1.trans z)
      have b : valueAt (q :: qs) k = valueAt qs k := by simp [valueAt, List.find?_cons, e']
      rw [valV_neg e, b]; exact ih
theorem KV.any {kvs : List (κ × V)} {vs : List (κ × Value)} (r : KV kvs vs) (k : κ) : (kvs.any fun kv => decide (kv.1 = k)) = vs.any fun kv => decide (kv.1 = k) := by
  unfold KV at r
  induction r with
  | nil => rfl
  | cons h t ih => rw [List.any_cons, List.any_cons, ih, h.1]
theorem KV.repl {kvs : List (κ × V)} {vs : List (κ × Value)} (r : KV kvs vs) (k : κ) {y : V} {u : Value} (ry : RelV y u) :
    KV (kvs.map fun kv => if kv.1 = k then (kv.1, y) else kv) (vs.map fun kv => if kv.1 = k then (kv.1, u) else kv) := by
  unfold KV at r ⊢
  induction r with
  | nil => exact .nil
  | @cons p q ps qs h t ih =>
    rw [List.map_cons, List.map_cons]
    refine .cons ?_ ih
    obtain ⟨h1, h2⟩ := h
    by_cases e : p.1 = k
    · rw [if_pos e, if_pos (h1.symm.trans e)]; exact ⟨h1, ry⟩
    · rw [if_neg e, if_neg (fun z => e (h1.trans z))]; exact ⟨h1, h2⟩
theorem KV.put {kvs : List (κ × V)} {vs : List (κ × Value)} (r : KV kvs vs) (k : κ) {y : V} {u : Value} (ry : RelV y u) : KV (putK kvs k y) (stored vs k u) := by
  unfold putK stored
  rw [r.any k]
  by_cases e : (vs.any fun kv => decide (kv.1 = k)) = true
  · rw [if_pos e, if_pos e]; exact r.repl k ry
  · rw [if_neg e, if_neg e]; exact Paired.snoc r ⟨rfl, ry⟩
theorem KV.drop {kvs : List (κ × V)} {vs : List (κ × Value)} (r : KV kvs vs) (k : κ) : KV (dropK kvs k) (without vs k) := by
  unfold KV at r ⊢
  unfold dropK without
  induction r with
  | nil => exact .nil
  | @cons p q ps qs h t ih =>
    obtain ⟨h1, h2⟩ := h
    rw [List.filter_cons, List.filter_cons]
    by_cases e : p.1 = k
    · have a : ¬ decide (p.1 ≠ k) = true := by simp [e]
      have b : ¬ decide (q.1 ≠ k) = true := by simp [h1.symm.trans e]
      rw [if_neg a, if_neg b]; exact ih
    · have e' : ¬ q.1 = k := fun z => e (h1.trans z)
      have a : decide (p.1 ≠ k) = true := by simp [e]
      have b : decide (q.1 ≠ k) = true := by simp [e']
      rw [if_pos a, if_pos b]; exact .cons ⟨h1, h2⟩ ih
theorem KV.keys {kvs : List (κ × V)} {vs : List (κ × Value)} (r : KV kvs vs) : kvs.map (·.1) = vs.map (·.1) := by
  unfold KV at r
  induction r with
  | nil => rfl
  | cons h t ih => rw [List.map_cons, List.map_cons, ih, h.1]
theorem KV.length {kvs : List (κ × V)} {vs : List (κ × Value)} (r : KV kvs vs) : kvs.length = vs.length := Paired.length r
theorem dropK_le (kvs : List (κ × V)) (k : κ) : (dropK kvs k).length ≤ kvs.length := List.length_filter_le _ _
end
theorem kV_is {P : Program} {w : World} {k : Key} {u : Value} (r : RelV (kV k) u) : (mixKind P w).is k u = true := by
  cases k with
  | inl i => obtain ⟨t, e⟩ := (show ∃ t, u = Value.int i t from r); subst e; exact mixKind_int P w i t
  | inr x => obtain ⟨t, e⟩ := (show ∃ t, u = Value.str x t from r); subst e; exact mixKind_str P w x t
theorem items_are {P : Program} {w : World} : ∀ {ks : List Key} {us : List Value}, Vals (ks.map kV) us->ItemsAre (mixKind P w) ks us
  | [], _, r => by rw [List.map_nil] at r; cases r; exact .nil
  | k :: ks, _, r => by
    rw [List.map_cons] at r
    cases r with
    | cons h t => exact .cons (kV_is h) (items_are t)
abbrev KT (H : Hp) : List (List Key × V)->List (List Key × Addr × Value)->Prop := Paired fun p q => p.1 = q.1 /\ H q.2.1 = some (.tup (p.1.map kV)) /\ RelV p.2 q.2.2
theorem KT.val {H : Hp} {kvs : List (List Key × V)} {xs : List (List Key × Addr × Value)} (r : KT H kvs xs) (k : List Key) : RelO (valV kvs k) ((atKey xs k).map (·.2)) := by
  induction r with
  | nil => exact True.intro
  | @cons p q ps qs h t ih =>
    obtain ⟨h1, _, h2⟩ := h
    by_cases e : p.1 = k
    · have e' : q.1 = k := h1.symm.trans e
      have b : atKey (q :: qs) k = some q.2 := by simp [atKey, List.find?_cons, e']
      rw [valV_pos e, b]; exact h2
    · have e' : ¬ q.1 = k := fun z => e (h1.trans z)
      have b : atKey (q :: qs) k = atKey qs k := by simp [atKey, List.find?_cons, e']
      rw [valV_neg e, b]; exact ih
theorem KT.repl {H : Hp} {kvs : List (List Key × V)} {xs : List (List Key × Addr × Value)} (r : KT H kvs xs) (k : List Key) {y : V} {u : Value} (ry : RelV y u) :
    KT H (kvs.map fun kv => if kv.1 = k then (kv.1, y) else kv) (xs.map (putAt k u)) := by
  induction r with
  | nil => exact .nil
  | @cons p q ps qs h t ih =>
    rw [List.map_cons, List.map_cons]
    refine .cons ?_ ih
    obtain ⟨h1, h2, h3⟩ := h
    unfold putAt
    by_cases e : p.1 = k
    · rw [if_pos e, if_pos (h1.symm.trans e)]; exact ⟨h1, h2, ry⟩
    · rw [if_neg e, if_neg (fun z => e (h1.trans z))]; exact ⟨h1, h2, h3⟩
theorem KT.put {H : Hp} {kvs : List (List Key × V)} {xs : List (List Key × Addr × Value)} (r : KT H kvs xs) (k : List Key) {b : Addr} {y : V} {u : Value} (hb : H b = some (.tup (k.map kV))) (ry : RelV y u) :
    KT H (putK kvs k y) (storedH xs k b u) := by
  have e : (kvs.any fun kv => decide (kv.1 = k)) = (atKey xs k).isSome := by
    rw [valV_any, (r.val k).isSome_eq, Option.isSome_map]
  unfold putK storedH
  rw [e]
  by_cases q : (atKey xs k).isSome = true
  · rw [if_pos q, if_pos q]; exact r.repl k ry
  · rw [if_neg q, if_neg q]; exact Paired.snoc r ⟨rfl, hb, ry⟩
theorem KT.keeps {H H' : Hp} {kvs : List (List Key × V)} {xs : List (List Key × Addr × Value)} (r : KT H kvs xs) (ht : ∀ b ys, H b = some (.tup ys)->H' b = some (.tup ys)) : KT H' kvs xs :=
  Paired.mapP r fun _ _ z => ⟨z.1, ht _ _ z.2.1, z.2.2⟩
section
variable {P : Program} {w : World} {H : Hp} {h : Heap} {a : Addr}
theorem rd_of {u : HO} (ok : HOk P w H h) (e : Rd H a u) : ObjOk P w H h a u := e.ok ok
theorem dk_rd {kvs : List (Key × V)} (ok : HOk P w H h) (e : Rd H a (.dK kvs)) : kvs.length ≤ sizeLine /\ (a == sysModules) = false /\ ∃ vs, KV kvs vs /\ h.DictOf (mixKind P w) a vs :=
  show ObjOk P w H h a (.dK kvs) from rd_of ok e
theorem dk_of {kvs : List (Key × V)} (ok : HOk P w H h) (e : H a = some (.dK kvs)) : kvs.length ≤ sizeLine /\ (a == sysModules) = false /\ ∃ vs, KV kvs vs /\ h.DictOf (mixKind P w) a vs := dk_rd ok (.inl e)
theorem key_of {ks : List Key} (ok : HOk P w H h) (e : H a = some (.tup (ks.map kV))) : (tupleKind (mixKind P w)).is h ks a := by
  obtain ⟨_, its, r, o, h1, h2, n, h3⟩ := (show ObjOk P w H h a (.tup (ks.map kV)) from ok a _ e)
  exact ⟨o, its.toArray, n, h1, h2, h3, by simpa using items_are r⟩
theorem dt_rd {kvs : List (List Key × V)} (ok : HOk P w H h) (e : Rd H a (.dT kvs)) : kvs.length ≤ sizeLine /\ (a == sysModules) = false ∧
    ∃ xs, KT H kvs xs /\ h.DictOfH (tupleKind (mixKind P w)) a xs := by
  obtain ⟨z, y, xs, r, o, es, ep, h1, h2, h3, h4, h5⟩ := (show ObjOk P w H h a (.dT kvs) from rd_of ok e)
  refine ⟨z, y, xs, r, o, es, ep, h1, h2, h3, h4, fun x hx => ?_, h5⟩
  have all : ∀ {l : List (List Key × V)} {m : List (List Key × Addr × Value)}, KT H l m->∀ x ∈ m, (tupleKind (mixKind P w)).is h x.1 x.2.1 := by
    intro l m q
    induction q with
    | nil => intro x hx; exact nomatch hx
    | @cons p q ps qs hq t ih =>
      intro x hx
      rcases List.mem_cons.mp hx with e | hx
      · subst e
        exact key_of ok (by rw [← hq.1]; exact hq.2.1)
      · exact ih x hx
  exact all r x hx
theorem dt_of {kvs : List (List Key × V)} (ok : HOk P w H h) (e : H a = some (.dT kvs)) : kvs.length ≤ sizeLine /\ (a == sysModules) = false ∧
    ∃ xs, KT H kvs xs /\ h.DictOfH (tupleKind (mixKind P w)) a xs := dt_rd ok (.inl e)
end
def DGet (H : Hp) (a : Addr) (y : V) (r : Option V) : Prop :=
  (∃ kvs k, Rd H a (.dK kvs) /\ y = kV k /\ r = valV kvs k) ∨ ∃ kvs k b, Rd H a (.dT kvs) /\ y = .ref b /\ H b = some (.tup (k.map kV)) /\ r = valV kvs k
def DPut (H : Hp) (a : Addr) (y v : V) (H' : Hp) : Prop :=
  (∃ kvs k, H a = some (.dK kvs) /\ y = kV k /\ kvs.length < sizeLine /\ H' = upd H a (.dK (putK kvs k v))) ∨
  ∃ kvs k b, H a = some (.dT kvs) /\ y = .ref b /\ H b = some (.tup (k.map kV)) /\ kvs.length < sizeLine /\ H' = upd H a (.dT (putK kvs k v))
theorem DPut.k {H : Hp} {a : Addr} {kvs : List (Key × V)} {k : Key} {v : V} (e : H a = some (.dK kvs)) (hl : kvs.length < sizeLine) : DPut H a (kV k) v (upd H a (.dK (putK kvs k v))) := .inl ⟨kvs, k, e, rfl, hl, rfl⟩
section
variable {X : Cx} {pins : List (Addr × Obj)} {σ : St} {H : Hp} {s : Shared} {a : Addr} {y v : V} {u r : Value} {o : Option V} {A : Around} {E : Value->Shared->Prop}
theorem Inv.big (I : Inv X pins σ H s) : sysModules < s.heap.objs.size := by
  have h : mainGlobals < s.heap.objs.size := (I.mod.glob.keeps I.bk).lt
  exact Nat.lt_trans (by decide) h
theorem d_getItem {Q : Value->Shared->Prop} (hu : A.units + 1 < cLine) (I : Inv X pins σ H s) (g : DGet H a y (some v)) (ry : RelV y u) (h : ∀ w' s', Inv X pins σ H s'->RelV v w'->Q w' s') :
    wpAny (model X.prog X.w) A (getItem (.ref a) u) Q E s := by
  rcases g with ⟨kvs, k, e, ey, l⟩ | ⟨kvs, k, b, e, ey, eb, l⟩
  · subst ey
    obtain ⟨z, hd, vs, rel, dd⟩ := dk_rd I.hok e
    obtain ⟨w', hw, rw'⟩ := RelO.some_of (v := v) (o := valueAt vs k) (by rw [l]; exact rel.val k)
    exact wpAny_getItem_of (kV_is ry) dd.mapOf hw (h w' _ (I.tok _) rw')
  · subst ey
    cases (show u = Value.ref b from ry)
    obtain ⟨z, hd, xs, rel, dd⟩ := dt_rd I.hok e
    obtain ⟨w', hw, rw'⟩ := RelO.some_of (v := v) (o := (atKey xs k).map (·.2)) (by rw [l]; exact rel.val k)
    obtain ⟨p, hp, hp2⟩ := Option.map_eq_some_iff.mp hw
    refine wpAny_getItem_heap (tupleKind_room_in1 hu) (key_of I.hok eb) dd hp ?_
    rw [hp2]
    exact h w' _ (I.tok _) rw'
theorem d_in {Q : Value->Shared->Prop} (hu : A.units + 1 < cLine) (I : Inv X pins σ H s) (g : DGet H a y o) (ry : RelV y u) (h : ∀ s', Inv X pins σ H s'->Q (.bool o.isSome) s') :
    wpAny (model X.prog X.w) A (compareOp .In u (.ref a)) Q E s := by
  rcases g with ⟨kvs, k, e, ey, l⟩ | ⟨kvs, k, b, e, ey, eb, l⟩
  · subst ey
    obtain ⟨z, hd, vs, rel, dd⟩ := dk_rd I.hok e
    refine wpAny_in_of (kV_is ry) hd dd.mapOf ?_
    rw [← (rel.val k).isSome_eq, ← l]
    exact h _ (I.tok _)
  · subst ey
    cases (show u = Value.ref b from ry)
    obtain ⟨z, hd, xs, rel, dd⟩ := dt_rd I.hok e
    refine wpAny_in_heap (tupleKind_room_in1 hu) (key_of I.hok eb) hd dd ?_
    have q := (rel.val k).isSome_eq
    rw [Option.isSome_map] at q
    rw [← q, ← l]
    exact h _ (I.tok _)
theorem d_notIn {Q : Value->Shared->Prop} (hu : A.units + 1 < cLine) (I : Inv X pins σ H s) (g : DGet H a y o) (ry : RelV y u) (h : ∀ s', Inv X pins σ H s'->Q (.bool (!o.isSome)) s') :
    wpAny (model X.prog X.w) A (compareOp .NotIn u (.ref a)) Q E s := by
  rcases g with ⟨kvs, k, e, ey, l⟩ | ⟨kvs, k, b, e, ey, eb, l⟩
  · subst ey
    obtain ⟨z, hd, vs, rel, dd⟩ := dk_rd I.hok e
    refine wpAny_notIn_of (kV_is ry) hd dd.mapOf ?_
    rw [← (rel.val k).isSome_eq, ← l]
    exact h _ (I.tok _)
  · subst ey
    cases (show u = Value.ref b from ry)
    obtain ⟨z, hd, xs, rel, dd⟩ := dt_rd I.hok e
    refine wpAny_notIn_heap (tupleKind_room_in1 hu) (key_of I.hok eb) hd dd ?_
    have q := (rel.val k).isSome_eq
    rw [Option.isSome_map] at q
    rw [← q, ← l]
    exact h _ (I.tok _)
theorem d_write {h' : Heap} {t' : Nat} {ob : HO} (I : Inv X pins σ H s) (mu : Mut (H a)) (hs : Heap.SameBut a s.heap h') (he : ∃ q, h'.get? a = some q) (new : ObjOk X.prog X.w (upd H a ob) h' a ob) :
    Inv X pins σ (upd H a ob) { s with heap := h', toks := t' } :=
  I.write (x := a) (e := a) mu (.inl rfl) (fun b q hb z => (hs.2 b hb).trans z) he new
theorem dk_new {P : Program} {w : World} {H' : Hp} {h' : Heap} {kvs : List (Key × V)} {vs : List (Key × Value)} (z : kvs.length ≤ sizeLine) (hd : (a == sysModules) = false) (rel : KV kvs vs) (dd : h'.DictOf (mixKind P w) a vs) :
    ObjOk P w H' h' a (.dK kvs) := ⟨z, hd, vs, rel, dd⟩
theorem d_setItem {H' : Hp} {Q : Unit->Shared->Prop} (hu : A.units + 1 < cLine) (I : Inv X pins σ H s) (g : DPut H a y v H') (ry : RelV y u) (rv : RelV v r) (h : ∀ s', Inv X pins σ H' s'->Q () s') :
    wpAny (model X.prog X.w) A (setItem (.ref a) u r) Q E s := by
  rcases g with ⟨kvs, k, e, ey, l, eH⟩ | ⟨kvs, k, b, e, ey, eb, l, eH⟩
  · subst ey eH
    obtain ⟨z, hd, vs, rel, dd⟩ := dk_of I.hok e
    have hz : vs.length ≤ sizeLine := by rw [← rel.length]; exact z
    have hl : (putK kvs k v).length ≤ sizeLine := by have := length_putK kvs k v; omega
    refine wpAny_setItem_pairs (hsz := hz) (kV_is ry) dd fun h' dd' hs => h _ ?_
    have he : ∃ q, h'.get? a = some q := let ⟨q, _, _, hq, _⟩ := dd'; ⟨q, hq⟩
    exact d_write I (by rw [e]; exact True.intro) hs he (dk_new hl hd (rel.put k rv) dd')
  · subst ey eH
    cases (show u = Value.ref b from ry)
    obtain ⟨z, hd, xs, rel, dd⟩ := dt_of I.hok e
    have hz : xs.length ≤ sizeLine := by rw [← Paired.length rel]; exact z
    have hl : (putK kvs k v).length ≤ sizeLine := by have := length_putK kvs k v; omega
    refine wpAny_setItem_heap (hsz := hz) (tupleKind_room_in1 hu) (key_of I.hok eb) dd fun h' dd' hs => h _ ?_
    obtain ⟨q, es, ep, hq, h2, h3, h4, _, h5⟩ := dd'
    refine d_write I (by rw [e]; exact True.intro) hs ⟨q, hq⟩ ⟨hl, hd, _, (rel.put k eb rv).keeps fun c ys ec => ?_, q, es, ep, hq, h2, h3, h4, h5⟩
    rw [upd_ne (ne_of ec e (fun z => nomatch z))]
    exact ec
end
section
variable {X : Cx} {pins : List (Addr × Obj)} {σ : St} {H : Hp} {s : Shared} {a : Addr} {kvs : List (Key × V)} {k : Key} {u : Value} {A : Around} {E : Value->Shared->Prop}
theorem d_pop {v : V} {more : List Value} {Q : Value->Shared->Prop} (I : Inv X pins σ H s) (e : H a = some (.dK kvs)) (ry : RelV (kV k) u) (l : valV kvs k = some v) (hm : more = [] ∨ ∃ x, more = [x])
    (h : ∀ w' s', Inv X pins σ (upd H a (.dK (dropK kvs k))) s'->RelV v w'->Q w' s') : wpAny (model X.prog X.w) A (call (.builtin "dict.pop") (.ref a :: u :: more)) Q E s := by
  obtain ⟨z, hd, vs, rel, dd⟩ := dk_of I.hok e
  obtain ⟨w', hw, rw'⟩ := RelO.some_of (v := v) (o := valueAt vs k) (by rw [← l]; exact rel.val k)
  have hp : (keyPart u).isSome = true := by
    cases k with
    | inl i => obtain ⟨t, q⟩ := (show ∃ t, u = Value.int i t from ry); subst q; rfl
    | inr x => obtain ⟨t, q⟩ := (show ∃ t, u = Value.str x t from ry); subst q; rfl
  have ha : argsOk "dict.pop" ⟨.ref a :: u :: more, []⟩ := by
    rcases hm with q | ⟨x, q⟩
    · subst q; exact PySem.F.args_dict_pop_2 _ _
    · subst q; exact PySem.F.args_dict_pop_3 _ _ _
  refine call_meetsIn PySem.F.slot_dict_pop dd.typeIs PySem.F.entry_dict_pop ha (meets_dict_pop_there (mixKind X.prog X.w) a (kV_is ry) more hm hp)
    ⟨vs, w', dd, by rw [← rel.length]; exact z, hw, fun h' dd' hs => h w' _ ?_ rw'⟩
  have he : ∃ q, h'.get? a = some q := let ⟨q, _, _, hq, _⟩ := dd'; ⟨q, hq⟩
  exact d_write I (by rw [e]; exact True.intro) hs he (dk_new (Nat.le_trans (dropK_le kvs k) z) hd (rel.drop k) dd')
end
def NoSl (i : Expr) : Prop := ∀ ov iv, subscripted i false ov iv = operate [ov, iv] (getItem ov iv)
theorem subD_of {prog : Program} {w : World} {A : Around} {E : Value->Shared->Prop} {s : Shared} {env : Env} {value slice : Expr} {pos : Pos} {T id : String} {Q : Value->Shared->Prop}
    (hl : typeLookup (.type T) "__getitem__" = pure (some (.builtin id))) (hs : NoSl slice)
    (h : wpAny (model prog w) A (eval value env) (fun o s₁ => wpAny (model prog w) A (eval slice env) (fun i s₂ => s₂.TypeIs o T /\ wpAny (model prog w) A (getItem o i) Q E s₂) E s₁) E s) :
    wpAny (model prog w) A (eval (.Subscript value slice pos) env) Q E s := by
  refine Subscript_ (wpAny_mono h (fun o s₁ h₁ => wpAny_mono h₁ (fun i s₂ h₂ => ?_) fun _ _ x => x) fun _ _ x => x)
  obtain ⟨hT, h₂⟩ := h₂
  unfold subscriptTail
  refine wpAny_bind ?_
  rw [getitemInPython_of_ne hT.not_modules]
  refine wpAny_bind (wpAny_specialOf hT hl ?_)
  have fin : wpAny (model prog w) A (subscripted slice false o i) (fun r s₃ => wpAny (model prog w) A (letTemporaryGo value o r >>= fun _ => pure r) Q E s₃) E s₂ := by
    rw [hs o i]
    exact wpAny_operating (wpAny_mono h₂ (fun r s₃ h₃ => wpAny_bind (wpAny_letTemporaryGo (wpAny_pure h₃))) fun _ _ x => x)
  first
    | exact wpAny_pure (wpAny_bind fin)
    | exact wpAny_bind (wpAny_pure (wpAny_bind fin))
    | exact wpAny_bind fin
theorem dict_typeIs {X : Cx} {pins : List (Addr × Obj)} {σ : St} {H : Hp} {s : Shared} {a : Addr} {y : V} {o : Option V} (I : Inv X pins σ H s) (g : DGet H a y o) : s.TypeIs (.ref a) "dict" := by
  rcases g with ⟨kvs, k, e, _, _⟩ | ⟨kvs, k, b, e, _, _, _⟩
  · obtain ⟨_, _, vs, _, dd⟩ := dk_rd I.hok e
    exact dd.typeIs
  · obtain ⟨_, _, xs, _, dd⟩ := dt_rd I.hok e
    exact dd.typeIs
def tDGet (td ty : TE) : TE := fun σ H Q => td σ H fun x H1 => ty σ H1 fun y H2 => ∃ a v, x = .ref a /\ DGet H2 a y (some v) /\ Q v H2
def tDIn (ty td : TE) : TE := fun σ H Q => ty σ H fun y H1 => td σ H1 fun x H2 => ∃ a o, x = .ref a /\ DGet H2 a y o /\ Q (.bl o.isSome) H2
def tDNotIn (ty td : TE) : TE := fun σ H Q => ty σ H fun y H1 => td σ H1 fun x H2 => ∃ a o, x = .ref a /\ DGet H2 a y o /\ Q (.bl (!o.isSome)) H2
def sDPut (td ty tv : TE) : TS := fun D σ H => tv σ H fun v H1 => td σ H1 fun x H2 => ty σ H2 fun y H3 => ∃ a H4, x = .ref a /\ DPut H3 a y v H4 /\ D.nx σ H4
section
variable {X : Cx} {o i e value : Expr} {pos pos' tpos : Pos} {td ty tv : TE}
theorem pe_dget (hu : X.A.units + 1 < cLine) (ho : PE X o td) (hi : PE X i ty) (hs : NoSl i) : PE X (.Subscript o i pos) (tDGet td ty) := by
  intro pins s σ H Q I h
  refine subD_of PySem.F.slot_dict_getitem.lookup hs (thn (ho pins s σ H _ I h) fun u s1 ⟨x, H1, I1, rx, q1⟩ => thn (hi pins s1 σ H1 _ I1 q1) fun iv s2 ⟨y, H2, I2, ry, a, v, ex, g, q2⟩ => ?_)
  subst ex
  obtain rfl : u = Value.ref a := rx
  exact ⟨dict_typeIs I2 g, d_getItem hu I2 g ry fun w' s3 I3 rw' => ⟨v, H2, I3, rw', q2⟩⟩
theorem pc_din (hu : X.A.units + 1 < cLine) (hi : PE X i ty) (ho : PE X o td) : PC X .In i o (tDIn ty td) := by
  intro pins s σ H Q I h
  refine thn (hi pins s σ H _ I h) fun iv s1 ⟨y, H1, I1, ry, q1⟩ => thn (ho pins s1 σ H1 _ I1 q1) fun u s2 ⟨x, H2, I2, rx, a, ov, ex, g, q2⟩ => ?_
  subst ex
  obtain rfl : u = Value.ref a := rx
  exact d_in hu I2 g ry fun s3 I3 => ⟨.bl ov.isSome, H2, I3, rfl, q2⟩
theorem pc_dnotin (hu : X.A.units + 1 < cLine) (hi : PE X i ty) (ho : PE X o td) : PC X .NotIn i o (tDNotIn ty td) := by
  intro pins s σ H Q I h
  refine thn (hi pins s σ H _ I h) fun iv s1 ⟨y, H1, I1, ry, q1⟩ => thn (ho pins s1 σ H1 _ I1 q1) fun u s2 ⟨x, H2, I2, rx, a, ov, ex, g, q2⟩ => ?_
  subst ex
  obtain rfl : u = Value.ref a := rx
  exact d_notIn hu I2 g ry fun s3 I3 => ⟨.bl (!ov.isSome), H2, I3, rfl, q2⟩
theorem ps_dput (hu : X.A.units + 1 < cLine) (ho : PE X o td) (hi : PE X i ty) (hv : PE X value tv) (hs : swapsWith value (some (.Subscript o i pos')) pos.line X.env = pure false) :
    PS X (.Assign [.Subscript o i pos'] value pos) (sDPut td ty tv) := by
  intro pins s σ H D I h
  refine wpAny_Assign_Subscript (thn (hv pins s σ H _ I h) fun r s1 ⟨v, H1, I1, rv, q1⟩ => thn (ho pins s1 σ H1 _ I1 q1) fun u s2 ⟨x, H2, I2, rx, q2⟩ => thn (hi pins s2 σ H2 _ I2 q2) fun iv s3 ⟨y, H3, I3, ry, a, H4, ex, g, q3⟩ => ?_) hs
  subst ex
  obtain rfl : u = Value.ref a := rx
  exact d_setItem hu I3 g ry rv fun s4 I4 => ⟨σ, H4, I4, q3⟩
end
theorem dk_empty {P : Program} {w : World} {H : Hp} (h : Heap) (hb : sysModules < h.objs.size) : ObjOk P w H (h.push { cls := .type "dict", data := .dict #[] }) h.objs.size (.dK []) :=
  ⟨Nat.zero_le _, beq_eq_false_iff_ne.mpr (Ne.symm (Nat.ne_of_lt hb)), [], .nil, Heap.DictOf.new h⟩
def tDNewK : TE := fun _ H Q => ∀ p, H p = none->Q (.ref p) (upd H p (.dK []))
section
variable {X : Cx} {pos : Pos}
theorem pe_dnewK : PE X (.Dict [] [] pos) tDNewK := fun pins s σ H Q I h =>
  wpAny_Dict_empty ⟨.ref s.heap.objs.size, _, I.laid (a := s.heap.objs.size) (o := .dK []) (t' := s.toks) (fun _ _ q => Heap.get?_push_of_some _ q) (Nat.le_refl _) (dk_empty s.heap I.big), rfl, h _ (I.hok.fresh (Nat.le_refl _))⟩
end
def tPairs : List (TE × TE)->St->Hp->(List (V × V)->Hp->Prop)->Prop
  | [], _, H, Q => Q [] H
  | (tk, tv) :: r, σ, H, Q => tk σ H fun x H1 => tv σ H1 fun y H2 => tPairs r σ H2 fun ps H3 => Q ((x, y) :: ps) H3
abbrev VV : List (V × V)->List (Value × Value)->Prop := Paired fun p q => RelV p.1 q.1 /\ RelV p.2 q.2
def PPs (X : Cx) (pos : Pos) (keys : List (Option Expr)) (values : List Expr) (trs : List (TE × TE)) : Prop :=
  ∀ (pins : List (Addr × Obj)) (s : Shared) (σ : St) (H : Hp) (Q : List (V × V)->Hp->Prop), Inv X pins σ H s->tPairs trs σ H Q →
    wpAny (model X.prog X.w) X.A (evalPairs (pairTrees keys values X.env pos)) (fun vs s' => ∃ ps H', Inv X pins σ H' s' /\ VV ps vs /\ Q ps H') X.xe s
theorem pps_nil {X : Cx} {pos : Pos} : PPs X pos [] [] [] := fun pins s σ H Q I h => pairTrees_nil_walk ⟨[], H, I, .nil, h⟩
theorem pps_cons {X : Cx} {pos : Pos} {k v : Expr} {ks : List (Option Expr)} {vs : List Expr} {tk tv : TE} {trs : List (TE × TE)} (hk : PE X k tk) (hv : PE X v tv) (hr : PPs X pos ks vs trs) :
    PPs X pos (some k :: ks) (v :: vs) ((tk, tv) :: trs) := fun pins s σ H Q I h =>
  pairTrees_cons_walk (thn (hk pins s σ H _ I h) fun u s1 ⟨x, H1, I1, rx, q1⟩ => thn (hv pins s1 σ H1 _ I1 q1) fun w2 s2 ⟨y, H2, I2, ry, q2⟩ =>
    thn (hr pins s2 σ H2 _ I2 q2) fun ws s3 ⟨ps, H3, I3, rel, q3⟩ => ⟨(x, y) :: ps, H3, I3, .cons ⟨rx, ry⟩ rel, q3⟩)
def mergeK (kvs more : List (Key × V)) : List (Key × V) := more.foldl (fun acc kv => putK acc kv.1 kv.2) kvs
theorem KV.merge : ∀ {more : List (Key × V)} {rs : List (Key × Value)} {kvs : List (Key × V)} {vs : List (Key × Value)}, KV more rs->KV kvs vs->KV (mergeK kvs more) (merged vs rs) := by
  intro more rs kvs vs r
  unfold KV at r
  induction r generalizing kvs vs with
  | nil => intro q; exact q
  | @cons p q ps qs h t ih =>
    intro r0
    have e : KV (putK kvs p.1 p.2) (stored vs q.1 q.2) := by
      have := r0.put p.1 h.2
      rw [← h.1]; exact this
    exact ih e
theorem length_mergeK : ∀ (more kvs : List (Key × V)), (mergeK kvs more).length ≤ kvs.length + more.length
  | [], kvs => by show kvs.length ≤ kvs.length + 0; omega
  | p :: r, kvs => by
    have h1 := length_mergeK r (putK kvs p.1 p.2)
    have h2 := length_putK kvs p.1 p.2
    show (mergeK (putK kvs p.1 p.2) r).length ≤ _
    rw [List.length_cons]; omega
theorem carries_of {P : Program} {w : World} : ∀ {kvs : List (Key × V)} {ws : List (Value × Value)}, VV (kvs.map fun kv => (kV kv.1, kv.2)) ws->∃ rs, Carries (mixKind P w) ws rs /\ KV kvs rs
  | [], _, r => by rw [List.map_nil] at r; cases r; exact ⟨[], True.intro, .nil⟩
  | p :: kvs, _, r => by
    rw [List.map_cons] at r
    cases r with
    | @cons a b as bs h t =>
      obtain ⟨rs, c, q⟩ := carries_of (P := P) (w := w) t
      obtain ⟨b1, b2⟩ := b
      exact ⟨(p.1, b2) :: rs, ⟨kV_is h.1, rfl, c⟩, .cons ⟨rfl, h.2⟩ q⟩
def tDisp (trs : List (TE × TE)) : TE := fun σ H Q => ∀ p, H p = none->tPairs trs σ (upd H p (.dK [])) fun ps H2 => H2 p = some (.dK []) /\ ∃ kvs : List (Key × V), ps = kvs.map (fun kv => (kV kv.1, kv.2)) /\ kvs.length ≤ 15 /\ Q (.ref p) (upd H2 p (.dK (mergeK [] kvs)))
theorem pe_disp {X : Cx} {pos : Pos} {keys : List (Option Expr)} {values : List Expr} {trs : List (TE × TE)} (h : PPs X pos keys values trs) (hall : keys.all (·.isSome) = true) (hl : keys.length = values.length) (h0 : keys ≠ [])
    (h15 : keys.length ≤ 15) : PE X (.Dict keys values pos) (tDisp trs) := by
  intro pins s σ H Q I q
  have hn := I.hok.fresh (Nat.le_refl s.heap.objs.size)
  have I1 := I.laid (a := s.heap.objs.size) (o := .dK []) (h' := s.heap.push { cls := .type "dict", data := .dict #[] }) (t' := s.toks) (fun _ _ q => Heap.get?_push_of_some _ q) (Nat.le_refl _) (dk_empty s.heap I.big)
  refine wpAny_Dict_walk (knd := mixKind X.prog X.w) hall hl h0 h15 (thn (h pins _ σ _ _ I1 (q _ hn)) fun ws s2 ⟨ps, H2, I2, rel, e, kvs, ep, lk, q2⟩ => ?_)
  subst ep
  obtain ⟨rs, c, rk⟩ := carries_of (P := X.prog) (w := X.w) rel
  obtain ⟨z, hd, vs0, r0, dd⟩ := dk_of I2.hok e
  cases r0
  refine ⟨rs, c, dd, fun h' dd' hs => ⟨.ref s.heap.objs.size, _, ?_, rfl, q2⟩⟩
  have hz : (mergeK [] kvs).length ≤ sizeLine := by
    have h1 := length_mergeK kvs []
    rw [List.length_nil] at h1
    rw [sizeLine_eq]; omega
  have he : ∃ q, h'.get? s.heap.objs.size = some q := let ⟨q, _, _, hq, _⟩ := dd'; ⟨q, hq⟩
  exact d_write I2 (by rw [e]; exact True.intro) hs he (dk_new hz hd (rk.merge .nil) dd')
structure M1 (X : Cx) (o : Expr) (m : Str) (apos : Pos) (e : Expr) (cpos : Pos) : Prop where
  base : attributeBase o m X.env (eval o X.env) = eval o X.env
  few : ((backTo cpos (starEach [e] X.env)).all (fun x => !x.1) && (backToKw cpos (keywordEach [] X.env)).all (fun x => x.1.isSome)
    && decide (([e] : List Expr).length + ([] : List Keyword).length + (if ([] : List Keyword).isEmpty then 0 else 1) < 30)) = true
  line : (apos.endLine == cpos.line) = true
  trees : backTo cpos (starEach [e] X.env) = [(false, eval e X.env)]
structure M2 (X : Cx) (o : Expr) (m : Str) (apos : Pos) (e f : Expr) (cpos : Pos) : Prop where
  base : attributeBase o m X.env (eval o X.env) = eval o X.env
  few : ((backTo cpos (starEach [e, f] X.env)).all (fun x => !x.1) && (backToKw cpos (keywordEach [] X.env)).all (fun x => x.1.isSome)
    && decide (([e, f] : List Expr).length + ([] : List Keyword).length + (if ([] : List Keyword).isEmpty then 0 else 1) < 30)) = true
  line : (apos.endLine == cpos.line) = true
  trees : backTo cpos (starEach [e, f] X.env) = [(false, eval e X.env), (false, eval f X.env)]
def IsD (H : Hp) (a : Addr) : Prop := (∃ kvs, Rd H a (.dK kvs)) ∨ ∃ kvs, Rd H a (.dT kvs)
theorem isD_at {X : Cx} {pins : List (Addr × Obj)} {σ : St} {H : Hp} {s : Shared} {a : Addr} (I : Inv X pins σ H s) (d : IsD H a) :
    s.TypeIs (.ref a) "dict" /\ (∀ b, Value.ref a = .ref b->∃ ob, s.heap.get? b = some ob /\ ob.dict = none) /\ (a == sysModules) = false := by
  rcases d with ⟨kvs, e⟩ | ⟨kvs, e⟩
  · obtain ⟨_, hd, vs, _, dd⟩ := dk_rd I.hok e
    refine ⟨dd.typeIs, fun b q => ?_, hd⟩
    cases q
    obtain ⟨ob, _, _, h1, h2, _⟩ := dd
    exact ⟨ob, h1, h2.2.1⟩
  · obtain ⟨_, hd, xs, _, dd⟩ := dt_rd I.hok e
    refine ⟨dd.typeIs, fun b q => ?_, hd⟩
    cases q
    obtain ⟨ob, _, _, h1, h2, _⟩ := dd
    exact ⟨ob, h1, h2.2.1⟩
section
variable {X : Cx} {pins : List (Addr × Obj)} {σ : St} {H : Hp} {s : Shared} {a : Addr} {y d : V} {u r : Value} {o : Option V} {A : Around} {E : Value->Shared->Prop}
theorem d_get1 {Q : Value->Shared->Prop} (hu : A.units + 1 < cLine) (I : Inv X pins σ H s) (g : DGet H a y o) (ry : RelV y u) (h : ∀ w' s', Inv X pins σ H s'->RelV (o.getD .non) w'->Q w' s') :
    wpAny (model X.prog X.w) A (call (.builtin "dict.get") [.ref a, u]) Q E s := by
  rcases g with ⟨kvs, k, e, ey, l⟩ | ⟨kvs, k, b, e, ey, eb, l⟩
  · subst ey
    obtain ⟨z, hd, vs, rel, dd⟩ := dk_rd I.hok e
    refine call_meetsIn PySem.F.slot_dict_get dd.typeIs PySem.F.entry_dict_get (PySem.F.args_dict_get_2 _ _) (meets_dict_get (mixKind X.prog X.w) a (kV_is ry) hd) ⟨_, dd.mapOf, h _ _ (I.tok _) ?_⟩
    rw [l]
    exact (rel.val k).getD rfl
  · subst ey
    cases (show u = Value.ref b from ry)
    obtain ⟨z, hd, xs, rel, dd⟩ := dt_rd I.hok e
    refine call_meetsIn PySem.F.slot_dict_get dd.typeIs PySem.F.entry_dict_get (PySem.F.args_dict_get_2 _ _) (meetsH_dict_get (tupleKind (mixKind X.prog X.w)) a b hd) ⟨tupleKind_room_in1 hu, k, xs, key_of I.hok eb, dd, h _ _ (I.tok _) ?_⟩
    rw [l]
    exact (rel.val k).getD rfl
end
def tDGet1 (td ty : TE) : TE := fun σ H Q => td σ H fun x H1 => ∃ a, x = .ref a /\ IsD H1 a /\ ty σ H1 fun y H2 => ∃ o, DGet H2 a y o /\ Q (o.getD .non) H2
def tDPop1 (td ty : TE) : TE := fun σ H Q => td σ H fun x H1 => ∃ a, x = .ref a /\ IsD H1 a /\ ty σ H1 fun y H2 => ∃ kvs k v, H2 a = some (.dK kvs) /\ y = kV k /\ valV kvs k = some v /\ Q v (upd H2 a (.dK (dropK kvs k)))
section
variable {X : Cx} {o e f : Expr} {apos cpos : Pos} {td ty tx : TE}
theorem pe_dget1 (hu : X.A.units + 1 < cLine) (ho : PE X o td) (he : PE X e ty) (m : M1 X o "get" apos e cpos) : PE X (.Call (.Attribute o "get" apos) [e] [] cpos) (tDGet1 td ty) := by
  intro pins s σ H Q I h
  refine wpAny_Call_method m.base m.few m.line PySem.F.plainAttrs_dict PySem.F.slot_dict_get PySem.F.type_dict_get (thn (ho pins s σ H _ I h) fun u s1 ⟨x, H1, I1, rx, a, ex, d, q1⟩ => ?_)
  subst ex
  obtain rfl : u = Value.ref a := rx
  obtain ⟨t1, t2, _⟩ := isD_at I1 d
  refine ⟨t1, t2, ?_⟩
  rw [m.trees]
  refine Calls.callWith_builtin rfl (Calls.evalArgs_plain (Calls.spliced_cons (thn (he pins s1 σ H1 _ I1 q1) fun iv s2 ⟨y, H2, I2, ry, ov, g, q2⟩ => Calls.spliced_nil ?_)))
  exact d_get1 hu I2 g ry fun w' s3 I3 rw' => ⟨_, H2, I3, rw', q2⟩
theorem pe_dpop1 (ho : PE X o td) (he : PE X e ty) (m : M1 X o "pop" apos e cpos) : PE X (.Call (.Attribute o "pop" apos) [e] [] cpos) (tDPop1 td ty) := by
  intro pins s σ H Q I h
  refine wpAny_Call_method m.base m.few m.line PySem.F.plainAttrs_dict PySem.F.slot_dict_pop PySem.F.type_dict_pop (thn (ho pins s σ H _ I h) fun u s1 ⟨x, H1, I1, rx, a, ex, d, q1⟩ => ?_)
  subst ex
  obtain rfl : u = Value.ref a := rx
  obtain ⟨t1, t2, _⟩ := isD_at I1 d
  refine ⟨t1, t2, ?_⟩
  rw [m.trees]
  refine Calls.callWith_builtin rfl (Calls.evalArgs_plain (Calls.spliced_cons (thn (he pins s1 σ H1 _ I1 q1) fun iv s2 ⟨y, H2, I2, ry, kvs, k, v, ea, ey, l, q2⟩ => Calls.spliced_nil ?_)))
  subst ey
  exact d_pop I2 ea ry l (.inl rfl) fun w' s3 I3 rw' => ⟨v, _, I3, rw', q2⟩
end
open PySem PySem.Spec PyProof.Rows
section
variable {κ : Type} [DecidableEq κ]
theorem valV_not {kvs : List (κ × V)} {k : κ} (h : valV kvs k = none) : ¬ k ∈ kvs.map (·.1) := by
  intro m
  obtain ⟨p, hp, e⟩ := List.mem_map.mp m
  have q : (kvs.any fun kv => decide (kv.1 = k)) = true := List.any_eq_true.mpr ⟨p, hp, decide_eq_true e⟩
  rw [valV_any, h] at q
  exact absurd q (by simp)
theorem nd_snoc : ∀ {l : List κ} {k : κ}, l.Nodup->¬ k ∈ l->(l ++ [k]).Nodup
  | [], k, _, _ => by simp
  | a :: r, k, h, hk => by
    obtain ⟨h1, h2⟩ := List.nodup_cons.mp h
    show (a :: (r ++ [k])).Nodup
    refine List.nodup_cons.mpr ⟨fun m => ?_, nd_snoc h2 fun m => hk (List.mem_cons.mpr (Or.inr m))⟩
    rcases List.mem_append.mp m with q | q
    · exact h1 q
    · exact hk (List.mem_cons.mpr (Or.inl (List.mem_singleton.mp q).symm))
theorem nd_putK {kvs : List (κ × V)} {k : κ} (v : V) (hn : (kvs.map (·.1)).Nodup) (h : valV kvs k = none) : ((putK kvs k v).map (·.1)).Nodup := by
  rw [putK_new v h, List.map_append]
  exact nd_snoc hn (valV_not h)
theorem dropK_pos {p : κ × V} {r : List (κ × V)} {k : κ} (e : p.1 = k) : dropK (p :: r) k = dropK r k := by
  unfold dropK
  rw [List.filter_cons, if_neg (by simp [e])]
theorem dropK_neg {p : κ × V} {r : List (κ × V)} {k : κ} (e : ¬ p.1 = k) : dropK (p :: r) k = p :: dropK r k := by
  unfold dropK
  rw [List.filter_cons, if_pos (by simp [e])]
theorem dropK_mem {kvs : List (κ × V)} {k : κ} {p : κ × V} (h : p ∈ dropK kvs k) : p ∈ kvs := (List.mem_filter.mp h).1
theorem nd_dropK : ∀ {kvs : List (κ × V)} {k : κ}, (kvs.map (·.1)).Nodup->((dropK kvs k).map (·.1)).Nodup
  | [], _, _ => List.nodup_nil
  | p :: r, k, h => by
    have h : (p.1 :: r.map (·.1)).Nodup := h
    obtain ⟨h1, h2⟩ := List.nodup_cons.mp h
    by_cases e : p.1 = k
    · rw [dropK_pos e]
      exact nd_dropK h2
    · rw [dropK_neg e]
      show (p.1 :: (dropK r k).map (·.1)).Nodup
      refine List.nodup_cons.mpr ⟨fun m => h1 ?_, nd_dropK h2⟩
      obtain ⟨q, hq, eq⟩ := List.mem_map.mp m
      exact List.mem_map.mpr ⟨q, dropK_mem hq, eq⟩
end
end L2
namespace Chk
def T (n : Nat) : Nat := n * 128 % 2 ^ 64 + n / 2 ^ 57
def D (n : Nat) : Nat := if n * 2 ≥ 2 ^ 64 then n * 2 - 2 ^ 64 + 1 else n * 2
end Chk
namespace L2
open PySem PySem.Spec PyProof.Rows
section
variable {X : Cx}
theorem op_fdivB : OpR X (binaryOp .FloorDiv) (rI (fun _ j => 0 < j /\ j.natAbs.log2 < 9000) fun i j => .int (i / j)) := opI fun i j _ _ _ _ _ hc q => by
  have h1 : (0 : Int) < j := hc.1
  exact floordiv_int (by omega) (by rw [Int.fdiv_eq_ediv_of_nonneg i (by omega)]; exact q) (.inl (PyProof.noPylong_of_log2 hc.2))
theorem pe_powc {a b n : Int} {j1 j2 p1 p2 pos} (h : 0 ≤ b /\ b ≤ 1000000 /\ a.natAbs < 2 ^ 64 := by decide) (e : a ^ b.toNat = n := by first | rfl | decide +kernel) :
    PE X (.BinOp (.Constant (.int a) j1 p1) .Pow (.Constant (.int b) j2 p2) pos) (tC (.int n)) := fun pins s σ H Q I hw =>
  pe_op op_pow pe_int pe_int pins s σ H Q I ⟨_, _, rfl, rfl, h, by subst e; exact hw⟩
def clsV : V->Option Value
  | .ty n => some (.type n)
  | .ref a => some (.ref a)
  | _ => none
theorem call_isinst : CallR X (.builtin "isinstance") (fun xs H Q => ∃ x c cv t b, xs = [x, c] /\ clsV c = some cv /\ TyOf X.K H x t /\ PySem.W.kitOne X.K t cv = some b /\ Q (.bl b) H) := by
  rintro pins s σ H xs us Q I r ⟨x, c, cv, t, b, rfl, hc, ty, e, q⟩
  obtain ⟨u, v, rfl, ru, rv⟩ := vals2 r
  have hv : v = cv := by
    cases c <;> simp [clsV] at hc <;> subst hc <;> exact rv
  subst hv
  exact isinst_ok I ru ty e fun tk => ⟨.bl b, H, I.tok tk, rfl, q⟩
end
section
variable (P : Program) (w : World) (K : PySem.W.Frag) (mg : Str->Option Value) (base : Heap)
structure DefOk (x : Str) (k : Nat) (ps : List Str) (sp : Sp) : Prop where
  ex : ∃ (f : Addr) (fd : FuncData), mg x = some (.ref f) /\ FnOk P w K mg base CX0 k f fd ps sp /\ PySem.W.keepIn K (.ref f) = true /\ Binds K fd ps []
structure MethOk (C : Addr) (m : Str) (k : Nat) (ps : List Str) (sp : Sp) : Prop where
  ex : ∃ (f : Addr) (fd : FuncData), Meth K C m f /\ FnOk P w K mg base CX0 k f fd ps sp /\ Binds K fd ps []
structure MakeOk (x : Str) (C : Addr) (k : Nat) (ps : List Str) (sp : Sp) : Prop where
  ex : ∃ (f : Addr) (fd : FuncData), mg x = some (.ref C) /\ Mk K C f /\ FnOk P w K mg base CX0 k f fd ps sp /\ Binds K fd ps []
end
open PySem
def clos (cells : List (Str × Addr)) : List (Str × NameKind)->List (Str × Addr)->List (Str × Addr)
  | [], acc => acc
  | (n, k) :: r, acc => clos cells r (if k == .free then (n, (cells.lookup n).getD 0) :: acc else acc)
theorem clos_loop {env : Env} : ∀ (l : List (Str × NameKind)) (acc : List (Str × Addr)), (∀ y ∈ l, y.2 = .free->∃ c, env.cells.lookup y.1 = some c) →
    (forIn l acc fun (x : Str × NameKind) (cs : List (Str × Addr)) => if (x.2 == NameKind.free) = true then do let a ← cellOf env x.1; pure (ForInStep.yield ((x.1, a) :: cs)) else pure (ForInStep.yield cs) : Sem (List (Str × Addr))) = pure (clos env.cells l acc)
  | [], acc, _ => by simp only [List.forIn_nil]; rfl
  | (n, k) :: r, acc, h => by
    simp only [List.forIn_cons]
    cases hk : (k == NameKind.free) with
    | false =>
      simp only [Bool.false_eq_true, if_false]
      have ih := clos_loop (env := env) r acc fun y hy => h y (List.mem_cons_of_mem _ hy)
      simp only [pure_bind, ih, clos, hk, Bool.false_eq_true, if_false]
    | true =>
      obtain ⟨c, hc⟩ := h (n, k) List.mem_cons_self (by simpa using hk)
      have e : cellOf env n = pure c := by
        unfold cellOf; rw [show env.cells.lookup n = some c from hc]
      simp only [if_true, e, pure_bind]
      have ih := clos_loop (env := env) r ((n, c) :: acc) fun y hy => h y (List.mem_cons_of_mem _ hy)
      rw [ih]
      simp only [clos, hk, if_true]
      rw [show env.cells.lookup n = some c from hc]; rfl
theorem closureFor_eq {scope : Scope} {env : Env} (h : ∀ y ∈ scope.names, y.2 = .free->∃ c, env.cells.lookup y.1 = some c) : closureFor scope env = pure (clos env.cells scope.names []) := by
  have := clos_loop (env := env) scope.names [] h
  unfold closureFor
  simp only [bind_pure]
  exact this
theorem clos_sub {cells : List (Str × Addr)} : ∀ {names : List (Str × NameKind)} {acc : List (Str × Addr)}, (∀ y ∈ names, y.2 = .free->∃ c, cells.lookup y.1 = some c)->(∀ x c, acc.lookup x = some c->cells.lookup x = some c) →
    ∀ x c, (clos cells names acc).lookup x = some c->cells.lookup x = some c
  | [], _, _, ha, x, c, h => ha x c h
  | (n, k) :: r, acc, hn, ha, x, c, h => by
    refine clos_sub (names := r) (fun y hy => hn y (List.mem_cons_of_mem _ hy)) ?_ x c h
    intro x c h
    split at h
    · rename_i hk
      obtain ⟨d, hd⟩ := hn (n, k) List.mem_cons_self (by simpa using hk)
      rw [show cells.lookup n = some d from hd, List.lookup_cons] at h
      split at h
      · rename_i e
        rw [eq_of_beq e, show cells.lookup n = some d from hd]; exact h
      · exact ha x c h
    · exact ha x c h
theorem clos_has {cells : List (Str × Addr)} : ∀ {names : List (Str × NameKind)} {acc : List (Str × Addr)} {x : Str}, ((x, NameKind.free) ∈ names ∨ ∃ c, acc.lookup x = some c)->∃ c, (clos cells names acc).lookup x = some c
  | [], acc, x, h => by
    rcases h with h | h
    · cases h
    · exact h
  | (n, k) :: r, acc, x, h => by
    refine clos_has (names := r) ?_
    rcases h with h | ⟨c, h⟩
    · rcases List.mem_cons.mp h with h | h
      · injection h with h1 h2
        subst h1; subst h2
        exact .inr ⟨(cells.lookup x).getD 0, by simp [List.lookup_cons]⟩
      · exact .inl h
    · right
      split
      · rw [List.lookup_cons]
        split
        · exact ⟨_, rfl⟩
        · exact ⟨c, h⟩
      · exact ⟨c, h⟩
theorem mem_of_lookup {α : Type} {x : Str} {a : α} : ∀ {l : List (Str × α)}, l.lookup x = some a->(x, a) ∈ l
  | [], h => by simp at h
  | (n, k) :: r, h => by
    rw [List.lookup_cons] at h
    split at h
    · rename_i e
      injection h with h
      rw [eq_of_beq e, h]; exact List.mem_cons_self
    · exact List.mem_cons_of_mem _ (mem_of_lookup h)
theorem lookup_relabel {env : Env} {x : Str} : ∀ (names : List (Str × NameKind)),
    (names.map fun (n, k) => if (k == NameKind.free && env.scope.kind == .function && env.kindOf n == some .cell) then (n, NameKind.cell) else (n, k)).lookup x =
      (names.lookup x).map fun k => if (k == NameKind.free && env.scope.kind == .function && env.kindOf x == some .cell) then NameKind.cell else k
  | [] => rfl
  | (n, k) :: r => by
    have ih := lookup_relabel (env := env) (x := x) r
    simp only [List.map_cons]
    by_cases e : x = n
    · subst e
      split <;> rename_i hc
      · simp only [List.lookup_cons, beq_self_eq_true, Option.map_some, hc, if_true]
      · simp only [List.lookup_cons, beq_self_eq_true, Option.map_some]
        rw [if_neg hc]
    · have e' : (x == n) = false := by simpa using e
      split <;> simp only [List.lookup_cons, e'] <;> exact ih
open PySem PySem.Spec PyProof.Rows
theorem anelt {a b n : Nat} (h1 : a < n) (h2 : n ≤ b) : a ≠ b := by omega
def Cx.comp (X : Cx) (scope : Scope) (N : List Str) (C : Addr) (s₀ : Shared) (H₀ : Hp) (ex : List Addr) : Cx :=
  { X with N := N, s₀ := s₀, H₀ := H₀, env := compEnvC scope (clos X.env.cells scope.names []) C X.env, outer := X.stack, stack := X.stack, ex := ex, fn := fun _ => false, pn := [] }
def st0 (k : Nat) (cap : List Nat) (σ : St) : St := List.replicate k none ++ cap.map fun j => (σ[j]?).getD none
def compOk (XN : List Str) (fs sc : Scope) (N : List Str) (k : Nat) (cap : List Nat) : Bool :=
  decide (sc.kind = .function) && sc.names.all (fun y => decide (y.2 ≠ .cell)) && sc.names.all (fun y => decide (y.2 ≠ .local) || decide (sc.names.lookup y.1 = some .local)) &&
  sc.names.all (fun y => decide (y.2 ≠ .free) || decide (fs.names.lookup y.1 = some .cell)) && decide (N.length = k + cap.length) &&
  (cap.zip (N.drop k)).all (fun p => decide (XN[p.1]? = some p.2) && decide (sc.names.lookup p.2 = some .free))
structure CompOk (XN : List Str) (fs sc : Scope) (N : List Str) (k : Nat) (cap : List Nat) : Prop where
  kind : sc.kind = .function
  nocell : ∀ y ∈ sc.names, y.2 ≠ .cell
  locs : ∀ y ∈ sc.names, y.2 = .local->sc.names.lookup y.1 = some .local
  frees : ∀ y ∈ sc.names, y.2 = .free->fs.names.lookup y.1 = some .cell
  len : N.length = k + cap.length
  caps : ∀ p ∈ cap.zip (N.drop k), XN[p.1]? = some p.2 /\ sc.names.lookup p.2 = some .free
theorem CompOk.of {XN : List Str} {fs sc : Scope} {N : List Str} {k : Nat} {cap : List Nat} (h : compOk XN fs sc N k cap = true) : CompOk XN fs sc N k cap := by
  unfold compOk at h
  simp only [Bool.and_eq_true, List.all_eq_true, decide_eq_true_eq, Bool.or_eq_true] at h
  obtain ⟨⟨⟨⟨⟨h1, h2⟩, h3⟩, h4⟩, h5⟩, h6⟩ := h
  exact ⟨h1, h2, fun y hy e => (h3 y hy).resolve_left fun z => z e, fun y hy e => (h4 y hy).resolve_left fun z => z e, h5, h6⟩
section
variable {X : Cx} {pins : List (Addr × Obj)} {σ : St} {H : Hp} {s : Shared} {scope : Scope} {N : List Str} {k : Nat} {cap : List Nat} {fp : List Addr}
theorem Cx.comp_kind {x : Str} {C : Addr} {s₀ : Shared} {H₀ : Hp} {ex : List Addr} (hk : X.env.scope.kind = .function) :
    (X.comp scope N C s₀ H₀ ex).env.kindOf x = (scope.names.lookup x).map fun k => if (k == NameKind.free && X.env.kindOf x == some .cell) then NameKind.cell else k := by
  show (relabel scope X.env).names.lookup x = _
  unfold relabel
  rw [lookup_relabel]
  congr 1
  funext k
  rw [hk]; simp
theorem Inv.freeCells (I : Inv X pins σ H s) (c : CompOk X.N X.env.scope scope N k cap) : ∀ y ∈ scope.names, y.2 = .free->∃ d, X.env.cells.lookup y.1 = some d :=
  fun y hy e => I.ok.has y.1 (.inl (c.frees y hy e))
theorem Inv.block (I : Inv X pins σ H s) (c : CompOk X.N X.env.scope scope N k cap) (hf : ∀ b ∈ fp, FpOk X pins H b) (ho : ∀ b ∈ fp, ∃ o, s.heap.get? b = some o) {D C : Addr} {s1 : Shared}
    (hD : s.heap.objs.size ≤ D) (hC : s.heap.objs.size ≤ C) (hDC : D ≠ C) (hos : s1.os = s.os) (hg : s1.gens = s.gens) (keep : ∀ b o, s.heap.get? b = some o->s1.heap.get? b = some o)
    (hl : s1.heap.get? D = some { cls := .type "list", data := .seq #[] }) (hn : s1.heap.Ns C fun _ => none) :
    Inv (X.comp scope N C s H fp) [] (st0 k cap σ) (upd H D (.lst [])) s1 := by
  have hfc := I.freeCells c
  have lt : ∀ b ∈ fp, b < s.heap.objs.size := fun b hb => let ⟨o, e⟩ := ho b hb; Heap.lt_size e
  have clt : ∀ x d, X.env.cells.lookup x = some d->d < s.heap.objs.size := fun x d e => let ⟨v, o, q, _⟩ := I.cell x d e; Heap.lt_size q
  have sub := clos_sub (cells := X.env.cells) (names := scope.names) (acc := []) hfc (fun x c h => by simp at h)
  have fresh : ∀ a, s.heap.objs.size ≤ a->H a = none := fun a h => I.hok.fresh h
  have kindf : ∀ x, ((X.comp scope N C s H fp).env.kindOf x = some .cell ∨ (X.comp scope N C s H fp).env.kindOf x = some .free)->(x, NameKind.free) ∈ scope.names := fun x h => by
    rw [Cx.comp_kind I.ok.kind] at h
    cases e : scope.names.lookup x with
    | none => rw [e] at h; simp at h
    | some kd =>
      have m := mem_of_lookup e
      rw [e] at h
      cases kd with
      | free => exact m
      | cell => exact absurd rfl (c.nocell _ m)
      | «local» => simp at h
      | globalExplicit => simp at h
      | globalImplicit => simp at h
  have ok : (X.comp scope N C s H fp).Ok :=
    { mod := I.ok.mod
      kind := c.kind
      glob := I.ok.glob
      blt := I.ok.blt
      above := hC
      inj := fun x y d hx hy => I.ok.inj x y d (sub x d hx) (sub y d hy)
      has := fun x h => clos_has (.inl (kindf x h))
      cab := fun x d h => by cases h
      hd := I.ok.hd
      frames := I.ok.frames
      stk := .inl rfl
      exf := fun b hb => ⟨fun z => anelt (lt b hb) hC z, fun x d hx => (hf b hb).2.2.2.2.1 x d (sub x d hx)⟩
      bs := I.bs
      bsz := Nat.le_trans I.ok.bsz I.sz
      noex := fun b o e hb => by
        rcases (hf b hb).2.2.2.1 with h | h
        · exact I.ok.noex b o e h
        · exact absurd (Heap.lt_size (I.ok.bs b o e).1) (Nat.not_lt.mpr h)
      exfs := fun b hb hm => by
        rcases List.mem_cons.mp (I.stkSub b hm) with h | h
        · exact (hf b hb).2.1 h
        · exact (hf b hb).2.2.1 h
      funs := I.stack
      frf := I.stkFree }
  have nD : H D = none := fresh D hD
  refine
    { ok := ok
      os := hos
      bare := by rw [hg]; exact I.bare
      base := Un.laid keep hD nD
      loc := ⟨_, hn, ?_⟩
      cell := fun x d h => let ⟨v, q⟩ := I.cell x d (sub x d h); ⟨v, q.keeps keep⟩
      free := by
        show upd H D _ C = none
        rw [upd_ne (Ne.symm hDC)]; exact fresh C hC
      freeC := fun x d h => by
        have h' := sub x d h
        rw [upd_ne (anelt (clt x d h') hD)]; exact I.freeC x d h'
      pin := fun p hp => by cases hp
      hok := I.hok.laid keep hD ⟨Nat.zero_le _, [], 0, .nil, hl⟩
      len := by
        show (st0 k cap σ).length = N.length
        unfold st0; rw [List.length_append, List.length_replicate, List.length_map, c.len] }
  intro i x v hi hv _
  have hi : N[i]? = some x := hi
  unfold st0 at hv
  by_cases hik : i < k
  · rw [List.getElem?_append_left (by rw [List.length_replicate]; exact hik), List.getElem?_replicate, if_pos hik] at hv
    cases hv
  · rw [List.getElem?_append_right (by rw [List.length_replicate]; omega), List.length_replicate, List.getElem?_map] at hv
    cases ej : cap[i - k]? with
    | none => rw [ej] at hv; cases hv
    | some j =>
      rw [ej] at hv
      have hv : (σ[j]?).getD none = some v := Option.some.inj hv
      have hσ : σ[j]? = some (some v) := by
        cases e : σ[j]? with
        | none => rw [e] at hv; cases hv
        | some z => rw [e] at hv; exact congrArg some hv
      have hm : (j, x) ∈ cap.zip (N.drop k) := by
        refine List.mem_iff_getElem?.mpr ⟨i - k, ?_⟩
        rw [List.getElem?_zip_eq_some]
        refine ⟨ej, ?_⟩
        rw [List.getElem?_drop, show k + (i - k) = i by omega]; exact hi
      obtain ⟨hX, hfree⟩ := c.caps _ hm
      have mf := mem_of_lookup hfree
      have hcell := c.frees _ mf rfl
      obtain ⟨m, _, q⟩ := I.loc
      obtain ⟨u, ru, lk⟩ := q j x v hX hσ (.inr (.inl hcell))
      refine ⟨u, ru, .inr ⟨.inl ?_, ?_⟩⟩
      · rw [Cx.comp_kind I.ok.kind, hfree]
        have : (X.env.kindOf x == some NameKind.cell) = true := by
          show (X.env.scope.names.lookup x == some NameKind.cell) = true
          rw [hcell]; rfl
        simp [this]
      · rcases lk with ⟨hloc, _⟩ | ⟨_, d, hd, hcv⟩
        · have hloc : X.env.scope.names.lookup x = some .local := hloc
          rw [hcell] at hloc; cases hloc
        · obtain ⟨d', hd'⟩ := clos_has (cells := X.env.cells) (acc := []) (.inl mf : (x, NameKind.free) ∈ scope.names ∨ _)
          have := sub x d' hd'
          rw [hd] at this; cases this
          exact ⟨d, hd', hcv.keeps keep⟩
theorem Inv.unblock {H' : Hp} {σ' : St} {s1 : Shared} {C : Addr} {ps : List (Addr × Obj)} (I : Inv X pins σ H s) (hf : ∀ b ∈ fp, FpOk X pins H b) (J : Inv (X.comp scope N C s H fp) ps σ' H' s1) : Inv X pins σ H' s1 :=
  I.call' (ch := fp) J.os J.base J.hok J.bare fun b hb => ⟨(hf b hb).2.2.2.1, (hf b hb).2.1, (hf b hb).2.2.2.2.1, (hf b hb).2.2.2.2.2⟩
end
def tComp (k : Nat) (cap : List Nat) (wi : TI) (g : TG) (tt : TT) (te : TE) : TE := fun σ H Q => wi σ H fun J H1 => ∀ D, H1 D = none->∃ W : Nat->Nat->St->Hp->List V->Prop,
  (∃ m, W 0 m (st0 k cap σ) (upd H1 D (.lst [])) []) /\ ∀ i m σ' H' ys, W i m σ' H' ys->(J.stop i H' /\ Q (.ref D) H') ∨
    (J.go i H' /\ ∃ N : St->Hp->List V->Prop, (∀ σ' H' ys', N σ' H' ys'->∃ m', m' < m /\ W (i + 1) m' σ' H' ys') /\ ∀ x H2, J.yld i H' x H2->g x σ' H2 fun σ3 H3 => tt σ3 H3 fun b H4 => if b = true then
      te σ3 H4 fun y H5 => H5 D = some (.lst ys) /\ ys.length < sizeLine /\ N σ3 (upd H5 D (.lst (ys ++ [y]))) (ys ++ [y])
      else N σ3 H4 ys)
def tYes : TT := fun _ H Q => Q true H
def PTs (X : Cx) (ifs : List Expr) (t : TT) : Prop :=
  ∀ (pins : List (Addr × Obj)) (s : Shared) (σ : St) (H : Hp) (Q : Bool->Hp->Prop), Inv X pins σ H s->t σ H Q →
    wpAny (model X.prog X.w) X.A (forIn ifs true fun c r => if r = true then do let ok ← isTrue c X.env (eval c X.env); pure (ForInStep.yield ok) else pure (ForInStep.yield r)) (TP X pins σ Q) X.xe s
theorem pts_nil {X : Cx} : PTs X [] tYes := fun _ _ _ H _ I h => wpAny_tests_nil ⟨H, I, h⟩
theorem pts_one {X : Cx} {c : Expr} {t : TT} (h : PT X c t) : PTs X [c] t := fun pins s σ H Q I hw => wpAny_tests_one (h pins s σ H Q I hw)
section
variable {prog : Program} {w : World} {A : Around} {R : Result->Shared->Prop} {s : Shared}
theorem codeAny_compLoop_go {elt target iter : Expr} {ifs : List Expr} {scope : Scope} {pos : Pos} {it acc : Value} {env : Env} (I : Nat->Shared->Prop)
    (turn : ∀ n s, I n s->wpAny (model prog w) A (pyNext it) (fun r s₁ => match r with
      | none => R (.ok .next) s₁
      | some v => wpAny (model prog w) A (letOwnedTupleGo target it v) (fun _ s₀ => wpAny (model prog w) A (assign target env v) (fun _ s₂ =>
          wpAny (model prog w) A (forIn ifs true fun c r => if r = true then do let ok ← isTrue c env (eval c env); pure (ForInStep.yield ok) else pure (ForInStep.yield r)) (fun ok s₃ =>
            if ok = true then wpAny (model prog w) A (eval elt env) (fun x s₄ =>
              wpAny (model prog w) A (call (.builtin "list.append") [acc, x]) (fun _ s₅ => ∃ m, m < n /\ I m s₅) (notedBy (model prog w) A env fun e s' => R (.error e) s') s₄) (notedBy (model prog w) A env fun e s' => R (.error e) s') s₃
            else ∃ m, m < n /\ I m s₃) (notedBy (model prog w) A env fun e s' => R (.error e) s') s₂) (notedBy (model prog w) A env fun e s' => R (.error e) s') s₀) (notedBy (model prog w) A env fun e s' => R (.error e) s') s₁) (notedBy (model prog w) A env fun e s' => R (.error e) s') s)
    (n : Nat) (h : I n s) :
    codeAny (model prog w) A (.compLoop (.ListComp elt [⟨target, iter, ifs, 0⟩] scope pos) 0 it acc env) R s := by
  refine codeAny_loop rfl I (fun n s hI => ?_) n h
  show wpAny _ A ((compTurn (.ListComp elt [⟨target, iter, ifs, 0⟩] scope pos) 0 it acc env).onRaise (fun x => do noteFrame x env; theTreesLotGoes x)) _ _ s
  refine wpAny_noted ?_
  rw [compTurn_list]
  refine wpAny_bind (wpAny_standAt (wpAny_bind (wpAny_mono (turn n s hI) (fun r s₁ h₁ => ?_) fun _ _ h' => h')))
  cases r with
  | none => exact wpAny_pure h₁
  | some v =>
    refine wpAny_bind (wpAny_mono h₁ (fun _ s₀ h₀ => ?_) fun _ _ h' => h')
    refine wpAny_bind (wpAny_mono h₀ (fun _ s₂ h₂ => wpAny_bind (wpAny_mono h₂ (fun ok s₃ h₃ => ?_) fun _ _ h' => h')) fun _ _ h' => h')
    cases ok with
    | false => exact wpAny_pure ⟨rfl, h₃⟩
    | true =>
      exact wpAny_bind (wpAny_bind (wpAny_mono h₃ (fun x s₄ h₄ => wpAny_bind (wpAny_mono h₄ (fun _ s₅ h₅ => wpAny_pure (wpAny_pure ⟨rfl, h₅⟩)) fun _ _ h' => h')) fun _ _ h' => h'))
end
section
variable {X : Cx} {scope : Scope} {N : List Str} {k : Nat} {cap : List Nat} {tg iter elt : Expr} {ifs : List Expr} {wi : TI} {g : TG} {tt : TT} {te : TE} {pos : Pos}
theorem comp_loop {E : Value->Shared->Prop} {use : Option (Value->Sem Unit)} {QQ : Value->Shared->Prop} {pins : List (Addr × Obj)} {s : Shared} {σ : St} {H : Hp} {it : Addr} {fp : List Addr} {tn : Nat->Heap->Prop} {J : It} {Q : VK}
    (hc : X.calm = true) (c : CompOk X.N X.env.scope scope N k cap)
    (hg : ∀ C s₀ H₀ ex, PG (X.comp scope N C s₀ H₀ ex).nox tg g) (ht : ∀ C s₀ H₀ ex, PTs (X.comp scope N C s₀ H₀ ex).nox ifs tt) (he : ∀ C s₀ H₀ ex, PE (X.comp scope N C s₀ H₀ ex).nox elt te)
    (I : Inv X pins σ H s) (T : Turn X.prog X.w X.K tg J fp it tn) (st : tn 0 s.heap) (hf : ∀ b ∈ fp, FpOk X pins H b)
    (h : ∀ D, H D = none->∃ W : Nat->Nat->St->Hp->List V->Prop, (∃ m, W 0 m (st0 k cap σ) (upd H D (.lst [])) []) /\ ∀ i m σ' H' ys, W i m σ' H' ys->(J.stop i H' /\ Q (.ref D) H') ∨
      (J.go i H' /\ ∃ N : St->Hp->List V->Prop, (∀ σ' H' ys', N σ' H' ys'->∃ m', m' < m /\ W (i + 1) m' σ' H' ys') /\ ∀ x H2, J.yld i H' x H2->g x σ' H2 fun σ3 H3 => tt σ3 H3 fun b H4 => if b = true then
        te σ3 H4 fun y H5 => H5 D = some (.lst ys) /\ ys.length < sizeLine /\ N σ3 (upd H5 D (.lst (ys ++ [y]))) (ys ++ [y])
        else N σ3 H4 ys))
    (hQ : ∀ D C s1 H', Inv X pins σ H' s1->Q (.ref D) H'->(∃ m, s1.heap.Ns C m)->H' C = none->X.s₀.heap.objs.size ≤ C->C ≠ X.env.locals->(∀ x c, X.env.cells.lookup x = some c->c ≠ C)->(∀ p ∈ X.pn ++ pins, p.1 ≠ C) →
      compPost (model X.prog X.w) X.A E use QQ (.ref D) C (.ok .next) s1) :
    wpAny (model X.prog X.w) X.A (newList []) (fun acc s₃ => wpAny (model X.prog X.w) X.A (newFunctionEnv scope X.env.globals (clos X.env.cells scope.names []) [] X.env.qual none .none (some X.env)) (fun cenv s₄ =>
      codeAny (model X.prog X.w) X.A (.compStart (.ListComp elt [⟨tg, iter, ifs, 0⟩] scope pos) 0 (.ref it) acc { cenv with scope := relabel scope X.env }) (compPost (model X.prog X.w) X.A E use QQ acc cenv.locals) s₄) E s₃) E s := by
  refine wpAny_newObj_type (wpAny_newFunctionEnv c.nocell (by intro y hy; simp at hy) (fun h₁ hns₁ hsb₁ => ?_) c.kind)
  dsimp only at hns₁ hsb₁ ⊢
  generalize hH2 : s.heap.push { cls := .type "list", dict := none, data := .seq ([] : List Value).toArray } = H2 at hns₁ hsb₁ ⊢
  have hC : H2.objs.size = s.heap.objs.size + 1 := by rw [← hH2, Heap.size_push]
  have hDC : s.heap.objs.size ≠ H2.objs.size := by rw [hC]; exact Nat.ne_of_lt (Nat.lt_succ_self _)
  have hle : s.heap.objs.size ≤ H2.objs.size := by rw [hC]; exact Nat.le_succ _
  have keep : ∀ b o, s.heap.get? b = some o->h₁.get? b = some o := fun b o e => by
    exact hsb₁.extBut b o (anelt (Heap.lt_size e) hle) (Heap.get?_push_of_some _ (hH2 ▸ Heap.get?_push_of_some _ e))
  have hl : h₁.get? s.heap.objs.size = some { cls := .type "list", data := .seq #[] } := hsb₁.extBut _ _ hDC (Heap.get?_push_of_some _ (hH2 ▸ Heap.get?_push_size _ rfl))
  have nD : H s.heap.objs.size = none := I.hok.fresh (Nat.le_refl _)
  obtain ⟨W, ⟨m0, w0⟩, turn⟩ := h _ nD
  have ho : ∀ b ∈ fp, ∃ o, s.heap.get? b = some o := fun b hb => let ⟨o, e, _⟩ := T.obj _ _ st b hb; ⟨o, e⟩
  have hCs : X.s₀.heap.objs.size ≤ H2.objs.size := Nat.le_trans I.sz hle
  have hCl : H2.objs.size ≠ X.env.locals := (anelt I.lt hle).symm
  have hCc : ∀ x d, X.env.cells.lookup x = some d->d ≠ H2.objs.size := fun x d e => by
    obtain ⟨v, o, q, _⟩ := I.cell x d e
    exact anelt (Heap.lt_size q) hle
  have hCp : ∀ p ∈ X.pn ++ pins, p.1 ≠ H2.objs.size := fun p hp => by
    exact anelt (Heap.lt_size (I.pin p hp).1) hle
  have loop : ∀ s₃ : Shared, s₃ = { s with heap := h₁, toks := s.toks + ([] : List (Str × Value)).length } →
      codeAny (model X.prog X.w) X.A (.compLoop (.ListComp elt [⟨tg, iter, ifs, 0⟩] scope pos) 0 (.ref it) (.ref s.heap.objs.size) (compEnvC scope (clos X.env.cells scope.names []) H2.objs.size X.env))
        (compPost (model X.prog X.w) X.A E use QQ (.ref s.heap.objs.size) H2.objs.size) s₃ := by
    rintro s₃ rfl
    have I0 : Inv (X.comp scope N H2.objs.size s H fp) [] (st0 k cap σ) (upd H s.heap.objs.size (.lst [])) { s with heap := h₁, toks := s.toks + ([] : List (Str × Value)).length } :=
      I.block c hf ho (Nat.le_refl _) hle hDC rfl rfl keep hl (by simpa using hns₁)
    have stat : ∀ {H' : Hp} {ps : List (Addr × Obj)}, (∀ b ∈ fp, H' b = none)->ps = []->∀ b ∈ fp, FpOk (X.comp scope N H2.objs.size s H fp).nox ps H' b := fun hn hp b hb => by
      subst hp
      exact ⟨hn b hb, (I0.ok.exf b hb).1, I0.ok.exfs b hb, .inl hb, (I0.ok.exf b hb).2, fun p hp => by cases hp⟩
    have nok : ∀ b ∈ fp, upd H s.heap.objs.size (.lst []) b = none := fun b hb => by
      obtain ⟨o, e⟩ := ho b hb
      rw [upd_ne (anelt (Heap.lt_size e) (Nat.le_refl _))]; exact (hf b hb).1
    refine codeAny_compLoop_go (fun n s' => ∃ i σ' H' ys, Inv (X.comp scope N H2.objs.size s H fp).nox [] σ' H' s' /\ tn i s'.heap /\ (∀ b ∈ fp, H' b = none) /\ W i n σ' H' ys) ?_ m0
      ⟨0, _, _, [], I0.wish _, T.keep _ _ _ st fun b _ o e => keep b o e, nok, w0⟩
    rintro n s' ⟨i, σ', H', ys, I', st', fr', w'⟩
    rcases turn i n σ' H' ys w' with ⟨stop, q⟩ | ⟨go, NN, hNN, step⟩
    · refine wpAny_mono (T.done (X.comp scope N H2.objs.size s H fp).nox rfl rfl rfl hc i [] s' σ' H' (fun _ _ => False) I' (stat fr' rfl) st' stop) (fun r s4 ⟨hr, I4⟩ => ?_) (fun _ _ x => x.elim)
      subst hr
      exact hQ _ _ s4 H' (I.unblock hf I4.unwish) q (let ⟨m, hn, _⟩ := I4.loc; ⟨m, hn⟩) I4.free hCs hCl hCc hCp
    · refine wpAny_mono (T.item (X.comp scope N H2.objs.size s H fp).nox rfl rfl rfl hc i [] s' σ' H' (fun _ _ => False) I' (stat fr' rfl) st' go) (fun r s4 ⟨u, hr, h4⟩ => ?_) (fun _ _ x => x.elim)
      subst hr
      refine wpAny_mono h4 (fun _ s5 ⟨x, H5, I5, r5, y5, st5, fr5⟩ => ?_) (fun _ _ x => x.elim)
      have I5' := I5.pinned (stat fr5 rfl) (T.obj _ _ st5)
      refine wpAny_mono (hg _ _ _ _ _ s5 σ' H5 x u _ I5' r5 (step x H5 y5)) (fun _ s6 ⟨σ6, H6, I6, q6⟩ => ?_) (fun _ _ x => x.elim)
      refine wpAny_mono (ht _ _ _ _ _ s6 σ6 H6 _ I6 q6) (fun ok s7 ⟨H7, I7, q7⟩ => ?_) (fun _ _ x => x.elim)
      have again : ∀ {H8 : Hp} {s8 : Shared} {ys8 : List V}, Inv (X.comp scope N H2.objs.size s H fp).nox ([] ++ pinsAt fp s5.heap) σ6 H8 s8->NN σ6 H8 ys8 →
          ∃ m, m < n /\ ∃ i σ' H' ys, Inv (X.comp scope N H2.objs.size s H fp).nox [] σ' H' s8 /\ tn i s8.heap /\ (∀ b ∈ fp, H' b = none) /\ W i m σ' H' ys := fun {H8 s8 ys8} I8 n8 => by
        obtain ⟨m', hm, w8⟩ := hNN _ _ _ n8
        refine ⟨m', hm, i + 1, σ6, H8, ys8, I8.unpinned, T.keep _ _ _ st5 fun b hb o e => (I8.pin (b, o) (List.mem_append_right _ (List.mem_append_right _ (mem_pinsAt hb e)))).1, fun b hb => ?_, w8⟩
        obtain ⟨o, e, d⟩ := T.obj _ _ st5 b hb
        exact (I8.pin (b, o) (List.mem_append_right _ (List.mem_append_right _ (mem_pinsAt hb e)))).2.1
      cases ok with
      | false => exact again I7 q7
      | true =>
        refine wpAny_mono (he _ _ _ _ _ s7 σ6 H7 _ I7 q7) (fun y s8 ⟨v, H8, I8, rv, hD, hlen, w8⟩ => ?_) (fun _ _ x => x.elim)
        refine wpAny_mono (mt_append (X := (X.comp scope N H2.objs.size s H fp).nox) _ s8 σ6 H8 (.ref s.heap.objs.size) [v] (.ref s.heap.objs.size) [y] (fun _ H9 => H9 = upd H8 s.heap.objs.size (.lst (ys ++ [v]))) I8 rfl (.cons rv .nil) ⟨_, ys, v, rfl, rfl, hD, hlen, rfl⟩) (fun _ s9 ⟨_, H9, I9, _, e9⟩ => ?_) (fun _ _ x => x.elim)
        subst e9
        exact again I9 w8
  exact codeAny_compStart_list (loop _ rfl) (T.self _ 0 _ _ _ (T.keep _ _ _ st fun b _ o e => keep b o e) (loop _ rfl))
theorem pe_comp (hc : X.calm = true) (hco : compOk X.N X.env.scope scope N k cap = true) (hi : PI X tg iter wi)
    (hg : ∀ C s₀ H₀ ex, PG (X.comp scope N C s₀ H₀ ex).nox tg g) (ht : ∀ C s₀ H₀ ex, PTs (X.comp scope N C s₀ H₀ ex).nox ifs tt) (he : ∀ C s₀ H₀ ex, PE (X.comp scope N C s₀ H₀ ex).nox elt te)
    (hs : ∀ x, foldedSetIterable iter X.env x = pure x := by intro _; rfl) : PE X (.ListComp elt [⟨tg, iter, ifs, 0⟩] scope pos) (tComp k cap wi g tt te) := by
  intro pins s σ H Q I h
  have c := CompOk.of hco
  rw [eval_ListComp]
  refine wpAny_comprehension_free (use := none) (cl := clos X.env.cells scope.names []) rfl hs (closureFor_eq (I.freeCells c)) c.kind c.locs (thn (hi pins s σ H _ I h) fun xv s₁ h₁ => thn h₁ fun itv s₂ h₂ => ?_)
  obtain ⟨it, fp, tn, J, H2, e, I2, T, st, hf, q⟩ := h₂
  subst e
  exact comp_loop (use := none) hc c hg ht he I2 T st hf q fun D C s1 H' I1 q1 ⟨m, hn⟩ hCn hCs hCl hCc hCp =>
    ⟨m, hn, fun h' hs' => ⟨.ref D, H', I1.turned (t' := s1.toks) (fun b o hb e => hs'.extBut b o hb e) hCn hCl (.inr hCs) hCc hCp, rfl, q1⟩⟩
theorem ps_setComp {i : Nat} {x : Str} {pos' spos : Pos} (hN : X.N.Nodup) (hi' : X.N[i]? = some x) (hx : Loc X.env.scope x) (hc : X.calm = true) (hco : compOk X.N X.env.scope scope N k cap = true) (hi : PI X tg iter wi)
    (hg : ∀ C s₀ H₀ ex, PG (X.comp scope N C s₀ H₀ ex).nox tg g) (ht : ∀ C s₀ H₀ ex, PTs (X.comp scope N C s₀ H₀ ex).nox ifs tt) (he : ∀ C s₀ H₀ ex, PE (X.comp scope N C s₀ H₀ ex).nox elt te)
    (hsw : swapsWith (.ListComp elt [⟨tg, iter, ifs, 0⟩] scope pos) (some (.Name x pos')) spos.line X.env = pure true := by rfl)
    (hs : ∀ x, foldedSetIterable iter X.env x = pure x := by intro _; rfl) (hf' : X.fn x = true ∨ X.env.scope.names.lookup x = some .local := by first | exact .inl rfl | exact .inr rfl | assumption) :
    PS X (.Assign [.Name x pos'] (.ListComp elt [⟨tg, iter, ifs, 0⟩] scope pos) spos) (tAsg (tComp k cap wi g tt te) (gName i)) := by
  intro pins s σ H D I h
  have c := CompOk.of hco
  rw [exec_Assign_Name_used _ _ _ _ hsw]
  refine wpAny_bind (wpAny_standAt (wpAny_bind ?_))
  show wpAny _ X.A (do let _ ← comprehension (.ListComp elt [⟨tg, iter, ifs, 0⟩] scope pos) scope X.env _ (newList []) false (eval iter X.env) (some (assign (.Name x pos') X.env))) _ _ s
  refine wpAny_bind (wpAny_mono (wpAny_comprehension_free (use := some (assign (.Name x pos') X.env)) (Q := fun _ s' => SP X pins D .next s') (cl := clos X.env.cells scope.names []) rfl hs (closureFor_eq (I.freeCells c)) c.kind c.locs
    (thn (hi pins s σ H _ I h) fun xv s₁ h₁ => thn h₁ fun itv s₂ h₂ => ?_)) (fun _ s' hq => wpAny_pure (wpAny_pure hq)) fun _ _ e => e)
  obtain ⟨it, fp, tn, J, H2, e, I2, T, st, hf, q⟩ := h₂
  subst e
  refine comp_loop (use := some (assign (.Name x pos') X.env)) (Q := fun v H1 => gName i v σ H1 D.nx) hc c hg ht he I2 T st hf q fun L C s1 H' I1 q1 ⟨m, hn⟩ hCn hCs hCl hCc hCp => ?_
  show wpAny _ X.A (assign (.Name x pos') X.env (.ref L)) _ _ s1
  refine wpAny_assign_Name (store_ok2 (v := .ref L) I1 hN hi' hx rfl (fun s2 I3 ⟨a, sb, ha⟩ => ⟨m, ?_, fun h' hs' => ?_⟩) hf')
  · refine hn.sameBut sb ?_
    rcases ha with z | z
    · rw [z]; exact hCl
    · exact (hCc _ _ z).symm
  · exact ⟨_, H', I3.turned (t' := s2.toks) (fun b o hb e => hs'.extBut b o hb e) hCn hCl (.inr hCs) hCc hCp, q1⟩
end
theorem comp_list {K : PySem.W.Frag} {a : Addr} (D : Addr) {xs : List V} {g : TG} {tt : TT} {te : TE} {σ : St} {H : Hp} {R : Hp->Prop} (Pv : Nat->St->Hp->List V->Prop) (h0 : Pv 0 σ H []) (hl : ∀ i σ H ys, i ≤ xs.length->Pv i σ H ys->SqL K H a xs)
    (hs : ∀ i x σ H ys, xs[i]? = some x->Pv i σ H ys->g x σ H fun σ3 H3 => tt σ3 H3 fun b H4 => if b = true then
      te σ3 H4 fun y H5 => H5 D = some (.lst ys) /\ ys.length < sizeLine /\ Pv (i + 1) σ3 (upd H5 D (.lst (ys ++ [y]))) (ys ++ [y]) else Pv (i + 1) σ3 H4 ys) (hd : ∀ σ H ys, Pv xs.length σ H ys->R H) :
    ∃ W : Nat->Nat->St->Hp->List V->Prop, (∃ m, W 0 m σ H []) /\ ∀ i m σ' H' ys, W i m σ' H' ys->((Itl K a).stop i H' /\ R H') ∨
      ((Itl K a).go i H' /\ ∃ N : St->Hp->List V->Prop, (∀ σ' H' ys', N σ' H' ys'->∃ m', m' < m /\ W (i + 1) m' σ' H' ys') /\ ∀ x H2, (Itl K a).yld i H' x H2->g x σ' H2 fun σ3 H3 => tt σ3 H3 fun b H4 => if b = true then
        te σ3 H4 fun y H5 => H5 D = some (.lst ys) /\ ys.length < sizeLine /\ N σ3 (upd H5 D (.lst (ys ++ [y]))) (ys ++ [y])
        else N σ3 H4 ys) := by
  refine ⟨fun i m σ H ys => m = xs.length - i /\ i ≤ xs.length /\ Pv i σ H ys, ⟨xs.length, by simp, Nat.zero_le _, h0⟩, ?_⟩
  rintro i m σ H ys ⟨rfl, hi, p⟩
  have q := hl i σ H ys hi p
  by_cases hlt : i < xs.length
  · refine .inr ⟨⟨xs, xs[i], q, by simp [hlt]⟩, Pv (i + 1), fun σ' H' ys' p' => ⟨xs.length - (i + 1), by omega, rfl, hlt, p'⟩, fun x H' y => ?_⟩
    obtain ⟨e, y⟩ := y
    subst e
    exact hs i x σ _ ys (y xs q) p
  · have e : i = xs.length := by omega
    subst e
    exact .inl ⟨⟨xs, q, Nat.le_refl _⟩, hd σ H ys p⟩
theorem comp_range {lo : Int} {n : Nat} (D : Addr) {g : TG} {tt : TT} {te : TE} {σ : St} {H : Hp} {R : Hp->Prop} (Pv : Nat->St->Hp->List V->Prop) (h0 : Pv 0 σ H [])
    (hs : ∀ i σ H ys, i < n->Pv i σ H ys->g (.int (lo + i)) σ H fun σ3 H3 => tt σ3 H3 fun b H4 => if b = true then
      te σ3 H4 fun y H5 => H5 D = some (.lst ys) /\ ys.length < sizeLine /\ Pv (i + 1) σ3 (upd H5 D (.lst (ys ++ [y]))) (ys ++ [y]) else Pv (i + 1) σ3 H4 ys) (hd : ∀ σ H ys, Pv n σ H ys->R H) :
    ∃ W : Nat->Nat->St->Hp->List V->Prop, (∃ m, W 0 m σ H []) /\ ∀ i m σ' H' ys, W i m σ' H' ys->((Itr lo n).stop i H' /\ R H') ∨
      ((Itr lo n).go i H' /\ ∃ N : St->Hp->List V->Prop, (∀ σ' H' ys', N σ' H' ys'->∃ m', m' < m /\ W (i + 1) m' σ' H' ys') /\ ∀ x H2, (Itr lo n).yld i H' x H2->g x σ' H2 fun σ3 H3 => tt σ3 H3 fun b H4 => if b = true then
        te σ3 H4 fun y H5 => H5 D = some (.lst ys) /\ ys.length < sizeLine /\ N σ3 (upd H5 D (.lst (ys ++ [y]))) (ys ++ [y])
        else N σ3 H4 ys) := by
  refine ⟨fun i m σ H ys => m = n - i /\ i ≤ n /\ Pv i σ H ys, ⟨n, by simp, Nat.zero_le _, h0⟩, ?_⟩
  rintro i m σ H ys ⟨rfl, hi, p⟩
  by_cases hlt : i < n
  · refine .inr ⟨hlt, Pv (i + 1), fun σ' H' ys' p' => ⟨n - (i + 1), by omega, rfl, hlt, p'⟩, fun x H' y => ?_⟩
    obtain ⟨e, y⟩ := y
    subst e y
    exact hs i σ _ ys hlt p
  · have e : i = n := by omega
    subst e
    exact .inl ⟨Nat.le_refl _, hd σ H ys p⟩
section
variable {X : Cx} {K : PySem.W.Frag}
theorem ix_tupK (hK : X.K = K) : IxR X (rIxT K) := by subst hK; exact ix_tup
end
open PySem PySem.Spec PyProof.Rows
theorem Same.new {H : Hp} {p : Addr} {o : HO} (h : H p = none) : Same H (upd H p o) := fun b u e => by rw [upd_ne (ne_of_none e h)]; exact e
open PySem PySem.Spec PyProof.Rows PySem.SeqAt
def SeqEq (K : PySem.W.Frag) (H : Hp) (R : V->V->Bool->Prop) (x y : V) (b : Bool) : Prop :=
  ∃ (a c : Addr) (xs ys : List V) (e : Nat->Bool), x = .ref a /\ y = .ref c ∧
    ((SqL K H a xs /\ SqL K H c ys /\ xs.length = ys.length /\ (∀ (j : Nat) x' y', xs[j]? = some x'->ys[j]? = some y'->R x' y' (e j)) /\ b = (List.range xs.length).all e) ∨
     (SqL K H a xs /\ SqL K H c ys /\ xs.length ≠ ys.length /\ b = false) ∨
     (SqT K H a xs /\ SqT K H c ys /\ (∀ (j : Nat) x' y', xs[j]? = some x'->ys[j]? = some y'->R x' y' (e j)) /\ b = ((List.range (min xs.length ys.length)).all e && xs.length == ys.length)))
def EqI (K : PySem.W.Frag) (H : Hp) : Nat->V->V->Bool->Prop
  | 0 => fun x y b => (flatV x = true /\ flatV y = true /\ b = eqV x y) ∨ ∃ a, x = .ref a /\ y = .ref a /\ b = true
  | n + 1 => fun x y b => EqI K H n x y b ∨ (x ≠ y /\ SeqEq K H (EqI K H n) x y b)
section
variable {X : Cx} {pins : List (Addr × Obj)} {σ : St} {H : Hp} {s : Shared} {A : Around}
theorem items_at {xs ys : List V} {us vs : List Value} {R : V->V->Bool->Prop} {e : Nat->Bool} (r : Vals xs us) (q : Vals ys vs) (he : ∀ (j : Nat) x' y', xs[j]? = some x'->ys[j]? = some y'->R x' y' (e j))
    (hR : ∀ x y b u v, R x y b->RelV x u->RelV y v->EqAt A s u v b) : ∀ j (h1 : j < us.toArray.size) (h2 : j < vs.toArray.size), EqAt A s us.toArray[j] vs.toArray[j] (e j) := fun j h1 h2 => by
  have h1' : j < us.length := by simpa using h1
  have h2' : j < vs.length := by simpa using h2
  have l1 := r.length
  have l2 := q.length
  have ex : xs[j]? = some (xs[j]'(by omega)) := List.getElem?_eq_getElem (by omega)
  have ey : ys[j]? = some (ys[j]'(by omega)) := List.getElem?_eq_getElem (by omega)
  obtain ⟨u, eu, ru⟩ := Vals.get r ex
  obtain ⟨v, ev, rv⟩ := Vals.get q ey
  have e1 : us.toArray[j] = u := by
    have := (List.getElem?_eq_some_iff.mp eu).2
    simpa using this
  have e2 : vs.toArray[j] = v := by
    have := (List.getElem?_eq_some_iff.mp ev).2
    simpa using this
  rw [e1, e2]
  exact hR _ _ _ _ _ (he j _ _ ex ey) ru rv
theorem SeqEq.rc {R : V->V->Bool->Prop} {x y : V} {b : Bool} {u v : Value} (I : Inv X pins σ H s) (hR : ∀ x y b u v, R x y b->RelV x u->RelV y v->EqAt A.in1 s u v b) (hu : A.units < cLine)
    (h : SeqEq X.K H R x y b) (rx : RelV x u) (ry : RelV y v) : RcAt A s u v b := by
  obtain ⟨a, c, xs, ys, e, rfl, rfl, h⟩ := h
  cases rx
  cases ry
  rcases h with ⟨h1, h2, hl, he, rfl⟩ | ⟨h1, h2, hl, rfl⟩ | ⟨h1, h2, he, rfl⟩
  · obtain ⟨us, r, p, _⟩ := I.list h1
    obtain ⟨vs, q, p2, _⟩ := I.list h2
    have l1 := r.length
    have l2 := q.length
    have z := RcAt.lists (A := A) (e := e) p.isList p2.isList (by simp; omega) hu (items_at r q he hR)
    rw [show us.toArray.size = xs.length by simp; omega] at z
    exact z
  · obtain ⟨us, r, p, _⟩ := I.list h1
    obtain ⟨vs, q, p2, _⟩ := I.list h2
    have l1 := r.length
    have l2 := q.length
    exact RcAt.lists_lengths p.isList p2.isList (by simp; omega) hu
  · obtain ⟨us, r, p, _⟩ := I.tuple h1
    obtain ⟨vs, q, p2, _⟩ := I.tuple h2
    have l1 := r.length
    have l2 := q.length
    have z := RcAt.tuples (A := A) (e := e) (show s.heap.IsTuple a us.toArray from p) (show s.heap.IsTuple c vs.toArray from p2) hu (items_at r q he hR)
    rw [show us.toArray.size = xs.length by simp; omega, show vs.toArray.size = ys.length by simp; omega] at z
    exact z
theorem SeqEq.rcNe {R : V->V->Bool->Prop} {x y : V} {b : Bool} {u v : Value} (I : Inv X pins σ H s) (hR : ∀ x y b u v, R x y b->RelV x u->RelV y v->EqAt A.in1 s u v b) (hu : A.units < cLine)
    (h : SeqEq X.K H R x y b) (rx : RelV x u) (ry : RelV y v) : RcNeAt A s u v (!b) := by
  obtain ⟨a, c, xs, ys, e, rfl, rfl, h⟩ := h
  cases rx
  cases ry
  rcases h with ⟨h1, h2, hl, he, rfl⟩ | ⟨h1, h2, hl, rfl⟩ | ⟨h1, h2, he, rfl⟩
  · obtain ⟨us, r, p, _⟩ := I.list h1
    obtain ⟨vs, q, p2, _⟩ := I.list h2
    have l1 := r.length
    have l2 := q.length
    have z := RcNeAt.lists (A := A) (e := e) p.isList p2.isList (by simp; omega) hu (items_at r q he hR)
    rw [show us.toArray.size = xs.length by simp; omega] at z
    exact z
  · obtain ⟨us, r, p, _⟩ := I.list h1
    obtain ⟨vs, q, p2, _⟩ := I.list h2
    have l1 := r.length
    have l2 := q.length
    exact RcNeAt.lists_lengths p.isList p2.isList (by simp; omega) hu
  · obtain ⟨us, r, p, _⟩ := I.tuple h1
    obtain ⟨vs, q, p2, _⟩ := I.tuple h2
    have l1 := r.length
    have l2 := q.length
    have z := RcNeAt.tuples (A := A) (e := e) (show s.heap.IsTuple a us.toArray from p) (show s.heap.IsTuple c vs.toArray from p2) hu (items_at r q he hR)
    rw [show us.toArray.size = xs.length by simp; omega, show vs.toArray.size = ys.length by simp; omega] at z
    exact z
theorem EqI.at (I : Inv X pins σ H s) : ∀ (n : Nat) {A : Around} {x y : V} {b : Bool} {u v : Value}, A.units + n < cLine->EqI X.K H n x y b->RelV x u->RelV y v->EqAt A s u v b
  | 0, A, x, y, b, u, v, hu, h, rx, ry => by
    rcases h with ⟨fx, fy, rfl⟩ | ⟨a, rfl, rfl, rfl⟩
    · exact eqAt_V rx ry fx fy
    · cases rx
      cases ry
      exact EqAt.same _
  | n + 1, A, x, y, b, u, v, hu, h, rx, ry => by
    rcases h with h | ⟨hne, h⟩
    · exact EqI.at I n (by omega) h rx ry
    · have z := SeqEq.rc (A := A) I (fun x y b u v h rx ry => EqI.at I n (A := A.in1) (by show A.units + 1 + n < cLine; omega) h rx ry) (by omega) h rx ry
      obtain ⟨a, c, xs, ys, e, rfl, rfl, _⟩ := h
      cases rx
      cases ry
      exact EqAt.of_refs (fun e => hne (by rw [e])) z
def rEqR (K : PySem.W.Frag) : R2 := fun x y H Q => ∃ (n : Nat) (b : Bool), n ≤ 8 /\ SeqEq K H (EqI K H n) x y b /\ Q (.bl b) H
def rNeR (K : PySem.W.Frag) : R2 := fun x y H Q => ∃ (n : Nat) (b : Bool), n ≤ 8 /\ SeqEq K H (EqI K H n) x y b /\ Q (.bl (!b)) H
theorem op_eq_ref (hu : X.A.units + 64 < cLine) : OpR X (compareOp .Eq) (rEqR X.K) := by
  rintro pins s σ H x y v u Q I rx ry ⟨n, b, hn, h, q⟩
  exact SeqEq.rc (A := X.A) I (fun x y b u v h rx ry => EqI.at I n (A := X.A.in1) (by show X.A.units + 1 + n < cLine; omega) h rx ry) (by omega) h rx ry X.prog X.w X.xe _ ⟨.bl b, H, I, rfl, q⟩
theorem op_ne_ref (hu : X.A.units + 64 < cLine) : OpR X (compareOp .NotEq) (rNeR X.K) := by
  rintro pins s σ H x y v u Q I rx ry ⟨n, b, hn, h, q⟩
  exact SeqEq.rcNe (A := X.A) I (fun x y b u v h rx ry => EqI.at I n (A := X.A.in1) (by show X.A.units + 1 + n < cLine; omega) h rx ry) (by omega) h rx ry X.prog X.w X.xe _ ⟨.bl (!b), H, I, rfl, q⟩
end
theorem SeqEq.sameL {K : PySem.W.Frag} {H : Hp} {a c : Addr} {xs : List V} (h1 : SqL K H a xs) (h2 : SqL K H c xs) (hx : ∀ x ∈ xs, EqI K H n x x true) : SeqEq K H (EqI K H n) (.ref a) (.ref c) true :=
  ⟨a, c, xs, xs, fun _ => true, rfl, rfl, .inl ⟨h1, h2, rfl, fun j x y e1 e2 => by
    rw [e1] at e2; cases e2
    exact hx x (List.mem_of_getElem? e1), by simp⟩⟩
theorem eqI_same {K : PySem.W.Frag} {H : Hp} (a : Addr) : EqI K H 0 (.ref a) (.ref a) true := .inr ⟨a, rfl, rfl, rfl⟩
open PySem PySem.Spec PyProof.Rows
def veTail : List Value := [.type "ValueError", .type "Exception", .type "BaseException", .type "object"]
def isRefV : Value->Bool
  | .ref _ => true
  | _ => false
def excMro (l : List Value) : Bool := l.dropWhile isRefV == veTail
def xobjIn (K : PySem.W.Frag) (C : Addr) : Bool := match K.lookup C with
  | some ⟨.type "type", _, .cls cd, sl⟩ => (match cd.mro, sl.toList with
    | .ref D :: bm, [_, _, _, _, some (.builtin n), _] => D == C && !cd.hasDel && excMro bm && n == "ValueError.__new__" && cd.hasDict
    | _, _ => false)
  | _ => false
structure XObj (h : Heap) (C : Addr) : Prop where
  ex : ∃ nm q N bs bm sn sub ab col dd k0 k1 k2 k3 k5, h.get? C = some (excClassObj nm q C N bs bm true sn sub ab col dd k0 k1 k2 k3 k5 "ValueError.__new__") /\ excMro bm = true
theorem xobj_of {K : PySem.W.Frag} {C : Addr} (q : xobjIn K C = true) : ∃ nm qn N bs bm sn sub ab col dd k0 k1 k2 k3 k5, K.lookup C = some (excClassObj nm qn C N bs bm true sn sub ab col dd k0 k1 k2 k3 k5 "ValueError.__new__") /\ excMro bm = true := by
  unfold xobjIn at q
  split at q
  · rename_i dd cd sl ho
    split at q
    · rename_i D bm k0 k1 k2 k3 n k5 hm hs
      simp only [Bool.and_eq_true, beq_iff_eq, Bool.not_eq_true'] at q
      obtain ⟨⟨⟨⟨rfl, hdel⟩, hb⟩, rfl⟩, hd⟩ := q
      obtain ⟨nm, bs, mro, ns, qn, hd', sn, sub, ab, col, del⟩ := cd
      dsimp only at hm hdel hd
      subst hm hdel hd
      have hsl : sl = #[k0, k1, k2, k3, some (.builtin "ValueError.__new__"), k5] := by
        obtain ⟨l⟩ := sl
        simp only at hs
        rw [hs]
      subst hsl
      exact ⟨nm, qn, ns, bs, bm, sn, sub, ab, col, dd, k0, k1, k2, k3, k5, ho, hb⟩
    · cases q
  · cases q
structure XCls (K : PySem.W.Frag) (C : Addr) : Prop where
  obj : xobjIn K C = true
  sa : PySem.W.findIn K (.ref C) "__setattr__" = some (some (.builtin "object.__setattr__"))
  ga : PySem.W.findIn K (.ref C) "__getattribute__" = some (some (.builtin "BaseException.__getattribute__"))
  gh : PySem.W.findIn K (.ref C) "__getattr__" = some none
  cl : PySem.W.findIn K (.ref C) "__class__" = some (some (.builtin "object.__class__"))
  clg : PySem.W.specialIn K (.builtin "object.__class__") "__get__" = some (some (.builtin "getset_descriptor.__get__"))
  clt : PySem.W.takesIn K (.builtin "object.__class__") = some true
theorem excMro_cons {C : Addr} {bm : List Value} (h : excMro bm = true) : excMro (.ref C :: bm) = true := h
theorem XCls.mro {K : PySem.W.Frag} {C : Addr} (c : XCls K C) : ∃ cd, PySem.W.clsIn K C = some cd /\ excMro cd.mro = true /\ cd.hasDict = true := by
  obtain ⟨nm, qn, N, bs, bm, sn, sub, ab, col, dd, k0, k1, k2, k3, k5, ho, hb⟩ := xobj_of c.obj
  refine ⟨{ name := nm, bases := bs, mro := .ref C :: bm, ns := N, qualname := qn, hasDict := true, slotNames := sn, subclasses := sub, abstract := ab, collection := col, hasDel := false }, ?_, excMro_cons (C := C) hb, rfl⟩
  unfold PySem.W.clsIn
  rw [ho]
open PySem PySem.Spec PyProof.Rows
def IsExc (raw : Bool) (e C : Addr) (od : Option Addr) (h : Heap) : Prop := ∃ vs sl, h.get? e = some ⟨.ref C, od, .fields vs, sl⟩ /\ vs.size = 6 /\ (raw = true->vs[1]? = some .none)
abbrev exO (raw : Bool) (e C : Addr) (od : Option Addr) : HO := .ext (IsExc raw e C od)
open PySem PySem.Spec PyProof.Rows
def Fly (h : Heap) (e T : Addr) (fl : Value) : Prop := ∃ oe vs oT ts, h.get? e = some oe /\ oe.data = .fields vs /\ vs[1]? = some (.ref T) /\ h.get? T = some oT /\ oT.data = .fields ts /\ ts[3]? = some fl /\ T ≠ e
structure Noted (fs ch : List Addr) (e T : Addr) (fl : Value) (h h' : Heap) : Prop where
  keep : ∀ b o, b ∉ fs->b ∉ ch->b ≠ e->h.get? b = some o->h'.get? b = some o
  slot : ∀ b o, b ∈ fs->b ∉ ch->b ≠ e->h.get? b = some o->∃ sl, h'.get? b = some { o with slots := sl }
  new : h.objs.size ≤ T
  exc : ∀ oe vs, h.get? e = some oe->oe.data = .fields vs->h'.get? e = some (oe.mapFields (·.setIfInBounds 1 (.ref T)))
  fly : Fly h' e T fl
open PySem PySem.Spec PyProof.Rows
def CXx (P : Program) (w : World) : CXT := fun outer H s E v s' => ∃ e C od T H', v = .ref e /\ s'.os = s.os /\ AllBare s'.gens /\ Un (frs outer) [] H H' s.heap s'.heap /\ HOk P w H' s'.heap ∧
  H' e = some (exO false e C od) /\ s.heap.objs.size ≤ T /\ H' T = none /\ Fly s'.heap e T .none /\ E (.ref C) (some e) H'
abbrev XS := St->XK
def PassesS (X : Cx) (E : XS) : Prop := ∀ (pins : List (Addr × Obj)) (σ : St) (H : Hp) (s : Shared) (v : Value) (s' : Shared), Inv X pins σ H s->CXx X.prog X.w X.stack H s (E σ) v s'->X.xe v s'
theorem passesN {X : Cx} : PassesS X (fun _ => E0) := fun _ _ _ _ _ _ _ ⟨_, _, _, _, _, _, _, _, _, _, _, _, _, _, h⟩ => h.elim
section
variable {P : Program} {w : World} {K : PySem.W.Frag} {mg : Str->Option Value} {base : Heap} {N : List Str} {qual : Str} {scope : Scope} {f : Addr} {cd : Value} {A : Around} {outer : List Env} {s₀ : Shared} {H₀ : Hp} {E : XK}
theorem Fun.okX {x qual : Str} {st : Stmt} {f : Addr} {fd : FuncData} {N ps : List Str} {k : Nat} {sp : Sp} (F : Fun K x qual st f fd) (S : FnScope N ps (defScope st)) (len : ∀ vs H Q E, sp vs H Q E->vs.length = ps.length)
    (hbody : ∀ (cdv : Value) (A : Around) (outer : List Env) (s : Shared) (H : Hp) (vs : List V) (Q : VK) (E : XK), Room k (A.deeper (envOfC qual (defScope st) s.heap.objs.size f cdv))->sp vs H Q E →
      ∃ t, PSs (cxOf (CXx P w) P w K mg base N qual (defScope st) f cdv A outer s H E) (defBody st) t /\ t { nx := fun _ H' => Q .non H', rt := Q } (start N vs) H) : FnOk P w K mg base (CXx P w) (k + 1) f fd ps sp := by
  obtain ⟨oc, od, kV, doc, pm, an, cdv, ct, osl, rfl, lk, hcd⟩ := F.ex
  exact fn_of lk hcd S len fun A outer s H vs Q E hr hsp => hbody cdv A outer s H vs Q E hr hsp
end
open PySem PySem.Spec PyProof.Rows
section
variable (P : Program) (w : World) (K : PySem.W.Frag) (mg : Str->Option Value) (base : Heap)
structure DefX (x : Str) (k : Nat) (ps : List Str) (sp : Sp) : Prop where
  ex : ∃ (f : Addr) (fd : FuncData), mg x = some (.ref f) /\ FnOk P w K mg base (CXx P w) k f fd ps sp /\ PySem.W.keepIn K (.ref f) = true /\ Binds K fd ps []
structure MethX (C : Addr) (m : Str) (k : Nat) (ps : List Str) (sp : Sp) : Prop where
  ex : ∃ (f : Addr) (fd : FuncData), Meth K C m f /\ FnOk P w K mg base (CXx P w) k f fd ps sp /\ Binds K fd ps []
structure MakeX (x : Str) (C : Addr) (k : Nat) (ps : List Str) (sp : Sp) : Prop where
  ex : ∃ (f : Addr) (fd : FuncData), mg x = some (.ref C) /\ Mk K C f /\ FnOk P w K mg base (CXx P w) k f fd ps sp /\ Binds K fd ps []
structure XMk (K : PySem.W.Frag) (C f : Addr) : Prop where
  cls : XCls K C
  init : PySem.W.findIn K (.ref C) "__init__" = some (some (.ref f))
  fn : PySem.W.isFn K (.ref f) = true
  kp : PySem.W.keepIn K (.ref C) = true
structure ExcX (x : Str) (C : Addr) (k : Nat) (ps : List Str) (sp : Sp) : Prop where
  ex : ∃ (f : Addr) (fd : FuncData), mg x = some (.ref C) /\ XMk K C f /\ FnOk P w K mg base (CXx P w) k f fd ps sp /\ Binds K fd ps []
end
def tCallS (sp : Sp) (E : XS) (t : TA) : TE := fun σ H Q => t σ H fun vs H1 => sp vs H1 Q (E σ)
section
variable {X : Cx} {k : Nat} {f C : Addr} {fd : FuncData} {ps : List Str} {sp : Sp} {E : XS} {x m : Str} {p pos apos : Pos} {e o : Expr} {es : List Expr} {ta : TE} {t : TA}
theorem run_fnS {pins : List (Addr × Obj)} {σ : St} {H : Hp} {s : Shared} {Q : VK} {us : List Value} {vs : List V} (F : FnOk X.prog X.w X.K X.mg X.base (CXx X.prog X.w) k f fd ps sp) (hr : Room k X.A) (hb : Binds X.K fd ps []) (hx : PassesS X E)
    (I : Inv X pins σ H s) (r : Vals vs us) (h : sp vs H Q (E σ)) : wpAny (model X.prog X.w) X.A (call (.ref f) us) (EP X pins σ Q) X.xe s := by
  have hl : us.length = ps.length := by rw [← r.length]; exact F.len _ _ _ _ h
  have hb' := hb s us I.kIn (by rw [List.append_nil]; exact hl)
  rw [List.append_nil] at hb'
  refine wpAny_call (codeAny_mono (F.run X.A X.stack s H ⟨us, []⟩ us vs Q (E σ) hr I.env0 hb' r h) fun r s' hq => ?_)
  cases r with
  | error e => exact hx pins σ H s e s' I hq
  | ok fl =>
    cases fl with
    | ret u => exact I.after hq
    | next => exact False.elim hq
    | brk => exact False.elim hq
    | cont => exact False.elim hq
theorem pe_callS (D : DefX X.prog X.w X.K X.mg X.base x k ps sp) (hx : PassesS X E) (hr : Room k X.A) (hg : Gl X x) (ha : PA X (e :: es) t)
    (hdb : (x == ("__debug__" : Str)) = false := by decide) (he : starEach (e :: es) X.env = (false, eval e X.env) :: starEach es X.env := by rfl) (hpl : (backTo pos (starEach es X.env)).any (·.1) = false := by rfl) :
    PE X (.Call (.Name x p) (e :: es) [] pos) (tCallS sp E t) := by
  obtain ⟨f, fd, m, F, kp, b⟩ := D.ex
  intro pins s σ H Q I h
  refine wpAny_Call_Name_kw (ld_glob I hg m ?_ hdb)
  refine PySem.W.callWith_K (h₀ := X.base) I.ok.mod.kin kp (thn (ha pos pins s σ H _ I h) fun us s1 ⟨vs, H1, I1, r, q⟩ => ⟨I1.kIn, ?_⟩) he hpl
  exact run_fnS F hr b hx I1 r q
end
open PySem PySem.Spec PyProof.Rows
abbrev TH := Addr->Addr->TS
open PySem PySem.Spec PyProof.Rows
theorem cxx_no {P : Program} {w : World} {o : List Env} {H : Hp} {s s' : Shared} {e : Value} (h : CXx P w o H s (fun _ _ _ => False) e s') : False := by
  obtain ⟨_, _, _, _, _, _, _, _, _, _, _, _, _, _, z⟩ := h
  exact z
open PySem
structure Rows (H : Hp) (L : List Addr) (xss : List (List Int)) : Prop where
  len : L.length = xss.length
  get : ∀ (i : Nat) a xs, L[i]? = some a->xss[i]? = some xs->H a = some (.lst (xs.map V.int))
structure ChAt (H : Hp) (L : List V) (chs : List (Int × Int)) : Prop where
  len : L.length = chs.length
  get : ∀ (i : Nat) v, L[i]? = some v->∃ t r, v = V.ref t /\ chs[i]? = some r /\ H t = some (.tup [.int r.1, .int r.2])
theorem ChAt.nil {H : Hp} : ChAt H [] [] := ⟨rfl, fun i v e => by simp at e⟩
def fl (wd ls : Int) (ta sa : Addr) : List (Str × V) := [("wide", .int wd), ("last", .int ls), ("tables", .ref ta), ("set_places", .ref sa)]
theorem s1 : ¬ (("wide" : Str) = "last") := by decide +kernel
theorem s2 : ¬ (("wide" : Str) = "tables") := by decide +kernel
theorem s3 : ¬ (("wide" : Str) = "set_places") := by decide +kernel
theorem s4 : ¬ (("last" : Str) = "tables") := by decide +kernel
theorem s5 : ¬ (("last" : Str) = "set_places") := by decide +kernel
theorem s6 : ¬ (("tables" : Str) = "set_places") := by decide +kernel
structure DaysAt (C : Addr) (H : Hp) (p ta sa : Addr) (TL SL : List Addr) (wd : Nat) (tabs sets : List (List Int)) : Prop where
  ob : ∃ dx, H p = some (.ins C dx (fl (wd : Int) ((tabs.length : Int) - 1) ta sa))
  tl : H ta = some (.lst (TL.map V.ref))
  sl : H sa = some (.lst (SL.map V.ref))
  tls : Rows H TL tabs
  sls : Rows H SL sets
  nd : (p :: ta :: sa :: (TL ++ SL)).Nodup
  ne : tabs.length ≠ 0
  lens : sets.length = tabs.length
  wds : ∀ t ∈ tabs, t.length = wd
  w1 : 0 < wd
  w2 : wd ≤ 40
open PySem PySem.Spec PyProof.Rows
theorem call_all_bl {X : Cx} (hc : X.calm = true) : CallR X (.builtin "all") (fun xs H Q => ∃ p, ∃ bs : List Bool, xs = [.ref p] /\ SqL X.K H p (bs.map V.bl) /\ Q (.bl (bs.all id)) H) := by
  rintro pins s σ H xs us Q I r ⟨p, bs, rfl, hS, q⟩
  obtain ⟨u, rfl, ru⟩ := vals1 r
  cases ru
  obtain ⟨its, rv, pl, _⟩ := I.list hS
  have hh : X.A.in1.handled = none := I.ok.hd hc
  have hlen := rv.length
  have hpl : p < s.heap.objs.size := by obtain ⟨o, e, _⟩ := pl.isList; exact Heap.lt_size e
  refine call_all_walk (wpAny_pyIter_list pl.isList ?_)
  refine ⟨s.heap.objs.size, _, _, _, _, _, fun i => bs.getD i false, rfl, Walks.list hh s.heap.objs.size p (Nat.ne_of_lt hpl) its.toArray, ⟨⟨_, Heap.get?_push_size _ rfl, rfl, rfl⟩, pl.isList.push _⟩, ?_, fun h' tk k => ?_⟩
  · intro i v s' Q' E' hv hQ
    have hv : its.toArray[i]? = some v := hv
    have hi : i < bs.length := by
      have := (Array.getElem?_eq_some_iff.mp hv).1
      simp at this; simp at hlen; omega
    obtain ⟨u, hu, ru⟩ := Vals.get rv (i := i) (x := V.bl (bs.getD i false)) (by simp [hi])
    have : v = u := by
      have h2 : its[i]? = some v := by simpa using hv
      rw [h2] at hu; exact Option.some.inj hu
    subst this
    cases (show v = Value.bool (bs.getD i false) from ru)
    exact wpAny_truthy_bool hQ
  · have I1 : Inv X pins σ H { s with heap := h', toks := tk } := I.kept fun b o e => k b o (fun hb => by
      have hb : b = s.heap.objs.size := by simpa using hb
      exact absurd (Heap.lt_size e) (by rw [hb]; exact Nat.lt_irrefl _)) (Heap.get?_push_of_some _ e)
    refine ⟨.bl (bs.all id), H, I1, ?_, q⟩
    show Value.bool _ = Value.bool _
    congr 1
    have hz : its.toArray.size = bs.length := by simp at hlen ⊢; omega
    rw [hz]
    clear hz hlen rv pl q hS
    have : ∀ bs : List Bool, (List.range bs.length).all (fun i => bs.getD i false) = bs.all id := fun bs => by
      rw [Bool.eq_iff_iff, List.all_eq_true, List.all_eq_true]
      constructor
      · intro h b hb
        obtain ⟨i, hi⟩ := List.mem_iff_getElem?.mp hb
        have hl := (List.getElem?_eq_some_iff.mp hi).1
        have := h i (List.mem_range.mpr hl)
        simp [hi] at this
        exact this
      · intro h i hi
        have hl := List.mem_range.mp hi
        have := h bs[i] (List.getElem_mem hl)
        simpa [hl] using this
    exact this bs
open PySem PySem.Spec PyProof.Rows
structure FunD (K : PySem.W.Frag) (x qual : Str) (st : Stmt) (f : Addr) (fd : FuncData) (dV : Value) : Prop where
  ex : ∃ (oc : Value) (od : Option Addr) (kV doc pm : Value) (an : Option Addr) (cdv ct : Value) (osl : Array (Option Value)),
    fd = PySem.W.fnOf x qual (defArgs st) (defBody st) (defScope st) dV kV doc pm an cdv ct /\ K.lookup f = some ⟨oc, od, .func fd, osl⟩ /\ PySem.W.codeIn K cdv qual = true
  kp : PySem.W.keepIn K (.ref f) = true
section
variable (P : Program) (w : World) (K : PySem.W.Frag) (mg : Str->Option Value) (base : Heap)
structure DefXd (x : Str) (k : Nat) (ps : List Str) (ds : List Value) (sp : Sp) : Prop where
  ex : ∃ (f : Addr) (fd : FuncData), mg x = some (.ref f) /\ FnOk P w K mg base (CXx P w) k f fd ps sp /\ PySem.W.keepIn K (.ref f) = true /\ Binds K fd ps ds
structure MakeXd (x : Str) (C : Addr) (k : Nat) (ps : List Str) (ds : List Value) (sp : Sp) : Prop where
  ex : ∃ (f : Addr) (fd : FuncData), mg x = some (.ref C) /\ Mk K C f /\ FnOk P w K mg base (CXx P w) k f fd ps sp /\ Binds K fd ps ds
structure ClsFn (C : Addr) (m : Str) (f : Addr) : Prop where
  ga : PySem.W.specialIn K (.ref C) "__getattribute__" = some (some (.builtin "type.__getattribute__"))
  rd : PySem.W.readsIn K C (.type "type") = true
  fc : PySem.W.findCls K (.ref C) (.type "type") m = some (.val (.ref f))
  kp : PySem.W.keepIn K (.ref f) = true
structure ClsX (x : Str) (C : Addr) (m : Str) (k : Nat) (ps : List Str) (sp : Sp) : Prop where
  ex : ∃ (f : Addr) (fd : FuncData), mg x = some (.ref C) /\ ClsFn K C m f /\ FnOk P w K mg base (CXx P w) k f fd ps sp /\ Binds K fd ps []
end
open PySem PySem.Spec PyProof.Rows
def flat (rows : List (Nat × Nat)) : List Nat := rows.flatMap fun r => [r.1, r.2]
structure RowsAt (H : Hp) (L : List V) (rows : List (Nat × Nat)) : Prop where
  len : L.length = rows.length
  get : ∀ (i : Nat) v, L[i]? = some v->∃ t r, v = V.ref t /\ rows[i]? = some r /\ H t = some (.tup [.int (r.1 : Int), .int (r.2 : Int)])
theorem decI {i j : Int} : decide (V.int i = V.int j) = decide (i = j) := decide_eq_decide.mpr ⟨V.int.inj, fun e => by rw [e]⟩
open PySem PySem.Spec PyProof.Rows
theorem vals_of : ∀ {us : List Value} {ns : List Int}, IntsAre us ns->Vals (ns.map V.int) us
  | _, _, .nil => .nil
  | _, _, .cons _ t r => .cons ⟨t, rfl⟩ (vals_of r)
theorem ints_len {us : List Value} {ns : List Int} (h : IntsAre us ns) : us.length = ns.length := by
  have := (vals_of h).length
  rw [List.length_map] at this
  exact this.symm
theorem objOk_there {P : Program} {w : World} {H : Hp} {h : Heap} {a : Addr} {o : HO} (x : ObjOk P w H h a o) : ∃ ob, h.get? a = some ob := by
  cases o with
  | lst xs => obtain ⟨_, _, _, _, e⟩ := x; exact ⟨_, e⟩
  | tup xs => obtain ⟨_, _, _, ob, e, _⟩ := x; exact ⟨_, e⟩
  | dK kvs => obtain ⟨_, _, _, _, o, _, _, e, _⟩ := x; exact ⟨_, e⟩
  | dT kvs => obtain ⟨_, _, _, _, o, _, _, e, _⟩ := x; exact ⟨_, e⟩
  | set S n => obtain ⟨o, _, _, _, e, _⟩ := x; exact ⟨_, e⟩
  | ins C dx fs => obtain ⟨_, _, _, e, _⟩ := x; exact ⟨_, e⟩
  | own y => exact x
  | xd fs => obtain ⟨_, ⟨_, _, _, e, _⟩, _⟩ := x; exact ⟨_, e⟩
  | rng lo hi => obtain ⟨_, _, _, e⟩ := x; exact ⟨_, e⟩
  | frz ob u => exact ⟨_, x.1⟩
  | tbl ps => exact ⟨_, x⟩
  | met f y => exact ⟨_, x⟩
  | ext φ => exact x.2.1
section
variable {X : Cx} {pins : List (Addr × Obj)} {σ : St} {H : Hp} {s : Shared}
theorem Inv.laidAt {a : Addr} {h' : Heap} {t' : Nat} {vs : List V} (I : Inv X pins σ H s) (hn : s.heap.get? a = none) (k : ∀ b o, s.heap.get? b = some o->h'.get? b = some o) (new : ObjOk X.prog X.w (upd H a (.lst vs)) h' a (.lst vs)) :
    ∃ _ : H a = none, Inv X pins σ (upd H a (.lst vs)) { s with heap := h', toks := t' } /\ True := by
  have hHn : H a = none := by
    cases z : H a with
    | none => rfl
    | some o =>
      obtain ⟨ob, hob⟩ := objOk_there (I.hok a o z)
      rw [hn] at hob; cases hob
  refine ⟨hHn, ?_, trivial⟩
  have na : ∀ b o, s.heap.get? b = some o->b ≠ a := fun b o e z => by rw [z, hn] at e; cases e
  have hu : Un X.fs [] H (upd H a (.lst vs)) s.heap h' := by
    refine ⟨fun b o e _ _ _ => k b o e, fun b o e _ _ _ => ⟨o.slots, k b o e⟩, fun b o e n _ => ?_, fun b o e _ => ⟨o, k b o e⟩, fun b xs e => ?_, fun b o u e => ?_, fun b ps e => ⟨#[], ?_⟩⟩
    · rw [upd_ne (na b o e)]; exact n
    · rw [upd_ne (ne_of_none e hHn)]; exact e
    · rw [upd_ne (ne_of_none e hHn)]; exact e
    · rw [upd_ne (ne_of_none e hHn), e]; simp
  refine I.un hu fun b o e => ?_
  by_cases z : b = a
  · subst z; rw [upd_same] at e; cases e; exact new
  · rw [upd_ne z] at e
    exact (I.hok b o e).stay (fun c v _ q => k c v q) (fun c q => by rw [upd_ne (ne_of_none q hHn)]; exact q) fun c xs q => by rw [upd_ne (ne_of_none q hHn)]; exact q
end
section
variable {X : Cx}
theorem call_sortedD (hc : X.calm = true) : CallR X (.builtin "sorted") (fun xs H Q => ∃ (a : Addr) (kvs : List (Key × V)) (ns : List Int), xs = [.ref a] /\ H a = some (.dK kvs) /\ kvs.map (·.1) = ns.map Sum.inl /\ ns.length < 64 ∧
    ∀ (l : Addr) (ns' : List Int), H l = none->ns'.Perm ns->ns'.Pairwise (· ≤ ·)->Q (.ref l) (upd H l (.lst (ns'.map V.int)))) := by
  rintro pins s σ H xs us Q I r ⟨a, kvs, ns, rfl, hD, hk, h64, q⟩
  obtain ⟨u, rfl, ru⟩ := vals1 r
  cases (show u = Value.ref a from ru)
  obtain ⟨hsz, lo, vs, kv, hd⟩ := dk_of I.hok hD
  obtain ⟨ep, hat⟩ := hd.dictAt
  have hkeys := kv.keys
  have hvl : vs.length = ns.length := by
    have := congrArg List.length (hkeys.symm.trans hk)
    simpa using this
  refine Calls.call_function_entry kind_sorted plain_sorted entry_sorted (args_sorted1 _) ?_
  unfold Builtin.«sorted»
  refine wpAny_bind (m := checkCount "sorted" 1 1 _) (wpAny_pure ?_)
  refine wpAny_bind (PySem.W.kdu_collect (A := X.A.in1) (PySem.W.kdl_dict (knd := mixKind X.prog X.w) (kvs := vs) (ep := ep) lo) (I.ok.hd hc) hat (by rw [hvl]; exact Nat.le_of_lt (small1000 (by omega))) fun h' tk acc keep hacc => ?_)
  have hI : IntsAre acc.toList ns := by
    refine intsAre_of ?_
    have hal : acc.toList.length = ns.length := by rw [Array.length_toList, hacc.1, hvl]
    have key : ∀ (j : Nat) v, acc.toList[j]? = some v->∃ n t, ns[j]? = some n /\ v = Value.int n t := fun j v e => by
      obtain ⟨k, x, h1, h2⟩ := hacc.2 j v (by rw [← Array.getElem?_toList]; exact e)
      have e1 : (vs.map (·.1))[j]? = some k := by rw [List.getElem?_map, h1]; rfl
      rw [← hkeys, hk, List.getElem?_map] at e1
      obtain ⟨n, e2, e3⟩ := Option.map_eq_some_iff.mp e1
      subst e3
      have h2 : keyIs (Sum.inl n) v = true := h2
      rcases keyIs_shape h2 with ⟨i, t, e5, e4⟩ | ⟨y, t, e5, e4⟩
      · first | (cases e4; subst e5; exact ⟨n, t, e2, rfl⟩) | (cases e5; subst e4; exact ⟨n, t, e2, rfl⟩)
      · first | (cases e4; done) | (cases e5; done)
    clear hacc
    generalize acc.toList = us at hal key
    clear hk hvl h64 q
    induction us generalizing ns with
    | nil => cases ns with
      | nil => exact .nil
      | cons n ns => simp at hal
    | cons u us ih => cases ns with
      | nil => simp at hal
      | cons n ns =>
        obtain ⟨m, t, e1, e2⟩ := key 0 u rfl
        have e1 : n = m := by simpa using e1
        subst e1
        exact .cons ⟨t, e2⟩ (ih (ns := ns) (by simpa using hal) fun j v e => by
          obtain ⟨m, t, a1, a2⟩ := key (j + 1) v (by simpa using e)
          exact ⟨m, t, by simpa using a1, a2⟩)
  have hal : acc.toList.length < 64 := by rw [ints_len hI]; exact h64
  refine wpAny_bind (wpAny_newList ?_ (Nat.le_of_lt (small1000 (by omega))))
  have hoL : (h'.push (seqObj "list" acc.toList.toArray 0)).get? h'.objs.size = some (seqObj "list" acc.toList.toArray 0) := Heap.get?_push_size _ rfl
  refine wpAny_bind (wpAny_holding (wpAny_call_entry slot_list_sort ⟨_, hoL, rfl⟩ entry_list_sort (list_sort_tree hoL hI hal fun out ns' b1 b2 b3 => ⟨_, rfl, ?_⟩) (args_list_sort _)))
  refine wpAny_pure ⟨_, rfl, ?_⟩
  obtain ⟨e, hat2⟩ := sortedHeap_at (out := out) hoL
  have hno : s.heap.get? h'.objs.size = none := by
    cases z : s.heap.get? h'.objs.size with
    | none => rfl
    | some o => exact absurd (Heap.lt_size (keep _ _ z)) (Nat.lt_irrefl _)
  have hlen : ns'.length ≤ sizeLine := by rw [b2.length_eq]; exact Nat.le_of_lt (small1000 (by omega))
  have keep2 : ∀ b o, s.heap.get? b = some o->(sortedHeap (h'.push (seqObj "list" acc.toList.toArray 0)) h'.objs.size acc.toList out).get? b = some o := fun b o z => by
    have hb := keep b o z
    have hlt := Heap.lt_size hb
    rw [sortedHeap_old (Nat.ne_of_lt hlt) (by rw [size_push']; exact Nat.lt_succ_of_lt hlt)]
    exact Heap.get?_push_of_some _ hb
  obtain ⟨H', I', _⟩ := I.laidAt (t' := tk) (vs := ns'.map V.int) hno keep2 ⟨by rw [List.length_map]; exact hlen, out.toList, e, vals_of b1, by simpa using hat2⟩
  exact ⟨.ref h'.objs.size, _, I', rfl, q _ ns' H' b2 b3⟩
end
open PySem PySem.Spec PyProof.Rows
def AI (n : Nat) (L : List V) : Prop := ∃ ys : List Int, L = ys.map V.int /\ ys.length ≤ n
theorem AI.len {n : Nat} {L : List V} (h : AI n L) : L.length ≤ n := by
  obtain ⟨ys, rfl, h⟩ := h; rw [List.length_map]; exact h
theorem SeqEq.ints {K : PySem.W.Frag} {H : Hp} {a c : Addr} {xs ys : List Int} (h1 : SqL K H a (xs.map V.int)) (h2 : SqL K H c (ys.map V.int)) : SeqEq K H (EqI K H 0) (.ref a) (.ref c) (decide (xs = ys)) := by
  by_cases hl : xs.length = ys.length
  · refine ⟨a, c, _, _, fun j => decide (xs[j]? = ys[j]?), rfl, rfl, .inl ⟨h1, h2, by simpa using hl, fun j x' y' e1 e2 => ?_, ?_⟩⟩
    · rw [List.getElem?_map] at e1 e2
      obtain ⟨x, ex, rfl⟩ := Option.map_eq_some_iff.mp e1
      obtain ⟨y, ey, rfl⟩ := Option.map_eq_some_iff.mp e2
      refine .inl ⟨rfl, rfl, ?_⟩
      show decide (xs[j]? = ys[j]?) = eqV (.int x) (.int y)
      rw [ex, ey]
      show decide (some x = some y) = (x == y)
      rw [Bool.eq_iff_iff, decide_eq_true_iff, beq_iff_eq]
      exact ⟨fun h => Option.some.inj h, fun h => by rw [h]⟩
    · rw [List.length_map, Bool.eq_iff_iff, decide_eq_true_iff, List.all_eq_true]
      constructor
      · rintro rfl j _; simp
      · intro h
        refine List.ext_getElem? fun j => ?_
        by_cases hj : j < xs.length
        · exact of_decide_eq_true (h j (List.mem_range.mpr hj))
        · rw [List.getElem?_eq_none (by omega), List.getElem?_eq_none (by omega)]
  · refine ⟨a, c, _, _, fun _ => true, rfl, rfl, .inr (.inl ⟨h1, h2, by simpa using hl, ?_⟩)⟩
    exact decide_eq_false (fun e => hl (by rw [e]))
theorem valV_drop (kvs : List (Key × V)) (k j : Key) : valV (dropK kvs k) j = if j = k then none else valV kvs j := by
  induction kvs with
  | nil => show none = _; split <;> rfl
  | cons p r ih =>
    have e : dropK (p :: r) k = if p.1 = k then dropK r k else p :: dropK r k := by
      unfold dropK; rw [List.filter_cons]; by_cases h : p.1 = k <;> simp [h]
    rw [e]
    by_cases h : p.1 = k
    · rw [if_pos h, ih]
      by_cases hj : j = k
      · rw [if_pos hj, if_pos hj]
      · rw [if_neg hj, if_neg hj, valV_neg (fun z => hj (z.symm.trans h))]
    · rw [if_neg h]
      by_cases hp : p.1 = j
      · rw [valV_pos hp, valV_pos hp, if_neg (fun z => h (hp.trans z))]
      · rw [valV_neg hp, valV_neg hp, ih]
def AllI (lkv : List (Key × V)) : Prop := ∀ kv ∈ lkv, ∃ n : Int, kv.1 = Sum.inl n
theorem AllI.nil : AllI [] := fun _ h => by cases h
theorem AllI.put {kvs : List (Key × V)} (h : AllI kvs) (n : Int) (v : V) : AllI (putK kvs (Sum.inl n) v) := fun kv hm => by
  unfold putK at hm
  split at hm
  · obtain ⟨kv', h1, rfl⟩ := List.mem_map.mp hm
    obtain ⟨m, e⟩ := h kv' h1
    split
    · exact ⟨m, e⟩
    · exact ⟨m, e⟩
  · rcases List.mem_append.mp hm with h1 | h1
    · exact h kv h1
    · have : kv = (Sum.inl n, v) := by simpa using h1
      exact ⟨n, by rw [this]⟩
theorem AllI.drop {kvs : List (Key × V)} (h : AllI kvs) (k : Key) : AllI (dropK kvs k) := fun kv hm => h kv (List.mem_filter.mp hm).1
open PySem PySem.Spec PyProof.Rows
def SqB (K : PySem.W.Frag) (tu : Bool) (H : Hp) (l : Addr) (xs : List V) : Prop := cond tu (SqT K H l xs) (SqL K H l xs)
def IterB (tu : Bool) (h : Heap) (it l : Addr) (i : Nat) : Prop := cond tu (h.IsTupleIter it l i) (h.IsListIter it l i)
theorem IterB.obj {tu : Bool} {h : Heap} {it l : Addr} {i : Nat} (a : IterB tu h it l i) : ∃ o, h.get? it = some o /\ ∀ v, o.data ≠ .cell v := by
  cases tu <;> (obtain ⟨o, e, _, d⟩ := a; exact ⟨o, e, fun v q => by rw [d] at q; cases q⟩)
open PySem PySem.Spec PyProof.Rows
theorem miss_keysL : typeLookup (.type "list") "keys" = pure none := by rw [typeLookup_type, builtinLookup_eq_fast]; kernel_rfl
section
variable {prog : Program} {w : World} {A : Around} {E : Value->Shared->Prop} {s : Shared} {a : Addr} {its : Array Value} {n : Nat} {sl : Array (Option Value)}
theorem keys_noneL {Q : Option Value->Shared->Prop} (hx : s.heap.get? a = some { cls := .type "list", dict := none, data := .seq its n, slots := sl }) (hA : A.handled = none)
    (h : ∀ h' tk, (∀ b ob, s.heap.get? b = some ob->h'.get? b = some ob)->Q none { s with heap := h', toks := tk }) : wpAny (model prog w) A (getAttr? (.ref a) "keys") Q E s := by
  obtain ⟨hp, g, dr, tk, os⟩ := s
  have hT : ∀ tk', (⟨hp, g, dr, tk', os⟩ : Shared).TypeIs (.ref a) "list" := fun _ => ⟨_, hx, rfl⟩
  have u1 := sub_AttributeError
  have u2 := F.slot_list_getattribute.lookup
  have u3 := F.slot_list_getattribute.bind (.ref a)
  have u4 := am_list_getattr_none
  unfold getAttr? getAttrBy? getAttrBy
  repeat (any_goals first | ((with_reducible show wpAny _ _ (call (Value.builtin "list.__getattribute__") _ _) _ _ _); refine call_meets F.slot_list_getattribute (hT _) am_entry_list_getattribute (F.args_list_getattribute_2 _ _) (meets_getattribute_miss_list a its n sl "keys" _ miss_keysL (by decide +kernel)) ⟨hx, hA, fun h' tk' e hx' => ?_⟩) | exact hT _ | wp_step | assumption)
  obtain ⟨t', u', he⟩ := hx'.there
  show wpAny _ _ (getattributeRaised _ _ _ _ _ _ _) _ _ _
  unfold getattributeRaised
  repeat (any_goals first | wp_step | assumption)
  exact h _ _ hx'.keeps
end
theorem entry_dul : entryFor table "dict.update.loop" = some Builtin.«dict.update.loop» := entryFor_of_tree (by kernel_rfl)
theorem plain_dul : plainId "dict.update.loop" = true := by decide +kernel
section
variable {prog : Program} {w : World} {κ : Type} [DecidableEq κ] {knd : KeyKind prog w κ} {A : Around} {R : Result->Shared->Prop} {I l d : Addr} {its : Array Value} {St : Nat->Heap->Prop}
def PairsIn (knd : KeyKind prog w κ) (its : Array Value) (ps : List (κ × Value)) (h : Heap) : Prop := ∀ (i : Nat) (v : Value), its[i]? = some v->∃ t key x n ob k, v = .ref t /\ h.get? t = some ob /\ ob.cls = .type "tuple" /\ ob.data = .seq #[key, x] n /\ ps[i]? = some (k, x) /\ knd.is k key = true
theorem dul_loop (W : Walks prog w A.in1 I [I, l] [I] its.size (fun i v => its[i]? = some v) St) (hI : ∀ i h, St i h->∃ o, h.get? I = some o /\ o.cls ≠ .type "tuple") (hdI : d ≠ I) (hdl : d ≠ l) {ps : List (κ × Value)} (hps : ps.length = its.size) :
    ∀ (k i : Nat) (s : Shared) (kvs : List (κ × Value)), its.size - i = k->i ≤ its.size->St i s.heap->s.heap.DictOf knd d kvs->PairsIn knd its ps s.heap->kvs.length + its.size ≤ sizeLine + i →
    (∀ h' tk, (∀ b o, b ≠ I->b ≠ d->s.heap.get? b = some o->h'.get? b = some o)->h'.DictOf knd d (merged kvs (ps.drop i))->R (.ok (.ret .none)) { s with heap := h', toks := tk }) →
    codeAny (model prog w) A (.builtin "dict.update.loop" ⟨[.ref d, .ref I, rawInt i, .none], []⟩) R s := by
  intro k
  induction k with
  | zero =>
    intro i s kvs hk hi hst hD hP hsz hR
    have e : i = its.size := by omega
    subst e
    refine codeAny_builtin entry_dul ?_
    rw [Around.under_plainId plain_dul _]
    show wpAny _ A.in1 (pyNext (.ref I) >>= _) _ _ s
    refine wpAny_bind (W.done s _ _ hst fun h' tk hk' => ?_)
    refine wpAny_bind (wpAny_pure ?_)
    refine wpAny_pure (hR h' tk (fun b o n1 _ e => hk' b o (by simpa using n1) e) ?_)
    rw [List.drop_of_length_le (by omega)]
    obtain ⟨o, es, ep, ho, r⟩ := hD
    exact ⟨o, es, ep, hk' _ _ (by simpa using hdI) ho, r⟩
  | succ k ih =>
    intro i s kvs hk hi hst hD hP hsz hR
    have hlt : i < its.size := by omega
    refine codeAny_builtin entry_dul ?_
    rw [Around.under_plainId plain_dul _]
    show wpAny _ A.in1 (pyNext (.ref I) >>= _) _ _ s
    refine wpAny_bind (W.item i s _ _ hlt hst fun v h' tk hv hst' hk' => ?_)
    obtain ⟨t, key, x, n, ob, kk, rfl, ht, hc, hdt, hpi, hkey⟩ := hP i v hv
    obtain ⟨oI, hoI, hcI⟩ := hI i _ hst
    have ntI : t ≠ I := fun z => by subst z; rw [ht] at hoI; cases hoI; exact hcI hc
    obtain ⟨od, es, ep, hod, hcd, hdd, r⟩ := id hD
    have hD' : h'.DictOf knd d kvs := ⟨od, es, ep, hk' _ _ (by simpa using hdI) hod, hcd, hdd, r⟩
    have ht' := hk' t _ (by simpa using ntI) ht
    refine wpAny_bind (wpAny_holding ?_)
    refine wpAny_bind (wpAny_tryCatch ?_)
    unfold Builtin.Dict.pairItems
    have hTt : ({ s with heap := h', toks := tk } : Shared).TypeIs (.ref t) "tuple" := ⟨ob, ht', hc⟩
    refine wpAny_bind (wpAny_typeOf hTt ?_)
    rw [if_pos (by decide)]
    refine wpAny_bind (wpAny_seqItems ht' hdt (wpAny_pure ?_))
    show wpAny _ A.in1 (holding [key, x] (dictSet d key x)) _ _ _
    refine wpAny_holding (wpAny_dictSet_pairs hkey hD' (fun h2 hD2 sb => ?_) (by omega))
    refine wpAny_pure ⟨plainId_quiet plain_dul _, ?_⟩
    have ndt : t ≠ d := fun z => by
      subst z
      rw [ht] at hod; cases hod
      rw [hdt] at hdd; cases hdd
    have up : ∀ b o, b ≠ I->b ≠ d->s.heap.get? b = some o->h2.get? b = some o := fun b o n1 n2 e => sb.extBut b o n2 (hk' b o (by simpa using n1) e)
    refine ih (i + 1) _ (stored kvs kk x) (by omega) (by omega) ?_ hD2 ?_ ?_ ?_
    · refine W.frame (i + 1) h' h2 hst' fun b hb o e => sb.extBut b o (fun z => ?_) e
      subst z
      simp only [List.mem_cons, List.not_mem_nil, or_false] at hb
      rcases hb with h | h
      · exact hdI h
      · exact hdl h
    · intro j v hj
      obtain ⟨t2, key2, x2, n2, ob2, k2, rfl, a1, a2, a3, a4, a5⟩ := hP j v hj
      refine ⟨t2, key2, x2, n2, ob2, k2, rfl, up t2 ob2 (fun z => ?_) (fun z => ?_) a1, a2, a3, a4, a5⟩
      · subst z; rw [a1] at hoI; cases hoI; exact hcI a2
      · subst z; rw [a1] at hod; cases hod; rw [a3] at hdd; cases hdd
    · have : (stored kvs kk x).length ≤ kvs.length + 1 := by unfold stored; split <;> simp
      omega
    · intro h3 tk3 hk3 hD3
      refine hR h3 tk3 (fun b o n1 n2 e => hk3 b o n1 n2 (up b o n1 n2 e)) ?_
      have e : ps.drop i = (kk, x) :: ps.drop (i + 1) := by
        have hil : i < ps.length := by omega
        rw [List.drop_eq_getElem_cons hil]
        rw [List.getElem?_eq_getElem hil] at hpi
        rw [Option.some.inj hpi]
      rw [e]
      exact hD3
end
theorem pairs_vals {P : Program} {w : World} {H : Hp} {h : Heap} (ok : HOk P w H h) : ∀ {L : List V} {its : List Value} {ps : List (Key × V)}, Vals L its->L.length = ps.length->(∀ (i : Nat) v, L[i]? = some v->∃ t k x, v = V.ref t /\ H t = some (.tup [kV k, x]) /\ ps[i]? = some (k, x))->∃ pv, KV ps pv /\ PairsIn (mixKind P w) its.toArray pv h
  | [], _, [], .nil, _, _ => ⟨[], .nil, fun i v e => by simp at e⟩
  | [], _, _ :: _, _, hl, _ => by simp at hl
  | _ :: _, _, [], _, hl, _ => by simp at hl
  | v :: L, u :: its, p :: ps, .cons r rr, hl, hp => by
    obtain ⟨t, k, x, rfl, ht, e0⟩ := hp 0 v rfl
    have e0 : p = (k, x) := by simpa using e0
    subst e0
    have r : u = Value.ref t := r
    subst r
    obtain ⟨pv, kv, pin⟩ := pairs_vals ok rr (by simpa using hl) (fun i v e => by
      obtain ⟨t, k, x, a, b, c⟩ := hp (i + 1) v (by simpa using e)
      exact ⟨t, k, x, a, b, by simpa using c⟩)
    obtain ⟨_, its2, r2, ob, h1, h2, n, h3⟩ := (show ObjOk P w H h t (.tup [kV k, x]) from ok t _ ht)
    cases r2 with
    | @cons _ ku _ _ ra rb =>
      cases rb with
      | @cons _ xu _ _ rx rn =>
        cases rn
        refine ⟨(k, xu) :: pv, .cons ⟨rfl, rx⟩ kv, fun i v e => ?_⟩
        cases i with
        | zero =>
          have e : Value.ref t = v := by simpa using e
          exact ⟨t, ku, xu, n, ob, k, e.symm, h1, h2, h3, rfl, kV_is ra⟩
        | succ i =>
          obtain ⟨t2, k2, x2, n2, o2, kk, a1, a2, a3, a4, a5, a6⟩ := pin i v (by simpa using e)
          exact ⟨t2, k2, x2, n2, o2, kk, a1, a2, a3, a4, by simpa using a5, a6⟩
open PySem PySem.Spec PyProof.Rows
theorem call_dictL {prog : Program} {w : World} {κ : Type} [DecidableEq κ] {knd : KeyKind prog w κ} {A : Around} {E : Value->Shared->Prop} {s : Shared} {a : Addr} {its : Array Value} {n : Nat} {sl : Array (Option Value)} {ps : List (κ × Value)} {Q : Value->Shared->Prop}
    (hx : s.heap.get? a = some { cls := .type "list", dict := none, data := .seq its n, slots := sl }) (hA : A.handled = none) (hP : PairsIn knd its ps s.heap) (hps : ps.length = its.size) (hsz : its.size ≤ sizeLine)
    (h : ∀ h' tk, (∀ b o, s.heap.get? b = some o->h'.get? b = some o)->h'.DictOf knd s.heap.objs.size (merged [] ps)->Q (.ref s.heap.objs.size) { s with heap := h', toks := tk }) :
    wpAny (model prog w) A (call (.type "dict") [.ref a]) Q E s := by
  refine callType_codes (Q₁ := fun obj s₁ => obj = .ref s.heap.objs.size /\ s₁ = { s with heap := s.heap.push { cls := .type "dict", data := .dict #[] } }) F.kt_called_dict (F.kt_typeCall_dict_1 _) F.entry_dict_init (kt_code_dict_new _ ⟨rfl, rfl⟩) ?_
  rintro obj s₁ ⟨rfl, rfl⟩
  have hnew : (s.heap.push { cls := .type "dict", data := .dict #[] }).DictOf knd s.heap.objs.size [] := Heap.DictOf.new s.heap
  have hx1 := Heap.get?_push_of_some { cls := .type "dict", data := .dict #[] } hx
  have hlt : a < s.heap.objs.size := Heap.lt_size hx
  refine ⟨hnew.typeIs, F.args_dict_init_2 _ _, ?_⟩
  unfold Builtin.«dict.__init__»
  refine wpAny_bind ?_
  unfold Builtin.Dict.selfAndRest
  refine wpAny_bind (wpAny_notOrdered_dict hnew.typeIs (wpAny_pure ?_))
  show wpAny _ _ (Builtin.Dict.updateFrom "dict.__init__" s.heap.objs.size (.ref a) [] .none) _ _ _
  unfold Builtin.Dict.updateFrom
  have hTl : ({ s with heap := s.heap.push { cls := .type "dict", data := .dict #[] } } : Shared).TypeIs (.ref a) "list" := ⟨_, hx1, rfl⟩
  refine wpAny_bind (wpAny_typeOf hTl ?_)
  rw [if_pos (by decide)]
  refine wpAny_bind (keys_noneL hx1 hA fun h2 tk2 hk2 => ?_)
  rw [if_pos (show (none : Option Value).isNone = true from rfl)]
  refine wpAny_bind (wpAny_rule ?_)
  have hx2 := hk2 _ _ hx1
  refine wpAny_bind (wpAny_pyIter_list (items := its) ⟨_, hx2, rfl, _, rfl⟩ ?_)
  have hnew2 : h2.DictOf knd s.heap.objs.size [] := by
    obtain ⟨o, es, ep, ho, r⟩ := hnew
    exact ⟨o, es, ep, hk2 _ _ ho, r⟩
  obtain ⟨od, es, ep, hod, hcd, hdd, r⟩ := id hnew2
  have hltd : s.heap.objs.size < h2.objs.size := Heap.lt_size hod
  have hlta : a < h2.objs.size := Heap.lt_size hx2
  refine wpAny_pure ⟨plainId_quiet plain_dul _, ?_⟩
  refine dul_loop (A := A.in1) (its := its) (knd := knd) (I := h2.objs.size) (l := a) (Walks.list (prog := prog) (w := w) (A := A.in1.in1) (show A.in1.in1.handled = none from hA) h2.objs.size a (Nat.ne_of_lt hlta) its) ?_ (Nat.ne_of_lt hltd) (fun z => by subst z; exact absurd hlt (Nat.lt_irrefl _)) hps its.size 0 _ [] (by omega) (by omega) ⟨?_, ?_⟩ ?_ ?_ (by simp; omega) ?_
  · rintro i h ⟨⟨o, ho, hc, _⟩, _⟩
    exact ⟨o, ho, by rw [hc]; decide⟩
  · exact ⟨_, Heap.get?_push_size _ rfl, rfl, rfl⟩
  · exact ⟨_, Heap.get?_push_of_some _ hx2, rfl, _, rfl⟩
  · exact ⟨od, es, ep, Heap.get?_push_of_some _ hod, hcd, hdd, r⟩
  · intro i v hv
    obtain ⟨t, key, x, n, ob, k, e1, e2, r⟩ := hP i v hv
    exact ⟨t, key, x, n, ob, k, e1, Heap.get?_push_of_some _ (hk2 _ _ (Heap.get?_push_of_some _ e2)), r⟩
  · intro h' tk hk hD
    refine ⟨rfl, h h' tk (fun b o e => hk b o (fun z => ?_) (fun z => ?_) (Heap.get?_push_of_some _ (hk2 _ _ (Heap.get?_push_of_some _ e)))) (by simpa using hD)⟩
    · subst z
      exact Nat.lt_asymm hltd (Heap.lt_size e)
    · subst z
      exact Nat.lt_irrefl _ (Heap.lt_size e)
theorem vals_len' : ∀ {L : List V} {its : List Value}, Vals L its->its.length = L.length
  | _, _, .nil => rfl
  | _, _, .cons _ r => by simp [vals_len' r]
theorem KV.len' : ∀ {ps : List (Key × V)} {pv : List (Key × Value)}, KV ps pv->pv.length = ps.length
  | _, _, .nil => rfl
  | _, _, .cons _ r => by simp [KV.len' r]
theorem call_dictP {X : Cx} (hc : X.calm = true) : CallR X (.type "dict") (fun xs H Q => ∃ (a : Addr) (L : List V) (ps : List (Key × V)), xs = [.ref a] /\ H a = some (.lst L) /\ L.length = ps.length /\ (∀ (i : Nat) v, L[i]? = some v->∃ t k x, v = V.ref t /\ H t = some (.tup [kV k, x]) /\ ps[i]? = some (k, x)) ∧
    ∀ d, H d = none->Q (.ref d) (upd H d (.dK (mergeK [] ps)))) := by
  rintro pins s σ H xs us Q I r ⟨a, L, ps, rfl, hL, hl, hp, q⟩
  obtain ⟨u, rfl, ru⟩ := vals1 r
  cases (show u = Value.ref a from ru)
  obtain ⟨hsz, its, n, rv, hx⟩ := (show ObjOk X.prog X.w H s.heap a (.lst L) from I.hok a _ hL)
  obtain ⟨pv, kv, pin⟩ := pairs_vals I.hok rv hl hp
  have e1 := vals_len' rv
  have e2 := KV.len' kv
  refine call_dictL (knd := mixKind X.prog X.w) (ps := pv) hx (I.ok.hd hc) pin (by simp; omega) (by simp; omega) fun h' tk keep hD => ?_
  have hno := I.hok.fresh (Nat.le_refl s.heap.objs.size)
  refine ⟨.ref s.heap.objs.size, _, I.laid (a := s.heap.objs.size) (o := .dK (mergeK [] ps)) (t' := tk) keep (Nat.le_refl _) (dk_new ?_ (beq_eq_false_iff_ne.mpr (Ne.symm (Nat.ne_of_lt I.big))) (KV.merge kv .nil) hD), rfl, q _ hno⟩
  have := length_mergeK ps []
  simp at this
  omega
open PySem PySem.Spec PyProof.Rows
theorem KV.get {kvs : List (Key × V)} {vs : List (Key × Value)} (r : KV kvs vs) : ∀ {i : Nat} {k : Key} {v : V}, kvs[i]? = some (k, v)->∃ u, vs[i]? = some (k, u) := by
  induction r with
  | nil => intro i k v h; simp at h
  | cons a b ih =>
    intro i k v h
    cases i with
    | zero => simp at h; subst h; exact ⟨_, by simp; exact Prod.ext a.1.symm rfl⟩
    | succ i => obtain ⟨u, hu⟩ := ih (by simpa using h); exact ⟨u, by simpa using hu⟩
open PySem PySem.Spec PyProof.Rows
def gTupL (K : PySem.W.Frag) (n : Nat) (t : TGs) : TG := fun v σ H Q => ∃ a xs, v = .ref a /\ SqL K H a xs /\ xs.length = n /\ t xs σ H Q
theorem pg_tupL {X : Cx} {pos : Pos} {es : List Expr} {k : Nat} {t : TGs} {n : Nat} (hc : X.calm = true) (h : PGs X es t)
    (hn : (assignEach es X.env).length = n := by rfl) (hst : (assignEach es X.env).findIdx? (·.1) = none := by rfl) : PG X (.Tuple es k pos) (gTupL X.K n t) := by
  intro pins s σ H v u Q I r hw
  obtain ⟨a, xs, e1, hq, hl, hw⟩ := hw
  subst e1
  cases r
  obtain ⟨its, rv, ht, hz⟩ := I.list hq
  have hlen : its.length = n := by rw [← rv.length, hl]
  rw [assign]
  refine wpAny_bind (wpAny_standAt ?_)
  unfold unpack
  simp only [hst]
  refine wpAny_bind ?_
  rw [hn, ← hlen, ← List.size_toArray]
  refine wpAny_holding (PySem.W.kun_itemsOf (I.ok.hd hc) ht.isList fun h' hx => ?_)
  have I1 : Inv X pins σ H { s with heap := h' } := I.kept (t' := s.toks) fun b o e => hx b o (Nat.ne_of_lt (Heap.lt_size e)) e
  exact h pins _ σ H xs _ Q I1 (by simpa using rv) hw
inductive EqD (R : V->V->Bool->Prop) (kb : List (Key × V)) : List (Key × V)->Bool->Prop
  | nil : EqD R kb [] true
  | miss {k : Key} {v : V} {r : List (Key × V)} : valV kb k = none->EqD R kb ((k, v) :: r) false
  | hit {k : Key} {v y : V} {r : List (Key × V)} {e b : Bool} : valV kb k = some y->R v y e->EqD R kb r b->EqD R kb ((k, v) :: r) (e && b)
open PySem HT
theorem lex_irr : ∀ a : List Int, HT.lexLt a a = false
  | [] => rfl
  | x :: a => by rw [HT.lexLt_cons, if_pos rfl]; exact lex_irr a
theorem lex_tr : ∀ {a b c : List Int}, HT.lexLt a b = true->HT.lexLt b c = true->HT.lexLt a c = true
  | _, [], [], _, h2 => by simp [HT.lexLt_nil_nil] at h2
  | [], [], _ :: _, h1, _ => by simp [HT.lexLt_nil_nil] at h1
  | _ :: _, [], _ :: _, h1, _ => by simp [HT.lexLt_cons_nil] at h1
  | _, _ :: _, [], _, h2 => by simp [HT.lexLt_cons_nil] at h2
  | [], _ :: _, _ :: _, _, _ => HT.lexLt_nil_cons _ _
  | x :: a, y :: b, z :: c, h1, h2 => by
    rw [HT.lexLt_cons] at h1 h2 ⊢
    by_cases e1 : x = y
    · subst e1
      rw [if_pos rfl] at h1
      by_cases e2 : x = z
      · subst e2
        rw [if_pos rfl] at h2 ⊢
        exact lex_tr h1 h2
      · rw [if_neg e2] at h2 ⊢
        exact h2
    · rw [if_neg e1] at h1
      have h1 := of_decide_eq_true h1
      by_cases e2 : y = z
      · subst e2
        rw [if_neg e1]; exact decide_eq_true h1
      · rw [if_neg e2] at h2
        have h2 := of_decide_eq_true h2
        rw [if_neg (by omega)]; exact decide_eq_true (by omega)
theorem lex_tot : ∀ {a b : List Int}, HT.lexLt a b = false->HT.lexLt b a = false->a = b
  | [], [], _, _ => rfl
  | [], _ :: _, h, _ => by simp [HT.lexLt_nil_cons] at h
  | _ :: _, [], _, h => by simp [HT.lexLt_nil_cons] at h
  | x :: a, y :: b, h1, h2 => by
    rw [HT.lexLt_cons] at h1 h2
    by_cases e : x = y
    · subst e
      rw [if_pos rfl] at h1 h2
      rw [lex_tot h1 h2]
    · rw [if_neg e] at h1
      rw [if_neg (Ne.symm e)] at h2
      have h1 := of_decide_eq_false h1
      have h2 := of_decide_eq_false h2
      omega
def Le (a b : List Int) : Prop := HT.lexLt b a = false
theorem Le.refl (a : List Int) : Le a a := lex_irr a
theorem Le.of_lt {a b : List Int} (h : HT.lexLt a b = true) : Le a b := by
  unfold Le
  cases e : HT.lexLt b a with
  | false => rfl
  | true => have := lex_tr h e; rw [lex_irr] at this; cases this
theorem Le.trans {a b c : List Int} (h1 : Le a b) (h2 : Le b c) : Le a c := by
  unfold Le
  cases e : HT.lexLt c a with
  | false => rfl
  | true =>
    unfold Le at h1 h2
    cases e1 : HT.lexLt a b with
    | true => have := lex_tr e e1; rw [h2] at this; cases this
    | false => have z := lex_tot e1 h1; subst z; rw [h2] at e; cases e
theorem Le.antisymm {a b : List Int} (h1 : Le a b) (h2 : Le b a) : a = b := lex_tot h2 h1
theorem Le.total (a b : List Int) : Le a b ∨ Le b a := by
  cases e : HT.lexLt b a with
  | false => exact .inl e
  | true => exact .inr (Le.of_lt e)
open PySem PyProof.Rows
def KeyAt (tu : Bool) (H : Hp) (v : V) (ks : List Int) : Prop := match tu with
  | true => ∃ a, v = .ref a /\ H a = some (.tup (ks.map V.int))
  | false => ∃ i, v = .int i /\ ks = [i]
theorem KeyAt.mono {tu : Bool} {H H' : Hp} {v : V} {ks : List Int} (h : KeyAt tu H v ks) (m : ∀ t xs, H t = some (.tup xs)->H' t = some (.tup xs)) : KeyAt tu H' v ks := by
  cases tu with
  | true => obtain ⟨a, e, h⟩ := h; exact ⟨a, e, m a _ h⟩
  | false => exact h
structure KeysAt (tu : Bool) (H : Hp) (vs : List V) (its : List (List Int)) : Prop where
  len : vs.length = its.length
  get : ∀ (i : Nat) v ks, vs[i]? = some v->its[i]? = some ks->KeyAt tu H v ks
section
variable {tu : Bool} {H H' : Hp} {vs : List V} {its : List (List Int)}
theorem KeysAt.mono (R : KeysAt tu H vs its) (m : ∀ t xs, H t = some (.tup xs)->H' t = some (.tup xs)) : KeysAt tu H' vs its := ⟨R.len, fun i v ks e1 e2 => (R.get i v ks e1 e2).mono m⟩
theorem KeysAt.nil : KeysAt tu H [] [] := ⟨rfl, fun i v ks e => by simp at e⟩
theorem KeysAt.snoc (R : KeysAt tu H vs its) {v : V} {ks : List Int} (h : KeyAt tu H v ks) : KeysAt tu H (vs ++ [v]) (its ++ [ks]) :=
  ⟨by simp [R.len], fun i w ls e1 e2 => by
    by_cases hi : i < vs.length
    · rw [List.getElem?_append_left hi] at e1
      rw [List.getElem?_append_left (by rw [← R.len]; exact hi)] at e2
      exact R.get i w ls e1 e2
    · have hlt := (List.getElem?_eq_some_iff.mp e1).1
      have : i = vs.length := by simp at hlt; omega
      subst this
      rw [List.getElem?_append_right (Nat.le_refl _)] at e1
      rw [R.len, List.getElem?_append_right (Nat.le_refl _)] at e2
      simp at e1 e2
      subst e1 e2
      exact h⟩
end
def rLtO (K : PySem.W.Frag) : R2 := fun x y H Q => rLtT K x y H Q ∨ ∃ i j, x = .int i /\ y = .int j /\ Q (.bl (decide (i < j))) H
theorem op_ltO {X : Cx} (hu : X.A.units < cLine) : OpR X (compareOp .Lt) (rLtO X.K) := by
  intro pins s σ H x y v u Q I rx ry h
  rcases h with h | ⟨i, j, e1, e2, q⟩
  · exact op_ltT hu pins s σ H x y v u Q I rx ry h
  · exact op_lt pins s σ H x y v u Q I rx ry ⟨i, j, e1, e2, q⟩
theorem lex_one (i j : Int) : HT.lexLt [i] [j] = decide (i < j) := by
  rw [HT.lexLt_cons]
  by_cases h : i = j
  · subst h; rw [if_pos rfl, HT.lexLt_nil_nil]; simp
  · rw [if_neg h]
theorem ltO_of {K : PySem.W.Frag} {tu : Bool} {H : Hp} {x y : V} {ks ls : List Int} {Q : VK} (h1 : KeyAt tu H x ks) (h2 : KeyAt tu H y ls) (q : Q (.bl (HT.lexLt ks ls)) H) : rLtO K x y H Q := by
  cases tu with
  | true =>
    obtain ⟨a, e1, h1⟩ := h1
    obtain ⟨b, e2, h2⟩ := h2
    exact .inl ⟨a, b, ks, ls, e1, e2, SqT.of h1, SqT.of h2, q⟩
  | false =>
    obtain ⟨i, e1, rfl⟩ := h1
    obtain ⟨j, e2, rfl⟩ := h2
    rw [lex_one] at q
    exact .inr ⟨i, j, e1, e2, q⟩
structure HpAt (C : Addr) (tu : Bool) (H : Hp) (p r : Addr) (vs : List V) (its : List (List Int)) : Prop where
  ob : ∃ dx, H p = some (.ins C dx [("row", .ref r)])
  row : H r = some (.lst vs)
  ks : KeysAt tu H vs its
open PySem
structure Leg where
  num : Int
  start : Int
  to : Int
  bad : Int
  cost : Int
def legT (g : Leg) : List Int := [g.num, g.start, g.to, g.bad, g.cost]
def overT (p : List Int) (g : Leg) : List Int := [p.getD 0 0 + g.bad, p.getD 1 0 + g.cost, p.getD 2 0 + 1]
def LegOk (g : Leg) : Prop := 0 ≤ g.to /\ 0 ≤ g.bad /\ 0 ≤ g.cost
theorem lex3 (a b c a' b' c' : Int) : HT.lexLt [a, b, c] [a', b', c'] = decide (a < a' ∨ (a = a' /\ (b < b' ∨ (b = b' /\ c < c')))) := by
  rw [HT.lexLt_cons, HT.lexLt_cons, HT.lexLt_cons, HT.lexLt_nil_nil]
  by_cases h1 : a = a'
  · subst h1
    rw [if_pos rfl]
    by_cases h2 : b = b'
    · subst h2
      rw [if_pos rfl]
      by_cases h3 : c = c'
      · subst h3; simp
      · rw [if_neg h3]; simp
    · rw [if_neg h2]; simp [h2]
  · rw [if_neg h1]; simp [h1]
theorem le3 {a b c a' b' c' : Int} : Le [a, b, c] [a', b', c'] ↔ a < a' ∨ (a = a' /\ (b < b' ∨ (b = b' /\ c ≤ c'))) := by
  unfold Le
  rw [lex3, decide_eq_false_iff_not]
  omega
theorem le4 {a b c d a' b' c' d' : Int} (h : Le [a, b, c, d] [a', b', c', d']) : Le [a, b, c] [a', b', c'] := by
  unfold Le at h ⊢
  rw [HT.lexLt_cons] at h ⊢
  by_cases h1 : a' = a
  · subst h1
    rw [if_pos rfl] at h ⊢
    rw [HT.lexLt_cons] at h ⊢
    by_cases h2 : b' = b
    · subst h2
      rw [if_pos rfl] at h ⊢
      rw [HT.lexLt_cons] at h ⊢
      by_cases h3 : c' = c
      · subst h3
        rw [if_pos rfl, HT.lexLt_nil_nil]
      · rw [if_neg h3] at h ⊢; exact h
    · rw [if_neg h2] at h ⊢; exact h
  · rw [if_neg h1] at h ⊢; exact h
def IsPr (q : List Int) : Prop := ∃ (b c : Int) (n : Nat), q = [b, c, (n : Int)]
theorem IsPr.over {p : List Int} (h : IsPr p) (g : Leg) : IsPr (overT p g) := by
  obtain ⟨b, c, n, rfl⟩ := h
  exact ⟨b + g.bad, c + g.cost, n + 1, by simp [overT]⟩
theorem le_over {p : List Int} (h : IsPr p) {g : Leg} (hg : LegOk g) : Le p (overT p g) := by
  obtain ⟨b, c, n, rfl⟩ := h
  obtain ⟨_, h1, h2⟩ := hg
  show Le [b, c, (n : Int)] [b + g.bad, c + g.cost, (n : Int) + 1]
  rw [le3]; omega
theorem over_mono {p p' : List Int} (h : IsPr p) (h' : IsPr p') (hl : Le p p') (g : Leg) : Le (overT p g) (overT p' g) := by
  obtain ⟨b, c, n, rfl⟩ := h
  obtain ⟨b', c', n', rfl⟩ := h'
  show Le [b + g.bad, c + g.cost, (n : Int) + 1] [b' + g.bad, c' + g.cost, (n' : Int) + 1]
  rw [le3] at hl ⊢; omega
structure Least (legs : List Leg) (P : Int->Option (List Int)) : Prop where
  zero : P (-1) = some [0, 0, 0]
  pr : ∀ d q, P d = some q->IsPr q
  closed : ∀ g ∈ legs, ∀ p, P g.start = some p->∃ q, P g.to = some q /\ Le q (overT p g)
  att : ∀ d q, P d = some q->d ≠ -1->∃ g ∈ legs, g.to = d /\ ∃ p, P g.start = some p /\ q = overT p g
def itemOf (p : List Int) (g : Leg) : List Int := overT p g ++ [g.to]
def putP (P : Int->Option (List Int)) (d : Int) (q : List Int) : Int->Option (List Int) := fun k => if k = d then some q else P k
theorem putP_self {P : Int->Option (List Int)} {d : Int} {q : List Int} : putP P d q d = some q := if_pos rfl
theorem putP_ne {P : Int->Option (List Int)} {d k : Int} {q : List Int} (h : k ≠ d) : putP P d q k = P k := if_neg h
structure Walk (legs : List Leg) (P : Int->Option (List Int)) (its : List (List Int)) : Prop where
  zero : P (-1) = some [0, 0, 0] ∨ ((∀ d, P d = none) /\ its = [[0, 0, 0, -1]])
  pr : ∀ d q, P d = some q->IsPr q
  att : ∀ d q, P d = some q->d ≠ -1->∃ g ∈ legs, g.to = d /\ ∃ p, P g.start = some p /\ q = overT p g
  all_ : ∀ x ∈ its, x = [0, 0, 0, -1] ∨ ∃ g ∈ legs, ∃ p, P g.start = some p /\ x = itemOf p g
  open_ : ∀ g ∈ legs, ∀ p, P g.start = some p->(∃ q, P g.to = some q /\ Le q (overT p g)) ∨ itemOf p g ∈ its
  low : ∀ d q, P d = some q->∀ x ∈ its, Le q (x.take 3)
theorem Walk.shape {legs : List Leg} {P : Int->Option (List Int)} {its : List (List Int)} (W : Walk legs P its) : ∀ x ∈ its, ∃ q d, IsPr q /\ x = q ++ [d] := fun x hx => by
  rcases W.all_ x hx with rfl | ⟨g, _, p, hp, rfl⟩
  · exact ⟨[0, 0, 0], -1, ⟨0, 0, 0, rfl⟩, rfl⟩
  · exact ⟨_, _, (W.pr _ _ hp).over g, rfl⟩
theorem take3 {q : List Int} (h : IsPr q) (d : Int) : (q ++ [d]).take 3 = q := by
  obtain ⟨b, c, n, rfl⟩ := h; rfl
theorem le_pre {q q' : List Int} {d d' : Int} (h : IsPr q) (h' : IsPr q') (hl : Le (q ++ [d]) (q' ++ [d'])) : Le q q' := by
  obtain ⟨b, c, n, rfl⟩ := h
  obtain ⟨b', c', n', rfl⟩ := h'
  exact le4 hl
theorem app1_inj {q q' : List Int} {d d' : Int} (h : IsPr q) (h' : IsPr q') (e : q ++ [d] = q' ++ [d']) : q = q' /\ d = d' := by
  obtain ⟨b, c, n, rfl⟩ := h
  obtain ⟨b', c', n', rfl⟩ := h'
  simp at e
  obtain ⟨e1, e2, e3, e4⟩ := e
  subst e1 e2 e4
  have : n = n' := by omega
  subst this
  exact ⟨rfl, rfl⟩
theorem Walk.skip {legs : List Leg} {P : Int->Option (List Int)} {its its' : List (List Int)} {q q0 : List Int} {d : Int} (W : Walk legs P its) (hq : IsPr q) (hp : its.Perm ((q ++ [d]) :: its')) (hd : P d = some q0) : Walk legs P its' := by
  have hin : ∀ x ∈ its', x ∈ its := fun x h => hp.mem_iff.mpr (by simp [h])
  have hz : P (-1) = some [0, 0, 0] := by
    rcases W.zero with h | ⟨h, _⟩
    · exact h
    · rw [h d] at hd; cases hd
  refine ⟨.inl hz, W.pr, W.att, fun x h => W.all_ x (hin x h), fun g hg p hpg => ?_, fun k r hk x hx => W.low k r hk x (hin x hx)⟩
  rcases W.open_ g hg p hpg with h | h
  · exact .inl h
  · rcases List.mem_cons.mp (hp.mem_iff.mp h) with e | h
    · obtain ⟨e1, e2⟩ := app1_inj ((W.pr _ _ hpg).over g) hq e
      have := W.low d q0 hd (q ++ [d]) (hp.mem_iff.mpr (by simp))
      rw [take3 hq] at this
      exact .inl ⟨q0, by rw [e2]; exact hd, by rw [e1]; exact this⟩
    · exact .inr h
theorem Walk.step {legs : List Leg} {P : Int->Option (List Int)} {its its' its2 : List (List Int)} {q : List Int} {d : Int} (W : Walk legs P its) (hok : ∀ g ∈ legs, LegOk g) (hq : IsPr q) (hp : its.Perm ((q ++ [d]) :: its')) (hmin : ∀ x ∈ its, Le (q ++ [d]) x) (hd : P d = none)
    (hp2 : its2.Perm (its' ++ (legs.filter fun g => decide (g.start = d)).map (itemOf q))) : Walk legs (putP P d q) its2 := by
  have hin : ∀ x ∈ its', x ∈ its := fun x h => hp.mem_iff.mpr (by simp [h])
  have hm : q ++ [d] ∈ its := hp.mem_iff.mpr (by simp)
  have hold : ∀ k r, P k = some r->putP P d q k = some r := fun k r h => by
    rw [putP_ne (fun e => by rw [e, hd] at h; cases h)]; exact h
  have hnew : ∀ k r, putP P d q k = some r->(k = d /\ r = q) ∨ (k ≠ d /\ P k = some r) := fun k r h => by
    by_cases e : k = d
    · subst e; rw [putP_self] at h; cases h; exact .inl ⟨rfl, rfl⟩
    · rw [putP_ne e] at h; exact .inr ⟨e, h⟩
  have hmem2 : ∀ x, x ∈ its2 ↔ x ∈ its' ∨ ∃ g ∈ legs, g.start = d /\ x = itemOf q g := fun x => by
    rw [hp2.mem_iff, List.mem_append, List.mem_map]
    constructor
    · rintro (h | ⟨g, hg, rfl⟩)
      · exact .inl h
      · have := List.mem_filter.mp hg
        exact .inr ⟨g, this.1, of_decide_eq_true this.2, rfl⟩
    · rintro (h | ⟨g, hg, h1, rfl⟩)
      · exact .inl h
      · exact .inr ⟨g, List.mem_filter.mpr ⟨hg, decide_eq_true h1⟩, rfl⟩
  have hfrom := W.all_ _ hm
  refine ⟨?_, fun k r h => ?_, fun k r h hk => ?_, fun x hx => ?_, fun g hg p hpg => ?_, fun k r h x hx => ?_⟩
  · left
    rcases W.zero with h | ⟨h, hi⟩
    · exact hold _ _ h
    · rw [hi] at hm
      have e := List.mem_singleton.mp hm
      obtain ⟨e1, e2⟩ := app1_inj hq ⟨0, 0, 0, rfl⟩ (show q ++ [d] = ([0, 0, ((0 : Nat) : Int)] : List Int) ++ [-1] from e)
      subst e1 e2
      exact putP_self
  · rcases hnew k r h with ⟨_, rfl⟩ | ⟨_, h⟩
    · exact hq
    · exact W.pr k r h
  · rcases hnew k r h with ⟨rfl, rfl⟩ | ⟨_, h⟩
    · rcases hfrom with e | ⟨g, hg, p, hpg, e⟩
      · obtain ⟨_, e2⟩ := app1_inj hq ⟨0, 0, 0, rfl⟩ (show r ++ [k] = ([0, 0, ((0 : Nat) : Int)] : List Int) ++ [-1] from e)
        exact absurd e2 hk
      · obtain ⟨e1, e2⟩ := app1_inj hq ((W.pr _ _ hpg).over g) e
        exact ⟨g, hg, e2.symm, p, hold _ _ hpg, e1⟩
    · obtain ⟨g, hg, h1, p, hpg, h2⟩ := W.att k r h hk
      exact ⟨g, hg, h1, p, hold _ _ hpg, h2⟩
  · rcases (hmem2 x).mp hx with hx | ⟨g, hg, h1, rfl⟩
    · rcases W.all_ x (hin x hx) with h | ⟨g, hg, p, hpg, h⟩
      · exact .inl h
      · exact .inr ⟨g, hg, p, hold _ _ hpg, h⟩
    · exact .inr ⟨g, hg, q, by rw [h1]; exact putP_self, rfl⟩
  · rcases hnew _ _ hpg with ⟨h1, rfl⟩ | ⟨h1, hpg⟩
    · exact .inr ((hmem2 _).mpr (.inr ⟨g, hg, h1, rfl⟩))
    · rcases W.open_ g hg p hpg with ⟨r, h2, h3⟩ | h2
      · exact .inl ⟨r, hold _ _ h2, h3⟩
      · rcases List.mem_cons.mp (hp.mem_iff.mp h2) with e | h2
        · obtain ⟨e1, e2⟩ := app1_inj ((W.pr _ _ hpg).over g) hq e
          exact .inl ⟨q, by rw [e2]; exact putP_self, by rw [e1]; exact Le.refl _⟩
        · exact .inr ((hmem2 _).mpr (.inl h2))
  · have hqx : Le q (x.take 3) := by
      rcases (hmem2 x).mp hx with hx | ⟨g, hg, h1, rfl⟩
      · obtain ⟨q', d', hq', rfl⟩ := W.shape x (hin x hx)
        rw [take3 hq']
        exact le_pre hq hq' (hmin _ (hin _ hx))
      · unfold itemOf
        rw [take3 (hq.over g)]
        exact le_over hq (hok g hg)
    rcases hnew k r h with ⟨_, rfl⟩ | ⟨_, h⟩
    · exact hqx
    · have := W.low k r h _ hm
      rw [take3 hq] at this
      exact this.trans hqx
theorem Walk.done {legs : List Leg} {P : Int->Option (List Int)} (W : Walk legs P []) : Least legs P := by
  refine ⟨?_, W.pr, fun g hg p hp => ?_, W.att⟩
  · rcases W.zero with h | ⟨_, h⟩
    · exact h
    · cases h
  · rcases W.open_ g hg p hp with h | h
    · exact h
    · cases h
theorem Walk.start (legs : List Leg) : Walk legs (fun _ => none) [[0, 0, 0, -1]] := by
  refine ⟨.inr ⟨fun _ => rfl, rfl⟩, fun _ _ h => ?_, fun _ _ h => ?_, fun x h => .inl (List.mem_singleton.mp h), fun _ _ _ h => ?_, fun _ _ h => ?_⟩ <;> cases h
def ahead (legs : List Leg) (P : Int->Option (List Int)) : Nat := (legs.filter fun g => (P g.start).isNone).length
theorem ahead_put {legs : List Leg} {P : Int->Option (List Int)} {d : Int} {q : List Int} (hd : P d = none) : ahead legs (putP P d q) + (legs.filter fun g => decide (g.start = d)).length = ahead legs P := by
  unfold ahead
  induction legs with
  | nil => rfl
  | cons g r ih =>
    simp only [List.filter_cons]
    by_cases e : g.start = d
    · rw [e, putP_self, hd]; simp; omega
    · rw [putP_ne e]
      simp only [e, decide_false]
      cases h : P g.start with
      | none => simp; omega
      | some _ => simp; omega
open PySem
theorem nd_len {α : Type} [DecidableEq α] : ∀ {l m : List α}, l.Nodup->(∀ x ∈ l, x ∈ m)->l.length ≤ m.length
  | [], _, _, _ => Nat.zero_le _
  | x :: l, m, hn, h => by
    have hx : x ∈ m := h x (by simp)
    have hn' := List.nodup_cons.mp hn
    have ih := nd_len (l := l) (m := m.erase x) hn'.2 fun y hy => (List.mem_erase_of_ne (show y ≠ x from fun e => hn'.1 (by rw [← e]; exact hy))).mpr (h y (by simp [hy]))
    rw [List.length_erase_of_mem hx] at ih
    have := List.length_pos_of_mem hx
    simp; omega
theorem valV_there {kvs : List (Key × V)} {k : Key} : (valV kvs k).isSome = true ↔ k ∈ kvs.map (·.1) := by
  unfold valV
  rw [Option.isSome_map, List.find?_isSome, List.mem_map]
  constructor
  · rintro ⟨x, hx, e⟩; exact ⟨x, hx, by simpa using e⟩
  · rintro ⟨x, hx, e⟩; exact ⟨x, hx, by simpa using e⟩
def RelP (H : Hp) : Option V->Option (List Int)->Prop
  | none, none => True
  | some v, some q => ∃ a, v = .ref a /\ H a = some (.tup (q.map V.int))
  | _, _ => False
theorem RelP.mono {H H' : Hp} (m : ∀ t xs, H t = some (.tup xs)->H' t = some (.tup xs)) : ∀ {o : Option V} {p : Option (List Int)}, RelP H o p->RelP H' o p
  | none, none, _ => trivial
  | some _, some _, ⟨a, e, h⟩ => ⟨a, e, m _ _ h⟩
  | none, some _, h => h.elim
  | some _, none, h => h.elim
theorem RelP.some_of {H : Hp} {o : Option V} {q : List Int} (h : RelP H o (some q)) : ∃ a, o = some (.ref a) /\ H a = some (.tup (q.map V.int)) := by
  cases o with
  | none => exact h.elim
  | some v => obtain ⟨a, rfl, h⟩ := h; exact ⟨a, rfl, h⟩
theorem RelP.none_of {H : Hp} {o : Option V} (h : RelP H o none) : o = none := by
  cases o with
  | none => rfl
  | some v => exact h.elim
theorem RelP.is {H : Hp} {o : Option V} {p : Option (List Int)} (h : RelP H o p) : o.isSome = p.isSome := by
  cases o <;> cases p <;> first | rfl | exact h.elim
structure PrAt (H : Hp) (kvs : List (Key × V)) (P : Int->Option (List Int)) : Prop where
  nd : (kvs.map (·.1)).Nodup
  alli : AllI kvs
  val : ∀ i, RelP H (valV kvs (Sum.inl i)) (P i)
section
variable {H H' : Hp} {kvs ka kb : List (Key × V)} {P P' : Int->Option (List Int)}
theorem PrAt.mono (R : PrAt H kvs P) (m : ∀ t xs, H t = some (.tup xs)->H' t = some (.tup xs)) : PrAt H' kvs P := ⟨R.nd, R.alli, fun i => (R.val i).mono m⟩
theorem PrAt.nil : PrAt H [] (fun _ => none) := ⟨List.nodup_nil, AllI.nil, fun i => trivial⟩
theorem PrAt.put (R : PrAt H kvs P) {d : Int} {q : List Int} {a : Addr} (hd : P d = none) (ha : H a = some (.tup (q.map V.int))) : PrAt H (putK kvs (Sum.inl d) (.ref a)) (putP P d q) := by
  have hn : valV kvs (Sum.inl d) = none := by have := R.val d; rw [hd] at this; exact this.none_of
  refine ⟨nd_putK _ R.nd hn, R.alli.put d _, fun i => ?_⟩
  rw [valV_put]
  by_cases e : i = d
  · subst e; rw [if_pos rfl, putP_self]; exact ⟨a, rfl, ha⟩
  · rw [if_neg (fun h => e (Sum.inl.inj h)), putP_ne e]; exact R.val i
def dropP (P : Int->Option (List Int)) (d : Int) : Int->Option (List Int) := fun k => if k = d then none else P k
theorem PrAt.drop (R : PrAt H kvs P) (d : Int) : PrAt H (dropK kvs (Sum.inl d)) (dropP P d) := by
  refine ⟨nd_dropK R.nd, R.alli.drop _, fun i => ?_⟩
  rw [valV_drop]
  by_cases e : i = d
  · subst e; rw [if_pos rfl]; unfold dropP; rw [if_pos rfl]; trivial
  · rw [if_neg (fun h => e (Sum.inl.inj h))]; unfold dropP; rw [if_neg e]; exact R.val i
end
theorem SeqEq.intsT {K : PySem.W.Frag} {H : Hp} {a c : Addr} {xs ys : List Int} (h1 : SqT K H a (xs.map V.int)) (h2 : SqT K H c (ys.map V.int)) : SeqEq K H (EqI K H 0) (.ref a) (.ref c) (decide (xs = ys)) := by
  refine ⟨a, c, _, _, fun j => decide (xs[j]? = ys[j]?), rfl, rfl, .inr (.inr ⟨h1, h2, fun j x' y' e1 e2 => ?_, ?_⟩)⟩
  · rw [List.getElem?_map] at e1 e2
    obtain ⟨x, ex, rfl⟩ := Option.map_eq_some_iff.mp e1
    obtain ⟨y, ey, rfl⟩ := Option.map_eq_some_iff.mp e2
    refine .inl ⟨rfl, rfl, ?_⟩
    show decide (xs[j]? = ys[j]?) = eqV (.int x) (.int y)
    rw [ex, ey]
    show decide (some x = some y) = (x == y)
    rw [Bool.eq_iff_iff, decide_eq_true_iff, beq_iff_eq]
    exact ⟨fun h => Option.some.inj h, fun h => by rw [h]⟩
  · rw [List.length_map, List.length_map, Bool.eq_iff_iff, decide_eq_true_iff, Bool.and_eq_true, List.all_eq_true]
    constructor
    · rintro rfl; exact ⟨fun j _ => by simp, by simp⟩
    · rintro ⟨h, hl⟩
      have hl : xs.length = ys.length := by simpa using hl
      refine List.ext_getElem? fun j => ?_
      by_cases hj : j < xs.length
      · exact of_decide_eq_true (h j (List.mem_range.mpr (by omega)))
      · rw [List.getElem?_eq_none (by omega), List.getElem?_eq_none (by omega)]
theorem nd_put {kvs : List (Key × V)} {k : Key} (v : V) (hn : (kvs.map (·.1)).Nodup) : ((putK kvs k v).map (·.1)).Nodup := by
  cases h : valV kvs k with
  | none => exact nd_putK v hn h
  | some y =>
    unfold putK
    rw [valV_any, h]
    simp only [Option.isSome_some, if_true, List.map_map]
    rw [show ((fun x : Key × V => x.1) ∘ fun kv : Key × V => if kv.1 = k then (kv.1, v) else kv) = fun x => x.1 from funext fun kv => by simp only [Function.comp]; split <;> rfl]
    exact hn
structure SetAt (kvs : List (Key × V)) (S : Int->Prop) : Prop where
  nd : (kvs.map (·.1)).Nodup
  alli : AllI kvs
  val : ∀ i, (valV kvs (Sum.inl i)).isSome = true ↔ S i
theorem SetAt.nil : SetAt [] (fun _ => False) := ⟨List.nodup_nil, AllI.nil, fun i => ⟨fun h => (by cases h), fun h => h.elim⟩⟩
theorem KeysAt.reverse {tu : Bool} {H : Hp} {vs : List V} {its : List (List Int)} (R : KeysAt tu H vs its) : KeysAt tu H vs.reverse its.reverse :=
  ⟨by rw [List.length_reverse, List.length_reverse, R.len], fun i v ks e1 e2 => by
    have h1 := (List.getElem?_eq_some_iff.mp e1).1
    have h2 := (List.getElem?_eq_some_iff.mp e2).1
    rw [List.length_reverse] at h1 h2
    rw [List.getElem?_reverse h1] at e1
    rw [List.getElem?_reverse h2, ← R.len] at e2
    exact R.get _ v ks e1 e2⟩
open PySem
structure Near (P B : Int->Option (List Int)) : Prop where
  zero : B (-1) = some [0, 0, 0]
  pr : ∀ d q, B d = some q->IsPr q
  low : ∀ d q, B d = some q->∃ p, P d = some p /\ Le p q
def Sett (P B : Int->Option (List Int)) (r : Nat) : Prop := ∀ (d b c : Int) (n : Nat), P d = some [b, c, (n : Int)]->n ≤ r->B d = some [b, c, (n : Int)]
def ClosedP (B : Int->Option (List Int)) (g : Leg) : Prop := ∀ p, B g.start = some p->∃ q, B g.to = some q /\ Le q (overT p g)
def DoneP (P B : Int->Option (List Int)) (r : Nat) (g : Leg) : Prop := ∀ (b c : Int) (n : Nat), P g.start = some [b, c, (n : Int)]->n ≤ r->∃ q, B g.to = some q /\ Le q (overT [b, c, (n : Int)] g)
def LessP (B : Int->Option (List Int)) (d : Int) (q : List Int) : Prop := ∀ q', B d = some q'->HT.lexLt q q' = true
theorem le_of_lt3 {p q : List Int} (hp : IsPr p) (hq : IsPr q) (h : HT.lexLt p q = true) : Le p q := by
  obtain ⟨b, c, n, rfl⟩ := hp
  obtain ⟨b', c', n', rfl⟩ := hq
  rw [lex3, decide_eq_true_iff] at h
  rw [le3]; omega
theorem lt_not_le {p q : List Int} (h : HT.lexLt p q = true) (h' : Le q p) : False := by
  unfold Le at h'; rw [h] at h'; cases h'
section
variable {legs : List Leg} {P B : Int->Option (List Int)} {g : Leg} {p : List Int} {r : Nat}
theorem Near.start (LP : Least legs P) : Near P (putP (fun _ => none) (-1) [0, 0, 0]) := by
  refine ⟨putP_self, fun d q h => ?_, fun d q h => ?_⟩
  · by_cases e : d = -1
    · subst e; rw [putP_self] at h; cases h; exact ⟨0, 0, 0, rfl⟩
    · rw [putP_ne e] at h; cases h
  · by_cases e : d = -1
    · subst e; rw [putP_self] at h; cases h; exact ⟨_, LP.zero, Le.refl _⟩
    · rw [putP_ne e] at h; cases h
theorem Sett.start (LP : Least legs P) : Sett P (putP (fun _ => none) (-1) [0, 0, 0]) 0 := by
  intro d b c n hd hn
  have : n = 0 := by omega
  subst this
  by_cases e : d = -1
  · subst e; rw [LP.zero] at hd; cases hd; exact putP_self
  · obtain ⟨g, hg, rfl, p, hp, hq⟩ := LP.att d _ hd e
    obtain ⟨b', c', m, rfl⟩ := LP.pr _ _ hp
    have h3 : ((0 : Nat) : Int) = (m : Int) + 1 := congrArg (fun l : List Int => l.getD 2 0) hq
    exact absurd h3 (by omega)
theorem Near.over (LP : Least legs P) (h : Near P B) (hg : g ∈ legs) (hp : B g.start = some p) : ∃ q, P g.to = some q /\ Le q (overT p g) := by
  obtain ⟨p0, hp0, hl⟩ := h.low _ _ hp
  obtain ⟨q, hq, hl2⟩ := LP.closed g hg p0 hp0
  exact ⟨q, hq, hl2.trans (over_mono (LP.pr _ _ hp0) (h.pr _ _ hp) hl g)⟩
theorem Near.put (LP : Least legs P) (h : Near P B) (hg : g ∈ legs) (hto : g.to ≠ -1) (hp : B g.start = some p) : Near P (putP B g.to (overT p g)) := by
  refine ⟨by rw [putP_ne (Ne.symm hto)]; exact h.zero, fun d q hd => ?_, fun d q hd => ?_⟩
  · by_cases e : d = g.to
    · subst e; rw [putP_self] at hd; cases hd; exact (h.pr _ _ hp).over g
    · rw [putP_ne e] at hd; exact h.pr d q hd
  · by_cases e : d = g.to
    · subst e; rw [putP_self] at hd; cases hd; exact h.over LP hg hp
    · rw [putP_ne e] at hd; exact h.low d q hd
theorem Sett.put (LP : Least legs P) (h : Near P B) (hs : Sett P B r) (hg : g ∈ legs) (hp : B g.start = some p) (hl : LessP B g.to (overT p g)) (hc : ∀ (d b c : Int) (n : Nat), P d = some [b, c, (n : Int)]->n ≤ legs.length) : Sett P (putP B g.to (overT p g)) r /\ r < legs.length := by
  obtain ⟨q, hq, hle⟩ := h.over LP hg hp
  obtain ⟨b, c, n, rfl⟩ := LP.pr _ _ hq
  have hn : r < n := by
    refine Nat.lt_of_not_le fun hn => ?_
    exact lt_not_le (hl _ (hs _ b c n hq hn)) hle
  refine ⟨fun d b' c' m hd hm => ?_, by have := hc _ _ _ _ hq; omega⟩
  by_cases e : d = g.to
  · subst e
    rw [hq] at hd
    have h3 : (n : Int) = (m : Int) := congrArg (fun l : List Int => l.getD 2 0) (Option.some.inj hd)
    omega
  · rw [putP_ne e]; exact hs d b' c' m hd hm
theorem DoneP.put (h : Near P B) (hp : B g.start = some p) (hl : LessP B g.to (overT p g)) {g' : Leg} (hd : DoneP P B r g') : DoneP P (putP B g.to (overT p g)) r g' := by
  intro b c n h1 h2
  obtain ⟨q, hq, hle⟩ := hd b c n h1 h2
  by_cases e : g'.to = g.to
  · rw [e] at hq ⊢
    rw [putP_self]
    exact ⟨_, rfl, (le_of_lt3 ((h.pr _ _ hp).over g) (h.pr _ _ hq) (hl q hq)).trans hle⟩
  · rw [putP_ne e]; exact ⟨q, hq, hle⟩
theorem DoneP.new (hs : Sett P B r) (hp : B g.start = some p) : DoneP P (putP B g.to (overT p g)) r g := by
  intro b c n h1 h2
  have := hs _ _ _ _ h1 h2
  rw [hp] at this
  cases this
  exact ⟨_, putP_self, Le.refl _⟩
theorem DoneP.old (hs : Sett P B r) (hc : ClosedP B g) : DoneP P B r g := fun b c n h1 h2 => hc _ (hs _ _ _ _ h1 h2)
theorem Sett.next (LP : Least legs P) (h : Near P B) (hs : Sett P B r) (hd : ∀ g ∈ legs, DoneP P B r g) : Sett P B (r + 1) := by
  intro d b c n hP hn
  by_cases e : n ≤ r
  · exact hs d b c n hP e
  · have : n = r + 1 := by omega
    subst this
    have e1 : d ≠ -1 := fun e => by rw [e, LP.zero] at hP; cases hP
    obtain ⟨g, hg, rfl, p, hp, hq⟩ := LP.att d _ hP e1
    obtain ⟨b', c', m, rfl⟩ := LP.pr _ _ hp
    have h3 : ((r + 1 : Nat) : Int) = (m : Int) + 1 := congrArg (fun l : List Int => l.getD 2 0) hq
    obtain ⟨q, hB, hle⟩ := hd g hg b' c' m hp (by omega)
    obtain ⟨p', hp', hl'⟩ := h.low _ _ hB
    rw [hP] at hp'
    cases hp'
    rw [← hq] at hle
    rw [hB, Le.antisymm hle hl']
theorem Near.done (LP : Least legs P) (h : Near P B) (hc : ∀ g ∈ legs, ClosedP B g) : B = P := by
  have key : ∀ (n : Nat) (d b c : Int), P d = some [b, c, (n : Int)]->∃ q, B d = some q /\ Le q [b, c, (n : Int)] := by
    intro n
    induction n with
    | zero =>
      intro d b c hd
      by_cases e : d = -1
      · subst e; rw [LP.zero] at hd; cases hd; exact ⟨_, h.zero, Le.refl _⟩
      · obtain ⟨g, hg, rfl, p, hp, hq⟩ := LP.att d _ hd e
        obtain ⟨b', c', m, rfl⟩ := LP.pr _ _ hp
        have h3 : ((0 : Nat) : Int) = (m : Int) + 1 := congrArg (fun l : List Int => l.getD 2 0) hq
        exact absurd h3 (by omega)
    | succ n ih =>
      intro d b c hd
      have e : d ≠ -1 := fun e => by rw [e, LP.zero] at hd; cases hd
      obtain ⟨g, hg, rfl, p, hp, hq⟩ := LP.att d _ hd e
      obtain ⟨b', c', m, rfl⟩ := LP.pr _ _ hp
      have h3 : ((n + 1 : Nat) : Int) = (m : Int) + 1 := congrArg (fun l : List Int => l.getD 2 0) hq
      have hm : m = n := by omega
      subst hm
      obtain ⟨p', hp', hl⟩ := ih _ _ _ hp
      obtain ⟨q', hq', hl'⟩ := hc g hg p' hp'
      refine ⟨q', hq', hl'.trans ?_⟩
      rw [hq]
      exact over_mono (h.pr _ _ hp') ⟨_, _, _, rfl⟩ hl g
  funext d
  cases hP : P d with
  | none =>
    cases hB : B d with
    | none => rfl
    | some q => obtain ⟨p, hp, _⟩ := h.low d q hB; rw [hP] at hp; cases hp
  | some q =>
    obtain ⟨b, c, n, rfl⟩ := LP.pr _ _ hP
    obtain ⟨q', hq', hl⟩ := key n d b c hP
    obtain ⟨p, hp, hl'⟩ := h.low _ _ hq'
    rw [hP] at hp
    cases hp
    rw [hq', Le.antisymm hl hl']
theorem Near.only (LP : Least legs P) (h : Near P B) {d : Int} (hd : (B d).isSome = true) : d = -1 ∨ ∃ g ∈ legs, g.to = d := by
  cases hB : B d with
  | none => rw [hB] at hd; cases hd
  | some q =>
    obtain ⟨p, hp, _⟩ := h.low d q hB
    by_cases e : d = -1
    · exact .inl e
    · obtain ⟨g, hg, h1, _⟩ := LP.att d p hp e
      exact .inr ⟨g, hg, h1⟩
end
section
variable {H : Hp} {kvs : List (Key × V)} {P B : Int->Option (List Int)}
theorem PrAt.putG (R : PrAt H kvs B) {d : Int} {q : List Int} {a : Addr} (ha : H a = some (.tup (q.map V.int))) : PrAt H (putK kvs (Sum.inl d) (.ref a)) (putP B d q) := by
  refine ⟨nd_put _ R.nd, R.alli.put d _, fun i => ?_⟩
  rw [valV_put]
  by_cases e : i = d
  · subst e; rw [if_pos rfl, putP_self]; exact ⟨a, rfl, ha⟩
  · rw [if_neg (fun h => e (Sum.inl.inj h)), putP_ne e]; exact R.val i
theorem PrAt.few {legs : List Leg} (R : PrAt H kvs B) (h : ∀ d, (B d).isSome = true->d = -1 ∨ ∃ g ∈ legs, g.to = d) : kvs.length ≤ legs.length + 1 := by
  have := nd_len R.nd (m := (Sum.inl (-1) : Key) :: legs.map fun g => (Sum.inl g.to : Key)) fun k hk => by
    obtain ⟨kv, hkv, rfl⟩ := List.mem_map.mp hk
    obtain ⟨n, hn⟩ := R.alli kv hkv
    rw [hn] at hk ⊢
    have h1 := valV_there.mpr hk
    rw [(R.val n).is] at h1
    rcases h n h1 with rfl | ⟨g, hg, rfl⟩
    · exact List.mem_cons_self ..
    · exact List.mem_cons_of_mem _ (List.mem_map.mpr ⟨g, hg, rfl⟩)
  simpa using this
theorem PrAt.start {a : Addr} (ha : H a = some (.tup (([0, 0, 0] : List Int).map V.int))) : PrAt H [((Sum.inl (-1) : Key), V.ref a)] (putP (fun _ => none) (-1) [0, 0, 0]) := PrAt.nil.put rfl ha
end
theorem min_ex : ∀ {l : List (List Int)}, l ≠ []->∃ x ∈ l, ∀ y ∈ l, Le x y
  | [], h => absurd rfl h
  | [x], _ => ⟨x, by simp, fun y hy => by rw [List.mem_singleton.mp hy]; exact Le.refl _⟩
  | x :: z :: l, _ => by
    obtain ⟨m, hm, h⟩ := min_ex (l := z :: l) (by simp)
    rcases Le.total x m with hx | hx
    · refine ⟨x, by simp, fun y hy => ?_⟩
      rcases List.mem_cons.mp hy with e | hy
      · rw [e]; exact Le.refl _
      · exact hx.trans (h y hy)
    · refine ⟨m, List.mem_cons_of_mem _ hm, fun y hy => ?_⟩
      rcases List.mem_cons.mp hy with e | hy
      · rw [e]; exact hx
      · exact h y hy
theorem least_exW {legs : List Leg} (hok : ∀ g ∈ legs, LegOk g) : ∀ (m : Nat) (P : Int->Option (List Int)) (its : List (List Int)), Walk legs P its->ahead legs P + its.length = m->∃ P', Least legs P' := by
  intro m
  induction m with
  | zero =>
    intro P its W h
    have : its = [] := List.length_eq_zero_iff.mp (by omega)
    subst this
    exact ⟨P, W.done⟩
  | succ m ih =>
    intro P its W h
    by_cases e : its = []
    · subst e; exact ⟨P, W.done⟩
    · obtain ⟨x, hx, hmin⟩ := min_ex e
      obtain ⟨q, d, hq, rfl⟩ := W.shape x hx
      have hp := List.perm_cons_erase hx
      have hl := hp.length_eq
      simp only [List.length_cons] at hl
      cases hd : P d with
      | some q0 => exact ih P _ (W.skip hq hp hd) (by omega)
      | none =>
        have hap := ahead_put (legs := legs) (q := q) hd
        refine ih _ _ (W.step hok hq hp hmin hd (List.Perm.refl _)) ?_
        rw [List.length_append, List.length_map]
        omega
theorem least_ex {legs : List Leg} (hok : ∀ g ∈ legs, LegOk g) : ∃ P, Least legs P := least_exW hok _ _ _ (Walk.start legs) rfl
open PySem PySem.Spec PyProof.Rows
abbrev wN : PySem.Str := PySem.Str.ofString "none"
abbrev wW : PySem.Str := PySem.Str.ofString "whole"
abbrev wS : PySem.Str := PySem.Str.ofString "since"
abbrev wL : PySem.Str := PySem.Str.ofString "last"
theorem SqB.len {K : PySem.W.Frag} {tu : Bool} {H : Hp} {l : Addr} {xs : List V} (h : SqB K tu H l xs) : SqL K H l xs ∨ SqT K H l xs := by
  cases tu
  · exact .inl h
  · exact .inr h
def lastGo (p : PySem.Str->Bool) : List PySem.Str->Option Nat
  | [] => none
  | w :: r => if p w = true then some r.length else lastGo p r
def lastIx (p : PySem.Str->Bool) (ws : List PySem.Str) : Option Nat := lastGo p ws.reverse
def isW (w : PySem.Str) : Bool := decide (w = wW)
def isK (w : PySem.Str) : Bool := decide (w ≠ wN)
structure BasesOk (kvs : List (Key × V)) (ws : List PySem.Str) : Prop where
  w : valV kvs (Sum.inr wW) = some (.int (-1))
  s : valV kvs (Sum.inr wS) = (lastIx isW ws).map fun i => V.int (i : Int)
  l : valV kvs (Sum.inr wL) = (lastIx isK ws).map fun i => V.int (i : Int)
  n : valV kvs (Sum.inr wN) = none
structure RowsTu (H : Hp) (L : List Addr) (xss : List (List Int)) : Prop where
  len : L.length = xss.length
  get : ∀ (i : Nat) a xs, L[i]? = some a->xss[i]? = some xs->H a = some (.tup (xs.map V.int))
theorem BasesOk.filter {kvs : List (Key × V)} {ws : List PySem.Str} (B : BasesOk kvs ws) : ([wW, wS, wL].filter fun w => (valV kvs (Sum.inr w)).isSome) = [wW] ++ ((if lastIx isW ws = none then [] else [wS]) ++ (if lastIx isK ws = none then [] else [wL])) := by
  rw [List.filter_cons, List.filter_cons, List.filter_cons, List.filter_nil, B.w, B.s, B.l]
  cases lastIx isW ws <;> cases lastIx isK ws <;> simp
open PySem PySem.Spec PyProof.Rows
theorem sl_tupK {X : Cx} {K : PySem.W.Frag} (e : X.K = K) : SlR X (rSlT K) := by subst e; exact sl_tup
def bOf (pre : List PySem.Str) (w : PySem.Str) : Option Int :=
  if w = wW then some (-1) else if w = wS then (lastIx isW pre).map (fun i : Nat => (i : Int)) else if w = wL then (lastIx isK pre).map (fun i : Nat => (i : Int)) else none
theorem bOf_N (pre : List PySem.Str) : bOf pre wN = none := by
  unfold bOf; rw [if_neg (by decide +kernel), if_neg (by decide +kernel), if_neg (by decide +kernel)]
theorem bOf_W (pre : List PySem.Str) : bOf pre wW = some (-1) := by unfold bOf; rw [if_pos rfl]
theorem bOf_S (pre : List PySem.Str) : bOf pre wS = (lastIx isW pre).map (fun i : Nat => (i : Int)) := by
  unfold bOf; rw [if_neg (by decide +kernel), if_pos rfl]
theorem bOf_L (pre : List PySem.Str) : bOf pre wL = (lastIx isK pre).map (fun i : Nat => (i : Int)) := by
  unfold bOf; rw [if_neg (by decide +kernel), if_neg (by decide +kernel), if_pos rfl]
def VW (ws : List PySem.Str) : Prop := ∀ (d : Nat) w, ws[d]? = some w->w = wN ∨ w = wW ∨ (w = wS /\ lastIx isW (ws.take d) ≠ none) ∨ (w = wL /\ lastIx isK (ws.take d) ≠ none)
theorem VW.nil : VW [] := fun d w h => by simp at h
theorem VW.take {ws : List PySem.Str} (h : VW ws) (k : Nat) : VW (ws.take k) := fun d w e => by
  have hd : d < k := by
    have := (List.getElem?_eq_some_iff.mp e).1
    rw [List.length_take] at this; omega
  rw [List.getElem?_take_of_lt hd] at e
  rw [List.take_take, Nat.min_eq_left (by omega)]
  exact h d w e
theorem BasesOk.get {kvs : List (Key × V)} {pre : List PySem.Str} (B : BasesOk kvs pre) {w : PySem.Str} (h : w = wN ∨ w = wW ∨ w = wS ∨ w = wL) : valV kvs (Sum.inr w) = (bOf pre w).map V.int := by
  rcases h with rfl | rfl | rfl | rfl
  · rw [B.n, bOf_N]; rfl
  · rw [B.w, bOf_W]; rfl
  · rw [B.s, bOf_S]; cases lastIx isW pre <;> rfl
  · rw [B.l, bOf_L]; cases lastIx isK pre <;> rfl
open PySem PySem.Spec PyProof.Rows
def VN (weights : List Int) (ws : List PySem.Str) : Prop := ∀ d : Nat, ws[d]? = some wN->weights.getD d 0 = 0
theorem VN.nil {weights : List Int} : VN weights [] := fun d h => by simp at h
theorem VN.take {weights : List Int} {ws : List PySem.Str} (h : VN weights ws) (k : Nat) : VN weights (ws.take k) := fun d e => by
  have hd : d < k := by
    have := (List.getElem?_eq_some_iff.mp e).1
    rw [List.length_take] at this; omega
  rw [List.getElem?_take_of_lt hd] at e
  exact h d e
open PySem
def Rise (xs : Array Nat) : Prop := ∀ (i j a b : Nat), xs[i]? = some a->xs[j]? = some b->i < j->a < b
theorem below_go {xs : Array Nat} {j : Nat} (hr : Rise xs) : ∀ (fuel lo hi : Nat), hi ≤ xs.size->hi - lo ≤ fuel->lo ≤ hi->(∀ i a, i < lo->xs[i]? = some a->a < j)->(∀ i a, hi ≤ i->xs[i]? = some a->j ≤ a) →
    ∃ p, SetTable.below.go xs j fuel lo hi = p /\ p ≤ xs.size /\ (∀ i a, i < p->xs[i]? = some a->a < j) /\ (∀ i a, p ≤ i->xs[i]? = some a->j ≤ a)
  | 0, lo, hi, h1, h2, h3, h4, h5 => ⟨lo, rfl, by omega, h4, fun i a hi' e => h5 i a (by omega) e⟩
  | fuel + 1, lo, hi, h1, h2, h3, h4, h5 => by
    unfold SetTable.below.go
    by_cases hl : lo < hi
    · rw [if_pos hl]
      dsimp only
      have hm : (lo + hi) / 2 < xs.size := by omega
      have em : xs[(lo + hi) / 2]? = some xs[(lo + hi) / 2] := Array.getElem?_eq_getElem hm
      have eg : xs.getD ((lo + hi) / 2) j = xs[(lo + hi) / 2] := by simp [Array.getD, hm]
      rw [eg]
      by_cases hc : xs[(lo + hi) / 2] < j
      · rw [if_pos hc]
        refine below_go hr fuel _ hi h1 (by omega) (by omega) (fun i a hi' e => ?_) h5
        by_cases he : i = (lo + hi) / 2
        · subst he; rw [em] at e; cases e; exact hc
        · have := hr i _ a _ e em (by omega); omega
      · rw [if_neg hc]
        refine below_go hr fuel lo _ (by omega) (by omega) (by omega) h4 (fun i a hi' e => ?_)
        by_cases he : i = (lo + hi) / 2
        · subst he; rw [em] at e; cases e; omega
        · have := hr _ i _ a em e (by omega); omega
    · rw [if_neg hl]
      exact ⟨lo, rfl, by omega, h4, fun i a hi' e => h5 i a (by omega) e⟩
theorem below_ok {xs : Array Nat} (hr : Rise xs) (j : Nat) : SetTable.below xs j ≤ xs.size /\ (∀ i a, i < SetTable.below xs j->xs[i]? = some a->a < j) /\ (∀ i a, SetTable.below xs j ≤ i->xs[i]? = some a->j ≤ a) := by
  obtain ⟨p, e, h⟩ := below_go (j := j) hr xs.size 0 xs.size (Nat.le_refl _) (by omega) (by omega) (fun i a h => by omega) (fun i a h e => by rw [Array.getElem?_eq_none h] at e; cases e)
  have : SetTable.below xs j = p := e
  rw [this]; exact h
theorem below_next {xs : Array Nat} (hr : Rise xs) {i a : Nat} (h : xs[i]? = some a) : SetTable.below xs (a + 1) = i + 1 := by
  obtain ⟨h1, h2, h3⟩ := below_ok hr (a + 1)
  have hi : i < xs.size := (Array.getElem?_eq_some_iff.mp h).1
  rcases Nat.lt_trichotomy (SetTable.below xs (a + 1)) (i + 1) with z | z | z
  · have := h3 i a (by omega) h; omega
  · exact z
  · have e : xs[i + 1]? = some (xs[i + 1]'(by omega)) := Array.getElem?_eq_getElem (by omega)
    have u1 := h2 (i + 1) _ z e
    have u2 := hr i (i + 1) _ _ h e (by omega)
    omega
theorem below_zero {xs : Array Nat} (hr : Rise xs) : SetTable.below xs 0 = 0 := by
  obtain ⟨h1, h2, _⟩ := below_ok hr 0
  rcases Nat.eq_zero_or_pos (SetTable.below xs 0) with z | z
  · exact z
  · have e : xs[0]? = some (xs[0]'(by omega)) := Array.getElem?_eq_getElem (by omega)
    have := h2 0 _ z e; omega
theorem insertAt_get {α : Type} (xs : Array α) {p : Nat} (hp : p ≤ xs.size) (x : α) (i : Nat) : (SetTable.insertAt xs p x)[i]? = if i < p then xs[i]? else if i = p then some x else xs[i - 1]? := by
  rw [← Array.getElem?_toList, SetTable.toList_insertAt]
  have hl : (xs.toList.take p).length = p := by rw [List.length_take]; simp; omega
  by_cases h1 : i < p
  · rw [if_pos h1, List.getElem?_append_left (by omega), List.getElem?_take_of_lt h1]; simp
  · rw [if_neg h1, List.getElem?_append_right (by omega), hl]
    by_cases h2 : i = p
    · rw [if_pos h2, h2, Nat.sub_self]; rfl
    · rw [if_neg h2, show i - p = (i - p - 1) + 1 by omega, List.getElem?_cons_succ, List.getElem?_drop, show p + (i - p - 1) = i - 1 by omega]; simp
theorem rise_insert {xs : Array Nat} (hr : Rise xs) {j : Nat} (hj : xs[SetTable.below xs j]? ≠ some j) : Rise (SetTable.insertAt xs (SetTable.below xs j) j) := by
  obtain ⟨hp, h1, h2⟩ := below_ok hr j
  have h3 : ∀ i a, SetTable.below xs j ≤ i->xs[i]? = some a->j < a := fun i a hi e => by
    have := h2 i a hi e
    rcases Nat.lt_or_eq_of_le this with z | z
    · exact z
    · subst z
      rcases Nat.lt_or_eq_of_le hi with y | y
      · have e2 : xs[SetTable.below xs j]? = some (xs[SetTable.below xs j]'(by have := (Array.getElem?_eq_some_iff.mp e).1; omega)) := Array.getElem?_eq_getElem _
        have u1 := h2 _ _ (Nat.le_refl _) e2
        have u2 := hr _ _ _ _ e2 e y
        omega
      · rw [y] at hj; exact absurd e hj
  intro i k a b ha hb hik
  rw [insertAt_get xs hp] at ha hb
  by_cases i1 : i < SetTable.below xs j
  · rw [if_pos i1] at ha
    by_cases k1 : k < SetTable.below xs j
    · rw [if_pos k1] at hb; exact hr i k a b ha hb hik
    · rw [if_neg k1] at hb
      by_cases k2 : k = SetTable.below xs j
      · rw [if_pos k2] at hb; cases hb; exact h1 i a i1 ha
      · rw [if_neg k2] at hb; exact hr i (k - 1) a b ha hb (by omega)
  · rw [if_neg i1] at ha
    by_cases i2 : i = SetTable.below xs j
    · rw [if_pos i2] at ha; cases ha
      rw [if_neg (by omega), if_neg (by omega)] at hb
      exact h3 (k - 1) b (by omega) hb
    · rw [if_neg i2] at ha
      rw [if_neg (by omega), if_neg (by omega)] at hb
      exact hr (i - 1) (k - 1) a b ha hb (by omega)
theorem rise_mem {xs : Array Nat} (hr : Rise xs) {j : Nat} (h : xs[SetTable.below xs j]? = some j) : j ∈ xs.toList := by
  rw [← Array.getElem?_toList] at h; exact List.mem_of_getElem? h
theorem len_of_all : ∀ (m : Nat) (l : List Nat), (∀ j, j < m->j ∈ l)->m ≤ l.length
  | 0, l, _ => Nat.zero_le _
  | m + 1, l, h => by
    have hm := h m (by omega)
    have ih := len_of_all m (l.erase m) fun j hj => (List.mem_erase_of_ne (by omega)).mpr (h j (by omega))
    rw [List.length_erase_of_mem hm] at ih
    have := List.length_pos_of_mem hm
    omega
def hop (N i : Nat) : Nat := (i * 5 + 1) % N
def hops (N : Nat) : Nat->Nat->Nat
  | 0, i => i
  | m + 1, i => hops N m (hop N i)
def orbM (N : Nat) : Nat->Nat->Nat
  | 0, _ => 0
  | m + 1, i => (1 <<< i) ||| orbM N m (hop N i)
theorem orbM_mem {N j : Nat} : ∀ (m i : Nat), (orbM N m i).testBit j = true->∃ k, k < m /\ hops N k i = j
  | 0, i, h => by simp [orbM] at h
  | m + 1, i, h => by
    unfold orbM at h
    rw [Nat.testBit_or, Bool.or_eq_true] at h
    rcases h with h | h
    · refine ⟨0, by omega, ?_⟩
      rw [Nat.testBit_shiftLeft] at h
      simp only [Bool.and_eq_true, decide_eq_true_eq] at h
      obtain ⟨h1, h2⟩ := h
      have : j - i = 0 := by
        rcases Nat.eq_zero_or_pos (j - i) with z | z
        · exact z
        · rw [Nat.testBit_one_eq_true_iff_self_eq_zero] at h2; exact h2
      show i = j
      omega
    · obtain ⟨k, hk, e⟩ := orbM_mem m (hop N i) h
      exact ⟨k + 1, by omega, e⟩
def coverM (N : Nat) : Bool := (List.range N).all fun i => orbM N N i == 2 ^ N - 1
theorem cover8 : coverM 8 = true := by decide +kernel
theorem cover32 : coverM 32 = true := by decide +kernel
theorem cover128 : coverM 128 = true := by decide +kernel
theorem cover_hop {N : Nat} (h : coverM N = true) {i j : Nat} (hi : i < N) (hj : j < N) : ∃ k, k < N /\ hops N k i = j := by
  unfold coverM at h
  rw [List.all_eq_true] at h
  have := h i (List.mem_range.mpr hi)
  rw [beq_iff_eq] at this
  refine orbM_mem N i ?_
  rw [this, Nat.testBit_two_pow_sub_one]
  exact decide_eq_true hj
def adv (t : SetTable) : Nat->SetTable.Probe->SetTable.Probe
  | 0, p => p
  | k + 1, p => adv t k (t.advance p)
theorem adv_add (t : SetTable) : ∀ (a b : Nat) (p : SetTable.Probe), adv t (a + b) p = adv t b (adv t a p)
  | 0, b, p => by rw [Nat.zero_add]; rfl
  | a + 1, b, p => by rw [show a + 1 + b = (a + b) + 1 by omega]; exact adv_add t a b (t.advance p)
def blockAt (t : SetTable) (q : Nat × Nat) (d : Option Nat) : SetTable.Probe := { j := q.1, more := SetTable.runEnd t.mask q.1 - q.1, i := q.1, perturb := q.2, dummy := d }
theorem adv_run (t : SetTable) : ∀ (m : Nat) (p : SetTable.Probe), p.more = m->adv t (m + 1) p = blockAt t (SetTable.leap t.mask p.i p.perturb) p.dummy
  | 0, p, h => by
    show t.advance p = _
    unfold SetTable.advance
    rw [if_neg (by omega)]
    rfl
  | m + 1, p, h => by
    show adv t (m + 1) (t.advance p) = _
    have e : t.advance p = { p with j := p.j + 1, more := p.more - 1 } := by unfold SetTable.advance; rw [if_pos (by omega)]
    rw [e, adv_run t m _ (by show p.more - 1 = m; omega)]
def leaps (mask : Nat) : Nat->Nat × Nat->Nat × Nat
  | 0, q => q
  | m + 1, q => leaps mask m (SetTable.leap mask q.1 q.2)
theorem run9 (mask i : Nat) : SetTable.runEnd mask i - i ≤ 9 := by unfold SetTable.runEnd; split <;> omega
theorem adv_leaps (t : SetTable) (d : Option Nat) : ∀ (m : Nat) (q : Nat × Nat), ∃ k, k ≤ 10 * m /\ adv t k (blockAt t q d) = blockAt t (leaps t.mask m q) d
  | 0, q => ⟨0, by omega, rfl⟩
  | m + 1, q => by
    obtain ⟨k, hk, e⟩ := adv_leaps t d m (SetTable.leap t.mask q.1 q.2)
    refine ⟨(SetTable.runEnd t.mask q.1 - q.1 + 1) + k, by have := run9 t.mask q.1; omega, ?_⟩
    rw [adv_add, adv_run t (SetTable.runEnd t.mask q.1 - q.1) (blockAt t q d) rfl]
    exact e
theorem leaps_add (mask : Nat) : ∀ (a b : Nat) (q : Nat × Nat), leaps mask (a + b) q = leaps mask b (leaps mask a q)
  | 0, b, q => by rw [Nat.zero_add]; rfl
  | a + 1, b, q => by rw [show a + 1 + b = (a + b) + 1 by omega]; exact leaps_add mask a b _
theorem leaps_snd (mask : Nat) : ∀ (m : Nat) (q : Nat × Nat), (leaps mask m q).2 = q.2 / 32 ^ m
  | 0, q => by simp [leaps]
  | m + 1, q => by
    show (leaps mask m (SetTable.leap mask q.1 q.2)).2 = _
    rw [leaps_snd mask m]
    show q.2 / 32 / 32 ^ m = _
    rw [Nat.div_div_eq_div_mul, Nat.pow_succ, Nat.mul_comm]
theorem leaps_hops (mask : Nat) : ∀ (m i : Nat), leaps mask m (i, 0) = (hops (mask + 1) m i, 0)
  | 0, i => rfl
  | m + 1, i => by
    show leaps mask m (SetTable.leap mask i 0) = _
    have e : SetTable.leap mask i 0 = (hop (mask + 1) i, 0) := by unfold SetTable.leap hop; simp
    rw [e, leaps_hops mask m]; rfl
theorem bits_lt (h : Int) : SetTable.bits h < 2 ^ 64 := by
  unfold SetTable.bits
  have h1 := Int.emod_nonneg h (show (2 ^ 64 : Int) ≠ 0 by decide)
  have h2 := Int.emod_lt_of_pos h (show (0 : Int) < 2 ^ 64 by decide)
  omega
theorem leaps_all {mask : Nat} (hc : coverM (mask + 1) = true) {q : Nat × Nat} (hq : q.2 < 2 ^ 64) {j : Nat} (hj : j < mask + 1) : ∃ m, m < mask + 15 /\ (leaps mask m q).1 = j := by
  have e0 : (leaps mask 13 q).2 = 0 := by
    rw [leaps_snd]
    exact Nat.div_eq_of_lt (Nat.lt_trans hq (by decide))
  have l0 : (leaps mask 13 q).1 < mask + 1 := by
    rw [show (13 : Nat) = 12 + 1 from rfl, leaps_add]
    show (_ % (mask + 1)) < _
    exact Nat.mod_lt _ (by omega)
  obtain ⟨k, hk, e⟩ := cover_hop hc l0 hj
  refine ⟨13 + k, by omega, ?_⟩
  rw [leaps_add, show leaps mask 13 q = ((leaps mask 13 q).1, 0) from by rw [← e0], leaps_hops]
  exact e
theorem slot_two {t : SetTable} (hd : t.dummies = #[]) (j : Nat) : (t.slot j = .empty /\ t.place[SetTable.below t.place j]? ≠ some j) ∨ (∃ i, t.slot j = .live i) /\ t.place[SetTable.below t.place j]? = some j := by
  unfold SetTable.slot
  by_cases h : t.place[SetTable.below t.place j]? = some j
  · right
    simp only [h]
    exact ⟨⟨_, if_pos (by simp)⟩, trivial⟩
  · left
    have h2 : SetTable.has t.dummies j = false := by rw [hd]; simp [SetTable.has]
    have h1 : (t.place[SetTable.below t.place j]? == some j) = false := by simpa using h
    simp only [h1, h2]
    exact ⟨rfl, h⟩
theorem go_two {t : SetTable} (hd : t.dummies = #[]) (h : Int) : ∀ (fuel : Nat) (p : SetTable.Probe), p.dummy = none →
    (∃ j, SetTable.probe.go t (fun _ => h + 1) h fuel p = some (.empty j none) /\ t.place[SetTable.below t.place j]? ≠ some j) ∨ ∀ k, k < fuel->t.place[SetTable.below t.place (adv t k p).j]? = some (adv t k p).j
  | 0, p, _ => .inr fun k hk => by omega
  | fuel + 1, p, hp => by
    unfold SetTable.probe.go
    rcases slot_two hd p.j with ⟨e, hn⟩ | ⟨⟨i, e⟩, hy⟩
    · left
      rw [e]
      dsimp only
      exact ⟨p.j, by rw [hp], hn⟩
    · rw [e]
      dsimp only
      have hne : ((h + 1 : Int) == h) = false := by simp; omega
      rw [hne]
      simp only [Bool.false_eq_true, ↓reduceIte]
      have hp' : (t.advance p).dummy = none := by unfold SetTable.advance; split <;> exact hp
      rcases go_two hd h fuel (t.advance p) hp' with z | z
      · exact .inl z
      · refine .inr fun k hk => ?_
        cases k with
        | zero => exact hy
        | succ k => exact z k (by omega)
theorem free_some {t : SetTable} (hd : t.dummies = #[]) (hr : Rise t.place) (hc : coverM (t.mask + 1) = true) (hs : t.place.size ≤ t.mask) (h : Int) : ∃ j, t.freeSlot h = some (j, false) /\ t.place[SetTable.below t.place j]? ≠ some j := by
  have key := go_two hd h (10 * SetTable.turns t.mask) (t.probeStart h) rfl
  rcases key with ⟨j, e, hn⟩ | hall
  · refine ⟨j, ?_, hn⟩
    unfold SetTable.freeSlot SetTable.probe
    rw [e]
    rfl
  · exfalso
    have hm := len_of_all (t.mask + 1) t.place.toList fun j hj => by
      obtain ⟨m, hm, e⟩ := leaps_all hc (q := (SetTable.bits h % (t.mask + 1), SetTable.bits h)) (bits_lt h) hj
      obtain ⟨k, hk, ek⟩ := adv_leaps t none m (SetTable.bits h % (t.mask + 1), SetTable.bits h)
      have hst : t.probeStart h = blockAt t (SetTable.bits h % (t.mask + 1), SetTable.bits h) none := rfl
      have := hall k (by unfold SetTable.turns; omega)
      rw [hst, ek] at this
      have this : t.place[SetTable.below t.place (leaps t.mask m (SetTable.bits h % (t.mask + 1), SetTable.bits h)).1]? = some (leaps t.mask m (SetTable.bits h % (t.mask + 1), SetTable.bits h)).1 := this
      rw [e] at this
      exact rise_mem hr this
    simp at hm
    omega
theorem free_two {mask : Nat} {owner : Array (Option Nat)} : ∀ (fuel : Nat) (q : Nat × Nat),
    (∃ j, SetTable.layClean.free mask owner fuel q.1 q.2 = some j /\ owner[j]? = some none) ∨ ∀ m, m < fuel->owner[(leaps mask m q).1]? ≠ some none
  | 0, q => .inr fun m hm => by omega
  | fuel + 1, q => by
    unfold SetTable.layClean.free
    cases e : (List.range (SetTable.runEnd mask q.1 + 1 - q.1)).find? fun k => (owner.getD (q.1 + k) (some 0)).isNone with
    | some k =>
      left
      have hk := List.find?_some e
      refine ⟨q.1 + k, rfl, ?_⟩
      by_cases hlt : q.1 + k < owner.size
      · rw [Array.getElem?_eq_getElem hlt]
        simp [Array.getD, hlt] at hk
        rw [hk]
      · simp [Array.getD, hlt] at hk
    | none =>
      dsimp only
      rcases free_two fuel (SetTable.leap mask q.1 q.2) with z | z
      · exact .inl z
      · refine .inr fun m hm => ?_
        cases m with
        | succ m => exact z m (by omega)
        | zero =>
          intro h0
          have := List.find?_eq_none.mp e 0 (List.mem_range.mpr (by unfold SetTable.runEnd; split <;> omega))
          have h0 : owner[q.1]? = some none := h0
          have hlt : q.1 < owner.size := (Array.getElem?_eq_some_iff.mp h0).1
          have he := (Array.getElem?_eq_some_iff.mp h0).2
          simp [Array.getD, hlt, he] at this
def usedOf (owner : Array (Option Nat)) : List Nat := owner.toList.filterMap id
theorem all_used {l : List (Option Nat)} (h : ∀ j, j < l.length->l[j]? ≠ some none) : (l.filterMap id).length = l.length := by
  induction l with
  | nil => rfl
  | cons x r ih =>
    have hx := h 0 (by simp)
    cases x with
    | none => exact absurd rfl hx
    | some a =>
      rw [show (some a :: r).filterMap id = a :: r.filterMap id from rfl, List.length_cons, List.length_cons, ih fun j hj => by have := h (j + 1) (by simp; omega); simpa using this]
theorem free_ok {mask : Nat} {owner : Array (Option Nat)} (hc : coverM (mask + 1) = true) (hs : owner.size = mask + 1) (hu : (usedOf owner).length < mask + 1) {i p : Nat} (hp : p < 2 ^ 64) : ∃ j, SetTable.layClean.free mask owner (SetTable.turns mask) i p = some j /\ owner[j]? = some none := by
  rcases free_two (mask := mask) (owner := owner) (SetTable.turns mask) (i, p) with z | z
  · exact z
  · exfalso
    have hl := all_used (l := owner.toList) fun j hj => by
      obtain ⟨m, hm, e⟩ := leaps_all hc (q := (i, p)) hp (j := j) (by simpa [hs] using hj)
      have := z m (by unfold SetTable.turns; omega)
      rw [e] at this
      rw [Array.getElem?_toList]; exact this
    unfold usedOf at hu
    rw [hl] at hu
    simp [hs] at hu
theorem set_used {l : List (Option Nat)} {j k : Nat} (h : l[j]? = some none) : ((l.set j (some k)).filterMap id).Perm (l.filterMap id ++ [k]) := by
  have hj : j < l.length := (List.getElem?_eq_some_iff.mp h).1
  have e : l = l.take j ++ none :: l.drop (j + 1) := by
    have e0 : l[j] = none := (List.getElem?_eq_some_iff.mp h).2
    have := List.take_append_drop j l
    rw [List.drop_eq_getElem_cons hj, e0] at this
    exact this.symm
  have e1 : l.set j (some k) = l.take j ++ some k :: l.drop (j + 1) := by
    conv => lhs; rw [e]
    rw [List.set_append_right _ _ (by rw [List.length_take]; omega)]
    simp [List.length_take, Nat.min_eq_left (Nat.le_of_lt hj)]
  rw [e1]
  conv => rhs; rw [e]
  simp only [List.filterMap_append]
  rw [show (some k :: l.drop (j + 1)).filterMap id = k :: (l.drop (j + 1)).filterMap id from rfl, show (none :: l.drop (j + 1)).filterMap id = (l.drop (j + 1)).filterMap id from rfl, List.append_assoc]
  exact (List.perm_append_left_iff _).mpr (List.perm_append_singleton _ _).symm
theorem lay_fold {mask : Nat} (hc : coverM (mask + 1) = true) : ∀ (hs : List Int) (owner : Array (Option Nat)) (k : Nat), owner.size = mask + 1->(usedOf owner).Perm (List.range k)->k + hs.length ≤ mask + 1 →
    ∃ o, hs.foldl (fun acc h => do
      let (owner, k) ← acc
      let j ← SetTable.layClean.free mask owner (SetTable.turns mask) (SetTable.bits h % (mask + 1)) (SetTable.bits h)
      pure (owner.setIfInBounds j (some k), k + 1)) (some (owner, k)) = some (o, k + hs.length) /\ o.size = mask + 1 /\ (usedOf o).Perm (List.range (k + hs.length))
  | [], owner, k, h1, h2, h3 => ⟨owner, rfl, h1, h2⟩
  | h :: r, owner, k, h1, h2, h3 => by
    have hl : (usedOf owner).length < mask + 1 := by rw [h2.length_eq, List.length_range]; simp at h3; omega
    obtain ⟨j, ej, hj⟩ := free_ok hc h1 hl (i := SetTable.bits h % (mask + 1)) (bits_lt h)
    have hu : (usedOf (owner.setIfInBounds j (some k))).Perm (List.range (k + 1)) := by
      unfold usedOf
      rw [Array.toList_setIfInBounds, List.range_succ]
      exact (set_used (by rw [Array.getElem?_toList]; exact hj)).trans (h2.append_right _)
    obtain ⟨o, eo, s1, p1⟩ := lay_fold hc r (owner.setIfInBounds j (some k)) (k + 1) (by simpa using h1) hu (by simp at h3; omega)
    refine ⟨o, ?_, s1, by rw [List.length_cons, show k + (r.length + 1) = k + 1 + r.length by omega]; exact p1⟩
    rw [List.foldl_cons]
    simp only [Option.bind_eq_bind, Option.bind_some, ej]
    rw [List.length_cons, show k + (r.length + 1) = k + 1 + r.length by omega]
    exact eo
theorem layClean_ok {mask : Nat} (hc : coverM (mask + 1) = true) (hashes : Array Int) (hn : hashes.size ≤ mask) : ∃ o, SetTable.layClean mask hashes = some o /\ o.size = mask + 1 /\ (usedOf o).Perm (List.range hashes.size) := by
  have h0 : usedOf (Array.replicate (mask + 1) none) = [] := by unfold usedOf; simp
  obtain ⟨o, e, h1, h2⟩ := lay_fold hc hashes.toList (Array.replicate (mask + 1) none) 0 (by simp) (by rw [h0]; exact .nil) (by simp; omega)
  rw [Nat.zero_add, Array.length_toList] at h2
  refine ⟨o, ?_, h1, h2⟩
  unfold SetTable.layClean
  rw [← Array.foldl_toList]
  rw [e]
  rfl
theorem pick_filter {α : Type} (f : α->Bool) (g : α->Option Nat) (hg : ∀ x, f x = (g x).isSome) : ∀ l : List α, l.filterMap (fun j => (g j).map fun _ => j) = l.filter f
  | [] => rfl
  | x :: r => by
    cases e : g x with
    | none => rw [List.filterMap_cons_none (by rw [e]; rfl), List.filter_cons_of_neg (by rw [hg, e]; simp), pick_filter f g hg r]
    | some y => rw [List.filterMap_cons_some (b := x) (by rw [e]; rfl), List.filter_cons_of_pos (by rw [hg, e]; rfl), pick_filter f g hg r]
theorem rise_of {l : List Nat} (h : l.Pairwise (· < ·)) : Rise l.toArray := by
  intro i j a b ha hb hij
  simp only [List.getElem?_toArray] at ha hb
  obtain ⟨hi, ea⟩ := List.getElem?_eq_some_iff.mp ha
  obtain ⟨hj, eb⟩ := List.getElem?_eq_some_iff.mp hb
  have := List.pairwise_iff_getElem.mp h i j hi hj hij
  omega
theorem laid_ok {mask : Nat} (hc : coverM (mask + 1) = true) (hashes : Array Int) (hn : hashes.size ≤ mask) (finger moves : Nat) (led plain : Bool) :
    ∃ place order, SetTable.laid mask finger moves led plain hashes = some ({ mask, place, dummies := #[], finger, led, moves, plain }, order) /\ Rise place /\ place.size = hashes.size /\ order.toList.Perm (List.range hashes.size) := by
  obtain ⟨o, e, hs, hp⟩ := layClean_ok hc hashes hn
  refine ⟨_, _, by unfold SetTable.laid; rw [e]; rfl, ?_, ?_, ?_⟩
  · rw [List.map_filterMap]
    have e1 : (fun j => Option.map (fun x : Nat × Nat => x.1) (Option.map (fun y => (j, y)) (o.getD j none))) = fun j => (o.getD j none).map fun _ => j := by
      funext j; cases o.getD j none <;> rfl
    rw [e1, pick_filter (fun j => (o.getD j none).isSome) _ (fun _ => rfl)]
    exact rise_of (List.pairwise_lt_range.filter _)
  · have e2 : ((List.range (mask + 1)).filterMap fun j => (o.getD j none).map fun y => (j, y)).length = (usedOf o).length := by
      rw [← List.length_map (f := fun x : Nat × Nat => x.2)]
      rw [List.map_filterMap]
      unfold usedOf
      have e3 : o.toList = (List.range (mask + 1)).map fun j => o.getD j none := by
        refine List.ext_getElem? fun j => ?_
        rw [Array.getElem?_toList, List.getElem?_map]
        by_cases hj : j < mask + 1
        · rw [List.getElem?_range hj, Array.getElem?_eq_getElem (by omega)]
          simp [Array.getD, show j < o.size by omega]
        · rw [List.getElem?_eq_none (by simp; omega), Array.getElem?_eq_none (by omega)]; rfl
      rw [e3, List.filterMap_map]
      congr 2
      funext j
      simp only [Function.comp_apply, id]
      cases o.getD j none <;> rfl
    simp only [List.size_toArray, List.length_map]
    rw [e2, hp.length_eq, List.length_range]
  · have e4 : ((List.range (mask + 1)).filterMap fun j => (o.getD j none).map fun y => (j, y)).map (fun x : Nat × Nat => x.2) = usedOf o := by
      rw [List.map_filterMap]
      unfold usedOf
      have e3 : o.toList = (List.range (mask + 1)).map fun j => o.getD j none := by
        refine List.ext_getElem? fun j => ?_
        rw [Array.getElem?_toList, List.getElem?_map]
        by_cases hj : j < mask + 1
        · rw [List.getElem?_range hj, Array.getElem?_eq_getElem (by omega)]
          simp [Array.getD, show j < o.size by omega]
        · rw [List.getElem?_eq_none (by simp; omega), Array.getElem?_eq_none (by omega)]; rfl
      rw [e3, List.filterMap_map]
      congr 1
      funext j
      simp only [Function.comp_apply, id]
      cases o.getD j none <;> rfl
    show (((List.range (mask + 1)).filterMap fun j => (o.getD j none).map fun y => (j, y)).map (fun x : Nat × Nat => x.2)).Perm _
    rw [e4]
    exact hp
structure TabI (t : SetTable) (n : Nat) (L : Bool) : Prop where
  sz : t.place.size = n
  dm : t.dummies = #[]
  ri : Rise t.place
  pl : t.plain = true
  ld : t.led = L
  ms : (t.mask = 7 /\ n ≤ 4) ∨ (t.mask = 31 /\ n ≤ 18) ∨ (t.mask = 127 /\ n ≤ 63)
theorem TabI.fits {t : SetTable} {n : Nat} {L : Bool} (h : TabI t n L) : t.fits n = true := by
  unfold SetTable.fits SetTable.fill
  rw [h.sz, h.dm]
  have := h.ms
  simp
  omega
theorem TabI.fresh (L : Bool) : TabI (.fresh 0 0 L) 0 L := ⟨rfl, rfl, fun i j a b h => by simp [SetTable.fresh] at h, rfl, rfl, .inl ⟨rfl, by omega⟩⟩
theorem TabI.cov {t : SetTable} {n : Nat} {L : Bool} (h : TabI t n L) : coverM (t.mask + 1) = true := by
  rcases h.ms with ⟨e, _⟩ | ⟨e, _⟩ | ⟨e, _⟩ <;> rw [e]
  · exact cover8
  · exact cover32
  · exact cover128
theorem insertAt_size {α : Type} (xs : Array α) (p : Nat) (x : α) : (SetTable.insertAt xs p x).size = xs.size + 1 := by
  rw [← Array.length_toList, (SetTable.insertAt_perm xs p x).length_eq]; simp
theorem layNew_ok {t : SetTable} {es : Array (Int × Value)} {L : Bool} (T : TabI t es.size L) (hn : es.size < 63) (h : Int) (x : Value) :
    ∃ es' t', layNew t es h x = (es', t', false, false) /\ es'.size = es.size + 1 /\ t'.place.size = es.size + 1 /\ t'.dummies = #[] /\ Rise t'.place /\ t'.plain = true /\ t'.led = L /\ t'.mask = t.mask := by
  obtain ⟨j, ej, hj⟩ := free_some T.dm T.ri T.cov (by have := T.ms; have := T.sz; omega) h
  have hsz := T.sz
  have e1 : (SetTable.insertAt es (SetTable.below t.place j) (h, x)).size = es.size + 1 := insertAt_size ..
  have hd : SetTable.has t.dummies j = false := by rw [T.dm]; simp [SetTable.has]
  have e2 : t.put j = ({ t with place := SetTable.insertAt t.place (SetTable.below t.place j) j }, SetTable.below t.place j) := by
    unfold SetTable.put
    simp only [hd]
    rfl
  have hf : ({ t with place := SetTable.insertAt t.place (SetTable.below t.place j) j } : SetTable).fits (es.size + 1) = true := by
    unfold SetTable.fits SetTable.fill
    simp only [insertAt_size, T.dm, hsz]
    have := T.ms
    simp
    omega
  refine ⟨SetTable.insertAt es (SetTable.below t.place j) (h, x), { t with place := SetTable.insertAt t.place (SetTable.below t.place j) j }, ?_, e1, by show (SetTable.insertAt _ _ _).size = _; rw [insertAt_size, hsz], T.dm, rise_insert T.ri hj, T.pl, T.ld, rfl⟩
  unfold layNew
  rw [ej]
  dsimp only
  rw [e2]
  dsimp only
  unfold SetTable.orStandIn
  rw [e1, hf]
  rfl
theorem relay_ok {t : SetTable} {es : Array (Int × Value)} {wanted mask : Nat} (hm : SetTable.sizeAbove wanted - 1 = mask) (hc : coverM (mask + 1) = true) (hn : es.size ≤ mask) :
    ∃ es' t', relayAll t es wanted = (es', t', false) /\ es'.size = es.size /\ t'.place.size = es.size /\ t'.dummies = #[] /\ Rise t'.place /\ t'.plain = t.plain /\ t'.led = t.led /\ t'.mask = mask := by
  obtain ⟨place, order, e, hr, hp, ho⟩ := laid_ok hc (es.map (·.1)) (by simpa using hn) t.finger (t.movedTo mask) t.led t.plain
  rw [Array.size_map] at hp ho
  have e1 : t.relaid (es.map (·.1)) wanted = some ({ mask, place, dummies := #[], finger := t.finger, led := t.led, moves := t.movedTo mask, plain := t.plain }, order) := by
    unfold SetTable.relaid
    rw [hm]; exact e
  have e2 : (order.filterMap (es[·]?)).size = es.size := by
    rw [← Array.length_toList, Array.toList_filterMap, ((ho.filterMap _).trans (by rw [filterMap_getElem?_range])).length_eq]; simp
  have e3 : coversAll order es.size = true := List.isPerm_iff.mpr ho
  have e4 : ({ mask, place, dummies := #[], finger := t.finger, led := t.led, moves := t.movedTo mask, plain := t.plain } : SetTable).fits es.size = true := by
    unfold SetTable.fits SetTable.fill
    simp [hp]
    omega
  refine ⟨order.filterMap (es[·]?), { mask, place, dummies := #[], finger := t.finger, led := t.led, moves := t.movedTo mask, plain := t.plain }, ?_, e2, hp, rfl, hr, rfl, rfl, rfl⟩
  unfold relayAll
  rw [e1]
  dsimp only
  rw [e2, e3, e4]
  rfl
open PySem PySem.Spec PyProof.Rows
def keyI : Value->Int
  | .int n _ => n
  | _ => 0
def keysI (es : Array (Int × Value)) : List Int := es.toList.map fun e => keyI e.2
def ISet (prog : Program) (w : World) (h : Heap) (a : Addr) (fm : List Int) (L : Bool) : Prop :=
  ∃ es ep t, h.get? a = some { cls := .type "set", dict := none, data := .set es ep t, slots := #[] } /\ ElemsOf (intKind prog w) es.toList /\ (keysI es).Perm fm /\ TabI t es.size L /\ es.size ≤ 63
theorem keys_mem {prog : Program} {w : World} {es : Array (Int × Value)} (hel : ElemsOf (intKind prog w) es.toList) {k : Int} : k ∈ keysI es ↔ ∃ e ∈ es.toList, (intKind prog w).is k e.2 = true := by
  unfold keysI
  rw [List.mem_map]
  constructor
  · rintro ⟨e, he, rfl⟩
    obtain ⟨⟨k', hk, _⟩, _⟩ := hel e he
    obtain ⟨t, et⟩ := Value.isInt_shape (show Value.isInt k' e.2 = true from hk)
    exact ⟨e, he, by rw [et]; exact intKind_is prog w _ t⟩
  · rintro ⟨e, he, hk⟩
    obtain ⟨t, et⟩ := Value.isInt_shape (show Value.isInt k e.2 = true from hk)
    exact ⟨e, he, by rw [et]; rfl⟩
theorem keys_len (es : Array (Int × Value)) : (keysI es).length = es.size := by unfold keysI; simp
section
variable {prog : Program} {w : World} {A : Around} {E : Value->Shared->Prop} {s : Shared}
theorem iset_store {a : Addr} {es : Array (Int × Value)} {ep : Nat} {t : SetTable} {es' : Array (Int × Value)} {t' : SetTable} {Q : Unit->Shared->Prop} {s : Shared}
    (ho : s.heap.get? a = some { cls := .type "set", dict := none, data := .set es ep t, slots := #[] }) (hz : es'.size ≤ 64)
    (h : ∀ h', Heap.SameBut a s.heap h'->h'.get? a = some { cls := .type "set", dict := none, data := .set es' (ep + 1) t', slots := #[] }->Q () { s with heap := h' }) : wpAny (model prog w) A (storeSet a es' t') Q E s := by
  refine wpAny_storeSet_of ho rfl (h _ (Heap.SameBut.update s.heap a _) ?_) (Nat.le_of_lt (small1000 (by omega)))
  have := Heap.get?_update_self (Obj.putSet es' t') ho (by rw [putSet_of es' t' rfl]; rfl)
  rw [putSet_of es' t' rfl] at this
  exact this
theorem iset_add {a : Addr} {fm : List Int} {L : Bool} {k : Int} {tk : Tok} {Q : Bool->Shared->Prop} (hS : ISet prog w s.heap a fm L) (hroom : (step_dedup fm k).length ≤ 63)
    (h : ∀ b h', Heap.SameBut a s.heap h'->ISet prog w h' a (step_dedup fm k) L->Q b { s with heap := h' }) :
    wpAny (model prog w) A (setAddHashed a (.int k tk) (hashInt k)) Q E s := by
  obtain ⟨es, ep, t, ho, hel, hpm, hT, hsz⟩ := hS
  have hf := hT.fits
  have hsc : (Value.int k tk).scannable = true := rfl
  have hkey : (intKind prog w).is k (.int k tk) = true := intKind_is prog w k tk
  unfold setAddHashed setAddHashedIn
  refine wpAny_holding (wpAny_bind (wpAny_setState_of ho rfl hf ?_))
  dsimp only
  rw [byScan_of (knd := intKind prog w) hsc (by unfold scanBound; omega) hel]
  simp only [↓reduceIte]
  unfold setAddByScan
  refine wpAny_bind ?_
  refine wpAny_bind (wpAny_rule ?_)
  refine wpAny_bind (wpAny_setScan_of (knd := intKind prog w) hkey ho rfl hf hel ?_)
  cases hr : List.findIdx? (fun e => (intKind prog w).is k e.2) es.toList with
  | some j =>
    dsimp only
    obtain ⟨hj, hpj, _⟩ := List.findIdx?_eq_some_iff_getElem.mp hr
    have hin : k ∈ fm := hpm.mem_iff.mp ((keys_mem hel).mpr ⟨_, List.getElem_mem hj, hpj⟩)
    have hst : step_dedup fm k = fm := by unfold step_dedup; rw [if_pos (List.any_eq_true.mpr ⟨k, hin, by simp⟩)]
    rw [hst] at h
    refine wpAny_pure (wpAny_pure ?_)
    have e : s = { s with heap := s.heap } := by cases s; rfl
    rw [e]
    exact h _ s.heap (Heap.SameBut.refl a s.heap) ⟨es, ep, t, ho, hel, hpm, hT, hsz⟩
  | none =>
    dsimp only
    have hout : k ∉ fm := fun z => by
      obtain ⟨e, he, hp⟩ := (keys_mem hel).mp (hpm.mem_iff.mpr z)
      have := List.findIdx?_eq_none_iff.mp hr e he
      rw [hp] at this; exact Bool.noConfusion this
    have hst : step_dedup fm k = fm ++ [k] := by
      unfold step_dedup
      rw [if_neg (fun z => by
        obtain ⟨y, hy, e⟩ := List.any_eq_true.mp z
        have : y = k := by simpa using e
        exact hout (this ▸ hy))]
    rw [hst] at h hroom
    have hfl : fm.length = es.size := by rw [← hpm.length_eq, keys_len]
    have hn63 : es.size < 63 := by rw [List.length_append, hfl] at hroom; simp at hroom; omega
    have hperm := layNew_perm t es (hashInt k) (.int k tk)
    obtain ⟨es1, t1, e1, z1, z2, z3, z4, z5, z6, z7⟩ := layNew_ok hT hn63 (hashInt k) (.int k tk)
    have e1' : layNew t es ((intKind prog w).hash k) (.int k tk) = (es1, t1, false, false) := e1
    rw [e1] at hperm
    dsimp only at hperm
    rw [Array.toList_push] at hperm
    have hel1 : ElemsOf (intKind prog w) es1.toList := (hel.push hkey hsc).perm hperm
    have hpm1 : (keysI es1).Perm (fm ++ [k]) := by
      unfold keysI
      refine (hperm.map _).trans ?_
      rw [List.map_append]
      exact hpm.append_right _
    have e1'' : layNew t es (hashInt k) (.int k tk) = (es1, t1, false, false) := e1
    rw [e1'']
    dsimp only
    refine wpAny_bind (wpAny_pure ?_)
    rw [z5]
    simp only [↓reduceIte]
    rw [hashByValue_scannable 8 hsc]
    refine wpAny_bind (wpAny_pure ?_)
    simp only [plainKind, ↓reduceIte]
    refine wpAny_bind (iset_store ho (by omega) fun h1 sb1 ho1 => ?_)
    by_cases hfull : t1.tooFull = true
    · rw [hfull]
      simp only [Bool.not_false, Bool.and_self, ↓reduceIte]
      obtain ⟨mask, hm, hc, hnm, hms⟩ : ∃ mask, SetTable.sizeAbove (SetTable.grown es1.size) - 1 = mask /\ coverM (mask + 1) = true /\ es1.size ≤ mask /\ ((mask = 7 /\ es1.size ≤ 4) ∨ (mask = 31 /\ es1.size ≤ 18) ∨ (mask = 127 /\ es1.size ≤ 63)) := by
        unfold SetTable.tooFull SetTable.fill at hfull
        rw [z2, z3, z7] at hfull
        have hfull : (es.size + 1 + 0) * 5 ≥ t.mask * 3 := of_decide_eq_true hfull
        rcases hT.ms with ⟨m1, m2⟩ | ⟨m1, m2⟩ | ⟨m1, m2⟩
        · rw [m1] at hfull
          have : es1.size = 5 := by omega
          rw [this]
          exact ⟨31, by decide +kernel, cover32, by omega, by omega⟩
        · rw [m1] at hfull
          have : es1.size = 19 := by omega
          rw [this]
          exact ⟨127, by decide +kernel, cover128, by omega, by omega⟩
        · rw [m1] at hfull; omega
      have hp2 := relayAll_perm t1 es1 (SetTable.grown es1.size)
      obtain ⟨es2, t2, e2, y1, y2, y3, y4, y5, y6, y7⟩ := relay_ok (t := t1) (es := es1) hm hc hnm
      rw [e2] at hp2 ⊢
      dsimp only at hp2 ⊢
      refine wpAny_bind (wpAny_pure ?_)
      refine wpAny_bind (iset_store ho1 (by omega) fun h2 sb2 ho2 => ?_)
      refine wpAny_pure (wpAny_pure ?_)
      refine h _ h2 (sb1.trans sb2) ⟨es2, _, t2, ho2, hel1.perm hp2, (hp2.map _).trans hpm1, ⟨y2.trans y1.symm, y3, y4, y5.trans z5, y6.trans z6, by rw [y7, y1]; exact hms⟩, by omega⟩
    · have hfull : t1.tooFull = false := by simpa using hfull
      rw [hfull]
      simp only [Bool.and_false, Bool.false_eq_true, ↓reduceIte]
      refine wpAny_pure (wpAny_pure ?_)
      refine h _ h1 sb1 ⟨es1, _, t1, ho1, hel1, hpm1, ⟨z2.trans z1.symm, z3, z4, z5, z6, ?_⟩, by omega⟩
      unfold SetTable.tooFull SetTable.fill at hfull
      rw [z2, z3, z7] at hfull
      have hfull : ¬ (es.size + 1 + 0) * 5 ≥ t.mask * 3 := of_decide_eq_false hfull
      rw [z7, z1]
      rcases hT.ms with ⟨m1, m2⟩ | ⟨m1, m2⟩ | ⟨m1, m2⟩
      · rw [m1] at hfull; left; omega
      · rw [m1] at hfull; right; left; omega
      · right; right; omega
theorem ISet.at {h h' : Heap} {a : Addr} {fm : List Int} {L : Bool} (S : ISet prog w h a fm L) (e : ∀ o, h.get? a = some o->h'.get? a = some o) : ISet prog w h' a fm L := by
  obtain ⟨es, ep, t, ho, r⟩ := S
  exact ⟨es, ep, t, e _ ho, r⟩
theorem firstMet_le (val : Nat->Int) : ∀ {i n : Nat}, i ≤ n->(firstMet val i).length ≤ (firstMet val n).length
  | i, 0, h => by rw [show i = 0 by omega]; exact Nat.le_refl _
  | i, n + 1, h => by
    by_cases e : i = n + 1
    · rw [e]; exact Nat.le_refl _
    · refine Nat.le_trans (firstMet_le val (show i ≤ n by omega)) ?_
      rw [firstMet_succ, step_length]
      split <;> omega
theorem iset_loop {R : Result->Shared->Prop} {I : Addr} {fp wr : List Addr} {G : Array GenState->Array GenState->Prop} {n : Nat} {P : Nat->Value->Prop} {St : Nat->Shared->Prop} (W : WalksS prog w A.in1 I fp wr G n P St) (S : Addr) (hSf : S ∉ fp) {L : Bool}
    (val : Nat->Int) (hval : ∀ i v, P i v->∃ t, v = .int (val i) t) (hb : (firstMet val n).length ≤ 63) : ∀ (k i : Nat) (s : Shared), n - i = k->i ≤ n->St i s->ISet prog w s.heap S (firstMet val i) L →
      (∀ s', Moved (S :: wr) G s s'->ISet prog w s'.heap S (firstMet val n) L->R (.ok (.ret .none)) s')->codeAny (model prog w) A (.builtin "set.update.loop" ⟨[.ref S, .ref I], []⟩) R s := by
  have hSw : S ∉ wr := fun h => hSf (W.sub _ h)
  have hsub : ∀ b ∈ wr, b ∈ S :: wr := fun b hb => List.mem_cons_of_mem _ hb
  intro k
  induction k with
  | zero =>
    intro i s hk hi hst hS hR
    have hin : i = n := by omega
    subst hin
    refine codeAny_builtin PyProof.Rows.F.entry_set_update_loop ?_
    rw [Around.under_plainId PyProof.Rows.F.plain_set_update_loop _]
    show wpAny _ A.in1 (pyNext (.ref I) >>= _) _ _ s
    refine wpAny_bind (W.done s _ _ hst fun s' hm => ?_)
    show wpAny _ A.in1 (ret Value.none) _ _ s'
    exact wpAny_pure (hR s' (hm.mono hsub) (hS.at fun o e => hm.heap S o hSw e))
  | succ k ih =>
    intro i s hk hi hst hS hR
    have hlt : i < n := by omega
    refine codeAny_builtin PyProof.Rows.F.entry_set_update_loop ?_
    rw [Around.under_plainId PyProof.Rows.F.plain_set_update_loop _]
    show wpAny _ A.in1 (pyNext (.ref I) >>= _) _ _ s
    refine wpAny_bind (W.item i s _ _ hlt hst fun v s' hP hst' hm => ?_)
    obtain ⟨t, rfl⟩ := hval i v hP
    have hS' : ISet prog w s'.heap S (firstMet val i) L := hS.at fun o e => hm.heap S o hSw e
    show wpAny _ A.in1 (holding [Value.int (val i) t] (setAdd S (.int (val i) t)) >>= _) _ _ s'
    refine wpAny_bind (wpAny_holding ?_)
    unfold setAdd
    refine wpAny_holding ?_
    refine wpAny_bind ((intKind prog w).pyHash (k := val i) (intKind_is _ _ _ _) ?_)
    have hfs := firstMet_succ val i
    refine iset_add (s := { s' with toks := s'.toks + 1 }) hS' (by rw [← hfs]; exact Nat.le_trans (firstMet_le val hlt) hb) fun b h' hsb hS2 => ?_
    rw [← hfs] at hS2
    refine wpAny_pure ⟨plainId_quiet PyProof.Rows.F.plain_set_update_loop _, ih (i + 1) _ (by omega) hlt (W.frame _ s' _ _ hst' (Nat.le_succ _) fun b hb o e => ?_) hS2 fun s'' hm'' hS'' => ?_⟩
    · rw [hsb.2 b (fun h : b = S => hSf (by rw [← h]; exact hb))]; exact e
    · refine hR s'' (Moved.trans W.gtrans ((hm.mono hsub).then_heap (Nat.le_succ _) fun b o hb e => ?_) hm'') hS''
      rw [hsb.2 b (fun h : b = S => hb (by rw [h]; exact List.mem_cons_self))]; exact e
theorem iset_new (a : Value) {Q₁ : Value->Shared->Prop}
    (h : Q₁ (.ref s.heap.objs.size) { s with heap := s.heap.push { cls := .type "set", dict := none, data := .set #[] 0 (.fresh 0 0 (!w.params.followText "set-order")) } }) :
    codeAny (model prog w) A (.call (.builtin "set.__new__") ⟨[.type "set", a], []⟩) (wants Q₁ E) s := by
  refine codeAny_of_tree ?_
  show wpAny _ A.in1 (do checkBuiltinCall "set.__new__" ⟨[.type "set", a], []⟩; again (.builtin "set.__new__" ⟨[.type "set", a], []⟩)) _ _ s
  refine wpAny_bind (wpAny_of_eq (PySem.F.newCall_set_1 a) (wpAny_pure ⟨plainId_quiet PySem.F.plain_set_new _, codeAny_builtin PySem.F.entry_set_new ?_⟩))
  rw [Around.under_plainId PySem.F.plain_set_new _]
  unfold Builtin.«set.__new__» Builtin.Frozenset.newClass
  have hsub := sub_set_self
  obtain ⟨hp, g, d, tk, os⟩ := s
  dsimp only
  wp_walk
  refine wpAny_askSetting (wpAny_pure ?_)
  dsimp only
  simp only [newObj]
  refine wpAny_bind (wpAny_alloc (wpAny_pure ?_))
  exact wpAny_pure h
set_option maxHeartbeats 6400000 in
theorem iset_call {l : Addr} {items : Array Value} {ns : List Int} {Q : Value->Shared->Prop} (hh : A.handled = none) (hl : s.heap.IsList l items) (hi : IntsAre items.toList ns) (hb : (firstMet (fun i => ns.getD i 0) items.size).length ≤ 63)
    (h : ∀ (h' : Heap) (tk : Nat), ISet prog w h' s.heap.objs.size (firstMet (fun i => ns.getD i 0) items.size) (!w.params.followText "set-order")->(∀ b o, b < s.heap.objs.size->s.heap.get? b = some o->h'.get? b = some o)->Q (.ref s.heap.objs.size) { s with heap := h', toks := tk }) :
    wpAny (model prog w) A (call (.type "set") [.ref l]) Q E s := by
  obtain ⟨c, tl, hmro⟩ := PySem.F.called_set.mro
  have hmade := PySem.F.called_set.made
  have hsub := PySem.F.called_set.sub
  refine wpAny_call (codeAny_of_tree ?_)
  show wpAny _ _ (callAny (.type "set") _) _ _ _
  refine wpAny_pure ⟨Code.quiet_builtin _ (by decide +kernel), codeAny_builtin PySem.F.entry_type_call ?_⟩
  rw [Around.under_plain (weight_type_call_type "set" [.ref l] []) rfl]
  have h1 := PySem.F.called_set.notType
  have h2 := PySem.F.called_set.canCreate
  have hct := PySem.F.typeCall_set_1 (.ref l)
  repeat (any_goals (first | assumption | wp_step))
  obtain ⟨led, hled⟩ : ∃ led : Bool, led = !w.params.followText "set-order" := ⟨_, rfl⟩
  refine codeAny_mono (iset_new (.ref l) (E := E) (Q₁ := fun obj s₁ => obj = .ref s.heap.objs.size /\ s₁ = { s with heap := s.heap.push { cls := .type "set", dict := none, data := .set #[] 0 (.fresh 0 0 led) } }) ⟨rfl, by rw [hled]⟩) fun r s₁ hr => ?_
  cases r with
  | error e => exact hr
  | ok fl =>
    cases fl with
    | ret obj =>
      obtain ⟨rfl, rfl⟩ := hr
      have hS : (s.heap.push { cls := .type "set", dict := none, data := .set #[] 0 (.fresh 0 0 led) }).get? s.heap.objs.size = some { cls := .type "set", dict := none, data := .set #[] 0 (.fresh 0 0 led) } := Heap.get?_push_size _ rfl
      have hT : Shared.TypeIs { s with heap := s.heap.push { cls := .type "set", dict := none, data := .set #[] 0 (.fresh 0 0 led) } } (.ref s.heap.objs.size) "set" := ⟨_, hS, rfl⟩
      have hli := PySem.F.called_set.init.lookup
      have hbi := PySem.F.called_set.init.bind (.ref s.heap.objs.size)
      repeat (any_goals (first | assumption | wp_step))
      refine codeAny_mono (codeAny_call_builtin (R := wants (fun r s₂ => r = .none /\ ∃ h' tk, s₂ = { s with heap := h', toks := tk } /\ ISet prog w h' s.heap.objs.size (firstMet (fun i => ns.getD i 0) items.size) (!w.params.followText "set-order") /\ (∀ b o, b < s.heap.objs.size->s.heap.get? b = some o->h'.get? b = some o)) E) PySem.F.called_set.init.plain PySem.F.entry_set_init (check_set_init_1 hT ?_)) fun r₂ s₂ hr₂ => ?_
      · obtain ⟨ol, hol, hcl, nl, hdl⟩ := hl
        obtain ⟨ocls, odict, odata, oslots⟩ := ol
        simp only at hcl hdl
        subst hcl; subst hdl
        have hol' : (s.heap.push { cls := .type "set", dict := none, data := .set #[] 0 (.fresh 0 0 led) }).get? l = some { cls := .type "list", dict := odict, data := .seq items nl, slots := oslots } := Heap.get?_push_of_some _ hol
        have hsls := PySem.F.sub_list_set
        have hslf := PySem.F.sub_list_frozenset
        have hne : (Value.type "list" == Value.type "dict") = false := by decide
        have hl1 : (s.heap.push { cls := .type "set", dict := none, data := .set #[] 0 (.fresh 0 0 led) }).IsList l items := ⟨_, hol', rfl, nl, rfl⟩
        unfold Builtin.«set.__init__» noKeywords Builtin.Frozenset.updateFrom
        generalize hPI : pyIter = PI
        wp_walk
        subst hPI
        refine wpAny_pyIter_list hl1 ?_
        refine wpAny_bind (wpAny_runValue ?_)
        have hlS : l < s.heap.objs.size := Heap.lt_size hol
        have hh3 : A.in1.in1.in1.handled = none := by simp [hh]
        have hneI : l ≠ (s.heap.push { cls := .type "set", dict := none, data := .set #[] 0 (.fresh 0 0 led) }).objs.size := by rw [Heap.size_push]; exact Nat.ne_of_lt (Nat.lt_succ_of_lt hlS)
        have hSf : s.heap.objs.size ∉ [(s.heap.push { cls := .type "set", dict := none, data := .set #[] 0 (.fresh 0 0 led) }).objs.size, l] := by
          rw [Heap.size_push]; simp only [List.mem_cons, List.mem_singleton, List.not_mem_nil, or_false, not_or]
          exact ⟨Nat.ne_of_lt (Nat.lt_succ_self _), Nat.ne_of_gt hlS⟩
        have hval : ∀ (i : Nat) (v : Value), items[i]? = some v->∃ t, v = .int ((fun i => ns.getD i 0) i) t := fun i v hv => IntsAre.int_at hi i v (by rw [Array.getElem?_toList]; exact hv)
        refine iset_loop (L := !w.params.followText "set-order") ((Walks.list hh3 _ l hneI items).toS) s.heap.objs.size hSf (fun i => ns.getD i 0) hval hb (items.size - 0) 0 _ (by omega) (Nat.zero_le _) ⟨⟨_, Heap.get?_push_size _ rfl, rfl, rfl⟩, (hl1.push _)⟩ ?hS0 ?hR
        case hS0 =>
          exact ⟨#[], 0, _, Heap.get?_push_of_some _ hS, fun e he => by simp at he, .nil, by rw [← hled]; exact TabI.fresh _, by simp⟩
        case hR =>
          intro s' hm hS'
          obtain ⟨h', g', d', tk', os'⟩ := s'
          have eg : g' = s.gens := hm.gens
          have ed : d' = s.drawn := hm.drawn
          have eo : os' = s.os := hm.os
          subst eg; subst ed; subst eo
          show wpAny _ _ _ _ _ _
          refine wpAny_pure ?_
          show wpAny _ _ (ret Value.none) _ _ _
          refine wpAny_pure ⟨rfl, h', tk', rfl, hS', fun b o hb e => ?_⟩
          have hb1 : b ≠ s.heap.objs.size := Nat.ne_of_lt hb
          have hb2 : b ≠ (s.heap.push { cls := .type "set", dict := none, data := .set #[] 0 (.fresh 0 0 led) }).objs.size := by rw [Heap.size_push]; exact Nat.ne_of_lt (Nat.lt_succ_of_lt hb)
          exact hm.heap b o (by simp only [List.mem_cons, List.mem_singleton, List.not_mem_nil, or_false, not_or]; exact ⟨hb1, hb2⟩) (Heap.get?_push_of_some _ (Heap.get?_push_of_some _ e))
      · cases r₂ with
        | error e => exact hr₂
        | ok fl₂ =>
          cases fl₂ with
          | ret r =>
            obtain ⟨rfl, h', tk, rfl, hS', hk'⟩ := hr₂
            repeat (any_goals (first | assumption | wp_step))
            exact h _ _ hS' hk'
          | _ => exact hr₂.elim
    | _ => exact hr.elim
end
open PySem PySem.Spec PyProof.Rows
theorem pick_go {α : Type} (next : Nat->Nat) : ∀ (fuel k : Nat) (left : List α) (out : Array α), left.length = fuel->(pickOrder.go next fuel k left out).toList.Perm (out.toList ++ left)
  | 0, k, left, out, h => by
    have : left = [] := List.length_eq_zero_iff.mp h
    subst this
    unfold pickOrder.go
    simp
  | fuel + 1, k, left, out, h => by
    unfold pickOrder.go
    have hlt : next k % left.length < left.length := Nat.mod_lt _ (by omega)
    rw [List.getElem?_eq_getElem hlt]
    dsimp only
    refine (pick_go next fuel (k + 1) _ _ (by rw [List.length_eraseIdx_of_lt hlt]; omega)).trans ?_
    rw [Array.toList_push, List.append_assoc]
    refine (List.perm_append_left_iff _).mpr ?_
    rw [List.eraseIdx_eq_take_drop_succ]
    have e : left = left.take (next k % left.length) ++ left[next k % left.length] :: left.drop (next k % left.length + 1) := by
      conv => lhs; rw [← List.take_append_drop (next k % left.length) left, List.drop_eq_getElem_cons hlt]
    conv => rhs; rw [e]
    show (left[next k % left.length] :: (left.take (next k % left.length) ++ left.drop (next k % left.length + 1))).Perm _
    exact List.perm_middle.symm
theorem pick_perm {α : Type} (next : Nat->Nat) (xs : Array α) : (pickOrder next xs).toList.Perm xs.toList := by
  unfold pickOrder
  have := pick_go next xs.size 0 xs.toList #[] (by simp)
  simpa using this
def setOrd (w : World) (d : Addr) (ep : Nat) (es : Array (Int × Value)) : Array (Int × Value) := if w.params.followText "set-order" = true then pickOrder (w.params.setOrder d ep) es else es
theorem setOrd_perm (w : World) (d : Addr) (ep : Nat) (es : Array (Int × Value)) : (setOrd w d ep es).toList.Perm es.toList := by
  unfold setOrd
  split
  · exact pick_perm _ _
  · exact .rfl
theorem setOrd_size (w : World) (d : Addr) (ep : Nat) (es : Array (Int × Value)) : (setOrd w d ep es).size = es.size := by
  rw [← Array.length_toList, (setOrd_perm w d ep es).length_eq, Array.length_toList]
def slotAt (w : World) (t : SetTable) (i : Nat) : Nat := if w.params.followText "set-order" = true then 0 else match i with
  | 0 => 0
  | k + 1 => t.place.getD k 0 + 1
def SIter (h : Heap) (I d : Addr) (first i n ep : Nat) : Prop := ∃ o, h.get? I = some o /\ o.cls = .type "set_iterator" /\ o.data = .fields #[rawInt first, rawInt i, .ref d, rawInt n, rawInt ep]
def SObj (h : Heap) (d : Addr) (es : Array (Int × Value)) (ep : Nat) (t : SetTable) : Prop := h.get? d = some { cls := .type "set", dict := none, data := .set es ep t, slots := #[] }
section
variable {prog : Program} {w : World} {A : Around} {E : Value->Shared->Prop} {s : Shared}
theorem set_next_at {d : Addr} {es : Array (Int × Value)} {ep : Nat} {t : SetTable} (hd : SObj s.heap d es ep t) (hT : TabI t es.size (!w.params.followText "set-order")) {i : Nat} {Q : Option (Value × Nat)->Shared->Prop}
    (h : ∀ r, (match (setOrd w d ep es)[i]? with | some e => r = some (e.2, slotAt w t (i + 1)) | none => r = none)->Q r s) (hi : i ≤ es.size) :
    wpAny (model prog w) A (setNext d (slotAt w t i) i ep) Q E s := by
  have hf := hT.fits
  unfold setNext
  refine wpAny_bind (wpAny_setState_of hd rfl hf ?_)
  dsimp only
  unfold setsByText
  refine wpAny_bind (wpAny_bind (wpAny_askSetting (wpAny_pure ?_)))
  by_cases hb : w.params.followText "set-order" = true
  · have hb' : (model prog w).w.params.followText "set-order" = true := hb
    simp only [hb', ↓reduceIte]
    simp only [bne_self_eq_false, Bool.false_eq_true, ↓reduceIte]
    refine wpAny_bind ?_
    unfold setWalk
    refine wpAny_bind (wpAny_setState_of hd rfl hf ?_)
    dsimp only
    unfold setsByText
    refine wpAny_bind (wpAny_bind (wpAny_askSetting (wpAny_pure ?_)))
    simp only [hb', ↓reduceIte]
    refine wpAny_bind (wpAny_askSetting (wpAny_pure ?_))
    refine wpAny_pure (h _ ?_)
    unfold setOrd slotAt
    simp only [hb, ↓reduceIte]
    show match (pickOrder (w.params.setOrder d ep) es)[i]? with | some e => _ | none => _
    cases e : (pickOrder (w.params.setOrder d ep) es)[i]? with
    | none =>
      have e' : (pickOrder ((model prog w).w.params.setOrder d ep) es)[i]? = none := e
      show Option.map _ _ = none
      rw [e']; rfl
    | some x =>
      have e' : (pickOrder ((model prog w).w.params.setOrder d ep) es)[i]? = some x := e
      show Option.map _ _ = some (x.2, 0)
      rw [e']; rfl
  · have hb : w.params.followText "set-order" = false := by simpa using hb
    have hb' : (model prog w).w.params.followText "set-order" = false := hb
    simp only [hb', Bool.false_eq_true, ↓reduceIte]
    have hpl := hT.pl
    have hld : t.led = true := by rw [hT.ld, hb]; rfl
    show wpAny _ _ (if (!t.plain && decide (es.size > 1)) = true then _ else _) _ _ _
    rw [hpl]
    simp only [Bool.not_true, Bool.false_and, Bool.false_eq_true, ↓reduceIte]
    show wpAny _ _ ((if (!t.led && !es.isEmpty) = true then _ else _) >>= _) _ _ _
    rw [hld]
    simp only [Bool.not_true, Bool.false_and, Bool.false_eq_true, ↓reduceIte]
    refine wpAny_bind (wpAny_pure ?_)
    refine wpAny_pure (h _ ?_)
    have eo : setOrd w d ep es = es := by unfold setOrd; rw [if_neg (by rw [hb]; simp)]
    have es1 : ∀ j, slotAt w t j = match j with | 0 => 0 | k + 1 => t.place.getD k 0 + 1 := fun j => by unfold slotAt; rw [if_neg (by rw [hb]; simp)]
    have hsz := hT.sz
    have ebl : SetTable.below t.place (slotAt w t i) = i := by
      rw [es1]
      cases i with
      | zero => exact below_zero hT.ri
      | succ k =>
        have hk : k < t.place.size := by omega
        have e1 : t.place[k]? = some t.place[k] := Array.getElem?_eq_getElem hk
        show SetTable.below t.place (t.place.getD k 0 + 1) = k + 1
        rw [show t.place.getD k 0 = t.place[k] by simp [Array.getD, hk]]
        exact below_next hT.ri e1
    rw [eo, ebl, es1]
    by_cases hlt : i < es.size
    · have hlt2 : i < t.place.size := by omega
      rw [Array.getElem?_eq_getElem hlt, Array.getElem?_eq_getElem hlt2]
      simp [Array.getD, hlt2]
    · rw [Array.getElem?_eq_none (by omega)]
namespace FS
theorem owner_si : Manifest.owners.lookup (String.ofList ['r', 'o', 't', 'a', 'r', 'e', 't', 'i', '_', 't', 'e', 's'].reverse) = some Manifest.sig_set_iterator := by kernel_rfl
theorem slot_si_next : Slot "set_iterator" "__next__" "set_iterator.__next__" :=
  .of (owner := "set_iterator") (n := "__next__") (by rw [typeLookup_type, builtinLookup_eq_fast]; kernel_rfl) (by decide +kernel) (by decide +kernel) (by decide +kernel)
    (by first | exact .inl (by decide +kernel) | exact .inr (by decide +kernel)) (by rw [isSubtype_type]; kernel_rfl)
theorem entry_si_next : entryFor table "set_iterator.__next__" = some Builtin.«set_iterator.__next__» := entryFor_of_tree (by kernel_rfl)
theorem args_si_next (a : Value) : argsOk "set_iterator.__next__" ⟨[a], []⟩ := by
  unfold argsOk; rw [signature?_of (id := "set_iterator.__next__") (n := ['_', '_', 't', 'x', 'e', 'n', '_', '_']) (o := ['r', 'o', 't', 'a', 'r', 'e', 't', 'i', '_', 't', 'e', 's']) (by kernel_rfl) owner_si]; kernel_rfl
theorem slot_si_iter : Slot "set_iterator" "__iter__" "set_iterator.__iter__" :=
  .of (owner := "set_iterator") (n := "__iter__") (by rw [typeLookup_type, builtinLookup_eq_fast]; kernel_rfl) (by decide +kernel) (by decide +kernel) (by decide +kernel)
    (by first | exact .inl (by decide +kernel) | exact .inr (by decide +kernel)) (by rw [isSubtype_type]; kernel_rfl)
theorem args_si_iter (a : Value) : argsOk "set_iterator.__iter__" ⟨[a], []⟩ := by
  unfold argsOk; rw [signature?_of (id := "set_iterator.__iter__") (n := ['_', '_', 'r', 'e', 't', 'i', '_', '_']) (o := ['r', 'o', 't', 'a', 'r', 'e', 't', 'i', '_', 't', 'e', 's']) (by kernel_rfl) owner_si]; kernel_rfl
theorem entry_si_iter : entryFor table "set_iterator.__iter__" = some Builtin.«dict_keyiterator.__iter__» :=
  entryFor_alias (id' := "dict_keyiterator.__iter__") (by kernel_rfl) (by first | rfl | decide +kernel | (unfold String.splitOn; simp +decide [String.splitOnAux])) (by decide +kernel) (by kernel_rfl)
theorem entry_set_iter : entryFor table "set.__iter__" = some Builtin.«frozenset.__iter__» :=
  entryFor_alias (id' := "frozenset.__iter__") (by kernel_rfl) rfl (by decide +kernel) (by kernel_rfl)
end FS
theorem SIter.typeIs {I d : Addr} {a b c e : Nat} (x : SIter s.heap I d a b c e) : s.TypeIs (.ref I) "set_iterator" := let ⟨o, ho, hc, _⟩ := x; ⟨o, ho, hc⟩
theorem SIter.at {h h' : Heap} {I d : Addr} {a b c e : Nat} (x : SIter h I d a b c e) (k : ∀ o, h.get? I = some o->h'.get? I = some o) : SIter h' I d a b c e := let ⟨o, ho, r⟩ := x; ⟨o, k _ ho, r⟩
theorem SObj.typeIs {d : Addr} {es : Array (Int × Value)} {ep : Nat} {t : SetTable} (x : SObj s.heap d es ep t) : s.TypeIs (.ref d) "set" := ⟨_, x, rfl⟩
theorem set_next_item {I d : Addr} {es : Array (Int × Value)} {ep : Nat} {t : SetTable} {i : Nat} {Q : Option Value->Shared->Prop} (hit : SIter s.heap I d (slotAt w t i) i es.size ep) (hd : SObj s.heap d es ep t) (hT : TabI t es.size (!w.params.followText "set-order")) (hi : i < es.size)
    (hQ : ∀ h' x, (setOrd w d ep es)[i]? = some x->SIter h' I d (slotAt w t (i + 1)) (i + 1) es.size ep->Heap.SameBut I s.heap h'->Q (some x.2) { s with heap := h' }) : wpAny (model prog w) A (pyNext (.ref I)) Q E s := by
  obtain ⟨o, ho, hc, hdt⟩ := id hit
  have hex : ∃ x, (setOrd w d ep es)[i]? = some x := ⟨_, Array.getElem?_eq_getElem (by rw [setOrd_size]; exact hi)⟩
  obtain ⟨x, hx⟩ := hex
  unfold pyNext
  refine wpAny_bind (wpAny_attempt (wpAny_callSpecial?_slot (name := Str.ofString "__next__") hit.typeIs FS.slot_si_next (wpAny_call_entry FS.slot_si_next hit.typeIs FS.entry_si_next ?_ (FS.args_si_next _))))
  unfold Builtin.«set_iterator.__next__»
  refine wpAny_bind (wpAny_of_eq (a := (Value.ref I, [])) rfl ?_)
  try dsimp only
  refine wpAny_bind (wpAny_fieldsOf ho hdt ?_)
  dsimp only [rawInt]
  refine wpAny_bind (wpAny_setEntries_of hd rfl hT.fits ?_)
  simp only [bne_self_eq_false, Bool.false_eq_true, ↓reduceIte, Int.toNat_natCast]
  refine wpAny_bind (set_next_at hd hT (fun r hr => ?_) (Nat.le_of_lt hi))
  rw [hx] at hr
  subst hr
  dsimp only
  refine wpAny_bind (wpAny_setField ho hdt (by simp) ?_)
  have g1 := Heap.get?_update_self (Obj.mapFields (·.setIfInBounds 0 (Value.int (slotAt w t (i + 1) : Int) 0))) ho (Obj.isFreed_of_fields (Obj.data_mapFields hdt _))
  have c1 := (Obj.cls_mapFields (o := o) (f := (·.setIfInBounds 0 (Value.int (slotAt w t (i + 1) : Int) 0)))).trans hc
  have d1 : (Obj.mapFields (·.setIfInBounds 0 (Value.int (slotAt w t (i + 1) : Int) 0)) o).data = .fields #[rawInt (slotAt w t (i + 1)), rawInt i, .ref d, rawInt es.size, rawInt ep] := by rw [Obj.data_mapFields hdt]; simp [rawInt]
  generalize Obj.mapFields (·.setIfInBounds 0 (Value.int (slotAt w t (i + 1) : Int) 0)) o = o1 at g1 c1 d1
  refine wpAny_bind (wpAny_setField g1 d1 (by simp) ?_)
  refine wpAny_pure ⟨x.2, rfl, wpAny_pure (hQ _ x hx ?_ ((Heap.SameBut.update ..).trans (Heap.SameBut.update ..)))⟩
  exact ⟨_, Heap.get?_update_self _ g1 (Obj.isFreed_of_fields (Obj.data_mapFields d1 _)), (Obj.cls_mapFields ..).trans c1, by rw [Obj.data_mapFields d1]; simp [rawInt]⟩
theorem set_next_end {I d : Addr} {es : Array (Int × Value)} {ep : Nat} {t : SetTable} {Q : Option Value->Shared->Prop} (hh : A.handled = none) (hit : SIter s.heap I d (slotAt w t es.size) es.size es.size ep) (hd : SObj s.heap d es ep t) (hT : TabI t es.size (!w.params.followText "set-order"))
    (hQ : ∀ h', Heap.ExtBut I s.heap h'->Q none { s with heap := h' }) : wpAny (model prog w) A (pyNext (.ref I)) Q E s := by
  obtain ⟨o, ho, hc, hdt⟩ := id hit
  have hx : (setOrd w d ep es)[es.size]? = none := Array.getElem?_eq_none (by rw [setOrd_size]; exact Nat.le_refl _)
  unfold pyNext
  refine wpAny_bind (wpAny_attempt (wpAny_callSpecial?_slot (name := Str.ofString "__next__") hit.typeIs FS.slot_si_next (wpAny_call_entry FS.slot_si_next hit.typeIs FS.entry_si_next ?_ (FS.args_si_next _))))
  unfold Builtin.«set_iterator.__next__»
  refine wpAny_bind (wpAny_of_eq (a := (Value.ref I, [])) rfl ?_)
  try dsimp only
  refine wpAny_bind (wpAny_fieldsOf ho hdt ?_)
  dsimp only [rawInt]
  refine wpAny_bind (wpAny_setEntries_of hd rfl hT.fits ?_)
  simp only [bne_self_eq_false, Bool.false_eq_true, ↓reduceIte, Int.toNat_natCast]
  refine wpAny_bind (set_next_at hd hT (fun r hr => ?_) (Nat.le_refl _))
  rw [hx] at hr
  subst hr
  dsimp only
  refine wpAny_bind (wpAny_setField ho hdt (by simp) ?_)
  refine wpAny_bind ?_
  simp only [newExc, newTuple]
  refine wpAny_bind (wpAny_newObj_type ?_ (by size_fits))
  refine wpAny_bind (m := firstArgMember _ _) (wpAny_of_eq (a := Value.none) (by first | rfl | (simp only [firstArgMember]; rfl)) ?_)
  refine wpAny_newObj_type ?_ (by size_fits)
  simp only [raiseNew]
  refine wpAny_bind (wpAny_handled ?_)
  first | rw [show A.in1.handled = none from hh] | rw [hh]
  refine wpAny_bind (wpAny_pure (wpAny_throw ?_))
  refine wpAny_bind (wpAny_isInstance (T := "StopIteration") (b := true) ⟨_, Heap.get?_push_size _ rfl, rfl⟩ isSubtype_stop ?_)
  exact wpAny_pure (hQ _ (((Heap.SameBut.extBut (Heap.SameBut.update ..)).push _).push _))
theorem set_iter_self {I d : Addr} {a b c e : Nat} {Q : Value->Shared->Prop} (hit : SIter s.heap I d a b c e) (h : Q (.ref I) s) : wpAny (model prog w) A (pyIter (.ref I)) Q E s := by
  refine wpAny_pyIter_slot hit.typeIs FS.slot_si_iter (wpAny_call_entry FS.slot_si_iter hit.typeIs FS.entry_si_iter ?_ (FS.args_si_iter _))
  show wpAny _ _ (ret (.ref I)) _ _ s
  exact wpAny_pure ⟨_, rfl, "set_iterator", _, hit.typeIs, FS.slot_si_next.lookup, h⟩
def sIterObj (d : Addr) (n ep : Nat) : Obj := { cls := .type "set_iterator", data := .fields #[rawInt (0 : Nat), rawInt (0 : Nat), .ref d, rawInt n, rawInt ep] }
theorem set_iter {d : Addr} {es : Array (Int × Value)} {ep : Nat} {t : SetTable} {Q : Value->Shared->Prop} (hd : SObj s.heap d es ep t) (hT : TabI t es.size (!w.params.followText "set-order"))
    (h : Q (.ref s.heap.objs.size) { s with heap := s.heap.push (sIterObj d es.size ep) }) : wpAny (model prog w) A (pyIter (.ref d)) Q E s := by
  have hf := hT.fits
  refine wpAny_pyIter_slot hd.typeIs PySem.F.slot_set_iter (wpAny_call_entry PySem.F.slot_set_iter hd.typeIs FS.entry_set_iter ?_ (PySem.F.args_set_iter_1 _))
  unfold Builtin.«frozenset.__iter__»
  refine wpAny_bind (wpAny_of_eq (a := d) rfl ?_)
  unfold Builtin.Frozenset.sizeOf
  refine wpAny_bind (wpAny_bind (wpAny_setEntries_of hd rfl hf (wpAny_pure ?_)))
  unfold setDrawn
  refine wpAny_bind (wpAny_bind (wpAny_setState_of hd rfl hf ?_))
  dsimp only
  unfold setsByText
  refine wpAny_bind (wpAny_bind (wpAny_askSetting (wpAny_pure ?_)))
  refine wpAny_pure ?_
  have hdr : ∀ b : Bool, (b && (!t.plain && decide (es.size > 1))) = false := fun b => by rw [hT.pl]; simp
  show wpAny _ _ (if (!w.params.followText "set-order" && (!t.plain && decide (es.size > 1))) = true then _ else _) _ _ _
  rw [hdr]
  simp only [Bool.false_eq_true, ↓reduceIte]
  refine wpAny_bind (wpAny_pure ?_)
  refine wpAny_bind (wpAny_setEpoch_of hd rfl hf ?_)
  simp only [newFields]
  refine wpAny_bind (wpAny_newObj_type ?_)
  refine wpAny_pure ⟨_, rfl, "set_iterator", _, ⟨_, Heap.get?_push_size _ rfl, rfl⟩, FS.slot_si_next.lookup, ?_⟩
  exact h
theorem set_hint {r : Addr} {Q : Bool->Shared->Prop} (hT : s.TypeIs (.ref r) "set") (h : Q false s) : wpAny (model prog w) A (Builtin.List.listLengthHint (.ref r)) Q E s := by
  unfold Builtin.List.listLengthHint
  refine wpAny_bind (wpAny_specialOf hT PySem.F.slot_set_len.lookup ?_)
  generalize hid : ("set.__len__" : String) = id0
  wp_delta
  rw [show splitId id0 = some ("set", "__len__") from by subst hid; decide +kernel]
  subst hid
  refine wpAny_bind (wpAny_isInstance (T := "set") (b := true) hT (by rw [isSubtype_type]; kernel_rfl) ?_)
  refine wpAny_ite_split (fun hab => absurd hab (by decide)) (fun _ => ?_)
  refine wpAny_ite_split (fun _ => ?_) (fun hab => absurd (by decide +kernel) hab)
  refine wpAny_bind (wpAny_typeOf hT ?_)
  exact wpAny_pure h
theorem set_walks (hh : A.handled = none) (I d : Addr) (hne : d ≠ I) {es : Array (Int × Value)} {ep : Nat} {t : SetTable} (hT : TabI t es.size (!w.params.followText "set-order")) :
    Walks prog w A I [I, d] [I] es.size (fun i v => ∃ e, (setOrd w d ep es)[i]? = some e /\ v = e.2) (fun i h => SIter h I d (slotAt w t i) i es.size ep /\ SObj h d es ep t) where
  sub := fun b hb => by simp at hb; simp [hb]
  frame := fun _ _ _ st hk => ⟨st.1.at fun o e => hk I (by simp) o e, hk d (by simp) _ st.2⟩
  item := fun i s Q E hi st hQ => set_next_item st.1 st.2 hT hi fun h' x hx st' sb => hQ _ h' s.toks ⟨x, hx, rfl⟩ ⟨st', (sb.2 d hne).trans st.2⟩ fun b o hb eo => sb.extBut b o (fun h => hb (by simp [h])) eo
  done := fun s Q E st hQ => set_next_end hh st.1 st.2 hT fun h' he => hQ h' s.toks fun b o hb eo => he b o (fun h => hb (by simp [h])) eo
  self := fun _ _ _ _ st h => set_iter_self st.1 h
theorem slotAt_zero (w : World) (t : SetTable) : slotAt w t 0 = 0 := by unfold slotAt; split <;> rfl
theorem set_src {d : Addr} {es : Array (Int × Value)} {ep : Nat} {t : SetTable} (hT : TabI t es.size (!w.params.followText "set-order")) : PySem.W.KdlSrc prog w "set" d d es.size (fun i v => ∃ e, (setOrd w d ep es)[i]? = some e /\ v = e.2) (fun h => SObj h d es ep t) where
  type := fun _ hm => hm.typeIs
  there := fun _ hm => ⟨Heap.lt_size hm, Heap.lt_size hm⟩
  keep := fun _ _ hm hk => hk d (.inl rfl) _ hm
  notList := by decide
  notTuple := by decide
  hint := fun _ _ _ _ hm hq => set_hint hm.typeIs hq
  iter := fun A s hh hm => ⟨sIterObj d es.size ep, _, (fun _ _ hq => set_iter hm hT hq), set_walks hh _ d (Nat.ne_of_lt (Heap.lt_size hm)) hT, ⟨⟨_, Heap.get?_push_size _ rfl, rfl, by rw [slotAt_zero]; rfl⟩, Heap.get?_push_of_some _ hm⟩⟩
end
section
variable {X : Cx}
theorem vals_at : ∀ {us : List Value} {ns : List Int}, us.length = ns.length->(∀ (j : Nat) v, us[j]? = some v->∃ n t, ns[j]? = some n /\ v = Value.int n t)->Vals (ns.map V.int) us
  | [], [], _, _ => .nil
  | [], _ :: _, h, _ => by simp at h
  | _ :: _, [], h, _ => by simp at h
  | u :: us, n :: ns, h, key => by
    obtain ⟨m, t, e1, e2⟩ := key 0 u rfl
    have e1 : n = m := by simpa using e1
    subst e1
    exact .cons ⟨t, e2⟩ (vals_at (by simpa using h) fun j v e => by
      obtain ⟨m, t, a1, a2⟩ := key (j + 1) v (by simpa using e)
      exact ⟨m, t, by simpa using a1, a2⟩)
theorem sorted_set (hc : X.calm = true) {pins : List (Addr × Obj)} {σ : St} {H : Hp} {s : Shared} {d : Addr} {fm : List Int} {Q : VK} (I : Inv X pins σ H s) (hS : ISet X.prog X.w s.heap d fm (!X.w.params.followText "set-order"))
    (q : ∀ (l : Addr) (ns' : List Int), H l = none->ns'.Perm fm->ns'.Pairwise (· ≤ ·)->Q (.ref l) (upd H l (.lst (ns'.map V.int)))) : wpAny (model X.prog X.w) X.A (call (.builtin "sorted") [.ref d]) (EP X pins σ Q) X.xe s := by
  obtain ⟨es, ep, t, ho, hel, hpm, hT, hsz⟩ := hS
  have ho : SObj s.heap d es ep t := ho
  obtain ⟨ns, hns⟩ : ∃ ns, ns = keysI (setOrd X.w d ep es) := ⟨_, rfl⟩
  have hpn : ns.Perm fm := by rw [hns]; exact ((setOrd_perm X.w d ep es).map _).trans hpm
  have hnl : ns.length = es.size := by rw [hns, keys_len, setOrd_size]
  have h64 : ns.length < 64 := by omega
  refine Calls.call_function_entry kind_sorted plain_sorted entry_sorted (args_sorted1 _) ?_
  unfold Builtin.«sorted»
  refine wpAny_bind (m := checkCount "sorted" 1 1 _) (wpAny_pure ?_)
  refine wpAny_bind (PySem.W.kdu_collect (A := X.A.in1) (set_src (prog := X.prog) (w := X.w) (d := d) (ep := ep) hT) (I.ok.hd hc) ho (Nat.le_of_lt (small1000 (by omega))) fun h' tk acc keep hacc => ?_)
  have hI : IntsAre acc.toList ns := by
    refine intsAre_of (vals_at (by rw [Array.length_toList, hacc.1, hnl]) fun j v e => ?_)
    obtain ⟨x, h1, h2⟩ := hacc.2 j v (by rw [← Array.getElem?_toList]; exact e)
    have hx : x ∈ (setOrd X.w d ep es).toList := by rw [← Array.getElem?_toList] at h1; exact List.mem_of_getElem? h1
    obtain ⟨⟨k, hk, _⟩, _⟩ := hel x ((setOrd_perm X.w d ep es).mem_iff.mp hx)
    obtain ⟨t', et⟩ := Value.isInt_shape (show Value.isInt k x.2 = true from hk)
    refine ⟨k, t', ?_, by rw [h2, et]⟩
    rw [hns]
    unfold keysI
    rw [List.getElem?_map, Array.getElem?_toList, h1]
    show some (keyI x.2) = some k
    rw [et]; rfl
  have hal : acc.toList.length < 64 := by rw [ints_len hI]; exact h64
  refine wpAny_bind (wpAny_newList ?_ (Nat.le_of_lt (small1000 (by omega))))
  have hoL : (h'.push (seqObj "list" acc.toList.toArray 0)).get? h'.objs.size = some (seqObj "list" acc.toList.toArray 0) := Heap.get?_push_size _ rfl
  refine wpAny_bind (wpAny_holding (wpAny_call_entry slot_list_sort ⟨_, hoL, rfl⟩ entry_list_sort (list_sort_tree hoL hI hal fun out ns' b1 b2 b3 => ⟨_, rfl, ?_⟩) (args_list_sort _)))
  refine wpAny_pure ⟨_, rfl, ?_⟩
  obtain ⟨e, hat2⟩ := sortedHeap_at (out := out) hoL
  have hno : s.heap.get? h'.objs.size = none := by
    cases z : s.heap.get? h'.objs.size with
    | none => rfl
    | some o => exact absurd (Heap.lt_size (keep _ _ z)) (Nat.lt_irrefl _)
  have hlen : ns'.length ≤ sizeLine := by rw [b2.length_eq]; exact Nat.le_of_lt (small1000 (by omega))
  have keep2 : ∀ b o, s.heap.get? b = some o->(sortedHeap (h'.push (seqObj "list" acc.toList.toArray 0)) h'.objs.size acc.toList out).get? b = some o := fun b o z => by
    have hb := keep b o z
    have hlt := Heap.lt_size hb
    rw [sortedHeap_old (Nat.ne_of_lt hlt) (by rw [size_push']; exact Nat.lt_succ_of_lt hlt)]
    exact Heap.get?_push_of_some _ hb
  obtain ⟨H', I', _⟩ := I.laidAt (t' := tk) (vs := ns'.map V.int) hno keep2 ⟨by rw [List.length_map]; exact hlen, out.toList, e, vals_of b1, by simpa using hat2⟩
  exact ⟨.ref h'.objs.size, _, I', rfl, q _ ns' H' (b2.trans hpn) b3⟩
theorem dedup_mem (val : Nat->Int) (i : Nat) (k : Int) : k ∈ firstMet val i ↔ ∃ j, j < i /\ val j = k := by
  have h := firstMet_any val i k
  rw [Bool.eq_iff_iff, List.any_eq_true, List.any_eq_true] at h
  constructor
  · intro hk
    obtain ⟨y, hy, e⟩ := h.mp ⟨k, hk, by simp⟩
    obtain ⟨j, hj, ej⟩ := List.mem_map.mp hy
    exact ⟨j, List.mem_range.mp hj, by rw [ej]; simpa using e⟩
  · rintro ⟨j, hj, e⟩
    obtain ⟨y, hy, e2⟩ := h.mpr ⟨val j, List.mem_map.mpr ⟨j, List.mem_range.mpr hj, rfl⟩, by simp [e]⟩
    have : y = k := by simpa using e2
    exact this ▸ hy
theorem dedup_nodup (val : Nat->Int) : ∀ i, (firstMet val i).Nodup
  | 0 => .nil
  | i + 1 => by
    rw [firstMet_succ]
    unfold step_dedup
    have ih := dedup_nodup val i
    split
    · exact ih
    · rename_i hn
      rw [List.nodup_append]
      refine ⟨ih, by simp, fun a ha b hb => ?_⟩
      have : b = val i := by simpa using hb
      subst this
      intro e
      exact hn (List.any_eq_true.mpr ⟨a, ha, by simp [e]⟩)
def dd (ns : List Int) : List Int := firstMet (fun i => ns.getD i 0) ns.length
theorem dd_mem {ns : List Int} {k : Int} : k ∈ dd ns ↔ k ∈ ns := by
  unfold dd
  rw [dedup_mem]
  constructor
  · rintro ⟨j, hj, e⟩
    rw [List.getD_eq_getElem?_getD, List.getElem?_eq_getElem hj] at e
    have e : ns[j] = k := e
    exact e ▸ List.getElem_mem hj
  · intro hk
    obtain ⟨j, hj, e⟩ := List.getElem_of_mem hk
    exact ⟨j, hj, by rw [List.getD_eq_getElem?_getD, List.getElem?_eq_getElem hj, e]; rfl⟩
theorem dd_lt {ns' ns : List Int} (hp : ns'.Perm (dd ns)) (hs : ns'.Pairwise (· ≤ ·)) : ns'.Pairwise (· < ·) /\ ∀ k, k ∈ ns' ↔ k ∈ ns := by
  refine ⟨?_, fun k => hp.mem_iff.trans dd_mem⟩
  have hnd : ns'.Nodup := hp.nodup_iff.mpr (dedup_nodup _ _)
  have := hs.and hnd
  exact this.imp fun {a b} h => by have := h.1; have := h.2; omega
def tSSet (K : PySem.W.Frag) (te : TE) : TE := fun σ H Q => te σ H fun v H1 => ∃ (l : Addr) (ns : List Int), v = .ref l /\ SqL K H1 l (ns.map V.int) /\ (dd ns).length ≤ 63 ∧
  ∀ (r : Addr) (ns' : List Int), H1 r = none->ns'.Pairwise (· < ·)->(∀ k, k ∈ ns' ↔ k ∈ ns)->Q (.ref r) (upd H1 r (.lst (ns'.map V.int)))
theorem pe_sset {e : Expr} {te : TE} {p1 p2 pos1 pos2 : Pos} (hc : X.calm = true) (hg1 : Gl X "sorted") (hm1 : X.mg "sorted" = none) (hg2 : Gl X "set") (hm2 : X.mg "set" = none) (he : PE X e te)
    (hs1 : starEach [Expr.Call (.Name "set" p2) [e] [] pos2] X.env = [(false, eval (Expr.Call (.Name "set" p2) [e] [] pos2) X.env)] := by rfl) (hs2 : starEach [e] X.env = [(false, eval e X.env)] := by rfl) :
    PE X (.Call (.Name "sorted" p1) [.Call (.Name "set" p2) [e] [] pos2] [] pos1) (tSSet X.K te) := by
  intro pins s σ H Q I h
  refine wpAny_Call_Name_kw (ld_blt I hg1 hm1 boot_sorted ?_)
  refine PyProof.Rows.callWith_builtin1 ?_ hs1 rfl
  rw [hs1]
  show wpAny _ _ (spliced ((false, eval (Expr.Call (.Name "set" p2) [e] [] pos2) X.env) :: backTo pos1 [])) _ _ s
  refine Calls.spliced_cons ?_
  refine wpAny_Call_Name_kw (ld_blt I hg2 hm2 boot_set ?_)
  refine PyProof.Rows.callWith_type1 ?_ hs2 rfl
  rw [hs2]
  show wpAny _ _ (spliced ((false, eval e X.env) :: backTo pos2 [])) _ _ s
  refine Calls.spliced_cons (thn (he pins s σ H _ I h) fun u s1 ⟨x, H1, I1, r1, q1⟩ => ?_)
  obtain ⟨l, ns, rfl, hl, h63, q⟩ := q1
  cases r1
  refine Calls.spliced_nil ?_
  obtain ⟨its, rv, p, hz⟩ := I1.list hl
  have hI := intsAre_of rv
  have hlen : its.length = ns.length := by have := rv.length; simpa using this.symm
  refine iset_call (I1.ok.hd hc) p.isList (by simpa using hI) (by rw [List.size_toArray, hlen]; exact h63) fun h' tk hS keep => ?_
  refine Calls.spliced_nil ?_
  have I2 : Inv X pins σ H1 { s1 with heap := h', toks := tk } := I1.kept fun b o e => keep b o (Heap.lt_size e) e
  rw [show its.toArray.size = ns.length by rw [List.size_toArray, hlen]] at hS
  exact sorted_set hc I2 hS fun r ns' hr hp hso => q r ns' hr (dd_lt hp hso).1 (dd_lt hp hso).2
end
end L2
namespace HT
open PySem PySem.Spec PyProof.Rows
def lexLe : List Int->List Int->Bool
  | [], [] => true
  | [], _ :: _ => true
  | _ :: _, [] => false
  | x :: xs, y :: ys => if x = y then lexLe xs ys else decide (x ≤ y)
def lexGt : List Int->List Int->Bool
  | [], [] => false
  | [], _ :: _ => false
  | _ :: _, [] => true
  | x :: xs, y :: ys => if x = y then lexGt xs ys else decide (x > y)
theorem lexLe_cons (x y : Int) (xs ys : List Int) : lexLe (x :: xs) (y :: ys) = if x = y then lexLe xs ys else decide (x ≤ y) := rfl
theorem lexGt_cons (x y : Int) (xs ys : List Int) : lexGt (x :: xs) (y :: ys) = if x = y then lexGt xs ys else decide (x > y) := rfl
theorem lexLe_not : ∀ xs ys : List Int, lexLe xs ys = !lexLt ys xs
  | [], [] => rfl
  | [], _ :: _ => rfl
  | _ :: _, [] => rfl
  | x :: xs, y :: ys => by
    rw [lexLe_cons, lexLt_cons]
    by_cases h : x = y
    · rw [if_pos h, if_pos h.symm]; exact lexLe_not xs ys
    · rw [if_neg h, if_neg (fun e => h e.symm)]
      by_cases hl : x ≤ y
      · rw [decide_eq_true hl, decide_eq_false (by omega)]; rfl
      · rw [decide_eq_false hl, decide_eq_true (by omega)]; rfl
theorem lexGt_lt : ∀ xs ys : List Int, lexGt xs ys = lexLt ys xs
  | [], [] => rfl
  | [], _ :: _ => rfl
  | _ :: _, [] => rfl
  | x :: xs, y :: ys => by
    rw [lexGt_cons, lexLt_cons]
    by_cases h : x = y
    · rw [if_pos h, if_pos h.symm]; exact lexGt_lt xs ys
    · rw [if_neg h, if_neg (fun e => h e.symm)]
theorem rcle_int (A : Around) (s : Shared) (a : Int) (t : Tok) (c : Int) (u : Tok) (prog : Program) (w : World) (E : Value->Shared->Prop) (Q : Value->Shared->Prop) (h : Q (.bool (decide (a ≤ c))) s) :
    wpAny (model prog w) A (richCompare .LtE (.int a t) (.int c u)) Q E s :=
  (PyProof.Rows.le_int h : wpAny (model prog w) A (compareOp .LtE (.int a t) (.int c u)) Q E s)
section
open PySem.SeqAt
open PySem.AutoSeq1 (wpAny_loadPart')
open PySem.MeetsSeq PySem.MeetsSeq2 PySem.MeetsSeq3
theorem tuple_ints (l b : Addr) (items items2 : Array Value) (n n2 : Nat) (dd dd2 : Option Addr) (sl sl2 : Array (Option Value)) (ns ms : List Int) (hi : IntsAre items.toList ns) (hj : IntsAre items2.toList ms) :
    Meets (Builtin.«tuple.__le__» ⟨[.ref l, .ref b], []⟩)
      (fun _ R s => s.heap.get? l = some { cls := .type "tuple", dict := dd, data := .seq items n, slots := sl } /\ s.heap.get? b = some { cls := .type "tuple", dict := dd2, data := .seq items2 n2, slots := sl2 } ∧
        R (.ok (.ret (.bool (lexLe ns ms)))) s) :=
  .of_wp fun prog w A R s h => by
    obtain ⟨hp, g, d, tk, os⟩ := s; obtain ⟨hl, hb, h⟩ := h
    have f2 := AutoSeq1.sub_tuple_tuple
    have z1 : items.size = ns.length := by rw [← hi.length]; simp
    have z2 : items2.size = ms.length := by rw [← hj.length]; simp
    wp_walk using wpAny_loadPart' hl, wpAny_loadPart' hb, wpAny_forIn_list _ (fun rest b s' => b.1 = none /\ s' = ⟨hp, g, d, tk, os⟩ /\ ∃ (vs ws : List Value) (ns' ms' : List Int), rest = vs.zip ws ∧
      IntsAre vs ns' /\ IntsAre ws ms' /\ ns'.length + items2.size = ms'.length + items.size /\ R (.ok (.ret (.bool (lexLe ns' ms')))) ⟨hp, g, d, tk, os⟩) _
    case turn =>
      rintro ⟨y, x⟩ rest b s' ⟨hb', rfl, vs, ws, ns', ms', hz, hvi, hwi, hlen, hR⟩
      cases hvi with
      | nil => rw [List.zip_nil_left] at hz; cases hz
      | cons a t hvi' =>
        cases hwi with
        | nil => rw [List.zip_nil_right] at hz; cases hz
        | cons c u hwi' =>
          rw [List.zip_cons_cons] at hz
          injection hz with hyx hrest
          injection hyx with hy hx
          subst hy hx
          rw [lexLe_cons] at hR
          simp only [List.length_cons] at hlen
          obtain ⟨e, he, hiff⟩ := eqAt_int A.in1 ⟨hp, g, d, tk, os⟩ a t c u
          refine wpAny_bind (he prog w _ _ ?_)
          cases e with
          | true =>
            rw [if_pos (hiff.mp rfl)] at hR
            wp_walk
            exact ⟨rfl, rfl, _, _, _, _, hrest, hvi', hwi', by omega, hR⟩
          | false =>
            rw [if_neg (fun q => absurd (hiff.mpr q) Bool.false_ne_true)] at hR
            have hri := rcle_int A.in1 ⟨hp, g, d, tk, os⟩ a t c u prog w
            wp_walk using hri
            exact ⟨_, rfl, by simpa using hR⟩
    case fin =>
      rintro ⟨b1, b2⟩ s' ⟨hb', rfl, vs, ws, ns', ms', hz, hvi, hwi, hlen, hR⟩
      simp only at hb'
      subst hb'
      have hv : lexLe ns' ms' = decide (items.size ≤ items2.size) := by
        cases hvi with
        | nil =>
          cases hwi with
          | nil =>
            simp only [List.length_nil] at hlen
            show true = _
            exact (decide_eq_true (by omega)).symm
          | cons c u hw =>
            simp only [List.length_nil, List.length_cons] at hlen
            show true = _
            exact (decide_eq_true (by omega)).symm
        | cons a t hv =>
          cases hwi with
          | nil =>
            simp only [List.length_nil, List.length_cons] at hlen
            show false = _
            exact (decide_eq_false (by omega)).symm
          | cons c u hw =>
            rw [List.zip_cons_cons] at hz
            cases hz
      rw [hv] at hR
      wp_walk
      exact ⟨_, rfl, by simpa [Builtin.Tuple.tupleCompareSizes] using hR⟩
    case h =>
      exact ⟨rfl, rfl, items.toList, items2.toList, ns, ms, rfl, hi, hj, by omega, h⟩
end
theorem le_tupInts {prog : Program} {w : World} {A : Around} {E : Value->Shared->Prop} {s : Shared} {l b : Addr} {items items2 : Array Value} {ns ms : List Int} {Q : Value->Shared->Prop} (hl : IsTup s.heap l items) (hb : IsTup s.heap b items2) (hi : IntsAre items.toList ns) (hj : IntsAre items2.toList ms)
    (hu : A.units < cLine) (h : Q (.bool (lexLe ns ms)) s) : wpAny (model prog w) A (compareOp .LtE (.ref l) (.ref b)) Q E s := by
  obtain ⟨⟨cls, dd, data, sl⟩, ho, hc, n, hd⟩ := id hl
  obtain ⟨⟨cls2, dd2, data2, sl2⟩, ho2, hc2, n2, hd2⟩ := id hb
  simp only at hc hd hc2 hd2
  subst hc hd hc2 hd2
  exact richCompare_meets_room (op := .LtE) ⟨_, ho, rfl⟩ ⟨_, ho2, rfl⟩ PySem.F.slot_tuple_le PySem.F.entry_tuple_le (PySem.F.args_tuple_le_2 _ _) (tuple_ints l b items items2 n n2 dd dd2 sl sl2 ns ms hi hj)
    ⟨ho, ho2, show Value.bool (lexLe ns ms) ≠ Value.notImplemented /\ Q (.bool (lexLe ns ms)) s from ⟨(fun x => nomatch x), h⟩⟩ hu
theorem rcgt_int (A : Around) (s : Shared) (a : Int) (t : Tok) (c : Int) (u : Tok) (prog : Program) (w : World) (E : Value->Shared->Prop) (Q : Value->Shared->Prop) (h : Q (.bool (decide (a > c))) s) :
    wpAny (model prog w) A (richCompare .Gt (.int a t) (.int c u)) Q E s :=
  (PyProof.Rows.gt_int h : wpAny (model prog w) A (compareOp .Gt (.int a t) (.int c u)) Q E s)
section
open PySem.SeqAt
open PySem.AutoSeq1 (wpAny_loadPart')
open PySem.MeetsSeq PySem.MeetsSeq2 PySem.MeetsSeq3
theorem tupgt_ints (l b : Addr) (items items2 : Array Value) (n n2 : Nat) (dd dd2 : Option Addr) (sl sl2 : Array (Option Value)) (ns ms : List Int) (hi : IntsAre items.toList ns) (hj : IntsAre items2.toList ms) :
    Meets (Builtin.«tuple.__gt__» ⟨[.ref l, .ref b], []⟩)
      (fun _ R s => s.heap.get? l = some { cls := .type "tuple", dict := dd, data := .seq items n, slots := sl } /\ s.heap.get? b = some { cls := .type "tuple", dict := dd2, data := .seq items2 n2, slots := sl2 } ∧
        R (.ok (.ret (.bool (lexGt ns ms)))) s) :=
  .of_wp fun prog w A R s h => by
    obtain ⟨hp, g, d, tk, os⟩ := s; obtain ⟨hl, hb, h⟩ := h
    have f2 := AutoSeq1.sub_tuple_tuple
    have z1 : items.size = ns.length := by rw [← hi.length]; simp
    have z2 : items2.size = ms.length := by rw [← hj.length]; simp
    wp_walk using wpAny_loadPart' hl, wpAny_loadPart' hb, wpAny_forIn_list _ (fun rest b s' => b.1 = none /\ s' = ⟨hp, g, d, tk, os⟩ /\ ∃ (vs ws : List Value) (ns' ms' : List Int), rest = vs.zip ws ∧
      IntsAre vs ns' /\ IntsAre ws ms' /\ ns'.length + items2.size = ms'.length + items.size /\ R (.ok (.ret (.bool (lexGt ns' ms')))) ⟨hp, g, d, tk, os⟩) _
    case turn =>
      rintro ⟨y, x⟩ rest b s' ⟨hb', rfl, vs, ws, ns', ms', hz, hvi, hwi, hlen, hR⟩
      cases hvi with
      | nil => rw [List.zip_nil_left] at hz; cases hz
      | cons a t hvi' =>
        cases hwi with
        | nil => rw [List.zip_nil_right] at hz; cases hz
        | cons c u hwi' =>
          rw [List.zip_cons_cons] at hz
          injection hz with hyx hrest
          injection hyx with hy hx
          subst hy hx
          rw [lexGt_cons] at hR
          simp only [List.length_cons] at hlen
          obtain ⟨e, he, hiff⟩ := eqAt_int A.in1 ⟨hp, g, d, tk, os⟩ a t c u
          refine wpAny_bind (he prog w _ _ ?_)
          cases e with
          | true =>
            rw [if_pos (hiff.mp rfl)] at hR
            wp_walk
            exact ⟨rfl, rfl, _, _, _, _, hrest, hvi', hwi', by omega, hR⟩
          | false =>
            rw [if_neg (fun q => absurd (hiff.mpr q) Bool.false_ne_true)] at hR
            have hri := rcgt_int A.in1 ⟨hp, g, d, tk, os⟩ a t c u prog w
            wp_walk using hri
            exact ⟨_, rfl, by simpa using hR⟩
    case fin =>
      rintro ⟨b1, b2⟩ s' ⟨hb', rfl, vs, ws, ns', ms', hz, hvi, hwi, hlen, hR⟩
      simp only at hb'
      subst hb'
      have hv : lexGt ns' ms' = decide (items.size > items2.size) := by
        cases hvi with
        | nil =>
          cases hwi with
          | nil =>
            simp only [List.length_nil] at hlen
            show false = _
            exact (decide_eq_false (by omega)).symm
          | cons c u hw =>
            simp only [List.length_nil, List.length_cons] at hlen
            show false = _
            exact (decide_eq_false (by omega)).symm
        | cons a t hv =>
          cases hwi with
          | nil =>
            simp only [List.length_nil, List.length_cons] at hlen
            show true = _
            exact (decide_eq_true (by omega)).symm
          | cons c u hw =>
            rw [List.zip_cons_cons] at hz
            cases hz
      rw [hv] at hR
      wp_walk
      exact ⟨_, rfl, by simpa [Builtin.Tuple.tupleCompareSizes] using hR⟩
    case h =>
      exact ⟨rfl, rfl, items.toList, items2.toList, ns, ms, rfl, hi, hj, by omega, h⟩
end
theorem gt_tupInts {prog : Program} {w : World} {A : Around} {E : Value->Shared->Prop} {s : Shared} {l b : Addr} {items items2 : Array Value} {ns ms : List Int} {Q : Value->Shared->Prop} (hl : IsTup s.heap l items) (hb : IsTup s.heap b items2) (hi : IntsAre items.toList ns) (hj : IntsAre items2.toList ms)
    (hu : A.units < cLine) (h : Q (.bool (lexGt ns ms)) s) : wpAny (model prog w) A (compareOp .Gt (.ref l) (.ref b)) Q E s := by
  obtain ⟨⟨cls, dd, data, sl⟩, ho, hc, n, hd⟩ := id hl
  obtain ⟨⟨cls2, dd2, data2, sl2⟩, ho2, hc2, n2, hd2⟩ := id hb
  simp only at hc hd hc2 hd2
  subst hc hd hc2 hd2
  exact richCompare_meets_room (op := .Gt) ⟨_, ho, rfl⟩ ⟨_, ho2, rfl⟩ PySem.F.slot_tuple_gt PySem.F.entry_tuple_gt (PySem.F.args_tuple_gt_2 _ _) (tupgt_ints l b items items2 n n2 dd dd2 sl sl2 ns ms hi hj)
    ⟨ho, ho2, show Value.bool (lexGt ns ms) ≠ Value.notImplemented /\ Q (.bool (lexGt ns ms)) s from ⟨(fun x => nomatch x), h⟩⟩ hu
end HT
namespace L2
open PySem PySem.Spec PyProof.Rows
def rLeT (K : PySem.W.Frag) : R2 := fun x y H Q => ∃ a b ns ms, x = .ref a /\ y = .ref b /\ SqT K H a (ns.map V.int) /\ SqT K H b (ms.map V.int) /\ Q (.bl (!HT.lexLt ms ns)) H
theorem op_leT {X : Cx} (hu : X.A.units < cLine) : OpR X (compareOp .LtE) (rLeT X.K) := by
  intro pins s σ H x y v u Q I rx ry h
  obtain ⟨a, b, ns, ms, rfl, rfl, ha, hb, q⟩ := h
  cases rx
  cases ry
  obtain ⟨its, r1, p1, _⟩ := I.tuple ha
  obtain ⟨its2, r2, p2, _⟩ := I.tuple hb
  have i1 : IntsAre its.toArray.toList ns := intsAre_of r1
  have i2 : IntsAre its2.toArray.toList ms := intsAre_of r2
  exact HT.le_tupInts p1 p2 i1 i2 hu ⟨.bl (HT.lexLe ns ms), H, I, rfl, by rw [HT.lexLe_not]; exact q⟩
def rGtT (K : PySem.W.Frag) : R2 := fun x y H Q => ∃ a b ns ms, x = .ref a /\ y = .ref b /\ SqT K H a (ns.map V.int) /\ SqT K H b (ms.map V.int) /\ Q (.bl (HT.lexLt ms ns)) H
theorem op_gtT {X : Cx} (hu : X.A.units < cLine) : OpR X (compareOp .Gt) (rGtT X.K) := by
  intro pins s σ H x y v u Q I rx ry h
  obtain ⟨a, b, ns, ms, rfl, rfl, ha, hb, q⟩ := h
  cases rx
  cases ry
  obtain ⟨its, r1, p1, _⟩ := I.tuple ha
  obtain ⟨its2, r2, p2, _⟩ := I.tuple hb
  have i1 : IntsAre its.toArray.toList ns := intsAre_of r1
  have i2 : IntsAre its2.toArray.toList ms := intsAre_of r2
  exact HT.gt_tupInts p1 p2 i1 i2 hu ⟨.bl (HT.lexGt ns ms), H, I, rfl, by rw [HT.lexGt_lt]; exact q⟩
def rEqN (K : PySem.W.Frag) : R2 := fun x y H Q => rEqR K x y H Q ∨ (∃ b ys, x = .non /\ y = .ref b /\ SqT K H b ys /\ Q (.bl false) H) ∨ ∃ a xs, x = .ref a /\ y = .non /\ SqT K H a xs /\ Q (.bl false) H
theorem op_eqN {X : Cx} (hu : X.A.units + 64 < cLine) : OpR X (compareOp .Eq) (rEqN X.K) := by
  rintro pins s σ H x y v u Q I rx ry (h | ⟨b, ys, rfl, rfl, hb, q⟩ | ⟨a, xs, rfl, rfl, ha, q⟩)
  · exact op_eq_ref hu pins s σ H x y v u Q I rx ry h
  · cases rx
    cases ry
    obtain ⟨its, r, p, _⟩ := I.tuple hb
    exact SeqAt.RcAt.none_tuple (show s.heap.IsTuple b its.toArray from p) (by omega) X.prog X.w X.xe _ ⟨.bl false, H, I, rfl, q⟩
  · cases rx
    cases ry
    obtain ⟨its, r, p, _⟩ := I.tuple ha
    exact SeqAt.RcAt.tuple_none (show s.heap.IsTuple a its.toArray from p) (by omega) X.prog X.w X.xe _ ⟨.bl false, H, I, rfl, q⟩
theorem op_catTK {X : Cx} {K : PySem.W.Frag} (hK : X.K = K) : OpR X (binaryOp .Add) (rCatT K) := by subst hK; exact op_catT
theorem rise_ext : ∀ {l m : List Int}, l.Pairwise (· < ·)->m.Pairwise (· < ·)->(∀ a, a ∈ l ↔ a ∈ m)->l = m
  | [], [], _, _, _ => rfl
  | [], b :: m, _, _, h => absurd ((h b).mpr (by simp)) (by simp)
  | a :: l, [], _, _, h => absurd ((h a).mp (by simp)) (by simp)
  | a :: l, b :: m, hl, hm, h => by
    rw [List.pairwise_cons] at hl hm
    have e : a = b := by
      rcases List.mem_cons.mp ((h a).mp (by simp)) with e | h1
      · exact e
      · rcases List.mem_cons.mp ((h b).mpr (by simp)) with e | h2
        · exact e.symm
        · have := hm.1 a h1; have := hl.1 b h2; omega
    subst e
    rw [rise_ext hl.2 hm.2 fun c => ⟨fun hc => ?_, fun hc => ?_⟩]
    · rcases List.mem_cons.mp ((h c).mp (by simp [hc])) with e | h1
      · subst e; have := hl.1 c hc; omega
      · exact h1
    · rcases List.mem_cons.mp ((h c).mpr (by simp [hc])) with e | h1
      · subst e; have := hm.1 c hc; omega
      · exact h1
end L2
namespace Mine
open PySem L2
def top (i : Nat) : Stmt := PySem.Challenge.pw_keepsakes_k37_papers_by_the_points.main.body.getD i (.Pass ⟨0, 0, 0, 0⟩)
abbrev s_price_at : Stmt := top 1
abbrev s_price_over : Stmt := top 2
abbrev s_holds : Stmt := top 4
abbrev s_days_rise : Stmt := top 5
abbrev s_leg_holds : Stmt := top 6
abbrev s_price_of_way : Stmt := top 7
abbrev s__law_cell_at : Stmt := top 9
abbrev s__law_drawn : Stmt := top 11
abbrev s__law_days : Stmt := top 12
abbrev s__law_leg : Stmt := top 13
abbrev s__law_legs : Stmt := top 14
abbrev s__law_behind : Stmt := top 15
abbrev s__law_known : Stmt := top 16
abbrev s__law_way : Stmt := top 17
abbrev s__law_walk : Stmt := top 18
abbrev s__law_less : Stmt := top 19
abbrev s__law_prices_told : Stmt := top 20
abbrev s__law_turned : Stmt := top 21
abbrev s__law_paper : Stmt := top 22
abbrev s__law_due : Stmt := top 23
abbrev s_law : Stmt := top 24
theorem sc_price_at : FnScope ["priced", "start"] ["priced", "start"] (defScope s_price_at) := ⟨rfl, rfl, rfl, by decide +kernel, rfl, by decide +kernel, by decide +kernel⟩
theorem sc_price_over : FnScope ["price", "leg"] ["price", "leg"] (defScope s_price_over) := ⟨rfl, rfl, rfl, by decide +kernel, rfl, by decide +kernel, by decide +kernel⟩
theorem sc_holds : FnScope ["legs", "day", "told", "way", "rows", "priced"] ["legs", "day", "told"] (defScope s_holds) := ⟨rfl, rfl, rfl, by decide +kernel, rfl, by decide +kernel, by decide +kernel⟩
theorem sc_days_rise : FnScope ["rows", "days"] ["rows"] (defScope s_days_rise) := ⟨rfl, rfl, rfl, by decide +kernel, rfl, by decide +kernel, by decide +kernel⟩
theorem sc_leg_holds : FnScope ["priced", "leg", "start"] ["priced", "leg"] (defScope s_leg_holds) := ⟨rfl, rfl, rfl, by decide +kernel, rfl, by decide +kernel, by decide +kernel⟩
theorem sc_price_of_way : FnScope ["legs", "way", "day", "by_number", "price", "at", "number"] ["legs", "way", "day"] (defScope s_price_of_way) := ⟨rfl, rfl, rfl, by decide +kernel, rfl, by decide +kernel, by decide +kernel⟩
theorem sc__law_cell_at : FnScope ["_law_script", "_law_k"] ["_law_script", "_law_k"] (defScope s__law_cell_at) := ⟨rfl, rfl, rfl, by decide +kernel, rfl, by decide +kernel, by decide +kernel⟩
theorem sc__law_drawn : FnScope ["_law_cell", "_law_many", "_law_found", "_law_number", "_law_k"] ["_law_cell", "_law_many"] (defScope s__law_drawn) := ⟨rfl, rfl, rfl, by decide +kernel, rfl, by decide +kernel, by decide +kernel⟩
theorem sc__law_days : FnScope ["_law_xs", "_law_many", "_law_gap", "_law_low"] ["_law_xs"] (defScope s__law_days) := ⟨rfl, rfl, rfl, by decide +kernel, rfl, by decide +kernel, by decide +kernel⟩
theorem sc__law_leg : FnScope ["_law_cell", "_law_number", "_law_days_here", "_law_xs", "_law_ys", "_law_many", "_law_at", "_law_to", "_law_start", "_law_cost", "_law_bad"] ["_law_cell", "_law_number", "_law_days_here", "_law_xs"] (defScope s__law_leg) := ⟨rfl, rfl, rfl, by decide +kernel, rfl, by decide +kernel, by decide +kernel⟩
theorem sc__law_legs : FnScope ["_law_script", "_law_most", "_law_xs", "_law_days_here", "_law_cells", "_law_share", "_law_legs_here", "_law_k"] ["_law_script", "_law_most"] (defScope s__law_legs) := ⟨rfl, rfl, rfl, by decide +kernel, rfl, by decide +kernel, by decide +kernel⟩
theorem sc__law_behind : FnScope ["_law_price", "_law_leg_here"] ["_law_price", "_law_leg_here"] (defScope s__law_behind) := ⟨rfl, rfl, rfl, by decide +kernel, rfl, by decide +kernel, by decide +kernel⟩
theorem sc__law_known : FnScope ["_law_legs_here", "_law_known_here", "_law_more", "_law_leg_here", "_law_due_here"] ["_law_legs_here"] (defScope s__law_known) := ⟨rfl, rfl, rfl, by decide +kernel, rfl, by decide +kernel, by decide +kernel⟩
theorem sc__law_way : FnScope ["_law_legs_here", "_law_known_here", "_law_day", "_law_way_here", "_law_best", "_law_leg_here"] ["_law_legs_here", "_law_known_here", "_law_day"] (defScope s__law_way) := ⟨rfl, rfl, rfl, by decide +kernel, rfl, by decide +kernel, by decide +kernel⟩
theorem sc__law_walk : FnScope ["_law_legs_here", "_law_cells", "_law_way_here", "_law_here", "_law_price", "_law_cell", "_law_onward", "_law_leg_here"] ["_law_legs_here", "_law_cells"] (defScope s__law_walk) := ⟨rfl, rfl, rfl, by decide +kernel, rfl, by decide +kernel, by decide +kernel⟩
theorem sc__law_less : FnScope ["_law_price", "_law_number"] ["_law_price", "_law_number"] (defScope s__law_less) := ⟨rfl, rfl, rfl, by decide +kernel, rfl, by decide +kernel, by decide +kernel⟩
theorem sc__law_prices_told : FnScope ["_law_days_here", "_law_known_here", "_law_xs", "_law_kind", "_law_at", "_law_told", "_law_day"] ["_law_days_here", "_law_known_here", "_law_xs"] (defScope s__law_prices_told) := ⟨rfl, rfl, rfl, by decide +kernel, rfl, by decide +kernel, by decide +kernel⟩
theorem sc__law_turned : FnScope ["_law_rows", "_law_xs", "_law_at"] ["_law_rows", "_law_xs"] (defScope s__law_turned) := ⟨rfl, rfl, rfl, by decide +kernel, rfl, by decide +kernel, by decide +kernel⟩
theorem sc__law_paper : FnScope ["_law_legs_here", "_law_days_here", "_law_known_here", "_law_xs", "_law_told", "_law_some", "_law_day", "_law_way_here", "_law_here", "_law_price", "_law_rows"] ["_law_legs_here", "_law_days_here", "_law_known_here", "_law_xs"] (defScope s__law_paper) := ⟨rfl, rfl, rfl, by decide +kernel, rfl, by decide +kernel, by decide +kernel⟩
theorem sc__law_due : FnScope ["_law_legs_here", "_law_day", "_law_way_here", "_law_rows", "_law_told", "_law_ahead", "_law_row", "_law_leg_here", "_law_here", "_law_price", "_law_number", "_law_some"] ["_law_legs_here", "_law_day", "_law_way_here", "_law_rows"] (defScope s__law_due) := ⟨rfl, rfl, rfl, by decide +kernel, rfl, by decide +kernel, by decide +kernel⟩
theorem sc_law : FnScope ["_law_script", "_law_days_here", "_law_legs_here", "_law_known_here", "_law_k", "_law_xs", "_law_day", "_law_way_here", "_law_rows", "_law_handed", "_law_found"] ["_law_script"] (defScope s_law) := ⟨rfl, rfl, rfl, by decide +kernel, rfl, by decide +kernel, by decide +kernel⟩
theorem seq_ifT {c : TT} {t u R : TS} {D : Ends} {σ : St} {H : Hp} (hc : ∀ Q : Bool->Hp->Prop, Q true H->c σ H Q) (h : t { D with nx := R D } σ H) : tSeq (tIfS c t u) R D σ H := hc _ (iteT h)
theorem nxA {N : St->Hp->Prop} {σ : St} {H : Hp} (σ' : St) (h : N σ' H) (e : σ = σ' := by rfl) : N σ H := by subst e; exact h
theorem seq_ifN {c : TT} {t R : TS} {D : Ends} {σ : St} {H : Hp} (hc : ∀ Q : Bool->Hp->Prop, Q false H->c σ H Q) (h : R D σ H) : tSeq (tIfS c t tNext) R D σ H := hc _ (iteF h)
theorem seq_ifP {c : TT} {t R : TS} {D : Ends} {σ : St} {H : Hp} (P : Hp->Prop) (hc : ∀ Q : Bool->Hp->Prop, (∀ H', P H'->Q false H')->c σ H Q) (h : ∀ H', P H'->R D σ H') : tSeq (tIfS c t tNext) R D σ H := hc _ fun H' p => iteF (h H' p)
theorem if_yes {c : TT} {t u : TS} {D : Ends} {σ : St} {H : Hp} (hc : ∀ Q : Bool->Hp->Prop, Q true H->c σ H Q) (h : t D σ H) : tIfS c t u D σ H := hc _ (iteT h)
theorem if_no {c : TT} {t u : TS} {D : Ends} {σ : St} {H : Hp} (hc : ∀ Q : Bool->Hp->Prop, Q false H->c σ H Q) (h : u D σ H) : tIfS c t u D σ H := hc _ (iteF h)
theorem cutA {S1 R : TS} {D : Ends} {σ : St} {H : Hp} (Post : St->Hp->Prop) (h : ∀ N : St->Hp->Prop, (∀ σ' H', Post σ' H'->N σ' H')->S1 { D with nx := N } σ H) (hr : ∀ σ' H', Post σ' H'->R D σ' H') : tSeq S1 R D σ H := h (R D) hr
theorem gNameA {k : Nat} {x : V} {σ : St} (σ' : St) {H : Hp} {N : St->Hp->Prop} (h : N σ' H) (e : σ.set k (some x) = σ' := by rfl) : gName k x σ H N := by subst e; exact h
def sp_over : Sp := fun vs H Q _ => ∃ (a b : Addr) (p : List Int) (g : Leg), vs = [.ref a, .ref b] /\ IsPr p /\ H a = some (.tup (p.map V.int)) /\ H b = some (.tup ((legT g).map V.int)) /\ ∀ t, H t = none->Q (.ref t) (upd H t (.tup ((overT p g).map V.int)))
def selV (LV : List V) (legs : List Leg) (d : Int) : List V := ((LV.zip legs).filter fun x => decide (x.2.start = d)).map (·.1)
structure StAt (H : Hp) (kvs : List (Key × V)) (LV : List V) (legs : List Leg) : Prop where
  val : ∀ d, (∃ l, valV kvs (Sum.inl d) = some (.ref l) /\ H l = some (.lst (selV LV legs d))) ∨ (valV kvs (Sum.inl d) = none /\ selV LV legs d = [])
theorem key_tup {H : Hp} {v : V} {ks : List Int} (h : KeyAt true H v ks) : ∃ a, v = .ref a /\ H a = some (.tup (ks.map V.int)) := h
def sp_priceat : Sp := fun vs H Q _ => ∃ (pd : Addr) (kvs : List (Key × V)) (P : Int->Option (List Int)) (st : Int), vs = [.ref pd, .int st] /\ H pd = some (.dK kvs) /\ PrAt H kvs (dropP P (-1)) /\ P (-1) = some [0, 0, 0] /\ (P st = none->Q .non H) /\ (∀ p, P st = some p->∀ t H', H' t = some (.tup (p.map V.int))->Same H H'->Q (.ref t) H')
theorem nd_map {α β : Type} {f : α->β} (hf : ∀ a b, f a = f b->a = b) : ∀ {l : List α}, l.Nodup->(l.map f).Nodup
  | [], _ => List.nodup_nil
  | x :: l, h => by
    rw [List.nodup_cons] at h
    rw [List.map_cons, List.nodup_cons]
    refine ⟨fun hm => ?_, nd_map hf h.2⟩
    obtain ⟨y, hy, e⟩ := List.mem_map.mp hm
    exact h.1 (by rw [← hf _ _ e]; exact hy)
theorem least_has {legs : List Leg} {P : Int->Option (List Int)} (h : Least legs P) : ∀ (n : Nat) (d b c : Int), P d = some [b, c, (n : Int)]->∀ j : Nat, 1 ≤ j->j ≤ n->∃ g ∈ legs, ∃ b' c', P g.to = some [b', c', (j : Int)] := by
  intro n
  induction n with
  | zero => intro d b c _ j h1 h2; omega
  | succ n ih =>
    intro d b c hd j h1 h2
    have e : d ≠ -1 := fun e => by rw [e, h.zero] at hd; cases hd
    obtain ⟨g, hg, rfl, p, hp, hq⟩ := h.att d _ hd e
    obtain ⟨b', c', m, rfl⟩ := h.pr _ _ hp
    have h3 : ((n + 1 : Nat) : Int) = (m : Int) + 1 := congrArg (fun l : List Int => l.getD 2 0) hq
    have hm : m = n := by omega
    subst hm
    by_cases ej : j = m + 1
    · subst ej; exact ⟨g, hg, b, c, hd⟩
    · exact ih _ _ _ hp j h1 (by omega)
theorem least_cnt {legs : List Leg} {P : Int->Option (List Int)} (h : Least legs P) {n : Nat} {d b c : Int} (hd : P d = some [b, c, (n : Int)]) : n ≤ legs.length := by
  have := nd_len (l := (List.range n).map fun j : Nat => ((j + 1 : Nat) : Int)) (m := legs.map fun g => ((P g.to).getD []).getD 2 0) ?_ ?_
  · simpa using this
  · exact nd_map (fun a b hab => by omega) List.nodup_range
  · intro x hx
    obtain ⟨j, hj, rfl⟩ := List.mem_map.mp hx
    have hj := List.mem_range.mp hj
    obtain ⟨g, hg, b', c', e⟩ := least_has h n d b c hd (j + 1) (by omega) (by omega)
    exact List.mem_map.mpr ⟨g, hg, by rw [e]; rfl⟩
def Att (P : Int->Option (List Int)) (g : Leg) : Prop := ∃ p, P g.start = some p /\ P g.to = some (overT p g)
structure IsLast (legs : List Leg) (P : Int->Option (List Int)) (L : Int->Option Int) : Prop where
  none_ : ∀ d, L d = none->∀ g ∈ legs, g.to = d->¬ Att P g
  some_ : ∀ d x, L d = some x->(∃ g ∈ legs, g.to = d /\ Att P g /\ g.num = x) /\ ∀ g ∈ legs, g.to = d->Att P g->x ≤ g.num
theorem IsLast.nil {P : Int->Option (List Int)} : IsLast [] P (fun _ => none) := ⟨fun d _ g hg => (by cases hg), fun d x h => (by cases h)⟩
structure NumAt (kvs : List (Key × V)) (L : Int->Option Int) : Prop where
  nd : (kvs.map (·.1)).Nodup
  alli : AllI kvs
  val : ∀ i, valV kvs (Sum.inl i) = (L i).map V.int
theorem NumAt.nil : NumAt [] (fun _ => none) := ⟨List.nodup_nil, AllI.nil, fun i => rfl⟩
def StOf (legs : List Leg) (x s : Int) : Prop := ∃ g ∈ legs, g.num = x /\ g.start = s
inductive Chain (L : Int->Option Int) (legs : List Leg) : Int->List Int->Prop
  | nil : Chain L legs (-1) []
  | cons {d x s : Int} {ws : List Int} : d ≠ -1->L d = some x->StOf legs x s->Chain L legs s ws->Chain L legs d (x :: ws)
theorem nd_inj : ∀ {l : List Leg}, (l.map Leg.num).Nodup->∀ {g g' : Leg}, g ∈ l->g' ∈ l->g.num = g'.num->g = g'
  | x :: l, h, g, g', hg, hg', e => by
    rw [List.map_cons, List.nodup_cons] at h
    rcases List.mem_cons.mp hg with e1 | h1
    · rcases List.mem_cons.mp hg' with e2 | h2
      · rw [e1, e2]
      · exact absurd (List.mem_map.mpr ⟨g', h2, by rw [← e, e1]⟩) h.1
    · rcases List.mem_cons.mp hg' with e2 | h2
      · exact absurd (List.mem_map.mpr ⟨g, h1, by rw [e, e2]⟩) h.1
      · exact nd_inj h.2 h1 h2 e
def cellI (ns : List Int) (k : Int) : Int := if k < (ns.length : Int) then ns.getD k.toNat 0 else 0
def sp_cell (K : PySem.W.Frag) : Sp := fun vs H Q _ => ∃ (a : Addr) (ns : List Int) (k : Nat), vs = [.ref a, .int (k : Int)] /\ SqL K H a (ns.map V.int) /\ Q (.int (cellI ns k)) H
def sp_drawn : Sp := fun vs H Q _ => ∃ (c : Int) (m : Nat), vs = [.int c, .int (m : Int)] /\ m ≤ 60 /\ ∀ (l : Addr) (xs : List Int) H', H' l = some (.lst (xs.map V.int))->H l = none->xs.length = m->(∀ x ∈ xs, (0 : Int) ≤ x /\ x < 2147483647)->Same H H'->Q (.ref l) H'
def DaysOk (ds : List Int) : Prop := ∃ (n : Nat) (low gap : Int), 2 ≤ n /\ n ≤ 30 /\ 0 ≤ low /\ 1 ≤ gap /\ ds = (List.range n).map fun k : Nat => low + gap * (k : Int)
theorem DaysOk.len {ds : List Int} (h : DaysOk ds) : 2 ≤ ds.length /\ ds.length ≤ 30 := by
  obtain ⟨n, low, gap, h1, h2, _, _, rfl⟩ := h
  simp; omega
theorem DaysOk.pos {ds : List Int} (h : DaysOk ds) : ∀ d ∈ ds, 0 ≤ d := by
  obtain ⟨n, low, gap, h1, h2, h3, h4, rfl⟩ := h
  intro d hd
  obtain ⟨k, _, rfl⟩ := List.mem_map.mp hd
  have : 0 ≤ gap * (k : Int) := Int.mul_nonneg (by omega) (by omega)
  omega
def Eight (H : Hp) (l : Addr) (xs : List Int) : Prop := H l = some (.lst (xs.map V.int)) /\ xs.length = 8 /\ ∀ x ∈ xs, (0 : Int) ≤ x /\ x < 2147483647
def sp_days : Sp := fun vs H Q _ => ∃ (l : Addr) (xs : List Int), vs = [.ref l] /\ Eight H l xs /\ ∀ r ds H', H' r = some (.lst (ds.map V.int))->H r = none->DaysOk ds->Same H H'->Q (.ref r) H'
def sp_leg : Sp := fun vs H Q _ => ∃ (c num : Int) (dl l : Addr) (ds xs : List Int), vs = [.int c, .int num, .ref dl, .ref l] /\ H dl = some (.lst (ds.map V.int)) /\ DaysOk ds /\ Eight H l xs ∧
  ∀ t g H', H' t = some (.tup ((legT g).map V.int))->H t = none->LegOk g->g.num = num->(g.start = -1 ∨ g.start ∈ ds)->g.to ∈ ds->g.bad ≤ 1->Same H H'->Q (.ref t) H'
def sp_legs (K : PySem.W.Frag) : Sp := fun vs H Q _ => ∃ (a : Addr) (ns : List Int), vs = [.ref a, .int 100] /\ SqL K H a (ns.map V.int) /\ ns.length ≤ 63 ∧
  ∀ (t dl ll : Addr) (ds : List Int) (LV : List V) (legs : List Leg) (H' : Hp), H' t = some (.lst [.ref dl, .ref ll])->H' dl = some (.lst (ds.map V.int))->H' ll = some (.lst LV)->KeysAt true H' LV (legs.map legT)->(∀ g ∈ legs, LegOk g)->(∀ g ∈ legs, (g.start = -1 ∨ g.start ∈ ds) /\ g.to ∈ ds)->legs.length ≤ 130->(legs.map Leg.num).Nodup->DaysOk ds->H t = none->H dl = none->H ll = none->Same H H'->Q (.ref t) H'
theorem two_of {x y k : Int} (h0 : 0 ≤ k) (h1 : k < 2) : ∃ z, atI [V.int x, V.int y] k = some (V.int z) /\ (z = x ∨ z = y) := by
  have : k = 0 ∨ k = 1 := by omega
  rcases this with rfl | rfl
  · exact ⟨x, rfl, .inl rfl⟩
  · exact ⟨y, rfl, .inr rfl⟩
theorem three_of {x y w k : Int} (h0 : 0 ≤ k) (h1 : k < 3) : ∃ z, atI [V.int x, V.int y, V.int w] k = some (V.int z) /\ (z = x ∨ z = y ∨ z = w) := by
  have : k = 0 ∨ k = 1 ∨ k = 2 := by omega
  rcases this with rfl | rfl | rfl
  · exact ⟨x, rfl, .inl rfl⟩
  · exact ⟨y, rfl, .inr (.inl rfl)⟩
  · exact ⟨w, rfl, .inr (.inr rfl)⟩
theorem ints_at {ds : List Int} {k : Int} (h0 : 0 ≤ k) (h1 : k < (ds.length : Int)) : ∃ z, atI (ds.map V.int) k = some (V.int z) /\ z ∈ ds := by
  obtain ⟨j, rfl⟩ : ∃ j : Nat, k = (j : Int) := ⟨k.toNat, by omega⟩
  have hj : j < ds.length := by omega
  exact ⟨ds[j], atI_nat (by rw [List.getElem?_map, List.getElem?_eq_getElem hj]; rfl), List.getElem_mem hj⟩
theorem ex8 {xs : List Int} (h : xs.length = 8) : ∃ a b c d e f g i, xs = [a, b, c, d, e, f, g, i] := by
  match xs, h with
  | [a, b, c, d, e, f, g, i], _ => exact ⟨_, _, _, _, _, _, _, _, rfl⟩
theorem ex6 {xs : List Int} (h : xs.length = 6) : ∃ a b c d e f, xs = [a, b, c, d, e, f] := by
  match xs, h with
  | [a, b, c, d, e, f], _ => exact ⟨_, _, _, _, _, _, rfl⟩
theorem cut_ints (ns : List Int) (lo hi : Option Int) : ∃ cs : List Int, cutV (ns.map V.int) lo hi = cs.map V.int /\ cs.length ≤ ns.length := by
  unfold cutV
  refine ⟨(ns.drop (HT.sIx (ns.map V.int).length 0 lo)).take (HT.sIx (ns.map V.int).length (ns.map V.int).length hi - HT.sIx (ns.map V.int).length 0 lo), by rw [List.map_take, List.map_drop], ?_⟩
  rw [List.length_take, List.length_drop]; omega
theorem nd_mapR {f : Nat->Int} {n : Nat} (h : ∀ x y, x < n->y < n->f x = f y->x = y) : ((List.range n).map f).Nodup := by
  induction n with
  | zero => exact List.nodup_nil
  | succ n ih =>
    rw [List.range_succ, List.map_append, List.nodup_append]
    refine ⟨ih fun x y hx hy => h x y (by omega) (by omega), by simp, fun a ha b hb e => ?_⟩
    obtain ⟨x, hx, rfl⟩ := List.mem_map.mp ha
    have hb : b = f n := by simpa using hb
    have := h x n (by have := List.mem_range.mp hx; omega) (by omega) (by rw [e, hb])
    have := List.mem_range.mp hx
    omega
theorem co307 : ∀ m : Fin 307, 0 < m.val->Nat.gcd 307 m.val = 1 := by decide +kernel
theorem num_inj {x y : Nat} {m s : Int} (hx : x < 200) (hy : y < 200) (hm : 1 ≤ m /\ m ≤ 306) (hs : s = 1 ∨ s = 3000000) (e : ((x : Int) + 1) * m % 307 * s = ((y : Int) + 1) * m % 307 * s) : x = y := by
  have e1 : ((x : Int) + 1) * m % 307 = ((y : Int) + 1) * m % 307 := by
    rcases hs with rfl | rfl
    · simpa using e
    · omega
  have e2 : (((x : Int) + 1) * m - ((y : Int) + 1) * m) % 307 = 0 := Int.emod_eq_emod_iff_emod_sub_eq_zero.mp e1
  have e3 : (307 : Int) ∣ ((x : Int) - (y : Int)) * m := by
    have := Int.dvd_of_emod_eq_zero e2
    rwa [show ((x : Int) + 1) * m - ((y : Int) + 1) * m = ((x : Int) - (y : Int)) * m by rw [← Int.sub_mul]; congr 1; omega] at this
  have e4 : 307 ∣ ((x : Int) - (y : Int)).natAbs * m.natAbs := by
    have := Int.natAbs_dvd_natAbs.mpr e3
    rwa [Int.natAbs_mul] at this
  have hc : Nat.Coprime 307 m.natAbs := co307 ⟨m.natAbs, by omega⟩ (by show 0 < m.natAbs; omega)
  have e5 := hc.dvd_of_dvd_mul_right e4
  have : ((x : Int) - (y : Int)).natAbs = 0 := by
    rcases Nat.eq_zero_or_pos ((x : Int) - (y : Int)).natAbs with h | h
    · exact h
    · have := Nat.le_of_dvd h e5; omega
  omega
def rowT (r : Int × List Int) : List Int := r.1 :: r.2
def priO (rws : List (Int × List Int)) (d : Int) : Option (List Int) := (rws.find? fun r => decide (r.1 = d)).map (·.2)
def risesB (ds : List Int) : Bool := decide (ds.Pairwise (· < ·)) && ds.all fun d => decide (0 ≤ d)
def pri0 (P : Int->Option (List Int)) (d : Int) : Option (List Int) := if d = -1 then some [0, 0, 0] else P d
def legB (P : Int->Option (List Int)) (g : Leg) : Bool := match P g.start with
  | none => true
  | some p => match P g.to with
    | none => false
    | some q => !HT.lexLt (overT p g) q
def goP (legs : List Leg) : Int->List Int->List Int->Option (Int × List Int)
  | at', p, [] => some (at', p)
  | at', p, n :: r => match legs.find? fun g => decide (g.num = n) with
    | none => none
    | some g => if g.start = at' then goP legs g.to (overT p g) r else none
def powB (legs : List Leg) (ws : List Int) (day : Int) : Option (List Int) := match goP legs (-1) [0, 0, 0] ws with
  | none => none
  | some (a, p) => if a = day then some p else none
def endB (legs : List Leg) (P : Int->Option (List Int)) (day : Int) : Option (List Int)->Bool
  | none => (P day).isNone
  | some ws => match P day with
    | none => false
    | some q => decide (powB legs ws day = some q)
def holdsB (legs : List Leg) (day : Int) (way : Option (List Int)) (rws : List (Int × List Int)) : Bool :=
  risesB (rws.map (·.1)) && (legs.all (legB (pri0 (priO rws))) && endB legs (priO rws) day way)
def WayAt (H : Hp) (v : V) : Option (List Int)->Prop
  | none => v = .non
  | some ws => ∃ w, v = .ref w /\ H w = some (.lst (ws.map V.int))
structure RowsP (H : Hp) (RV : List V) (rws : List (Int × List Int)) : Prop where
  keys : KeysAt true H RV (rws.map rowT)
  pr : ∀ r ∈ rws, IsPr r.2
  len : rws.length ≤ 60
theorem RowsP.mono {H H' : Hp} {RV : List V} {rws : List (Int × List Int)} (h : RowsP H RV rws) (m : ∀ t xs, H t = some (.tup xs)->H' t = some (.tup xs)) : RowsP H' RV rws := ⟨h.keys.mono m, h.pr, h.len⟩
structure LegsP (H : Hp) (LV : List V) (legs : List Leg) : Prop where
  keys : KeysAt true H LV (legs.map legT)
  ok : ∀ g ∈ legs, LegOk g
  len : legs.length ≤ 500
  nod : (legs.map Leg.num).Nodup
theorem LegsP.mono {H H' : Hp} {LV : List V} {legs : List Leg} (h : LegsP H LV legs) (m : ∀ t xs, H t = some (.tup xs)->H' t = some (.tup xs)) : LegsP H' LV legs := ⟨h.keys.mono m, h.ok, h.len, h.nod⟩
def sp_rise : Sp := fun vs H Q _ => ∃ (rl : Addr) (RV : List V) (rws : List (Int × List Int)), vs = [.ref rl] /\ H rl = some (.lst RV) /\ RowsP H RV rws /\ ∀ H', Same H H'->Q (.bl (risesB (rws.map (·.1)))) H'
def sp_legh : Sp := fun vs H Q _ => ∃ (pd b : Addr) (kvs : List (Key × V)) (P : Int->Option (List Int)) (g : Leg), vs = [.ref pd, .ref b] /\ H pd = some (.dK kvs) /\ PrAt H kvs (dropP P (-1)) /\ P (-1) = some [0, 0, 0] /\ (∀ d q, P d = some q->IsPr q) /\ H b = some (.tup ((legT g).map V.int)) /\ LegOk g /\ ∀ H', Same H H'->Q (.bl (legB P g)) H'
def sp_pow : Sp := fun vs H Q _ => ∃ (a w : Addr) (LV : List V) (legs : List Leg) (ws : List Int) (day : Int), vs = [.ref a, .ref w, .int day] /\ H a = some (.lst LV) /\ LegsP H LV legs /\ H w = some (.lst (ws.map V.int)) ∧
  (powB legs ws day = none->∀ H', Same H H'->Q .non H') /\ ∀ p, powB legs ws day = some p->∀ t H', H' t = some (.tup (p.map V.int))->Same H H'->Q (.ref t) H'
def sp_holds : Sp := fun vs H Q _ => ∃ (a t rl : Addr) (v : V) (LV RV : List V) (legs : List Leg) (day : Int) (way : Option (List Int)) (rws : List (Int × List Int)), vs = [.ref a, .int day, .ref t] /\ H a = some (.lst LV) /\ LegsP H LV legs /\ H t = some (.tup [v, .ref rl]) /\ WayAt H v way /\ H rl = some (.lst RV) /\ RowsP H RV rws ∧
  ∀ H', Same H H'->Q (.bl (holdsB legs day way rws)) H'
theorem key_row {H : Hp} {RV : List V} {rws : List (Int × List Int)} (h : RowsP H RV rws) {i : Nat} {v : V} (hi : RV[i]? = some v) : ∃ (t : Addr) (d b c : Int) (n : Nat), v = .ref t /\ rws[i]? = some (d, [b, c, (n : Int)]) /\ H t = some (.tup [.int d, .int b, .int c, .int (n : Int)]) := by
  have hil := (List.getElem?_eq_some_iff.mp hi).1
  have hl := h.keys.len
  rw [List.length_map] at hl
  have hr : rws[i]? = some rws[i] := List.getElem?_eq_getElem (by omega)
  obtain ⟨t, e, ht⟩ := key_tup (h.keys.get i v (rowT rws[i]) hi (by rw [List.getElem?_map, hr]; rfl))
  obtain ⟨b, c, n, e2⟩ := h.pr rws[i] (List.getElem_mem (by omega))
  have e3 : rws[i] = (rws[i].1, [b, c, (n : Int)]) := Prod.ext rfl e2
  refine ⟨t, rws[i].1, b, c, n, e, by rw [hr]; exact congrArg some e3, ?_⟩
  rw [ht]; unfold rowT; rw [e2]; rfl
theorem key_leg {H : Hp} {LV : List V} {legs : List Leg} (h : KeysAt true H LV (legs.map legT)) {i : Nat} {v : V} (hi : LV[i]? = some v) : ∃ (t : Addr) (g : Leg), v = .ref t /\ legs[i]? = some g /\ H t = some (.tup ((legT g).map V.int)) := by
  have hil := (List.getElem?_eq_some_iff.mp hi).1
  have hl := h.len
  rw [List.length_map] at hl
  have hr : legs[i]? = some legs[i] := List.getElem?_eq_getElem (by omega)
  obtain ⟨t, e, ht⟩ := key_tup (h.get i v (legT legs[i]) hi (by rw [List.getElem?_map, hr]; rfl))
  exact ⟨t, _, e, hr, ht⟩
theorem leg_get {P : Int->Option (List Int)} {g : Leg} (hto : g.to ≠ -1) : dropP P (-1) g.to = P g.to := if_neg hto
theorem merge_otherR : ∀ (ls : List (Int × V)) (acc : List (Key × V)) (k : Int), k ∉ ls.map (·.1)->valV (mergeK acc (ls.map fun x => ((Sum.inl x.1 : Key), x.2))) (Sum.inl k) = valV acc (Sum.inl k)
  | [], _, _, _ => rfl
  | g :: r, acc, k, h => by
    simp only [List.map_cons, List.mem_cons, not_or] at h
    show valV (mergeK (putK acc (Sum.inl g.1) g.2) (r.map fun x => ((Sum.inl x.1 : Key), x.2))) (Sum.inl k) = _
    rw [merge_otherR r _ k h.2, valV_put, if_neg (fun z => h.1 (Sum.inl.inj z))]
theorem merge_valR : ∀ (ls : List (Int × V)) (acc : List (Key × V)), (ls.map (·.1)).Nodup->∀ x ∈ ls, valV (mergeK acc (ls.map fun x => ((Sum.inl x.1 : Key), x.2))) (Sum.inl x.1) = some x.2
  | g0 :: r, acc, hn, g, hg => by
    rw [List.map_cons, List.nodup_cons] at hn
    show valV (mergeK (putK acc (Sum.inl g0.1) g0.2) (r.map fun x => ((Sum.inl x.1 : Key), x.2))) (Sum.inl g.1) = _
    rcases List.mem_cons.mp hg with e | hg
    · subst e
      rw [merge_otherR r _ _ hn.1, valV_put, if_pos rfl]
    · exact merge_valR r _ hn.2 g hg
theorem merge_ndR : ∀ (ls : List (Int × V)) (acc : List (Key × V)), (acc.map (·.1)).Nodup->AllI acc->((mergeK acc (ls.map fun x => ((Sum.inl x.1 : Key), x.2))).map (·.1)).Nodup /\ AllI (mergeK acc (ls.map fun x => ((Sum.inl x.1 : Key), x.2)))
  | [], acc, h, ha => ⟨h, ha⟩
  | g :: r, acc, h, ha => merge_ndR r (putK acc (Sum.inl g.1) g.2) (nd_put _ h) (ha.put _ _)
theorem find_num {legs : List Leg} (hn : (legs.map Leg.num).Nodup) {g : Leg} (hg : g ∈ legs) : legs.find? (fun x => decide (x.num = g.num)) = some g := by
  cases e : legs.find? (fun x => decide (x.num = g.num)) with
  | none => exact absurd (List.find?_eq_none.mp e g hg) (by simp)
  | some x =>
    have h1 : decide (x.num = g.num) = true := List.find?_some (p := fun x : Leg => decide (x.num = g.num)) e
    have h2 := List.mem_of_find?_eq_some e
    rw [nd_inj hn h2 hg (of_decide_eq_true h1)]
theorem pw_nd : ∀ {l : List Int}, l.Pairwise (· < ·)->l.Nodup := fun h => h.imp fun h => by omega
theorem priO_mem {rws : List (Int × List Int)} (hn : (rws.map (·.1)).Nodup) {r : Int × List Int} (hr : r ∈ rws) : priO rws r.1 = some r.2 := by
  unfold priO
  cases e : rws.find? (fun x => decide (x.1 = r.1)) with
  | none => exact absurd (List.find?_eq_none.mp e r hr) (by simp)
  | some x =>
    have h1 : x.1 = r.1 := of_decide_eq_true (List.find?_some (p := fun x : Int × List Int => decide (x.1 = r.1)) e)
    have h2 := List.mem_of_find?_eq_some e
    have : x = r := by
      obtain ⟨i, hi, ei⟩ := List.mem_iff_getElem.mp h2
      obtain ⟨j, hj, ej⟩ := List.mem_iff_getElem.mp hr
      have hij : i = j := (List.getElem_inj (h₀ := by simpa using hi) (h₁ := by simpa using hj) hn).mp (by simp [ei, ej, h1])
      subst hij
      rw [← ei, ej]
    rw [this]; rfl
theorem priO_none {rws : List (Int × List Int)} {d : Int} (h : d ∉ rws.map (·.1)) : priO rws d = none := by
  unfold priO
  rw [List.find?_eq_none.mpr fun r hr => ?_]
  · rfl
  · have : r.1 ≠ d := fun e => h (List.mem_map.mpr ⟨r, hr, e⟩)
    simpa using this
theorem priO_some {rws : List (Int × List Int)} {d : Int} {q : List Int} (h : priO rws d = some q) : (d, q) ∈ rws := by
  unfold priO at h
  obtain ⟨r, hr, rfl⟩ := Option.map_eq_some_iff.mp h
  have h1 : r.1 = d := of_decide_eq_true (List.find?_some (p := fun r : Int × List Int => decide (r.1 = d)) hr)
  have h2 := List.mem_of_find?_eq_some hr
  rw [← h1]; exact h2
theorem dd_len (ns : List Int) : (dd ns).length ≤ ns.length := nd_len (dedup_nodup _ _) fun x hx => dd_mem.mp hx
theorem seq_ifTP {c : TT} {t u R : TS} {D : Ends} {σ : St} {H : Hp} (P : Hp->Prop) (hc : ∀ Q : Bool->Hp->Prop, (∀ H', P H'->Q true H')->c σ H Q) (h : ∀ H', P H'->t { D with nx := R D } σ H') : tSeq (tIfS c t u) R D σ H := hc _ fun H' p => iteT (h H' p)
def numD (LV : List V) (legs : List Leg) : List (Key × V) := mergeK [] (((legs.zip LV).map fun x => (x.1.num, x.2)).map fun x => ((Sum.inl x.1 : Key), x.2))
theorem numD_keys {H : Hp} {LV : List V} {legs : List Leg} (LG : LegsP H LV legs) : ((legs.zip LV).map fun x => (x.1.num, x.2)).map (·.1) = legs.map Leg.num := by
  have hl := LG.keys.len
  rw [List.length_map] at hl
  rw [List.map_map, show ((fun x : Int × V => x.1) ∘ fun x : Leg × V => (x.1.num, x.2)) = Leg.num ∘ Prod.fst from rfl, ← List.map_map, List.map_fst_zip (by omega)]
theorem numD_some {H : Hp} {LV : List V} {legs : List Leg} (LG : LegsP H LV legs) {g : Leg} (hg : g ∈ legs) : ∃ b, valV (numD LV legs) (Sum.inl g.num) = some (.ref b) /\ H b = some (.tup ((legT g).map V.int)) := by
  obtain ⟨i, hi⟩ := List.mem_iff_getElem?.mp hg
  have hil := (List.getElem?_eq_some_iff.mp hi).1
  have hl := LG.keys.len
  rw [List.length_map] at hl
  have hv : LV[i]? = some LV[i] := List.getElem?_eq_getElem (by omega)
  obtain ⟨b, g', e, hg', hb⟩ := key_leg LG.keys hv
  rw [hi] at hg'
  cases hg'
  refine ⟨b, ?_, hb⟩
  have hm : (g.num, V.ref b) ∈ (legs.zip LV).map fun x => (x.1.num, x.2) := List.mem_map.mpr ⟨(g, V.ref b), List.mem_of_getElem? (i := i) (List.getElem?_zip_eq_some.mpr ⟨hi, by rw [hv, e]⟩), rfl⟩
  exact merge_valR _ [] (by rw [numD_keys LG]; exact LG.nod) _ hm
theorem numD_none {H : Hp} {LV : List V} {legs : List Leg} (LG : LegsP H LV legs) {n : Int} (h : n ∉ legs.map Leg.num) : valV (numD LV legs) (Sum.inl n) = none :=
  merge_otherR _ [] n (by rw [numD_keys LG]; exact h)
theorem find_none {legs : List Leg} {n : Int} (h : legs.find? (fun g => decide (g.num = n)) = none) : n ∉ legs.map Leg.num := fun hm => by
  obtain ⟨g, hg, e⟩ := List.mem_map.mp hm
  exact absurd (List.find?_eq_none.mp h g hg) (by simp [e])
theorem find_some {legs : List Leg} {n : Int} {g : Leg} (h : legs.find? (fun g => decide (g.num = n)) = some g) : g ∈ legs /\ g.num = n := ⟨List.mem_of_find?_eq_some h, of_decide_eq_true (List.find?_some (p := fun g : Leg => decide (g.num = n)) h)⟩
theorem goP_app (legs : List Leg) : ∀ (l : List Int) (a : Int) (p : List Int) (r : List Int), goP legs a p (l ++ r) = (goP legs a p l).bind fun x => goP legs x.1 x.2 r
  | [], a, p, r => rfl
  | n :: l, a, p, r => by
    show (match legs.find? fun g => decide (g.num = n) with | none => none | some g => if g.start = a then goP legs g.to (overT p g) (l ++ r) else none) = _
    show _ = Option.bind (match legs.find? fun g => decide (g.num = n) with | none => none | some g => if g.start = a then goP legs g.to (overT p g) l else none) _
    cases legs.find? fun g => decide (g.num = n) with
    | none => rfl
    | some g =>
      dsimp only
      by_cases h : g.start = a
      · rw [if_pos h, if_pos h]; exact goP_app legs l _ _ r
      · rw [if_neg h, if_neg h]; rfl
theorem goP_one (legs : List Leg) (a n : Int) (p : List Int) : goP legs a p [n] = match legs.find? fun g => decide (g.num = n) with | none => none | some g => if g.start = a then some (g.to, overT p g) else none := by
  show (match legs.find? fun g => decide (g.num = n) with | none => none | some g => if g.start = a then goP legs g.to (overT p g) [] else none) = _
  rfl
theorem goP_stop {legs : List Leg} {ws : List Int} {i : Nat} {n a : Int} {p : List Int} (hn : ws[i]? = some n) (h : goP legs (-1) [0, 0, 0] (ws.take i) = some (a, p)) (h1 : goP legs a p [n] = none) : goP legs (-1) [0, 0, 0] ws = none := by
  have e : ws = ws.take i ++ ([n] ++ ws.drop (i + 1)) := by
    have h2 := (List.getElem?_eq_some_iff.mp hn)
    rw [← List.append_assoc, ← show ws.take (i + 1) = ws.take i ++ [n] by rw [List.take_add_one, hn]; rfl, List.take_append_drop]
  rw [e, goP_app, h]
  show goP legs a p ([n] ++ ws.drop (i + 1)) = none
  rw [goP_app, h1]; rfl
theorem goP_go {legs : List Leg} {ws : List Int} {i : Nat} {n a : Int} {p : List Int} {g : Leg} (hn : ws[i]? = some n) (h : goP legs (-1) [0, 0, 0] (ws.take i) = some (a, p)) (hf : legs.find? (fun g => decide (g.num = n)) = some g) (hs : g.start = a) : goP legs (-1) [0, 0, 0] (ws.take (i + 1)) = some (g.to, overT p g) := by
  rw [List.take_add_one, hn, show (some n).toList = [n] from rfl, goP_app, h]
  show goP legs a p [n] = _
  rw [goP_one, hf]
  show (if g.start = a then some (g.to, overT p g) else none) = _
  rw [if_pos hs]
theorem prAt_merge {H : Hp} {ps : List (Int × V)} {rws : List (Int × List Int)} (hl : ps.length = rws.length) (hp : ∀ (j : Nat) d q, rws[j]? = some (d, q)->∃ u, ps[j]? = some (d, V.ref u) /\ H u = some (.tup (q.map V.int))) (hn : (rws.map (·.1)).Nodup) :
    PrAt H (mergeK [] (ps.map fun x => ((Sum.inl x.1 : Key), x.2))) (priO rws) := by
  have hk : ps.map (·.1) = rws.map (·.1) := by
    refine List.ext_getElem? fun j => ?_
    rw [List.getElem?_map, List.getElem?_map]
    cases e : rws[j]? with
    | none =>
      have := List.getElem?_eq_none_iff.mp e
      rw [List.getElem?_eq_none (by omega)]; rfl
    | some r =>
      obtain ⟨u, h1, _⟩ := hp j r.1 r.2 e
      rw [h1]; rfl
  obtain ⟨h1, h2⟩ := merge_ndR ps [] List.nodup_nil AllI.nil
  refine ⟨h1, h2, fun d => ?_⟩
  by_cases hd : d ∈ rws.map (·.1)
  · obtain ⟨r, hr, rfl⟩ := List.mem_map.mp hd
    obtain ⟨j, hj⟩ := List.mem_iff_getElem?.mp hr
    obtain ⟨u, h3, h4⟩ := hp j r.1 r.2 hj
    rw [merge_valR ps [] (by rw [hk]; exact hn) _ (List.mem_of_getElem? h3), priO_mem hn hr]
    exact ⟨u, rfl, h4⟩
  · rw [merge_otherR ps [] d (by rw [hk]; exact hd), priO_none hd]
    exact trivial
theorem rises_pos {rws : List (Int × List Int)} (h : risesB (rws.map (·.1)) = true) : (rws.map (·.1)).Pairwise (· < ·) /\ ∀ r ∈ rws, 0 ≤ r.1 := by
  unfold risesB at h
  rw [Bool.and_eq_true] at h
  exact ⟨of_decide_eq_true h.1, fun r hr => of_decide_eq_true (List.all_eq_true.mp h.2 r.1 (List.mem_map.mpr ⟨r, hr, rfl⟩))⟩
theorem priO_neg {rws : List (Int × List Int)} (h : ∀ r ∈ rws, 0 ≤ r.1) : priO rws (-1) = none := priO_none fun hm => by
  obtain ⟨r, hr, e⟩ := List.mem_map.mp hm
  have := h r hr; omega
theorem drop_pri0 {P : Int->Option (List Int)} (h : P (-1) = none) : dropP (pri0 P) (-1) = P := by
  funext d
  unfold pri0 dropP
  by_cases e : d = -1
  · rw [if_pos e, e, h]
  · rw [if_neg e]; exact if_neg e
theorem priO_pr {rws : List (Int × List Int)} (h : ∀ r ∈ rws, IsPr r.2) : ∀ d q, pri0 (priO rws) d = some q->IsPr q := fun d q e => by
  unfold pri0 at e
  by_cases hd : d = -1
  · rw [if_pos hd] at e; cases e; exact ⟨0, 0, 0, rfl⟩
  · rw [if_neg hd] at e; exact h _ (priO_some e)
theorem if_noP {c : TT} {t : TS} {D : Ends} {σ : St} {H : Hp} (P : Hp->Prop) (hc : ∀ Q : Bool->Hp->Prop, (∀ H', P H'->Q false H')->c σ H Q) (h : ∀ H', P H'->D.nx σ H') : tIfS c t tNext D σ H := hc _ fun H' p => iteF (h H' p)
theorem alli_keys {kvs : List (Key × V)} (h : AllI kvs) : ∃ ks : List Int, kvs.map (·.1) = ks.map Sum.inl := by
  induction kvs with
  | nil => exact ⟨[], rfl⟩
  | cons kv r ih =>
    obtain ⟨n, hn⟩ := h kv (by simp)
    obtain ⟨ks, hk⟩ := ih fun x hx => h x (by simp [hx])
    exact ⟨n :: ks, by rw [List.map_cons, hn, hk]; rfl⟩
theorem nodup_of_map {ks : List Int} (h : (ks.map (Sum.inl : Int->Key)).Nodup) : ks.Nodup := by
  induction ks with
  | nil => exact List.nodup_nil
  | cons k r ih =>
    rw [List.map_cons, List.nodup_cons] at h
    rw [List.nodup_cons]
    exact ⟨fun hm => h.1 (List.mem_map.mpr ⟨k, hm, rfl⟩), ih h.2⟩
theorem priO_snoc {l : List (Int × List Int)} {d : Int} {p : List Int} (h : d ∉ l.map (·.1)) (k : Int) : priO (l ++ [(d, p)]) k = if k = d then some p else priO l k := by
  unfold priO
  rw [List.find?_append]
  by_cases e : k = d
  · subst e
    rw [if_pos rfl]
    have := priO_none h
    unfold priO at this
    rw [Option.map_eq_none_iff.mp this]
    simp
  · rw [if_neg e]
    cases l.find? (fun r => decide (r.1 = k)) with
    | none => simp; omega
    | some r => rfl
def sp_known : Sp := fun vs H Q _ => ∃ (ll : Addr) (LV : List V) (legs : List Leg) (P : Int->Option (List Int)), vs = [.ref ll] /\ H ll = some (.lst LV) /\ LegsP H LV legs /\ Least legs P ∧
  ∀ d kvs H', H' d = some (.dK kvs)->PrAt H' kvs P->H d = none->Same H H'->Q (.ref d) H'
def sp_walk : Sp := fun vs H Q _ => ∃ (ll cl : Addr) (LV : List V) (legs : List Leg) (xs : List Int), vs = [.ref ll, .ref cl] /\ H ll = some (.lst LV) /\ LegsP H LV legs /\ H cl = some (.lst (xs.map V.int)) /\ xs.length ≤ 63 ∧
  ∀ r w t ws here p H', H' r = some (.lst [.ref w, .int here, .ref t])->H' w = some (.lst (ws.map V.int))->H' t = some (.tup (p.map V.int))->goP legs (-1) [0, 0, 0] ws = some (here, p)->IsPr p->(ws ≠ []->∃ g ∈ legs, g.to = here)->ws.length ≤ 63->H r = none->H w = none->Same H H'->Q (.ref r) H'
theorem if_yesP {c : TT} {t u : TS} {D : Ends} {σ : St} {H : Hp} (P : Hp->Prop) (hc : ∀ Q : Bool->Hp->Prop, (∀ H', P H'->Q true H')->c σ H Q) (h : ∀ H', P H'->t D σ H') : tIfS c t u D σ H := hc _ fun H' p => iteT (h H' p)
def sp_lway : Sp := fun vs H Q _ => ∃ (ll kd : Addr) (LV : List V) (legs : List Leg) (kvs : List (Key × V)) (P : Int->Option (List Int)) (day : Int), vs = [.ref ll, .ref kd, .int day] /\ H ll = some (.lst LV) /\ LegsP H LV legs /\ H kd = some (.dK kvs) /\ PrAt H kvs P /\ Least legs P /\ (P day).isSome = true /\ day ≠ -1 ∧
  ∀ w ws H', H' w = some (.lst (ws.map V.int))->ws ≠ []->ws.length ≤ legs.length->H w = none->Same H H'->Q (.ref w) H'
def sp_less : Sp := fun vs H Q _ => ∃ (t : Addr) (p : List Int) (n : Int), vs = [.ref t, .int n] /\ H t = some (.tup (p.map V.int)) /\ IsPr p /\ ∀ u p' H', H' u = some (.tup (p'.map V.int))->IsPr p'->Same H H'->Q (.ref u) H'
def Ten (H : Hp) (l : Addr) (xs : List Int) : Prop := H l = some (.lst (xs.map V.int)) /\ xs.length = 10
structure ToldP (H : Hp) (tk : List (Key × V)) (L : List Int) : Prop where
  ex : ∃ T : Int->Option (List Int), PrAt H tk T /\ (∀ d q, T d = some q->IsPr q) /\ ∀ d, (T d).isSome = true->d ∈ L
def sp_ptold : Sp := fun vs H Q _ => ∃ (dl kd xl : Addr) (ds xs : List Int) (kvs : List (Key × V)) (P : Int->Option (List Int)), vs = [.ref dl, .ref kd, .ref xl] /\ H dl = some (.lst (ds.map V.int)) /\ 2 ≤ ds.length /\ ds.length ≤ 30 /\ H kd = some (.dK kvs) /\ PrAt H kvs P /\ (∀ d q, P d = some q->IsPr q) /\ Ten H xl xs ∧
  ∀ td tk L H', H' td = some (.dK tk)->ToldP H' tk L->L.length ≤ 32->H td = none->Same H H'->Q (.ref td) H'
def sp_turn : Sp := fun vs H Q _ => ∃ (rl xl : Addr) (RV : List V) (rws : List (Int × List Int)) (xs : List Int), vs = [.ref rl, .ref xl] /\ H rl = some (.lst RV) /\ RowsP H RV rws /\ rws.length ≤ 40 /\ Ten H xl xs ∧
  ∀ r2 RV2 rws2 H', H' r2 = some (.lst RV2)->RowsP H' RV2 rws2->Same H H'->Q (.ref r2) H'
def sp_lpaper : Sp := fun vs H Q _ => ∃ (ll dl kd xl : Addr) (LV : List V) (legs : List Leg) (ds xs : List Int) (kvs : List (Key × V)) (P : Int->Option (List Int)), vs = [.ref ll, .ref dl, .ref kd, .ref xl] /\ H ll = some (.lst LV) /\ LegsP H LV legs /\ H dl = some (.lst (ds.map V.int)) /\ DaysOk ds /\ H kd = some (.dK kvs) /\ PrAt H kvs P /\ Least legs P /\ Ten H xl xs ∧
  ∀ r day v way rl RV rws H', H' r = some (.lst [.int day, v, .ref rl])->0 ≤ day->WayAt H' v way->H' rl = some (.lst RV)->RowsP H' RV rws->Same H H'->Q (.ref r) H'
def sp_ldue : Sp := fun vs H Q _ => ∃ (ll rl : Addr) (v : V) (LV RV : List V) (legs : List Leg) (day : Int) (way : Option (List Int)) (rws : List (Int × List Int)), vs = [.ref ll, .int day, v, .ref rl] /\ H ll = some (.lst LV) /\ LegsP H LV legs /\ day ≠ -1 /\ WayAt H v way /\ H rl = some (.lst RV) /\ RowsP H RV rws ∧
  ∀ H', Same H H'->Q (.bl (holdsB legs day way rws)) H'
def sp_law (K : PySem.W.Frag) : Sp := fun vs H Q _ => ∃ (a : Addr) (ns : List Int), vs = [.ref a] /\ SqL K H a (ns.map V.int) /\ ns.length ≤ 63 /\ ∀ H', Q (.bl true) H'
theorem rowsP_of {H : Hp} : ∀ {L : List V}, (∀ v ∈ L, ∃ (t : Addr) (d b c : Int) (n : Nat), v = .ref t /\ H t = some (.tup [.int d, .int b, .int c, .int (n : Int)]))->L.length ≤ 60->∃ rws, RowsP H L rws
  | [], _, _ => ⟨[], KeysAt.nil, fun r hr => (by cases hr), by simp⟩
  | v :: L, h, hl => by
    simp only [List.length_cons] at hl
    obtain ⟨rws, k⟩ := rowsP_of (L := L) (fun v hv => h v (by simp [hv])) (by omega)
    obtain ⟨t, d, b, c, n, rfl, ht⟩ := h v (by simp)
    have hkl := k.keys.len
    rw [List.length_map] at hkl
    refine ⟨(d, [b, c, (n : Int)]) :: rws, ⟨?_, ?_⟩, ?_, by simp; omega⟩
    · simp [hkl]
    · intro i x ks e1 e2
      cases i with
      | zero =>
        cases e1
        cases e2
        exact ⟨t, rfl, ht⟩
      | succ i => exact k.keys.get i x ks (by simpa using e1) (by simpa using e2)
    · intro r hr
      rcases List.mem_cons.mp hr with e | hr
      · rw [e]; exact ⟨b, c, n, rfl⟩
      · exact k.pr r hr
theorem rowsP_mem {H : Hp} {RV : List V} {rws : List (Int × List Int)} (h : RowsP H RV rws) : ∀ v ∈ RV, ∃ (t : Addr) (d b c : Int) (n : Nat), v = .ref t /\ H t = some (.tup [.int d, .int b, .int c, .int (n : Int)]) := fun v hv => by
  obtain ⟨i, hi⟩ := List.mem_iff_getElem?.mp hv
  obtain ⟨t, d, b, c, n, e, _, ht⟩ := key_row h hi
  exact ⟨t, d, b, c, n, e, ht⟩
theorem cutV_mem {xs : List V} {lo hi : Option Int} : ∀ v ∈ cutV xs lo hi, v ∈ xs := fun v hv => by
  unfold cutV at hv
  exact List.mem_of_mem_drop (List.mem_of_mem_take hv)
theorem ten_at {H : Hp} {l : Addr} {xs : List Int} (h : Ten H l xs) (k : Nat) (hk : k < 10) : ∃ x, atI (xs.map V.int) (k : Int) = some (V.int x) := by
  have : k < xs.length := by rw [h.2]; exact hk
  exact ⟨xs[k], atI_nat (by rw [List.getElem?_map, List.getElem?_eq_getElem this]; rfl)⟩
theorem cut_pre (xs : List V) (j : Nat) : (cutV xs none (some (j : Int))).length ≤ min j xs.length := by
  unfold cutV
  rw [HT.sIx_nat, HT.sIx_none, List.length_take, List.length_drop]; omega
theorem cut_post (xs : List V) (j : Nat) : (cutV xs (some (j : Int)) none).length ≤ xs.length - min j xs.length := by
  unfold cutV
  rw [HT.sIx_nat, HT.sIx_none, List.length_take, List.length_drop]; omega
theorem cut_one (xs : List V) (j : Nat) : (cutV xs (some (j : Int)) (some ((j + 1 : Nat) : Int))).length ≤ 1 := by
  unfold cutV
  rw [HT.sIx_nat, HT.sIx_nat, List.length_take, List.length_drop]; omega
theorem at_head (y : V) (ys : List V) : atI (y :: ys) 0 = some y := atI_nat (j := 0) (xs := y :: ys) (v := y) rfl
theorem ToldP.len {H : Hp} {tk : List (Key × V)} {L : List Int} (h : ToldP H tk L) : tk.length ≤ L.length := by
  obtain ⟨T, R, _, hd⟩ := h.ex
  obtain ⟨ks, hk⟩ := alli_keys R.alli
  have hn : ks.Nodup := by have := R.nd; rw [hk] at this; exact nodup_of_map this
  have e : tk.length = ks.length := by have := congrArg List.length hk; simpa using this
  rw [e]
  refine nd_len hn fun k hk' => hd k ?_
  rw [← (R.val k).is]
  exact valV_there.mpr (by rw [hk]; exact List.mem_map.mpr ⟨k, hk', rfl⟩)
theorem ToldP.mono {H H' : Hp} {tk : List (Key × V)} {L : List Int} (h : ToldP H tk L) (m : ∀ t xs, H t = some (.tup xs)->H' t = some (.tup xs)) : ToldP H' tk L := by
  obtain ⟨T, R, h1, h2⟩ := h.ex
  exact ⟨T, R.mono m, h1, h2⟩
theorem ToldP.wide {H : Hp} {tk : List (Key × V)} {L L' : List Int} (h : ToldP H tk L) (s : ∀ d ∈ L, d ∈ L') : ToldP H tk L' := by
  obtain ⟨T, R, h1, h2⟩ := h.ex
  exact ⟨T, R, h1, fun d e => s d (h2 d e)⟩
theorem ToldP.put {H : Hp} {tk : List (Key × V)} {L : List Int} (h : ToldP H tk L) {d : Int} (hd : d ∈ L) {u : Addr} {p : List Int} (hu : H u = some (.tup (p.map V.int))) (hp : IsPr p) : ToldP H (putK tk (Sum.inl d) (.ref u)) L := by
  obtain ⟨T, R, h1, h2⟩ := h.ex
  refine ⟨putP T d p, R.putG hu, fun k q e => ?_, fun k e => ?_⟩
  · by_cases ek : k = d
    · rw [ek, putP_self] at e; cases e; exact hp
    · rw [putP_ne ek] at e; exact h1 k q e
  · by_cases ek : k = d
    · rw [ek]; exact hd
    · rw [putP_ne ek] at e; exact h2 k e
theorem ToldP.drop {H : Hp} {tk : List (Key × V)} {L : List Int} (h : ToldP H tk L) (d : Int) : ToldP H (dropK tk (Sum.inl d)) L := by
  obtain ⟨T, R, h1, h2⟩ := h.ex
  refine ⟨dropP T d, R.drop d, fun k q e => ?_, fun k e => ?_⟩
  · unfold dropP at e
    by_cases ek : k = d
    · rw [if_pos ek] at e; cases e
    · rw [if_neg ek] at e; exact h1 k q e
  · unfold dropP at e
    by_cases ek : k = d
    · rw [if_pos ek] at e; cases e
    · rw [if_neg ek] at e; exact h2 k e
theorem ToldP.nil {H : Hp} {L : List Int} : ToldP H [] L := ⟨_, PrAt.nil, fun d q e => (by cases e), fun d e => (by cases e)⟩
theorem DaysOk.last {ds : List Int} (h : DaysOk ds) : ∃ z, atI (ds.map V.int) (-1) = some (V.int z) /\ z + 1 ∉ ds := by
  obtain ⟨n, low, gap, h1, h2, h3, h4, rfl⟩ := h
  obtain ⟨m, rfl⟩ : ∃ m, n = m + 1 := ⟨n - 1, by omega⟩
  refine ⟨low + gap * (m : Int), ?_, fun hm => ?_⟩
  · rw [List.range_succ, List.map_append, List.map_append]
    exact atI_last _ _
  · obtain ⟨k, hk, e⟩ := List.mem_map.mp hm
    have hk := List.mem_range.mp hk
    have : gap * (k : Int) ≤ gap * (m : Int) := Int.mul_le_mul_of_nonneg_left (by omega) (by omega)
    omega
theorem last_pos {ds : List Int} (hp : ∀ d ∈ ds, 0 ≤ d) {z : Int} (hz : atI (ds.map V.int) (-1) = some (V.int z)) : 0 ≤ z := by
  unfold atI at hz
  obtain ⟨j, _, hj⟩ := Option.bind_eq_some_iff.mp hz
  obtain ⟨y, hy, e⟩ := List.mem_map.mp (List.mem_of_getElem? hj)
  rw [← V.int.inj e]; exact hp y hy
structure Txt (K : PySem.W.Frag) (mg : Str->Option Value) : Prop where
  b_len : mg "len" = none
  b_list : mg "list" = none
  b_tuple : mg "tuple" = none
  b_dict : mg "dict" = none
  b_range : mg "range" = none
  b_sorted : mg "sorted" = none
  b_set : mg "set" = none
  b_all : mg "all" = none
  b_enumerate : mg "enumerate" = none
  b_isinstance : mg "isinstance" = none
  b_int : mg "int" = none
  b_bool : mg "bool" = none
  b_max : mg "max" = none
section
variable {P : Program} {w : World} {K : PySem.W.Frag} {mg : Str->Option Value} {base : Heap}
theorem ok_price_over {f : Addr} {fd : FuncData} (F : Fun K "price_over" "price_over" s_price_over f fd) (T : Txt K mg)  : FnOk P w K mg base (CXx P w) 1 f fd ["price", "leg"] (sp_over) := by
  refine F.okX sc_price_over (fun vs H Q E h => ?_) (fun cdv A outer s H vs Q E hr h => ?_)
  · obtain ⟨a, b, p, g, rfl, hp, ha, hb, q⟩ := h; rfl
  obtain ⟨a, b, p, g, rfl, hp, ha, hb, q⟩ := h
  refine ⟨_, (pss_one (ps_ret (pe_tup (pa_cons (pe_op op_add (pe_ix ix_tup (pv 0) pe_int (fun _ _ => rfl)) (pe_ix ix_tup (pv 1) pe_int (fun _ _ => rfl))) (pa_cons (pe_op op_add (pe_ix ix_tup (pv 0) pe_int (fun _ _ => rfl)) (pe_ix ix_tup (pv 1) pe_int (fun _ _ => rfl))) (pa_cons (pe_op op_add (pe_ix ix_tup (pv 0) pe_int (fun _ _ => rfl)) pe_int) pa_nil)))))), ?_⟩
  obtain ⟨x, y, n, rfl⟩ := hp
  refine ⟨_, rfl, a, _, _, V.int x, rfl, rfl, SqT.of ha, rfl, _, rfl, b, _, _, V.int g.bad, rfl, rfl, SqT.of hb, rfl, _, _, rfl, rfl, ?_⟩
  refine ⟨_, rfl, a, _, _, V.int y, rfl, rfl, SqT.of ha, rfl, _, rfl, b, _, _, V.int g.cost, rfl, rfl, SqT.of hb, rfl, _, _, rfl, rfl, ?_⟩
  refine ⟨_, rfl, a, _, _, V.int (n : Int), rfl, rfl, SqT.of ha, rfl, _, _, rfl, rfl, ?_⟩
  refine ⟨(by show 3 ≤ sizeLine; decide), fun t ht => ?_⟩
  exact q t ht
theorem ok__law_cell_at {f : Addr} {fd : FuncData} (F : Fun K "_law_cell_at" "_law_cell_at" s__law_cell_at f fd) (T : Txt K mg)  : FnOk P w K mg base (CXx P w) 1 f fd ["_law_script", "_law_k"] (sp_cell K) := by
  refine F.okX sc__law_cell_at (fun vs H Q E h => ?_) (fun cdv A outer s H vs Q E hr h => ?_)
  · obtain ⟨a, ns, k, rfl, hS, q⟩ := h; rfl
  obtain ⟨a, ns, k, rfl, hS, q⟩ := h
  refine ⟨_, (pss_cons (ps_if (pt_cmpR op_lt (pv 1) (pe_callB call_len_seq (by rfl) T.b_len PySem.boot_len (pa_cons (pv 0) pa_nil)) (nomark _)) (pss_one (ps_ret (pe_ix ix_list (pv 0) (pv 1) (fun _ _ => rfl)))) pss_nil)
      (pss_one (ps_ret pe_int))), ?_⟩
  refine ⟨_, rfl, _, rfl, a, _, rfl, .inl hS, _, _, rfl, rfl, _, rfl, ?_⟩
  refine ite2 (fun h => ?_) (fun h => ?_)
  · have h : k < ns.length := by simpa using h
    refine ⟨_, rfl, _, rfl, a, _, _, V.int (ns.getD k 0), rfl, rfl, hS, atI_nat ?_, ?_⟩
    · simp [h]
    · have e : cellI ns k = ns.getD k 0 := by unfold cellI; rw [if_pos (by omega)]; rfl
      rw [e] at q; exact q
  · have h : ¬ k < ns.length := by simpa using h
    have e : cellI ns k = 0 := by unfold cellI; rw [if_neg (by omega)]
    rw [e] at q; exact q
theorem ok__law_drawn {f : Addr} {fd : FuncData} (F : Fun K "_law_drawn" "_law_drawn" s__law_drawn f fd) (T : Txt K mg)  : FnOk P w K mg base (CXx P w) 1 f fd ["_law_cell", "_law_many"] (sp_drawn) := by
  refine F.okX sc__law_drawn (fun vs H Q E h => ?_) (fun cdv A outer s H vs Q E hr h => ?_)
  · obtain ⟨c, m, rfl, hm, q⟩ := h; rfl
  obtain ⟨c, m, rfl, hm, q⟩ := h
  refine ⟨_, (pss_cons (ps_set (i := 2) sc__law_drawn.nd rfl (Or.inl rfl) (pe_lst pa_nil))
      (pss_cons (ps_set (i := 3) sc__law_drawn.nd rfl (Or.inl rfl) (pe_op op_add (pe_op op_mod (pv 0) pe_int) pe_int))
      (pss_cons (ps_for PassesOwn.leaving rfl (pi_range1 rfl T.b_range (pa_cons (pv 1) pa_nil)) (pg_name (i := 4) sc__law_drawn.nd rfl (Or.inl rfl))
      (pss_cons (ps_set (i := 3) sc__law_drawn.nd rfl (Or.inl rfl) (pe_op op_mod (pe_op op_add (pe_op op_add (pe_op op_mul (pv 3) (pv 3)) (pe_op op_mul pe_int (pv 3))) (pv 4)) pe_int))
      (pss_one (ps_expr (pe_bm PySem.F.plainAttrs_list PySem.F.slot_list_append PySem.F.type_list_append mt_append (pv 2) (pa_cons (pv 3) pa_nil))))))
      (pss_one (ps_ret (pv 2)))))), ?_⟩
  refine ⟨Nat.zero_le _, fun l hl => ?_⟩
  refine ⟨_, rfl, _, _, rfl, rfl, (by first | decide | (dsimp only; decide)), _, _, rfl, rfl, ?_⟩
  refine ⟨_, rfl, _, rfl, by omega, by omega, for_range (lo := 0) (n := (m : Int).toNat) (fun i σ H2 => ∃ (num : Int) (v4 : Option V) (xs : List Int), σ = [some (.int c), some (.int (m : Int)), some (.ref l), some (.int num), v4] /\ Same H H2 /\ H2 l = some (.lst (xs.map V.int)) /\ xs.length = i /\ (∀ x ∈ xs, 0 ≤ x /\ x < 2147483647) /\ 0 ≤ num /\ num < 2147531918)
    ⟨c % 2147483647 + 48271, none, [], rfl, Same.new hl, upd_same, rfl, by simp, by omega, by omega⟩ ?_ ?_⟩
  · rintro i σ H2 hi ⟨num, v4, xs, rfl, s2, h2, hlx, hx, n0, n1⟩
    refine ⟨_, rfl, _, rfl, _, _, rfl, rfl, .inl ⟨by omega, by omega⟩, _, rfl, _, _, rfl, rfl, .inl ⟨by decide, by decide⟩, _, _, rfl, rfl, _, rfl, _, _, rfl, rfl, _, _, rfl, rfl, (by first | decide | (dsimp only; decide)), ?_⟩
    refine ⟨_, rfl, .inl ⟨rfl, _, SqL.of h2⟩, _, rfl, l, _, _, rfl, rfl, h2, (by rw [List.length_map]; exact small1000 (by omega)), ?_⟩
    have b0 := Int.emod_nonneg (num * num + 48271 * num + (0 + (i : Int))) (show (2147483647 : Int) ≠ 0 by decide)
    have b1 := Int.emod_lt_of_pos (num * num + 48271 * num + (0 + (i : Int))) (show (0 : Int) < 2147483647 by decide)
    refine ⟨_, _, xs ++ [(num * num + 48271 * num + (0 + (i : Int))) % 2147483647], rfl, fun b o e => ?_, by rw [upd_same]; simp, by simp [hlx], ?_, b0, by omega⟩
    · rw [upd_ne (ne_of_none e hl)]; exact s2 b _ e
    · intro x hx'
      rcases List.mem_append.mp hx' with h | h
      · exact hx x h
      · have : x = (num * num + 48271 * num + (0 + (i : Int))) % 2147483647 := by simpa using h
        rw [this]; exact ⟨b0, b1⟩
  · rintro σ H2 ⟨num, v4, xs, rfl, s2, h2, hlx, hx, n0, n1⟩
    exact ⟨_, rfl, q l xs H2 h2 hl (by omega) hx s2⟩
theorem ok__law_days {f : Addr} {fd : FuncData} (F : Fun K "_law_days" "_law_days" s__law_days f fd) (T : Txt K mg)  : FnOk P w K mg base (CXx P w) 1 f fd ["_law_xs"] (sp_days) := by
  refine F.okX sc__law_days (fun vs H Q E h => ?_) (fun cdv A outer s H vs Q E hr h => ?_)
  · obtain ⟨l, xs, rfl, h8, q⟩ := h; rfl
  obtain ⟨l, xs, rfl, h8, q⟩ := h
  refine ⟨_, (pss_cons (ps_set (i := 1) sc__law_days.nd rfl (Or.inl rfl) (pe_op op_add pe_int (pe_op op_mod (pe_ix ix_list (pv 0) pe_int (fun _ _ => rfl)) pe_int)))
      (pss_cons (ps_if (pt_cmpR op_eq (pe_op op_mod (pe_ix ix_list (pv 0) pe_int (fun _ _ => rfl)) pe_int) pe_int (nomark _)) (pss_one (ps_set (i := 1) sc__law_days.nd rfl (Or.inl rfl) (pe_op op_add pe_int (pe_op op_mod (pe_ix ix_list (pv 0) pe_int (fun _ _ => rfl)) pe_int)))) pss_nil)
      (pss_cons (ps_set (i := 2) sc__law_days.nd rfl (Or.inr rfl) (pe_op op_add pe_int (pe_op op_mod (pe_ix ix_list (pv 0) pe_int (fun _ _ => rfl)) (pe_ix ix_list (pe_lst (pa_cons pe_int (pa_cons pe_int pa_nil))) (pe_op op_mod (pe_op op_fdivB (pe_ix ix_list (pv 0) pe_int (fun _ _ => rfl)) pe_int) pe_int) (fun _ _ => rfl)))))
      (pss_cons (ps_set (i := 3) sc__law_days.nd rfl (Or.inr rfl) (pe_op op_mul (pe_op op_mod (pe_ix ix_list (pv 0) pe_int (fun _ _ => rfl)) pe_int) (pe_op op_mod (pe_op op_fdivB (pe_ix ix_list (pv 0) pe_int (fun _ _ => rfl)) pe_int) pe_int)))
      (pss_one (ps_ret (pe_comp (N := ["_law_k", "_law_low", "_law_gap"]) (k := 1) (cap := [3, 2]) rfl rfl (pi_range1 rfl T.b_range (pa_cons (pv 1) pa_nil)) (fun _ _ _ _ => (pg_name (i := 0) (show (["_law_k", "_law_low", "_law_gap"] : List Str).Nodup from by decide +kernel) rfl (Or.inl rfl) (.inr rfl))) (fun _ _ _ _ => pts_nil) (fun _ _ _ _ => (pe_op op_add (pv 1) (pe_op op_mul (pv 2) (pv 0))))))))))), ?_⟩
  obtain ⟨hl, hx, hb⟩ := h8
  obtain ⟨x0, x1, x2, x3, x4, x5, x6, x7, rfl⟩ := ex8 hx
  have b2 := hb x2 (by simp)
  have b3 := hb x3 (by simp)
  refine ⟨_, rfl, l, _, _, V.int x0, rfl, rfl, SqL.of hl, atI_nat (j := 0) rfl, _, _, rfl, rfl, (by first | decide | (dsimp only; decide)), _, _, rfl, rfl, ?_⟩
  refine gNameA [some (.ref l), some (.int (2 + x0 % 8)), none, none] ?_
  dsimp only
  refine cutA (fun σ' H' => ∃ n : Nat, 2 ≤ n /\ n ≤ 30 /\ σ' = [some (.ref l), some (.int (n : Int)), none, none] /\ H = H') (fun N hN => ?_) ?_
  · refine ⟨_, rfl, l, _, _, V.int x1, rfl, rfl, SqL.of hl, atI_nat (j := 1) rfl, _, _, rfl, rfl, (by first | decide | (dsimp only; decide)), rfl, _, rfl, ?_⟩
    refine ite2 (fun h => ?_) (fun h => ?_)
    · refine ⟨_, rfl, l, _, _, V.int x0, rfl, rfl, SqL.of hl, atI_nat (j := 0) rfl, _, _, rfl, rfl, (by first | decide | (dsimp only; decide)), _, _, rfl, rfl, ?_⟩
      exact hN _ _ ⟨(10 + x0 % 21).toNat, by omega, by omega, by rw [show (((10 + x0 % 21).toNat : Nat) : Int) = 10 + x0 % 21 by omega]; rfl, rfl⟩
    · exact hN _ _ ⟨(2 + x0 % 8).toNat, by omega, by omega, by rw [show (((2 + x0 % 8).toNat : Nat) : Int) = 2 + x0 % 8 by omega], rfl⟩
  rintro σ _ ⟨n, hn2, hn30, rfl, rfl⟩
  refine ⟨_, rfl, l, _, _, V.int x2, rfl, rfl, SqL.of hl, atI_nat (j := 2) rfl, (by show 2 ≤ sizeLine; decide), fun z hz => ?_⟩
  have s1 : Same H (upd H z (HO.lst [V.int 3, V.int 30000000])) := Same.new hz
  have hz1 : upd H z (HO.lst [V.int 3, V.int 30000000]) z = some (.lst [V.int 3, V.int 30000000]) := upd_same
  generalize upd H z (HO.lst [V.int 3, V.int 30000000]) = H1 at s1 hz1 ⊢
  have hl1 := s1 _ _ hl
  obtain ⟨w', hw, hw2⟩ := two_of (x := 3) (y := 30000000) (k := x1 / 6 % 2) (by omega) (by omega)
  refine ⟨_, rfl, l, _, _, V.int x1, rfl, rfl, SqL.of hl1, atI_nat (j := 1) rfl, _, _, rfl, rfl, ⟨by decide, by decide⟩, _, _, rfl, rfl, (by first | decide | (dsimp only; decide)), z, _, _, V.int w', rfl, rfl, SqL.of hz1, hw, _, _, rfl, rfl, by show (0 : Int) < w'; omega, _, _, rfl, rfl, ?_⟩
  have hg0 := Int.emod_nonneg x2 (show w' ≠ 0 by omega)
  have hg1 := Int.emod_lt_of_pos x2 (show 0 < w' by omega)
  obtain ⟨gap, hgap, hgap1, hgap2⟩ : ∃ gap, 1 + x2 % w' = gap /\ 1 ≤ gap /\ gap ≤ 30000001 := ⟨_, rfl, by omega, by omega⟩
  refine gNameA [some (.ref l), some (.int (n : Int)), some (.int gap), none] ?_ (by show [_, _, some (V.int (1 + x2 % w')), _] = _; rw [hgap])
  refine ⟨_, rfl, l, _, _, V.int x3, rfl, rfl, SqL.of hl1, atI_nat (j := 3) rfl, _, _, rfl, rfl, (by first | decide | (dsimp only; decide)), _, rfl, l, _, _, V.int x4, rfl, rfl, SqL.of hl1, atI_nat (j := 4) rfl, _, _, rfl, rfl, ⟨by decide, by decide⟩, _, _, rfl, rfl, (by first | decide | (dsimp only; decide)), _, _, rfl, rfl, .inl ⟨by omega, by omega⟩, ?_⟩
  have hlow0 : 0 ≤ x3 % 1000 * (x4 / 2 % 2) := Int.mul_nonneg (by omega) (by omega)
  obtain ⟨low, hlow, hlow1⟩ : ∃ low, x3 % 1000 * (x4 / 2 % 2) = low /\ 0 ≤ low := ⟨_, rfl, hlow0⟩
  refine gNameA [some (.ref l), some (.int (n : Int)), some (.int gap), some (.int low)] ?_ (by show [_, _, _, some (V.int (x3 % 1000 * (x4 / 2 % 2)))] = _; rw [hlow])
  refine ⟨_, rfl, (n : Int), rfl, by omega, by omega, fun D' hD' => ?_⟩
  rw [show ((n : Int)).toNat = n by omega]
  refine comp_range (lo := 0) (n := n) D' (fun i σ H2 ys => ∃ (v : Option V), σ = [v, some (.int low), some (.int gap)] /\ Same H1 H2 /\ H2 D' = some (.lst ys) /\ ys = ((List.range i).map fun k : Nat => low + gap * (k : Int)).map V.int) ⟨none, rfl, Same.new hD', upd_same, rfl⟩ ?_ ?_
  · rintro i σ H2 ys hi ⟨v, rfl, s2, h2, rfl⟩
    refine ⟨_, rfl, _, rfl, _, rfl, _, _, rfl, rfl, .inl ⟨by omega, by omega⟩, _, _, rfl, rfl, h2, by simp; exact small1000 (by omega), _, rfl, fun b o e => ?_, upd_same, ?_⟩
    · rw [upd_ne (ne_of_none e hD')]; exact s2 b o e
    · rw [List.range_succ, List.map_append, List.map_append, Int.zero_add]; rfl
  · rintro σ H2 ys ⟨v, rfl, s2, h2, rfl⟩
    exact q D' _ H2 h2 (s1.free hD') ⟨n, low, gap, hn2, hn30, hlow1, hgap1, rfl⟩ (s1.trans s2)
theorem ok__law_leg {f : Addr} {fd : FuncData} (F : Fun K "_law_leg" "_law_leg" s__law_leg f fd) (T : Txt K mg) (D__law_drawn : DefX P w K mg base "_law_drawn" 1 ["_law_cell", "_law_many"] sp_drawn) : FnOk P w K mg base (CXx P w) 2 f fd ["_law_cell", "_law_number", "_law_days_here", "_law_xs"] (sp_leg) := by
  refine F.okX sc__law_leg (fun vs H Q E h => ?_) (fun cdv A outer s H vs Q E hr h => ?_)
  · obtain ⟨c, num, dl, l, ds, xs, rfl, hdl, hds, h8, q⟩ := h; rfl
  obtain ⟨c, num, dl, l, ds, xs, rfl, hdl, hds, h8, q⟩ := h
  refine ⟨_, (pss_cons (ps_set (i := 4) sc__law_leg.nd rfl (Or.inl rfl) (pe_callS D__law_drawn passesN (hr.mono (by decide)) rfl (pa_cons (pv 0) (pa_cons pe_int pa_nil))))
      (pss_cons (ps_set (i := 5) sc__law_leg.nd rfl (Or.inl rfl) (pe_callB call_len_seq (by rfl) T.b_len PySem.boot_len (pa_cons (pv 2) pa_nil)))
      (pss_cons (ps_set (i := 6) sc__law_leg.nd rfl (Or.inl rfl) (pe_op op_sub (pe_op op_mod (pe_ix ix_list (pv 4) pe_int (fun _ _ => rfl)) (pe_op op_add (pv 5) pe_int)) pe_int))
      (pss_cons (ps_if (pt_cmpR op_eq (pe_op op_mod (pe_ix ix_list (pv 4) pe_int (fun _ _ => rfl)) pe_int) pe_int (nomark _)) (pss_one (ps_set (i := 6) sc__law_leg.nd rfl (Or.inl rfl) (pe_un un_neg pe_int))) pss_nil)
      (pss_cons (ps_set (i := 7) sc__law_leg.nd rfl (Or.inl rfl) (pe_op op_mod (pe_ix ix_list (pv 4) pe_int (fun _ _ => rfl)) (pv 5)))
      (pss_cons (ps_if (pt_cmpR op_eq (pv 7) (pv 6) (nomark _)) (pss_one (ps_set (i := 7) sc__law_leg.nd rfl (Or.inl rfl) (pe_op op_mod (pe_op op_add (pv 7) pe_int) (pv 5)))) pss_nil)
      (pss_cons (ps_if (PW.pt (pw_and (pt_cmpR op_eq (pe_op op_mod (pe_ix ix_list (pv 3) pe_int (fun _ _ => rfl)) pe_int) pe_int (nomark _)) (pw_and1 (pt_cmpR op_gt (pv 6) (pv 7) (nomark _))))) (pss_one (ps_par (i := 6) (j := 7) rfl sc__law_leg.nd rfl rfl (by decide) rfl rfl (pa_cons (pv 7) (pa_cons (pv 6) pa_nil)) rfl)) pss_nil)
      (pss_cons (ps_set (i := 8) sc__law_leg.nd rfl (Or.inl rfl) (pe_un un_neg pe_int))
      (pss_cons (ps_if (pt_cmpR op_ge (pv 6) pe_int (nomark _)) (pss_one (ps_set (i := 8) sc__law_leg.nd rfl (Or.inl rfl) (pe_ix ix_list (pv 2) (pv 6) (fun _ _ => rfl)))) pss_nil)
      (pss_cons (ps_set (i := 9) sc__law_leg.nd rfl (Or.inl rfl) (pe_op op_mod (pe_ix ix_list (pv 4) pe_int (fun _ _ => rfl)) (pe_ix ix_list (pe_lst (pa_cons pe_int (pa_cons pe_int (pa_cons (pe_powc (n := 1000000000)) pa_nil)))) (pe_op op_mod (pe_ix ix_list (pv 3) pe_int (fun _ _ => rfl)) pe_int) (fun _ _ => rfl))))
      (pss_cons (ps_if (pt_cmpR op_eq (pe_op op_mod (pe_ix ix_list (pv 3) pe_int (fun _ _ => rfl)) pe_int) pe_int (nomark _)) (pss_one (ps_set (i := 9) sc__law_leg.nd rfl (Or.inl rfl) (pe_op op_mod (pe_op op_add (pe_op op_mul (pv 9) (pe_powc (n := 10000000000000000000000))) (pe_ix ix_list (pv 4) pe_int (fun _ _ => rfl))) (pe_op op_add (pe_powc (n := 1000000000000000000000000000000)) pe_int)))) pss_nil)
      (pss_cons (ps_set (i := 10) sc__law_leg.nd rfl (Or.inl rfl) pe_int)
      (pss_cons (ps_if (pt_cmpR op_eq (pe_op op_mod (pe_ix ix_list (pv 4) pe_int (fun _ _ => rfl)) (pe_ix ix_list (pe_lst (pa_cons pe_int (pa_cons pe_int (pa_cons pe_int pa_nil)))) (pe_op op_mod (pe_ix ix_list (pv 3) pe_int (fun _ _ => rfl)) pe_int) (fun _ _ => rfl))) pe_int (nomark _)) (pss_one (ps_set (i := 10) sc__law_leg.nd rfl (Or.inl rfl) pe_int)) pss_nil)
      (pss_one (ps_ret (pe_tup (pa_cons (pv 1) (pa_cons (pv 8) (pa_cons (pe_ix ix_list (pv 2) (pv 7) (fun _ _ => rfl)) (pa_cons (pv 10) (pa_cons (pv 9) pa_nil))))))))))))))))))))), ?_⟩
  obtain ⟨hl, hx, hb⟩ := h8
  obtain ⟨x0, x1, x2, x3, x4, x5, x6, x7, rfl⟩ := ex8 hx
  have hlen := hds.len
  have hpos := hds.pos
  refine ⟨_, rfl, c, 6, rfl, by decide, fun y ys H1 hy1 ny hy6 hyb s1 => ?_⟩
  obtain ⟨y0, y1, y2, y3, y4, y5, rfl⟩ := ex6 hy6
  have by2 := hyb y2 (by simp)
  have by5 := hyb y5 (by simp)
  refine gNameA [some (.int c), some (.int num), some (.ref dl), some (.ref l), some (.ref y), none, none, none, none, none, none] ?_
  have hl1 := s1 _ _ hl
  have hdl1 := s1 _ _ hdl
  refine ⟨_, rfl, dl, _, rfl, .inl (SqL.of hdl1), ?_⟩
  rw [show ((ds.map V.int).length : Int) = (ds.length : Int) by rw [List.length_map]]
  refine gNameA [some (.int c), some (.int num), some (.ref dl), some (.ref l), some (.ref y), some (.int (ds.length : Int)), none, none, none, none, none] ?_
  refine ⟨_, rfl, y, _, _, V.int y0, rfl, rfl, SqL.of hy1, atI_nat (j := 0) rfl, _, rfl, _, _, rfl, rfl, _, _, rfl, rfl, by show (0 : Int) < (ds.length : Int) + 1; omega, _, _, rfl, rfl, ?_⟩
  have e0 := Int.emod_nonneg y0 (show (ds.length : Int) + 1 ≠ 0 by omega)
  have e1 := Int.emod_lt_of_pos y0 (show (0 : Int) < (ds.length : Int) + 1 by omega)
  refine gNameA [some (.int c), some (.int num), some (.ref dl), some (.ref l), some (.ref y), some (.int (ds.length : Int)), some (.int (y0 % ((ds.length : Int) + 1) - 1)), none, none, none, none] ?_
  dsimp only
  refine cutA (fun σ' H' => ∃ at_ : Int, -1 ≤ at_ /\ at_ < (ds.length : Int) /\ σ' = [some (.int c), some (.int num), some (.ref dl), some (.ref l), some (.ref y), some (.int (ds.length : Int)), some (.int at_), none, none, none, none] /\ H1 = H') (fun N hN => ?_) ?_
  · refine ⟨_, rfl, y, _, _, V.int y4, rfl, rfl, SqL.of hy1, atI_nat (j := 4) rfl, _, _, rfl, rfl, (by first | decide | (dsimp only; decide)), rfl, _, rfl, ?_⟩
    refine ite2 (fun h => ?_) (fun h => ?_)
    · exact ⟨_, rfl, hN _ _ ⟨-1, by omega, by omega, rfl, rfl⟩⟩
    · exact hN _ _ ⟨_, by omega, by omega, rfl, rfl⟩
  clear e0 e1
  rintro σ _ ⟨at_, ha0, ha1, rfl, rfl⟩
  refine ⟨_, rfl, y, _, _, V.int y1, rfl, rfl, SqL.of hy1, atI_nat (j := 1) rfl, _, rfl, _, _, rfl, rfl, by show (0 : Int) < (ds.length : Int); omega, ?_⟩
  have e0 := Int.emod_nonneg y1 (show (ds.length : Int) ≠ 0 by omega)
  have e1 := Int.emod_lt_of_pos y1 (show (0 : Int) < (ds.length : Int) by omega)
  refine gNameA [some (.int c), some (.int num), some (.ref dl), some (.ref l), some (.ref y), some (.int (ds.length : Int)), some (.int at_), some (.int (y1 % (ds.length : Int))), none, none, none] ?_
  generalize y1 % (ds.length : Int) = to1 at e0 e1 ⊢
  dsimp only
  refine cutA (fun σ' H' => ∃ to_ : Int, 0 ≤ to_ /\ to_ < (ds.length : Int) /\ σ' = [some (.int c), some (.int num), some (.ref dl), some (.ref l), some (.ref y), some (.int (ds.length : Int)), some (.int at_), some (.int to_), none, none, none] /\ H1 = H') (fun N hN => ?_) ?_
  · refine ⟨_, rfl, _, rfl, rfl, _, rfl, ?_⟩
    refine ite2 (fun h => ?_) (fun h => ?_)
    · refine ⟨_, rfl, _, _, rfl, rfl, _, rfl, _, _, rfl, rfl, by show (0 : Int) < (ds.length : Int); omega, ?_⟩
      exact hN _ _ ⟨_, Int.emod_nonneg _ (by omega), Int.emod_lt_of_pos _ (by omega), rfl, rfl⟩
    · exact hN _ _ ⟨_, e0, e1, rfl, rfl⟩
  clear e0 e1
  rintro σ _ ⟨to_, ht0, ht1, rfl, rfl⟩
  refine cutA (fun σ' H' => ∃ at_ to_ : Int, -1 ≤ at_ /\ at_ < (ds.length : Int) /\ 0 ≤ to_ /\ to_ < (ds.length : Int) /\ σ' = [some (.int c), some (.int num), some (.ref dl), some (.ref l), some (.ref y), some (.int (ds.length : Int)), some (.int at_), some (.int to_), none, none, none] /\ H1 = H') (fun N hN => ?_) ?_
  · refine ⟨_, rfl, l, _, _, V.int x4, rfl, rfl, SqL.of hl1, atI_nat (j := 4) rfl, _, _, rfl, rfl, (by first | decide | (dsimp only; decide)), rfl, _, rfl, ?_⟩
    refine ite2 (fun h => ?_) (fun h => ?_)
    · refine ⟨_, rfl, _, rfl, _, _, rfl, rfl, _, rfl, ?_⟩
      refine ite2 (fun h => ?_) (fun h => ?_)
      · have h : to_ < at_ := by simpa using h
        exact ⟨_, rfl, _, rfl, _, _, rfl, hN _ _ ⟨to_, at_, by omega, by omega, by omega, by omega, rfl, rfl⟩⟩
      · exact hN _ _ ⟨at_, to_, ha0, ha1, ht0, ht1, rfl, rfl⟩
    · exact iteF (hN _ _ ⟨at_, to_, ha0, ha1, ht0, ht1, rfl, rfl⟩)
  clear ha0 ha1 ht0 ht1
  rintro σ _ ⟨at_, to_, ha0, ha1, ht0, ht1, rfl, rfl⟩
  refine ⟨_, rfl, ?_⟩
  refine gNameA [some (.int c), some (.int num), some (.ref dl), some (.ref l), some (.ref y), some (.int (ds.length : Int)), some (.int at_), some (.int to_), some (.int (-1)), none, none] ?_
  dsimp only
  refine cutA (fun σ' H' => ∃ st : Int, (st = -1 ∨ st ∈ ds) /\ σ' = [some (.int c), some (.int num), some (.ref dl), some (.ref l), some (.ref y), some (.int (ds.length : Int)), some (.int at_), some (.int to_), some (.int st), none, none] /\ H1 = H') (fun N hN => ?_) ?_
  · refine ⟨_, rfl, _, _, rfl, rfl, _, rfl, ?_⟩
    refine ite2 (fun h => ?_) (fun h => ?_)
    · have h : 0 ≤ at_ := by simpa using h
      obtain ⟨z, hz, hzm⟩ := ints_at (ds := ds) h ha1
      exact ⟨_, rfl, _, rfl, dl, _, _, V.int z, rfl, rfl, SqL.of hdl1, hz, hN _ _ ⟨z, .inr hzm, rfl, rfl⟩⟩
    · exact hN _ _ ⟨-1, .inl rfl, rfl, rfl⟩
  rintro σ _ ⟨st, hst, rfl, rfl⟩
  refine ⟨_, rfl, y, _, _, V.int y2, rfl, rfl, SqL.of hy1, atI_nat (j := 2) rfl, (by show 3 ≤ sizeLine; decide), fun z hz => ?_⟩
  have s2 : Same H1 (upd H1 z (HO.lst [V.int 3, V.int 1000, V.int 1000000000])) := Same.new hz
  have hz2 : upd H1 z (HO.lst [V.int 3, V.int 1000, V.int 1000000000]) z = some (.lst [V.int 3, V.int 1000, V.int 1000000000]) := upd_same
  generalize upd H1 z (HO.lst [V.int 3, V.int 1000, V.int 1000000000]) = H2 at s2 hz2 ⊢
  have hl2 := s2 _ _ hl1
  have hdl2 := s2 _ _ hdl1
  have hy2 := s2 _ _ hy1
  obtain ⟨w', hw, hw2⟩ := three_of (x := 3) (y := 1000) (w := 1000000000) (k := x5 % 3) (by omega) (by omega)
  refine ⟨_, rfl, l, _, _, V.int x5, rfl, rfl, SqL.of hl2, atI_nat (j := 5) rfl, _, _, rfl, rfl, (by first | decide | (dsimp only; decide)), z, _, _, V.int w', rfl, rfl, SqL.of hz2, hw, _, _, rfl, rfl, by show (0 : Int) < w'; omega, ?_⟩
  have e0 := Int.emod_nonneg y2 (show w' ≠ 0 by omega)
  have e1 := Int.emod_lt_of_pos y2 (show 0 < w' by omega)
  refine gNameA [some (.int c), some (.int num), some (.ref dl), some (.ref l), some (.ref y), some (.int (ds.length : Int)), some (.int at_), some (.int to_), some (.int st), some (.int (y2 % w')), none] ?_
  generalize y2 % w' = cost1 at e0 e1 ⊢
  dsimp only
  refine cutA (fun σ' H' => ∃ cost : Int, 0 ≤ cost /\ σ' = [some (.int c), some (.int num), some (.ref dl), some (.ref l), some (.ref y), some (.int (ds.length : Int)), some (.int at_), some (.int to_), some (.int st), some (.int cost), none] /\ H2 = H') (fun N hN => ?_) ?_
  · refine ⟨_, rfl, l, _, _, V.int x5, rfl, rfl, SqL.of hl2, atI_nat (j := 5) rfl, _, _, rfl, rfl, (by first | decide | (dsimp only; decide)), rfl, _, rfl, ?_⟩
    refine ite2 (fun h => ?_) (fun h => ?_)
    · refine ⟨_, rfl, _, _, rfl, rfl, .inl ⟨by omega, by omega⟩, _, rfl, y, _, _, V.int y5, rfl, rfl, SqL.of hy2, atI_nat (j := 5) rfl, _, _, rfl, rfl, _, _, rfl, rfl, _, _, rfl, rfl, (by first | decide | (dsimp only; decide)), ?_⟩
      exact hN _ _ ⟨_, Int.emod_nonneg _ (by decide), rfl, rfl⟩
    · exact hN _ _ ⟨_, e0, rfl, rfl⟩
  clear e0 e1
  rintro σ _ ⟨cost, hc0, rfl, rfl⟩
  refine gNameA [some (.int c), some (.int num), some (.ref dl), some (.ref l), some (.ref y), some (.int (ds.length : Int)), some (.int at_), some (.int to_), some (.int st), some (.int cost), some (.int 0)] ?_
  dsimp only
  refine cutA (fun σ' H' => ∃ bad : Int, 0 ≤ bad /\ bad ≤ 1 /\ σ' = [some (.int c), some (.int num), some (.ref dl), some (.ref l), some (.ref y), some (.int (ds.length : Int)), some (.int at_), some (.int to_), some (.int st), some (.int cost), some (.int bad)] /\ Same H2 H') (fun N hN => ?_) ?_
  · refine ⟨_, rfl, y, _, _, V.int y3, rfl, rfl, SqL.of hy2, atI_nat (j := 3) rfl, (by show 3 ≤ sizeLine; decide), fun z3 hz3 => ?_⟩
    have s3 : Same H2 (upd H2 z3 (HO.lst [V.int 2, V.int 5, V.int 3000000000])) := Same.new hz3
    have hz3' : upd H2 z3 (HO.lst [V.int 2, V.int 5, V.int 3000000000]) z3 = some (.lst [V.int 2, V.int 5, V.int 3000000000]) := upd_same
    generalize upd H2 z3 (HO.lst [V.int 2, V.int 5, V.int 3000000000]) = H3 at s3 hz3' ⊢
    have hl3 := s3 _ _ hl2
    obtain ⟨w3, hw3, hw32⟩ := three_of (x := 2) (y := 5) (w := 3000000000) (k := x6 % 3) (by omega) (by omega)
    refine ⟨_, rfl, l, _, _, V.int x6, rfl, rfl, SqL.of hl3, atI_nat (j := 6) rfl, _, _, rfl, rfl, (by first | decide | (dsimp only; decide)), z3, _, _, V.int w3, rfl, rfl, SqL.of hz3', hw3, _, _, rfl, rfl, by show (0 : Int) < w3; omega, rfl, _, rfl, ?_⟩
    refine ite2 (fun h => ?_) (fun h => ?_)
    · exact hN _ _ ⟨1, by decide, by decide, rfl, s3⟩
    · exact hN _ _ ⟨0, by decide, by decide, rfl, s3⟩
  rintro σ H3 ⟨bad, hbd0, hbd1, rfl, s3⟩
  obtain ⟨tv, htv, htm⟩ := ints_at (ds := ds) ht0 ht1
  refine ⟨_, rfl, _, rfl, _, rfl, _, rfl, dl, _, _, V.int tv, rfl, rfl, SqL.of (s3 _ _ hdl2), htv, _, rfl, _, rfl, (by show 5 ≤ sizeLine; decide), fun t ht => ?_⟩
  have s03 := (s1.trans s2).trans s3
  exact q t ⟨num, st, tv, bad, cost⟩ _ upd_same (s03.free ht) ⟨hpos tv htm, hbd0, hc0⟩ rfl hst htm hbd1 (s03.trans (Same.new ht))
theorem ok__law_legs {f : Addr} {fd : FuncData} (F : Fun K "_law_legs" "_law_legs" s__law_legs f fd) (T : Txt K mg) (D__law_drawn : DefX P w K mg base "_law_drawn" 1 ["_law_cell", "_law_many"] sp_drawn) (D__law_cell_at : DefX P w K mg base "_law_cell_at" 1 ["_law_script", "_law_k"] (sp_cell K)) (D__law_days : DefX P w K mg base "_law_days" 1 ["_law_xs"] sp_days) (D__law_leg : DefX P w K mg base "_law_leg" 2 ["_law_cell", "_law_number", "_law_days_here", "_law_xs"] sp_leg) : FnOk P w K mg base (CXx P w) 3 f fd ["_law_script", "_law_most"] (sp_legs K) := by
  refine F.okX sc__law_legs (fun vs H Q E h => ?_) (fun cdv A outer s H vs Q E hr h => ?_)
  · obtain ⟨a, ns, rfl, hS, hlen, q⟩ := h; rfl
  obtain ⟨a, ns, rfl, hS, hlen, q⟩ := h
  refine ⟨_, (pss_cons (ps_set (i := 2) sc__law_legs.nd rfl (Or.inl rfl) (pe_callS D__law_drawn passesN (hr.mono (by decide)) rfl (pa_cons (pe_callS D__law_cell_at passesN (hr.mono (by decide)) rfl (pa_cons (pv 0) (pa_cons pe_int pa_nil))) (pa_cons pe_int pa_nil))))
      (pss_cons (ps_set (i := 3) sc__law_legs.nd rfl (Or.inl rfl) (pe_callS D__law_days passesN (hr.mono (by decide)) rfl (pa_cons (pv 2) pa_nil)))
      (pss_cons (ps_set (i := 4) sc__law_legs.nd rfl (Or.inl rfl) (pe_callTy call_list_of (by rfl) T.b_list PyProof.Rows.boot_list (pa_cons (pe_slice sl_list (pv 0) (po_some pe_int) (po_some (pe_op op_add pe_int (pv 1)))) pa_nil)))
      (pss_cons (ps_if (pt_cmpR op_eq (pe_op op_mod (pe_ix ix_list (pv 2) pe_int (fun _ _ => rfl)) pe_int) pe_int (nomark _)) (pss_one (ps_set (i := 4) sc__law_legs.nd rfl (Or.inl rfl) (pe_op op_cat (pv 4) (pe_callS D__law_drawn passesN (hr.mono (by decide)) rfl (pa_cons (pe_callS D__law_cell_at passesN (hr.mono (by decide)) rfl (pa_cons (pv 0) (pa_cons pe_int pa_nil))) (pa_cons (pe_op op_add pe_int (pe_op op_mod (pe_op op_fdivB (pe_ix ix_list (pv 2) pe_int (fun _ _ => rfl)) pe_int) pe_int)) pa_nil)))))) pss_nil)
      (pss_cons (ps_set (i := 5) sc__law_legs.nd rfl (Or.inl rfl) (pe_ix ix_list (pe_lst (pa_cons pe_int (pa_cons pe_int pa_nil))) (pe_op op_mod (pe_op op_fdivB (pe_ix ix_list (pv 2) pe_int (fun _ _ => rfl)) pe_int) pe_int) (fun _ _ => rfl)))
      (pss_cons (ps_set (i := 6) sc__law_legs.nd rfl (Or.inl rfl) (pe_lst pa_nil))
      (pss_cons (ps_for PassesOwn.leaving rfl (pi_range1 rfl T.b_range (pa_cons (pe_callB call_len_seq (by rfl) T.b_len PySem.boot_len (pa_cons (pv 4) pa_nil)) pa_nil)) (pg_name (i := 7) sc__law_legs.nd rfl (Or.inl rfl))
      (pss_one (ps_expr (pe_bm PySem.F.plainAttrs_list PySem.F.slot_list_append PySem.F.type_list_append mt_append (pv 6) (pa_cons (pe_callS D__law_leg passesN (hr.mono (by decide)) rfl (pa_cons (pe_ix ix_list (pv 4) (pv 7) (fun _ _ => rfl)) (pa_cons (pe_op op_mul (pe_op op_mod (pe_op op_mul (pe_op op_add (pv 7) pe_int) (pe_op op_add pe_int (pe_op op_mod (pe_ix ix_list (pv 2) pe_int (fun _ _ => rfl)) pe_int))) pe_int) (pv 5)) (pa_cons (pv 3) (pa_cons (pv 2) pa_nil))))) pa_nil)))))
      (pss_one (ps_ret (pe_lst (pa_cons (pv 3) (pa_cons (pv 6) pa_nil)))))))))))), ?_⟩
  refine ⟨_, rfl, a, ns, 0, rfl, hS, _, 8, rfl, by decide, fun l xs H1 hl1 nl hx8 hxb s1 => ?_⟩
  obtain ⟨x0, x1, x2, x3, x4, x5, x6, x7, rfl⟩ := ex8 hx8
  have b7 := hxb x7 (by simp)
  refine gNameA [some (.ref a), some (.int 100), some (.ref l), none, none, none, none, none] ?_
  refine ⟨_, rfl, l, _, rfl, ⟨hl1, rfl, hxb⟩, fun dl ds H2 hdl2 ndl hds s2 => ?_⟩
  refine gNameA [some (.ref a), some (.int 100), some (.ref l), some (.ref dl), none, none, none, none] ?_
  have s02 := s1.trans s2
  have hl2 := s2 _ _ hl1
  refine ⟨_, rfl, _, rfl, _, rfl, _, _, rfl, rfl, _, rfl, a, _, rfl, s02.seq hS, fun c1 hc1 => ?_⟩
  obtain ⟨cs0, hcs0, hcl0⟩ := cut_ints ns (some 1) (some (1 + 100))
  rw [show cutV (ns.map V.int) (some 1) (some ((fun i j => i + j) 1 100)) = cs0.map V.int from hcs0]
  refine ⟨c1, _, rfl, .inl (SqL.of upd_same), fun cl0 hcl => ?_⟩
  have s3 : Same H2 (upd (upd H2 c1 (.lst (cs0.map V.int))) cl0 (.lst (cs0.map V.int))) := (Same.new hc1).trans (Same.new hcl)
  have hcl3 : upd (upd H2 c1 (.lst (cs0.map V.int))) cl0 (.lst (cs0.map V.int)) cl0 = some (.lst (cs0.map V.int)) := upd_same
  generalize upd (upd H2 c1 (.lst (cs0.map V.int))) cl0 (.lst (cs0.map V.int)) = H3 at s3 hcl3 ⊢
  refine gNameA [some (.ref a), some (.int 100), some (.ref l), some (.ref dl), some (.ref cl0), none, none, none] ?_
  dsimp only
  refine cutA (fun σ' H' => ∃ (cl : Addr) (cs : List Int), cs.length ≤ 125 /\ σ' = [some (.ref a), some (.int 100), some (.ref l), some (.ref dl), some (.ref cl), none, none, none] /\ H' cl = some (.lst (cs.map V.int)) /\ Same H2 H') (fun N hN => ?_) ?_
  · have hl3 := s3 _ _ hl2
    refine ⟨_, rfl, l, _, _, V.int x7, rfl, rfl, SqL.of hl3, atI_nat (j := 7) rfl, _, _, rfl, rfl, (by first | decide | (dsimp only; decide)), rfl, _, rfl, ?_⟩
    refine ite2 (fun h => ?_) (fun h => ?_)
    · refine ⟨_, rfl, _, rfl, a, ns, 1, rfl, (s02.trans s3).seq hS, _, rfl, l, _, _, V.int x7, rfl, rfl, SqL.of hl3, atI_nat (j := 7) rfl, _, _, rfl, rfl, ⟨by decide, by decide⟩, _, _, rfl, rfl, (by first | decide | (dsimp only; decide)), _, _, rfl, rfl, ?_⟩
      refine ⟨cellI ns (1 : Nat), (20 + x7 / 4 % 40).toNat, ?_, by omega, fun l2 xs2 H4 hl24 nl2 hx2 _ s4 => ?_⟩
      · show [_, V.int (20 + x7 / 4 % 40)] = _
        rw [show (((20 + x7 / 4 % 40).toNat : Nat) : Int) = 20 + x7 / 4 % 40 by omega]
      refine ⟨cl0, l2, _, _, rfl, rfl, s4 _ _ hcl3, hl24, by rw [List.length_map, List.length_map]; exact Nat.le_of_lt (small1000 (by omega)), fun c5 hc5 => ?_⟩
      exact hN _ _ ⟨c5, cs0 ++ xs2, by rw [List.length_append]; omega, rfl, by rw [upd_same, List.map_append], (s3.trans s4).trans (Same.new hc5)⟩
    · exact hN _ _ ⟨cl0, cs0, by omega, rfl, hcl3, s3⟩
  rintro σ H4 ⟨cl, cs, hcl125, rfl, hcl4, s4⟩
  have hl4 := s4 _ _ hl2
  refine ⟨(by show 2 ≤ sizeLine; decide), fun z hz => ?_⟩
  have s5 : Same H4 (upd H4 z (HO.lst [V.int 1, V.int 3000000])) := Same.new hz
  have hz5 : upd H4 z (HO.lst [V.int 1, V.int 3000000]) z = some (.lst [V.int 1, V.int 3000000]) := upd_same
  generalize upd H4 z (HO.lst [V.int 1, V.int 3000000]) = H5 at s5 hz5 ⊢
  have hl5 := s5 _ _ hl4
  obtain ⟨share, hsh, hsh2⟩ := two_of (x := 1) (y := 3000000) (k := x7 / 160 % 2) (by omega) (by omega)
  refine ⟨_, rfl, l, _, _, V.int x7, rfl, rfl, SqL.of hl5, atI_nat (j := 7) rfl, _, _, rfl, rfl, ⟨by decide, by decide⟩, _, _, rfl, rfl, (by first | decide | (dsimp only; decide)), z, _, _, V.int share, rfl, rfl, SqL.of hz5, hsh, ?_⟩
  refine gNameA [some (.ref a), some (.int 100), some (.ref l), some (.ref dl), some (.ref cl), some (.int share), none, none] ?_
  refine ⟨Nat.zero_le _, fun lg hlg => ?_⟩
  have s6 : Same H5 (upd H5 lg (.lst [])) := Same.new hlg
  have hlg6 : upd H5 lg (.lst []) lg = some (.lst []) := upd_same
  generalize upd H5 lg (.lst []) = H6 at s6 hlg6 ⊢
  refine gNameA [some (.ref a), some (.int 100), some (.ref l), some (.ref dl), some (.ref cl), some (.int share), some (.ref lg), none] ?_
  have s26 := (s4.trans s5).trans s6
  have s46 := s5.trans s6
  have hcl6 := s46 _ _ hcl4
  have hdl6 := s26 _ _ hdl2
  have hl6 := s26 _ _ hl2
  have nlg2 : H2 lg = none := (s4.trans s5).free hlg
  refine ⟨_, rfl, cl, _, rfl, .inl (SqL.of hcl6), _, rfl, by rw [List.length_map]; omega, by rw [List.length_map]; omega, ?_⟩
  rw [List.length_map, show ((cs.length : Int)).toNat = cs.length by omega]
  refine for_range (lo := 0) (n := cs.length) (fun i σ H' => ∃ (v7 : Option V) (LV : List V) (legs : List Leg), σ = [some (.ref a), some (.int 100), some (.ref l), some (.ref dl), some (.ref cl), some (.int share), some (.ref lg), v7] /\ Same H5 H' /\ H' lg = some (.lst LV) /\ KeysAt true H' LV (legs.map legT) /\ (∀ g ∈ legs, LegOk g) /\ (∀ g ∈ legs, (g.start = -1 ∨ g.start ∈ ds) /\ g.to ∈ ds) /\ legs.map Leg.num = (List.range i).map (fun j : Nat => ((j : Int) + 1) * (1 + x3 % 306) % 307 * share))
    ⟨none, [], [], rfl, s6, hlg6, KeysAt.nil, fun g h => (by cases h), fun g h => (by cases h), rfl⟩ ?_ ?_
  · rintro i σ H7 hi ⟨v7, LV, legs, rfl, s7, hlg7, R7, hok7, hin7, hnm7⟩
    have hn7 : legs.length = i := by have := congrArg List.length hnm7; simpa using this
    have hcl7 := s7 _ _ (s5 _ _ hcl4)
    have hl7 := s7 _ _ hl5
    have hdl7 := s7 _ _ (s5 _ _ (s4 _ _ hdl2))
    obtain ⟨cv, hcv, _⟩ := ints_at (ds := cs) (k := 0 + (i : Int)) (by omega) (by omega)
    have b306 := Int.emod_nonneg x3 (show (306 : Int) ≠ 0 by decide)
    refine ⟨_, rfl, .inl ⟨rfl, _, SqL.of hlg7⟩, _, rfl, _, rfl, cl, _, _, V.int cv, rfl, rfl, SqL.of hcl7, hcv, ?_⟩
    refine ⟨_, rfl, _, _, rfl, rfl, _, rfl, l, _, _, V.int x3, rfl, rfl, SqL.of hl7, atI_nat (j := 3) rfl, _, _, rfl, rfl, (by first | decide | (dsimp only; decide)), _, _, rfl, rfl, _, _, rfl, rfl, .inl ⟨by omega, by omega⟩, _, _, rfl, rfl, (by first | decide | (dsimp only; decide)), _, rfl, _, _, rfl, rfl, .inl ⟨by omega, by omega⟩, _, rfl, _, rfl, ?_⟩
    refine ⟨cv, _, dl, l, ds, _, rfl, hdl7, hds, ⟨hl7, rfl, hxb⟩, fun t g H8 ht8 nt hgo hgn hgs hgt _ s8 => ?_⟩
    have hlg8 := s8 _ _ hlg7
    have nlt : lg ≠ t := ne_of_none hlg7 nt
    have tk : ∀ t' ys, H8 t' = some (.tup ys)->upd H8 lg (.lst (LV ++ [.ref t])) t' = some (.tup ys) := fun t' ys e => by rw [upd_ne (ne_of e hlg8 (by intro z; cases z))]; exact e
    refine ⟨lg, LV, _, rfl, rfl, hlg8, by rw [R7.len, List.length_map, hn7]; exact small1000 (by omega), _, _, legs ++ [g], rfl, fun b o e => ?_, upd_same, ?_, fun g' h => ?_, fun g' h => ?_, ?_⟩
    · rw [upd_ne (ne_of_none e hlg)]; exact s8 b o (s7 b o e)
    · rw [List.map_append]
      exact ((R7.mono fun t' ys e => s8 t' _ e).snoc (ks := legT g) ⟨t, rfl, ht8⟩).mono tk
    · rcases List.mem_append.mp h with h | h
      · exact hok7 g' h
      · rw [List.mem_singleton.mp h]; exact hgo
    · rcases List.mem_append.mp h with h | h
      · exact hin7 g' h
      · rw [List.mem_singleton.mp h]; exact ⟨hgs, hgt⟩
    · rw [List.map_append, hnm7, List.range_succ, List.map_append]
      congr 1
      show [g.num] = [((i : Int) + 1) * (1 + x3 % 306) % 307 * share]
      rw [hgn, Int.zero_add]
  · rintro σ H7 ⟨v7, LV, legs, rfl, s7, hlg7, R7, hok7, hin7, hnm7⟩
    have hn7 : legs.length = cs.length := by have := congrArg List.length hnm7; simpa using this
    have hnod : (legs.map Leg.num).Nodup := by
      rw [hnm7]
      exact nd_mapR fun x y hx hy e => num_inj (by omega) (by omega) (by omega) hsh2 e
    refine ⟨_, rfl, _, rfl, (by show 2 ≤ sizeLine; decide), fun t ht => ?_⟩
    have s8 : Same H7 (upd H7 t (.lst [.ref dl, .ref lg])) := Same.new ht
    have s27 := (s4.trans s5).trans s7
    exact q t dl lg ds LV legs _ upd_same (s8 _ _ (s27 _ _ hdl2)) (s8 _ _ hlg7) (R7.mono fun t' ys e => s8 t' _ e) hok7 hin7 (by omega) hnod hds ((s02.trans s27).free ht) (s1.free ndl) (s02.free nlg2) ((s02.trans s27).trans s8)
theorem ok__law_behind {f : Addr} {fd : FuncData} (F : Fun K "_law_behind" "_law_behind" s__law_behind f fd) (T : Txt K mg)  : FnOk P w K mg base (CXx P w) 1 f fd ["_law_price", "_law_leg_here"] (sp_over) := by
  refine F.okX sc__law_behind (fun vs H Q E h => ?_) (fun cdv A outer s H vs Q E hr h => ?_)
  · obtain ⟨a, b, p, g, rfl, hp, ha, hb, q⟩ := h; rfl
  obtain ⟨a, b, p, g, rfl, hp, ha, hb, q⟩ := h
  refine ⟨_, (pss_one (ps_ret (pe_tup (pa_cons (pe_op op_add (pe_ix ix_tup (pv 0) pe_int (fun _ _ => rfl)) (pe_ix ix_tup (pv 1) pe_int (fun _ _ => rfl))) (pa_cons (pe_op op_add (pe_ix ix_tup (pv 0) pe_int (fun _ _ => rfl)) (pe_ix ix_tup (pv 1) pe_int (fun _ _ => rfl))) (pa_cons (pe_op op_add (pe_ix ix_tup (pv 0) pe_int (fun _ _ => rfl)) pe_int) pa_nil)))))), ?_⟩
  obtain ⟨x, y, n, rfl⟩ := hp
  refine ⟨_, rfl, a, _, _, V.int x, rfl, rfl, SqT.of ha, rfl, _, rfl, b, _, _, V.int g.bad, rfl, rfl, SqT.of hb, rfl, _, _, rfl, rfl, ?_⟩
  refine ⟨_, rfl, a, _, _, V.int y, rfl, rfl, SqT.of ha, rfl, _, rfl, b, _, _, V.int g.cost, rfl, rfl, SqT.of hb, rfl, _, _, rfl, rfl, ?_⟩
  refine ⟨_, rfl, a, _, _, V.int (n : Int), rfl, rfl, SqT.of ha, rfl, _, _, rfl, rfl, ?_⟩
  refine ⟨(by show 3 ≤ sizeLine; decide), fun t ht => ?_⟩
  exact q t ht
theorem ok_price_at {f : Addr} {fd : FuncData} (F : Fun K "price_at" "price_at" s_price_at f fd) (T : Txt K mg)  : FnOk P w K mg base (CXx P w) 1 f fd ["priced", "start"] (sp_priceat) := by
  refine F.okX sc_price_at (fun vs H Q E h => ?_) (fun cdv A outer s H vs Q E hr h => ?_)
  · obtain ⟨pd, kvs, P, st, rfl, hpd, PR, hz, q0, q1⟩ := h; rfl
  obtain ⟨pd, kvs, P, st, rfl, hpd, PR, hz, q0, q1⟩ := h
  refine ⟨_, (pss_one (ps_ret (pe_ifExp (pt_cmpR op_eq (pv 1) (pe_un un_neg pe_int) (nomark _)) (pe_tup (pa_cons pe_int (pa_cons pe_int (pa_cons pe_int pa_nil)))) (pe_dget1 (hu_of hr) (pv 0) (pv 1) ⟨rfl, rfl, rfl, rfl⟩)))), ?_⟩
  refine ⟨_, rfl, _, rfl, rfl, _, rfl, ?_⟩
  by_cases hs : st = -1
  · rw [decide_eq_true (show V.int st = V.int (-1) by rw [hs])]
    refine iteT ⟨(by show 3 ≤ sizeLine; decide), fun t ht => ?_⟩
    exact q1 [0, 0, 0] (by rw [hs]; exact hz) t _ upd_same (Same.new ht)
  · rw [decide_eq_false (show ¬ V.int st = V.int (-1) from fun e => hs (V.int.inj e))]
    have hv := PR.val st
    rw [show dropP P (-1) st = P st from if_neg hs] at hv
    refine iteF ⟨_, rfl, pd, rfl, .inl ⟨kvs, .inl hpd⟩, _, rfl, _, .inl ⟨kvs, Sum.inl st, .inl hpd, rfl, rfl⟩, ?_⟩
    cases hp : P st with
    | none => rw [hp] at hv; rw [hv.none_of]; exact q0 hp
    | some p =>
      rw [hp] at hv
      obtain ⟨a, ha, ha'⟩ := hv.some_of
      rw [ha]
      exact q1 p hp a H ha' (Same.refl _)
theorem ok_days_rise {f : Addr} {fd : FuncData} (F : Fun K "days_rise" "days_rise" s_days_rise f fd) (T : Txt K mg)  : FnOk P w K mg base (CXx P w) 1 f fd ["rows"] (sp_rise) := by
  refine F.okX sc_days_rise (fun vs H Q E h => ?_) (fun cdv A outer s H vs Q E hr h => ?_)
  · obtain ⟨rl, RV, rws, rfl, hrl, RP, q⟩ := h; rfl
  obtain ⟨rl, RV, rws, rfl, hrl, RP, q⟩ := h
  refine ⟨_, (pss_cons (ps_setComp (i := 1) sc_days_rise.nd rfl (Or.inl rfl) (N := ["row"]) (k := 1) (cap := []) rfl rfl (pi_list (pv 0)) (fun _ _ _ _ => (pg_name (i := 0) (show (["row"] : List Str).Nodup from by decide +kernel) rfl (Or.inl rfl) (.inr rfl))) (fun _ _ _ _ => pts_nil) (fun _ _ _ _ => (pe_ix (ix_tupK (K := K) rfl) (pv 0) pe_int (fun _ _ => rfl))))
      (pss_one (ps_ret (pe_and (pe_cmpR (op_eq_ref hr.units) (pv 1) (pe_sset rfl (by rfl) T.b_sorted (by rfl) T.b_set (pv 1)) (nomark _)) (pe_one (pe_callB (call_all_bl rfl) (by rfl) T.b_all PyProof.Rows.boot_all (pa_cons (pe_comp (N := ["day"]) (k := 1) (cap := []) rfl rfl (pi_list (pv 1)) (fun _ _ _ _ => (pg_name (i := 0) (show (["day"] : List Str).Nodup from by decide +kernel) rfl (Or.inl rfl) (.inr rfl))) (fun _ _ _ _ => pts_nil) (fun _ _ _ _ => (pe_cmpR op_ge (pv 0) pe_int (nomark _)))) pa_nil))))))), ?_⟩
  have hRl : RV.length = rws.length := by rw [RP.keys.len, List.length_map]
  have h60 := RP.len
  refine ⟨_, rfl, rl, rfl, ⟨_, SqL.of hrl⟩, fun D' hD' => ?_⟩
  refine comp_list D' (K := K) (a := rl) (xs := RV) (fun i σ H5 ys => ∃ (v : Option V), σ = [v] /\ Same H H5 /\ H5 D' = some (.lst ys) /\ ys = ((rws.take i).map (·.1)).map V.int) ⟨none, rfl, Same.new hD', upd_same, rfl⟩ (fun i σ H5 ys _ ⟨_, _, s5, _⟩ => SqL.of (s5 _ _ hrl)) ?_ ?_
  · rintro i v σ H2 ys hi ⟨v0, rfl, s2, hD2, rfl⟩
    obtain ⟨t, d, b, c, n, rfl, hr', ht⟩ := key_row RP hi
    have hil := (List.getElem?_eq_some_iff.mp hi).1
    refine ⟨_, rfl, t, _, _, V.int d, rfl, rfl, SqT.of (s2 _ _ ht), rfl, hD2, by rw [List.length_map, List.length_map, List.length_take]; exact small1000 (by omega), some (.ref t), rfl, fun b' o e => by rw [upd_ne (ne_of_none e hD')]; exact s2 b' o e, upd_same, ?_⟩
    rw [List.take_add_one, hr']; simp
  rintro σ H2 ys ⟨v0, rfl, s2, hD2, rfl⟩
  rw [hRl, List.take_length] at hD2
  generalize hdd : rws.map (·.1) = dl at hD2 q
  have hdl : dl.length ≤ 60 := by rw [← hdd, List.length_map]; exact h60
  refine gNameA [some (.ref rl), some (.ref D')] ?_
  refine ⟨_, rfl, _, rfl, D', dl, rfl, SqL.of hD2, Nat.le_trans (dd_len dl) (by omega), fun r ss hr' hss hmem => ?_⟩
  have s3 : Same H2 (upd H2 r (.lst (ss.map V.int))) := Same.new hr'
  have hr3 : upd H2 r (.lst (ss.map V.int)) r = some (.lst (ss.map V.int)) := upd_same
  generalize upd H2 r (.lst (ss.map V.int)) = H3 at s3 hr3 ⊢
  have hD3 := s3 _ _ hD2
  refine ⟨0, decide (dl = ss), by decide, SeqEq.ints (SqL.of hD3) (SqL.of hr3), _, rfl, ?_⟩
  by_cases he : dl = ss
  · rw [decide_eq_true he]
    refine iteT ?_
    refine ⟨_, rfl, D', rfl, ⟨_, SqL.of hD3⟩, fun D2 hD2' => ?_⟩
    refine comp_list D2 (K := K) (a := D') (xs := dl.map V.int) (fun i σ H5 ys => ∃ (v : Option V), σ = [v] /\ Same H3 H5 /\ H5 D2 = some (.lst ys) /\ ys = ((dl.take i).map fun d => decide (0 ≤ d)).map V.bl) ⟨none, rfl, Same.new hD2', upd_same, rfl⟩ (fun i σ H5 ys _ ⟨_, _, s5, _⟩ => SqL.of (s5 _ _ hD3)) ?_ ?_
    · rintro i v σ H5 ys hi ⟨v0, rfl, s5, hD5, rfl⟩
      have hil := (List.getElem?_eq_some_iff.mp hi).1
      rw [List.getElem?_map, Option.map_eq_some_iff] at hi
      obtain ⟨z, hz, rfl⟩ := hi
      refine ⟨_, rfl, _, _, rfl, rfl, hD5, by rw [List.length_map, List.length_map, List.length_take]; exact small1000 (by omega), some (.int z), rfl, fun b' o e => by rw [upd_ne (ne_of_none e hD2')]; exact s5 b' o e, upd_same, ?_⟩
      rw [List.take_add_one, hz]; simp
    rintro σ H5 ys ⟨v0, rfl, s5, hD5, rfl⟩
    rw [List.length_map, List.take_length] at hD5
    refine ⟨D2, _, rfl, SqL.of hD5, ?_⟩
    have e2 : ((dl.map fun d => decide (0 ≤ d)).all id) = risesB dl := by
      unfold risesB
      rw [decide_eq_true (show dl.Pairwise (· < ·) by rw [he]; exact hss), Bool.true_and, List.all_map]; rfl
    rw [e2]
    exact q _ ((s2.trans s3).trans s5)
  · rw [decide_eq_false he]
    refine iteF ?_
    have e2 : risesB dl = false := by
      unfold risesB
      rw [decide_eq_false (fun hp : dl.Pairwise (· < ·) => he (rise_ext hp hss fun a => (hmem a).symm)), Bool.false_and]
    rw [← e2]
    exact q _ (s2.trans s3)
theorem ok_leg_holds {f : Addr} {fd : FuncData} (F : Fun K "leg_holds" "leg_holds" s_leg_holds f fd) (T : Txt K mg) (D_price_at : DefX P w K mg base "price_at" 1 ["priced", "start"] sp_priceat) (D_price_over : DefX P w K mg base "price_over" 1 ["price", "leg"] sp_over) : FnOk P w K mg base (CXx P w) 2 f fd ["priced", "leg"] (sp_legh) := by
  refine F.okX sc_leg_holds (fun vs H Q E h => ?_) (fun cdv A outer s H vs Q E hr h => ?_)
  · obtain ⟨pd, b, kvs, P, g, rfl, hpd, PR, hz, hpr, hb, hok, q⟩ := h; rfl
  obtain ⟨pd, b, kvs, P, g, rfl, hpd, PR, hz, hpr, hb, hok, q⟩ := h
  refine ⟨_, (pss_cons (ps_set (i := 2) sc_leg_holds.nd rfl (Or.inl rfl) (pe_callS D_price_at passesN (hr.mono (by decide)) rfl (pa_cons (pv 0) (pa_cons (pe_ix ix_tup (pv 1) pe_int (fun _ _ => rfl)) pa_nil))))
      (pss_cons (ps_if (pt_cmpR op_isN (pv 2) pe_non (nomark _)) (pss_one (ps_ret pe_bl)) pss_nil)
      (pss_one (ps_ret (pe_and (pe_cmp (pc_din (hu_of hr) (pe_ix ix_tup (pv 1) pe_int (fun _ _ => rfl)) (pv 0))) (pe_one (pe_cmpR (op_leT (Nat.lt_of_le_of_lt (Nat.le_add_right _ 64) hr.units)) (pe_dget (hu_of hr) (pv 0) (pe_ix ix_tup (pv 1) pe_int (fun _ _ => rfl)) (fun _ _ => rfl)) (pe_callS D_price_over passesN (hr.mono (by decide)) rfl (pa_cons (pv 2) (pa_cons (pv 1) pa_nil))) (nomark _)))))))), ?_⟩
  have hto : g.to ≠ -1 := by have := hok.1; omega
  refine ⟨_, rfl, _, rfl, b, _, _, V.int g.start, rfl, rfl, SqT.of hb, rfl, pd, kvs, P, g.start, rfl, hpd, PR, hz, fun hn => ?_, fun p hp t H3 ht s3 => ?_⟩
  · refine gNameA [some (.ref pd), some (.ref b), some .non] ?_
    dsimp only
    refine seq_ifT (fun Qb hq => ?_) ?_
    · exact ⟨_, rfl, rfl, _, rfl, hq⟩
    have e : legB P g = true := by unfold legB; rw [hn]
    rw [← e]
    exact q H (Same.refl _)
  refine gNameA [some (.ref pd), some (.ref b), some (.ref t)] ?_
  dsimp only
  refine seq_ifN (fun Qb hq => ?_) ?_
  · exact ⟨_, rfl, rfl, _, rfl, hq⟩
  have hb3 := s3 _ _ hb
  have hpd3 := s3 _ _ hpd
  have PR3 := PR.mono fun t ys e => s3 t _ e
  have hv := PR3.val g.to
  rw [leg_get hto] at hv
  refine ⟨_, rfl, b, _, _, V.int g.to, rfl, rfl, SqT.of hb3, rfl, _, rfl, pd, _, rfl, .inl ⟨kvs, Sum.inl g.to, .inl hpd3, rfl, rfl⟩, _, rfl, ?_⟩
  cases hq2 : P g.to with
  | none =>
    rw [hq2] at hv
    rw [hv.none_of]
    refine iteF ?_
    have e : legB P g = false := by unfold legB; rw [hp]; dsimp only; rw [hq2]
    rw [← e]
    exact q _ s3
  | some q2 =>
    rw [hq2] at hv
    obtain ⟨qa, hqa, hqa'⟩ := hv.some_of
    rw [hqa]
    refine iteT ⟨_, rfl, _, rfl, b, _, _, V.int g.to, rfl, rfl, SqT.of hb3, rfl, pd, V.ref qa, rfl, .inl ⟨kvs, Sum.inl g.to, .inl hpd3, rfl, hqa.symm⟩, ?_⟩
    refine ⟨_, rfl, _, rfl, t, b, p, g, rfl, hpr _ _ hp, ht, hb3, fun u hu => ?_⟩
    refine ⟨qa, u, q2, overT p g, rfl, rfl, SqT.of (Same.new hu _ _ hqa'), SqT.of upd_same, ?_⟩
    have e : legB P g = !HT.lexLt (overT p g) q2 := by unfold legB; rw [hp]; dsimp only; rw [hq2]
    rw [← e]
    exact q _ (s3.trans (Same.new hu))
theorem ok_price_of_way {f : Addr} {fd : FuncData} (F : Fun K "price_of_way" "price_of_way" s_price_of_way f fd) (T : Txt K mg) (D_price_over : DefX P w K mg base "price_over" 1 ["price", "leg"] sp_over) : FnOk P w K mg base (CXx P w) 2 f fd ["legs", "way", "day"] (sp_pow) := by
  refine F.okX sc_price_of_way (fun vs H Q E h => ?_) (fun cdv A outer s H vs Q E hr h => ?_)
  · obtain ⟨a, w, LV, legs, ws, day, rfl, ha, LG, hw, q0, q1⟩ := h; rfl
  obtain ⟨a, w, LV, legs, ws, day, rfl, ha, LG, hw, q0, q1⟩ := h
  refine ⟨_, (pss_cons (ps_set (i := 3) sc_price_of_way.nd rfl (Or.inl rfl) (pe_callTy (call_dictP rfl) (by rfl) T.b_dict PyProof.Rows.boot_dict (pa_cons (pe_comp (N := ["leg"]) (k := 1) (cap := []) rfl rfl (pi_list (pv 0)) (fun _ _ _ _ => (pg_name (i := 0) (show (["leg"] : List Str).Nodup from by decide +kernel) rfl (Or.inl rfl) (.inr rfl))) (fun _ _ _ _ => pts_nil) (fun _ _ _ _ => (pe_tup (pa_cons (pe_ix (ix_tupK (K := K) rfl) (pv 0) pe_int (fun _ _ => rfl)) (pa_cons (pv 0) pa_nil))))) pa_nil)))
      (pss_cons (ps_set (i := 4) sc_price_of_way.nd rfl (Or.inl rfl) (pe_tup (pa_cons pe_int (pa_cons pe_int (pa_cons pe_int pa_nil)))))
      (pss_cons (ps_set (i := 5) sc_price_of_way.nd rfl (Or.inl rfl) (pe_un un_neg pe_int))
      (pss_cons (ps_for PassesOwn.leaving rfl (pi_list (pv 1)) (pg_name (i := 6) sc_price_of_way.nd rfl (Or.inl rfl))
      (pss_cons (ps_if (PW.pt (pw_or (pt_cmp (pc_dnotin (hu_of hr) (pv 6) (pv 3))) (pw_or1 (pt_cmpR op_ne (pe_ix ix_tup (pe_dget (hu_of hr) (pv 3) (pv 6) (fun _ _ => rfl)) pe_int (fun _ _ => rfl)) (pv 5) (nomark _))))) (pss_one (ps_ret pe_non)) pss_nil)
      (pss_cons (ps_set (i := 4) sc_price_of_way.nd rfl (Or.inl rfl) (pe_callS D_price_over passesN (hr.mono (by decide)) rfl (pa_cons (pv 4) (pa_cons (pe_dget (hu_of hr) (pv 3) (pv 6) (fun _ _ => rfl)) pa_nil))))
      (pss_one (ps_set (i := 5) sc_price_of_way.nd rfl (Or.inl rfl) (pe_ix ix_tup (pe_dget (hu_of hr) (pv 3) (pv 6) (fun _ _ => rfl)) pe_int (fun _ _ => rfl)))))))
      (pss_one (ps_ret (pe_ifExp (pt_cmpR op_eq (pv 5) (pv 2) (nomark _)) (pv 4) pe_non))))))), ?_⟩
  have hLl : LV.length = legs.length := by rw [LG.keys.len, List.length_map]
  have h500 := LG.len
  refine ⟨_, rfl, a, rfl, ⟨_, SqL.of ha⟩, fun D' hD' => ?_⟩
  refine comp_list D' (K := K) (a := a) (xs := LV) (fun i σ H5 ys => ∃ (v : Option V), σ = [v] /\ Same H H5 /\ H5 D' = some (.lst ys) /\ ys.length = i /\ ∀ (j : Nat) v, ys[j]? = some v->∃ t g b, v = V.ref t /\ legs[j]? = some g /\ LV[j]? = some (V.ref b) /\ H5 t = some (.tup [V.int g.num, V.ref b])) ⟨none, rfl, Same.new hD', upd_same, rfl, fun j v e => (by cases e)⟩ (fun i σ H5 ys _ ⟨_, _, s5, _⟩ => SqL.of (s5 _ _ ha)) ?_ ?_
  · rintro i v σ H2 ys hi ⟨v0, rfl, s2, hD2, hyl, hys⟩
    obtain ⟨b, g, rfl, eg, hb⟩ := key_leg LG.keys hi
    have hil := (List.getElem?_eq_some_iff.mp hi).1
    have hb2 := s2 _ _ hb
    refine ⟨_, rfl, b, _, _, V.int g.num, rfl, rfl, SqT.of hb2, rfl, _, rfl, (by show 2 ≤ sizeLine; decide), fun t ht => ?_⟩
    have ndt : D' ≠ t := ne_of_none hD2 ht
    refine ⟨Same.new ht _ _ hD2, by rw [hyl]; exact small1000 (by omega), some (.ref b), rfl, fun b' o e => by rw [upd_ne (ne_of_none e hD')]; exact Same.new ht b' o (s2 b' o e), upd_same, by simp [hyl], fun j w' ew => ?_⟩
    by_cases hj : j < ys.length
    · rw [List.getElem?_append_left hj] at ew
      obtain ⟨t', g', b1, h1, h2, h3, h4⟩ := hys j w' ew
      refine ⟨t', g', b1, h1, h2, h3, ?_⟩
      rw [upd_ne (ne_of h4 hD2 (by intro z; cases z))]; exact Same.new ht _ _ h4
    · have hjl := (List.getElem?_eq_some_iff.mp ew).1
      have : j = ys.length := by simp at hjl; omega
      subst this
      rw [List.getElem?_append_right (Nat.le_refl _)] at ew
      simp at ew
      subst ew
      exact ⟨t, g, b, rfl, by rw [hyl]; exact eg, by rw [hyl]; exact hi, by rw [upd_ne ndt.symm]; exact upd_same⟩
  rintro σ H2 ys ⟨v0, rfl, s2, hD2, hyl, hys⟩
  refine ⟨D', ys, ((legs.zip LV).map fun x => (x.1.num, x.2)).map (fun x => ((Sum.inl x.1 : Key), x.2)), rfl, hD2, by simp; omega, fun j v e => ?_, fun sd hsd => ?_⟩
  · obtain ⟨t, g, b, h1, h2, h3, h4⟩ := hys j v e
    exact ⟨t, Sum.inl g.num, V.ref b, h1, h4, by rw [List.map_map, List.getElem?_map, List.getElem?_zip_eq_some (z := (g, V.ref b)) |>.mpr ⟨h2, h3⟩]; rfl⟩
  have hE : mergeK [] (((legs.zip LV).map fun x => (x.1.num, x.2)).map (fun x => ((Sum.inl x.1 : Key), x.2))) = numD LV legs := rfl
  rw [hE]
  have s3 : Same H2 (upd H2 sd (.dK (numD LV legs))) := Same.new hsd
  have hsd3 : upd H2 sd (.dK (numD LV legs)) sd = some (.dK (numD LV legs)) := upd_same
  generalize upd H2 sd (.dK (numD LV legs)) = H3 at s3 hsd3 ⊢
  refine gNameA [some (.ref a), some (.ref w), some (.int day), some (.ref sd), none, none, none] ?_
  refine ⟨(by show 3 ≤ sizeLine; decide), fun pt hpt => ?_⟩
  have s4 : Same H3 (upd H3 pt (.tup [V.int 0, V.int 0, V.int 0])) := Same.new hpt
  have hpt4 : upd H3 pt (.tup [V.int 0, V.int 0, V.int 0]) pt = some (.tup (([0, 0, 0] : List Int).map V.int)) := upd_same
  generalize upd H3 pt (.tup [V.int 0, V.int 0, V.int 0]) = H4 at s4 hpt4 ⊢
  refine gNameA [some (.ref a), some (.ref w), some (.int day), some (.ref sd), some (.ref pt), none, none] ?_
  refine ⟨_, rfl, ?_⟩
  refine gNameA [some (.ref a), some (.ref w), some (.int day), some (.ref sd), some (.ref pt), some (.int (-1)), none] ?_
  have s04 := (s2.trans s3).trans s4
  have LG0 := LG.mono fun t ys e => s04 t _ e
  have hsd4 := s4 _ _ hsd3
  have hw4 := s04 _ _ hw
  dsimp only
  refine cutA (fun σ' H' => ∃ (v6 : Option V) (t : Addr) (at' : Int) (p : List Int), σ' = [some (.ref a), some (.ref w), some (.int day), some (.ref sd), some (.ref t), some (.int at'), v6] /\ Same H4 H' /\ goP legs (-1) [0, 0, 0] ws = some (at', p) /\ H' t = some (.tup (p.map V.int))) (fun N hN => ?_) ?_
  · refine ⟨_, rfl, w, rfl, ⟨_, SqL.of hw4⟩, for_list (K := K) (a := w) (xs := ws.map V.int) (fun i σ H5 => ∃ (v6 : Option V) (t : Addr) (at' : Int) (p : List Int), σ = [some (.ref a), some (.ref w), some (.int day), some (.ref sd), some (.ref t), some (.int at'), v6] /\ Same H4 H5 /\ goP legs (-1) [0, 0, 0] (ws.take i) = some (at', p) /\ IsPr p /\ H5 t = some (.tup (p.map V.int))) ⟨none, pt, -1, _, rfl, Same.refl _, rfl, ⟨0, 0, 0, rfl⟩, hpt4⟩ (fun i σ H5 _ ⟨_, _, _, _, _, s', _⟩ => SqL.of (s' _ _ hw4)) ?_ ?_⟩
    · rintro i v σ H5 hi ⟨v6, t, at', p, rfl, s5, hg5, hp5, ht5⟩
      rw [List.getElem?_map, Option.map_eq_some_iff] at hi
      obtain ⟨n, hn, rfl⟩ := hi
      refine gNameA [some (.ref a), some (.ref w), some (.int day), some (.ref sd), some (.ref t), some (.int at'), some (.int n)] ?_
      have hsd5 := s5 _ _ hsd4
      have LG5 := LG0.mono fun t ys e => s5 t _ e
      dsimp only
      cases hf : legs.find? (fun g => decide (g.num = n)) with
      | none =>
        refine seq_ifT (fun Qb hq => ?_) ?_
        · refine ⟨_, rfl, _, rfl, sd, _, rfl, .inl ⟨_, Sum.inl n, .inl hsd5, rfl, rfl⟩, _, rfl, ?_⟩
          rw [numD_none LG5 (find_none hf)]
          exact iteT hq
        · refine q0 ?_ _ (s04.trans s5)
          unfold powB
          rw [goP_stop hn hg5 (by rw [goP_one, hf])]
      | some g =>
        obtain ⟨hgm, hgn⟩ := find_some hf
        obtain ⟨b, hvb, hb⟩ := numD_some LG5 hgm
        rw [hgn] at hvb
        by_cases hst : g.start = at'
        · refine seq_ifN (fun Qb hq => ?_) ?_
          · refine ⟨_, rfl, _, rfl, sd, _, rfl, .inl ⟨_, Sum.inl n, .inl hsd5, rfl, rfl⟩, _, rfl, ?_⟩
            rw [hvb]
            refine iteF ⟨_, rfl, _, rfl, sd, V.ref b, rfl, .inl ⟨_, Sum.inl n, .inl hsd5, rfl, hvb.symm⟩, b, _, _, V.int g.start, rfl, rfl, SqT.of hb, rfl, _, rfl, rfl, _, rfl, ?_⟩
            rw [hst, decide_eq_true rfl]; exact hq
          refine ⟨_, rfl, _, rfl, _, rfl, sd, V.ref b, rfl, .inl ⟨_, Sum.inl n, .inl hsd5, rfl, hvb.symm⟩, t, b, p, g, rfl, hp5, ht5, hb, fun u hu => ?_⟩
          have s6 : Same H5 (upd H5 u (.tup ((overT p g).map V.int))) := Same.new hu
          have hu6 : upd H5 u (.tup ((overT p g).map V.int)) u = some (.tup ((overT p g).map V.int)) := upd_same
          generalize upd H5 u (.tup ((overT p g).map V.int)) = H6 at s6 hu6 ⊢
          refine gNameA [some (.ref a), some (.ref w), some (.int day), some (.ref sd), some (.ref u), some (.int at'), some (.int n)] ?_
          refine ⟨_, rfl, _, rfl, sd, V.ref b, rfl, .inl ⟨_, Sum.inl n, .inl (s6 _ _ hsd5), rfl, hvb.symm⟩, b, _, _, V.int g.to, rfl, rfl, SqT.of (s6 _ _ hb), rfl, ?_⟩
          exact ⟨_, u, g.to, overT p g, rfl, s5.trans s6, goP_go hn hg5 hf hst, hp5.over g, hu6⟩
        · refine seq_ifT (fun Qb hq => ?_) ?_
          · refine ⟨_, rfl, _, rfl, sd, _, rfl, .inl ⟨_, Sum.inl n, .inl hsd5, rfl, rfl⟩, _, rfl, ?_⟩
            rw [hvb]
            refine iteF ⟨_, rfl, _, rfl, sd, V.ref b, rfl, .inl ⟨_, Sum.inl n, .inl hsd5, rfl, hvb.symm⟩, b, _, _, V.int g.start, rfl, rfl, SqT.of hb, rfl, _, rfl, rfl, _, rfl, ?_⟩
            rw [decide_eq_false (show ¬ V.int g.start = V.int at' from fun e => hst (V.int.inj e))]; exact hq
          · refine q0 ?_ _ (s04.trans s5)
            unfold powB
            rw [goP_stop hn hg5 (by rw [goP_one, hf]; exact if_neg hst)]
    · rintro σ H5 ⟨v6, t, at', p, rfl, s5, hg5, hp5, ht5⟩
      rw [List.length_map, List.take_length] at hg5
      exact hN _ _ ⟨v6, t, at', p, rfl, s5, hg5, ht5⟩
  rintro σ H5 ⟨v6, t, at', p, rfl, s5, hg5, ht5⟩
  refine ⟨_, rfl, _, rfl, rfl, _, rfl, ?_⟩
  by_cases he : at' = day
  · rw [decide_eq_true (show V.int at' = V.int day by rw [he])]
    refine iteT ⟨_, rfl, q1 p ?_ t _ ht5 (s04.trans s5)⟩
    unfold powB; rw [hg5]; exact if_pos he
  · rw [decide_eq_false (show ¬ V.int at' = V.int day from fun e => he (V.int.inj e))]
    refine iteF (q0 ?_ _ (s04.trans s5))
    unfold powB; rw [hg5]; exact if_neg he
theorem ok_holds {f : Addr} {fd : FuncData} (F : Fun K "holds" "holds" s_holds f fd) (T : Txt K mg) (D_days_rise : DefX P w K mg base "days_rise" 1 ["rows"] sp_rise) (D_leg_holds : DefX P w K mg base "leg_holds" 2 ["priced", "leg"] sp_legh) (D_price_of_way : DefX P w K mg base "price_of_way" 2 ["legs", "way", "day"] sp_pow) : FnOk P w K mg base (CXx P w) 3 f fd ["legs", "day", "told"] (sp_holds) := by
  refine F.okX sc_holds (fun vs H Q E h => ?_) (fun cdv A outer s H vs Q E hr h => ?_)
  · obtain ⟨a, t, rl, v, LV, RV, legs, day, way, rws, rfl, ha, LG, ht, hway, hrl, RP, q⟩ := h; rfl
  obtain ⟨a, t, rl, v, LV, RV, legs, day, way, rws, rfl, ha, LG, ht, hway, hrl, RP, q⟩ := h
  refine ⟨_, (pss_cons (ps_set (i := 3) sc_holds.nd rfl (Or.inl rfl) (pe_ix ix_tup (pv 2) pe_int (fun _ _ => rfl)))
      (pss_cons (ps_set (i := 4) sc_holds.nd rfl (Or.inl rfl) (pe_ix ix_tup (pv 2) pe_int (fun _ _ => rfl)))
      (pss_cons (ps_if (pt_not (pt_val (pe_callS D_days_rise passesN (hr.mono (by decide)) rfl (pa_cons (pv 4) pa_nil)))) (pss_one (ps_ret pe_bl)) pss_nil)
      (pss_cons (ps_set (i := 5) sc_holds.nd rfl (Or.inr rfl) (pe_callTy (call_dictP rfl) (by rfl) T.b_dict PyProof.Rows.boot_dict (pa_cons (pe_comp (N := ["row"]) (k := 1) (cap := []) rfl rfl (pi_list (pv 4)) (fun _ _ _ _ => (pg_name (i := 0) (show (["row"] : List Str).Nodup from by decide +kernel) rfl (Or.inl rfl) (.inr rfl))) (fun _ _ _ _ => pts_nil) (fun _ _ _ _ => (pe_tup (pa_cons (pe_ix (ix_tupK (K := K) rfl) (pv 0) pe_int (fun _ _ => rfl)) (pa_cons (pe_slice (sl_tupK (K := K) rfl) (pv 0) (po_some pe_int) po_none) pa_nil))))) pa_nil)))
      (pss_cons (ps_if (pt_not (pt_val (pe_callB (call_all_bl rfl) (by rfl) T.b_all PyProof.Rows.boot_all (pa_cons (pe_comp (N := ["leg", "priced"]) (k := 1) (cap := [5]) rfl rfl (pi_list (pv 0)) (fun _ _ _ _ => (pg_name (i := 0) (show (["leg", "priced"] : List Str).Nodup from by decide +kernel) rfl (Or.inl rfl) (.inr rfl))) (fun _ _ _ _ => pts_nil) (fun _ _ _ _ => (pe_callS D_leg_holds passesN (hr.mono (by decide)) rfl (pa_cons (pv 1) (pa_cons (pv 0) pa_nil))))) pa_nil)))) (pss_one (ps_ret pe_bl)) pss_nil)
      (pss_cons (ps_if (pt_cmpR op_isN (pv 3) pe_non (nomark _)) (pss_one (ps_ret (pe_cmp (pc_dnotin (hu_of hr) (pv 1) (pv 5))))) pss_nil)
      (pss_one (ps_ret (pe_and (pe_cmp (pc_din (hu_of hr) (pv 1) (pv 5))) (pe_one (pe_cmpR (op_eqN hr.units) (pe_callS D_price_of_way passesN (hr.mono (by decide)) rfl (pa_cons (pv 0) (pa_cons (pv 3) (pa_cons (pv 1) pa_nil)))) (pe_dget (hu_of hr) (pv 5) (pv 1) (fun _ _ => rfl)) (nomark _)))))))))))), ?_⟩
  refine ⟨_, rfl, t, _, _, v, rfl, rfl, SqT.of ht, rfl, ?_⟩
  refine gNameA [some (.ref a), some (.int day), some (.ref t), some v, none, none] ?_
  refine ⟨_, rfl, t, _, _, V.ref rl, rfl, rfl, SqT.of ht, rfl, ?_⟩
  refine gNameA [some (.ref a), some (.int day), some (.ref t), some v, some (.ref rl), none] ?_
  dsimp only
  cases hR : risesB (rws.map (·.1)) with
  | false =>
    refine seq_ifTP (fun H' => Same H H') (fun Qb hq => ?_) (fun H1 s1 => ?_)
    · refine ⟨_, rfl, rl, RV, rws, rfl, hrl, RP, fun H1 s1 => ⟨_, rfl, ?_⟩⟩
      rw [hR]; exact hq _ s1
    · have e : holdsB legs day way rws = false := by unfold holdsB; rw [hR]; rfl
      rw [← e]; exact q _ s1
  | true =>
  refine seq_ifP (fun H' => Same H H') (fun Qb hq => ?_) (fun H1 s1 => ?_)
  · refine ⟨_, rfl, rl, RV, rws, rfl, hrl, RP, fun H1 s1 => ⟨_, rfl, ?_⟩⟩
    rw [hR]; exact hq _ s1
  obtain ⟨hpw, hpos⟩ := rises_pos hR
  have hRl : RV.length = rws.length := by rw [RP.keys.len, List.length_map]
  have h60 := RP.len
  have hrl1 := s1 _ _ hrl
  have RP1 := RP.mono fun t ys e => s1 t _ e
  refine ⟨_, rfl, rl, rfl, ⟨_, SqL.of hrl1⟩, fun D' hD' => ?_⟩
  refine comp_list D' (K := K) (a := rl) (xs := RV) (fun i σ H5 ys => ∃ (v : Option V) (ps : List (Int × V)), σ = [v] /\ Same H1 H5 /\ H5 D' = some (.lst ys) /\ ys.length = i /\ ps.length = i /\ (∀ (j : Nat) v, ys[j]? = some v->∃ t d u q, v = V.ref t /\ H5 t = some (.tup [V.int d, V.ref u]) /\ ps[j]? = some (d, V.ref u) /\ rws[j]? = some (d, q) /\ H5 u = some (.tup (q.map V.int)))) ⟨none, [], rfl, Same.new hD', upd_same, rfl, rfl, fun j v e => (by cases e)⟩ (fun i σ H5 ys _ ⟨_, _, _, s5, _⟩ => SqL.of (s5 _ _ hrl1)) ?_ ?_
  · rintro i v σ H2 ys hi ⟨v0, ps, rfl, s2, hD2, hyl, hpl, hys⟩
    obtain ⟨t1, d, b, c, n, rfl, hr', ht1⟩ := key_row RP1 hi
    have hil := (List.getElem?_eq_some_iff.mp hi).1
    have ht2 := s2 _ _ ht1
    refine ⟨_, rfl, t1, _, _, V.int d, rfl, rfl, SqT.of ht2, rfl, _, rfl, _, rfl, t1, _, rfl, SqT.of ht2, (by show ¬ ((1 : Nat) = 0 /\ (4 : Nat) = 4); decide), fun u hu => ?_⟩
    have hu3 : upd H2 u (.tup (cutV [V.int d, V.int b, V.int c, V.int (n : Int)] (some 1) none)) u = some (.tup (([b, c, (n : Int)] : List Int).map V.int)) := upd_same
    have s3 : Same H2 (upd H2 u (.tup (cutV [V.int d, V.int b, V.int c, V.int (n : Int)] (some 1) none))) := Same.new hu
    generalize upd H2 u (.tup (cutV [V.int d, V.int b, V.int c, V.int (n : Int)] (some 1) none)) = H3 at hu3 s3 ⊢
    refine ⟨(by show 2 ≤ sizeLine; decide), fun t3 ht3 => ?_⟩
    have hD3 := s3 _ _ hD2
    have ndt : D' ≠ t3 := ne_of_none hD3 ht3
    have ndu : u ≠ D' := ne_of hu3 hD3 (by intro z; cases z)
    have ndt3 : u ≠ t3 := ne_of_none hu3 ht3
    refine ⟨Same.new ht3 _ _ hD3, by rw [hyl]; exact small1000 (by omega), some (.ref t1), ps ++ [(d, V.ref u)], rfl, fun b' o e => by rw [upd_ne (ne_of_none e hD')]; exact Same.new ht3 b' o (s3 b' o (s2 b' o e)), upd_same, by simp [hyl], by simp [hpl], fun j w' ew => ?_⟩
    by_cases hj : j < ys.length
    · rw [List.getElem?_append_left hj] at ew
      obtain ⟨t', d', u', q', h1, h2, h3, h4, h5⟩ := hys j w' ew
      refine ⟨t', d', u', q', h1, ?_, by rw [List.getElem?_append_left (by omega)]; exact h3, h4, ?_⟩
      · rw [upd_ne (ne_of h2 hD2 (by intro z; cases z))]; exact Same.new ht3 _ _ (s3 _ _ h2)
      · rw [upd_ne (ne_of h5 hD2 (by intro z; cases z))]; exact Same.new ht3 _ _ (s3 _ _ h5)
    · have hjl := (List.getElem?_eq_some_iff.mp ew).1
      have : j = ys.length := by simp at hjl; omega
      subst this
      rw [List.getElem?_append_right (Nat.le_refl _)] at ew
      simp at ew
      subst ew
      refine ⟨t3, d, u, _, rfl, by rw [upd_ne ndt.symm]; exact upd_same, by rw [hyl, ← hpl, List.getElem?_append_right (Nat.le_refl _)]; simp, by rw [hyl]; exact hr', ?_⟩
      rw [upd_ne ndu, upd_ne ndt3]; exact hu3
  rintro σ H2 ys ⟨v0, ps, rfl, s2, hD2, hyl, hpl, hys⟩
  refine ⟨D', ys, ps.map (fun x => ((Sum.inl x.1 : Key), x.2)), rfl, hD2, by rw [List.length_map]; omega, fun j v e => ?_, fun pd hpd => ?_⟩
  · obtain ⟨t', d', u', q', h1, h2, h3, h4, h5⟩ := hys j v e
    exact ⟨t', Sum.inl d', V.ref u', h1, h2, by rw [List.getElem?_map, h3]; rfl⟩
  have PR2 : PrAt H2 (mergeK [] (ps.map fun x => ((Sum.inl x.1 : Key), x.2))) (priO rws) := prAt_merge (by omega) (fun j d q hj => by
    have hjl := (List.getElem?_eq_some_iff.mp hj).1
    obtain ⟨t', d', u', q', h1, h2, h3, h4, h5⟩ := hys j _ (List.getElem?_eq_getElem (by omega))
    rw [hj] at h4
    cases h4
    exact ⟨u', h3, h5⟩) (pw_nd hpw)
  have s3 : Same H2 (upd H2 pd (.dK (mergeK [] (ps.map fun x => ((Sum.inl x.1 : Key), x.2))))) := Same.new hpd
  have hpd3 : upd H2 pd (.dK (mergeK [] (ps.map fun x => ((Sum.inl x.1 : Key), x.2)))) pd = some (.dK (mergeK [] (ps.map fun x => ((Sum.inl x.1 : Key), x.2)))) := upd_same
  generalize upd H2 pd (.dK (mergeK [] (ps.map fun x => ((Sum.inl x.1 : Key), x.2)))) = H3 at s3 hpd3 ⊢
  generalize mergeK [] (ps.map fun x => ((Sum.inl x.1 : Key), x.2)) = kvs at PR2 hpd3
  have PR3 := PR2.mono fun t ys e => s3 t _ e
  refine gNameA [some (.ref a), some (.int day), some (.ref t), some v, some (.ref rl), some (.ref pd)] ?_
  have s03 := (s1.trans s2).trans s3
  have ha3 := s03 _ _ ha
  have LG3 := LG.mono fun t ys e => s03 t _ e
  have hLl : LV.length = legs.length := by rw [LG.keys.len, List.length_map]
  have h500 := LG.len
  have hn1 := priO_neg hpos
  have hP0 : pri0 (priO rws) (-1) = some [0, 0, 0] := if_pos rfl
  have hall : ∀ Qb : Bool->Hp->Prop, (∀ H', Same H3 H'->Qb (!legs.all (legB (pri0 (priO rws)))) H')->(tNot (tB (tCB (fun xs H_1 Q => ∃ p, ∃ bs : List Bool, xs = [V.ref p] /\ SqL K H_1 p (List.map V.bl bs) /\ Q (V.bl (bs.all id)) H_1) (tCons (tComp 1 [5] (iList K (tVar 0)) (gName 0) tYes (tCallS sp_legh (fun _ => E0) (tCons (tVar 1) (tCons (tVar 0) tNil)))) tNil)))) [some (.ref a), some (.int day), some (.ref t), some v, some (.ref rl), some (.ref pd)] H3 Qb := fun Qb hq => by
    refine ⟨_, rfl, a, rfl, ⟨_, SqL.of ha3⟩, fun D2 hD2' => ?_⟩
    refine comp_list D2 (K := K) (a := a) (xs := LV) (fun i σ H5 ys => ∃ (v : Option V), σ = [v, some (.ref pd)] /\ Same H3 H5 /\ H5 D2 = some (.lst ys) /\ ys = ((legs.take i).map (legB (pri0 (priO rws)))).map V.bl) ⟨none, rfl, Same.new hD2', upd_same, rfl⟩ (fun i σ H5 ys _ ⟨_, _, s5, _⟩ => SqL.of (s5 _ _ ha3)) ?_ ?_
    · rintro i v σ H5 ys hi ⟨v0, rfl, s5, hD5, rfl⟩
      obtain ⟨b, g, rfl, eg, hb⟩ := key_leg LG3.keys hi
      have hil := (List.getElem?_eq_some_iff.mp hi).1
      refine ⟨_, rfl, _, rfl, pd, b, kvs, pri0 (priO rws), g, rfl, s5 _ _ hpd3, by rw [drop_pri0 hn1]; exact PR3.mono (fun t ys e => s5 t _ e), hP0, priO_pr RP.pr, s5 _ _ hb, LG.ok g (List.mem_of_getElem? eg), fun H6 s6 => ?_⟩
      refine ⟨s6 _ _ hD5, by rw [List.length_map, List.length_map, List.length_take]; exact small1000 (by omega), some (.ref b), rfl, fun b' o e => by rw [upd_ne (ne_of_none e hD2')]; exact s6 b' o (s5 b' o e), upd_same, ?_⟩
      rw [List.take_add_one, eg]; simp
    rintro σ H5 ys ⟨v0, rfl, s5, hD5, rfl⟩
    rw [hLl, List.take_length] at hD5
    refine ⟨D2, _, rfl, SqL.of hD5, _, rfl, ?_⟩
    rw [List.all_map]
    exact hq _ s5
  have hh : holdsB legs day way rws = (legs.all (legB (pri0 (priO rws))) && endB legs (priO rws) day way) := by unfold holdsB; rw [hR]; rfl
  rw [hh] at q
  dsimp only
  cases hA : legs.all (legB (pri0 (priO rws))) with
  | false =>
    rw [hA] at hall q
    exact seq_ifTP (fun H' => Same H3 H') hall (fun H4 s4 => q _ (s03.trans s4))
  | true =>
  rw [hA] at hall q
  refine seq_ifP (fun H' => Same H3 H') hall (fun H4 s4 => ?_)
  have s04 := s03.trans s4
  have hpd4 := s4 _ _ hpd3
  have PR4 := PR3.mono fun t ys e => s4 t _ e
  have hv := PR4.val day
  cases way with
  | none =>
    have e : v = .non := hway
    subst e
    refine seq_ifT (fun Qb hq => ⟨_, rfl, rfl, _, rfl, hq⟩) ?_
    refine ⟨_, rfl, _, rfl, pd, _, rfl, .inl ⟨kvs, Sum.inl day, .inl hpd4, rfl, rfl⟩, ?_⟩
    rw [hv.is]
    have e2 : (!(priO rws day).isSome) = (true && endB legs (priO rws) day none) := by
      show _ = (priO rws day).isNone
      cases priO rws day <;> rfl
    rw [e2]; exact q _ s04
  | some ws =>
    obtain ⟨w, rfl, hw⟩ := hway
    refine seq_ifN (fun Qb hq => ⟨_, rfl, rfl, _, rfl, hq⟩) ?_
    refine ⟨_, rfl, _, rfl, pd, _, rfl, .inl ⟨kvs, Sum.inl day, .inl hpd4, rfl, rfl⟩, _, rfl, ?_⟩
    cases hp : priO rws day with
    | none =>
      rw [hp] at hv
      rw [hv.none_of]
      refine iteF ?_
      have e2 : (true && endB legs (priO rws) day (some ws)) = false := by
        show (match priO rws day with | none => false | some q => decide (powB legs ws day = some q)) = false
        rw [hp]
      rw [← e2]; exact q _ s04
    | some p =>
      rw [hp] at hv
      obtain ⟨qa, hqa, hqa'⟩ := hv.some_of
      rw [hqa]
      refine iteT ⟨_, rfl, _, rfl, _, rfl, a, w, LV, legs, ws, day, rfl, s04 _ _ ha, LG.mono (fun t ys e => s04 t _ e), s04 _ _ hw, fun hn H5 s5 => ?_, fun p' hp' t5 H5 ht5 s5 => ?_⟩
      · refine ⟨_, rfl, _, rfl, pd, V.ref qa, rfl, .inl ⟨kvs, Sum.inl day, .inl (s5 _ _ hpd4), rfl, hqa.symm⟩, .inr (.inl ⟨qa, _, rfl, rfl, SqT.of (s5 _ _ hqa'), ?_⟩)⟩
        have e2 : (true && endB legs (priO rws) day (some ws)) = false := by
          show (match priO rws day with | none => false | some q => decide (powB legs ws day = some q)) = false
          rw [hp]
          show decide (powB legs ws day = some p) = false
          rw [hn]; exact decide_eq_false (by intro z; cases z)
        rw [← e2]; exact q _ (s04.trans s5)
      · refine ⟨_, rfl, _, rfl, pd, V.ref qa, rfl, .inl ⟨kvs, Sum.inl day, .inl (s5 _ _ hpd4), rfl, hqa.symm⟩, .inl ⟨0, decide (p' = p), by decide, SeqEq.intsT (SqT.of ht5) (SqT.of (s5 _ _ hqa')), ?_⟩⟩
        have e2 : (true && endB legs (priO rws) day (some ws)) = decide (p' = p) := by
          show (match priO rws day with | none => false | some q => decide (powB legs ws day = some q)) = _
          rw [hp]
          show decide (powB legs ws day = some p) = _
          rw [hp']
          exact decide_eq_decide.mpr ⟨fun h => Option.some.inj h, fun h => by rw [h]⟩
        rw [← e2]; exact q _ (s04.trans s5)
theorem ok__law_known {f : Addr} {fd : FuncData} (F : Fun K "_law_known" "_law_known" s__law_known f fd) (T : Txt K mg) (D__law_behind : DefX P w K mg base "_law_behind" 1 ["_law_price", "_law_leg_here"] sp_over) : FnOk P w K mg base (CXx P w) 2 f fd ["_law_legs_here"] (sp_known) := by
  refine F.okX sc__law_known (fun vs H Q E h => ?_) (fun cdv A outer s H vs Q E hr h => ?_)
  · obtain ⟨ll, LV, legs, P, rfl, hll, LG, LP, q⟩ := h; rfl
  obtain ⟨ll, LV, legs, P, rfl, hll, LG, LP, q⟩ := h
  refine ⟨_, (pss_cons (ps_set (i := 1) sc__law_known.nd rfl (Or.inl rfl) (pe_disp (pps_cons (pe_un un_neg pe_int) (pe_tup (pa_cons pe_int (pa_cons pe_int (pa_cons pe_int pa_nil)))) pps_nil) rfl rfl (by decide) (by decide)))
      (pss_cons (ps_set (i := 2) sc__law_known.nd rfl (Or.inl rfl) pe_bl)
      (pss_cons (ps_while PassesOwn.leaving (pt_val (pv 2)) (pss_cons (ps_set (i := 2) sc__law_known.nd rfl (Or.inl rfl) pe_bl)
      (pss_one (ps_for PassesOwn.leaving rfl (pi_list (pv 0)) (pg_name (i := 3) sc__law_known.nd rfl (Or.inl rfl))
      (pss_one (ps_if (pt_cmp (pc_din (hu_of hr) (pe_ix ix_tup (pv 3) pe_int (fun _ _ => rfl)) (pv 1))) (pss_cons (ps_set (i := 4) sc__law_known.nd rfl (Or.inl rfl) (pe_callS D__law_behind passesN (hr.mono (by decide)) rfl (pa_cons (pe_dget (hu_of hr) (pv 1) (pe_ix ix_tup (pv 3) pe_int (fun _ _ => rfl)) (fun _ _ => rfl)) (pa_cons (pv 3) pa_nil))))
      (pss_one (ps_if (PW.pt (pw_or (pt_cmp (pc_dnotin (hu_of hr) (pe_ix ix_tup (pv 3) pe_int (fun _ _ => rfl)) (pv 1))) (pw_or1 (pt_cmpR (op_ltO (Nat.lt_of_le_of_lt (Nat.le_add_right _ 64) hr.units)) (pv 4) (pe_dget (hu_of hr) (pv 1) (pe_ix ix_tup (pv 3) pe_int (fun _ _ => rfl)) (fun _ _ => rfl)) (nomark _))))) (pss_cons (ps_dput (hu_of hr) (pv 1) (pe_ix ix_tup (pv 3) pe_int (fun _ _ => rfl)) (pv 4) rfl)
      (pss_one (ps_set (i := 2) sc__law_known.nd rfl (Or.inl rfl) pe_bl))) pss_nil))) pss_nil))))))
      (pss_one (ps_ret (pv 1)))))), ?_⟩
  have hok := LG.ok
  have h500 := LG.len
  have R := LG.keys
  have hcnt : ∀ (d b c : Int) (n : Nat), P d = some [b, c, (n : Int)]->n ≤ legs.length := fun d b c n h => least_cnt LP h
  intro d hd
  refine ⟨_, rfl, (by show 3 ≤ sizeLine; decide), fun z hz => ?_⟩
  have ndz : d ≠ z := ne_of_none upd_same hz
  refine ⟨by rw [upd_ne ndz]; exact upd_same, [(Sum.inl (-1), V.ref z)], rfl, by simp, ?_⟩
  rw [show mergeK [] [((Sum.inl (-1) : Key), V.ref z)] = [((Sum.inl (-1) : Key), V.ref z)] from rfl]
  have s1 : Same H (upd (upd (upd H d (.dK [])) z (.tup [V.int 0, V.int 0, V.int 0])) d (.dK [(Sum.inl (-1), V.ref z)])) := fun b o e => by rw [upd_ne (ne_of_none e hd), upd_ne (ne_of_none (by rw [upd_ne (ne_of_none e hd)]; exact e) hz), upd_ne (ne_of_none e hd)]; exact e
  have hd1 : upd (upd (upd H d (.dK [])) z (.tup [V.int 0, V.int 0, V.int 0])) d (.dK [(Sum.inl (-1), V.ref z)]) d = some (.dK [((Sum.inl (-1) : Key), V.ref z)]) := upd_same
  have hz1 : upd (upd (upd H d (.dK [])) z (.tup [V.int 0, V.int 0, V.int 0])) d (.dK [(Sum.inl (-1), V.ref z)]) z = some (.tup (([0, 0, 0] : List Int).map V.int)) := by rw [upd_ne ndz.symm]; exact upd_same
  generalize upd (upd (upd H d (.dK [])) z (.tup [V.int 0, V.int 0, V.int 0])) d (.dK [(Sum.inl (-1), V.ref z)]) = H1 at s1 hd1 hz1 ⊢
  refine gNameA [some (.ref ll), some (.ref d), none, none, none] ?_
  dsimp only
  refine gNameA [some (.ref ll), some (.ref d), some (.bl true), none, none] ?_
  have hLl : LV.length = legs.length := by rw [R.len, List.length_map]
  dsimp only
  refine cutA (fun σ H' => ∃ (v3 v4 : Option V) (kvs : List (Key × V)), σ = [some (.ref ll), some (.ref d), some (.bl false), v3, v4] /\ Same H H' /\ H' d = some (.dK kvs) /\ PrAt H' kvs P) (fun N hN => ?_) ?_
  · refine ⟨fun m σ H' => ∃ r : Nat, ∃ (v3 v4 : Option V) (kvs : List (Key × V)) (B : Int->Option (List Int)) (bm : Bool), σ = [some (.ref ll), some (.ref d), some (.bl bm), v3, v4] /\ Same H H' /\ H' d = some (.dK kvs) /\ PrAt H' kvs B /\ Near P B /\ Sett P B r /\ (bm = false->∀ g ∈ legs, ClosedP B g) /\ (bm = true->r ≤ legs.length) /\ m = if bm = true then legs.length + 1 - r else 0, ⟨_, 0, none, none, _, _, true, rfl, s1, hd1, PrAt.start hz1, Near.start LP, Sett.start LP, fun h => (by cases h), fun _ => Nat.zero_le _, rfl⟩, ?_⟩
    rintro m σ H2 ⟨r, v3, v4, kvs, B, bm, rfl, s2, hd2, PR, hN1, hS1, hcl, hrl, rfl⟩
    refine ⟨_, rfl, _, rfl, ?_⟩
    cases bm with
    | false =>
      have := hN1.done LP (hcl rfl)
      subst this
      exact iteF (hN _ _ ⟨v3, v4, kvs, rfl, s2, hd2, PR⟩)
    | true =>
      have hrl := hrl rfl
      refine iteT ⟨_, fun σ' H' h => h, ?_⟩
      refine gNameA [some (.ref ll), some (.ref d), some (.bl false), v3, v4] ?_
      refine ⟨_, rfl, ll, rfl, ⟨_, SqL.of (s2 _ _ hll)⟩, for_list (K := K) (a := ll) (xs := LV) (fun i σ H' => ∃ (v3 v4 : Option V) (kvs : List (Key × V)) (B : Int->Option (List Int)) (bm : Bool), σ = [some (.ref ll), some (.ref d), some (.bl bm), v3, v4] /\ Same H H' /\ H' d = some (.dK kvs) /\ PrAt H' kvs B /\ Near P B /\ Sett P B r /\ (∀ g ∈ legs.take i, DoneP P B r g) /\ (bm = false->∀ g ∈ legs.take i, ClosedP B g) /\ (bm = true->r < legs.length)) ⟨v3, v4, kvs, B, false, rfl, s2, hd2, PR, hN1, hS1, fun g hg => (by cases hg), fun _ g hg => (by cases hg), fun h => (by cases h)⟩ (fun i σ H' _ ⟨_, _, _, _, _, _, s', _⟩ => SqL.of (s' _ _ hll)) ?_ ?_⟩
      · clear hd2 PR hN1 hS1 hcl s2
        rintro i v σ H2 hi ⟨v3, v4, kvs, B, bm, rfl, s2, hd2, PR, hN1, hS1, hDn, hcl, hlt⟩
        have hil : i < legs.length := by have := (List.getElem?_eq_some_iff.mp hi).1; omega
        obtain ⟨b, g, rfl, eg, hb⟩ := key_leg R hi
        have hgm : g ∈ legs := List.mem_of_getElem? eg
        have hb2 := s2 _ _ hb
        have hto : g.to ≠ -1 := by have := (hok g hgm).1; omega
        have tk : ∀ g', g' ∈ legs.take (i + 1)->g' ∈ legs.take i ∨ g' = g := fun g' h => by
          rw [List.take_add_one, eg] at h
          rcases List.mem_append.mp h with h | h
          · exact .inl h
          · exact .inr (List.mem_singleton.mp h)
        refine gNameA [some (.ref ll), some (.ref d), some (.bl bm), some (.ref b), v4] ?_
        have hvs := PR.val g.start
        have hvt := PR.val g.to
        dsimp only
        cases hC : B g.start with
        | none =>
          rw [hC] at hvs
          have hcg : ClosedP B g := fun p h => by rw [hC] at h; cases h
          refine if_noP (fun H' => H2 = H') (fun Qb hq => ?_) ?_
          · refine ⟨_, rfl, b, _, _, V.int g.start, rfl, rfl, SqT.of hb2, rfl, _, rfl, d, _, rfl, .inl ⟨kvs, Sum.inl g.start, .inl hd2, rfl, rfl⟩, _, rfl, ?_⟩
            rw [hvs.none_of]; exact hq _ rfl
          rintro _ rfl
          exact ⟨_, _, kvs, B, bm, rfl, s2, hd2, PR, hN1, hS1, fun g' hg' => (tk g' hg').elim (hDn g') (fun e => by rw [e]; exact DoneP.old hS1 hcg), fun hb g' hg' => (tk g' hg').elim (hcl hb g') (fun e => by rw [e]; exact hcg), hlt⟩
        | some p =>
          rw [hC] at hvs
          obtain ⟨pa, hpa, hpa'⟩ := hvs.some_of
          refine if_yesP (fun H' => H2 = H') (fun Qb hq => ?_) ?_
          · refine ⟨_, rfl, b, _, _, V.int g.start, rfl, rfl, SqT.of hb2, rfl, _, rfl, d, _, rfl, .inl ⟨kvs, Sum.inl g.start, .inl hd2, rfl, rfl⟩, _, rfl, ?_⟩
            rw [hpa]; exact hq _ rfl
          rintro _ rfl
          have hpr := hN1.pr _ _ hC
          refine ⟨_, rfl, _, rfl, b, _, _, V.int g.start, rfl, rfl, SqT.of hb2, rfl, d, V.ref pa, rfl, .inl ⟨kvs, Sum.inl g.start, .inl hd2, rfl, hpa.symm⟩, _, rfl, pa, b, p, g, rfl, hpr, hpa', hb2, fun t ht => ?_⟩
          have s3 : Same H2 (upd H2 t (.tup ((overT p g).map V.int))) := Same.new ht
          have ht3 : upd H2 t (.tup ((overT p g).map V.int)) t = some (.tup ((overT p g).map V.int)) := upd_same
          generalize upd H2 t (.tup ((overT p g).map V.int)) = H3 at s3 ht3 ⊢
          refine gNameA [some (.ref ll), some (.ref d), some (.bl bm), some (.ref b), some (.ref t)] ?_
          have hd3 := s3 _ _ hd2
          have hb3 := s3 _ _ hb2
          have PR3 := PR.mono fun t ys e => s3 t _ e
          have hvt := PR3.val g.to
          have hfew := PR3.few fun d h => hN1.only LP h
          dsimp only
          by_cases hl : LessP B g.to (overT p g)
          · refine if_yesP (fun H' => H3 = H') (fun Qb hq => ?_) ?_
            · refine ⟨_, rfl, b, _, _, V.int g.to, rfl, rfl, SqT.of hb3, rfl, _, rfl, d, _, rfl, .inl ⟨kvs, Sum.inl g.to, .inl hd3, rfl, rfl⟩, _, rfl, ?_⟩
              cases hC2 : B g.to with
              | none =>
                rw [hC2] at hvt
                rw [hvt.none_of]; exact iteT (hq _ rfl)
              | some q' =>
                rw [hC2] at hvt
                obtain ⟨qa, hqa, hqa'⟩ := hvt.some_of
                rw [hqa]
                refine iteF ⟨_, rfl, _, rfl, _, rfl, b, _, _, V.int g.to, rfl, rfl, SqT.of hb3, rfl, d, V.ref qa, rfl, .inl ⟨kvs, Sum.inl g.to, .inl hd3, rfl, hqa.symm⟩, ltO_of (tu := true) (ks := overT p g) (ls := q') ⟨t, rfl, ht3⟩ ⟨qa, rfl, hqa'⟩ ?_⟩
                rw [hl q' hC2]
                exact ⟨_, rfl, hq _ rfl⟩
            rintro _ rfl
            obtain ⟨hS2, hr2⟩ := Sett.put LP hN1 hS1 hgm hC hl hcnt
            refine ⟨_, rfl, _, rfl, _, rfl, b, _, _, V.int g.to, rfl, rfl, SqT.of hb3, rfl, d, _, rfl, DPut.k (k := Sum.inl g.to) hd3 (small1000 (by omega)), ?_⟩
            have tk3 : ∀ t' ys, H3 t' = some (.tup ys)->upd H3 d (.dK (putK kvs (Sum.inl g.to) (.ref t))) t' = some (.tup ys) := fun t' ys e => by rw [upd_ne (ne_of e hd3 (by intro z; cases z))]; exact e
            refine ⟨_, _, _, _, true, rfl, fun b' o e => ?_, upd_same, (PR3.putG ht3).mono tk3, hN1.put LP hgm hto hC, hS2, fun g' hg' => (tk g' hg').elim (fun h => (hDn g' h).put hN1 hC hl) (fun e => by rw [e]; exact DoneP.new hS1 hC), fun h => (by cases h), fun _ => hr2⟩
            rw [upd_ne (ne_of_none e hd)]; exact s3 b' o (s2 b' o e)
          · have hcg : ClosedP B g := fun p' h => by
              rw [hC] at h
              cases h
              cases hC2 : B g.to with
              | none => exact absurd (fun q' h => by rw [hC2] at h; cases h) hl
              | some q' =>
                refine ⟨q', rfl, ?_⟩
                show HT.lexLt _ _ = false
                cases e : HT.lexLt (overT p g) q' with
                | false => rfl
                | true => exact absurd (fun q'' h => by rw [hC2] at h; cases h; exact e) hl
            refine if_noP (fun H' => H3 = H') (fun Qb hq => ?_) ?_
            · refine ⟨_, rfl, b, _, _, V.int g.to, rfl, rfl, SqT.of hb3, rfl, _, rfl, d, _, rfl, .inl ⟨kvs, Sum.inl g.to, .inl hd3, rfl, rfl⟩, _, rfl, ?_⟩
              obtain ⟨q', hC2, hle⟩ := hcg _ hC
              rw [hC2] at hvt
              obtain ⟨qa, hqa, hqa'⟩ := hvt.some_of
              rw [hqa]
              refine iteF ⟨_, rfl, _, rfl, _, rfl, b, _, _, V.int g.to, rfl, rfl, SqT.of hb3, rfl, d, V.ref qa, rfl, .inl ⟨kvs, Sum.inl g.to, .inl hd3, rfl, hqa.symm⟩, ltO_of (tu := true) (ks := overT p g) (ls := q') ⟨t, rfl, ht3⟩ ⟨qa, rfl, hqa'⟩ ?_⟩
              rw [show HT.lexLt (overT p g) q' = false from hle]
              exact ⟨_, rfl, hq _ rfl⟩
            rintro _ rfl
            exact ⟨_, _, kvs, B, bm, rfl, s2.trans s3, hd3, PR3, hN1, hS1, fun g' hg' => (tk g' hg').elim (hDn g') (fun e => by rw [e]; exact DoneP.old hS1 hcg), fun hb g' hg' => (tk g' hg').elim (hcl hb g') (fun e => by rw [e]; exact hcg), hlt⟩
      · rintro σ H2 ⟨v3, v4, kvs, B, bm, rfl, s2, hd2, PR, hN1, hS1, hDn, hcl, hlt⟩
        rw [hLl, List.take_length] at hcl hDn
        refine ⟨if bm = true then legs.length + 1 - (r + 1) else 0, ?_, r + 1, v3, v4, kvs, B, bm, rfl, s2, hd2, PR, hN1, Sett.next LP hN1 hS1 hDn, hcl, fun h => hlt h, rfl⟩
        rw [if_pos rfl]
        split <;> omega
  rintro σ H2 ⟨v3, v4, kvs, rfl, s2, hd2, PR⟩
  exact ⟨_, rfl, q d kvs H2 hd2 PR hd s2⟩
theorem ok__law_walk {f : Addr} {fd : FuncData} (F : Fun K "_law_walk" "_law_walk" s__law_walk f fd) (T : Txt K mg) (D__law_behind : DefX P w K mg base "_law_behind" 1 ["_law_price", "_law_leg_here"] sp_over) : FnOk P w K mg base (CXx P w) 2 f fd ["_law_legs_here", "_law_cells"] (sp_walk) := by
  refine F.okX sc__law_walk (fun vs H Q E h => ?_) (fun cdv A outer s H vs Q E hr h => ?_)
  · obtain ⟨ll, cl, LV, legs, xs, rfl, hll, LG, hcl, h63, q⟩ := h; rfl
  obtain ⟨ll, cl, LV, legs, xs, rfl, hll, LG, hcl, h63, q⟩ := h
  refine ⟨_, (pss_cons (ps_set (i := 2) sc__law_walk.nd rfl (Or.inl rfl) (pe_lst pa_nil))
      (pss_cons (ps_set (i := 3) sc__law_walk.nd rfl (Or.inr rfl) (pe_un un_neg pe_int))
      (pss_cons (ps_set (i := 4) sc__law_walk.nd rfl (Or.inl rfl) (pe_tup (pa_cons pe_int (pa_cons pe_int (pa_cons pe_int pa_nil)))))
      (pss_cons (ps_for PassesOwn.leaving rfl (pi_list (pv 1)) (pg_name (i := 5) sc__law_walk.nd rfl (Or.inl rfl))
      (pss_cons (ps_setComp (i := 6) sc__law_walk.nd rfl (Or.inl rfl) (N := ["_law_leg_here", "_law_here"]) (k := 1) (cap := [3]) rfl rfl (pi_list (pv 0)) (fun _ _ _ _ => (pg_name (i := 0) (show (["_law_leg_here", "_law_here"] : List Str).Nodup from by decide +kernel) rfl (Or.inl rfl) (.inr rfl))) (fun _ _ _ _ => (pts_one (pt_cmpR op_eq (pe_ix (ix_tupK (K := K) rfl) (pv 0) pe_int (fun _ _ => rfl)) (pv 1) (nomark _)))) (fun _ _ _ _ => (pv 0)))
      (pss_cons (ps_if (PW.pt (pw_or (pt_cmpR (op_eq_ref hr.units) (pv 6) (pe_lst pa_nil) (nomark _)) (pw_or1 (PW.pt (pw_and (pt_cmpR (op_ne_ref hr.units) (pv 2) (pe_lst pa_nil) (nomark _)) (pw_and1 (pt_cmpR op_eq (pe_op op_mod (pv 5) pe_int) pe_int (nomark _)))))))) (pss_one (ps_ret (pe_lst (pa_cons (pv 2) (pa_cons (pv 3) (pa_cons (pv 4) pa_nil)))))) pss_nil)
      (pss_cons (ps_set (i := 7) sc__law_walk.nd rfl (Or.inl rfl) (pe_ix ix_list (pv 6) (pe_op op_mod (pe_op op_fdivB (pv 5) pe_int) (pe_callB call_len_seq (by rfl) T.b_len PySem.boot_len (pa_cons (pv 6) pa_nil))) (fun _ _ => rfl)))
      (pss_cons (ps_expr (pe_bm PySem.F.plainAttrs_list PySem.F.slot_list_append PySem.F.type_list_append mt_append (pv 2) (pa_cons (pe_ix ix_tup (pv 7) pe_int (fun _ _ => rfl)) pa_nil)))
      (pss_cons (ps_set (i := 4) sc__law_walk.nd rfl (Or.inl rfl) (pe_callS D__law_behind passesN (hr.mono (by decide)) rfl (pa_cons (pv 4) (pa_cons (pv 7) pa_nil))))
      (pss_one (ps_set (i := 3) sc__law_walk.nd rfl (Or.inr rfl) (pe_ix ix_tup (pv 7) pe_int (fun _ _ => rfl))))))))))
      (pss_one (ps_ret (pe_lst (pa_cons (pv 2) (pa_cons (pv 3) (pa_cons (pv 4) pa_nil)))))))))), ?_⟩
  have h500 := LG.len
  have hLl : LV.length = legs.length := by rw [LG.keys.len, List.length_map]
  refine ⟨Nat.zero_le _, fun wl hwl => ?_⟩
  have s1 : Same H (upd H wl (.lst [])) := Same.new hwl
  have hwl1 : upd H wl (.lst []) wl = some (.lst (([] : List Int).map V.int)) := upd_same
  generalize upd H wl (.lst []) = H1 at s1 hwl1 ⊢
  refine gNameA [some (.ref ll), some (.ref cl), some (.ref wl), none, none, none, none, none] ?_
  refine ⟨_, rfl, ?_⟩
  refine gNameA [some (.ref ll), some (.ref cl), some (.ref wl), some (.int (-1)), none, none, none, none] ?_
  refine ⟨(by show 3 ≤ sizeLine; decide), fun pt hpt => ?_⟩
  have s2 : Same H1 (upd H1 pt (.tup [V.int 0, V.int 0, V.int 0])) := Same.new hpt
  have hpt2 : upd H1 pt (.tup [V.int 0, V.int 0, V.int 0]) pt = some (.tup (([0, 0, 0] : List Int).map V.int)) := upd_same
  have hwl2 := s2 _ _ hwl1
  have s02 := s1.trans s2
  generalize upd H1 pt (.tup [V.int 0, V.int 0, V.int 0]) = H2 at s2 hpt2 hwl2 s02 ⊢
  refine gNameA [some (.ref ll), some (.ref cl), some (.ref wl), some (.int (-1)), some (.ref pt), none, none, none] ?_
  have tell : ∀ (σ : St) (H5 : Hp) (t : Addr) (here : Int) (p ws : List Int) (v5 v6 v7 : Option V), σ = [some (.ref ll), some (.ref cl), some (.ref wl), some (.int here), some (.ref t), v5, v6, v7]->(∀ b o, H b = some o->H5 b = some o)->H5 wl = some (.lst (ws.map V.int))->H5 t = some (.tup (p.map V.int))->goP legs (-1) [0, 0, 0] ws = some (here, p)->IsPr p->(ws ≠ []->∃ g ∈ legs, g.to = here)->ws.length ≤ 63->tLst (tCons (tVar 2) (tCons (tVar 3) (tCons (tVar 4) tNil))) σ H5 Q := by
    rintro σ H5 t here p ws v5 v6 v7 rfl k5 hw5 ht5 hgo hpr hto hl
    refine ⟨_, rfl, _, rfl, _, rfl, (by show 3 ≤ sizeLine; decide), fun r hr5 => ?_⟩
    have s6 : Same H5 (upd H5 r (.lst [V.ref wl, V.int here, V.ref t])) := Same.new hr5
    exact q r wl t ws here p _ upd_same (s6 _ _ hw5) (s6 _ _ ht5) hgo hpr hto hl (Same.free k5 hr5) hwl (fun b o e => s6 b o (k5 b o e))
  have hcl2 := s02 _ _ hcl
  dsimp only
  refine cutA (fun σ' H' => ∃ (t : Addr) (here : Int) (p ws : List Int) (v5 v6 v7 : Option V), σ' = [some (.ref ll), some (.ref cl), some (.ref wl), some (.int here), some (.ref t), v5, v6, v7] /\ (∀ b o, H b = some o->H' b = some o) /\ H' wl = some (.lst (ws.map V.int)) /\ H' t = some (.tup (p.map V.int)) /\ goP legs (-1) [0, 0, 0] ws = some (here, p) /\ IsPr p /\ (ws ≠ []->∃ g ∈ legs, g.to = here) /\ ws.length ≤ 63) (fun N hN => ?_) ?_
  · refine ⟨_, rfl, cl, rfl, ⟨_, SqL.of hcl2⟩, for_list (K := K) (a := cl) (xs := xs.map V.int) (fun i σ H5 => ∃ (t : Addr) (here : Int) (p ws : List Int) (v5 v6 v7 : Option V), σ = [some (.ref ll), some (.ref cl), some (.ref wl), some (.int here), some (.ref t), v5, v6, v7] /\ (∀ b o, H b = some o->H5 b = some o) /\ H5 wl = some (.lst (ws.map V.int)) /\ H5 t = some (.tup (p.map V.int)) /\ goP legs (-1) [0, 0, 0] ws = some (here, p) /\ IsPr p /\ (ws ≠ []->∃ g ∈ legs, g.to = here) /\ ws.length ≤ i) ⟨pt, -1, [0, 0, 0], [], none, none, none, rfl, fun b o e => s02 b o e, hwl2, hpt2, rfl, ⟨0, 0, 0, rfl⟩, fun h => absurd rfl h, Nat.le_refl _⟩ (fun i σ H5 _ ⟨_, _, _, _, _, _, _, _, k5, _⟩ => SqL.of (k5 _ _ hcl)) ?_ ?_⟩
    · rintro i v σ H5 hi ⟨t, here, p, ws, v5, v6, v7, rfl, k5, hw5, ht5, hgo, hpr, hto, hwi⟩
      have hil := (List.getElem?_eq_some_iff.mp hi).1
      rw [List.length_map] at hil
      rw [List.getElem?_map, Option.map_eq_some_iff] at hi
      obtain ⟨c, hc, rfl⟩ := hi
      refine gNameA [some (.ref ll), some (.ref cl), some (.ref wl), some (.int here), some (.ref t), some (.int c), v6, v7] ?_
      have hll5 := k5 _ _ hll
      have LG5 : LegsP H5 LV legs := LG.mono fun t ys e => k5 t _ e
      refine ⟨_, rfl, ll, rfl, ⟨_, SqL.of hll5⟩, fun D' hD' => ?_⟩
      refine comp_list D' (K := K) (a := ll) (xs := LV) (fun i σ H6 ys => ∃ (v : Option V), σ = [v, some (.int here)] /\ Same H5 H6 /\ H6 D' = some (.lst ys) /\ ys.length ≤ i /\ ∀ y ∈ ys, ∃ b g, y = V.ref b /\ g ∈ legs /\ g.start = here /\ H5 b = some (.tup ((legT g).map V.int))) ⟨none, rfl, Same.new hD', upd_same, Nat.le_refl _, fun y hy => (by cases hy)⟩ (fun i σ H6 ys _ ⟨_, _, s6, _⟩ => SqL.of (s6 _ _ hll5)) ?_ ?_
      · rintro j v σ H6 ys hj ⟨v0, rfl, s6, hD6, hyl, hys⟩
        obtain ⟨b, g, rfl, eg, hb⟩ := key_leg LG5.keys hj
        have hjl := (List.getElem?_eq_some_iff.mp hj).1
        refine ⟨_, rfl, b, _, _, V.int g.start, rfl, rfl, SqT.of (s6 _ _ hb), rfl, _, rfl, rfl, _, rfl, ?_⟩
        by_cases hs : g.start = here
        · rw [decide_eq_true (show V.int g.start = V.int here by rw [hs])]
          refine iteT ⟨_, rfl, hD6, small1000 (by omega), some (.ref b), rfl, fun b' o e => by rw [upd_ne (ne_of_none e hD')]; exact s6 b' o e, upd_same, by simp; omega, fun y hy => ?_⟩
          rcases List.mem_append.mp hy with hy | hy
          · exact hys y hy
          · rw [List.mem_singleton.mp hy]
            exact ⟨b, g, rfl, List.mem_of_getElem? eg, hs, hb⟩
        · rw [decide_eq_false (show ¬ V.int g.start = V.int here from fun e => hs (V.int.inj e))]
          exact iteF ⟨some (.ref b), rfl, s6, hD6, by omega, hys⟩
      rintro σ H6 ys ⟨v0, rfl, s6, hD6, hyl, hys⟩
      refine gNameA [some (.ref ll), some (.ref cl), some (.ref wl), some (.int here), some (.ref t), some (.int c), some (.ref D'), v7] ?_
      have hw6 := s6 _ _ hw5
      have ht6 := s6 _ _ ht5
      have hDw : D' ≠ wl := fun e => by rw [e, hw5] at hD'; cases hD'
      dsimp only
      have test : ∀ Qb : Bool->Hp->Prop, (∀ bb H7, Same H6 H7->(bb = false->ys ≠ [])->Qb bb H7)->(tOr (tTest (tOp (rEqR K) (tVar 6) (tLst tNil))) (tAnd (tTest (tOp (rNeR K) (tVar 2) (tLst tNil))) (tTest (tOp rEq (tOp (rI (fun x j => 0 < j) fun i j => V.int (i % j)) (tVar 5) (tC (V.int 5))) (tC (V.int 0)))))) [some (.ref ll), some (.ref cl), some (.ref wl), some (.int here), some (.ref t), some (.int c), some (.ref D'), v7] H6 Qb := by
        intro Qb hq
        refine ⟨_, rfl, Nat.zero_le _, fun e1 he1 => ?_⟩
        have s7 : Same H6 (upd H6 e1 (.lst [])) := Same.new he1
        have he7 : upd H6 e1 (.lst []) e1 = some (.lst []) := upd_same
        generalize upd H6 e1 (.lst []) = H7 at s7 he7 ⊢
        by_cases hy0 : ys = []
        · refine ⟨0, true, by decide, SeqEq.sameL (xs := []) (SqL.of (by rw [s7 _ _ hD6, hy0])) (SqL.of he7) (fun x hx => (by cases hx)), _, rfl, iteT (hq true _ s7 (fun h => (by cases h)))⟩
        · refine ⟨0, false, by decide, ⟨D', e1, ys, [], fun _ => true, rfl, rfl, .inr (.inl ⟨SqL.of (s7 _ _ hD6), SqL.of he7, fun e => hy0 (List.length_eq_zero_iff.mp e), rfl⟩)⟩, _, rfl, iteF ?_⟩
          refine ⟨_, rfl, Nat.zero_le _, fun e2 he2 => ?_⟩
          have s8 : Same H7 (upd H7 e2 (.lst [])) := Same.new he2
          have he8 : upd H7 e2 (.lst []) e2 = some (.lst (([] : List Int).map V.int)) := upd_same
          generalize upd H7 e2 (.lst []) = H8 at s8 he8 ⊢
          have s68 := s7.trans s8
          refine ⟨0, decide (ws = []), by decide, SeqEq.ints (SqL.of (s68 _ _ hw6)) (SqL.of he8), _, rfl, ?_⟩
          by_cases hw0 : ws = []
          · rw [decide_eq_true hw0]
            exact iteF (hq false _ s68 fun _ => hy0)
          · rw [decide_eq_false hw0]
            exact iteT ⟨_, rfl, _, _, rfl, rfl, (by show (0 : Int) < 5; decide), rfl, _, rfl, hq _ _ s68 fun _ => hy0⟩
      refine test _ fun bb H7 s7 hbb => ?_
      have s57 := s6.trans s7
      have k7 : ∀ b o, H b = some o->H7 b = some o := fun b o e => s57 b o (k5 b o e)
      have hw7 := s57 _ _ hw5
      have ht7 := s57 _ _ ht5
      cases bb with
      | true => exact iteT (tell _ H7 t here p ws _ _ _ rfl k7 hw7 ht7 hgo hpr hto (by omega))
      | false =>
      have hy0 := hbb rfl
      refine iteF ?_
      have hD7 := s7 _ _ hD6
      have hyp : 0 < ys.length := List.length_pos_iff.mpr hy0
      have hm0 := Int.emod_nonneg (c / 5) (show (ys.length : Int) ≠ 0 by omega)
      have hm1 := Int.emod_lt_of_pos (c / 5) (show (0 : Int) < (ys.length : Int) by omega)
      obtain ⟨j, hj⟩ : ∃ j : Nat, c / 5 % (ys.length : Int) = (j : Int) := ⟨(c / 5 % (ys.length : Int)).toNat, by omega⟩
      have hjl : j < ys.length := by omega
      obtain ⟨b, g, hyb, hgm, hgs, hb⟩ := hys ys[j] (List.getElem_mem hjl)
      have hyj : atI ys (c / 5 % (ys.length : Int)) = some (V.ref b) := by rw [hj]; exact atI_nat (by rw [List.getElem?_eq_getElem hjl, hyb])
      have hb7 := s57 _ _ hb
      refine ⟨_, rfl, _, rfl, _, _, rfl, rfl, ⟨by show (0 : Int) < 5; decide, by show (5 : Int).natAbs.log2 < 9000; decide⟩, _, rfl, D', _, rfl, .inl (SqL.of hD7), _, _, rfl, rfl, (by show (0 : Int) < (ys.length : Int); omega), D', _, _, V.ref b, rfl, rfl, SqL.of hD7, hyj, ?_⟩
      refine gNameA [some (.ref ll), some (.ref cl), some (.ref wl), some (.int here), some (.ref t), some (.int c), some (.ref D'), some (.ref b)] ?_
      refine ⟨_, rfl, .inl ⟨rfl, _, SqL.of hw7⟩, _, rfl, b, _, _, V.int g.num, rfl, rfl, SqT.of hb7, rfl, wl, _, _, rfl, rfl, hw7, by rw [List.length_map]; exact small1000 (by omega), ?_⟩
      have k8 : ∀ b o, H b = some o->upd H7 wl (.lst (ws.map V.int ++ [V.int g.num])) b = some o := fun b o e => by rw [upd_ne (ne_of_none e hwl)]; exact k7 b o e
      have hb8 : upd H7 wl (.lst (ws.map V.int ++ [V.int g.num])) b = some (.tup ((legT g).map V.int)) := by rw [upd_ne (ne_of hb7 hw7 (by intro z; cases z))]; exact hb7
      have ht8 : upd H7 wl (.lst (ws.map V.int ++ [V.int g.num])) t = some (.tup (p.map V.int)) := by rw [upd_ne (ne_of ht7 hw7 (by intro z; cases z))]; exact ht7
      have hw8 : upd H7 wl (.lst (ws.map V.int ++ [V.int g.num])) wl = some (.lst ((ws ++ [g.num]).map V.int)) := by rw [upd_same, List.map_append]; rfl
      generalize upd H7 wl (.lst (ws.map V.int ++ [V.int g.num])) = H8 at k8 hb8 ht8 hw8 ⊢
      refine ⟨_, rfl, _, rfl, t, b, p, g, rfl, hpr, ht8, hb8, fun u hu => ?_⟩
      have s9 : Same H8 (upd H8 u (.tup ((overT p g).map V.int))) := Same.new hu
      have hu9 : upd H8 u (.tup ((overT p g).map V.int)) u = some (.tup ((overT p g).map V.int)) := upd_same
      generalize upd H8 u (.tup ((overT p g).map V.int)) = H9 at s9 hu9 ⊢
      refine gNameA [some (.ref ll), some (.ref cl), some (.ref wl), some (.int here), some (.ref u), some (.int c), some (.ref D'), some (.ref b)] ?_
      refine ⟨_, rfl, b, _, _, V.int g.to, rfl, rfl, SqT.of (s9 _ _ hb8), rfl, ?_⟩
      refine ⟨u, g.to, overT p g, ws ++ [g.num], _, _, _, rfl, fun b o e => s9 b o (k8 b o e), s9 _ _ hw8, hu9, ?_, hpr.over g, fun _ => ⟨g, hgm, rfl⟩, by simp; omega⟩
      rw [goP_app, hgo]
      show goP legs here p [g.num] = _
      rw [goP_one, find_num LG.nod hgm]
      exact if_pos hgs
    · rintro σ H5 ⟨t, here, p, ws, v5, v6, v7, rfl, k5, hw5, ht5, hgo, hpr, hto, hwi⟩
      rw [List.length_map] at hwi
      exact hN _ _ ⟨t, here, p, ws, v5, v6, v7, rfl, k5, hw5, ht5, hgo, hpr, hto, by omega⟩
  rintro σ H5 ⟨t, here, p, ws, v5, v6, v7, rfl, k5, hw5, ht5, hgo, hpr, hto, hl⟩
  exact tell _ H5 t here p ws v5 v6 v7 rfl k5 hw5 ht5 hgo hpr hto hl
theorem ok__law_way {f : Addr} {fd : FuncData} (F : Fun K "_law_way" "_law_way" s__law_way f fd) (T : Txt K mg) (D__law_behind : DefX P w K mg base "_law_behind" 1 ["_law_price", "_law_leg_here"] sp_over) : FnOk P w K mg base (CXx P w) 2 f fd ["_law_legs_here", "_law_known_here", "_law_day"] (sp_lway) := by
  refine F.okX sc__law_way (fun vs H Q E h => ?_) (fun cdv A outer s H vs Q E hr h => ?_)
  · obtain ⟨ll, kd, LV, legs, kvs, P, day, rfl, hll, LG, hkd, PR, LP, hPd, hd1, q⟩ := h; rfl
  obtain ⟨ll, kd, LV, legs, kvs, P, day, rfl, hll, LG, hkd, PR, LP, hPd, hd1, q⟩ := h
  refine ⟨_, (pss_cons (ps_set (i := 3) sc__law_way.nd rfl (Or.inl rfl) (pe_lst pa_nil))
      (pss_cons (ps_while PassesOwn.leaving (PW.pt (pw_and (pt_cmp (pc_din (hu_of hr) (pv 2) (pv 1))) (pw_and1 (pt_cmpR op_ne (pv 2) (pe_un un_neg pe_int) (nomark _))))) (pss_cons (ps_set (i := 4) sc__law_way.nd rfl (Or.inl rfl) pe_non)
      (pss_cons (ps_for PassesOwn.leaving rfl (pi_list (pv 0)) (pg_name (i := 5) sc__law_way.nd rfl (Or.inl rfl))
      (pss_one (ps_if (PW.pt (pw_and (pt_cmpR op_eq (pe_ix ix_tup (pv 5) pe_int (fun _ _ => rfl)) (pv 2) (nomark _)) (pw_and (pt_cmp (pc_din (hu_of hr) (pe_ix ix_tup (pv 5) pe_int (fun _ _ => rfl)) (pv 1))) (pw_and1 (pt_cmpR (op_eq_ref hr.units) (pe_callS D__law_behind passesN (hr.mono (by decide)) rfl (pa_cons (pe_dget (hu_of hr) (pv 1) (pe_ix ix_tup (pv 5) pe_int (fun _ _ => rfl)) (fun _ _ => rfl)) (pa_cons (pv 5) pa_nil))) (pe_dget (hu_of hr) (pv 1) (pv 2) (fun _ _ => rfl)) (nomark _)))))) (pss_one (ps_if (PW.pt (pw_or (pt_cmpR op_isN (pv 4) pe_non (nomark _)) (pw_or1 (pt_cmpR op_lt (pe_ix ix_tup (pv 5) pe_int (fun _ _ => rfl)) (pe_ix ix_tup (pv 4) pe_int (fun _ _ => rfl)) (nomark _))))) (pss_one (ps_set (i := 4) sc__law_way.nd rfl (Or.inl rfl) (pv 5))) pss_nil)) pss_nil)))
      (pss_cons (ps_set (i := 3) sc__law_way.nd rfl (Or.inl rfl) (pe_op op_cat (pe_lst (pa_cons (pe_ix ix_tup (pv 4) pe_int (fun _ _ => rfl)) pa_nil)) (pv 3)))
      (pss_one (ps_set (i := 2) sc__law_way.nd rfl (Or.inl rfl) (pe_ix ix_tup (pv 4) pe_int (fun _ _ => rfl))))))))
      (pss_one (ps_ret (pv 3))))), ?_⟩
  have hLl : LV.length = legs.length := by rw [LG.keys.len, List.length_map]
  have h500 := LG.len
  obtain ⟨q0, hq0⟩ : ∃ q0, P day = some q0 := by
    cases e : P day with
    | none => rw [e] at hPd; cases hPd
    | some z => exact ⟨z, rfl⟩
  obtain ⟨b0, c0, n0, rfl⟩ := LP.pr _ _ hq0
  have hcnt := least_cnt LP hq0
  refine ⟨Nat.zero_le _, fun wl hwl => ?_⟩
  have s1 : Same H (upd H wl (.lst [])) := Same.new hwl
  have hw1 : upd H wl (.lst []) wl = some (.lst (([] : List Int).map V.int)) := upd_same
  generalize upd H wl (.lst []) = H1 at s1 hw1 ⊢
  refine gNameA [some (.ref ll), some (.ref kd), some (.int day), some (.ref wl), none, none] ?_
  dsimp only
  refine cutA (fun σ H' => ∃ (w : Addr) (ws : List Int) (v2 v4 v5 : Option V), σ = [some (.ref ll), some (.ref kd), v2, some (.ref w), v4, v5] /\ Same H H' /\ H w = none /\ H' w = some (.lst (ws.map V.int)) /\ ws ≠ [] /\ ws.length ≤ legs.length) (fun N hN => ?_) ?_
  · refine ⟨fun m σ H' => ∃ (dd b c : Int) (n : Nat) (w : Addr) (ws : List Int) (v4 v5 : Option V), σ = [some (.ref ll), some (.ref kd), some (.int dd), some (.ref w), v4, v5] /\ Same H H' /\ H w = none /\ H' w = some (.lst (ws.map V.int)) /\ P dd = some [b, c, (n : Int)] /\ ws.length + n = n0 /\ (ws = []->dd ≠ -1) /\ n = m, ⟨_, day, b0, c0, n0, wl, [], none, none, rfl, s1, hwl, hw1, hq0, by simp, fun _ => hd1, rfl⟩, ?_⟩
    rintro m σ H2 ⟨dd, b, c, n, w, ws, v4, v5, rfl, s2, nw, hw2, hPdd, hwn, hne, rfl⟩
    have hkd2 := s2 _ _ hkd
    have PR2 := PR.mono fun t ys e => s2 t _ e
    have hvd := PR2.val dd
    rw [hPdd] at hvd
    obtain ⟨qa, hqa, hqa'⟩ := hvd.some_of
    refine ⟨_, rfl, _, rfl, kd, _, rfl, .inl ⟨kvs, Sum.inl dd, .inl hkd2, rfl, rfl⟩, _, rfl, ?_⟩
    rw [hqa]
    refine iteT ⟨_, rfl, _, rfl, rfl, _, rfl, ?_⟩
    by_cases hdm : dd = -1
    · rw [decide_eq_true (show V.int dd = V.int (-1) by rw [hdm])]
      exact iteF (hN _ _ ⟨w, ws, _, v4, v5, rfl, s2, nw, hw2, fun e => hne e hdm, by omega⟩)
    rw [decide_eq_false (show ¬ V.int dd = V.int (-1) from fun e => hdm (V.int.inj e))]
    refine iteT ⟨_, fun σ' H' h => h, ?_⟩
    refine gNameA [some (.ref ll), some (.ref kd), some (.int dd), some (.ref w), some .non, v5] ?_
    dsimp only
    refine cutA (fun σ H' => ∃ (bb : Addr) (g : Leg) (v5 : Option V), σ = [some (.ref ll), some (.ref kd), some (.int dd), some (.ref w), some (.ref bb), v5] /\ Same H2 H' /\ H' bb = some (.tup ((legT g).map V.int)) /\ g.to = dd /\ Att P g) (fun N2 hN2 => ?_) ?_
    · refine ⟨_, rfl, ll, rfl, ⟨_, SqL.of (s2 _ _ hll)⟩, for_list (K := K) (a := ll) (xs := LV) (fun i σ H' => ∃ (w4 : V) (v5 : Option V), σ = [some (.ref ll), some (.ref kd), some (.int dd), some (.ref w), some w4, v5] /\ Same H2 H' /\ ((w4 = .non /\ ∀ g ∈ legs.take i, g.to = dd->¬ Att P g) ∨ ∃ g b, w4 = .ref b /\ H' b = some (.tup ((legT g).map V.int)) /\ g.to = dd /\ Att P g)) ⟨.non, v5, rfl, Same.refl _, .inl ⟨rfl, fun g hg => (by cases hg)⟩⟩ (fun i σ H' _ ⟨_, _, _, s', _⟩ => SqL.of (s' _ _ (s2 _ _ hll))) ?_ ?_⟩
      · rintro i v σ H3 hi ⟨w4, v5, rfl, s23, hw4⟩
        have s3 := s2.trans s23
        obtain ⟨b1, g, rfl, eg, hb1⟩ := key_leg LG.keys hi
        have hgm := List.mem_of_getElem? eg
        have hb3 := s3 _ _ hb1
        have PR3 := PR.mono fun t ys e => s3 t _ e
        have hkd3 := s3 _ _ hkd
        have tk : ∀ g', g' ∈ legs.take (i + 1)->g' ∈ legs.take i ∨ g' = g := fun g' h => by
          rw [List.take_add_one, eg] at h
          rcases List.mem_append.mp h with h | h
          · exact .inl h
          · exact .inr (List.mem_singleton.mp h)
        refine gNameA [some (.ref ll), some (.ref kd), some (.int dd), some (.ref w), some w4, some (.ref b1)] ?_
        have stay : ∀ H', Same H3 H'->(w4 = .non->g.to = dd->¬ Att P g)->∃ (w4' : V) (v5' : Option V), ([some (.ref ll), some (.ref kd), some (.int dd), some (.ref w), some w4, some (.ref b1)] : St) = [some (.ref ll), some (.ref kd), some (.int dd), some (.ref w), some w4', v5'] /\ Same H2 H' /\ ((w4' = .non /\ ∀ g ∈ legs.take (i + 1), g.to = dd->¬ Att P g) ∨ ∃ g b, w4' = .ref b /\ H' b = some (.tup ((legT g).map V.int)) /\ g.to = dd /\ Att P g) := fun H' s' hh => by
          refine ⟨w4, _, rfl, s23.trans s', ?_⟩
          rcases hw4 with ⟨e4, h4⟩ | ⟨g0, b0, e4, hb0, h1, h2⟩
          · refine .inl ⟨e4, fun g' hg' => ?_⟩
            rcases tk g' hg' with h | rfl
            · exact h4 g' h
            · exact hh e4
          · exact .inr ⟨g0, b0, e4, s' _ _ hb0, h1, h2⟩
        dsimp only
        by_cases hto : g.to = dd
        · cases hp : P g.start with
          | none =>
            have hvs := PR3.val g.start
            rw [hp] at hvs
            refine if_no (fun Qb hq => ?_) (stay _ (Same.refl _) fun _ _ ⟨p', hp', _⟩ => by rw [hp] at hp'; cases hp')
            refine ⟨_, rfl, b1, _, _, V.int g.to, rfl, rfl, SqT.of hb3, rfl, _, rfl, rfl, _, rfl, ?_⟩
            rw [decide_eq_true (show V.int g.to = V.int dd by rw [hto])]
            refine iteT ⟨_, rfl, b1, _, _, V.int g.start, rfl, rfl, SqT.of hb3, rfl, _, rfl, kd, _, rfl, .inl ⟨kvs, Sum.inl g.start, .inl hkd3, rfl, rfl⟩, _, rfl, ?_⟩
            rw [hvs.none_of]
            exact iteF hq
          | some p =>
            have hvs := PR3.val g.start
            rw [hp] at hvs
            obtain ⟨pa, hpa, hpa'⟩ := hvs.some_of
            have test : ∀ Qb : Bool->Hp->Prop, (∀ H', Same H3 H'->Qb (decide (overT p g = [b, c, (n : Int)])) H')->(tAnd (tTest (tOp rEq (tOp (rIxT K) (tVar 5) (tC (V.int 2))) (tVar 2))) (tAnd (tB (tDIn (tOp (rIxT K) (tVar 5) (tC (V.int 1))) (tVar 1))) (tTest (tOp (rEqR K) (tCallS sp_over (fun _ => E0) (tCons (tDGet (tVar 1) (tOp (rIxT K) (tVar 5) (tC (V.int 1)))) (tCons (tVar 5) tNil))) (tDGet (tVar 1) (tVar 2)))))) [some (.ref ll), some (.ref kd), some (.int dd), some (.ref w), some w4, some (.ref b1)] H3 Qb := fun Qb hq => by
              refine ⟨_, rfl, b1, _, _, V.int g.to, rfl, rfl, SqT.of hb3, rfl, _, rfl, rfl, _, rfl, ?_⟩
              rw [decide_eq_true (show V.int g.to = V.int dd by rw [hto])]
              refine iteT ⟨_, rfl, b1, _, _, V.int g.start, rfl, rfl, SqT.of hb3, rfl, _, rfl, kd, _, rfl, .inl ⟨kvs, Sum.inl g.start, .inl hkd3, rfl, rfl⟩, _, rfl, ?_⟩
              rw [hpa]
              refine iteT ⟨_, rfl, _, rfl, b1, _, _, V.int g.start, rfl, rfl, SqT.of hb3, rfl, kd, V.ref pa, rfl, .inl ⟨kvs, Sum.inl g.start, .inl hkd3, rfl, hpa.symm⟩, _, rfl, pa, b1, p, g, rfl, LP.pr _ _ hp, hpa', hb3, fun u hu => ?_⟩
              have s4 : Same H3 (upd H3 u (.tup ((overT p g).map V.int))) := Same.new hu
              have hu4 : upd H3 u (.tup ((overT p g).map V.int)) u = some (.tup ((overT p g).map V.int)) := upd_same
              generalize upd H3 u (.tup ((overT p g).map V.int)) = H4 at s4 hu4 ⊢
              exact ⟨_, rfl, _, rfl, kd, V.ref qa, rfl, .inl ⟨kvs, Sum.inl dd, .inl (s4 _ _ hkd3), rfl, hqa.symm⟩, 0, decide (overT p g = [b, c, (n : Int)]), by decide, SeqEq.intsT (SqT.of hu4) (SqT.of (s4 _ _ (s23 _ _ hqa'))), _, rfl, hq _ s4⟩
            by_cases he : overT p g = [b, c, (n : Int)]
            · rw [decide_eq_true he] at test
              have hA : Att P g := ⟨p, hp, by rw [hto, hPdd, he]⟩
              refine if_yesP (fun H' => Same H3 H') test fun H4 s4 => ?_
              have hb4 := s4 _ _ hb3
              rcases hw4 with ⟨rfl, h4⟩ | ⟨g0, b0, rfl, hb0, h1, h2⟩
              · refine if_yes (fun Qb hq => ⟨_, rfl, rfl, _, rfl, iteT hq⟩) ?_
                refine ⟨_, rfl, ?_⟩
                refine gNameA [some (.ref ll), some (.ref kd), some (.int dd), some (.ref w), some (.ref b1), some (.ref b1)] ?_
                exact ⟨.ref b1, _, rfl, s23.trans s4, .inr ⟨g, b1, rfl, hb4, hto, hA⟩⟩
              · have hb04 := s4 _ _ hb0
                have test2 : ∀ Qb : Bool->Hp->Prop, Qb (decide (g.num < g0.num)) H4->(tOr (tTest (tOp (fun x y H Q => y = V.non /\ Q (V.bl (decide (x = V.non))) H) (tVar 4) (tC V.non))) (tTest (tOp (rI0 fun i j => V.bl (decide (i < j))) (tOp (rIxT K) (tVar 5) (tC (V.int 0))) (tOp (rIxT K) (tVar 4) (tC (V.int 0)))))) [some (.ref ll), some (.ref kd), some (.int dd), some (.ref w), some (.ref b0), some (.ref b1)] H4 Qb := fun Qb hq => ⟨_, rfl, rfl, _, rfl, iteF ⟨_, rfl, b1, _, _, V.int g.num, rfl, rfl, SqT.of hb4, rfl, _, rfl, b0, _, _, V.int g0.num, rfl, rfl, SqT.of hb04, rfl, _, _, rfl, rfl, _, rfl, hq⟩⟩
                by_cases hl : g.num < g0.num
                · rw [decide_eq_true hl] at test2
                  refine if_yes test2 ?_
                  refine ⟨_, rfl, ?_⟩
                  refine gNameA [some (.ref ll), some (.ref kd), some (.int dd), some (.ref w), some (.ref b1), some (.ref b1)] ?_
                  exact ⟨.ref b1, _, rfl, s23.trans s4, .inr ⟨g, b1, rfl, hb4, hto, hA⟩⟩
                · rw [decide_eq_false hl] at test2
                  exact if_no test2 ⟨.ref b0, _, rfl, s23.trans s4, .inr ⟨g0, b0, rfl, hb04, h1, h2⟩⟩
            · rw [decide_eq_false he] at test
              refine if_noP (fun H' => Same H3 H') test fun H4 s4 => stay _ s4 fun _ _ ⟨p', hp', h2⟩ => ?_
              rw [hp] at hp'; cases hp'
              rw [hto, hPdd] at h2
              exact he (Option.some.inj h2).symm
        · refine if_no (fun Qb hq => ?_) (stay _ (Same.refl _) fun _ h => absurd h hto)
          refine ⟨_, rfl, b1, _, _, V.int g.to, rfl, rfl, SqT.of hb3, rfl, _, rfl, rfl, _, rfl, ?_⟩
          rw [decide_eq_false (show ¬ V.int g.to = V.int dd from fun e => hto (V.int.inj e))]
          exact iteF hq
      · rintro σ H3 ⟨w4, v5, rfl, s23, hw4⟩
        rw [hLl, List.take_length] at hw4
        rcases hw4 with ⟨_, h4⟩ | ⟨g0, b0, rfl, hb0, h1, h2⟩
        · obtain ⟨g, hg, hgd, p, hp, hqq⟩ := LP.att dd _ hPdd hdm
          exact absurd ⟨p, hp, by rw [hgd, hPdd, hqq]⟩ (h4 g hg hgd)
        · exact hN2 _ _ ⟨b0, g0, v5, rfl, s23, hb0, h1, h2⟩
    · rintro σ H3 ⟨bb, g, v5, rfl, s23, hb, hgd, p, hp, hpt⟩
      rw [hgd, hPdd] at hpt
      obtain ⟨b', c', n', rfl⟩ := LP.pr _ _ hp
      have h3 : ((n : Nat) : Int) = (n' : Int) + 1 := congrArg (fun l : List Int => l.getD 2 0) (Option.some.inj hpt)
      refine ⟨_, rfl, bb, _, _, V.int g.num, rfl, rfl, SqT.of hb, rfl, (by show 1 ≤ sizeLine; decide), fun o ho => ?_⟩
      have s4 : Same H3 (upd H3 o (.lst [V.int g.num])) := Same.new ho
      have ho4 : upd H3 o (.lst [V.int g.num]) o = some (.lst [V.int g.num]) := upd_same
      generalize upd H3 o (.lst [V.int g.num]) = H4 at s4 ho4 ⊢
      have s24 := s23.trans s4
      refine ⟨_, rfl, o, w, _, _, rfl, rfl, ho4, s24 _ _ hw2, by rw [List.length_map]; exact Nat.le_of_lt (small1000 (by simp; omega)), fun w2 hw2' => ?_⟩
      refine gNameA [some (.ref ll), some (.ref kd), some (.int dd), some (.ref w2), some (.ref bb), v5] ?_
      have s5 : Same H4 (upd H4 w2 (.lst ([V.int g.num] ++ List.map V.int ws))) := Same.new hw2'
      have hw5 : upd H4 w2 (.lst ([V.int g.num] ++ List.map V.int ws)) w2 = some (.lst ((g.num :: ws).map V.int)) := upd_same
      generalize upd H4 w2 (.lst ([V.int g.num] ++ List.map V.int ws)) = H5 at s5 hw5 ⊢
      refine ⟨_, rfl, bb, _, _, V.int g.start, rfl, rfl, SqT.of (s5 _ _ (s4 _ _ hb)), rfl, ?_⟩
      refine gNameA [some (.ref ll), some (.ref kd), some (.int g.start), some (.ref w2), some (.ref bb), v5] ?_
      exact ⟨n', by omega, g.start, b', c', n', w2, g.num :: ws, _, _, rfl, s2.trans (s24.trans s5), s2.free (s24.free hw2'), hw5, hp, by simp; omega, fun h => (by cases h), rfl⟩
  rintro σ H2 ⟨w, ws, v2, v4, v5, rfl, s2, nw, hw2, hne, hl⟩
  exact ⟨_, rfl, q w ws H2 hw2 hne hl nw s2⟩
theorem ok__law_less {f : Addr} {fd : FuncData} (F : Fun K "_law_less" "_law_less" s__law_less f fd) (T : Txt K mg)  : FnOk P w K mg base (CXx P w) 1 f fd ["_law_price", "_law_number"] (sp_less) := by
  refine F.okX sc__law_less (fun vs H Q E h => ?_) (fun cdv A outer s H vs Q E hr h => ?_)
  · obtain ⟨t, p, n, rfl, ht, hp, q⟩ := h; rfl
  obtain ⟨t, p, n, rfl, ht, hp, q⟩ := h
  refine ⟨_, (pss_one (ps_ret (pe_tup (pa_cons (pe_op op_sub (pe_ix ix_tup (pv 0) pe_int (fun _ _ => rfl)) (pe_op op_mod (pv 1) pe_int)) (pa_cons (pe_op op_sub (pe_op op_sub (pe_ix ix_tup (pv 0) pe_int (fun _ _ => rfl)) pe_int) (pe_op op_mod (pe_op op_fdivB (pv 1) pe_int) pe_int)) (pa_cons (pe_ix ix_tup (pv 0) pe_int (fun _ _ => rfl)) pa_nil)))))), ?_⟩
  obtain ⟨b, c, m, rfl⟩ := hp
  refine ⟨_, rfl, t, _, _, V.int b, rfl, rfl, SqT.of ht, rfl, _, rfl, _, _, rfl, rfl, (by show (0 : Int) < 2; decide), _, _, rfl, rfl, ?_⟩
  refine ⟨_, rfl, t, _, _, V.int c, rfl, rfl, SqT.of ht, rfl, _, _, rfl, rfl, _, rfl, _, _, rfl, rfl, ⟨by show (0 : Int) < 2; decide, by show (2 : Int).natAbs.log2 < 9000; decide⟩, _, _, rfl, rfl, (by show (0 : Int) < 5; decide), _, _, rfl, rfl, ?_⟩
  refine ⟨_, rfl, t, _, _, V.int (m : Int), rfl, rfl, SqT.of ht, rfl, (by show 3 ≤ sizeLine; decide), fun u hu => ?_⟩
  exact q u [b - n % 2, c - 1 - n / 2 % 5, (m : Int)] _ upd_same ⟨_, _, m, rfl⟩ (Same.new hu)
theorem ok__law_turned {f : Addr} {fd : FuncData} (F : Fun K "_law_turned" "_law_turned" s__law_turned f fd) (T : Txt K mg)  : FnOk P w K mg base (CXx P w) 1 f fd ["_law_rows", "_law_xs"] (sp_turn) := by
  refine F.okX sc__law_turned (fun vs H Q E h => ?_) (fun cdv A outer s H vs Q E hr h => ?_)
  · obtain ⟨rl, xl, RV, rws, xs, rfl, hrl, RP, h40, TX, q⟩ := h; rfl
  obtain ⟨rl, xl, RV, rws, xs, rfl, hrl, RP, h40, TX, q⟩ := h
  refine ⟨_, (pss_cons (ps_set (i := 2) sc__law_turned.nd rfl (Or.inl rfl) (pe_op op_mod (pe_ix ix_list (pv 1) pe_int (fun _ _ => rfl)) (pe_callB (call_max2 rfl) (by rfl) T.b_max PyProof.Rows.boot_max (pa_cons pe_int (pa_cons (pe_callB call_len_seq (by rfl) T.b_len PySem.boot_len (pa_cons (pv 0) pa_nil)) pa_nil)))))
      (pss_cons (ps_if (PW.pt (pw_and (pt_cmpR op_eq (pe_op op_mod (pe_ix ix_list (pv 1) pe_int (fun _ _ => rfl)) pe_int) pe_int (nomark _)) (pw_and1 (pt_cmpR op_gt (pv 2) pe_int (nomark _))))) (pss_one (ps_ret (pe_op op_cat (pe_op op_cat (pe_slice sl_list (pv 0) po_none (po_some (pe_op op_sub (pv 2) pe_int))) (pe_lst (pa_cons (pe_ix ix_list (pv 0) (pv 2) (fun _ _ => rfl)) (pa_cons (pe_ix ix_list (pv 0) (pe_op op_sub (pv 2) pe_int) (fun _ _ => rfl)) pa_nil)))) (pe_slice sl_list (pv 0) (po_some (pe_op op_add (pv 2) pe_int)) po_none)))) pss_nil)
      (pss_cons (ps_if (pt_cmpR op_eq (pe_op op_mod (pe_ix ix_list (pv 1) pe_int (fun _ _ => rfl)) pe_int) pe_int (nomark _)) (pss_one (ps_ret (pe_op op_cat (pe_op op_cat (pe_slice sl_list (pv 0) po_none (po_some (pv 2))) (pe_slice sl_list (pv 0) (po_some (pv 2)) (po_some (pe_op op_add (pv 2) pe_int)))) (pe_slice sl_list (pv 0) (po_some (pv 2)) po_none)))) pss_nil)
      (pss_one (ps_ret (pv 0)))))), ?_⟩
  have hRl : RV.length = rws.length := by rw [RP.keys.len, List.length_map]
  have hxl := TX.1
  obtain ⟨x4, hx4⟩ := ten_at TX 4 (by decide)
  obtain ⟨x5, hx5⟩ := ten_at TX 5 (by decide)
  have hmem := rowsP_mem RP
  obtain ⟨mx, hmxe, hmx, hmxl⟩ : ∃ mx : Int, (if (RV.length : Int) > 1 then (RV.length : Int) else 1) = mx /\ 0 < mx /\ (mx ≤ 1 ∨ mx = (RV.length : Int)) := by
    refine ⟨_, rfl, ?_⟩
    split <;> omega
  refine ⟨_, rfl, xl, _, _, V.int x4, rfl, rfl, SqL.of hxl, hx4, _, rfl, rl, _, rfl, .inl (SqL.of hrl), 1, (RV.length : Int), rfl, ?_⟩
  rw [hmxe]
  refine ⟨_, _, rfl, rfl, hmx, ?_⟩
  obtain ⟨at', hat, hat0, hat1⟩ : ∃ at' : Int, x4 % mx = at' /\ 0 ≤ at' /\ (0 < at'->at' < (RV.length : Int)) := by
    refine ⟨_, rfl, Int.emod_nonneg _ (by omega), fun h => ?_⟩
    have := Int.emod_lt_of_pos x4 hmx
    omega
  refine gNameA [some (.ref rl), some (.ref xl), some (.int at')] ?_ (by show [_, _, some (V.int (x4 % mx))] = _; rw [hat])
  have test1 : ∀ Qb : Bool->Hp->Prop, Qb (decide (x5 % 7 = 1 /\ 0 < at')) H->(tAnd (tTest (tOp rEq (tOp (rI (fun x j => 0 < j) fun i j => V.int (i % j)) (tOp (rIxL K) (tVar 1) (tC (V.int 5))) (tC (V.int 7))) (tC (V.int 1)))) (tTest (tOp (rI0 fun i j => V.bl (decide (j < i))) (tVar 2) (tC (V.int 0))))) [some (.ref rl), some (.ref xl), some (.int at')] H Qb := fun Qb hq => by
    refine ⟨_, rfl, xl, _, _, V.int x5, rfl, rfl, SqL.of hxl, hx5, _, _, rfl, rfl, (by show (0 : Int) < 7; decide), rfl, _, rfl, ?_⟩
    by_cases h : x5 % 7 = 1
    · rw [decide_eq_true (show V.int (x5 % 7) = V.int 1 by rw [h])]
      refine iteT ⟨_, rfl, _, _, rfl, rfl, _, rfl, ?_⟩
      rw [decide_eq_decide.mpr (show (x5 % 7 = 1 /\ 0 < at') ↔ 0 < at' from ⟨fun h => h.2, fun h2 => ⟨h, h2⟩⟩)] at hq
      exact hq
    · rw [decide_eq_false (show ¬ V.int (x5 % 7) = V.int 1 from fun e => h (V.int.inj e))]
      rw [decide_eq_false (show ¬ (x5 % 7 = 1 /\ 0 < at') from fun e => h e.1)] at hq
      exact iteF hq
  dsimp only
  have hcl : ∀ lo hi, (cutV RV lo hi).length ≤ 40 := fun lo hi => by have := cutV_length RV lo hi; omega
  by_cases h1 : x5 % 7 = 1 /\ 0 < at'
  · rw [decide_eq_true h1] at test1
    refine seq_ifT test1 ?_
    have h2 := hat1 h1.2
    obtain ⟨j, hj⟩ : ∃ j : Nat, at' = (j : Int) := ⟨at'.toNat, by omega⟩
    have hjl : j < RV.length := by omega
    have e1 : atI RV at' = some RV[j] := by rw [hj]; exact atI_nat (List.getElem?_eq_getElem hjl)
    have hj1 : j - 1 < RV.length := by omega
    have e2 : atI RV (at' - 1) = some RV[j - 1] := by rw [show at' - 1 = ((j - 1 : Nat) : Int) by omega]; exact atI_nat (List.getElem?_eq_getElem hj1)
    refine ⟨_, rfl, _, rfl, _, _, rfl, rfl, _, rfl, rl, _, rfl, SqL.of hrl, fun a1 ha1 => ?_⟩
    have s1 : Same H (upd H a1 (.lst (cutV RV none (some (at' - 1))))) := Same.new ha1
    have h1' : upd H a1 (.lst (cutV RV none (some (at' - 1)))) a1 = some (.lst (cutV RV none (some (at' - 1)))) := upd_same
    generalize upd H a1 (.lst (cutV RV none (some (at' - 1)))) = H1 at s1 h1' ⊢
    refine ⟨_, rfl, _, rfl, rl, _, _, RV[j], rfl, rfl, SqL.of (s1 _ _ hrl), e1, _, rfl, _, rfl, _, _, rfl, rfl, rl, _, _, RV[j - 1], rfl, rfl, SqL.of (s1 _ _ hrl), e2, (by show 2 ≤ sizeLine; decide), fun a2 ha2 => ?_⟩
    have s2 : Same H1 (upd H1 a2 (.lst [RV[j], RV[j - 1]])) := Same.new ha2
    have h2' : upd H1 a2 (.lst [RV[j], RV[j - 1]]) a2 = some (.lst [RV[j], RV[j - 1]]) := upd_same
    generalize upd H1 a2 (.lst [RV[j], RV[j - 1]]) = H2 at s2 h2' ⊢
    refine ⟨a1, a2, _, _, rfl, rfl, s2 _ _ h1', h2', Nat.le_of_lt (small1000 (by have := hcl none (some (at' - 1)); simp; omega)), fun a3 ha3 => ?_⟩
    have s3 : Same H2 (upd H2 a3 (.lst (cutV RV none (some (at' - 1)) ++ [RV[j], RV[j - 1]]))) := Same.new ha3
    have h3' : upd H2 a3 (.lst (cutV RV none (some (at' - 1)) ++ [RV[j], RV[j - 1]])) a3 = some (.lst (cutV RV none (some (at' - 1)) ++ [RV[j], RV[j - 1]])) := upd_same
    generalize upd H2 a3 (.lst (cutV RV none (some (at' - 1)) ++ [RV[j], RV[j - 1]])) = H3 at s3 h3' ⊢
    have s03 := (s1.trans s2).trans s3
    refine ⟨_, rfl, _, rfl, _, _, rfl, rfl, _, rfl, rl, _, rfl, SqL.of (s03 _ _ hrl), fun a4 ha4 => ?_⟩
    have s4 : Same H3 (upd H3 a4 (.lst (cutV RV (some (at' + 1)) none))) := Same.new ha4
    have h4' : upd H3 a4 (.lst (cutV RV (some (at' + 1)) none)) a4 = some (.lst (cutV RV (some (at' + 1)) none)) := upd_same
    generalize upd H3 a4 (.lst (cutV RV (some (at' + 1)) none)) = H4 at s4 h4' ⊢
    refine ⟨a3, a4, _, _, rfl, rfl, s4 _ _ h3', h4', Nat.le_of_lt (small1000 (by have := hcl none (some (at' - 1)); have := hcl (some (at' + 1)) none; simp; omega)), fun a5 ha5 => ?_⟩
    have s5 := (s03.trans s4).trans (Same.new (o := .lst (cutV RV none (some (at' - 1)) ++ [RV[j], RV[j - 1]] ++ cutV RV (some (at' + 1)) none)) ha5)
    have hall : ∀ v ∈ cutV RV none (some (at' - 1)) ++ [RV[j], RV[j - 1]] ++ cutV RV (some (at' + 1)) none, v ∈ RV := fun v hv => by
      rcases List.mem_append.mp hv with hv | hv
      · rcases List.mem_append.mp hv with hv | hv
        · exact cutV_mem v hv
        · simp only [List.mem_cons, List.not_mem_nil, or_false] at hv
          rcases hv with rfl | rfl <;> exact List.getElem_mem _
      · exact cutV_mem v hv
    obtain ⟨rws2, RP2⟩ := rowsP_of (H := H) (fun v hv => hmem v (hall v hv)) (by
      have c1 := cut_pre RV (j - 1)
      have c2 := cut_post RV (j + 1)
      rw [show ((j - 1 : Nat) : Int) = at' - 1 by omega] at c1
      rw [show ((j + 1 : Nat) : Int) = at' + 1 by omega] at c2
      simp only [List.length_append, List.length_cons, List.length_nil]
      omega)
    exact q a5 _ rws2 _ upd_same (RP2.mono fun t ys e => s5 t _ e) s5
  · rw [decide_eq_false h1] at test1
    refine seq_ifN test1 ?_
    have test2 : ∀ Qb : Bool->Hp->Prop, Qb (decide (x5 % 7 = 2)) H->(tTest (tOp rEq (tOp (rI (fun x j => 0 < j) fun i j => V.int (i % j)) (tOp (rIxL K) (tVar 1) (tC (V.int 5))) (tC (V.int 7))) (tC (V.int 2)))) [some (.ref rl), some (.ref xl), some (.int at')] H Qb := fun Qb hq => by
      refine ⟨_, rfl, xl, _, _, V.int x5, rfl, rfl, SqL.of hxl, hx5, _, _, rfl, rfl, (by show (0 : Int) < 7; decide), rfl, _, rfl, ?_⟩
      rw [decI]; exact hq
    by_cases h2 : x5 % 7 = 2
    · rw [decide_eq_true h2] at test2
      refine seq_ifT test2 ?_
      refine ⟨_, rfl, _, rfl, _, rfl, rl, _, rfl, SqL.of hrl, fun a1 ha1 => ?_⟩
      have s1 : Same H (upd H a1 (.lst (cutV RV none (some at')))) := Same.new ha1
      have h1' : upd H a1 (.lst (cutV RV none (some at'))) a1 = some (.lst (cutV RV none (some at'))) := upd_same
      generalize upd H a1 (.lst (cutV RV none (some at'))) = H1 at s1 h1' ⊢
      refine ⟨_, rfl, _, rfl, _, rfl, _, rfl, _, _, rfl, rfl, _, rfl, rl, _, rfl, SqL.of (s1 _ _ hrl), fun a2 ha2 => ?_⟩
      have s2 : Same H1 (upd H1 a2 (.lst (cutV RV (some at') (some (at' + 1))))) := Same.new ha2
      have h2' : upd H1 a2 (.lst (cutV RV (some at') (some (at' + 1)))) a2 = some (.lst (cutV RV (some at') (some (at' + 1)))) := upd_same
      generalize upd H1 a2 (.lst (cutV RV (some at') (some (at' + 1)))) = H2 at s2 h2' ⊢
      refine ⟨a1, a2, _, _, rfl, rfl, s2 _ _ h1', h2', Nat.le_of_lt (small1000 (by have := hcl none (some at'); have := hcl (some at') (some (at' + 1)); omega)), fun a3 ha3 => ?_⟩
      have s3 : Same H2 (upd H2 a3 (.lst (cutV RV none (some at') ++ cutV RV (some at') (some (at' + 1))))) := Same.new ha3
      have h3' : upd H2 a3 (.lst (cutV RV none (some at') ++ cutV RV (some at') (some (at' + 1)))) a3 = some (.lst (cutV RV none (some at') ++ cutV RV (some at') (some (at' + 1)))) := upd_same
      generalize upd H2 a3 (.lst (cutV RV none (some at') ++ cutV RV (some at') (some (at' + 1)))) = H3 at s3 h3' ⊢
      have s03 := (s1.trans s2).trans s3
      refine ⟨_, rfl, _, rfl, _, rfl, rl, _, rfl, SqL.of (s03 _ _ hrl), fun a4 ha4 => ?_⟩
      have s4 : Same H3 (upd H3 a4 (.lst (cutV RV (some at') none))) := Same.new ha4
      have h4' : upd H3 a4 (.lst (cutV RV (some at') none)) a4 = some (.lst (cutV RV (some at') none)) := upd_same
      generalize upd H3 a4 (.lst (cutV RV (some at') none)) = H4 at s4 h4' ⊢
      refine ⟨a3, a4, _, _, rfl, rfl, s4 _ _ h3', h4', Nat.le_of_lt (small1000 (by have := hcl none (some at'); have := hcl (some at') (some (at' + 1)); have := hcl (some at') none; simp; omega)), fun a5 ha5 => ?_⟩
      have s5 := (s03.trans s4).trans (Same.new (o := .lst (cutV RV none (some at') ++ cutV RV (some at') (some (at' + 1)) ++ cutV RV (some at') none)) ha5)
      have hall : ∀ v ∈ cutV RV none (some at') ++ cutV RV (some at') (some (at' + 1)) ++ cutV RV (some at') none, v ∈ RV := fun v hv => by
        rcases List.mem_append.mp hv with hv | hv
        · rcases List.mem_append.mp hv with hv | hv <;> exact cutV_mem v hv
        · exact cutV_mem v hv
      obtain ⟨rws2, RP2⟩ := rowsP_of (H := H) (fun v hv => hmem v (hall v hv)) (by
        obtain ⟨j, hj⟩ : ∃ j : Nat, at' = (j : Int) := ⟨at'.toNat, by omega⟩
        have c1 := cut_pre RV j
        have c2 := cut_one RV j
        have c3 := cut_post RV j
        rw [show ((j + 1 : Nat) : Int) = at' + 1 by omega] at c2
        rw [← hj] at c1 c2 c3
        simp only [List.length_append]
        omega)
      exact q a5 _ rws2 _ upd_same (RP2.mono fun t ys e => s5 t _ e) s5
    · rw [decide_eq_false h2] at test2
      exact seq_ifN test2 ⟨_, rfl, q rl RV rws H hrl RP (Same.refl _)⟩
theorem ok__law_prices_told {f : Addr} {fd : FuncData} (F : Fun K "_law_prices_told" "_law_prices_told" s__law_prices_told f fd) (T : Txt K mg) (D__law_less : DefX P w K mg base "_law_less" 1 ["_law_price", "_law_number"] sp_less) : FnOk P w K mg base (CXx P w) 2 f fd ["_law_days_here", "_law_known_here", "_law_xs"] (sp_ptold) := by
  refine F.okX sc__law_prices_told (fun vs H Q E h => ?_) (fun cdv A outer s H vs Q E hr h => ?_)
  · obtain ⟨dl, kd, xl, ds, xs, kvs, P, rfl, hdl, h2, h30, hkd, PR, hPr, TX, q⟩ := h; rfl
  obtain ⟨dl, kd, xl, ds, xs, kvs, P, rfl, hdl, h2, h30, hkd, PR, hPr, TX, q⟩ := h
  refine ⟨_, (pss_cons (ps_set (i := 3) sc__law_prices_told.nd rfl (Or.inl rfl) (pe_op op_mod (pe_ix ix_list (pv 2) pe_int (fun _ _ => rfl)) pe_int))
      (pss_cons (ps_set (i := 4) sc__law_prices_told.nd rfl (Or.inl rfl) (pe_ix ix_list (pv 0) (pe_op op_mod (pe_ix ix_list (pv 2) pe_int (fun _ _ => rfl)) (pe_callB call_len_seq (by rfl) T.b_len PySem.boot_len (pa_cons (pv 0) pa_nil))) (fun _ _ => rfl)))
      (pss_cons (ps_set (i := 5) sc__law_prices_told.nd rfl (Or.inl rfl) pe_dnewK)
      (pss_cons (ps_for PassesOwn.leaving rfl (pi_list (pv 0)) (pg_name (i := 6) sc__law_prices_told.nd rfl (Or.inl rfl))
      (pss_one (ps_if (pt_cmp (pc_din (hu_of hr) (pv 6) (pv 1))) (pss_cons (ps_dput (hu_of hr) (pv 5) (pv 6) (pe_dget (hu_of hr) (pv 1) (pv 6) (fun _ _ => rfl)) rfl)
      (pss_cons (ps_if (PW.pt (pw_or (pt_cmpR op_eq (pv 3) pe_int (nomark _)) (pw_or1 (PW.pt (pw_and (pt_cmpR op_eq (pv 3) pe_int (nomark _)) (pw_and1 (pt_cmpR op_eq (pv 6) (pv 4) (nomark _)))))))) (pss_one (ps_dput (hu_of hr) (pv 5) (pv 6) (pe_callS D__law_less passesN (hr.mono (by decide)) rfl (pa_cons (pe_dget (hu_of hr) (pv 1) (pv 6) (fun _ _ => rfl)) (pa_cons (pe_ix ix_list (pv 2) pe_int (fun _ _ => rfl)) pa_nil))) rfl)) pss_nil)
      (pss_one (ps_if (PW.pt (pw_and (pt_cmpR op_eq (pv 3) pe_int (nomark _)) (pw_and1 (pt_cmpR op_eq (pv 6) (pv 4) (nomark _))))) (pss_one (ps_dput (hu_of hr) (pv 5) (pv 6) (pe_tup (pa_cons (pe_ix ix_tup (pe_dget (hu_of hr) (pv 1) (pv 6) (fun _ _ => rfl)) pe_int (fun _ _ => rfl)) (pa_cons (pe_op op_add (pe_op op_add (pe_ix ix_tup (pe_dget (hu_of hr) (pv 1) (pv 6) (fun _ _ => rfl)) pe_int (fun _ _ => rfl)) pe_int) (pe_op op_mod (pe_ix ix_list (pv 2) pe_int (fun _ _ => rfl)) pe_int)) (pa_cons (pe_ix ix_tup (pe_dget (hu_of hr) (pv 1) (pv 6) (fun _ _ => rfl)) pe_int (fun _ _ => rfl)) pa_nil)))) rfl)) pss_nil)))) (pss_one (ps_if (PW.pt (pw_or (pt_cmpR op_eq (pv 3) pe_int (nomark _)) (pw_or1 (pt_cmpR op_eq (pv 3) pe_int (nomark _))))) (pss_one (ps_dput (hu_of hr) (pv 5) (pv 6) (pe_tup (pa_cons (pe_op op_mod (pe_ix ix_list (pv 2) pe_int (fun _ _ => rfl)) pe_int) (pa_cons (pe_ix ix_list (pe_lst (pa_cons (pe_powc (n := 10000000000000000000000000000000000000000)) (pa_cons (pe_op op_mod (pe_ix ix_list (pv 2) pe_int (fun _ _ => rfl)) pe_int) pa_nil))) (pe_op op_mod (pe_op op_fdivB (pe_ix ix_list (pv 2) pe_int (fun _ _ => rfl)) pe_int) pe_int) (fun _ _ => rfl)) (pa_cons pe_int pa_nil)))) rfl)) pss_nil)))))
      (pss_cons (ps_if (PW.pt (pw_and (pt_cmpR op_eq (pv 3) pe_int (nomark _)) (pw_and1 (pt_cmp (pc_din (hu_of hr) (pv 4) (pv 5)))))) (pss_one (ps_expr (pe_dpop1 (pv 5) (pv 4) ⟨rfl, rfl, rfl, rfl⟩))) pss_nil)
      (pss_cons (ps_if (pt_cmpR op_eq (pv 3) pe_int (nomark _)) (pss_one (ps_dput (hu_of hr) (pv 5) (pe_op op_sub (pe_op op_sub pe_int pe_int) (pe_op op_mod (pe_ix ix_list (pv 2) pe_int (fun _ _ => rfl)) pe_int)) (pe_ix ix_list (pe_lst (pa_cons (pe_tup (pa_cons pe_int (pa_cons pe_int (pa_cons pe_int pa_nil)))) (pa_cons (pe_tup (pa_cons pe_int (pa_cons (pe_op op_mod (pe_ix ix_list (pv 2) pe_int (fun _ _ => rfl)) pe_int) (pa_cons pe_int pa_nil)))) pa_nil))) (pe_op op_mod (pe_op op_fdivB (pe_ix ix_list (pv 2) pe_int (fun _ _ => rfl)) pe_int) pe_int) (fun _ _ => rfl)) rfl)) pss_nil)
      (pss_one (ps_ret (pv 5))))))))), ?_⟩
  have hxl := TX.1
  obtain ⟨x0, hx0⟩ := ten_at TX 0 (by decide)
  obtain ⟨x1, hx1⟩ := ten_at TX 1 (by decide)
  obtain ⟨x2, hx2⟩ := ten_at TX 2 (by decide)
  obtain ⟨x3, hx3⟩ := ten_at TX 3 (by decide)
  refine ⟨_, rfl, xl, _, _, V.int x0, rfl, rfl, SqL.of hxl, hx0, _, _, rfl, rfl, (by show (0 : Int) < 8; decide), ?_⟩
  generalize hkk : x0 % 8 = kind
  refine gNameA [some (.ref dl), some (.ref kd), some (.ref xl), some (.int kind), none, none, none] ?_ (by show [_, _, _, some (V.int (x0 % 8)), _, _, _] = _; rw [hkk])
  obtain ⟨at', hat, hatm⟩ := ints_at (ds := ds) (Int.emod_nonneg x1 (show (ds.length : Int) ≠ 0 by omega)) (Int.emod_lt_of_pos x1 (show (0 : Int) < (ds.length : Int) by omega))
  refine ⟨_, rfl, _, rfl, xl, _, _, V.int x1, rfl, rfl, SqL.of hxl, hx1, _, rfl, dl, _, rfl, .inl (SqL.of hdl), _, _, rfl, rfl, by show (0 : Int) < ((ds.map V.int).length : Int); rw [List.length_map]; omega, dl, _, _, V.int at', rfl, rfl, SqL.of hdl, by rw [List.length_map]; exact hat, ?_⟩
  refine gNameA [some (.ref dl), some (.ref kd), some (.ref xl), some (.int kind), some (.int at'), none, none] ?_
  intro td htd
  have s1 : Same H (upd H td (.dK [])) := Same.new htd
  have htd1 : upd H td (.dK []) td = some (.dK []) := upd_same
  generalize upd H td (.dK []) = H1 at s1 htd1 ⊢
  refine gNameA [some (.ref dl), some (.ref kd), some (.ref xl), some (.int kind), some (.int at'), some (.ref td), none] ?_
  have put : ∀ {H' : Hp} {tk : List (Key × V)} {L : List Int} {d : Int} {u : Addr} {p : List Int}, (∀ b o, H b = some o->H' b = some o)->H' td = some (.dK tk)->ToldP H' tk L->d ∈ L->H' u = some (.tup (p.map V.int))->IsPr p->(∀ b o, H b = some o->upd H' td (.dK (putK tk (Sum.inl d) (.ref u))) b = some o) /\ ToldP (upd H' td (.dK (putK tk (Sum.inl d) (.ref u)))) (putK tk (Sum.inl d) (.ref u)) L := fun k ht hT hd hu hp =>
    ⟨fun b o e => by rw [upd_ne (ne_of_none e htd)]; exact k b o e, (hT.put hd hu hp).mono fun t ys e => by rw [upd_ne (ne_of e ht (by intro z; cases z))]; exact e⟩
  have k1 : ∀ b o, H b = some o->H1 b = some o := fun b o e => s1 b o e
  dsimp only
  refine cutA (fun σ' H' => ∃ (v6 : Option V) (tk : List (Key × V)), σ' = [some (.ref dl), some (.ref kd), some (.ref xl), some (.int kind), some (.int at'), some (.ref td), v6] /\ (∀ b o, H b = some o->H' b = some o) /\ H' td = some (.dK tk) /\ ToldP H' tk ds) (fun N hN => ?_) ?_
  · refine ⟨_, rfl, dl, rfl, ⟨_, SqL.of (k1 _ _ hdl)⟩, for_list (K := K) (a := dl) (xs := ds.map V.int) (fun i σ H' => ∃ (v6 : Option V) (tk : List (Key × V)), σ = [some (.ref dl), some (.ref kd), some (.ref xl), some (.int kind), some (.int at'), some (.ref td), v6] /\ (∀ b o, H b = some o->H' b = some o) /\ H' td = some (.dK tk) /\ ToldP H' tk ds) ⟨none, [], rfl, k1, htd1, ToldP.nil⟩ (fun i σ H' _ ⟨_, _, _, k', _⟩ => SqL.of (k' _ _ hdl)) ?_ (fun σ H' ⟨v6, tk, e, k', h1, h2⟩ => hN _ _ ⟨v6, tk, e, k', h1, h2⟩)⟩
    rintro i x σ H2 hi ⟨v6, tk, rfl, k2, htd2, hT2⟩
    rw [List.getElem?_map, Option.map_eq_some_iff] at hi
    obtain ⟨d, hd, rfl⟩ := hi
    have hdm : d ∈ ds := List.mem_of_getElem? hd
    refine gNameA [some (.ref dl), some (.ref kd), some (.ref xl), some (.int kind), some (.int at'), some (.ref td), some (.int d)] ?_
    have hkd2 := k2 _ _ hkd
    have hxl2 := k2 _ _ hxl
    have PR2 := PR.mono fun t ys e => k2 t _ e
    have hv := PR2.val d
    have hl2 := hT2.len
    dsimp only
    cases hP : P d with
    | none =>
      rw [hP] at hv
      refine if_no (fun Qb hq => ?_) ?_
      · refine ⟨_, rfl, _, rfl, kd, _, rfl, .inl ⟨kvs, Sum.inl d, .inl hkd2, rfl, rfl⟩, _, rfl, ?_⟩
        rw [hv.none_of]; exact hq
      have test : ∀ Qb : Bool->Hp->Prop, Qb (decide (kind = 1 ∨ kind = 3)) H2->(tOr (tTest (tOp rEq (tVar 3) (tC (V.int 1)))) (tTest (tOp rEq (tVar 3) (tC (V.int 3))))) [some (.ref dl), some (.ref kd), some (.ref xl), some (.int kind), some (.int at'), some (.ref td), some (.int d)] H2 Qb := fun Qb hq => by
        refine ⟨_, rfl, rfl, _, rfl, ?_⟩
        rw [decI]
        by_cases h1 : kind = 1
        · rw [decide_eq_true h1]; rw [decide_eq_true (.inl h1)] at hq; exact iteT hq
        · rw [decide_eq_false h1]
          refine iteF ⟨_, rfl, rfl, _, rfl, ?_⟩
          rw [decI]
          rw [decide_eq_decide.mpr (show (kind = 1 ∨ kind = 3) ↔ kind = 3 from ⟨fun h => h.resolve_left h1, .inr⟩)] at hq
          exact hq
      by_cases h13 : kind = 1 ∨ kind = 3
      · rw [decide_eq_true h13] at test
        refine if_yes test ?_
        obtain ⟨z, hz, _⟩ := two_of (x := 10000000000000000000000000000000000000000) (y := x3 % 9) (k := x2 / 3 % 2) (by omega) (by omega)
        refine ⟨_, rfl, xl, _, _, V.int x2, rfl, rfl, SqL.of hxl2, hx2, _, _, rfl, rfl, (by show (0 : Int) < 3; decide), ?_⟩
        refine ⟨_, rfl, xl, _, _, V.int x3, rfl, rfl, SqL.of hxl2, hx3, _, _, rfl, rfl, (by show (0 : Int) < 9; decide), (by show 2 ≤ sizeLine; decide), fun l2 hl2' => ?_⟩
        have s3 : Same H2 (upd H2 l2 (.lst [V.int 10000000000000000000000000000000000000000, V.int (x3 % 9)])) := Same.new hl2'
        have hl3 : upd H2 l2 (.lst [V.int 10000000000000000000000000000000000000000, V.int (x3 % 9)]) l2 = some (.lst [V.int 10000000000000000000000000000000000000000, V.int (x3 % 9)]) := upd_same
        generalize upd H2 l2 (.lst [V.int 10000000000000000000000000000000000000000, V.int (x3 % 9)]) = H3 at s3 hl3 ⊢
        refine ⟨_, rfl, xl, _, _, V.int x2, rfl, rfl, SqL.of (s3 _ _ hxl2), hx2, _, _, rfl, rfl, ⟨by show (0 : Int) < 3; decide, by show (3 : Int).natAbs.log2 < 9000; decide⟩, _, _, rfl, rfl, (by show (0 : Int) < 2; decide), l2, _, _, V.int z, rfl, rfl, SqL.of hl3, hz, (by show 3 ≤ sizeLine; decide), fun u hu => ?_⟩
        have s4 : Same H3 (upd H3 u (.tup [V.int (x2 % 3), V.int z, V.int 1])) := Same.new hu
        have hu4 : upd H3 u (.tup [V.int (x2 % 3), V.int z, V.int 1]) u = some (.tup (([x2 % 3, z, ((1 : Nat) : Int)] : List Int).map V.int)) := upd_same
        generalize upd H3 u (.tup [V.int (x2 % 3), V.int z, V.int 1]) = H4 at s4 hu4 ⊢
        have s24 := s3.trans s4
        have htd4 := s24 _ _ htd2
        obtain ⟨kp, hTp⟩ := put (fun b o e => s24 b o (k2 b o e)) htd4 (hT2.mono fun t ys e => s24 t _ e) hdm hu4 ⟨_, _, 1, rfl⟩
        exact ⟨_, rfl, _, rfl, td, _, rfl, DPut.k (k := Sum.inl d) htd4 (small1000 (by omega)), _, _, rfl, kp, upd_same, hTp⟩
      · rw [decide_eq_false h13] at test
        exact if_no test ⟨_, tk, rfl, k2, htd2, hT2⟩
    | some p =>
      rw [hP] at hv
      obtain ⟨pa, hpa, hpa'⟩ := hv.some_of
      have hpr := hPr _ _ hP
      refine if_yes (fun Qb hq => ?_) ?_
      · refine ⟨_, rfl, _, rfl, kd, _, rfl, .inl ⟨kvs, Sum.inl d, .inl hkd2, rfl, rfl⟩, _, rfl, ?_⟩
        rw [hpa]; exact hq
      obtain ⟨kp, hTp⟩ := put k2 htd2 hT2 hdm hpa' hpr
      refine ⟨_, rfl, _, rfl, kd, V.ref pa, rfl, .inl ⟨kvs, Sum.inl d, .inl hkd2, rfl, hpa.symm⟩, _, rfl, _, rfl, td, _, rfl, DPut.k (k := Sum.inl d) htd2 (small1000 (by omega)), ?_⟩
      have htd3 : upd H2 td (.dK (putK tk (Sum.inl d) (.ref pa))) td = some (.dK (putK tk (Sum.inl d) (.ref pa))) := upd_same
      have hpa3 : upd H2 td (.dK (putK tk (Sum.inl d) (.ref pa))) pa = some (.tup (p.map V.int)) := by rw [upd_ne (ne_of hpa' htd2 (by intro z; cases z))]; exact hpa'
      generalize upd H2 td (.dK (putK tk (Sum.inl d) (.ref pa))) = H3 at kp hTp htd3 hpa3 ⊢
      generalize putK tk (Sum.inl d) (.ref pa) = tk3 at hTp htd3
      dsimp only
      refine cutA (fun σ' H' => ∃ (tk : List (Key × V)), σ' = [some (.ref dl), some (.ref kd), some (.ref xl), some (.int kind), some (.int at'), some (.ref td), some (.int d)] /\ (∀ b o, H b = some o->H' b = some o) /\ H' td = some (.dK tk) /\ ToldP H' tk ds /\ H' pa = some (.tup (p.map V.int))) (fun N2 hN2 => ?_) ?_
      · have test : ∀ Qb : Bool->Hp->Prop, Qb (decide (kind = 2 ∨ (kind = 3 /\ d = at'))) H3->(tOr (tTest (tOp rEq (tVar 3) (tC (V.int 2)))) (tAnd (tTest (tOp rEq (tVar 3) (tC (V.int 3)))) (tTest (tOp rEq (tVar 6) (tVar 4))))) [some (.ref dl), some (.ref kd), some (.ref xl), some (.int kind), some (.int at'), some (.ref td), some (.int d)] H3 Qb := fun Qb hq => by
          refine ⟨_, rfl, rfl, _, rfl, ?_⟩
          rw [decI]
          by_cases h2 : kind = 2
          · rw [decide_eq_true h2]; rw [decide_eq_true (.inl h2)] at hq; exact iteT hq
          · rw [decide_eq_false h2]
            refine iteF ⟨_, rfl, rfl, _, rfl, ?_⟩
            rw [decI]
            by_cases h3 : kind = 3
            · rw [decide_eq_true h3]
              refine iteT ⟨_, rfl, _, rfl, rfl, _, rfl, ?_⟩
              rw [decI]
              rw [decide_eq_decide.mpr (show (kind = 2 ∨ (kind = 3 /\ d = at')) ↔ d = at' from ⟨fun h => (h.resolve_left h2).2, fun h => .inr ⟨h3, h⟩⟩)] at hq
              exact hq
            · rw [decide_eq_false h3]
              rw [decide_eq_false (show ¬ (kind = 2 ∨ (kind = 3 /\ d = at')) from fun h => h.elim h2 fun h => h3 h.1)] at hq
              exact iteF hq
        by_cases hc : kind = 2 ∨ (kind = 3 /\ d = at')
        · rw [decide_eq_true hc] at test
          refine if_yes test ?_
          refine ⟨_, rfl, _, rfl, kd, V.ref pa, rfl, .inl ⟨kvs, Sum.inl d, .inl (kp _ _ hkd), rfl, hpa.symm⟩, _, rfl, xl, _, _, V.int x2, rfl, rfl, SqL.of (kp _ _ hxl), hx2, pa, p, x2, rfl, hpa3, hpr, fun u p' H4 hu hp' s4 => ?_⟩
          have htd4 := s4 _ _ htd3
          have hl4 := hTp.len
          obtain ⟨kp4, hT4⟩ := put (fun b o e => s4 b o (kp b o e)) htd4 (hTp.mono fun t ys e => s4 t _ e) hdm hu hp'
          refine ⟨_, rfl, _, rfl, td, _, rfl, DPut.k (k := Sum.inl d) htd4 (small1000 (by omega)), hN2 _ _ ⟨_, rfl, kp4, upd_same, hT4, ?_⟩⟩
          rw [upd_ne (ne_of (s4 _ _ hpa3) htd4 (by intro z; cases z))]; exact s4 _ _ hpa3
        · rw [decide_eq_false hc] at test
          exact if_no test (hN2 _ _ ⟨tk3, rfl, kp, htd3, hTp, hpa3⟩)
      clear hTp htd3 hpa3 kp
      rintro σ H4 ⟨tk4, rfl, k4, htd4, hT4, hpa4⟩
      have test : ∀ Qb : Bool->Hp->Prop, Qb (decide (kind = 4 /\ d = at')) H4->(tAnd (tTest (tOp rEq (tVar 3) (tC (V.int 4)))) (tTest (tOp rEq (tVar 6) (tVar 4)))) [some (.ref dl), some (.ref kd), some (.ref xl), some (.int kind), some (.int at'), some (.ref td), some (.int d)] H4 Qb := fun Qb hq => by
        refine ⟨_, rfl, rfl, _, rfl, ?_⟩
        rw [decI]
        by_cases h4 : kind = 4
        · rw [decide_eq_true h4]
          refine iteT ⟨_, rfl, _, rfl, rfl, _, rfl, ?_⟩
          rw [decI]
          rw [decide_eq_decide.mpr (show (kind = 4 /\ d = at') ↔ d = at' from ⟨fun h => h.2, fun h => ⟨h4, h⟩⟩)] at hq
          exact hq
        · rw [decide_eq_false h4]
          rw [decide_eq_false (show ¬ (kind = 4 /\ d = at') from fun h => h4 h.1)] at hq
          exact iteF hq
      by_cases hc : kind = 4 /\ d = at'
      · rw [decide_eq_true hc] at test
        refine if_yes test ?_
        obtain ⟨b, c, n, rfl⟩ := hpr
        have hkd4 := k4 _ _ hkd
        refine ⟨_, rfl, _, rfl, kd, V.ref pa, rfl, .inl ⟨kvs, Sum.inl d, .inl hkd4, rfl, hpa.symm⟩, pa, _, _, V.int b, rfl, rfl, SqT.of hpa4, rfl, ?_⟩
        refine ⟨_, rfl, _, rfl, kd, V.ref pa, rfl, .inl ⟨kvs, Sum.inl d, .inl hkd4, rfl, hpa.symm⟩, pa, _, _, V.int c, rfl, rfl, SqT.of hpa4, rfl, _, _, rfl, rfl, _, rfl, xl, _, _, V.int x2, rfl, rfl, SqL.of (k4 _ _ hxl), hx2, _, _, rfl, rfl, (by show (0 : Int) < 3; decide), _, _, rfl, rfl, ?_⟩
        refine ⟨_, rfl, _, rfl, kd, V.ref pa, rfl, .inl ⟨kvs, Sum.inl d, .inl hkd4, rfl, hpa.symm⟩, pa, _, _, V.int (n : Int), rfl, rfl, SqT.of hpa4, rfl, (by show 3 ≤ sizeLine; decide), fun u hu => ?_⟩
        have s5 : Same H4 (upd H4 u (.tup [V.int b, V.int (c + 1 + x2 % 3), V.int (n : Int)])) := Same.new hu
        have hu5 : upd H4 u (.tup [V.int b, V.int (c + 1 + x2 % 3), V.int (n : Int)]) u = some (.tup (([b, c + 1 + x2 % 3, (n : Int)] : List Int).map V.int)) := upd_same
        generalize upd H4 u (.tup [V.int b, V.int (c + 1 + x2 % 3), V.int (n : Int)]) = H5 at s5 hu5 ⊢
        have htd5 := s5 _ _ htd4
        have hl5 := hT4.len
        obtain ⟨kp, hTp⟩ := put (fun b o e => s5 b o (k4 b o e)) htd5 (hT4.mono fun t ys e => s5 t _ e) hdm hu5 ⟨_, _, n, rfl⟩
        exact ⟨_, rfl, _, rfl, td, _, rfl, DPut.k (k := Sum.inl d) htd5 (small1000 (by omega)), _, _, rfl, kp, upd_same, hTp⟩
      · rw [decide_eq_false hc] at test
        exact if_no test ⟨_, tk4, rfl, k4, htd4, hT4⟩
  rintro σ H2 ⟨v6, tk, rfl, k2, htd2, hT2⟩
  refine cutA (fun σ' H' => ∃ (tk : List (Key × V)), σ' = [some (.ref dl), some (.ref kd), some (.ref xl), some (.int kind), some (.int at'), some (.ref td), v6] /\ (∀ b o, H b = some o->H' b = some o) /\ H' td = some (.dK tk) /\ ToldP H' tk ds) (fun N hN => ?_) ?_
  · by_cases h5 : kind = 5
    · have e5 : decide (V.int kind = V.int 5) = true := decide_eq_true (by rw [h5])
      cases hvt : valV tk (Sum.inl at') with
      | none =>
        refine if_no (fun Qb hq => ?_) (hN _ _ ⟨tk, rfl, k2, htd2, hT2⟩)
        refine ⟨_, rfl, rfl, _, rfl, ?_⟩
        rw [e5]
        refine iteT ⟨_, rfl, _, rfl, td, _, rfl, .inl ⟨tk, Sum.inl at', .inl htd2, rfl, rfl⟩, _, rfl, ?_⟩
        rw [hvt]; exact hq
      | some vv =>
        refine if_yes (fun Qb hq => ?_) ?_
        · refine ⟨_, rfl, rfl, _, rfl, ?_⟩
          rw [e5]
          refine iteT ⟨_, rfl, _, rfl, td, _, rfl, .inl ⟨tk, Sum.inl at', .inl htd2, rfl, rfl⟩, _, rfl, ?_⟩
          rw [hvt]; exact hq
        refine ⟨_, rfl, td, rfl, .inl ⟨tk, .inl htd2⟩, _, rfl, tk, Sum.inl at', vv, htd2, rfl, hvt, ?_⟩
        exact hN _ _ ⟨_, rfl, fun b o e => by rw [upd_ne (ne_of_none e htd)]; exact k2 b o e, upd_same, (hT2.drop at').mono fun t ys e => by rw [upd_ne (ne_of e htd2 (by intro z; cases z))]; exact e⟩
    · refine if_no (fun Qb hq => ?_) (hN _ _ ⟨tk, rfl, k2, htd2, hT2⟩)
      refine ⟨_, rfl, rfl, _, rfl, ?_⟩
      rw [decide_eq_false (show ¬ V.int kind = V.int 5 from fun e => h5 (V.int.inj e))]; exact iteF hq
  clear hT2 htd2 k2
  rintro σ H3 ⟨tk, rfl, k3, htd3, hT3⟩
  have hL : ∀ d ∈ ds, d ∈ (-1 :: -2 :: ds : List Int) := fun d hd => by simp [hd]
  refine cutA (fun σ' H' => ∃ (tk : List (Key × V)), σ' = [some (.ref dl), some (.ref kd), some (.ref xl), some (.int kind), some (.int at'), some (.ref td), v6] /\ (∀ b o, H b = some o->H' b = some o) /\ H' td = some (.dK tk) /\ ToldP H' tk (-1 :: -2 :: ds)) (fun N hN => ?_) ?_
  · have hxl3 := k3 _ _ hxl
    by_cases h6 : kind = 6
    · refine if_yes (fun Qb hq => ?_) ?_
      · refine ⟨_, rfl, rfl, _, rfl, ?_⟩
        rw [decide_eq_true (show V.int kind = V.int 6 by rw [h6])]; exact hq
      refine ⟨(by show 3 ≤ sizeLine; decide), fun u1 hu1 => ?_⟩
      have s4 : Same H3 (upd H3 u1 (.tup [V.int 0, V.int 0, V.int 0])) := Same.new hu1
      have hu4 : upd H3 u1 (.tup [V.int 0, V.int 0, V.int 0]) u1 = some (.tup (([0, 0, ((0 : Nat) : Int)] : List Int).map V.int)) := upd_same
      generalize upd H3 u1 (.tup [V.int 0, V.int 0, V.int 0]) = H4 at s4 hu4 ⊢
      refine ⟨_, rfl, xl, _, _, V.int x3, rfl, rfl, SqL.of (s4 _ _ hxl3), hx3, _, _, rfl, rfl, (by show (0 : Int) < 5; decide), (by show 3 ≤ sizeLine; decide), fun u2 hu2 => ?_⟩
      have s5 : Same H4 (upd H4 u2 (.tup [V.int 0, V.int (x3 % 5), V.int 0])) := Same.new hu2
      have hu5 : upd H4 u2 (.tup [V.int 0, V.int (x3 % 5), V.int 0]) u2 = some (.tup (([0, x3 % 5, ((0 : Nat) : Int)] : List Int).map V.int)) := upd_same
      generalize upd H4 u2 (.tup [V.int 0, V.int (x3 % 5), V.int 0]) = H5 at s5 hu5 ⊢
      refine ⟨(by show 2 ≤ sizeLine; decide), fun l6 hl6' => ?_⟩
      have s6 : Same H5 (upd H5 l6 (.lst [V.ref u1, V.ref u2])) := Same.new hl6'
      have hl6 : upd H5 l6 (.lst [V.ref u1, V.ref u2]) l6 = some (.lst [V.ref u1, V.ref u2]) := upd_same
      generalize upd H5 l6 (.lst [V.ref u1, V.ref u2]) = H6 at s6 hl6 ⊢
      have s36 := (s4.trans s5).trans s6
      obtain ⟨u, pu, hidx, hu6, hpu⟩ : ∃ (u : Addr) (pu : List Int), atI [V.ref u1, V.ref u2] (x2 / 2 % 2) = some (V.ref u) /\ H6 u = some (.tup (pu.map V.int)) /\ IsPr pu := by
        have : x2 / 2 % 2 = 0 ∨ x2 / 2 % 2 = 1 := by omega
        rcases this with h | h
        · exact ⟨u1, _, by rw [h]; rfl, s6 _ _ (s5 _ _ hu4), ⟨0, 0, 0, rfl⟩⟩
        · exact ⟨u2, _, by rw [h]; rfl, s6 _ _ hu5, ⟨0, _, 0, rfl⟩⟩
      have htd6 := s36 _ _ htd3
      have hT6 := (hT3.wide hL).mono fun t ys e => s36 t _ e
      have hl7 := hT6.len
      refine ⟨_, rfl, xl, _, _, V.int x2, rfl, rfl, SqL.of (s36 _ _ hxl3), hx2, _, _, rfl, rfl, ⟨by show (0 : Int) < 2; decide, by show (2 : Int).natAbs.log2 < 9000; decide⟩, _, _, rfl, rfl, (by show (0 : Int) < 2; decide), l6, _, _, V.ref u, rfl, rfl, SqL.of hl6, hidx, _, rfl, _, _, rfl, rfl, _, rfl, xl, _, _, V.int x2, rfl, rfl, SqL.of (s36 _ _ hxl3), hx2, _, _, rfl, rfl, (by show (0 : Int) < 2; decide), _, _, rfl, rfl, td, _, rfl, DPut.k (k := Sum.inl (0 - 1 - x2 % 2)) htd6 (small1000 (by simp at hl7; omega)), ?_⟩
      have hdL : 0 - 1 - x2 % 2 ∈ (-1 :: -2 :: ds : List Int) := by
        have : x2 % 2 = 0 ∨ x2 % 2 = 1 := by omega
        rcases this with h | h <;> simp [h]
      obtain ⟨kp, hTp⟩ := put (d := 0 - 1 - x2 % 2) (fun b o e => s36 b o (k3 b o e)) htd6 hT6 hdL hu6 hpu
      exact hN _ _ ⟨_, rfl, kp, upd_same, hTp⟩
    · refine if_no (fun Qb hq => ?_) (hN _ _ ⟨tk, rfl, k3, htd3, hT3.wide hL⟩)
      refine ⟨_, rfl, rfl, _, rfl, ?_⟩
      rw [decide_eq_false (show ¬ V.int kind = V.int 6 from fun e => h6 (V.int.inj e))]; exact hq
  rintro σ H4 ⟨tk, rfl, k4, htd4, hT4⟩
  exact ⟨_, rfl, q td tk _ H4 htd4 hT4 (by simp; omega) htd (fun b o e => k4 b o e)⟩
theorem ok__law_paper {f : Addr} {fd : FuncData} (F : Fun K "_law_paper" "_law_paper" s__law_paper f fd) (T : Txt K mg) (D__law_prices_told : DefX P w K mg base "_law_prices_told" 2 ["_law_days_here", "_law_known_here", "_law_xs"] sp_ptold) (D__law_way : DefX P w K mg base "_law_way" 2 ["_law_legs_here", "_law_known_here", "_law_day"] sp_lway) (D__law_walk : DefX P w K mg base "_law_walk" 2 ["_law_legs_here", "_law_cells"] sp_walk) (D__law_turned : DefX P w K mg base "_law_turned" 1 ["_law_rows", "_law_xs"] sp_turn) : FnOk P w K mg base (CXx P w) 3 f fd ["_law_legs_here", "_law_days_here", "_law_known_here", "_law_xs"] (sp_lpaper) := by
  refine F.okX sc__law_paper (fun vs H Q E h => ?_) (fun cdv A outer s H vs Q E hr h => ?_)
  · obtain ⟨ll, dl, kd, xl, LV, legs, ds, xs, kvs, P, rfl, hll, LG, hdl, hds, hkd, PR, LP, TX, q⟩ := h; rfl
  obtain ⟨ll, dl, kd, xl, LV, legs, ds, xs, kvs, P, rfl, hll, LG, hdl, hds, hkd, PR, LP, TX, q⟩ := h
  refine ⟨_, (pss_cons (ps_set (i := 4) sc__law_paper.nd rfl (Or.inr rfl) (pe_callS D__law_prices_told passesN (hr.mono (by decide)) rfl (pa_cons (pv 1) (pa_cons (pv 2) (pa_cons (pv 3) pa_nil)))))
      (pss_cons (ps_set (i := 5) sc__law_paper.nd rfl (Or.inl rfl) (pe_op op_cat (pv 1) (pe_lst (pa_cons (pe_op op_add (pe_ix ix_list (pv 1) (pe_un un_neg pe_int) (fun _ _ => rfl)) pe_int) pa_nil))))
      (pss_cons (ps_set (i := 6) sc__law_paper.nd rfl (Or.inl rfl) (pe_ix ix_list (pv 5) (pe_op op_mod (pe_ix ix_list (pv 3) pe_int (fun _ _ => rfl)) (pe_callB call_len_seq (by rfl) T.b_len PySem.boot_len (pa_cons (pv 5) pa_nil))) (fun _ _ => rfl)))
      (pss_cons (ps_set (i := 7) sc__law_paper.nd rfl (Or.inl rfl) pe_non)
      (pss_cons (ps_if (PW.pt (pw_and (pt_cmp (pc_din (hu_of hr) (pv 6) (pv 2))) (pw_and1 (pt_cmpR op_gt (pe_op op_mod (pe_ix ix_list (pv 3) pe_int (fun _ _ => rfl)) pe_int) pe_int (nomark _))))) (pss_one (ps_set (i := 7) sc__law_paper.nd rfl (Or.inl rfl) (pe_callS D__law_way passesN (hr.mono (by decide)) rfl (pa_cons (pv 0) (pa_cons (pv 2) (pa_cons (pv 6) pa_nil)))))) pss_nil)
      (pss_cons (ps_if (pt_cmpR op_eq (pe_op op_mod (pe_ix ix_list (pv 3) pe_int (fun _ _ => rfl)) pe_int) pe_int (nomark _)) (pss_cons (ps_asg (pe_callS D__law_walk passesN (hr.mono (by decide)) rfl (pa_cons (pv 0) (pa_cons (pe_slice sl_list (pv 3) (po_some pe_int) (po_some pe_int)) pa_nil))) (pg_tupL rfl (pgs_cons (pg_name (i := 7) sc__law_paper.nd rfl (Or.inl rfl)) (pgs_cons (pg_name (i := 8) sc__law_paper.nd rfl (Or.inl rfl)) (pgs_cons (pg_name (i := 9) sc__law_paper.nd rfl (Or.inl rfl)) pgs_nil)))))
      (pss_one (ps_if (pt_cmpR (op_ne_ref hr.units) (pv 7) (pe_lst pa_nil) (nomark _)) (pss_cons (ps_set (i := 6) sc__law_paper.nd rfl (Or.inl rfl) (pv 8))
      (pss_one (ps_dput (hu_of hr) (pv 4) (pv 6) (pv 9) rfl))) pss_nil))) pss_nil)
      (pss_cons (ps_if (PW.pt (pw_and (pt_cmpR op_eq (pe_op op_mod (pe_ix ix_list (pv 3) pe_int (fun _ _ => rfl)) pe_int) pe_int (nomark _)) (pw_and1 (pt_cmpR op_notN (pv 7) pe_non (nomark _))))) (pss_one (ps_asg (pe_ix ix_tup (pe_ix ix_list (pv 0) (pe_op op_mod (pe_ix ix_list (pv 3) pe_int (fun _ _ => rfl)) (pe_callB call_len_seq (by rfl) T.b_len PySem.boot_len (pa_cons (pv 0) pa_nil))) (fun _ _ => rfl)) pe_int (fun _ _ => rfl)) (pg_sub (pv 7) (pe_op op_mod (pe_ix ix_list (pv 3) pe_int (fun _ _ => rfl)) (pe_callB call_len_seq (by rfl) T.b_len PySem.boot_len (pa_cons (pv 7) pa_nil))) set_list))) pss_nil)
      (pss_cons (ps_if (pt_cmpR op_eq (pe_op op_mod (pe_ix ix_list (pv 3) pe_int (fun _ _ => rfl)) pe_int) pe_int (nomark _)) (pss_one (ps_set (i := 7) sc__law_paper.nd rfl (Or.inl rfl) (pe_lst pa_nil))) pss_nil)
      (pss_cons (ps_if (PW.pt (pw_and (pt_cmpR op_eq (pe_op op_mod (pe_ix ix_list (pv 3) pe_int (fun _ _ => rfl)) pe_int) pe_int (nomark _)) (pw_and1 (pt_cmpR op_notN (pv 7) pe_non (nomark _))))) (pss_cons (ps_if (pt_cmpR op_eq (pe_op op_mod (pe_ix ix_list (pv 3) pe_int (fun _ _ => rfl)) pe_int) pe_int (nomark _)) (pss_one (ps_dput (hu_of hr) (pv 4) (pe_ix ix_list (pv 5) (pe_op op_mod (pe_ix ix_list (pv 3) pe_int (fun _ _ => rfl)) (pe_callB call_len_seq (by rfl) T.b_len PySem.boot_len (pa_cons (pv 5) pa_nil))) (fun _ _ => rfl)) (pe_dget (hu_of hr) (pv 2) (pv 6) (fun _ _ => rfl)) rfl)) pss_nil)
      (pss_one (ps_set (i := 6) sc__law_paper.nd rfl (Or.inl rfl) (pe_ix ix_list (pv 5) (pe_op op_mod (pe_ix ix_list (pv 3) pe_int (fun _ _ => rfl)) (pe_callB call_len_seq (by rfl) T.b_len PySem.boot_len (pa_cons (pv 5) pa_nil))) (fun _ _ => rfl))))) pss_nil)
      (pss_cons (ps_setComp (i := 10) sc__law_paper.nd rfl (Or.inl rfl) (N := ["_law_one", "_law_told"]) (k := 1) (cap := [4]) rfl rfl (pi_list (pe_callB (call_sortedD rfl) (by rfl) T.b_sorted PyProof.Rows.boot_sorted (pa_cons (pv 4) pa_nil))) (fun _ _ _ _ => (pg_name (i := 0) (show (["_law_one", "_law_told"] : List Str).Nodup from by decide +kernel) rfl (Or.inl rfl) (.inr rfl))) (fun _ _ _ _ => pts_nil) (fun _ _ _ _ => (pe_op (op_catTK (K := K) rfl) (pe_tup (pa_cons (pv 0) pa_nil)) (pe_dget (hu_of hr) (pv 1) (pv 0) (fun _ _ => rfl)))))
      (pss_one (ps_ret (pe_lst (pa_cons (pv 6) (pa_cons (pv 7) (pa_cons (pe_callS D__law_turned passesN (hr.mono (by decide)) rfl (pa_cons (pv 10) (pa_cons (pv 3) pa_nil))) pa_nil)))))))))))))))), ?_⟩
  have hdsl := hds.len
  have hxl := TX.1
  have hLl : LV.length = legs.length := by rw [LG.keys.len, List.length_map]
  have h500 := LG.len
  obtain ⟨x6, hx6⟩ := ten_at TX 6 (by decide)
  obtain ⟨x7, hx7⟩ := ten_at TX 7 (by decide)
  obtain ⟨x8, hx8⟩ := ten_at TX 8 (by decide)
  obtain ⟨x9, hx9⟩ := ten_at TX 9 (by decide)
  refine ⟨_, rfl, _, rfl, _, rfl, dl, kd, xl, ds, xs, kvs, P, rfl, hdl, hdsl.1, hdsl.2, hkd, PR, LP.pr, TX, fun td tk L H1 htd1 hT1 hL32 ntd s1 => ?_⟩
  refine gNameA [some (.ref ll), some (.ref dl), some (.ref kd), some (.ref xl), some (.ref td), none, none, none, none, none, none] ?_
  obtain ⟨z, hz, _⟩ := hds.last
  have hz0 := last_pos hds.pos hz
  have hdl1 := s1 _ _ hdl
  refine ⟨_, rfl, _, rfl, _, rfl, dl, _, _, V.int z, rfl, rfl, SqL.of hdl1, hz, _, _, rfl, rfl, (by show 1 ≤ sizeLine; decide), fun o ho => ?_⟩
  have s2 : Same H1 (upd H1 o (.lst [V.int (z + 1)])) := Same.new ho
  have ho2 : upd H1 o (.lst [V.int (z + 1)]) o = some (.lst [V.int (z + 1)]) := upd_same
  generalize upd H1 o (.lst [V.int (z + 1)]) = H2 at s2 ho2 ⊢
  refine ⟨dl, o, _, _, rfl, rfl, s2 _ _ hdl1, ho2, by rw [List.length_map]; exact Nat.le_of_lt (small1000 (by simp; omega)), fun sm hsm => ?_⟩
  generalize hds2 : ds ++ [z + 1] = ds2
  have hpos2 : ∀ d ∈ ds2, 0 ≤ d := fun d hd => by
    rw [← hds2] at hd
    rcases List.mem_append.mp hd with h | h
    · exact hds.pos d h
    · rw [List.mem_singleton.mp h]; omega
  have hlen2 : 0 < ds2.length := by rw [← hds2]; simp
  have s3 : Same H2 (upd H2 sm (.lst (ds.map V.int ++ [V.int (z + 1)]))) := Same.new hsm
  have hsm3 : upd H2 sm (.lst (ds.map V.int ++ [V.int (z + 1)])) sm = some (.lst (ds2.map V.int)) := by rw [upd_same, ← hds2, List.map_append]; rfl
  generalize upd H2 sm (.lst (ds.map V.int ++ [V.int (z + 1)])) = H3 at s3 hsm3 ⊢
  refine gNameA [some (.ref ll), some (.ref dl), some (.ref kd), some (.ref xl), some (.ref td), some (.ref sm), none, none, none, none, none] ?_
  have s13 := s2.trans s3
  have s03 := s1.trans s13
  have htd3 := s13 _ _ htd1
  have hT3 := hT1.mono fun t ys e => s13 t _ e
  have nsm : H sm = none := (s1.trans s2).free hsm
  have hxl3 := s03 _ _ hxl
  have hkd3 := s03 _ _ hkd
  have hpick : ∀ x : Int, ∃ day, atI (ds2.map V.int) (x % (ds2.length : Int)) = some (V.int day) /\ 0 ≤ day := fun x => by
    obtain ⟨d, h1, h2⟩ := ints_at (ds := ds2) (Int.emod_nonneg x (show (ds2.length : Int) ≠ 0 by omega)) (Int.emod_lt_of_pos x (show (0 : Int) < (ds2.length : Int) by omega))
    exact ⟨d, h1, hpos2 d h2⟩
  obtain ⟨day, hday, hd0⟩ := hpick x6
  refine ⟨_, rfl, _, rfl, xl, _, _, V.int x6, rfl, rfl, SqL.of hxl3, hx6, _, rfl, sm, _, rfl, .inl (SqL.of hsm3), _, _, rfl, rfl, by show (0 : Int) < ((ds2.map V.int).length : Int); rw [List.length_map]; omega, sm, _, _, V.int day, rfl, rfl, SqL.of hsm3, by rw [List.length_map]; exact hday, ?_⟩
  refine gNameA [some (.ref ll), some (.ref dl), some (.ref kd), some (.ref xl), some (.ref td), some (.ref sm), some (.int day), none, none, none, none] ?_
  dsimp only
  refine gNameA [some (.ref ll), some (.ref dl), some (.ref kd), some (.ref xl), some (.ref td), some (.ref sm), some (.int day), some .non, none, none, none] ?_
  have hd1 : day ≠ -1 := by omega
  dsimp only
  refine cutA (fun σ' H' => ∃ v7 : V, σ' = [some (.ref ll), some (.ref dl), some (.ref kd), some (.ref xl), some (.ref td), some (.ref sm), some (.int day), some v7, none, none, none] /\ Same H3 H' /\ (v7 = .non ∨ ∃ (w : Addr) (ws : List Int), v7 = .ref w /\ H' w = some (.lst (ws.map V.int)) /\ H3 w = none /\ ws ≠ [] /\ ws.length ≤ 500 /\ (P day).isSome = true)) (fun N hN => ?_) ?_
  · have hv := (PR.mono fun t ys e => s03 t _ e).val day
    cases hP : P day with
    | none =>
      rw [hP] at hv
      refine if_no (fun Qb hq => ?_) (hN _ _ ⟨.non, rfl, Same.refl _, .inl rfl⟩)
      refine ⟨_, rfl, _, rfl, kd, _, rfl, .inl ⟨kvs, Sum.inl day, .inl hkd3, rfl, rfl⟩, _, rfl, ?_⟩
      rw [hv.none_of]; exact iteF hq
    | some p =>
      rw [hP] at hv
      obtain ⟨pa, hpa, _⟩ := hv.some_of
      have test : ∀ Qb : Bool->Hp->Prop, Qb (decide (0 < x7 % 6)) H3->(tAnd (tB (tDIn (tVar 6) (tVar 2))) (tTest (tOp (rI0 fun i j => V.bl (decide (j < i))) (tOp (rI (fun x j => 0 < j) fun i j => V.int (i % j)) (tOp (rIxL K) (tVar 3) (tC (V.int 7))) (tC (V.int 6))) (tC (V.int 0))))) [some (.ref ll), some (.ref dl), some (.ref kd), some (.ref xl), some (.ref td), some (.ref sm), some (.int day), some .non, none, none, none] H3 Qb := fun Qb hq => by
        refine ⟨_, rfl, _, rfl, kd, _, rfl, .inl ⟨kvs, Sum.inl day, .inl hkd3, rfl, rfl⟩, _, rfl, ?_⟩
        rw [hpa]
        exact iteT ⟨_, rfl, xl, _, _, V.int x7, rfl, rfl, SqL.of hxl3, hx7, _, _, rfl, rfl, (by show (0 : Int) < 6; decide), _, _, rfl, rfl, _, rfl, hq⟩
      by_cases h6 : 0 < x7 % 6
      · rw [decide_eq_true h6] at test
        refine if_yes test ?_
        refine ⟨_, rfl, _, rfl, _, rfl, ll, kd, LV, legs, kvs, P, day, rfl, s03 _ _ hll, LG.mono (fun t ys e => s03 t _ e), hkd3, PR.mono (fun t ys e => s03 t _ e), LP, by rw [hP]; rfl, hd1, fun w ws H4 hw hne hl nw s4 => ?_⟩
        refine gNameA [some (.ref ll), some (.ref dl), some (.ref kd), some (.ref xl), some (.ref td), some (.ref sm), some (.int day), some (.ref w), none, none, none] ?_
        exact hN _ _ ⟨.ref w, rfl, s4, .inr ⟨w, ws, rfl, hw, nw, hne, by omega, by rw [hP]; rfl⟩⟩
      · rw [decide_eq_false h6] at test
        exact if_no test (hN _ _ ⟨.non, rfl, Same.refl _, .inl rfl⟩)
  rintro σ H4 ⟨v7, rfl, s4, hway4⟩
  have s04 := s03.trans s4
  have testE : ∀ (m k : Int) (H' : Hp) (σ : St), 0 < m->H' xl = some (.lst (xs.map V.int))->σ[3]? = some (some (.ref xl))->∀ Qb : Bool->Hp->Prop, Qb (decide (x7 % m = k)) H'->(tTest (tOp rEq (tOp (rI (fun x j => 0 < j) fun i j => V.int (i % j)) (tOp (rIxL K) (tVar 3) (tC (V.int 7))) (tC (V.int m))) (tC (V.int k)))) σ H' Qb := fun m k H' σ hm hx hσ Qb hq => by
    refine ⟨_, hσ, xl, _, _, V.int x7, rfl, rfl, SqL.of hx, hx7, _, _, rfl, rfl, hm, rfl, _, rfl, ?_⟩
    rw [decI]; exact hq
  refine cutA (fun σ' H' => ∃ (day : Int) (v7 : V) (v8 v9 : Option V) (tk : List (Key × V)) (L : List Int), σ' = [some (.ref ll), some (.ref dl), some (.ref kd), some (.ref xl), some (.ref td), some (.ref sm), some (.int day), some v7, v8, v9, none] /\ (∀ b o, H b = some o->H' b = some o) /\ H' sm = some (.lst (ds2.map V.int)) /\ H' td = some (.dK tk) /\ ToldP H' tk L /\ L.length ≤ 33 /\ 0 ≤ day /\ (v7 = .non ∨ ∃ (w : Addr) (ws : List Int), v7 = .ref w /\ H' w = some (.lst (ws.map V.int)) /\ H w = none /\ w ≠ sm /\ ws.length ≤ 500 /\ (x7 % 6 ≠ 2->ws ≠ [] /\ (P day).isSome = true))) (fun N hN => ?_) ?_
  · have test := testE 6 2 H4 [some (.ref ll), some (.ref dl), some (.ref kd), some (.ref xl), some (.ref td), some (.ref sm), some (.int day), some v7, none, none, none] (by decide) (s4 _ _ hxl3) rfl
    have hsm4 := s4 _ _ hsm3
    have htd4 := s4 _ _ htd3
    have hT4 := hT3.mono fun t ys e => s4 t _ e
    by_cases h2 : x7 % 6 = 2
    · rw [decide_eq_true h2] at test
      refine if_yes test ?_
      refine ⟨_, rfl, _, rfl, _, rfl, _, rfl, xl, _, rfl, SqL.of (s4 _ _ hxl3), fun cl hcl => ?_⟩
      obtain ⟨cs, hcs, hcsl⟩ := cut_ints xs (some 4) (some 10)
      have s5 : Same H4 (upd H4 cl (.lst (cutV (xs.map V.int) (some 4) (some 10)))) := Same.new hcl
      have hcl5 : upd H4 cl (.lst (cutV (xs.map V.int) (some 4) (some 10))) cl = some (.lst (cs.map V.int)) := by rw [upd_same, hcs]
      generalize upd H4 cl (.lst (cutV (xs.map V.int) (some 4) (some 10))) = H5 at s5 hcl5 ⊢
      have s05 := s04.trans s5
      refine ⟨ll, cl, LV, legs, cs, rfl, s05 _ _ hll, LG.mono (fun t ys e => s05 t _ e), hcl5, by have := TX.2; omega, fun r w pt ws here p H6 hr' hw hpt hgo hpr hto hwl nr nw s6 => ?_⟩
      refine ⟨r, _, rfl, SqL.of hr', rfl, _, _, rfl, _, _, rfl, _, _, rfl, rfl, ?_⟩
      refine nxA [some (.ref ll), some (.ref dl), some (.ref kd), some (.ref xl), some (.ref td), some (.ref sm), some (.int day), some (.ref w), some (.int here), some (.ref pt), none] ?_
      have s46 := s5.trans s6
      have s06 := s04.trans s46
      have nwsm : w ≠ sm := fun e => by rw [e, s5 _ _ hsm4] at nw; cases nw
      have nwH : H w = none := s05.free nw
      have test2 : ∀ Qb : Bool->Hp->Prop, (∀ H', Same H6 H'->Qb (!decide (ws = [])) H')->(tTest (tOp (rNeR K) (tVar 7) (tLst tNil))) [some (.ref ll), some (.ref dl), some (.ref kd), some (.ref xl), some (.ref td), some (.ref sm), some (.int day), some (.ref w), some (.int here), some (.ref pt), none] H6 Qb := fun Qb hq => by
        refine ⟨_, rfl, Nat.zero_le _, fun e1 he1 => ?_⟩
        exact ⟨0, decide (ws = []), by decide, SeqEq.ints (SqL.of (Same.new he1 _ _ hw)) (SqL.of (xs := ([] : List Int).map V.int) upd_same), _, rfl, hq _ (Same.new he1)⟩
      by_cases hw0 : ws = []
      · rw [decide_eq_true hw0] at test2
        refine if_noP (fun H' => Same H6 H') test2 fun H7 s7 => hN _ _ ⟨day, _, _, _, tk, L, rfl, fun b o e => s7 b o (s06 b o e), s7 _ _ (s46 _ _ hsm4), s7 _ _ (s46 _ _ htd4), hT4.mono (fun t ys e => s7 _ _ (s46 _ _ e)), by omega, hd0, .inr ⟨w, ws, rfl, s7 _ _ hw, nwH, nwsm, by omega, fun h => absurd h2 h⟩⟩
      · rw [decide_eq_false hw0] at test2
        refine if_yesP (fun H' => Same H6 H') test2 fun H7 s7 => ?_
        obtain ⟨g0, hg0, hgt⟩ := hto hw0
        have hhere : 0 ≤ here := by rw [← hgt]; exact (LG.ok g0 hg0).1
        refine ⟨_, rfl, ?_⟩
        refine gNameA [some (.ref ll), some (.ref dl), some (.ref kd), some (.ref xl), some (.ref td), some (.ref sm), some (.int here), some (.ref w), some (.int here), some (.ref pt), none] ?_
        have s47 := s46.trans s7
        have htd7 := s47 _ _ htd4
        have hT7 := (hT4.wide (L' := here :: L) fun d hd => by simp [hd]).mono fun t ys e => s47 t _ e
        have hl7 := hT7.len
        refine ⟨_, rfl, _, rfl, _, rfl, td, _, rfl, DPut.k (k := Sum.inl here) htd7 (small1000 (by simp at hl7; omega)), ?_⟩
        have hput := hT7.put (d := here) (by simp) (s7 _ _ hpt) hpr
        have ntw : td ≠ w := ne_of htd7 (s7 _ _ hw) (by intro z; cases z)
        have nts : td ≠ sm := ne_of htd7 (s47 _ _ hsm4) (by intro z; cases z)
        exact hN _ _ ⟨here, _, _, _, _, here :: L, rfl, fun b o e => by rw [upd_ne (ne_of_none e ntd)]; exact s7 b o (s06 b o e), by rw [upd_ne nts.symm]; exact s47 _ _ hsm4, upd_same, hput.mono (fun t ys e => by rw [upd_ne (ne_of e htd7 (by intro z; cases z))]; exact e), by simp; omega, hhere, .inr ⟨w, ws, rfl, by rw [upd_ne ntw.symm]; exact s7 _ _ hw, nwH, nwsm, by omega, fun h => absurd h2 h⟩⟩
    · rw [decide_eq_false h2] at test
      refine if_no test (hN _ _ ⟨day, v7, none, none, tk, L, rfl, fun b o e => s04 b o e, hsm4, htd4, hT4, by omega, hd0, ?_⟩)
      rcases hway4 with h | ⟨w, ws, h1, h2', h3, h4, h5, h6⟩
      · exact .inl h
      · exact .inr ⟨w, ws, h1, h2', s03.free h3, (fun e => by rw [e, hsm3] at h3; cases h3), h5, fun _ => ⟨h4, h6⟩⟩
  clear hway4 s04 s4 hT3 htd3 hT1 htd1 hday hd0 hd1 hL32
  clear day v7 tk L H4
  rintro σ H4 ⟨day, v7, v8, v9, tk, L, rfl, k4, hsm4, htd4, hT4, hL33, hd0, hway4⟩
  refine cutA (fun σ' H' => ∃ (v7 : V), σ' = [some (.ref ll), some (.ref dl), some (.ref kd), some (.ref xl), some (.ref td), some (.ref sm), some (.int day), some v7, v8, v9, none] /\ (∀ b o, H b = some o->H' b = some o) /\ H' sm = some (.lst (ds2.map V.int)) /\ H' td = some (.dK tk) /\ ToldP H' tk L /\ (v7 = .non ∨ ∃ (w : Addr) (ws : List Int), v7 = .ref w /\ H' w = some (.lst (ws.map V.int)) /\ (x7 % 6 ≠ 2->(P day).isSome = true))) (fun N hN => ?_) ?_
  · have test := testE 6 3 H4 [some (.ref ll), some (.ref dl), some (.ref kd), some (.ref xl), some (.ref td), some (.ref sm), some (.int day), some v7, v8, v9, none] (by decide) (k4 _ _ hxl) rfl
    have stay : N [some (.ref ll), some (.ref dl), some (.ref kd), some (.ref xl), some (.ref td), some (.ref sm), some (.int day), some v7, v8, v9, none] H4 := hN _ _ ⟨v7, rfl, k4, hsm4, htd4, hT4, hway4.imp id fun ⟨w, ws, h1, h2, _, _, _, h6⟩ => ⟨w, ws, h1, h2, fun h => (h6 h).2⟩⟩
    by_cases h3 : x7 % 6 = 3
    · rw [decide_eq_true h3] at test
      rcases hway4 with rfl | ⟨w, ws, rfl, hw, nw, nws, hwl, hne⟩
      · exact if_no (fun Qb hq => test _ (iteT ⟨_, rfl, rfl, _, rfl, hq⟩)) stay
      · refine if_yes (fun Qb hq => test _ (iteT ⟨_, rfl, rfl, _, rfl, hq⟩)) ?_
        obtain ⟨hws, hPs⟩ := hne (by omega)
        have hlp : 0 < legs.length := by
          cases hP : P day with
          | none => rw [hP] at hPs; cases hPs
          | some q0 =>
            obtain ⟨g, hg, _⟩ := LP.att day q0 hP (by omega)
            exact List.length_pos_of_mem hg
        have hm0 := Int.emod_nonneg x9 (show (LV.length : Int) ≠ 0 by omega)
        have hm1 := Int.emod_lt_of_pos x9 (show (0 : Int) < (LV.length : Int) by omega)
        obtain ⟨j, hj⟩ : ∃ j : Nat, x9 % (LV.length : Int) = (j : Int) := ⟨(x9 % (LV.length : Int)).toNat, by omega⟩
        have hjl : j < LV.length := by omega
        obtain ⟨b, g, hb, eg, hbg⟩ := key_leg LG.keys (List.getElem?_eq_getElem hjl)
        have hat : atI LV (x9 % (LV.length : Int)) = some (V.ref b) := by rw [hj]; exact atI_nat (by rw [List.getElem?_eq_getElem hjl, hb])
        have hwp : 0 < ws.length := List.length_pos_iff.mpr hws
        have hn0 := Int.emod_nonneg x8 (show (ws.length : Int) ≠ 0 by omega)
        have hn1 := Int.emod_lt_of_pos x8 (show (0 : Int) < (ws.length : Int) by omega)
        obtain ⟨i, hi⟩ : ∃ i : Nat, x8 % (ws.length : Int) = (i : Int) := ⟨(x8 % (ws.length : Int)).toNat, by omega⟩
        refine ⟨_, rfl, _, rfl, xl, _, _, V.int x9, rfl, rfl, SqL.of (k4 _ _ hxl), hx9, _, rfl, ll, _, rfl, .inl (SqL.of (k4 _ _ hll)), _, _, rfl, rfl, (by show (0 : Int) < (LV.length : Int); omega), ll, _, _, V.ref b, rfl, rfl, SqL.of (k4 _ _ hll), hat, b, _, _, V.int g.num, rfl, rfl, SqT.of (k4 _ _ hbg), rfl, ?_⟩
        refine ⟨_, rfl, _, rfl, xl, _, _, V.int x8, rfl, rfl, SqL.of (k4 _ _ hxl), hx8, _, rfl, w, _, rfl, .inl (SqL.of hw), _, _, rfl, rfl, by show (0 : Int) < ((ws.map V.int).length : Int); rw [List.length_map]; omega, w, _, _, i, rfl, rfl, hw, ?_, ?_⟩
        · rw [List.length_map, hi]; unfold ixN; rw [if_pos (by omega), if_pos (by omega)]; rfl
        have ntw : td ≠ w := ne_of htd4 hw (by intro z; cases z)
        exact hN _ _ ⟨.ref w, rfl, fun b o e => by rw [upd_ne (ne_of_none e nw)]; exact k4 b o e, by rw [upd_ne nws.symm]; exact hsm4, by rw [upd_ne ntw]; exact htd4, hT4.mono (fun t ys e => by rw [upd_ne (ne_of e hw (by intro z; cases z))]; exact e), .inr ⟨w, ws.set i g.num, rfl, by rw [upd_same, List.map_set], fun _ => hPs⟩⟩
    · rw [decide_eq_false h3] at test
      exact if_no (fun Qb hq => test _ (iteF hq)) stay
  clear hway4 hT4 htd4 hsm4 k4
  clear v7 H4
  rintro σ H4 ⟨v7, rfl, k4, hsm4, htd4, hT4, hway4⟩
  refine cutA (fun σ' H' => ∃ (v7 : V), σ' = [some (.ref ll), some (.ref dl), some (.ref kd), some (.ref xl), some (.ref td), some (.ref sm), some (.int day), some v7, v8, v9, none] /\ (∀ b o, H b = some o->H' b = some o) /\ H' sm = some (.lst (ds2.map V.int)) /\ H' td = some (.dK tk) /\ ToldP H' tk L /\ (v7 = .non ∨ ∃ (w : Addr) (ws : List Int), v7 = .ref w /\ H' w = some (.lst (ws.map V.int)) /\ (x7 % 6 = 5->(P day).isSome = true))) (fun N hN => ?_) ?_
  · have test := testE 12 4 H4 [some (.ref ll), some (.ref dl), some (.ref kd), some (.ref xl), some (.ref td), some (.ref sm), some (.int day), some v7, v8, v9, none] (by decide) (k4 _ _ hxl) rfl
    by_cases h4 : x7 % 12 = 4
    · rw [decide_eq_true h4] at test
      refine if_yes test ⟨Nat.zero_le _, fun w hw => ?_⟩
      refine gNameA [some (.ref ll), some (.ref dl), some (.ref kd), some (.ref xl), some (.ref td), some (.ref sm), some (.int day), some (.ref w), v8, v9, none] ?_
      have s5 : Same H4 (upd H4 w (.lst [])) := Same.new hw
      exact hN _ _ ⟨.ref w, rfl, fun b o e => s5 b o (k4 b o e), s5 _ _ hsm4, s5 _ _ htd4, hT4.mono (fun t ys e => s5 _ _ e), .inr ⟨w, [], rfl, upd_same, fun h => by omega⟩⟩
    · rw [decide_eq_false h4] at test
      exact if_no test (hN _ _ ⟨v7, rfl, k4, hsm4, htd4, hT4, hway4.imp id fun ⟨w, ws, h1, h2, h3⟩ => ⟨w, ws, h1, h2, fun h => h3 (by omega)⟩⟩)
  clear hway4 hT4 htd4 hsm4 k4
  clear v7 H4
  rintro σ H4 ⟨v7, rfl, k4, hsm4, htd4, hT4, hway4⟩
  obtain ⟨d8, hd8, hd80⟩ := hpick x8
  refine cutA (fun σ' H' => ∃ (day : Int) (tk : List (Key × V)) (L : List Int), σ' = [some (.ref ll), some (.ref dl), some (.ref kd), some (.ref xl), some (.ref td), some (.ref sm), some (.int day), some v7, v8, v9, none] /\ (∀ b o, H b = some o->H' b = some o) /\ H' td = some (.dK tk) /\ ToldP H' tk L /\ L.length ≤ 34 /\ 0 ≤ day /\ (v7 = .non ∨ ∃ (w : Addr) (ws : List Int), v7 = .ref w /\ H' w = some (.lst (ws.map V.int)))) (fun N hN => ?_) ?_
  · have test := testE 6 5 H4 [some (.ref ll), some (.ref dl), some (.ref kd), some (.ref xl), some (.ref td), some (.ref sm), some (.int day), some v7, v8, v9, none] (by decide) (k4 _ _ hxl) rfl
    have stay : N [some (.ref ll), some (.ref dl), some (.ref kd), some (.ref xl), some (.ref td), some (.ref sm), some (.int day), some v7, v8, v9, none] H4 := hN _ _ ⟨day, tk, L, rfl, k4, htd4, hT4, by omega, hd0, hway4.imp id fun ⟨w, ws, h1, h2, _⟩ => ⟨w, ws, h1, h2⟩⟩
    by_cases h5 : x7 % 6 = 5
    · rw [decide_eq_true h5] at test
      rcases hway4 with rfl | ⟨w, ws, rfl, hw, hPs⟩
      · exact if_no (fun Qb hq => test _ (iteT ⟨_, rfl, rfl, _, rfl, hq⟩)) stay
      · refine if_yes (fun Qb hq => test _ (iteT ⟨_, rfl, rfl, _, rfl, hq⟩)) ?_
        have hPs := hPs h5
        have hpk : ∀ (H' : Hp) (Q' : VK) (v10 : Option V), H' xl = some (.lst (xs.map V.int))->H' sm = some (.lst (ds2.map V.int))->Q' (.int d8) H'->(tOp (rIxL K) (tVar 5) (tOp (rI (fun x j => 0 < j) fun i j => V.int (i % j)) (tOp (rIxL K) (tVar 3) (tC (V.int 8))) (tCB (fun xs H_1 Q => ∃ p ys, xs = [V.ref p] /\ (SqL K H_1 p ys ∨ SqT K H_1 p ys) /\ Q (V.int ↑ys.length) H_1) (tCons (tVar 5) tNil)))) [some (.ref ll), some (.ref dl), some (.ref kd), some (.ref xl), some (.ref td), some (.ref sm), some (.int day), some (.ref w), v8, v9, v10] H' Q' := fun H' Q' v10 hx hs hq =>
          ⟨_, rfl, _, rfl, xl, _, _, V.int x8, rfl, rfl, SqL.of hx, hx8, _, rfl, sm, _, rfl, .inl (SqL.of hs), _, _, rfl, rfl, by show (0 : Int) < ((ds2.map V.int).length : Int); rw [List.length_map]; omega, sm, _, _, V.int d8, rfl, rfl, SqL.of hs, by rw [List.length_map]; exact hd8, hq⟩
        refine cutA (fun σ' H' => ∃ (tk : List (Key × V)) (L : List Int), σ' = [some (.ref ll), some (.ref dl), some (.ref kd), some (.ref xl), some (.ref td), some (.ref sm), some (.int day), some (.ref w), v8, v9, none] /\ (∀ b o, H b = some o->H' b = some o) /\ H' sm = some (.lst (ds2.map V.int)) /\ H' td = some (.dK tk) /\ ToldP H' tk L /\ L.length ≤ 34 /\ H' w = some (.lst (ws.map V.int))) (fun N2 hN2 => ?_) ?_
        · by_cases h9 : x9 % 2 = 1
          · refine if_yes (fun Qb hq => ?_) ?_
            · refine ⟨_, rfl, xl, _, _, V.int x9, rfl, rfl, SqL.of (k4 _ _ hxl), hx9, _, _, rfl, rfl, (by show (0 : Int) < 2; decide), rfl, _, rfl, ?_⟩
              rw [decide_eq_true (show V.int (x9 % 2) = V.int 1 by rw [h9])]; exact hq
            have hv := (PR.mono fun t ys e => k4 t _ e).val day
            cases hP : P day with
            | none => rw [hP] at hPs; cases hPs
            | some p =>
            rw [hP] at hv
            obtain ⟨pa, hpa, hpa'⟩ := hv.some_of
            have hT5 := hT4.wide (L' := d8 :: L) fun d hd => by simp [hd]
            have hl5 := hT5.len
            refine ⟨_, rfl, _, rfl, kd, V.ref pa, rfl, .inl ⟨kvs, Sum.inl day, .inl (k4 _ _ hkd), rfl, hpa.symm⟩, _, rfl, hpk _ _ _ (k4 _ _ hxl) hsm4 ⟨td, _, rfl, DPut.k (k := Sum.inl d8) htd4 (small1000 (by simp at hl5; omega)), ?_⟩⟩
            have ntw : td ≠ w := ne_of htd4 hw (by intro z; cases z)
            have nts : td ≠ sm := ne_of htd4 hsm4 (by intro z; cases z)
            exact hN2 _ _ ⟨_, d8 :: L, rfl, fun b o e => by rw [upd_ne (ne_of_none e ntd)]; exact k4 b o e, by rw [upd_ne nts.symm]; exact hsm4, upd_same, (hT5.put (d := d8) (by simp) hpa' (LP.pr _ _ hP)).mono (fun t ys e => by rw [upd_ne (ne_of e htd4 (by intro z; cases z))]; exact e), by simp; omega, by rw [upd_ne ntw.symm]; exact hw⟩
          · refine if_no (fun Qb hq => ?_) (hN2 _ _ ⟨tk, L, rfl, k4, hsm4, htd4, hT4, by omega, hw⟩)
            refine ⟨_, rfl, xl, _, _, V.int x9, rfl, rfl, SqL.of (k4 _ _ hxl), hx9, _, _, rfl, rfl, (by show (0 : Int) < 2; decide), rfl, _, rfl, ?_⟩
            rw [decide_eq_false (show ¬ V.int (x9 % 2) = V.int 1 from fun e => h9 (V.int.inj e))]; exact hq
        rintro σ H5 ⟨tk5, L5, rfl, k5, hsm5, htd5, hT5, hL5, hw5⟩
        refine hpk _ _ _ (k5 _ _ hxl) hsm5 ?_
        refine gNameA [some (.ref ll), some (.ref dl), some (.ref kd), some (.ref xl), some (.ref td), some (.ref sm), some (.int d8), some (.ref w), v8, v9, none] ?_
        exact hN _ _ ⟨d8, tk5, L5, rfl, k5, htd5, hT5, hL5, hd80, .inr ⟨w, ws, rfl, hw5⟩⟩
    · rw [decide_eq_false h5] at test
      exact if_no (fun Qb hq => test _ (iteF hq)) stay
  clear hway4 hT4 htd4 hsm4 k4 hd0 hL33
  clear day tk L H4
  rintro σ H5 ⟨day, tk, L, rfl, k5, htd5, hT5, hL34, hd0, hway5⟩
  have htl := hT5.len
  obtain ⟨T, PT, hTp, _⟩ := hT5.ex
  obtain ⟨ts, hts⟩ := alli_keys PT.alli
  have htn : ts.Nodup := by
    have := PT.nd
    rw [hts] at this
    exact nodup_of_map this
  have htm : ∀ k, k ∈ ts ↔ (T k).isSome = true := fun k => by
    rw [← (PT.val k).is]
    refine Iff.trans ?_ valV_there.symm
    rw [hts]
    exact ⟨fun h => List.mem_map.mpr ⟨k, h, rfl⟩, fun h => by obtain ⟨z, hz, e⟩ := List.mem_map.mp h; rw [← Sum.inl.inj e]; exact hz⟩
  have htsl : tk.length = ts.length := by have := congrArg List.length hts; simpa using this
  refine ⟨_, rfl, td, tk, ts, rfl, htd5, hts, by omega, fun sl ns' hsl hperm hsort => ?_⟩
  have s6 : Same H5 (upd H5 sl (.lst (ns'.map V.int))) := Same.new hsl
  have hsl6 : upd H5 sl (.lst (ns'.map V.int)) sl = some (.lst (ns'.map V.int)) := upd_same
  generalize upd H5 sl (.lst (ns'.map V.int)) = H6 at s6 hsl6 ⊢
  have hnm : ∀ k, k ∈ ns' ↔ (T k).isSome = true := fun k => hperm.mem_iff.trans (htm k)
  have hnl : ns'.length ≤ 34 := by rw [hperm.length_eq]; omega
  have htd6 := s6 _ _ htd5
  have PT6 := PT.mono fun t ys e => s6 t _ e
  refine ⟨sl, rfl, ⟨_, SqL.of hsl6⟩, fun D' hD' => ?_⟩
  refine comp_list D' (K := K) (a := sl) (xs := ns'.map V.int) (fun i σ H7 ys => ∃ (v : Option V), σ = [v, some (.ref td)] /\ Same H6 H7 /\ H7 D' = some (.lst ys) /\ ys.length = i /\ ∀ y ∈ ys, ∃ (t : Addr) (d b c : Int) (n : Nat), y = .ref t /\ H7 t = some (.tup [.int d, .int b, .int c, .int (n : Int)])) ⟨none, rfl, Same.new hD', upd_same, rfl, fun y hy => (by cases hy)⟩ (fun i σ H7 ys _ ⟨_, _, s7, _⟩ => SqL.of (s7 _ _ hsl6)) ?_ ?_
  · rintro i v σ H7 ys hi ⟨v0, rfl, s7, hD7, hyl, hys⟩
    have hil := (List.getElem?_eq_some_iff.mp hi).1
    rw [List.length_map] at hil
    rw [List.getElem?_map, Option.map_eq_some_iff] at hi
    obtain ⟨d, hd, rfl⟩ := hi
    have hdm := (hnm d).mp (List.mem_of_getElem? hd)
    have hv := (PT6.mono fun t ys e => s7 t _ e).val d
    cases e : T d with
    | none => rw [e] at hdm; cases hdm
    | some p7 =>
      rw [e] at hv
      obtain ⟨qb, hqb, hqb'⟩ := hv.some_of
      refine ⟨_, rfl, (by show 1 ≤ sizeLine; decide), fun o1 ho1 => ?_⟩
      have s8 : Same H7 (upd H7 o1 (.tup [V.int d])) := Same.new ho1
      have ho8 : upd H7 o1 (.tup [V.int d]) o1 = some (.tup [V.int d]) := upd_same
      generalize upd H7 o1 (.tup [V.int d]) = H8 at s8 ho8 ⊢
      obtain ⟨pb, pc, pn, rfl⟩ := hTp _ _ e
      refine ⟨_, rfl, _, rfl, td, V.ref qb, rfl, .inl ⟨tk, Sum.inl d, .inl (s8 _ _ (s7 _ _ htd6)), rfl, hqb.symm⟩, o1, qb, _, _, rfl, rfl, SqT.of ho8, SqT.of (s8 _ _ hqb'), (by intro z; cases z), (by show 1 + 3 ≤ sizeLine; decide), fun z => (by cases z), fun _ t ht => ?_⟩
      have s9 : Same H8 (upd H8 t (.tup ([V.int d] ++ ([pb, pc, (pn : Int)] : List Int).map V.int))) := Same.new ht
      have ht9 : upd H8 t (.tup ([V.int d] ++ ([pb, pc, (pn : Int)] : List Int).map V.int)) t = some (.tup [V.int d, V.int pb, V.int pc, V.int (pn : Int)]) := upd_same
      generalize upd H8 t (.tup ([V.int d] ++ ([pb, pc, (pn : Int)] : List Int).map V.int)) = H9 at s9 ht9 ⊢
      have s79 := s8.trans s9
      have hD9 := s79 _ _ hD7
      refine ⟨hD9, small1000 (by omega), some (.int d), rfl, fun b' o e => by rw [upd_ne (ne_of_none e hD')]; exact s79 b' o (s7 b' o e), upd_same, by simp [hyl], fun y hy => ?_⟩
      rcases List.mem_append.mp hy with hy | hy
      · obtain ⟨t', d', b', c', n', e1, e2⟩ := hys y hy
        exact ⟨t', d', b', c', n', e1, by rw [upd_ne (ne_of e2 hD7 (by intro z; cases z))]; exact s79 _ _ e2⟩
      · rw [List.mem_singleton.mp hy]
        exact ⟨t, d, pb, pc, pn, rfl, by rw [upd_ne (ne_of ht9 hD9 (by intro z; cases z))]; exact ht9⟩
  rintro σ H7 ys ⟨v0, rfl, s7, hD7, hyl, hys⟩
  rw [List.length_map] at hyl
  obtain ⟨rws, RP⟩ := rowsP_of hys (by omega)
  have hrl : rws.length = ys.length := by have := RP.keys.len; rw [List.length_map] at this; exact this.symm
  refine gNameA [some (.ref ll), some (.ref dl), some (.ref kd), some (.ref xl), some (.ref td), some (.ref sm), some (.int day), some v7, v8, v9, some (.ref D')] ?_
  have s57 := s6.trans s7
  have hxl7 := s57 _ _ (k5 _ _ hxl)
  refine ⟨_, rfl, _, rfl, _, rfl, _, rfl, D', xl, ys, rws, xs, rfl, hD7, RP, by omega, ⟨hxl7, TX.2⟩, fun r2 RV2 rws2 H8 hr2 RP2 s8 => ?_⟩
  refine ⟨(by show 3 ≤ sizeLine; decide), fun r hr' => ?_⟩
  have s9 : Same H8 (upd H8 r (.lst [V.int day, v7, V.ref r2])) := Same.new hr'
  have s59 := (s57.trans s8).trans s9
  rcases hway5 with rfl | ⟨w, ws, rfl, hw⟩
  · exact q r day .non none r2 RV2 rws2 _ upd_same hd0 rfl (s9 _ _ hr2) (RP2.mono fun t ys e => s9 t _ e) (fun b o e => s59 b o (k5 b o e))
  · exact q r day (.ref w) (some ws) r2 RV2 rws2 _ upd_same hd0 ⟨w, rfl, s59 _ _ hw⟩ (s9 _ _ hr2) (RP2.mono fun t ys e => s9 t _ e) (fun b o e => s59 b o (k5 b o e))
theorem ok__law_due {f : Addr} {fd : FuncData} (F : Fun K "_law_due" "_law_due" s__law_due f fd) (T : Txt K mg) (D__law_behind : DefX P w K mg base "_law_behind" 1 ["_law_price", "_law_leg_here"] sp_over) : FnOk P w K mg base (CXx P w) 2 f fd ["_law_legs_here", "_law_day", "_law_way_here", "_law_rows"] (sp_ldue) := by
  refine F.okX sc__law_due (fun vs H Q E h => ?_) (fun cdv A outer s H vs Q E hr h => ?_)
  · obtain ⟨ll, rl, v, LV, RV, legs, day, way, rws, rfl, hll, LG, hday, hway, hrl, RP, q⟩ := h; rfl
  obtain ⟨ll, rl, v, LV, RV, legs, day, way, rws, rfl, hll, LG, hday, hway, hrl, RP, q⟩ := h
  refine ⟨_, (pss_cons (ps_set (i := 4) sc__law_due.nd rfl (Or.inl rfl) pe_dnewK)
      (pss_cons (ps_set (i := 5) sc__law_due.nd rfl (Or.inl rfl) (pe_un un_neg pe_int))
      (pss_cons (ps_for PassesOwn.leaving rfl (pi_list (pv 3)) (pg_name (i := 6) sc__law_due.nd rfl (Or.inl rfl))
      (pss_cons (ps_if (pt_cmpR op_le (pe_ix ix_tup (pv 6) pe_int (fun _ _ => rfl)) (pv 5) (nomark _)) (pss_one (ps_ret pe_bl)) pss_nil)
      (pss_cons (ps_set (i := 5) sc__law_due.nd rfl (Or.inl rfl) (pe_ix ix_tup (pv 6) pe_int (fun _ _ => rfl)))
      (pss_one (ps_dput (hu_of hr) (pv 4) (pv 5) (pe_tup (pa_cons (pe_ix ix_tup (pv 6) pe_int (fun _ _ => rfl)) (pa_cons (pe_ix ix_tup (pv 6) pe_int (fun _ _ => rfl)) (pa_cons (pe_ix ix_tup (pv 6) pe_int (fun _ _ => rfl)) pa_nil)))) rfl)))))
      (pss_cons (ps_for PassesOwn.leaving rfl (pi_list (pv 0)) (pg_name (i := 7) sc__law_due.nd rfl (Or.inl rfl))
      (pss_cons (ps_set (i := 8) sc__law_due.nd rfl (Or.inr rfl) (pe_dget1 (hu_of hr) (pv 4) (pe_ix ix_tup (pv 7) pe_int (fun _ _ => rfl)) ⟨rfl, rfl, rfl, rfl⟩))
      (pss_cons (ps_if (pt_cmpR op_eq (pe_ix ix_tup (pv 7) pe_int (fun _ _ => rfl)) (pe_un un_neg pe_int) (nomark _)) (pss_one (ps_set (i := 8) sc__law_due.nd rfl (Or.inr rfl) (pe_tup (pa_cons pe_int (pa_cons pe_int (pa_cons pe_int pa_nil)))))) pss_nil)
      (pss_one (ps_if (pt_cmpR op_notN (pv 8) pe_non (nomark _)) (pss_one (ps_if (PW.pt (pw_or (pt_cmp (pc_dnotin (hu_of hr) (pe_ix ix_tup (pv 7) pe_int (fun _ _ => rfl)) (pv 4))) (pw_or1 (pt_cmpR (op_gtT (Nat.lt_of_le_of_lt (Nat.le_add_right _ 64) hr.units)) (pe_dget (hu_of hr) (pv 4) (pe_ix ix_tup (pv 7) pe_int (fun _ _ => rfl)) (fun _ _ => rfl)) (pe_callS D__law_behind passesN (hr.mono (by decide)) rfl (pa_cons (pv 8) (pa_cons (pv 7) pa_nil))) (nomark _))))) (pss_one (ps_ret pe_bl)) pss_nil)) pss_nil)))))
      (pss_cons (ps_if (pt_cmpR op_isN (pv 2) pe_non (nomark _)) (pss_one (ps_ret (pe_cmp (pc_dnotin (hu_of hr) (pv 1) (pv 4))))) pss_nil)
      (pss_cons (ps_set (i := 8) sc__law_due.nd rfl (Or.inr rfl) (pe_un un_neg pe_int))
      (pss_cons (ps_set (i := 9) sc__law_due.nd rfl (Or.inl rfl) (pe_tup (pa_cons pe_int (pa_cons pe_int (pa_cons pe_int pa_nil)))))
      (pss_cons (ps_for PassesOwn.leaving rfl (pi_list (pv 2)) (pg_name (i := 10) sc__law_due.nd rfl (Or.inr rfl))
      (pss_cons (ps_setComp (i := 11) sc__law_due.nd rfl (Or.inl rfl) (N := ["_law_leg_here", "_law_number", "_law_here"]) (k := 1) (cap := [10, 8]) rfl rfl (pi_list (pv 0)) (fun _ _ _ _ => (pg_name (i := 0) (show (["_law_leg_here", "_law_number", "_law_here"] : List Str).Nodup from by decide +kernel) rfl (Or.inl rfl) (.inr rfl))) (fun _ _ _ _ => (pts_one (PW.pt (pw_and (pt_cmpR op_eq (pe_ix (ix_tupK (K := K) rfl) (pv 0) pe_int (fun _ _ => rfl)) (pv 1) (nomark _)) (pw_and1 (pt_cmpR op_eq (pe_ix (ix_tupK (K := K) rfl) (pv 0) pe_int (fun _ _ => rfl)) (pv 2) (nomark _))))))) (fun _ _ _ _ => (pv 0)))
      (pss_cons (ps_if (pt_cmpR (op_eq_ref hr.units) (pv 11) (pe_lst pa_nil) (nomark _)) (pss_one (ps_ret pe_bl)) pss_nil)
      (pss_cons (ps_set (i := 9) sc__law_due.nd rfl (Or.inl rfl) (pe_callS D__law_behind passesN (hr.mono (by decide)) rfl (pa_cons (pv 9) (pa_cons (pe_ix ix_list (pv 11) pe_int (fun _ _ => rfl)) pa_nil))))
      (pss_one (ps_set (i := 8) sc__law_due.nd rfl (Or.inr rfl) (pe_ix ix_tup (pe_ix ix_list (pv 11) pe_int (fun _ _ => rfl)) pe_int (fun _ _ => rfl))))))))
      (pss_one (ps_ret (pe_and (pe_cmpR (op_ne_ref hr.units) (pv 2) (pe_lst pa_nil) (nomark _)) (pe_and (pe_cmpR op_eq (pv 8) (pv 1) (nomark _)) (pe_one (pe_cmpR (op_eqN hr.units) (pe_dget1 (hu_of hr) (pv 4) (pv 1) ⟨rfl, rfl, rfl, rfl⟩) (pv 9) (nomark _))))))))))))))), ?_⟩
  have hRl : RV.length = rws.length := by rw [RP.keys.len, List.length_map]
  have hLl : LV.length = legs.length := by rw [LG.keys.len, List.length_map]
  have h60 := RP.len
  have h500 := LG.len
  intro td htd
  have s1 : Same H (upd H td (.dK [])) := Same.new htd
  have htd1 : upd H td (.dK []) td = some (.dK []) := upd_same
  generalize upd H td (.dK []) = H1 at s1 htd1 ⊢
  refine gNameA [some (.ref ll), some (.int day), some v, some (.ref rl), some (.ref td), none, none, none, none, none, none, none] ?_
  refine ⟨_, rfl, ?_⟩
  refine gNameA [some (.ref ll), some (.int day), some v, some (.ref rl), some (.ref td), some (.int (-1)), none, none, none, none, none, none] ?_
  have hrl1 := s1 _ _ hrl
  have RP1 := RP.mono fun t ys e => s1 t _ e
  have ntd : td ≠ rl := fun e => by rw [e, hrl] at htd; cases htd
  dsimp only
  refine cutA (fun σ' H' => ∃ (v5 v6 : Option V) (kvs : List (Key × V)), σ' = [some (.ref ll), some (.int day), some v, some (.ref rl), some (.ref td), v5, v6, none, none, none, none, none] /\ Same H H' /\ H' td = some (.dK kvs) /\ PrAt H' kvs (priO rws) /\ risesB (rws.map (·.1)) = true) (fun N hN => ?_) ?_
  · refine ⟨_, rfl, rl, rfl, ⟨_, SqL.of hrl1⟩, for_list (K := K) (a := rl) (xs := RV) (fun i σ H2 => ∃ (last : Int) (v6 : Option V) (kvs : List (Key × V)), σ = [some (.ref ll), some (.int day), some v, some (.ref rl), some (.ref td), some (.int last), v6, none, none, none, none, none] /\ (∀ b o, H1 b = some o->b ≠ td->H2 b = some o) /\ H2 td = some (.dK kvs) /\ kvs.length ≤ i /\ PrAt H2 kvs (priO (rws.take i)) /\ -1 ≤ last /\ (∀ r ∈ rws.take i, 0 ≤ r.1 /\ r.1 ≤ last) /\ ((rws.take i).map (·.1)).Pairwise (· < ·) /\ (last = -1 ∨ last ∈ (rws.take i).map (·.1))) ⟨-1, none, [], rfl, fun b o e _ => e, htd1, Nat.le_refl _, PrAt.nil, Int.le_refl _, fun r hr' => (by cases hr'), List.Pairwise.nil, .inl rfl⟩ (fun i σ H2 _ ⟨_, _, _, _, k2, _⟩ => SqL.of (k2 _ _ hrl1 ntd.symm)) ?_ ?_⟩
    · rintro i x σ H2 hi ⟨last, v6, kvs, rfl, k2, htd2, hkl, PT, hl0, hle, hpw, hlast⟩
      obtain ⟨t, d, b, c, n, rfl, hr', ht⟩ := key_row RP1 hi
      have hil := (List.getElem?_eq_some_iff.mp hi).1
      have ht2 := k2 _ _ ht (ne_of ht htd1 (by intro z; cases z))
      refine gNameA [some (.ref ll), some (.int day), some v, some (.ref rl), some (.ref td), some (.int last), some (.ref t), none, none, none, none, none] ?_
      have test : ∀ Qb : Bool->Hp->Prop, Qb (decide (d ≤ last)) H2->(tTest (tOp (rI0 fun i j => V.bl (decide (i ≤ j))) (tOp (rIxT K) (tVar 6) (tC (V.int 0))) (tVar 5))) [some (.ref ll), some (.int day), some v, some (.ref rl), some (.ref td), some (.int last), some (.ref t), none, none, none, none, none] H2 Qb := fun Qb hq => ⟨_, rfl, t, _, _, V.int d, rfl, rfl, SqT.of ht2, rfl, _, rfl, _, _, rfl, rfl, _, rfl, hq⟩
      have htk : rws.take (i + 1) = rws.take i ++ [(d, [b, c, (n : Int)])] := by rw [List.take_add_one, hr']; rfl
      dsimp only
      by_cases hdl : d ≤ last
      · rw [decide_eq_true hdl] at test
        refine seq_ifT test ?_
        have e : holdsB legs day way rws = false := by
          have : risesB (rws.map (·.1)) = false := by
            cases hR : risesB (rws.map (·.1)) with
            | false => rfl
            | true =>
              obtain ⟨hp, hpos⟩ := rises_pos hR
              have hd0 := hpos _ (List.mem_of_getElem? hr')
              rcases hlast with e | hm
              · omega
              · rw [← List.take_append_drop (i + 1) rws, htk, List.map_append, List.map_append, List.pairwise_append, List.pairwise_append] at hp
                have := hp.1.2.2 last hm d (by simp)
                omega
          unfold holdsB; rw [this]; rfl
        rw [← e]
        exact q _ (fun b o e => k2 b o (s1 b o e) (ne_of_none e htd))
      · rw [decide_eq_false hdl] at test
        refine seq_ifN test ?_
        refine ⟨_, rfl, t, _, _, V.int d, rfl, rfl, SqT.of ht2, rfl, ?_⟩
        refine gNameA [some (.ref ll), some (.int day), some v, some (.ref rl), some (.ref td), some (.int d), some (.ref t), none, none, none, none, none] ?_
        refine ⟨_, rfl, t, _, _, V.int b, rfl, rfl, SqT.of ht2, rfl, _, rfl, t, _, _, V.int c, rfl, rfl, SqT.of ht2, rfl, _, rfl, t, _, _, V.int (n : Int), rfl, rfl, SqT.of ht2, rfl, (by show 3 ≤ sizeLine; decide), fun u hu => ?_⟩
        have s3 : Same H2 (upd H2 u (.tup [V.int b, V.int c, V.int (n : Int)])) := Same.new hu
        have hu3 : upd H2 u (.tup [V.int b, V.int c, V.int (n : Int)]) u = some (.tup (([b, c, (n : Int)] : List Int).map V.int)) := upd_same
        generalize upd H2 u (.tup [V.int b, V.int c, V.int (n : Int)]) = H3 at s3 hu3 ⊢
        have htd3 := s3 _ _ htd2
        refine ⟨_, rfl, _, rfl, td, _, rfl, DPut.k (k := Sum.inl d) htd3 (small1000 (by omega)), ?_⟩
        have hnew : d ∉ (rws.take i).map (·.1) := fun hm => by
          obtain ⟨r, hr2, e⟩ := List.mem_map.mp hm
          have := (hle r hr2).2; omega
        have PT3 := (PT.mono fun t ys e => s3 t _ e).put (q := [b, c, (n : Int)]) (priO_none hnew) hu3
        have e5 : putP (priO (rws.take i)) d [b, c, (n : Int)] = priO (rws.take (i + 1)) := by
          funext k
          rw [htk, priO_snoc hnew]
          by_cases ek : k = d
          · rw [ek, putP_self, if_pos rfl]
          · rw [putP_ne ek, if_neg ek]
        rw [e5] at PT3
        refine ⟨d, _, _, rfl, fun b' o e hb' => by rw [upd_ne hb']; exact s3 b' o (k2 b' o e hb'), upd_same, by have := length_putK kvs (Sum.inl d) (V.ref u); omega, PT3.mono (fun t' ys e => by rw [upd_ne (ne_of e htd3 (by intro z; cases z))]; exact e), by omega, fun r hr2 => ?_, ?_, .inr (by rw [htk]; simp)⟩
        · rw [htk] at hr2
          rcases List.mem_append.mp hr2 with h | h
          · have := hle r h; omega
          · rw [List.mem_singleton.mp h]; show 0 ≤ d /\ d ≤ d; omega
        · rw [htk, List.map_append, List.pairwise_append]
          refine ⟨hpw, by simp, fun a ha b' hb' => ?_⟩
          obtain ⟨r, hr2, e⟩ := List.mem_map.mp ha
          have := (hle r hr2).2
          have hb' : b' = d := by simpa using hb'
          omega
    · rintro σ H2 ⟨last, v6, kvs, rfl, k2, htd2, hkl, PT, hl0, hle, hpw, hlast⟩
      rw [hRl, List.take_length] at PT hle hpw
      refine hN _ _ ⟨_, v6, kvs, rfl, fun b o e => k2 b o (s1 b o e) (ne_of_none e htd), htd2, PT, ?_⟩
      unfold risesB
      rw [decide_eq_true hpw, Bool.true_and, List.all_eq_true]
      intro d hd
      obtain ⟨r, hr', rfl⟩ := List.mem_map.mp hd
      exact decide_eq_true (hle r hr').1
  rintro σ H2 ⟨v5, v6, kvs, rfl, s2, htd2, PT, hR⟩
  obtain ⟨hpw, hpos⟩ := rises_pos hR
  have hn1 := priO_neg hpos
  have hPr := priO_pr RP.pr
  have hh : holdsB legs day way rws = (legs.all (legB (pri0 (priO rws))) && endB legs (priO rws) day way) := by unfold holdsB; rw [hR]; rfl
  rw [hh] at q
  have hll2 := s2 _ _ hll
  have LG2 := LG.mono fun t ys e => s2 t _ e
  refine cutA (fun σ' H' => ∃ (v7 v8 : Option V), σ' = [some (.ref ll), some (.int day), some v, some (.ref rl), some (.ref td), v5, v6, v7, v8, none, none, none] /\ Same H2 H' /\ legs.all (legB (pri0 (priO rws))) = true) (fun N hN => ?_) ?_
  · refine ⟨_, rfl, ll, rfl, ⟨_, SqL.of hll2⟩, for_list (K := K) (a := ll) (xs := LV) (fun i σ H' => ∃ (v7 v8 : Option V), σ = [some (.ref ll), some (.int day), some v, some (.ref rl), some (.ref td), v5, v6, v7, v8, none, none, none] /\ Same H2 H' /\ (legs.take i).all (legB (pri0 (priO rws))) = true) ⟨none, none, rfl, Same.refl _, rfl⟩ (fun i σ H' _ ⟨_, _, _, s', _⟩ => SqL.of (s' _ _ hll2)) ?_ ?_⟩
    · rintro i x σ H3 hi ⟨v7, v8, rfl, s3, hall⟩
      obtain ⟨b, g, rfl, eg, hb⟩ := key_leg LG2.keys hi
      have hgm := List.mem_of_getElem? eg
      have hb3 := s3 _ _ hb
      have htd3 := s3 _ _ htd2
      have PT3 := PT.mono fun t ys e => s3 t _ e
      have hto : g.to ≠ -1 := by have := (LG.ok g hgm).1; omega
      have htk : ∀ bb, legB (pri0 (priO rws)) g = bb->(legs.take (i + 1)).all (legB (pri0 (priO rws))) = bb := fun bb e => by
        rw [List.take_add_one, eg, List.all_append, hall, Bool.true_and]
        show (legB (pri0 (priO rws)) g && true) = bb
        rw [e, Bool.and_true]
      have bad : legB (pri0 (priO rws)) g = false->∀ H', Same H H'->Q (.bl false) H' := fun e H' s' => by
        have e2 : legs.all (legB (pri0 (priO rws))) = false := by
          cases e3 : legs.all (legB (pri0 (priO rws))) with
          | false => rfl
          | true => rw [List.all_eq_true.mp e3 g hgm] at e; cases e
        have := q H' s'
        rw [e2] at this; exact this
      refine gNameA [some (.ref ll), some (.int day), some v, some (.ref rl), some (.ref td), v5, v6, some (.ref b), v8, none, none, none] ?_
      have hvs := PT3.val g.start
      refine ⟨_, rfl, td, rfl, .inl ⟨kvs, .inl htd3⟩, _, rfl, b, _, _, V.int g.start, rfl, rfl, SqT.of hb3, rfl, _, .inl ⟨kvs, Sum.inl g.start, .inl htd3, rfl, rfl⟩, ?_⟩
      generalize hv8 : (valV kvs (Sum.inl g.start)).getD V.non = w8
      refine gNameA [some (.ref ll), some (.int day), some v, some (.ref rl), some (.ref td), v5, v6, some (.ref b), some w8, none, none, none] ?_
      dsimp only
      refine cutA (fun σ' H' => ∃ w8', σ' = [some (.ref ll), some (.int day), some v, some (.ref rl), some (.ref td), v5, v6, some (.ref b), some w8', none, none, none] /\ Same H3 H' /\ ((w8' = .non /\ pri0 (priO rws) g.start = none) ∨ ∃ a p, w8' = .ref a /\ pri0 (priO rws) g.start = some p /\ H' a = some (.tup (p.map V.int)))) (fun N2 hN2 => ?_) ?_
      · by_cases hs : g.start = -1
        · refine if_yes (fun Qb hq => ?_) ?_
          · refine ⟨_, rfl, b, _, _, V.int g.start, rfl, rfl, SqT.of hb3, rfl, _, rfl, rfl, _, rfl, ?_⟩
            rw [decide_eq_true (show V.int g.start = V.int (-1) by rw [hs])]; exact hq
          refine ⟨(by show 3 ≤ sizeLine; decide), fun u hu => ?_⟩
          refine gNameA [some (.ref ll), some (.int day), some v, some (.ref rl), some (.ref td), v5, v6, some (.ref b), some (.ref u), none, none, none] ?_
          exact hN2 _ _ ⟨_, rfl, Same.new hu, .inr ⟨u, [0, 0, 0], rfl, by rw [hs]; exact if_pos rfl, upd_same⟩⟩
        · have e0 : pri0 (priO rws) g.start = priO rws g.start := if_neg hs
          refine if_no (fun Qb hq => ?_) (hN2 _ _ ⟨w8, rfl, Same.refl _, ?_⟩)
          · refine ⟨_, rfl, b, _, _, V.int g.start, rfl, rfl, SqT.of hb3, rfl, _, rfl, rfl, _, rfl, ?_⟩
            rw [decide_eq_false (show ¬ V.int g.start = V.int (-1) from fun e => hs (V.int.inj e))]; exact hq
          rw [e0]
          cases e : priO rws g.start with
          | none =>
            rw [e] at hvs
            rw [hvs.none_of] at hv8
            exact .inl ⟨hv8.symm, rfl⟩
          | some p =>
            rw [e] at hvs
            obtain ⟨pa, hpa, hpa'⟩ := hvs.some_of
            rw [hpa] at hv8
            exact .inr ⟨pa, p, hv8.symm, rfl, hpa'⟩
      rintro σ H4 ⟨w8', rfl, s4, hw⟩
      have s24 := s3.trans s4
      rcases hw with ⟨rfl, hn⟩ | ⟨a, p, rfl, hp, ha⟩
      · refine if_no (fun Qb hq => ⟨_, rfl, rfl, _, rfl, hq⟩) ⟨_, _, rfl, s24, htk true ?_⟩
        unfold legB; rw [hn]
      · refine if_yes (fun Qb hq => ⟨_, rfl, rfl, _, rfl, hq⟩) ?_
        have hb4 := s4 _ _ hb3
        have htd4 := s4 _ _ htd3
        have hvt := (PT3.mono fun t ys e => s4 t _ e).val g.to
        have et : pri0 (priO rws) g.to = priO rws g.to := if_neg hto
        cases e : priO rws g.to with
        | none =>
          rw [e] at hvt
          refine if_yes (fun Qb hq => ?_) (bad ?_ _ (s2.trans s24))
          · refine ⟨_, rfl, b, _, _, V.int g.to, rfl, rfl, SqT.of hb4, rfl, _, rfl, td, _, rfl, .inl ⟨kvs, Sum.inl g.to, .inl htd4, rfl, rfl⟩, _, rfl, ?_⟩
            rw [hvt.none_of]; exact iteT hq
          · unfold legB; rw [hp]; dsimp only; rw [et, e]
        | some q2 =>
          rw [e] at hvt
          obtain ⟨qa, hqa, hqa'⟩ := hvt.some_of
          have el : legB (pri0 (priO rws)) g = !HT.lexLt (overT p g) q2 := by unfold legB; rw [hp]; dsimp only; rw [et, e]
          have test : ∀ Qb : Bool->Hp->Prop, (∀ H', Same H4 H'->Qb (HT.lexLt (overT p g) q2) H')->(tOr (tB (tDNotIn (tOp (rIxT K) (tVar 7) (tC (V.int 2))) (tVar 4))) (tTest (tOp (rGtT K) (tDGet (tVar 4) (tOp (rIxT K) (tVar 7) (tC (V.int 2)))) (tCallS sp_over (fun _ => E0) (tCons (tVar 8) (tCons (tVar 7) tNil)))))) [some (.ref ll), some (.int day), some v, some (.ref rl), some (.ref td), v5, v6, some (.ref b), some (.ref a), none, none, none] H4 Qb := fun Qb hq => by
            refine ⟨_, rfl, b, _, _, V.int g.to, rfl, rfl, SqT.of hb4, rfl, _, rfl, td, _, rfl, .inl ⟨kvs, Sum.inl g.to, .inl htd4, rfl, rfl⟩, _, rfl, ?_⟩
            rw [hqa]
            refine iteF ⟨_, rfl, _, rfl, b, _, _, V.int g.to, rfl, rfl, SqT.of hb4, rfl, td, V.ref qa, rfl, .inl ⟨kvs, Sum.inl g.to, .inl htd4, rfl, hqa.symm⟩, _, rfl, _, rfl, a, b, p, g, rfl, hPr _ _ hp, ha, hb4, fun u hu => ?_⟩
            exact ⟨qa, u, q2, overT p g, rfl, rfl, SqT.of (Same.new hu _ _ hqa'), SqT.of upd_same, _, rfl, hq _ (Same.new hu)⟩
          cases hlt : HT.lexLt (overT p g) q2 with
          | true =>
            rw [hlt] at test el
            exact if_yesP (fun H' => Same H4 H') test fun H5 s5 => bad el _ ((s2.trans s24).trans s5)
          | false =>
            rw [hlt] at test el
            exact if_noP (fun H' => Same H4 H') test fun H5 s5 => ⟨_, _, rfl, s24.trans s5, htk true el⟩
    · rintro σ H3 ⟨v7, v8, rfl, s3, hall⟩
      rw [hLl, List.take_length] at hall
      exact hN _ _ ⟨v7, v8, rfl, s3, hall⟩
  rintro σ H3 ⟨v7, v8, rfl, s3, hall⟩
  rw [hall, Bool.true_and] at q
  have s03 := s2.trans s3
  have htd3 := s3 _ _ htd2
  have PT3 := PT.mono fun t ys e => s3 t _ e
  have hv := PT3.val day
  cases way with
  | none =>
    have e : v = .non := hway
    subst e
    refine seq_ifT (fun Qb hq => ⟨_, rfl, rfl, _, rfl, hq⟩) ?_
    refine ⟨_, rfl, _, rfl, td, _, rfl, .inl ⟨kvs, Sum.inl day, .inl htd3, rfl, rfl⟩, ?_⟩
    rw [hv.is]
    have e2 : (!(priO rws day).isSome) = endB legs (priO rws) day none := by
      show _ = (priO rws day).isNone
      cases priO rws day <;> rfl
    rw [e2]; exact q _ s03
  | some ws =>
    obtain ⟨w, rfl, hw⟩ := hway
    have hw3 := s03 _ _ hw
    have hll3 := s03 _ _ hll
    have LG3 := LG.mono fun t ys e => s03 t _ e
    have bad : ∀ H', powB legs ws day = none->Same H H'->Q (.bl false) H' := fun H' hp s' => by
      have e : endB legs (priO rws) day (some ws) = false := by
        show (match priO rws day with | none => false | some q => decide (powB legs ws day = some q)) = false
        cases priO rws day with
        | none => rfl
        | some z => show decide (powB legs ws day = some z) = false; rw [hp]; exact decide_eq_false (by intro z; cases z)
      have := q H' s'
      rw [e] at this; exact this
    refine seq_ifN (fun Qb hq => ⟨_, rfl, rfl, _, rfl, hq⟩) ?_
    refine ⟨_, rfl, ?_⟩
    refine gNameA [some (.ref ll), some (.int day), some (.ref w), some (.ref rl), some (.ref td), v5, v6, v7, some (.int (-1)), none, none, none] ?_
    refine ⟨(by show 3 ≤ sizeLine; decide), fun pt hpt => ?_⟩
    have s4 : Same H3 (upd H3 pt (.tup [V.int 0, V.int 0, V.int 0])) := Same.new hpt
    have hpt4 : upd H3 pt (.tup [V.int 0, V.int 0, V.int 0]) pt = some (.tup (([0, 0, 0] : List Int).map V.int)) := upd_same
    generalize upd H3 pt (.tup [V.int 0, V.int 0, V.int 0]) = H4 at s4 hpt4 ⊢
    refine gNameA [some (.ref ll), some (.int day), some (.ref w), some (.ref rl), some (.ref td), v5, v6, v7, some (.int (-1)), some (.ref pt), none, none] ?_
    have s04 := s03.trans s4
    have hw4 := s4 _ _ hw3
    dsimp only
    refine cutA (fun σ' H' => ∃ (v10 v11 : Option V) (t : Addr) (at' : Int) (p : List Int), σ' = [some (.ref ll), some (.int day), some (.ref w), some (.ref rl), some (.ref td), v5, v6, v7, some (.int at'), some (.ref t), v10, v11] /\ Same H4 H' /\ goP legs (-1) [0, 0, 0] ws = some (at', p) /\ H' t = some (.tup (p.map V.int))) (fun N hN => ?_) ?_
    · refine ⟨_, rfl, w, rfl, ⟨_, SqL.of hw4⟩, for_list (K := K) (a := w) (xs := ws.map V.int) (fun i σ H5 => ∃ (v10 v11 : Option V) (t : Addr) (at' : Int) (p : List Int), σ = [some (.ref ll), some (.int day), some (.ref w), some (.ref rl), some (.ref td), v5, v6, v7, some (.int at'), some (.ref t), v10, v11] /\ Same H4 H5 /\ goP legs (-1) [0, 0, 0] (ws.take i) = some (at', p) /\ IsPr p /\ H5 t = some (.tup (p.map V.int))) ⟨none, none, pt, -1, _, rfl, Same.refl _, rfl, ⟨0, 0, 0, rfl⟩, hpt4⟩ (fun i σ H5 _ ⟨_, _, _, _, _, _, s', _⟩ => SqL.of (s' _ _ hw4)) ?_ ?_⟩
      · rintro i x σ H5 hi ⟨v10, v11, t, at', p, rfl, s5, hg5, hp5, ht5⟩
        rw [List.getElem?_map, Option.map_eq_some_iff] at hi
        obtain ⟨n, hn, rfl⟩ := hi
        refine gNameA [some (.ref ll), some (.int day), some (.ref w), some (.ref rl), some (.ref td), v5, v6, v7, some (.int at'), some (.ref t), some (.int n), v11] ?_
        have s05 := s04.trans s5
        have hll5 := s05 _ _ hll
        have LG5 := LG.mono fun t ys e => s05 t _ e
        refine ⟨_, rfl, ll, rfl, ⟨_, SqL.of hll5⟩, fun D' hD' => ?_⟩
        refine comp_list D' (K := K) (a := ll) (xs := LV) (fun j σ H6 ys => ∃ (u : Option V), σ = [u, some (.int n), some (.int at')] /\ Same H5 H6 /\ H6 D' = some (.lst ys) /\ ys.length ≤ j /\ (∀ y ∈ ys, ∃ b g, y = V.ref b /\ g ∈ legs /\ g.num = n /\ g.start = at' /\ H5 b = some (.tup ((legT g).map V.int))) /\ ∀ g ∈ legs.take j, g.num = n->g.start = at'->ys ≠ []) ⟨none, rfl, Same.new hD', upd_same, Nat.le_refl _, fun y hy => (by cases hy), fun g hg => (by cases hg)⟩ (fun j σ H6 ys _ ⟨_, _, s6, _⟩ => SqL.of (s6 _ _ hll5)) ?_ ?_
        · rintro j x σ H6 ys hj ⟨u0, rfl, s6, hD6, hyl, hys, hne⟩
          obtain ⟨b, g, rfl, eg, hb⟩ := key_leg LG5.keys hj
          have hjl := (List.getElem?_eq_some_iff.mp hj).1
          have hb6 := s6 _ _ hb
          have tk : ∀ g', g' ∈ legs.take (j + 1)->g' ∈ legs.take j ∨ g' = g := fun g' h => by
            rw [List.take_add_one, eg] at h
            rcases List.mem_append.mp h with h | h
            · exact .inl h
            · exact .inr (List.mem_singleton.mp h)
          refine ⟨_, rfl, b, _, _, V.int g.num, rfl, rfl, SqT.of hb6, rfl, _, rfl, rfl, _, rfl, ?_⟩
          have skip : ¬ (g.num = n /\ g.start = at')->∃ (u : Option V), ([some (V.ref b), some (.int n), some (.int at')] : St) = [u, some (.int n), some (.int at')] /\ Same H5 H6 /\ H6 D' = some (.lst ys) /\ ys.length ≤ j + 1 /\ (∀ y ∈ ys, ∃ b g, y = V.ref b /\ g ∈ legs /\ g.num = n /\ g.start = at' /\ H5 b = some (.tup ((legT g).map V.int))) /\ ∀ g ∈ legs.take (j + 1), g.num = n->g.start = at'->ys ≠ [] := fun h => ⟨_, rfl, s6, hD6, by omega, hys, fun g' hg' h1 h2 => by
            rcases tk g' hg' with h' | rfl
            · exact hne g' h' h1 h2
            · exact absurd ⟨h1, h2⟩ h⟩
          by_cases h1 : g.num = n
          · rw [decide_eq_true (show V.int g.num = V.int n by rw [h1])]
            refine iteT ⟨_, rfl, b, _, _, V.int g.start, rfl, rfl, SqT.of hb6, rfl, _, rfl, rfl, _, rfl, ?_⟩
            by_cases h2 : g.start = at'
            · rw [decide_eq_true (show V.int g.start = V.int at' by rw [h2])]
              refine iteT ⟨_, rfl, hD6, small1000 (by omega), some (.ref b), rfl, fun b' o e => by rw [upd_ne (ne_of_none e hD')]; exact s6 b' o e, upd_same, by simp; omega, fun y hy => ?_, fun _ _ _ _ => by simp⟩
              rcases List.mem_append.mp hy with hy | hy
              · exact hys y hy
              · rw [List.mem_singleton.mp hy]
                exact ⟨b, g, rfl, List.mem_of_getElem? eg, h1, h2, hb⟩
            · rw [decide_eq_false (show ¬ V.int g.start = V.int at' from fun e => h2 (V.int.inj e))]
              exact iteF (skip fun h => h2 h.2)
          · rw [decide_eq_false (show ¬ V.int g.num = V.int n from fun e => h1 (V.int.inj e))]
            exact iteF (iteF (skip fun h => h1 h.1))
        rintro σ H6 ys ⟨u0, rfl, s6, hD6, hyl, hys, hne⟩
        rw [hLl, List.take_length] at hne
        refine gNameA [some (.ref ll), some (.int day), some (.ref w), some (.ref rl), some (.ref td), v5, v6, v7, some (.int at'), some (.ref t), some (.int n), some (.ref D')] ?_
        dsimp only
        by_cases hy0 : ys = []
        · refine seq_ifTP (fun H' => Same H6 H') (fun Qb hq => ?_) (fun H7 s7 => ?_)
          · refine ⟨_, rfl, Nat.zero_le _, fun e1 he1 => ?_⟩
            exact ⟨0, true, by decide, SeqEq.sameL (xs := []) (SqL.of (by rw [Same.new he1 _ _ hD6, hy0])) (SqL.of upd_same) (fun x hx => (by cases hx)), _, rfl, hq _ (Same.new he1)⟩
          · refine bad _ ?_ ((s05.trans s6).trans s7)
            unfold powB
            rw [goP_stop hn hg5 ?_]
            rw [goP_one]
            cases hf : legs.find? (fun g => decide (g.num = n)) with
            | none => rfl
            | some g =>
              obtain ⟨hgm, hgn⟩ := find_some hf
              exact if_neg fun h => hne g hgm hgn h hy0
        · refine seq_ifP (fun H' => Same H6 H') (fun Qb hq => ?_) (fun H7 s7 => ?_)
          · refine ⟨_, rfl, Nat.zero_le _, fun e1 he1 => ?_⟩
            exact ⟨0, false, by decide, ⟨D', e1, ys, [], fun _ => true, rfl, rfl, .inr (.inl ⟨SqL.of (Same.new he1 _ _ hD6), SqL.of upd_same, fun e => hy0 (List.length_eq_zero_iff.mp e), rfl⟩)⟩, _, rfl, hq _ (Same.new he1)⟩
          obtain ⟨y, ys', rfl⟩ : ∃ y ys', ys = y :: ys' := by
            cases ys with
            | nil => exact absurd rfl hy0
            | cons y r => exact ⟨y, r, rfl⟩
          obtain ⟨b, g, rfl, hgm, hgn, hgs, hb⟩ := hys y (by simp)
          have s57 := s6.trans s7
          have hb7 := s57 _ _ hb
          have hD7 := s7 _ _ hD6
          refine ⟨_, rfl, _, rfl, D', _, _, V.ref b, rfl, rfl, SqL.of hD7, at_head _ _, t, b, p, g, rfl, hp5, s57 _ _ ht5, hb7, fun u hu => ?_⟩
          have s8 : Same H7 (upd H7 u (.tup ((overT p g).map V.int))) := Same.new hu
          have hu8 : upd H7 u (.tup ((overT p g).map V.int)) u = some (.tup ((overT p g).map V.int)) := upd_same
          generalize upd H7 u (.tup ((overT p g).map V.int)) = H8 at s8 hu8 ⊢
          refine gNameA [some (.ref ll), some (.int day), some (.ref w), some (.ref rl), some (.ref td), v5, v6, v7, some (.int at'), some (.ref u), some (.int n), some (.ref D')] ?_
          refine ⟨_, rfl, D', _, _, V.ref b, rfl, rfl, SqL.of (s8 _ _ hD7), at_head _ _, b, _, _, V.int g.to, rfl, rfl, SqT.of (s8 _ _ hb7), rfl, ?_⟩
          exact ⟨_, _, u, g.to, overT p g, rfl, (s5.trans s57).trans s8, goP_go hn hg5 (by rw [← hgn]; exact find_num LG.nod hgm) hgs, hp5.over g, hu8⟩
      · rintro σ H5 ⟨v10, v11, t, at', p, rfl, s5, hg5, hp5, ht5⟩
        rw [List.length_map, List.take_length] at hg5
        exact hN _ _ ⟨v10, v11, t, at', p, rfl, s5, hg5, ht5⟩
    rintro σ H5 ⟨v10, v11, t, at', p, rfl, s5, hg5, ht5⟩
    have s05 := s04.trans s5
    refine ⟨_, rfl, Nat.zero_le _, fun e1 he1 => ?_⟩
    have s6 : Same H5 (upd H5 e1 (.lst [])) := Same.new he1
    have he6 : upd H5 e1 (.lst []) e1 = some (.lst (([] : List Int).map V.int)) := upd_same
    generalize upd H5 e1 (.lst []) = H6 at s6 he6 ⊢
    have s06 := s05.trans s6
    refine ⟨0, decide (ws = []), by decide, SeqEq.ints (SqL.of (s06 _ _ hw)) (SqL.of he6), _, rfl, ?_⟩
    by_cases hw0 : ws = []
    · rw [decide_eq_true hw0]
      refine iteF (bad _ ?_ s06)
      have e : some ((-1 : Int), ([0, 0, 0] : List Int)) = some (at', p) := by rw [← hg5, hw0]; rfl
      cases e
      unfold powB
      rw [hg5]
      exact if_neg fun e => hday e.symm
    · rw [decide_eq_false hw0]
      refine iteT ⟨_, rfl, _, rfl, rfl, _, rfl, ?_⟩
      by_cases hat : at' = day
      · rw [decide_eq_true (show V.int at' = V.int day by rw [hat])]
        have hpw : powB legs ws day = some p := by unfold powB; rw [hg5]; exact if_pos hat
        have s36 := (s4.trans s5).trans s6
        have htd6 := s36 _ _ htd3
        have hv6 := (PT3.mono fun t ys e => s36 t _ e).val day
        refine iteT ⟨_, rfl, td, rfl, .inl ⟨kvs, .inl htd6⟩, _, rfl, _, .inl ⟨kvs, Sum.inl day, .inl htd6, rfl, rfl⟩, _, rfl, ?_⟩
        cases hpd : priO rws day with
        | none =>
          rw [hpd] at hv6
          rw [hv6.none_of]
          refine .inr (.inl ⟨t, _, rfl, rfl, SqT.of (s6 _ _ ht5), ?_⟩)
          have e : endB legs (priO rws) day (some ws) = false := by
            show (match priO rws day with | none => false | some q => decide (powB legs ws day = some q)) = false
            rw [hpd]
          rw [← e]; exact q _ s06
        | some q2 =>
          rw [hpd] at hv6
          obtain ⟨qa, hqa, hqa'⟩ := hv6.some_of
          rw [hqa]
          refine .inl ⟨0, decide (q2 = p), by decide, SeqEq.intsT (SqT.of hqa') (SqT.of (s6 _ _ ht5)), ?_⟩
          have e : endB legs (priO rws) day (some ws) = decide (q2 = p) := by
            show (match priO rws day with | none => false | some q => decide (powB legs ws day = some q)) = _
            rw [hpd]
            show decide (powB legs ws day = some q2) = _
            rw [hpw]
            exact decide_eq_decide.mpr ⟨fun h => (Option.some.inj h).symm, fun h => by rw [h]⟩
          rw [← e]; exact q _ s06
      · rw [decide_eq_false (show ¬ V.int at' = V.int day from fun e => hat (V.int.inj e))]
        refine iteF (bad _ ?_ s06)
        unfold powB
        rw [hg5]
        exact if_neg hat
theorem ok_law {f : Addr} {fd : FuncData} (F : Fun K "law" "law" s_law f fd) (T : Txt K mg) (D__law_legs : DefX P w K mg base "_law_legs" 3 ["_law_script", "_law_most"] (sp_legs K)) (D__law_known : DefX P w K mg base "_law_known" 2 ["_law_legs_here"] sp_known) (D__law_drawn : DefX P w K mg base "_law_drawn" 1 ["_law_cell", "_law_many"] sp_drawn) (D__law_cell_at : DefX P w K mg base "_law_cell_at" 1 ["_law_script", "_law_k"] (sp_cell K)) (D__law_paper : DefX P w K mg base "_law_paper" 3 ["_law_legs_here", "_law_days_here", "_law_known_here", "_law_xs"] sp_lpaper) (D_holds : DefX P w K mg base "holds" 3 ["legs", "day", "told"] sp_holds) (D__law_due : DefX P w K mg base "_law_due" 2 ["_law_legs_here", "_law_day", "_law_way_here", "_law_rows"] sp_ldue) : FnOk P w K mg base (CXx P w) 4 f fd ["_law_script"] (sp_law K) := by
  refine F.okX sc_law (fun vs H Q E h => ?_) (fun cdv A outer s H vs Q E hr h => ?_)
  · obtain ⟨a, ns, rfl, hS, hlen, q⟩ := h; rfl
  obtain ⟨a, ns, rfl, hS, hlen, q⟩ := h
  refine ⟨_, (pss_cons (ps_asg (pe_callS D__law_legs passesN (hr.mono (by decide)) rfl (pa_cons (pv 0) (pa_cons pe_int pa_nil))) (pg_tupL rfl (pgs_cons (pg_name (i := 1) sc_law.nd rfl (Or.inl rfl)) (pgs_cons (pg_name (i := 2) sc_law.nd rfl (Or.inl rfl)) pgs_nil))))
      (pss_cons (ps_set (i := 3) sc_law.nd rfl (Or.inl rfl) (pe_callS D__law_known passesN (hr.mono (by decide)) rfl (pa_cons (pv 2) pa_nil)))
      (pss_cons (ps_for PassesOwn.leaving rfl (pi_range1 rfl T.b_range (pa_cons pe_int pa_nil)) (pg_name (i := 4) sc_law.nd rfl (Or.inl rfl))
      (pss_cons (ps_set (i := 5) sc_law.nd rfl (Or.inl rfl) (pe_callS D__law_drawn passesN (hr.mono (by decide)) rfl (pa_cons (pe_op op_add (pe_callS D__law_cell_at passesN (hr.mono (by decide)) rfl (pa_cons (pv 0) (pa_cons (pe_op op_add pe_int (pv 4)) pa_nil))) (pv 4)) (pa_cons pe_int pa_nil))))
      (pss_cons (ps_asg (pe_callS D__law_paper passesN (hr.mono (by decide)) rfl (pa_cons (pv 2) (pa_cons (pv 1) (pa_cons (pv 3) (pa_cons (pv 5) pa_nil))))) (pg_tupL rfl (pgs_cons (pg_name (i := 6) sc_law.nd rfl (Or.inl rfl)) (pgs_cons (pg_name (i := 7) sc_law.nd rfl (Or.inl rfl)) (pgs_cons (pg_name (i := 8) sc_law.nd rfl (Or.inl rfl)) pgs_nil)))))
      (pss_cons (ps_set (i := 9) sc_law.nd rfl (Or.inl rfl) (pe_lst (pa_cons (pe_callTy call_list_of (by rfl) T.b_list PyProof.Rows.boot_list (pa_cons (pv 2) pa_nil)) (pa_cons (pe_callTy call_list_of (by rfl) T.b_list PyProof.Rows.boot_list (pa_cons (pv 8) pa_nil)) pa_nil))))
      (pss_cons (ps_set (i := 10) sc_law.nd rfl (Or.inl rfl) (pe_callS D_holds passesN (hr.mono (by decide)) rfl (pa_cons (pe_ix ix_list (pv 9) pe_int (fun _ _ => rfl)) (pa_cons (pv 6) (pa_cons (pe_tup (pa_cons (pv 7) (pa_cons (pe_ix ix_list (pv 9) pe_int (fun _ _ => rfl)) pa_nil))) pa_nil)))))
      (pss_one (ps_if (PW.pt (pw_or (pt_not (pt_val (pe_callB call_isinst (by rfl) T.b_isinstance PyProof.Rows.boot_isinstance (pa_cons (pv 10) (pa_cons (pe_bltn (v := .ty "bool") rfl T.b_bool PyProof.Rows.boot_bool rfl) pa_nil))))) (pw_or (pt_cmpR op_ne (pv 10) (pe_callS D__law_due passesN (hr.mono (by decide)) rfl (pa_cons (pv 2) (pa_cons (pv 6) (pa_cons (pv 7) (pa_cons (pv 8) pa_nil))))) (nomark _)) (pw_or1 (pt_cmpR (op_ne_ref hr.units) (pv 9) (pe_lst (pa_cons (pv 2) (pa_cons (pv 8) pa_nil))) (nomark _)))))) (pss_one (ps_ret pe_bl)) pss_nil)))))))
      (pss_one (ps_ret pe_bl))))), ?_⟩
  refine ⟨_, rfl, a, ns, rfl, hS, hlen, fun t dl ll ds LV legs H1 ht hdl hll R hok hin h130 hnod hds nt ndl nll s1 => ?_⟩
  refine ⟨t, _, rfl, SqL.of ht, rfl, _, _, rfl, _, _, rfl, rfl, ?_⟩
  refine nxA [some (.ref a), some (.ref dl), some (.ref ll), none, none, none, none, none, none, none, none] ?_
  have LG1 : LegsP H1 LV legs := ⟨R, hok, by omega, hnod⟩
  obtain ⟨P, LP⟩ := least_ex hok
  refine ⟨_, rfl, ll, LV, legs, P, rfl, hll, LG1, LP, fun kd kvs H2 hkd PR nkd s2 => ?_⟩
  refine gNameA [some (.ref a), some (.ref dl), some (.ref ll), some (.ref kd), none, none, none, none, none, none, none] ?_
  have hS2 := Same.seq (s1.trans s2) hS
  have hll2 := s2 _ _ hll
  have hdl2 := s2 _ _ hdl
  have LG2 := LG1.mono fun t ys e => s2 t _ e
  have hrefs : ∀ H' x, x ∈ LV->EqI K H' 0 x x true := fun H' x hx => by
    obtain ⟨j, hj⟩ := List.mem_iff_getElem?.mp hx
    obtain ⟨b, g, rfl, _⟩ := key_leg R hj
    exact eqI_same b
  dsimp only
  refine cutA (fun σ' H' => True) (fun N hN => ?_) (fun σ' H' _ => q H')
  refine ⟨6, rfl, by decide, by decide, for_range (lo := 0) (n := 6) (fun i σ H' => ∃ (v4 v5 v6 v7 v8 v9 v10 : Option V), σ = [some (.ref a), some (.ref dl), some (.ref ll), some (.ref kd), v4, v5, v6, v7, v8, v9, v10] /\ Same H2 H') ⟨none, none, none, none, none, none, none, rfl, Same.refl _⟩ ?_ (fun σ H' _ => hN σ H' trivial)⟩
  rintro i σ H3 hi ⟨v4, v5, v6, v7, v8, v9, v10, rfl, s3⟩
  refine gNameA [some (.ref a), some (.ref dl), some (.ref ll), some (.ref kd), some (.int (0 + (i : Int))), v5, v6, v7, v8, v9, v10] ?_
  rw [Int.zero_add]
  refine ⟨_, rfl, _, rfl, _, _, rfl, rfl, a, ns, 3 + i, rfl, Same.seq s3 hS2, _, rfl, _, _, rfl, rfl, _, 10, rfl, by decide, fun xl xs H4 hxl nxl hx10 hxb s4 => ?_⟩
  refine gNameA [some (.ref a), some (.ref dl), some (.ref ll), some (.ref kd), some (.int (i : Int)), some (.ref xl), v6, v7, v8, v9, v10] ?_
  have s24 := s3.trans s4
  refine ⟨_, rfl, _, rfl, _, rfl, _, rfl, ll, dl, kd, xl, LV, legs, ds, xs, kvs, P, rfl, s24 _ _ hll2, LG2.mono (fun t ys e => s24 t _ e), s24 _ _ hdl2, hds, s24 _ _ hkd, PR.mono (fun t ys e => s24 t _ e), LP, ⟨hxl, hx10⟩, fun r day v way rl RV rws H5 hr' hday hway hrl RP s5 => ?_⟩
  refine ⟨r, _, rfl, SqL.of hr', rfl, _, _, rfl, _, _, rfl, _, _, rfl, rfl, ?_⟩
  refine nxA [some (.ref a), some (.ref dl), some (.ref ll), some (.ref kd), some (.int (i : Int)), some (.ref xl), some (.int day), some v, some (.ref rl), v9, v10] ?_
  have s25 := s24.trans s5
  have hll5 := s25 _ _ hll2
  have LG5 := LG2.mono fun t ys e => s25 t _ e
  have hrows : ∀ H' x, x ∈ RV->EqI K H' 0 x x true := fun H' x hx => by
    obtain ⟨t, _, _, _, _, rfl, _⟩ := rowsP_mem RP x hx
    exact eqI_same t
  refine ⟨_, rfl, ll, _, rfl, .inl (SqL.of hll5), fun l1 hl1 => ?_⟩
  have s6 : Same H5 (upd H5 l1 (.lst LV)) := Same.new hl1
  have hl6 : upd H5 l1 (.lst LV) l1 = some (.lst LV) := upd_same
  generalize upd H5 l1 (.lst LV) = H6 at s6 hl6 ⊢
  refine ⟨_, rfl, rl, _, rfl, .inl (SqL.of (s6 _ _ hrl)), fun l2 hl2 => ?_⟩
  have s7 : Same H6 (upd H6 l2 (.lst RV)) := Same.new hl2
  have hl7 : upd H6 l2 (.lst RV) l2 = some (.lst RV) := upd_same
  generalize upd H6 l2 (.lst RV) = H7 at s7 hl7 ⊢
  refine ⟨(by show 2 ≤ sizeLine; decide), fun l3 hl3 => ?_⟩
  have s8 : Same H7 (upd H7 l3 (.lst [V.ref l1, V.ref l2])) := Same.new hl3
  have hl8 : upd H7 l3 (.lst [V.ref l1, V.ref l2]) l3 = some (.lst [V.ref l1, V.ref l2]) := upd_same
  generalize upd H7 l3 (.lst [V.ref l1, V.ref l2]) = H8 at s8 hl8 ⊢
  refine gNameA [some (.ref a), some (.ref dl), some (.ref ll), some (.ref kd), some (.int (i : Int)), some (.ref xl), some (.int day), some v, some (.ref rl), some (.ref l3), v10] ?_
  have s58 := (s6.trans s7).trans s8
  refine ⟨_, rfl, l3, _, _, V.ref l1, rfl, rfl, SqL.of hl8, rfl, _, rfl, _, rfl, _, rfl, l3, _, _, V.ref l2, rfl, rfl, SqL.of hl8, rfl, (by show 2 ≤ sizeLine; decide), fun tt htt => ?_⟩
  have s9 : Same H8 (upd H8 tt (.tup [v, V.ref l2])) := Same.new htt
  have htt9 : upd H8 tt (.tup [v, V.ref l2]) tt = some (.tup [v, V.ref l2]) := upd_same
  generalize upd H8 tt (.tup [v, V.ref l2]) = H9 at s9 htt9 ⊢
  have s59 := s58.trans s9
  have hway9 : ∀ H', Same H5 H'->WayAt H' v way := fun H' s' => by
    cases way with
    | none => exact hway
    | some wl => obtain ⟨w, e, hw⟩ := hway; exact ⟨w, e, s' _ _ hw⟩
  refine ⟨l1, tt, l2, v, LV, RV, legs, day, way, rws, rfl, s9 _ _ (s8 _ _ (s7 _ _ hl6)), LG5.mono (fun t ys e => s59 t _ e), htt9, hway9 _ s59, s9 _ _ (s8 _ _ hl7), RP.mono (fun t ys e => s59 t _ e), fun H10 s10 => ?_⟩
  generalize hfb : holdsB legs day way rws = fb
  refine gNameA [some (.ref a), some (.ref dl), some (.ref ll), some (.ref kd), some (.int (i : Int)), some (.ref xl), some (.int day), some v, some (.ref rl), some (.ref l3), some (.bl fb)] ?_
  have s5a := s59.trans s10
  dsimp only
  refine if_noP (fun H' => Same H10 H') (fun Qb hq => ?_) (fun H' s' => ⟨_, _, _, _, _, _, _, rfl, (s25.trans s5a).trans s'⟩)
  refine ⟨_, rfl, _, _, _, _, true, rfl, rfl, .bl fb, rfl, _, rfl, iteF ?_⟩
  refine ⟨_, rfl, _, rfl, _, rfl, _, rfl, _, rfl, ll, rl, v, LV, RV, legs, day, way, rws, rfl, s5a _ _ hll5, LG5.mono (fun t ys e => s5a t _ e), by omega, hway9 _ s5a, s5a _ _ hrl, RP.mono (fun t ys e => s5a t _ e), fun H11 s11 => ?_⟩
  rw [hfb]
  refine ⟨rfl, _, rfl, ?_⟩
  rw [decide_eq_true rfl]
  refine iteF ⟨_, rfl, _, rfl, _, rfl, (by show 2 ≤ sizeLine; decide), fun l4 hl4 => ?_⟩
  have s12 : Same H11 (upd H11 l4 (.lst [V.ref ll, V.ref rl])) := Same.new hl4
  have hl12 : upd H11 l4 (.lst [V.ref ll, V.ref rl]) l4 = some (.lst [V.ref ll, V.ref rl]) := upd_same
  generalize upd H11 l4 (.lst [V.ref ll, V.ref rl]) = H12 at s12 hl12 ⊢
  have s8c := ((s9.trans s10).trans s11).trans s12
  have s5c := (s5a.trans s11).trans s12
  have n1 : l1 ≠ ll := fun e => by rw [e, hll5] at hl1; cases hl1
  have n2 : l2 ≠ rl := fun e => by rw [e, s6 _ _ hrl] at hl2; cases hl2
  refine ⟨1, true, by decide, ⟨l3, l4, _, _, fun _ => true, rfl, rfl, .inl ⟨SqL.of (s8c _ _ hl8), SqL.of hl12, rfl, fun j x y e1 e2 => ?_, by simp⟩⟩, _, rfl, hq _ (s11.trans s12)⟩
  match j, e1, e2 with
  | 0, e1, e2 =>
    cases e1; cases e2
    exact .inr ⟨fun z => n1 (V.ref.inj z), SeqEq.sameL (SqL.of (s8c _ _ (s8 _ _ (s7 _ _ hl6)))) (SqL.of (s5c _ _ hll5)) (hrefs _)⟩
  | 1, e1, e2 =>
    cases e1; cases e2
    exact .inr ⟨fun z => n2 (V.ref.inj z), SeqEq.sameL (SqL.of (s8c _ _ (s8 _ _ hl7))) (SqL.of (s5c _ _ hrl)) (hrows _)⟩
  | j + 2, e1, e2 => cases e1
end
theorem all_mk {l : PySem.W.OpenLaw} {w : World} {K : PySem.W.Frag} {h : Heap} {mg : Str->Option Value} {fa : Addr} (X : K.In h) (G : h.Ns mainGlobals mg) (hfa : mg "law" = some (.ref fa))
    {f0 : Addr} {od0 an0 : Option Addr} {sl0 : Array (Option Value)} {oc0 kV0 dc0 pm0 cd0 ct0 : Value}
    (a0 : PySem.W.nsIn K mainGlobals "price_at" = some (some (.ref f0)))
    (l0 : K.lookup f0 = some ⟨oc0, od0, .func (PySem.W.fnOf "price_at" "price_at" (defArgs s_price_at) (defBody s_price_at) (defScope s_price_at) .none kV0 dc0 pm0 an0 cd0 ct0), sl0⟩) (c0 : PySem.W.codeIn K cd0 "price_at" = true) (k0 : PySem.W.keepIn K (.ref f0) = true)
    {f1 : Addr} {od1 an1 : Option Addr} {sl1 : Array (Option Value)} {oc1 kV1 dc1 pm1 cd1 ct1 : Value}
    (a1 : PySem.W.nsIn K mainGlobals "price_over" = some (some (.ref f1)))
    (l1 : K.lookup f1 = some ⟨oc1, od1, .func (PySem.W.fnOf "price_over" "price_over" (defArgs s_price_over) (defBody s_price_over) (defScope s_price_over) .none kV1 dc1 pm1 an1 cd1 ct1), sl1⟩) (c1 : PySem.W.codeIn K cd1 "price_over" = true) (k1 : PySem.W.keepIn K (.ref f1) = true)
    {f2 : Addr} {od2 an2 : Option Addr} {sl2 : Array (Option Value)} {oc2 kV2 dc2 pm2 cd2 ct2 : Value}
    (a2 : PySem.W.nsIn K mainGlobals "holds" = some (some (.ref f2)))
    (l2 : K.lookup f2 = some ⟨oc2, od2, .func (PySem.W.fnOf "holds" "holds" (defArgs s_holds) (defBody s_holds) (defScope s_holds) .none kV2 dc2 pm2 an2 cd2 ct2), sl2⟩) (c2 : PySem.W.codeIn K cd2 "holds" = true) (k2 : PySem.W.keepIn K (.ref f2) = true)
    {f3 : Addr} {od3 an3 : Option Addr} {sl3 : Array (Option Value)} {oc3 kV3 dc3 pm3 cd3 ct3 : Value}
    (a3 : PySem.W.nsIn K mainGlobals "days_rise" = some (some (.ref f3)))
    (l3 : K.lookup f3 = some ⟨oc3, od3, .func (PySem.W.fnOf "days_rise" "days_rise" (defArgs s_days_rise) (defBody s_days_rise) (defScope s_days_rise) .none kV3 dc3 pm3 an3 cd3 ct3), sl3⟩) (c3 : PySem.W.codeIn K cd3 "days_rise" = true) (k3 : PySem.W.keepIn K (.ref f3) = true)
    {f4 : Addr} {od4 an4 : Option Addr} {sl4 : Array (Option Value)} {oc4 kV4 dc4 pm4 cd4 ct4 : Value}
    (a4 : PySem.W.nsIn K mainGlobals "leg_holds" = some (some (.ref f4)))
    (l4 : K.lookup f4 = some ⟨oc4, od4, .func (PySem.W.fnOf "leg_holds" "leg_holds" (defArgs s_leg_holds) (defBody s_leg_holds) (defScope s_leg_holds) .none kV4 dc4 pm4 an4 cd4 ct4), sl4⟩) (c4 : PySem.W.codeIn K cd4 "leg_holds" = true) (k4 : PySem.W.keepIn K (.ref f4) = true)
    {f5 : Addr} {od5 an5 : Option Addr} {sl5 : Array (Option Value)} {oc5 kV5 dc5 pm5 cd5 ct5 : Value}
    (a5 : PySem.W.nsIn K mainGlobals "price_of_way" = some (some (.ref f5)))
    (l5 : K.lookup f5 = some ⟨oc5, od5, .func (PySem.W.fnOf "price_of_way" "price_of_way" (defArgs s_price_of_way) (defBody s_price_of_way) (defScope s_price_of_way) .none kV5 dc5 pm5 an5 cd5 ct5), sl5⟩) (c5 : PySem.W.codeIn K cd5 "price_of_way" = true) (k5 : PySem.W.keepIn K (.ref f5) = true)
    {f6 : Addr} {od6 an6 : Option Addr} {sl6 : Array (Option Value)} {oc6 kV6 dc6 pm6 cd6 ct6 : Value}
    (a6 : PySem.W.nsIn K mainGlobals "_law_cell_at" = some (some (.ref f6)))
    (l6 : K.lookup f6 = some ⟨oc6, od6, .func (PySem.W.fnOf "_law_cell_at" "_law_cell_at" (defArgs s__law_cell_at) (defBody s__law_cell_at) (defScope s__law_cell_at) .none kV6 dc6 pm6 an6 cd6 ct6), sl6⟩) (c6 : PySem.W.codeIn K cd6 "_law_cell_at" = true) (k6 : PySem.W.keepIn K (.ref f6) = true)
    {f7 : Addr} {od7 an7 : Option Addr} {sl7 : Array (Option Value)} {oc7 kV7 dc7 pm7 cd7 ct7 : Value}
    (a7 : PySem.W.nsIn K mainGlobals "_law_drawn" = some (some (.ref f7)))
    (l7 : K.lookup f7 = some ⟨oc7, od7, .func (PySem.W.fnOf "_law_drawn" "_law_drawn" (defArgs s__law_drawn) (defBody s__law_drawn) (defScope s__law_drawn) .none kV7 dc7 pm7 an7 cd7 ct7), sl7⟩) (c7 : PySem.W.codeIn K cd7 "_law_drawn" = true) (k7 : PySem.W.keepIn K (.ref f7) = true)
    {f8 : Addr} {od8 an8 : Option Addr} {sl8 : Array (Option Value)} {oc8 kV8 dc8 pm8 cd8 ct8 : Value}
    (a8 : PySem.W.nsIn K mainGlobals "_law_days" = some (some (.ref f8)))
    (l8 : K.lookup f8 = some ⟨oc8, od8, .func (PySem.W.fnOf "_law_days" "_law_days" (defArgs s__law_days) (defBody s__law_days) (defScope s__law_days) .none kV8 dc8 pm8 an8 cd8 ct8), sl8⟩) (c8 : PySem.W.codeIn K cd8 "_law_days" = true) (k8 : PySem.W.keepIn K (.ref f8) = true)
    {f9 : Addr} {od9 an9 : Option Addr} {sl9 : Array (Option Value)} {oc9 kV9 dc9 pm9 cd9 ct9 : Value}
    (a9 : PySem.W.nsIn K mainGlobals "_law_leg" = some (some (.ref f9)))
    (l9 : K.lookup f9 = some ⟨oc9, od9, .func (PySem.W.fnOf "_law_leg" "_law_leg" (defArgs s__law_leg) (defBody s__law_leg) (defScope s__law_leg) .none kV9 dc9 pm9 an9 cd9 ct9), sl9⟩) (c9 : PySem.W.codeIn K cd9 "_law_leg" = true) (k9 : PySem.W.keepIn K (.ref f9) = true)
    {f10 : Addr} {od10 an10 : Option Addr} {sl10 : Array (Option Value)} {oc10 kV10 dc10 pm10 cd10 ct10 : Value}
    (a10 : PySem.W.nsIn K mainGlobals "_law_legs" = some (some (.ref f10)))
    (l10 : K.lookup f10 = some ⟨oc10, od10, .func (PySem.W.fnOf "_law_legs" "_law_legs" (defArgs s__law_legs) (defBody s__law_legs) (defScope s__law_legs) .none kV10 dc10 pm10 an10 cd10 ct10), sl10⟩) (c10 : PySem.W.codeIn K cd10 "_law_legs" = true) (k10 : PySem.W.keepIn K (.ref f10) = true)
    {f11 : Addr} {od11 an11 : Option Addr} {sl11 : Array (Option Value)} {oc11 kV11 dc11 pm11 cd11 ct11 : Value}
    (a11 : PySem.W.nsIn K mainGlobals "_law_behind" = some (some (.ref f11)))
    (l11 : K.lookup f11 = some ⟨oc11, od11, .func (PySem.W.fnOf "_law_behind" "_law_behind" (defArgs s__law_behind) (defBody s__law_behind) (defScope s__law_behind) .none kV11 dc11 pm11 an11 cd11 ct11), sl11⟩) (c11 : PySem.W.codeIn K cd11 "_law_behind" = true) (k11 : PySem.W.keepIn K (.ref f11) = true)
    {f12 : Addr} {od12 an12 : Option Addr} {sl12 : Array (Option Value)} {oc12 kV12 dc12 pm12 cd12 ct12 : Value}
    (a12 : PySem.W.nsIn K mainGlobals "_law_known" = some (some (.ref f12)))
    (l12 : K.lookup f12 = some ⟨oc12, od12, .func (PySem.W.fnOf "_law_known" "_law_known" (defArgs s__law_known) (defBody s__law_known) (defScope s__law_known) .none kV12 dc12 pm12 an12 cd12 ct12), sl12⟩) (c12 : PySem.W.codeIn K cd12 "_law_known" = true) (k12 : PySem.W.keepIn K (.ref f12) = true)
    {f13 : Addr} {od13 an13 : Option Addr} {sl13 : Array (Option Value)} {oc13 kV13 dc13 pm13 cd13 ct13 : Value}
    (a13 : PySem.W.nsIn K mainGlobals "_law_way" = some (some (.ref f13)))
    (l13 : K.lookup f13 = some ⟨oc13, od13, .func (PySem.W.fnOf "_law_way" "_law_way" (defArgs s__law_way) (defBody s__law_way) (defScope s__law_way) .none kV13 dc13 pm13 an13 cd13 ct13), sl13⟩) (c13 : PySem.W.codeIn K cd13 "_law_way" = true) (k13 : PySem.W.keepIn K (.ref f13) = true)
    {f14 : Addr} {od14 an14 : Option Addr} {sl14 : Array (Option Value)} {oc14 kV14 dc14 pm14 cd14 ct14 : Value}
    (a14 : PySem.W.nsIn K mainGlobals "_law_walk" = some (some (.ref f14)))
    (l14 : K.lookup f14 = some ⟨oc14, od14, .func (PySem.W.fnOf "_law_walk" "_law_walk" (defArgs s__law_walk) (defBody s__law_walk) (defScope s__law_walk) .none kV14 dc14 pm14 an14 cd14 ct14), sl14⟩) (c14 : PySem.W.codeIn K cd14 "_law_walk" = true) (k14 : PySem.W.keepIn K (.ref f14) = true)
    {f15 : Addr} {od15 an15 : Option Addr} {sl15 : Array (Option Value)} {oc15 kV15 dc15 pm15 cd15 ct15 : Value}
    (a15 : PySem.W.nsIn K mainGlobals "_law_less" = some (some (.ref f15)))
    (l15 : K.lookup f15 = some ⟨oc15, od15, .func (PySem.W.fnOf "_law_less" "_law_less" (defArgs s__law_less) (defBody s__law_less) (defScope s__law_less) .none kV15 dc15 pm15 an15 cd15 ct15), sl15⟩) (c15 : PySem.W.codeIn K cd15 "_law_less" = true) (k15 : PySem.W.keepIn K (.ref f15) = true)
    {f16 : Addr} {od16 an16 : Option Addr} {sl16 : Array (Option Value)} {oc16 kV16 dc16 pm16 cd16 ct16 : Value}
    (a16 : PySem.W.nsIn K mainGlobals "_law_prices_told" = some (some (.ref f16)))
    (l16 : K.lookup f16 = some ⟨oc16, od16, .func (PySem.W.fnOf "_law_prices_told" "_law_prices_told" (defArgs s__law_prices_told) (defBody s__law_prices_told) (defScope s__law_prices_told) .none kV16 dc16 pm16 an16 cd16 ct16), sl16⟩) (c16 : PySem.W.codeIn K cd16 "_law_prices_told" = true) (k16 : PySem.W.keepIn K (.ref f16) = true)
    {f17 : Addr} {od17 an17 : Option Addr} {sl17 : Array (Option Value)} {oc17 kV17 dc17 pm17 cd17 ct17 : Value}
    (a17 : PySem.W.nsIn K mainGlobals "_law_turned" = some (some (.ref f17)))
    (l17 : K.lookup f17 = some ⟨oc17, od17, .func (PySem.W.fnOf "_law_turned" "_law_turned" (defArgs s__law_turned) (defBody s__law_turned) (defScope s__law_turned) .none kV17 dc17 pm17 an17 cd17 ct17), sl17⟩) (c17 : PySem.W.codeIn K cd17 "_law_turned" = true) (k17 : PySem.W.keepIn K (.ref f17) = true)
    {f18 : Addr} {od18 an18 : Option Addr} {sl18 : Array (Option Value)} {oc18 kV18 dc18 pm18 cd18 ct18 : Value}
    (a18 : PySem.W.nsIn K mainGlobals "_law_paper" = some (some (.ref f18)))
    (l18 : K.lookup f18 = some ⟨oc18, od18, .func (PySem.W.fnOf "_law_paper" "_law_paper" (defArgs s__law_paper) (defBody s__law_paper) (defScope s__law_paper) .none kV18 dc18 pm18 an18 cd18 ct18), sl18⟩) (c18 : PySem.W.codeIn K cd18 "_law_paper" = true) (k18 : PySem.W.keepIn K (.ref f18) = true)
    {f19 : Addr} {od19 an19 : Option Addr} {sl19 : Array (Option Value)} {oc19 kV19 dc19 pm19 cd19 ct19 : Value}
    (a19 : PySem.W.nsIn K mainGlobals "_law_due" = some (some (.ref f19)))
    (l19 : K.lookup f19 = some ⟨oc19, od19, .func (PySem.W.fnOf "_law_due" "_law_due" (defArgs s__law_due) (defBody s__law_due) (defScope s__law_due) .none kV19 dc19 pm19 an19 cd19 ct19), sl19⟩) (c19 : PySem.W.codeIn K cd19 "_law_due" = true) (k19 : PySem.W.keepIn K (.ref f19) = true)
    {f20 : Addr} {od20 an20 : Option Addr} {sl20 : Array (Option Value)} {oc20 kV20 dc20 pm20 cd20 ct20 : Value}
    (a20 : PySem.W.nsIn K mainGlobals "law" = some (some (.ref f20)))
    (l20 : K.lookup f20 = some ⟨oc20, od20, .func (PySem.W.fnOf "law" "law" (defArgs s_law) (defBody s_law) (defScope s_law) .none kV20 dc20 pm20 an20 cd20 ct20), sl20⟩) (c20 : PySem.W.codeIn K cd20 "law" = true) (k20 : PySem.W.keepIn K (.ref f20) = true)
    (z_len : PySem.W.nsIn K mainGlobals "len" = some none)
    (z_list : PySem.W.nsIn K mainGlobals "list" = some none)
    (z_tuple : PySem.W.nsIn K mainGlobals "tuple" = some none)
    (z_dict : PySem.W.nsIn K mainGlobals "dict" = some none)
    (z_range : PySem.W.nsIn K mainGlobals "range" = some none)
    (z_sorted : PySem.W.nsIn K mainGlobals "sorted" = some none)
    (z_set : PySem.W.nsIn K mainGlobals "set" = some none)
    (z_all : PySem.W.nsIn K mainGlobals "all" = some none)
    (z_enumerate : PySem.W.nsIn K mainGlobals "enumerate" = some none)
    (z_isinstance : PySem.W.nsIn K mainGlobals "isinstance" = some none)
    (z_int : PySem.W.nsIn K mainGlobals "int" = some none)
    (z_bool : PySem.W.nsIn K mainGlobals "bool" = some none)
    (z_max : PySem.W.nsIn K mainGlobals "max" = some none)
    : ∃ fd : FuncData, (∀ (s : Shared) (v : Value), BindsTo s fd ⟨[v], []⟩ [("_law_script", v)]) /\ ∀ base : Heap, K.In base->base.Ns mainGlobals mg->FnOk l.prog w K mg base (CXx l.prog w) 4 fa fd ["_law_script"] (sp_law K) := by
  have e := hfa.symm.trans (PySem.W.mg_of X G a20)
  cases e
  have T : Txt K mg := ⟨PySem.W.mg_none_of X G z_len, PySem.W.mg_none_of X G z_list, PySem.W.mg_none_of X G z_tuple, PySem.W.mg_none_of X G z_dict, PySem.W.mg_none_of X G z_range, PySem.W.mg_none_of X G z_sorted, PySem.W.mg_none_of X G z_set, PySem.W.mg_none_of X G z_all, PySem.W.mg_none_of X G z_enumerate, PySem.W.mg_none_of X G z_isinstance, PySem.W.mg_none_of X G z_int, PySem.W.mg_none_of X G z_bool, PySem.W.mg_none_of X G z_max⟩
  have F0 := fun_mk (st := s_price_at) l0 c0 k0
  have b0 := F0.binds (ps := ["priced", "start"]) fun _ _ _ _ _ _ us hl => match us, hl with | [_, _], _ => rfl
  have F1 := fun_mk (st := s_price_over) l1 c1 k1
  have b1 := F1.binds (ps := ["price", "leg"]) fun _ _ _ _ _ _ us hl => match us, hl with | [_, _], _ => rfl
  have F2 := fun_mk (st := s_holds) l2 c2 k2
  have b2 := F2.binds (ps := ["legs", "day", "told"]) fun _ _ _ _ _ _ us hl => match us, hl with | [_, _, _], _ => rfl
  have F3 := fun_mk (st := s_days_rise) l3 c3 k3
  have b3 := F3.binds (ps := ["rows"]) fun _ _ _ _ _ _ us hl => match us, hl with | [_], _ => rfl
  have F4 := fun_mk (st := s_leg_holds) l4 c4 k4
  have b4 := F4.binds (ps := ["priced", "leg"]) fun _ _ _ _ _ _ us hl => match us, hl with | [_, _], _ => rfl
  have F5 := fun_mk (st := s_price_of_way) l5 c5 k5
  have b5 := F5.binds (ps := ["legs", "way", "day"]) fun _ _ _ _ _ _ us hl => match us, hl with | [_, _, _], _ => rfl
  have F6 := fun_mk (st := s__law_cell_at) l6 c6 k6
  have b6 := F6.binds (ps := ["_law_script", "_law_k"]) fun _ _ _ _ _ _ us hl => match us, hl with | [_, _], _ => rfl
  have F7 := fun_mk (st := s__law_drawn) l7 c7 k7
  have b7 := F7.binds (ps := ["_law_cell", "_law_many"]) fun _ _ _ _ _ _ us hl => match us, hl with | [_, _], _ => rfl
  have F8 := fun_mk (st := s__law_days) l8 c8 k8
  have b8 := F8.binds (ps := ["_law_xs"]) fun _ _ _ _ _ _ us hl => match us, hl with | [_], _ => rfl
  have F9 := fun_mk (st := s__law_leg) l9 c9 k9
  have b9 := F9.binds (ps := ["_law_cell", "_law_number", "_law_days_here", "_law_xs"]) fun _ _ _ _ _ _ us hl => match us, hl with | [_, _, _, _], _ => rfl
  have F10 := fun_mk (st := s__law_legs) l10 c10 k10
  have b10 := F10.binds (ps := ["_law_script", "_law_most"]) fun _ _ _ _ _ _ us hl => match us, hl with | [_, _], _ => rfl
  have F11 := fun_mk (st := s__law_behind) l11 c11 k11
  have b11 := F11.binds (ps := ["_law_price", "_law_leg_here"]) fun _ _ _ _ _ _ us hl => match us, hl with | [_, _], _ => rfl
  have F12 := fun_mk (st := s__law_known) l12 c12 k12
  have b12 := F12.binds (ps := ["_law_legs_here"]) fun _ _ _ _ _ _ us hl => match us, hl with | [_], _ => rfl
  have F13 := fun_mk (st := s__law_way) l13 c13 k13
  have b13 := F13.binds (ps := ["_law_legs_here", "_law_known_here", "_law_day"]) fun _ _ _ _ _ _ us hl => match us, hl with | [_, _, _], _ => rfl
  have F14 := fun_mk (st := s__law_walk) l14 c14 k14
  have b14 := F14.binds (ps := ["_law_legs_here", "_law_cells"]) fun _ _ _ _ _ _ us hl => match us, hl with | [_, _], _ => rfl
  have F15 := fun_mk (st := s__law_less) l15 c15 k15
  have b15 := F15.binds (ps := ["_law_price", "_law_number"]) fun _ _ _ _ _ _ us hl => match us, hl with | [_, _], _ => rfl
  have F16 := fun_mk (st := s__law_prices_told) l16 c16 k16
  have b16 := F16.binds (ps := ["_law_days_here", "_law_known_here", "_law_xs"]) fun _ _ _ _ _ _ us hl => match us, hl with | [_, _, _], _ => rfl
  have F17 := fun_mk (st := s__law_turned) l17 c17 k17
  have b17 := F17.binds (ps := ["_law_rows", "_law_xs"]) fun _ _ _ _ _ _ us hl => match us, hl with | [_, _], _ => rfl
  have F18 := fun_mk (st := s__law_paper) l18 c18 k18
  have b18 := F18.binds (ps := ["_law_legs_here", "_law_days_here", "_law_known_here", "_law_xs"]) fun _ _ _ _ _ _ us hl => match us, hl with | [_, _, _, _], _ => rfl
  have F19 := fun_mk (st := s__law_due) l19 c19 k19
  have b19 := F19.binds (ps := ["_law_legs_here", "_law_day", "_law_way_here", "_law_rows"]) fun _ _ _ _ _ _ us hl => match us, hl with | [_, _, _, _], _ => rfl
  have F20 := fun_mk (st := s_law) l20 c20 k20
  have b20 := F20.binds (ps := ["_law_script"]) fun _ _ _ _ _ _ us hl => match us, hl with | [_], _ => rfl
  refine ⟨PySem.W.fnOf "law" "law" (defArgs s_law) (defBody s_law) (defScope s_law) .none kV20 dc20 pm20 an20 cd20 ct20, fun s v => .of_eq rfl, fun base _ _ => ?_⟩
  have D_price_at : DefX l.prog w K mg base "price_at" 1 ["priced", "start"] sp_priceat := ⟨_, _, PySem.W.mg_of X G a0, ok_price_at F0 T , k0, b0⟩
  have D_price_over : DefX l.prog w K mg base "price_over" 1 ["price", "leg"] sp_over := ⟨_, _, PySem.W.mg_of X G a1, ok_price_over F1 T , k1, b1⟩
  have D_days_rise : DefX l.prog w K mg base "days_rise" 1 ["rows"] sp_rise := ⟨_, _, PySem.W.mg_of X G a3, ok_days_rise F3 T , k3, b3⟩
  have D_leg_holds : DefX l.prog w K mg base "leg_holds" 2 ["priced", "leg"] sp_legh := ⟨_, _, PySem.W.mg_of X G a4, ok_leg_holds F4 T D_price_at D_price_over, k4, b4⟩
  have D_price_of_way : DefX l.prog w K mg base "price_of_way" 2 ["legs", "way", "day"] sp_pow := ⟨_, _, PySem.W.mg_of X G a5, ok_price_of_way F5 T D_price_over, k5, b5⟩
  have D_holds : DefX l.prog w K mg base "holds" 3 ["legs", "day", "told"] sp_holds := ⟨_, _, PySem.W.mg_of X G a2, ok_holds F2 T D_days_rise D_leg_holds D_price_of_way, k2, b2⟩
  have D__law_cell_at : DefX l.prog w K mg base "_law_cell_at" 1 ["_law_script", "_law_k"] (sp_cell K) := ⟨_, _, PySem.W.mg_of X G a6, ok__law_cell_at F6 T , k6, b6⟩
  have D__law_drawn : DefX l.prog w K mg base "_law_drawn" 1 ["_law_cell", "_law_many"] sp_drawn := ⟨_, _, PySem.W.mg_of X G a7, ok__law_drawn F7 T , k7, b7⟩
  have D__law_days : DefX l.prog w K mg base "_law_days" 1 ["_law_xs"] sp_days := ⟨_, _, PySem.W.mg_of X G a8, ok__law_days F8 T , k8, b8⟩
  have D__law_leg : DefX l.prog w K mg base "_law_leg" 2 ["_law_cell", "_law_number", "_law_days_here", "_law_xs"] sp_leg := ⟨_, _, PySem.W.mg_of X G a9, ok__law_leg F9 T D__law_drawn, k9, b9⟩
  have D__law_legs : DefX l.prog w K mg base "_law_legs" 3 ["_law_script", "_law_most"] (sp_legs K) := ⟨_, _, PySem.W.mg_of X G a10, ok__law_legs F10 T D__law_drawn D__law_cell_at D__law_days D__law_leg, k10, b10⟩
  have D__law_behind : DefX l.prog w K mg base "_law_behind" 1 ["_law_price", "_law_leg_here"] sp_over := ⟨_, _, PySem.W.mg_of X G a11, ok__law_behind F11 T , k11, b11⟩
  have D__law_known : DefX l.prog w K mg base "_law_known" 2 ["_law_legs_here"] sp_known := ⟨_, _, PySem.W.mg_of X G a12, ok__law_known F12 T D__law_behind, k12, b12⟩
  have D__law_way : DefX l.prog w K mg base "_law_way" 2 ["_law_legs_here", "_law_known_here", "_law_day"] sp_lway := ⟨_, _, PySem.W.mg_of X G a13, ok__law_way F13 T D__law_behind, k13, b13⟩
  have D__law_walk : DefX l.prog w K mg base "_law_walk" 2 ["_law_legs_here", "_law_cells"] sp_walk := ⟨_, _, PySem.W.mg_of X G a14, ok__law_walk F14 T D__law_behind, k14, b14⟩
  have D__law_less : DefX l.prog w K mg base "_law_less" 1 ["_law_price", "_law_number"] sp_less := ⟨_, _, PySem.W.mg_of X G a15, ok__law_less F15 T , k15, b15⟩
  have D__law_prices_told : DefX l.prog w K mg base "_law_prices_told" 2 ["_law_days_here", "_law_known_here", "_law_xs"] sp_ptold := ⟨_, _, PySem.W.mg_of X G a16, ok__law_prices_told F16 T D__law_less, k16, b16⟩
  have D__law_turned : DefX l.prog w K mg base "_law_turned" 1 ["_law_rows", "_law_xs"] sp_turn := ⟨_, _, PySem.W.mg_of X G a17, ok__law_turned F17 T , k17, b17⟩
  have D__law_paper : DefX l.prog w K mg base "_law_paper" 3 ["_law_legs_here", "_law_days_here", "_law_known_here", "_law_xs"] sp_lpaper := ⟨_, _, PySem.W.mg_of X G a18, ok__law_paper F18 T D__law_prices_told D__law_way D__law_walk D__law_turned, k18, b18⟩
  have D__law_due : DefX l.prog w K mg base "_law_due" 2 ["_law_legs_here", "_law_day", "_law_way_here", "_law_rows"] sp_ldue := ⟨_, _, PySem.W.mg_of X G a19, ok__law_due F19 T D__law_behind, k19, b19⟩
  exact ok_law F20 T D__law_legs D__law_known D__law_drawn D__law_cell_at D__law_paper D_holds D__law_due
theorem walk {l : PySem.W.OpenLaw} {q : Program} {loose : List Str} {XP : (Str->Option Value)->Heap->Prop} {YP : World->Heap->Prop} {d : DefRec} {K : Params->PySem.W.Frag} (hn : l.most = some 63) (hdf : d.params.defaults = [])
    (hY : ∀ (w : World) (h : Heap), YP w h->(K w.params).In h)
    (F : ∀ (w : World) (mg : Str->Option Value) (fa : Addr) (h : Heap), (K w.params).In h->h.Ns mainGlobals mg->mg d.name = some (.ref fa) →
      ∃ fd : FuncData, (∀ (s : Shared) (u : Value), BindsTo s fd ⟨[u], []⟩ [("_law_script", u)]) /\ ∀ base : Heap, (K w.params).In base->base.Ns mainGlobals mg->FnOk l.prog w (K w.params) mg base (CXx l.prog w) 4 fa fd ["_law_script"] (sp_law (K w.params))) :
    PySem.W.WalkO q loose XP YP l.row.toRowW d [] (fun f vs => PySem.call f vs) :=
  L2.walk_of (n := 63) (k := 4) (x := "_law_script") (CX := fun w => CXx l.prog w) (sp := fun w => sp_law (K w.params)) hn (by decide) hdf ⟨rfl, by decide, by decide⟩ hY F (fun _ _ a ns hl _ hS => ⟨a, ns, rfl, hS, hl, fun _ => rfl⟩) fun _ _ _ _ _ z => L2.cxx_no z
end Mine
open PySem PySem.W PyProof.Rows
namespace Hd
open PySem
noncomputable abbrev h0 := (((((Str.ofString "<module>", Str.ofString "/claim/cut.py"), Str.ofString "__main__"), ((Str.ofString "__name__", Str.ofString "law_keepsakes_k37_papers_by_the_points"), Str.ofString "__doc__")), (((Str.ofString "__package__", Str.ofString "__loader__"), Str.ofString "__spec__"), ((Str.ofString "__annotations__", Str.ofString "__builtins__"), Str.ofString "__file__"))), ((((Str.ofString "__cached__", Str.ofString "price_at"), Str.ofString "price_over"), ((Str.ofString "holds", Str.ofString "days_rise"), Str.ofString "leg_holds")), (((Str.ofString "price_of_way", Str.ofString "_law_cell_at"), Str.ofString "_law_whole"), ((Str.ofString "_law_drawn", Str.ofString "_law_days"), Str.ofString "_law_leg"))))
noncomputable abbrev h1 := (((((Str.ofString "_law_legs", Str.ofString "priced"), Str.ofString "start"), ((Str.ofString "keepsakes.least", Str.ofString "price"), Str.ofString "leg")), (((Str.ofString "keepsakes.papers", Str.ofString "_law_script"), Str.ofString "_law_k"), ((Str.ofString "_law_found", Str.ofString "_law_cell"), Str.ofString "_law_many"))), ((((Str.ofString "_law_number", Str.ofString "_law_days_here"), Str.ofString "_law_xs"), ((Str.ofString "_law_ys", Str.ofString "_law_at"), Str.ofString "_law_to")), (((Str.ofString "_law_start", Str.ofString "_law_cost"), Str.ofString "_law_bad"), ((Str.ofString "_law_most", Str.ofString "_law_cells"), Str.ofString "_law_share"))))
noncomputable abbrev h2 := (((((Str.ofString "_law_legs_here", Str.ofString "_law_behind"), Str.ofString "_law_known"), ((Str.ofString "_law_way", Str.ofString "_law_walk"), Str.ofString "_law_less")), (((Str.ofString "_law_prices_told", Str.ofString "_law_turned"), Str.ofString "_law_paper"), ((Str.ofString "_law_due", Str.ofString "law"), Str.ofString "_law_price"))), ((((Str.ofString "_law_leg_here", Str.ofString "_law_known_here"), Str.ofString "_law_more"), ((Str.ofString "_law_due_here", Str.ofString "_law_day"), Str.ofString "_law_way_here")), (((Str.ofString "_law_best", Str.ofString "_law_kind"), Str.ofString "_law_told"), (Str.ofString "_law_rows", Str.ofString "_law_handed"))))
noncomputable abbrev h3 := ((("tuple", "code"), "frame"), (("dict", "__main__.__loader__#opaque"), "function"))
abbrev X : Type := ((((((((Str × Str) × Str) × ((Str × Str) × Str)) × (((Str × Str) × Str) × ((Str × Str) × Str))) × ((((Str × Str) × Str) × ((Str × Str) × Str)) × (((Str × Str) × Str) × ((Str × Str) × Str)))) × (((((Str × Str) × Str) × ((Str × Str) × Str)) × (((Str × Str) × Str) × ((Str × Str) × Str))) × ((((Str × Str) × Str) × ((Str × Str) × Str)) × (((Str × Str) × Str) × ((Str × Str) × Str))))) × (((((Str × Str) × Str) × ((Str × Str) × Str)) × (((Str × Str) × Str) × ((Str × Str) × Str))) × ((((Str × Str) × Str) × ((Str × Str) × Str)) × (((Str × Str) × Str) × (Str × Str))))) × ((((String × String) × String) × ((String × String) × String)) × PySem.Program)) × PySem.Params
noncomputable abbrev hs := (((h0, h1), h2), (h3, PySem.Challenge.pw_keepsakes_k37_papers_by_the_points))
lay_quick h0 h1 h2 h3 PySem.Challenge.pw_keepsakes_k37_papers_by_the_points
lay_quick hs
noncomputable abbrev s0 (x : X) := x.1.1.1.1.1.1.1.1.1
noncomputable abbrev s1 (x : X) := x.1.1.1.1.1.1.1.1.2
noncomputable abbrev s2 (x : X) := x.1.1.1.1.1.1.1.2
noncomputable abbrev s3 (x : X) := x.1.1.1.1.1.1.2.1.1
noncomputable abbrev s4 (x : X) := x.1.1.1.1.1.1.2.1.2
noncomputable abbrev s5 (x : X) := x.1.1.1.1.1.1.2.2
noncomputable abbrev s6 (x : X) := x.1.1.1.1.1.2.1.1.1
noncomputable abbrev s7 (x : X) := x.1.1.1.1.1.2.1.1.2
noncomputable abbrev s8 (x : X) := x.1.1.1.1.1.2.1.2
noncomputable abbrev s9 (x : X) := x.1.1.1.1.1.2.2.1.1
noncomputable abbrev s10 (x : X) := x.1.1.1.1.1.2.2.1.2
noncomputable abbrev s11 (x : X) := x.1.1.1.1.1.2.2.2
noncomputable abbrev s12 (x : X) := x.1.1.1.1.2.1.1.1.1
noncomputable abbrev s13 (x : X) := x.1.1.1.1.2.1.1.1.2
noncomputable abbrev s14 (x : X) := x.1.1.1.1.2.1.1.2
noncomputable abbrev s15 (x : X) := x.1.1.1.1.2.1.2.1.1
noncomputable abbrev s16 (x : X) := x.1.1.1.1.2.1.2.1.2
noncomputable abbrev s17 (x : X) := x.1.1.1.1.2.1.2.2
noncomputable abbrev s18 (x : X) := x.1.1.1.1.2.2.1.1.1
noncomputable abbrev s19 (x : X) := x.1.1.1.1.2.2.1.1.2
noncomputable abbrev s20 (x : X) := x.1.1.1.1.2.2.1.2
noncomputable abbrev s21 (x : X) := x.1.1.1.1.2.2.2.1.1
noncomputable abbrev s22 (x : X) := x.1.1.1.1.2.2.2.1.2
noncomputable abbrev s23 (x : X) := x.1.1.1.1.2.2.2.2
noncomputable abbrev s24 (x : X) := x.1.1.1.2.1.1.1.1.1
noncomputable abbrev s25 (x : X) := x.1.1.1.2.1.1.1.1.2
noncomputable abbrev s26 (x : X) := x.1.1.1.2.1.1.1.2
noncomputable abbrev s27 (x : X) := x.1.1.1.2.1.1.2.1.1
noncomputable abbrev s28 (x : X) := x.1.1.1.2.1.1.2.1.2
noncomputable abbrev s29 (x : X) := x.1.1.1.2.1.1.2.2
noncomputable abbrev s30 (x : X) := x.1.1.1.2.1.2.1.1.1
noncomputable abbrev s31 (x : X) := x.1.1.1.2.1.2.1.1.2
noncomputable abbrev s32 (x : X) := x.1.1.1.2.1.2.1.2
noncomputable abbrev s33 (x : X) := x.1.1.1.2.1.2.2.1.1
noncomputable abbrev s34 (x : X) := x.1.1.1.2.1.2.2.1.2
noncomputable abbrev s35 (x : X) := x.1.1.1.2.1.2.2.2
noncomputable abbrev s36 (x : X) := x.1.1.1.2.2.1.1.1.1
noncomputable abbrev s37 (x : X) := x.1.1.1.2.2.1.1.1.2
noncomputable abbrev s38 (x : X) := x.1.1.1.2.2.1.1.2
noncomputable abbrev s39 (x : X) := x.1.1.1.2.2.1.2.1.1
noncomputable abbrev s40 (x : X) := x.1.1.1.2.2.1.2.1.2
noncomputable abbrev s41 (x : X) := x.1.1.1.2.2.1.2.2
noncomputable abbrev s42 (x : X) := x.1.1.1.2.2.2.1.1.1
noncomputable abbrev s43 (x : X) := x.1.1.1.2.2.2.1.1.2
noncomputable abbrev s44 (x : X) := x.1.1.1.2.2.2.1.2
noncomputable abbrev s45 (x : X) := x.1.1.1.2.2.2.2.1.1
noncomputable abbrev s46 (x : X) := x.1.1.1.2.2.2.2.1.2
noncomputable abbrev s47 (x : X) := x.1.1.1.2.2.2.2.2
noncomputable abbrev s48 (x : X) := x.1.1.2.1.1.1.1.1
noncomputable abbrev s49 (x : X) := x.1.1.2.1.1.1.1.2
noncomputable abbrev s50 (x : X) := x.1.1.2.1.1.1.2
noncomputable abbrev s51 (x : X) := x.1.1.2.1.1.2.1.1
noncomputable abbrev s52 (x : X) := x.1.1.2.1.1.2.1.2
noncomputable abbrev s53 (x : X) := x.1.1.2.1.1.2.2
noncomputable abbrev s54 (x : X) := x.1.1.2.1.2.1.1.1
noncomputable abbrev s55 (x : X) := x.1.1.2.1.2.1.1.2
noncomputable abbrev s56 (x : X) := x.1.1.2.1.2.1.2
noncomputable abbrev s57 (x : X) := x.1.1.2.1.2.2.1.1
noncomputable abbrev s58 (x : X) := x.1.1.2.1.2.2.1.2
noncomputable abbrev s59 (x : X) := x.1.1.2.1.2.2.2
noncomputable abbrev s60 (x : X) := x.1.1.2.2.1.1.1.1
noncomputable abbrev s61 (x : X) := x.1.1.2.2.1.1.1.2
noncomputable abbrev s62 (x : X) := x.1.1.2.2.1.1.2
noncomputable abbrev s63 (x : X) := x.1.1.2.2.1.2.1.1
noncomputable abbrev s64 (x : X) := x.1.1.2.2.1.2.1.2
noncomputable abbrev s65 (x : X) := x.1.1.2.2.1.2.2
noncomputable abbrev s66 (x : X) := x.1.1.2.2.2.1.1.1
noncomputable abbrev s67 (x : X) := x.1.1.2.2.2.1.1.2
noncomputable abbrev s68 (x : X) := x.1.1.2.2.2.1.2
noncomputable abbrev s69 (x : X) := x.1.1.2.2.2.2.1
noncomputable abbrev s70 (x : X) := x.1.1.2.2.2.2.2
noncomputable abbrev l0 (x : X) := x.1.2.1.1.1.1
noncomputable abbrev l1 (x : X) := x.1.2.1.1.1.2
noncomputable abbrev l2 (x : X) := x.1.2.1.1.2
noncomputable abbrev l3 (x : X) := x.1.2.1.2.1.1
noncomputable abbrev l4 (x : X) := x.1.2.1.2.1.2
noncomputable abbrev l5 (x : X) := x.1.2.1.2.2
noncomputable abbrev b0 (x : X) := PySem.W.boot_o_0 x.2
noncomputable abbrev b1 (x : X) := PySem.W.boot_o_1 x.2
noncomputable abbrev b2 (x : X) := PySem.W.boot_o_2 x.2
noncomputable abbrev b3 (x : X) := PySem.W.boot_o_3 x.2
noncomputable abbrev b4 (x : X) := PySem.W.boot_o_4 x.2
noncomputable abbrev b5 (x : X) := PySem.W.boot_o_5 x.2
noncomputable abbrev b6 (x : X) := PySem.W.boot_o_6 x.2
noncomputable abbrev b7 (x : X) := PySem.W.boot_o_7 x.2
noncomputable abbrev b8 (x : X) := PySem.W.boot_o_8 x.2
noncomputable abbrev b9 (x : X) := PySem.W.boot_o_9 x.2
noncomputable abbrev b10 (x : X) := PySem.W.boot_o_10 x.2
noncomputable abbrev pg (x : X) : PySem.Program := x.1.2.2
noncomputable def nth : List PySem.Stmt->Nat->PySem.Stmt := fun l => @List.rec PySem.Stmt (fun _ => Nat->PySem.Stmt) (fun _ => .Pass ⟨0, 0, 0, 0⟩) (fun a _ ih n => @Nat.rec (fun _ => PySem.Stmt) a (fun m _ => ih m) n) l
noncomputable abbrev st (x : X) (k : Nat) : PySem.Stmt := nth (pg x).main.body k
noncomputable def cb : PySem.Stmt->List PySem.Stmt | .ClassDef _ _ _ y _ _ _ _ _ _ _ => y | _ => []
noncomputable abbrev sm (x : X) (k m : Nat) : PySem.Stmt := nth (cb (st x k)) m
noncomputable def f0 : PySem.Stmt->Str | .FunctionDef y _ _ _ _ _ _ _ _ _ => y | _ => default
noncomputable def f1 : PySem.Stmt->Arguments | .FunctionDef _ y _ _ _ _ _ _ _ _ => y | _ => default
noncomputable def f2 : PySem.Stmt->List Stmt | .FunctionDef _ _ y _ _ _ _ _ _ _ => y | _ => []
noncomputable def f6 : PySem.Stmt->Scope | .FunctionDef _ _ _ _ _ _ y _ _ _ => y | _ => default
noncomputable abbrev u0 := @PySem.Obj.mk
noncomputable abbrev u1 := @PySem.Value.type
noncomputable abbrev u2 := @Option.none.{0} (@Nat)
noncomputable abbrev u3 := @PySem.Data.seq
noncomputable abbrev u4 := @List.toArray.{0} (@PySem.Value)
noncomputable abbrev u5 := @List.nil.{0} (@PySem.Value)
noncomputable abbrev u6 := @List.toArray.{0} (@Option.{0} (@PySem.Value))
noncomputable abbrev u7 := @List.nil.{0} (@Option.{0} (@PySem.Value))
noncomputable abbrev u8 := @PySem.Value.none
noncomputable abbrev u9 := @PySem.Data.fields
noncomputable abbrev u10 := @List.cons.{0} (@PySem.Value)
noncomputable abbrev u11 := @PySem.Value.str
noncomputable abbrev u12 := @PySem.Value.int
noncomputable abbrev u13 := @PySem.Value.ref
noncomputable abbrev u14 := @PySem.Value.bool
noncomputable abbrev u15 := @Bool.false
noncomputable abbrev u16 := @PySem.Data.plain
noncomputable abbrev u17 := @List.cons.{0} (@Option.{0} (@PySem.Value))
noncomputable abbrev u18 := @Option.some.{0} (@PySem.Value)
noncomputable abbrev u19 := @Option.none.{0} (@PySem.Value)
noncomputable abbrev u20 := @PySem.Data.dict
noncomputable abbrev u21 := @List.toArray.{0} (@PySem.DictEntry)
noncomputable abbrev u22 := @List.cons.{0} (@PySem.DictEntry)
noncomputable abbrev u23 := @PySem.DictEntry.mk
noncomputable abbrev u24 := @PySem.PyData.keyHash
noncomputable abbrev u25 := @PySem.Value.builtin
noncomputable abbrev u26 := @List.nil.{0} (@PySem.DictEntry)
noncomputable abbrev u27 := @PySem.Data.func
noncomputable abbrev u28 := @PySem.FuncData.mk
noncomputable abbrev u29 := @PySem.FuncBody.stmts
noncomputable abbrev u30 := @List.nil.{0} (@Prod.{0, 0} (@PySem.Str) (@Nat))
noncomputable abbrev u31 := @Bool.true
noncomputable abbrev u32 := @List.cons.{0} (@Prod.{0, 0} (@Nat) (@PySem.Obj))
noncomputable abbrev u33 := @Prod.mk.{0, 0} (@Nat) (@PySem.Obj)
noncomputable abbrev u34 := @List.nil.{0} (@Prod.{0, 0} (@Nat) (@PySem.Obj))
noncomputable abbrev u35 := @PySem.Heap.mk
noncomputable abbrev u36 := @Array.mk.{0} (@PySem.Obj)
noncomputable abbrev u37 := @List.cons.{0} (@PySem.Obj)
noncomputable abbrev u38 := @List.nil.{0} (@PySem.Obj)
noncomputable abbrev u39 := @PySem.Life.mk
noncomputable abbrev u40 := @List.nil.{0} (@Nat)
noncomputable abbrev u41 := @List.nil.{0} (@Prod.{0, 0} (@Nat) (@Nat))
noncomputable abbrev u42 := @List.toArray.{0} (@Nat)
noncomputable abbrev u43 := @List.cons.{0} (@Int)
noncomputable abbrev u44 := @List.nil.{0} (@Int)
noncomputable abbrev u45 := @PySem.W.BT.node
noncomputable abbrev u46 := @PySem.W.BT.nil
noncomputable abbrev M (c : PySem.Value) (d : PySem.Data) : PySem.Obj := PySem.Obj.mk c none d #[]
noncomputable abbrev E (x : X) (s : PySem.Str) (n : Nat) (v : PySem.Value) : PySem.DictEntry := ⟨PySem.PyData.keyHash x.2 s, .str s n, v⟩
noncomputable abbrev N (o : X->PySem.Obj) (l r : X->PySem.W.BT) : X->PySem.W.BT := fun x => .node (o x) (l x) (r x)
noncomputable abbrev Z : X->PySem.W.BT := fun _ => .nil
noncomputable abbrev Q (o : X->PySem.Obj) (l : X->List PySem.Obj) : X->List PySem.Obj := fun x => o x :: l x
noncomputable abbrev R : X->List PySem.Obj := fun _ => []
noncomputable abbrev J (k : Nat) (o : X->PySem.Obj) (l : X->List (Nat × PySem.Obj)) : X->List (Nat × PySem.Obj) := fun x => (k, o x) :: l x
noncomputable abbrev I : X->List (Nat × PySem.Obj) := fun _ => []
noncomputable def k0 (x : X) : PySem.Obj := (M (u1 (l0 x)) (u3 (u4 u5) 0))
noncomputable def k1 (x : X) (a0 : PySem.Str) (a1 : Nat) (a2 : PySem.Str) (a3 : Nat) : PySem.Obj := (M (u1 (l0 x)) (u3 (u4 [(u11 a0 a1), (u11 a2 a3)]) 0))
noncomputable def k2 (x : X) (a0 : PySem.Str) (a1 : PySem.Stmt) : PySem.Obj := (M u8 (u27 (u28 a0 a0 (f1 a1) (u29 (f2 a1)) (f6 a1) 0 u30 u8 u8 u8 u8 u2 u8 u8 0)))
noncomputable def k3 (x : X) (a0 : PySem.Str) (a1 a2 a3 : Nat) (a4 a5 : Int) (a6 a7 a8 a9 a10 : Nat) (a11 : Int) (a12 : Nat) : PySem.Obj := (M (u1 (l1 x)) (u9 (u4 [(u11 a0 a1), (u11 a0 a2), (u11 (s1 x) a3), (u12 a4 0), (u12 a5 0), (u12 0 0), (u12 0 0), (u12 3 0), (u13 a6), (u14 u31), (u12 181 0), (u13 a7), u8, (u13 a8), (u13 a9), (u13 a10), (u12 a11 0), (u12 a4 0), (u11 (s1 x) a12)])))
noncomputable def k4 (x : X) (a0 : PySem.Str) (a1 : PySem.Stmt) (a2 : PySem.Str) (a3 a4 : Nat) : PySem.Obj := (M (u1 (l5 x)) (u27 (u28 a0 a0 (f1 a1) (u29 (f2 a1)) (f6 a1) 3 u30 u8 u8 u8 (u11 a2 a3) u2 (u13 a4) u8 0)))
noncomputable def k5 (x : X) (a0 : PySem.Str) (a1 a2 a3 : Nat) (a4 a5 : Int) (a6 a7 a8 : Nat) (a9 : Int) (a10 : Nat) : PySem.Obj := (M (u1 (l1 x)) (u9 (u4 [(u11 a0 a1), (u11 a0 a2), (u11 (s1 x) a3), (u12 a4 0), (u12 a5 0), (u12 0 0), (u12 0 0), (u12 3 0), (u13 a6), (u14 u31), (u12 181 0), (u13 a7), u8, u8, u8, (u13 a8), (u12 a9 0), (u12 a4 0), (u11 (s1 x) a10)])))
noncomputable def k6 (x : X) (a0 : PySem.Stmt) : PySem.Obj := (M u8 (u27 (u28 (f0 a0) (f0 a0) (f1 a0) (u29 (f2 a0)) (f6 a0) 0 u30 u8 u8 u8 u8 u2 u8 u8 0)))
noncomputable def k7 (x : X) (a0 : PySem.Stmt) (a1 : PySem.Str) (a2 a3 : Nat) : PySem.Obj := (M (u1 (l5 x)) (u27 (u28 (f0 a0) (f0 a0) (f1 a0) (u29 (f2 a0)) (f6 a0) 3 u30 u8 u8 u8 (u11 a1 a2) u2 (u13 a3) u8 0)))
variable (x : X)
noncomputable def o43 := k0 x 
noncomputable def o44 (x : X) : Obj := (M u8 (u9 (u4 u5)))
noncomputable def o45 := (M (u1 (l1 x)) (u9 (u4 [(u11 (s0 x) 182), (u11 (s0 x) 183), (u11 (s1 x) 184), (u12 1 0), (u12 0 0), (u12 0 0), (u12 0 0), (u12 0 0), (u13 11), (u14 u15), (u12 181 0), (u13 12), u8, u8, u8, u8, (u12 185 0), (u12 1 0), (u11 (s1 x) 186)])))
noncomputable def o46 := (u0 (u1 (l2 x)) u2 u16 (u6 [(u18 (u13 13)), (u18 (u13 3)), (u18 (u13 3)), u19, (u18 (u11 (s2 x) 164)), u19, (u18 (u13 0))]))
noncomputable def o49 := (M (u1 (l3 x)) (u20 (u21 [(E x (s3 x) 165 (u11 (s4 x) 234)), (E x (s5 x) 166 u8), (E x (s6 x) 167 u8), (E x (s7 x) 168 (u25 (l4 x))), (E x (s8 x) 169 u8), (E x (s9 x) 170 (u13 6)), (E x (s10 x) 171 (u13 4)), (E x (s11 x) 173 (u11 (s1 x) 172)), (E x (s12 x) 174 u8), (E x (s13 x) 196 (u13 21)), (E x (s14 x) 204 (u13 28)), (E x (s15 x) 212 (u13 33)), (E x (s16 x) 218 (u13 38)), (E x (s17 x) 227 (u13 45)), (E x (s18 x) 233 (u13 50)), (E x (s19 x) 243 (u13 57)), (E x (s20 x) 250 (u13 64)), (E x (s21 x) 261 (u13 71)), (E x (s22 x) 267 (u13 76)), (E x (s23 x) 284 (u13 83)), (E x (s24 x) 298 (u13 90))]) 21))
noncomputable def o50 (x : X) : Obj := (M u8 (u9 (u4 [(u12 2 0), (u12 0 0), (u13 20), (u12 4 0), (u12 0 0), (u13 27), (u12 7 0), (u12 0 0), (u13 32), (u12 18 0), (u12 0 0), (u13 37), (u12 21 0), (u12 0 0), (u13 44), (u12 26 0), (u12 0 0), (u13 49), (u12 37 0), (u12 0 0), (u13 56), (u12 41 0), (u12 0 0), (u13 63), (u12 43 0), (u12 0 0), (u13 70), (u12 50 0), (u12 0 0), (u13 75), (u12 57 0), (u12 0 0), (u13 82), (u12 78 0), (u12 0 0), (u13 89)])))
noncomputable def o51 := k0 x 
noncomputable def o52 (x : X) : Obj := (M u8 (u9 (u4 u5)))
noncomputable def o53 := k1 x (s25 x) 192 (s26 x) 193
noncomputable def o54 := k0 x 
noncomputable def o55 := k2 x (s13 x) (st x 1)
noncomputable def o56 := k3 x (s13 x) 189 190 191 2 2 15 16 17 18 19 194 195
noncomputable def o57 := k4 x (s13 x) (st x 1) (s27 x) 187 20
noncomputable def o58 := k0 x 
noncomputable def o59 (x : X) : Obj := (M u8 (u9 (u4 u5)))
noncomputable def o60 := k1 x (s28 x) 200 (s29 x) 201
noncomputable def o61 := k0 x 
noncomputable def o62 := k2 x (s14 x) (st x 2)
noncomputable def o63 := k3 x (s14 x) 197 198 199 4 2 22 23 24 25 26 202 203
noncomputable def o64 := k4 x (s14 x) (st x 2) (s27 x) 187 27
noncomputable def o65 := k0 x 
noncomputable def o66 (x : X) : Obj := (M u8 (u9 (u4 u5)))
noncomputable def o67 := k2 x (s15 x) (st x 4)
noncomputable def o68 := k5 x (s15 x) 207 208 209 7 3 29 30 31 210 211
noncomputable def o69 := k4 x (s15 x) (st x 4) (s30 x) 205 32
noncomputable def o70 := k0 x 
noncomputable def o71 (x : X) : Obj := (M u8 (u9 (u4 u5)))
noncomputable def o72 := k2 x (s16 x) (st x 5)
noncomputable def o73 := k5 x (s16 x) 213 214 215 18 1 34 35 36 216 217
noncomputable def o74 := k4 x (s16 x) (st x 5) (s30 x) 205 37
noncomputable def o75 := k0 x 
noncomputable def o76 (x : X) : Obj := (M u8 (u9 (u4 u5)))
noncomputable def o77 := (M (u1 (l0 x)) (u3 (u4 [(u11 (s25 x) 222), (u11 (s29 x) 223), (u11 (s26 x) 224)]) 0))
noncomputable def o78 := k0 x 
noncomputable def o79 := k2 x (s17 x) (st x 6)
noncomputable def o80 := k3 x (s17 x) 219 220 221 21 2 39 40 41 42 43 225 226
noncomputable def o81 := k4 x (s17 x) (st x 6) (s30 x) 205 44
noncomputable def o82 := k0 x 
noncomputable def o83 (x : X) : Obj := (M u8 (u9 (u4 u5)))
noncomputable def o84 := k6 x (st x 7)
noncomputable def o85 := k5 x (s18 x) 228 229 230 26 3 46 47 48 231 232
noncomputable def o86 := k7 x (st x 7) (s30 x) 205 49
noncomputable def o87 := k0 x 
noncomputable def o88 (x : X) : Obj := (M u8 (u9 (u4 u5)))
noncomputable def o89 := k1 x (s31 x) 239 (s32 x) 240
noncomputable def o90 := k0 x 
noncomputable def o91 := k6 x (st x 9)
noncomputable def o92 := k3 x (s19 x) 236 237 238 37 2 51 52 53 54 55 241 242
noncomputable def o93 := k7 x (st x 9) (s4 x) 234 56
noncomputable def o94 := k0 x 
noncomputable def o95 (x : X) : Obj := (M u8 (u9 (u4 u5)))
noncomputable def o96 := (M (u1 (l0 x)) (u3 (u4 [(u11 (s33 x) 247)]) 0))
noncomputable def o97 := k0 x 
noncomputable def o98 := k2 x (s20 x) (st x 10)
noncomputable def o99 := k3 x (s20 x) 244 245 246 41 1 58 59 60 61 62 248 249
noncomputable def o100 := k4 x (s20 x) (st x 10) (s4 x) 234 63
noncomputable def o101 := k0 x 
noncomputable def o102 (x : X) : Obj := (M u8 (u9 (u4 u5)))
noncomputable def o103 := (M (u1 (l0 x)) (u3 (u4 [(u11 (s34 x) 254), (u11 (s35 x) 255), (u11 (s33 x) 256), (u11 (s36 x) 257), (u11 (s32 x) 258)]) 0))
noncomputable def o104 := k0 x 
noncomputable def o105 := k2 x (s21 x) (st x 11)
noncomputable def o106 := k3 x (s21 x) 251 252 253 43 2 65 66 67 68 69 259 260
noncomputable def o107 := k4 x (s21 x) (st x 11) (s4 x) 234 70
noncomputable def o108 := k0 x 
noncomputable def o109 (x : X) : Obj := (M u8 (u9 (u4 u5)))
noncomputable def o110 := k2 x (s22 x) (st x 12)
noncomputable def o111 := k5 x (s22 x) 262 263 264 50 1 72 73 74 265 266
noncomputable def o112 := k4 x (s22 x) (st x 12) (s4 x) 234 75
noncomputable def o113 := k0 x 
noncomputable def o114 (x : X) : Obj := (M u8 (u9 (u4 u5)))
noncomputable def o115 := (M (u1 (l0 x)) (u3 (u4 [(u11 (s34 x) 271), (u11 (s36 x) 272), (u11 (s37 x) 273), (u11 (s38 x) 274), (u11 (s39 x) 275), (u11 (s35 x) 276), (u11 (s40 x) 277), (u11 (s41 x) 278), (u11 (s42 x) 279), (u11 (s43 x) 280), (u11 (s44 x) 281)]) 0))
noncomputable def o116 := k0 x 
noncomputable def o117 := k2 x (s23 x) (st x 13)
noncomputable def o118 := k3 x (s23 x) 268 269 270 57 4 77 78 79 80 81 282 283
noncomputable def o119 := k4 x (s23 x) (st x 13) (s4 x) 234 82
noncomputable def o120 := k0 x 
noncomputable def o121 (x : X) : Obj := (M u8 (u9 (u4 u5)))
noncomputable def o122 := (M (u1 (l0 x)) (u3 (u4 [(u11 (s31 x) 288), (u11 (s45 x) 289), (u11 (s38 x) 290), (u11 (s37 x) 291), (u11 (s46 x) 292), (u11 (s47 x) 293), (u11 (s48 x) 294), (u11 (s32 x) 295)]) 0))
noncomputable def o123 := k0 x 
noncomputable def o124 := k2 x (s24 x) (st x 14)
noncomputable def o125 := k3 x (s24 x) 285 286 287 78 2 84 85 86 87 88 296 297
noncomputable def o126 := k4 x (s24 x) (st x 14) (s4 x) 234 89
noncomputable def o127 := (M (u1 (l3 x)) (u20 (u21 [(E x (s3 x) 165 (u11 (s4 x) 234)), (E x (s5 x) 166 u8), (E x (s6 x) 167 u8), (E x (s7 x) 168 (u25 (l4 x))), (E x (s8 x) 169 u8), (E x (s9 x) 170 (u13 6)), (E x (s10 x) 171 (u13 4)), (E x (s11 x) 173 (u11 (s1 x) 172)), (E x (s12 x) 174 u8), (E x (s13 x) 196 (u13 21)), (E x (s14 x) 204 (u13 28)), (E x (s15 x) 212 (u13 33)), (E x (s16 x) 218 (u13 38)), (E x (s17 x) 227 (u13 45)), (E x (s18 x) 233 (u13 50)), (E x (s19 x) 243 (u13 57)), (E x (s20 x) 250 (u13 64)), (E x (s21 x) 261 (u13 71)), (E x (s22 x) 267 (u13 76)), (E x (s23 x) 284 (u13 83)), (E x (s24 x) 298 (u13 90)), (E x (s49 x) 306 (u13 97)), (E x (s50 x) 317 (u13 104)), (E x (s51 x) 329 (u13 111)), (E x (s52 x) 335 (u13 116)), (E x (s53 x) 343 (u13 123)), (E x (s54 x) 356 (u13 130)), (E x (s55 x) 365 (u13 137)), (E x (s56 x) 371 (u13 142)), (E x (s57 x) 377 (u13 147)), (E x (s58 x) 394 (u13 154))]) 31))
noncomputable def o128 (x : X) : Obj := (M u8 (u9 (u4 (u10 (u12 2 0) (u10 (u12 0 0) (u10 (u13 20) (u10 (u12 4 0) (u10 (u12 0 0) (u10 (u13 27) (u10 (u12 7 0) (u10 (u12 0 0) (u10 (u13 32) (u10 (u12 18 0) (u10 (u12 0 0) (u10 (u13 37) (u10 (u12 21 0) (u10 (u12 0 0) (u10 (u13 44) (u10 (u12 26 0) (u10 (u12 0 0) (u10 (u13 49) (u10 (u12 37 0) (u10 (u12 0 0) (u10 (u13 56) (u10 (u12 41 0) (u10 (u12 0 0) (u10 (u13 63) (u10 (u12 43 0) (u10 (u12 0 0) [(u13 70), (u12 50 0), (u12 0 0), (u13 75), (u12 57 0), (u12 0 0), (u13 82), (u12 78 0), (u12 0 0), (u13 89), (u12 89 0), (u12 0 0), (u13 96), (u12 91 0), (u12 0 0), (u13 103), (u12 103 0), (u12 0 0), (u13 110), (u12 114 0), (u12 0 0), (u13 115), (u12 127 0), (u12 0 0), (u13 122), (u12 129 0), (u12 0 0), (u13 129), (u12 147 0), (u12 0 0), (u13 136), (u12 154 0), (u12 0 0), (u13 141), (u12 176 0), (u12 0 0), (u13 146), (u12 202 0), (u12 0 0), (u13 153)])))))))))))))))))))))))))))))
noncomputable def o129 := k0 x 
noncomputable def o130 (x : X) : Obj := (M u8 (u9 (u4 u5)))
noncomputable def o131 := k1 x (s59 x) 302 (s60 x) 303
noncomputable def o132 := k0 x 
noncomputable def o133 := k6 x (st x 15)
noncomputable def o134 := k3 x (s49 x) 299 300 301 89 2 91 92 93 94 95 304 305
noncomputable def o135 := k7 x (st x 15) (s4 x) 234 96
noncomputable def o136 := k0 x 
noncomputable def o137 (x : X) : Obj := (M u8 (u9 (u4 u5)))
noncomputable def o138 := (M (u1 (l0 x)) (u3 (u4 [(u11 (s48 x) 310), (u11 (s61 x) 311), (u11 (s62 x) 312), (u11 (s60 x) 313), (u11 (s63 x) 314)]) 0))
noncomputable def o139 := k0 x 
noncomputable def o140 := k2 x (s50 x) (st x 16)
noncomputable def o141 := k3 x (s50 x) 307 308 309 91 1 98 99 100 101 102 315 316
noncomputable def o142 := k4 x (s50 x) (st x 16) (s4 x) 234 103
noncomputable def o143 := k0 x 
noncomputable def o144 (x : X) : Obj := (M u8 (u9 (u4 u5)))
noncomputable def o145 := (M (u1 (l0 x)) (u3 (u4 [(u11 (s48 x) 321), (u11 (s61 x) 322), (u11 (s64 x) 323), (u11 (s65 x) 324), (u11 (s66 x) 325), (u11 (s60 x) 326)]) 0))
noncomputable def o146 := k0 x 
noncomputable def o147 := k2 x (s51 x) (st x 17)
noncomputable def o148 := k3 x (s51 x) 318 319 320 103 3 105 106 107 108 109 327 328
noncomputable def o149 := k4 x (s51 x) (st x 17) (s4 x) 234 110
noncomputable def o150 := k0 x 
noncomputable def o151 (x : X) : Obj := (M u8 (u9 (u4 u5)))
noncomputable def o152 := k2 x (s52 x) (st x 18)
noncomputable def o153 := k5 x (s52 x) 330 331 332 114 2 112 113 114 333 334
noncomputable def o154 := k4 x (s52 x) (st x 18) (s4 x) 234 115
noncomputable def o155 := k0 x 
noncomputable def o156 (x : X) : Obj := (M u8 (u9 (u4 u5)))
noncomputable def o157 := k1 x (s59 x) 339 (s36 x) 340
noncomputable def o158 := k0 x 
noncomputable def o159 := k2 x (s53 x) (st x 19)
noncomputable def o160 := k3 x (s53 x) 336 337 338 127 2 117 118 119 120 121 341 342
noncomputable def o161 := k4 x (s53 x) (st x 19) (s4 x) 234 122
noncomputable def o162 := k0 x 
noncomputable def o163 (x : X) : Obj := (M u8 (u9 (u4 u5)))
noncomputable def o164 := (M (u1 (l0 x)) (u3 (u4 [(u11 (s37 x) 347), (u11 (s61 x) 348), (u11 (s38 x) 349), (u11 (s67 x) 350), (u11 (s40 x) 351), (u11 (s68 x) 352), (u11 (s64 x) 353)]) 0))
noncomputable def o165 := k0 x 
noncomputable def o166 := k6 x (st x 20)
noncomputable def o167 := k3 x (s54 x) 344 345 346 129 3 124 125 126 127 128 354 355
noncomputable def o168 := k7 x (st x 20) (s4 x) 234 129
noncomputable def o169 := k0 x 
noncomputable def o170 (x : X) : Obj := (M u8 (u9 (u4 u5)))
noncomputable def o171 := (M (u1 (l0 x)) (u3 (u4 [(u11 (s69 x) 360), (u11 (s38 x) 361), (u11 (s40 x) 362)]) 0))
noncomputable def o172 := k0 x 
noncomputable def o173 := k6 x (st x 21)
noncomputable def o174 := k3 x (s55 x) 357 358 359 147 2 131 132 133 134 135 363 364
noncomputable def o175 := k7 x (st x 21) (s4 x) 234 136
noncomputable def o176 := k0 x 
noncomputable def o177 (x : X) : Obj := (M u8 (u9 (u4 u5)))
noncomputable def o178 := k2 x (s56 x) (st x 22)
noncomputable def o179 := k5 x (s56 x) 366 367 368 154 4 138 139 140 369 370
noncomputable def o180 := k4 x (s56 x) (st x 22) (s4 x) 234 141
noncomputable def o181 := k0 x 
noncomputable def o182 (x : X) : Obj := (M u8 (u9 (u4 u5)))
noncomputable def o183 := k2 x (s57 x) (st x 23)
noncomputable def o184 := k5 x (s57 x) 372 373 374 176 4 143 144 145 375 376
noncomputable def o185 := k4 x (s57 x) (st x 23) (s4 x) 234 146
noncomputable def o186 := k0 x 
noncomputable def o187 (x : X) : Obj := (M u8 (u9 (u4 u5)))
noncomputable def o188 := (M (u1 (l0 x)) (u3 (u4 [(u11 (s31 x) 381), (u11 (s37 x) 382), (u11 (s48 x) 383), (u11 (s61 x) 384), (u11 (s32 x) 385), (u11 (s38 x) 386), (u11 (s64 x) 387), (u11 (s65 x) 388), (u11 (s69 x) 389), (u11 (s70 x) 390), (u11 (s33 x) 391)]) 0))
noncomputable def o189 := k0 x 
noncomputable def o190 := k2 x (s58 x) (st x 24)
noncomputable def o191 := k3 x (s58 x) 378 379 380 202 1 148 149 150 151 152 392 393
noncomputable def o192 := k4 x (s58 x) (st x 24) (s4 x) 234 153
noncomputable def q1 (x : X) : PySem.Obj := (M u8 (u20 (u21 u26) 0))
noncomputable def heap39 : X->PySem.W.Frag := (J 2 q1 (J 3 o127 (J 15 o189 (J 17 o53 (J 18 o189 (J 20 o56 (J 21 o57 (J 22 o189 (J 24 o60 (J 25 o189 (J 27 o63 (J 28 o64 (J 29 o189 (J 32 o68 (J 33 o69 (J 34 o189 (J 37 o73 (J 38 o74 (J 39 o189 (J 41 o77 (J 42 o189 (J 44 o80 (J 45 o81 (J 46 o189 (J 49 o85 (J 50 o86 (J 51 o189 (J 53 o89 (J 54 o189 (J 56 o92 (J 57 o93 (J 65 o189 (J 67 o103 (J 68 o189 (J 70 o106 (J 71 o107 (J 72 o189 (J 75 o111 (J 76 o112 (J 77 o189 (J 79 o115 (J 80 o189 (J 82 o118 (J 83 o119 (J 84 o189 (J 86 o122 (J 87 o189 (J 89 o125 (J 90 o126 (J 91 o189 (J 93 o131 (J 94 o189 (J 96 o134 (J 97 o135 (J 98 o189 (J 100 o138 (J 101 o189 (J 103 o141 (J 104 o142 (J 105 o189 (J 107 o145 (J 108 o189 (J 110 o148 (J 111 o149 (J 112 o189 (J 115 o153 (J 116 o154 (J 117 o189 (J 119 o157 (J 120 o189 (J 122 o160 (J 123 o161 (J 124 o189 (J 126 o164 (J 127 o189 (J 129 o167 (J 130 o168 (J 131 o189 (J 133 o171 (J 134 o189 (J 136 o174 (J 137 o175 (J 138 o189 (J 141 o179 (J 142 o180 (J 143 o189 (J 146 o184 (J 147 o185 (J 148 o189 (J 150 o188 (J 151 o189 (J 153 o191 (J 154 o192 I)))))))))))))))))))))))))))))))))))))))))))))))))))))))))))))))))))))))))))))))))))))))))))))
noncomputable def heap46 : X->PySem.Heap := fun x => u35 (u36 ((Q b0 (Q b1 (Q b2 (Q b3 (Q b4 (Q b5 (Q b6 (Q b7 (Q b8 (Q b9 (Q b10 (Q o43 (Q o44 (Q o45 (Q o46 R))))))))))))))) x)) (u39 u40 u40 u40 0 u41 u40 u15 (u42 u40) u40 0 u15 u15 u15 0 [2000, 10, 10] u15 0 u31 u40 u40 0 u15)
noncomputable def tree47 : X->PySem.W.BT := (N b0 (N b1 (N b3 (N b7 Z Z) (N o43 Z Z)) (N b5 (N b9 Z Z) (N o45 Z Z))) (N b2 (N b4 (N b8 Z Z) (N o44 Z Z)) (N b6 (N b10 Z Z) (N o46 Z Z))))
noncomputable def tree126 : X->PySem.W.BT := (N b0 (N b1 (N o49 (N b7 (N o51 (N o67 (N o99 Z Z) Z) (N o83 (N o115 Z Z) Z)) (N o59 (N o75 (N o107 Z Z) Z) (N o91 (N o123 Z Z) Z))) (N o43 (N o55 (N o71 (N o103 Z Z) Z) (N o87 (N o119 Z Z) Z)) (N o63 (N o79 (N o111 Z Z) Z) (N o95 Z Z)))) (N b5 (N b9 (N o53 (N o69 (N o101 Z Z) Z) (N o85 (N o117 Z Z) Z)) (N o61 (N o77 (N o109 Z Z) Z) (N o93 (N o125 Z Z) Z))) (N o45 (N o57 (N o73 (N o105 Z Z) Z) (N o89 (N o121 Z Z) Z)) (N o65 (N o81 (N o113 Z Z) Z) (N o97 Z Z))))) (N b2 (N b4 (N b8 (N o52 (N o68 (N o100 Z Z) Z) (N o84 (N o116 Z Z) Z)) (N o60 (N o76 (N o108 Z Z) Z) (N o92 (N o124 Z Z) Z))) (N o50 (N o56 (N o72 (N o104 Z Z) Z) (N o88 (N o120 Z Z) Z)) (N o64 (N o80 (N o112 Z Z) Z) (N o96 Z Z)))) (N b6 (N b10 (N o54 (N o70 (N o102 Z Z) Z) (N o86 (N o118 Z Z) Z)) (N o62 (N o78 (N o110 Z Z) Z) (N o94 (N o126 Z Z) Z))) (N o46 (N o58 (N o74 (N o106 Z Z) Z) (N o90 (N o122 Z Z) Z)) (N o66 (N o82 (N o114 Z Z) Z) (N o98 Z Z))))))
noncomputable def tree192 : X->PySem.W.BT := (N b0 (N b1 (N o127 (N b7 (N o51 (N o67 (N o99 (N o165 Z Z) Z) (N o133 Z Z)) (N o83 (N o115 (N o181 Z Z) Z) (N o149 Z Z))) (N o59 (N o75 (N o107 (N o173 Z Z) Z) (N o141 Z Z)) (N o91 (N o123 (N o189 Z Z) Z) (N o157 Z Z)))) (N o43 (N o55 (N o71 (N o103 (N o169 Z Z) Z) (N o137 Z Z)) (N o87 (N o119 (N o185 Z Z) Z) (N o153 Z Z))) (N o63 (N o79 (N o111 (N o177 Z Z) Z) (N o145 Z Z)) (N o95 (N o129 Z Z) (N o161 Z Z))))) (N b5 (N b9 (N o53 (N o69 (N o101 (N o167 Z Z) Z) (N o135 Z Z)) (N o85 (N o117 (N o183 Z Z) Z) (N o151 Z Z))) (N o61 (N o77 (N o109 (N o175 Z Z) Z) (N o143 Z Z)) (N o93 (N o125 (N o191 Z Z) Z) (N o159 Z Z)))) (N o45 (N o57 (N o73 (N o105 (N o171 Z Z) Z) (N o139 Z Z)) (N o89 (N o121 (N o187 Z Z) Z) (N o155 Z Z))) (N o65 (N o81 (N o113 (N o179 Z Z) Z) (N o147 Z Z)) (N o97 (N o131 Z Z) (N o163 Z Z)))))) (N b2 (N b4 (N b8 (N o52 (N o68 (N o100 (N o166 Z Z) Z) (N o134 Z Z)) (N o84 (N o116 (N o182 Z Z) Z) (N o150 Z Z))) (N o60 (N o76 (N o108 (N o174 Z Z) Z) (N o142 Z Z)) (N o92 (N o124 (N o190 Z Z) Z) (N o158 Z Z)))) (N o128 (N o56 (N o72 (N o104 (N o170 Z Z) Z) (N o138 Z Z)) (N o88 (N o120 (N o186 Z Z) Z) (N o154 Z Z))) (N o64 (N o80 (N o112 (N o178 Z Z) Z) (N o146 Z Z)) (N o96 (N o130 Z Z) (N o162 Z Z))))) (N b6 (N b10 (N o54 (N o70 (N o102 (N o168 Z Z) Z) (N o136 Z Z)) (N o86 (N o118 (N o184 Z Z) Z) (N o152 Z Z))) (N o62 (N o78 (N o110 (N o176 Z Z) Z) (N o144 Z Z)) (N o94 (N o126 (N o192 Z Z) Z) (N o160 Z Z)))) (N o46 (N o58 (N o74 (N o106 (N o172 Z Z) Z) (N o140 Z Z)) (N o90 (N o122 (N o188 Z Z) Z) (N o156 Z Z))) (N o66 (N o82 (N o114 (N o180 Z Z) Z) (N o148 Z Z)) (N o98 (N o132 Z Z) (N o164 Z Z)))))))
noncomputable def heap193 : X->PySem.Heap := fun x => u35 (u36 ((Q b0 (Q b1 (Q b2 (Q o127 (Q b4 (Q b5 (Q b6 (Q b7 (Q b8 (Q b9 (Q b10 (Q o43 (Q o128 (Q o45 (Q o46 (Q o51 (Q o52 (Q o53 (Q o54 (Q o55 (Q o56 (Q o57 (Q o58 (Q o59 (Q o60 (Q o61 (Q o62 (Q o63 (Q o64 (Q o65 (Q o66 (Q o67 (Q o68 (Q o69 (Q o70 (Q o71 (Q o72 (Q o73 (Q o74 (Q o75 (Q o76 (Q o77 (Q o78 (Q o79 (Q o80 (Q o81 (Q o82 (Q o83 (Q o84 (Q o85 (Q o86 (Q o87 (Q o88 (Q o89 (Q o90 (Q o91 (Q o92 (Q o93 (Q o94 (Q o95 (Q o96 (Q o97 (Q o98 (Q o99 (Q o100 (Q o101 (Q o102 (Q o103 (Q o104 (Q o105 (Q o106 (Q o107 (Q o108 (Q o109 (Q o110 (Q o111 (Q o112 (Q o113 (Q o114 (Q o115 (Q o116 (Q o117 (Q o118 (Q o119 (Q o120 (Q o121 (Q o122 (Q o123 (Q o124 (Q o125 (Q o126 (Q o129 (Q o130 (Q o131 (Q o132 (Q o133 (Q o134 (Q o135 (Q o136 (Q o137 (Q o138 (Q o139 (Q o140 (Q o141 (Q o142 (Q o143 (Q o144 (Q o145 (Q o146 (Q o147 (Q o148 (Q o149 (Q o150 (Q o151 (Q o152 (Q o153 (Q o154 (Q o155 (Q o156 (Q o157 (Q o158 (Q o159 (Q o160 (Q o161 (Q o162 (Q o163 (Q o164 (Q o165 (Q o166 (Q o167 (Q o168 (Q o169 (Q o170 (Q o171 (Q o172 (Q o173 (Q o174 (Q o175 (Q o176 (Q o177 (Q o178 (Q o179 (Q o180 (Q o181 (Q o182 (Q o183 (Q o184 (Q o185 (Q o186 (Q o187 (Q o188 (Q o189 (Q o190 (Q o191 (Q o192 R))))))))))))))))))))))))))))))))))))))))))))))))))))))))))))))))))))))))))))))))))))))))))))))))))))))))))))))))))))))))))))))))))))))))))))))))))))))))))) x)) (u39 u40 u40 u40 0 u41 u40 u15 (u42 u40) u40 0 u15 u15 u15 0 [2000, 10, 10] u15 0 u31 u40 u40 0 u15)
end Hd
noncomputable def PySem.W.Fast.tw11401636851445662727 : PySem.Params->PySem.W.Frag := fun P => Hd.heap39 (PySem.W.Fast.tw13745409909519247493, P)
theorem PySem.W.Fast.te11401636851445662727 : (fun P => Hd.heap39 (Hd.hs, P)) = PySem.W.Fast.tw11401636851445662727 := congrArg (fun σ P => Hd.heap39 (σ, P)) PySem.W.Fast.te13745409909519247493
noncomputable def PySem.W.Fast.tw2982957430591638511 : PySem.Params->PySem.Heap := fun P => Hd.heap46 (PySem.W.Fast.tw13745409909519247493, P)
theorem PySem.W.Fast.te2982957430591638511 : (fun P => Hd.heap46 (Hd.hs, P)) = PySem.W.Fast.tw2982957430591638511 := congrArg (fun σ P => Hd.heap46 (σ, P)) PySem.W.Fast.te13745409909519247493
noncomputable def PySem.W.Fast.tw2647597866733695485 : PySem.Params->PySem.W.BT := fun P => Hd.tree47 (PySem.W.Fast.tw13745409909519247493, P)
theorem PySem.W.Fast.te2647597866733695485 : (fun P => Hd.tree47 (Hd.hs, P)) = PySem.W.Fast.tw2647597866733695485 := congrArg (fun σ P => Hd.tree47 (σ, P)) PySem.W.Fast.te13745409909519247493
noncomputable def PySem.W.Fast.tw15621039713467807349 : PySem.Params->PySem.W.BT := fun P => Hd.tree126 (PySem.W.Fast.tw13745409909519247493, P)
theorem PySem.W.Fast.te15621039713467807349 : (fun P => Hd.tree126 (Hd.hs, P)) = PySem.W.Fast.tw15621039713467807349 := congrArg (fun σ P => Hd.tree126 (σ, P)) PySem.W.Fast.te13745409909519247493
noncomputable def PySem.W.Fast.tw7468667051458801513 : PySem.Params->PySem.W.BT := fun P => Hd.tree192 (PySem.W.Fast.tw13745409909519247493, P)
theorem PySem.W.Fast.te7468667051458801513 : (fun P => Hd.tree192 (Hd.hs, P)) = PySem.W.Fast.tw7468667051458801513 := congrArg (fun σ P => Hd.tree192 (σ, P)) PySem.W.Fast.te13745409909519247493
noncomputable def PySem.W.Fast.tw14252468010244031221 : PySem.Params->PySem.Heap := fun P => Hd.heap193 (PySem.W.Fast.tw13745409909519247493, P)
theorem PySem.W.Fast.te14252468010244031221 : (fun P => Hd.heap193 (Hd.hs, P)) = PySem.W.Fast.tw14252468010244031221 := congrArg (fun σ P => Hd.heap193 (σ, P)) PySem.W.Fast.te13745409909519247493
set_option maxRecDepth 100000 in
set_option maxHeartbeats 0 in
theorem PySem.Challenge.cw_keepsakes_k37_papers_by_the_points_holds : PySem.Challenge.rw_keepsakes_k37_papers_by_the_points.Holds := by
  w_on; o_law; k_head; (case hw => w_witness2)
  k_fill
  refine Mine.walk (l := PySem.Challenge.rw_keepsakes_k37_papers_by_the_points) rfl rfl (fun w h Y => PySem.W.kIn_of Y) ?F
  case F =>
    intro w mg fa h KX G hmg
    refine' Mine.all_mk KX G hmg ?a0 ?l0 ?c0 ?k0 ?a1 ?l1 ?c1 ?k1 ?a2 ?l2 ?c2 ?k2 ?a3 ?l3 ?c3 ?k3 ?a4 ?l4 ?c4 ?k4 ?a5 ?l5 ?c5 ?k5 ?a6 ?l6 ?c6 ?k6 ?a7 ?l7 ?c7 ?k7 ?a8 ?l8 ?c8 ?k8 ?a9 ?l9 ?c9 ?k9 ?a10 ?l10 ?c10 ?k10 ?a11 ?l11 ?c11 ?k11 ?a12 ?l12 ?c12 ?k12 ?a13 ?l13 ?c13 ?k13 ?a14 ?l14 ?c14 ?k14 ?a15 ?l15 ?c15 ?k15 ?a16 ?l16 ?c16 ?k16 ?a17 ?l17 ?c17 ?k17 ?a18 ?l18 ?c18 ?k18 ?a19 ?l19 ?c19 ?k19 ?a20 ?l20 ?c20 ?k20 ?z_len ?z_list ?z_tuple ?z_dict ?z_range ?z_sorted ?z_set ?z_all ?z_enumerate ?z_isinstance ?z_int ?z_bool ?z_max
    case a0 | l0 | c0 | k0 | a1 | l1 | c1 | k1 | a2 | l2 | c2 | k2 | a3 | l3 | c3 | k3 | a4 | l4 | c4 | k4 | a5 | l5 | c5 | k5 | a6 | l6 | c6 | k6 | a7 | l7 | c7 | k7 | a8 | l8 | c8 | k8 | a9 | l9 | c9 | k9 | a10 | l10 | c10 | k10 | a11 | l11 | c11 | k11 | a12 | l12 | c12 | k12 | a13 | l13 | c13 | k13 | a14 | l14 | c14 | k14 | a15 | l15 | c15 | k15 | a16 | l16 | c16 | k16 | a17 | l17 | c17 | k17 | a18 | l18 | c18 | k18 | a19 | l19 | c19 | k19 | a20 | l20 | c20 | k20 | z_len | z_list | z_tuple | z_dict | z_range | z_sorted | z_set | z_all | z_enumerate | z_isinstance | z_int | z_bool | z_max => first | k_is | kit_is | kernel_rfl
