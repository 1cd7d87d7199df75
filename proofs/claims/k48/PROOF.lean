import PyProof.Rows.All
import Wide.All
import OpenK.AllK
import Wide.FinOn
import Lean
import PyProof.EqAt
import PyProof.EqKinds
import PyProof.TupleCall
import PyProof.AttrMissHeap
import PyProof.DictWalks
import KE.KDictObj
import KE.KEqDict
import KE.KUnpack
import PyProof.Rows.SetFrom
import KE.KRevIter
import KE.KDictSum
import KE.KFmtOwn
import PyProof.FactsAll.set_1
import PyProof.FactsAll.set_2
import PyProof.FactsAll.tuple_1
import PyProof.FactsAll.tuple_2
import KE.KSortTup
import PyProof.SetRoads
import PySem.Challenge.RW_keepsakes_k48_whole_needed_legs
set_option Elab.async false
set_option linter.all false
set_option maxRecDepth 100000
namespace L2
open PySem PySem.Spec PyProof.Rows
abbrev Key := Sum Int Str
def keyIs : Key->Value->Bool
  | .inl k, v => Value.isInt k v
  | .inr x, v => Value.isStrOf x v
def keyH (w : World) : Key->Int
  | .inl k => hashInt k
  | .inr x => hashStr w x
theorem keyIs_shape : ∀ {k : Key} {v : Value}, keyIs k v = true->(∃ i t, k = Sum.inl i /\ v = Value.int i t) ∨ (∃ x t, k = Sum.inr x /\ v = Value.str x t)
  | .inl i, v, h => by
    obtain ⟨t, e⟩ := Value.isInt_shape (k := i) (v := v) h
    exact .inl ⟨i, t, rfl, e⟩
  | .inr x, v, h => by
    obtain ⟨t, e⟩ := Value.isStrOf_shape (x := x) (v := v) h
    exact .inr ⟨x, t, rfl, e⟩
theorem keyIs_int (i : Int) (t : Tok) : keyIs (.inl i) (.int i t) = true := by simp [keyIs, Value.isInt]
theorem keyIs_str (x : Str) (t : Tok) : keyIs (.inr x) (.str x t) = true := by simp [keyIs, Value.isStrOf]
theorem key_ll (a b : Int) : decide ((Sum.inl a : Key) = Sum.inl b) = (a == b) := by
  by_cases e : a = b
  · subst e; simp
  · have h : ¬ (Sum.inl a : Key) = Sum.inl b := fun q => e (Sum.inl.inj q)
    rw [decide_eq_false h]
    exact (beq_eq_false_iff_ne.mpr e).symm
theorem key_rr (a b : Str) : decide ((Sum.inr a : Key) = Sum.inr b) = decide (a = b) := by
  by_cases e : a = b
  · subst e; simp
  · have h : ¬ (Sum.inr a : Key) = Sum.inr b := fun q => e (Sum.inr.inj q)
    rw [decide_eq_false h, decide_eq_false e]
theorem key_lr (a : Int) (b : Str) : decide ((Sum.inl a : Key) = Sum.inr b) = false := decide_eq_false (fun q => nomatch q)
theorem key_rl (a : Str) (b : Int) : decide ((Sum.inr a : Key) = Sum.inl b) = false := decide_eq_false (fun q => nomatch q)
def mixKind (prog : Program) (w : World) : PySem.KeyKind prog w Key where
  is := keyIs
  hash := keyH w
  inj := fun v a b ha hb => by
    rcases keyIs_shape ha with ⟨i, t, rfl, rfl⟩ | ⟨x, t, rfl, rfl⟩
    · rcases keyIs_shape hb with ⟨j, u, rfl, e⟩ | ⟨y, u, rfl, e⟩
      · injection e with e1 _; rw [e1]
      · exact nomatch e
    · rcases keyIs_shape hb with ⟨j, u, rfl, e⟩ | ⟨y, u, rfl, e⟩
      · exact nomatch e
      · injection e with e1 _; rw [e1]
  byValue := fun k v h => by
    rcases keyIs_shape h with ⟨i, t, rfl, rfl⟩ | ⟨x, t, rfl, rfl⟩ <;> rfl
  pyHash := fun hv h => by
    rcases keyIs_shape hv with ⟨i, t, rfl, rfl⟩ | ⟨x, t, rfl, rfl⟩
    · exact wpAny_pyHash_int h
    · exact wpAny_pyHash_str h
  eqBool := fun hu hv h => by
    rcases keyIs_shape hu with ⟨i, t, rfl, rfl⟩ | ⟨x, t, rfl, rfl⟩
    · rcases keyIs_shape hv with ⟨j, u, rfl, rfl⟩ | ⟨y, u, rfl, rfl⟩
      · rw [key_ll] at h; exact wpAny_eqBool_int h
      · rw [key_lr] at h; exact SeqAt.EqAt.int_str i t y u _ _ _ _ h
    · rcases keyIs_shape hv with ⟨j, u, rfl, rfl⟩ | ⟨y, u, rfl, rfl⟩
      · rw [key_rl] at h; exact SeqAt.EqAt.str_int x t j u _ _ _ _ h
      · rw [key_rr] at h; exact wpAny_eqBool_str h
  «strs» := fun k x t v h => by
    rcases keyIs_shape h with ⟨i, u, rfl, e⟩ | ⟨y, u, rfl, e⟩
    · exact nomatch e
    · injection e with e1 _
      subst e1
      cases v <;> rfl
theorem mixKind_int (prog : Program) (w : World) (i : Int) (t : Tok) : (mixKind prog w).is (.inl i) (.int i t) = true := keyIs_int i t
theorem mixKind_str (prog : Program) (w : World) (x : Str) (t : Tok) : (mixKind prog w).is (.inr x) (.str x t) = true := keyIs_str x t
open PySem PySem.Spec PyProof.Rows
inductive V where
  | non | bl (b : Bool) | int (i : Int) | str (x : Str) | byt (b : Array UInt8) | flt (b : UInt64) | ref (a : Addr) | ty (n : String)
  deriving DecidableEq
def RelV : V->Value->Prop
  | .non, u => u = Value.none
  | .bl b, u => u = Value.bool b
  | .int i, u => ∃ t, u = Value.int i t
  | .str x, u => ∃ t, u = Value.str x t
  | .byt b, u => ∃ t, u = Value.bytes b t
  | .flt b, u => ∃ t, u = Value.float b t
  | .ref a, u => u = Value.ref a
  | .ty n, u => u = Value.type n
abbrev Vals : List V->List Value->Prop := Paired RelV
theorem Vals.length {xs : List V} {us : List Value} (r : Vals xs us) : xs.length = us.length := Paired.length r
theorem Vals.get : ∀ {xs : List V} {us : List Value} {i : Nat} {x : V}, Vals xs us->xs[i]? = some x->∃ u, us[i]? = some u /\ RelV x u
  | _, _, _, _, .nil, e => by simp at e
  | _, _, 0, _, .cons r _, e => by simp at e; subst e; exact ⟨_, rfl, r⟩
  | _, _, i + 1, x, .cons _ t, e => by
    obtain ⟨u, h1, h2⟩ := Vals.get (i := i) (x := x) t (by simpa using e)
    exact ⟨u, by simpa using h1, h2⟩
theorem Vals.set {x : V} {u : Value} (r : RelV x u) : ∀ {xs : List V} {us : List Value} (i : Nat), Vals xs us->Vals (xs.set i x) (us.set i u)
  | _, _, _, .nil => .nil
  | _, _, 0, .cons _ t => .cons r t
  | _, _, i + 1, .cons q t => .cons q (Vals.set r i t)
theorem Vals.append : ∀ {xs ys : List V} {us ws : List Value}, Vals xs us->Vals ys ws->Vals (xs ++ ys) (us ++ ws)
  | _, _, _, _, .nil, s => s
  | _, _, _, _, .cons r t, s => .cons r (Vals.append t s)
theorem Vals.take : ∀ {xs : List V} {us : List Value} (n : Nat), Vals xs us->Vals (xs.take n) (us.take n)
  | _, _, 0, _ => .nil
  | _, _, _ + 1, .nil => .nil
  | _, _, n + 1, .cons r t => .cons r (Vals.take n t)
theorem Vals.drop : ∀ {xs : List V} {us : List Value} (n : Nat), Vals xs us->Vals (xs.drop n) (us.drop n)
  | _, _, 0, r => r
  | _, _, _ + 1, .nil => .nil
  | _, _, n + 1, .cons _ t => Vals.drop n t
def RelO : Option V->Option Value->Prop
  | some v, some u => RelV v u
  | none, none => True
  | _, _ => False
def KV {κ : Type} : List (κ × V)->List (κ × Value)->Prop := Paired fun (p : κ × V) (q : κ × Value) => p.1 = q.1 /\ RelV p.2 q.2
def kV : Key->V
  | .inl i => .int i
  | .inr x => .str x
inductive HO where
    | lst (xs : List V)
    | tup (xs : List V)
    | dK (kvs : List (Key × V)) | dT (kvs : List (List Key × V))
    | set (S : Int->Bool) (n : Nat)
    | ins (C dx : Addr) (fs : List (Str × V))
    | own (x : Addr)
    | xd (fs : List (Str × V))
    | met (f x : Addr)
    | rng (lo hi : Int)
    | frz (o : Obj) (u : HO)
    | tbl (ps : Array Value)
    | ext (φ : Heap->Prop)
abbrev Hp := Addr->Option HO
def upd (H : Hp) (a : Addr) (o : HO) : Hp := fun b => if b = a then some o else H b
theorem upd_same {H : Hp} {a : Addr} {o : HO} : upd H a o a = some o := by unfold upd; rw [if_pos rfl]
theorem upd_ne {H : Hp} {a b : Addr} {o : HO} (h : b ≠ a) : upd H a o b = H b := by unfold upd; rw [if_neg h]
theorem upd_upd {H : Hp} {a : Addr} {o u : HO} : upd (upd H a o) a u = upd H a u := by
  funext b; unfold upd; split <;> rfl
theorem ne_of {H : Hp} {a b : Addr} {o u : HO} (h : H a = some o) (h' : H b = some u) (d : o ≠ u) : a ≠ b := by
  intro e; subst e; rw [h] at h'; exact d (Option.some.inj h')
theorem ne_of_none {H : Hp} {a b : Addr} {o : HO} (h : H a = some o) (h' : H b = none) : a ≠ b := by
  intro e; subst e; rw [h] at h'; cases h'
section
variable (P : Program) (w : World)
def ObjOk (H : Hp) (h : Heap) (a : Addr) : HO->Prop
  | .lst xs => xs.length ≤ sizeLine /\ ∃ (its : List Value) (n : Nat), Vals xs its /\ h.get? a = some { cls := .type "list", data := .seq its.toArray n }
  | .tup xs => xs.length ≤ sizeLine /\ ∃ its : List Value, Vals xs its /\ IsTup h a its.toArray
  | .dK kvs => kvs.length ≤ sizeLine /\ (a == sysModules) = false /\ ∃ vs, KV kvs vs /\ h.DictOf (mixKind P w) a vs
  | .dT kvs => kvs.length ≤ sizeLine /\ (a == sysModules) = false /\ ∃ xs : List (List Key × Addr × Value),
      Paired (fun (p : List Key × V) (q : List Key × Addr × Value) => p.1 = q.1 /\ H q.2.1 = some (.tup (p.1.map kV)) /\ RelV p.2 q.2.2) kvs xs ∧
      ∃ o es ep, h.get? a = some o /\ o.ExactDict /\ o.data = .dict es ep /\ es.toList = xs.map (entryOfKey (tupleKind (mixKind P w))) /\ (xs.map (·.1)).Nodup
  | .set S n => h.SetOf (intKind P w) a S n
  | .ins C dx fs => H dx = some (.own a) /\ fs.length ≤ 1000 /\ dx ≠ a /\ h.get? a = some (PySem.W.instObj C dx) ∧
      ∃ mA, h.Ns1 dx mA /\ (∀ f, RelO (fs.lookup f) (mA f)) /\ PySem.Within mA (fs.map (·.1))
  | .own _ => ∃ o, h.get? a = some o
  | .xd fs => ∃ mA, h.Ns1 a mA /\ ∀ f, RelO (fs.lookup f) (mA f)
  | .rng lo hi => ∃ t u v, h.get? a = some { cls := .type "range", data := .fields #[.int lo t, .int hi u, .int 1 v] }
  | .frz o u => h.get? a = some o /\ ObjOk H h a u
  | .tbl ps => h.get? a = some { cls := .none, data := .fields ps }
  | .met f x => h.get? a = some (PySem.W.methodObj (.ref f) (.ref x))
  | .ext φ => φ h /\ (∃ o, h.get? a = some o) /\ ∀ h1 h2 : Heap, φ h1->(∀ o, h1.get? a = some o->h2.get? a = some o)->φ h2
def HOk (H : Hp) (h : Heap) : Prop := ∀ a o, H a = some o->ObjOk P w H h a o
end
section
variable {P : Program} {w : World} {H H' : Hp} {h h' : Heap} {a : Addr} {o : HO}
theorem ObjOk.lt (x : ObjOk P w H h a o) : a < h.objs.size := by
  cases o with
  | lst xs => obtain ⟨_, _, _, _, e⟩ := x; exact Heap.lt_size e
  | tup xs => obtain ⟨_, _, _, p⟩ := x; exact p.lt
  | dK kvs => obtain ⟨_, _, _, _, o, _, _, e, _⟩ := x; exact Heap.lt_size e
  | dT kvs => obtain ⟨_, _, _, _, o, _, _, e, _⟩ := x; exact Heap.lt_size e
  | set S n => obtain ⟨o, _, _, _, e, _⟩ := x; exact Heap.lt_size e
  | ins C dx fs => obtain ⟨_, _, _, e, _⟩ := x; exact Heap.lt_size e
  | own y => obtain ⟨_, e⟩ := x; exact Heap.lt_size e
  | xd fs => obtain ⟨_, ⟨_, _, _, e, _⟩, _⟩ := x; exact Heap.lt_size e
  | rng lo hi => obtain ⟨_, _, _, e⟩ := x; exact Heap.lt_size e
  | frz ob u => obtain ⟨e, _⟩ := x; exact Heap.lt_size e
  | tbl ps => exact Heap.lt_size (show h.get? a = some _ from x)
  | met f y => exact Heap.lt_size (show h.get? a = some _ from x)
  | ext φ => obtain ⟨_, ⟨_, e⟩, _⟩ := x; exact Heap.lt_size e
theorem Paired.mapP {α β : Type} {F G : α->β->Prop} : ∀ {l₁ : List α} {l₂ : List β}, Paired F l₁ l₂->(∀ a b, F a b->G a b)->Paired G l₁ l₂
  | _, _, .nil, _ => .nil
  | _, _, .cons r t, f => .cons (f _ _ r) (Paired.mapP t f)
theorem ObjOk.stay (x : ObjOk P w H h a o) (k : ∀ b u, (b = a ∨ H b = some (.own a))->h.get? b = some u->h'.get? b = some u)
    (ho : ∀ b, H b = some (.own a)->H' b = some (.own a)) (ht : ∀ b xs, H b = some (.tup xs)->H' b = some (.tup xs)) : ObjOk P w H' h' a o := by
  induction o with
  | lst xs => obtain ⟨z, its, n, r, e⟩ := x; exact ⟨z, its, n, r, k _ _ (.inl rfl) e⟩
  | tup xs => obtain ⟨z, its, r, ob, e, c⟩ := x; exact ⟨z, its, r, ob, k _ _ (.inl rfl) e, c⟩
  | dK kvs => obtain ⟨z, y, vs, r, ob, es, ep, e, c⟩ := x; exact ⟨z, y, vs, r, ob, es, ep, k _ _ (.inl rfl) e, c⟩
  | dT kvs =>
    obtain ⟨z, y, xs, r, ob, es, ep, e, c⟩ := x
    exact ⟨z, y, xs, Paired.mapP r fun p q z => ⟨z.1, ht _ _ z.2.1, z.2.2⟩, ob, es, ep, k _ _ (.inl rfl) e, c⟩
  | set S n => obtain ⟨ob, es, ep, t, e, c⟩ := x; exact ⟨ob, es, ep, t, k _ _ (.inl rfl) e, c⟩
  | ins C dx fs =>
    obtain ⟨d, z, ne, e, mA, ⟨od, es, ep, e2, c⟩, r⟩ := x
    exact ⟨ho _ d, z, ne, k _ _ (.inl rfl) e, mA, ⟨od, es, ep, k _ _ (.inr d) e2, c⟩, r⟩
  | own y => obtain ⟨ob, e⟩ := x; exact ⟨ob, k _ _ (.inl rfl) e⟩
  | xd fs => obtain ⟨mA, ⟨od, es, ep, e, c⟩, r⟩ := x; exact ⟨mA, ⟨od, es, ep, k _ _ (.inl rfl) e, c⟩, r⟩
  | rng lo hi => obtain ⟨t, u, v, e⟩ := x; exact ⟨t, u, v, k _ _ (.inl rfl) e⟩
  | frz ob u ih => obtain ⟨e, q⟩ := x; exact ⟨k _ _ (.inl rfl) e, ih q⟩
  | tbl ps =>
    have e : h.get? a = some { cls := .none, data := .fields ps } := x
    show h'.get? a = some { cls := .none, data := .fields ps }
    exact k a _ (.inl rfl) e
  | met f y =>
    have e : h.get? a = some (PySem.W.methodObj (.ref f) (.ref y)) := x
    show h'.get? a = some (PySem.W.methodObj (.ref f) (.ref y))
    exact k a _ (.inl rfl) e
  | ext φ => obtain ⟨p, ⟨o, e⟩, st⟩ := x; exact ⟨st _ _ p fun o q => k _ _ (.inl rfl) q, ⟨o, k _ _ (.inl rfl) e⟩, st⟩
theorem HOk.lt (x : HOk P w H h) (e : H a = some o) : a < h.objs.size := (x a o e).lt
theorem HOk.fresh (x : HOk P w H h) (e : h.objs.size ≤ a) : H a = none := by
  cases q : H a with
  | none => rfl
  | some u => exact absurd (Nat.lt_of_lt_of_le (x.lt q) e) (Nat.lt_irrefl _)
theorem HOk.kept (x : HOk P w H h) (k : ∀ b u, h.get? b = some u->h'.get? b = some u) : HOk P w H h' := fun a o e =>
  (x a o e).stay (fun b u _ q => k b u q) (fun _ q => q) fun _ _ q => q
theorem HOk.laid (x : HOk P w H h) (k : ∀ b u, h.get? b = some u->h'.get? b = some u) (hp : h.objs.size ≤ a) (new : ObjOk P w (upd H a o) h' a o) : HOk P w (upd H a o) h' := fun b u e => by
  have hn := x.fresh hp
  by_cases hb : b = a
  · subst hb; rw [upd_same] at e; cases e; exact new
  · rw [upd_ne hb] at e
    exact (x b u e).stay (fun c v _ q => k c v q) (fun c q => by rw [upd_ne (ne_of_none q hn)]; exact q) fun c xs q => by rw [upd_ne (ne_of_none q hn)]; exact q
end
def Rd (H : Hp) (a : Addr) (u : HO) : Prop := H a = some u ∨ ∃ o, H a = some (.frz o u)
theorem Rd.ok {P : Program} {w : World} {H : Hp} {h : Heap} {a : Addr} {u : HO} (r : Rd H a u) (x : HOk P w H h) : ObjOk P w H h a u := by
  rcases r with r | ⟨o, r⟩
  · exact x a u r
  · obtain ⟨_, q⟩ := x a _ r
    exact q
def Mut : Option HO->Prop
  | some (.lst _) => True
  | some (.dK _) => True
  | some (.dT _) => True
  | some (.set _ _) => True
  | some (.ins _ _ _) => True
  | some (.ext _) => True
  | _ => False
section
variable {P : Program} {w : World} {H : Hp} {h h' : Heap} {x e : Addr} {o' : HO}
theorem HOk.write (ok : HOk P w H h) (mu : Mut (H x)) (he : e = x ∨ H e = some (.own x)) (k : ∀ b u, b ≠ e->h.get? b = some u->h'.get? b = some u) (heo : ∃ u, h'.get? e = some u)
    (new : ObjOk P w (upd H x o') h' x o') : HOk P w (upd H x o') h' := fun b u q => by
  have nown : ∀ c y, H c = some (.own y)->c ≠ x := fun c y r z => by subst z; rw [r] at mu; exact mu
  have ntup : ∀ c xs, H c = some (.tup xs)->c ≠ x := fun c xs r z => by subst z; rw [r] at mu; exact mu
  by_cases hb : b = x
  · subst hb; rw [upd_same] at q; cases q; exact new
  · rw [upd_ne hb] at q
    by_cases hbe : b = e
    · have q' : H b = some (.own x) := by
        rcases he with z | z
        · exact absurd (hbe.trans z) hb
        · rw [hbe]; exact z
      rw [q] at q'; cases q'
      obtain ⟨v, hv⟩ := heo
      exact ⟨v, by rw [hbe]; exact hv⟩
    · refine (ok b u q).stay (fun c v hc r => k c v ?_ r) (fun c r => by rw [upd_ne (nown c b r)]; exact r) fun c xs r => by rw [upd_ne (ntup c xs r)]; exact r
      rcases hc with rfl | hc
      · exact hbe
      · rintro rfl
        rcases he with z | z
        · exact nown c b hc z
        · rw [hc] at z; cases z; exact hb rfl
end
structure Un (fs ex : List Addr) (H H' : Hp) (h h' : Heap) : Prop where
  keep : ∀ b o, h.get? b = some o->H b = none->b ∉ fs->b ∉ ex->h'.get? b = some o
  slot : ∀ b o, h.get? b = some o->H b = none->b ∈ fs->b ∉ ex->∃ sl, h'.get? b = some { o with slots := sl }
  free : ∀ b o, h.get? b = some o->H b = none->b ∉ ex->H' b = none
  there : ∀ b o, h.get? b = some o->b ∉ ex->∃ o', h'.get? b = some o'
  tups : ∀ b xs, H b = some (.tup xs)->H' b = some (.tup xs)
  frzs : ∀ b o u, H b = some (.frz o u)->H' b = some (.frz o u)
  tbls : ∀ b ps, H b = some (.tbl ps)->∃ more, H' b = some (.tbl (ps ++ more))
section
variable {fs fs' ex ex' : List Addr} {H H1 H2 : Hp} {h h1 h2 h' : Heap} {a x e : Addr} {o : HO}
theorem Un.any (u : Un fs ex H H1 h h1) {b : Addr} {ob : Obj} (q : h.get? b = some ob) (n : H b = none) (hx : b ∉ ex) : ∃ sl, h1.get? b = some { ob with slots := sl } := by
  by_cases hb : b ∈ fs
  · exact u.slot b ob q n hb hx
  · exact ⟨ob.slots, u.keep b ob q n hb hx⟩
theorem Un.trans (a : Un fs ex H H1 h h1) (b : Un fs ex H1 H2 h1 h2) : Un fs ex H H2 h h2 where
  keep := fun c ob q n hc hx => b.keep c ob (a.keep c ob q n hc hx) (a.free c ob q n hx) hc hx
  slot := fun c ob q n hc hx => by
    obtain ⟨sl, e1⟩ := a.slot c ob q n hc hx
    obtain ⟨sl', e2⟩ := b.slot c _ e1 (a.free c ob q n hx) hc hx
    exact ⟨sl', e2⟩
  free := fun c ob q n hx => by
    obtain ⟨o', e1⟩ := a.there c ob q hx
    exact b.free c o' e1 (a.free c ob q n hx) hx
  there := fun c ob q hx => by
    obtain ⟨o', e1⟩ := a.there c ob q hx
    exact b.there c o' e1 hx
  tups := fun c xs q => b.tups c xs (a.tups c xs q)
  frzs := fun c ob xs q => b.frzs c ob xs (a.frzs c ob xs q)
  tbls := fun c ps q => by
    obtain ⟨m1, e1⟩ := a.tbls c ps q
    obtain ⟨m2, e2⟩ := b.tbls c _ e1
    exact ⟨m1 ++ m2, by rw [e2, Array.append_assoc]⟩
theorem Un.kept (k : ∀ b u, h.get? b = some u->h'.get? b = some u) : Un fs ex H H h h' :=
  ⟨fun b ob q _ _ _ => k b ob q, fun b ob q _ _ _ => ⟨ob.slots, k b ob q⟩, fun _ _ _ n _ => n, fun b ob q _ => ⟨ob, k b ob q⟩, fun _ _ q => q, fun _ _ _ q => q, fun _ ps q => ⟨#[], by rw [q]; simp⟩⟩
theorem Un.refl : Un fs ex H H h h := Un.kept fun _ _ q => q
theorem Un.laid (k : ∀ b u, h.get? b = some u->h'.get? b = some u) (hp : h.objs.size ≤ a) (hn : H a = none) : Un fs ex H (upd H a o) h h' where
  keep := fun b u q _ _ _ => k b u q
  slot := fun b u q _ _ _ => ⟨u.slots, k b u q⟩
  free := fun b u q n _ => by rw [upd_ne (Nat.ne_of_lt (Nat.lt_of_lt_of_le (Heap.lt_size q) hp))]; exact n
  there := fun b u q _ => ⟨u, k b u q⟩
  tups := fun b xs q => by rw [upd_ne (ne_of_none q hn)]; exact q
  frzs := fun b u xs q => by rw [upd_ne (ne_of_none q hn)]; exact q
  tbls := fun b ps q => ⟨#[], by rw [upd_ne (ne_of_none q hn), q]; simp⟩
theorem Un.write (mu : Mut (H x)) (he : e = x ∨ H e = some (.own x)) (k : ∀ b u, b ≠ e->h.get? b = some u->h'.get? b = some u) (heo : ∃ u, h'.get? e = some u) : Un fs ex H (upd H x o) h h' := by
  have hx : ∀ b, H b = none->b ≠ x := fun b n z => by subst z; rw [n] at mu; exact mu
  have hb : ∀ b, H b = none->b ≠ e := fun b n z => by
    subst z
    rcases he with r | r
    · exact hx b n r
    · rw [n] at r; cases r
  have hm : ∀ b u, H b = some u->¬ Mut (some u)->b ≠ x := fun b u q nm z => by subst z; rw [q] at mu; exact nm mu
  refine ⟨fun b u q n _ _ => k b u (hb b n) q, fun b u q n _ _ => ⟨u.slots, k b u (hb b n) q⟩, fun b u q n _ => by rw [upd_ne (hx b n)]; exact n, fun b u q _ => ?_,
    fun b xs q => by rw [upd_ne (hm b _ q fun z => z)]; exact q, fun b u xs q => by rw [upd_ne (hm b _ q fun z => z)]; exact q, fun b ps q => ⟨#[], by rw [upd_ne (hm b _ q fun z => z), q]; simp⟩⟩
  by_cases hbe : b = e
  · subst hbe; exact heo
  · exact ⟨u, k b u hbe q⟩
theorem Un.mono (u : Un fs ex H H1 h h1) (hs : ∀ b ∈ fs, b ∈ fs') (hx : ∀ b ∈ ex, b ∈ ex') : Un fs' ex' H H1 h h1 :=
  ⟨fun b ob q n hb he => u.keep b ob q n (fun z => hb (hs b z)) fun z => he (hx b z), fun _ _ q n _ he => u.any q n fun z => he (hx _ z), fun b ob q n he => u.free b ob q n fun z => he (hx b z), fun b ob q he => u.there b ob q fun z => he (hx b z), u.tups, u.frzs, u.tbls⟩
end
def trk (h : Heap) (H : Hp) : List Addr := (List.range h.objs.size).filter fun a => (H a).isSome
def hidT (h : Heap) (H : Hp) : Heap := PySem.W.hideAll h (trk h H)
theorem hidT_size (h : Heap) (H : Hp) : (hidT h H).objs.size = h.objs.size := PySem.W.hideAll_size _ _
theorem hidT_get {h : Heap} {H : Hp} {b : Addr} {o : Obj} (e : h.get? b = some o) (n : H b = none) : (hidT h H).get? b = some o :=
  PySem.W.hideAll_get _ e fun hm => by
    have q : (H b).isSome = true := (List.mem_filter.mp hm).2
    rw [n] at q; simp at q
theorem of_hidT {h : Heap} {H : Hp} {b : Addr} {o : Obj} (e : (hidT h H).get? b = some o) : h.get? b = some o /\ H b = none := by
  have e' : h.get? b = some o := PySem.W.of_hideAll (trk h H) e
  refine ⟨e', ?_⟩
  cases q : H b with
  | none => rfl
  | some x =>
    have hm : b ∈ trk h H := List.mem_filter.mpr ⟨List.mem_range.mpr (Heap.lt_size e'), by simp [q]⟩
    have z : (hidT h H).get? b = none := PySem.W.hideAll_none (trk h H) hm
    rw [z] at e; cases e
def allNews (g h : Heap) (L : Addr) : List (Addr × Obj) := (List.range h.objs.size).filterMap fun a => if a = L ∨ (g.get? a).isSome = true then none else (h.get? a).map fun o => (a, o)
def rest (g h : Heap) (L d : Addr) : List (Addr × Obj) := (allNews g h L).filter fun p => decide (p.1 ≠ d)
open PySem PySem.Spec PyProof.Rows
structure Mod (K : PySem.W.Frag) (mg : Str->Option Value) (base : Heap) : Prop where
  kin : K.In base
  glob : base.Ns mainGlobals mg
  blt : ∃ mb, base.Ns builtinsNs mb /\ ∀ x : Str, x ≠ "__name__"->mb x = bootBuiltins x
  nolimit : base.NoLimit
structure Cx where
  prog : Program
  w : World
  K : PySem.W.Frag
  mg : Str->Option Value
  base : Heap
  A : Around
  N : List Str
  s₀ : Shared
  H₀ : Hp
  env : Env
  outer : List Env
  stack : List Env
  ex : List Addr
  fn : Str->Bool
  calm : Bool
  pn : List (Addr × Obj)
  xe : Value->Shared->Prop
def frs (l : List Env) : List Addr := l.filterMap (·.frame)
abbrev Cx.fs (X : Cx) : List Addr := frs X.outer
def Vis (sc : Scope) (x : Str) : Prop := sc.names.lookup x = some .local ∨ sc.names.lookup x = some .cell ∨ sc.names.lookup x = some .free
def Loc (sc : Scope) (x : Str) : Prop := sc.names.lookup x = some .local ∨ sc.names.lookup x = some .cell
def Look (env : Env) (h : Heap) (m : Str->Option Value) (x : Str) (u : Value) : Prop :=
  (env.kindOf x = some .local /\ m x = some u) ∨ ((env.kindOf x = some .cell ∨ env.kindOf x = some .free) /\ ∃ c, env.cells.lookup x = some c /\ h.IsCell c (some u))
structure Cx.Ok (X : Cx) : Prop where
  mod : Mod X.K X.mg X.base
  kind : X.env.scope.kind = .function
  glob : X.env.globals = mainGlobals
  blt : X.env.builtins = builtinsNs
  above : X.s₀.heap.objs.size ≤ X.env.locals
  inj : ∀ x y c, X.env.cells.lookup x = some c->X.env.cells.lookup y = some c->x = y
  has : ∀ x, (X.env.kindOf x = some .cell ∨ X.env.kindOf x = some .free)->∃ c, X.env.cells.lookup x = some c
  cab : ∀ x c, X.fn x = true->X.env.cells.lookup x = some c->X.s₀.heap.objs.size ≤ c
  hd : X.calm = true->X.A.handled = none
  frames : X.A.frames = some X.stack
  stk : X.stack = X.outer ∨ (X.stack = X.env :: X.outer /\ X.env.frame = some X.env.locals)
  exf : ∀ b ∈ X.ex, b ≠ X.env.locals /\ ∀ x c, X.env.cells.lookup x = some c->c ≠ b
  bs : ∀ b o, X.base.get? b = some o->X.s₀.heap.get? b = some o /\ X.H₀ b = none
  bsz : X.base.objs.size ≤ X.s₀.heap.objs.size
  noex : ∀ b o, X.base.get? b = some o->b ∉ X.ex
  exfs : ∀ b ∈ X.ex, b ∉ X.fs
  funs : X.s₀.heap.FunFrames X.base X.outer
  frf : ∀ b ∈ X.fs, X.H₀ b = none
structure Inv (X : Cx) (pins : List (Addr × Obj)) (σ : List (Option V)) (H : Hp) (s : Shared) : Prop where
  ok : X.Ok
  os : s.os = X.s₀.os
  bare : AllBare s.gens
  base : Un X.fs X.ex X.H₀ H X.s₀.heap s.heap
  loc : ∃ m, s.heap.Ns X.env.locals m /\ ∀ (i : Nat) (x : Str) (v : V), X.N[i]? = some x->σ[i]? = some (some v)->Vis X.env.scope x->∃ u, RelV v u /\ Look X.env s.heap m x u
  cell : ∀ x c, X.env.cells.lookup x = some c->∃ v, s.heap.IsCell c v
  free : H X.env.locals = none
  freeC : ∀ x c, X.env.cells.lookup x = some c->H c = none
  pin : ∀ p ∈ X.pn ++ pins, s.heap.get? p.1 = some p.2 /\ H p.1 = none /\ p.1 ≠ X.env.locals /\ p.1 ∉ X.fs /\ ∀ v, p.2.data ≠ .cell v
  hok : HOk X.prog X.w H s.heap
  len : σ.length = X.N.length
section
variable {X : Cx} {pins : List (Addr × Obj)} {σ : List (Option V)} {H H' : Hp} {s : Shared} {h' : Heap}
theorem Cx.Ok.nofr (ok : X.Ok) {b : Addr} {o : Obj} (e : X.base.get? b = some o) : b ∉ X.fs := fun hb => by
  have := (ok.funs.mem hb).1
  rw [e] at this; cases this
theorem Inv.bs (I : Inv X pins σ H s) : ∀ b o, X.base.get? b = some o->s.heap.get? b = some o /\ H b = none := fun b o e =>
  ⟨I.base.keep b o (I.ok.bs b o e).1 (I.ok.bs b o e).2 (I.ok.nofr e) (I.ok.noex b o e), I.base.free b o (I.ok.bs b o e).1 (I.ok.bs b o e).2 (I.ok.noex b o e)⟩
theorem Inv.bk (I : Inv X pins σ H s) : ∀ b o, X.base.get? b = some o->s.heap.get? b = some o := fun b o e => (I.bs b o e).1
theorem Inv.mod (I : Inv X pins σ H s) : Mod X.K X.mg X.base := I.ok.mod
theorem Inv.kIn (I : Inv X pins σ H s) : X.K.In s.heap := I.ok.mod.kin.keeps I.bk
theorem Inv.lt (I : Inv X pins σ H s) : X.env.locals < s.heap.objs.size := let ⟨_, hn, _⟩ := I.loc; hn.lt
theorem Inv.sz (I : Inv X pins σ H s) : X.s₀.heap.objs.size ≤ s.heap.objs.size := Nat.le_trans I.ok.above (Nat.le_of_lt I.lt)
theorem Inv.nofs (I : Inv X pins σ H s) {a : Addr} (h : s.heap.objs.size ≤ a) : a ∉ X.fs := fun hb => by
  obtain ⟨_, o, ho, _⟩ := I.ok.funs.mem hb
  exact absurd (Nat.lt_of_lt_of_le (Heap.lt_size ho) (Nat.le_trans I.sz h)) (Nat.lt_irrefl _)
theorem Inv.cne (I : Inv X pins σ H s) : ∀ x c, X.env.cells.lookup x = some c->c ≠ X.env.locals := fun x c e z => by
  obtain ⟨v, o, ho, hd⟩ := I.cell x c e
  obtain ⟨m, ⟨o', es, ep, ho', hd', _⟩, _⟩ := I.loc
  rw [z, ho'] at ho; cases ho; rw [hd'] at hd; cases hd
theorem Inv.funs (I : Inv X pins σ H s) : s.heap.FunFrames X.base X.outer := by
  have all : ∀ (l : List Env), (∀ b ∈ frs l, b ∈ X.fs)->X.s₀.heap.FunFrames X.base l->s.heap.FunFrames X.base l := by
    intro l
    induction l with
    | nil => intro _ _; trivial
    | cons env r ih =>
      intro hs hl
      obtain ⟨hk, ⟨L, o, hf, hn, ho, hd⟩, hr⟩ := hl
      have hL : L ∈ X.fs := hs L (by unfold frs; rw [List.filterMap_cons, hf]; exact List.mem_cons_self)
      obtain ⟨sl, e⟩ := I.base.slot L o ho (I.ok.frf L hL) hL fun z => I.ok.exfs L z hL
      exact ⟨hk, ⟨L, _, hf, hn, e, hd⟩, ih (fun b hb => hs b (by unfold frs; rw [List.filterMap_cons, hf]; exact List.mem_cons_of_mem _ hb)) hr⟩
  exact all X.outer (fun _ hb => hb) I.ok.funs
theorem Inv.stack (I : Inv X pins σ H s) : s.heap.FunFrames X.base X.stack := by
  rcases I.ok.stk with e | ⟨e, hf⟩
  · rw [e]; exact I.funs
  · rw [e]
    obtain ⟨m, hn, _⟩ := I.loc
    refine .cons (by rw [I.ok.kind]; decide) hf hn ?_ I.funs
    exact Heap.get?_none_of_le (Nat.le_trans I.ok.bsz I.ok.above)
theorem Inv.stkSub (I : Inv X pins σ H s) : ∀ b ∈ frs X.stack, b ∈ X.env.locals :: X.fs := fun b hb => by
  rcases I.ok.stk with e | ⟨e, hf⟩
  · rw [e] at hb; exact List.mem_cons_of_mem _ hb
  · rw [e] at hb
    unfold frs at hb
    rw [List.filterMap_cons, hf] at hb
    exact hb
theorem Inv.stkFree (I : Inv X pins σ H s) : ∀ b ∈ frs X.stack, H b = none := fun b hb => by
  rcases List.mem_cons.mp (I.stkSub b hb) with e | hb
  · rw [e]; exact I.free
  · obtain ⟨_, o, ho, _⟩ := I.ok.funs.mem hb
    exact I.base.free b o ho (I.ok.frf b hb) fun z => I.ok.exfs b z hb
theorem Inv.step {g' : Array GenState} {t' : Nat} {d' : Drawn} {ch : List Addr} (I : Inv X pins σ H s)
    (hch : ∀ b ∈ ch, (b ∈ X.ex ∨ X.s₀.heap.objs.size ≤ b) /\ b ≠ X.env.locals /\ (∀ x c, X.env.cells.lookup x = some c->c ≠ b) /\ ∀ p ∈ X.pn ++ pins, p.1 ≠ b)
    (keep : ∀ b o, b ≠ X.env.locals->b ∉ X.fs->b ∉ ch->s.heap.get? b = some o->H b = none->h'.get? b = some o)
    (slot : ∀ b o, b ≠ X.env.locals->b ∈ X.fs->b ∉ ch->s.heap.get? b = some o->H b = none->∃ sl, h'.get? b = some { o with slots := sl }) (free : ∀ b o, b ∉ ch->s.heap.get? b = some o->H b = none->H' b = none)
    (there : ∀ b o, b ∉ ch->s.heap.get? b = some o->∃ o', h'.get? b = some o')
    (tups : ∀ b xs, H b = some (.tup xs)->H' b = some (.tup xs)) (frzs : ∀ b o u, H b = some (.frz o u)->H' b = some (.frz o u)) (tbls : ∀ b ps, H b = some (.tbl ps)->∃ more, H' b = some (.tbl (ps ++ more)))
    (ns : ∀ m, s.heap.Ns X.env.locals m->h'.Ns X.env.locals m) (hok : HOk X.prog X.w H' h') (hg : AllBare g') :
    Inv X pins σ H' { s with heap := h', gens := g', drawn := d', toks := t' } := by
  have neL : ∀ b o, X.s₀.heap.get? b = some o->b ≠ X.env.locals := fun b o e => Nat.ne_of_lt (Nat.lt_of_lt_of_le (Heap.lt_size e) I.ok.above)
  have neC : ∀ b o, X.s₀.heap.get? b = some o->b ∉ X.ex->b ∉ ch := fun b o e hx hb => by
    rcases (hch b hb).1 with z | z
    · exact hx z
    · exact absurd (Nat.lt_of_lt_of_le (Heap.lt_size e) z) (Nat.lt_irrefl _)
  have cellK : ∀ x c, X.env.cells.lookup x = some c->∀ v, s.heap.IsCell c v->h'.IsCell c v := fun x c e v ⟨o, ho, hd⟩ => by
    have nch : c ∉ ch := fun z => (hch c z).2.2.1 x c e rfl
    by_cases hc : c ∈ X.fs
    · obtain ⟨sl, q⟩ := slot c o (I.cne x c e) hc nch ho (I.freeC x c e)
      exact ⟨_, q, hd⟩
    · exact ⟨o, keep c o (I.cne x c e) hc nch ho (I.freeC x c e), hd⟩
  refine ⟨I.ok, I.os, hg, ⟨fun b o e n hb hx => ?_, fun b o e n hb hx => ?_, fun b o e n hx => ?_, fun b o e hx => ?_, fun b xs e => tups b xs (I.base.tups b xs e), fun b o xs e => frzs b o xs (I.base.frzs b o xs e), fun b ps e => ?_⟩, ?_, fun x c e => ?_, ?_, fun x c e => ?_, fun p hp => ?_, hok, I.len⟩
  · exact keep b o (neL b o e) hb (neC b o e hx) (I.base.keep b o e n hb hx) (I.base.free b o e n hx)
  · obtain ⟨sl, e1⟩ := I.base.slot b o e n hb hx
    obtain ⟨sl', e2⟩ := slot b _ (neL b o e) hb (neC b o e hx) e1 (I.base.free b o e n hx)
    exact ⟨sl', e2⟩
  · obtain ⟨o', e1⟩ := I.base.there b o e hx
    exact free b o' (neC b o e hx) e1 (I.base.free b o e n hx)
  · obtain ⟨o', e1⟩ := I.base.there b o e hx
    exact there b o' (neC b o e hx) e1
  · obtain ⟨m1, e1⟩ := I.base.tbls b ps e
    obtain ⟨m2, e2⟩ := tbls b _ e1
    exact ⟨m1 ++ m2, by rw [e2, Array.append_assoc]⟩
  · obtain ⟨m, hn, hl⟩ := I.loc
    refine ⟨m, ns m hn, fun i x v e1 e2 e3 => ?_⟩
    obtain ⟨u, r, l⟩ := hl i x v e1 e2 e3
    refine ⟨u, r, ?_⟩
    rcases l with l | ⟨k, c, e, z⟩
    · exact .inl l
    · exact .inr ⟨k, c, e, cellK x c e _ z⟩
  · obtain ⟨v, z⟩ := I.cell x c e
    exact ⟨v, cellK x c e v z⟩
  · obtain ⟨m, ⟨o, _, _, ho, _⟩, _⟩ := I.loc
    exact free _ o (fun z => (hch _ z).2.1 rfl) ho I.free
  · obtain ⟨v, o, ho, hd⟩ := I.cell x c e
    exact free c o (fun z => (hch c z).2.2.1 x c e rfl) ho (I.freeC x c e)
  · obtain ⟨e, n, ne, nf, d⟩ := I.pin p hp
    have nch : p.1 ∉ ch := fun z => (hch p.1 z).2.2.2 p hp rfl
    exact ⟨keep p.1 p.2 ne nf nch e n, free p.1 p.2 nch e n, ne, nf, d⟩
theorem Inv.un {t' : Nat} (I : Inv X pins σ H s) (u : Un X.fs [] H H' s.heap h') (hok : HOk X.prog X.w H' h') : Inv X pins σ H' { s with heap := h', toks := t' } := by
  obtain ⟨m, ⟨o, es, ep, ho, r⟩, _⟩ := id I.loc
  obtain ⟨sl, hL⟩ := u.any ho I.free (by simp)
  exact I.step (g' := s.gens) (d' := s.drawn) (ch := []) (fun _ z => nomatch z) (fun b o _ hb _ e n => u.keep b o e n hb (by simp)) (fun b o _ hb _ e n => u.slot b o e n hb (by simp)) (fun b o _ e n => u.free b o e n (by simp)) (fun b o _ e => u.there b o e (by simp)) u.tups u.frzs u.tbls (fun m' hm => by
    obtain ⟨o', es', ep', ho', r'⟩ := hm
    rw [ho] at ho'; cases ho'
    exact ⟨_, es', ep', hL, r'⟩) hok I.bare
theorem Inv.call {g' : Array GenState} {t' : Nat} {d' : Drawn} {ch : List Addr} (I : Inv X pins σ H s) (u : Un (frs X.stack) ch H H' s.heap h') (hok : HOk X.prog X.w H' h') (hg : AllBare g')
    (hch : ∀ b ∈ ch, (b ∈ X.ex ∨ X.s₀.heap.objs.size ≤ b) /\ b ≠ X.env.locals /\ (∀ x c, X.env.cells.lookup x = some c->c ≠ b) /\ ∀ p ∈ X.pn ++ pins, p.1 ≠ b) :
    Inv X pins σ H' { s with heap := h', gens := g', drawn := d', toks := t' } := by
  obtain ⟨m, ⟨o, es, ep, ho, r⟩, _⟩ := id I.loc
  obtain ⟨sl, hL⟩ := u.any ho I.free fun z => (hch _ z).2.1 rfl
  exact I.step (ch := ch) hch (fun b o hL hb hc e n => u.keep b o e n (fun z => (List.mem_cons.mp (I.stkSub b z)).elim hL hb) hc) (fun b o _ _ hc e n => u.any e n hc) (fun b o hc e n => u.free b o e n hc) (fun b o hc e => u.there b o e hc) u.tups u.frzs u.tbls (fun m' hm => by
    obtain ⟨o', es', ep', ho', r'⟩ := hm
    rw [ho] at ho'; cases ho'
    exact ⟨_, es', ep', hL, r'⟩) hok hg
theorem Inv.turned {t' : Nat} {it : Addr} (I : Inv X pins σ H s) (k : ∀ b o, b ≠ it->s.heap.get? b = some o->h'.get? b = some o) (hn : H it = none) (hL : it ≠ X.env.locals)
    (h1 : it ∈ X.ex ∨ X.s₀.heap.objs.size ≤ it) (h2 : ∀ x c, X.env.cells.lookup x = some c->c ≠ it) (h3 : ∀ p ∈ X.pn ++ pins, p.1 ≠ it) : Inv X pins σ H { s with heap := h', toks := t' } := by
  have nit : ∀ b u, H b = some u->b ≠ it := fun b u e z => by rw [z, hn] at e; cases e
  refine I.step (g' := s.gens) (d' := s.drawn) (ch := [it]) (fun b hb => ?_) (fun b o _ _ hc e _ => k b o (fun z => hc (by simp [z])) e) (fun b o _ _ hc e _ => ⟨o.slots, k b o (fun z => hc (by simp [z])) e⟩) (fun _ _ _ _ n => n)
    (fun b o hc e => ⟨o, k b o (fun z => hc (by simp [z])) e⟩) (fun _ _ e => e) (fun _ _ _ e => e) (fun b ps e => ⟨#[], by rw [e]; simp⟩) (fun m hm => ?_) (fun b u e => ?_) I.bare
  · have e : b = it := by simpa using hb
    subst e
    exact ⟨h1, hL, h2, h3⟩
  · obtain ⟨o, es, ep, ho, r⟩ := hm
    exact ⟨o, es, ep, k _ o (Ne.symm hL) ho, r⟩
  · refine (I.hok b u e).stay (fun c v hc q => k c v ?_ q) (fun _ q => q) fun _ _ q => q
    rcases hc with z | z
    · rw [z]; exact nit b u e
    · exact nit c _ z
theorem Inv.tok (I : Inv X pins σ H s) (t : Nat) : Inv X pins σ H { s with toks := t } := I.un (h' := s.heap) (t' := t) Un.refl I.hok
theorem Inv.kept {t' : Nat} (I : Inv X pins σ H s) (k : ∀ b u, s.heap.get? b = some u->h'.get? b = some u) : Inv X pins σ H { s with heap := h', toks := t' } := I.un (Un.kept k) (I.hok.kept k)
theorem Inv.laid {a : Addr} {o : HO} {t' : Nat} (I : Inv X pins σ H s) (k : ∀ b u, s.heap.get? b = some u->h'.get? b = some u) (hp : s.heap.objs.size ≤ a) (new : ObjOk X.prog X.w (upd H a o) h' a o) :
    Inv X pins σ (upd H a o) { s with heap := h', toks := t' } := I.un (Un.laid k hp (I.hok.fresh hp)) (I.hok.laid k hp new)
theorem Inv.write {x e : Addr} {o : HO} {t' : Nat} (I : Inv X pins σ H s) (mu : Mut (H x)) (he : e = x ∨ H e = some (.own x)) (k : ∀ b u, b ≠ e->s.heap.get? b = some u->h'.get? b = some u) (heo : ∃ u, h'.get? e = some u)
    (new : ObjOk X.prog X.w (upd H x o) h' x o) : Inv X pins σ (upd H x o) { s with heap := h', toks := t' } := I.un (Un.write mu he k heo) (I.hok.write mu he k heo new)
theorem Inv.pins_of {pins' : List (Addr × Obj)} (I : Inv X pins σ H s) (h : ∀ p ∈ pins', s.heap.get? p.1 = some p.2 /\ H p.1 = none /\ p.1 ≠ X.env.locals /\ p.1 ∉ X.fs /\ ∀ v, p.2.data ≠ .cell v) : Inv X pins' σ H s :=
  ⟨I.ok, I.os, I.bare, I.base, I.loc, I.cell, I.free, I.freeC, fun p hp => (List.mem_append.mp hp).elim (fun z => I.pin p (List.mem_append_left _ z)) (h p), I.hok, I.len⟩
theorem nodup_ix {N : List Str} (hN : N.Nodup) {i j : Nat} {x : Str} (a : N[i]? = some x) (b : N[j]? = some x) : i = j := by
  obtain ⟨h1, e1⟩ := List.getElem?_eq_some_iff.mp a
  obtain ⟨h2, e2⟩ := List.getElem?_eq_some_iff.mp b
  exact (List.getElem_inj hN).mp (e1.trans e2.symm)
theorem store_ok2 {M : Model} {A : Around} {E : Value->Shared->Prop} {i : Nat} {x : Str} {v : V} {u : Value} {Q : Unit->Shared->Prop} (I : Inv X pins σ H s) (hN : X.N.Nodup) (hi : X.N[i]? = some x) (hx : Loc X.env.scope x) (r : RelV v u)
    (h : ∀ s', Inv X pins (σ.set i (some v)) H s'->(∃ a, Heap.SameBut a s.heap s'.heap /\ (a = X.env.locals ∨ X.env.cells.lookup x = some a))->Q () s') (hf : X.fn x = true ∨ X.env.scope.names.lookup x = some .local := by first | exact .inl rfl | exact .inr rfl | assumption) : wpAny M A (storeName X.env x u) Q E s := by
  obtain ⟨m, hn, hl⟩ := id I.loc
  have hcls : (X.env.scope.kind == .class || (X.env.scope.kind == .module && X.env.locals != X.env.globals)) = false := by rw [I.ok.kind]; rfl
  have hiσ : i < σ.length := by rw [I.len]; exact (List.getElem?_eq_some_iff.mp hi).1
  have cne := I.cne
  have tracked : ∀ {a : Addr} {h' : Heap}, (∃ o, s.heap.get? a = some o /\ H a = none)->Heap.SameBut a s.heap h'->HOk X.prog X.w H h' := fun {a h'} ha hs b ob e => by
    obtain ⟨_, _, hfree⟩ := ha
    refine (I.hok b ob e).stay (fun c w' hc q => (hs.2 c ?_).trans q) (fun _ q => q) fun _ _ q => q
    rintro rfl
    rcases hc with rfl | hc
    · rw [hfree] at e; cases e
    · rw [hfree] at hc; cases hc
  rcases hx with hk | hk
  · refine wpAny_storeName_local hk hn (fun h' hn' hs => ?_) hcls
    obtain ⟨oL, _, _, hoL, _⟩ := id hn
    refine h _ ⟨I.ok, I.os, I.bare, ⟨fun b o e n hb hx => ?_, fun b o e n hb hx => ?_, I.base.free, fun b o e hx => ?_, I.base.tups, I.base.frzs, I.base.tbls⟩, ⟨_, hn', fun j y v' e1 e2 e3 => ?_⟩, fun y c e => ?_, I.free, I.freeC, fun p hp => ?_, tracked ⟨oL, hoL, I.free⟩ hs, by simpa using I.len⟩ ⟨_, hs, .inl rfl⟩
    · exact (hs.2 b (Nat.ne_of_lt (Nat.lt_of_lt_of_le (Heap.lt_size e) I.ok.above))).trans (I.base.keep b o e n hb hx)
    · obtain ⟨sl, e1⟩ := I.base.slot b o e n hb hx
      exact ⟨sl, (hs.2 b (Nat.ne_of_lt (Nat.lt_of_lt_of_le (Heap.lt_size e) I.ok.above))).trans e1⟩
    · obtain ⟨o', e1⟩ := I.base.there b o e hx
      exact ⟨o', (hs.2 b (Nat.ne_of_lt (Nat.lt_of_lt_of_le (Heap.lt_size e) I.ok.above))).trans e1⟩
    · by_cases hj : j = i
      · subst hj
        rw [hi] at e1; cases e1
        rw [List.getElem?_set_self hiσ] at e2
        cases e2
        exact ⟨u, r, .inl ⟨hk, by simp⟩⟩
      · rw [List.getElem?_set_ne (Ne.symm hj)] at e2
        obtain ⟨u', r', q⟩ := hl j y v' e1 e2 e3
        refine ⟨u', r', ?_⟩
        rcases q with ⟨k, e⟩ | ⟨k, c, e, z⟩
        · refine .inl ⟨k, ?_⟩
          have : y ≠ x := fun e => hj (nodup_ix hN e1 (e ▸ hi))
          simp [this, e]
        · exact .inr ⟨k, c, e, z.sameBut hs (cne y c e)⟩
    · obtain ⟨w', z⟩ := I.cell y c e
      exact ⟨w', z.sameBut hs (cne y c e)⟩
    · obtain ⟨e, n, ne, nf, d⟩ := I.pin p hp
      exact ⟨(hs.2 p.1 ne).trans e, n, ne, nf, d⟩
  · have hfn : X.fn x = true := by
      rcases hf with z | z
      · exact z
      · rw [z] at hk; cases hk
    obtain ⟨c, hc⟩ := I.ok.has x (.inl hk)
    obtain ⟨w', z⟩ := I.cell x c hc
    refine wpAny_storeName_cell I.ok.kind hk hc z (fun h' hc' hs => ?_)
    obtain ⟨oc, hoc, hocd⟩ := id z
    refine h { s with heap := h' } ⟨I.ok, I.os, I.bare, ⟨fun b o e n hb hx => ?_, fun b o e n hb hx => ?_, I.base.free, fun b o e hx => ?_, I.base.tups, I.base.frzs, I.base.tbls⟩, ⟨m, hn.sameBut hs (Ne.symm (cne x c hc)), fun j y v' e1 e2 e3 => ?_⟩, fun y c' e => ?_, I.free, I.freeC, fun p hp => ?_, tracked ⟨oc, hoc, I.freeC x c hc⟩ hs, by simpa using I.len⟩ ⟨c, hs, .inr hc⟩
    · exact (hs.2 b (Nat.ne_of_lt (Nat.lt_of_lt_of_le (Heap.lt_size e) (I.ok.cab x c hfn hc)))).trans (I.base.keep b o e n hb hx)
    · obtain ⟨sl, e1⟩ := I.base.slot b o e n hb hx
      exact ⟨sl, (hs.2 b (Nat.ne_of_lt (Nat.lt_of_lt_of_le (Heap.lt_size e) (I.ok.cab x c hfn hc)))).trans e1⟩
    · obtain ⟨o', e1⟩ := I.base.there b o e hx
      exact ⟨o', (hs.2 b (Nat.ne_of_lt (Nat.lt_of_lt_of_le (Heap.lt_size e) (I.ok.cab x c hfn hc)))).trans e1⟩
    · by_cases hj : j = i
      · subst hj
        rw [hi] at e1; cases e1
        rw [List.getElem?_set_self hiσ] at e2
        cases e2
        exact ⟨u, r, .inr ⟨.inl hk, c, hc, hc'⟩⟩
      · rw [List.getElem?_set_ne (Ne.symm hj)] at e2
        obtain ⟨u', r', q⟩ := hl j y v' e1 e2 e3
        refine ⟨u', r', ?_⟩
        rcases q with q | ⟨k, c', e, z'⟩
        · exact .inl q
        · refine .inr ⟨k, c', e, z'.sameBut hs ?_⟩
          rintro rfl
          exact hj (nodup_ix hN e1 (I.ok.inj _ _ _ e hc ▸ hi))
    · by_cases hcc : c' = c
      · subst hcc; exact ⟨_, hc'⟩
      · obtain ⟨w2, z2⟩ := I.cell y c' e
        exact ⟨w2, z2.sameBut hs hcc⟩
    · obtain ⟨e, n, ne, nf, d⟩ := I.pin p hp
      refine ⟨(hs.2 p.1 ?_).trans e, n, ne, nf, d⟩
      intro q
      rw [q, hoc] at e
      have q' : oc = p.2 := Option.some.inj e
      exact d w' (by rw [← q']; exact hocd)
theorem store_ok {M : Model} {A : Around} {E : Value->Shared->Prop} {i : Nat} {x : Str} {v : V} {u : Value} {Q : Unit->Shared->Prop} (I : Inv X pins σ H s) (hN : X.N.Nodup) (hi : X.N[i]? = some x) (hx : Loc X.env.scope x) (r : RelV v u)
    (h : ∀ s', Inv X pins (σ.set i (some v)) H s'->Q () s') (hf : X.fn x = true ∨ X.env.scope.names.lookup x = some .local := by first | exact .inl rfl | exact .inr rfl | assumption) : wpAny M A (storeName X.env x u) Q E s :=
  store_ok2 I hN hi hx r (fun s' I' _ => h s' I') hf
theorem Inv.call' {s' : Shared} {ch : List Addr} (I : Inv X pins σ H s) (ho : s'.os = s.os) (u : Un (frs X.stack) ch H H' s.heap s'.heap) (hok : HOk X.prog X.w H' s'.heap) (hg : AllBare s'.gens)
    (hch : ∀ b ∈ ch, (b ∈ X.ex ∨ X.s₀.heap.objs.size ≤ b) /\ b ≠ X.env.locals /\ (∀ x c, X.env.cells.lookup x = some c->c ≠ b) /\ ∀ p ∈ X.pn ++ pins, p.1 ≠ b) : Inv X pins σ H' s' := by
  obtain ⟨h', g', d', t', o'⟩ := s'
  have e : o' = s.os := ho
  subst e
  exact I.call (g' := g') (t' := t') (d' := d') u hok hg hch
end
abbrev XK := Value->Option Addr->Hp->Prop
abbrev St := List (Option V)
abbrev VK := V->Hp->Prop
abbrev TE := St->Hp->VK->Prop
abbrev TT := St->Hp->(Bool->Hp->Prop)->Prop
abbrev TA := St->Hp->(List V->Hp->Prop)->Prop
structure Ends where
  nx : St->Hp->Prop
  rt : VK
  bk : St->Hp->Prop := fun _ _ => False
  ct : St->Hp->Prop := fun _ _ => False
abbrev TS := Ends->St->Hp->Prop
def EP (X : Cx) (pins : List (Addr × Obj)) (σ : St) (Q : VK) (u : Value) (s' : Shared) : Prop := ∃ v H', Inv X pins σ H' s' /\ RelV v u /\ Q v H'
def TP (X : Cx) (pins : List (Addr × Obj)) (σ : St) (Q : Bool->Hp->Prop) (b : Bool) (s' : Shared) : Prop := ∃ H', Inv X pins σ H' s' /\ Q b H'
def AP (X : Cx) (pins : List (Addr × Obj)) (σ : St) (Q : List V->Hp->Prop) (us : List Value) (s' : Shared) : Prop := ∃ vs H', Inv X pins σ H' s' /\ Vals vs us /\ Q vs H'
def SP (X : Cx) (pins : List (Addr × Obj)) (D : Ends) (f : Flow) (s' : Shared) : Prop :=
  match f with
  | .next => ∃ σ' H', Inv X pins σ' H' s' /\ D.nx σ' H'
  | .brk => ∃ σ' H', Inv X pins σ' H' s' /\ D.bk σ' H'
  | .cont => ∃ σ' H', Inv X pins σ' H' s' /\ D.ct σ' H'
  | .ret u => ∃ v σ' H', Inv X pins σ' H' s' /\ RelV v u /\ D.rt v H'
def PE (X : Cx) (e : Expr) (t : TE) : Prop :=
  ∀ (pins : List (Addr × Obj)) (s : Shared) (σ : St) (H : Hp) (Q : VK), Inv X pins σ H s->t σ H Q->wpAny (model X.prog X.w) X.A (eval e X.env) (EP X pins σ Q) X.xe s
def PT (X : Cx) (e : Expr) (t : TT) : Prop :=
  ∀ (pins : List (Addr × Obj)) (s : Shared) (σ : St) (H : Hp) (Q : Bool->Hp->Prop), Inv X pins σ H s->t σ H Q->wpAny (model X.prog X.w) X.A (isTrue e X.env (eval e X.env)) (TP X pins σ Q) X.xe s
def PW (X : Cx) (e : Expr) (t : TT) : Prop :=
  ∀ (whole : Sem Value) (pins : List (Addr × Obj)) (s : Shared) (σ : St) (H : Hp) (Q : Bool->Hp->Prop), Inv X pins σ H s->t σ H Q->wpAny (model X.prog X.w) X.A (isTrue e X.env whole) (TP X pins σ Q) X.xe s
theorem PW.pt {X : Cx} {e : Expr} {t : TT} (h : PW X e t) : PT X e t := h _
def PA (X : Cx) (es : List Expr) (t : TA) : Prop :=
  ∀ (pos : Pos) (pins : List (Addr × Obj)) (s : Shared) (σ : St) (H : Hp) (Q : List V->Hp->Prop), Inv X pins σ H s->t σ H Q->wpAny (model X.prog X.w) X.A (spliced (backTo pos (starEach es X.env))) (AP X pins σ Q) X.xe s
def PS (X : Cx) (st : Stmt) (t : TS) : Prop :=
  ∀ (pins : List (Addr × Obj)) (s : Shared) (σ : St) (H : Hp) (D : Ends), Inv X pins σ H s->t D σ H->wpAny (model X.prog X.w) X.A (exec st X.env) (SP X pins D) X.xe s
def PSs (X : Cx) (st : List Stmt) (t : TS) : Prop :=
  ∀ (pins : List (Addr × Obj)) (s : Shared) (σ : St) (H : Hp) (D : Ends), Inv X pins σ H s->t D σ H->wpAny (model X.prog X.w) X.A (execs st X.env) (SP X pins D) X.xe s
theorem thn {α : Type} {t : Sem α} {Q Q' : α->Shared->Prop} {M : Model} {A : Around} {E : Value->Shared->Prop} {s : Shared} (h : wpAny M A t Q E s) (hQ : ∀ a s, Q a s->Q' a s) : wpAny M A t Q' E s := wpAny_mono h hQ fun _ _ x => x
open PySem PySem.Spec PyProof.Rows
section
variable {X : Cx}
def tVar (i : Nat) : TE := fun σ H Q => ∃ v, σ[i]? = some (some v) /\ Q v H
def tC (v : V) : TE := fun _ H Q => Q v H
theorem pe_var {i : Nat} {x : Str} {pos : Pos} (hN : X.N[i]? = some x) (hv : Vis X.env.scope x) (hd : (x == ("__debug__" : Str)) = false := by decide) (hcd : (x == ("__classdict__" : Str)) = false := by decide) : PE X (.Name x pos) (tVar i) := by
  intro pins s σ H Q I h
  obtain ⟨v, e, h⟩ := h
  obtain ⟨m, hn, hl⟩ := I.loc
  obtain ⟨u, r, l⟩ := hl i x v hN e hv
  have fin : EP X pins σ Q u s := ⟨v, H, I, r, h⟩
  rcases l with ⟨hk, hm⟩ | ⟨hk, c, hc, hcell⟩
  · exact wpAny_Name (wpAny_loadName_local I.ok.kind hk hn hm fin) hd
  · rcases hk with hk | hk
    · exact wpAny_Name (wpAny_loadName_cell I.ok.kind hk hc hcell fin) hd
    · exact wpAny_Name (wpAny_loadName_free I.ok.kind hk hc hcell fin hcd) hd
theorem pe_int {i j pos} : PE X (.Constant (.int i) j pos) (tC (.int i)) := fun _ _ _ H _ I h => wpAny_Constant_int ⟨.int i, H, I.tok _, ⟨_, rfl⟩, h⟩
theorem pe_bl {b j pos} : PE X (.Constant (.bool b) j pos) (tC (.bl b)) := fun _ _ _ H _ I h => Constant_bool ⟨.bl b, H, I, rfl, h⟩
theorem pe_non {j pos} : PE X (.Constant .none j pos) (tC .non) := fun _ _ _ H _ I h => Constant_none ⟨.non, H, I, rfl, h⟩
def Gl (X : Cx) (x : Str) : Prop := X.env.kindOf x = some .globalImplicit
theorem ld_glob {E : Value->Shared->Prop} {pins : List (Addr × Obj)} {s : Shared} {σ : St} {H : Hp} {x : Str} {u : Value} {pos : Pos} {Q : Value->Shared->Prop} (I : Inv X pins σ H s) (hg : Gl X x) (hm : X.mg x = some u) (h : Q u s)
    (hd : (x == ("__debug__" : Str)) = false := by decide) : wpAny (model X.prog X.w) X.A (eval (.Name x pos) X.env) Q E s :=
  Calls.Name_function_global I.ok.kind hg (Calls.loadGlobal_global (by rw [I.ok.glob]; exact I.mod.glob.keeps I.bk) hm h) hd
theorem ld_blt {E : Value->Shared->Prop} {pins : List (Addr × Obj)} {s : Shared} {σ : St} {H : Hp} {x : Str} {u : Value} {pos : Pos} {Q : Value->Shared->Prop} (I : Inv X pins σ H s) (hg : Gl X x) (hm : X.mg x = none) (hv : bootBuiltins x = some u) (h : Q u s)
    (hn : x ≠ "__name__" := by decide) (hd : (x == ("__debug__" : Str)) = false := by decide) : wpAny (model X.prog X.w) X.A (eval (.Name x pos) X.env) Q E s := by
  obtain ⟨mb, h1, h2⟩ := I.mod.blt
  exact Calls.Name_function_global I.ok.kind hg (Calls.loadGlobal_builtin (by rw [I.ok.glob]; exact I.mod.glob.keeps I.bk) hm (by rw [I.ok.blt]; exact h1.keeps I.bk) ((h2 x hn).trans hv) h) hd
theorem pe_bltn {x : Str} {v : V} {u : Value} {pos : Pos} (hg : Gl X x) (hm : X.mg x = none) (hv : bootBuiltins x = some u) (r : RelV v u) (hn : x ≠ "__name__" := by decide) (hd : (x == ("__debug__" : Str)) = false := by decide) : PE X (.Name x pos) (tC v) :=
  fun _ _ _ H _ I h => ld_blt I hg hm hv ⟨v, H, I, r, h⟩ hn hd
variable {a b : Expr} {ta tb : TE} {pos : Pos}
def PC (X : Cx) (op : CmpOp) (a b : Expr) (t : TE) : Prop :=
  ∀ (pins : List (Addr × Obj)) (s : Shared) (σ : St) (H : Hp) (Q : VK), Inv X pins σ H s->t σ H Q →
    wpAny (model X.prog X.w) X.A (eval a X.env) (fun v s₁ => wpAny (model X.prog X.w) X.A (eval b X.env) (fun u s₂ => wpAny (model X.prog X.w) X.A (compareOp op v u) (EP X pins σ Q) X.xe s₂) X.xe s₁) X.xe s
theorem nobehind (b : Expr) {op : CmpOp} (h : op ≠ .In) (h2 : op ≠ .NotIn) : behindInMarks op b = false := by
  have e1 : (op == CmpOp.In) = false := by cases op <;> first | rfl | exact absurd rfl h
  have e2 : (op == CmpOp.NotIn) = false := by cases op <;> first | rfl | exact absurd rfl h2
  cases b <;> simp [behindInMarks, e1, e2]
def tB (t : TE) : TT := fun σ H Q => t σ H fun x H1 => ∃ c, x = .bl c /\ Q c H1
theorem pt_cmp {op : CmpOp} {t : TE} (h : PC X op a b t) (h1 : behindInMarks op b = false := by first | exact nobehind _ (by decide) (by decide) | rfl) : PT X (.Compare a [op] [b] pos) (tB t) := by
  intro pins s σ H Q I hw
  refine wpAny_isTrue_Compare1 (thn (h pins s σ H _ I hw) fun v s1 h1 => thn h1 fun u s2 h2 => thn h2 fun c s3 ⟨x, H1, I1, r1, q1⟩ => ?_) h1
  obtain ⟨d, rfl, q⟩ := q1
  cases r1
  exact wpAny_truthy_bool ⟨H1, I1, q⟩
theorem pt_val {e : Expr} {t : TE} (h : PE X e t) (he : ∀ whole, isTrue e X.env whole = (do let v ← whole; standAt e.pos; holding [v] (truthy v)) := by intro _; rfl) : PT X e (tB t) := by
  intro pins s σ H Q I hw
  refine isTrue_plain (thn (h pins s σ H _ I hw) fun v s1 ⟨x, H1, I1, r1, q1⟩ => ?_) (he _)
  obtain ⟨d, rfl, q⟩ := q1
  cases r1
  exact wpAny_truthy_bool ⟨H1, I1, q⟩
variable {tA tB' : TT} {rest : List Expr}
def tAnd (t u : TT) : TT := fun σ H Q => t σ H fun c H1 => if c = true then u σ H1 Q else Q false H1
def tOr (t u : TT) : TT := fun σ H Q => t σ H fun c H1 => if c = true then Q true H1 else u σ H1 Q
def tNot (t : TT) : TT := fun σ H Q => t σ H fun c H1 => Q (!c) H1
theorem pw_and1 (ha : PT X a tA) : PW X (.BoolOp .And [a] pos) tA := by
  intro wh pins s σ H Q I h
  refine isTrue_and (thn (ha pins s σ H Q I h) fun c s1 e => ?_)
  cases c with
  | true => exact isTrue_and_nil e
  | false => exact e
theorem pw_or1 (ha : PT X a tA) : PW X (.BoolOp .Or [a] pos) tA := by
  intro wh pins s σ H Q I h
  refine isTrue_or (thn (ha pins s σ H Q I h) fun c s1 e => ?_)
  cases c with
  | false => exact isTrue_or_nil e
  | true => exact e
theorem pw_and (ha : PT X a tA) (hb : PW X (.BoolOp .And (b :: rest) pos) tB') : PW X (.BoolOp .And (a :: b :: rest) pos) (tAnd tA tB') := by
  intro wh pins s σ H Q I h
  refine isTrue_and (thn (ha pins s σ H _ I h) fun c s1 ⟨H1, I1, q1⟩ => ?_)
  cases c with
  | true => exact hb wh pins s1 σ H1 Q I1 q1
  | false => exact ⟨H1, I1, q1⟩
theorem pw_or (ha : PT X a tA) (hb : PW X (.BoolOp .Or (b :: rest) pos) tB') : PW X (.BoolOp .Or (a :: b :: rest) pos) (tOr tA tB') := by
  intro wh pins s σ H Q I h
  refine isTrue_or (thn (ha pins s σ H _ I h) fun c s1 ⟨H1, I1, q1⟩ => ?_)
  cases c with
  | true => exact ⟨H1, I1, q1⟩
  | false => exact hb wh pins s1 σ H1 Q I1 q1
theorem pt_not (ha : PT X a tA) : PT X (.UnaryOp .Not a pos) (tNot tA) := by
  intro pins s σ H Q I h
  exact isTrue_not (ha pins s σ H (fun c H1 => Q (!c) H1) I h)
def tAndV (ta tb : TE) : TE := fun σ H Q => ta σ H fun x H1 => ∃ c, x = .bl c /\ if c = true then tb σ H1 Q else Q (.bl false) H1
def tNotV (ta : TE) : TE := fun σ H Q => ta σ H fun x H1 => ∃ c, x = .bl c /\ Q (.bl (!c)) H1
theorem pe_one {op} {t : TE} (h : PE X a t) : PE X (.BoolOp op [a] pos) t := fun pins s σ H Q I hw => BoolOp_one (h pins s σ H Q I hw)
theorem pe_and (ha : PE X a ta) (hb : PE X (.BoolOp .And (b :: rest) pos) tb) : PE X (.BoolOp .And (a :: b :: rest) pos) (tAndV ta tb) := by
  intro pins s σ H Q I h
  refine BoolOp_and (thn (ha pins s σ H _ I h) fun v s1 ⟨x, H1, I1, r1, q1⟩ => ?_)
  obtain ⟨c, rfl, q1⟩ := q1
  cases r1
  refine wpAny_truthy_bool ?_
  cases c with
  | true => exact hb pins s1 σ H1 Q I1 q1
  | false => exact ⟨.bl false, H1, I1, rfl, q1⟩
theorem pe_not (ha : PE X a ta) : PE X (.UnaryOp .Not a pos) (tNotV ta) := by
  intro pins s σ H Q I h
  refine UnaryOp_ (thn (ha pins s σ H _ I h) fun v s1 ⟨x, H1, I1, r1, q1⟩ => ?_)
  obtain ⟨c, rfl, q1⟩ := q1
  cases r1
  exact not_of (wpAny_truthy_bool ⟨.bl (!c), H1, I1, rfl, q1⟩)
def tIf (t : TT) (ta tb : TE) : TE := fun σ H Q => t σ H fun c H1 => if c = true then ta σ H1 Q else tb σ H1 Q
theorem pe_ifExp {c : Expr} (hc : PT X c tA) (ha : PE X a ta) (hb : PE X b tb) : PE X (.IfExp c a b pos) (tIf tA ta tb) := by
  intro pins s σ H Q I h
  refine wpAny_IfExp (thn (hc pins s σ H _ I h) fun d s1 ⟨H1, I1, q1⟩ => ?_)
  cases d with
  | true => exact ha pins s1 σ H1 Q I1 q1
  | false => exact hb pins s1 σ H1 Q I1 q1
end
open PySem PySem.Spec PyProof.Rows
def SqL (K : PySem.W.Frag) (H : Hp) (a : Addr) (xs : List V) : Prop :=
  Rd H a (.lst xs) ∨
    ∃ (o : Obj) (its : Array Value) (n : Nat), K.lookup a = some o /\ o.cls = .type "list" /\ o.dict = none /\ o.data = .seq its n /\ its.size ≤ sizeLine /\ Vals xs its.toList
def SqT (K : PySem.W.Frag) (H : Hp) (a : Addr) (xs : List V) : Prop :=
  Rd H a (.tup xs) ∨
    ∃ (o : Obj) (its : Array Value) (n : Nat), K.lookup a = some o /\ o.cls = .type "tuple" /\ o.data = .seq its n /\ its.size ≤ sizeLine /\ Vals xs its.toList
def absV : Value->Option V
  | .none => some .non
  | .bool b => some (.bl b)
  | .int i _ => some (.int i)
  | .str x _ => some (.str x)
  | .bytes b _ => some (.byt b)
  | .float b _ => some (.flt b)
  | .ref a => some (.ref a)
  | .type n => some (.ty n)
  | _ => none
theorem RelV.abs {x : V} {u : Value} (r : RelV x u) : absV u = some x := by
  cases x with
  | non => cases r; rfl
  | bl _ => cases r; rfl
  | int _ => obtain ⟨t, rfl⟩ := r; rfl
  | str _ => obtain ⟨t, rfl⟩ := r; rfl
  | byt _ => obtain ⟨t, rfl⟩ := r; rfl
  | flt _ => obtain ⟨t, rfl⟩ := r; rfl
  | ref _ => cases r; rfl
  | ty _ => cases r; rfl
theorem RelV.inj {x y : V} {u : Value} (r : RelV x u) (q : RelV y u) : x = y := Option.some.inj (r.abs.symm.trans q.abs)
theorem Vals.inj : ∀ {xs ys : List V} {us : List Value}, Vals xs us->Vals ys us->xs = ys
  | _, _, _, .nil, .nil => rfl
  | _, _, _, .cons r t, .cons r' t' => by rw [r.inj r', Vals.inj t t']
section
variable {X : Cx} {pins : List (Addr × Obj)} {σ : St} {H : Hp} {s : Shared} {a : Addr} {xs ys : List V}
theorem SqL.of {K : PySem.W.Frag} (h : H a = some (.lst xs)) : SqL K H a xs := .inl (.inl h)
theorem SqT.of {K : PySem.W.Frag} (h : H a = some (.tup xs)) : SqT K H a xs := .inl (.inl h)
theorem Inv.list (I : Inv X pins σ H s) (h : SqL X.K H a xs) : ∃ its : List Value, Vals xs its /\ PlainL s.heap a its.toArray /\ xs.length ≤ sizeLine := by
  rcases h with h | ⟨o, its, n, hk, hc, hd, hs, hz, r⟩
  · obtain ⟨z, its, n, r, e⟩ := h.ok I.hok
    exact ⟨its, r, ⟨_, n, e, rfl, rfl, rfl⟩, z⟩
  · refine ⟨its.toList, r, ⟨o, n, I.kIn a o hk, hc, hd, by simpa using hs⟩, ?_⟩
    have e := r.length
    simp only [Array.length_toList] at e
    omega
theorem Inv.tuple (I : Inv X pins σ H s) (h : SqT X.K H a xs) : ∃ its : List Value, Vals xs its /\ IsTup s.heap a its.toArray /\ xs.length ≤ sizeLine := by
  rcases h with h | ⟨o, its, n, hk, hc, hs, hz, r⟩
  · obtain ⟨z, its, r, p⟩ := h.ok I.hok
    exact ⟨its, r, p, z⟩
  · refine ⟨its.toList, r, ⟨o, I.kIn a o hk, hc, n, by simpa using hs⟩, ?_⟩
    have e := r.length
    simp only [Array.length_toList] at e
    omega
theorem Inv.list_inj (I : Inv X pins σ H s) (h : SqL X.K H a xs) (h' : SqL X.K H a ys) : xs = ys := by
  obtain ⟨its, r, ⟨o, n, e, _, _, d⟩, _⟩ := I.list h
  obtain ⟨its', r', ⟨o', n', e', _, _, d'⟩, _⟩ := I.list h'
  rw [e] at e'; cases e'
  rw [d] at d'
  injection d' with d1 _
  have : its = its' := by simpa using congrArg Array.toList d1
  subst this
  exact r.inj r'
end
abbrev Cx.wish (X : Cx) (E : Value->Shared->Prop) : Cx := { X with xe := E }
abbrev Cx.nox (X : Cx) : Cx := X.wish fun _ _ => False
theorem Cx.Ok.wish {X : Cx} (ok : X.Ok) (E : Value->Shared->Prop) : (X.wish E).Ok :=
  ⟨ok.mod, ok.kind, ok.glob, ok.blt, ok.above, ok.inj, ok.has, ok.cab, ok.hd, ok.frames, ok.stk, ok.exf, ok.bs, ok.bsz, ok.noex, ok.exfs, ok.funs, ok.frf⟩
theorem Cx.Ok.unwish {X : Cx} {E : Value->Shared->Prop} (ok : (X.wish E).Ok) : X.Ok :=
  ⟨ok.mod, ok.kind, ok.glob, ok.blt, ok.above, ok.inj, ok.has, ok.cab, ok.hd, ok.frames, ok.stk, ok.exf, ok.bs, ok.bsz, ok.noex, ok.exfs, ok.funs, ok.frf⟩
section
variable {X : Cx} {pins : List (Addr × Obj)} {σ : St} {H : Hp} {s : Shared} {E : Value->Shared->Prop}
theorem Inv.wish (I : Inv X pins σ H s) (E : Value->Shared->Prop) : Inv (X.wish E) pins σ H s := ⟨I.ok.wish E, I.os, I.bare, I.base, I.loc, I.cell, I.free, I.freeC, I.pin, I.hok, I.len⟩
theorem Inv.unwish (I : Inv (X.wish E) pins σ H s) : Inv X pins σ H s := ⟨I.ok.unwish, I.os, I.bare, I.base, I.loc, I.cell, I.free, I.freeC, I.pin, I.hok, I.len⟩
end
section
variable {X : Cx} {st : Stmt} {rest : List Stmt} {t u : TS} {e : Expr} {te : TE} {pos : Pos}
def tNext : TS := fun D σ H => D.nx σ H
def tSeq (t u : TS) : TS := fun D σ H => t { D with nx := u D } σ H
theorem pss_nil : PSs X [] tNext := fun _ _ σ H _ I h => wpAny_execs_nil ⟨σ, H, I, h⟩
theorem pss_cons (h1 : PS X st t) (h2 : PSs X rest u) : PSs X (st :: rest) (tSeq t u) := by
  intro pins s σ H D I h
  refine wpAny_execs_cons (thn (h1 pins s σ H { D with nx := u D } I h) fun f s1 q => ?_)
  cases f with
  | next =>
    obtain ⟨σ', H', I', q⟩ := q
    exact h2 pins s1 σ' H' D I' q
  | ret v => exact q
  | brk => exact q
  | cont => exact q
theorem pss_one (h1 : PS X st t) : PSs X [st] t := by
  intro pins s σ H D I h
  refine wpAny_execs_cons (thn (h1 pins s σ H D I h) fun f s1 q => ?_)
  cases f with
  | next => exact wpAny_execs_nil q
  | ret v => exact q
  | brk => exact q
  | cont => exact q
def tBreak : TS := fun D σ H => D.bk σ H
theorem ps_break : PS X (.Break pos) tBreak := fun _ _ σ H _ I h => wpAny_Break ⟨σ, H, I, h⟩
theorem Inv.quiet {pins : List (Addr × Obj)} {σ : St} {H : Hp} {s : Shared} (I : Inv X pins σ H s) : interactive X.env = false := by simp [interactive, I.ok.kind]
def tDrop (te : TE) : TS := fun D σ H => te σ H fun _ H1 => D.nx σ H1
theorem ps_expr (he : PE X e te) (hs : swapsWith e none pos.line X.env = pure false := by rfl) : PS X (.Expr e pos) (tDrop te) := by
  intro pins s σ H D I h
  exact wpAny_Expr_any (thn (he pins s σ H _ I h) fun v s1 ⟨x, H1, I1, r1, q1⟩ => ⟨σ, H1, I1, q1⟩) I.quiet hs
def tRet (te : TE) : TS := fun D σ H => te σ H D.rt
theorem ps_ret (he : PE X e te) : PS X (.Return (some e) pos) (tRet te) := by
  intro pins s σ H D I h
  exact wpAny_Return_some (thn (he pins s σ H _ I h) fun v s1 ⟨x, H1, I1, r1, q1⟩ => ⟨x, σ, H1, I1, r1, q1⟩)
def tIfS (c : TT) (t u : TS) : TS := fun D σ H => c σ H fun b H1 => if b = true then t D σ H1 else u D σ H1
theorem ps_if {c : Expr} {a b : List Stmt} {tc : TT} (hc : PT X c tc) (ha : PSs X a t) (hb : PSs X b u) : PS X (.If c a b pos) (tIfS tc t u) := by
  intro pins s σ H D I h
  refine wpAny_If (thn (hc pins s σ H _ I h) fun d s1 ⟨H1, I1, q1⟩ => ?_)
  cases d with
  | true => exact ha pins s1 σ H1 D I1 q1
  | false => exact hb pins s1 σ H1 D I1 q1
end
abbrev TG := V->St->Hp->(St->Hp->Prop)->Prop
def PG (X : Cx) (target : Expr) (t : TG) : Prop :=
  ∀ (pins : List (Addr × Obj)) (s : Shared) (σ : St) (H : Hp) (v : V) (u : Value) (Q : St->Hp->Prop), Inv X pins σ H s->RelV v u->t v σ H Q →
    wpAny (model X.prog X.w) X.A (assign target X.env u) (fun _ s' => ∃ σ' H', Inv X pins σ' H' s' /\ Q σ' H') X.xe s
abbrev TSet := V->V->V->Hp->(Hp->Prop)->Prop
def PSet (X : Cx) (t : TSet) : Prop :=
  ∀ (pins : List (Addr × Obj)) (s : Shared) (σ : St) (H : Hp) (o i v : V) (ov iv u : Value) (Q : Hp->Prop), Inv X pins σ H s->RelV o ov->RelV i iv->RelV v u->t o i v H Q →
    wpAny (model X.prog X.w) X.A (setItem ov iv u) (fun _ s' => ∃ H', Inv X pins σ H' s' /\ Q H') X.xe s
section
variable {X : Cx} {pos : Pos}
def gName (i : Nat) : TG := fun v σ H Q => Q (σ.set i (some v)) H
theorem pg_name {i : Nat} {x : Str} (hN : X.N.Nodup) (hi : X.N[i]? = some x) (hx : Loc X.env.scope x) (hf : X.fn x = true ∨ X.env.scope.names.lookup x = some .local := by first | exact .inl rfl | exact .inr rfl | assumption) : PG X (.Name x pos) (gName i) := by
  intro pins s σ H v u Q I r h
  exact wpAny_assign_Name (store_ok I hN hi hx r (fun s' I' => ⟨_, H, I', h⟩) hf)
def gSub (to ti : TE) (t : TSet) : TG := fun v σ H Q => to σ H fun o H1 => ti σ H1 fun i H2 => t o i v H2 fun H3 => Q σ H3
theorem pg_sub {o i : Expr} {to ti : TE} {t : TSet} (ho : PE X o to) (hi : PE X i ti) (hs : PSet X t)
    (ha : ∀ v, assign (.Subscript o i pos) X.env v = (do
      let ov ← holding [v] (eval o X.env)
      let iv ← holding [v, ov] (eval i X.env)
      standAt pos
      holding [v, ov, iv] (setItem ov iv v)
      release [v, ov, iv] []) := by intro _; rfl) : PG X (.Subscript o i pos) (gSub to ti t) := by
  intro pins s σ H v u Q I r h
  rw [ha]
  refine wpAny_bind (wpAny_holding (thn (ho pins s σ H _ I h) fun ov s1 ⟨x, H1, I1, r1, q1⟩ => ?_))
  refine wpAny_bind (wpAny_holding (thn (hi pins s1 σ H1 _ I1 q1) fun iv s2 ⟨y, H2, I2, r2, q2⟩ => ?_))
  refine wpAny_bind (wpAny_standAt (wpAny_bind (wpAny_holding (thn (hs pins s2 σ H2 x y v ov iv u _ I2 r1 r2 r q2) fun _ s3 ⟨H3, I3, q3⟩ => ?_))))
  exact wpAny_release ⟨σ, H3, I3, q3⟩
def tAsg (te : TE) (g : TG) : TS := fun D σ H => te σ H fun x H1 => g x σ H1 D.nx
theorem ps_asg {tg e : Expr} {te : TE} {g : TG} (he : PE X e te) (hg : PG X tg g) (hs : swapsWithSole [tg] e pos.line X.env = pure false := by rfl) (hw : swappedStores [tg] e X.env = pure none := by rfl)
    (h1 : (assignEach [tg] X.env).map (·.2) = [assign tg X.env] := by rfl) : PS X (.Assign [tg] e pos) (tAsg te g) := by
  intro pins s σ H D I h
  refine wpAny_Assign_stores (thn (he pins s σ H _ I h) fun v s1 ⟨x, H1, I1, r1, q1⟩ => ?_) hs hw
  rw [h1]
  exact thn (hg pins s1 σ H1 x v _ I1 r1 q1) fun _ s2 q => q
theorem ps_set {i : Nat} {x : Str} {e : Expr} {te : TE} {pos' : Pos} (hN : X.N.Nodup) (hi : X.N[i]? = some x) (hx : Loc X.env.scope x) (he : PE X e te) (hs : swapsWith e (some (.Name x pos')) pos.line X.env = pure false := by rfl) (hf : X.fn x = true ∨ X.env.scope.names.lookup x = some .local := by first | exact .inl rfl | exact .inr rfl | assumption) :
    PS X (.Assign [.Name x pos'] e pos) (tAsg te (gName i)) := by
  intro pins s σ H D I h
  refine wpAny_Assign_Name (thn (he pins s σ H _ I h) fun v s1 ⟨y, H1, I1, r1, q1⟩ => ?_) hs
  exact store_ok I1 hN hi hx r1 (fun s2 I2 => ⟨_, H1, I2, q1⟩) hf
end
section
variable {X : Cx} {pos : Pos}
def tWhile (c : TT) (tb : TS) : TS := fun D σ H => ∃ W : Nat->St->Hp->Prop, (∃ m, W m σ H) /\ ∀ m σ H, W m σ H →
  c σ H fun b H1 => if b = true then ∃ N : St->Hp->Prop, (∀ σ' H', N σ' H'->∃ m', m' < m /\ W m' σ' H') /\ tb { D with nx := N, ct := N, bk := D.nx } σ H1 else D.nx σ H1
theorem ps_while {c : Expr} {body : List Stmt} {tc : TT} {tb : TS} (hp : PassesOwn (model X.prog X.w) X.A X.env X.xe) (hc : PT X c tc) (hb : PSs X body tb) : PS X (.While c body [] pos) (tWhile tc tb) := by
  intro pins s σ H D I h
  obtain ⟨W, ⟨m0, w0⟩, turn⟩ := h
  refine wpAny_While (codeAny_whileLoop (fun n s' => ∃ σ' H', Inv X pins σ' H' s' /\ W n σ' H') ?_ m0 ⟨σ, H, I, w0⟩)
  rintro n s1 ⟨σ1, H1, I1, w1⟩
  refine wpAny_passesOwn hp (thn (hc pins s1 σ1 H1 _ I1 (turn n σ1 H1 w1)) fun b s2 ⟨H2, I2, q2⟩ => ?_)
  cases b with
  | true =>
    obtain ⟨N, hN, q2⟩ := q2
    rw [if_pos rfl]
    refine wpAny_passesOwn hp (thn (hb pins s2 σ1 H2 _ I2 q2) fun f s3 q3 => ?_)
    cases f with
    | next =>
      obtain ⟨σ3, H3, I3, n3⟩ := q3
      obtain ⟨m', hm, w3⟩ := hN σ3 H3 n3
      exact ⟨m', hm, σ3, H3, I3, w3⟩
    | cont =>
      obtain ⟨σ3, H3, I3, n3⟩ := q3
      obtain ⟨m', hm, w3⟩ := hN σ3 H3 n3
      exact ⟨m', hm, σ3, H3, I3, w3⟩
    | brk => exact q3
    | ret v => exact q3
  | false =>
    rw [if_neg Bool.false_ne_true]
    exact wpAny_execs_nil ⟨σ1, H2, I2, q2⟩
end
structure It where
  go : Nat->Hp->Prop
  yld : Nat->Hp->V->Hp->Prop
  stop : Nat->Hp->Prop
def FpOk (X : Cx) (pins : List (Addr × Obj)) (H : Hp) (b : Addr) : Prop :=
  H b = none /\ b ≠ X.env.locals /\ b ∉ X.fs /\ (b ∈ X.ex ∨ X.s₀.heap.objs.size ≤ b) /\ (∀ x c, X.env.cells.lookup x = some c->c ≠ b) /\ ∀ p ∈ X.pn ++ pins, p.1 ≠ b
theorem Inv.fpOk {X : Cx} {pins : List (Addr × Obj)} {σ : St} {H H' : Hp} {s : Shared} {b : Addr} (I : Inv X pins σ H s) (hb : s.heap.objs.size ≤ b) (hn : H' b = none) : FpOk X pins H' b := by
  refine ⟨hn, Nat.ne_of_gt (Nat.lt_of_lt_of_le I.lt hb), I.nofs hb, .inr (Nat.le_trans I.sz hb), fun x c e z => ?_, fun p hp z => ?_⟩
  · obtain ⟨v, q⟩ := I.cell x c e
    exact absurd (Nat.lt_of_lt_of_le q.lt (by rw [z]; exact hb)) (Nat.lt_irrefl _)
  · exact absurd (Nat.lt_of_lt_of_le (Heap.lt_size (I.pin p hp).1) (by rw [z]; exact hb)) (Nat.lt_irrefl _)
structure Turn (P : Program) (w : World) (K : PySem.W.Frag) (tg : Expr) (J : It) (fp : List Addr) (it : Addr) (tn : Nat->Heap->Prop) : Prop where
  mem : it ∈ fp
  obj : ∀ i h, tn i h->∀ b ∈ fp, ∃ o, h.get? b = some o /\ ∀ v, o.data ≠ .cell v
  keep : ∀ i h h', tn i h->(∀ b ∈ fp, ∀ o, h.get? b = some o->h'.get? b = some o)->tn i h'
  item : ∀ (X : Cx), X.prog = P->X.w = w->X.K = K->X.calm = true->∀ (i : Nat) (pins : List (Addr × Obj)) (s : Shared) (σ : St) (H : Hp) (E : Value->Shared->Prop), Inv X pins σ H s->(∀ b ∈ fp, FpOk X pins H b)->tn i s.heap->J.go i H →
    wpAny (model P w) X.A (pyNext (.ref it)) (fun r s1 => ∃ u, r = some u ∧
      wpAny (model P w) X.A (letOwnedTupleGo tg (.ref it) u) (fun _ s2 => ∃ x H', Inv X pins σ H' s2 /\ RelV x u /\ J.yld i H x H' /\ tn (i + 1) s2.heap /\ ∀ b ∈ fp, H' b = none) E s1) E s
  done : ∀ (X : Cx), X.prog = P->X.w = w->X.K = K->X.calm = true->∀ (i : Nat) (pins : List (Addr × Obj)) (s : Shared) (σ : St) (H : Hp) (E : Value->Shared->Prop), Inv X pins σ H s->(∀ b ∈ fp, FpOk X pins H b)->tn i s.heap->J.stop i H →
    wpAny (model P w) X.A (pyNext (.ref it)) (fun r s1 => r = none /\ Inv X pins σ H s1) E s
  self : ∀ (A : Around) (i : Nat) (s : Shared) (Q : Value->Shared->Prop) (E : Value->Shared->Prop), tn i s.heap->Q (.ref it) s->wpAny (model P w) A (pyIter (.ref it)) Q E s
abbrev TI := St->Hp->(It->Hp->Prop)->Prop
def PIE (X : Cx) (pins : List (Addr × Obj)) (σ : St) (tg : Expr) (R : It->Hp->Prop) (itv : Value) (s2 : Shared) : Prop :=
  ∃ (it : Addr) (fp : List Addr) (tn : Nat->Heap->Prop) (J : It) (H' : Hp), itv = .ref it /\ Inv X pins σ H' s2 /\ Turn X.prog X.w X.K tg J fp it tn /\ tn 0 s2.heap /\ (∀ b ∈ fp, FpOk X pins H' b) /\ R J H'
def PI (X : Cx) (tg iter : Expr) (wi : TI) : Prop :=
  ∀ (pins : List (Addr × Obj)) (s : Shared) (σ : St) (H : Hp) (R : It->Hp->Prop), Inv X pins σ H s->wi σ H R →
    wpAny (model X.prog X.w) X.A (eval iter X.env) (fun v s1 => wpAny (model X.prog X.w) X.A (pyIter v) (PIE X pins σ tg R) X.xe s1) X.xe s
theorem go_of {M : Model} {A : Around} {E : Value->Shared->Prop} {s : Shared} {tg : Expr} {it : Addr} {u : Value} {o : Obj} {n : String} {vs : Array Value} {Q : Unit->Shared->Prop} (ho : s.heap.get? it = some o) (hc : o.cls = .type n) (hd : o.data = .fields vs)
    (hn : ["enumerate", "zip", "dict_itemiterator", "dict_reverseitemiterator", "odict_iterator", "itertools.zip_longest", "itertools.pairwise"].contains n = false) (hQ : Q () s) : wpAny M A (letOwnedTupleGo tg (.ref it) u) Q E s := by
  unfold letOwnedTupleGo
  cases tg <;> first
    | exact wpAny_pure hQ
    | (cases u <;> first
        | exact wpAny_pure hQ
        | (refine wpAny_bind (wpAny_load ho ?_)
           rw [hc, hd]
           show wpAny M A (if (["enumerate", "zip", "dict_itemiterator", "dict_reverseitemiterator", "odict_iterator", "itertools.zip_longest", "itertools.pairwise"].contains n && vs[0]? == some (rawInt _)) = true then _ else _) Q E s
           rw [if_neg (by intro h; rw [hn, Bool.false_and] at h; cases h)]
           exact wpAny_pure hQ))
def Itl (K : PySem.W.Frag) (a : Addr) : It :=
  ⟨fun i H => ∃ xs x, SqL K H a xs /\ xs[i]? = some x, fun i H x H' => H' = H /\ ∀ xs, SqL K H a xs->xs[i]? = some x, fun i H => ∃ xs, SqL K H a xs /\ xs.length ≤ i⟩
def Itr (lo : Int) (n : Nat) : It := ⟨fun i _ => i < n, fun i H x H' => H' = H /\ x = .int (lo + i), fun i _ => n ≤ i⟩
theorem turn_list {P : Program} {w : World} {K : PySem.W.Frag} {tg : Expr} (a it : Addr) : Turn P w K tg (Itl K a) [it] it (fun i h => h.IsListIter it a i) where
  mem := by simp
  obj := fun i h st b hb => by
    have e : b = it := by simpa using hb
    subst e
    obtain ⟨o, e, c, d⟩ := st
    exact ⟨o, e, fun v z => by rw [d] at z; cases z⟩
  keep := fun i h h' st k => st.at fun o e => k it (by simp) o e
  item := by
    intro X hP hw hK hc i pins s σ H E I hf st hg
    subst hP hw hK
    obtain ⟨xs, x, hq, hx⟩ := hg
    obtain ⟨its, rv, p, hz⟩ := I.list hq
    obtain ⟨u, hu, ru⟩ := rv.get hx
    obtain ⟨f0, f1, f2, f3, f4, f5⟩ := hf it (by simp)
    refine wpAny_pyNext_list_item st p.isList (x := u) (by simpa using hu) fun h' st' sb => ?_
    have I1 : Inv X pins σ H { s with heap := h' } := I.turned (t' := s.toks) (fun b o hb e => (sb.2 b hb).trans e) f0 f1 f3 f4 f5
    obtain ⟨o, e, c, d⟩ := id st'
    exact ⟨u, rfl, go_of (s := { s with heap := h' }) e c d (by decide) ⟨x, H, I1, ru, ⟨rfl, fun ys hy => by rw [I.list_inj hy hq]; exact hx⟩, st', fun b hb => (hf b hb).1⟩⟩
  done := by
    intro X hP hw hK hc i pins s σ H E I hf st hg
    subst hP hw hK
    obtain ⟨xs, hq, hx⟩ := hg
    obtain ⟨its, rv, p, hz⟩ := I.list hq
    obtain ⟨f0, f1, f2, f3, f4, f5⟩ := hf it (by simp)
    have hl := rv.length
    exact wpAny_pyNext_list_end (I.ok.hd hc) st p.isList (by simp; omega) fun h' eb => ⟨rfl, I.turned (t' := s.toks) (fun b o hb e => eb b o hb e) f0 f1 f3 f4 f5⟩
  self := fun _ _ _ _ _ st h => wpAny_pyIter_listiter st h
theorem turn_range {P : Program} {w : World} {K : PySem.W.Frag} {tg : Expr} (it : Addr) (lo : Int) (n : Nat) : Turn P w K tg (Itr lo n) [it] it (fun i h => IsRangeIter h it (lo + (i : Nat) * 1) ((n : Int) - (i : Nat)) 1) where
  mem := by simp
  obj := fun i h st b hb => by
    have e : b = it := by simpa using hb
    subst e
    exact ⟨_, st, fun v z => by
      have z' : Data.fields _ = Data.cell v := z
      cases z'⟩
  keep := fun i h h' st k => k it (by simp) _ st
  item := by
    intro X hP hw hK hc i pins s σ H E I hf st hg
    subst hP hw hK
    obtain ⟨f0, f1, f2, f3, f4, f5⟩ := hf it (by simp)
    have W := Walks.range (prog := X.prog) (w := X.w) (I.ok.hd hc) it lo 1 n
    refine W.item i s _ _ hg st fun v h' tk hv st' kk => ?_
    obtain ⟨t, rfl⟩ := hv
    have I1 : Inv X pins σ H { s with heap := h', toks := tk } := I.turned (fun b o hb e => kk b o (by simpa using hb) e) f0 f1 f3 f4 f5
    refine ⟨_, rfl, go_of (s := { s with heap := h', toks := tk }) (n := "range_iterator") st' rfl rfl (by decide) ⟨.int (lo + i), H, I1, ⟨t, ?_⟩, ⟨rfl, rfl⟩, st', fun b hb => (hf b hb).1⟩⟩
    rw [Int.mul_one]
  done := by
    intro X hP hw hK hc i pins s σ H E I hf st hg
    subst hP hw hK
    obtain ⟨f0, f1, f2, f3, f4, f5⟩ := hf it (by simp)
    exact wpAny_pyNext_range_end (I.ok.hd hc) st (by have : n ≤ i := hg; omega) fun h' eb => ⟨rfl, I.turned (t' := s.toks) (fun b o hb e => eb b o hb e) f0 f1 f3 f4 f5⟩
  self := fun _ _ _ _ _ st h => wpAny_pyIter_rangeiter st h
open PySem PySem.Spec PyProof.Rows
section
variable {X : Cx} {tg : Expr}
def iList (K : PySem.W.Frag) (tl : TE) : TI := fun σ H R => tl σ H fun x H1 => ∃ a, x = .ref a /\ (∃ xs, SqL K H1 a xs) /\ R (Itl K a) H1
theorem pi_list {l : Expr} {tl : TE} (hl : PE X l tl) : PI X tg l (iList X.K tl) := by
  intro pins s σ H R I h
  refine thn (hl pins s σ H _ I h) fun v s1 ⟨x, H1, I1, r1, q1⟩ => ?_
  obtain ⟨a, e, ⟨xs, hq⟩, q⟩ := q1
  subst e
  cases r1
  obtain ⟨its, rv, p, hz⟩ := I1.list hq
  refine wpAny_pyIter_list p.isList ?_
  refine ⟨s1.heap.objs.size, [s1.heap.objs.size], _, _, H1, rfl, I1.kept (t' := s1.toks) fun b o e => Heap.get?_push_of_some _ e, turn_list a _, ⟨_, Heap.get?_push_size _ rfl, rfl, rfl⟩, fun b hb => ?_, q⟩
  have e : b = s1.heap.objs.size := by simpa using hb
  subst e
  exact I1.fpOk (Nat.le_refl _) (I1.hok.fresh (Nat.le_refl _))
theorem range_it {pins : List (Addr × Obj)} {σ : St} {H : Hp} {s : Shared} {R : It->Hp->Prop} {E : Value->Shared->Prop} {lo hi : Int} {t u v : Tok} {tk : Nat} (I : Inv X pins σ H s) (h1 : -(2 ^ 62) ≤ lo) (h2 : lo < 2 ^ 62) (h3 : -(2 ^ 62) ≤ hi) (h4 : hi < 2 ^ 62)
    (q : R (Itr lo (hi - lo).toNat) H) : wpAny (model X.prog X.w) X.A (pyIter (.ref s.heap.objs.size)) (PIE X pins σ tg R) E { s with heap := s.heap.push { cls := .type "range", data := .fields #[.int lo t, .int hi u, .int 1 v] }, toks := tk } := by
  refine wpAny_pyIter_range (IsRange.new ..) (small_one h1 h2 h3 h4) ?_
  have I1 : Inv X pins σ H { s with heap := s.heap.push { cls := .type "range", data := .fields #[.int lo t, .int hi u, .int 1 v] }, toks := tk } := I.kept fun b o e => Heap.get?_push_of_some _ e
  refine ⟨(s.heap.push { cls := .type "range", data := .fields #[.int lo t, .int hi u, .int 1 v] }).objs.size, [(s.heap.push { cls := .type "range", data := .fields #[.int lo t, .int hi u, .int 1 v] }).objs.size], _, _, H, rfl,
    I1.kept (t' := tk) fun b o e => Heap.get?_push_of_some _ e, turn_range _ lo (hi - lo).toNat, ?_, fun b hb => ?_, q⟩
  · have e1 : lo + ((0 : Nat) : Int) * 1 = lo := by simp
    have e2 : (((hi - lo).toNat : Nat) : Int) - ((0 : Nat) : Int) = Builtin.Range.rangeSize lo hi 1 := by rw [rangeSize_one]; split <;> omega
    show IsRangeIter _ _ (lo + ((0 : Nat) : Int) * 1) ((((hi - lo).toNat : Nat) : Int) - ((0 : Nat) : Int)) 1
    rw [e1, e2]
    exact Heap.get?_push_size _ rfl
  · have e : b = (s.heap.push { cls := .type "range", data := .fields #[.int lo t, .int hi u, .int 1 v] }).objs.size := by simpa using hb
    subst e
    exact I1.fpOk (Nat.le_refl _) (I1.hok.fresh (Nat.le_refl _))
def iRng1 (ta : TA) : TI := fun σ H R => ta σ H fun vs H1 => ∃ j : Int, vs = [.int j] /\ -(2 ^ 62) ≤ j /\ j < 2 ^ 62 /\ R (Itr 0 j.toNat) H1
theorem pi_range1 {a : Expr} {ta : TA} {p pos : Pos} (hg : Gl X "range") (hm : X.mg "range" = none) (ha : PA X [a] ta) (hs : starEach [a] X.env = [(false, eval a X.env)] := by rfl) : PI X tg (.Call (.Name "range" p) [a] [] pos) (iRng1 ta) := by
  intro pins s σ H R I h
  refine Call_ (ld_blt I hg hm boot_range (PyProof.Rows.callWith_type1 (thn (ha pos pins s σ H _ I h) fun us s1 ⟨vs, H1, I1, r1, q1⟩ => ?_) hs rfl))
  obtain ⟨j, e, q1, q2, q⟩ := q1
  subst e
  cases r1 with
  | cons r rr =>
    cases rr
    obtain ⟨t, rfl⟩ := r
    exact call_range_1 (range_it I1 (by omega) (by omega) q1 q2 (by simpa using q))
def tFor (wi : TI) (g : TG) (tb : TS) : TS := fun D σ H => wi σ H fun J H1 => ∃ W : Nat->Nat->St->Hp->Prop, (∃ m, W 0 m σ H1) /\ ∀ i m σ H, W i m σ H →
  (J.stop i H /\ D.nx σ H) ∨ (J.go i H /\ ∃ N : St->Hp->Prop, (∀ σ' H', N σ' H'->∃ m', m' < m /\ W (i + 1) m' σ' H') /\ ∀ x H', J.yld i H x H'->g x σ H' fun σ2 H2 => tb { D with nx := N, ct := N, bk := D.nx } σ2 H2)
def pinsAt (fp : List Addr) (h : Heap) : List (Addr × Obj) := fp.filterMap fun b => (h.get? b).map fun o => (b, o)
theorem mem_pinsAt {fp : List Addr} {h : Heap} {b : Addr} {o : Obj} (hb : b ∈ fp) (e : h.get? b = some o) : (b, o) ∈ pinsAt fp h := List.mem_filterMap.mpr ⟨b, hb, by rw [e]; rfl⟩
theorem of_pinsAt {fp : List Addr} {h : Heap} {p : Addr × Obj} (hp : p ∈ pinsAt fp h) : p.1 ∈ fp /\ h.get? p.1 = some p.2 := by
  obtain ⟨b, hb, e⟩ := List.mem_filterMap.mp hp
  cases q : h.get? b with
  | none => rw [q] at e; cases e
  | some o =>
    rw [q] at e
    have e' : (b, o) = p := Option.some.inj e
    subst e'
    exact ⟨hb, q⟩
theorem Inv.pinned {pins : List (Addr × Obj)} {σ : St} {H : Hp} {s : Shared} {fp : List Addr} (I : Inv X pins σ H s) (hf : ∀ b ∈ fp, FpOk X pins H b) (ho : ∀ b ∈ fp, ∃ o, s.heap.get? b = some o /\ ∀ v, o.data ≠ .cell v) : Inv X (pins ++ pinsAt fp s.heap) σ H s :=
  I.pins_of fun p hp => (List.mem_append.mp hp).elim (fun z => I.pin p (List.mem_append_right _ z)) fun z => by
    obtain ⟨hb, e⟩ := of_pinsAt z
    obtain ⟨f0, f1, f2, _⟩ := hf p.1 hb
    obtain ⟨o, e', d⟩ := ho p.1 hb
    rw [e] at e'; cases e'
    exact ⟨e, f0, f1, f2, d⟩
theorem Inv.unpinned {pins pl : List (Addr × Obj)} {σ : St} {H : Hp} {s : Shared} (I : Inv X (pins ++ pl) σ H s) : Inv X pins σ H s := I.pins_of fun p hp => I.pin p (List.mem_append_right _ (List.mem_append_left _ hp))
theorem ps_for {iter : Expr} {body : List Stmt} {wi : TI} {g : TG} {tb : TS} {pos : Pos} (hp : PassesOwn (model X.prog X.w) X.A X.env X.xe) (hc : X.calm = true) (hi : PI X tg iter wi) (hg : PG X tg g) (hb : PSs X body tb)
    (hs : ∀ x, foldedSetIterable iter X.env x = pure x := by intro _; rfl) : PS X (.For tg iter body [] pos) (tFor wi g tb) := by
  intro pins s σ H D I h
  refine wpAny_For (thn (hi pins s σ H _ I h) fun v s1 h1 => thn h1 fun itv s2 h2 => ?_) hs
  obtain ⟨it, fp, tn, J, H2, e, I2, T, st2, f2, W, ⟨m0, w0⟩, turn⟩ := h2
  subst e
  have stat : ∀ {H' : Hp}, (∀ b ∈ fp, H' b = none)->∀ b ∈ fp, FpOk X pins H' b := fun hn b hb => ⟨hn b hb, (f2 b hb).2⟩
  refine codeAny_forLoop_any (fun n s' => ∃ i σ' H', Inv X pins σ' H' s' /\ tn i s'.heap /\ (∀ b ∈ fp, H' b = none) /\ W i n σ' H') ?_ m0 ⟨0, σ, H2, I2, st2, fun b hb => (f2 b hb).1, w0⟩
  rintro n s3 ⟨i, σ3, H3, I3, st3, fr3, w3⟩
  rcases turn i n σ3 H3 w3 with ⟨stop, qn⟩ | ⟨go, N, hN, step⟩
  · refine wpAny_passesOwn hp (thn (T.done X rfl rfl rfl hc i pins s3 σ3 H3 X.xe I3 (stat fr3) st3 stop) fun r s4 ⟨hr, I4⟩ => ?_)
    subst hr
    exact wpAny_execs_nil ⟨σ3, H3, I4, qn⟩
  · refine wpAny_passesOwn hp (thn (T.item X rfl rfl rfl hc i pins s3 σ3 H3 X.xe I3 (stat fr3) st3 go) fun r s4 ⟨u, hr, h4⟩ => ?_)
    subst hr
    refine wpAny_passesOwn hp (thn h4 fun _ s5 ⟨x, H5, I5, r5, y5, st5, fr5⟩ => ?_)
    have I5' := I5.pinned (stat fr5) (T.obj _ _ st5)
    refine wpAny_passesOwn hp (thn (hg _ s5 σ3 H5 x u _ I5' r5 (step x H5 y5)) fun _ s6 ⟨σ6, H6, I6, q6⟩ => ?_)
    refine wpAny_passesOwn hp (thn (hb _ s6 σ6 H6 _ I6 q6) fun f s7 q7 => ?_)
    have again : ∀ {σ7 : St} {H7 : Hp}, Inv X (pins ++ pinsAt fp s5.heap) σ7 H7 s7->N σ7 H7->∃ m, m < n /\ ∃ i σ' H', Inv X pins σ' H' s7 /\ tn i s7.heap /\ (∀ b ∈ fp, H' b = none) /\ W i m σ' H' := fun {σ7 H7} I7 n7 => by
      obtain ⟨m', hm, w7⟩ := hN σ7 H7 n7
      refine ⟨m', hm, i + 1, σ7, H7, I7.unpinned, T.keep _ _ _ st5 fun b hb o e => (I7.pin (b, o) (List.mem_append_right _ (List.mem_append_right _ (mem_pinsAt hb e)))).1, fun b hb => ?_, w7⟩
      obtain ⟨o, e, d⟩ := T.obj _ _ st5 b hb
      exact (I7.pin (b, o) (List.mem_append_right _ (List.mem_append_right _ (mem_pinsAt hb e)))).2.1
    cases f with
    | next => obtain ⟨σ7, H7, I7, n7⟩ := q7; exact again I7 n7
    | cont => obtain ⟨σ7, H7, I7, n7⟩ := q7; exact again I7 n7
    | brk => obtain ⟨σ7, H7, I7, q7⟩ := q7; exact ⟨σ7, H7, I7.unpinned, q7⟩
    | ret v => obtain ⟨x7, σ7, H7, I7, r7, q7⟩ := q7; exact ⟨x7, σ7, H7, I7.unpinned, r7, q7⟩
end
theorem for_list {K : PySem.W.Frag} {a : Addr} {xs : List V} {g : TG} {tb : TS} {D : Ends} {σ : St} {H : Hp} (Pv : Nat->St->Hp->Prop) (h0 : Pv 0 σ H) (hl : ∀ i σ H, i ≤ xs.length->Pv i σ H->SqL K H a xs)
    (hs : ∀ i x σ H, xs[i]? = some x->Pv i σ H->g x σ H fun σ2 H2 => tb { D with nx := Pv (i + 1), ct := Pv (i + 1), bk := D.nx } σ2 H2) (hd : ∀ σ H, Pv xs.length σ H->D.nx σ H) :
    ∃ W : Nat->Nat->St->Hp->Prop, (∃ m, W 0 m σ H) /\ ∀ i m σ H, W i m σ H →
      ((Itl K a).stop i H /\ D.nx σ H) ∨ ((Itl K a).go i H /\ ∃ N : St->Hp->Prop, (∀ σ' H', N σ' H'->∃ m', m' < m /\ W (i + 1) m' σ' H') /\ ∀ x H', (Itl K a).yld i H x H'->g x σ H' fun σ2 H2 => tb { D with nx := N, ct := N, bk := D.nx } σ2 H2) := by
  refine ⟨fun i m σ H => m = xs.length - i /\ i ≤ xs.length /\ Pv i σ H, ⟨xs.length, by simp, Nat.zero_le _, h0⟩, ?_⟩
  rintro i m σ H ⟨rfl, hi, p⟩
  have q := hl i σ H hi p
  by_cases hlt : i < xs.length
  · refine .inr ⟨⟨xs, xs[i], q, by simp [hlt]⟩, Pv (i + 1), fun σ' H' p' => ⟨xs.length - (i + 1), by omega, rfl, hlt, p'⟩, fun x H' y => ?_⟩
    obtain ⟨e, y⟩ := y
    subst e
    exact hs i x σ _ (y xs q) p
  · have e : i = xs.length := by omega
    subst e
    exact .inl ⟨⟨xs, q, Nat.le_refl _⟩, hd σ H p⟩
theorem for_range {lo : Int} {n : Nat} {g : TG} {tb : TS} {D : Ends} {σ : St} {H : Hp} (Pv : Nat->St->Hp->Prop) (h0 : Pv 0 σ H)
    (hs : ∀ i σ H, i < n->Pv i σ H->g (.int (lo + i)) σ H fun σ2 H2 => tb { D with nx := Pv (i + 1), ct := Pv (i + 1), bk := D.nx } σ2 H2) (hd : ∀ σ H, Pv n σ H->D.nx σ H) :
    ∃ W : Nat->Nat->St->Hp->Prop, (∃ m, W 0 m σ H) /\ ∀ i m σ H, W i m σ H →
      ((Itr lo n).stop i H /\ D.nx σ H) ∨ ((Itr lo n).go i H /\ ∃ N : St->Hp->Prop, (∀ σ' H', N σ' H'->∃ m', m' < m /\ W (i + 1) m' σ' H') /\ ∀ x H', (Itr lo n).yld i H x H'->g x σ H' fun σ2 H2 => tb { D with nx := N, ct := N, bk := D.nx } σ2 H2) := by
  refine ⟨fun i m σ H => m = n - i /\ i ≤ n /\ Pv i σ H, ⟨n, by simp, Nat.zero_le _, h0⟩, ?_⟩
  rintro i m σ H ⟨rfl, hi, p⟩
  by_cases hlt : i < n
  · refine .inr ⟨hlt, Pv (i + 1), fun σ' H' p' => ⟨n - (i + 1), by omega, rfl, hlt, p'⟩, fun x H' y => ?_⟩
    obtain ⟨e, y⟩ := y
    subst e y
    exact hs i σ _ hlt p
  · have e : i = n := by omega
    subst e
    exact .inl ⟨Nat.le_refl _, hd σ H p⟩
open PySem PySem.Spec PyProof.Rows
abbrev R2 := V->V->Hp->VK->Prop
def OpR (X : Cx) (f : Value->Value->Sem Value) (r : R2) : Prop :=
  ∀ (pins : List (Addr × Obj)) (s : Shared) (σ : St) (H : Hp) (x y : V) (v u : Value) (Q : VK), Inv X pins σ H s->RelV x v->RelV y u->r x y H Q →
    wpAny (model X.prog X.w) X.A (f v u) (EP X pins σ Q) X.xe s
def UnR (X : Cx) (f : Value->Sem Value) (r : V->Hp->VK->Prop) : Prop :=
  ∀ (pins : List (Addr × Obj)) (s : Shared) (σ : St) (H : Hp) (x : V) (v : Value) (Q : VK), Inv X pins σ H s->RelV x v->r x H Q →
    wpAny (model X.prog X.w) X.A (f v) (EP X pins σ Q) X.xe s
def CallR (X : Cx) (f : Value) (r : List V->Hp->VK->Prop) : Prop :=
  ∀ (pins : List (Addr × Obj)) (s : Shared) (σ : St) (H : Hp) (xs : List V) (us : List Value) (Q : VK), Inv X pins σ H s->Vals xs us->r xs H Q →
    wpAny (model X.prog X.w) X.A (call f us) (EP X pins σ Q) X.xe s
def tOp (r : R2) (ta tb : TE) : TE := fun σ H Q => ta σ H fun x H1 => tb σ H1 fun y H2 => r x y H2 Q
def tUn (r : V->Hp->VK->Prop) (ta : TE) : TE := fun σ H Q => ta σ H fun x H1 => r x H1 Q
def rI (C : Int->Int->Prop) (g : Int->Int->V) : R2 := fun x y H Q => ∃ i j, x = .int i /\ y = .int j /\ C i j /\ Q (g i j) H
def rI0 (g : Int->Int->V) : R2 := fun x y H Q => ∃ i j, x = .int i /\ y = .int j /\ Q (g i j) H
def rU (g : Int->V) : V->Hp->VK->Prop := fun x H Q => ∃ i, x = .int i /\ Q (g i) H
section
variable {X : Cx} {a b c : Expr} {ta tb tc : TE} {pos : Pos}
theorem binT (ha : PE X a ta) (hb : PE X b tb) {pins : List (Addr × Obj)} {s : Shared} {σ : St} {H : Hp} {R : V->V->Hp->Prop} (I : Inv X pins σ H s)
    (h : ta σ H fun x H1 => tb σ H1 fun y H2 => R x y H2) {Q : Value->Shared->Prop} {f : Value->Value->Sem Value}
    (hf : ∀ v u s2 x y H2, Inv X pins σ H2 s2->RelV x v->RelV y u->R x y H2->wpAny (model X.prog X.w) X.A (f v u) Q X.xe s2) :
    wpAny (model X.prog X.w) X.A (eval a X.env) (fun v s₁ => wpAny (model X.prog X.w) X.A (eval b X.env) (fun u s₂ => wpAny (model X.prog X.w) X.A (f v u) Q X.xe s₂) X.xe s₁) X.xe s := by
  refine thn (ha pins s σ H _ I h) fun v s1 ⟨x, H1, I1, r1, q1⟩ => ?_
  refine thn (hb pins s1 σ H1 _ I1 q1) fun u s2 ⟨y, H2, I2, r2, q2⟩ => ?_
  exact hf v u s2 x y H2 I2 r1 r2 q2
theorem pe_op {op : Operator} {r : R2} (ho : OpR X (binaryOp op) r) (ha : PE X a ta) (hb : PE X b tb) : PE X (.BinOp a op b pos) (tOp r ta tb) := by
  intro pins s σ H Q I h
  exact wpAny_BinOp (binT ha hb I h fun v u s2 x y H2 I2 rx ry q => ho pins s2 σ H2 x y v u Q I2 rx ry q)
theorem pe_un {op : UnaryOp} {r : V->Hp->VK->Prop} (ho : UnR X (unaryOp op) r) (ha : PE X a ta) : PE X (.UnaryOp op a pos) (tUn r ta) := by
  intro pins s σ H Q I h
  exact UnaryOp_ (thn (ha pins s σ H _ I h) fun v s1 ⟨x, H1, I1, r1, q1⟩ => ho pins s1 σ H1 x v Q I1 r1 q1)
theorem opI {f : Value->Value->Sem Value} {C : Int->Int->Prop} {g : Int->Int->Int}
    (rule : ∀ (i j : Int) (t u : Tok) (s : Shared) (Q : Value->Shared->Prop) (E : Value->Shared->Prop), C i j->Q (.int (g i j) s.toks) { s with toks := s.toks + 1 }->wpAny (model X.prog X.w) X.A (f (.int i t) (.int j u)) Q E s) :
    OpR X f (rI C fun i j => .int (g i j)) := by
  intro pins s σ H x y v u Q I rx ry h
  obtain ⟨i, j, rfl, rfl, hc, q⟩ := h
  obtain ⟨t, rfl⟩ := rx
  obtain ⟨t', rfl⟩ := ry
  exact rule i j t t' s _ _ hc ⟨.int (g i j), H, I.tok _, ⟨_, rfl⟩, q⟩
theorem opI0 {f : Value->Value->Sem Value} {g : Int->Int->Int}
    (rule : ∀ (i j : Int) (t u : Tok) (s : Shared) (Q : Value->Shared->Prop) (E : Value->Shared->Prop), Q (.int (g i j) s.toks) { s with toks := s.toks + 1 }->wpAny (model X.prog X.w) X.A (f (.int i t) (.int j u)) Q E s) :
    OpR X f (rI0 fun i j => .int (g i j)) := by
  intro pins s σ H x y v u Q I rx ry h
  obtain ⟨i, j, rfl, rfl, q⟩ := h
  obtain ⟨t, rfl⟩ := rx
  obtain ⟨t', rfl⟩ := ry
  exact rule i j t t' s _ _ ⟨.int (g i j), H, I.tok _, ⟨_, rfl⟩, q⟩
theorem opB0 {f : Value->Value->Sem Value} {g : Int->Int->Bool}
    (rule : ∀ (i j : Int) (t u : Tok) (s : Shared) (Q : Value->Shared->Prop) (E : Value->Shared->Prop), Q (.bool (g i j)) s->wpAny (model X.prog X.w) X.A (f (.int i t) (.int j u)) Q E s) :
    OpR X f (rI0 fun i j => .bl (g i j)) := by
  intro pins s σ H x y v u Q I rx ry h
  obtain ⟨i, j, rfl, rfl, q⟩ := h
  obtain ⟨t, rfl⟩ := rx
  obtain ⟨t', rfl⟩ := ry
  exact rule i j t t' s _ _ ⟨.bl (g i j), H, I, rfl, q⟩
def CPow (i j : Int) : Prop := 0 ≤ j /\ j ≤ 1000000 /\ i.natAbs < 2 ^ 64
def CMul (i j : Int) : Prop := (-(2 ^ 64) < i /\ i < 2 ^ 64) ∨ (-(2 ^ 64) < j /\ j < 2 ^ 64)
theorem CMul.ok {i j : Int} (h : CMul i j) : IntMulOk i j := by
  rcases h with ⟨h1, h2⟩ | ⟨h1, h2⟩
  · exact .of_left (intBits_le_64 h1 h2)
  · exact .of_right (intBits_le_64 h1 h2)
theorem op_add : OpR X (binaryOp .Add) (rI0 fun i j => .int (i + j)) := opI0 fun _ _ _ _ _ _ _ q => add_int q
theorem op_sub : OpR X (binaryOp .Sub) (rI0 fun i j => .int (i - j)) := opI0 fun _ _ _ _ _ _ _ q => sub_int q
theorem op_mul : OpR X (binaryOp .Mult) (rI CMul fun i j => .int (i * j)) := opI fun _ _ _ _ _ _ _ hc q => mul_int q hc.ok
theorem op_mod : OpR X (binaryOp .Mod) (rI (fun _ j => 0 < j) fun i j => .int (i % j)) := opI fun i j _ _ _ _ _ hc q => by
  have h1 : (0 : Int) < j := hc
  exact mod_int' (by omega) (by rw [Int.fmod_eq_emod_of_nonneg i (by omega)]; exact q)
theorem op_pow : OpR X (binaryOp .Pow) (rI CPow fun i j => .int (i ^ j.toNat)) := opI fun _ _ _ _ _ _ _ hc q => pow_int_small hc.1 hc.2.1 hc.2.2 q
theorem unI {f : Value->Sem Value} {g : Int->Int}
    (rule : ∀ (i : Int) (t : Tok) (s : Shared) (Q : Value->Shared->Prop) (E : Value->Shared->Prop), Q (.int (g i) s.toks) { s with toks := s.toks + 1 }->wpAny (model X.prog X.w) X.A (f (.int i t)) Q E s) :
    UnR X f (rU fun i => .int (g i)) := by
  intro pins s σ H x v Q I rx h
  obtain ⟨i, rfl, q⟩ := h
  obtain ⟨t, rfl⟩ := rx
  exact rule i t s _ _ ⟨.int (g i), H, I.tok _, ⟨_, rfl⟩, q⟩
theorem un_neg : UnR X (unaryOp .USub) (rU fun i => .int (-i)) := unI fun _ _ _ _ _ q => neg_int q
end
def scal : V->V->Bool
  | .non, .non => true | .non, .int _ => true | .int _, .non => true | .non, .bl _ => true | .bl _, .non => true | .non, .str _ => true | .str _, .non => true
  | .int _, .int _ => true | .bl _, .bl _ => true | .str _, .str _ => true | .byt _, .byt _ => true
  | .int _, .str _ => true | .str _, .int _ => true | .bl _, .str _ => true | .str _, .bl _ => true
  | _, _ => false
def rEq : R2 := fun x y H Q => scal x y = true /\ Q (.bl (decide (x = y))) H
def rNe : R2 := fun x y H Q => scal x y = true /\ Q (.bl (!decide (x = y))) H
theorem dec_int {i j : Int} : decide (V.int i = V.int j) = (i == j) := by
  rw [Bool.eq_iff_iff]
  simp
theorem dec_bl {i j : Bool} : decide (V.bl i = V.bl j) = (i == j) := by
  rw [Bool.eq_iff_iff]
  simp
theorem dec_str {i j : Str} : decide (V.str i = V.str j) = (i == j) := by
  rw [Bool.eq_iff_iff]
  simp
theorem dec_byt {i j : Array UInt8} : decide (V.byt i = V.byt j) = (i.toList == j.toList) := by
  rw [Bool.eq_iff_iff]
  cases i
  cases j
  simp
section
variable {X : Cx} {a b c : Expr} {ta tb tc : TE} {pos : Pos}
theorem fin_bl {pins : List (Addr × Obj)} {σ : St} {H : Hp} {s : Shared} {Q : VK} {k k' : Bool} (I : Inv X pins σ H s) (q : Q (.bl k) H) (e : k = k') : EP X pins σ Q (.bool k') s := by
  subst e
  exact ⟨.bl k, H, I, rfl, q⟩
theorem op_eq : OpR X (compareOp .Eq) rEq := by
  intro pins s σ H x y v u Q I rx ry h
  obtain ⟨hs, q⟩ := h
  cases x with
  | non =>
    cases rx
    cases y with
    | non => cases ry; exact PySem.EqNone.eq_none_none (fin_bl I q (by simp))
    | bl j => cases ry; exact PySem.EqNone.eq_none_bool (fin_bl I q (by simp))
    | int j => obtain ⟨t', rfl⟩ := ry; exact PySem.EqNone.eq_none_int (fin_bl I q (by simp))
    | str j => obtain ⟨t', rfl⟩ := ry; exact PySem.EqNone.eq_none_str (fin_bl I q (by simp))
    | _ => exact absurd (show false = true from hs) Bool.false_ne_true
  | bl i =>
    cases rx
    cases y with
    | non => cases ry; exact PySem.EqNone.eq_bool_none (fin_bl I q (by simp))
    | bl j => cases ry; exact eq_bool (fin_bl I q dec_bl)
    | str j => obtain ⟨t', rfl⟩ := ry; exact PySem.EqMixed.eq_bool_str (fin_bl I q (by simp))
    | _ => exact absurd (show false = true from hs) Bool.false_ne_true
  | int i =>
    obtain ⟨t, rfl⟩ := rx
    cases y with
    | non => cases ry; exact PySem.EqNone.eq_int_none (fin_bl I q (by simp))
    | int j => obtain ⟨t', rfl⟩ := ry; exact eq_int (fin_bl I q dec_int)
    | str j => obtain ⟨t', rfl⟩ := ry; exact PySem.EqMixed.eq_int_str (fin_bl I q (by simp))
    | _ => exact absurd (show false = true from hs) Bool.false_ne_true
  | str i =>
    obtain ⟨t, rfl⟩ := rx
    cases y with
    | non => cases ry; exact PySem.EqNone.eq_str_none (fin_bl I q (by simp))
    | bl j => cases ry; exact PySem.EqMixed.eq_str_bool (fin_bl I q (by simp))
    | int j => obtain ⟨t', rfl⟩ := ry; exact PySem.EqMixed.eq_str_int (fin_bl I q (by simp))
    | str j => obtain ⟨t', rfl⟩ := ry; exact eq_str (fin_bl I q dec_str)
    | _ => exact absurd (show false = true from hs) Bool.false_ne_true
  | byt i =>
    obtain ⟨t, rfl⟩ := rx
    cases y with
    | byt j => obtain ⟨t', rfl⟩ := ry; exact PySem.W.eq_bytes (fin_bl I q dec_byt)
    | _ => exact absurd (show false = true from hs) Bool.false_ne_true
  | _ => cases y <;> exact absurd (show false = true from hs) Bool.false_ne_true
theorem op_ne : OpR X (compareOp .NotEq) rNe := by
  intro pins s σ H x y v u Q I rx ry h
  obtain ⟨hs, q⟩ := h
  cases x with
  | non =>
    cases rx
    cases y with
    | non => cases ry; exact PySem.EqNone.ne_none_none (fin_bl I q (by simp))
    | bl j => cases ry; exact PySem.EqNone.ne_none_bool (fin_bl I q (by simp))
    | int j => obtain ⟨t', rfl⟩ := ry; exact PySem.EqNone.ne_none_int (fin_bl I q (by simp))
    | str j => obtain ⟨t', rfl⟩ := ry; exact PySem.EqNone.ne_none_str (fin_bl I q (by simp))
    | _ => exact absurd (show false = true from hs) Bool.false_ne_true
  | bl i =>
    cases rx
    cases y with
    | non => cases ry; exact PySem.EqNone.ne_bool_none (fin_bl I q (by simp))
    | bl j => cases ry; exact ne_bool (fin_bl I q (congrArg not dec_bl))
    | str j => obtain ⟨t', rfl⟩ := ry; exact PySem.EqMixed.ne_bool_str (fin_bl I q (by simp))
    | _ => exact absurd (show false = true from hs) Bool.false_ne_true
  | int i =>
    obtain ⟨t, rfl⟩ := rx
    cases y with
    | non => cases ry; exact PySem.EqNone.ne_int_none (fin_bl I q (by simp))
    | int j => obtain ⟨t', rfl⟩ := ry; exact ne_int (fin_bl I q (congrArg not dec_int))
    | str j => obtain ⟨t', rfl⟩ := ry; exact PySem.EqMixed.ne_int_str (fin_bl I q (by simp))
    | _ => exact absurd (show false = true from hs) Bool.false_ne_true
  | str i =>
    obtain ⟨t, rfl⟩ := rx
    cases y with
    | non => cases ry; exact PySem.EqNone.ne_str_none (fin_bl I q (by simp))
    | bl j => cases ry; exact PySem.EqMixed.ne_str_bool (fin_bl I q (by simp))
    | int j => obtain ⟨t', rfl⟩ := ry; exact PySem.EqMixed.ne_str_int (fin_bl I q (by simp))
    | str j => obtain ⟨t', rfl⟩ := ry; exact ne_str (fin_bl I q (congrArg not dec_str))
    | _ => exact absurd (show false = true from hs) Bool.false_ne_true
  | byt i =>
    obtain ⟨t, rfl⟩ := rx
    cases y with
    | byt j => obtain ⟨t', rfl⟩ := ry; exact PySem.W.ne_bytes (fin_bl I q (congrArg not dec_byt))
    | _ => exact absurd (show false = true from hs) Bool.false_ne_true
  | _ => cases y <;> exact absurd (show false = true from hs) Bool.false_ne_true
theorem op_lt : OpR X (compareOp .Lt) (rI0 fun i j => .bl (decide (i < j))) := opB0 fun _ _ _ _ _ _ _ q => lt_int q
theorem op_gt : OpR X (compareOp .Gt) (rI0 fun i j => .bl (decide (j < i))) := opB0 fun _ _ _ _ _ _ _ q => gt_int q
theorem op_ge : OpR X (compareOp .GtE) (rI0 fun i j => .bl (decide (j ≤ i))) := opB0 fun _ _ _ _ _ _ _ q => ge_int q
theorem op_notN : OpR X (compareOp .IsNot) (fun x y H Q => y = .non /\ Q (.bl (!decide (x = .non))) H) := by
  intro pins s σ H x y v u Q I rx ry h
  obtain ⟨rfl, q⟩ := h
  cases ry
  refine isnot_none_gen (fin_bl I q ?_)
  cases x <;> first
    | (cases rx; rfl)
    | (obtain ⟨t, rfl⟩ := rx; rfl)
theorem nomark (b : Expr) {op : CmpOp} (h : op ≠ .In := by decide) (h2 : op ≠ .NotIn := by decide) : behindInMarks op b = false := by
  have e1 : (op == CmpOp.In) = false := by cases op <;> first | rfl | exact absurd rfl h
  have e2 : (op == CmpOp.NotIn) = false := by cases op <;> first | rfl | exact absurd rfl h2
  cases b <;> simp [behindInMarks, e1, e2]
theorem pe_cmpR {op : CmpOp} {r : R2} (ho : OpR X (compareOp op) r) (ha : PE X a ta) (hb : PE X b tb) (hm : behindInMarks op b = false) : PE X (.Compare a [op] [b] pos) (tOp r ta tb) := by
  intro pins s σ H Q I h
  exact wpAny_Compare1 (binT ha hb I h fun v u s2 x y H2 I2 rx ry q => ho pins s2 σ H2 x y v u Q I2 rx ry q) hm
def tTest (t : TE) : TT := fun σ H Q => t σ H fun x H' => ∃ k, x = .bl k /\ Q k H'
theorem pt_cmpR {op : CmpOp} {r : R2} (ho : OpR X (compareOp op) r) (ha : PE X a ta) (hb : PE X b tb) (hm : behindInMarks op b = false) : PT X (.Compare a [op] [b] pos) (tTest (tOp r ta tb)) := by
  intro pins s σ H Q I h
  refine wpAny_isTrue_Compare1 (thn (ha pins s σ H _ I h) fun v s1 ⟨x, H1, I1, r1, q1⟩ => thn (hb pins s1 σ H1 _ I1 q1) fun u s2 ⟨y, H2, I2, r2, q2⟩ =>
    thn (ho pins s2 σ H2 x y v u _ I2 r1 r2 q2) fun c s3 ⟨z, H3, I3, r3, k, e, q3⟩ => ?_) hm
  subst e
  cases r3
  exact wpAny_truthy_bool ⟨H3, I3, q3⟩
theorem line63 : (sizeLine : Nat) < 2 ^ 63 := by rw [sizeLine_eq]; decide
theorem vals1 {x : V} {us : List Value} (r : Vals [x] us) : ∃ u, us = [u] /\ RelV x u := by
  cases r with
  | cons r1 r2 => cases r2; exact ⟨_, rfl, r1⟩
theorem vals2 {x y : V} {us : List Value} (r : Vals [x, y] us) : ∃ u w', us = [u, w'] /\ RelV x u /\ RelV y w' := by
  cases r with
  | cons r1 r2 =>
    cases r2 with
    | cons r3 r4 => cases r4; exact ⟨_, _, rfl, r1, r3⟩
theorem call_min2 (hc : X.calm = true) : CallR X (.builtin "min") (fun xs H Q => ∃ i j, xs = [.int i, .int j] /\ Q (.int (if j < i then j else i)) H) := by
  intro pins s σ H xs us Q I r h
  obtain ⟨i, j, rfl, q⟩ := h
  obtain ⟨u, w', rfl, ⟨t, rfl⟩, ⟨t', rfl⟩⟩ := vals2 r
  refine min_two_ints (I.ok.hd hc) fun h' tk k => ⟨_, H, I.kept k, ?_, q⟩
  by_cases hj : j < i
  · rw [if_pos hj, if_pos hj]; exact ⟨_, rfl⟩
  · rw [if_neg hj, if_neg hj]; exact ⟨_, rfl⟩
end
open PySem PySem.Spec PyProof.Rows
structure ObjM (h : Heap) (x dx C : Addr) (mA : Str->Option Value) : Prop where
  obj : h.get? x = some (PySem.W.instObj C dx)
  ns : h.Ns1 dx mA
  ne : dx ≠ x
theorem lookIn_ns {h : Heap} {dx : Addr} {mA : Str->Option Value} (n : h.Ns1 dx mA) : ∃ od, h.get? dx = some od /\ ∀ name, PySem.W.lookIn name od = some (mA name) := by
  obtain ⟨o, es, ep, ho, hd, hk, _, hm⟩ := n
  refine ⟨o, ho, fun name => ?_⟩
  have e := hm name
  unfold nsFind findBy at e
  rw [← Array.find?_toList] at e
  unfold PySem.W.lookIn
  rw [hd]
  dsimp only
  split
  · rename_i y q
    rw [q] at e
    exact congrArg some e
  · rename_i q
    rw [q] at e
    have a : es.toList.any (·.refKey) = false := by
      rw [List.any_eq_false]
      intro y hy
      obtain ⟨z, t, hkey⟩ := hk y (Array.mem_toList_iff.mp hy)
      simp [DictEntry.refKey, hkey]
    have a' : ¬ es.toList.any (·.refKey) = true := by rw [a]; exact Bool.false_ne_true
    rw [if_neg a']
    exact congrArg some e
theorem ObjM.look {h : Heap} {x dx C : Addr} {mA : Str->Option Value} (I : ObjM h x dx C mA) : ∃ od, PySem.W.InstAt h x (PySem.W.instObj C dx) C (some od) /\ ∀ name, PySem.W.lookIn name od = some (mA name) :=
  let ⟨od, ho, hl⟩ := lookIn_ns I.ns
  ⟨od, ⟨I.obj, rfl, rfl, ho⟩, hl⟩
section
variable {prog : Program} {w : World} {A : Around} {E : Value->Shared->Prop} {s : Shared} {K : PySem.W.Frag} {x dx C f : Addr} {mA : Str->Option Value} {name : Str} {v : Value}
theorem get_map {expr : Bool} {Q : Value->Shared->Prop} (X : K.In s.heap) (I : ObjM s.heap x dx C mA) (hg : PySem.W.plainGet K C name = true) (hh : PySem.W.hasDictIn K C = true)
    (ha : PySem.W.findIn K (.ref C) name = some none) (hv : mA name = some v) (hv' : PySem.W.handedIn v = true) (h : Q v { s with toks := s.toks + 1 }) :
    wpAny (model prog w) A (getAttr (.ref x) name expr) Q E s := by
  obtain ⟨od, J, hl⟩ := I.look
  exact PySem.W.get_value X J (PySem.W.plainGet_of hg).1 (PySem.W.findObj_own hh ha rfl (by rw [hl, hv])) hv' h
theorem get_meth {pl : Sem Bool} {Q : Value × List Value->Shared->Prop} (X : K.In s.heap) (I : ObjM s.heap x dx C mA) (hg : PySem.W.plainGet K C name = true)
    (hf : PySem.W.findIn K (.ref C) name = some (some (.ref f))) (ht : PySem.W.isFn K (.ref f) = true) (hv : mA name = none) (h : Q (.ref f, [.ref x]) s) :
    wpAny (model prog w) A (getMethod (.ref x) name pl) Q E s := by
  obtain ⟨od, J, hl⟩ := I.look
  exact PySem.W.method_fn X J (PySem.W.plainGet_of hg).1 (PySem.W.plainGet_of hg).2 hf (beq_iff_eq.mp ht) (by show (PySem.W.lookIn name od).map (·.isSome) = some false; rw [hl, hv]; rfl) h
theorem set_map {ns : List Str} {Q : Unit->Shared->Prop} (X : K.In s.heap) (I : ObjM s.heap x dx C mA)
    (hs : PySem.W.findIn K (.ref C) "__setattr__" = some (some (.builtin "object.__setattr__"))) (hp : PySem.W.plainOver K C = true) (ht : PySem.W.takerIn K C name = some none) (hh : PySem.W.hasDictIn K C = true)
    (hw : PySem.Within mA ns) (hsz : ns.length ≤ sizeLine)
    (h : ∀ h', ObjM h' x dx C (fun y => if y = name then some v else mA y)->Heap.SameBut dx s.heap h'->Q () { s with heap := h', toks := s.toks + 2 }) :
    wpAny (model prog w) A (setAttr (.ref x) name v) Q E s := by
  obtain ⟨od, J, hl⟩ := I.look
  refine PySem.W.set_plain X J hs (PySem.W.osa_open (s := { s with toks := s.toks + 1 }) (r := none) X J hp ht fun b => ?_)
  obtain ⟨cd, hc, hd'⟩ := PySem.W.any_some hh
  have hx : s.heap.get? x = some ⟨.ref C, some dx, .plain, #[]⟩ := I.obj
  refine wpAny_bind (wpAny_pure (wpAny_bind (wpAny_bind (wpAny_loadPart hx (wpAny_bind (PySem.W.Looks.here (s := { s with toks := s.toks + 1 }) (PySem.W.looks_clsIn X hc) ?_))))))
  rw [hd']
  refine wpAny_pure (a := some dx) (wpAny_bind (wpAny_pure (wpAny_bind ?_)))
  refine wpAny_nsSet1 (s := { s with toks := s.toks + 1 }) I.ns fun h' hn2 hs2 => ?_
  obtain ⟨oD, esD, epD, hoD, hdD, hcD⟩ := hn2.count (PySem.Within.cons name v hw)
  refine wpAny_bind (wpAny_lookBehind hoD (by rw [hdD]; exact pastItsLine_dict (Nat.le_trans hcD (by rw [List.length_cons]; omega))) ?_)
  exact wpAny_pure (h _ ⟨(hs2.2 _ (Ne.symm I.ne)).trans I.obj, hn2, I.ne⟩ hs2)
theorem make_map {R : Result->Shared->Prop} {vs : List Value} {kw : List (Str × Value)} (X : K.In s.heap) (hm : PySem.W.makesIn K C = true)
    (hi : PySem.W.findIn K (.ref C) "__init__" = some (some (.ref f))) (hf : PySem.W.typeIn K (.ref f) = some (.type "function"))
    (h : codeAny (model prog w) (A.under (.builtin "type.__call__" ⟨.ref C :: vs, kw⟩)) (.call (.ref f) ⟨.ref (s.heap.objs.size + 1) :: vs, kw⟩) (PySem.W.InitBack (s.heap.objs.size + 1) R)
      { s with heap := (s.heap.push PySem.W.emptyDict).push (PySem.W.instObj C s.heap.objs.size) }) :
    codeAny (model prog w) A (.call (.ref C) ⟨vs, kw⟩) R s := by
  obtain ⟨hh, g, d, t, os⟩ := s
  exact PySem.W.make_core (PySem.W.makes_of X hm) (PySem.W.looks_findIn X hi) (fun self => PySem.W.bind_fn X self hf) (.inl rfl) h
end
def putF (f : Str) (v : V) : List (Str × V)->List (Str × V)
  | [] => [(f, v)]
  | (g, x) :: r => if g = f then (g, v) :: r else (g, x) :: putF f v r
theorem lookup_putF (f g : Str) (v : V) : ∀ fs : List (Str × V), (putF f v fs).lookup g = if g = f then some v else fs.lookup g
  | [] => by
    show List.lookup g [(f, v)] = _
    by_cases h : g = f
    · have hb : (g == f) = true := beq_iff_eq.mpr h
      simp only [List.lookup, hb, if_pos h]
    · have hb : (g == f) = false := beq_eq_false_iff_ne.mpr h
      simp only [List.lookup, hb, if_neg h]
  | (k, x) :: r => by
    have ih := lookup_putF f g v r
    rw [show putF f v ((k, x) :: r) = (if k = f then (k, v) :: r else (k, x) :: putF f v r) from rfl]
    by_cases hk : k = f
    · rw [if_pos hk]
      by_cases h : g = k
      · have hb : (g == k) = true := beq_iff_eq.mpr h
        simp only [List.lookup, hb, if_pos (h.trans hk)]
      · have hb : (g == k) = false := beq_eq_false_iff_ne.mpr h
        simp only [List.lookup, hb, if_neg (fun e : g = f => h (e.trans hk.symm))]
    · rw [if_neg hk]
      by_cases h : g = k
      · have hb : (g == k) = true := beq_iff_eq.mpr h
        simp only [List.lookup, hb, if_neg (fun e : g = f => hk (h.symm.trans e))]
      · have hb : (g == k) = false := beq_eq_false_iff_ne.mpr h
        simp only [List.lookup, hb]
        exact ih
theorem keys_putF (f : Str) (v : V) : ∀ fs : List (Str × V), f ∈ (putF f v fs).map (·.1) /\ ∀ g, g ∈ fs.map (·.1)->g ∈ (putF f v fs).map (·.1)
  | [] => ⟨by simp [putF], fun g h => by simp at h⟩
  | (k, x) :: r => by
    obtain ⟨i1, i2⟩ := keys_putF f v r
    rw [show putF f v ((k, x) :: r) = (if k = f then (k, v) :: r else (k, x) :: putF f v r) from rfl]
    by_cases hk : k = f
    · rw [if_pos hk]
      subst hk
      exact ⟨by simp, fun g h => by simpa using h⟩
    · rw [if_neg hk]
      refine ⟨?_, fun g h => ?_⟩
      · rw [List.map_cons]
        exact List.mem_cons_of_mem _ i1
      · rw [List.map_cons] at h ⊢
        rcases List.mem_cons.mp h with e | e
        · exact List.mem_cons.mpr (.inl e)
        · exact List.mem_cons_of_mem _ (i2 g e)
theorem length_putF (f : Str) (v : V) : ∀ fs : List (Str × V), (putF f v fs).length ≤ fs.length + 1
  | [] => by simp [putF]
  | (k, x) :: r => by
    have ih := length_putF f v r
    rw [show putF f v ((k, x) :: r) = (if k = f then (k, v) :: r else (k, x) :: putF f v r) from rfl]
    by_cases hk : k = f
    · rw [if_pos hk, List.length_cons, List.length_cons]; omega
    · rw [if_neg hk, List.length_cons, List.length_cons]; omega
theorem RelO.some_of {v : V} {o : Option Value} (r : RelO (some v) o) : ∃ u, o = some u /\ RelV v u := by
  cases o with
  | none => exact (show False from r).elim
  | some u => exact ⟨u, rfl, r⟩
theorem RelO.none_of {o : Option Value} (r : RelO none o) : o = none := by
  cases o with
  | none => rfl
  | some u => exact (show False from r).elim
theorem handed_of {v : V} {u : Value} (r : RelV v u) : PySem.W.handedIn u = true := by
  cases v with
  | non => cases (show u = Value.none from r); rfl
  | bl b => cases (show u = Value.bool b from r); rfl
  | int i => obtain ⟨t, e⟩ := (show ∃ t, u = Value.int i t from r); cases e; rfl
  | str x => obtain ⟨t, e⟩ := (show ∃ t, u = Value.str x t from r); cases e; rfl
  | byt b => obtain ⟨t, e⟩ := (show ∃ t, u = Value.bytes b t from r); cases e; rfl
  | flt b => obtain ⟨t, e⟩ := (show ∃ t, u = Value.float b t from r); cases e; rfl
  | ref a => cases (show u = Value.ref a from r); rfl
  | ty n => cases (show u = Value.type n from r); rfl
section
variable {P : Program} {w : World} {H H' : Hp} {h h' : Heap} {a C dx : Addr} {fs fs' : List (Str × V)}
theorem ins_get (hok : HOk P w H h) (e : H a = some (.ins C dx fs)) : ∃ mA, ObjM h a dx C mA /\ (∀ f, RelO (fs.lookup f) (mA f)) /\ PySem.Within mA (fs.map (·.1)) /\ fs.length ≤ 1000 /\ H dx = some (.own a) := by
  obtain ⟨d, z, ne, ob, mA, n, r, q⟩ := (show ObjOk P w H h a (.ins C dx fs) from hok a _ e)
  exact ⟨mA, ⟨ob, n, ne⟩, r, q, z, d⟩
end
structure Cls (K : PySem.W.Frag) (C : Addr) : Prop where
  pg : PySem.W.plainGet K C Str.empty = true
  hd : PySem.W.hasDictIn K C = true
  po : PySem.W.plainOver K C = true
  sa : PySem.W.findIn K (.ref C) "__setattr__" = some (some (.builtin "object.__setattr__"))
theorem Cls.get {K : PySem.W.Frag} {C : Addr} (c : Cls K C) (f : Str) : PySem.W.plainGet K C f = true := c.pg
def NoAttr (K : PySem.W.Frag) (C : Addr) (f : Str) : Prop := PySem.W.findIn K (.ref C) f = some none
theorem NoAttr.taker {K : PySem.W.Frag} {C : Addr} {f : Str} (n : NoAttr K C f) : PySem.W.takerIn K C f = some none := by
  unfold PySem.W.takerIn
  rw [show PySem.W.findIn K (.ref C) f = some none from n]
  rfl
structure Con (K : PySem.W.Frag) (C : Addr) (f : Str) (v : V) (u : Value) : Prop where
  at_ : PySem.W.findIn K (.ref C) f = some (some u)
  rel : RelV v u
  get : PySem.W.specialIn K u "__get__" = some none
  cp : PySem.W.copiedNames.contains f = false
structure Meth (K : PySem.W.Frag) (C : Addr) (m : Str) (f : Addr) : Prop where
  at_ : PySem.W.findIn K (.ref C) m = some (some (.ref f))
  fn : PySem.W.isFn K (.ref f) = true
  kp : PySem.W.keepIn K (.ref f) = true
section
variable {X : Cx} {pins : List (Addr × Obj)} {σ : St} {H : Hp} {s : Shared} {a C dx : Addr} {fs : List (Str × V)} {f : Str} {v : V} {A : Around} {E : Value->Shared->Prop}
theorem getattr_ok {b : Bool} {Q : Value->Shared->Prop} (I : Inv X pins σ H s) (e : H a = some (.ins C dx fs)) (c : Cls X.K C) (n : NoAttr X.K C f) (l : fs.lookup f = some v)
    (h : ∀ u s', Inv X pins σ H s'->RelV v u->Q u s') : wpAny (model X.prog X.w) A (getAttr (.ref a) f b) Q E s := by
  obtain ⟨mA, O, r, _, _, _⟩ := ins_get I.hok e
  obtain ⟨u, hu, ru⟩ := RelO.some_of (v := v) (o := mA f) (by rw [← l]; exact r f)
  exact get_map I.kIn O (c.get f) c.hd n hu (handed_of ru) (h u _ (I.tok _) ru)
theorem getmeth_ok {m : Str} {g : Addr} {pl : Sem Bool} {Q : Value × List Value->Shared->Prop} (I : Inv X pins σ H s) (e : H a = some (.ins C dx fs)) (c : Cls X.K C) (k : Meth X.K C m g) (l : fs.lookup m = none)
    (h : Q (.ref g, [.ref a]) s) : wpAny (model X.prog X.w) A (getMethod (.ref a) m pl) Q E s := by
  obtain ⟨mA, O, r, _, _, _⟩ := ins_get I.hok e
  have hn : mA m = none := RelO.none_of (by rw [← l]; exact r m)
  exact get_meth I.kIn O (c.get m) k.at_ k.fn hn h
theorem setattr_ok {y : V} {u : Value} {Q : Unit->Shared->Prop} (I : Inv X pins σ H s) (e : H a = some (.ins C dx fs)) (c : Cls X.K C) (n : NoAttr X.K C f) (hl : fs.length < 1000) (ry : RelV y u)
    (h : ∀ s', Inv X pins σ (upd H a (.ins C dx (putF f y fs))) s'->Q () s') : wpAny (model X.prog X.w) A (setAttr (.ref a) f u) Q E s := by
  obtain ⟨mA, O, r, wi, _, ho⟩ := ins_get I.hok e
  have hz : (fs.map (·.1)).length ≤ sizeLine := by rw [List.length_map, sizeLine_eq]; omega
  refine set_map I.kIn O c.sa c.po n.taker c.hd wi hz fun h' O' sb => h _ ?_
  have hd : ∃ o, h'.get? dx = some o := let ⟨o, _, _, e', _⟩ := O'.ns; ⟨o, e'⟩
  refine I.write (x := a) (e := dx) (by rw [e]; exact True.intro) (.inr ho) (fun b q hb z => (sb.2 b hb).trans z) hd ?_
  refine ⟨by rw [upd_ne O.ne]; exact ho, ?_, O.ne, O'.obj, _, O'.ns, fun g => ?_, fun g hg => ?_⟩
  · have := length_putF f y fs; omega
  · show RelO ((putF f y fs).lookup g) (if g = f then some u else mA g)
    rw [lookup_putF]
    by_cases q : g = f
    · rw [if_pos q, if_pos q]; exact ry
    · rw [if_neg q, if_neg q]; exact r g
  · by_cases q : g = f
    · rw [q]; exact (keys_putF f y fs).1
    · refine (keys_putF f y fs).2 g (wi g fun z => hg ?_)
      show (if g = f then some u else mA g) = none
      rw [if_neg q]; exact z
theorem Inv.made (I : Inv X pins σ H s) : Inv X pins σ (upd (upd H s.heap.objs.size (.own (s.heap.objs.size + 1))) (s.heap.objs.size + 1) (.ins C s.heap.objs.size []))
    { s with heap := (s.heap.push PySem.W.emptyDict).push (PySem.W.instObj C s.heap.objs.size) } := by
  have e1 : (s.heap.push PySem.W.emptyDict).get? s.heap.objs.size = some PySem.W.emptyDict := Heap.get?_push_size s.heap rfl
  have e2 : ((s.heap.push PySem.W.emptyDict).push (PySem.W.instObj C s.heap.objs.size)).get? (s.heap.objs.size + 1) = some (PySem.W.instObj C s.heap.objs.size) := by
    have := Heap.get?_push_size (s.heap.push PySem.W.emptyDict) (o := PySem.W.instObj C s.heap.objs.size) rfl
    rwa [Heap.size_push] at this
  have e3 : (s.heap.push PySem.W.emptyDict).Ns s.heap.objs.size (fun _ => none) := ⟨PySem.W.emptyDict, #[], _, e1, rfl, (fun e he => absurd he (by simp)), fun _ => rfl⟩
  have I1 := I.laid (a := s.heap.objs.size) (o := .own (s.heap.objs.size + 1)) (h' := s.heap.push PySem.W.emptyDict) (t' := s.toks) (fun b u q => Heap.get?_push_of_some _ q) (Nat.le_refl _) ⟨_, e1⟩
  refine I1.laid (a := s.heap.objs.size + 1) (o := .ins C s.heap.objs.size []) (t' := s.toks) (fun b u q => Heap.get?_push_of_some _ q) (Nat.le_of_eq (Heap.size_push _ _)) ?_
  have ne : s.heap.objs.size ≠ s.heap.objs.size + 1 := Nat.ne_of_lt (Nat.lt_succ_self _)
  refine ⟨by rw [upd_ne ne, upd_same], Nat.zero_le _, ne, e2, fun _ => none, (Heap.Ns1.of_empty e3).at fun o q => Heap.get?_push_of_some _ q, fun _ => True.intro, fun y hy => absurd rfl hy⟩
theorem attr_of {prog : Program} {w : World} {env : Env} {e : Expr} {f : Str} {pos : Pos} {s : Shared} {Q : Value->Shared->Prop} (hb : attributeBase e f env (eval e env) = eval e env)
    (h : wpAny (model prog w) A (eval e env) (fun o s₁ => wpAny (model prog w) A (getAttr o f true) Q E s₁) E s) : wpAny (model prog w) A (eval (.Attribute e f pos) env) Q E s :=
  Attribute_any_ h (by rw [arm_eval_Attribute, hb])
end
def tFld (K : PySem.W.Frag) (ta : TE) (f : Str) : TE := fun σ H Q => ta σ H fun x H1 => ∃ a C dx fs v, x = .ref a /\ H1 a = some (.ins C dx fs) /\ Cls K C /\ NoAttr K C f /\ fs.lookup f = some v /\ Q v H1
def sFld (K : PySem.W.Frag) (ta tv : TE) (f : Str) : TS := fun D σ H => tv σ H fun y H1 => ta σ H1 fun x H2 => ∃ a C dx fs, x = .ref a /\ H2 a = some (.ins C dx fs) /\ Cls K C /\ NoAttr K C f /\ fs.length < 1000 ∧
  D.nx σ (upd H2 a (.ins C dx (putF f y fs)))
section
variable {X : Cx} {o e value : Expr} {f : Str} {pos pos' tpos : Pos} {ta tv : TE}
theorem pe_fld (he : PE X e ta) (hb : attributeBase e f X.env (eval e X.env) = eval e X.env) : PE X (.Attribute e f pos) (tFld X.K ta f) := by
  intro pins s σ H Q I h
  refine attr_of hb (thn (he pins s σ H _ I h) fun u s1 ⟨x, H1, I1, rx, a, C, dx, fs, v, ex, ea, c, n, l, q⟩ => ?_)
  subst ex
  obtain rfl : u = Value.ref a := rx
  exact getattr_ok I1 ea c n l fun u' s2 I2 ru => ⟨v, H1, I2, ru, q⟩
theorem ps_fld (ha : PE X o ta) (hv : PE X value tv) (hs : swapsWith value (some (.Attribute o f pos')) pos.line X.env = pure false) : PS X (.Assign [.Attribute o f pos'] value pos) (sFld X.K ta tv f) := by
  intro pins s σ H D I h
  refine plainObj_wpAny_Assign_Attribute (thn (hv pins s σ H _ I h) fun u s1 ⟨y, H1, I1, ry, q⟩ => thn (ha pins s1 σ H1 _ I1 q) fun ov s2 ⟨x, H2, I2, rx, a, C, dx, fs, ex, ea, c, n, l, q2⟩ => ?_) hs
  subst ex
  obtain rfl : ov = Value.ref a := rx
  exact setattr_ok I2 ea c n l ry fun s3 I3 => ⟨σ, _, I3, q2⟩
end
section
variable {X : Cx} {pins : List (Addr × Obj)} {σ : St} {H : Hp} {s : Shared} {A : Around} {E : Value->Shared->Prop} {Q : Value->Shared->Prop} {c : Value} {b : Bool}
inductive TyOf (K : PySem.W.Frag) (H : Hp) : V->Value->Prop where
  | non : TyOf K H .non (.type "NoneType")
  | bl (x : Bool) : TyOf K H (.bl x) (.type "bool")
  | int (i : Int) : TyOf K H (.int i) (.type "int")
  | str (x : Str) : TyOf K H (.str x) (.type "str")
  | flt (x : UInt64) : TyOf K H (.flt x) (.type "float")
  | lst {a : Addr} {xs : List V} (e : H a = some (.lst xs)) : TyOf K H (.ref a) (.type "list")
  | frz {a : Addr} {o : Obj} {xs : List V} (e : H a = some (.frz o (.lst xs))) : TyOf K H (.ref a) (.type "list")
  | tup {a : Addr} {xs : List V} (e : H a = some (.tup xs)) : TyOf K H (.ref a) (.type "tuple")
  | dK {a : Addr} {kvs : List (Key × V)} (e : H a = some (.dK kvs)) : TyOf K H (.ref a) (.type "dict")
  | dT {a : Addr} {kvs : List (List Key × V)} (e : H a = some (.dT kvs)) : TyOf K H (.ref a) (.type "dict")
  | ins {a C dx : Addr} {fs : List (Str × V)} (e : H a = some (.ins C dx fs)) (cl : Cls K C) (ha : PySem.W.findIn K (.ref C) "__class__" = some (some (.builtin "object.__class__")))
      (hn : PySem.W.specialIn K (.builtin "object.__class__") "__get__" = some (some (.builtin "getset_descriptor.__get__"))) (htk : PySem.W.takesIn K (.builtin "object.__class__") = some true)
      (hm : PySem.W.mroIn K C (.type "object") = some true) : TyOf K H (.ref a) (.ref C)
theorem isinst_ok {x : V} {u t : Value} (I : Inv X pins σ H s) (rx : RelV x u) (ty : TyOf X.K H x t) (e : PySem.W.kitOne X.K t c = some b) (h : ∀ tk, Q (.bool b) { s with toks := tk }) :
    wpAny (model X.prog X.w) A (call (.builtin "isinstance") [u, c]) Q E s := by
  cases ty with
  | non => cases (show u = Value.none from rx); exact PySem.W.kia_one PySem.W.kitx_none I.kIn True.intro e (fun z => nomatch z) h
  | bl y => cases (show u = Value.bool y from rx); exact PySem.W.kia_one PySem.W.kitx_bool I.kIn True.intro e (fun z => nomatch z) h
  | int i => obtain ⟨t, q⟩ := (show ∃ t, u = Value.int i t from rx); cases q; exact PySem.W.kia_one PySem.W.kitx_int I.kIn True.intro e (fun z => nomatch z) h
  | str y => obtain ⟨t, q⟩ := (show ∃ t, u = Value.str y t from rx); cases q; exact PySem.W.kia_one PySem.W.kitx_str I.kIn True.intro e (fun z => nomatch z) h
  | flt y => obtain ⟨t, q⟩ := (show ∃ t, u = Value.float y t from rx); cases q; exact PySem.W.kia_one PySem.W.kitx_float I.kIn True.intro e (fun z => nomatch z) h
  | @lst a xs ea =>
    cases (show u = Value.ref a from rx)
    obtain ⟨_, _, n, _, h1⟩ := (show ObjOk X.prog X.w H s.heap a (.lst xs) from I.hok a _ ea)
    exact PySem.W.kia_one PySem.W.kitx_list I.kIn ⟨_, h1, rfl⟩ e (fun z => nomatch z) h
  | @frz a ob xs ea =>
    cases (show u = Value.ref a from rx)
    obtain ⟨_, _, _, n, _, h1⟩ := (show ObjOk X.prog X.w H s.heap a (.frz ob (.lst xs)) from I.hok a _ ea)
    exact PySem.W.kia_one PySem.W.kitx_list I.kIn ⟨_, h1, rfl⟩ e (fun z => nomatch z) h
  | @tup a xs ea =>
    cases (show u = Value.ref a from rx)
    obtain ⟨_, _, _, p⟩ := (show ObjOk X.prog X.w H s.heap a (.tup xs) from I.hok a _ ea)
    obtain ⟨o, h1, h2, _⟩ := p
    exact PySem.W.kia_one PySem.W.kitx_tuple I.kIn ⟨o, h1, h2⟩ e (fun z => nomatch z) h
  | @dK a kvs ea =>
    cases (show u = Value.ref a from rx)
    obtain ⟨_, _, vs, _, p⟩ := (show ObjOk X.prog X.w H s.heap a (.dK kvs) from I.hok a _ ea)
    obtain ⟨o, es, ep, h1, h2, _⟩ := p
    exact PySem.W.kia_one PySem.W.kitx_dict I.kIn ⟨o, h1, h2.1⟩ e (fun z => nomatch z) h
  | @dT a kvs ea =>
    cases (show u = Value.ref a from rx)
    obtain ⟨_, _, xs, _, o, es, ep, h1, h2, _⟩ := (show ObjOk X.prog X.w H s.heap a (.dT kvs) from I.hok a _ ea)
    exact PySem.W.kia_one PySem.W.kitx_dict I.kIn ⟨o, h1, h2.1⟩ e (fun z => nomatch z) h
  | @ins a C dx fs ea cl ha hn htk hm =>
    cases (show u = Value.ref a from rx)
    obtain ⟨mA, O, _⟩ := ins_get I.hok ea
    obtain ⟨od, J, _⟩ := O.look
    exact PySem.W.kia_one (PySem.W.kitx_own (cl.get _) cl.hd ha hn htk hm) I.kIn J e (fun z => nomatch z) h
end
open PySem PySem.Spec PyProof.Rows
structure Room (k : Nat) (A : Around) : Prop where
  hd : A.handled = none
  dp : A.depth + 3 * k + 5 < recursionLimit
  un : A.units + 16 * k + 200 < cLine
theorem Room.mono {j k : Nat} {A : Around} (r : Room k A) (h : j ≤ k) : Room j A := ⟨r.hd, by have := r.dp; omega, by have := r.un; omega⟩
theorem Room.deeper {k : Nat} {A : Around} (r : Room (k + 1) A) (env : Env) : Room k (A.deeper env) :=
  ⟨r.hd, by have := r.dp; show A.depth + 1 + 3 * k + 5 < _; omega, by have := r.un; show A.units + 3 + 16 * k + 200 < _; omega⟩
theorem make_depth {A : Around} {C : Addr} {us : List Value} {kw : List (Str × Value)} : (A.under (.builtin "type.__call__" ⟨.ref C :: us, kw⟩)).depth = A.depth + 1 := by
  first | rfl | simp [Around.under, Code.weight, Code.isCreation, Code.isGuard, Code.isCaller, Code.frames, Code.isFrame, guardIds]
theorem make_units {A : Around} {C : Addr} {us : List Value} {kw : List (Str × Value)} : (A.under (.builtin "type.__call__" ⟨.ref C :: us, kw⟩)).units = A.units + 1 := by
  first | rfl | simp [Around.under, Code.cUnits, Code.frames, Code.isFrame]
theorem Room.make {k : Nat} {A : Around} (r : Room (k + 1) A) (C : Addr) (us : List Value) (kw : List (Str × Value)) : Room k (A.under (.builtin "type.__call__" ⟨.ref C :: us, kw⟩)) :=
  ⟨r.hd, by have := r.dp; rw [make_depth]; omega, by have := r.un; rw [make_units]; omega⟩
theorem Room.depth {k : Nat} {A : Around} (r : Room k A) : A.depth < recursionLimit := by have := r.dp; omega
theorem Room.units {k : Nat} {A : Around} (r : Room k A) : A.units + 64 < cLine := by have := r.un; omega
def tNil : TA := fun _ H Q => Q [] H
def tCons (ta : TE) (tr : TA) : TA := fun σ H Q => ta σ H fun x H1 => tr σ H1 fun xs H2 => Q (x :: xs) H2
section
variable {X : Cx} {e : Expr} {es : List Expr} {te : TE} {t : TA} {pos : Pos}
theorem pa_nil : PA X [] tNil := fun _ _ _ _ H Q I h => Calls.spliced_nil ⟨[], H, I, .nil, h⟩
theorem pa_cons (ha : PE X e te) (hr : PA X es t) (hs : starEach (e :: es) X.env = (false, eval e X.env) :: starEach es X.env := by rfl) : PA X (e :: es) (tCons te t) := by
  intro pos pins s σ H Q I h
  rw [hs]
  show wpAny _ _ (spliced ((false, eval e X.env) :: backTo pos (starEach es X.env))) _ _ s
  refine Calls.spliced_cons (thn (ha pins s σ H _ I h) fun u s1 ⟨x, H1, I1, r1, q1⟩ => ?_)
  exact thn (hr pos pins s1 σ H1 _ I1 q1) fun us s2 ⟨xs, H2, I2, r2, q2⟩ => ⟨x :: xs, H2, I2, .cons r1 r2, q2⟩
def tTup (t : TA) : TE := fun σ H Q => t σ H fun xs H1 => xs.length ≤ sizeLine /\ ∀ p, H1 p = none->Q (.ref p) (upd H1 p (.tup xs))
def tLst (t : TA) : TE := fun σ H Q => t σ H fun xs H1 => xs.length ≤ sizeLine /\ ∀ p, H1 p = none->Q (.ref p) (upd H1 p (.lst xs))
theorem pe_tup {x1} (h : PA X es t) : PE X (.Tuple es x1 pos) (tTup t) := by
  intro pins s σ H Q I hq
  refine wpAny_Tuple_spliced (thn (h pos pins s σ H _ I hq) fun us s1 ⟨xs, H1, I1, r, z, q⟩ => ⟨by rw [← r.length]; exact z, ?_⟩)
  have hf : H1 s1.heap.objs.size = none := I1.hok.fresh (Nat.le_refl _)
  refine ⟨.ref s1.heap.objs.size, upd H1 s1.heap.objs.size (.tup xs), I1.laid (t' := s1.toks) (fun b u e => Heap.get?_push_of_some _ e) (Nat.le_refl _) ?_, rfl, q _ hf⟩
  exact ⟨z, us, r, ⟨_, Heap.get?_push_size _ rfl, rfl, _, rfl⟩⟩
theorem pe_lst (h : PA X es t) : PE X (.List es pos) (tLst t) := by
  intro pins s σ H Q I hq
  refine wpAny_List_spliced (thn (h pos pins s σ H _ I hq) fun us s1 ⟨xs, H1, I1, r, z, q⟩ => ⟨by rw [← r.length]; exact z, ?_⟩)
  have hf : H1 s1.heap.objs.size = none := I1.hok.fresh (Nat.le_refl _)
  refine ⟨.ref s1.heap.objs.size, upd H1 s1.heap.objs.size (.lst xs), I1.laid (t' := s1.toks) (fun b u e => Heap.get?_push_of_some _ e) (Nat.le_refl _) ?_, rfl, q _ hf⟩
  exact ⟨z, us, 0, r, Heap.get?_push_size _ rfl⟩
end
abbrev Sp := List V->Hp->VK->XK->Prop
abbrev CXT := List Env->Hp->Shared->XK->Value->Shared->Prop
structure Env0 (P : Program) (w : World) (K : PySem.W.Frag) (mg : Str->Option Value) (base : Heap) (A : Around) (outer : List Env) (s : Shared) (H : Hp) : Prop where
  frames : A.frames = some outer
  mod : Mod K mg base
  bs : ∀ b o, base.get? b = some o->s.heap.get? b = some o /\ H b = none
  bsz : base.objs.size ≤ s.heap.objs.size
  funs : s.heap.FunFrames base outer
  frf : ∀ b ∈ frs outer, H b = none
  hok : HOk P w H s.heap
  bare : AllBare s.gens
def CE (outer : List Env) (P : Program) (w : World) (H : Hp) (s : Shared) (Q : VK) (u : Value) (s' : Shared) : Prop :=
  ∃ v H', s'.os = s.os /\ AllBare s'.gens /\ Un (frs outer) [] H H' s.heap s'.heap /\ HOk P w H' s'.heap /\ RelV v u /\ Q v H'
def CR (CX : CXT) (outer : List Env) (P : Program) (w : World) (H : Hp) (s : Shared) (Q : VK) (E : XK) (r : Result) (s' : Shared) : Prop :=
  match r with
  | .ok (.ret u) => CE outer P w H s Q u s'
  | .ok _ => False
  | .error e => CX outer H s E e s'
structure FnOk (P : Program) (w : World) (K : PySem.W.Frag) (mg : Str->Option Value) (base : Heap) (CX : CXT) (k : Nat) (f : Addr) (fd : FuncData) (ps : List Str) (sp : Sp) : Prop where
  len : ∀ vs H Q E, sp vs H Q E->vs.length = ps.length
  run : ∀ (A : Around) (outer : List Env) (s : Shared) (H : Hp) (args : Args) (us : List Value) (vs : List V) (Q : VK) (E : XK), Room k A->Env0 P w K mg base A outer s H->BindsTo s fd args (ps.zip us)->Vals vs us->sp vs H Q E →
    codeAny (model P w) A (.call (.ref f) args) (CR CX outer P w H s Q E) s
theorem FnOk.mono {P : Program} {w : World} {K : PySem.W.Frag} {mg : Str->Option Value} {base : Heap} {CX : CXT} {j k : Nat} {f : Addr} {fd : FuncData} {ps : List Str} {sp : Sp} (F : FnOk P w K mg base CX j f fd ps sp) (h : j ≤ k) :
    FnOk P w K mg base CX k f fd ps sp := ⟨F.len, fun A outer s H args us vs Q E hr => F.run A outer s H args us vs Q E (hr.mono h)⟩
theorem Env0.make {P : Program} {w : World} {K : PySem.W.Frag} {mg : Str->Option Value} {base : Heap} {A : Around} {outer : List Env} {s : Shared} {H : Hp} (e : Env0 P w K mg base A outer s H) (C : Addr) (us : List Value) (kw : List (Str × Value)) :
    Env0 P w K mg base (A.under (.builtin "type.__call__" ⟨.ref C :: us, kw⟩)) outer s H := ⟨by first | exact e.frames | (simpa [Around.under, Code.envs, Code.isFrame, pushEnvs] using e.frames), e.mod, e.bs, e.bsz, e.funs, e.frf, e.hok, e.bare⟩
section
variable {X : Cx} {pins : List (Addr × Obj)} {σ : St} {H : Hp} {s s' : Shared}
theorem Inv.env0 (I : Inv X pins σ H s) : Env0 X.prog X.w X.K X.mg X.base X.A X.stack s H :=
  ⟨I.ok.frames, I.ok.mod, I.bs, Nat.le_trans I.ok.bsz I.sz, I.stack, I.stkFree, I.hok, I.bare⟩
theorem Inv.after {Q : VK} {u : Value} (I : Inv X pins σ H s) (h : CE X.stack X.prog X.w H s Q u s') : EP X pins σ Q u s' := by
  obtain ⟨v, H', os, bare, un, hok, r, q⟩ := h
  obtain ⟨hh, g, d, t, os'⟩ := s'
  obtain rfl : os' = s.os := os
  exact ⟨v, H', I.call (h' := hh) (g' := g) (d' := d) (t' := t) (ch := []) un hok bare (fun b z => absurd z (by simp)), r, q⟩
end
def Binds (K : PySem.W.Frag) (fd : FuncData) (ps : List Str) (ds : List Value) : Prop :=
  ∀ (s : Shared) (us : List Value), K.In s.heap->(us ++ ds).length = ps.length->BindsTo s fd ⟨us, []⟩ (ps.zip (us ++ ds))
theorem Binds.all {K : PySem.W.Frag} {fd : FuncData} {ps : List Str} (h : ∀ us : List Value, us.length = ps.length->bindArgs fd ⟨us, []⟩ = pure (ps.zip us)) : Binds K fd ps [] := fun s us _ hl => by
  rw [List.append_nil] at hl ⊢
  exact .of_eq (h us hl)
section
variable {X : Cx} {CX : CXT} {k : Nat} {f C : Addr} {fd : FuncData} {ps : List Str} {sp : Sp} {dvs : List V} {ds : List Value} {E : XK} {x m : Str} {p pos apos : Pos} {e o : Expr} {es : List Expr} {ta : TE} {t : TA}
structure Mk (K : PySem.W.Frag) (C f : Addr) : Prop where
  makes : PySem.W.makesIn K C = true
  init : PySem.W.findIn K (.ref C) "__init__" = some (some (.ref f))
  fn : PySem.W.isFn K (.ref f) = true
  kp : PySem.W.keepIn K (.ref C) = true
end
section
variable {X : Cx} {CX : CXT} {k : Nat} {f C : Addr} {fd : FuncData} {ps ks : List Str} {sp : Sp} {E : XK} {x m : Str} {p pos apos kpos : Pos} {e o : Expr} {es : List Expr} {kws : List Keyword} {te ta : TE} {t tk : TA} {nm : Option Str}
structure KBinds (K : PySem.W.Frag) (fd : FuncData) (ps ks : List Str) (g : List Value->List Value->List Value) (gV : List V->List V->List V) : Prop where
  to : ∀ (s : Shared) (us ws : List Value), K.In s.heap->(g us ws).length = ps.length->BindsTo s fd ⟨us, ks.zip ws⟩ (ps.zip (g us ws))
  rel : ∀ {vs : List V} {us : List Value} {zs : List V} {ws : List Value}, Vals vs us->Vals zs ws->Vals (gV vs zs) (g us ws)
variable {g : List Value->List Value->List Value} {gV : List V->List V->List V}
end
structure FnScope (N P : List Str) (sc : Scope) : Prop where
  kind : sc.kind = .function
  co : sc.isCoroutine = false
  gen : sc.isGenerator = false
  nd : N.Nodup
  pre : N.take P.length = P
  par : ∀ x ∈ P, sc.names.lookup x = some .local ∨ sc.names.lookup x = some .cell
  nofree : ∀ y ∈ sc.names, y.2 ≠ .free
theorem bindL_out {kindOf : Str->Option NameKind} {x : Str} : ∀ {binds : List (Str × Value)} {m : Str->Option Value}, (∀ v, (x, v) ∉ binds)->bindL kindOf binds m x = m x
  | [], _, _ => rfl
  | (n, v) :: r, m, h => by
    unfold bindL
    rw [bindL_out fun w hw => h w (List.mem_cons_of_mem _ hw)]
    split
    · have : x ≠ n := by rintro rfl; exact h v List.mem_cons_self
      simp [this]
    · rfl
theorem bindC_out {kindOf : Str->Option NameKind} {x : Str} : ∀ {binds : List (Str × Value)} {m : Str->Option Value}, (∀ v, (x, v) ∉ binds)->bindC kindOf binds m x = m x
  | [], _, _ => rfl
  | (n, v) :: r, m, h => by
    unfold bindC
    rw [bindC_out fun w hw => h w (List.mem_cons_of_mem _ hw)]
    split
    · rfl
    · have : x ≠ n := by rintro rfl; exact h v List.mem_cons_self
      simp [this]
theorem bindL_get {kindOf : Str->Option NameKind} {x : Str} {v : Value} : ∀ {P : List Str} {vs : List Value} {i : Nat} {m : Str->Option Value}, P.Nodup->P[i]? = some x->vs[i]? = some v->kindOf x = some .local →
    bindL kindOf (P.zip vs) m x = some v
  | [], _, _, _, _, h, _, _ => by simp at h
  | _ :: _, [], _, _, _, _, h, _ => by simp at h
  | p :: P, w :: vs, 0, m, nd, h1, h2, hk => by
    simp at h1 h2; subst h1; subst h2
    show bindL kindOf ((p, w) :: P.zip vs) m p = _
    unfold bindL
    rw [bindL_out fun v hv => (List.nodup_cons.mp nd).1 (List.of_mem_zip hv).1, if_pos hk]
    simp
  | p :: P, w :: vs, i + 1, m, nd, h1, h2, hk => by
    show bindL kindOf ((p, w) :: P.zip vs) m x = _
    unfold bindL
    exact bindL_get (i := i) (List.nodup_cons.mp nd).2 (by simpa using h1) (by simpa using h2) hk
theorem bindC_get {kindOf : Str->Option NameKind} {x : Str} {v : Value} : ∀ {P : List Str} {vs : List Value} {i : Nat} {m : Str->Option Value}, P.Nodup->P[i]? = some x->vs[i]? = some v->kindOf x ≠ some .local →
    bindC kindOf (P.zip vs) m x = some v
  | [], _, _, _, _, h, _, _ => by simp at h
  | _ :: _, [], _, _, _, _, h, _ => by simp at h
  | p :: P, w :: vs, 0, m, nd, h1, h2, hk => by
    simp at h1 h2; subst h1; subst h2
    show bindC kindOf ((p, w) :: P.zip vs) m p = _
    unfold bindC
    rw [bindC_out fun v hv => (List.nodup_cons.mp nd).1 (List.of_mem_zip hv).1, if_neg hk]
    simp
  | p :: P, w :: vs, i + 1, m, nd, h1, h2, hk => by
    show bindC kindOf ((p, w) :: P.zip vs) m x = _
    unfold bindC
    exact bindC_get (i := i) (List.nodup_cons.mp nd).2 (by simpa using h1) (by simpa using h2) hk
def start (N : List Str) (vs : List V) : St := vs.map some ++ List.replicate (N.length - vs.length) none
def cxOf (CX : CXT) (P : Program) (w : World) (K : PySem.W.Frag) (mg : Str->Option Value) (base : Heap) (N : List Str) (qual : Str) (scope : Scope) (f : Addr) (cd : Value) (A : Around) (outer : List Env) (s : Shared) (H : Hp) (E : XK) : Cx where
  prog := P
  w := w
  K := K
  mg := mg
  base := base
  A := A.deeper (envOfC qual scope s.heap.objs.size f cd)
  N := N
  s₀ := s
  H₀ := H
  env := envOfC qual scope s.heap.objs.size f cd
  outer := outer
  stack := envOfC qual scope s.heap.objs.size f cd :: outer
  ex := []
  calm := true
  fn := fun _ => true
  pn := []
  xe := fun e s' => wpAny (model P w) (A.deeper (envOfC qual scope s.heap.objs.size f cd)) (leaving (envOfC qual scope s.heap.objs.size f cd) e) (fun _ s'' => CX outer H s E e s'') (fun e' s'' => CX outer H s E e' s'') s'
theorem cell_has {sc : Scope} {n : Nat} {x : Str} (h : sc.names.lookup x = some .cell) : ∃ c, (cellsFrom n sc.names []).lookup x = some c := by
  have q := PySem.W.cellsFrom_some sc.names n [] (.inl h)
  exact Option.isSome_iff_exists.mp q
theorem inv_start {CX : CXT} {P : Program} {w : World} {K : PySem.W.Frag} {mg : Str->Option Value} {base : Heap} {N ps : List Str} {qual : Str} {scope : Scope} {f : Addr} {cd : Value} {A : Around} {outer : List Env} {s s1 : Shared} {H : Hp} {E : XK} {us : List Value} {vs : List V}
    (S : FnScope N ps scope) (hd : A.handled = none) (e0 : Env0 P w K mg base A outer s H) (hl : vs.length = ps.length) (r : Vals vs us)
    (x : InCallC s s.heap.objs.size (bindL (envOfC qual scope s.heap.objs.size f cd).kindOf (ps.zip us) fun _ => none) (cellsFrom (s.heap.objs.size + 1) scope.names []) (bindC (envOfC qual scope s.heap.objs.size f cd).kindOf (ps.zip us) fun _ => none) s1) :
    Inv (cxOf CX P w K mg base N qual scope f cd A outer s H E) [] (start N vs) H s1 := by
  have hpl : ps.length ≤ N.length := by have := congrArg List.length S.pre; rw [List.length_take] at this; omega
  obtain ⟨h1, tk, rfl, hk⟩ := x.done
  have noA : ∀ b : Addr, b ∉ (cxOf CX P w K mg base N qual scope f cd A outer s H E).ex := fun b z => absurd (show b ∈ ([] : List Addr) from z) (by simp)
  refine ⟨⟨e0.mod, S.kind, rfl, rfl, Nat.le_refl _, fun y z c h1 h2 => ?_, fun y hy => ?_, fun y c _ h => ?_, fun _ => hd, Around.frames_deeper e0.frames, .inr ⟨rfl, rfl⟩, fun b z => absurd z (noA b), e0.bs, e0.bsz, fun b _ _ => noA b, fun b z => absurd z (noA b), e0.funs, e0.frf⟩,
    rfl, e0.bare, Un.kept hk, ⟨_, x.toInCall.ns, fun i y v h1 h2 h3 => ?_⟩, fun y c h => ⟨_, x.cell y c h⟩, e0.hok.fresh (Nat.le_refl _), fun y c h => ?_, fun p hp => absurd (show p ∈ ([] : List (Addr × Obj)) from hp) (by simp), e0.hok.kept hk, ?_⟩
  · exact name_of_addr x.apart (PySem.mem_of_lookup h1) (PySem.mem_of_lookup h2)
  · have hy : scope.names.lookup y = some .cell ∨ scope.names.lookup y = some .free := hy
    rcases hy with hy | hy
    · exact cell_has hy
    · exact absurd rfl (S.nofree _ (PySem.mem_of_lookup hy))
  · exact Nat.le_of_lt (x.above y c (PySem.mem_of_lookup h))
  · have hi : i < vs.length := by
      unfold start at h2
      by_cases hi : i < vs.length
      · exact hi
      · rw [List.getElem?_append_right (by simpa using hi)] at h2
        rw [List.getElem?_replicate] at h2
        split at h2 <;> cases h2
    have ha : vs[i]? = some v := by
      unfold start at h2
      rw [List.getElem?_append_left (by simpa using hi), List.getElem?_map] at h2
      cases e : vs[i]? with
      | none => rw [e] at h2; cases h2
      | some a => rw [e] at h2; cases h2; rfl
    obtain ⟨u, hu, rv⟩ := r.get ha
    have hp : ps[i]? = some y := by
      rw [← S.pre, List.getElem?_take_of_lt (by omega)]; exact h1
    have ndP : ps.Nodup := by rw [← S.pre]; exact S.nd.sublist (List.take_sublist _ _)
    refine ⟨u, rv, ?_⟩
    rcases S.par y (List.mem_of_getElem? hp) with k | k
    · exact .inl ⟨k, bindL_get ndP hp hu k⟩
    · obtain ⟨c, e⟩ := cell_has (n := s.heap.objs.size + 1) k
      refine .inr ⟨.inl k, c, e, ?_⟩
      have q := x.cell y c e
      rw [bindC_get ndP hp hu (by show scope.names.lookup y ≠ _; rw [k]; decide)] at q
      exact q
  · exact e0.hok.fresh (Nat.le_of_lt (x.above y c (PySem.mem_of_lookup h)))
  · unfold start
    show _ = N.length
    rw [List.length_append, List.length_map, List.length_replicate]
    omega
theorem fn_of {CX : CXT} {P : Program} {w : World} {K : PySem.W.Frag} {mg : Str->Option Value} {base : Heap} {k : Nat} {f : Addr} {name qual : Str} {params : Arguments} {body : List Stmt} {scope : Scope} {dV kV doc pm cdv ct oc : Value} {an od : Option Addr}
    {osl : Array (Option Value)} {N ps : List Str} {sp : Sp} (lk : K.lookup f = some ⟨oc, od, .func (PySem.W.fnOf name qual params body scope dV kV doc pm an cdv ct), osl⟩) (hcd : PySem.W.codeIn K cdv qual = true) (S : FnScope N ps scope)
    (len : ∀ vs H Q E, sp vs H Q E->vs.length = ps.length)
    (hbody : ∀ (A : Around) (outer : List Env) (s : Shared) (H : Hp) (vs : List V) (Q : VK) (E : XK), Room k (A.deeper (envOfC qual scope s.heap.objs.size f cdv))->sp vs H Q E →
      ∃ t, PSs (cxOf CX P w K mg base N qual scope f cdv A outer s H E) body t /\ t { nx := fun _ H' => Q .non H', rt := Q } (start N vs) H) :
    FnOk P w K mg base CX (k + 1) f (PySem.W.fnOf name qual params body scope dV kV doc pm an cdv ct) ps sp := by
  refine ⟨len, fun A outer s H args us vs Q E hr e0 hb r hsp => ?_⟩
  have hl := len _ _ _ _ hsp
  have KX : K.In s.heap := e0.mod.kin.keeps fun b o e => (e0.bs b o e).1
  have lim : s.heap.NoLimit := e0.mod.nolimit.keeps fun b o e => (e0.bs b o e).1
  have hkind : ∀ y ∈ ps.zip us, scope.names.lookup y.1 = some .local ∨ (scope.names.lookup y.1 = some .cell /\ ((cellsFrom (s.heap.objs.size + 1) scope.names []).lookup y.1).isSome = true) := fun ⟨n, v⟩ hy => by
    rcases S.par n (List.of_mem_zip hy).1 with q | q
    · exact .inl q
    · exact .inr ⟨q, PySem.W.cellsFrom_some _ _ _ (.inl q)⟩
  refine codeAny_call_function hr.depth (KX _ _ lk) rfl S.co S.gen rfl (PySem.W.codeRec_of KX hcd) (hb _ _ _ _ ?_)
  refine wpAny_newFunctionEnv_cells S.kind hkind fun env he s1 x => ?_
  subst he
  refine ⟨lim.keeps x.toInCall.keep, codeAny_func ?_⟩
  obtain ⟨t, ht, hq⟩ := hbody A outer s H vs Q E (hr.deeper _) hsp
  have I : Inv (cxOf CX P w K mg base N qual scope f cdv A outer s H E) [] (start N vs) H s1 := inv_start S hr.hd e0 hl r x
  refine wpAny_mono (ht [] s1 (start N vs) H _ I hq) (fun fl s' hs => ?_) fun e s' hs => hs
  have fin : ∀ {σ' : St} {H' : Hp} {v : V} {u : Value}, Inv (cxOf CX P w K mg base N qual scope f cdv A outer s H E) [] σ' H' s'->RelV v u->Q v H'->CE outer P w H s Q u s' :=
    fun {σ' H' v u} J rv q => ⟨v, H', J.os, J.bare, J.base, J.hok, rv, q⟩
  cases fl with
  | ret u =>
    obtain ⟨v, σ', H', J, rv, q⟩ := hs
    exact fin J rv q
  | next =>
    obtain ⟨σ', H', J, q⟩ := hs
    exact fin (v := V.non) (u := Value.none) J rfl q
  | brk =>
    obtain ⟨_, _, _, q⟩ := hs
    exact False.elim q
  | cont =>
    obtain ⟨_, _, _, q⟩ := hs
    exact False.elim q
open PySem PySem.Spec PyProof.Rows
section
variable {X : Cx} {x : Str} {p pos : Pos} {e : Expr} {es : List Expr} {t : TA} {id T : String} {r : List V->Hp->VK->Prop}
def tCB (r : List V->Hp->VK->Prop) (t : TA) : TE := fun σ H Q => t σ H fun vs H1 => r vs H1 Q
theorem pe_callB (hc : CallR X (.builtin id) r) (hg : Gl X x) (hm : X.mg x = none) (hv : bootBuiltins x = some (.builtin id)) (ha : PA X (e :: es) t) (hn : x ≠ "__name__" := by decide) (hdb : (x == ("__debug__" : Str)) = false := by decide)
    (he : starEach (e :: es) X.env = (false, eval e X.env) :: starEach es X.env := by rfl) (hpl : (backTo pos (starEach es X.env)).any (·.1) = false := by rfl) : PE X (.Call (.Name x p) (e :: es) [] pos) (tCB r t) := by
  intro pins s σ H Q I h
  refine wpAny_Call_Name_kw (ld_blt I hg hm hv ?_ hn hdb)
  exact PyProof.Rows.callWith_builtin1 (thn (ha pos pins s σ H _ I h) fun us s1 ⟨vs, H1, I1, r1, q1⟩ => hc pins s1 σ H1 vs us Q I1 r1 q1) he hpl
theorem pe_callTy (hc : CallR X (.type T) r) (hg : Gl X x) (hm : X.mg x = none) (hv : bootBuiltins x = some (.type T)) (ha : PA X (e :: es) t) (hn : x ≠ "__name__" := by decide) (hdb : (x == ("__debug__" : Str)) = false := by decide)
    (he : starEach (e :: es) X.env = (false, eval e X.env) :: starEach es X.env := by rfl) (hpl : (backTo pos (starEach es X.env)).any (·.1) = false := by rfl) : PE X (.Call (.Name x p) (e :: es) [] pos) (tCB r t) := by
  intro pins s σ H Q I h
  refine wpAny_Call_Name_kw (ld_blt I hg hm hv ?_ hn hdb)
  exact PyProof.Rows.callWith_type1 (thn (ha pos pins s σ H _ I h) fun us s1 ⟨vs, H1, I1, r1, q1⟩ => hc pins s1 σ H1 vs us Q I1 r1 q1) he hpl
end
end L2
namespace HT
open PySem PyProof.Rows
def lexLt : List Int->List Int->Bool
  | [], [] => false
  | [], _ :: _ => true
  | _ :: _, [] => false
  | x :: xs, y :: ys => if x = y then lexLt xs ys else decide (x < y)
theorem lexLt_cons (x y : Int) (xs ys : List Int) : lexLt (x :: xs) (y :: ys) = if x = y then lexLt xs ys else decide (x < y) := rfl
theorem lexLt_nil_nil : lexLt [] [] = false := rfl
theorem lexLt_nil_cons (y : Int) (ys : List Int) : lexLt [] (y :: ys) = true := rfl
theorem lexLt_cons_nil (x : Int) (xs : List Int) : lexLt (x :: xs) [] = false := rfl
theorem eqAt_int (A : Around) (s : Shared) (a : Int) (t : Tok) (c : Int) (u : Tok) : ∃ e, SeqAt.EqAt A s (.int a t) (.int c u) e /\ (e = true ↔ a = c) :=
  ⟨(a == c), SeqAt.EqAt.int_int a t c u, by simp⟩
theorem rcLt_int (A : Around) (s : Shared) (a : Int) (t : Tok) (c : Int) (u : Tok) (prog : Program) (w : World) (E : Value->Shared->Prop) (Q : Value->Shared->Prop) (h : Q (.bool (decide (a < c))) s) :
    wpAny (model prog w) A (richCompare .Lt (.int a t) (.int c u)) Q E s :=
  (PyProof.Rows.lt_int h : wpAny (model prog w) A (compareOp .Lt (.int a t) (.int c u)) Q E s)
section
open PySem.SeqAt
open PySem.AutoSeq1 (wpAny_loadPart')
open PySem.MeetsSeq PySem.MeetsSeq2 PySem.MeetsSeq3
theorem tuple_lt_ints (l b : Addr) (items items2 : Array Value) (n n2 : Nat) (dd dd2 : Option Addr) (sl sl2 : Array (Option Value)) (ns ms : List Int) (hi : IntsAre items.toList ns) (hj : IntsAre items2.toList ms) :
    Meets (Builtin.«tuple.__lt__» ⟨[.ref l, .ref b], []⟩)
      (fun _ R s => s.heap.get? l = some { cls := .type "tuple", dict := dd, data := .seq items n, slots := sl } /\ s.heap.get? b = some { cls := .type "tuple", dict := dd2, data := .seq items2 n2, slots := sl2 } ∧
        R (.ok (.ret (.bool (lexLt ns ms)))) s) :=
  .of_wp fun prog w A R s h => by
    obtain ⟨hp, g, d, tk, os⟩ := s; obtain ⟨hl, hb, h⟩ := h
    have f2 := AutoSeq1.sub_tuple_tuple
    have z1 : items.size = ns.length := by rw [← hi.length]; simp
    have z2 : items2.size = ms.length := by rw [← hj.length]; simp
    wp_walk using wpAny_loadPart' hl, wpAny_loadPart' hb, wpAny_forIn_list _ (fun rest b s' => b.1 = none /\ s' = ⟨hp, g, d, tk, os⟩ /\ ∃ (vs ws : List Value) (ns' ms' : List Int), rest = vs.zip ws ∧
      IntsAre vs ns' /\ IntsAre ws ms' /\ ns'.length + items2.size = ms'.length + items.size /\ R (.ok (.ret (.bool (lexLt ns' ms')))) ⟨hp, g, d, tk, os⟩) _
    case turn =>
      rintro ⟨y, x⟩ rest b s' ⟨hb', rfl, vs, ws, ns', ms', hz, hvi, hwi, hlen, hR⟩
      cases hvi with
      | nil => rw [List.zip_nil_left] at hz; cases hz
      | cons a t hvi' =>
        cases hwi with
        | nil => rw [List.zip_nil_right] at hz; cases hz
        | cons c u hwi' =>
          rw [List.zip_cons_cons] at hz
          injection hz with hyx hrest
          injection hyx with hy hx
          subst hy hx
          rw [lexLt_cons] at hR
          simp only [List.length_cons] at hlen
          obtain ⟨e, he, hiff⟩ := eqAt_int A.in1 ⟨hp, g, d, tk, os⟩ a t c u
          refine wpAny_bind (he prog w _ _ ?_)
          cases e with
          | true =>
            rw [if_pos (hiff.mp rfl)] at hR
            wp_walk
            exact ⟨rfl, rfl, _, _, _, _, hrest, hvi', hwi', by omega, hR⟩
          | false =>
            rw [if_neg (fun q => absurd (hiff.mpr q) Bool.false_ne_true)] at hR
            have hri := rcLt_int A.in1 ⟨hp, g, d, tk, os⟩ a t c u prog w
            wp_walk using hri
            exact ⟨_, rfl, by simpa using hR⟩
    case fin =>
      rintro ⟨b1, b2⟩ s' ⟨hb', rfl, vs, ws, ns', ms', hz, hvi, hwi, hlen, hR⟩
      simp only at hb'
      subst hb'
      have hv : lexLt ns' ms' = decide (items.size < items2.size) := by
        cases hvi with
        | nil =>
          cases hwi with
          | nil =>
            simp only [List.length_nil] at hlen
            rw [lexLt_nil_nil]
            exact (decide_eq_false (by omega)).symm
          | cons c u hw =>
            simp only [List.length_nil, List.length_cons] at hlen
            rw [lexLt_nil_cons]
            exact (decide_eq_true (by omega)).symm
        | cons a t hv =>
          cases hwi with
          | nil =>
            simp only [List.length_nil, List.length_cons] at hlen
            rw [lexLt_cons_nil]
            exact (decide_eq_false (by omega)).symm
          | cons c u hw =>
            rw [List.zip_cons_cons] at hz
            cases hz
      rw [hv] at hR
      wp_walk
      exact ⟨_, rfl, by simpa [Builtin.Tuple.tupleCompareSizes] using hR⟩
    case h =>
      exact ⟨rfl, rfl, items.toList, items2.toList, ns, ms, rfl, hi, hj, by omega, h⟩
end
section
variable {prog : Program} {w : World} {A : Around} {E : Value->Shared->Prop} {s : Shared}
theorem lt_tupInts {l b : Addr} {items items2 : Array Value} {ns ms : List Int} {Q : Value->Shared->Prop} (hl : IsTup s.heap l items) (hb : IsTup s.heap b items2) (hi : IntsAre items.toList ns) (hj : IntsAre items2.toList ms)
    (hu : A.units < cLine) (h : Q (.bool (lexLt ns ms)) s) : wpAny (model prog w) A (compareOp .Lt (.ref l) (.ref b)) Q E s := by
  obtain ⟨⟨cls, dd, data, sl⟩, ho, hc, n, hd⟩ := id hl
  obtain ⟨⟨cls2, dd2, data2, sl2⟩, ho2, hc2, n2, hd2⟩ := id hb
  simp only at hc hd hc2 hd2
  subst hc hd hc2 hd2
  exact richCompare_meets_room (op := .Lt) ⟨_, ho, rfl⟩ ⟨_, ho2, rfl⟩ PySem.F.slot_tuple_lt PySem.F.entry_tuple_lt (PySem.F.args_tuple_lt_2 _ _) (tuple_lt_ints l b items items2 n n2 dd dd2 sl sl2 ns ms hi hj)
    ⟨ho, ho2, show Value.bool (lexLt ns ms) ≠ Value.notImplemented /\ Q (.bool (lexLt ns ms)) s from ⟨(fun x => nomatch x), h⟩⟩ hu
theorem cat_tup {t b : Addr} {vs ws : List Value} {Q : Value->Shared->Prop} (ht : IsTup s.heap t vs.toArray) (hb : IsTup s.heap b ws.toArray) (hv : vs ≠ [])
    (h1 : ws = []->Q (.ref t) s) (h2 : ws ≠ []->Q (.ref s.heap.objs.size) { s with heap := s.heap.push { cls := .type "tuple", data := .seq (vs ++ ws).toArray } })
    (hsz : vs.length + ws.length ≤ sizeLine) : wpAny (model prog w) A (binaryOp .Add (.ref t) (.ref b)) Q E s := by
  obtain ⟨⟨cls, dd, data, sl⟩, ho, hc, n, hd⟩ := id ht
  obtain ⟨⟨cls2, dd2, data2, sl2⟩, ho2, hc2, n2, hd2⟩ := id hb
  simp only at hc hd hc2 hd2
  subst hc hd hc2 hd2
  have e : vs.toArray ++ ws.toArray = (vs ++ ws).toArray := by simp
  by_cases hw : ws = []
  · exact concat_meets ⟨_, ho, rfl⟩ ⟨_, ho2, rfl⟩ noFill_tuple_add seq_tuple_add PySem.F.slot_tuple_add PySem.F.entry_tuple_add (PySem.F.args_tuple_add_2 _ _)
      (tuple_addW1 t b vs.toArray ws.toArray n n2 dd dd2 sl sl2 (by simpa using hv) (by simp [hw])) ⟨ho, ho2, h1 hw⟩
  · refine concat_meets ⟨_, ho, rfl⟩ ⟨_, ho2, rfl⟩ noFill_tuple_add seq_tuple_add PySem.F.slot_tuple_add PySem.F.entry_tuple_add (PySem.F.args_tuple_add_2 _ _)
      (tuple_addW2 t b vs.toArray ws.toArray n n2 dd dd2 sl sl2 (by simpa using hv) (by simpa using hw) (by rw [List.size_toArray, List.size_toArray]; exact hsz)) ⟨ho, ho2, ?_⟩
    rw [e]
    exact h2 hw
def sIx (n d : Nat) : Option Int->Nat
  | none => d
  | some v => if v < 0 then (v + (n : Int)).toNat else min v.toNat n
theorem sIx_nat (n d k : Nat) : sIx n d (some (k : Int)) = min k n := by
  show (if (k : Int) < 0 then ((k : Int) + (n : Int)).toNat else min (k : Int).toNat n) = min k n
  rw [if_neg (by omega), Int.toNat_natCast]
theorem sIx_le (n d : Nat) (hd : d ≤ n) (o : Option Int) : sIx n d o ≤ n := by
  cases o with
  | none => exact hd
  | some v =>
    show (if v < 0 then (v + (n : Int)).toNat else min v.toNat n) ≤ n
    by_cases hv : v < 0
    · rw [if_pos hv]; omega
    · rw [if_neg hv]; exact Nat.min_le_right _ _
theorem clip_eq (v : Int) (n d : Nat) : (if v < 0 then max (v + (n : Int)) 0 else min v (n : Int)) = ((sIx n d (some v) : Nat) : Int) := by
  show (if v < 0 then max (v + (n : Int)) 0 else min v (n : Int)) = (((if v < 0 then (v + (n : Int)).toNat else min v.toNat n) : Nat) : Int)
  by_cases hv : v < 0
  · simp only [if_pos hv]; omega
  · simp only [if_neg hv]; omega
theorem adjust_gen (lo hi : Option Int) (n : Nat) : Builtin.Slice.sliceAdjust lo hi 1 (n : Int) = (((sIx n 0 lo : Nat) : Int), ((sIx n n hi : Nat) : Int)) := by
  have h1 : ¬ ((1 : Int) < 0) := by omega
  unfold Builtin.Slice.sliceAdjust
  simp only [h1, if_false]
  refine Prod.ext ?_ ?_
  · cases lo with
    | none => rfl
    | some v => exact clip_eq v n 0
  · cases hi with
    | none => rfl
    | some v => exact clip_eq v n n
theorem places_gen (i j : Nat) : Builtin.Slice.slicePlaces (i : Int) (j : Int) 1 = j - i := by
  unfold Builtin.Slice.slicePlaces
  have h1 : (1 : Int) > 0 := by omega
  simp only [h1, if_true, Int.ediv_one]
  split <;> omega
theorem slicePart_ {v : Value} {o : Option Int} {Q : Option Int->Shared->Prop} (p : IsPart v o) (h : Q o s) : wpAny (model prog w) A (Builtin.Slice.slicePartIndex v) Q E s := by
  cases p with
  | none => exact slicePart_none h
  | int i t => exact slicePart_int h
theorem sliceApplied_gen {sl : Addr} {vl vu : Value} {lo hi : Option Int} {n : Nat} {Q : Int × Int × Nat->Shared->Prop} (hs : s.heap.IsSliceOf sl vl vu .none) (pl : IsPart vl lo) (pu : IsPart vu hi)
    (h : Q (((sIx n 0 lo : Nat) : Int), 1, sIx n n hi - sIx n 0 lo) s) : wpAny (model prog w) A (Builtin.Slice.sliceApplied (.ref sl) (pure (n : Int))) Q E s := by
  obtain ⟨os, hos, hcs, hds⟩ := id hs
  unfold Builtin.Slice.sliceApplied Builtin.Slice.sliceFields
  refine wpAny_bind (wpAny_bind (wpAny_field hos hds (x := vl) rfl (wpAny_bind (wpAny_field hos hds (x := vu) rfl (wpAny_bind (wpAny_field hos hds (x := .none) rfl (wpAny_pure ?_)))))))
  refine wpAny_bind (slicePart_none ?_)
  show wpAny _ _ (if ((1 : Int) == 0) = true then _ else _) _ _ s
  rw [if_neg (by decide)]
  refine wpAny_bind (slicePart_ pl (wpAny_bind (slicePart_ pu (wpAny_bind (wpAny_pure ?_)))))
  show wpAny _ _ (match Builtin.Slice.sliceAdjust lo hi 1 (n : Int) with | (lo, hi) => pure (lo, (1 : Int), Builtin.Slice.slicePlaces lo hi 1)) _ _ s
  rw [adjust_gen lo hi n]
  show wpAny _ _ (pure (((sIx n 0 lo : Nat) : Int), (1 : Int), Builtin.Slice.slicePlaces ((sIx n 0 lo : Nat) : Int) ((sIx n n hi : Nat) : Int) 1)) _ _ s
  rw [places_gen]
  exact wpAny_pure h
theorem pick_gen (xs : Array Value) (i k : Nat) : ((List.range k).filterMap fun (m : Nat) => xs[((i : Int) + (m : Int) * 1).toNat]?).toArray = ((xs.toList.drop i).take k).toArray := by
  have e : (fun (m : Nat) => xs[((i : Int) + (m : Int) * 1).toNat]?) = fun m => xs[i + m]? := by
    funext m
    have : ((i : Int) + (m : Int) * 1).toNat = i + m := by omega
    rw [this]
  rw [e]
  have := pick_run xs i k
  rw [List.filterMap_map] at this
  have e2 : ((fun x => xs[x]?) ∘ fun x => i + x) = fun m => xs[i + m]? := rfl
  rw [e2] at this
  rw [this]
theorem getItem_tuple_cut {t sl : Addr} {items : Array Value} {vl vu : Value} {lo hi : Option Int} {Q : Value->Shared->Prop} (ht : IsTup s.heap t items) (hs : s.heap.IsSliceOf sl vl vu .none) (pl : IsPart vl lo) (pu : IsPart vu hi)
    (hw : ¬ (sIx items.size 0 lo = 0 /\ sIx items.size items.size hi = items.size))
    (h : Q (.ref s.heap.objs.size) { s with heap := s.heap.push { cls := .type "tuple", data := .seq ((items.toList.drop (sIx items.size 0 lo)).take (sIx items.size items.size hi - sIx items.size 0 lo)).toArray } })
    (hsz : items.size ≤ sizeLine) : wpAny (model prog w) A (getItem (.ref t) (.ref sl)) Q E s := by
  have htake : sizeOk (.seq ((items.toList.drop (sIx items.size 0 lo)).take (sIx items.size items.size hi - sIx items.size 0 lo)).toArray) := by
    show ((items.toList.drop (sIx items.size 0 lo)).take (sIx items.size items.size hi - sIx items.size 0 lo)).toArray.size ≤ sizeLine
    rw [List.size_toArray, List.length_take, List.length_drop, Array.length_toList]
    omega
  have hj : sIx items.size items.size hi ≤ items.size := sIx_le _ _ (Nat.le_refl _) hi
  obtain ⟨os, hos, hcs, hds⟩ := id hs
  have hTs : s.TypeIs (.ref sl) "slice" := ⟨os, hos, hcs⟩
  unfold getItem
  try with_reducible refine wpAny_holding ?_
  first | refine wpAny_bind (wpAny_pure ?_) | skip
  refine wpAny_bind (wpAny_sequenceKey ht.typeIs (by decide) ?_)
  refine wpAny_bind (wpAny_callSpecial?_slot (name := Str.ofString "__getitem__") ht.typeIs PyProof.Rows.slot_tuple_getitem
    (wpAny_call_entry PyProof.Rows.slot_tuple_getitem ht.typeIs entry_tuple_getitem ?_ (args_tuple_getitem _ _)))
  show wpAny _ _ (Builtin.Tuple.tupleItemsOf (.ref t) >>= _) _ _ s
  refine wpAny_bind (tupleItemsOf_ ht ?_)
  refine wpAny_bind (wpAny_typeOf hTs ?_)
  rw [if_pos (by decide)]
  refine wpAny_bind (sliceApplied_gen hs pl pu ?_)
  have hno : ¬ ((((sIx items.size 0 lo : Nat) : Int) == 0 && (1 : Int) == 1 && (sIx items.size items.size hi - sIx items.size 0 lo) == items.size) = true) := by
    intro q
    rw [Bool.and_eq_true, Bool.and_eq_true] at q
    have q1 : ((sIx items.size 0 lo : Nat) : Int) = 0 := eq_of_beq q.1.1
    have q2 : sIx items.size items.size hi - sIx items.size 0 lo = items.size := eq_of_beq q.2
    exact hw ⟨by omega, by omega⟩
  show wpAny _ _ (if (((sIx items.size 0 lo : Nat) : Int) == 0 && (1 : Int) == 1 && (sIx items.size items.size hi - sIx items.size 0 lo) == items.size) = true then _ else _) _ _ s
  rw [if_neg hno, pick_gen]
  first
    | exact wpAny_bind (m := Builtin.Tuple.tupleExact _) (wpAny_newObj_type (wpAny_pure ⟨_, rfl, wpAny_pure h⟩) htake)
    | exact wpAny_bind (m := Builtin.Tuple.tupleExact _) (wpAny_newObj_type (wpAny_bind (wpAny_pure (wpAny_pure ⟨_, rfl, wpAny_pure h⟩))) htake)
    | exact wpAny_bind (wpAny_bind (m := Builtin.Tuple.tupleExact _) (wpAny_newObj_type (wpAny_pure (wpAny_pure ⟨_, rfl, wpAny_pure h⟩)) htake))
    | exact wpAny_bind (wpAny_bind (m := Builtin.Tuple.tupleExact _) (wpAny_newObj_type (wpAny_pure ⟨_, rfl, wpAny_pure h⟩) htake))
end
end HT
namespace L2
open PySem PySem.Spec PyProof.Rows
abbrev TO := St->Hp->(Option Int->Hp->Prop)->Prop
def PO (X : Cx) (e : Option Expr) (t : TO) : Prop :=
  ∀ (pins : List (Addr × Obj)) (s : Shared) (σ : St) (H : Hp) (Q : Option Int->Hp->Prop), Inv X pins σ H s->t σ H Q →
    wpAny (model X.prog X.w) X.A (evalPart e X.env) (fun u s' => ∃ o H', Inv X pins σ H' s' /\ IsPart u o /\ Q o H') X.xe s
def tNoPart : TO := fun _ H Q => Q none H
def tPart (t : TE) : TO := fun σ H Q => t σ H fun x H1 => ∃ i, x = .int i /\ Q (some i) H1
theorem intsAre_of {ns : List Int} : ∀ {us : List Value}, Vals (ns.map V.int) us->IntsAre us ns := by
  induction ns with
  | nil => intro us r; rw [List.map_nil] at r; cases r; exact .nil
  | cons n ns ih =>
    intro us r
    rw [List.map_cons] at r
    cases r with
    | cons r1 r2 =>
      obtain ⟨t, e⟩ := r1
      subst e
      exact .cons n t (ih r2)
section
variable {X : Cx} {e : Expr} {te : TE} {lo hi : Option Expr} {tl th : TO} {pos p2 : Pos}
theorem po_none : PO X none tNoPart := by
  intro pins s σ H Q I h
  rw [evalPart_none]
  exact wpAny_pure ⟨none, H, I, .none, h⟩
theorem po_some (h : PE X e te) : PO X (some e) (tPart te) := by
  intro pins s σ H Q I hw
  rw [evalPart_some]
  refine thn (h pins s σ H _ I hw) fun u s1 ⟨x, H1, I1, r1, q1⟩ => ?_
  obtain ⟨i, rfl, q⟩ := q1
  obtain ⟨t, rfl⟩ := r1
  exact ⟨some i, H1, I1, .int i t, q⟩
def SlR (X : Cx) (r : V->Option Int->Option Int->Hp->VK->Prop) : Prop :=
  ∀ (pins : List (Addr × Obj)) (s : Shared) (σ : St) (H : Hp) (x : V) (v vl vu : Value) (lo hi : Option Int) (sl : Addr) (Q : VK), Inv X pins σ H s->RelV x v->s.heap.IsSliceOf sl vl vu .none->IsPart vl lo->IsPart vu hi->r x lo hi H Q →
    ∃ T id, typeLookup (.type T) "__getitem__" = pure (some (.builtin id)) /\ s.TypeIs v T /\ wpAny (model X.prog X.w) X.A (getItem v (.ref sl)) (EP X pins σ Q) X.xe s
def tSl (r : V->Option Int->Option Int->Hp->VK->Prop) (te : TE) (tl th : TO) : TE := fun σ H Q => te σ H fun x H1 => tl σ H1 fun l H2 => th σ H2 fun u H3 => r x l u H3 Q
theorem pe_slice {r : V->Option Int->Option Int->Hp->VK->Prop} (hr : SlR X r) (he : PE X e te) (hl : PO X lo tl) (hu : PO X hi th) : PE X (.Subscript e (.Slice lo hi none p2) pos) (tSl r te tl th) := by
  intro pins s σ H Q I h
  refine Subscript_ (thn (he pins s σ H _ I h) fun v s1 ⟨x, H1, I1, r1, q1⟩ => ?_)
  refine wpAny_Slice (thn (hl pins s1 σ H1 _ I1 q1) fun vl s2 ⟨l, H2, I2, pl, q2⟩ => thn (hu pins s2 σ H2 _ I2 q2) fun vu s3 ⟨u, H3, I3, pu, q3⟩ => ?_)
  rw [evalPart_none]
  refine wpAny_pure ?_
  have I4 : Inv X pins σ H3 { s3 with heap := s3.heap.push { cls := .type "slice", data := .fields #[vl, vu, .none] } } := I3.kept (t' := s3.toks) fun b ob q => Heap.get?_push_of_some _ q
  obtain ⟨T, id, hT, ht, hg⟩ := hr pins { s3 with heap := s3.heap.push { cls := .type "slice", data := .fields #[vl, vu, .none] } } σ H3 x v vl vu l u s3.heap.objs.size Q I4 r1 (Heap.IsSliceOf.new ..) pl pu q3
  show wpAny (model X.prog X.w) X.A (subscriptTail e (.Slice lo hi none p2) v (.ref s3.heap.objs.size)) (EP X pins σ Q) X.xe { s3 with heap := s3.heap.push { cls := .type "slice", data := .fields #[vl, vu, .none] } }
  exact tail_any (ops := [.ref s3.heap.objs.size, v]) ht hT hg (by with_unfolding_all rfl)
def cutV (xs : List V) (lo hi : Option Int) : List V := (xs.drop (HT.sIx xs.length 0 lo)).take (HT.sIx xs.length xs.length hi - HT.sIx xs.length 0 lo)
theorem cutV_length (xs : List V) (lo hi : Option Int) : (cutV xs lo hi).length ≤ xs.length := by
  unfold cutV
  rw [List.length_take, List.length_drop]
  omega
def rSlT (K : PySem.W.Frag) : V->Option Int->Option Int->Hp->VK->Prop := fun x lo hi H Q => ∃ a xs, x = .ref a /\ SqT K H a xs ∧
  ¬ (HT.sIx xs.length 0 lo = 0 /\ HT.sIx xs.length xs.length hi = xs.length) /\ ∀ p, H p = none->Q (.ref p) (upd H p (.tup (cutV xs lo hi)))
theorem sl_tup : SlR X (rSlT X.K) := by
  intro pins s σ H x v vl vu lo hi sl Q I rx hs pl pu h
  obtain ⟨a, xs, rfl, hx, hw, q⟩ := h
  cases rx
  obtain ⟨its, r, ht, hz⟩ := I.tuple hx
  have hlen : its.toArray.size = xs.length := by rw [List.size_toArray]; exact r.length.symm
  refine ⟨"tuple", _, PyProof.Rows.slot_tuple_getitem.lookup, ht.typeIs, ?_⟩
  refine HT.getItem_tuple_cut ht hs pl pu (by rw [hlen]; exact hw) ?_ (by rw [hlen]; exact hz)
  rw [hlen]
  refine ⟨.ref s.heap.objs.size, _, I.laid (t' := s.toks) (o := .tup (cutV xs lo hi)) (fun b ob q => Heap.get?_push_of_some _ q) (Nat.le_refl _) ?_, rfl, q _ (I.hok.fresh (Nat.le_refl _))⟩
  exact ⟨Nat.le_trans (cutV_length xs lo hi) hz, _, (r.drop (HT.sIx xs.length 0 lo)).take (HT.sIx xs.length xs.length hi - HT.sIx xs.length 0 lo), IsTup.new _ _⟩
def rLtT (K : PySem.W.Frag) : R2 := fun x y H Q => ∃ a b ns ms, x = .ref a /\ y = .ref b /\ SqT K H a (ns.map V.int) /\ SqT K H b (ms.map V.int) /\ Q (.bl (HT.lexLt ns ms)) H
theorem op_ltT (hu : X.A.units < cLine) : OpR X (compareOp .Lt) (rLtT X.K) := by
  intro pins s σ H x y v u Q I rx ry h
  obtain ⟨a, b, ns, ms, rfl, rfl, ha, hb, q⟩ := h
  cases rx
  cases ry
  obtain ⟨its, r1, p1, _⟩ := I.tuple ha
  obtain ⟨its2, r2, p2, _⟩ := I.tuple hb
  have i1 : IntsAre its.toArray.toList ns := intsAre_of r1
  have i2 : IntsAre its2.toArray.toList ms := intsAre_of r2
  exact HT.lt_tupInts p1 p2 i1 i2 hu ⟨.bl (HT.lexLt ns ms), H, I, rfl, q⟩
def rCatT (K : PySem.W.Frag) : R2 := fun x y H Q => ∃ a b xs ys, x = .ref a /\ y = .ref b /\ SqT K H a xs /\ SqT K H b ys /\ xs ≠ [] /\ xs.length + ys.length ≤ sizeLine ∧
  (ys = []->Q (.ref a) H) /\ (ys ≠ []->∀ p, H p = none->Q (.ref p) (upd H p (.tup (xs ++ ys))))
theorem Vals.nil_iff {xs : List V} {us : List Value} (r : Vals xs us) : us = [] ↔ xs = [] := by
  cases r with
  | nil => simp
  | cons _ _ => simp
theorem op_catT : OpR X (binaryOp .Add) (rCatT X.K) := by
  intro pins s σ H x y v u Q I rx ry h
  obtain ⟨a, b, xs, ys, rfl, rfl, ha, hb, hx, hz, q1, q2⟩ := h
  cases rx
  cases ry
  obtain ⟨its, r1, p1, _⟩ := I.tuple ha
  obtain ⟨its2, r2, p2, _⟩ := I.tuple hb
  refine HT.cat_tup p1 p2 (fun z => hx (r1.nil_iff.mp z)) (fun z => ⟨.ref a, H, I, rfl, q1 (r2.nil_iff.mp z)⟩) (fun z => ?_) (by rw [← r1.length, ← r2.length]; exact hz)
  refine ⟨.ref s.heap.objs.size, _, I.laid (t' := s.toks) (o := .tup (xs ++ ys)) (fun b ob q => Heap.get?_push_of_some _ q) (Nat.le_refl _) ?_, rfl, q2 (fun w => z (r2.nil_iff.mpr w)) _ (I.hok.fresh (Nat.le_refl _))⟩
  exact ⟨by rw [List.length_append]; exact hz, _, r1.append r2, IsTup.new _ _⟩
end
open PySem PySem.Spec PyProof.Rows
def ixN (n : Nat) (i : Int) : Option Nat := if 0 ≤ i then (if i < n then some i.toNat else none) else if -(n : Int) ≤ i then some (i + n).toNat else none
def atI {α : Type} (xs : List α) (i : Int) : Option α := (ixN xs.length i).bind fun j => xs[j]?
theorem ixN_seq {n : Nat} {i : Int} {j : Nat} (h : ixN n i = some j) : seqIndex? i n = some j /\ j < n /\ -(n : Int) ≤ i /\ i < n := by
  unfold ixN at h
  by_cases h0 : 0 ≤ i
  · rw [if_pos h0] at h
    by_cases h1 : i < n
    · rw [if_pos h1] at h
      have e : i.toNat = j := Option.some.inj h
      exact ⟨by rw [seqIndex_of h0 h1, e], by omega, by omega, h1⟩
    · rw [if_neg h1] at h; cases h
  · rw [if_neg h0] at h
    by_cases h1 : -(n : Int) ≤ i
    · rw [if_pos h1] at h
      have e : (i + n).toNat = j := Option.some.inj h
      exact ⟨by rw [seqIndex_neg (by omega) h1, e], by omega, h1, by omega⟩
    · rw [if_neg h1] at h; cases h
theorem atI_get {α : Type} {xs : List α} {i : Int} {v : α} (h : atI xs i = some v) : ∃ j, seqIndex? i xs.length = some j /\ xs[j]? = some v /\ j < xs.length /\ -(xs.length : Int) ≤ i /\ i < xs.length := by
  unfold atI at h
  cases e : ixN xs.length i with
  | none => rw [e] at h; cases h
  | some j =>
    rw [e] at h
    obtain ⟨h1, h2, h3, h4⟩ := ixN_seq e
    exact ⟨j, h1, h, h2, h3, h4⟩
theorem atI_nat {α : Type} {xs : List α} {j : Nat} {v : α} (h : xs[j]? = some v) : atI xs (j : Int) = some v := by
  have hj : j < xs.length := (List.getElem?_eq_some_iff.mp h).1
  have e : ixN xs.length (j : Int) = some j := by
    unfold ixN
    rw [if_pos (by omega), if_pos (by omega)]; simp
  unfold atI; rw [e]; exact h
def PlainIx (b : Expr) : Prop := ∀ o i, subscripted b false o i = operate [o, i] (getItem o i)
def IxR (X : Cx) (r : R2) : Prop :=
  ∀ (value slice : Expr) (pins : List (Addr × Obj)) (s : Shared) (σ : St) (H : Hp) (x y : V) (v u : Value) (Q : VK), Inv X pins σ H s->RelV x v->RelV y u->r x y H Q →
    subscripted slice false v u = operate [v, u] (getItem v u)->wpAny (model X.prog X.w) X.A (subscriptTail value slice v u) (EP X pins σ Q) X.xe s
def MtR (X : Cx) (id : String) (r : V->List V->Hp->VK->Prop) : Prop :=
  ∀ (pins : List (Addr × Obj)) (s : Shared) (σ : St) (H : Hp) (x : V) (xs : List V) (v : Value) (us : List Value) (Q : VK), Inv X pins σ H s->RelV x v->Vals xs us->r x xs H Q →
    wpAny (model X.prog X.w) X.A (call (.builtin id) (v :: us)) (EP X pins σ Q) X.xe s
section
variable {X : Cx} {a b : Expr} {ta tb : TE} {pos : Pos}
theorem pe_ix {r : R2} (hr : IxR X r) (ha : PE X a ta) (hb : PE X b tb) (hs : PlainIx b) : PE X (.Subscript a b pos) (tOp r ta tb) := by
  intro pins s σ H Q I h
  exact Subscript_ (binT ha hb I h fun v u s2 x y H2 I2 rx ry q => hr a b pins s2 σ H2 x y v u Q I2 rx ry q (hs _ _))
def rIxL (K : PySem.W.Frag) : R2 := fun x y H Q => ∃ p xs i v, x = .ref p /\ y = .int i /\ SqL K H p xs /\ atI xs i = some v /\ Q v H
def rIxT (K : PySem.W.Frag) : R2 := fun x y H Q => ∃ p xs i v, x = .ref p /\ y = .int i /\ SqT K H p xs /\ atI xs i = some v /\ Q v H
theorem ix_list : IxR X (rIxL X.K) := by
  intro value slice pins s σ H x y v u Q I rx ry h hs
  obtain ⟨p, xs, i, z, rfl, rfl, hq, he, q⟩ := h
  cases rx
  obtain ⟨t, rfl⟩ := ry
  obtain ⟨its, r, pl, hz⟩ := I.list hq
  obtain ⟨j, h1, h2, h3, h4, h5⟩ := atI_get he
  obtain ⟨w, ew, rw'⟩ := r.get h2
  have hl := r.length
  have hn := line63
  have fin : EP X pins σ Q w s := ⟨z, H, I, rw', q⟩
  by_cases h0 : 0 ≤ i
  · have hj : i.toNat = j := by
      rw [seqIndex_of h0 h5] at h1
      exact Option.some.inj h1
    exact item_listR pl.isList h0 (by omega) (by rw [hj]; simpa using ew) fin hs
  · have hj : (i + (its.toArray.size : Int)).toNat = j := by
      rw [seqIndex_neg (by omega) h4] at h1
      rw [List.size_toArray, ← hl]
      exact Option.some.inj h1
    exact subscriptTail_builtinR (x := w) pl.isList.typeIs slot_list_getitem.lookup
      (wpAny_getItem_list_neg (Q := fun r s' => r = w /\ EP X pins σ Q r s') pl.isList (by omega) (by rw [List.size_toArray] <;> omega) (by omega) (by rw [hj]; simpa using ew) ⟨rfl, fin⟩) hs
theorem ix_tup : IxR X (rIxT X.K) := by
  intro value slice pins s σ H x y v u Q I rx ry h hs
  obtain ⟨p, xs, i, z, rfl, rfl, hq, he, q⟩ := h
  cases rx
  obtain ⟨t, rfl⟩ := ry
  obtain ⟨its, r, pl, hz⟩ := I.tuple hq
  obtain ⟨j, h1, h2, h3, h4, h5⟩ := atI_get he
  obtain ⟨w, ew, rw'⟩ := r.get h2
  have hl := r.length
  have hn := line63
  have fin : EP X pins σ Q w s := ⟨z, H, I, rw', q⟩
  exact subscriptTail_builtinR (x := w) pl.typeIs slot_tuple_getitem.lookup
    (getItem_tuple (j := j) (Q := fun r s' => r = w /\ EP X pins σ Q r s') pl (by omega) (by omega) (by rw [List.size_toArray, ← hl]; exact h1) (by simpa using ew) ⟨rfl, fin⟩) hs
theorem mapSeq_set (its : List Value) (n j : Nat) (u : Value) : Obj.mapSeq (·.setIfInBounds j u) { cls := .type "list", data := .seq its.toArray n } = { cls := .type "list", data := .seq (its.set j u).toArray n } := by
  simp [Obj.mapSeq]
theorem Inv.lst {pins : List (Addr × Obj)} {σ : St} {H : Hp} {s : Shared} {p : Addr} {xs : List V} (I : Inv X pins σ H s) (h : H p = some (.lst xs)) :
    ∃ (its : List Value) (n : Nat), Vals xs its /\ s.heap.get? p = some { cls := .type "list", data := .seq its.toArray n } /\ xs.length ≤ sizeLine := by
  obtain ⟨z, its, n, r, e⟩ := I.hok p _ h
  exact ⟨its, n, r, e, z⟩
theorem Inv.lstUpd {pins : List (Addr × Obj)} {σ : St} {H : Hp} {s : Shared} {p : Addr} {xs ys : List V} {its its' : List Value} {n n' : Nat} {f : Obj->Obj} (I : Inv X pins σ H s) (h : H p = some (.lst xs))
    (ho : s.heap.get? p = some { cls := .type "list", data := .seq its.toArray n }) (hf : f { cls := .type "list", data := .seq its.toArray n } = { cls := .type "list", data := .seq its'.toArray n' }) (r : Vals ys its') (hz : ys.length ≤ sizeLine) (t : Nat) :
    Inv X pins σ (upd H p (.lst ys)) { s with heap := s.heap.update p f, toks := t } := by
  have e : (s.heap.update p f).get? p = some { cls := .type "list", data := .seq its'.toArray n' } := by
    rw [Heap.get?_update_self f ho (by rw [hf] <;> rfl), hf]
  refine I.write (x := p) (e := p) (by rw [h]; trivial) (.inl rfl) (fun b u hb q => (Heap.get?_update_other _ _ (Ne.symm hb)).trans q) ⟨_, e⟩ ?_
  exact ⟨hz, its', n', r, e⟩
def rSetL : V->V->V->Hp->(Hp->Prop)->Prop := fun o i v H Q => ∃ p xs k j, o = .ref p /\ i = .int k /\ H p = some (.lst xs) /\ ixN xs.length k = some j /\ Q (upd H p (.lst (xs.set j v)))
theorem set_list : PSet X rSetL := by
  intro pins s σ H o i v ov iv u Q I ro ri rv h
  obtain ⟨p, xs, k, j, rfl, rfl, hp, hj, q⟩ := h
  cases ro
  obtain ⟨t, rfl⟩ := ri
  obtain ⟨its, n, r, ho, hz⟩ := I.lst hp
  obtain ⟨h1, h2, h3, h4⟩ := ixN_seq hj
  have hl := r.length
  have hn := line63
  have I' : Inv X pins σ (upd H p (.lst (xs.set j v))) { s with heap := s.heap.update p (Obj.mapSeq (·.setIfInBounds j u)) } :=
    I.lstUpd hp ho (mapSeq_set its n j u) (r.set rv j) (by rw [List.length_set]; exact hz) s.toks
  by_cases h0 : 0 ≤ k
  · have hk : k.toNat = j := by
      rw [seqIndex_of h0 h4] at h1
      exact Option.some.inj h1
    exact PySem.W.ki_setAt ho h0 (by omega) (by rw [List.size_toArray, ← hl]; exact h4) (by rw [hk]; exact ⟨_, I', q⟩)
  · have hk : (k + (its.toArray.size : Int)).toNat = j := by
      rw [seqIndex_neg (by omega) h3] at h1
      rw [List.size_toArray, ← hl]
      exact Option.some.inj h1
    exact PySem.W.ki_setBack ho (by omega) (by rw [List.size_toArray, ← hl]; exact h3) (by omega) (by rw [hk]; exact ⟨_, I', q⟩)
theorem slice_bounds (lo hi : Option Int) (n : Nat) : (sliceBounds lo hi none n).1 = ((HT.sIx n 0 lo : Nat) : Int) /\ (sliceBounds lo hi none n).2.1 = ((HT.sIx n n hi : Nat) : Int) /\ (sliceBounds lo hi none n).2.2 = 1 := by
  refine ⟨?_, ?_, rfl⟩
  · cases lo with
    | none => simp [sliceBounds, HT.sIx]
    | some i =>
      simp only [sliceBounds, HT.sIx, Option.getD_none, show (1 : Int) > 0 by decide, if_true]
      by_cases h : i < 0
      · simp only [h, if_true] <;> omega
      · simp only [h, if_false] <;> omega
  · cases hi with
    | none => simp [sliceBounds, HT.sIx]
    | some i =>
      simp only [sliceBounds, HT.sIx, Option.getD_none, show (1 : Int) > 0 by decide, if_true]
      by_cases h : i < 0
      · simp only [h, if_true] <;> omega
      · simp only [h, if_false] <;> omega
theorem slicePick_cut (its : List Value) (lo hi : Option Int) : slicePick its.toArray lo hi none = ((its.drop (HT.sIx its.length 0 lo)).take (HT.sIx its.length its.length hi - HT.sIx its.length 0 lo)).toArray := by
  obtain ⟨h1, h2, h3⟩ := slice_bounds lo hi its.toArray.size
  unfold slicePick
  rw [h1, h2, h3]
  simp only [sliceRange_one, pick_run, List.size_toArray] <;> rfl
def rSlL (K : PySem.W.Frag) : V->Option Int->Option Int->Hp->VK->Prop := fun x lo hi H Q => ∃ a xs, x = .ref a /\ SqL K H a xs /\ ∀ p, H p = none->Q (.ref p) (upd H p (.lst (cutV xs lo hi)))
theorem sl_list : SlR X (rSlL X.K) := by
  intro pins s σ H x v vl vu lo hi sl Q I rx hs pl pu h
  obtain ⟨a, xs, rfl, hx, q⟩ := h
  cases rx
  obtain ⟨its, r, ht, hz⟩ := I.list hx
  have hlen := r.length
  refine ⟨"list", _, slot_list_getitem.lookup, ht.isList.typeIs, ?_⟩
  refine wpAny_getItem_list_slice ht.isList hs pl pu .none (by simp) ?_ (by rw [List.size_toArray] <;> omega)
  rw [slicePick_cut, ← hlen]
  refine ⟨.ref s.heap.objs.size, _, I.laid (t' := s.toks) (o := .lst (cutV xs lo hi)) (fun b ob q => Heap.get?_push_of_some _ q) (Nat.le_refl _) ?_, rfl, q _ (I.hok.fresh (Nat.le_refl _))⟩
  exact ⟨Nat.le_trans (cutV_length xs lo hi) hz, _, 0, (r.drop (HT.sIx xs.length 0 lo)).take (HT.sIx xs.length xs.length hi - HT.sIx xs.length 0 lo), Heap.get?_push_size _ rfl⟩
def flatV : V->Bool
  | .non => true
  | .bl _ => true
  | .int _ => true
  | .str _ => true
  | _ => false
def eqV : V->V->Bool
  | .non, .non => true
  | .bl a, .bl b => a == b
  | .bl a, .int b => (if a then 1 else 0) == b
  | .int a, .bl b => a == (if b then 1 else 0)
  | .int a, .int b => a == b
  | .str a, .str b => a == b
  | _, _ => false
theorem eqAt_V {A : Around} {s : Shared} {y x : V} {u v : Value} (ry : RelV y u) (rx : RelV x v) (fy : flatV y = true) (fx : flatV x = true) : SeqAt.EqAt A s u v (eqV y x) := by
  cases y with
  | non =>
    cases ry
    cases x with
    | non => cases rx; exact SeqAt.EqAt.same _
    | bl b => cases rx; exact SeqAt.EqAt.none_bool b
    | int b => obtain ⟨t, rfl⟩ := rx; exact SeqAt.EqAt.none_int b t
    | str b => obtain ⟨t, rfl⟩ := rx; exact SeqAt.EqAt.none_str b t
    | _ => exact absurd (show false = true from fx) Bool.false_ne_true
  | bl a =>
    cases ry
    cases x with
    | non => cases rx; exact SeqAt.EqAt.bool_none a
    | bl b => cases rx; exact SeqAt.EqAt.bool_bool a b
    | int b => obtain ⟨t, rfl⟩ := rx; exact SeqAt.EqAt.bool_int a b t
    | str b => obtain ⟨t, rfl⟩ := rx; exact SeqAt.EqAt.bool_str a b t
    | _ => exact absurd (show false = true from fx) Bool.false_ne_true
  | int a =>
    obtain ⟨t', rfl⟩ := ry
    cases x with
    | non => cases rx; exact SeqAt.EqAt.int_none a t'
    | bl b => cases rx; exact SeqAt.EqAt.int_bool a t' b
    | int b => obtain ⟨t, rfl⟩ := rx; exact SeqAt.EqAt.int_int a t' b t
    | str b => obtain ⟨t, rfl⟩ := rx; exact SeqAt.EqAt.int_str a t' b t
    | _ => exact absurd (show false = true from fx) Bool.false_ne_true
  | str a =>
    obtain ⟨t', rfl⟩ := ry
    cases x with
    | non => cases rx; exact SeqAt.EqAt.str_none a t'
    | bl b => cases rx; exact SeqAt.EqAt.str_bool a t' b
    | int b => obtain ⟨t, rfl⟩ := rx; exact SeqAt.EqAt.str_int a t' b t
    | str b => obtain ⟨t, rfl⟩ := rx; exact SeqAt.EqAt.str_str a t' b t
    | _ => exact absurd (show false = true from fx) Bool.false_ne_true
  | _ => exact absurd (show false = true from fy) Bool.false_ne_true
def eqU (x : V) (u : Value) : Bool := match u with
  | .none => eqV .non x
  | .bool b => eqV (.bl b) x
  | .int i _ => eqV (.int i) x
  | .str z _ => eqV (.str z) x
  | _ => false
theorem eqU_of {x y : V} {u : Value} (r : RelV y u) (f : flatV y = true) : eqU x u = eqV y x := by
  cases y with
  | non => cases r; rfl
  | bl b => cases r; rfl
  | int i => obtain ⟨t, rfl⟩ := r; rfl
  | str z => obtain ⟨t, rfl⟩ := r; rfl
  | _ => exact absurd (show false = true from f) Bool.false_ne_true
theorem any_eqU {x : V} : ∀ {xs : List V} {us : List Value}, Vals xs us->xs.all flatV = true->us.any (eqU x) = xs.any fun y => eqV y x
  | _, _, .nil, _ => rfl
  | y :: xs, u :: us, .cons r t, f => by
    rw [List.all_cons, Bool.and_eq_true] at f
    rw [List.any_cons, List.any_cons, eqU_of r f.1, any_eqU t f.2]
theorem mem_eqAt {A : Around} {s : Shared} {x : V} {v : Value} (rx : RelV x v) (fx : flatV x = true) : ∀ {xs : List V} {us : List Value}, Vals xs us->xs.all flatV = true->∀ u ∈ us, SeqAt.EqAt A s u v (eqU x u)
  | _, _, .nil, _ => fun u hu => by cases hu
  | y :: xs, u :: us, .cons r t, f => fun u' hu => by
    rw [List.all_cons, Bool.and_eq_true] at f
    rcases List.mem_cons.mp hu with rfl | hu
    · rw [eqU_of r f.1]; exact eqAt_V r rx f.1 fx
    · exact mem_eqAt rx fx t f.2 u' hu
def inV (x : V) (xs : List V) : Bool := xs.any fun y => eqV y x
def rIn (K : PySem.W.Frag) (neg : Bool) : R2 := fun x y H Q => ∃ p xs, y = .ref p /\ (SqL K H p xs ∨ SqT K H p xs) /\ flatV x = true /\ xs.all flatV = true /\ Q (.bl (if neg then !inV x xs else inV x xs)) H
theorem op_in_seq : OpR X (compareOp .In) (rIn X.K false) := by
  intro pins s σ H x y v u Q I rx ry h
  obtain ⟨p, xs, rfl, hq, fx, fs, q⟩ := h
  cases ry
  rcases hq with hq | hq
  · obtain ⟨its, r, pl, hz⟩ := I.list hq
    refine SeqAt.in_listAt (eqU x) pl.isList (fun w hw => mem_eqAt rx fx r fs w (by simpa using hw)) ⟨.bl _, H, I, rfl, ?_⟩
    rw [show its.toArray.any (eqU x) = its.any (eqU x) by simp, any_eqU r fs]
    exact q
  · obtain ⟨its, r, pl, hz⟩ := I.tuple hq
    refine SeqAt.in_tupleAt (eqU x) pl (fun w hw => mem_eqAt rx fx r fs w (by simpa using hw)) ⟨.bl _, H, I, rfl, ?_⟩
    rw [show its.toArray.any (eqU x) = its.any (eqU x) by simp, any_eqU r fs]
    exact q
theorem call_len_seq : CallR X (.builtin "len") (fun xs H Q => ∃ p ys, xs = [.ref p] /\ (SqL X.K H p ys ∨ SqT X.K H p ys) /\ Q (.int ys.length) H) := by
  intro pins s σ H xs us Q I r h
  obtain ⟨p, ys, rfl, hq, q⟩ := h
  obtain ⟨u, rfl, rx⟩ := vals1 r
  cases rx
  have hn := line63
  rcases hq with hq | hq
  · obtain ⟨its, r', pl, hz⟩ := I.list hq
    have hlen := r'.length
    exact Calls.call_len_list pl.isList (by simp only [List.size_toArray] <;> omega) ⟨.int ys.length, H, I.tok _, ⟨s.toks + 1, by rw [List.size_toArray, hlen]⟩, q⟩
  · obtain ⟨its, r', pl, hz⟩ := I.tuple hq
    have hlen := r'.length
    exact len_tuple pl (by simp only [List.size_toArray] <;> omega) ⟨.int ys.length, H, I.tok _, ⟨s.toks + 1, by rw [List.size_toArray, hlen]⟩, q⟩
theorem call_list_of : CallR X (.type "list") (fun xs H Q => ∃ p ys, xs = [.ref p] /\ (SqL X.K H p ys ∨ SqT X.K H p ys) /\ ∀ l, H l = none->Q (.ref l) (upd H l (.lst ys))) := by
  intro pins s σ H xs us Q I r h
  obtain ⟨p, ys, rfl, hq, q⟩ := h
  obtain ⟨u, rfl, rx⟩ := vals1 r
  cases rx
  have fin : ∀ (its : List Value), Vals ys its->ys.length ≤ sizeLine->∀ (h' : Heap) (c' : Nat), (∀ b o', s.heap.get? b = some o'->h'.get? b = some o') →
      h'.get? s.heap.objs.size = some { cls := .type "list", dict := none, data := .seq its.toArray c', slots := #[] }->EP X pins σ Q (.ref s.heap.objs.size) { s with heap := h' } := fun its r' hz h' c' kp e =>
    ⟨.ref s.heap.objs.size, _, I.laid (t' := s.toks) kp (Nat.le_refl _) (show ObjOk X.prog X.w _ h' _ (.lst ys) from ⟨hz, its, c', r', e⟩), rfl, q _ (I.hok.fresh (Nat.le_refl _))⟩
  rcases hq with hq | hq
  · obtain ⟨its, r', pl, hz⟩ := I.list hq
    have hlen := r'.length
    obtain ⟨o, ho, hc, n, hd⟩ := pl.isList
    exact call_list_seq p (.inl rfl) ho hc hd (fun h' c' kp e => fin its r' hz h' c' kp e) (by simp only [List.size_toArray] <;> omega)
  · obtain ⟨its, r', pl, hz⟩ := I.tuple hq
    have hlen := r'.length
    obtain ⟨o, ho, hc, n, hd⟩ := pl
    exact call_list_seq p (.inr rfl) ho hc hd (fun h' c' kp e => fin its r' hz h' c' kp e) (by simp only [List.size_toArray] <;> omega)
def tyV (K : PySem.W.Frag) (T : String) (x : V) (H : Hp) : Prop := match x with
  | .str _ => T = "str"
  | .int _ => T = "int"
  | .ref p => (T = "list" /\ ∃ xs, SqL K H p xs) ∨ (T = "tuple" /\ ∃ o, K.lookup p = some o /\ o.cls = .type "tuple" /\ o.dict = none) ∨
      (T = "dict" /\ ((∃ kvs, H p = some (.dK kvs)) ∨ ∃ kvs, H p = some (.dT kvs))) ∨ (T = "set" /\ ∃ S n, H p = some (.set S n))
  | _ => False
theorem tyV_is {pins : List (Addr × Obj)} {σ : St} {H : Hp} {s : Shared} {T : String} {x : V} {v : Value} (I : Inv X pins σ H s) (r : RelV x v) (ty : tyV X.K T x H) :
    s.TypeIs v T /\ ∀ a, v = .ref a->∃ ob, s.heap.get? a = some ob /\ ob.dict = none := by
  cases x with
  | str z =>
    obtain ⟨t, rfl⟩ := r
    cases (show T = "str" from ty)
    exact ⟨typeIs_str s z t, fun _ e => nomatch e⟩
  | int i =>
    obtain ⟨t, rfl⟩ := r
    cases (show T = "int" from ty)
    exact ⟨typeIs_int s i t, fun _ e => nomatch e⟩
  | ref p =>
    cases r
    rcases ty with ⟨rfl, xs, hq⟩ | ⟨rfl, o, hk, hc, hd⟩ | ⟨rfl, hk⟩ | ⟨rfl, S, n, hk⟩
    · obtain ⟨its, _, pl, _⟩ := I.list hq
      refine ⟨pl.isList.typeIs, fun a e => ?_⟩
      cases e
      obtain ⟨o, n, e, c, hd, _⟩ := pl
      exact ⟨o, e, hd⟩
    · refine ⟨⟨o, I.kIn p o hk, hc⟩, fun a e => ?_⟩
      cases e
      exact ⟨o, I.kIn _ o hk, hd⟩
    · have z : ∃ o, s.heap.get? p = some o /\ o.ExactDict := by
        rcases hk with ⟨kvs, hk⟩ | ⟨kvs, hk⟩
        · obtain ⟨_, _, _, _, o, _, _, e, ex, _⟩ := I.hok p _ hk
          exact ⟨o, e, ex⟩
        · obtain ⟨_, _, _, _, o, _, _, e, ex, _⟩ := I.hok p _ hk
          exact ⟨o, e, ex⟩
      obtain ⟨o, e, ex⟩ := z
      refine ⟨⟨o, e, ex.1⟩, fun a e2 => ?_⟩
      cases e2
      exact ⟨o, e, ex.2.1⟩
    · obtain ⟨o, _, _, _, e, ex, _⟩ := I.hok p _ hk
      refine ⟨⟨o, e, ex.1⟩, fun a e2 => ?_⟩
      cases e2
      exact ⟨o, e, ex.2.1⟩
  | _ => exact False.elim ty
def tBM0 (K : PySem.W.Frag) (T : String) (r : V->List V->Hp->VK->Prop) (to : TE) : TE := fun σ H Q => to σ H fun x H1 => tyV K T x H1 /\ r x [] H1 Q
def tBM (K : PySem.W.Frag) (T : String) (r : V->List V->Hp->VK->Prop) (to : TE) (t : TA) : TE := fun σ H Q => to σ H fun x H1 => tyV K T x H1 /\ t σ H1 fun xs H2 => r x xs H2 Q
variable {o e : Expr} {es : List Expr} {to : TE} {t : TA} {name : Str} {apos cpos : Pos} {T id : String} {r : V->List V->Hp->VK->Prop}
theorem pe_bm0 (pa : PlainAttrs T) (slot : Slot T name id) (hty : typeOf (.builtin id) = pure (.type "method_descriptor")) (hm : MtR X id r) (ho : PE X o to)
    (hbase : attributeBase o name X.env (eval o X.env) = eval o X.env := by rfl) (hline : (apos.endLine == cpos.line) = true := by rfl) : PE X (.Call (.Attribute o name apos) [] [] cpos) (tBM0 X.K T r to) := by
  intro pins s σ H Q I h
  refine wpAny_Call_method0_late hbase hline (thn (ho pins s σ H _ I h) fun v s1 ⟨x, H1, I1, r1, ty, q1⟩ => ?_)
  obtain ⟨h1, h2⟩ := tyV_is I1 r1 ty
  exact ⟨T, id, pa, slot, hty, h1, h2, Calls.callWith_builtin rfl (PySem.evalArgs_none (hm pins s1 σ H1 x [] v [] Q I1 r1 .nil q1))⟩
theorem pe_bm (pa : PlainAttrs T) (slot : Slot T name id) (hty : typeOf (.builtin id) = pure (.type "method_descriptor")) (hm : MtR X id r) (ho : PE X o to) (ha : PA X (e :: es) t)
    (hbase : attributeBase o name X.env (eval o X.env) = eval o X.env := by rfl)
    (hfew : ((backTo cpos (starEach (e :: es) X.env)).all (fun x => !x.1) && (backToKw cpos (keywordEach [] X.env)).all (fun x => x.1.isSome)
      && decide ((e :: es).length + ([] : List Keyword).length + (if ([] : List Keyword).isEmpty then 0 else 1) < 30)) = true := by rfl)
    (hline : (apos.endLine == cpos.line) = true := by rfl) (hs : starEach (e :: es) X.env = (false, eval e X.env) :: starEach es X.env := by rfl) (hplain : (backTo cpos (starEach es X.env)).any (·.1) = false := by rfl) :
    PE X (.Call (.Attribute o name apos) (e :: es) [] cpos) (tBM X.K T r to t) := by
  intro pins s σ H Q I h
  refine wpAny_Call_method_late hbase hfew hline rfl (thn (ho pins s σ H _ I h) fun v s1 ⟨x, H1, I1, r1, ty, q1⟩ => ?_)
  obtain ⟨h1, h2⟩ := tyV_is I1 r1 ty
  refine ⟨T, id, pa, slot, hty, h1, h2, ?_⟩
  have hA := ha cpos pins s1 σ H1 _ I1 q1
  rw [hs] at hA ⊢
  refine Calls.callWith_builtin (by show (false || (backTo cpos (starEach es X.env)).any (·.1)) = false; rw [hplain] <;> rfl) (Calls.evalArgs_plain ?_)
  exact thn hA fun us s2 ⟨vs, H2, I2, r2, q2⟩ => hm pins s2 σ H2 x vs v us Q I2 r1 r2 q2
/- xs.append(e), list.index on a module's tuple .. are MtR facts of 06m -/
end
open PySem PySem.Spec PyProof.Rows
def MtM (X : Cx) (id : String) (r : V->List V->Hp->VK->Prop) : Prop :=
  ∀ (pins : List (Addr × Obj)) (s : Shared) (σ : St) (H : Hp) (x : V) (xs : List V) (v : Value) (us : List Value) (Q : VK), Inv X pins σ H s->RelV x v->Vals xs us->r x xs H Q →
    wpAny (model X.prog X.w) X.A (call (.builtin id) (v :: us)) (EP X pins σ Q) X.xe s
theorem Vals.one : ∀ {x : V} {us : List Value}, Vals [x] us->∃ u, us = [u] /\ RelV x u
  | _, _, .cons r .nil => ⟨_, rfl, r⟩
theorem Vals.zero : ∀ {us : List Value}, Vals [] us->us = []
  | _, .nil => rfl
theorem Vals.dropLast {xs : List V} {us : List Value} (h : Vals xs us) : Vals xs.dropLast us.dropLast := by
  induction h with
  | nil => exact .nil
  | cons r t ih =>
    cases t with
    | nil => exact .nil
    | cons q t' => exact .cons r ih
theorem Vals.reverse {xs : List V} {us : List Value} (h : Vals xs us) : Vals xs.reverse us.reverse := by
  induction h with
  | nil => exact .nil
  | cons r t ih => rw [List.reverse_cons, List.reverse_cons]; exact Vals.append ih (.cons r .nil)
theorem erase_last {α : Type} (l : List α) : l.eraseIdx (l.length - 1) = l.dropLast := by
  induction l with
  | nil => rfl
  | cons a r ih =>
    cases r with
    | nil => rfl
    | cons b r =>
      have e : (a :: b :: r).length - 1 = ((b :: r).length - 1) + 1 := by
        have h1 : (a :: b :: r).length = r.length + 2 := rfl
        have h2 : (b :: r).length = r.length + 1 := rfl
        omega
      rw [e, List.eraseIdx_cons_succ, ih]
      all_goals rfl
section
variable {X : Cx} {pins : List (Addr × Obj)} {σ : St} {H : Hp} {s : Shared} {l b : Addr} {xs ys zs : List V}
theorem Inv.lset {its its' : List Value} {n : Nat} {f : Array Value->Array Value} {t' : Nat} (I : Inv X pins σ H s) (hH : H l = some (.lst xs))
    (e : s.heap.get? l = some { cls := .type "list", data := .seq its.toArray n }) (hf : f its.toArray = its'.toArray) (hv : Vals ys its') (hz : ys.length ≤ sizeLine) :
    Inv X pins σ (upd H l (.lst ys)) { s with heap := s.heap.update l (Obj.mapSeq f), toks := t' } := by
  have q := PySem.IsL.update e f
  rw [hf] at q
  refine I.write (x := l) (e := l) (by rw [hH]; exact trivial) (.inl rfl) (fun b' u hb hu => (Heap.get?_update_other s.heap (Obj.mapSeq f) (Ne.symm hb)).trans hu) ⟨_, q⟩ ?_
  exact ⟨hz, its', _, hv, q⟩
theorem Inv.lnew {its : List Value} {t' : Nat} (I : Inv X pins σ H s) (hv : Vals ys its) (hz : ys.length ≤ sizeLine) :
    Inv X pins σ (upd H s.heap.objs.size (.lst ys)) { s with heap := s.heap.push { cls := .type "list", data := .seq its.toArray }, toks := t' } :=
  I.laid (fun _ _ q => Heap.get?_push_of_some _ q) (Nat.le_refl _) ⟨hz, its, 0, hv, Heap.get?_push_size _ rfl⟩
theorem Inv.fresh (I : Inv X pins σ H s) : H s.heap.objs.size = none := I.hok.fresh (Nat.le_refl _)
theorem Inv.lstM (I : Inv X pins σ H s) (hH : H l = some (.lst xs)) : xs.length ≤ sizeLine /\ ∃ (its : List Value) (n : Nat), Vals xs its /\ xs.length = its.length /\ s.heap.get? l = some { cls := .type "list", data := .seq its.toArray n } := by
  obtain ⟨z, its, n, r, e⟩ := I.hok l _ hH
  exact ⟨z, its, n, r, r.length, e⟩
end
section
variable {X : Cx}
def rAppend : V->List V->Hp->VK->Prop := fun x vs H Q => ∃ l xs y, x = .ref l /\ vs = [y] /\ H l = some (.lst xs) /\ xs.length < sizeLine /\ Q .non (upd H l (.lst (xs ++ [y])))
theorem mt_append : MtM X "list.append" rAppend := by
  intro pins s σ H x vs v us Q I rx rv h
  obtain ⟨l, xs, y, rfl, rfl, hH, hz, q⟩ := h
  cases rx
  obtain ⟨u, rfl, ru⟩ := rv.one
  obtain ⟨z, its, n, r, hl, e⟩ := I.lstM hH
  refine call_meets F.slot_list_append ⟨_, e, rfl⟩ F.entry_list_append (F.args_list_append_2 _ _) (PySem.list_append l its.toArray n u (by rw [List.size_toArray]; omega)) ⟨e, ?_⟩
  refine ⟨.non, _, I.lset (its' := its ++ [u]) hH e (by simp) (r.append (.cons ru .nil)) ?_, rfl, q⟩
  rw [List.length_append, List.length_singleton]
  omega
def rPop : V->List V->Hp->VK->Prop := fun x vs H Q => ∃ l xs y, x = .ref l /\ vs = [] /\ H l = some (.lst xs) /\ xs[xs.length - 1]? = some y /\ Q y (upd H l (.lst xs.dropLast))
theorem mt_pop : MtM X "list.pop" rPop := by
  intro pins s σ H x vs v us Q I rx rv h
  obtain ⟨l, xs, y, rfl, rfl, hH, hy, q⟩ := h
  cases rx
  have hus := rv.zero
  subst hus
  obtain ⟨z, its, n, r, hl, e⟩ := I.lstM hH
  obtain ⟨u, hu, ru⟩ := r.get hy
  have hy' : its.toArray[its.toArray.size - 1]? = some u := by
    show its.toArray[its.length - 1]? = some u
    rw [← Array.getElem?_toList, ← hl]
    exact hu
  refine call_meets F.slot_list_pop ⟨_, e, rfl⟩ F.entry_list_pop (F.args_list_pop_1 _) (MeetsSeq.list_pop_last l its.toArray n u hy' (by rw [List.size_toArray]; omega)) ⟨e, ?_⟩
  refine ⟨y, _, I.lset (its' := its.dropLast) hH e ?_ r.dropLast ?_, ru, q⟩
  · show its.toArray.eraseIdxIfInBounds (its.toArray.size - 1) = its.dropLast.toArray
    rw [List.size_toArray, List.eraseIdxIfInBounds_toArray, erase_last]
  · rw [List.length_dropLast]
    omega
def rCat : R2 := fun x y H Q => ∃ l b xs zs, x = .ref l /\ y = .ref b /\ H l = some (.lst xs) /\ H b = some (.lst zs) /\ xs.length + zs.length ≤ sizeLine /\ ∀ p, H p = none->Q (.ref p) (upd H p (.lst (xs ++ zs)))
theorem op_cat : OpR X (binaryOp .Add) rCat := by
  intro pins s σ H x y v u Q I rx ry h
  obtain ⟨l, b, xs, zs, rfl, rfl, hH, hB, hz, q⟩ := h
  cases rx
  cases ry
  obtain ⟨z, its, n, r, hl, e⟩ := I.lstM hH
  obtain ⟨z2, its2, n2, r2, hl2, e2⟩ := I.lstM hB
  refine PySem.P.add_list e e2 ?_ (by rw [List.size_toArray, List.size_toArray]; omega)
  have ea : its.toArray ++ its2.toArray = (its ++ its2).toArray := by simp
  rw [ea]
  exact ⟨.ref _, _, I.lnew (t' := s.toks) (r.append r2) (by rw [List.length_append]; omega), rfl, q _ I.fresh⟩
end
section
variable {prog : Program} {w : World} {A : Around} {E : Value->Shared->Prop} {s : Shared}
set_option maxRecDepth 100000 in
end
end L2
namespace Att
open PySem PySem.W PySem.Calls PyProof.Rows
theorem ints_of_wellAll {P : Params} {h : Heap} : ∀ (ns : List Int) (vs : List Value), WellAll P h vs (ns.map WData.int)->IntsAre vs ns := by
  intro ns
  induction ns with
  | nil =>
    intro vs w
    rw [List.map_nil] at w
    cases w
    exact .nil
  | cons n ns ih =>
    intro vs w
    rw [List.map_cons] at w
    cases w with
    | cons a b =>
      cases a
      exact .cons _ _ (ih _ b)
theorem script_of {l : OpenLaw} {n : Nat} (hn : l.most = some n) {P : Params} {h : Heap} {args : List WData} {vals : List Value}
    (hpre : l.row.toRowW.claim.pre args = true) (hwl : WellAll P h vals args) :
    ∃ a vs ns, vals = [Value.ref a] /\ args = [WData.list (ns.map WData.int)] /\ h.get? a = some { cls := .type "list", data := .seq vs.toArray } /\ IntsAre vs ns /\ ns.length ≤ n := by
  have hsh : WShape.hasAll [] args [.list .int] = true := (pre_splitW hpre).1
  have hc : l.pre.holds [] { args := args } = true := (pre_splitW hpre).2
  obtain ⟨d, r, rfl, h1, h2⟩ := hasAllW_cons hsh
  obtain rfl := hasAllW_nil h2
  obtain ⟨xs, rfl, h3⟩ := hasW_list h1
  obtain ⟨ns, rfl⟩ := items_int h3
  have hlen : ns.length ≤ n := by
    unfold OpenLaw.pre at hc
    have h4 : (WTm.not (.lt (.lit (.int (n : Int))) (.len (.arg 0)))).holds [] { args := [.list (ns.map .int)] } = true := by
      have h4 := (holds_andW hc).1
      rw [hn] at h4
      exact h4
    have h5 := condW_of h4 (w_not (w_lt w_lit (w_len_list (w_arg rfl))))
    rw [List.length_map] at h5
    refine Nat.le_of_not_lt fun q => ?_
    have q' : (n : Int) < ((ns.length : Nat) : Int) := by omega
    first
      | (rw [decide_eq_true q'] at h5; exact absurd h5 (by decide))
      | (simp at h5; omega)
  cases hwl with
  | cons w1 w2 =>
    cases w2
    cases w1 with
    | list ho hall => exact ⟨_, _, ns, rfl, rfl, ho, ints_of_wellAll ns _ hall, hlen⟩
theorem post_true (l : OpenLaw) (args : List WData) : l.row.toRowW.claim.post args (.bool true) args = true :=
  postW_of (r := l.row.toRowW) (X := (true == true))
    (show WShape.has [] (.bool true) .bool = true by first | rfl | decide | simp [WShape.has, WShape.arms, WShape.armsAll])
    (show (WTm.eq .res (.lit (.bool true))).value [] { args := args, res := some (.bool true), after := args } = some (.bool (true == true)) from w_eq_bool (w_res rfl) w_lit) rfl
theorem attach_call {l : OpenLaw} {n : Nat} {q : Program} {loose : List Str} {XP : (Str->Option Value)->Heap->Prop} {YP : World->Heap->Prop} {d : DefRec}
    (hn : l.most = some n) (hdf : d.params.defaults = [])
    (call : ∀ (w : World) (s₀ s₁ : Shared) (mg mb : Str->Option Value) (fa : Addr) (o : Obj) (pm cd doc : Value) (a : Addr) (vs : List Value) (ns : List Int),
      Ground q loose [] XP w s₀ mg mb s₁.heap->YP w s₁.heap →
      s₁.heap.get? fa = some o->o.data = .func (docDef d.name d.params d.body d.scope pm cd doc)->s₁.heap.CodeRec cd d.name->mg d.name = some (.ref fa) →
      s₁.heap.get? a = some { cls := .type "list", data := .seq vs.toArray }->IntsAre vs ns->ns.length ≤ n->s₁.gens = #[] →
      codeAny (model l.prog w) callerA (.call (.ref fa) ⟨[.ref a], []⟩) (fun r s' => r = .ok (.ret (.bool true)) /\ OldK s₁.heap s'.heap /\ s'.os = s₁.os /\ AllBare s'.gens) s₁) :
    WalkO q loose XP YP l.row.toRowW d [] (fun f vs => PySem.call f vs) := by
  intro w s₀ s₁ mg mb G Y fa o pm cd doc dV kV ho hd hcd hD hmg hg args vals as hpre hlay hrd hwl hlo
  obtain rfl : dV = .none := Dflts.none hD hdf
  obtain rfl : kV = .none := Dflts.noKw hD
  obtain ⟨a, vs, ns, rfl, rfl, hobj, hints, hlen⟩ := script_of hn hpre hwl
  refine enter_call (codeAny_mono (call w s₀ s₁ mg mb fa o pm cd doc a vs ns G Y ho (fd_plain hd) hcd hmg hobj hints hlen hg) fun r s' hq => ?_)
  obtain ⟨rfl, h2, h3, h4⟩ := hq
  exact ⟨.inl ⟨.bool true, .bool true, [], rfl, fun _ => rfl, .bool true, post_true l _, fun _ => ⟨List.Pairwise.nil, fun _ hm => (nomatch hm)⟩⟩, h2, h3, h4⟩
section
variable {prog : Program} {w : World} {A : Around} {E : Value->Shared->Prop} {s : Shared} {K : Frag}
def ledger (h : Heap) (L d : Addr) : List (Addr × Obj) := (List.range h.objs.size).filterMap fun a => if a = L ∨ a = d then none else (h.get? a).map fun o => (a, o)
end
end Att
namespace L2
open PySem PySem.Spec PyProof.Rows
theorem vals_ints : ∀ {vs : List Value} {ns : List Int}, IntsAre vs ns->Vals (ns.map V.int) vs
  | _, _, .nil => .nil
  | _, _, .cons n t h => .cons ⟨t, rfl⟩ (vals_ints h)
def Only (H : Hp) : Prop := ∀ b, H b = none ∨ ∃ o xs, H b = some (.frz o (.lst xs))
theorem law_call {P : Program} {w : World} {K : PySem.W.Frag} {mg mb : Str->Option Value} {CX : CXT} {k : Nat} {fa a : Addr} {fd : FuncData} {x : Str} {sp : Sp} {s₁ : Shared} {vs : List Value} {ns : List Int}
    (KX : K.In s₁.heap) (hns : s₁.heap.Ns mainGlobals mg) (hb : s₁.heap.Ns builtinsNs mb) (hbb : ∀ x : Str, x ≠ "__name__"->mb x = bootBuiltins x) (hlim : s₁.heap.NoLimit) (hg : s₁.gens = #[])
    (ha : s₁.heap.get? a = some { cls := .type "list", data := .seq vs.toArray }) (hi : IntsAre vs ns) (hl : ns.length ≤ sizeLine) (hr : Room k callerA)
    (F : ∀ base : Heap, K.In base->base.Ns mainGlobals mg->FnOk P w K mg base CX k fa fd [x] sp) (hbind : ∀ (s : Shared) (u : Value), BindsTo s fd ⟨[u], []⟩ [(x, u)])
    (hsp : ∀ H : Hp, Only H->SqL K H a (ns.map V.int)->sp [.ref a] H (fun v _ => v = .bl true) fun _ _ _ => False)
    (hCX : ∀ H e s', CX [] H s₁ (fun _ _ _ => False) e s'->False) :
    codeAny (model P w) callerA (.call (.ref fa) ⟨[.ref a], []⟩) (fun r s' => r = .ok (.ret (.bool true)) /\ OldK s₁.heap s'.heap /\ s'.os = s₁.os /\ AllBare s'.gens) s₁ := by
  have rv := vals_ints hi
  have lenV := hi.length
  have core : ∀ H : Hp, Only H->SqL K H a (ns.map V.int)->HOk P w H s₁.heap->(∀ b, H b ≠ none->b = a)->(H a ≠ none->K.lookup a = none) →
      codeAny (model P w) callerA (.call (.ref fa) ⟨[.ref a], []⟩) (fun r s' => r = .ok (.ret (.bool true)) /\ OldK s₁.heap s'.heap /\ s'.os = s₁.os /\ AllBare s'.gens) s₁ := by
    intro H hO hS hok hA hK
    have base_of : ∀ {b : Addr} {o : Obj}, s₁.heap.get? b = some o->H b = none->(hidT s₁.heap H).get? b = some o := fun e n => hidT_get e n
    have noA : ∀ {b : Addr} {o : Obj} {es : Array DictEntry} {ep : Nat}, s₁.heap.get? b = some o->o.data = .dict es ep->H b = none := fun {b o es ep} e d => by
      cases q : H b with
      | none => rfl
      | some u =>
        have e' : b = a := hA b (by rw [q]; simp)
        subst e'
        rw [ha] at e; cases e
        have d' : Data.seq vs.toArray _ = Data.dict es ep := d
        cases d'
    have nsK : ∀ {b : Addr} {m : Str->Option Value}, s₁.heap.Ns b m->(hidT s₁.heap H).Ns b m := fun {b m} ⟨o, es, ep, e, d, r⟩ => ⟨o, es, ep, base_of e (noA e d), d, r⟩
    have hKb : K.In (hidT s₁.heap H) := fun b o e => base_of (KX b o e) (by
      cases q : H b with
      | none => rfl
      | some u =>
        have e' : b = a := hA b (by rw [q]; simp)
        subst e'
        rw [hK (by rw [q]; simp)] at e; cases e)
    have hM : Mod K mg (hidT s₁.heap H) := ⟨hKb, nsK hns, ⟨mb, nsK hb, hbb⟩, let ⟨mc, h1, h2⟩ := hlim; ⟨mc, nsK h1, h2⟩⟩
    have e0 : Env0 P w K mg (hidT s₁.heap H) callerA [] s₁ H := ⟨rfl, hM, fun b o e => of_hidT e, Nat.le_of_eq (hidT_size _ _), trivial, fun b hb => absurd (show b ∈ ([] : List Addr) from hb) (by simp), hok, .of_eq hg⟩
    refine codeAny_mono ((F _ hKb (nsK hns)).run callerA [] s₁ H ⟨[.ref a], []⟩ [.ref a] [.ref a] _ _ hr e0 (hbind s₁ (.ref a)) (.cons rfl .nil) (hsp H hO hS)) fun r s' h => ?_
    cases r with
    | error e => exact (hCX H e s' h).elim
    | ok fl =>
      cases fl with
      | next => exact False.elim h
      | brk => exact False.elim h
      | cont => exact False.elim h
      | ret u =>
        obtain ⟨v, H', os, bare, un, hok', r', q⟩ := h
        have q' : v = .bl true := q
        subst q'
        obtain rfl : u = Value.bool true := r'
        refine ⟨rfl, OldK.of_keep fun b o e => ?_, os, bare⟩
        cases q : H b with
        | none => exact un.keep b o e q (by intro z; exact absurd (show b ∈ ([] : List Addr) from z) (by simp)) (by simp)
        | some u =>
          rcases hO b with z | ⟨ob, xs, z⟩
          · rw [q] at z; cases z
          · have z2 := un.frzs b ob _ z
            obtain ⟨e1, _⟩ := hok b _ z
            obtain ⟨e2, _⟩ := hok' b _ z2
            rw [e] at e1; cases e1
            exact e2
  cases hk : K.lookup a with
  | some o =>
    have e := KX a o hk
    rw [ha] at e
    cases e
    refine core (fun _ => none) (fun _ => .inl rfl) (.inr ⟨_, vs.toArray, _, hk, rfl, rfl, rfl, by rw [List.size_toArray, lenV]; exact hl, by simpa using rv⟩) (fun b u z => by have z' : (none : Option HO) = some u := z; cases z') (fun b z => absurd rfl z) fun z => absurd rfl z
  | none =>
    refine core (fun b => if b = a then some (.frz { cls := .type "list", data := .seq vs.toArray } (.lst (ns.map V.int))) else none) (fun b => ?_) (.inl (.inr ⟨{ cls := .type "list", data := .seq vs.toArray }, if_pos rfl⟩)) (fun b u z => ?_) (fun b z => ?_) fun _ => hk
    · by_cases hb : b = a
      · exact .inr ⟨_, _, if_pos hb⟩
      · exact .inl (if_neg hb)
    · by_cases hb : b = a
      · have z' := (if_pos hb).symm.trans z
        cases z'
        subst hb
        exact ⟨ha, by rw [List.length_map]; exact hl, vs, _, rv, ha⟩
      · have z' := (if_neg hb).symm.trans z
        cases z'
    · by_cases hb : b = a
      · exact hb
      · exact absurd (if_neg hb) z
open PySem PySem.Spec PyProof.Rows
abbrev KOf {K : PySem.W.Frag} {h : Heap} (_ : K.In h) : PySem.W.Frag := K
theorem walk_of {l : PySem.W.OpenLaw} {n k : Nat} {q : Program} {loose : List Str} {XP : (Str->Option Value)->Heap->Prop} {YP : World->Heap->Prop} {d : DefRec} {K : Params->PySem.W.Frag} {CX : World->CXT} {sp : World->Sp} {x : Str}
    (hn : l.most = some n) (hn2 : n ≤ sizeLine) (hdf : d.params.defaults = []) (hr : Room k callerA)
    (hY : ∀ (w : World) (h : Heap), YP w h->(K w.params).In h)
    (F : ∀ (w : World) (mg : Str->Option Value) (fa : Addr) (h : Heap), (K w.params).In h->h.Ns mainGlobals mg->mg d.name = some (.ref fa) →
      ∃ fd : FuncData, (∀ (s : Shared) (u : Value), BindsTo s fd ⟨[u], []⟩ [(x, u)]) ∧
        ∀ base : Heap, (K w.params).In base->base.Ns mainGlobals mg->FnOk l.prog w (K w.params) mg base (CX w) k fa fd [x] (sp w))
    (hsp : ∀ (w : World) (H : Hp) (a : Addr) (ns : List Int), ns.length ≤ n->Only H->SqL (K w.params) H a (ns.map V.int)->sp w [.ref a] H (fun v _ => v = .bl true) fun _ _ _ => False)
    (hCX : ∀ (w : World) (H : Hp) (s : Shared) (e : Value) (s' : Shared), CX w [] H s (fun _ _ _ => False) e s'->False) :
    PySem.W.WalkO q loose XP YP l.row.toRowW d [] (fun f vs => PySem.call f vs) := by
  refine Att.attach_call hn hdf fun w s₀ s₁ mg mb fa o pm cd doc a vs ns G Y ho hd hcd hmg hobj hints hlen hg => ?_
  have KX := hY w _ Y
  obtain ⟨fd, hb, hF⟩ := F w mg fa _ KX G.T.g hmg
  exact law_call KX G.T.g G.T.b G.T.builtins G.T.nolimit hg hobj hints (Nat.le_trans hlen hn2) hr hF hb (fun H hO hS => hsp w H a ns hlen hO hS) fun H e s' => hCX w H s₁ e s'
end L2
/- THE LAST THEOREM (shape; LID, My.* are yours):
   My.Adr: a structure of the addresses that your layer names (classes, functions); My.Txt K t: a structure (Prop) of the equations over K;
   My.txt_mk : {K} {implicit addresses ..} (e1 : nsIn K mainGlobals "law" = some (some (.ref f))) (e2 : K.lookup f = some ⟨oc, od, .func (fnOf "law" "law" params body scope dV kV doc pm an cdv ct), sl⟩) (e3 : codeIn K cdv "law" = true) .. : ∃ t, My.Txt K t
set_option maxRecDepth 100000 in
set_option maxHeartbeats 0 in
theorem PySem.Challenge.cw_LID_holds : PySem.Challenge.rw_LID.Holds := by
  w_on; o_law; k_head; (case hw => w_witness2)
  k_fill
  refine L2.walk_of (l := PySem.Challenge.rw_LID) (n := 63) (k := 40) (x := "script") (CX := fun w => ..) (sp := fun _ => My.sp_law) rfl (by decide) rfl ⟨rfl, by decide, by decide⟩ (fun w h Y => PySem.W.kIn_of Y) ?F ?S ?C
  case F =>
    intro w mg fa h KX G hmg
    have T : ∃ t, My.Txt (L2.KOf KX) t := by
      dsimp only [L2.KOf]                          -- K must stand as «<heap const> w.params» for k_is
      refine' My.txt_mk ?e1 ?e2 ?e3 ..
      (case e1 => PySem.W.k_is)                    -- in the order: a name -> its address -> its object -> its parts
      (case e2 => PySem.W.k_is)
      ..
    obtain ⟨t, T⟩ := T
    have e0 := hmg.symm.trans (PySem.W.mg_of KX G T.law)
    cases e0                                       -- fa is the law's own address
    exact ⟨_, fun s u => .of_eq rfl, fun base kb nb => My.law_fn T kb nb⟩     -- if «.of_eq rfl» comes too early: refine' ⟨_, ?b, fun base kb nb => My.law_fn T kb nb⟩; exact fun s u => .of_eq rfl
  case S => exact fun w H a ns hl hO hS => ..
  case C => exact ..
(the tactic k_is has no namespace: write k_is) -/
namespace L2
open PySem PySem.Spec PyProof.Rows
def inClass (s : Stmt) (j : Nat) : Stmt := match s with
  | .ClassDef _ _ _ body _ _ _ _ _ _ _ => body.getD j (.Pass ⟨0, 0, 0, 0⟩)
  | _ => .Pass ⟨0, 0, 0, 0⟩
def defArgs (s : Stmt) : Arguments := match s with
  | .FunctionDef _ a _ _ _ _ _ _ _ _ => a
  | _ => { posonlyargs := [], args := [], vararg := none, kwonlyargs := [], kw_defaults := [], kwarg := none, defaults := [] }
def defBody (s : Stmt) : List Stmt := match s with
  | .FunctionDef _ _ b _ _ _ _ _ _ _ => b
  | _ => []
def defScope (s : Stmt) : Scope := match s with
  | .FunctionDef _ _ _ _ _ _ sc _ _ _ => sc
  | _ => { kind := .function, names := [], isGenerator := false, isCoroutine := false }
abbrev CX0 : CXT := fun _ _ _ _ _ _ => False
abbrev E0 : XK := fun _ _ _ => False
structure Fun (K : PySem.W.Frag) (x qual : Str) (st : Stmt) (f : Addr) (fd : FuncData) : Prop where
  ex : ∃ (oc : Value) (od : Option Addr) (kV doc pm : Value) (an : Option Addr) (cdv ct : Value) (osl : Array (Option Value)),
    fd = PySem.W.fnOf x qual (defArgs st) (defBody st) (defScope st) .none kV doc pm an cdv ct /\ K.lookup f = some ⟨oc, od, .func fd, osl⟩ /\ PySem.W.codeIn K cdv qual = true
  kp : PySem.W.keepIn K (.ref f) = true
section
variable {P : Program} {w : World} {K : PySem.W.Frag} {mg : Str->Option Value} {base : Heap}
theorem Fun.binds {x qual : Str} {st : Stmt} {f : Addr} {fd : FuncData} {ps : List Str} (F : Fun K x qual st f fd)
    (h : ∀ (kV doc pm : Value) (an : Option Addr) (cdv ct : Value) (us : List Value), us.length = ps.length->bindArgs (PySem.W.fnOf x qual (defArgs st) (defBody st) (defScope st) .none kV doc pm an cdv ct) ⟨us, []⟩ = pure (ps.zip us)) : Binds K fd ps [] := by
  obtain ⟨oc, od, kV, doc, pm, an, cdv, ct, osl, rfl, lk, hcd⟩ := F.ex
  exact .all (h kV doc pm an cdv ct)
theorem fun_mk {x qual : Str} {st : Stmt} {f : Addr} {oc : Value} {od an : Option Addr} {osl : Array (Option Value)} {kV doc pm cdv ct : Value} (l : K.lookup f = some ⟨oc, od, .func (PySem.W.fnOf x qual (defArgs st) (defBody st) (defScope st) .none kV doc pm an cdv ct), osl⟩)
    (c : PySem.W.codeIn K cdv qual = true) (k : PySem.W.keepIn K (.ref f) = true) : Fun K x qual st f (PySem.W.fnOf x qual (defArgs st) (defBody st) (defScope st) .none kV doc pm an cdv ct) := ⟨⟨oc, od, kV, doc, pm, an, cdv, ct, osl, rfl, l, c⟩, k⟩
end
theorem hu_of {A : Around} {k : Nat} (hr : Room k A) : A.units + 1 < cLine := Nat.lt_of_le_of_lt (Nat.add_le_add_left (by decide : 1 ≤ 64) _) hr.units
theorem small1000 {n : Nat} (h : n ≤ 1000) : n < sizeLine := Nat.lt_of_le_of_lt h (by decide)
section
variable {X : Cx}
theorem pv (i : Nat) {x : Str} {pos : Pos} (hN : X.N[i]? = some x := by rfl) (hv : Vis X.env.scope x := by first | exact Or.inl rfl | exact Or.inr (Or.inl rfl) | exact Or.inr (Or.inr rfl)) (hd : (x == ("__debug__" : Str)) = false := by decide)
    (hcd : (x == ("__classdict__" : Str)) = false := by decide) : PE X (.Name x pos) (tVar i) := pe_var hN hv hd hcd
end
theorem iteF {A B : Prop} (h : B) : if false = true then A else B := by
  rw [if_neg Bool.false_ne_true]
  exact h
theorem iteT {A B : Prop} (h : A) : if true = true then A else B := by
  rw [if_pos rfl]
  exact h
theorem ite2 {c A B : Prop} [Decidable c] (h1 : c->A) (h2 : ¬ c->B) : if c then A else B := by
  by_cases h : c
  · rw [if_pos h]
    exact h1 h
  · rw [if_neg h]
    exact h2 h
def Same (H H' : Hp) : Prop := ∀ b o, H b = some o->H' b = some o
theorem Same.refl (H : Hp) : Same H H := fun _ _ h => h
theorem Same.trans {H H1 H2 : Hp} (a : Same H H1) (b : Same H1 H2) : Same H H2 := fun c o h => b c o (a c o h)
theorem Same.free {H H' : Hp} (e : Same H H') {l : Addr} (h : H' l = Option.none) : H l = Option.none := by
  cases q : H l with
  | none => rfl
  | some o =>
    rw [e l o q] at h
    cases h
theorem Same.seq {K : PySem.W.Frag} {H H' : Hp} {a : Addr} {xs : List V} (e : Same H H') (h : SqL K H a xs) : SqL K H' a xs := by
  rcases h with (h | ⟨o, h⟩) | h
  · exact .inl (.inl (e _ _ h))
  · exact .inl (.inr ⟨o, e _ _ h⟩)
  · exact .inr h
end L2
set_option maxHeartbeats 4000000
namespace L2
open PySem PySem.Spec PyProof.Rows
section
variable {κ : Type} [DecidableEq κ]
def valV (kvs : List (κ × V)) (k : κ) : Option V := (kvs.find? fun kv => decide (kv.1 = k)).map (·.2)
def putK (kvs : List (κ × V)) (k : κ) (v : V) : List (κ × V) :=
  if (kvs.any fun kv => decide (kv.1 = k)) = true then kvs.map (fun kv => if kv.1 = k then (kv.1, v) else kv) else kvs ++ [(k, v)]
def dropK (kvs : List (κ × V)) (k : κ) : List (κ × V) := kvs.filter fun kv => decide (kv.1 ≠ k)
theorem valV_pos {p : κ × V} {r : List (κ × V)} {k : κ} (e : p.1 = k) : valV (p :: r) k = some p.2 := by simp [valV, List.find?_cons, e]
theorem valV_neg {p : κ × V} {r : List (κ × V)} {k : κ} (e : ¬ p.1 = k) : valV (p :: r) k = valV r k := by simp [valV, List.find?_cons, e]
theorem valV_any (k : κ) : ∀ kvs : List (κ × V), (kvs.any fun kv => decide (kv.1 = k)) = (valV kvs k).isSome
  | [] => rfl
  | p :: r => by
    rw [List.any_cons]
    by_cases e : p.1 = k
    · simp only [valV_pos e, decide_eq_true e, Bool.true_or, Option.isSome_some]
    · rw [valV_neg e, decide_eq_false e, Bool.false_or]; exact valV_any k r
theorem valV_map (k j : κ) (y : V) : ∀ kvs : List (κ × V), valV (kvs.map fun kv => if kv.1 = k then (kv.1, y) else kv) j = (valV kvs j).map fun x => if j = k then y else x
  | [] => rfl
  | p :: r => by
    have ih := valV_map k j y r
    rw [List.map_cons]
    by_cases h : p.1 = k
    · rw [if_pos h]
      by_cases e : p.1 = j
      · rw [valV_pos (p := (p.1, y)) e, valV_pos e, Option.map_some, if_pos (e.symm.trans h)]
      · rw [valV_neg (p := (p.1, y)) e, valV_neg e, ih]
    · rw [if_neg h]
      by_cases e : p.1 = j
      · rw [valV_pos (p := p) e, valV_pos e, Option.map_some, if_neg (fun z => h (e.trans z))]
      · rw [valV_neg (p := p) e, valV_neg e, ih]
theorem valV_snoc (k j : κ) (y : V) : ∀ kvs : List (κ × V), valV kvs k = none->valV (kvs ++ [(k, y)]) j = if j = k then some y else valV kvs j
  | [], _ => by
    by_cases e : k = j
    · rw [if_pos e.symm]; exact valV_pos (p := (k, y)) e
    · rw [if_neg (fun z => e z.symm)]; exact valV_neg (p := (k, y)) e
  | p :: r, hn => by
    rw [List.cons_append]
    have hk : ¬ p.1 = k := fun z => by rw [valV_pos z] at hn; cases hn
    rw [valV_neg hk] at hn
    have ih := valV_snoc k j y r hn
    by_cases e : p.1 = j
    · rw [valV_pos e, valV_pos e, if_neg (fun z => hk (e.trans z))]
    · rw [valV_neg e, valV_neg e, ih]
theorem valV_put (kvs : List (κ × V)) (k j : κ) (y : V) : valV (putK kvs k y) j = if j = k then some y else valV kvs j := by
  unfold putK
  by_cases a : (kvs.any fun kv => decide (kv.1 = k)) = true
  · rw [if_pos a, valV_map]
    rw [valV_any] at a
    by_cases e : j = k
    · obtain ⟨x, hx⟩ := Option.isSome_iff_exists.mp a
      rw [if_pos e, e, hx, Option.map_some, if_pos rfl]
    · rw [if_neg e]
      cases valV kvs j with
      | none => rfl
      | some x => rw [Option.map_some, if_neg e]
  · rw [if_neg a]
    refine valV_snoc k j y kvs ?_
    rw [valV_any] at a
    cases q : valV kvs k with
    | none => rfl
    | some x => rw [q] at a; exact (a rfl).elim
theorem length_putK (kvs : List (κ × V)) (k : κ) (v : V) : (putK kvs k v).length ≤ kvs.length + 1 := by
  unfold putK
  split
  · rw [List.length_map]; omega
  · rw [List.length_append, List.length_cons, List.length_nil]; omega
theorem putK_new {kvs : List (κ × V)} {k : κ} (v : V) (h : valV kvs k = none) : putK kvs k v = kvs ++ [(k, v)] := by
  unfold putK
  rw [valV_any, h]
  exact if_neg (by decide)
theorem RelO.isSome_eq {o : Option V} {u : Option Value} (r : RelO o u) : o.isSome = u.isSome := by
  cases o with
  | none => cases u with
    | none => rfl
    | some _ => exact (show False from r).elim
  | some _ => cases u with
    | none => exact (show False from r).elim
    | some _ => rfl
theorem RelO.getD {o : Option V} {u : Option Value} {d : V} {d' : Value} (r : RelO o u) (rd : RelV d d') : RelV (o.getD d) (u.getD d') := by
  cases o with
  | none => cases u with
    | none => exact rd
    | some _ => exact (show False from r).elim
  | some _ => cases u with
    | none => exact (show False from r).elim
    | some _ => exact r
theorem KV.val {kvs : List (κ × V)} {vs : List (κ × Value)} (r : KV kvs vs) (k : κ) : RelO (valV kvs k) (valueAt vs k) := by
  unfold KV at r
  induction r with
  | nil => exact True.intro
  | @cons p q ps qs h t ih =>
    obtain ⟨h1, h2⟩ := h
    by_cases e : p.1 = k
    · have e' : q.1 = k := h1.symm.trans e
      have b : valueAt (q :: qs) k = some q.2 := by simp [valueAt, List.find?_cons, e']
      rw [valV_pos e, b]; exact h2
    · have e' : ¬ q.1 = k := fun z => e (h1.trans z)
      have b : valueAt (q :: qs) k = valueAt qs k := by simp [valueAt, List.find?_cons, e']
      rw [valV_neg e, b]; exact ih
theorem KV.any {kvs : List (κ × V)} {vs : List (κ × Value)} (r : KV kvs vs) (k : κ) : (kvs.any fun kv => decide (kv.1 = k)) = vs.any fun kv => decide (kv.1 = k) := by
  unfold KV at r
  induction r with
  | nil => rfl
  | cons h t ih => rw [List.any_cons, List.any_cons, ih, h.1]
theorem KV.repl {kvs : List (κ × V)} {vs : List (κ × Value)} (r : KV kvs vs) (k : κ) {y : V} {u : Value} (ry : RelV y u) :
    KV (kvs.map fun kv => if kv.1 = k then (kv.1, y) else kv) (vs.map fun kv => if kv.1 = k then (kv.1, u) else kv) := by
  unfold KV at r ⊢
  induction r with
  | nil => exact .nil
  | @cons p q ps qs h t ih =>
    rw [List.map_cons, List.map_cons]
    refine .cons ?_ ih
    obtain ⟨h1, h2⟩ := h
    by_cases e : p.1 = k
    · rw [if_pos e, if_pos (h1.symm.trans e)]; exact ⟨h1, ry⟩
    · rw [if_neg e, if_neg (fun z => e (h1.trans z))]; exact ⟨h1, h2⟩
theorem KV.put {kvs : List (κ × V)} {vs : List (κ × Value)} (r : KV kvs vs) (k : κ) {y : V} {u : Value} (ry : RelV y u) : KV (putK kvs k y) (stored vs k u) := by
  unfold putK stored
  rw [r.any k]
  by_cases e : (vs.any fun kv => decide (kv.1 = k)) = true
  · rw [if_pos e, if_pos e]; exact r.repl k ry
  · rw [if_neg e, if_neg e]; exact Paired.snoc r ⟨rfl, ry⟩
theorem KV.drop {kvs : List (κ × V)} {vs : List (κ × Value)} (r : KV kvs vs) (k : κ) : KV (dropK kvs k) (without vs k) := by
  unfold KV at r ⊢
  unfold dropK without
  induction r with
  | nil => exact .nil
  | @cons p q ps qs h t ih =>
    obtain ⟨h1, h2⟩ := h
    rw [List.filter_cons, List.filter_cons]
    by_cases e : p.1 = k
    · have a : ¬ decide (p.1 ≠ k) = true := by simp [e]
      have b : ¬ decide (q.1 ≠ k) = true := by simp [h1.symm.trans e]
      rw [if_neg a, if_neg b]; exact ih
    · have e' : ¬ q.1 = k := fun z => e (h1.trans z)
      have a : decide (p.1 ≠ k) = true := by simp [e]
      have b : decide (q.1 ≠ k) = true := by simp [e']
      rw [if_pos a, if_pos b]; exact .cons ⟨h1, h2⟩ ih
theorem KV.keys {kvs : List (κ × V)} {vs : List (κ × Value)} (r : KV kvs vs) : kvs.map (·.1) = vs.map (·.1) := by
  unfold KV at r
  induction r with
  | nil => rfl
  | cons h t ih => rw [List.map_cons, List.map_cons, ih, h.1]
theorem KV.length {kvs : List (κ × V)} {vs : List (κ × Value)} (r : KV kvs vs) : kvs.length = vs.length := Paired.length r
theorem dropK_le (kvs : List (κ × V)) (k : κ) : (dropK kvs k).length ≤ kvs.length := List.length_filter_le _ _
end
theorem kV_is {P : Program} {w : World} {k : Key} {u : Value} (r : RelV (kV k) u) : (mixKind P w).is k u = true := by
  cases k with
  | inl i => obtain ⟨t, e⟩ := (show ∃ t, u = Value.int i t from r); subst e; exact mixKind_int P w i t
  | inr x => obtain ⟨t, e⟩ := (show ∃ t, u = Value.str x t from r); subst e; exact mixKind_str P w x t
theorem items_are {P : Program} {w : World} : ∀ {ks : List Key} {us : List Value}, Vals (ks.map kV) us->ItemsAre (mixKind P w) ks us
  | [], _, r => by rw [List.map_nil] at r; cases r; exact .nil
  | k :: ks, _, r => by
    rw [List.map_cons] at r
    cases r with
    | cons h t => exact .cons (kV_is h) (items_are t)
abbrev KT (H : Hp) : List (List Key × V)->List (List Key × Addr × Value)->Prop := Paired fun p q => p.1 = q.1 /\ H q.2.1 = some (.tup (p.1.map kV)) /\ RelV p.2 q.2.2
theorem KT.val {H : Hp} {kvs : List (List Key × V)} {xs : List (List Key × Addr × Value)} (r : KT H kvs xs) (k : List Key) : RelO (valV kvs k) ((atKey xs k).map (·.2)) := by
  induction r with
  | nil => exact True.intro
  | @cons p q ps qs h t ih =>
    obtain ⟨h1, _, h2⟩ := h
    by_cases e : p.1 = k
    · have e' : q.1 = k := h1.symm.trans e
      have b : atKey (q :: qs) k = some q.2 := by simp [atKey, List.find?_cons, e']
      rw [valV_pos e, b]; exact h2
    · have e' : ¬ q.1 = k := fun z => e (h1.trans z)
      have b : atKey (q :: qs) k = atKey qs k := by simp [atKey, List.find?_cons, e']
      rw [valV_neg e, b]; exact ih
theorem KT.repl {H : Hp} {kvs : List (List Key × V)} {xs : List (List Key × Addr × Value)} (r : KT H kvs xs) (k : List Key) {y : V} {u : Value} (ry : RelV y u) :
    KT H (kvs.map fun kv => if kv.1 = k then (kv.1, y) else kv) (xs.map (putAt k u)) := by
  induction r with
  | nil => exact .nil
  | @cons p q ps qs h t ih =>
    rw [List.map_cons, List.map_cons]
    refine .cons ?_ ih
    obtain ⟨h1, h2, h3⟩ := h
    unfold putAt
    by_cases e : p.1 = k
    · rw [if_pos e, if_pos (h1.symm.trans e)]; exact ⟨h1, h2, ry⟩
    · rw [if_neg e, if_neg (fun z => e (h1.trans z))]; exact ⟨h1, h2, h3⟩
theorem KT.put {H : Hp} {kvs : List (List Key × V)} {xs : List (List Key × Addr × Value)} (r : KT H kvs xs) (k : List Key) {b : Addr} {y : V} {u : Value} (hb : H b = some (.tup (k.map kV))) (ry : RelV y u) :
    KT H (putK kvs k y) (storedH xs k b u) := by
  have e : (kvs.any fun kv => decide (kv.1 = k)) = (atKey xs k).isSome := by
    rw [valV_any, (r.val k).isSome_eq, Option.isSome_map]
  unfold putK storedH
  rw [e]
  by_cases q : (atKey xs k).isSome = true
  · rw [if_pos q, if_pos q]; exact r.repl k ry
  · rw [if_neg q, if_neg q]; exact Paired.snoc r ⟨rfl, hb, ry⟩
theorem KT.keeps {H H' : Hp} {kvs : List (List Key × V)} {xs : List (List Key × Addr × Value)} (r : KT H kvs xs) (ht : ∀ b ys, H b = some (.tup ys)->H' b = some (.tup ys)) : KT H' kvs xs :=
  Paired.mapP r fun _ _ z => ⟨z.1, ht _ _ z.2.1, z.2.2⟩
section
variable {P : Program} {w : World} {H : Hp} {h : Heap} {a : Addr}
theorem rd_of {u : HO} (ok : HOk P w H h) (e : Rd H a u) : ObjOk P w H h a u := e.ok ok
theorem dk_rd {kvs : List (Key × V)} (ok : HOk P w H h) (e : Rd H a (.dK kvs)) : kvs.length ≤ sizeLine /\ (a == sysModules) = false /\ ∃ vs, KV kvs vs /\ h.DictOf (mixKind P w) a vs :=
  show ObjOk P w H h a (.dK kvs) from rd_of ok e
theorem dk_of {kvs : List (Key × V)} (ok : HOk P w H h) (e : H a = some (.dK kvs)) : kvs.length ≤ sizeLine /\ (a == sysModules) = false /\ ∃ vs, KV kvs vs /\ h.DictOf (mixKind P w) a vs := dk_rd ok (.inl e)
theorem key_of {ks : List Key} (ok : HOk P w H h) (e : H a = some (.tup (ks.map kV))) : (tupleKind (mixKind P w)).is h ks a := by
  obtain ⟨_, its, r, o, h1, h2, n, h3⟩ := (show ObjOk P w H h a (.tup (ks.map kV)) from ok a _ e)
  exact ⟨o, its.toArray, n, h1, h2, h3, by simpa using items_are r⟩
theorem dt_rd {kvs : List (List Key × V)} (ok : HOk P w H h) (e : Rd H a (.dT kvs)) : kvs.length ≤ sizeLine /\ (a == sysModules) = false ∧
    ∃ xs, KT H kvs xs /\ h.DictOfH (tupleKind (mixKind P w)) a xs := by
  obtain ⟨z, y, xs, r, o, es, ep, h1, h2, h3, h4, h5⟩ := (show ObjOk P w H h a (.dT kvs) from rd_of ok e)
  refine ⟨z, y, xs, r, o, es, ep, h1, h2, h3, h4, fun x hx => ?_, h5⟩
  have all : ∀ {l : List (List Key × V)} {m : List (List Key × Addr × Value)}, KT H l m->∀ x ∈ m, (tupleKind (mixKind P w)).is h x.1 x.2.1 := by
    intro l m q
    induction q with
    | nil => intro x hx; exact nomatch hx
    | @cons p q ps qs hq t ih =>
      intro x hx
      rcases List.mem_cons.mp hx with e | hx
      · subst e
        exact key_of ok (by rw [← hq.1]; exact hq.2.1)
      · exact ih x hx
  exact all r x hx
theorem dt_of {kvs : List (List Key × V)} (ok : HOk P w H h) (e : H a = some (.dT kvs)) : kvs.length ≤ sizeLine /\ (a == sysModules) = false ∧
    ∃ xs, KT H kvs xs /\ h.DictOfH (tupleKind (mixKind P w)) a xs := dt_rd ok (.inl e)
end
def DGet (H : Hp) (a : Addr) (y : V) (r : Option V) : Prop :=
  (∃ kvs k, Rd H a (.dK kvs) /\ y = kV k /\ r = valV kvs k) ∨ ∃ kvs k b, Rd H a (.dT kvs) /\ y = .ref b /\ H b = some (.tup (k.map kV)) /\ r = valV kvs k
def DPut (H : Hp) (a : Addr) (y v : V) (H' : Hp) : Prop :=
  (∃ kvs k, H a = some (.dK kvs) /\ y = kV k /\ kvs.length < sizeLine /\ H' = upd H a (.dK (putK kvs k v))) ∨
  ∃ kvs k b, H a = some (.dT kvs) /\ y = .ref b /\ H b = some (.tup (k.map kV)) /\ kvs.length < sizeLine /\ H' = upd H a (.dT (putK kvs k v))
theorem DPut.k {H : Hp} {a : Addr} {kvs : List (Key × V)} {k : Key} {v : V} (e : H a = some (.dK kvs)) (hl : kvs.length < sizeLine) : DPut H a (kV k) v (upd H a (.dK (putK kvs k v))) := .inl ⟨kvs, k, e, rfl, hl, rfl⟩
section
variable {X : Cx} {pins : List (Addr × Obj)} {σ : St} {H : Hp} {s : Shared} {a : Addr} {y v : V} {u r : Value} {o : Option V} {A : Around} {E : Value->Shared->Prop}
theorem Inv.big (I : Inv X pins σ H s) : sysModules < s.heap.objs.size := by
  have h : mainGlobals < s.heap.objs.size := (I.mod.glob.keeps I.bk).lt
  exact Nat.lt_trans (by decide) h
theorem d_getItem {Q : Value->Shared->Prop} (hu : A.units + 1 < cLine) (I : Inv X pins σ H s) (g : DGet H a y (some v)) (ry : RelV y u) (h : ∀ w' s', Inv X pins σ H s'->RelV v w'->Q w' s') :
    wpAny (model X.prog X.w) A (getItem (.ref a) u) Q E s := by
  rcases g with ⟨kvs, k, e, ey, l⟩ | ⟨kvs, k, b, e, ey, eb, l⟩
  · subst ey
    obtain ⟨z, hd, vs, rel, dd⟩ := dk_rd I.hok e
    obtain ⟨w', hw, rw'⟩ := RelO.some_of (v := v) (o := valueAt vs k) (by rw [l]; exact rel.val k)
    exact wpAny_getItem_of (kV_is ry) dd.mapOf hw (h w' _ (I.tok _) rw')
  · subst ey
    cases (show u = Value.ref b from ry)
    obtain ⟨z, hd, xs, rel, dd⟩ := dt_rd I.hok e
    obtain ⟨w', hw, rw'⟩ := RelO.some_of (v := v) (o := (atKey xs k).map (·.2)) (by rw [l]; exact rel.val k)
    obtain ⟨p, hp, hp2⟩ := Option.map_eq_some_iff.mp hw
    refine wpAny_getItem_heap (tupleKind_room_in1 hu) (key_of I.hok eb) dd hp ?_
    rw [hp2]
    exact h w' _ (I.tok _) rw'
theorem d_in {Q : Value->Shared->Prop} (hu : A.units + 1 < cLine) (I : Inv X pins σ H s) (g : DGet H a y o) (ry : RelV y u) (h : ∀ s', Inv X pins σ H s'->Q (.bool o.isSome) s') :
    wpAny (model X.prog X.w) A (compareOp .In u (.ref a)) Q E s := by
  rcases g with ⟨kvs, k, e, ey, l⟩ | ⟨kvs, k, b, e, ey, eb, l⟩
  · subst ey
    obtain ⟨z, hd, vs, rel, dd⟩ := dk_rd I.hok e
    refine wpAny_in_of (kV_is ry) hd dd.mapOf ?_
    rw [← (rel.val k).isSome_eq, ← l]
    exact h _ (I.tok _)
  · subst ey
    cases (show u = Value.ref b from ry)
    obtain ⟨z, hd, xs, rel, dd⟩ := dt_rd I.hok e
    refine wpAny_in_heap (tupleKind_room_in1 hu) (key_of I.hok eb) hd dd ?_
    have q := (rel.val k).isSome_eq
    rw [Option.isSome_map] at q
    rw [← q, ← l]
    exact h _ (I.tok _)
theorem d_notIn {Q : Value->Shared->Prop} (hu : A.units + 1 < cLine) (I : Inv X pins σ H s) (g : DGet H a y o) (ry : RelV y u) (h : ∀ s', Inv X pins σ H s'->Q (.bool (!o.isSome)) s') :
    wpAny (model X.prog X.w) A (compareOp .NotIn u (.ref a)) Q E s := by
  rcases g with ⟨kvs, k, e, ey, l⟩ | ⟨kvs, k, b, e, ey, eb, l⟩
  · subst ey
    obtain ⟨z, hd, vs, rel, dd⟩ := dk_rd I.hok e
    refine wpAny_notIn_of (kV_is ry) hd dd.mapOf ?_
    rw [← (rel.val k).isSome_eq, ← l]
    exact h _ (I.tok _)
  · subst ey
    cases (show u = Value.ref b from ry)
    obtain ⟨z, hd, xs, rel, dd⟩ := dt_rd I.hok e
    refine wpAny_notIn_heap (tupleKind_room_in1 hu) (key_of I.hok eb) hd dd ?_
    have q := (rel.val k).isSome_eq
    rw [Option.isSome_map] at q
    rw [← q, ← l]
    exact h _ (I.tok _)
theorem d_write {h' : Heap} {t' : Nat} {ob : HO} (I : Inv X pins σ H s) (mu : Mut (H a)) (hs : Heap.SameBut a s.heap h') (he : ∃ q, h'.get? a = some q) (new : ObjOk X.prog X.w (upd H a ob) h' a ob) :
    Inv X pins σ (upd H a ob) { s with heap := h', toks := t' } :=
  I.write (x := a) (e := a) mu (.inl rfl) (fun b q hb z => (hs.2 b hb).trans z) he new
theorem dk_new {P : Program} {w : World} {H' : Hp} {h' : Heap} {kvs : List (Key × V)} {vs : List (Key × Value)} (z : kvs.length ≤ sizeLine) (hd : (a == sysModules) = false) (rel : KV kvs vs) (dd : h'.DictOf (mixKind P w) a vs) :
    ObjOk P w H' h' a (.dK kvs) := ⟨z, hd, vs, rel, dd⟩
theorem d_setItem {H' : Hp} {Q : Unit->Shared->Prop} (hu : A.units + 1 < cLine) (I : Inv X pins σ H s) (g : DPut H a y v H') (ry : RelV y u) (rv : RelV v r) (h : ∀ s', Inv X pins σ H' s'->Q () s') :
    wpAny (model X.prog X.w) A (setItem (.ref a) u r) Q E s := by
  rcases g with ⟨kvs, k, e, ey, l, eH⟩ | ⟨kvs, k, b, e, ey, eb, l, eH⟩
  · subst ey eH
    obtain ⟨z, hd, vs, rel, dd⟩ := dk_of I.hok e
    have hz : vs.length ≤ sizeLine := by rw [← rel.length]; exact z
    have hl : (putK kvs k v).length ≤ sizeLine := by have := length_putK kvs k v; omega
    refine wpAny_setItem_pairs (hsz := hz) (kV_is ry) dd fun h' dd' hs => h _ ?_
    have he : ∃ q, h'.get? a = some q := let ⟨q, _, _, hq, _⟩ := dd'; ⟨q, hq⟩
    exact d_write I (by rw [e]; exact True.intro) hs he (dk_new hl hd (rel.put k rv) dd')
  · subst ey eH
    cases (show u = Value.ref b from ry)
    obtain ⟨z, hd, xs, rel, dd⟩ := dt_of I.hok e
    have hz : xs.length ≤ sizeLine := by rw [← Paired.length rel]; exact z
    have hl : (putK kvs k v).length ≤ sizeLine := by have := length_putK kvs k v; omega
    refine wpAny_setItem_heap (hsz := hz) (tupleKind_room_in1 hu) (key_of I.hok eb) dd fun h' dd' hs => h _ ?_
    obtain ⟨q, es, ep, hq, h2, h3, h4, _, h5⟩ := dd'
    refine d_write I (by rw [e]; exact True.intro) hs ⟨q, hq⟩ ⟨hl, hd, _, (rel.put k eb rv).keeps fun c ys ec => ?_, q, es, ep, hq, h2, h3, h4, h5⟩
    rw [upd_ne (ne_of ec e (fun z => nomatch z))]
    exact ec
end
section
variable {X : Cx} {pins : List (Addr × Obj)} {σ : St} {H : Hp} {s : Shared} {a : Addr} {kvs : List (Key × V)} {k : Key} {u : Value} {A : Around} {E : Value->Shared->Prop}
theorem d_pop {v : V} {more : List Value} {Q : Value->Shared->Prop} (I : Inv X pins σ H s) (e : H a = some (.dK kvs)) (ry : RelV (kV k) u) (l : valV kvs k = some v) (hm : more = [] ∨ ∃ x, more = [x])
    (h : ∀ w' s', Inv X pins σ (upd H a (.dK (dropK kvs k))) s'->RelV v w'->Q w' s') : wpAny (model X.prog X.w) A (call (.builtin "dict.pop") (.ref a :: u :: more)) Q E s := by
  obtain ⟨z, hd, vs, rel, dd⟩ := dk_of I.hok e
  obtain ⟨w', hw, rw'⟩ := RelO.some_of (v := v) (o := valueAt vs k) (by rw [← l]; exact rel.val k)
  have hp : (keyPart u).isSome = true := by
    cases k with
    | inl i => obtain ⟨t, q⟩ := (show ∃ t, u = Value.int i t from ry); subst q; rfl
    | inr x => obtain ⟨t, q⟩ := (show ∃ t, u = Value.str x t from ry); subst q; rfl
  have ha : argsOk "dict.pop" ⟨.ref a :: u :: more, []⟩ := by
    rcases hm with q | ⟨x, q⟩
    · subst q; exact PySem.F.args_dict_pop_2 _ _
    · subst q; exact PySem.F.args_dict_pop_3 _ _ _
  refine call_meetsIn PySem.F.slot_dict_pop dd.typeIs PySem.F.entry_dict_pop ha (meets_dict_pop_there (mixKind X.prog X.w) a (kV_is ry) more hm hp)
    ⟨vs, w', dd, by rw [← rel.length]; exact z, hw, fun h' dd' hs => h w' _ ?_ rw'⟩
  have he : ∃ q, h'.get? a = some q := let ⟨q, _, _, hq, _⟩ := dd'; ⟨q, hq⟩
  exact d_write I (by rw [e]; exact True.intro) hs he (dk_new (Nat.le_trans (dropK_le kvs k) z) hd (rel.drop k) dd')
end
def NoSl (i : Expr) : Prop := ∀ ov iv, subscripted i false ov iv = operate [ov, iv] (getItem ov iv)
theorem subD_of {prog : Program} {w : World} {A : Around} {E : Value->Shared->Prop} {s : Shared} {env : Env} {value slice : Expr} {pos : Pos} {T id : String} {Q : Value->Shared->Prop}
    (hl : typeLookup (.type T) "__getitem__" = pure (some (.builtin id))) (hs : NoSl slice)
    (h : wpAny (model prog w) A (eval value env) (fun o s₁ => wpAny (model prog w) A (eval slice env) (fun i s₂ => s₂.TypeIs o T /\ wpAny (model prog w) A (getItem o i) Q E s₂) E s₁) E s) :
    wpAny (model prog w) A (eval (.Subscript value slice pos) env) Q E s := by
  refine Subscript_ (wpAny_mono h (fun o s₁ h₁ => wpAny_mono h₁ (fun i s₂ h₂ => ?_) fun _ _ x => x) fun _ _ x => x)
  obtain ⟨hT, h₂⟩ := h₂
  unfold subscriptTail
  refine wpAny_bind ?_
  rw [getitemInPython_of_ne hT.not_modules]
  refine wpAny_bind (wpAny_specialOf hT hl ?_)
  have fin : wpAny (model prog w) A (subscripted slice false o i) (fun r s₃ => wpAny (model prog w) A (letTemporaryGo value o r >>= fun _ => pure r) Q E s₃) E s₂ := by
    rw [hs o i]
    exact wpAny_operating (wpAny_mono h₂ (fun r s₃ h₃ => wpAny_bind (wpAny_letTemporaryGo (wpAny_pure h₃))) fun _ _ x => x)
  first
    | exact wpAny_pure (wpAny_bind fin)
    | exact wpAny_bind (wpAny_pure (wpAny_bind fin))
    | exact wpAny_bind fin
theorem dict_typeIs {X : Cx} {pins : List (Addr × Obj)} {σ : St} {H : Hp} {s : Shared} {a : Addr} {y : V} {o : Option V} (I : Inv X pins σ H s) (g : DGet H a y o) : s.TypeIs (.ref a) "dict" := by
  rcases g with ⟨kvs, k, e, _, _⟩ | ⟨kvs, k, b, e, _, _, _⟩
  · obtain ⟨_, _, vs, _, dd⟩ := dk_rd I.hok e
    exact dd.typeIs
  · obtain ⟨_, _, xs, _, dd⟩ := dt_rd I.hok e
    exact dd.typeIs
def tDGet (td ty : TE) : TE := fun σ H Q => td σ H fun x H1 => ty σ H1 fun y H2 => ∃ a v, x = .ref a /\ DGet H2 a y (some v) /\ Q v H2
def tDIn (ty td : TE) : TE := fun σ H Q => ty σ H fun y H1 => td σ H1 fun x H2 => ∃ a o, x = .ref a /\ DGet H2 a y o /\ Q (.bl o.isSome) H2
def tDNotIn (ty td : TE) : TE := fun σ H Q => ty σ H fun y H1 => td σ H1 fun x H2 => ∃ a o, x = .ref a /\ DGet H2 a y o /\ Q (.bl (!o.isSome)) H2
def sDPut (td ty tv : TE) : TS := fun D σ H => tv σ H fun v H1 => td σ H1 fun x H2 => ty σ H2 fun y H3 => ∃ a H4, x = .ref a /\ DPut H3 a y v H4 /\ D.nx σ H4
section
variable {X : Cx} {o i e value : Expr} {pos pos' tpos : Pos} {td ty tv : TE}
theorem pe_dget (hu : X.A.units + 1 < cLine) (ho : PE X o td) (hi : PE X i ty) (hs : NoSl i) : PE X (.Subscript o i pos) (tDGet td ty) := by
  intro pins s σ H Q I h
  refine subD_of PySem.F.slot_dict_getitem.lookup hs (thn (ho pins s σ H _ I h) fun u s1 ⟨x, H1, I1, rx, q1⟩ => thn (hi pins s1 σ H1 _ I1 q1) fun iv s2 ⟨y, H2, I2, ry, a, v, ex, g, q2⟩ => ?_)
  subst ex
  obtain rfl : u = Value.ref a := rx
  exact ⟨dict_typeIs I2 g, d_getItem hu I2 g ry fun w' s3 I3 rw' => ⟨v, H2, I3, rw', q2⟩⟩
theorem pc_din (hu : X.A.units + 1 < cLine) (hi : PE X i ty) (ho : PE X o td) : PC X .In i o (tDIn ty td) := by
  intro pins s σ H Q I h
  refine thn (hi pins s σ H _ I h) fun iv s1 ⟨y, H1, I1, ry, q1⟩ => thn (ho pins s1 σ H1 _ I1 q1) fun u s2 ⟨x, H2, I2, rx, a, ov, ex, g, q2⟩ => ?_
  subst ex
  obtain rfl : u = Value.ref a := rx
  exact d_in hu I2 g ry fun s3 I3 => ⟨.bl ov.isSome, H2, I3, rfl, q2⟩
theorem pc_dnotin (hu : X.A.units + 1 < cLine) (hi : PE X i ty) (ho : PE X o td) : PC X .NotIn i o (tDNotIn ty td) := by
  intro pins s σ H Q I h
  refine thn (hi pins s σ H _ I h) fun iv s1 ⟨y, H1, I1, ry, q1⟩ => thn (ho pins s1 σ H1 _ I1 q1) fun u s2 ⟨x, H2, I2, rx, a, ov, ex, g, q2⟩ => ?_
  subst ex
  obtain rfl : u = Value.ref a := rx
  exact d_notIn hu I2 g ry fun s3 I3 => ⟨.bl (!ov.isSome), H2, I3, rfl, q2⟩
theorem ps_dput (hu : X.A.units + 1 < cLine) (ho : PE X o td) (hi : PE X i ty) (hv : PE X value tv) (hs : swapsWith value (some (.Subscript o i pos')) pos.line X.env = pure false) :
    PS X (.Assign [.Subscript o i pos'] value pos) (sDPut td ty tv) := by
  intro pins s σ H D I h
  refine wpAny_Assign_Subscript (thn (hv pins s σ H _ I h) fun r s1 ⟨v, H1, I1, rv, q1⟩ => thn (ho pins s1 σ H1 _ I1 q1) fun u s2 ⟨x, H2, I2, rx, q2⟩ => thn (hi pins s2 σ H2 _ I2 q2) fun iv s3 ⟨y, H3, I3, ry, a, H4, ex, g, q3⟩ => ?_) hs
  subst ex
  obtain rfl : u = Value.ref a := rx
  exact d_setItem hu I3 g ry rv fun s4 I4 => ⟨σ, H4, I4, q3⟩
end
theorem dk_empty {P : Program} {w : World} {H : Hp} (h : Heap) (hb : sysModules < h.objs.size) : ObjOk P w H (h.push { cls := .type "dict", data := .dict #[] }) h.objs.size (.dK []) :=
  ⟨Nat.zero_le _, beq_eq_false_iff_ne.mpr (Ne.symm (Nat.ne_of_lt hb)), [], .nil, Heap.DictOf.new h⟩
def tDNewK : TE := fun _ H Q => ∀ p, H p = none->Q (.ref p) (upd H p (.dK []))
section
variable {X : Cx} {pos : Pos}
theorem pe_dnewK : PE X (.Dict [] [] pos) tDNewK := fun pins s σ H Q I h =>
  wpAny_Dict_empty ⟨.ref s.heap.objs.size, _, I.laid (a := s.heap.objs.size) (o := .dK []) (t' := s.toks) (fun _ _ q => Heap.get?_push_of_some _ q) (Nat.le_refl _) (dk_empty s.heap I.big), rfl, h _ (I.hok.fresh (Nat.le_refl _))⟩
end
def tPairs : List (TE × TE)->St->Hp->(List (V × V)->Hp->Prop)->Prop
  | [], _, H, Q => Q [] H
  | (tk, tv) :: r, σ, H, Q => tk σ H fun x H1 => tv σ H1 fun y H2 => tPairs r σ H2 fun ps H3 => Q ((x, y) :: ps) H3
abbrev VV : List (V × V)->List (Value × Value)->Prop := Paired fun p q => RelV p.1 q.1 /\ RelV p.2 q.2
def PPs (X : Cx) (pos : Pos) (keys : List (Option Expr)) (values : List Expr) (trs : List (TE × TE)) : Prop :=
  ∀ (pins : List (Addr × Obj)) (s : Shared) (σ : St) (H : Hp) (Q : List (V × V)->Hp->Prop), Inv X pins σ H s->tPairs trs σ H Q →
    wpAny (model X.prog X.w) X.A (evalPairs (pairTrees keys values X.env pos)) (fun vs s' => ∃ ps H', Inv X pins σ H' s' /\ VV ps vs /\ Q ps H') X.xe s
theorem pps_nil {X : Cx} {pos : Pos} : PPs X pos [] [] [] := fun pins s σ H Q I h => pairTrees_nil_walk ⟨[], H, I, .nil, h⟩
theorem pps_cons {X : Cx} {pos : Pos} {k v : Expr} {ks : List (Option Expr)} {vs : List Expr} {tk tv : TE} {trs : List (TE × TE)} (hk : PE X k tk) (hv : PE X v tv) (hr : PPs X pos ks vs trs) :
    PPs X pos (some k :: ks) (v :: vs) ((tk, tv) :: trs) := fun pins s σ H Q I h =>
  pairTrees_cons_walk (thn (hk pins s σ H _ I h) fun u s1 ⟨x, H1, I1, rx, q1⟩ => thn (hv pins s1 σ H1 _ I1 q1) fun w2 s2 ⟨y, H2, I2, ry, q2⟩ =>
    thn (hr pins s2 σ H2 _ I2 q2) fun ws s3 ⟨ps, H3, I3, rel, q3⟩ => ⟨(x, y) :: ps, H3, I3, .cons ⟨rx, ry⟩ rel, q3⟩)
def mergeK (kvs more : List (Key × V)) : List (Key × V) := more.foldl (fun acc kv => putK acc kv.1 kv.2) kvs
theorem KV.merge : ∀ {more : List (Key × V)} {rs : List (Key × Value)} {kvs : List (Key × V)} {vs : List (Key × Value)}, KV more rs->KV kvs vs->KV (mergeK kvs more) (merged vs rs) := by
  intro more rs kvs vs r
  unfold KV at r
  induction r generalizing kvs vs with
  | nil => intro q; exact q
  | @cons p q ps qs h t ih =>
    intro r0
    have e : KV (putK kvs p.1 p.2) (stored vs q.1 q.2) := by
      have := r0.put p.1 h.2
      rw [← h.1]; exact this
    exact ih e
theorem length_mergeK : ∀ (more kvs : List (Key × V)), (mergeK kvs more).length ≤ kvs.length + more.length
  | [], kvs => by show kvs.length ≤ kvs.length + 0; omega
  | p :: r, kvs => by
    have h1 := length_mergeK r (putK kvs p.1 p.2)
    have h2 := length_putK kvs p.1 p.2
    show (mergeK (putK kvs p.1 p.2) r).length ≤ _
    rw [List.length_cons]; omega
theorem carries_of {P : Program} {w : World} : ∀ {kvs : List (Key × V)} {ws : List (Value × Value)}, VV (kvs.map fun kv => (kV kv.1, kv.2)) ws->∃ rs, Carries (mixKind P w) ws rs /\ KV kvs rs
  | [], _, r => by rw [List.map_nil] at r; cases r; exact ⟨[], True.intro, .nil⟩
  | p :: kvs, _, r => by
    rw [List.map_cons] at r
    cases r with
    | @cons a b as bs h t =>
      obtain ⟨rs, c, q⟩ := carries_of (P := P) (w := w) t
      obtain ⟨b1, b2⟩ := b
      exact ⟨(p.1, b2) :: rs, ⟨kV_is h.1, rfl, c⟩, .cons ⟨rfl, h.2⟩ q⟩
def tDisp (trs : List (TE × TE)) : TE := fun σ H Q => ∀ p, H p = none->tPairs trs σ (upd H p (.dK [])) fun ps H2 => H2 p = some (.dK []) /\ ∃ kvs : List (Key × V), ps = kvs.map (fun kv => (kV kv.1, kv.2)) /\ kvs.length ≤ 15 /\ Q (.ref p) (upd H2 p (.dK (mergeK [] kvs)))
theorem pe_disp {X : Cx} {pos : Pos} {keys : List (Option Expr)} {values : List Expr} {trs : List (TE × TE)} (h : PPs X pos keys values trs) (hall : keys.all (·.isSome) = true) (hl : keys.length = values.length) (h0 : keys ≠ [])
    (h15 : keys.length ≤ 15) : PE X (.Dict keys values pos) (tDisp trs) := by
  intro pins s σ H Q I q
  have hn := I.hok.fresh (Nat.le_refl s.heap.objs.size)
  have I1 := I.laid (a := s.heap.objs.size) (o := .dK []) (h' := s.heap.push { cls := .type "dict", data := .dict #[] }) (t' := s.toks) (fun _ _ q => Heap.get?_push_of_some _ q) (Nat.le_refl _) (dk_empty s.heap I.big)
  refine wpAny_Dict_walk (knd := mixKind X.prog X.w) hall hl h0 h15 (thn (h pins _ σ _ _ I1 (q _ hn)) fun ws s2 ⟨ps, H2, I2, rel, e, kvs, ep, lk, q2⟩ => ?_)
  subst ep
  obtain ⟨rs, c, rk⟩ := carries_of (P := X.prog) (w := X.w) rel
  obtain ⟨z, hd, vs0, r0, dd⟩ := dk_of I2.hok e
  cases r0
  refine ⟨rs, c, dd, fun h' dd' hs => ⟨.ref s.heap.objs.size, _, ?_, rfl, q2⟩⟩
  have hz : (mergeK [] kvs).length ≤ sizeLine := by
    have h1 := length_mergeK kvs []
    rw [List.length_nil] at h1
    rw [sizeLine_eq]; omega
  have he : ∃ q, h'.get? s.heap.objs.size = some q := let ⟨q, _, _, hq, _⟩ := dd'; ⟨q, hq⟩
  exact d_write I2 (by rw [e]; exact True.intro) hs he (dk_new hz hd (rk.merge .nil) dd')
structure M1 (X : Cx) (o : Expr) (m : Str) (apos : Pos) (e : Expr) (cpos : Pos) : Prop where
  base : attributeBase o m X.env (eval o X.env) = eval o X.env
  few : ((backTo cpos (starEach [e] X.env)).all (fun x => !x.1) && (backToKw cpos (keywordEach [] X.env)).all (fun x => x.1.isSome)
    && decide (([e] : List Expr).length + ([] : List Keyword).length + (if ([] : List Keyword).isEmpty then 0 else 1) < 30)) = true
  line : (apos.endLine == cpos.line) = true
  trees : backTo cpos (starEach [e] X.env) = [(false, eval e X.env)]
structure M2 (X : Cx) (o : Expr) (m : Str) (apos : Pos) (e f : Expr) (cpos : Pos) : Prop where
  base : attributeBase o m X.env (eval o X.env) = eval o X.env
  few : ((backTo cpos (starEach [e, f] X.env)).all (fun x => !x.1) && (backToKw cpos (keywordEach [] X.env)).all (fun x => x.1.isSome)
    && decide (([e, f] : List Expr).length + ([] : List Keyword).length + (if ([] : List Keyword).isEmpty then 0 else 1) < 30)) = true
  line : (apos.endLine == cpos.line) = true
  trees : backTo cpos (starEach [e, f] X.env) = [(false, eval e X.env), (false, eval f X.env)]
def IsD (H : Hp) (a : Addr) : Prop := (∃ kvs, Rd H a (.dK kvs)) ∨ ∃ kvs, Rd H a (.dT kvs)
theorem isD_at {X : Cx} {pins : List (Addr × Obj)} {σ : St} {H : Hp} {s : Shared} {a : Addr} (I : Inv X pins σ H s) (d : IsD H a) :
    s.TypeIs (.ref a) "dict" /\ (∀ b, Value.ref a = .ref b->∃ ob, s.heap.get? b = some ob /\ ob.dict = none) /\ (a == sysModules) = false := by
  rcases d with ⟨kvs, e⟩ | ⟨kvs, e⟩
  · obtain ⟨_, hd, vs, _, dd⟩ := dk_rd I.hok e
    refine ⟨dd.typeIs, fun b q => ?_, hd⟩
    cases q
    obtain ⟨ob, _, _, h1, h2, _⟩ := dd
    exact ⟨ob, h1, h2.2.1⟩
  · obtain ⟨_, hd, xs, _, dd⟩ := dt_rd I.hok e
    refine ⟨dd.typeIs, fun b q => ?_, hd⟩
    cases q
    obtain ⟨ob, _, _, h1, h2, _⟩ := dd
    exact ⟨ob, h1, h2.2.1⟩
section
variable {X : Cx} {pins : List (Addr × Obj)} {σ : St} {H : Hp} {s : Shared} {a : Addr} {y d : V} {u r : Value} {o : Option V} {A : Around} {E : Value->Shared->Prop}
theorem d_get1 {Q : Value->Shared->Prop} (hu : A.units + 1 < cLine) (I : Inv X pins σ H s) (g : DGet H a y o) (ry : RelV y u) (h : ∀ w' s', Inv X pins σ H s'->RelV (o.getD .non) w'->Q w' s') :
    wpAny (model X.prog X.w) A (call (.builtin "dict.get") [.ref a, u]) Q E s := by
  rcases g with ⟨kvs, k, e, ey, l⟩ | ⟨kvs, k, b, e, ey, eb, l⟩
  · subst ey
    obtain ⟨z, hd, vs, rel, dd⟩ := dk_rd I.hok e
    refine call_meetsIn PySem.F.slot_dict_get dd.typeIs PySem.F.entry_dict_get (PySem.F.args_dict_get_2 _ _) (meets_dict_get (mixKind X.prog X.w) a (kV_is ry) hd) ⟨_, dd.mapOf, h _ _ (I.tok _) ?_⟩
    rw [l]
    exact (rel.val k).getD rfl
  · subst ey
    cases (show u = Value.ref b from ry)
    obtain ⟨z, hd, xs, rel, dd⟩ := dt_rd I.hok e
    refine call_meetsIn PySem.F.slot_dict_get dd.typeIs PySem.F.entry_dict_get (PySem.F.args_dict_get_2 _ _) (meetsH_dict_get (tupleKind (mixKind X.prog X.w)) a b hd) ⟨tupleKind_room_in1 hu, k, xs, key_of I.hok eb, dd, h _ _ (I.tok _) ?_⟩
    rw [l]
    exact (rel.val k).getD rfl
theorem d_get2 {Q : Value->Shared->Prop} (hu : A.units + 1 < cLine) (I : Inv X pins σ H s) (g : DGet H a y o) (ry : RelV y u) (rd : RelV d r) (h : ∀ w' s', Inv X pins σ H s'->RelV (o.getD d) w'->Q w' s') :
    wpAny (model X.prog X.w) A (call (.builtin "dict.get") [.ref a, u, r]) Q E s := by
  rcases g with ⟨kvs, k, e, ey, l⟩ | ⟨kvs, k, b, e, ey, eb, l⟩
  · subst ey
    obtain ⟨z, hd, vs, rel, dd⟩ := dk_rd I.hok e
    refine call_meetsIn PySem.F.slot_dict_get dd.typeIs PySem.F.entry_dict_get (PySem.F.args_dict_get_3 _ _ _) (meets_dict_get_default (mixKind X.prog X.w) a (kV_is ry) hd r) ⟨_, dd.mapOf, h _ _ (I.tok _) ?_⟩
    rw [l]
    exact (rel.val k).getD rd
  · subst ey
    cases (show u = Value.ref b from ry)
    obtain ⟨z, hd, xs, rel, dd⟩ := dt_rd I.hok e
    refine call_meetsIn PySem.F.slot_dict_get dd.typeIs PySem.F.entry_dict_get (PySem.F.args_dict_get_3 _ _ _) (meetsH_dict_get_default (tupleKind (mixKind X.prog X.w)) a b hd r) ⟨tupleKind_room_in1 hu, k, xs, key_of I.hok eb, dd, h _ _ (I.tok _) ?_⟩
    rw [l]
    exact (rel.val k).getD rd
end
def tDGet1 (td ty : TE) : TE := fun σ H Q => td σ H fun x H1 => ∃ a, x = .ref a /\ IsD H1 a /\ ty σ H1 fun y H2 => ∃ o, DGet H2 a y o /\ Q (o.getD .non) H2
def tDGet2 (td ty tx : TE) : TE := fun σ H Q => td σ H fun x H1 => ∃ a, x = .ref a /\ IsD H1 a /\ ty σ H1 fun y H2 => tx σ H2 fun z H3 => ∃ o, DGet H3 a y o /\ Q (o.getD z) H3
def tDPop1 (td ty : TE) : TE := fun σ H Q => td σ H fun x H1 => ∃ a, x = .ref a /\ IsD H1 a /\ ty σ H1 fun y H2 => ∃ kvs k v, H2 a = some (.dK kvs) /\ y = kV k /\ valV kvs k = some v /\ Q v (upd H2 a (.dK (dropK kvs k)))
section
variable {X : Cx} {o e f : Expr} {apos cpos : Pos} {td ty tx : TE}
theorem pe_dget1 (hu : X.A.units + 1 < cLine) (ho : PE X o td) (he : PE X e ty) (m : M1 X o "get" apos e cpos) : PE X (.Call (.Attribute o "get" apos) [e] [] cpos) (tDGet1 td ty) := by
  intro pins s σ H Q I h
  refine wpAny_Call_method m.base m.few m.line PySem.F.plainAttrs_dict PySem.F.slot_dict_get PySem.F.type_dict_get (thn (ho pins s σ H _ I h) fun u s1 ⟨x, H1, I1, rx, a, ex, d, q1⟩ => ?_)
  subst ex
  obtain rfl : u = Value.ref a := rx
  obtain ⟨t1, t2, _⟩ := isD_at I1 d
  refine ⟨t1, t2, ?_⟩
  rw [m.trees]
  refine Calls.callWith_builtin rfl (Calls.evalArgs_plain (Calls.spliced_cons (thn (he pins s1 σ H1 _ I1 q1) fun iv s2 ⟨y, H2, I2, ry, ov, g, q2⟩ => Calls.spliced_nil ?_)))
  exact d_get1 hu I2 g ry fun w' s3 I3 rw' => ⟨_, H2, I3, rw', q2⟩
theorem pe_dget2 (hu : X.A.units + 1 < cLine) (ho : PE X o td) (he : PE X e ty) (hf : PE X f tx) (m : M2 X o "get" apos e f cpos) : PE X (.Call (.Attribute o "get" apos) [e, f] [] cpos) (tDGet2 td ty tx) := by
  intro pins s σ H Q I h
  refine wpAny_Call_method m.base m.few m.line PySem.F.plainAttrs_dict PySem.F.slot_dict_get PySem.F.type_dict_get (thn (ho pins s σ H _ I h) fun u s1 ⟨x, H1, I1, rx, a, ex, d, q1⟩ => ?_)
  subst ex
  obtain rfl : u = Value.ref a := rx
  obtain ⟨t1, t2, _⟩ := isD_at I1 d
  refine ⟨t1, t2, ?_⟩
  rw [m.trees]
  refine Calls.callWith_builtin rfl (Calls.evalArgs_plain (Calls.spliced_cons (thn (he pins s1 σ H1 _ I1 q1) fun iv s2 ⟨y, H2, I2, ry, q2⟩ =>
    Calls.spliced_cons (thn (hf pins s2 σ H2 _ I2 q2) fun fv s3 ⟨z, H3, I3, rz, ov, g, q3⟩ => Calls.spliced_nil ?_))))
  exact d_get2 hu I3 g ry rz fun w' s4 I4 rw' => ⟨_, H3, I4, rw', q3⟩
theorem pe_dpop1 (ho : PE X o td) (he : PE X e ty) (m : M1 X o "pop" apos e cpos) : PE X (.Call (.Attribute o "pop" apos) [e] [] cpos) (tDPop1 td ty) := by
  intro pins s σ H Q I h
  refine wpAny_Call_method m.base m.few m.line PySem.F.plainAttrs_dict PySem.F.slot_dict_pop PySem.F.type_dict_pop (thn (ho pins s σ H _ I h) fun u s1 ⟨x, H1, I1, rx, a, ex, d, q1⟩ => ?_)
  subst ex
  obtain rfl : u = Value.ref a := rx
  obtain ⟨t1, t2, _⟩ := isD_at I1 d
  refine ⟨t1, t2, ?_⟩
  rw [m.trees]
  refine Calls.callWith_builtin rfl (Calls.evalArgs_plain (Calls.spliced_cons (thn (he pins s1 σ H1 _ I1 q1) fun iv s2 ⟨y, H2, I2, ry, kvs, k, v, ea, ey, l, q2⟩ => Calls.spliced_nil ?_)))
  subst ey
  exact d_pop I2 ea ry l (.inl rfl) fun w' s3 I3 rw' => ⟨v, _, I3, rw', q2⟩
end
open PySem PySem.Spec PyProof.Rows
section
variable {κ : Type} [DecidableEq κ]
theorem valV_not {kvs : List (κ × V)} {k : κ} (h : valV kvs k = none) : ¬ k ∈ kvs.map (·.1) := by
  intro m
  obtain ⟨p, hp, e⟩ := List.mem_map.mp m
  have q : (kvs.any fun kv => decide (kv.1 = k)) = true := List.any_eq_true.mpr ⟨p, hp, decide_eq_true e⟩
  rw [valV_any, h] at q
  exact absurd q (by simp)
theorem nd_snoc : ∀ {l : List κ} {k : κ}, l.Nodup->¬ k ∈ l->(l ++ [k]).Nodup
  | [], k, _, _ => by simp
  | a :: r, k, h, hk => by
    obtain ⟨h1, h2⟩ := List.nodup_cons.mp h
    show (a :: (r ++ [k])).Nodup
    refine List.nodup_cons.mpr ⟨fun m => ?_, nd_snoc h2 fun m => hk (List.mem_cons.mpr (Or.inr m))⟩
    rcases List.mem_append.mp m with q | q
    · exact h1 q
    · exact hk (List.mem_cons.mpr (Or.inl (List.mem_singleton.mp q).symm))
theorem nd_putK {kvs : List (κ × V)} {k : κ} (v : V) (hn : (kvs.map (·.1)).Nodup) (h : valV kvs k = none) : ((putK kvs k v).map (·.1)).Nodup := by
  rw [putK_new v h, List.map_append]
  exact nd_snoc hn (valV_not h)
theorem dropK_pos {p : κ × V} {r : List (κ × V)} {k : κ} (e : p.1 = k) : dropK (p :: r) k = dropK r k := by
  unfold dropK
  rw [List.filter_cons, if_neg (by simp [e])]
theorem dropK_neg {p : κ × V} {r : List (κ × V)} {k : κ} (e : ¬ p.1 = k) : dropK (p :: r) k = p :: dropK r k := by
  unfold dropK
  rw [List.filter_cons, if_pos (by simp [e])]
theorem dropK_mem {kvs : List (κ × V)} {k : κ} {p : κ × V} (h : p ∈ dropK kvs k) : p ∈ kvs := (List.mem_filter.mp h).1
theorem nd_dropK : ∀ {kvs : List (κ × V)} {k : κ}, (kvs.map (·.1)).Nodup->((dropK kvs k).map (·.1)).Nodup
  | [], _, _ => List.nodup_nil
  | p :: r, k, h => by
    have h : (p.1 :: r.map (·.1)).Nodup := h
    obtain ⟨h1, h2⟩ := List.nodup_cons.mp h
    by_cases e : p.1 = k
    · rw [dropK_pos e]
      exact nd_dropK h2
    · rw [dropK_neg e]
      show (p.1 :: (dropK r k).map (·.1)).Nodup
      refine List.nodup_cons.mpr ⟨fun m => h1 ?_, nd_dropK h2⟩
      obtain ⟨q, hq, eq⟩ := List.mem_map.mp m
      exact List.mem_map.mpr ⟨q, dropK_mem hq, eq⟩
end
end L2
namespace Chk
def T (n : Nat) : Nat := n * 128 % 2 ^ 64 + n / 2 ^ 57
def D (n : Nat) : Nat := if n * 2 ≥ 2 ^ 64 then n * 2 - 2 ^ 64 + 1 else n * 2
def stp (c n : Nat) : Nat := T c ^^^ n
def chk (l : List Nat) : Nat := l.foldl stp 0
end Chk
namespace L2
open PySem PySem.Spec PyProof.Rows
section
variable {X : Cx}
theorem op_fdivB : OpR X (binaryOp .FloorDiv) (rI (fun _ j => 0 < j /\ j.natAbs.log2 < 9000) fun i j => .int (i / j)) := opI fun i j _ _ _ _ _ hc q => by
  have h1 : (0 : Int) < j := hc.1
  exact floordiv_int (by omega) (by rw [Int.fdiv_eq_ediv_of_nonneg i (by omega)]; exact q) (.inl (PyProof.noPylong_of_log2 hc.2))
theorem pe_powc {a b n : Int} {j1 j2 p1 p2 pos} (h : 0 ≤ b /\ b ≤ 1000000 /\ a.natAbs < 2 ^ 64 := by decide) (e : a ^ b.toNat = n := by first | rfl | decide +kernel) :
    PE X (.BinOp (.Constant (.int a) j1 p1) .Pow (.Constant (.int b) j2 p2) pos) (tC (.int n)) := fun pins s σ H Q I hw =>
  pe_op op_pow pe_int pe_int pins s σ H Q I ⟨_, _, rfl, rfl, h, by subst e; exact hw⟩
def clsV : V->Option Value
  | .ty n => some (.type n)
  | .ref a => some (.ref a)
  | _ => none
theorem call_isinst : CallR X (.builtin "isinstance") (fun xs H Q => ∃ x c cv t b, xs = [x, c] /\ clsV c = some cv /\ TyOf X.K H x t /\ PySem.W.kitOne X.K t cv = some b /\ Q (.bl b) H) := by
  rintro pins s σ H xs us Q I r ⟨x, c, cv, t, b, rfl, hc, ty, e, q⟩
  obtain ⟨u, v, rfl, ru, rv⟩ := vals2 r
  have hv : v = cv := by
    cases c <;> simp [clsV] at hc <;> subst hc <;> exact rv
  subst hv
  exact isinst_ok I ru ty e fun tk => ⟨.bl b, H, I.tok tk, rfl, q⟩
end
section
variable (P : Program) (w : World) (K : PySem.W.Frag) (mg : Str->Option Value) (base : Heap)
structure DefOk (x : Str) (k : Nat) (ps : List Str) (sp : Sp) : Prop where
  ex : ∃ (f : Addr) (fd : FuncData), mg x = some (.ref f) /\ FnOk P w K mg base CX0 k f fd ps sp /\ PySem.W.keepIn K (.ref f) = true /\ Binds K fd ps []
structure MethOk (C : Addr) (m : Str) (k : Nat) (ps : List Str) (sp : Sp) : Prop where
  ex : ∃ (f : Addr) (fd : FuncData), Meth K C m f /\ FnOk P w K mg base CX0 k f fd ps sp /\ Binds K fd ps []
structure MakeOk (x : Str) (C : Addr) (k : Nat) (ps : List Str) (sp : Sp) : Prop where
  ex : ∃ (f : Addr) (fd : FuncData), mg x = some (.ref C) /\ Mk K C f /\ FnOk P w K mg base CX0 k f fd ps sp /\ Binds K fd ps []
end
theorem iteY {c A B : Prop} [Decidable c] (hc : c) (h : A) : if decide c = true then A else B := by
  rw [if_pos (decide_eq_true hc)]; exact h
theorem iteN {c A B : Prop} [Decidable c] (hc : ¬ c) (h : B) : if decide c = true then A else B := by
  rw [if_neg (by rw [decide_eq_false hc]; decide)]; exact h
open PySem
def clos (cells : List (Str × Addr)) : List (Str × NameKind)->List (Str × Addr)->List (Str × Addr)
  | [], acc => acc
  | (n, k) :: r, acc => clos cells r (if k == .free then (n, (cells.lookup n).getD 0) :: acc else acc)
theorem clos_loop {env : Env} : ∀ (l : List (Str × NameKind)) (acc : List (Str × Addr)), (∀ y ∈ l, y.2 = .free->∃ c, env.cells.lookup y.1 = some c) →
    (forIn l acc fun (x : Str × NameKind) (cs : List (Str × Addr)) => if (x.2 == NameKind.free) = true then do let a ← cellOf env x.1; pure (ForInStep.yield ((x.1, a) :: cs)) else pure (ForInStep.yield cs) : Sem (List (Str × Addr))) = pure (clos env.cells l acc)
  | [], acc, _ => by simp only [List.forIn_nil]; rfl
  | (n, k) :: r, acc, h => by
    simp only [List.forIn_cons]
    cases hk : (k == NameKind.free) with
    | false =>
      simp only [Bool.false_eq_true, if_false]
      have ih := clos_loop (env := env) r acc fun y hy => h y (List.mem_cons_of_mem _ hy)
      simp only [pure_bind, ih, clos, hk, Bool.false_eq_true, if_false]
    | true =>
      obtain ⟨c, hc⟩ := h (n, k) List.mem_cons_self (by simpa using hk)
      have e : cellOf env n = pure c := by
        unfold cellOf; rw [show env.cells.lookup n = some c from hc]
      simp only [if_true, e, pure_bind]
      have ih := clos_loop (env := env) r ((n, c) :: acc) fun y hy => h y (List.mem_cons_of_mem _ hy)
      rw [ih]
      simp only [clos, hk, if_true]
      rw [show env.cells.lookup n = some c from hc]; rfl
theorem closureFor_eq {scope : Scope} {env : Env} (h : ∀ y ∈ scope.names, y.2 = .free->∃ c, env.cells.lookup y.1 = some c) : closureFor scope env = pure (clos env.cells scope.names []) := by
  have := clos_loop (env := env) scope.names [] h
  unfold closureFor
  simp only [bind_pure]
  exact this
theorem clos_sub {cells : List (Str × Addr)} : ∀ {names : List (Str × NameKind)} {acc : List (Str × Addr)}, (∀ y ∈ names, y.2 = .free->∃ c, cells.lookup y.1 = some c)->(∀ x c, acc.lookup x = some c->cells.lookup x = some c) →
    ∀ x c, (clos cells names acc).lookup x = some c->cells.lookup x = some c
  | [], _, _, ha, x, c, h => ha x c h
  | (n, k) :: r, acc, hn, ha, x, c, h => by
    refine clos_sub (names := r) (fun y hy => hn y (List.mem_cons_of_mem _ hy)) ?_ x c h
    intro x c h
    split at h
    · rename_i hk
      obtain ⟨d, hd⟩ := hn (n, k) List.mem_cons_self (by simpa using hk)
      rw [show cells.lookup n = some d from hd, List.lookup_cons] at h
      split at h
      · rename_i e
        rw [eq_of_beq e, show cells.lookup n = some d from hd]; exact h
      · exact ha x c h
    · exact ha x c h
theorem clos_has {cells : List (Str × Addr)} : ∀ {names : List (Str × NameKind)} {acc : List (Str × Addr)} {x : Str}, ((x, NameKind.free) ∈ names ∨ ∃ c, acc.lookup x = some c)->∃ c, (clos cells names acc).lookup x = some c
  | [], acc, x, h => by
    rcases h with h | h
    · cases h
    · exact h
  | (n, k) :: r, acc, x, h => by
    refine clos_has (names := r) ?_
    rcases h with h | ⟨c, h⟩
    · rcases List.mem_cons.mp h with h | h
      · injection h with h1 h2
        subst h1; subst h2
        exact .inr ⟨(cells.lookup x).getD 0, by simp [List.lookup_cons]⟩
      · exact .inl h
    · right
      split
      · rw [List.lookup_cons]
        split
        · exact ⟨_, rfl⟩
        · exact ⟨c, h⟩
      · exact ⟨c, h⟩
theorem mem_of_lookup {α : Type} {x : Str} {a : α} : ∀ {l : List (Str × α)}, l.lookup x = some a->(x, a) ∈ l
  | [], h => by simp at h
  | (n, k) :: r, h => by
    rw [List.lookup_cons] at h
    split at h
    · rename_i e
      injection h with h
      rw [eq_of_beq e, h]; exact List.mem_cons_self
    · exact List.mem_cons_of_mem _ (mem_of_lookup h)
theorem lookup_relabel {env : Env} {x : Str} : ∀ (names : List (Str × NameKind)),
    (names.map fun (n, k) => if (k == NameKind.free && env.scope.kind == .function && env.kindOf n == some .cell) then (n, NameKind.cell) else (n, k)).lookup x =
      (names.lookup x).map fun k => if (k == NameKind.free && env.scope.kind == .function && env.kindOf x == some .cell) then NameKind.cell else k
  | [] => rfl
  | (n, k) :: r => by
    have ih := lookup_relabel (env := env) (x := x) r
    simp only [List.map_cons]
    by_cases e : x = n
    · subst e
      split <;> rename_i hc
      · simp only [List.lookup_cons, beq_self_eq_true, Option.map_some, hc, if_true]
      · simp only [List.lookup_cons, beq_self_eq_true, Option.map_some]
        rw [if_neg hc]
    · have e' : (x == n) = false := by simpa using e
      split <;> simp only [List.lookup_cons, e'] <;> exact ih
open PySem PySem.Spec PyProof.Rows
theorem anelt {a b n : Nat} (h1 : a < n) (h2 : n ≤ b) : a ≠ b := by omega
def Cx.comp (X : Cx) (scope : Scope) (N : List Str) (C : Addr) (s₀ : Shared) (H₀ : Hp) (ex : List Addr) : Cx :=
  { X with N := N, s₀ := s₀, H₀ := H₀, env := compEnvC scope (clos X.env.cells scope.names []) C X.env, outer := X.stack, stack := X.stack, ex := ex, fn := fun _ => false, pn := [] }
def st0 (k : Nat) (cap : List Nat) (σ : St) : St := List.replicate k none ++ cap.map fun j => (σ[j]?).getD none
def compOk (XN : List Str) (fs sc : Scope) (N : List Str) (k : Nat) (cap : List Nat) : Bool :=
  decide (sc.kind = .function) && sc.names.all (fun y => decide (y.2 ≠ .cell)) && sc.names.all (fun y => decide (y.2 ≠ .local) || decide (sc.names.lookup y.1 = some .local)) &&
  sc.names.all (fun y => decide (y.2 ≠ .free) || decide (fs.names.lookup y.1 = some .cell)) && decide (N.length = k + cap.length) &&
  (cap.zip (N.drop k)).all (fun p => decide (XN[p.1]? = some p.2) && decide (sc.names.lookup p.2 = some .free))
structure CompOk (XN : List Str) (fs sc : Scope) (N : List Str) (k : Nat) (cap : List Nat) : Prop where
  kind : sc.kind = .function
  nocell : ∀ y ∈ sc.names, y.2 ≠ .cell
  locs : ∀ y ∈ sc.names, y.2 = .local->sc.names.lookup y.1 = some .local
  frees : ∀ y ∈ sc.names, y.2 = .free->fs.names.lookup y.1 = some .cell
  len : N.length = k + cap.length
  caps : ∀ p ∈ cap.zip (N.drop k), XN[p.1]? = some p.2 /\ sc.names.lookup p.2 = some .free
theorem CompOk.of {XN : List Str} {fs sc : Scope} {N : List Str} {k : Nat} {cap : List Nat} (h : compOk XN fs sc N k cap = true) : CompOk XN fs sc N k cap := by
  unfold compOk at h
  simp only [Bool.and_eq_true, List.all_eq_true, decide_eq_true_eq, Bool.or_eq_true] at h
  obtain ⟨⟨⟨⟨⟨h1, h2⟩, h3⟩, h4⟩, h5⟩, h6⟩ := h
  exact ⟨h1, h2, fun y hy e => (h3 y hy).resolve_left fun z => z e, fun y hy e => (h4 y hy).resolve_left fun z => z e, h5, h6⟩
section
variable {X : Cx} {pins : List (Addr × Obj)} {σ : St} {H : Hp} {s : Shared} {scope : Scope} {N : List Str} {k : Nat} {cap : List Nat} {fp : List Addr}
theorem Cx.comp_kind {x : Str} {C : Addr} {s₀ : Shared} {H₀ : Hp} {ex : List Addr} (hk : X.env.scope.kind = .function) :
    (X.comp scope N C s₀ H₀ ex).env.kindOf x = (scope.names.lookup x).map fun k => if (k == NameKind.free && X.env.kindOf x == some .cell) then NameKind.cell else k := by
  show (relabel scope X.env).names.lookup x = _
  unfold relabel
  rw [lookup_relabel]
  congr 1
  funext k
  rw [hk]; simp
theorem Inv.freeCells (I : Inv X pins σ H s) (c : CompOk X.N X.env.scope scope N k cap) : ∀ y ∈ scope.names, y.2 = .free->∃ d, X.env.cells.lookup y.1 = some d :=
  fun y hy e => I.ok.has y.1 (.inl (c.frees y hy e))
theorem Inv.block (I : Inv X pins σ H s) (c : CompOk X.N X.env.scope scope N k cap) (hf : ∀ b ∈ fp, FpOk X pins H b) (ho : ∀ b ∈ fp, ∃ o, s.heap.get? b = some o) {D C : Addr} {s1 : Shared}
    (hD : s.heap.objs.size ≤ D) (hC : s.heap.objs.size ≤ C) (hDC : D ≠ C) (hos : s1.os = s.os) (hg : s1.gens = s.gens) (keep : ∀ b o, s.heap.get? b = some o->s1.heap.get? b = some o)
    (hl : s1.heap.get? D = some { cls := .type "list", data := .seq #[] }) (hn : s1.heap.Ns C fun _ => none) :
    Inv (X.comp scope N C s H fp) [] (st0 k cap σ) (upd H D (.lst [])) s1 := by
  have hfc := I.freeCells c
  have lt : ∀ b ∈ fp, b < s.heap.objs.size := fun b hb => let ⟨o, e⟩ := ho b hb; Heap.lt_size e
  have clt : ∀ x d, X.env.cells.lookup x = some d->d < s.heap.objs.size := fun x d e => let ⟨v, o, q, _⟩ := I.cell x d e; Heap.lt_size q
  have sub := clos_sub (cells := X.env.cells) (names := scope.names) (acc := []) hfc (fun x c h => by simp at h)
  have fresh : ∀ a, s.heap.objs.size ≤ a->H a = none := fun a h => I.hok.fresh h
  have kindf : ∀ x, ((X.comp scope N C s H fp).env.kindOf x = some .cell ∨ (X.comp scope N C s H fp).env.kindOf x = some .free)->(x, NameKind.free) ∈ scope.names := fun x h => by
    rw [Cx.comp_kind I.ok.kind] at h
    cases e : scope.names.lookup x with
    | none => rw [e] at h; simp at h
    | some kd =>
      have m := mem_of_lookup e
      rw [e] at h
      cases kd with
      | free => exact m
      | cell => exact absurd rfl (c.nocell _ m)
      | «local» => simp at h
      | globalExplicit => simp at h
      | globalImplicit => simp at h
  have ok : (X.comp scope N C s H fp).Ok :=
    { mod := I.ok.mod
      kind := c.kind
      glob := I.ok.glob
      blt := I.ok.blt
      above := hC
      inj := fun x y d hx hy => I.ok.inj x y d (sub x d hx) (sub y d hy)
      has := fun x h => clos_has (.inl (kindf x h))
      cab := fun x d h => by cases h
      hd := I.ok.hd
      frames := I.ok.frames
      stk := .inl rfl
      exf := fun b hb => ⟨fun z => anelt (lt b hb) hC z, fun x d hx => (hf b hb).2.2.2.2.1 x d (sub x d hx)⟩
      bs := I.bs
      bsz := Nat.le_trans I.ok.bsz I.sz
      noex := fun b o e hb => by
        rcases (hf b hb).2.2.2.1 with h | h
        · exact I.ok.noex b o e h
        · exact absurd (Heap.lt_size (I.ok.bs b o e).1) (Nat.not_lt.mpr h)
      exfs := fun b hb hm => by
        rcases List.mem_cons.mp (I.stkSub b hm) with h | h
        · exact (hf b hb).2.1 h
        · exact (hf b hb).2.2.1 h
      funs := I.stack
      frf := I.stkFree }
  have nD : H D = none := fresh D hD
  refine
    { ok := ok
      os := hos
      bare := by rw [hg]; exact I.bare
      base := Un.laid keep hD nD
      loc := ⟨_, hn, ?_⟩
      cell := fun x d h => let ⟨v, q⟩ := I.cell x d (sub x d h); ⟨v, q.keeps keep⟩
      free := by
        show upd H D _ C = none
        rw [upd_ne (Ne.symm hDC)]; exact fresh C hC
      freeC := fun x d h => by
        have h' := sub x d h
        rw [upd_ne (anelt (clt x d h') hD)]; exact I.freeC x d h'
      pin := fun p hp => by cases hp
      hok := I.hok.laid keep hD ⟨Nat.zero_le _, [], 0, .nil, hl⟩
      len := by
        show (st0 k cap σ).length = N.length
        unfold st0; rw [List.length_append, List.length_replicate, List.length_map, c.len] }
  intro i x v hi hv _
  have hi : N[i]? = some x := hi
  unfold st0 at hv
  by_cases hik : i < k
  · rw [List.getElem?_append_left (by rw [List.length_replicate]; exact hik), List.getElem?_replicate, if_pos hik] at hv
    cases hv
  · rw [List.getElem?_append_right (by rw [List.length_replicate]; omega), List.length_replicate, List.getElem?_map] at hv
    cases ej : cap[i - k]? with
    | none => rw [ej] at hv; cases hv
    | some j =>
      rw [ej] at hv
      have hv : (σ[j]?).getD none = some v := Option.some.inj hv
      have hσ : σ[j]? = some (some v) := by
        cases e : σ[j]? with
        | none => rw [e] at hv; cases hv
        | some z => rw [e] at hv; exact congrArg some hv
      have hm : (j, x) ∈ cap.zip (N.drop k) := by
        refine List.mem_iff_getElem?.mpr ⟨i - k, ?_⟩
        rw [List.getElem?_zip_eq_some]
        refine ⟨ej, ?_⟩
        rw [List.getElem?_drop, show k + (i - k) = i by omega]; exact hi
      obtain ⟨hX, hfree⟩ := c.caps _ hm
      have mf := mem_of_lookup hfree
      have hcell := c.frees _ mf rfl
      obtain ⟨m, _, q⟩ := I.loc
      obtain ⟨u, ru, lk⟩ := q j x v hX hσ (.inr (.inl hcell))
      refine ⟨u, ru, .inr ⟨.inl ?_, ?_⟩⟩
      · rw [Cx.comp_kind I.ok.kind, hfree]
        have : (X.env.kindOf x == some NameKind.cell) = true := by
          show (X.env.scope.names.lookup x == some NameKind.cell) = true
          rw [hcell]; rfl
        simp [this]
      · rcases lk with ⟨hloc, _⟩ | ⟨_, d, hd, hcv⟩
        · have hloc : X.env.scope.names.lookup x = some .local := hloc
          rw [hcell] at hloc; cases hloc
        · obtain ⟨d', hd'⟩ := clos_has (cells := X.env.cells) (acc := []) (.inl mf : (x, NameKind.free) ∈ scope.names ∨ _)
          have := sub x d' hd'
          rw [hd] at this; cases this
          exact ⟨d, hd', hcv.keeps keep⟩
theorem Inv.unblock {H' : Hp} {σ' : St} {s1 : Shared} {C : Addr} {ps : List (Addr × Obj)} (I : Inv X pins σ H s) (hf : ∀ b ∈ fp, FpOk X pins H b) (J : Inv (X.comp scope N C s H fp) ps σ' H' s1) : Inv X pins σ H' s1 :=
  I.call' (ch := fp) J.os J.base J.hok J.bare fun b hb => ⟨(hf b hb).2.2.2.1, (hf b hb).2.1, (hf b hb).2.2.2.2.1, (hf b hb).2.2.2.2.2⟩
end
def tComp (k : Nat) (cap : List Nat) (wi : TI) (g : TG) (tt : TT) (te : TE) : TE := fun σ H Q => wi σ H fun J H1 => ∀ D, H1 D = none->∃ W : Nat->Nat->St->Hp->List V->Prop,
  (∃ m, W 0 m (st0 k cap σ) (upd H1 D (.lst [])) []) /\ ∀ i m σ' H' ys, W i m σ' H' ys->(J.stop i H' /\ Q (.ref D) H') ∨
    (J.go i H' /\ ∃ N : St->Hp->List V->Prop, (∀ σ' H' ys', N σ' H' ys'->∃ m', m' < m /\ W (i + 1) m' σ' H' ys') /\ ∀ x H2, J.yld i H' x H2->g x σ' H2 fun σ3 H3 => tt σ3 H3 fun b H4 => if b = true then
      te σ3 H4 fun y H5 => H5 D = some (.lst ys) /\ ys.length < sizeLine /\ N σ3 (upd H5 D (.lst (ys ++ [y]))) (ys ++ [y])
      else N σ3 H4 ys)
def tYes : TT := fun _ H Q => Q true H
def PTs (X : Cx) (ifs : List Expr) (t : TT) : Prop :=
  ∀ (pins : List (Addr × Obj)) (s : Shared) (σ : St) (H : Hp) (Q : Bool->Hp->Prop), Inv X pins σ H s->t σ H Q →
    wpAny (model X.prog X.w) X.A (forIn ifs true fun c r => if r = true then do let ok ← isTrue c X.env (eval c X.env); pure (ForInStep.yield ok) else pure (ForInStep.yield r)) (TP X pins σ Q) X.xe s
theorem pts_nil {X : Cx} : PTs X [] tYes := fun _ _ _ H _ I h => wpAny_tests_nil ⟨H, I, h⟩
theorem pts_one {X : Cx} {c : Expr} {t : TT} (h : PT X c t) : PTs X [c] t := fun pins s σ H Q I hw => wpAny_tests_one (h pins s σ H Q I hw)
section
variable {prog : Program} {w : World} {A : Around} {R : Result->Shared->Prop} {s : Shared}
theorem codeAny_compLoop_go {elt target iter : Expr} {ifs : List Expr} {scope : Scope} {pos : Pos} {it acc : Value} {env : Env} (I : Nat->Shared->Prop)
    (turn : ∀ n s, I n s->wpAny (model prog w) A (pyNext it) (fun r s₁ => match r with
      | none => R (.ok .next) s₁
      | some v => wpAny (model prog w) A (letOwnedTupleGo target it v) (fun _ s₀ => wpAny (model prog w) A (assign target env v) (fun _ s₂ =>
          wpAny (model prog w) A (forIn ifs true fun c r => if r = true then do let ok ← isTrue c env (eval c env); pure (ForInStep.yield ok) else pure (ForInStep.yield r)) (fun ok s₃ =>
            if ok = true then wpAny (model prog w) A (eval elt env) (fun x s₄ =>
              wpAny (model prog w) A (call (.builtin "list.append") [acc, x]) (fun _ s₅ => ∃ m, m < n /\ I m s₅) (notedBy (model prog w) A env fun e s' => R (.error e) s') s₄) (notedBy (model prog w) A env fun e s' => R (.error e) s') s₃
            else ∃ m, m < n /\ I m s₃) (notedBy (model prog w) A env fun e s' => R (.error e) s') s₂) (notedBy (model prog w) A env fun e s' => R (.error e) s') s₀) (notedBy (model prog w) A env fun e s' => R (.error e) s') s₁) (notedBy (model prog w) A env fun e s' => R (.error e) s') s)
    (n : Nat) (h : I n s) :
    codeAny (model prog w) A (.compLoop (.ListComp elt [⟨target, iter, ifs, 0⟩] scope pos) 0 it acc env) R s := by
  refine codeAny_loop rfl I (fun n s hI => ?_) n h
  show wpAny _ A ((compTurn (.ListComp elt [⟨target, iter, ifs, 0⟩] scope pos) 0 it acc env).onRaise (fun x => do noteFrame x env; theTreesLotGoes x)) _ _ s
  refine wpAny_noted ?_
  rw [compTurn_list]
  refine wpAny_bind (wpAny_standAt (wpAny_bind (wpAny_mono (turn n s hI) (fun r s₁ h₁ => ?_) fun _ _ h' => h')))
  cases r with
  | none => exact wpAny_pure h₁
  | some v =>
    refine wpAny_bind (wpAny_mono h₁ (fun _ s₀ h₀ => ?_) fun _ _ h' => h')
    refine wpAny_bind (wpAny_mono h₀ (fun _ s₂ h₂ => wpAny_bind (wpAny_mono h₂ (fun ok s₃ h₃ => ?_) fun _ _ h' => h')) fun _ _ h' => h')
    cases ok with
    | false => exact wpAny_pure ⟨rfl, h₃⟩
    | true =>
      exact wpAny_bind (wpAny_bind (wpAny_mono h₃ (fun x s₄ h₄ => wpAny_bind (wpAny_mono h₄ (fun _ s₅ h₅ => wpAny_pure (wpAny_pure ⟨rfl, h₅⟩)) fun _ _ h' => h')) fun _ _ h' => h'))
end
section
variable {X : Cx} {scope : Scope} {N : List Str} {k : Nat} {cap : List Nat} {tg iter elt : Expr} {ifs : List Expr} {wi : TI} {g : TG} {tt : TT} {te : TE} {pos : Pos}
theorem comp_loop {E : Value->Shared->Prop} {use : Option (Value->Sem Unit)} {QQ : Value->Shared->Prop} {pins : List (Addr × Obj)} {s : Shared} {σ : St} {H : Hp} {it : Addr} {fp : List Addr} {tn : Nat->Heap->Prop} {J : It} {Q : VK}
    (hc : X.calm = true) (c : CompOk X.N X.env.scope scope N k cap)
    (hg : ∀ C s₀ H₀ ex, PG (X.comp scope N C s₀ H₀ ex).nox tg g) (ht : ∀ C s₀ H₀ ex, PTs (X.comp scope N C s₀ H₀ ex).nox ifs tt) (he : ∀ C s₀ H₀ ex, PE (X.comp scope N C s₀ H₀ ex).nox elt te)
    (I : Inv X pins σ H s) (T : Turn X.prog X.w X.K tg J fp it tn) (st : tn 0 s.heap) (hf : ∀ b ∈ fp, FpOk X pins H b)
    (h : ∀ D, H D = none->∃ W : Nat->Nat->St->Hp->List V->Prop, (∃ m, W 0 m (st0 k cap σ) (upd H D (.lst [])) []) /\ ∀ i m σ' H' ys, W i m σ' H' ys->(J.stop i H' /\ Q (.ref D) H') ∨
      (J.go i H' /\ ∃ N : St->Hp->List V->Prop, (∀ σ' H' ys', N σ' H' ys'->∃ m', m' < m /\ W (i + 1) m' σ' H' ys') /\ ∀ x H2, J.yld i H' x H2->g x σ' H2 fun σ3 H3 => tt σ3 H3 fun b H4 => if b = true then
        te σ3 H4 fun y H5 => H5 D = some (.lst ys) /\ ys.length < sizeLine /\ N σ3 (upd H5 D (.lst (ys ++ [y]))) (ys ++ [y])
        else N σ3 H4 ys))
    (hQ : ∀ D C s1 H', Inv X pins σ H' s1->Q (.ref D) H'->(∃ m, s1.heap.Ns C m)->H' C = none->X.s₀.heap.objs.size ≤ C->C ≠ X.env.locals->(∀ x c, X.env.cells.lookup x = some c->c ≠ C)->(∀ p ∈ X.pn ++ pins, p.1 ≠ C) →
      compPost (model X.prog X.w) X.A E use QQ (.ref D) C (.ok .next) s1) :
    wpAny (model X.prog X.w) X.A (newList []) (fun acc s₃ => wpAny (model X.prog X.w) X.A (newFunctionEnv scope X.env.globals (clos X.env.cells scope.names []) [] X.env.qual none .none (some X.env)) (fun cenv s₄ =>
      codeAny (model X.prog X.w) X.A (.compStart (.ListComp elt [⟨tg, iter, ifs, 0⟩] scope pos) 0 (.ref it) acc { cenv with scope := relabel scope X.env }) (compPost (model X.prog X.w) X.A E use QQ acc cenv.locals) s₄) E s₃) E s := by
  refine wpAny_newObj_type (wpAny_newFunctionEnv c.nocell (by intro y hy; simp at hy) (fun h₁ hns₁ hsb₁ => ?_) c.kind)
  dsimp only at hns₁ hsb₁ ⊢
  generalize hH2 : s.heap.push { cls := .type "list", dict := none, data := .seq ([] : List Value).toArray } = H2 at hns₁ hsb₁ ⊢
  have hC : H2.objs.size = s.heap.objs.size + 1 := by rw [← hH2, Heap.size_push]
  have hDC : s.heap.objs.size ≠ H2.objs.size := by rw [hC]; exact Nat.ne_of_lt (Nat.lt_succ_self _)
  have hle : s.heap.objs.size ≤ H2.objs.size := by rw [hC]; exact Nat.le_succ _
  have keep : ∀ b o, s.heap.get? b = some o->h₁.get? b = some o := fun b o e => by
    exact hsb₁.extBut b o (anelt (Heap.lt_size e) hle) (Heap.get?_push_of_some _ (hH2 ▸ Heap.get?_push_of_some _ e))
  have hl : h₁.get? s.heap.objs.size = some { cls := .type "list", data := .seq #[] } := hsb₁.extBut _ _ hDC (Heap.get?_push_of_some _ (hH2 ▸ Heap.get?_push_size _ rfl))
  have nD : H s.heap.objs.size = none := I.hok.fresh (Nat.le_refl _)
  obtain ⟨W, ⟨m0, w0⟩, turn⟩ := h _ nD
  have ho : ∀ b ∈ fp, ∃ o, s.heap.get? b = some o := fun b hb => let ⟨o, e, _⟩ := T.obj _ _ st b hb; ⟨o, e⟩
  have hCs : X.s₀.heap.objs.size ≤ H2.objs.size := Nat.le_trans I.sz hle
  have hCl : H2.objs.size ≠ X.env.locals := (anelt I.lt hle).symm
  have hCc : ∀ x d, X.env.cells.lookup x = some d->d ≠ H2.objs.size := fun x d e => by
    obtain ⟨v, o, q, _⟩ := I.cell x d e
    exact anelt (Heap.lt_size q) hle
  have hCp : ∀ p ∈ X.pn ++ pins, p.1 ≠ H2.objs.size := fun p hp => by
    exact anelt (Heap.lt_size (I.pin p hp).1) hle
  have loop : ∀ s₃ : Shared, s₃ = { s with heap := h₁, toks := s.toks + ([] : List (Str × Value)).length } →
      codeAny (model X.prog X.w) X.A (.compLoop (.ListComp elt [⟨tg, iter, ifs, 0⟩] scope pos) 0 (.ref it) (.ref s.heap.objs.size) (compEnvC scope (clos X.env.cells scope.names []) H2.objs.size X.env))
        (compPost (model X.prog X.w) X.A E use QQ (.ref s.heap.objs.size) H2.objs.size) s₃ := by
    rintro s₃ rfl
    have I0 : Inv (X.comp scope N H2.objs.size s H fp) [] (st0 k cap σ) (upd H s.heap.objs.size (.lst [])) { s with heap := h₁, toks := s.toks + ([] : List (Str × Value)).length } :=
      I.block c hf ho (Nat.le_refl _) hle hDC rfl rfl keep hl (by simpa using hns₁)
    have stat : ∀ {H' : Hp} {ps : List (Addr × Obj)}, (∀ b ∈ fp, H' b = none)->ps = []->∀ b ∈ fp, FpOk (X.comp scope N H2.objs.size s H fp).nox ps H' b := fun hn hp b hb => by
      subst hp
      exact ⟨hn b hb, (I0.ok.exf b hb).1, I0.ok.exfs b hb, .inl hb, (I0.ok.exf b hb).2, fun p hp => by cases hp⟩
    have nok : ∀ b ∈ fp, upd H s.heap.objs.size (.lst []) b = none := fun b hb => by
      obtain ⟨o, e⟩ := ho b hb
      rw [upd_ne (anelt (Heap.lt_size e) (Nat.le_refl _))]; exact (hf b hb).1
    refine codeAny_compLoop_go (fun n s' => ∃ i σ' H' ys, Inv (X.comp scope N H2.objs.size s H fp).nox [] σ' H' s' /\ tn i s'.heap /\ (∀ b ∈ fp, H' b = none) /\ W i n σ' H' ys) ?_ m0
      ⟨0, _, _, [], I0.wish _, T.keep _ _ _ st fun b _ o e => keep b o e, nok, w0⟩
    rintro n s' ⟨i, σ', H', ys, I', st', fr', w'⟩
    rcases turn i n σ' H' ys w' with ⟨stop, q⟩ | ⟨go, NN, hNN, step⟩
    · refine wpAny_mono (T.done (X.comp scope N H2.objs.size s H fp).nox rfl rfl rfl hc i [] s' σ' H' (fun _ _ => False) I' (stat fr' rfl) st' stop) (fun r s4 ⟨hr, I4⟩ => ?_) (fun _ _ x => x.elim)
      subst hr
      exact hQ _ _ s4 H' (I.unblock hf I4.unwish) q (let ⟨m, hn, _⟩ := I4.loc; ⟨m, hn⟩) I4.free hCs hCl hCc hCp
    · refine wpAny_mono (T.item (X.comp scope N H2.objs.size s H fp).nox rfl rfl rfl hc i [] s' σ' H' (fun _ _ => False) I' (stat fr' rfl) st' go) (fun r s4 ⟨u, hr, h4⟩ => ?_) (fun _ _ x => x.elim)
      subst hr
      refine wpAny_mono h4 (fun _ s5 ⟨x, H5, I5, r5, y5, st5, fr5⟩ => ?_) (fun _ _ x => x.elim)
      have I5' := I5.pinned (stat fr5 rfl) (T.obj _ _ st5)
      refine wpAny_mono (hg _ _ _ _ _ s5 σ' H5 x u _ I5' r5 (step x H5 y5)) (fun _ s6 ⟨σ6, H6, I6, q6⟩ => ?_) (fun _ _ x => x.elim)
      refine wpAny_mono (ht _ _ _ _ _ s6 σ6 H6 _ I6 q6) (fun ok s7 ⟨H7, I7, q7⟩ => ?_) (fun _ _ x => x.elim)
      have again : ∀ {H8 : Hp} {s8 : Shared} {ys8 : List V}, Inv (X.comp scope N H2.objs.size s H fp).nox ([] ++ pinsAt fp s5.heap) σ6 H8 s8->NN σ6 H8 ys8 →
          ∃ m, m < n /\ ∃ i σ' H' ys, Inv (X.comp scope N H2.objs.size s H fp).nox [] σ' H' s8 /\ tn i s8.heap /\ (∀ b ∈ fp, H' b = none) /\ W i m σ' H' ys := fun {H8 s8 ys8} I8 n8 => by
        obtain ⟨m', hm, w8⟩ := hNN _ _ _ n8
        refine ⟨m', hm, i + 1, σ6, H8, ys8, I8.unpinned, T.keep _ _ _ st5 fun b hb o e => (I8.pin (b, o) (List.mem_append_right _ (List.mem_append_right _ (mem_pinsAt hb e)))).1, fun b hb => ?_, w8⟩
        obtain ⟨o, e, d⟩ := T.obj _ _ st5 b hb
        exact (I8.pin (b, o) (List.mem_append_right _ (List.mem_append_right _ (mem_pinsAt hb e)))).2.1
      cases ok with
      | false => exact again I7 q7
      | true =>
        refine wpAny_mono (he _ _ _ _ _ s7 σ6 H7 _ I7 q7) (fun y s8 ⟨v, H8, I8, rv, hD, hlen, w8⟩ => ?_) (fun _ _ x => x.elim)
        refine wpAny_mono (mt_append (X := (X.comp scope N H2.objs.size s H fp).nox) _ s8 σ6 H8 (.ref s.heap.objs.size) [v] (.ref s.heap.objs.size) [y] (fun _ H9 => H9 = upd H8 s.heap.objs.size (.lst (ys ++ [v]))) I8 rfl (.cons rv .nil) ⟨_, ys, v, rfl, rfl, hD, hlen, rfl⟩) (fun _ s9 ⟨_, H9, I9, _, e9⟩ => ?_) (fun _ _ x => x.elim)
        subst e9
        exact again I9 w8
  exact codeAny_compStart_list (loop _ rfl) (T.self _ 0 _ _ _ (T.keep _ _ _ st fun b _ o e => keep b o e) (loop _ rfl))
theorem pe_comp (hc : X.calm = true) (hco : compOk X.N X.env.scope scope N k cap = true) (hi : PI X tg iter wi)
    (hg : ∀ C s₀ H₀ ex, PG (X.comp scope N C s₀ H₀ ex).nox tg g) (ht : ∀ C s₀ H₀ ex, PTs (X.comp scope N C s₀ H₀ ex).nox ifs tt) (he : ∀ C s₀ H₀ ex, PE (X.comp scope N C s₀ H₀ ex).nox elt te)
    (hs : ∀ x, foldedSetIterable iter X.env x = pure x := by intro _; rfl) : PE X (.ListComp elt [⟨tg, iter, ifs, 0⟩] scope pos) (tComp k cap wi g tt te) := by
  intro pins s σ H Q I h
  have c := CompOk.of hco
  rw [eval_ListComp]
  refine wpAny_comprehension_free (use := none) (cl := clos X.env.cells scope.names []) rfl hs (closureFor_eq (I.freeCells c)) c.kind c.locs (thn (hi pins s σ H _ I h) fun xv s₁ h₁ => thn h₁ fun itv s₂ h₂ => ?_)
  obtain ⟨it, fp, tn, J, H2, e, I2, T, st, hf, q⟩ := h₂
  subst e
  exact comp_loop (use := none) hc c hg ht he I2 T st hf q fun D C s1 H' I1 q1 ⟨m, hn⟩ hCn hCs hCl hCc hCp =>
    ⟨m, hn, fun h' hs' => ⟨.ref D, H', I1.turned (t' := s1.toks) (fun b o hb e => hs'.extBut b o hb e) hCn hCl (.inr hCs) hCc hCp, rfl, q1⟩⟩
theorem ps_setComp {i : Nat} {x : Str} {pos' spos : Pos} (hN : X.N.Nodup) (hi' : X.N[i]? = some x) (hx : Loc X.env.scope x) (hc : X.calm = true) (hco : compOk X.N X.env.scope scope N k cap = true) (hi : PI X tg iter wi)
    (hg : ∀ C s₀ H₀ ex, PG (X.comp scope N C s₀ H₀ ex).nox tg g) (ht : ∀ C s₀ H₀ ex, PTs (X.comp scope N C s₀ H₀ ex).nox ifs tt) (he : ∀ C s₀ H₀ ex, PE (X.comp scope N C s₀ H₀ ex).nox elt te)
    (hsw : swapsWith (.ListComp elt [⟨tg, iter, ifs, 0⟩] scope pos) (some (.Name x pos')) spos.line X.env = pure true := by rfl)
    (hs : ∀ x, foldedSetIterable iter X.env x = pure x := by intro _; rfl) (hf' : X.fn x = true ∨ X.env.scope.names.lookup x = some .local := by first | exact .inl rfl | exact .inr rfl | assumption) :
    PS X (.Assign [.Name x pos'] (.ListComp elt [⟨tg, iter, ifs, 0⟩] scope pos) spos) (tAsg (tComp k cap wi g tt te) (gName i)) := by
  intro pins s σ H D I h
  have c := CompOk.of hco
  rw [exec_Assign_Name_used _ _ _ _ hsw]
  refine wpAny_bind (wpAny_standAt (wpAny_bind ?_))
  show wpAny _ X.A (do let _ ← comprehension (.ListComp elt [⟨tg, iter, ifs, 0⟩] scope pos) scope X.env _ (newList []) false (eval iter X.env) (some (assign (.Name x pos') X.env))) _ _ s
  refine wpAny_bind (wpAny_mono (wpAny_comprehension_free (use := some (assign (.Name x pos') X.env)) (Q := fun _ s' => SP X pins D .next s') (cl := clos X.env.cells scope.names []) rfl hs (closureFor_eq (I.freeCells c)) c.kind c.locs
    (thn (hi pins s σ H _ I h) fun xv s₁ h₁ => thn h₁ fun itv s₂ h₂ => ?_)) (fun _ s' hq => wpAny_pure (wpAny_pure hq)) fun _ _ e => e)
  obtain ⟨it, fp, tn, J, H2, e, I2, T, st, hf, q⟩ := h₂
  subst e
  refine comp_loop (use := some (assign (.Name x pos') X.env)) (Q := fun v H1 => gName i v σ H1 D.nx) hc c hg ht he I2 T st hf q fun L C s1 H' I1 q1 ⟨m, hn⟩ hCn hCs hCl hCc hCp => ?_
  show wpAny _ X.A (assign (.Name x pos') X.env (.ref L)) _ _ s1
  refine wpAny_assign_Name (store_ok2 (v := .ref L) I1 hN hi' hx rfl (fun s2 I3 ⟨a, sb, ha⟩ => ⟨m, ?_, fun h' hs' => ?_⟩) hf')
  · refine hn.sameBut sb ?_
    rcases ha with z | z
    · rw [z]; exact hCl
    · exact (hCc _ _ z).symm
  · exact ⟨_, H', I3.turned (t' := s2.toks) (fun b o hb e => hs'.extBut b o hb e) hCn hCl (.inr hCs) hCc hCp, q1⟩
end
theorem comp_list {K : PySem.W.Frag} {a : Addr} (D : Addr) {xs : List V} {g : TG} {tt : TT} {te : TE} {σ : St} {H : Hp} {R : Hp->Prop} (Pv : Nat->St->Hp->List V->Prop) (h0 : Pv 0 σ H []) (hl : ∀ i σ H ys, i ≤ xs.length->Pv i σ H ys->SqL K H a xs)
    (hs : ∀ i x σ H ys, xs[i]? = some x->Pv i σ H ys->g x σ H fun σ3 H3 => tt σ3 H3 fun b H4 => if b = true then
      te σ3 H4 fun y H5 => H5 D = some (.lst ys) /\ ys.length < sizeLine /\ Pv (i + 1) σ3 (upd H5 D (.lst (ys ++ [y]))) (ys ++ [y]) else Pv (i + 1) σ3 H4 ys) (hd : ∀ σ H ys, Pv xs.length σ H ys->R H) :
    ∃ W : Nat->Nat->St->Hp->List V->Prop, (∃ m, W 0 m σ H []) /\ ∀ i m σ' H' ys, W i m σ' H' ys->((Itl K a).stop i H' /\ R H') ∨
      ((Itl K a).go i H' /\ ∃ N : St->Hp->List V->Prop, (∀ σ' H' ys', N σ' H' ys'->∃ m', m' < m /\ W (i + 1) m' σ' H' ys') /\ ∀ x H2, (Itl K a).yld i H' x H2->g x σ' H2 fun σ3 H3 => tt σ3 H3 fun b H4 => if b = true then
        te σ3 H4 fun y H5 => H5 D = some (.lst ys) /\ ys.length < sizeLine /\ N σ3 (upd H5 D (.lst (ys ++ [y]))) (ys ++ [y])
        else N σ3 H4 ys) := by
  refine ⟨fun i m σ H ys => m = xs.length - i /\ i ≤ xs.length /\ Pv i σ H ys, ⟨xs.length, by simp, Nat.zero_le _, h0⟩, ?_⟩
  rintro i m σ H ys ⟨rfl, hi, p⟩
  have q := hl i σ H ys hi p
  by_cases hlt : i < xs.length
  · refine .inr ⟨⟨xs, xs[i], q, by simp [hlt]⟩, Pv (i + 1), fun σ' H' ys' p' => ⟨xs.length - (i + 1), by omega, rfl, hlt, p'⟩, fun x H' y => ?_⟩
    obtain ⟨e, y⟩ := y
    subst e
    exact hs i x σ _ ys (y xs q) p
  · have e : i = xs.length := by omega
    subst e
    exact .inl ⟨⟨xs, q, Nat.le_refl _⟩, hd σ H ys p⟩
theorem comp_range {lo : Int} {n : Nat} (D : Addr) {g : TG} {tt : TT} {te : TE} {σ : St} {H : Hp} {R : Hp->Prop} (Pv : Nat->St->Hp->List V->Prop) (h0 : Pv 0 σ H [])
    (hs : ∀ i σ H ys, i < n->Pv i σ H ys->g (.int (lo + i)) σ H fun σ3 H3 => tt σ3 H3 fun b H4 => if b = true then
      te σ3 H4 fun y H5 => H5 D = some (.lst ys) /\ ys.length < sizeLine /\ Pv (i + 1) σ3 (upd H5 D (.lst (ys ++ [y]))) (ys ++ [y]) else Pv (i + 1) σ3 H4 ys) (hd : ∀ σ H ys, Pv n σ H ys->R H) :
    ∃ W : Nat->Nat->St->Hp->List V->Prop, (∃ m, W 0 m σ H []) /\ ∀ i m σ' H' ys, W i m σ' H' ys->((Itr lo n).stop i H' /\ R H') ∨
      ((Itr lo n).go i H' /\ ∃ N : St->Hp->List V->Prop, (∀ σ' H' ys', N σ' H' ys'->∃ m', m' < m /\ W (i + 1) m' σ' H' ys') /\ ∀ x H2, (Itr lo n).yld i H' x H2->g x σ' H2 fun σ3 H3 => tt σ3 H3 fun b H4 => if b = true then
        te σ3 H4 fun y H5 => H5 D = some (.lst ys) /\ ys.length < sizeLine /\ N σ3 (upd H5 D (.lst (ys ++ [y]))) (ys ++ [y])
        else N σ3 H4 ys) := by
  refine ⟨fun i m σ H ys => m = n - i /\ i ≤ n /\ Pv i σ H ys, ⟨n, by simp, Nat.zero_le _, h0⟩, ?_⟩
  rintro i m σ H ys ⟨rfl, hi, p⟩
  by_cases hlt : i < n
  · refine .inr ⟨hlt, Pv (i + 1), fun σ' H' ys' p' => ⟨n - (i + 1), by omega, rfl, hlt, p'⟩, fun x H' y => ?_⟩
    obtain ⟨e, y⟩ := y
    subst e y
    exact hs i σ _ ys hlt p
  · have e : i = n := by omega
    subst e
    exact .inl ⟨Nat.le_refl _, hd σ H ys p⟩
section
variable {X : Cx} {K : PySem.W.Frag}
theorem ix_listK (hK : X.K = K) : IxR X (rIxL K) := by subst hK; exact ix_list
theorem ix_tupK (hK : X.K = K) : IxR X (rIxT K) := by subst hK; exact ix_tup
end
open PySem PySem.Spec PyProof.Rows
theorem Same.new {H : Hp} {p : Addr} {o : HO} (h : H p = none) : Same H (upd H p o) := fun b u e => by rw [upd_ne (ne_of_none e h)]; exact e
open PySem PySem.Spec PyProof.Rows PySem.SeqAt
def SeqEq (K : PySem.W.Frag) (H : Hp) (R : V->V->Bool->Prop) (x y : V) (b : Bool) : Prop :=
  ∃ (a c : Addr) (xs ys : List V) (e : Nat->Bool), x = .ref a /\ y = .ref c ∧
    ((SqL K H a xs /\ SqL K H c ys /\ xs.length = ys.length /\ (∀ (j : Nat) x' y', xs[j]? = some x'->ys[j]? = some y'->R x' y' (e j)) /\ b = (List.range xs.length).all e) ∨
     (SqL K H a xs /\ SqL K H c ys /\ xs.length ≠ ys.length /\ b = false) ∨
     (SqT K H a xs /\ SqT K H c ys /\ (∀ (j : Nat) x' y', xs[j]? = some x'->ys[j]? = some y'->R x' y' (e j)) /\ b = ((List.range (min xs.length ys.length)).all e && xs.length == ys.length)))
def EqI (K : PySem.W.Frag) (H : Hp) : Nat->V->V->Bool->Prop
  | 0 => fun x y b => (flatV x = true /\ flatV y = true /\ b = eqV x y) ∨ ∃ a, x = .ref a /\ y = .ref a /\ b = true
  | n + 1 => fun x y b => EqI K H n x y b ∨ (x ≠ y /\ SeqEq K H (EqI K H n) x y b)
section
variable {X : Cx} {pins : List (Addr × Obj)} {σ : St} {H : Hp} {s : Shared} {A : Around}
theorem items_at {xs ys : List V} {us vs : List Value} {R : V->V->Bool->Prop} {e : Nat->Bool} (r : Vals xs us) (q : Vals ys vs) (he : ∀ (j : Nat) x' y', xs[j]? = some x'->ys[j]? = some y'->R x' y' (e j))
    (hR : ∀ x y b u v, R x y b->RelV x u->RelV y v->EqAt A s u v b) : ∀ j (h1 : j < us.toArray.size) (h2 : j < vs.toArray.size), EqAt A s us.toArray[j] vs.toArray[j] (e j) := fun j h1 h2 => by
  have h1' : j < us.length := by simpa using h1
  have h2' : j < vs.length := by simpa using h2
  have l1 := r.length
  have l2 := q.length
  have ex : xs[j]? = some (xs[j]'(by omega)) := List.getElem?_eq_getElem (by omega)
  have ey : ys[j]? = some (ys[j]'(by omega)) := List.getElem?_eq_getElem (by omega)
  obtain ⟨u, eu, ru⟩ := Vals.get r ex
  obtain ⟨v, ev, rv⟩ := Vals.get q ey
  have e1 : us.toArray[j] = u := by
    have := (List.getElem?_eq_some_iff.mp eu).2
    simpa using this
  have e2 : vs.toArray[j] = v := by
    have := (List.getElem?_eq_some_iff.mp ev).2
    simpa using this
  rw [e1, e2]
  exact hR _ _ _ _ _ (he j _ _ ex ey) ru rv
theorem SeqEq.rc {R : V->V->Bool->Prop} {x y : V} {b : Bool} {u v : Value} (I : Inv X pins σ H s) (hR : ∀ x y b u v, R x y b->RelV x u->RelV y v->EqAt A.in1 s u v b) (hu : A.units < cLine)
    (h : SeqEq X.K H R x y b) (rx : RelV x u) (ry : RelV y v) : RcAt A s u v b := by
  obtain ⟨a, c, xs, ys, e, rfl, rfl, h⟩ := h
  cases rx
  cases ry
  rcases h with ⟨h1, h2, hl, he, rfl⟩ | ⟨h1, h2, hl, rfl⟩ | ⟨h1, h2, he, rfl⟩
  · obtain ⟨us, r, p, _⟩ := I.list h1
    obtain ⟨vs, q, p2, _⟩ := I.list h2
    have l1 := r.length
    have l2 := q.length
    have z := RcAt.lists (A := A) (e := e) p.isList p2.isList (by simp; omega) hu (items_at r q he hR)
    rw [show us.toArray.size = xs.length by simp; omega] at z
    exact z
  · obtain ⟨us, r, p, _⟩ := I.list h1
    obtain ⟨vs, q, p2, _⟩ := I.list h2
    have l1 := r.length
    have l2 := q.length
    exact RcAt.lists_lengths p.isList p2.isList (by simp; omega) hu
  · obtain ⟨us, r, p, _⟩ := I.tuple h1
    obtain ⟨vs, q, p2, _⟩ := I.tuple h2
    have l1 := r.length
    have l2 := q.length
    have z := RcAt.tuples (A := A) (e := e) (show s.heap.IsTuple a us.toArray from p) (show s.heap.IsTuple c vs.toArray from p2) hu (items_at r q he hR)
    rw [show us.toArray.size = xs.length by simp; omega, show vs.toArray.size = ys.length by simp; omega] at z
    exact z
theorem SeqEq.rcNe {R : V->V->Bool->Prop} {x y : V} {b : Bool} {u v : Value} (I : Inv X pins σ H s) (hR : ∀ x y b u v, R x y b->RelV x u->RelV y v->EqAt A.in1 s u v b) (hu : A.units < cLine)
    (h : SeqEq X.K H R x y b) (rx : RelV x u) (ry : RelV y v) : RcNeAt A s u v (!b) := by
  obtain ⟨a, c, xs, ys, e, rfl, rfl, h⟩ := h
  cases rx
  cases ry
  rcases h with ⟨h1, h2, hl, he, rfl⟩ | ⟨h1, h2, hl, rfl⟩ | ⟨h1, h2, he, rfl⟩
  · obtain ⟨us, r, p, _⟩ := I.list h1
    obtain ⟨vs, q, p2, _⟩ := I.list h2
    have l1 := r.length
    have l2 := q.length
    have z := RcNeAt.lists (A := A) (e := e) p.isList p2.isList (by simp; omega) hu (items_at r q he hR)
    rw [show us.toArray.size = xs.length by simp; omega] at z
    exact z
  · obtain ⟨us, r, p, _⟩ := I.list h1
    obtain ⟨vs, q, p2, _⟩ := I.list h2
    have l1 := r.length
    have l2 := q.length
    exact RcNeAt.lists_lengths p.isList p2.isList (by simp; omega) hu
  · obtain ⟨us, r, p, _⟩ := I.tuple h1
    obtain ⟨vs, q, p2, _⟩ := I.tuple h2
    have l1 := r.length
    have l2 := q.length
    have z := RcNeAt.tuples (A := A) (e := e) (show s.heap.IsTuple a us.toArray from p) (show s.heap.IsTuple c vs.toArray from p2) hu (items_at r q he hR)
    rw [show us.toArray.size = xs.length by simp; omega, show vs.toArray.size = ys.length by simp; omega] at z
    exact z
theorem EqI.at (I : Inv X pins σ H s) : ∀ (n : Nat) {A : Around} {x y : V} {b : Bool} {u v : Value}, A.units + n < cLine->EqI X.K H n x y b->RelV x u->RelV y v->EqAt A s u v b
  | 0, A, x, y, b, u, v, hu, h, rx, ry => by
    rcases h with ⟨fx, fy, rfl⟩ | ⟨a, rfl, rfl, rfl⟩
    · exact eqAt_V rx ry fx fy
    · cases rx
      cases ry
      exact EqAt.same _
  | n + 1, A, x, y, b, u, v, hu, h, rx, ry => by
    rcases h with h | ⟨hne, h⟩
    · exact EqI.at I n (by omega) h rx ry
    · have z := SeqEq.rc (A := A) I (fun x y b u v h rx ry => EqI.at I n (A := A.in1) (by show A.units + 1 + n < cLine; omega) h rx ry) (by omega) h rx ry
      obtain ⟨a, c, xs, ys, e, rfl, rfl, _⟩ := h
      cases rx
      cases ry
      exact EqAt.of_refs (fun e => hne (by rw [e])) z
def rEqR (K : PySem.W.Frag) : R2 := fun x y H Q => ∃ (n : Nat) (b : Bool), n ≤ 8 /\ SeqEq K H (EqI K H n) x y b /\ Q (.bl b) H
def rNeR (K : PySem.W.Frag) : R2 := fun x y H Q => ∃ (n : Nat) (b : Bool), n ≤ 8 /\ SeqEq K H (EqI K H n) x y b /\ Q (.bl (!b)) H
theorem op_eq_ref (hu : X.A.units + 64 < cLine) : OpR X (compareOp .Eq) (rEqR X.K) := by
  rintro pins s σ H x y v u Q I rx ry ⟨n, b, hn, h, q⟩
  exact SeqEq.rc (A := X.A) I (fun x y b u v h rx ry => EqI.at I n (A := X.A.in1) (by show X.A.units + 1 + n < cLine; omega) h rx ry) (by omega) h rx ry X.prog X.w X.xe _ ⟨.bl b, H, I, rfl, q⟩
theorem op_ne_ref (hu : X.A.units + 64 < cLine) : OpR X (compareOp .NotEq) (rNeR X.K) := by
  rintro pins s σ H x y v u Q I rx ry ⟨n, b, hn, h, q⟩
  exact SeqEq.rcNe (A := X.A) I (fun x y b u v h rx ry => EqI.at I n (A := X.A.in1) (by show X.A.units + 1 + n < cLine; omega) h rx ry) (by omega) h rx ry X.prog X.w X.xe _ ⟨.bl (!b), H, I, rfl, q⟩
end
theorem SeqEq.sameL {K : PySem.W.Frag} {H : Hp} {a c : Addr} {xs : List V} (h1 : SqL K H a xs) (h2 : SqL K H c xs) (hx : ∀ x ∈ xs, EqI K H n x x true) : SeqEq K H (EqI K H n) (.ref a) (.ref c) true :=
  ⟨a, c, xs, xs, fun _ => true, rfl, rfl, .inl ⟨h1, h2, rfl, fun j x y e1 e2 => by
    rw [e1] at e2; cases e2
    exact hx x (List.mem_of_getElem? e1), by simp⟩⟩
theorem eqI_int {K : PySem.W.Frag} {H : Hp} (i : Int) : EqI K H 0 (.int i) (.int i) true := .inl ⟨rfl, rfl, by simp [eqV]⟩
theorem eqI_same {K : PySem.W.Frag} {H : Hp} (a : Addr) : EqI K H 0 (.ref a) (.ref a) true := .inr ⟨a, rfl, rfl, rfl⟩
open PySem PySem.Spec PyProof.Rows
def veTail : List Value := [.type "ValueError", .type "Exception", .type "BaseException", .type "object"]
def isRefV : Value->Bool
  | .ref _ => true
  | _ => false
def excMro (l : List Value) : Bool := l.dropWhile isRefV == veTail
theorem excMro_at {l : List Value} (h : excMro l = true) : ∃ rs : List Addr, l = rs.map Value.ref ++ veTail := by
  induction l with
  | nil => exact absurd h (by decide)
  | cons x r ih =>
    unfold excMro at h
    by_cases hx : isRefV x = true
    · rw [List.dropWhile_cons, if_pos hx] at h
      obtain ⟨rs, e⟩ := ih h
      cases x <;> first | cases hx | skip
      rename_i a
      exact ⟨a :: rs, by rw [e]; rfl⟩
    · rw [List.dropWhile_cons, if_neg hx] at h
      exact ⟨[], by rw [beq_iff_eq.mp h]; rfl⟩
theorem excMro_has {T : String} (hT : veTail.contains (.type T) = true) {l : List Value} (h : excMro l = true) : l.contains (.type T) = true := by
  obtain ⟨rs, rfl⟩ := excMro_at h
  rw [List.contains_eq_mem]
  simp only [List.contains_eq_mem, decide_eq_true_eq] at hT ⊢
  exact List.mem_append_right _ hT
def xobjIn (K : PySem.W.Frag) (C : Addr) : Bool := match K.lookup C with
  | some ⟨.type "type", _, .cls cd, sl⟩ => (match cd.mro, sl.toList with
    | .ref D :: bm, [_, _, _, _, some (.builtin n), _] => D == C && !cd.hasDel && excMro bm && n == "ValueError.__new__" && cd.hasDict
    | _, _ => false)
  | _ => false
structure XObj (h : Heap) (C : Addr) : Prop where
  ex : ∃ nm q N bs bm sn sub ab col dd k0 k1 k2 k3 k5, h.get? C = some (excClassObj nm q C N bs bm true sn sub ab col dd k0 k1 k2 k3 k5 "ValueError.__new__") /\ excMro bm = true
theorem xobj_of {K : PySem.W.Frag} {C : Addr} (q : xobjIn K C = true) : ∃ nm qn N bs bm sn sub ab col dd k0 k1 k2 k3 k5, K.lookup C = some (excClassObj nm qn C N bs bm true sn sub ab col dd k0 k1 k2 k3 k5 "ValueError.__new__") /\ excMro bm = true := by
  unfold xobjIn at q
  split at q
  · rename_i dd cd sl ho
    split at q
    · rename_i D bm k0 k1 k2 k3 n k5 hm hs
      simp only [Bool.and_eq_true, beq_iff_eq, Bool.not_eq_true'] at q
      obtain ⟨⟨⟨⟨rfl, hdel⟩, hb⟩, rfl⟩, hd⟩ := q
      obtain ⟨nm, bs, mro, ns, qn, hd', sn, sub, ab, col, del⟩ := cd
      dsimp only at hm hdel hd
      subst hm hdel hd
      have hsl : sl = #[k0, k1, k2, k3, some (.builtin "ValueError.__new__"), k5] := by
        obtain ⟨l⟩ := sl
        simp only at hs
        rw [hs]
      subst hsl
      exact ⟨nm, qn, ns, bs, bm, sn, sub, ab, col, dd, k0, k1, k2, k3, k5, ho, hb⟩
    · cases q
  · cases q
structure XCls (K : PySem.W.Frag) (C : Addr) : Prop where
  obj : xobjIn K C = true
  sa : PySem.W.findIn K (.ref C) "__setattr__" = some (some (.builtin "object.__setattr__"))
  ga : PySem.W.findIn K (.ref C) "__getattribute__" = some (some (.builtin "BaseException.__getattribute__"))
  gh : PySem.W.findIn K (.ref C) "__getattr__" = some none
  cl : PySem.W.findIn K (.ref C) "__class__" = some (some (.builtin "object.__class__"))
  clg : PySem.W.specialIn K (.builtin "object.__class__") "__get__" = some (some (.builtin "getset_descriptor.__get__"))
  clt : PySem.W.takesIn K (.builtin "object.__class__") = some true
theorem XCls.at {K : PySem.W.Frag} {C : Addr} {h : Heap} (c : XCls K C) (X : K.In h) : XObj h C := by
  obtain ⟨nm, qn, N, bs, bm, sn, sub, ab, col, dd, k0, k1, k2, k3, k5, ho, hb⟩ := xobj_of c.obj
  exact ⟨nm, qn, N, bs, bm, sn, sub, ab, col, dd, k0, k1, k2, k3, k5, X _ _ ho, hb⟩
open PySem PySem.Spec PyProof.Rows
abbrev excNew (C t : Addr) : Obj := { cls := .ref C, data := .fields #[.ref t, .none, .none, .none, .bool false, .none] }
abbrev tupNew (rest : List Value) : Obj := { cls := .type "tuple", data := .seq rest.toArray }
theorem own_has {C : Addr} {bm : List Value} (hb : excMro bm = true) {T : String} (hT : veTail.contains (.type T) = true) : (Value.ref C :: bm).contains (.type T) = true := by
  rw [List.contains_cons, excMro_has hT hb, Bool.or_true]
theorem own_not {C : Addr} {bm : List Value} (hb : excMro bm = true) {T : String} (hT : veTail.contains (.type T) = false) : (Value.ref C :: bm).contains (.type T) = false := by
  obtain ⟨rs, rfl⟩ := excMro_at hb
  rw [List.contains_cons, List.contains_eq_mem, decide_eq_false, Bool.or_false]
  · rfl
  · intro hm
    rcases List.mem_append.mp hm with h | h
    · obtain ⟨a, _, e⟩ := List.mem_map.mp h
      cases e
    · rw [List.contains_eq_mem] at hT
      exact (of_decide_eq_false hT) h
section
variable {prog : Program} {w : World} {A : Around} {E : Value->Shared->Prop} {h : Heap} {g : Array GenState} {d : Drawn} {t : Nat} {os : OsState} {K : PySem.W.Frag} {C f : Addr}
variable {nm q : Str} {N : Addr} {bs bm : List Value} {sn : List Str} {sub : List Value} {ab : Bool} {col : Option Bool} {dd : Option Addr} {k0 k1 k2 k3 k5 : Option Value}
theorem xcheck_new {M : Model} {rest : List Value} {Q : Unit->Shared->Prop} (hb : excMro bm = true) (hC : h.get? C = some (excClassObj nm q C N bs bm true sn sub ab col dd k0 k1 k2 k3 k5 "ValueError.__new__")) (hq : Q () ⟨h, g, d, t, os⟩) :
    wpAny M A (checkBuiltinCall "ValueError.__new__" ⟨.ref C :: rest, []⟩) Q E ⟨h, g, d, t, os⟩ := by
  have F := PySem.F.excBase_ValueError
  have hcont := own_has (C := C) hb (T := "ValueError") (by decide)
  have hstar := F.noStar
  simp only [checkBuiltinCall, F.newKind, F.newSplit, F.newRow]
  repeat (first
    | refine wpAny_loadPart_at hC ?_
    | (refine wpAny_isSubtype_exc hC ?_; rw [hcont])
    | refine wpAny_staticBase_exc hC ?_
    | refine wpAny_madeBy_exc hC ?_
    | simp only [bne_self_eq_false, Bool.false_eq_true, if_false]
    | wp_step)
  exact hq
theorem xcode_new {R : Result->Shared->Prop} {rest : List Value} (hb : excMro bm = true) (hC : h.get? C = some (excClassObj nm q C N bs bm true sn sub ab col dd k0 k1 k2 k3 k5 "ValueError.__new__")) (hrest : rest.length ≤ sizeLine)
    (hq : R (.ok (.ret (.ref (h.objs.size + 1)))) ⟨(h.push (tupNew rest)).push (excNew C h.objs.size), g, d, t, os⟩) :
    codeAny (model prog w) A (.builtin "ValueError.__new__" ⟨.ref C :: rest, []⟩) R ⟨h, g, d, t, os⟩ := by
  have F := PySem.F.excBase_ValueError
  have hends := F.ends
  have hcB := own_has (C := C) hb (T := "ValueError") (by decide)
  have hcA := own_not (C := C) hb (T := "AttributeError") (by decide)
  have hcN := own_not (C := C) hb (T := "NameError") (by decide)
  refine codeAny_builtinAt F.entry ?_
  unfold Builtin.«BaseException.__new__»
  refine PySem.wpAt_bind ?_
  show PySem.wpAt _ _ _ (stack >>= _) _ _ _
  refine PySem.wpAt_bind (PySem.wpAt_stack fun p below => PySem.wpAt_of_wpAny ?_)
  wp_walk
  refine PySem.wpAt_of_wpAny ?_
  rw [F.owner]
  repeat (first
    | with_reducible refine wpAny_madeHere_exc F.canon hC ?_
    | with_reducible refine wpAny_loadPart_at hC ?_
    | (with_reducible refine wpAny_isSubtype_exc hC ?_; first | rw [hcB] | rw [hcA] | rw [hcN])
    | wp_step)
  show R _ _
  rw [Heap.size_push]
  exact hq
theorem xkeeps {rest : List Value} : ∀ b o, h.get? b = some o->((h.push (tupNew rest)).push (excNew C h.objs.size)).get? b = some o := fun b o e => Heap.get?_push_of_some _ (Heap.get?_push_of_some _ e)
theorem xnew_at {rest : List Value} : ((h.push (tupNew rest)).push (excNew C h.objs.size)).get? (h.objs.size + 1) = some (excNew C h.objs.size) := by
  have := Heap.get?_push_size (h.push (tupNew rest)) (o := excNew C h.objs.size) rfl
  rwa [Heap.size_push] at this
end
open PySem PySem.Spec PyProof.Rows
def IsExc (raw : Bool) (e C : Addr) (od : Option Addr) (h : Heap) : Prop := ∃ vs sl, h.get? e = some ⟨.ref C, od, .fields vs, sl⟩ /\ vs.size = 6 /\ (raw = true->vs[1]? = some .none)
def IsXd (dx : Addr) (fs : List (Str × V)) (h : Heap) : Prop := ∃ mA, h.Ns1 dx mA /\ (∀ f, RelO (fs.lookup f) (mA f)) /\ PySem.Within mA (fs.map (·.1))
abbrev exO (raw : Bool) (e C : Addr) (od : Option Addr) : HO := .ext (IsExc raw e C od)
abbrev xdO (dx : Addr) (fs : List (Str × V)) : HO := .ext (IsXd dx fs)
def ExcAt (H : Hp) (e C : Addr) (fs : List (Str × V)) : Prop := ∃ raw od, H e = some (exO raw e C od) /\ match od with
  | none => fs = []
  | some dx => H dx = some (xdO dx fs) /\ dx ≠ e
section
variable {P : Program} {w : World} {H : Hp} {h : Heap} {e C dx : Addr} {od : Option Addr} {raw : Bool} {fs : List (Str × V)}
theorem objOk_exc (x : IsExc raw e C od h) : ObjOk P w H h e (exO raw e C od) := by
  refine ⟨x, ?_, ?_⟩
  · obtain ⟨vs, sl, q, _⟩ := x
    exact ⟨_, q⟩
  · rintro h1 h2 ⟨vs, sl, q, r⟩ k
    exact ⟨vs, sl, k _ q, r⟩
theorem exc_of (x : HOk P w H h) (q : H e = some (exO raw e C od)) : IsExc raw e C od h := (x e _ q).1
end
open PySem PySem.Spec PyProof.Rows
def Fly (h : Heap) (e T : Addr) (fl : Value) : Prop := ∃ oe vs oT ts, h.get? e = some oe /\ oe.data = .fields vs /\ vs[1]? = some (.ref T) /\ h.get? T = some oT /\ oT.data = .fields ts /\ ts[3]? = some fl /\ T ≠ e
structure Noted (fs ch : List Addr) (e T : Addr) (fl : Value) (h h' : Heap) : Prop where
  keep : ∀ b o, b ∉ fs->b ∉ ch->b ≠ e->h.get? b = some o->h'.get? b = some o
  slot : ∀ b o, b ∈ fs->b ∉ ch->b ≠ e->h.get? b = some o->∃ sl, h'.get? b = some { o with slots := sl }
  new : h.objs.size ≤ T
  exc : ∀ oe vs, h.get? e = some oe->oe.data = .fields vs->h'.get? e = some (oe.mapFields (·.setIfInBounds 1 (.ref T)))
  fly : Fly h' e T fl
section
variable {M : Model} {A : Around} {E : Value->Shared->Prop} {s : Shared} {base : Heap} {env : Env} {outer : List Env} {L e : Addr} {oe : Obj} {vs : Array Value} {Q : Unit->Shared->Prop}
theorem entry_ok {head : Value} {b : Bool} (hfr : A.frames = some (env :: outer)) (hl : s.heap.FunFrames base (env :: outer)) (hf : env.frame = some L) (he : s.heap.get? e = some oe) (hd : oe.data = .fields vs) (hsz : 1 < vs.size)
    (h : ∀ h' T, Noted (frs (env :: outer)) [] e T (rawInt L) s.heap h'->Q () { s with heap := h' }) :
    wpAny M A (do let a ← frameOf env; let pl ← entryPlaceOf L b; let x ← EntryCells.newEntry head a .none (rawInt L) .none pl; setField (.ref e) 1 x) Q E s := by
  have hene : e ∉ frs (env :: outer) := fun hm => by
    obtain ⟨_, o, ho, hnf⟩ := hl.mem hm
    rw [he] at ho
    cases ho
    exact hnf vs hd
  refine wpAny_bind (wpAny_frameOf_fun hfr hl hf fun h1 hs => ?_)
  refine wpAny_bind (wpAny_entryPlaceOf fun pl hpl => ?_)
  unfold EntryCells.newEntry newFields
  refine wpAny_bind (wpAny_newObj_type ?_ (hpl.sizeOk5 _ _ _ _ _))
  have he1 : h1.get? e = some oe := (hs.2.1 e hene).trans he
  generalize hT : ({ cls := .type "traceback", dict := none, data := .fields ([head, .ref L, .none, rawInt L, .none] ++ (if pl.isEmpty then List.replicate 6 Value.none else pl)).toArray } : Obj) = oT
  have he2 := Heap.get?_push_of_some (h := h1) oT he1
  refine wpAny_setField he2 hd hsz (h _ h1.objs.size ?_)
  have hTe : h1.objs.size ≠ e := Nat.ne_of_gt (Heap.lt_size he1)
  have hd3 := Obj.data_mapFields hd (·.setIfInBounds 1 (Value.ref h1.objs.size))
  have he3 := Heap.get?_update_self (Obj.mapFields (·.setIfInBounds 1 (Value.ref h1.objs.size))) he2 (Obj.isFreed_of_fields hd3)
  have hT3 : ((h1.push oT).update e (Obj.mapFields (·.setIfInBounds 1 (Value.ref h1.objs.size)))).get? h1.objs.size = some oT :=
    (Heap.get?_update_other _ _ (Ne.symm hTe)).trans (Heap.get?_push_size h1 (by rw [← hT]; rfl))
  have keep : ∀ b o, b ≠ e->h1.get? b = some o->((h1.push oT).update e (Obj.mapFields (·.setIfInBounds 1 (Value.ref h1.objs.size)))).get? b = some o := fun b o hb q => by
    rw [Heap.get?_update_other _ _ (Ne.symm hb)]
    exact Heap.get?_push_of_some _ q
  refine ⟨fun b o hb _ hbe q => keep b o hbe ((hs.2.1 b hb).trans q), fun b o hb _ hbe q => ?_, ?_, fun oe' vs' q' d' => ?_, ?_⟩
  · obtain ⟨sl, z⟩ := hs.2.2 b o q
    exact ⟨sl, keep b _ hbe z⟩
  · rw [hs.1]; exact Nat.le_refl _
  · rw [he] at q'; cases q'; exact he3
  · refine ⟨_, _, oT, _, he3, hd3, by simp [hsz], hT3, by rw [← hT], ?_, hTe⟩
    simp
theorem note_new (hfr : A.frames = some (env :: outer)) (hl : s.heap.FunFrames base (env :: outer)) (hf : env.frame = some L) (he : s.heap.get? e = some oe) (hd : oe.data = .fields vs) (h1 : vs[1]? = some .none)
    (h : ∀ h' T, Noted (frs (env :: outer)) [] e T (rawInt L) s.heap h'->Q () { s with heap := h' }) : wpAny M A (noteFrame (.ref e) env) Q E s := by
  unfold noteFrame
  simp only [hf]
  refine wpAny_bind (wpAny_field he hd h1 ?_)
  rw [if_neg (by decide)]
  exact entry_ok hfr hl hf he hd (Array.getElem?_eq_some_iff.mp h1).1 h
theorem note_next {T : Addr} (hfr : A.frames = some (env :: outer)) (hl : s.heap.FunFrames base (env :: outer)) (hf : env.frame = some L) (hF : Fly s.heap e T .none)
    (h : ∀ h' T', Noted (frs (env :: outer)) [T] e T' (rawInt L) s.heap h'->Q () { s with heap := h' }) : wpAny M A (noteFrame (.ref e) env) Q E s := by
  obtain ⟨oe, vs, oT, ts, he, hd, h1, hT, hdT, h3, hTe⟩ := hF
  unfold noteFrame
  simp only [hf]
  refine wpAny_bind (wpAny_field he hd h1 ?_)
  rw [if_pos (show (Value.ref T != Value.none) = true from by simp)]
  refine wpAny_bind (wpAny_field hT hdT h3 ?_)
  rw [if_neg (show ¬ ((Value.none == rawInt L) = true) from by simp [rawInt])]
  refine wpAny_bind (wpAny_setField hT hdT (Array.getElem?_eq_some_iff.mp h3).1 ?_)
  have other : ∀ b, b ≠ T->(s.heap.update T (Obj.mapFields (·.setIfInBounds 3 Value.none))).get? b = s.heap.get? b := fun b hb => Heap.get?_update_other _ _ (Ne.symm hb)
  have nrec : ∀ b o, s.heap.get? b = some o->(∀ vs, o.data ≠ .fields vs)->b ≠ T := fun b o hb hnf q => by
    rw [q, hT] at hb
    cases hb
    exact hnf ts hdT
  have sz : (s.heap.update T (Obj.mapFields (·.setIfInBounds 3 Value.none))).objs.size = s.heap.objs.size := Heap.size_after_update _ _ _
  refine entry_ok hfr (hl.of_keeps fun b o hb hnf => ⟨o, (other b (nrec b o hb hnf)).trans hb, rfl⟩) hf ((other e (Ne.symm hTe)).trans he) hd (Array.getElem?_eq_some_iff.mp h1).1 fun h' T' N => h h' T' ?_
  dsimp only at N
  refine ⟨fun b o hb hc hbe q => N.keep b o hb (by simp) hbe ((other b (by simpa using hc)).trans q), fun b o hb hc hbe q => N.slot b o hb (by simp) hbe ((other b (by simpa using hc)).trans q), ?_, fun oe' vs' q d => N.exc oe' vs' ((other e (Ne.symm hTe)).trans q) d, N.fly⟩
  rw [← sz]; exact N.new
theorem flight_none {T : Addr} {fl : Value} (hF : Fly s.heap e T fl) (h : ∀ h', (∀ b o, b ≠ T->s.heap.get? b = some o->h'.get? b = some o)->h'.objs.size = s.heap.objs.size->Fly h' e T .none->Q () { s with heap := h' }) : wpAny M A (setFlight (.ref e) none) Q E s := by
  obtain ⟨oe, vs, oT, ts, he, hd, h1, hT, hdT, h3, hTe⟩ := hF
  have hsz : 3 < ts.size := (Array.getElem?_eq_some_iff.mp h3).1
  have other : ∀ b, b ≠ T->(s.heap.update T (Obj.mapFields (·.setIfInBounds 3 ((none : Option Addr).elim Value.none fun f => rawInt f)))).get? b = s.heap.get? b := fun b hb => Heap.get?_update_other _ _ (Ne.symm hb)
  unfold setFlight
  refine wpAny_bind (wpAny_field he hd h1 ?_)
  rw [if_pos (show (Value.ref T != Value.none) = true from by simp)]
  refine wpAny_setField hT hdT hsz (h _ (fun b o hb q => (other b hb).trans q) (Heap.size_after_update _ _ _) ?_)
  exact ⟨oe, vs, _, _, (other e (Ne.symm hTe)).trans he, hd, h1, Heap.get?_update_self _ hT (Obj.isFreed_of_fields (Obj.data_mapFields hdT _)), Obj.data_mapFields hdT _, by simp [hsz], hTe⟩
theorem Noted.landed {fs ch : List Addr} {T : Addr} {fl : Value} {h h1 h2 : Heap} (N : Noted fs ch e T fl h h1) (k : ∀ b o, b ≠ T->h1.get? b = some o->h2.get? b = some o) (F : Fly h2 e T .none) : Noted fs ch e T .none h h2 := by
  have nT : ∀ b o, h.get? b = some o->b ≠ T := fun b o q => Nat.ne_of_lt (Nat.lt_of_lt_of_le (Heap.lt_size q) N.new)
  refine ⟨fun b o hb hc hbe q => k b o (nT b o q) (N.keep b o hb hc hbe q), fun b o hb hc hbe q => ?_, N.new, fun oe vs q d => k e _ (nT e oe q) (N.exc oe vs q d), F⟩
  obtain ⟨sl, z⟩ := N.slot b o hb hc hbe q
  exact ⟨sl, k b _ (nT b o q) z⟩
theorem leave_new (hfr : A.frames = some (env :: outer)) (hl : s.heap.FunFrames base (env :: outer)) (hf : env.frame = some L) (he : s.heap.get? e = some oe) (hd : oe.data = .fields vs) (h1 : vs[1]? = some .none)
    (h : ∀ h' T, Noted (frs (env :: outer)) [] e T .none s.heap h'->Q () { s with heap := h' }) : wpAny M A (leaving env (.ref e)) Q E s := by
  unfold leaving
  exact wpAny_bind (note_new hfr hl hf he hd h1 fun h' T N => flight_none (s := { s with heap := h' }) N.fly fun h2 k _ F => h h2 T (N.landed k F))
theorem leave_next {T : Addr} (hfr : A.frames = some (env :: outer)) (hl : s.heap.FunFrames base (env :: outer)) (hf : env.frame = some L) (hF : Fly s.heap e T .none)
    (h : ∀ h' T', Noted (frs (env :: outer)) [T] e T' .none s.heap h'->Q () { s with heap := h' }) : wpAny M A (leaving env (.ref e)) Q E s := by
  unfold leaving
  exact wpAny_bind (note_next hfr hl hf hF fun h' T' N => flight_none (s := { s with heap := h' }) N.fly fun h2 k _ F => h h2 T' (N.landed k F))
end
open PySem PySem.Spec PyProof.Rows
section
variable {X : Cx} {pins : List (Addr × Obj)} {σ : St} {H : Hp} {s : Shared} {e C T : Addr} {od : Option Addr} {raw : Bool} {fl : Value} {h' : Heap} {ch : List Addr}
theorem upd_id {o : HO} (q : H e = some o) : upd H e o = H := by
  funext b
  unfold upd
  split
  · rename_i z; rw [z]; exact q.symm
  · rfl
theorem Inv.noted (I : Inv X pins σ H s) (q : H e = some (exO raw e C od)) (N : Noted (frs X.stack) ch e T fl s.heap h') (hc : ∀ b ∈ ch, FpOk X pins H b) :
    Inv X pins σ (upd H e (exO false e C od)) { s with heap := h' } := by
  obtain ⟨vs, sl, g, hz, _⟩ := exc_of I.hok q
  have ne : ∀ b, H b = none->b ≠ e := fun b n z => by rw [z, q] at n; cases n
  have tfs : ∀ b o, H b = some o->b ∉ frs X.stack := fun b o z hm => by rw [I.stkFree b hm] at z; cases z
  have tch : ∀ b o, H b = some o->b ∉ ch := fun b o z hm => by rw [(hc b hm).1] at z; cases z
  have hE : IsExc false e C od h' := by
    have := N.exc _ vs g rfl
    refine ⟨vs.setIfInBounds 1 (.ref T), sl, this, by simpa using hz, fun z => by cases z⟩
  refine I.call' (s' := { s with heap := h' }) (ch := ch) rfl ⟨fun b o e' n hf hx => N.keep b o hf hx (ne b n) e', fun b o e' n hf hx => N.slot b o hf hx (ne b n) e', fun b o e' n hx => ?_, fun b o e' hx => ?_, fun b xs e' => ?_, fun b o u e' => ?_, fun b ps e' => ⟨#[], ?_⟩⟩ (fun b o e' => ?_) I.bare fun b hb => ⟨(hc b hb).2.2.2.1, (hc b hb).2.1, (hc b hb).2.2.2.2.1, (hc b hb).2.2.2.2.2⟩
  · rw [upd_ne (ne b n)]; exact n
  · by_cases z : b = e
    · subst z; obtain ⟨vs', sl', g', _⟩ := hE; exact ⟨_, g'⟩
    · by_cases hf : b ∈ frs X.stack
      · obtain ⟨sl', g'⟩ := N.slot b o hf hx z e'; exact ⟨_, g'⟩
      · exact ⟨o, N.keep b o hf hx z e'⟩
  · rw [upd_ne (fun z => by rw [z, q] at e'; cases e')]; exact e'
  · rw [upd_ne (fun z => by rw [z, q] at e'; cases e')]; exact e'
  · rw [upd_ne (fun z => by rw [z, q] at e'; cases e'), e']; simp
  · by_cases z : b = e
    · subst z; rw [upd_same] at e'; cases e'; exact objOk_exc hE
    · rw [upd_ne z] at e'
      refine (I.hok b o e').stay (fun c v hcv g' => ?_) (fun c g' => ?_) fun c xs g' => ?_
      · have hcH : ∃ u, H c = some u := by
          rcases hcv with z | z
          · exact ⟨o, by rw [z]; exact e'⟩
          · exact ⟨_, z⟩
        obtain ⟨u, hu⟩ := hcH
        have hce : c ≠ e := by
          rcases hcv with z' | z'
          · rw [z']; exact z
          · intro z2; rw [z2, q] at z'; cases z'
        exact N.keep c v (tfs c u hu) (tch c u hu) hce g'
      · rw [upd_ne (fun z2 => by rw [z2, q] at g'; cases g')]; exact g'
      · rw [upd_ne (fun z2 => by rw [z2, q] at g'; cases g')]; exact g'
end
def CXx (P : Program) (w : World) : CXT := fun outer H s E v s' => ∃ e C od T H', v = .ref e /\ s'.os = s.os /\ AllBare s'.gens /\ Un (frs outer) [] H H' s.heap s'.heap /\ HOk P w H' s'.heap ∧
  H' e = some (exO false e C od) /\ s.heap.objs.size ≤ T /\ H' T = none /\ Fly s'.heap e T .none /\ E (.ref C) (some e) H'
abbrev XS := St->XK
def PassesS (X : Cx) (E : XS) : Prop := ∀ (pins : List (Addr × Obj)) (σ : St) (H : Hp) (s : Shared) (v : Value) (s' : Shared), Inv X pins σ H s->CXx X.prog X.w X.stack H s (E σ) v s'->X.xe v s'
def RaisesS (X : Cx) (E : XS) : Prop := ∀ (pins : List (Addr × Obj)) (σ : St) (H : Hp) (s : Shared) (e C : Addr) (od : Option Addr), Inv X pins σ H s->H e = some (exO true e C od)->E σ (.ref C) (some e) (upd H e (exO false e C od))->X.xe (.ref e) s
theorem passesN {X : Cx} : PassesS X (fun _ => E0) := fun _ _ _ _ _ _ _ ⟨_, _, _, _, _, _, _, _, _, _, _, _, _, _, h⟩ => h.elim
section
variable {P : Program} {w : World} {K : PySem.W.Frag} {mg : Str->Option Value} {base : Heap} {N : List Str} {qual : Str} {scope : Scope} {f : Addr} {cd : Value} {A : Around} {outer : List Env} {s₀ : Shared} {H₀ : Hp} {E : XK}
theorem passesB : PassesS (cxOf (CXx P w) P w K mg base N qual scope f cd A outer s₀ H₀ E) (fun _ => E) := by
  rintro pins σ H s v s' I ⟨e, C, od, T, H', rfl, os, bare, un, hok, he, hT, nT, fly, hE⟩
  have I' := I.call' (ch := []) os un hok bare (fun b z => absurd z (by simp))
  have hTn : FpOk (cxOf (CXx P w) P w K mg base N qual scope f cd A outer s₀ H₀ E) pins H' T := I.fpOk hT nT
  show wpAny _ _ (leaving _ (.ref e)) _ _ _
  refine leave_next I.ok.frames I'.stack rfl fly fun h2 T2 Nd => ?_
  have J := I'.noted (ch := [T]) he Nd (fun b hb => by have := List.mem_singleton.mp hb; subst this; exact hTn)
  rw [upd_id he] at J
  exact ⟨e, C, od, T2, H', rfl, J.os, J.bare, J.base, J.hok, he, Nat.le_trans I'.sz Nd.new, I'.hok.fresh Nd.new, Nd.fly, hE⟩
theorem raisesB : RaisesS (cxOf (CXx P w) P w K mg base N qual scope f cd A outer s₀ H₀ E) (fun _ => E) := by
  rintro pins σ H s e C od I he hE
  obtain ⟨vs, sl, g, hz, hr⟩ := exc_of I.hok he
  show wpAny _ _ (leaving _ (.ref e)) _ _ _
  refine leave_new I.ok.frames I.stack rfl g rfl (hr rfl) fun h2 T2 Nd => ?_
  have J := I.noted (ch := []) he Nd (fun b hb => by cases hb)
  exact ⟨e, C, od, T2, _, rfl, J.os, J.bare, J.base, J.hok, upd_same, Nat.le_trans I.sz Nd.new, by rw [upd_ne (fun z => by rw [← z] at g; exact absurd (Heap.lt_size g) (Nat.not_lt.mpr Nd.new))]; exact I.hok.fresh Nd.new, Nd.fly, hE⟩
theorem Fun.okX {x qual : Str} {st : Stmt} {f : Addr} {fd : FuncData} {N ps : List Str} {k : Nat} {sp : Sp} (F : Fun K x qual st f fd) (S : FnScope N ps (defScope st)) (len : ∀ vs H Q E, sp vs H Q E->vs.length = ps.length)
    (hbody : ∀ (cdv : Value) (A : Around) (outer : List Env) (s : Shared) (H : Hp) (vs : List V) (Q : VK) (E : XK), Room k (A.deeper (envOfC qual (defScope st) s.heap.objs.size f cdv))->sp vs H Q E →
      ∃ t, PSs (cxOf (CXx P w) P w K mg base N qual (defScope st) f cdv A outer s H E) (defBody st) t /\ t { nx := fun _ H' => Q .non H', rt := Q } (start N vs) H) : FnOk P w K mg base (CXx P w) (k + 1) f fd ps sp := by
  obtain ⟨oc, od, kV, doc, pm, an, cdv, ct, osl, rfl, lk, hcd⟩ := F.ex
  exact fn_of lk hcd S len fun A outer s H vs Q E hr hsp => hbody cdv A outer s H vs Q E hr hsp
end
open PySem PySem.Spec PyProof.Rows
section
variable (P : Program) (w : World) (K : PySem.W.Frag) (mg : Str->Option Value) (base : Heap)
structure DefX (x : Str) (k : Nat) (ps : List Str) (sp : Sp) : Prop where
  ex : ∃ (f : Addr) (fd : FuncData), mg x = some (.ref f) /\ FnOk P w K mg base (CXx P w) k f fd ps sp /\ PySem.W.keepIn K (.ref f) = true /\ Binds K fd ps []
structure MethX (C : Addr) (m : Str) (k : Nat) (ps : List Str) (sp : Sp) : Prop where
  ex : ∃ (f : Addr) (fd : FuncData), Meth K C m f /\ FnOk P w K mg base (CXx P w) k f fd ps sp /\ Binds K fd ps []
structure MakeX (x : Str) (C : Addr) (k : Nat) (ps : List Str) (sp : Sp) : Prop where
  ex : ∃ (f : Addr) (fd : FuncData), mg x = some (.ref C) /\ Mk K C f /\ FnOk P w K mg base (CXx P w) k f fd ps sp /\ Binds K fd ps []
structure XMk (K : PySem.W.Frag) (C f : Addr) : Prop where
  cls : XCls K C
  init : PySem.W.findIn K (.ref C) "__init__" = some (some (.ref f))
  fn : PySem.W.isFn K (.ref f) = true
  kp : PySem.W.keepIn K (.ref C) = true
structure ExcX (x : Str) (C : Addr) (k : Nat) (ps : List Str) (sp : Sp) : Prop where
  ex : ∃ (f : Addr) (fd : FuncData), mg x = some (.ref C) /\ XMk K C f /\ FnOk P w K mg base (CXx P w) k f fd ps sp /\ Binds K fd ps []
end
def tCallS (sp : Sp) (E : XS) (t : TA) : TE := fun σ H Q => t σ H fun vs H1 => sp vs H1 Q (E σ)
def tMethS (C : Addr) (m : Str) (sp : Sp) (E : XS) (ta : TE) (t : TA) : TE := fun σ H Q => ta σ H fun x H1 => ∃ a dx fs, x = .ref a /\ H1 a = some (.ins C dx fs) /\ fs.lookup m = none /\ t σ H1 fun vs H2 => sp (x :: vs) H2 Q (E σ)
def tMakeS (C : Addr) (sp : Sp) (E : XS) (t : TA) : TE := fun σ H Q => t σ H fun vs H1 => ∀ x dx, H1 x = none->H1 dx = none->dx ≠ x →
  sp (.ref x :: vs) (upd (upd H1 dx (.own x)) x (.ins C dx [])) (fun v H2 => v = .non /\ Q (.ref x) H2) (E σ)
section
variable {X : Cx} {k : Nat} {f C : Addr} {fd : FuncData} {ps : List Str} {sp : Sp} {E : XS} {x m : Str} {p pos apos : Pos} {e o : Expr} {es : List Expr} {ta : TE} {t : TA}
theorem run_fnS {pins : List (Addr × Obj)} {σ : St} {H : Hp} {s : Shared} {Q : VK} {us : List Value} {vs : List V} (F : FnOk X.prog X.w X.K X.mg X.base (CXx X.prog X.w) k f fd ps sp) (hr : Room k X.A) (hb : Binds X.K fd ps []) (hx : PassesS X E)
    (I : Inv X pins σ H s) (r : Vals vs us) (h : sp vs H Q (E σ)) : wpAny (model X.prog X.w) X.A (call (.ref f) us) (EP X pins σ Q) X.xe s := by
  have hl : us.length = ps.length := by rw [← r.length]; exact F.len _ _ _ _ h
  have hb' := hb s us I.kIn (by rw [List.append_nil]; exact hl)
  rw [List.append_nil] at hb'
  refine wpAny_call (codeAny_mono (F.run X.A X.stack s H ⟨us, []⟩ us vs Q (E σ) hr I.env0 hb' r h) fun r s' hq => ?_)
  cases r with
  | error e => exact hx pins σ H s e s' I hq
  | ok fl =>
    cases fl with
    | ret u => exact I.after hq
    | next => exact False.elim hq
    | brk => exact False.elim hq
    | cont => exact False.elim hq
theorem pe_callS (D : DefX X.prog X.w X.K X.mg X.base x k ps sp) (hx : PassesS X E) (hr : Room k X.A) (hg : Gl X x) (ha : PA X (e :: es) t)
    (hdb : (x == ("__debug__" : Str)) = false := by decide) (he : starEach (e :: es) X.env = (false, eval e X.env) :: starEach es X.env := by rfl) (hpl : (backTo pos (starEach es X.env)).any (·.1) = false := by rfl) :
    PE X (.Call (.Name x p) (e :: es) [] pos) (tCallS sp E t) := by
  obtain ⟨f, fd, m, F, kp, b⟩ := D.ex
  intro pins s σ H Q I h
  refine wpAny_Call_Name_kw (ld_glob I hg m ?_ hdb)
  refine PySem.W.callWith_K (h₀ := X.base) I.ok.mod.kin kp (thn (ha pos pins s σ H _ I h) fun us s1 ⟨vs, H1, I1, r, q⟩ => ⟨I1.kIn, ?_⟩) he hpl
  exact run_fnS F hr b hx I1 r q
theorem pe_methS {pl : Sem Bool} (he : PE X o ta) (c : Cls X.K C) (D : MethX X.prog X.w X.K X.mg X.base C m k ps sp) (hx : PassesS X E) (hr : Room k X.A) (ha : PA X (e :: es) t)
    (hst : starEach (e :: es) X.env = (false, eval e X.env) :: starEach es X.env := by rfl) (hpl : (backTo pos (starEach es X.env)).any (·.1) = false := by rfl)
    (ht : eval (.Call (.Attribute o m apos) (e :: es) [] pos) X.env = (do
      let ov ← eval o X.env
      standAt apos.atName
      let (f, first) ← holding [ov] (getMethod ov m pl)
      callWith pos f first (backTo pos (starEach (e :: es) X.env)) (backToKw pos (keywordEach [] X.env))) := by rfl) :
    PE X (.Call (.Attribute o m apos) (e :: es) [] pos) (tMethS C m sp E ta t) := by
  obtain ⟨f, fd, hm, F, b⟩ := D.ex
  intro pins s σ H Q I h
  refine PySem.W.methodCall_KW (pl := pl) (thn (he pins s σ H _ I h) fun u s1 ⟨x, H1, I1, rx, a, dx, fs, ex, ea, l, q⟩ => ?_) ht
  subst ex
  obtain rfl : u = Value.ref a := rx
  refine getmeth_ok I1 ea c hm l ?_
  refine PySem.W.callWith_K (first := [.ref a]) (h₀ := X.base) I.ok.mod.kin hm.kp (thn (ha pos pins s1 σ H1 _ I1 q) fun us s2 ⟨vs, H2, I2, r, q2⟩ => ⟨I2.kIn, ?_⟩) hst hpl
  exact run_fnS (us := .ref a :: us) (vs := .ref a :: vs) F hr b hx I2 (.cons rfl r) q2
theorem pe_methS0 {pl : Sem Bool} (he : PE X o ta) (c : Cls X.K C) (D : MethX X.prog X.w X.K X.mg X.base C m k ps sp) (hx : PassesS X E) (hr : Room k X.A)
    (ht : eval (.Call (.Attribute o m apos) [] [] pos) X.env = (do
      let ov ← eval o X.env
      standAt apos.atName
      let (f, first) ← holding [ov] (getMethod ov m pl)
      callWith pos f first (backTo pos (starEach [] X.env)) (backToKw pos (keywordEach [] X.env))) := by rfl) :
    PE X (.Call (.Attribute o m apos) [] [] pos) (tMethS C m sp E ta tNil) := by
  obtain ⟨f, fd, hm, F, b⟩ := D.ex
  intro pins s σ H Q I h
  refine PySem.W.methodCall_KW (pl := pl) (thn (he pins s σ H _ I h) fun u s1 ⟨x, H1, I1, rx, a, dx, fs, ex, ea, l, q⟩ => ?_) ht
  subst ex
  obtain rfl : u = Value.ref a := rx
  refine getmeth_ok I1 ea c hm l ?_
  exact PySem.W.callWith_K0 (first := [.ref a]) I1.kIn hm.kp (run_fnS (us := [.ref a]) (vs := [.ref a]) F hr b hx I1 (.cons rfl .nil) q)
theorem run_makeS {pins : List (Addr × Obj)} {σ : St} {H : Hp} {s : Shared} {Q : VK} {us : List Value} {vs : List V} (M : Mk X.K C f) (F : FnOk X.prog X.w X.K X.mg X.base (CXx X.prog X.w) k f fd ps sp) (hr : Room (k + 1) X.A) (hb : Binds X.K fd ps [])
    (hx : PassesS X E) (I : Inv X pins σ H s) (r : Vals vs us)
    (h : ∀ x dx, H x = none->H dx = none->dx ≠ x->sp (.ref x :: vs) (upd (upd H dx (.own x)) x (.ins C dx [])) (fun v H2 => v = .non /\ Q (.ref x) H2) (E σ)) :
    wpAny (model X.prog X.w) X.A (call (.ref C) us) (EP X pins σ Q) X.xe s := by
  have hq := h (s.heap.objs.size + 1) s.heap.objs.size (I.hok.fresh (Nat.le_succ _)) (I.hok.fresh (Nat.le_refl _)) (Nat.ne_of_lt (Nat.lt_succ_self _))
  have I2 := Inv.made (C := C) I
  have r2 : Vals (V.ref (s.heap.objs.size + 1) :: vs) (Value.ref (s.heap.objs.size + 1) :: us) := .cons rfl r
  have hl : (Value.ref (s.heap.objs.size + 1) :: us).length = ps.length := by
    have e := r2.length
    rw [F.len _ _ _ _ hq] at e
    exact e.symm
  have hb' := hb _ (Value.ref (s.heap.objs.size + 1) :: us) I2.kIn (by rw [List.append_nil]; exact hl)
  rw [List.append_nil] at hb'
  refine wpAny_call (make_map (f := f) I.kIn M.makes M.init (beq_iff_eq.mp M.fn) (codeAny_mono (F.run _ X.stack _ _ ⟨Value.ref (s.heap.objs.size + 1) :: us, []⟩ (Value.ref (s.heap.objs.size + 1) :: us) _ _ (E σ) (hr.make C us [])
    (I2.env0.make C us []) hb' r2 hq) fun r s' hq' => ?_))
  cases r with
  | error e => exact hx pins σ _ _ e s' I2 hq'
  | ok fl =>
    cases fl with
    | ret u =>
      obtain ⟨v, H', I3, rv, ev, q3⟩ := I2.after hq'
      subst ev
      exact ⟨rv, ⟨V.ref (s.heap.objs.size + 1), H', I3, rfl, q3⟩⟩
    | next => exact False.elim hq'
    | brk => exact False.elim hq'
    | cont => exact False.elim hq'
theorem pe_makeS0 (D : MakeX X.prog X.w X.K X.mg X.base x C k ps sp) (hx : PassesS X E) (hr : Room (k + 1) X.A) (hg : Gl X x) (hdb : (x == ("__debug__" : Str)) = false := by decide) : PE X (.Call (.Name x p) [] [] pos) (tMakeS C sp E tNil) := by
  obtain ⟨f, fd, m, M, F, b⟩ := D.ex
  intro pins s σ H Q I h
  refine wpAny_Call_Name_kw (ld_glob I hg m ?_ hdb)
  exact PySem.W.callWith_K0 I.kIn M.kp (run_makeS (us := []) M F hr b hx I .nil h)
end
def sRaise (K : PySem.W.Frag) (te : TE) (E : XS) : TS := fun _ σ H => te σ H fun v H1 => ∃ e C od, v = .ref e /\ H1 e = some (exO true e C od) /\ XCls K C /\ E σ (.ref C) (some e) (upd H1 e (exO false e C od))
section
variable {X : Cx} {x : Expr} {te : TE} {E : XS} {pos : Pos}
theorem raise_ok {M : Model} {A : Around} {E : Value->Shared->Prop} {env : Env} {s : Shared} {x : Sem Value} {Q : Flow->Shared->Prop} (hh : A.handled = none)
    (h : wpAny M A x (fun v s₁ => ∃ e vs sl C od, v = .ref e /\ s₁.heap.get? e = some ⟨.ref C, od, .fields vs, sl⟩ /\ vs[1]? = some .none /\ XObj s₁.heap C /\ E (.ref e) s₁) E s) :
    wpAny M A (raiseStmt env (some x) none) Q E s := by
  unfold raiseStmt
  refine wpAny_bind (wpAny_mono h (fun v s₁ h₁ => ?_) fun _ _ x => x)
  obtain ⟨e, vs, sl, C, od, rfl, he, h1, hC, hE⟩ := h₁
  obtain ⟨nm, qn, N, bs, bm, sn, sub, ab, col, dd, k0, k1, k2, k3, k5, hC, hb⟩ := hC.ex
  have hcB := own_has (C := C) hb (T := "BaseException") (by decide)
  obtain ⟨hp, g, d, tk, os⟩ := s₁
  repeat (first
    | with_reducible refine wpAny_loadPart_at he ?_
    | with_reducible refine wpAny_loadPart_at hC ?_
    | (with_reducible refine wpAny_isSubtype_exc hC ?_; rw [hcB])
    | with_reducible refine wpAny_field he rfl h1 ?_
    | wp_step)
  exact wpAny_raiseNew_none hh hE
theorem ps_raise (hc : X.calm = true) (hx : RaisesS X E) (he : PE X x te) : PS X (.Raise (some x) none pos) (sRaise X.K te E) := by
  intro pins s σ H D I h
  rw [arm_exec_Raise]
  have hh := I.ok.hd hc
  have key : wpAny (model X.prog X.w) X.A (eval x X.env) (fun v s₁ => ∃ e vs sl C od, v = .ref e /\ s₁.heap.get? e = some ⟨.ref C, od, .fields vs, sl⟩ /\ vs[1]? = some .none /\ XObj s₁.heap C /\ X.xe (.ref e) s₁) X.xe s := by
    refine thn (he pins s σ H _ I h) fun u s1 ⟨v, H1, I1, rv, e, C, od, ev, eo, hcl, hE⟩ => ?_
    subst ev
    cases (show u = Value.ref e from rv)
    obtain ⟨vs, sl, g, hz, hr⟩ := exc_of I1.hok eo
    exact ⟨e, vs, sl, C, od, rfl, g, hr rfl, hcl.at I1.kIn, hx pins σ H1 s1 e C od I1 eo hE⟩
  exact wpAny_bind (wpAny_standAt (raise_ok hh (wpAny_bind (wpAny_mono key (fun v s₁ h₁ => wpAny_bind (wpAny_standAt (wpAny_pure h₁))) fun _ _ x => x))))
end
open PySem PySem.Spec PyProof.Rows
abbrev TH := Addr->Addr->TS
open PySem PySem.Spec PyProof.Rows
theorem cxx_no {P : Program} {w : World} {o : List Env} {H : Hp} {s s' : Shared} {e : Value} (h : CXx P w o H s (fun _ _ _ => False) e s') : False := by
  obtain ⟨_, _, _, _, _, _, _, _, _, _, _, _, _, _, z⟩ := h
  exact z
open PySem
theorem look_ne {f g : Str} {x : V} {r : List (Str × V)} (h : ¬ f = g) : List.lookup f ((g, x) :: r) = List.lookup f r := by
  rw [List.lookup_cons]
  have : (f == g) = false := by simpa using h
  rw [this]
theorem look_eq {f : Str} {x : V} {r : List (Str × V)} : List.lookup f ((f, x) :: r) = some x := by
  rw [List.lookup_cons]; simp
def Keep (F : List Addr) (H H' : Hp) : Prop := ∀ b o, H b = some o->b ∉ F->H' b = some o
theorem Keep.of_same {F : List Addr} {H H' : Hp} (h : Same H H') : Keep F H H' := fun b o e _ => h b o e
theorem Keep.trans {F G : List Addr} {H H1 H2 : Hp} (a : Keep F H H1) (b : Keep G H1 H2) : Keep (F ++ G) H H2 := fun c o e hc => b c o (a c o e fun z => hc (List.mem_append_left _ z)) fun z => hc (List.mem_append_right _ z)
theorem keep_upd {F : List Addr} {H H' : Hp} {p : Addr} {o : HO} (s : Keep F H H') (h : p ∈ F ∨ H p = none) : Keep F H (upd H' p o) := fun b u e hb => by
  rw [upd_ne]
  · exact s b u e hb
  · rintro rfl
    rcases h with h | h
    · exact hb h
    · rw [h] at e; cases e
theorem Keep.refl {F : List Addr} {H : Hp} : Keep F H H := fun _ _ e _ => e
structure Rows (H : Hp) (L : List Addr) (xss : List (List Int)) : Prop where
  len : L.length = xss.length
  get : ∀ (i : Nat) a xs, L[i]? = some a->xss[i]? = some xs->H a = some (.lst (xs.map V.int))
theorem Rows.mono {H H' : Hp} {L : List Addr} {xss : List (List Int)} (R : Rows H L xss) (h : ∀ a ∈ L, ∀ o, H a = some o->H' a = some o) : Rows H' L xss :=
  ⟨R.len, fun i a xs e1 e2 => h a (List.mem_of_getElem? e1) _ (R.get i a xs e1 e2)⟩
structure ChAt (H : Hp) (L : List V) (chs : List (Int × Int)) : Prop where
  len : L.length = chs.length
  get : ∀ (i : Nat) v, L[i]? = some v->∃ t r, v = V.ref t /\ chs[i]? = some r /\ H t = some (.tup [.int r.1, .int r.2])
theorem ChAt.nil {H : Hp} : ChAt H [] [] := ⟨rfl, fun i v e => by simp at e⟩
theorem ChAt.mono {H H' : Hp} {L : List V} {chs : List (Int × Int)} (R : ChAt H L chs) (h : ∀ t xs, H t = some (.tup xs)->H' t = some (.tup xs)) : ChAt H' L chs :=
  ⟨R.len, fun i v e => let ⟨t, r, a, b, c⟩ := R.get i v e; ⟨t, r, a, b, h t _ c⟩⟩
def fl (wd ls : Int) (ta sa : Addr) : List (Str × V) := [("wide", .int wd), ("last", .int ls), ("tables", .ref ta), ("set_places", .ref sa)]
theorem s1 : ¬ (("wide" : Str) = "last") := by decide +kernel
theorem s2 : ¬ (("wide" : Str) = "tables") := by decide +kernel
theorem s3 : ¬ (("wide" : Str) = "set_places") := by decide +kernel
theorem s4 : ¬ (("last" : Str) = "tables") := by decide +kernel
theorem s5 : ¬ (("last" : Str) = "set_places") := by decide +kernel
theorem s6 : ¬ (("tables" : Str) = "set_places") := by decide +kernel
structure DaysAt (C : Addr) (H : Hp) (p ta sa : Addr) (TL SL : List Addr) (wd : Nat) (tabs sets : List (List Int)) : Prop where
  ob : ∃ dx, H p = some (.ins C dx (fl (wd : Int) ((tabs.length : Int) - 1) ta sa))
  tl : H ta = some (.lst (TL.map V.ref))
  sl : H sa = some (.lst (SL.map V.ref))
  tls : Rows H TL tabs
  sls : Rows H SL sets
  nd : (p :: ta :: sa :: (TL ++ SL)).Nodup
  ne : tabs.length ≠ 0
  lens : sets.length = tabs.length
  wds : ∀ t ∈ tabs, t.length = wd
  w1 : 0 < wd
  w2 : wd ≤ 40
abbrev foot (p ta sa : Addr) (TL SL : List Addr) : List Addr := p :: ta :: sa :: (TL ++ SL)
section
variable {C : Addr} {H H' : Hp} {p ta sa : Addr} {TL SL : List Addr} {wd : Nat} {tabs sets : List (List Int)}
theorem DaysAt.mono (D : DaysAt C H p ta sa TL SL wd tabs sets) (h : ∀ b ∈ foot p ta sa TL SL, ∀ o, H b = some o->H' b = some o) : DaysAt C H' p ta sa TL SL wd tabs sets := by
  obtain ⟨dx, ob⟩ := D.ob
  exact ⟨⟨dx, h _ (by simp [foot]) _ ob⟩, h _ (by simp [foot]) _ D.tl, h _ (by simp [foot]) _ D.sl, D.tls.mono fun a ha => h a (by simp [foot, ha]), D.sls.mono fun a ha => h a (by simp [foot, ha]), D.nd, D.ne, D.lens, D.wds, D.w1, D.w2⟩
end
open PySem PySem.Spec PyProof.Rows
section
variable {prog : Program} {w : World} {A : Around} {E : Value->Shared->Prop} {h : Heap} {g : Array GenState} {d : Drawn} {t : Nat} {os : OsState} {K : PySem.W.Frag} {C f : Addr}
variable {nm q : Str} {N : Addr} {bs bm : List Value} {sn : List Str} {sub : List Value} {ab : Bool} {col : Option Bool} {dd : Option Addr} {k0 k1 k2 k3 k5 : Option Value}
theorem xcheck_init {M : Model} {e : Addr} {oe : Obj} {rest : List Value} {Q : Unit->Shared->Prop} (hb : excMro bm = true) (hC : h.get? C = some (excClassObj nm q C N bs bm true sn sub ab col dd k0 k1 k2 k3 k5 "ValueError.__new__"))
    (he : h.get? e = some oe) (hcls : oe.cls = .ref C) (hq : Q () ⟨h, g, d, t, os⟩) : wpAny M A (checkBuiltinCall "ValueError.__init__" ⟨.ref e :: rest, []⟩) Q E ⟨h, g, d, t, os⟩ := by
  have F := PySem.F.excBase_ValueError
  have hcB := own_has (C := C) hb (T := "ValueError") (by decide)
  have hshort := F.noStar
  simp only [checkBuiltinCall, F.initKind, F.initSplit, F.initRow]
  repeat (first | (with_reducible refine wpAny_loadPart_at he ?_; rw [hcls]) | with_reducible refine wpAny_loadPart_at hC ?_ | (with_reducible refine wpAny_isSubtype_exc hC ?_; rw [hcB]) | wp_step)
  refine wpAny_onRaise ?_
  rw [show ∀ (a b : String) (n : Nat), Bind.check ⟨.positional, "*", "ValueError", .self, [⟨"args", .varPos, false⟩]⟩ a b n (List.map (fun x => x.fst) ({ pos := Value.ref e :: rest } : Args).kw) = pure () from
    fun a b n => check_star_args _ _ _ _ _ _]
  exact wpAny_pure hq
theorem xtype_call0 {Q : Fin->Shared->Prop} (hb : excMro bm = true) (hC : h.get? C = some (excClassObj nm q C N bs bm true sn sub ab col dd k0 k1 k2 k3 k5 "ValueError.__new__")) (X : K.In h)
    (hi : PySem.W.findIn K (.ref C) "__init__" = some (some (.builtin "ValueError.__init__")))
    (hq : ∀ h', (∀ b o, h.get? b = some o->h'.get? b = some o)->h'.get? (h.objs.size + 1) = some (excNew C (h.objs.size + 2))->Q (.done (.ret (.ref (h.objs.size + 1)))) ⟨h', g, d, t, os⟩) :
    wpAny (model prog w) A (Builtin.«type.__call__» ⟨.ref C :: [], []⟩) Q E ⟨h, g, d, t, os⟩ := by
  have F := PySem.F.excBase_ValueError
  repeat (first | with_reducible refine wpAny_loadPart_at hC ?_ | with_reducible refine wpAny_madeBy_exc hC ?_ | wp_step)
  refine codeAny_call_builtin_code (Code.quiet_builtin _ F.quiet) (xcheck_new hb hC ?_)
  refine xcode_new hb hC (Nat.zero_le _) ?_
  show wpAny _ _ _ _ _ _
  have X1 : K.In ((h.push (tupNew [])).push (excNew C h.objs.size)) := X.keeps xkeeps
  have hC1 := xkeeps (C := C) (rest := []) _ _ hC
  have hcC : (Value.ref C :: bm).contains (.ref C) = true := by simp
  have L1 := PySem.W.looks_findIn (M := model prog w) X1 hi
  unfold isInstance
  repeat (first | with_reducible refine wpAny_loadPart_at xnew_at ?_ | (with_reducible refine wpAny_isSubtype_exc hC1 ?_; rw [hcC]) | wp_step)
  show wpAny _ _ (typeLookup (.ref C) _) _ _ _
  refine L1.at ?_
  refine wpAny_holding (wpAny_bind (wpAny_of_eq (F.init.bind _) ?_))
  refine wpAny_bind (wpAny_call (codeAny_call_builtin F.init.plain F.initEntry (xcheck_init hb hC1 xnew_at rfl ?_)))
  wp_walk
  refine hq _ (fun b o hb => ?_) ?_
  · rw [Heap.get?_update_other _ _ (Nat.ne_of_gt (Nat.lt_succ_of_lt (Heap.lt_size hb)))]
    exact Heap.get?_push_of_some _ (Heap.get?_push_of_some _ (Heap.get?_push_of_some _ hb))
  · rw [Heap.get?_update_self _ (Heap.get?_push_of_some _ xnew_at) rfl]
    simp only [Heap.size_push]
    rfl
theorem xcall_init0 {Q : Value->Shared->Prop} (X : K.In h) (c : XCls K C) (hi : PySem.W.findIn K (.ref C) "__init__" = some (some (.builtin "ValueError.__init__")))
    (hq : ∀ h', (∀ b o, h.get? b = some o->h'.get? b = some o)->h'.get? (h.objs.size + 1) = some (excNew C (h.objs.size + 2))->Q (.ref (h.objs.size + 1)) ⟨h', g, d, t, os⟩) :
    wpAny (model prog w) A (call (.ref C) []) Q E ⟨h, g, d, t, os⟩ := by
  obtain ⟨nm, qn, N, bs, bm, sn, sub, ab, col, dd, k0, k1, k2, k3, k5, hC, hb⟩ := (c.at X).ex
  have f1 := tc_lookup
  have f2 := tc_bind (.ref C)
  have hT : (⟨h, g, d, t, os⟩ : Shared).TypeIs (.ref C) "type" := ⟨_, hC, rfl⟩
  refine wpAny_call (codeAny_of_tree ?_)
  show wpAny _ _ (callAny (.ref C) _) _ _ _
  repeat (any_goals (first | assumption | with_reducible refine wpAny_loadPart_at hC ?_ | wp_step))
  refine ⟨rfl, ?_⟩
  exact codeAny_call_builtin_at (Code.quiet_builtin _ (by decide +kernel)) entry_typeCall (wpAny_check_type_call_sub hC (xtype_call0 hb hC X hi hq))
end
def tExc0 (C : Addr) : TE := fun σ H Q => ∀ x, H x = none->Q (.ref x) (upd H x (exO true x C none))
theorem pe_exc0 {X : Cx} {x : Str} {C : Addr} {p pos : Pos} (m : X.mg x = some (.ref C)) (c : XCls X.K C) (hi : PySem.W.findIn X.K (.ref C) "__init__" = some (some (.builtin "ValueError.__init__"))) (kp : PySem.W.keepIn X.K (.ref C) = true) (hg : Gl X x)
    (hdb : (x == ("__debug__" : Str)) = false := by decide) : PE X (.Call (.Name x p) [] [] pos) (tExc0 C) := by
  intro pins s σ H Q I h
  refine wpAny_Call_Name_kw (ld_glob I hg m ?_ hdb)
  refine PySem.W.callWith_K0 I.kIn kp ?_
  have hq := h (s.heap.objs.size + 1) (I.hok.fresh (Nat.le_succ _))
  obtain ⟨hp, g, d, t, os⟩ := s
  refine xcall_init0 I.kIn c hi fun h' hk hx => ?_
  exact ⟨.ref (hp.objs.size + 1), _, I.laid (a := hp.objs.size + 1) (t' := t) (fun b u q => hk b u q) (Nat.le_succ _) (objOk_exc ⟨_, _, hx, rfl, fun _ => rfl⟩), rfl, hq⟩
open PySem PySem.Spec PyProof.Rows
structure FunD (K : PySem.W.Frag) (x qual : Str) (st : Stmt) (f : Addr) (fd : FuncData) (dV : Value) : Prop where
  ex : ∃ (oc : Value) (od : Option Addr) (kV doc pm : Value) (an : Option Addr) (cdv ct : Value) (osl : Array (Option Value)),
    fd = PySem.W.fnOf x qual (defArgs st) (defBody st) (defScope st) dV kV doc pm an cdv ct /\ K.lookup f = some ⟨oc, od, .func fd, osl⟩ /\ PySem.W.codeIn K cdv qual = true
  kp : PySem.W.keepIn K (.ref f) = true
section
variable (P : Program) (w : World) (K : PySem.W.Frag) (mg : Str->Option Value) (base : Heap)
structure DefXd (x : Str) (k : Nat) (ps : List Str) (ds : List Value) (sp : Sp) : Prop where
  ex : ∃ (f : Addr) (fd : FuncData), mg x = some (.ref f) /\ FnOk P w K mg base (CXx P w) k f fd ps sp /\ PySem.W.keepIn K (.ref f) = true /\ Binds K fd ps ds
structure MakeXd (x : Str) (C : Addr) (k : Nat) (ps : List Str) (ds : List Value) (sp : Sp) : Prop where
  ex : ∃ (f : Addr) (fd : FuncData), mg x = some (.ref C) /\ Mk K C f /\ FnOk P w K mg base (CXx P w) k f fd ps sp /\ Binds K fd ps ds
structure ClsFn (C : Addr) (m : Str) (f : Addr) : Prop where
  ga : PySem.W.specialIn K (.ref C) "__getattribute__" = some (some (.builtin "type.__getattribute__"))
  rd : PySem.W.readsIn K C (.type "type") = true
  fc : PySem.W.findCls K (.ref C) (.type "type") m = some (.val (.ref f))
  kp : PySem.W.keepIn K (.ref f) = true
structure ClsX (x : Str) (C : Addr) (m : Str) (k : Nat) (ps : List Str) (sp : Sp) : Prop where
  ex : ∃ (f : Addr) (fd : FuncData), mg x = some (.ref C) /\ ClsFn K C m f /\ FnOk P w K mg base (CXx P w) k f fd ps sp /\ Binds K fd ps []
end
section
variable {X : Cx} {k : Nat} {f C : Addr} {fd : FuncData} {ps : List Str} {sp : Sp} {E : XS} {x m : Str} {p pos apos : Pos} {e o : Expr} {es : List Expr} {ta : TE} {t : TA} {ds : List Value} {dvs : List V}
theorem call_int_bl : CallR X (.type "int") (fun xs H Q => ∃ b : Bool, xs = [.bl b] /\ Q (.int (if b then 1 else 0)) H) := by
  rintro pins s σ H xs us Q I r ⟨b, rfl, q⟩
  obtain ⟨u, rfl, ru⟩ := vals1 r
  cases (show u = Value.bool b from ru)
  exact call_int_bool ⟨.int _, H, I.tok _, ⟨_, rfl⟩, q⟩
end
open PySem PySem.Spec PyProof.Rows
def Src (i l : Addr) (its : Array Value) (k : Nat) (h : Heap) : Prop := (h.IsListIter i l k /\ h.IsList l its) ∨ (h.IsTupleIter i l k /\ h.IsTuple l its)
theorem Src.tup {i l : Addr} {its us : Array Value} {k : Nat} {h : Heap} (x : Src i l its k h) (t : h.IsTuple l us) : h.IsTupleIter i l k := by
  rcases x with ⟨_, ⟨p, c, d, _⟩⟩ | ⟨a, _⟩
  · obtain ⟨q, e, f, _⟩ := t
    rw [c] at e; cases e; rw [d] at f; simp at f
  · exact a
open PySem PySem.Spec PyProof.Rows
def flat (rows : List (Nat × Nat)) : List Nat := rows.flatMap fun r => [r.1, r.2]
structure RowsAt (H : Hp) (L : List V) (rows : List (Nat × Nat)) : Prop where
  len : L.length = rows.length
  get : ∀ (i : Nat) v, L[i]? = some v->∃ t r, v = V.ref t /\ rows[i]? = some r /\ H t = some (.tup [.int (r.1 : Int), .int (r.2 : Int)])
theorem RowsAt.mono {H H' : Hp} {L : List V} {rows : List (Nat × Nat)} (R : RowsAt H L rows) (h : ∀ t xs, H t = some (.tup xs)->H' t = some (.tup xs)) : RowsAt H' L rows :=
  ⟨R.len, fun i v e => let ⟨t, r, a, b, c⟩ := R.get i v e; ⟨t, r, a, b, h t _ c⟩⟩
def pfs (wh : Bool) (b d : Nat) (r : Addr) (c : Int) (f : Bool) : List (Str × V) := match wh with
  | true => [("day", V.int (d : Int)), ("rows", V.ref r), ("check", V.int c), ("fits", V.bl f)]
  | false => [("day", V.int (d : Int)), ("rows", V.ref r), ("check", V.int c), ("fits", V.bl f), ("base", V.int (b : Int))]
def stN (wh : Bool) (b : Nat) : Nat := cond wh 0 (b + 1)
def ckOf (wh : Bool) (b d : Nat) (rows : List (Nat × Nat)) : Nat := Chk.chk (stN wh b :: d :: flat rows)
def PAt (CW CG : Addr) (H : Hp) (p : Addr) (wh : Bool) (b d : Nat) (rows : List (Nat × Nat)) (c : Int) : Prop :=
  ∃ dx r R, H p = some (.ins (cond wh CW CG) dx (pfs wh b d r c (decide (c = (ckOf wh b d rows : Nat))))) /\ H r = some (.tup R) /\ RowsAt H R rows
theorem PAt.keep {CW CG : Addr} {H H' : Hp} {p : Addr} {wh : Bool} {b d : Nat} {rows : List (Nat × Nat)} {c : Int} (h : PAt CW CG H p wh b d rows c) (s : Same H H') : PAt CW CG H' p wh b d rows c := by
  obtain ⟨dx, r, R, h1, h2, h3⟩ := h
  exact ⟨dx, r, R, s _ _ h1, s _ _ h2, h3.mono fun t xs e => s _ _ e⟩
theorem decI {i j : Int} : decide (V.int i = V.int j) = decide (i = j) := decide_eq_decide.mpr ⟨V.int.inj, fun e => by rw [e]⟩
open PySem PySem.Spec PyProof.Rows
theorem vals_of : ∀ {us : List Value} {ns : List Int}, IntsAre us ns->Vals (ns.map V.int) us
  | _, _, .nil => .nil
  | _, _, .cons _ t r => .cons ⟨t, rfl⟩ (vals_of r)
theorem ints_len {us : List Value} {ns : List Int} (h : IntsAre us ns) : us.length = ns.length := by
  have := (vals_of h).length
  rw [List.length_map] at this
  exact this.symm
theorem objOk_there {P : Program} {w : World} {H : Hp} {h : Heap} {a : Addr} {o : HO} (x : ObjOk P w H h a o) : ∃ ob, h.get? a = some ob := by
  cases o with
  | lst xs => obtain ⟨_, _, _, _, e⟩ := x; exact ⟨_, e⟩
  | tup xs => obtain ⟨_, _, _, ob, e, _⟩ := x; exact ⟨_, e⟩
  | dK kvs => obtain ⟨_, _, _, _, o, _, _, e, _⟩ := x; exact ⟨_, e⟩
  | dT kvs => obtain ⟨_, _, _, _, o, _, _, e, _⟩ := x; exact ⟨_, e⟩
  | set S n => obtain ⟨o, _, _, _, e, _⟩ := x; exact ⟨_, e⟩
  | ins C dx fs => obtain ⟨_, _, _, e, _⟩ := x; exact ⟨_, e⟩
  | own y => exact x
  | xd fs => obtain ⟨_, ⟨_, _, _, e, _⟩, _⟩ := x; exact ⟨_, e⟩
  | rng lo hi => obtain ⟨_, _, _, e⟩ := x; exact ⟨_, e⟩
  | frz ob u => exact ⟨_, x.1⟩
  | tbl ps => exact ⟨_, x⟩
  | met f y => exact ⟨_, x⟩
  | ext φ => exact x.2.1
section
variable {X : Cx} {pins : List (Addr × Obj)} {σ : St} {H : Hp} {s : Shared}
theorem Inv.laidAt {a : Addr} {h' : Heap} {t' : Nat} {vs : List V} (I : Inv X pins σ H s) (hn : s.heap.get? a = none) (k : ∀ b o, s.heap.get? b = some o->h'.get? b = some o) (new : ObjOk X.prog X.w (upd H a (.lst vs)) h' a (.lst vs)) :
    ∃ _ : H a = none, Inv X pins σ (upd H a (.lst vs)) { s with heap := h', toks := t' } /\ True := by
  have hHn : H a = none := by
    cases z : H a with
    | none => rfl
    | some o =>
      obtain ⟨ob, hob⟩ := objOk_there (I.hok a o z)
      rw [hn] at hob; cases hob
  refine ⟨hHn, ?_, trivial⟩
  have na : ∀ b o, s.heap.get? b = some o->b ≠ a := fun b o e z => by rw [z, hn] at e; cases e
  have hu : Un X.fs [] H (upd H a (.lst vs)) s.heap h' := by
    refine ⟨fun b o e _ _ _ => k b o e, fun b o e _ _ _ => ⟨o.slots, k b o e⟩, fun b o e n _ => ?_, fun b o e _ => ⟨o, k b o e⟩, fun b xs e => ?_, fun b o u e => ?_, fun b ps e => ⟨#[], ?_⟩⟩
    · rw [upd_ne (na b o e)]; exact n
    · rw [upd_ne (ne_of_none e hHn)]; exact e
    · rw [upd_ne (ne_of_none e hHn)]; exact e
    · rw [upd_ne (ne_of_none e hHn), e]; simp
  refine I.un hu fun b o e => ?_
  by_cases z : b = a
  · subst z; rw [upd_same] at e; cases e; exact new
  · rw [upd_ne z] at e
    exact (I.hok b o e).stay (fun c v _ q => k c v q) (fun c q => by rw [upd_ne (ne_of_none q hHn)]; exact q) fun c xs q => by rw [upd_ne (ne_of_none q hHn)]; exact q
end
section
variable {X : Cx}
theorem call_sortedD (hc : X.calm = true) : CallR X (.builtin "sorted") (fun xs H Q => ∃ (a : Addr) (kvs : List (Key × V)) (ns : List Int), xs = [.ref a] /\ H a = some (.dK kvs) /\ kvs.map (·.1) = ns.map Sum.inl /\ ns.length < 64 ∧
    ∀ (l : Addr) (ns' : List Int), H l = none->ns'.Perm ns->ns'.Pairwise (· ≤ ·)->Q (.ref l) (upd H l (.lst (ns'.map V.int)))) := by
  rintro pins s σ H xs us Q I r ⟨a, kvs, ns, rfl, hD, hk, h64, q⟩
  obtain ⟨u, rfl, ru⟩ := vals1 r
  cases (show u = Value.ref a from ru)
  obtain ⟨hsz, lo, vs, kv, hd⟩ := dk_of I.hok hD
  obtain ⟨ep, hat⟩ := hd.dictAt
  have hkeys := kv.keys
  have hvl : vs.length = ns.length := by
    have := congrArg List.length (hkeys.symm.trans hk)
    simpa using this
  refine Calls.call_function_entry kind_sorted plain_sorted entry_sorted (args_sorted1 _) ?_
  unfold Builtin.«sorted»
  refine wpAny_bind (m := checkCount "sorted" 1 1 _) (wpAny_pure ?_)
  refine wpAny_bind (PySem.W.kdu_collect (A := X.A.in1) (PySem.W.kdl_dict (knd := mixKind X.prog X.w) (kvs := vs) (ep := ep) lo) (I.ok.hd hc) hat (by rw [hvl]; exact Nat.le_of_lt (small1000 (by omega))) fun h' tk acc keep hacc => ?_)
  have hI : IntsAre acc.toList ns := by
    refine intsAre_of ?_
    have hal : acc.toList.length = ns.length := by rw [Array.length_toList, hacc.1, hvl]
    have key : ∀ (j : Nat) v, acc.toList[j]? = some v->∃ n t, ns[j]? = some n /\ v = Value.int n t := fun j v e => by
      obtain ⟨k, x, h1, h2⟩ := hacc.2 j v (by rw [← Array.getElem?_toList]; exact e)
      have e1 : (vs.map (·.1))[j]? = some k := by rw [List.getElem?_map, h1]; rfl
      rw [← hkeys, hk, List.getElem?_map] at e1
      obtain ⟨n, e2, e3⟩ := Option.map_eq_some_iff.mp e1
      subst e3
      have h2 : keyIs (Sum.inl n) v = true := h2
      rcases keyIs_shape h2 with ⟨i, t, e5, e4⟩ | ⟨y, t, e5, e4⟩
      · first | (cases e4; subst e5; exact ⟨n, t, e2, rfl⟩) | (cases e5; subst e4; exact ⟨n, t, e2, rfl⟩)
      · first | (cases e4; done) | (cases e5; done)
    clear hacc
    generalize acc.toList = us at hal key
    clear hk hvl h64 q
    induction us generalizing ns with
    | nil => cases ns with
      | nil => exact .nil
      | cons n ns => simp at hal
    | cons u us ih => cases ns with
      | nil => simp at hal
      | cons n ns =>
        obtain ⟨m, t, e1, e2⟩ := key 0 u rfl
        have e1 : n = m := by simpa using e1
        subst e1
        exact .cons ⟨t, e2⟩ (ih (ns := ns) (by simpa using hal) fun j v e => by
          obtain ⟨m, t, a1, a2⟩ := key (j + 1) v (by simpa using e)
          exact ⟨m, t, by simpa using a1, a2⟩)
  have hal : acc.toList.length < 64 := by rw [ints_len hI]; exact h64
  refine wpAny_bind (wpAny_newList ?_ (Nat.le_of_lt (small1000 (by omega))))
  have hoL : (h'.push (seqObj "list" acc.toList.toArray 0)).get? h'.objs.size = some (seqObj "list" acc.toList.toArray 0) := Heap.get?_push_size _ rfl
  refine wpAny_bind (wpAny_holding (wpAny_call_entry slot_list_sort ⟨_, hoL, rfl⟩ entry_list_sort (list_sort_tree hoL hI hal fun out ns' b1 b2 b3 => ⟨_, rfl, ?_⟩) (args_list_sort _)))
  refine wpAny_pure ⟨_, rfl, ?_⟩
  obtain ⟨e, hat2⟩ := sortedHeap_at (out := out) hoL
  have hno : s.heap.get? h'.objs.size = none := by
    cases z : s.heap.get? h'.objs.size with
    | none => rfl
    | some o => exact absurd (Heap.lt_size (keep _ _ z)) (Nat.lt_irrefl _)
  have hlen : ns'.length ≤ sizeLine := by rw [b2.length_eq]; exact Nat.le_of_lt (small1000 (by omega))
  have keep2 : ∀ b o, s.heap.get? b = some o->(sortedHeap (h'.push (seqObj "list" acc.toList.toArray 0)) h'.objs.size acc.toList out).get? b = some o := fun b o z => by
    have hb := keep b o z
    have hlt := Heap.lt_size hb
    rw [sortedHeap_old (Nat.ne_of_lt hlt) (by rw [size_push']; exact Nat.lt_succ_of_lt hlt)]
    exact Heap.get?_push_of_some _ hb
  obtain ⟨H', I', _⟩ := I.laidAt (t' := tk) (vs := ns'.map V.int) hno keep2 ⟨by rw [List.length_map]; exact hlen, out.toList, e, vals_of b1, by simpa using hat2⟩
  exact ⟨.ref h'.objs.size, _, I', rfl, q _ ns' H' b2 b3⟩
end
open PySem PySem.Spec PyProof.Rows
def sfs (d : Addr) (fl : Int) : List (Str × V) := [("pieces", V.ref d), ("follows", V.int fl)]
def ShAt (C : Addr) (H : Hp) (p d : Addr) (fl : Int) (kvs : List (Key × V)) : Prop := ∃ dx, H p = some (.ins C dx (sfs d fl)) /\ H d = some (.dK kvs)
theorem ShAt.keep {C : Addr} {H H' : Hp} {p d : Addr} {fl : Int} {kvs : List (Key × V)} (h : ShAt C H p d fl kvs) (s : Same H H') : ShAt C H' p d fl kvs := by
  obtain ⟨dx, h1, h2⟩ := h
  exact ⟨dx, s _ _ h1, s _ _ h2⟩
open PySem PySem.Spec PyProof.Rows
def PRep (CW CG : Addr) (H : Hp) (v : V) (s d : Int) : Prop := ∃ (a : Addr) (wh : Bool) (b dd : Nat) (rows : List (Nat × Nat)) (c : Int), v = .ref a /\ PAt CW CG H a wh b dd rows c /\ d = (dd : Int) /\ s = (stN wh b : Int) - 1
def SRep (CW CG : Addr) (H : Hp) (kvs : List (Key × V)) (M : Int->Option (Int × Int)) : Prop := ∀ n : Int, match M n with
  | none => valV kvs (Sum.inl n) = none
  | some (s, d) => ∃ v, valV kvs (Sum.inl n) = some v /\ PRep CW CG H v s d
theorem SRep.keep {CW CG : Addr} {H H' : Hp} {kvs : List (Key × V)} {M : Int->Option (Int × Int)} (h : SRep CW CG H kvs M) (s : Same H H') : SRep CW CG H' kvs M := fun n => by
  have := h n
  cases e : M n with
  | none => rw [e] at this; exact this
  | some sd =>
    rw [e] at this
    obtain ⟨v, hv, a, wh, b, dd, rows, c, h1, h2, h3, h4⟩ := this
    exact ⟨v, hv, a, wh, b, dd, rows, c, h1, h2.keep s, h3, h4⟩
def AI (n : Nat) (L : List V) : Prop := ∃ ys : List Int, L = ys.map V.int /\ ys.length ≤ n
theorem AI.len {n : Nat} {L : List V} (h : AI n L) : L.length ≤ n := by
  obtain ⟨ys, rfl, h⟩ := h; rw [List.length_map]; exact h
theorem valV_drop (kvs : List (Key × V)) (k j : Key) : valV (dropK kvs k) j = if j = k then none else valV kvs j := by
  induction kvs with
  | nil => show none = _; split <;> rfl
  | cons p r ih =>
    have e : dropK (p :: r) k = if p.1 = k then dropK r k else p :: dropK r k := by
      unfold dropK; rw [List.filter_cons]; by_cases h : p.1 = k <;> simp [h]
    rw [e]
    by_cases h : p.1 = k
    · rw [if_pos h, ih]
      by_cases hj : j = k
      · rw [if_pos hj, if_pos hj]
      · rw [if_neg hj, if_neg hj, valV_neg (fun z => hj (z.symm.trans h))]
    · rw [if_neg h]
      by_cases hp : p.1 = j
      · rw [valV_pos hp, valV_pos hp, if_neg (fun z => h (hp.trans z))]
      · rw [valV_neg hp, valV_neg hp, ih]
def AllI (lkv : List (Key × V)) : Prop := ∀ kv ∈ lkv, ∃ n : Int, kv.1 = Sum.inl n
theorem AllI.nil : AllI [] := fun _ h => by cases h
theorem AllI.put {kvs : List (Key × V)} (h : AllI kvs) (n : Int) (v : V) : AllI (putK kvs (Sum.inl n) v) := fun kv hm => by
  unfold putK at hm
  split at hm
  · obtain ⟨kv', h1, rfl⟩ := List.mem_map.mp hm
    obtain ⟨m, e⟩ := h kv' h1
    split
    · exact ⟨m, e⟩
    · exact ⟨m, e⟩
  · rcases List.mem_append.mp hm with h1 | h1
    · exact h kv h1
    · have : kv = (Sum.inl n, v) := by simpa using h1
      exact ⟨n, by rw [this]⟩
theorem AllI.drop {kvs : List (Key × V)} (h : AllI kvs) (k : Key) : AllI (dropK kvs k) := fun kv hm => h kv (List.mem_filter.mp hm).1
abbrev Lies := Int->Option (Int × Int)
def LRep (H : Hp) (lkv : List (Key × V)) (M : Lies) : Prop := ∀ n : Int, match M n with
  | none => valV lkv (Sum.inl n) = none
  | some (s, d) => ∃ t, valV lkv (Sum.inl n) = some (.ref t) /\ H t = some (.tup [.int s, .int d])
theorem LRep.mono {H H' : Hp} {lkv : List (Key × V)} {M : Lies} (h : LRep H lkv M) (s : ∀ t xs, H t = some (.tup xs)->H' t = some (.tup xs)) : LRep H' lkv M := fun n => by
  have := h n
  cases e : M n with
  | none => rw [e] at this; exact this
  | some sd =>
    rw [e] at this
    obtain ⟨t, hv, ht⟩ := this
    exact ⟨t, hv, s t _ ht⟩
def NoPart (H : Hp) (F : List Addr) : Prop := ∀ x ∈ F, (∃ kv, H x = some (.dK kv)) ∨ (∃ C dx d fl, H x = some (.ins C dx (sfs d fl)))
theorem NoPart.tup {H : Hp} {F : List Addr} (h : NoPart H F) {t : Addr} {xs : List V} (e : H t = some (.tup xs)) : t ∉ F := fun hm => by
  rcases h t hm with ⟨kv, e'⟩ | ⟨C, dx, d, fl, e'⟩ <;> (rw [e] at e'; cases e')
theorem PRep.keep {CW CG : Addr} {H H' : Hp} {v : V} {s d : Int} (h : PRep CW CG H v s d) (k : Same H H') : PRep CW CG H' v s d := by
  obtain ⟨a, wh, b, dd, rows, c, h1, h2, h3, h4⟩ := h
  exact ⟨a, wh, b, dd, rows, c, h1, h2.keep k, h3, h4⟩
open PySem PySem.Spec PyProof.Rows
def SqB (K : PySem.W.Frag) (tu : Bool) (H : Hp) (l : Addr) (xs : List V) : Prop := cond tu (SqT K H l xs) (SqL K H l xs)
open PySem PySem.Spec PyProof.Rows
theorem miss_keysL : typeLookup (.type "list") "keys" = pure none := by rw [typeLookup_type, builtinLookup_eq_fast]; kernel_rfl
section
variable {prog : Program} {w : World} {A : Around} {E : Value->Shared->Prop} {s : Shared} {a : Addr} {its : Array Value} {n : Nat} {sl : Array (Option Value)}
theorem keys_noneL {Q : Option Value->Shared->Prop} (hx : s.heap.get? a = some { cls := .type "list", dict := none, data := .seq its n, slots := sl }) (hA : A.handled = none)
    (h : ∀ h' tk, (∀ b ob, s.heap.get? b = some ob->h'.get? b = some ob)->Q none { s with heap := h', toks := tk }) : wpAny (model prog w) A (getAttr? (.ref a) "keys") Q E s := by
  obtain ⟨hp, g, dr, tk, os⟩ := s
  have hT : ∀ tk', (⟨hp, g, dr, tk', os⟩ : Shared).TypeIs (.ref a) "list" := fun _ => ⟨_, hx, rfl⟩
  have u1 := sub_AttributeError
  have u2 := F.slot_list_getattribute.lookup
  have u3 := F.slot_list_getattribute.bind (.ref a)
  have u4 := am_list_getattr_none
  unfold getAttr? getAttrBy? getAttrBy
  repeat (any_goals first | ((with_reducible show wpAny _ _ (call (Value.builtin "list.__getattribute__") _ _) _ _ _); refine call_meets F.slot_list_getattribute (hT _) am_entry_list_getattribute (F.args_list_getattribute_2 _ _) (meets_getattribute_miss_list a its n sl "keys" _ miss_keysL (by decide +kernel)) ⟨hx, hA, fun h' tk' e hx' => ?_⟩) | exact hT _ | wp_step | assumption)
  obtain ⟨t', u', he⟩ := hx'.there
  show wpAny _ _ (getattributeRaised _ _ _ _ _ _ _) _ _ _
  unfold getattributeRaised
  repeat (any_goals first | wp_step | assumption)
  exact h _ _ hx'.keeps
end
theorem entry_dul : entryFor table "dict.update.loop" = some Builtin.«dict.update.loop» := entryFor_of_tree (by kernel_rfl)
theorem plain_dul : plainId "dict.update.loop" = true := by decide +kernel
section
variable {prog : Program} {w : World} {κ : Type} [DecidableEq κ] {knd : KeyKind prog w κ} {A : Around} {R : Result->Shared->Prop} {I l d : Addr} {its : Array Value} {St : Nat->Heap->Prop}
def PairsIn (knd : KeyKind prog w κ) (its : Array Value) (ps : List (κ × Value)) (h : Heap) : Prop := ∀ (i : Nat) (v : Value), its[i]? = some v->∃ t key x n ob k, v = .ref t /\ h.get? t = some ob /\ ob.cls = .type "tuple" /\ ob.data = .seq #[key, x] n /\ ps[i]? = some (k, x) /\ knd.is k key = true
theorem dul_loop (W : Walks prog w A.in1 I [I, l] [I] its.size (fun i v => its[i]? = some v) St) (hI : ∀ i h, St i h->∃ o, h.get? I = some o /\ o.cls ≠ .type "tuple") (hdI : d ≠ I) (hdl : d ≠ l) {ps : List (κ × Value)} (hps : ps.length = its.size) :
    ∀ (k i : Nat) (s : Shared) (kvs : List (κ × Value)), its.size - i = k->i ≤ its.size->St i s.heap->s.heap.DictOf knd d kvs->PairsIn knd its ps s.heap->kvs.length + its.size ≤ sizeLine + i →
    (∀ h' tk, (∀ b o, b ≠ I->b ≠ d->s.heap.get? b = some o->h'.get? b = some o)->h'.DictOf knd d (merged kvs (ps.drop i))->R (.ok (.ret .none)) { s with heap := h', toks := tk }) →
    codeAny (model prog w) A (.builtin "dict.update.loop" ⟨[.ref d, .ref I, rawInt i, .none], []⟩) R s := by
  intro k
  induction k with
  | zero =>
    intro i s kvs hk hi hst hD hP hsz hR
    have e : i = its.size := by omega
    subst e
    refine codeAny_builtin entry_dul ?_
    rw [Around.under_plainId plain_dul _]
    show wpAny _ A.in1 (pyNext (.ref I) >>= _) _ _ s
    refine wpAny_bind (W.done s _ _ hst fun h' tk hk' => ?_)
    refine wpAny_bind (wpAny_pure ?_)
    refine wpAny_pure (hR h' tk (fun b o n1 _ e => hk' b o (by simpa using n1) e) ?_)
    rw [List.drop_of_length_le (by omega)]
    obtain ⟨o, es, ep, ho, r⟩ := hD
    exact ⟨o, es, ep, hk' _ _ (by simpa using hdI) ho, r⟩
  | succ k ih =>
    intro i s kvs hk hi hst hD hP hsz hR
    have hlt : i < its.size := by omega
    refine codeAny_builtin entry_dul ?_
    rw [Around.under_plainId plain_dul _]
    show wpAny _ A.in1 (pyNext (.ref I) >>= _) _ _ s
    refine wpAny_bind (W.item i s _ _ hlt hst fun v h' tk hv hst' hk' => ?_)
    obtain ⟨t, key, x, n, ob, kk, rfl, ht, hc, hdt, hpi, hkey⟩ := hP i v hv
    obtain ⟨oI, hoI, hcI⟩ := hI i _ hst
    have ntI : t ≠ I := fun z => by subst z; rw [ht] at hoI; cases hoI; exact hcI hc
    obtain ⟨od, es, ep, hod, hcd, hdd, r⟩ := id hD
    have hD' : h'.DictOf knd d kvs := ⟨od, es, ep, hk' _ _ (by simpa using hdI) hod, hcd, hdd, r⟩
    have ht' := hk' t _ (by simpa using ntI) ht
    refine wpAny_bind (wpAny_holding ?_)
    refine wpAny_bind (wpAny_tryCatch ?_)
    unfold Builtin.Dict.pairItems
    have hTt : ({ s with heap := h', toks := tk } : Shared).TypeIs (.ref t) "tuple" := ⟨ob, ht', hc⟩
    refine wpAny_bind (wpAny_typeOf hTt ?_)
    rw [if_pos (by decide)]
    refine wpAny_bind (wpAny_seqItems ht' hdt (wpAny_pure ?_))
    show wpAny _ A.in1 (holding [key, x] (dictSet d key x)) _ _ _
    refine wpAny_holding (wpAny_dictSet_pairs hkey hD' (fun h2 hD2 sb => ?_) (by omega))
    refine wpAny_pure ⟨plainId_quiet plain_dul _, ?_⟩
    have ndt : t ≠ d := fun z => by
      subst z
      rw [ht] at hod; cases hod
      rw [hdt] at hdd; cases hdd
    have up : ∀ b o, b ≠ I->b ≠ d->s.heap.get? b = some o->h2.get? b = some o := fun b o n1 n2 e => sb.extBut b o n2 (hk' b o (by simpa using n1) e)
    refine ih (i + 1) _ (stored kvs kk x) (by omega) (by omega) ?_ hD2 ?_ ?_ ?_
    · refine W.frame (i + 1) h' h2 hst' fun b hb o e => sb.extBut b o (fun z => ?_) e
      subst z
      simp only [List.mem_cons, List.not_mem_nil, or_false] at hb
      rcases hb with h | h
      · exact hdI h
      · exact hdl h
    · intro j v hj
      obtain ⟨t2, key2, x2, n2, ob2, k2, rfl, a1, a2, a3, a4, a5⟩ := hP j v hj
      refine ⟨t2, key2, x2, n2, ob2, k2, rfl, up t2 ob2 (fun z => ?_) (fun z => ?_) a1, a2, a3, a4, a5⟩
      · subst z; rw [a1] at hoI; cases hoI; exact hcI a2
      · subst z; rw [a1] at hod; cases hod; rw [a3] at hdd; cases hdd
    · have : (stored kvs kk x).length ≤ kvs.length + 1 := by unfold stored; split <;> simp
      omega
    · intro h3 tk3 hk3 hD3
      refine hR h3 tk3 (fun b o n1 n2 e => hk3 b o n1 n2 (up b o n1 n2 e)) ?_
      have e : ps.drop i = (kk, x) :: ps.drop (i + 1) := by
        have hil : i < ps.length := by omega
        rw [List.drop_eq_getElem_cons hil]
        rw [List.getElem?_eq_getElem hil] at hpi
        rw [Option.some.inj hpi]
      rw [e]
      exact hD3
end
theorem pairs_vals {P : Program} {w : World} {H : Hp} {h : Heap} (ok : HOk P w H h) : ∀ {L : List V} {its : List Value} {ps : List (Key × V)}, Vals L its->L.length = ps.length->(∀ (i : Nat) v, L[i]? = some v->∃ t k x, v = V.ref t /\ H t = some (.tup [kV k, x]) /\ ps[i]? = some (k, x))->∃ pv, KV ps pv /\ PairsIn (mixKind P w) its.toArray pv h
  | [], _, [], .nil, _, _ => ⟨[], .nil, fun i v e => by simp at e⟩
  | [], _, _ :: _, _, hl, _ => by simp at hl
  | _ :: _, _, [], _, hl, _ => by simp at hl
  | v :: L, u :: its, p :: ps, .cons r rr, hl, hp => by
    obtain ⟨t, k, x, rfl, ht, e0⟩ := hp 0 v rfl
    have e0 : p = (k, x) := by simpa using e0
    subst e0
    have r : u = Value.ref t := r
    subst r
    obtain ⟨pv, kv, pin⟩ := pairs_vals ok rr (by simpa using hl) (fun i v e => by
      obtain ⟨t, k, x, a, b, c⟩ := hp (i + 1) v (by simpa using e)
      exact ⟨t, k, x, a, b, by simpa using c⟩)
    obtain ⟨_, its2, r2, ob, h1, h2, n, h3⟩ := (show ObjOk P w H h t (.tup [kV k, x]) from ok t _ ht)
    cases r2 with
    | @cons _ ku _ _ ra rb =>
      cases rb with
      | @cons _ xu _ _ rx rn =>
        cases rn
        refine ⟨(k, xu) :: pv, .cons ⟨rfl, rx⟩ kv, fun i v e => ?_⟩
        cases i with
        | zero =>
          have e : Value.ref t = v := by simpa using e
          exact ⟨t, ku, xu, n, ob, k, e.symm, h1, h2, h3, rfl, kV_is ra⟩
        | succ i =>
          obtain ⟨t2, k2, x2, n2, o2, kk, a1, a2, a3, a4, a5, a6⟩ := pin i v (by simpa using e)
          exact ⟨t2, k2, x2, n2, o2, kk, a1, a2, a3, a4, by simpa using a5, a6⟩
open PySem PySem.Spec PyProof.Rows
theorem call_dictL {prog : Program} {w : World} {κ : Type} [DecidableEq κ] {knd : KeyKind prog w κ} {A : Around} {E : Value->Shared->Prop} {s : Shared} {a : Addr} {its : Array Value} {n : Nat} {sl : Array (Option Value)} {ps : List (κ × Value)} {Q : Value->Shared->Prop}
    (hx : s.heap.get? a = some { cls := .type "list", dict := none, data := .seq its n, slots := sl }) (hA : A.handled = none) (hP : PairsIn knd its ps s.heap) (hps : ps.length = its.size) (hsz : its.size ≤ sizeLine)
    (h : ∀ h' tk, (∀ b o, s.heap.get? b = some o->h'.get? b = some o)->h'.DictOf knd s.heap.objs.size (merged [] ps)->Q (.ref s.heap.objs.size) { s with heap := h', toks := tk }) :
    wpAny (model prog w) A (call (.type "dict") [.ref a]) Q E s := by
  refine callType_codes (Q₁ := fun obj s₁ => obj = .ref s.heap.objs.size /\ s₁ = { s with heap := s.heap.push { cls := .type "dict", data := .dict #[] } }) F.kt_called_dict (F.kt_typeCall_dict_1 _) F.entry_dict_init (kt_code_dict_new _ ⟨rfl, rfl⟩) ?_
  rintro obj s₁ ⟨rfl, rfl⟩
  have hnew : (s.heap.push { cls := .type "dict", data := .dict #[] }).DictOf knd s.heap.objs.size [] := Heap.DictOf.new s.heap
  have hx1 := Heap.get?_push_of_some { cls := .type "dict", data := .dict #[] } hx
  have hlt : a < s.heap.objs.size := Heap.lt_size hx
  refine ⟨hnew.typeIs, F.args_dict_init_2 _ _, ?_⟩
  unfold Builtin.«dict.__init__»
  refine wpAny_bind ?_
  unfold Builtin.Dict.selfAndRest
  refine wpAny_bind (wpAny_notOrdered_dict hnew.typeIs (wpAny_pure ?_))
  show wpAny _ _ (Builtin.Dict.updateFrom "dict.__init__" s.heap.objs.size (.ref a) [] .none) _ _ _
  unfold Builtin.Dict.updateFrom
  have hTl : ({ s with heap := s.heap.push { cls := .type "dict", data := .dict #[] } } : Shared).TypeIs (.ref a) "list" := ⟨_, hx1, rfl⟩
  refine wpAny_bind (wpAny_typeOf hTl ?_)
  rw [if_pos (by decide)]
  refine wpAny_bind (keys_noneL hx1 hA fun h2 tk2 hk2 => ?_)
  rw [if_pos (show (none : Option Value).isNone = true from rfl)]
  refine wpAny_bind (wpAny_rule ?_)
  have hx2 := hk2 _ _ hx1
  refine wpAny_bind (wpAny_pyIter_list (items := its) ⟨_, hx2, rfl, _, rfl⟩ ?_)
  have hnew2 : h2.DictOf knd s.heap.objs.size [] := by
    obtain ⟨o, es, ep, ho, r⟩ := hnew
    exact ⟨o, es, ep, hk2 _ _ ho, r⟩
  obtain ⟨od, es, ep, hod, hcd, hdd, r⟩ := id hnew2
  have hltd : s.heap.objs.size < h2.objs.size := Heap.lt_size hod
  have hlta : a < h2.objs.size := Heap.lt_size hx2
  refine wpAny_pure ⟨plainId_quiet plain_dul _, ?_⟩
  refine dul_loop (A := A.in1) (its := its) (knd := knd) (I := h2.objs.size) (l := a) (Walks.list (prog := prog) (w := w) (A := A.in1.in1) (show A.in1.in1.handled = none from hA) h2.objs.size a (Nat.ne_of_lt hlta) its) ?_ (Nat.ne_of_lt hltd) (fun z => by subst z; exact absurd hlt (Nat.lt_irrefl _)) hps its.size 0 _ [] (by omega) (by omega) ⟨?_, ?_⟩ ?_ ?_ (by simp; omega) ?_
  · rintro i h ⟨⟨o, ho, hc, _⟩, _⟩
    exact ⟨o, ho, by rw [hc]; decide⟩
  · exact ⟨_, Heap.get?_push_size _ rfl, rfl, rfl⟩
  · exact ⟨_, Heap.get?_push_of_some _ hx2, rfl, _, rfl⟩
  · exact ⟨od, es, ep, Heap.get?_push_of_some _ hod, hcd, hdd, r⟩
  · intro i v hv
    obtain ⟨t, key, x, n, ob, k, e1, e2, r⟩ := hP i v hv
    exact ⟨t, key, x, n, ob, k, e1, Heap.get?_push_of_some _ (hk2 _ _ (Heap.get?_push_of_some _ e2)), r⟩
  · intro h' tk hk hD
    refine ⟨rfl, h h' tk (fun b o e => hk b o (fun z => ?_) (fun z => ?_) (Heap.get?_push_of_some _ (hk2 _ _ (Heap.get?_push_of_some _ e)))) (by simpa using hD)⟩
    · subst z
      exact Nat.lt_asymm hltd (Heap.lt_size e)
    · subst z
      exact Nat.lt_irrefl _ (Heap.lt_size e)
theorem vals_len' : ∀ {L : List V} {its : List Value}, Vals L its->its.length = L.length
  | _, _, .nil => rfl
  | _, _, .cons _ r => by simp [vals_len' r]
theorem KV.len' : ∀ {ps : List (Key × V)} {pv : List (Key × Value)}, KV ps pv->pv.length = ps.length
  | _, _, .nil => rfl
  | _, _, .cons _ r => by simp [KV.len' r]
theorem call_dictP {X : Cx} (hc : X.calm = true) : CallR X (.type "dict") (fun xs H Q => ∃ (a : Addr) (L : List V) (ps : List (Key × V)), xs = [.ref a] /\ H a = some (.lst L) /\ L.length = ps.length /\ (∀ (i : Nat) v, L[i]? = some v->∃ t k x, v = V.ref t /\ H t = some (.tup [kV k, x]) /\ ps[i]? = some (k, x)) ∧
    ∀ d, H d = none->Q (.ref d) (upd H d (.dK (mergeK [] ps)))) := by
  rintro pins s σ H xs us Q I r ⟨a, L, ps, rfl, hL, hl, hp, q⟩
  obtain ⟨u, rfl, ru⟩ := vals1 r
  cases (show u = Value.ref a from ru)
  obtain ⟨hsz, its, n, rv, hx⟩ := (show ObjOk X.prog X.w H s.heap a (.lst L) from I.hok a _ hL)
  obtain ⟨pv, kv, pin⟩ := pairs_vals I.hok rv hl hp
  have e1 := vals_len' rv
  have e2 := KV.len' kv
  refine call_dictL (knd := mixKind X.prog X.w) (ps := pv) hx (I.ok.hd hc) pin (by simp; omega) (by simp; omega) fun h' tk keep hD => ?_
  have hno := I.hok.fresh (Nat.le_refl s.heap.objs.size)
  refine ⟨.ref s.heap.objs.size, _, I.laid (a := s.heap.objs.size) (o := .dK (mergeK [] ps)) (t' := tk) keep (Nat.le_refl _) (dk_new ?_ (beq_eq_false_iff_ne.mpr (Ne.symm (Nat.ne_of_lt I.big))) (KV.merge kv .nil) hD), rfl, q _ hno⟩
  have := length_mergeK ps []
  simp at this
  omega
open PySem PySem.Spec PyProof.Rows
theorem KV.get {kvs : List (Key × V)} {vs : List (Key × Value)} (r : KV kvs vs) : ∀ {i : Nat} {k : Key} {v : V}, kvs[i]? = some (k, v)->∃ u, vs[i]? = some (k, u) := by
  induction r with
  | nil => intro i k v h; simp at h
  | cons a b ih =>
    intro i k v h
    cases i with
    | zero => simp at h; subst h; exact ⟨_, by simp; exact Prod.ext a.1.symm rfl⟩
    | succ i => obtain ⟨u, hu⟩ := ih (by simpa using h); exact ⟨u, by simpa using hu⟩
open PySem PySem.Spec PyProof.Rows
section
variable {X : Cx} {pins : List (Addr × Obj)} {σ : St} {H : Hp} {s : Shared} {a : Addr} {kvs : List (Key × V)} {k : Key} {u r : Value} {z : V} {A : Around} {E : Value->Shared->Prop}
theorem d_setdef {Q : Value->Shared->Prop} (I : Inv X pins σ H s) (e : H a = some (.dK kvs)) (ry : RelV (kV k) u) (rz : RelV z r) (hl : kvs.length < sizeLine)
    (h1 : ∀ v w' s', valV kvs k = some v->Inv X pins σ H s'->RelV v w'->Q w' s') (h2 : valV kvs k = none->∀ s', Inv X pins σ (upd H a (.dK (putK kvs k z))) s'->Q r s') :
    wpAny (model X.prog X.w) A (call (.builtin "dict.setdefault") [.ref a, u, r]) Q E s := by
  obtain ⟨z0, hd, vs, rel, dd⟩ := dk_of I.hok e
  have hz : vs.length ≤ sizeLine := by rw [← rel.length]; exact z0
  have hl2 : (putK kvs k z).length ≤ sizeLine := by have := length_putK kvs k z; omega
  refine call_meetsIn PySem.F.slot_dict_setdefault dd.typeIs PySem.F.entry_dict_setdefault (PySem.F.args_dict_setdefault_3 _ _ _) (PySem.kt_meets_setdefault (mixKind X.prog X.w) a (kV_is ry) hd r) ⟨vs, dd, hz, fun v hv => ?_, fun hv h' dd' hs => ?_⟩
  · have := rel.val k
    rw [hv] at this
    cases hvv : valV kvs k with
    | none => rw [hvv] at this; exact this.elim
    | some v' => rw [hvv] at this; exact h1 v' v _ hvv (I.tok _) this
  · have hn : valV kvs k = none := by
      have := rel.val k
      rw [hv] at this
      cases hvv : valV kvs k with
      | none => rfl
      | some v' => rw [hvv] at this; exact this.elim
    have he : ∃ q, h'.get? a = some q := let ⟨q, _, _, hq, _⟩ := dd'; ⟨q, hq⟩
    exact h2 hn _ (d_write I (by rw [e]; exact True.intro) hs he (dk_new hl2 hd (rel.put k rz) dd'))
end
def tDSetd (td ty tx : TE) : TE := fun σ H Q => td σ H fun x H1 => ∃ a, x = .ref a /\ IsD H1 a /\ ty σ H1 fun y H2 => tx σ H2 fun z H3 => ∃ kvs k, H3 a = some (.dK kvs) /\ y = kV k /\ kvs.length < sizeLine ∧
  (∀ v, valV kvs k = some v->Q v H3) /\ (valV kvs k = none->Q z (upd H3 a (.dK (putK kvs k z))))
theorem pe_dsetd {X : Cx} {o e f : Expr} {apos cpos : Pos} {td ty tx : TE} (ho : PE X o td) (he : PE X e ty) (hf : PE X f tx) (m : M2 X o "setdefault" apos e f cpos) : PE X (.Call (.Attribute o "setdefault" apos) [e, f] [] cpos) (tDSetd td ty tx) := by
  intro pins s σ H Q I h
  refine wpAny_Call_method m.base m.few m.line PySem.F.plainAttrs_dict PySem.F.slot_dict_setdefault PySem.F.type_dict_setdefault (thn (ho pins s σ H _ I h) fun u s1 ⟨x, H1, I1, rx, a, ex, d, q1⟩ => ?_)
  subst ex
  obtain rfl : u = Value.ref a := rx
  obtain ⟨t1, t2, _⟩ := isD_at I1 d
  refine ⟨t1, t2, ?_⟩
  rw [m.trees]
  refine Calls.callWith_builtin rfl (Calls.evalArgs_plain (Calls.spliced_cons (thn (he pins s1 σ H1 _ I1 q1) fun iv s2 ⟨y, H2, I2, ry, q2⟩ =>
    Calls.spliced_cons (thn (hf pins s2 σ H2 _ I2 q2) fun fv s3 ⟨z, H3, I3, rz, kvs, k, ea, ey, hl, q3, q4⟩ => Calls.spliced_nil ?_))))
  subst ey
  exact d_setdef I3 ea ry rz hl (fun v w' s' hv I' rv => ⟨v, H3, I', rv, q3 v hv⟩) fun hv s' I' => ⟨z, _, I', rz, q4 hv⟩
inductive EqD (R : V->V->Bool->Prop) (kb : List (Key × V)) : List (Key × V)->Bool->Prop
  | nil : EqD R kb [] true
  | miss {k : Key} {v : V} {r : List (Key × V)} : valV kb k = none->EqD R kb ((k, v) :: r) false
  | hit {k : Key} {v y : V} {r : List (Key × V)} {e b : Bool} : valV kb k = some y->R v y e->EqD R kb r b->EqD R kb ((k, v) :: r) (e && b)
open PySem HT
theorem lex_irr : ∀ a : List Int, HT.lexLt a a = false
  | [] => rfl
  | x :: a => by rw [HT.lexLt_cons, if_pos rfl]; exact lex_irr a
theorem lex_tr : ∀ {a b c : List Int}, HT.lexLt a b = true->HT.lexLt b c = true->HT.lexLt a c = true
  | _, [], [], _, h2 => by simp [HT.lexLt_nil_nil] at h2
  | [], [], _ :: _, h1, _ => by simp [HT.lexLt_nil_nil] at h1
  | _ :: _, [], _ :: _, h1, _ => by simp [HT.lexLt_cons_nil] at h1
  | _, _ :: _, [], _, h2 => by simp [HT.lexLt_cons_nil] at h2
  | [], _ :: _, _ :: _, _, _ => HT.lexLt_nil_cons _ _
  | x :: a, y :: b, z :: c, h1, h2 => by
    rw [HT.lexLt_cons] at h1 h2 ⊢
    by_cases e1 : x = y
    · subst e1
      rw [if_pos rfl] at h1
      by_cases e2 : x = z
      · subst e2
        rw [if_pos rfl] at h2 ⊢
        exact lex_tr h1 h2
      · rw [if_neg e2] at h2 ⊢
        exact h2
    · rw [if_neg e1] at h1
      have h1 := of_decide_eq_true h1
      by_cases e2 : y = z
      · subst e2
        rw [if_neg e1]; exact decide_eq_true h1
      · rw [if_neg e2] at h2
        have h2 := of_decide_eq_true h2
        rw [if_neg (by omega)]; exact decide_eq_true (by omega)
theorem lex_tot : ∀ {a b : List Int}, HT.lexLt a b = false->HT.lexLt b a = false->a = b
  | [], [], _, _ => rfl
  | [], _ :: _, h, _ => by simp [HT.lexLt_nil_cons] at h
  | _ :: _, [], _, h => by simp [HT.lexLt_nil_cons] at h
  | x :: a, y :: b, h1, h2 => by
    rw [HT.lexLt_cons] at h1 h2
    by_cases e : x = y
    · subst e
      rw [if_pos rfl] at h1 h2
      rw [lex_tot h1 h2]
    · rw [if_neg e] at h1
      rw [if_neg (Ne.symm e)] at h2
      have h1 := of_decide_eq_false h1
      have h2 := of_decide_eq_false h2
      omega
def Le (a b : List Int) : Prop := HT.lexLt b a = false
theorem Le.refl (a : List Int) : Le a a := lex_irr a
theorem Le.of_lt {a b : List Int} (h : HT.lexLt a b = true) : Le a b := by
  unfold Le
  cases e : HT.lexLt b a with
  | false => rfl
  | true => have := lex_tr h e; rw [lex_irr] at this; cases this
theorem Le.trans {a b c : List Int} (h1 : Le a b) (h2 : Le b c) : Le a c := by
  unfold Le
  cases e : HT.lexLt c a with
  | false => rfl
  | true =>
    unfold Le at h1 h2
    cases e1 : HT.lexLt a b with
    | true => have := lex_tr e e1; rw [h2] at this; cases this
    | false => have z := lex_tot e1 h1; subst z; rw [h2] at e; cases e
theorem Le.antisymm {a b : List Int} (h1 : Le a b) (h2 : Le b a) : a = b := lex_tot h2 h1
theorem Le.total (a b : List Int) : Le a b ∨ Le b a := by
  cases e : HT.lexLt b a with
  | false => exact .inl e
  | true => exact .inr (Le.of_lt e)
abbrev gK (l : List (List Int)) (i : Nat) : List Int := l.getD i []
def swp (l : List (List Int)) (i j : Nat) : List (List Int) := (l.set i (gK l j)).set j (gK l i)
theorem swp_len (l : List (List Int)) (i j : Nat) : (swp l i j).length = l.length := by simp [swp]
theorem swp_get {l : List (List Int)} {i j : Nat} (hi : i < l.length) (hj : j < l.length) (k : Nat) : gK (swp l i j) k = if k = j then gK l i else if k = i then gK l j else gK l k := by
  unfold swp gK
  simp only [List.getD_eq_getElem?_getD, List.getElem?_set, List.length_set]
  by_cases h1 : j = k
  · subst h1; simp [hj]
  · rw [if_neg h1, if_neg (Ne.symm h1)]
    by_cases h2 : i = k
    · subst h2; simp [hi]
    · rw [if_neg h2, if_neg (Ne.symm h2)]
theorem swp_perm {l : List (List Int)} {i j : Nat} (hi : i < l.length) (hj : j < l.length) : (swp l i j).Perm l := by
  have h := Array.swap_perm (xs := l.toArray) (i := i) (j := j) (by simpa using hi) (by simpa using hj)
  have h := h.toList
  refine List.Perm.trans (List.Perm.of_eq ?_) h
  unfold swp gK Array.swap
  simp [List.getD_eq_getElem?_getD, hi, hj]
def HOrd (l : List (List Int)) : Prop := ∀ i, 0 < i->i < l.length->Le (gK l ((i - 1) / 2)) (gK l i)
def LiftI (l : List (List Int)) (k : Nat) : Prop := (∀ i, 0 < i->i < l.length->i ≠ k->Le (gK l ((i - 1) / 2)) (gK l i)) /\ (0 < k->∀ i, 0 < i->i < l.length->(i - 1) / 2 = k->Le (gK l ((k - 1) / 2)) (gK l i))
def SinkI (l : List (List Int)) (h : Nat) : Prop := (∀ i, 0 < i->i < l.length->(i - 1) / 2 ≠ h->Le (gK l ((i - 1) / 2)) (gK l i)) /\ (0 < h->∀ i, 0 < i->i < l.length->(i - 1) / 2 = h->Le (gK l ((h - 1) / 2)) (gK l i))
theorem lift_step {l : List (List Int)} {k : Nat} (I : LiftI l k) (hk : 0 < k) (hl : k < l.length) (lt : HT.lexLt (gK l k) (gK l ((k - 1) / 2)) = true) : LiftI (swp l k ((k - 1) / 2)) ((k - 1) / 2) := by
  have hp : (k - 1) / 2 < l.length := by omega
  refine ⟨fun i h0 hi hne => ?_, fun h0' i h0 hi hpar => ?_⟩
  · rw [swp_len] at hi
    rw [swp_get hl hp, swp_get hl hp, if_neg hne]
    by_cases e1 : i = k
    · subst e1
      rw [if_pos rfl, if_pos rfl]; exact Le.of_lt lt
    rw [if_neg e1]
    by_cases e2 : (i - 1) / 2 = (k - 1) / 2
    · rw [if_pos e2]
      have := I.1 i h0 hi e1
      rw [e2] at this
      exact (Le.of_lt lt).trans this
    rw [if_neg e2]
    by_cases e3 : (i - 1) / 2 = k
    · rw [if_pos e3]; exact I.2 hk i h0 hi e3
    · rw [if_neg e3]; exact I.1 i h0 hi e1
  · rw [swp_len] at hi
    have hpk : (k - 1) / 2 ≠ k := by omega
    have hq := I.1 ((k - 1) / 2) h0' hp hpk
    rw [swp_get hl hp, swp_get hl hp, if_neg (by omega), if_neg (by omega), if_neg (by omega)]
    by_cases e1 : i = k
    · rw [if_pos e1]; exact hq
    · rw [if_neg e1]
      have := I.1 i h0 hi e1
      rw [hpar] at this
      exact hq.trans this
theorem lift_end {l : List (List Int)} {k : Nat} (I : LiftI l k) (h : k = 0 ∨ HT.lexLt (gK l k) (gK l ((k - 1) / 2)) = false) : HOrd l := fun i h0 hi => by
  by_cases e : i = k
  · subst e
    rcases h with h | h
    · omega
    · exact h
  · exact I.1 i h0 hi e
def lsr (l : List (List Int)) (p : Nat) : Nat := if 2 * p + 2 < l.length /\ HT.lexLt (gK l (2 * p + 2)) (gK l (2 * p + 1)) = true then 2 * p + 2 else 2 * p + 1
theorem lsr_par (l : List (List Int)) (p : Nat) : (lsr l p - 1) / 2 = p /\ 0 < lsr l p := by unfold lsr; split <;> omega
theorem lsr_le {l : List (List Int)} {p : Nat} {i : Nat} (h0 : 0 < i) (hi : i < l.length) (hp : (i - 1) / 2 = p) : lsr l p < l.length /\ Le (gK l (lsr l p)) (gK l i) := by
  have hi2 : i = 2 * p + 1 ∨ i = 2 * p + 2 := by omega
  unfold lsr
  split
  · rename_i h
    refine ⟨h.1, ?_⟩
    rcases hi2 with e | e
    · rw [e]; exact Le.of_lt h.2
    · rw [e]; exact Le.refl _
  · rename_i h
    refine ⟨by omega, ?_⟩
    rcases hi2 with e | e
    · rw [e]; exact Le.refl _
    · rw [e]
      unfold Le
      cases z : HT.lexLt (gK l (2 * p + 2)) (gK l (2 * p + 1)) with
      | false => rfl
      | true => exact absurd ⟨by omega, z⟩ h
theorem sink_step {l : List (List Int)} {h : Nat} (I : SinkI l h) (hl : lsr l h < l.length) (lt : HT.lexLt (gK l (lsr l h)) (gK l h) = true) : SinkI (swp l (lsr l h) h) (lsr l h) := by
  obtain ⟨hpar, hpos⟩ := lsr_par l h
  have hle := fun i h0 hi hp => (lsr_le (l := l) (p := h) (i := i) h0 hi hp).2
  generalize lsr l h = w at *
  have hh : h < l.length := by omega
  refine ⟨fun i h0 hi hne => ?_, fun _ i h0 hi hp => ?_⟩
  · rw [swp_len] at hi
    rw [swp_get hl hh, swp_get hl hh, if_neg (show ¬ (i - 1) / 2 = w from hne)]
    by_cases e1 : i = h
    · subst e1
      rw [if_pos rfl, if_neg (by omega)]
      exact I.2 h0 w hpos hl hpar
    rw [if_neg e1]
    by_cases e2 : i = w
    · subst e2
      rw [if_pos rfl, if_pos hpar]; exact Le.of_lt lt
    rw [if_neg e2]
    by_cases e3 : (i - 1) / 2 = h
    · rw [if_pos e3]; exact hle i h0 hi e3
    · rw [if_neg e3]; exact I.1 i h0 hi e3
  · rw [swp_len] at hi
    rw [swp_get hl hh, swp_get hl hh, hpar, if_pos rfl, if_neg (by omega), if_neg (by omega)]
    have := I.1 i h0 hi (by omega)
    rw [hp] at this
    exact this
theorem sink_end {l : List (List Int)} {h : Nat} (I : SinkI l h) (he : l.length ≤ lsr l h ∨ HT.lexLt (gK l (lsr l h)) (gK l h) = false) : HOrd l := fun i h0 hi => by
  by_cases e : (i - 1) / 2 = h
  · have := lsr_le h0 hi e
    rcases he with z | z
    · omega
    · rw [e]; exact Le.trans (show Le (gK l h) (gK l (lsr l h)) from z) this.2
  · exact I.1 i h0 hi e
theorem hord_min {l : List (List Int)} (h : HOrd l) : ∀ i, i < l.length->Le (gK l 0) (gK l i) := by
  intro i
  induction i using Nat.strongRecOn with
  | _ i ih =>
    intro hi
    by_cases e : i = 0
    · subst e; exact Le.refl _
    · exact (ih ((i - 1) / 2) (by omega) (by omega)).trans (h i (by omega) hi)
open PySem PyProof.Rows
def KeyAt (tu : Bool) (H : Hp) (v : V) (ks : List Int) : Prop := match tu with
  | true => ∃ a, v = .ref a /\ H a = some (.tup (ks.map V.int))
  | false => ∃ i, v = .int i /\ ks = [i]
theorem KeyAt.mono {tu : Bool} {H H' : Hp} {v : V} {ks : List Int} (h : KeyAt tu H v ks) (m : ∀ t xs, H t = some (.tup xs)->H' t = some (.tup xs)) : KeyAt tu H' v ks := by
  cases tu with
  | true => obtain ⟨a, e, h⟩ := h; exact ⟨a, e, m a _ h⟩
  | false => exact h
structure KeysAt (tu : Bool) (H : Hp) (vs : List V) (its : List (List Int)) : Prop where
  len : vs.length = its.length
  get : ∀ (i : Nat) v ks, vs[i]? = some v->its[i]? = some ks->KeyAt tu H v ks
section
variable {tu : Bool} {H H' : Hp} {vs : List V} {its : List (List Int)}
theorem KeysAt.mono (R : KeysAt tu H vs its) (m : ∀ t xs, H t = some (.tup xs)->H' t = some (.tup xs)) : KeysAt tu H' vs its := ⟨R.len, fun i v ks e1 e2 => (R.get i v ks e1 e2).mono m⟩
theorem KeysAt.nil : KeysAt tu H [] [] := ⟨rfl, fun i v ks e => by simp at e⟩
theorem KeysAt.at_ (R : KeysAt tu H vs its) {i : Nat} (hi : i < its.length) : ∃ v, vs[i]? = some v /\ KeyAt tu H v (gK its i) := by
  have h1 : i < vs.length := by rw [R.len]; exact hi
  refine ⟨vs[i], List.getElem?_eq_getElem h1, R.get i _ _ (List.getElem?_eq_getElem h1) ?_⟩
  rw [List.getElem?_eq_getElem hi]
  simp [gK, List.getD_eq_getElem?_getD, hi]
theorem KeysAt.snoc (R : KeysAt tu H vs its) {v : V} {ks : List Int} (h : KeyAt tu H v ks) : KeysAt tu H (vs ++ [v]) (its ++ [ks]) :=
  ⟨by simp [R.len], fun i w ls e1 e2 => by
    by_cases hi : i < vs.length
    · rw [List.getElem?_append_left hi] at e1
      rw [List.getElem?_append_left (by rw [← R.len]; exact hi)] at e2
      exact R.get i w ls e1 e2
    · have hlt := (List.getElem?_eq_some_iff.mp e1).1
      have : i = vs.length := by simp at hlt; omega
      subst this
      rw [List.getElem?_append_right (Nat.le_refl _)] at e1
      rw [R.len, List.getElem?_append_right (Nat.le_refl _)] at e2
      simp at e1 e2
      subst e1 e2
      exact h⟩
theorem KeysAt.set (R : KeysAt tu H vs its) {i : Nat} {v : V} {ks : List Int} (h : KeyAt tu H v ks) : KeysAt tu H (vs.set i v) (its.set i ks) :=
  ⟨by simp [R.len], fun j w ls e1 e2 => by
    rw [List.getElem?_set] at e1 e2
    by_cases hj : i = j
    · subst hj
      rw [if_pos rfl] at e1 e2
      split at e1
      · rw [if_pos (by rw [← R.len]; assumption)] at e2
        cases e1; cases e2; exact h
      · cases e1
    · rw [if_neg hj] at e1 e2
      exact R.get j w ls e1 e2⟩
theorem KeysAt.swap (R : KeysAt tu H vs its) {i j : Nat} {v w : V} (hi : i < its.length) (hj : j < its.length) (ei : vs[i]? = some v) (ej : vs[j]? = some w) : KeysAt tu H ((vs.set i w).set j v) (swp its i j) := by
  have kv := R.get i v (gK its i) ei (by rw [List.getElem?_eq_getElem hi]; simp [gK, List.getD_eq_getElem?_getD, hi])
  have kw := R.get j w (gK its j) ej (by rw [List.getElem?_eq_getElem hj]; simp [gK, List.getD_eq_getElem?_getD, hj])
  exact (R.set kw).set kv
end
theorem KeysAt.dropLast {tu : Bool} {H : Hp} {vs : List V} {its : List (List Int)} (R : KeysAt tu H vs its) : KeysAt tu H vs.dropLast its.dropLast :=
  ⟨by rw [List.length_dropLast, List.length_dropLast, R.len], fun i v ks e1 e2 => by
    rw [List.getElem?_dropLast] at e1 e2
    split at e1
    · split at e2
      · exact R.get i v ks e1 e2
      · cases e2
    · cases e1⟩
def rLtO (K : PySem.W.Frag) : R2 := fun x y H Q => rLtT K x y H Q ∨ ∃ i j, x = .int i /\ y = .int j /\ Q (.bl (decide (i < j))) H
theorem op_ltO {X : Cx} (hu : X.A.units < cLine) : OpR X (compareOp .Lt) (rLtO X.K) := by
  intro pins s σ H x y v u Q I rx ry h
  rcases h with h | ⟨i, j, e1, e2, q⟩
  · exact op_ltT hu pins s σ H x y v u Q I rx ry h
  · exact op_lt pins s σ H x y v u Q I rx ry ⟨i, j, e1, e2, q⟩
theorem lex_one (i j : Int) : HT.lexLt [i] [j] = decide (i < j) := by
  rw [HT.lexLt_cons]
  by_cases h : i = j
  · subst h; rw [if_pos rfl, HT.lexLt_nil_nil]; simp
  · rw [if_neg h]
theorem ltO_of {K : PySem.W.Frag} {tu : Bool} {H : Hp} {x y : V} {ks ls : List Int} {Q : VK} (h1 : KeyAt tu H x ks) (h2 : KeyAt tu H y ls) (q : Q (.bl (HT.lexLt ks ls)) H) : rLtO K x y H Q := by
  cases tu with
  | true =>
    obtain ⟨a, e1, h1⟩ := h1
    obtain ⟨b, e2, h2⟩ := h2
    exact .inl ⟨a, b, ks, ls, e1, e2, SqT.of h1, SqT.of h2, q⟩
  | false =>
    obtain ⟨i, e1, rfl⟩ := h1
    obtain ⟨j, e2, rfl⟩ := h2
    rw [lex_one] at q
    exact .inr ⟨i, j, e1, e2, q⟩
structure HpAt (C : Addr) (tu : Bool) (H : Hp) (p r : Addr) (vs : List V) (its : List (List Int)) : Prop where
  ob : ∃ dx, H p = some (.ins C dx [("row", .ref r)])
  row : H r = some (.lst vs)
  ks : KeysAt tu H vs its
section
variable {C : Addr} {tu : Bool} {H H' : Hp} {p r : Addr} {vs : List V} {its : List (List Int)}
theorem HpAt.ne (h : HpAt C tu H p r vs its) : p ≠ r := by
  obtain ⟨dx, ob⟩ := h.ob
  exact ne_of ob h.row (by intro z; cases z)
theorem HpAt.put (h : HpAt C tu H p r vs its) {vs' : List V} {its' : List (List Int)} (k : KeysAt tu H vs' its') : HpAt C tu (upd H r (.lst vs')) p r vs' its' := by
  obtain ⟨dx, ob⟩ := h.ob
  refine ⟨⟨dx, by rw [upd_ne h.ne]; exact ob⟩, upd_same, k.mono fun t xs e => ?_⟩
  rw [upd_ne (ne_of e h.row (by intro z; cases z))]; exact e
theorem HpAt.same (h : HpAt C tu H p r vs its) (s : Same H H') : HpAt C tu H' p r vs its := by
  obtain ⟨dx, ob⟩ := h.ob
  exact ⟨⟨dx, s _ _ ob⟩, s _ _ h.row, h.ks.mono fun t xs e => s _ _ e⟩
end
open PySem
structure Leg where
  num : Int
  start : Int
  to : Int
  bad : Int
  cost : Int
def legT (g : Leg) : List Int := [g.num, g.start, g.to, g.bad, g.cost]
def overT (p : List Int) (g : Leg) : List Int := [p.getD 0 0 + g.bad, p.getD 1 0 + g.cost, p.getD 2 0 + 1]
def LegOk (g : Leg) : Prop := 0 ≤ g.to /\ 0 ≤ g.bad /\ 0 ≤ g.cost
theorem lex3 (a b c a' b' c' : Int) : HT.lexLt [a, b, c] [a', b', c'] = decide (a < a' ∨ (a = a' /\ (b < b' ∨ (b = b' /\ c < c')))) := by
  rw [HT.lexLt_cons, HT.lexLt_cons, HT.lexLt_cons, HT.lexLt_nil_nil]
  by_cases h1 : a = a'
  · subst h1
    rw [if_pos rfl]
    by_cases h2 : b = b'
    · subst h2
      rw [if_pos rfl]
      by_cases h3 : c = c'
      · subst h3; simp
      · rw [if_neg h3]; simp
    · rw [if_neg h2]; simp [h2]
  · rw [if_neg h1]; simp [h1]
theorem le3 {a b c a' b' c' : Int} : Le [a, b, c] [a', b', c'] ↔ a < a' ∨ (a = a' /\ (b < b' ∨ (b = b' /\ c ≤ c'))) := by
  unfold Le
  rw [lex3, decide_eq_false_iff_not]
  omega
theorem le4 {a b c d a' b' c' d' : Int} (h : Le [a, b, c, d] [a', b', c', d']) : Le [a, b, c] [a', b', c'] := by
  unfold Le at h ⊢
  rw [HT.lexLt_cons] at h ⊢
  by_cases h1 : a' = a
  · subst h1
    rw [if_pos rfl] at h ⊢
    rw [HT.lexLt_cons] at h ⊢
    by_cases h2 : b' = b
    · subst h2
      rw [if_pos rfl] at h ⊢
      rw [HT.lexLt_cons] at h ⊢
      by_cases h3 : c' = c
      · subst h3
        rw [if_pos rfl, HT.lexLt_nil_nil]
      · rw [if_neg h3] at h ⊢; exact h
    · rw [if_neg h2] at h ⊢; exact h
  · rw [if_neg h1] at h ⊢; exact h
def IsPr (q : List Int) : Prop := ∃ (b c : Int) (n : Nat), q = [b, c, (n : Int)]
theorem IsPr.over {p : List Int} (h : IsPr p) (g : Leg) : IsPr (overT p g) := by
  obtain ⟨b, c, n, rfl⟩ := h
  exact ⟨b + g.bad, c + g.cost, n + 1, by simp [overT]⟩
theorem le_over {p : List Int} (h : IsPr p) {g : Leg} (hg : LegOk g) : Le p (overT p g) := by
  obtain ⟨b, c, n, rfl⟩ := h
  obtain ⟨_, h1, h2⟩ := hg
  show Le [b, c, (n : Int)] [b + g.bad, c + g.cost, (n : Int) + 1]
  rw [le3]; omega
theorem over_mono {p p' : List Int} (h : IsPr p) (h' : IsPr p') (hl : Le p p') (g : Leg) : Le (overT p g) (overT p' g) := by
  obtain ⟨b, c, n, rfl⟩ := h
  obtain ⟨b', c', n', rfl⟩ := h'
  show Le [b + g.bad, c + g.cost, (n : Int) + 1] [b' + g.bad, c' + g.cost, (n' : Int) + 1]
  rw [le3] at hl ⊢; omega
structure Least (legs : List Leg) (P : Int->Option (List Int)) : Prop where
  zero : P (-1) = some [0, 0, 0]
  pr : ∀ d q, P d = some q->IsPr q
  closed : ∀ g ∈ legs, ∀ p, P g.start = some p->∃ q, P g.to = some q /\ Le q (overT p g)
  att : ∀ d q, P d = some q->d ≠ -1->∃ g ∈ legs, g.to = d /\ ∃ p, P g.start = some p /\ q = overT p g
theorem least_le {legs : List Leg} {P P' : Int->Option (List Int)} (h : Least legs P) (h' : Least legs P') : ∀ (n : Nat) (d b c : Int), P d = some [b, c, (n : Int)]->∃ q', P' d = some q' /\ Le q' [b, c, (n : Int)] := by
  intro n
  induction n with
  | zero =>
    intro d b c hd
    by_cases e : d = -1
    · subst e
      rw [h.zero] at hd
      cases hd
      exact ⟨_, h'.zero, Le.refl _⟩
    · obtain ⟨g, hg, rfl, p, hp, hq⟩ := h.att d _ hd e
      obtain ⟨b', c', m, rfl⟩ := h.pr _ _ hp
      have h3 : ((0 : Nat) : Int) = (m : Int) + 1 := congrArg (fun l : List Int => l.getD 2 0) hq
      exact absurd h3 (by omega)
  | succ n ih =>
    intro d b c hd
    by_cases e : d = -1
    · subst e
      rw [h.zero] at hd
      cases hd
    · obtain ⟨g, hg, rfl, p, hp, hq⟩ := h.att d _ hd e
      obtain ⟨b', c', m, rfl⟩ := h.pr _ _ hp
      have h3 : ((n + 1 : Nat) : Int) = (m : Int) + 1 := congrArg (fun l : List Int => l.getD 2 0) hq
      have hm : m = n := by omega
      subst hm
      obtain ⟨p', hp', hl⟩ := ih _ _ _ hp
      obtain ⟨q', hq', hl'⟩ := h'.closed g hg p' hp'
      refine ⟨q', hq', hl'.trans ?_⟩
      rw [hq]
      exact over_mono (h'.pr _ _ hp') ⟨_, _, _, rfl⟩ hl g
theorem least_one {legs : List Leg} {P P' : Int->Option (List Int)} (h : Least legs P) (h' : Least legs P') (d : Int) : P d = P' d := by
  cases e : P d with
  | none =>
    cases e' : P' d with
    | none => rfl
    | some q' =>
      obtain ⟨b, c, n, rfl⟩ := h'.pr _ _ e'
      obtain ⟨q, hq, _⟩ := least_le h' h n d b c e'
      rw [e] at hq; cases hq
  | some q =>
    obtain ⟨b, c, n, rfl⟩ := h.pr _ _ e
    obtain ⟨q', hq', hl⟩ := least_le h h' n d b c e
    obtain ⟨b', c', n', rfl⟩ := h'.pr _ _ hq'
    obtain ⟨q2, hq2, hl2⟩ := least_le h' h n' d b' c' hq'
    rw [e] at hq2
    cases hq2
    rw [hq', Le.antisymm hl hl2]
def itemOf (p : List Int) (g : Leg) : List Int := overT p g ++ [g.to]
def putP (P : Int->Option (List Int)) (d : Int) (q : List Int) : Int->Option (List Int) := fun k => if k = d then some q else P k
theorem putP_self {P : Int->Option (List Int)} {d : Int} {q : List Int} : putP P d q d = some q := if_pos rfl
theorem putP_ne {P : Int->Option (List Int)} {d k : Int} {q : List Int} (h : k ≠ d) : putP P d q k = P k := if_neg h
structure Walk (legs : List Leg) (P : Int->Option (List Int)) (its : List (List Int)) : Prop where
  zero : P (-1) = some [0, 0, 0] ∨ ((∀ d, P d = none) /\ its = [[0, 0, 0, -1]])
  pr : ∀ d q, P d = some q->IsPr q
  att : ∀ d q, P d = some q->d ≠ -1->∃ g ∈ legs, g.to = d /\ ∃ p, P g.start = some p /\ q = overT p g
  all_ : ∀ x ∈ its, x = [0, 0, 0, -1] ∨ ∃ g ∈ legs, ∃ p, P g.start = some p /\ x = itemOf p g
  open_ : ∀ g ∈ legs, ∀ p, P g.start = some p->(∃ q, P g.to = some q /\ Le q (overT p g)) ∨ itemOf p g ∈ its
  low : ∀ d q, P d = some q->∀ x ∈ its, Le q (x.take 3)
theorem Walk.shape {legs : List Leg} {P : Int->Option (List Int)} {its : List (List Int)} (W : Walk legs P its) : ∀ x ∈ its, ∃ q d, IsPr q /\ x = q ++ [d] := fun x hx => by
  rcases W.all_ x hx with rfl | ⟨g, _, p, hp, rfl⟩
  · exact ⟨[0, 0, 0], -1, ⟨0, 0, 0, rfl⟩, rfl⟩
  · exact ⟨_, _, (W.pr _ _ hp).over g, rfl⟩
theorem take3 {q : List Int} (h : IsPr q) (d : Int) : (q ++ [d]).take 3 = q := by
  obtain ⟨b, c, n, rfl⟩ := h; rfl
theorem le_pre {q q' : List Int} {d d' : Int} (h : IsPr q) (h' : IsPr q') (hl : Le (q ++ [d]) (q' ++ [d'])) : Le q q' := by
  obtain ⟨b, c, n, rfl⟩ := h
  obtain ⟨b', c', n', rfl⟩ := h'
  exact le4 hl
theorem app1_inj {q q' : List Int} {d d' : Int} (h : IsPr q) (h' : IsPr q') (e : q ++ [d] = q' ++ [d']) : q = q' /\ d = d' := by
  obtain ⟨b, c, n, rfl⟩ := h
  obtain ⟨b', c', n', rfl⟩ := h'
  simp at e
  obtain ⟨e1, e2, e3, e4⟩ := e
  subst e1 e2 e4
  have : n = n' := by omega
  subst this
  exact ⟨rfl, rfl⟩
theorem Walk.skip {legs : List Leg} {P : Int->Option (List Int)} {its its' : List (List Int)} {q q0 : List Int} {d : Int} (W : Walk legs P its) (hq : IsPr q) (hp : its.Perm ((q ++ [d]) :: its')) (hd : P d = some q0) : Walk legs P its' := by
  have hin : ∀ x ∈ its', x ∈ its := fun x h => hp.mem_iff.mpr (by simp [h])
  have hz : P (-1) = some [0, 0, 0] := by
    rcases W.zero with h | ⟨h, _⟩
    · exact h
    · rw [h d] at hd; cases hd
  refine ⟨.inl hz, W.pr, W.att, fun x h => W.all_ x (hin x h), fun g hg p hpg => ?_, fun k r hk x hx => W.low k r hk x (hin x hx)⟩
  rcases W.open_ g hg p hpg with h | h
  · exact .inl h
  · rcases List.mem_cons.mp (hp.mem_iff.mp h) with e | h
    · obtain ⟨e1, e2⟩ := app1_inj ((W.pr _ _ hpg).over g) hq e
      have := W.low d q0 hd (q ++ [d]) (hp.mem_iff.mpr (by simp))
      rw [take3 hq] at this
      exact .inl ⟨q0, by rw [e2]; exact hd, by rw [e1]; exact this⟩
    · exact .inr h
theorem Walk.step {legs : List Leg} {P : Int->Option (List Int)} {its its' its2 : List (List Int)} {q : List Int} {d : Int} (W : Walk legs P its) (hok : ∀ g ∈ legs, LegOk g) (hq : IsPr q) (hp : its.Perm ((q ++ [d]) :: its')) (hmin : ∀ x ∈ its, Le (q ++ [d]) x) (hd : P d = none)
    (hp2 : its2.Perm (its' ++ (legs.filter fun g => decide (g.start = d)).map (itemOf q))) : Walk legs (putP P d q) its2 := by
  have hin : ∀ x ∈ its', x ∈ its := fun x h => hp.mem_iff.mpr (by simp [h])
  have hm : q ++ [d] ∈ its := hp.mem_iff.mpr (by simp)
  have hold : ∀ k r, P k = some r->putP P d q k = some r := fun k r h => by
    rw [putP_ne (fun e => by rw [e, hd] at h; cases h)]; exact h
  have hnew : ∀ k r, putP P d q k = some r->(k = d /\ r = q) ∨ (k ≠ d /\ P k = some r) := fun k r h => by
    by_cases e : k = d
    · subst e; rw [putP_self] at h; cases h; exact .inl ⟨rfl, rfl⟩
    · rw [putP_ne e] at h; exact .inr ⟨e, h⟩
  have hmem2 : ∀ x, x ∈ its2 ↔ x ∈ its' ∨ ∃ g ∈ legs, g.start = d /\ x = itemOf q g := fun x => by
    rw [hp2.mem_iff, List.mem_append, List.mem_map]
    constructor
    · rintro (h | ⟨g, hg, rfl⟩)
      · exact .inl h
      · have := List.mem_filter.mp hg
        exact .inr ⟨g, this.1, of_decide_eq_true this.2, rfl⟩
    · rintro (h | ⟨g, hg, h1, rfl⟩)
      · exact .inl h
      · exact .inr ⟨g, List.mem_filter.mpr ⟨hg, decide_eq_true h1⟩, rfl⟩
  have hfrom := W.all_ _ hm
  refine ⟨?_, fun k r h => ?_, fun k r h hk => ?_, fun x hx => ?_, fun g hg p hpg => ?_, fun k r h x hx => ?_⟩
  · left
    rcases W.zero with h | ⟨h, hi⟩
    · exact hold _ _ h
    · rw [hi] at hm
      have e := List.mem_singleton.mp hm
      obtain ⟨e1, e2⟩ := app1_inj hq ⟨0, 0, 0, rfl⟩ (show q ++ [d] = ([0, 0, ((0 : Nat) : Int)] : List Int) ++ [-1] from e)
      subst e1 e2
      exact putP_self
  · rcases hnew k r h with ⟨_, rfl⟩ | ⟨_, h⟩
    · exact hq
    · exact W.pr k r h
  · rcases hnew k r h with ⟨rfl, rfl⟩ | ⟨_, h⟩
    · rcases hfrom with e | ⟨g, hg, p, hpg, e⟩
      · obtain ⟨_, e2⟩ := app1_inj hq ⟨0, 0, 0, rfl⟩ (show r ++ [k] = ([0, 0, ((0 : Nat) : Int)] : List Int) ++ [-1] from e)
        exact absurd e2 hk
      · obtain ⟨e1, e2⟩ := app1_inj hq ((W.pr _ _ hpg).over g) e
        exact ⟨g, hg, e2.symm, p, hold _ _ hpg, e1⟩
    · obtain ⟨g, hg, h1, p, hpg, h2⟩ := W.att k r h hk
      exact ⟨g, hg, h1, p, hold _ _ hpg, h2⟩
  · rcases (hmem2 x).mp hx with hx | ⟨g, hg, h1, rfl⟩
    · rcases W.all_ x (hin x hx) with h | ⟨g, hg, p, hpg, h⟩
      · exact .inl h
      · exact .inr ⟨g, hg, p, hold _ _ hpg, h⟩
    · exact .inr ⟨g, hg, q, by rw [h1]; exact putP_self, rfl⟩
  · rcases hnew _ _ hpg with ⟨h1, rfl⟩ | ⟨h1, hpg⟩
    · exact .inr ((hmem2 _).mpr (.inr ⟨g, hg, h1, rfl⟩))
    · rcases W.open_ g hg p hpg with ⟨r, h2, h3⟩ | h2
      · exact .inl ⟨r, hold _ _ h2, h3⟩
      · rcases List.mem_cons.mp (hp.mem_iff.mp h2) with e | h2
        · obtain ⟨e1, e2⟩ := app1_inj ((W.pr _ _ hpg).over g) hq e
          exact .inl ⟨q, by rw [e2]; exact putP_self, by rw [e1]; exact Le.refl _⟩
        · exact .inr ((hmem2 _).mpr (.inl h2))
  · have hqx : Le q (x.take 3) := by
      rcases (hmem2 x).mp hx with hx | ⟨g, hg, h1, rfl⟩
      · obtain ⟨q', d', hq', rfl⟩ := W.shape x (hin x hx)
        rw [take3 hq']
        exact le_pre hq hq' (hmin _ (hin _ hx))
      · unfold itemOf
        rw [take3 (hq.over g)]
        exact le_over hq (hok g hg)
    rcases hnew k r h with ⟨_, rfl⟩ | ⟨_, h⟩
    · exact hqx
    · have := W.low k r h _ hm
      rw [take3 hq] at this
      exact this.trans hqx
theorem Walk.done {legs : List Leg} {P : Int->Option (List Int)} (W : Walk legs P []) : Least legs P := by
  refine ⟨?_, W.pr, fun g hg p hp => ?_, W.att⟩
  · rcases W.zero with h | ⟨_, h⟩
    · exact h
    · cases h
  · rcases W.open_ g hg p hp with h | h
    · exact h
    · cases h
theorem Walk.start (legs : List Leg) : Walk legs (fun _ => none) [[0, 0, 0, -1]] := by
  refine ⟨.inr ⟨fun _ => rfl, rfl⟩, fun _ _ h => ?_, fun _ _ h => ?_, fun x h => .inl (List.mem_singleton.mp h), fun _ _ _ h => ?_, fun _ _ h => ?_⟩ <;> cases h
def ahead (legs : List Leg) (P : Int->Option (List Int)) : Nat := (legs.filter fun g => (P g.start).isNone).length
theorem ahead_put {legs : List Leg} {P : Int->Option (List Int)} {d : Int} {q : List Int} (hd : P d = none) : ahead legs (putP P d q) + (legs.filter fun g => decide (g.start = d)).length = ahead legs P := by
  unfold ahead
  induction legs with
  | nil => rfl
  | cons g r ih =>
    simp only [List.filter_cons]
    by_cases e : g.start = d
    · rw [e, putP_self, hd]; simp; omega
    · rw [putP_ne e]
      simp only [e, decide_false]
      cases h : P g.start with
      | none => simp; omega
      | some _ => simp; omega
open PySem
theorem nd_len {α : Type} [DecidableEq α] : ∀ {l m : List α}, l.Nodup->(∀ x ∈ l, x ∈ m)->l.length ≤ m.length
  | [], _, _, _ => Nat.zero_le _
  | x :: l, m, hn, h => by
    have hx : x ∈ m := h x (by simp)
    have hn' := List.nodup_cons.mp hn
    have ih := nd_len (l := l) (m := m.erase x) hn'.2 fun y hy => (List.mem_erase_of_ne (show y ≠ x from fun e => hn'.1 (by rw [← e]; exact hy))).mpr (h y (by simp [hy]))
    rw [List.length_erase_of_mem hx] at ih
    have := List.length_pos_of_mem hx
    simp; omega
theorem valV_there {kvs : List (Key × V)} {k : Key} : (valV kvs k).isSome = true ↔ k ∈ kvs.map (·.1) := by
  unfold valV
  rw [Option.isSome_map, List.find?_isSome, List.mem_map]
  constructor
  · rintro ⟨x, hx, e⟩; exact ⟨x, hx, by simpa using e⟩
  · rintro ⟨x, hx, e⟩; exact ⟨x, hx, by simpa using e⟩
theorem valV_nd : ∀ {kvs : List (Key × V)} {k : Key} {v : V}, (kvs.map (·.1)).Nodup->(k, v) ∈ kvs->valV kvs k = some v
  | [], _, _, _, h => by cases h
  | (k', v') :: r, k, v, hn, h => by
    rw [List.map_cons, List.nodup_cons] at hn
    unfold valV
    rw [List.find?_cons]
    rcases List.mem_cons.mp h with e | h
    · cases e; simp
    · have hne : k' ≠ k := fun e => hn.1 (by rw [e]; exact List.mem_map.mpr ⟨_, h, rfl⟩)
      simp only [hne, decide_false]
      exact valV_nd hn.2 h
def RelP (H : Hp) : Option V->Option (List Int)->Prop
  | none, none => True
  | some v, some q => ∃ a, v = .ref a /\ H a = some (.tup (q.map V.int))
  | _, _ => False
theorem RelP.mono {H H' : Hp} (m : ∀ t xs, H t = some (.tup xs)->H' t = some (.tup xs)) : ∀ {o : Option V} {p : Option (List Int)}, RelP H o p->RelP H' o p
  | none, none, _ => trivial
  | some _, some _, ⟨a, e, h⟩ => ⟨a, e, m _ _ h⟩
  | none, some _, h => h.elim
  | some _, none, h => h.elim
theorem RelP.some_of {H : Hp} {o : Option V} {q : List Int} (h : RelP H o (some q)) : ∃ a, o = some (.ref a) /\ H a = some (.tup (q.map V.int)) := by
  cases o with
  | none => exact h.elim
  | some v => obtain ⟨a, rfl, h⟩ := h; exact ⟨a, rfl, h⟩
theorem RelP.none_of {H : Hp} {o : Option V} (h : RelP H o none) : o = none := by
  cases o with
  | none => rfl
  | some v => exact h.elim
theorem RelP.is {H : Hp} {o : Option V} {p : Option (List Int)} (h : RelP H o p) : o.isSome = p.isSome := by
  cases o <;> cases p <;> first | rfl | exact h.elim
structure PrAt (H : Hp) (kvs : List (Key × V)) (P : Int->Option (List Int)) : Prop where
  nd : (kvs.map (·.1)).Nodup
  alli : AllI kvs
  val : ∀ i, RelP H (valV kvs (Sum.inl i)) (P i)
section
variable {H H' : Hp} {kvs ka kb : List (Key × V)} {P P' : Int->Option (List Int)}
theorem PrAt.mono (R : PrAt H kvs P) (m : ∀ t xs, H t = some (.tup xs)->H' t = some (.tup xs)) : PrAt H' kvs P := ⟨R.nd, R.alli, fun i => (R.val i).mono m⟩
theorem PrAt.nil : PrAt H [] (fun _ => none) := ⟨List.nodup_nil, AllI.nil, fun i => trivial⟩
theorem PrAt.put (R : PrAt H kvs P) {d : Int} {q : List Int} {a : Addr} (hd : P d = none) (ha : H a = some (.tup (q.map V.int))) : PrAt H (putK kvs (Sum.inl d) (.ref a)) (putP P d q) := by
  have hn : valV kvs (Sum.inl d) = none := by have := R.val d; rw [hd] at this; exact this.none_of
  refine ⟨nd_putK _ R.nd hn, R.alli.put d _, fun i => ?_⟩
  rw [valV_put]
  by_cases e : i = d
  · subst e; rw [if_pos rfl, putP_self]; exact ⟨a, rfl, ha⟩
  · rw [if_neg (fun h => e (Sum.inl.inj h)), putP_ne e]; exact R.val i
def dropP (P : Int->Option (List Int)) (d : Int) : Int->Option (List Int) := fun k => if k = d then none else P k
theorem PrAt.drop (R : PrAt H kvs P) (d : Int) : PrAt H (dropK kvs (Sum.inl d)) (dropP P d) := by
  refine ⟨nd_dropK R.nd, R.alli.drop _, fun i => ?_⟩
  rw [valV_drop]
  by_cases e : i = d
  · subst e; rw [if_pos rfl]; unfold dropP; rw [if_pos rfl]; trivial
  · rw [if_neg (fun h => e (Sum.inl.inj h))]; unfold dropP; rw [if_neg e]; exact R.val i
end
theorem SeqEq.intsT {K : PySem.W.Frag} {H : Hp} {a c : Addr} {xs ys : List Int} (h1 : SqT K H a (xs.map V.int)) (h2 : SqT K H c (ys.map V.int)) : SeqEq K H (EqI K H 0) (.ref a) (.ref c) (decide (xs = ys)) := by
  refine ⟨a, c, _, _, fun j => decide (xs[j]? = ys[j]?), rfl, rfl, .inr (.inr ⟨h1, h2, fun j x' y' e1 e2 => ?_, ?_⟩)⟩
  · rw [List.getElem?_map] at e1 e2
    obtain ⟨x, ex, rfl⟩ := Option.map_eq_some_iff.mp e1
    obtain ⟨y, ey, rfl⟩ := Option.map_eq_some_iff.mp e2
    refine .inl ⟨rfl, rfl, ?_⟩
    show decide (xs[j]? = ys[j]?) = eqV (.int x) (.int y)
    rw [ex, ey]
    show decide (some x = some y) = (x == y)
    rw [Bool.eq_iff_iff, decide_eq_true_iff, beq_iff_eq]
    exact ⟨fun h => Option.some.inj h, fun h => by rw [h]⟩
  · rw [List.length_map, List.length_map, Bool.eq_iff_iff, decide_eq_true_iff, Bool.and_eq_true, List.all_eq_true]
    constructor
    · rintro rfl; exact ⟨fun j _ => by simp, by simp⟩
    · rintro ⟨h, hl⟩
      have hl : xs.length = ys.length := by simpa using hl
      refine List.ext_getElem? fun j => ?_
      by_cases hj : j < xs.length
      · exact of_decide_eq_true (h j (List.mem_range.mpr (by omega)))
      · rw [List.getElem?_eq_none (by omega), List.getElem?_eq_none (by omega)]
theorem nd_put {kvs : List (Key × V)} {k : Key} (v : V) (hn : (kvs.map (·.1)).Nodup) : ((putK kvs k v).map (·.1)).Nodup := by
  cases h : valV kvs k with
  | none => exact nd_putK v hn h
  | some y =>
    unfold putK
    rw [valV_any, h]
    simp only [Option.isSome_some, if_true, List.map_map]
    rw [show ((fun x : Key × V => x.1) ∘ fun kv : Key × V => if kv.1 = k then (kv.1, v) else kv) = fun x => x.1 from funext fun kv => by simp only [Function.comp]; split <;> rfl]
    exact hn
structure SetAt (kvs : List (Key × V)) (S : Int->Prop) : Prop where
  nd : (kvs.map (·.1)).Nodup
  alli : AllI kvs
  val : ∀ i, (valV kvs (Sum.inl i)).isSome = true ↔ S i
theorem SetAt.nil : SetAt [] (fun _ => False) := ⟨List.nodup_nil, AllI.nil, fun i => ⟨fun h => (by cases h), fun h => h.elim⟩⟩
theorem SetAt.put {kvs : List (Key × V)} {S : Int->Prop} (h : SetAt kvs S) (d : Int) (v : V) : SetAt (putK kvs (Sum.inl d) v) (fun i => S i ∨ i = d) := by
  refine ⟨nd_put _ h.nd, h.alli.put d _, fun i => ?_⟩
  rw [valV_put]
  by_cases e : i = d
  · subst e; simp
  · rw [if_neg (fun z => e (Sum.inl.inj z)), h.val i]; simp [e]
theorem KeysAt.reverse {tu : Bool} {H : Hp} {vs : List V} {its : List (List Int)} (R : KeysAt tu H vs its) : KeysAt tu H vs.reverse its.reverse :=
  ⟨by rw [List.length_reverse, List.length_reverse, R.len], fun i v ks e1 e2 => by
    have h1 := (List.getElem?_eq_some_iff.mp e1).1
    have h2 := (List.getElem?_eq_some_iff.mp e2).1
    rw [List.length_reverse] at h1 h2
    rw [List.getElem?_reverse h1] at e1
    rw [List.getElem?_reverse h2, ← R.len] at e2
    exact R.get _ v ks e1 e2⟩
open PySem
structure Near (P B : Int->Option (List Int)) : Prop where
  zero : B (-1) = some [0, 0, 0]
  pr : ∀ d q, B d = some q->IsPr q
  low : ∀ d q, B d = some q->∃ p, P d = some p /\ Le p q
def Sett (P B : Int->Option (List Int)) (r : Nat) : Prop := ∀ (d b c : Int) (n : Nat), P d = some [b, c, (n : Int)]->n ≤ r->B d = some [b, c, (n : Int)]
def ClosedP (B : Int->Option (List Int)) (g : Leg) : Prop := ∀ p, B g.start = some p->∃ q, B g.to = some q /\ Le q (overT p g)
def DoneP (P B : Int->Option (List Int)) (r : Nat) (g : Leg) : Prop := ∀ (b c : Int) (n : Nat), P g.start = some [b, c, (n : Int)]->n ≤ r->∃ q, B g.to = some q /\ Le q (overT [b, c, (n : Int)] g)
def LessP (B : Int->Option (List Int)) (d : Int) (q : List Int) : Prop := ∀ q', B d = some q'->HT.lexLt q q' = true
theorem le_of_lt3 {p q : List Int} (hp : IsPr p) (hq : IsPr q) (h : HT.lexLt p q = true) : Le p q := by
  obtain ⟨b, c, n, rfl⟩ := hp
  obtain ⟨b', c', n', rfl⟩ := hq
  rw [lex3, decide_eq_true_iff] at h
  rw [le3]; omega
theorem lt_not_le {p q : List Int} (h : HT.lexLt p q = true) (h' : Le q p) : False := by
  unfold Le at h'; rw [h] at h'; cases h'
section
variable {legs : List Leg} {P B : Int->Option (List Int)} {g : Leg} {p : List Int} {r : Nat}
theorem Near.start (LP : Least legs P) : Near P (putP (fun _ => none) (-1) [0, 0, 0]) := by
  refine ⟨putP_self, fun d q h => ?_, fun d q h => ?_⟩
  · by_cases e : d = -1
    · subst e; rw [putP_self] at h; cases h; exact ⟨0, 0, 0, rfl⟩
    · rw [putP_ne e] at h; cases h
  · by_cases e : d = -1
    · subst e; rw [putP_self] at h; cases h; exact ⟨_, LP.zero, Le.refl _⟩
    · rw [putP_ne e] at h; cases h
theorem Sett.start (LP : Least legs P) : Sett P (putP (fun _ => none) (-1) [0, 0, 0]) 0 := by
  intro d b c n hd hn
  have : n = 0 := by omega
  subst this
  by_cases e : d = -1
  · subst e; rw [LP.zero] at hd; cases hd; exact putP_self
  · obtain ⟨g, hg, rfl, p, hp, hq⟩ := LP.att d _ hd e
    obtain ⟨b', c', m, rfl⟩ := LP.pr _ _ hp
    have h3 : ((0 : Nat) : Int) = (m : Int) + 1 := congrArg (fun l : List Int => l.getD 2 0) hq
    exact absurd h3 (by omega)
theorem Near.over (LP : Least legs P) (h : Near P B) (hg : g ∈ legs) (hp : B g.start = some p) : ∃ q, P g.to = some q /\ Le q (overT p g) := by
  obtain ⟨p0, hp0, hl⟩ := h.low _ _ hp
  obtain ⟨q, hq, hl2⟩ := LP.closed g hg p0 hp0
  exact ⟨q, hq, hl2.trans (over_mono (LP.pr _ _ hp0) (h.pr _ _ hp) hl g)⟩
theorem Near.put (LP : Least legs P) (h : Near P B) (hg : g ∈ legs) (hto : g.to ≠ -1) (hp : B g.start = some p) : Near P (putP B g.to (overT p g)) := by
  refine ⟨by rw [putP_ne (Ne.symm hto)]; exact h.zero, fun d q hd => ?_, fun d q hd => ?_⟩
  · by_cases e : d = g.to
    · subst e; rw [putP_self] at hd; cases hd; exact (h.pr _ _ hp).over g
    · rw [putP_ne e] at hd; exact h.pr d q hd
  · by_cases e : d = g.to
    · subst e; rw [putP_self] at hd; cases hd; exact h.over LP hg hp
    · rw [putP_ne e] at hd; exact h.low d q hd
theorem Sett.put (LP : Least legs P) (h : Near P B) (hs : Sett P B r) (hg : g ∈ legs) (hp : B g.start = some p) (hl : LessP B g.to (overT p g)) (hc : ∀ (d b c : Int) (n : Nat), P d = some [b, c, (n : Int)]->n ≤ legs.length) : Sett P (putP B g.to (overT p g)) r /\ r < legs.length := by
  obtain ⟨q, hq, hle⟩ := h.over LP hg hp
  obtain ⟨b, c, n, rfl⟩ := LP.pr _ _ hq
  have hn : r < n := by
    refine Nat.lt_of_not_le fun hn => ?_
    exact lt_not_le (hl _ (hs _ b c n hq hn)) hle
  refine ⟨fun d b' c' m hd hm => ?_, by have := hc _ _ _ _ hq; omega⟩
  by_cases e : d = g.to
  · subst e
    rw [hq] at hd
    have h3 : (n : Int) = (m : Int) := congrArg (fun l : List Int => l.getD 2 0) (Option.some.inj hd)
    omega
  · rw [putP_ne e]; exact hs d b' c' m hd hm
theorem DoneP.put (h : Near P B) (hp : B g.start = some p) (hl : LessP B g.to (overT p g)) {g' : Leg} (hd : DoneP P B r g') : DoneP P (putP B g.to (overT p g)) r g' := by
  intro b c n h1 h2
  obtain ⟨q, hq, hle⟩ := hd b c n h1 h2
  by_cases e : g'.to = g.to
  · rw [e] at hq ⊢
    rw [putP_self]
    exact ⟨_, rfl, (le_of_lt3 ((h.pr _ _ hp).over g) (h.pr _ _ hq) (hl q hq)).trans hle⟩
  · rw [putP_ne e]; exact ⟨q, hq, hle⟩
theorem DoneP.new (hs : Sett P B r) (hp : B g.start = some p) : DoneP P (putP B g.to (overT p g)) r g := by
  intro b c n h1 h2
  have := hs _ _ _ _ h1 h2
  rw [hp] at this
  cases this
  exact ⟨_, putP_self, Le.refl _⟩
theorem DoneP.old (hs : Sett P B r) (hc : ClosedP B g) : DoneP P B r g := fun b c n h1 h2 => hc _ (hs _ _ _ _ h1 h2)
theorem Sett.next (LP : Least legs P) (h : Near P B) (hs : Sett P B r) (hd : ∀ g ∈ legs, DoneP P B r g) : Sett P B (r + 1) := by
  intro d b c n hP hn
  by_cases e : n ≤ r
  · exact hs d b c n hP e
  · have : n = r + 1 := by omega
    subst this
    have e1 : d ≠ -1 := fun e => by rw [e, LP.zero] at hP; cases hP
    obtain ⟨g, hg, rfl, p, hp, hq⟩ := LP.att d _ hP e1
    obtain ⟨b', c', m, rfl⟩ := LP.pr _ _ hp
    have h3 : ((r + 1 : Nat) : Int) = (m : Int) + 1 := congrArg (fun l : List Int => l.getD 2 0) hq
    obtain ⟨q, hB, hle⟩ := hd g hg b' c' m hp (by omega)
    obtain ⟨p', hp', hl'⟩ := h.low _ _ hB
    rw [hP] at hp'
    cases hp'
    rw [← hq] at hle
    rw [hB, Le.antisymm hle hl']
theorem Near.done (LP : Least legs P) (h : Near P B) (hc : ∀ g ∈ legs, ClosedP B g) : B = P := by
  have key : ∀ (n : Nat) (d b c : Int), P d = some [b, c, (n : Int)]->∃ q, B d = some q /\ Le q [b, c, (n : Int)] := by
    intro n
    induction n with
    | zero =>
      intro d b c hd
      by_cases e : d = -1
      · subst e; rw [LP.zero] at hd; cases hd; exact ⟨_, h.zero, Le.refl _⟩
      · obtain ⟨g, hg, rfl, p, hp, hq⟩ := LP.att d _ hd e
        obtain ⟨b', c', m, rfl⟩ := LP.pr _ _ hp
        have h3 : ((0 : Nat) : Int) = (m : Int) + 1 := congrArg (fun l : List Int => l.getD 2 0) hq
        exact absurd h3 (by omega)
    | succ n ih =>
      intro d b c hd
      have e : d ≠ -1 := fun e => by rw [e, LP.zero] at hd; cases hd
      obtain ⟨g, hg, rfl, p, hp, hq⟩ := LP.att d _ hd e
      obtain ⟨b', c', m, rfl⟩ := LP.pr _ _ hp
      have h3 : ((n + 1 : Nat) : Int) = (m : Int) + 1 := congrArg (fun l : List Int => l.getD 2 0) hq
      have hm : m = n := by omega
      subst hm
      obtain ⟨p', hp', hl⟩ := ih _ _ _ hp
      obtain ⟨q', hq', hl'⟩ := hc g hg p' hp'
      refine ⟨q', hq', hl'.trans ?_⟩
      rw [hq]
      exact over_mono (h.pr _ _ hp') ⟨_, _, _, rfl⟩ hl g
  funext d
  cases hP : P d with
  | none =>
    cases hB : B d with
    | none => rfl
    | some q => obtain ⟨p, hp, _⟩ := h.low d q hB; rw [hP] at hp; cases hp
  | some q =>
    obtain ⟨b, c, n, rfl⟩ := LP.pr _ _ hP
    obtain ⟨q', hq', hl⟩ := key n d b c hP
    obtain ⟨p, hp, hl'⟩ := h.low _ _ hq'
    rw [hP] at hp
    cases hp
    rw [hq', Le.antisymm hl hl']
theorem Near.only (LP : Least legs P) (h : Near P B) {d : Int} (hd : (B d).isSome = true) : d = -1 ∨ ∃ g ∈ legs, g.to = d := by
  cases hB : B d with
  | none => rw [hB] at hd; cases hd
  | some q =>
    obtain ⟨p, hp, _⟩ := h.low d q hB
    by_cases e : d = -1
    · exact .inl e
    · obtain ⟨g, hg, h1, _⟩ := LP.att d p hp e
      exact .inr ⟨g, hg, h1⟩
end
section
variable {H : Hp} {kvs : List (Key × V)} {P B : Int->Option (List Int)}
theorem PrAt.putG (R : PrAt H kvs B) {d : Int} {q : List Int} {a : Addr} (ha : H a = some (.tup (q.map V.int))) : PrAt H (putK kvs (Sum.inl d) (.ref a)) (putP B d q) := by
  refine ⟨nd_put _ R.nd, R.alli.put d _, fun i => ?_⟩
  rw [valV_put]
  by_cases e : i = d
  · subst e; rw [if_pos rfl, putP_self]; exact ⟨a, rfl, ha⟩
  · rw [if_neg (fun h => e (Sum.inl.inj h)), putP_ne e]; exact R.val i
theorem PrAt.few {legs : List Leg} (R : PrAt H kvs B) (h : ∀ d, (B d).isSome = true->d = -1 ∨ ∃ g ∈ legs, g.to = d) : kvs.length ≤ legs.length + 1 := by
  have := nd_len R.nd (m := (Sum.inl (-1) : Key) :: legs.map fun g => (Sum.inl g.to : Key)) fun k hk => by
    obtain ⟨kv, hkv, rfl⟩ := List.mem_map.mp hk
    obtain ⟨n, hn⟩ := R.alli kv hkv
    rw [hn] at hk ⊢
    have h1 := valV_there.mpr hk
    rw [(R.val n).is] at h1
    rcases h n h1 with rfl | ⟨g, hg, rfl⟩
    · exact List.mem_cons_self ..
    · exact List.mem_cons_of_mem _ (List.mem_map.mpr ⟨g, hg, rfl⟩)
  simpa using this
theorem PrAt.start {a : Addr} (ha : H a = some (.tup (([0, 0, 0] : List Int).map V.int))) : PrAt H [((Sum.inl (-1) : Key), V.ref a)] (putP (fun _ => none) (-1) [0, 0, 0]) := PrAt.nil.put rfl ha
end
theorem min_ex : ∀ {l : List (List Int)}, l ≠ []->∃ x ∈ l, ∀ y ∈ l, Le x y
  | [], h => absurd rfl h
  | [x], _ => ⟨x, by simp, fun y hy => by rw [List.mem_singleton.mp hy]; exact Le.refl _⟩
  | x :: z :: l, _ => by
    obtain ⟨m, hm, h⟩ := min_ex (l := z :: l) (by simp)
    rcases Le.total x m with hx | hx
    · refine ⟨x, by simp, fun y hy => ?_⟩
      rcases List.mem_cons.mp hy with e | hy
      · rw [e]; exact Le.refl _
      · exact hx.trans (h y hy)
    · refine ⟨m, List.mem_cons_of_mem _ hm, fun y hy => ?_⟩
      rcases List.mem_cons.mp hy with e | hy
      · rw [e]; exact hx
      · exact h y hy
theorem least_exW {legs : List Leg} (hok : ∀ g ∈ legs, LegOk g) : ∀ (m : Nat) (P : Int->Option (List Int)) (its : List (List Int)), Walk legs P its->ahead legs P + its.length = m->∃ P', Least legs P' := by
  intro m
  induction m with
  | zero =>
    intro P its W h
    have : its = [] := List.length_eq_zero_iff.mp (by omega)
    subst this
    exact ⟨P, W.done⟩
  | succ m ih =>
    intro P its W h
    by_cases e : its = []
    · subst e; exact ⟨P, W.done⟩
    · obtain ⟨x, hx, hmin⟩ := min_ex e
      obtain ⟨q, d, hq, rfl⟩ := W.shape x hx
      have hp := List.perm_cons_erase hx
      have hl := hp.length_eq
      simp only [List.length_cons] at hl
      cases hd : P d with
      | some q0 => exact ih P _ (W.skip hq hp hd) (by omega)
      | none =>
        have hap := ahead_put (legs := legs) (q := q) hd
        refine ih _ _ (W.step hok hq hp hmin hd (List.Perm.refl _)) ?_
        rw [List.length_append, List.length_map]
        omega
theorem least_ex {legs : List Leg} (hok : ∀ g ∈ legs, LegOk g) : ∃ P, Least legs P := least_exW hok _ _ _ (Walk.start legs) rfl
open PySem PySem.Spec PyProof.Rows
abbrev wN : PySem.Str := PySem.Str.ofString "none"
abbrev wW : PySem.Str := PySem.Str.ofString "whole"
abbrev wS : PySem.Str := PySem.Str.ofString "since"
abbrev wL : PySem.Str := PySem.Str.ofString "last"
theorem SqB.len {K : PySem.W.Frag} {tu : Bool} {H : Hp} {l : Addr} {xs : List V} (h : SqB K tu H l xs) : SqL K H l xs ∨ SqT K H l xs := by
  cases tu
  · exact .inl h
  · exact .inr h
def lastGo (p : PySem.Str->Bool) : List PySem.Str->Option Nat
  | [] => none
  | w :: r => if p w = true then some r.length else lastGo p r
def lastIx (p : PySem.Str->Bool) (ws : List PySem.Str) : Option Nat := lastGo p ws.reverse
def isW (w : PySem.Str) : Bool := decide (w = wW)
def isK (w : PySem.Str) : Bool := decide (w ≠ wN)
structure BasesOk (kvs : List (Key × V)) (ws : List PySem.Str) : Prop where
  w : valV kvs (Sum.inr wW) = some (.int (-1))
  s : valV kvs (Sum.inr wS) = (lastIx isW ws).map fun i => V.int (i : Int)
  l : valV kvs (Sum.inr wL) = (lastIx isK ws).map fun i => V.int (i : Int)
  n : valV kvs (Sum.inr wN) = none
structure RowsTu (H : Hp) (L : List Addr) (xss : List (List Int)) : Prop where
  len : L.length = xss.length
  get : ∀ (i : Nat) a xs, L[i]? = some a->xss[i]? = some xs->H a = some (.tup (xs.map V.int))
theorem RowsTu.keep {H H' : Hp} {L : List Addr} {xss : List (List Int)} (R : RowsTu H L xss) (h : ∀ t xs, H t = some (.tup xs)->H' t = some (.tup xs)) : RowsTu H' L xss :=
  ⟨R.len, fun i a xs e1 e2 => h _ _ (R.get i a xs e1 e2)⟩
def tfs (a b c : Addr) : List (Str × V) := [("sizes", V.ref a), ("weights", V.ref b), ("rates", V.ref c)]
def TaskAt (C : Addr) (H : Hp) (p : Addr) (sizes : List (List Int)) (weights rates : List Int) : Prop :=
  ∃ dx t1 t2 t3 TL, H p = some (.ins C dx (tfs t1 t2 t3)) /\ H t1 = some (.tup (TL.map V.ref)) /\ RowsTu H TL sizes /\ H t2 = some (.tup (weights.map V.int)) /\ H t3 = some (.tup (rates.map V.int))
theorem TaskAt.keep {C : Addr} {H H' : Hp} {p : Addr} {sizes : List (List Int)} {weights rates : List Int} (h : TaskAt C H p sizes weights rates) (s : Same H H') : TaskAt C H' p sizes weights rates := by
  obtain ⟨dx, t1, t2, t3, TL, h1, h2, h3, h4, h5⟩ := h
  exact ⟨dx, t1, t2, t3, TL, s _ _ h1, s _ _ h2, h3.keep fun t xs e => s _ _ e, s _ _ h4, s _ _ h5⟩
theorem BasesOk.filter {kvs : List (Key × V)} {ws : List PySem.Str} (B : BasesOk kvs ws) : ([wW, wS, wL].filter fun w => (valV kvs (Sum.inr w)).isSome) = [wW] ++ ((if lastIx isW ws = none then [] else [wS]) ++ (if lastIx isK ws = none then [] else [wL])) := by
  rw [List.filter_cons, List.filter_cons, List.filter_cons, List.filter_nil, B.w, B.s, B.l]
  cases lastIx isW ws <;> cases lastIx isK ws <;> simp
open PySem PySem.Spec PyProof.Rows
def bOf (pre : List PySem.Str) (w : PySem.Str) : Option Int :=
  if w = wW then some (-1) else if w = wS then (lastIx isW pre).map (fun i : Nat => (i : Int)) else if w = wL then (lastIx isK pre).map (fun i : Nat => (i : Int)) else none
theorem bOf_N (pre : List PySem.Str) : bOf pre wN = none := by
  unfold bOf; rw [if_neg (by decide +kernel), if_neg (by decide +kernel), if_neg (by decide +kernel)]
theorem bOf_W (pre : List PySem.Str) : bOf pre wW = some (-1) := by unfold bOf; rw [if_pos rfl]
theorem bOf_S (pre : List PySem.Str) : bOf pre wS = (lastIx isW pre).map (fun i : Nat => (i : Int)) := by
  unfold bOf; rw [if_neg (by decide +kernel), if_pos rfl]
theorem bOf_L (pre : List PySem.Str) : bOf pre wL = (lastIx isK pre).map (fun i : Nat => (i : Int)) := by
  unfold bOf; rw [if_neg (by decide +kernel), if_neg (by decide +kernel), if_pos rfl]
def VW (ws : List PySem.Str) : Prop := ∀ (d : Nat) w, ws[d]? = some w->w = wN ∨ w = wW ∨ (w = wS /\ lastIx isW (ws.take d) ≠ none) ∨ (w = wL /\ lastIx isK (ws.take d) ≠ none)
theorem VW.nil : VW [] := fun d w h => by simp at h
theorem VW.take {ws : List PySem.Str} (h : VW ws) (k : Nat) : VW (ws.take k) := fun d w e => by
  have hd : d < k := by
    have := (List.getElem?_eq_some_iff.mp e).1
    rw [List.length_take] at this; omega
  rw [List.getElem?_take_of_lt hd] at e
  rw [List.take_take, Nat.min_eq_left (by omega)]
  exact h d w e
theorem BasesOk.get {kvs : List (Key × V)} {pre : List PySem.Str} (B : BasesOk kvs pre) {w : PySem.Str} (h : w = wN ∨ w = wW ∨ w = wS ∨ w = wL) : valV kvs (Sum.inr w) = (bOf pre w).map V.int := by
  rcases h with rfl | rfl | rfl | rfl
  · rw [B.n, bOf_N]; rfl
  · rw [B.w, bOf_W]; rfl
  · rw [B.s, bOf_S]; cases lastIx isW pre <;> rfl
  · rw [B.l, bOf_L]; cases lastIx isK pre <;> rfl
open PySem PySem.Spec PyProof.Rows
def VN (weights : List Int) (ws : List PySem.Str) : Prop := ∀ d : Nat, ws[d]? = some wN->weights.getD d 0 = 0
theorem VN.nil {weights : List Int} : VN weights [] := fun d h => by simp at h
theorem VN.take {weights : List Int} {ws : List PySem.Str} (h : VN weights ws) (k : Nat) : VN weights (ws.take k) := fun d e => by
  have hd : d < k := by
    have := (List.getElem?_eq_some_iff.mp e).1
    rw [List.length_take] at this; omega
  rw [List.getElem?_take_of_lt hd] at e
  exact h d e
open PySem
def Rise (xs : Array Nat) : Prop := ∀ (i j a b : Nat), xs[i]? = some a->xs[j]? = some b->i < j->a < b
theorem below_go {xs : Array Nat} {j : Nat} (hr : Rise xs) : ∀ (fuel lo hi : Nat), hi ≤ xs.size->hi - lo ≤ fuel->lo ≤ hi->(∀ i a, i < lo->xs[i]? = some a->a < j)->(∀ i a, hi ≤ i->xs[i]? = some a->j ≤ a) →
    ∃ p, SetTable.below.go xs j fuel lo hi = p /\ p ≤ xs.size /\ (∀ i a, i < p->xs[i]? = some a->a < j) /\ (∀ i a, p ≤ i->xs[i]? = some a->j ≤ a)
  | 0, lo, hi, h1, h2, h3, h4, h5 => ⟨lo, rfl, by omega, h4, fun i a hi' e => h5 i a (by omega) e⟩
  | fuel + 1, lo, hi, h1, h2, h3, h4, h5 => by
    unfold SetTable.below.go
    by_cases hl : lo < hi
    · rw [if_pos hl]
      dsimp only
      have hm : (lo + hi) / 2 < xs.size := by omega
      have em : xs[(lo + hi) / 2]? = some xs[(lo + hi) / 2] := Array.getElem?_eq_getElem hm
      have eg : xs.getD ((lo + hi) / 2) j = xs[(lo + hi) / 2] := by simp [Array.getD, hm]
      rw [eg]
      by_cases hc : xs[(lo + hi) / 2] < j
      · rw [if_pos hc]
        refine below_go hr fuel _ hi h1 (by omega) (by omega) (fun i a hi' e => ?_) h5
        by_cases he : i = (lo + hi) / 2
        · subst he; rw [em] at e; cases e; exact hc
        · have := hr i _ a _ e em (by omega); omega
      · rw [if_neg hc]
        refine below_go hr fuel lo _ (by omega) (by omega) (by omega) h4 (fun i a hi' e => ?_)
        by_cases he : i = (lo + hi) / 2
        · subst he; rw [em] at e; cases e; omega
        · have := hr _ i _ a em e (by omega); omega
    · rw [if_neg hl]
      exact ⟨lo, rfl, by omega, h4, fun i a hi' e => h5 i a (by omega) e⟩
theorem below_ok {xs : Array Nat} (hr : Rise xs) (j : Nat) : SetTable.below xs j ≤ xs.size /\ (∀ i a, i < SetTable.below xs j->xs[i]? = some a->a < j) /\ (∀ i a, SetTable.below xs j ≤ i->xs[i]? = some a->j ≤ a) := by
  obtain ⟨p, e, h⟩ := below_go (j := j) hr xs.size 0 xs.size (Nat.le_refl _) (by omega) (by omega) (fun i a h => by omega) (fun i a h e => by rw [Array.getElem?_eq_none h] at e; cases e)
  have : SetTable.below xs j = p := e
  rw [this]; exact h
theorem insertAt_get {α : Type} (xs : Array α) {p : Nat} (hp : p ≤ xs.size) (x : α) (i : Nat) : (SetTable.insertAt xs p x)[i]? = if i < p then xs[i]? else if i = p then some x else xs[i - 1]? := by
  rw [← Array.getElem?_toList, SetTable.toList_insertAt]
  have hl : (xs.toList.take p).length = p := by rw [List.length_take]; simp; omega
  by_cases h1 : i < p
  · rw [if_pos h1, List.getElem?_append_left (by omega), List.getElem?_take_of_lt h1]; simp
  · rw [if_neg h1, List.getElem?_append_right (by omega), hl]
    by_cases h2 : i = p
    · rw [if_pos h2, h2, Nat.sub_self]; rfl
    · rw [if_neg h2, show i - p = (i - p - 1) + 1 by omega, List.getElem?_cons_succ, List.getElem?_drop, show p + (i - p - 1) = i - 1 by omega]; simp
theorem rise_insert {xs : Array Nat} (hr : Rise xs) {j : Nat} (hj : xs[SetTable.below xs j]? ≠ some j) : Rise (SetTable.insertAt xs (SetTable.below xs j) j) := by
  obtain ⟨hp, h1, h2⟩ := below_ok hr j
  have h3 : ∀ i a, SetTable.below xs j ≤ i->xs[i]? = some a->j < a := fun i a hi e => by
    have := h2 i a hi e
    rcases Nat.lt_or_eq_of_le this with z | z
    · exact z
    · subst z
      rcases Nat.lt_or_eq_of_le hi with y | y
      · have e2 : xs[SetTable.below xs j]? = some (xs[SetTable.below xs j]'(by have := (Array.getElem?_eq_some_iff.mp e).1; omega)) := Array.getElem?_eq_getElem _
        have u1 := h2 _ _ (Nat.le_refl _) e2
        have u2 := hr _ _ _ _ e2 e y
        omega
      · rw [y] at hj; exact absurd e hj
  intro i k a b ha hb hik
  rw [insertAt_get xs hp] at ha hb
  by_cases i1 : i < SetTable.below xs j
  · rw [if_pos i1] at ha
    by_cases k1 : k < SetTable.below xs j
    · rw [if_pos k1] at hb; exact hr i k a b ha hb hik
    · rw [if_neg k1] at hb
      by_cases k2 : k = SetTable.below xs j
      · rw [if_pos k2] at hb; cases hb; exact h1 i a i1 ha
      · rw [if_neg k2] at hb; exact hr i (k - 1) a b ha hb (by omega)
  · rw [if_neg i1] at ha
    by_cases i2 : i = SetTable.below xs j
    · rw [if_pos i2] at ha; cases ha
      rw [if_neg (by omega), if_neg (by omega)] at hb
      exact h3 (k - 1) b (by omega) hb
    · rw [if_neg i2] at ha
      rw [if_neg (by omega), if_neg (by omega)] at hb
      exact hr (i - 1) (k - 1) a b ha hb (by omega)
theorem rise_mem {xs : Array Nat} (hr : Rise xs) {j : Nat} (h : xs[SetTable.below xs j]? = some j) : j ∈ xs.toList := by
  rw [← Array.getElem?_toList] at h; exact List.mem_of_getElem? h
theorem len_of_all : ∀ (m : Nat) (l : List Nat), (∀ j, j < m->j ∈ l)->m ≤ l.length
  | 0, l, _ => Nat.zero_le _
  | m + 1, l, h => by
    have hm := h m (by omega)
    have ih := len_of_all m (l.erase m) fun j hj => (List.mem_erase_of_ne (by omega)).mpr (h j (by omega))
    rw [List.length_erase_of_mem hm] at ih
    have := List.length_pos_of_mem hm
    omega
def hop (N i : Nat) : Nat := (i * 5 + 1) % N
def hops (N : Nat) : Nat->Nat->Nat
  | 0, i => i
  | m + 1, i => hops N m (hop N i)
def orbM (N : Nat) : Nat->Nat->Nat
  | 0, _ => 0
  | m + 1, i => (1 <<< i) ||| orbM N m (hop N i)
theorem orbM_mem {N j : Nat} : ∀ (m i : Nat), (orbM N m i).testBit j = true->∃ k, k < m /\ hops N k i = j
  | 0, i, h => by simp [orbM] at h
  | m + 1, i, h => by
    unfold orbM at h
    rw [Nat.testBit_or, Bool.or_eq_true] at h
    rcases h with h | h
    · refine ⟨0, by omega, ?_⟩
      rw [Nat.testBit_shiftLeft] at h
      simp only [Bool.and_eq_true, decide_eq_true_eq] at h
      obtain ⟨h1, h2⟩ := h
      have : j - i = 0 := by
        rcases Nat.eq_zero_or_pos (j - i) with z | z
        · exact z
        · rw [Nat.testBit_one_eq_true_iff_self_eq_zero] at h2; exact h2
      show i = j
      omega
    · obtain ⟨k, hk, e⟩ := orbM_mem m (hop N i) h
      exact ⟨k + 1, by omega, e⟩
def coverM (N : Nat) : Bool := (List.range N).all fun i => orbM N N i == 2 ^ N - 1
theorem cover8 : coverM 8 = true := by decide +kernel
theorem cover32 : coverM 32 = true := by decide +kernel
theorem cover128 : coverM 128 = true := by decide +kernel
theorem cover_hop {N : Nat} (h : coverM N = true) {i j : Nat} (hi : i < N) (hj : j < N) : ∃ k, k < N /\ hops N k i = j := by
  unfold coverM at h
  rw [List.all_eq_true] at h
  have := h i (List.mem_range.mpr hi)
  rw [beq_iff_eq] at this
  refine orbM_mem N i ?_
  rw [this, Nat.testBit_two_pow_sub_one]
  exact decide_eq_true hj
def adv (t : SetTable) : Nat->SetTable.Probe->SetTable.Probe
  | 0, p => p
  | k + 1, p => adv t k (t.advance p)
theorem adv_add (t : SetTable) : ∀ (a b : Nat) (p : SetTable.Probe), adv t (a + b) p = adv t b (adv t a p)
  | 0, b, p => by rw [Nat.zero_add]; rfl
  | a + 1, b, p => by rw [show a + 1 + b = (a + b) + 1 by omega]; exact adv_add t a b (t.advance p)
def blockAt (t : SetTable) (q : Nat × Nat) (d : Option Nat) : SetTable.Probe := { j := q.1, more := SetTable.runEnd t.mask q.1 - q.1, i := q.1, perturb := q.2, dummy := d }
theorem adv_run (t : SetTable) : ∀ (m : Nat) (p : SetTable.Probe), p.more = m->adv t (m + 1) p = blockAt t (SetTable.leap t.mask p.i p.perturb) p.dummy
  | 0, p, h => by
    show t.advance p = _
    unfold SetTable.advance
    rw [if_neg (by omega)]
    rfl
  | m + 1, p, h => by
    show adv t (m + 1) (t.advance p) = _
    have e : t.advance p = { p with j := p.j + 1, more := p.more - 1 } := by unfold SetTable.advance; rw [if_pos (by omega)]
    rw [e, adv_run t m _ (by show p.more - 1 = m; omega)]
def leaps (mask : Nat) : Nat->Nat × Nat->Nat × Nat
  | 0, q => q
  | m + 1, q => leaps mask m (SetTable.leap mask q.1 q.2)
theorem run9 (mask i : Nat) : SetTable.runEnd mask i - i ≤ 9 := by unfold SetTable.runEnd; split <;> omega
theorem adv_leaps (t : SetTable) (d : Option Nat) : ∀ (m : Nat) (q : Nat × Nat), ∃ k, k ≤ 10 * m /\ adv t k (blockAt t q d) = blockAt t (leaps t.mask m q) d
  | 0, q => ⟨0, by omega, rfl⟩
  | m + 1, q => by
    obtain ⟨k, hk, e⟩ := adv_leaps t d m (SetTable.leap t.mask q.1 q.2)
    refine ⟨(SetTable.runEnd t.mask q.1 - q.1 + 1) + k, by have := run9 t.mask q.1; omega, ?_⟩
    rw [adv_add, adv_run t (SetTable.runEnd t.mask q.1 - q.1) (blockAt t q d) rfl]
    exact e
theorem leaps_add (mask : Nat) : ∀ (a b : Nat) (q : Nat × Nat), leaps mask (a + b) q = leaps mask b (leaps mask a q)
  | 0, b, q => by rw [Nat.zero_add]; rfl
  | a + 1, b, q => by rw [show a + 1 + b = (a + b) + 1 by omega]; exact leaps_add mask a b _
theorem leaps_snd (mask : Nat) : ∀ (m : Nat) (q : Nat × Nat), (leaps mask m q).2 = q.2 / 32 ^ m
  | 0, q => by simp [leaps]
  | m + 1, q => by
    show (leaps mask m (SetTable.leap mask q.1 q.2)).2 = _
    rw [leaps_snd mask m]
    show q.2 / 32 / 32 ^ m = _
    rw [Nat.div_div_eq_div_mul, Nat.pow_succ, Nat.mul_comm]
theorem leaps_hops (mask : Nat) : ∀ (m i : Nat), leaps mask m (i, 0) = (hops (mask + 1) m i, 0)
  | 0, i => rfl
  | m + 1, i => by
    show leaps mask m (SetTable.leap mask i 0) = _
    have e : SetTable.leap mask i 0 = (hop (mask + 1) i, 0) := by unfold SetTable.leap hop; simp
    rw [e, leaps_hops mask m]; rfl
theorem bits_lt (h : Int) : SetTable.bits h < 2 ^ 64 := by
  unfold SetTable.bits
  have h1 := Int.emod_nonneg h (show (2 ^ 64 : Int) ≠ 0 by decide)
  have h2 := Int.emod_lt_of_pos h (show (0 : Int) < 2 ^ 64 by decide)
  omega
theorem leaps_all {mask : Nat} (hc : coverM (mask + 1) = true) {q : Nat × Nat} (hq : q.2 < 2 ^ 64) {j : Nat} (hj : j < mask + 1) : ∃ m, m < mask + 15 /\ (leaps mask m q).1 = j := by
  have e0 : (leaps mask 13 q).2 = 0 := by
    rw [leaps_snd]
    exact Nat.div_eq_of_lt (Nat.lt_trans hq (by decide))
  have l0 : (leaps mask 13 q).1 < mask + 1 := by
    rw [show (13 : Nat) = 12 + 1 from rfl, leaps_add]
    show (_ % (mask + 1)) < _
    exact Nat.mod_lt _ (by omega)
  obtain ⟨k, hk, e⟩ := cover_hop hc l0 hj
  refine ⟨13 + k, by omega, ?_⟩
  rw [leaps_add, show leaps mask 13 q = ((leaps mask 13 q).1, 0) from by rw [← e0], leaps_hops]
  exact e
theorem slot_two {t : SetTable} (hd : t.dummies = #[]) (j : Nat) : (t.slot j = .empty /\ t.place[SetTable.below t.place j]? ≠ some j) ∨ (∃ i, t.slot j = .live i) /\ t.place[SetTable.below t.place j]? = some j := by
  unfold SetTable.slot
  by_cases h : t.place[SetTable.below t.place j]? = some j
  · right
    simp only [h]
    exact ⟨⟨_, if_pos (by simp)⟩, trivial⟩
  · left
    have h2 : SetTable.has t.dummies j = false := by rw [hd]; simp [SetTable.has]
    have h1 : (t.place[SetTable.below t.place j]? == some j) = false := by simpa using h
    simp only [h1, h2]
    exact ⟨rfl, h⟩
theorem go_two {t : SetTable} (hd : t.dummies = #[]) (h : Int) : ∀ (fuel : Nat) (p : SetTable.Probe), p.dummy = none →
    (∃ j, SetTable.probe.go t (fun _ => h + 1) h fuel p = some (.empty j none) /\ t.place[SetTable.below t.place j]? ≠ some j) ∨ ∀ k, k < fuel->t.place[SetTable.below t.place (adv t k p).j]? = some (adv t k p).j
  | 0, p, _ => .inr fun k hk => by omega
  | fuel + 1, p, hp => by
    unfold SetTable.probe.go
    rcases slot_two hd p.j with ⟨e, hn⟩ | ⟨⟨i, e⟩, hy⟩
    · left
      rw [e]
      dsimp only
      exact ⟨p.j, by rw [hp], hn⟩
    · rw [e]
      dsimp only
      have hne : ((h + 1 : Int) == h) = false := by simp; omega
      rw [hne]
      simp only [Bool.false_eq_true, ↓reduceIte]
      have hp' : (t.advance p).dummy = none := by unfold SetTable.advance; split <;> exact hp
      rcases go_two hd h fuel (t.advance p) hp' with z | z
      · exact .inl z
      · refine .inr fun k hk => ?_
        cases k with
        | zero => exact hy
        | succ k => exact z k (by omega)
theorem free_some {t : SetTable} (hd : t.dummies = #[]) (hr : Rise t.place) (hc : coverM (t.mask + 1) = true) (hs : t.place.size ≤ t.mask) (h : Int) : ∃ j, t.freeSlot h = some (j, false) /\ t.place[SetTable.below t.place j]? ≠ some j := by
  have key := go_two hd h (10 * SetTable.turns t.mask) (t.probeStart h) rfl
  rcases key with ⟨j, e, hn⟩ | hall
  · refine ⟨j, ?_, hn⟩
    unfold SetTable.freeSlot SetTable.probe
    rw [e]
    rfl
  · exfalso
    have hm := len_of_all (t.mask + 1) t.place.toList fun j hj => by
      obtain ⟨m, hm, e⟩ := leaps_all hc (q := (SetTable.bits h % (t.mask + 1), SetTable.bits h)) (bits_lt h) hj
      obtain ⟨k, hk, ek⟩ := adv_leaps t none m (SetTable.bits h % (t.mask + 1), SetTable.bits h)
      have hst : t.probeStart h = blockAt t (SetTable.bits h % (t.mask + 1), SetTable.bits h) none := rfl
      have := hall k (by unfold SetTable.turns; omega)
      rw [hst, ek] at this
      have this : t.place[SetTable.below t.place (leaps t.mask m (SetTable.bits h % (t.mask + 1), SetTable.bits h)).1]? = some (leaps t.mask m (SetTable.bits h % (t.mask + 1), SetTable.bits h)).1 := this
      rw [e] at this
      exact rise_mem hr this
    simp at hm
    omega
theorem free_two {mask : Nat} {owner : Array (Option Nat)} : ∀ (fuel : Nat) (q : Nat × Nat),
    (∃ j, SetTable.layClean.free mask owner fuel q.1 q.2 = some j /\ owner[j]? = some none) ∨ ∀ m, m < fuel->owner[(leaps mask m q).1]? ≠ some none
  | 0, q => .inr fun m hm => by omega
  | fuel + 1, q => by
    unfold SetTable.layClean.free
    cases e : (List.range (SetTable.runEnd mask q.1 + 1 - q.1)).find? fun k => (owner.getD (q.1 + k) (some 0)).isNone with
    | some k =>
      left
      have hk := List.find?_some e
      refine ⟨q.1 + k, rfl, ?_⟩
      by_cases hlt : q.1 + k < owner.size
      · rw [Array.getElem?_eq_getElem hlt]
        simp [Array.getD, hlt] at hk
        rw [hk]
      · simp [Array.getD, hlt] at hk
    | none =>
      dsimp only
      rcases free_two fuel (SetTable.leap mask q.1 q.2) with z | z
      · exact .inl z
      · refine .inr fun m hm => ?_
        cases m with
        | succ m => exact z m (by omega)
        | zero =>
          intro h0
          have := List.find?_eq_none.mp e 0 (List.mem_range.mpr (by unfold SetTable.runEnd; split <;> omega))
          have h0 : owner[q.1]? = some none := h0
          have hlt : q.1 < owner.size := (Array.getElem?_eq_some_iff.mp h0).1
          have he := (Array.getElem?_eq_some_iff.mp h0).2
          simp [Array.getD, hlt, he] at this
def usedOf (owner : Array (Option Nat)) : List Nat := owner.toList.filterMap id
theorem all_used {l : List (Option Nat)} (h : ∀ j, j < l.length->l[j]? ≠ some none) : (l.filterMap id).length = l.length := by
  induction l with
  | nil => rfl
  | cons x r ih =>
    have hx := h 0 (by simp)
    cases x with
    | none => exact absurd rfl hx
    | some a =>
      rw [show (some a :: r).filterMap id = a :: r.filterMap id from rfl, List.length_cons, List.length_cons, ih fun j hj => by have := h (j + 1) (by simp; omega); simpa using this]
theorem free_ok {mask : Nat} {owner : Array (Option Nat)} (hc : coverM (mask + 1) = true) (hs : owner.size = mask + 1) (hu : (usedOf owner).length < mask + 1) {i p : Nat} (hp : p < 2 ^ 64) : ∃ j, SetTable.layClean.free mask owner (SetTable.turns mask) i p = some j /\ owner[j]? = some none := by
  rcases free_two (mask := mask) (owner := owner) (SetTable.turns mask) (i, p) with z | z
  · exact z
  · exfalso
    have hl := all_used (l := owner.toList) fun j hj => by
      obtain ⟨m, hm, e⟩ := leaps_all hc (q := (i, p)) hp (j := j) (by simpa [hs] using hj)
      have := z m (by unfold SetTable.turns; omega)
      rw [e] at this
      rw [Array.getElem?_toList]; exact this
    unfold usedOf at hu
    rw [hl] at hu
    simp [hs] at hu
theorem set_used {l : List (Option Nat)} {j k : Nat} (h : l[j]? = some none) : ((l.set j (some k)).filterMap id).Perm (l.filterMap id ++ [k]) := by
  have hj : j < l.length := (List.getElem?_eq_some_iff.mp h).1
  have e : l = l.take j ++ none :: l.drop (j + 1) := by
    have e0 : l[j] = none := (List.getElem?_eq_some_iff.mp h).2
    have := List.take_append_drop j l
    rw [List.drop_eq_getElem_cons hj, e0] at this
    exact this.symm
  have e1 : l.set j (some k) = l.take j ++ some k :: l.drop (j + 1) := by
    conv => lhs; rw [e]
    rw [List.set_append_right _ _ (by rw [List.length_take]; omega)]
    simp [List.length_take, Nat.min_eq_left (Nat.le_of_lt hj)]
  rw [e1]
  conv => rhs; rw [e]
  simp only [List.filterMap_append]
  rw [show (some k :: l.drop (j + 1)).filterMap id = k :: (l.drop (j + 1)).filterMap id from rfl, show (none :: l.drop (j + 1)).filterMap id = (l.drop (j + 1)).filterMap id from rfl, List.append_assoc]
  exact (List.perm_append_left_iff _).mpr (List.perm_append_singleton _ _).symm
theorem lay_fold {mask : Nat} (hc : coverM (mask + 1) = true) : ∀ (hs : List Int) (owner : Array (Option Nat)) (k : Nat), owner.size = mask + 1->(usedOf owner).Perm (List.range k)->k + hs.length ≤ mask + 1 →
    ∃ o, hs.foldl (fun acc h => do
      let (owner, k) ← acc
      let j ← SetTable.layClean.free mask owner (SetTable.turns mask) (SetTable.bits h % (mask + 1)) (SetTable.bits h)
      pure (owner.setIfInBounds j (some k), k + 1)) (some (owner, k)) = some (o, k + hs.length) /\ o.size = mask + 1 /\ (usedOf o).Perm (List.range (k + hs.length))
  | [], owner, k, h1, h2, h3 => ⟨owner, rfl, h1, h2⟩
  | h :: r, owner, k, h1, h2, h3 => by
    have hl : (usedOf owner).length < mask + 1 := by rw [h2.length_eq, List.length_range]; simp at h3; omega
    obtain ⟨j, ej, hj⟩ := free_ok hc h1 hl (i := SetTable.bits h % (mask + 1)) (bits_lt h)
    have hu : (usedOf (owner.setIfInBounds j (some k))).Perm (List.range (k + 1)) := by
      unfold usedOf
      rw [Array.toList_setIfInBounds, List.range_succ]
      exact (set_used (by rw [Array.getElem?_toList]; exact hj)).trans (h2.append_right _)
    obtain ⟨o, eo, s1, p1⟩ := lay_fold hc r (owner.setIfInBounds j (some k)) (k + 1) (by simpa using h1) hu (by simp at h3; omega)
    refine ⟨o, ?_, s1, by rw [List.length_cons, show k + (r.length + 1) = k + 1 + r.length by omega]; exact p1⟩
    rw [List.foldl_cons]
    simp only [Option.bind_eq_bind, Option.bind_some, ej]
    rw [List.length_cons, show k + (r.length + 1) = k + 1 + r.length by omega]
    exact eo
theorem layClean_ok {mask : Nat} (hc : coverM (mask + 1) = true) (hashes : Array Int) (hn : hashes.size ≤ mask) : ∃ o, SetTable.layClean mask hashes = some o /\ o.size = mask + 1 /\ (usedOf o).Perm (List.range hashes.size) := by
  have h0 : usedOf (Array.replicate (mask + 1) none) = [] := by unfold usedOf; simp
  obtain ⟨o, e, h1, h2⟩ := lay_fold hc hashes.toList (Array.replicate (mask + 1) none) 0 (by simp) (by rw [h0]; exact .nil) (by simp; omega)
  rw [Nat.zero_add, Array.length_toList] at h2
  refine ⟨o, ?_, h1, h2⟩
  unfold SetTable.layClean
  rw [← Array.foldl_toList]
  rw [e]
  rfl
theorem pick_filter {α : Type} (f : α->Bool) (g : α->Option Nat) (hg : ∀ x, f x = (g x).isSome) : ∀ l : List α, l.filterMap (fun j => (g j).map fun _ => j) = l.filter f
  | [] => rfl
  | x :: r => by
    cases e : g x with
    | none => rw [List.filterMap_cons_none (by rw [e]; rfl), List.filter_cons_of_neg (by rw [hg, e]; simp), pick_filter f g hg r]
    | some y => rw [List.filterMap_cons_some (b := x) (by rw [e]; rfl), List.filter_cons_of_pos (by rw [hg, e]; rfl), pick_filter f g hg r]
theorem rise_of {l : List Nat} (h : l.Pairwise (· < ·)) : Rise l.toArray := by
  intro i j a b ha hb hij
  simp only [List.getElem?_toArray] at ha hb
  obtain ⟨hi, ea⟩ := List.getElem?_eq_some_iff.mp ha
  obtain ⟨hj, eb⟩ := List.getElem?_eq_some_iff.mp hb
  have := List.pairwise_iff_getElem.mp h i j hi hj hij
  omega
theorem laid_ok {mask : Nat} (hc : coverM (mask + 1) = true) (hashes : Array Int) (hn : hashes.size ≤ mask) (finger moves : Nat) (led plain : Bool) :
    ∃ place order, SetTable.laid mask finger moves led plain hashes = some ({ mask, place, dummies := #[], finger, led, moves, plain }, order) /\ Rise place /\ place.size = hashes.size /\ order.toList.Perm (List.range hashes.size) := by
  obtain ⟨o, e, hs, hp⟩ := layClean_ok hc hashes hn
  refine ⟨_, _, by unfold SetTable.laid; rw [e]; rfl, ?_, ?_, ?_⟩
  · rw [List.map_filterMap]
    have e1 : (fun j => Option.map (fun x : Nat × Nat => x.1) (Option.map (fun y => (j, y)) (o.getD j none))) = fun j => (o.getD j none).map fun _ => j := by
      funext j; cases o.getD j none <;> rfl
    rw [e1, pick_filter (fun j => (o.getD j none).isSome) _ (fun _ => rfl)]
    exact rise_of (List.pairwise_lt_range.filter _)
  · have e2 : ((List.range (mask + 1)).filterMap fun j => (o.getD j none).map fun y => (j, y)).length = (usedOf o).length := by
      rw [← List.length_map (f := fun x : Nat × Nat => x.2)]
      rw [List.map_filterMap]
      unfold usedOf
      have e3 : o.toList = (List.range (mask + 1)).map fun j => o.getD j none := by
        refine List.ext_getElem? fun j => ?_
        rw [Array.getElem?_toList, List.getElem?_map]
        by_cases hj : j < mask + 1
        · rw [List.getElem?_range hj, Array.getElem?_eq_getElem (by omega)]
          simp [Array.getD, show j < o.size by omega]
        · rw [List.getElem?_eq_none (by simp; omega), Array.getElem?_eq_none (by omega)]; rfl
      rw [e3, List.filterMap_map]
      congr 2
      funext j
      simp only [Function.comp_apply, id]
      cases o.getD j none <;> rfl
    simp only [List.size_toArray, List.length_map]
    rw [e2, hp.length_eq, List.length_range]
  · have e4 : ((List.range (mask + 1)).filterMap fun j => (o.getD j none).map fun y => (j, y)).map (fun x : Nat × Nat => x.2) = usedOf o := by
      rw [List.map_filterMap]
      unfold usedOf
      have e3 : o.toList = (List.range (mask + 1)).map fun j => o.getD j none := by
        refine List.ext_getElem? fun j => ?_
        rw [Array.getElem?_toList, List.getElem?_map]
        by_cases hj : j < mask + 1
        · rw [List.getElem?_range hj, Array.getElem?_eq_getElem (by omega)]
          simp [Array.getD, show j < o.size by omega]
        · rw [List.getElem?_eq_none (by simp; omega), Array.getElem?_eq_none (by omega)]; rfl
      rw [e3, List.filterMap_map]
      congr 1
      funext j
      simp only [Function.comp_apply, id]
      cases o.getD j none <;> rfl
    show (((List.range (mask + 1)).filterMap fun j => (o.getD j none).map fun y => (j, y)).map (fun x : Nat × Nat => x.2)).Perm _
    rw [e4]
    exact hp
structure TabI (t : SetTable) (n : Nat) (L : Bool) : Prop where
  sz : t.place.size = n
  dm : t.dummies = #[]
  ri : Rise t.place
  pl : t.plain = true
  ld : t.led = L
  ms : (t.mask = 7 /\ n ≤ 4) ∨ (t.mask = 31 /\ n ≤ 18) ∨ (t.mask = 127 /\ n ≤ 63)
theorem TabI.fits {t : SetTable} {n : Nat} {L : Bool} (h : TabI t n L) : t.fits n = true := by
  unfold SetTable.fits SetTable.fill
  rw [h.sz, h.dm]
  have := h.ms
  simp
  omega
theorem TabI.fresh (L : Bool) : TabI (.fresh 0 0 L) 0 L := ⟨rfl, rfl, fun i j a b h => by simp [SetTable.fresh] at h, rfl, rfl, .inl ⟨rfl, by omega⟩⟩
theorem TabI.cov {t : SetTable} {n : Nat} {L : Bool} (h : TabI t n L) : coverM (t.mask + 1) = true := by
  rcases h.ms with ⟨e, _⟩ | ⟨e, _⟩ | ⟨e, _⟩ <;> rw [e]
  · exact cover8
  · exact cover32
  · exact cover128
theorem insertAt_size {α : Type} (xs : Array α) (p : Nat) (x : α) : (SetTable.insertAt xs p x).size = xs.size + 1 := by
  rw [← Array.length_toList, (SetTable.insertAt_perm xs p x).length_eq]; simp
theorem layNew_ok {t : SetTable} {es : Array (Int × Value)} {L : Bool} (T : TabI t es.size L) (hn : es.size < 63) (h : Int) (x : Value) :
    ∃ es' t', layNew t es h x = (es', t', false, false) /\ es'.size = es.size + 1 /\ t'.place.size = es.size + 1 /\ t'.dummies = #[] /\ Rise t'.place /\ t'.plain = true /\ t'.led = L /\ t'.mask = t.mask := by
  obtain ⟨j, ej, hj⟩ := free_some T.dm T.ri T.cov (by have := T.ms; have := T.sz; omega) h
  have hsz := T.sz
  have e1 : (SetTable.insertAt es (SetTable.below t.place j) (h, x)).size = es.size + 1 := insertAt_size ..
  have hd : SetTable.has t.dummies j = false := by rw [T.dm]; simp [SetTable.has]
  have e2 : t.put j = ({ t with place := SetTable.insertAt t.place (SetTable.below t.place j) j }, SetTable.below t.place j) := by
    unfold SetTable.put
    simp only [hd]
    rfl
  have hf : ({ t with place := SetTable.insertAt t.place (SetTable.below t.place j) j } : SetTable).fits (es.size + 1) = true := by
    unfold SetTable.fits SetTable.fill
    simp only [insertAt_size, T.dm, hsz]
    have := T.ms
    simp
    omega
  refine ⟨SetTable.insertAt es (SetTable.below t.place j) (h, x), { t with place := SetTable.insertAt t.place (SetTable.below t.place j) j }, ?_, e1, by show (SetTable.insertAt _ _ _).size = _; rw [insertAt_size, hsz], T.dm, rise_insert T.ri hj, T.pl, T.ld, rfl⟩
  unfold layNew
  rw [ej]
  dsimp only
  rw [e2]
  dsimp only
  unfold SetTable.orStandIn
  rw [e1, hf]
  rfl
theorem relay_ok {t : SetTable} {es : Array (Int × Value)} {wanted mask : Nat} (hm : SetTable.sizeAbove wanted - 1 = mask) (hc : coverM (mask + 1) = true) (hn : es.size ≤ mask) :
    ∃ es' t', relayAll t es wanted = (es', t', false) /\ es'.size = es.size /\ t'.place.size = es.size /\ t'.dummies = #[] /\ Rise t'.place /\ t'.plain = t.plain /\ t'.led = t.led /\ t'.mask = mask := by
  obtain ⟨place, order, e, hr, hp, ho⟩ := laid_ok hc (es.map (·.1)) (by simpa using hn) t.finger (t.movedTo mask) t.led t.plain
  rw [Array.size_map] at hp ho
  have e1 : t.relaid (es.map (·.1)) wanted = some ({ mask, place, dummies := #[], finger := t.finger, led := t.led, moves := t.movedTo mask, plain := t.plain }, order) := by
    unfold SetTable.relaid
    rw [hm]; exact e
  have e2 : (order.filterMap (es[·]?)).size = es.size := by
    rw [← Array.length_toList, Array.toList_filterMap, ((ho.filterMap _).trans (by rw [filterMap_getElem?_range])).length_eq]; simp
  have e3 : coversAll order es.size = true := List.isPerm_iff.mpr ho
  have e4 : ({ mask, place, dummies := #[], finger := t.finger, led := t.led, moves := t.movedTo mask, plain := t.plain } : SetTable).fits es.size = true := by
    unfold SetTable.fits SetTable.fill
    simp [hp]
    omega
  refine ⟨order.filterMap (es[·]?), { mask, place, dummies := #[], finger := t.finger, led := t.led, moves := t.movedTo mask, plain := t.plain }, ?_, e2, hp, rfl, hr, rfl, rfl, rfl⟩
  unfold relayAll
  rw [e1]
  dsimp only
  rw [e2, e3, e4]
  rfl
open PySem PySem.Spec PyProof.Rows
def keyI : Value->Int
  | .int n _ => n
  | _ => 0
def keysI (es : Array (Int × Value)) : List Int := es.toList.map fun e => keyI e.2
def ISet (prog : Program) (w : World) (h : Heap) (a : Addr) (fm : List Int) (L : Bool) : Prop :=
  ∃ es ep t, h.get? a = some { cls := .type "set", dict := none, data := .set es ep t, slots := #[] } /\ ElemsOf (intKind prog w) es.toList /\ (keysI es).Perm fm /\ TabI t es.size L /\ es.size ≤ 63
theorem keys_mem {prog : Program} {w : World} {es : Array (Int × Value)} (hel : ElemsOf (intKind prog w) es.toList) {k : Int} : k ∈ keysI es ↔ ∃ e ∈ es.toList, (intKind prog w).is k e.2 = true := by
  unfold keysI
  rw [List.mem_map]
  constructor
  · rintro ⟨e, he, rfl⟩
    obtain ⟨⟨k', hk, _⟩, _⟩ := hel e he
    obtain ⟨t, et⟩ := Value.isInt_shape (show Value.isInt k' e.2 = true from hk)
    exact ⟨e, he, by rw [et]; exact intKind_is prog w _ t⟩
  · rintro ⟨e, he, hk⟩
    obtain ⟨t, et⟩ := Value.isInt_shape (show Value.isInt k e.2 = true from hk)
    exact ⟨e, he, by rw [et]; rfl⟩
theorem keys_len (es : Array (Int × Value)) : (keysI es).length = es.size := by unfold keysI; simp
section
variable {prog : Program} {w : World} {A : Around} {E : Value->Shared->Prop} {s : Shared}
theorem iset_store {a : Addr} {es : Array (Int × Value)} {ep : Nat} {t : SetTable} {es' : Array (Int × Value)} {t' : SetTable} {Q : Unit->Shared->Prop} {s : Shared}
    (ho : s.heap.get? a = some { cls := .type "set", dict := none, data := .set es ep t, slots := #[] }) (hz : es'.size ≤ 64)
    (h : ∀ h', Heap.SameBut a s.heap h'->h'.get? a = some { cls := .type "set", dict := none, data := .set es' (ep + 1) t', slots := #[] }->Q () { s with heap := h' }) : wpAny (model prog w) A (storeSet a es' t') Q E s := by
  refine wpAny_storeSet_of ho rfl (h _ (Heap.SameBut.update s.heap a _) ?_) (Nat.le_of_lt (small1000 (by omega)))
  have := Heap.get?_update_self (Obj.putSet es' t') ho (by rw [putSet_of es' t' rfl]; rfl)
  rw [putSet_of es' t' rfl] at this
  exact this
theorem iset_add {a : Addr} {fm : List Int} {L : Bool} {k : Int} {tk : Tok} {Q : Bool->Shared->Prop} (hS : ISet prog w s.heap a fm L) (hroom : (step_dedup fm k).length ≤ 63)
    (h : ∀ b h', Heap.SameBut a s.heap h'->ISet prog w h' a (step_dedup fm k) L->Q b { s with heap := h' }) :
    wpAny (model prog w) A (setAddHashed a (.int k tk) (hashInt k)) Q E s := by
  obtain ⟨es, ep, t, ho, hel, hpm, hT, hsz⟩ := hS
  have hf := hT.fits
  have hsc : (Value.int k tk).scannable = true := rfl
  have hkey : (intKind prog w).is k (.int k tk) = true := intKind_is prog w k tk
  unfold setAddHashed setAddHashedIn
  refine wpAny_holding (wpAny_bind (wpAny_setState_of ho rfl hf ?_))
  dsimp only
  rw [byScan_of (knd := intKind prog w) hsc (by unfold scanBound; omega) hel]
  simp only [↓reduceIte]
  unfold setAddByScan
  refine wpAny_bind ?_
  refine wpAny_bind (wpAny_rule ?_)
  refine wpAny_bind (wpAny_setScan_of (knd := intKind prog w) hkey ho rfl hf hel ?_)
  cases hr : List.findIdx? (fun e => (intKind prog w).is k e.2) es.toList with
  | some j =>
    dsimp only
    obtain ⟨hj, hpj, _⟩ := List.findIdx?_eq_some_iff_getElem.mp hr
    have hin : k ∈ fm := hpm.mem_iff.mp ((keys_mem hel).mpr ⟨_, List.getElem_mem hj, hpj⟩)
    have hst : step_dedup fm k = fm := by unfold step_dedup; rw [if_pos (List.any_eq_true.mpr ⟨k, hin, by simp⟩)]
    rw [hst] at h
    refine wpAny_pure (wpAny_pure ?_)
    have e : s = { s with heap := s.heap } := by cases s; rfl
    rw [e]
    exact h _ s.heap (Heap.SameBut.refl a s.heap) ⟨es, ep, t, ho, hel, hpm, hT, hsz⟩
  | none =>
    dsimp only
    have hout : k ∉ fm := fun z => by
      obtain ⟨e, he, hp⟩ := (keys_mem hel).mp (hpm.mem_iff.mpr z)
      have := List.findIdx?_eq_none_iff.mp hr e he
      rw [hp] at this; exact Bool.noConfusion this
    have hst : step_dedup fm k = fm ++ [k] := by
      unfold step_dedup
      rw [if_neg (fun z => by
        obtain ⟨y, hy, e⟩ := List.any_eq_true.mp z
        have : y = k := by simpa using e
        exact hout (this ▸ hy))]
    rw [hst] at h hroom
    have hfl : fm.length = es.size := by rw [← hpm.length_eq, keys_len]
    have hn63 : es.size < 63 := by rw [List.length_append, hfl] at hroom; simp at hroom; omega
    have hperm := layNew_perm t es (hashInt k) (.int k tk)
    obtain ⟨es1, t1, e1, z1, z2, z3, z4, z5, z6, z7⟩ := layNew_ok hT hn63 (hashInt k) (.int k tk)
    have e1' : layNew t es ((intKind prog w).hash k) (.int k tk) = (es1, t1, false, false) := e1
    rw [e1] at hperm
    dsimp only at hperm
    rw [Array.toList_push] at hperm
    have hel1 : ElemsOf (intKind prog w) es1.toList := (hel.push hkey hsc).perm hperm
    have hpm1 : (keysI es1).Perm (fm ++ [k]) := by
      unfold keysI
      refine (hperm.map _).trans ?_
      rw [List.map_append]
      exact hpm.append_right _
    have e1'' : layNew t es (hashInt k) (.int k tk) = (es1, t1, false, false) := e1
    rw [e1'']
    dsimp only
    refine wpAny_bind (wpAny_pure ?_)
    rw [z5]
    simp only [↓reduceIte]
    rw [hashByValue_scannable 8 hsc]
    refine wpAny_bind (wpAny_pure ?_)
    simp only [plainKind, ↓reduceIte]
    refine wpAny_bind (iset_store ho (by omega) fun h1 sb1 ho1 => ?_)
    by_cases hfull : t1.tooFull = true
    · rw [hfull]
      simp only [Bool.not_false, Bool.and_self, ↓reduceIte]
      obtain ⟨mask, hm, hc, hnm, hms⟩ : ∃ mask, SetTable.sizeAbove (SetTable.grown es1.size) - 1 = mask /\ coverM (mask + 1) = true /\ es1.size ≤ mask /\ ((mask = 7 /\ es1.size ≤ 4) ∨ (mask = 31 /\ es1.size ≤ 18) ∨ (mask = 127 /\ es1.size ≤ 63)) := by
        unfold SetTable.tooFull SetTable.fill at hfull
        rw [z2, z3, z7] at hfull
        have hfull : (es.size + 1 + 0) * 5 ≥ t.mask * 3 := of_decide_eq_true hfull
        rcases hT.ms with ⟨m1, m2⟩ | ⟨m1, m2⟩ | ⟨m1, m2⟩
        · rw [m1] at hfull
          have : es1.size = 5 := by omega
          rw [this]
          exact ⟨31, by decide +kernel, cover32, by omega, by omega⟩
        · rw [m1] at hfull
          have : es1.size = 19 := by omega
          rw [this]
          exact ⟨127, by decide +kernel, cover128, by omega, by omega⟩
        · rw [m1] at hfull; omega
      have hp2 := relayAll_perm t1 es1 (SetTable.grown es1.size)
      obtain ⟨es2, t2, e2, y1, y2, y3, y4, y5, y6, y7⟩ := relay_ok (t := t1) (es := es1) hm hc hnm
      rw [e2] at hp2 ⊢
      dsimp only at hp2 ⊢
      refine wpAny_bind (wpAny_pure ?_)
      refine wpAny_bind (iset_store ho1 (by omega) fun h2 sb2 ho2 => ?_)
      refine wpAny_pure (wpAny_pure ?_)
      refine h _ h2 (sb1.trans sb2) ⟨es2, _, t2, ho2, hel1.perm hp2, (hp2.map _).trans hpm1, ⟨y2.trans y1.symm, y3, y4, y5.trans z5, y6.trans z6, by rw [y7, y1]; exact hms⟩, by omega⟩
    · have hfull : t1.tooFull = false := by simpa using hfull
      rw [hfull]
      simp only [Bool.and_false, Bool.false_eq_true, ↓reduceIte]
      refine wpAny_pure (wpAny_pure ?_)
      refine h _ h1 sb1 ⟨es1, _, t1, ho1, hel1, hpm1, ⟨z2.trans z1.symm, z3, z4, z5, z6, ?_⟩, by omega⟩
      unfold SetTable.tooFull SetTable.fill at hfull
      rw [z2, z3, z7] at hfull
      have hfull : ¬ (es.size + 1 + 0) * 5 ≥ t.mask * 3 := of_decide_eq_false hfull
      rw [z7, z1]
      rcases hT.ms with ⟨m1, m2⟩ | ⟨m1, m2⟩ | ⟨m1, m2⟩
      · rw [m1] at hfull; left; omega
      · rw [m1] at hfull; right; left; omega
      · right; right; omega
theorem ISet.at {h h' : Heap} {a : Addr} {fm : List Int} {L : Bool} (S : ISet prog w h a fm L) (e : ∀ o, h.get? a = some o->h'.get? a = some o) : ISet prog w h' a fm L := by
  obtain ⟨es, ep, t, ho, r⟩ := S
  exact ⟨es, ep, t, e _ ho, r⟩
theorem firstMet_le (val : Nat->Int) : ∀ {i n : Nat}, i ≤ n->(firstMet val i).length ≤ (firstMet val n).length
  | i, 0, h => by rw [show i = 0 by omega]; exact Nat.le_refl _
  | i, n + 1, h => by
    by_cases e : i = n + 1
    · rw [e]; exact Nat.le_refl _
    · refine Nat.le_trans (firstMet_le val (show i ≤ n by omega)) ?_
      rw [firstMet_succ, step_length]
      split <;> omega
theorem iset_loop {R : Result->Shared->Prop} {I : Addr} {fp wr : List Addr} {G : Array GenState->Array GenState->Prop} {n : Nat} {P : Nat->Value->Prop} {St : Nat->Shared->Prop} (W : WalksS prog w A.in1 I fp wr G n P St) (S : Addr) (hSf : S ∉ fp) {L : Bool}
    (val : Nat->Int) (hval : ∀ i v, P i v->∃ t, v = .int (val i) t) (hb : (firstMet val n).length ≤ 63) : ∀ (k i : Nat) (s : Shared), n - i = k->i ≤ n->St i s->ISet prog w s.heap S (firstMet val i) L →
      (∀ s', Moved (S :: wr) G s s'->ISet prog w s'.heap S (firstMet val n) L->R (.ok (.ret .none)) s')->codeAny (model prog w) A (.builtin "set.update.loop" ⟨[.ref S, .ref I], []⟩) R s := by
  have hSw : S ∉ wr := fun h => hSf (W.sub _ h)
  have hsub : ∀ b ∈ wr, b ∈ S :: wr := fun b hb => List.mem_cons_of_mem _ hb
  intro k
  induction k with
  | zero =>
    intro i s hk hi hst hS hR
    have hin : i = n := by omega
    subst hin
    refine codeAny_builtin PyProof.Rows.F.entry_set_update_loop ?_
    rw [Around.under_plainId PyProof.Rows.F.plain_set_update_loop _]
    show wpAny _ A.in1 (pyNext (.ref I) >>= _) _ _ s
    refine wpAny_bind (W.done s _ _ hst fun s' hm => ?_)
    show wpAny _ A.in1 (ret Value.none) _ _ s'
    exact wpAny_pure (hR s' (hm.mono hsub) (hS.at fun o e => hm.heap S o hSw e))
  | succ k ih =>
    intro i s hk hi hst hS hR
    have hlt : i < n := by omega
    refine codeAny_builtin PyProof.Rows.F.entry_set_update_loop ?_
    rw [Around.under_plainId PyProof.Rows.F.plain_set_update_loop _]
    show wpAny _ A.in1 (pyNext (.ref I) >>= _) _ _ s
    refine wpAny_bind (W.item i s _ _ hlt hst fun v s' hP hst' hm => ?_)
    obtain ⟨t, rfl⟩ := hval i v hP
    have hS' : ISet prog w s'.heap S (firstMet val i) L := hS.at fun o e => hm.heap S o hSw e
    show wpAny _ A.in1 (holding [Value.int (val i) t] (setAdd S (.int (val i) t)) >>= _) _ _ s'
    refine wpAny_bind (wpAny_holding ?_)
    unfold setAdd
    refine wpAny_holding ?_
    refine wpAny_bind ((intKind prog w).pyHash (k := val i) (intKind_is _ _ _ _) ?_)
    have hfs := firstMet_succ val i
    refine iset_add (s := { s' with toks := s'.toks + 1 }) hS' (by rw [← hfs]; exact Nat.le_trans (firstMet_le val hlt) hb) fun b h' hsb hS2 => ?_
    rw [← hfs] at hS2
    refine wpAny_pure ⟨plainId_quiet PyProof.Rows.F.plain_set_update_loop _, ih (i + 1) _ (by omega) hlt (W.frame _ s' _ _ hst' (Nat.le_succ _) fun b hb o e => ?_) hS2 fun s'' hm'' hS'' => ?_⟩
    · rw [hsb.2 b (fun h : b = S => hSf (by rw [← h]; exact hb))]; exact e
    · refine hR s'' (Moved.trans W.gtrans ((hm.mono hsub).then_heap (Nat.le_succ _) fun b o hb e => ?_) hm'') hS''
      rw [hsb.2 b (fun h : b = S => hb (by rw [h]; exact List.mem_cons_self))]; exact e
theorem iset_new (a : Value) {Q₁ : Value->Shared->Prop}
    (h : Q₁ (.ref s.heap.objs.size) { s with heap := s.heap.push { cls := .type "set", dict := none, data := .set #[] 0 (.fresh 0 0 (!w.params.followText "set-order")) } }) :
    codeAny (model prog w) A (.call (.builtin "set.__new__") ⟨[.type "set", a], []⟩) (wants Q₁ E) s := by
  refine codeAny_of_tree ?_
  show wpAny _ A.in1 (do checkBuiltinCall "set.__new__" ⟨[.type "set", a], []⟩; again (.builtin "set.__new__" ⟨[.type "set", a], []⟩)) _ _ s
  refine wpAny_bind (wpAny_of_eq (PySem.F.newCall_set_1 a) (wpAny_pure ⟨plainId_quiet PySem.F.plain_set_new _, codeAny_builtin PySem.F.entry_set_new ?_⟩))
  rw [Around.under_plainId PySem.F.plain_set_new _]
  unfold Builtin.«set.__new__» Builtin.Frozenset.newClass
  have hsub := sub_set_self
  obtain ⟨hp, g, d, tk, os⟩ := s
  dsimp only
  wp_walk
  refine wpAny_askSetting (wpAny_pure ?_)
  dsimp only
  simp only [newObj]
  refine wpAny_bind (wpAny_alloc (wpAny_pure ?_))
  exact wpAny_pure h
set_option maxHeartbeats 6400000 in
theorem iset_call {l : Addr} {items : Array Value} {ns : List Int} {Q : Value->Shared->Prop} (hh : A.handled = none) (hl : s.heap.IsList l items) (hi : IntsAre items.toList ns) (hb : (firstMet (fun i => ns.getD i 0) items.size).length ≤ 63)
    (h : ∀ (h' : Heap) (tk : Nat), ISet prog w h' s.heap.objs.size (firstMet (fun i => ns.getD i 0) items.size) (!w.params.followText "set-order")->(∀ b o, b < s.heap.objs.size->s.heap.get? b = some o->h'.get? b = some o)->Q (.ref s.heap.objs.size) { s with heap := h', toks := tk }) :
    wpAny (model prog w) A (call (.type "set") [.ref l]) Q E s := by
  obtain ⟨c, tl, hmro⟩ := PySem.F.called_set.mro
  have hmade := PySem.F.called_set.made
  have hsub := PySem.F.called_set.sub
  refine wpAny_call (codeAny_of_tree ?_)
  show wpAny _ _ (callAny (.type "set") _) _ _ _
  refine wpAny_pure ⟨Code.quiet_builtin _ (by decide +kernel), codeAny_builtin PySem.F.entry_type_call ?_⟩
  rw [Around.under_plain (weight_type_call_type "set" [.ref l] []) rfl]
  have h1 := PySem.F.called_set.notType
  have h2 := PySem.F.called_set.canCreate
  have hct := PySem.F.typeCall_set_1 (.ref l)
  repeat (any_goals (first | assumption | wp_step))
  obtain ⟨led, hled⟩ : ∃ led : Bool, led = !w.params.followText "set-order" := ⟨_, rfl⟩
  refine codeAny_mono (iset_new (.ref l) (E := E) (Q₁ := fun obj s₁ => obj = .ref s.heap.objs.size /\ s₁ = { s with heap := s.heap.push { cls := .type "set", dict := none, data := .set #[] 0 (.fresh 0 0 led) } }) ⟨rfl, by rw [hled]⟩) fun r s₁ hr => ?_
  cases r with
  | error e => exact hr
  | ok fl =>
    cases fl with
    | ret obj =>
      obtain ⟨rfl, rfl⟩ := hr
      have hS : (s.heap.push { cls := .type "set", dict := none, data := .set #[] 0 (.fresh 0 0 led) }).get? s.heap.objs.size = some { cls := .type "set", dict := none, data := .set #[] 0 (.fresh 0 0 led) } := Heap.get?_push_size _ rfl
      have hT : Shared.TypeIs { s with heap := s.heap.push { cls := .type "set", dict := none, data := .set #[] 0 (.fresh 0 0 led) } } (.ref s.heap.objs.size) "set" := ⟨_, hS, rfl⟩
      have hli := PySem.F.called_set.init.lookup
      have hbi := PySem.F.called_set.init.bind (.ref s.heap.objs.size)
      repeat (any_goals (first | assumption | wp_step))
      refine codeAny_mono (codeAny_call_builtin (R := wants (fun r s₂ => r = .none /\ ∃ h' tk, s₂ = { s with heap := h', toks := tk } /\ ISet prog w h' s.heap.objs.size (firstMet (fun i => ns.getD i 0) items.size) (!w.params.followText "set-order") /\ (∀ b o, b < s.heap.objs.size->s.heap.get? b = some o->h'.get? b = some o)) E) PySem.F.called_set.init.plain PySem.F.entry_set_init (check_set_init_1 hT ?_)) fun r₂ s₂ hr₂ => ?_
      · obtain ⟨ol, hol, hcl, nl, hdl⟩ := hl
        obtain ⟨ocls, odict, odata, oslots⟩ := ol
        simp only at hcl hdl
        subst hcl; subst hdl
        have hol' : (s.heap.push { cls := .type "set", dict := none, data := .set #[] 0 (.fresh 0 0 led) }).get? l = some { cls := .type "list", dict := odict, data := .seq items nl, slots := oslots } := Heap.get?_push_of_some _ hol
        have hsls := PySem.F.sub_list_set
        have hslf := PySem.F.sub_list_frozenset
        have hne : (Value.type "list" == Value.type "dict") = false := by decide
        have hl1 : (s.heap.push { cls := .type "set", dict := none, data := .set #[] 0 (.fresh 0 0 led) }).IsList l items := ⟨_, hol', rfl, nl, rfl⟩
        unfold Builtin.«set.__init__» noKeywords Builtin.Frozenset.updateFrom
        generalize hPI : pyIter = PI
        wp_walk
        subst hPI
        refine wpAny_pyIter_list hl1 ?_
        refine wpAny_bind (wpAny_runValue ?_)
        have hlS : l < s.heap.objs.size := Heap.lt_size hol
        have hh3 : A.in1.in1.in1.handled = none := by simp [hh]
        have hneI : l ≠ (s.heap.push { cls := .type "set", dict := none, data := .set #[] 0 (.fresh 0 0 led) }).objs.size := by rw [Heap.size_push]; exact Nat.ne_of_lt (Nat.lt_succ_of_lt hlS)
        have hSf : s.heap.objs.size ∉ [(s.heap.push { cls := .type "set", dict := none, data := .set #[] 0 (.fresh 0 0 led) }).objs.size, l] := by
          rw [Heap.size_push]; simp only [List.mem_cons, List.mem_singleton, List.not_mem_nil, or_false, not_or]
          exact ⟨Nat.ne_of_lt (Nat.lt_succ_self _), Nat.ne_of_gt hlS⟩
        have hval : ∀ (i : Nat) (v : Value), items[i]? = some v->∃ t, v = .int ((fun i => ns.getD i 0) i) t := fun i v hv => IntsAre.int_at hi i v (by rw [Array.getElem?_toList]; exact hv)
        refine iset_loop (L := !w.params.followText "set-order") ((Walks.list hh3 _ l hneI items).toS) s.heap.objs.size hSf (fun i => ns.getD i 0) hval hb (items.size - 0) 0 _ (by omega) (Nat.zero_le _) ⟨⟨_, Heap.get?_push_size _ rfl, rfl, rfl⟩, (hl1.push _)⟩ ?hS0 ?hR
        case hS0 =>
          exact ⟨#[], 0, _, Heap.get?_push_of_some _ hS, fun e he => by simp at he, .nil, by rw [← hled]; exact TabI.fresh _, by simp⟩
        case hR =>
          intro s' hm hS'
          obtain ⟨h', g', d', tk', os'⟩ := s'
          have eg : g' = s.gens := hm.gens
          have ed : d' = s.drawn := hm.drawn
          have eo : os' = s.os := hm.os
          subst eg; subst ed; subst eo
          show wpAny _ _ _ _ _ _
          refine wpAny_pure ?_
          show wpAny _ _ (ret Value.none) _ _ _
          refine wpAny_pure ⟨rfl, h', tk', rfl, hS', fun b o hb e => ?_⟩
          have hb1 : b ≠ s.heap.objs.size := Nat.ne_of_lt hb
          have hb2 : b ≠ (s.heap.push { cls := .type "set", dict := none, data := .set #[] 0 (.fresh 0 0 led) }).objs.size := by rw [Heap.size_push]; exact Nat.ne_of_lt (Nat.lt_succ_of_lt hb)
          exact hm.heap b o (by simp only [List.mem_cons, List.mem_singleton, List.not_mem_nil, or_false, not_or]; exact ⟨hb1, hb2⟩) (Heap.get?_push_of_some _ (Heap.get?_push_of_some _ e))
      · cases r₂ with
        | error e => exact hr₂
        | ok fl₂ =>
          cases fl₂ with
          | ret r =>
            obtain ⟨rfl, h', tk, rfl, hS', hk'⟩ := hr₂
            repeat (any_goals (first | assumption | wp_step))
            exact h _ _ hS' hk'
          | _ => exact hr₂.elim
    | _ => exact hr.elim
end
open PySem PySem.Spec PyProof.Rows
section
variable {X : Cx}
theorem dedup_mem (val : Nat->Int) (i : Nat) (k : Int) : k ∈ firstMet val i ↔ ∃ j, j < i /\ val j = k := by
  have h := firstMet_any val i k
  rw [Bool.eq_iff_iff, List.any_eq_true, List.any_eq_true] at h
  constructor
  · intro hk
    obtain ⟨y, hy, e⟩ := h.mp ⟨k, hk, by simp⟩
    obtain ⟨j, hj, ej⟩ := List.mem_map.mp hy
    exact ⟨j, List.mem_range.mp hj, by rw [ej]; simpa using e⟩
  · rintro ⟨j, hj, e⟩
    obtain ⟨y, hy, e2⟩ := h.mpr ⟨val j, List.mem_map.mpr ⟨j, List.mem_range.mpr hj, rfl⟩, by simp [e]⟩
    have : y = k := by simpa using e2
    exact this ▸ hy
theorem dedup_nodup (val : Nat->Int) : ∀ i, (firstMet val i).Nodup
  | 0 => .nil
  | i + 1 => by
    rw [firstMet_succ]
    unfold step_dedup
    have ih := dedup_nodup val i
    split
    · exact ih
    · rename_i hn
      rw [List.nodup_append]
      refine ⟨ih, by simp, fun a ha b hb => ?_⟩
      have : b = val i := by simpa using hb
      subst this
      intro e
      exact hn (List.any_eq_true.mpr ⟨a, ha, by simp [e]⟩)
def dd (ns : List Int) : List Int := firstMet (fun i => ns.getD i 0) ns.length
theorem dd_mem {ns : List Int} {k : Int} : k ∈ dd ns ↔ k ∈ ns := by
  unfold dd
  rw [dedup_mem]
  constructor
  · rintro ⟨j, hj, e⟩
    rw [List.getD_eq_getElem?_getD, List.getElem?_eq_getElem hj] at e
    have e : ns[j] = k := e
    exact e ▸ List.getElem_mem hj
  · intro hk
    obtain ⟨j, hj, e⟩ := List.getElem_of_mem hk
    exact ⟨j, hj, by rw [List.getD_eq_getElem?_getD, List.getElem?_eq_getElem hj, e]; rfl⟩
end
open PySem PySem.Spec PyProof.Rows
theorem rise_ext : ∀ {l m : List Int}, l.Pairwise (· < ·)->m.Pairwise (· < ·)->(∀ a, a ∈ l ↔ a ∈ m)->l = m
  | [], [], _, _, _ => rfl
  | [], b :: m, _, _, h => absurd ((h b).mpr (by simp)) (by simp)
  | a :: l, [], _, _, h => absurd ((h a).mp (by simp)) (by simp)
  | a :: l, b :: m, hl, hm, h => by
    rw [List.pairwise_cons] at hl hm
    have e : a = b := by
      rcases List.mem_cons.mp ((h a).mp (by simp)) with e | h1
      · exact e
      · rcases List.mem_cons.mp ((h b).mpr (by simp)) with e | h2
        · exact e.symm
        · have := hm.1 a h1; have := hl.1 b h2; omega
    subst e
    rw [rise_ext hl.2 hm.2 fun c => ⟨fun hc => ?_, fun hc => ?_⟩]
    · rcases List.mem_cons.mp ((h c).mp (by simp [hc])) with e | h1
      · subst e; have := hl.1 c hc; omega
      · exact h1
    · rcases List.mem_cons.mp ((h c).mpr (by simp [hc])) with e | h1
      · subst e; have := hm.1 c hc; omega
      · exact h1
open PySem PySem.W PyProof.Rows
def hwT {α : Type} (n : Nat) (lt : Nat->Nat->Bool) : KasT α->(α->Prop)->Prop
  | .ret a, Q => Q a
  | .ask i j k, Q => i < n /\ j < n /\ hwT n lt (k (lt i j)) Q
theorem hwT_bind {α β : Type} {n : Nat} {lt : Nat->Nat->Bool} {f : α->KasT β} {Q : β->Prop} : ∀ (t : KasT α), hwT n lt t (fun a => hwT n lt (f a) Q)->hwT n lt (t.bind f) Q
  | .ret a, h => h
  | .ask i j k, h => ⟨h.1, h.2.1, hwT_bind (k (lt i j)) h.2.2⟩
theorem hwT_mono {α : Type} {n : Nat} {lt : Nat->Nat->Bool} {Q Q' : α->Prop} (hq : ∀ a, Q a->Q' a) : ∀ (t : KasT α), hwT n lt t Q->hwT n lt t Q'
  | .ret a, h => hq a h
  | .ask i j k, h => ⟨h.1, h.2.1, hwT_mono hq (k (lt i j)) h.2.2⟩
theorem hwT_wp {α : Type} {n : Nat} {lt : Nat->Nat->Bool} {cmp : Nat->Nat->(Bool->Shared->Prop)->Shared->Prop} {s : Shared} {Q : α->Shared->Prop}
    (hc : ∀ i j (C : Bool->Shared->Prop), i < n->j < n->C (lt i j) s->cmp i j C s) : ∀ (t : KasT α), hwT n lt t (fun a => Q a s)->t.kasWp cmp Q s
  | .ret a, h => h
  | .ask i j k, h => hc i j _ h.1 h.2.1 (hwT_wp hc (k (lt i j)) h.2.2)
abbrev gA (p : Array Nat) (i : Nat) : Nat := p.getD i 0
theorem gA_eq (p : Array Nat) (i : Nat) : gA p i = (p[i]?).getD 0 := by
  unfold gA; rw [Array.getD_eq_getD_getElem?]
theorem gA_rev {p : Array Nat} {i j : Nat} (hj : j ≤ p.size) (k : Nat) : gA (kas_rev p i j) k = if i ≤ k /\ k < j then gA p (i + j - 1 - k) else gA p k := by
  rw [gA_eq]; unfold kas_rev; rw [getElem?_mirror_all hj]
  split <;> rw [gA_eq]
theorem gA_bub {p : Array Nat} {k l : Nat} (hk : k < p.size) (hl : l ≤ k) (i : Nat) : gA (bubble p k (k - l)) i = if i = l then gA p k else if l < i /\ i ≤ k then gA p (i - 1) else gA p i := by
  rw [gA_eq, getElem?_bubble hk _ (by omega)]
  have e : k - (k - l) = l := by omega
  rw [e]
  by_cases c1 : i = l
  · simp only [if_pos c1]; exact (gA_eq p k).symm
  · simp only [if_neg c1]
    by_cases c2 : l < i /\ i ≤ k
    · simp only [if_pos c2]; exact (gA_eq p (i - 1)).symm
    · simp only [if_neg c2]; exact (gA_eq p i).symm
structure POrd (lt : Nat->Nat->Bool) : Prop where
  irr : ∀ a, lt a a = false
  asy : ∀ a b, lt a b = true->lt b a = false
  tr : ∀ a b c, lt b a = false->lt c b = false->lt c a = false
section
variable {lt : Nat->Nat->Bool} {n : Nat}
def SoTo (lt : Nat->Nat->Bool) (p : Array Nat) (k : Nat) : Prop := ∀ i j, i ≤ j->j < k->lt (gA p j) (gA p i) = false
def NoInc (lt : Nat->Nat->Bool) (p : Array Nat) (k : Nat) : Prop := ∀ i j, i ≤ j->j < k->lt (gA p i) (gA p j) = false
def IsP (n : Nat) (p : Array Nat) : Prop := p.toList.Perm (List.range n)
theorem IsP.size {p : Array Nat} (h : IsP n p) : p.size = n := by
  have := h.length_eq; simpa using this
theorem IsP.bd {p : Array Nat} (h : IsP n p) (h0 : 0 < n) (i : Nat) : gA p i < n := by
  rw [gA_eq]
  by_cases hi : i < p.size
  · rw [getElem?_pos p i hi]
    have : p[i] ∈ List.range n := h.mem_iff.mp (by simp)
    simpa using this
  · rw [getElem?_neg p i hi]; exact h0
theorem IsP.rev {p : Array Nat} (h : IsP n p) (i j : Nat) : IsP n (kas_rev p i j) := (Array.perm_iff_toList_perm.mp (mirror_perm p i j _)).trans h
theorem IsP.bub {p : Array Nat} (h : IsP n p) (i j : Nat) : IsP n (bubble p i j) := (Array.perm_iff_toList_perm.mp (bubble_perm p i j)).trans h
theorem SoTo.one (O : POrd lt) (p : Array Nat) : SoTo lt p 1 := fun i j h1 h2 => by
  have : i = 0 := by omega
  have : j = 0 := by omega
  subst_vars; exact O.irr _
theorem SoTo.next (O : POrd lt) {p : Array Nat} {k : Nat} (h : SoTo lt p k) (h1 : 1 ≤ k) (hk : lt (gA p k) (gA p (k - 1)) = false) : SoTo lt p (k + 1) := fun i j h2 h3 => by
  by_cases e : j = k
  · subst e
    by_cases e : i = j
    · subst e; exact O.irr _
    · exact O.tr _ _ _ (h i (j - 1) (by omega) (by omega)) hk
  · exact h i j h2 (by omega)
theorem NoInc.next (O : POrd lt) {p : Array Nat} {k : Nat} (h : NoInc lt p k) (h1 : 1 ≤ k) (hk : lt (gA p (k - 1)) (gA p k) = false) : NoInc lt p (k + 1) := fun i j h2 h3 => by
  by_cases e : j = k
  · subst e
    by_cases e : i = j
    · subst e; exact O.irr _
    · exact O.tr _ _ _ hk (h i (j - 1) (by omega) (by omega))
  · exact h i j h2 (by omega)
theorem NoInc.turn {p : Array Nat} {k : Nat} (hk : k ≤ p.size) (h : NoInc lt p k) : SoTo lt (kas_rev p 0 k) k := fun i j h1 h2 => by
  rw [gA_rev hk, gA_rev hk, if_pos (by omega), if_pos (by omega)]
  exact h _ _ (by omega) (by omega)
theorem NoInc.alike (O : POrd lt) {p : Array Nat} {k a b : Nat} (hb : b ≤ p.size) (h : NoInc lt p k) (he : ∀ i, a ≤ i->i < b->lt (gA p i) (gA p (b - 1)) = false /\ lt (gA p (b - 1)) (gA p i) = false) : NoInc lt (kas_rev p a b) k := fun i j h1 h2 => by
  rw [gA_rev hb, gA_rev hb]
  split
  · next c1 =>
    have x1 := he i c1.1 c1.2
    have x2 := he (a + b - 1 - i) (by omega) (by omega)
    have al : ∀ y, lt (gA p i) y = false->lt (gA p (a + b - 1 - i)) y = false := fun y hy => O.tr _ _ _ hy (O.tr _ _ _ x1.2 x2.1)
    split
    · next c2 =>
      have y1 := he (a + b - 1 - j) (by omega) (by omega)
      exact O.tr _ _ _ y1.2 x2.1
    · exact al _ (h i j h1 h2)
  · next c1 =>
    split
    · next c2 =>
      have y1 := he j c2.1 c2.2
      have y2 := he (a + b - 1 - j) (by omega) (by omega)
      exact O.tr _ _ _ (O.tr _ _ _ y2.2 y1.1) (h i j h1 h2)
    · exact h i j h1 h2
theorem hw_asc (O : POrd lt) {p : Array Nat} (hp : IsP n p) (h0 : 0 < n) : ∀ (f m : Nat), 1 ≤ m->SoTo lt p m->hwT n lt (kas_asc p f m) (fun r => m ≤ r /\ r ≤ m + f /\ SoTo lt p r /\ (r < m + f->lt (gA p r) (gA p (r - 1)) = true))
  | 0, m, h1, hs => ⟨Nat.le_refl _, Nat.le_refl _, hs, fun h => absurd h (Nat.lt_irrefl _)⟩
  | f + 1, m, h1, hs => by
    refine ⟨hp.bd h0 _, hp.bd h0 _, ?_⟩
    cases e : lt (gA p m) (gA p (m - 1)) with
    | true =>
      dsimp only [gA] at e ⊢
      rw [if_pos rfl]
      exact ⟨Nat.le_refl _, by omega, hs, fun _ => e⟩
    | false =>
      have e' := e
      dsimp only [gA] at e ⊢
      rw [if_neg (by simp)]
      exact hwT_mono (fun r ⟨a1, a2, a3, a4⟩ => ⟨by omega, by omega, a3, fun h => a4 (by omega)⟩) _ (hw_asc O hp h0 f (m + 1) (by omega) (hs.next O h1 e'))
def Tail (lt : Nat->Nat->Bool) (p : Array Nat) (m q : Nat) : Prop := q + 1 ≤ m /\ ∀ i, m - (q + 1) ≤ i->i < m->lt (gA p i) (gA p (m - 1)) = false /\ lt (gA p (m - 1)) (gA p i) = false
theorem Tail.zero (O : POrd lt) {p : Array Nat} {m : Nat} (h : 1 ≤ m) : Tail lt p m 0 := ⟨by omega, fun i h1 h2 => by
  have : i = m - 1 := by omega
  subst this; exact ⟨O.irr _, O.irr _⟩⟩
theorem hw_desc (O : POrd lt) (h0 : 0 < n) : ∀ (f : Nat) (p : Array Nat) (m q : Nat), IsP n p->m + f ≤ n->NoInc lt p m->Tail lt p m q →
    hwT n lt (kas_desc f p m q) (fun r => IsP n r.1 /\ m ≤ r.2.1 /\ r.2.1 ≤ m + f /\ NoInc lt r.1 r.2.1 /\ Tail lt r.1 r.2.1 r.2.2)
  | 0, p, m, q, hp, hm, hn, ht => ⟨hp, Nat.le_refl _, Nat.le_refl _, hn, ht⟩
  | f + 1, p, m, q, hp, hm, hn, ht => by
    have h1 : 1 ≤ m := by have := ht.1; omega
    have more : ∀ {p' q'}, IsP n p'->NoInc lt p' (m + 1)->Tail lt p' (m + 1) q'->hwT n lt (kas_desc f p' (m + 1) q') (fun r => IsP n r.1 /\ m ≤ r.2.1 /\ r.2.1 ≤ m + (f + 1) /\ NoInc lt r.1 r.2.1 /\ Tail lt r.1 r.2.1 r.2.2) := fun a1 a2 a3 =>
      hwT_mono (fun r ⟨b1, b2, b3, b4, b5⟩ => ⟨b1, by omega, by omega, b4, b5⟩) _ (hw_desc O h0 f _ (m + 1) _ a1 (by omega) a2 a3)
    refine ⟨hp.bd h0 _, hp.bd h0 _, ?_⟩
    cases e : lt (gA p m) (gA p (m - 1)) with
    | true =>
      have ni := hn.next O h1 (O.asy _ _ e)
      dsimp only [gA] at e ⊢
      rw [if_pos rfl]
      split
      · exact more (hp.rev _ _) (ni.alike O (by rw [hp.size]; omega) ht.2) (Tail.zero O (by omega))
      · exact more hp ni (Tail.zero O (by omega))
    | false =>
      have e' := e
      dsimp only [gA] at e ⊢
      rw [if_neg (by simp)]
      refine ⟨hp.bd h0 _, hp.bd h0 _, ?_⟩
      cases d : lt (gA p (m - 1)) (gA p m) with
      | true =>
        dsimp only [gA] at d ⊢
        rw [if_pos rfl]
        exact ⟨hp, Nat.le_refl _, by show m ≤ m + (f + 1); omega, hn, ht⟩
      | false =>
        have d' := d
        dsimp only [gA] at d ⊢
        rw [if_neg (by simp)]
        refine more hp (hn.next O h1 d') ⟨by have := ht.1; omega, fun i i1 i2 => ?_⟩
        rw [Nat.add_sub_cancel]
        by_cases z : i = m
        · subst z; exact ⟨O.irr _, O.irr _⟩
        · obtain ⟨x1, x2⟩ := ht.2 i (by omega) (by omega)
          exact ⟨O.tr _ _ _ d' x1, O.tr _ _ _ x2 e'⟩
theorem hw_tail3 (O : POrd lt) (h0 : 0 < n) {p : Array Nat} {m : Nat} (hp : IsP n p) (h1 : 1 ≤ m) (hm : m ≤ n) (hn : NoInc lt p m) : hwT n lt (kas_tail3 m n p) (fun r => IsP n r.2 /\ 1 ≤ r.1 /\ r.1 ≤ n /\ SoTo lt r.2 r.1) := by
  refine hwT_bind _ (hwT_mono (fun r ⟨a1, a2, a3, a4⟩ => ?_) _ (hw_asc O (hp.rev 0 m) h0 (n - m) m h1 (hn.turn (by rw [hp.size]; omega))))
  exact ⟨hp.rev _ _, by show 1 ≤ r; omega, by show r ≤ n; omega, a3⟩
theorem hw_descPart (O : POrd lt) (h0 : 0 < n) {p : Array Nat} {m : Nat} (hp : IsP n p) (hm : m + 1 ≤ n) (hn : NoInc lt p (m + 1)) : hwT n lt (kas_descPart m n p) (fun r => IsP n r.2 /\ 1 ≤ r.1 /\ r.1 ≤ n /\ SoTo lt r.2 r.1) := by
  refine hwT_bind _ (hwT_mono (fun r ⟨a1, a2, a3, a4, a5⟩ => ?_) _ (hw_desc O h0 (n - (m + 1)) p (m + 1) 0 hp (by omega) hn (Tail.zero O (by omega))))
  split
  · exact hw_tail3 O h0 (a1.rev _ _) (by omega) (by omega) (a4.alike O (by rw [a1.size]; omega) a5.2)
  · exact hw_tail3 O h0 a1 (by omega) (by omega) a4
theorem hw_count (O : POrd lt) (h0 : 0 < n) {p : Array Nat} (hp : IsP n p) : hwT n lt (kas_count n p) (fun r => IsP n r.2 /\ 1 ≤ r.1 /\ r.1 ≤ n /\ SoTo lt r.2 r.1) := by
  refine hwT_bind _ (hwT_mono (fun m ⟨a1, a2, a3, a4⟩ => ?_) _ (hw_asc O hp h0 (n - 1) 1 (Nat.le_refl _) (SoTo.one O p)))
  split
  · exact ⟨hp, a1, by show m ≤ n; omega, a3⟩
  · next hne =>
    have hm : m < n := by
      have : m ≠ n := by simpa using hne
      omega
    have st := a4 (by omega)
    split
    · next h2 =>
      refine ⟨hp.bd h0 _, hp.bd h0 _, ?_⟩
      cases e : lt (gA p 0) (gA p (m - 1)) with
      | true =>
        dsimp only [gA] at e ⊢
        rw [if_pos rfl]
        exact ⟨hp, a1, by show m ≤ n; omega, a3⟩
      | false =>
        have e' := e
        dsimp only [gA] at e ⊢
        rw [if_neg (by simp)]
        have al : ∀ i, i < m->lt (gA p i) (gA p (m - 1)) = false /\ lt (gA p (m - 1)) (gA p i) = false := fun i hi =>
          ⟨O.tr _ _ _ e' (a3 0 i (by omega) hi), a3 i (m - 1) (by omega) (by omega)⟩
        have ni : NoInc lt p m := fun i j h1 h2 => O.tr _ _ _ (al j h2).2 (al i (by omega)).1
        exact hw_descPart O h0 (hp.rev _ _) (by omega) ((ni.next O (by omega) (O.asy _ _ st)).alike O (by rw [hp.size]; omega) fun i _ hi => al i hi)
    · next h2 =>
      have : m = 1 := by omega
      subst this
      have ni : NoInc lt p 1 := fun i j h1 h2 => by
        have : i = 0 := by omega
        have : j = 0 := by omega
        subst_vars; exact O.irr _
      exact hw_descPart O h0 hp (by omega) (ni.next O (by omega) (O.asy _ _ st))
theorem hw_place (O : POrd lt) (h0 : 0 < n) {p : Array Nat} {k : Nat} (hp : IsP n p) (hs : SoTo lt p k) : ∀ (f l r : Nat), r ≤ l + f->l ≤ r->r ≤ k->(∀ i, i < l->lt (gA p k) (gA p i) = false)->(∀ i, r ≤ i->i < k->lt (gA p i) (gA p k) = false) →
    hwT n lt (kas_place p k f l r) (fun l => l ≤ k /\ (∀ i, i < l->lt (gA p k) (gA p i) = false) /\ (∀ i, l ≤ i->i < k->lt (gA p i) (gA p k) = false))
  | 0, l, r, hf, hl, hr, a, b => ⟨by omega, a, fun i h1 h2 => b i (by omega) h2⟩
  | f + 1, l, r, hf, hl, hr, a, b => by
    unfold kas_place
    split
    · exact ⟨by omega, a, fun i h1 h2 => b i (by omega) h2⟩
    · next hlr =>
      refine ⟨hp.bd h0 _, hp.bd h0 _, ?_⟩
      cases e : lt (gA p k) (gA p ((l + r) / 2)) with
      | true =>
        have e' := O.asy _ _ e
        dsimp only [gA] at e ⊢
        rw [if_pos rfl]
        exact hw_place O h0 hp hs f l _ (by omega) (by omega) (by omega) a fun i h1 h2 => by
          have x := hs ((l + r) / 2) i h1 h2
          cases z : lt (gA p i) (gA p k) with
          | false => rfl
          | true =>
            exact absurd (O.tr _ _ _ x (O.asy _ _ z)) (by rw [show lt (gA p k) (gA p ((l + r) / 2)) = true from e]; simp)
      | false =>
        have e' := e
        dsimp only [gA] at e ⊢
        rw [if_neg (by simp)]
        exact hw_place O h0 hp hs f _ r (by omega) (by omega) hr (fun i h1 => O.tr _ _ _ (hs i ((l + r) / 2) (by omega) (by omega)) e') b
theorem hw_bin (O : POrd lt) (h0 : 0 < n) : ∀ (f : Nat) (p : Array Nat) (k : Nat), IsP n p->k + f = n->SoTo lt p k->hwT n lt (kas_bin f p k) (fun r => IsP n r /\ SoTo lt r n)
  | 0, p, k, hp, hk, hs => ⟨hp, by rw [← hk]; exact hs⟩
  | f + 1, p, k, hp, hk, hs => by
    refine hwT_bind _ (hwT_mono (fun l ⟨hl, a, b⟩ => ?_) _ (hw_place O h0 hp hs k 0 k (by omega) (by omega) (Nat.le_refl _) (fun i h => absurd h (Nat.not_lt_zero _)) fun i h1 h2 => absurd h1 (by omega)))
    refine hw_bin O h0 f _ (k + 1) (hp.bub _ _) (by omega) fun i j h1 h2 => ?_
    have hk' : k < p.size := by rw [hp.size]; omega
    rw [gA_bub hk' hl, gA_bub hk' hl]
    by_cases c1 : j = l
    · rw [if_pos c1]
      by_cases c2 : i = l
      · rw [if_pos c2]; exact O.irr _
      · rw [if_neg c2, if_neg (by omega)]; exact a i (by omega)
    · rw [if_neg c1]
      by_cases c2 : i = l
      · rw [if_pos c2, if_pos (by omega)]; exact b (j - 1) (by omega) (by omega)
      · rw [if_neg c2]
        by_cases c3 : l < j /\ j ≤ k
        · rw [if_pos c3]
          by_cases c4 : l < i /\ i ≤ k
          · rw [if_pos c4]; exact hs _ _ (by omega) (by omega)
          · rw [if_neg c4]; exact hs _ _ (by omega) (by omega)
        · rw [if_neg c3, if_neg (by omega)]; exact hs _ _ (by omega) (by omega)
theorem hw_sort (O : POrd lt) (h0 : 0 < n) : hwT n lt (kas_sort n) (fun p => IsP n p /\ SoTo lt p n) := by
  refine hwT_bind _ (hwT_mono (fun r ⟨a1, a2, a3, a4⟩ => ?_) _ (hw_count O h0 (p := List.toArray (List.range n)) (by unfold IsP; simp)))
  have e : max r.1 1 = r.1 := by omega
  split
  · rw [e]; exact hw_bin O h0 _ _ _ a1 (by omega) a4
  · have : r.1 = n := by omega
    exact ⟨a1, by rw [← this]; exact a4⟩
end
open PySem PySem.W PyProof.Rows
def TupAt (h : Heap) (v : Value) (ks : List Int) : Prop := ∃ a o xs n, v = .ref a /\ h.get? a = some o /\ o.cls = .type "tuple" /\ o.data = .seq xs n /\ IntsAre xs.toList ks
inductive TupsAt (h : Heap) : List Value->List (List Int)->Prop
  | nil : TupsAt h [] []
  | cons {v ks vs its} : TupAt h v ks->TupsAt h vs its->TupsAt h (v :: vs) (ks :: its)
theorem TupAt.mono {h h' : Heap} {v : Value} {ks : List Int} (t : TupAt h v ks) (m : ∀ b o, h.get? b = some o->o.cls = .type "tuple"->h'.get? b = some o) : TupAt h' v ks := by
  obtain ⟨a, o, xs, n, e, ho, hc, hd, hi⟩ := t
  exact ⟨a, o, xs, n, e, m _ _ ho hc, hc, hd, hi⟩
theorem TupsAt.mono {h h' : Heap} (m : ∀ b o, h.get? b = some o->o.cls = .type "tuple"->h'.get? b = some o) : ∀ {vs : List Value} {its : List (List Int)}, TupsAt h vs its->TupsAt h' vs its
  | _, _, .nil => .nil
  | _, _, .cons t r => .cons (t.mono m) (r.mono m)
theorem TupsAt.len {h : Heap} : ∀ {vs : List Value} {its : List (List Int)}, TupsAt h vs its->vs.length = its.length
  | _, _, .nil => rfl
  | _, _, .cons _ r => by simp [r.len]
theorem TupsAt.at_ {h : Heap} : ∀ {vs : List Value} {its : List (List Int)}, TupsAt h vs its->∀ i, i < vs.length->TupAt h (vs.getD i Value.none) (its.getD i [])
  | _, _, .nil, i, hi => absurd hi (Nat.not_lt_zero _)
  | _, _, .cons t r, 0, _ => by simpa using t
  | _, _, .cons t r, i + 1, hi => by simpa using r.at_ i (by simpa using hi)
section
variable {prog : Program} {w : World} {A : Around} {E : Value->Shared->Prop} {s : Shared}
theorem lex_ask {C : Bool->Shared->Prop} : ∀ {us vs : List Value} {ks ls : List Int} (i : Nat) (fin : Bool), IntsAre us ks->IntsAre vs ls->fin = decide (i + us.length < i + vs.length)->C (HT.lexLt ks ls) s->KatLex prog w A true fin C (us.zip vs) i s
  | _, _, _, _, i, fin, .nil, .nil, hf, q => by
    rw [HT.lexLt_nil_nil] at q
    exact kat_nil (by rw [hf]; simpa using q)
  | _, _, _, _, i, fin, .nil, .cons n t r, hf, q => by
    rw [HT.lexLt_nil_cons] at q
    refine kat_nil ?_
    rw [hf, decide_eq_true (by simp)]; exact q
  | _, _, _, _, i, fin, .cons n t r, .nil, hf, q => by
    rw [HT.lexLt_cons_nil] at q
    refine kat_nil ?_
    rw [hf, decide_eq_false (by simp)]; exact q
  | _, _, _, _, i, fin, .cons n t r, .cons m u r', hf, q => by
    rw [HT.lexLt_cons] at q
    refine kat_cons (wpAny_eqBool_int ?_)
    by_cases e : n = m
    · rw [if_pos e] at q
      rw [beq_iff_eq.mpr e]
      refine kat_yes (lex_ask (i + 1) fin r r' ?_ q)
      rw [hf]; simp only [List.length_cons]; congr 1; apply propext; omega
    · rw [if_neg e] at q
      rw [beq_eq_false_iff_ne.mpr e]
      refine kat_no ?_
      cases i with
      | zero => exact oneLt_int q
      | succ i => exact kat_one _ _ (lt_int (show W.BoolBack C (.bool (decide (n < m))) s from q))
theorem tup_ask {C : Bool->Shared->Prop} {v u : Value} {ks ls : List Int} (h1 : TupAt s.heap v ks) (h2 : TupAt s.heap u ls) (q : C (HT.lexLt ks ls) s) : wpAny (model prog w) A (keyLt' (tuples' true) v u) C E s := by
  obtain ⟨a, o, xs, n, rfl, ho, _, hd, hi⟩ := h1
  obtain ⟨b, o', ys, m, rfl, ho', _, hd', hi'⟩ := h2
  exact kat_lt ho hd ho' hd' (lex_ask 0 _ hi hi' (by simp) q)
theorem TupsAt.kat {h : Heap} : ∀ {vs : List Value} {its : List (List Int)}, TupsAt h vs its->(∀ k ∈ its, k ≠ [])->∃ fs, KatTups h vs fs /\ fs.length = vs.length /\ ∀ v ∈ fs, ∃ n t, v = Value.int n t
  | _, _, .nil, _ => ⟨[], KatTups.nil, rfl, fun v hv => absurd hv (by simp)⟩
  | _, _, .cons (ks := ks) t r, hne => by
    obtain ⟨fs, a1, a2, a3⟩ := r.kat fun k hk => hne k (by simp [hk])
    obtain ⟨a, o, xs, n, rfl, ho, hc, hd, hi⟩ := t
    have : ks ≠ [] := hne ks (by simp)
    obtain ⟨us, hus⟩ : ∃ us, xs.toList = us := ⟨_, rfl⟩
    rw [hus] at hi
    cases hi with
    | nil => exact absurd rfl this
    | cons m u r' =>
      refine ⟨_ :: fs, KatTups.cons (f := Value.int m u) ho hc hd ?_ a1, by simp [a2], fun v hv => ?_⟩
      · rw [← Array.getElem?_toList, hus]; rfl
      · rcases List.mem_cons.mp hv with rfl | hv
        · exact ⟨m, u, rfl⟩
        · exact a3 v hv
def ltK (its : List (List Int)) (i j : Nat) : Bool := HT.lexLt (its.getD i []) (its.getD j [])
theorem ltK_ord (its : List (List Int)) : POrd (ltK its) := ⟨fun a => lex_irr _, fun a b h => Le.of_lt h, fun a b c h1 h2 => Le.trans (a := its.getD a []) h1 h2⟩
theorem SoTo.pw {its : List (List Int)} {p : Array Nat} {n : Nat} (hs : SoTo (ltK its) p n) (hn : p.size = n) : (p.toList.map fun i => its.getD i []).Pairwise Le := by
  rw [List.pairwise_map, List.pairwise_iff_getElem]
  intro i j hi hj hij
  have := hs i j (by omega) (by rw [← hn]; simpa using hj)
  rw [gA_eq, gA_eq, ← Array.getElem?_toList, ← Array.getElem?_toList, List.getElem?_eq_getElem hi, List.getElem?_eq_getElem hj] at this
  exact this
theorem list_sort_tups {a : Addr} {vs : List Value} {its : List (List Int)} {n : Nat} {P : PySem.Fin->Shared->Prop} (ho : s.heap.get? a = some (seqObj "list" vs.toArray n))
    (hT : TupsAt s.heap vs its) (hne : ∀ k ∈ its, k ≠ []) (h64 : vs.length < 64)
    (h : ∀ (p : List Nat), p.Perm (List.range vs.length)->(p.map fun i => its.getD i []).Pairwise Le->P (.done (.ret .none)) { s with heap := sortedHeap s.heap a vs (p.map fun i => vs.getD i Value.none).toArray }) :
    wpAny (model prog w) A (Builtin.«list.sort» ⟨[.ref a], []⟩) P E s := by
  rw [list_sort_plain]
  have ha : a < s.heap.objs.size := Heap.lt_size ho
  refine wpAny_bind (listItems_at ho rfl ?_)
  refine wpAny_bind (listUpdate_at ho rfl ?_)
  obtain ⟨e1, ho1⟩ : ∃ e1, (s.heap.update a (Obj.mapSeq fun _ => #[])).get? a = some (seqObj "list" #[] e1) := ⟨_, get?_update_seq ho (fun _ => #[])⟩
  refine wpAny_bind (seqEpoch_at ho1 rfl ?_)
  refine wpAny_bind (wpAny_newTuple ?_)
  refine wpAny_bind (wpAny_newList ?_)
  refine wpAny_holding ?_
  have hpush : ∀ b, b < s.heap.objs.size->(((s.heap.update a (Obj.mapSeq fun _ => #[])).push (seqObj "tuple" vs.toArray 0)).push (seqObj "list" #[] 0)).get? b = (s.heap.update a (Obj.mapSeq fun _ => #[])).get? b := fun b hb => by
    rw [Heap.get?_push_ne _ _ _ (by rw [size_push', Heap.size_update]; exact Nat.ne_of_lt (Nat.lt_succ_of_lt hb)), Heap.get?_push_ne _ _ _ (by rw [Heap.size_update]; exact Nat.ne_of_lt hb)]
  have ho6 : (((s.heap.update a (Obj.mapSeq fun _ => #[])).push (seqObj "tuple" vs.toArray 0)).push (seqObj "list" #[] 0)).get? a = some (seqObj "list" #[] e1) := by
    rw [hpush a ha]; exact ho1
  have hT6 : TupsAt (((s.heap.update a (Obj.mapSeq fun _ => #[])).push (seqObj "tuple" vs.toArray 0)).push (seqObj "list" #[] 0)) vs its := hT.mono fun b o hb hc => by
    rw [hpush b (Heap.lt_size hb), Heap.get?_update_ne _ _ _ _ (fun e => ?_)]
    · exact hb
    · subst e; rw [ho] at hb; cases hb; exact absurd hc (by show ¬ (Value.type "list" = Value.type "tuple"); simp)
  show wpAny (model prog w) A _ P E { s with heap := ((s.heap.update a (Obj.mapSeq fun _ => #[])).push (seqObj "tuple" vs.toArray 0)).push (seqObj "list" #[] 0) }
  dsimp only
  have hsz : vs.toArray.size = vs.length := by simp
  by_cases h2 : vs.toArray.size < 2
  · rw [if_pos h2, if_pos h2]
    refine wpAny_bind (wpAny_pure ?_)
    rw [StateT.run_pure]
    refine wpAny_bind (wpAny_pure ?_)
    dsimp only
    refine wpAny_bind (seqEpoch_at ho6 rfl ?_)
    refine wpAny_bind (listUpdate_at ho6 rfl ?_ (hsz2 := by rw [Array.size_map]; show (pairsOf vs).size ≤ _; rw [pairsOf_size, sizeLine_eq]; omega))
    simp only [bne_self_eq_false, Bool.false_eq_true, if_false]
    have hout := kat_snds (vs := vs) (ks := vs) rfl (st := SortSt.mk' general' (vs.toArray.zip vs.toArray) #[] 7 none) (p := List.toArray (List.range vs.length)) (by
      have e := kas_range (vs.toArray.zip vs.toArray)
      rw [show (vs.toArray.zip vs.toArray).size = vs.length by simp] at e
      show vs.toArray.zip vs.toArray = _
      rw [e])
    refine wpAny_pure ?_
    have := h (List.range vs.length) (List.Perm.refl _) (by
      rw [List.pairwise_map, List.pairwise_iff_getElem]
      intro i j hi hj hij
      rw [List.length_range] at hi hj
      omega)
    unfold sortedHeap at this
    exact hout ▸ this
  · rw [if_neg h2, if_neg h2]
    obtain ⟨fs, f1, f2, f3⟩ := hT6.kat hne
    refine wpAny_bind (kat_kind (T := Value.type "int") f1 (by omega) (fun v hv => by obtain ⟨m, t, rfl⟩ := f3 v hv; exact Looks.of_pure rfl) rfl ?_)
    refine wpAny_bind (wpAny_mono (kat_run (vs := vs) (ks := vs) (Q := fun st' s' => s' = { s with heap := ((s.heap.update a (Obj.mapSeq fun _ => #[])).push (seqObj "tuple" vs.toArray 0)).push (seqObj "list" #[] 0) } /\ ∃ p : Array Nat, p.size = vs.length /\ arrOf st' = p.map (kas_item (vs.toArray.zip vs.toArray)) /\ failedOf st' = none /\ IsP vs.length p /\ SoTo (ltK its) p vs.length)
      (G := fun p s' => s' = { s with heap := ((s.heap.update a (Obj.mapSeq fun _ => #[])).push (seqObj "tuple" vs.toArray 0)).push (seqObj "list" #[] 0) } /\ IsP vs.length p /\ SoTo (ltK its) p vs.length)
      rfl (by omega) h64 (fun p' st' s' a1 a2 a3 a4 => ⟨a4.1, p', a1, a2, a3, a4.2⟩) ?_) ?_ fun _ _ e => e)
    · refine hwT_wp (n := vs.length) (lt := ltK its) (fun i j C hi hj q => ?_) _ (hwT_mono (fun p hp => ⟨rfl, hp⟩) _ (hw_sort (ltK_ord its) (by omega)))
      exact tup_ask (hT6.at_ i hi) (hT6.at_ j hj) q
    rintro ⟨⟨⟩, st'⟩ s' ⟨rfl, p, hp, har, hf, hP, hS⟩
    dsimp only
    have hout := kat_snds rfl har
    rw [hout]
    refine wpAny_bind (seqEpoch_at ho6 rfl ?_)
    refine wpAny_bind (listUpdate_at ho6 rfl ?_ (hsz2 := by simp only [List.size_toArray, List.length_map, Array.length_toList]; rw [hp, sizeLine_eq]; omega))
    rw [hf]
    simp only [bne_self_eq_false, Bool.false_eq_true, if_false]
    exact wpAny_pure (h p.toList hP (hS.pw hp))
theorem sorted_tups {l : Addr} {vs : List Value} {its : List (List Int)} {Q : Value->Shared->Prop} (hl : s.heap.IsList l vs.toArray) (hT : TupsAt s.heap vs its) (hne : ∀ k ∈ its, k ≠ []) (h64 : vs.length < 64)
    (h : ∀ (p : List Nat), p.Perm (List.range vs.length)->(p.map fun i => its.getD i []).Pairwise Le->Q (.ref (s.heap.objs.size + 1)) { s with heap := sortedAll s.heap vs (p.map fun i => vs.getD i Value.none).toArray }) :
    wpAny (model prog w) A (call (.builtin "sorted") [.ref l]) Q E s := by
  refine Calls.call_function_entry kind_sorted plain_sorted entry_sorted (args_sorted1 _) ?_
  unfold Builtin.«sorted»
  refine wpAny_bind (m := checkCount "sorted" 1 1 _) (wpAny_pure ?_)
  refine wpAny_bind (collect_list hl ?_)
  refine wpAny_bind (wpAny_newList ?_)
  have hsz : ((s.heap.push (seqObj "list" #[] 0)).update s.heap.objs.size (Obj.mapSeq (· ++ vs.toArray))).objs.size = s.heap.objs.size + 1 := by
    rw [Heap.size_update, size_push']
  have hoL : (((s.heap.push (seqObj "list" #[] 0)).update s.heap.objs.size (Obj.mapSeq (· ++ vs.toArray))).push (seqObj "list" vs.toArray 0)).get? (s.heap.objs.size + 1) = some (seqObj "list" vs.toArray 0) := by
    rw [← hsz]; exact Heap.get?_push_size _ rfl
  have keep : ∀ b o, s.heap.get? b = some o->(((s.heap.push (seqObj "list" #[] 0)).update s.heap.objs.size (Obj.mapSeq (· ++ vs.toArray))).push (seqObj "list" vs.toArray 0)).get? b = some o := fun b o q => by
    have hlt : b < s.heap.objs.size := Heap.lt_size q
    rw [Heap.get?_push_ne _ _ _ (by rw [hsz]; exact Nat.ne_of_lt (Nat.lt_succ_of_lt hlt)), Heap.get?_update_ne _ _ _ _ (Nat.ne_of_lt hlt), Heap.get?_push_ne _ _ _ (Nat.ne_of_lt hlt)]
    exact q
  show wpAny _ _ _ _ _ { s with heap := ((s.heap.push (seqObj "list" #[] 0)).update s.heap.objs.size (Obj.mapSeq (· ++ vs.toArray))).push (seqObj "list" vs.toArray 0) }
  rw [hsz]
  refine wpAny_bind (wpAny_holding (wpAny_call_entry slot_list_sort ⟨_, hoL, rfl⟩ entry_list_sort (list_sort_tups hoL (hT.mono fun b o hb _ => keep b o hb) hne h64 fun p a1 a2 => ⟨_, rfl, ?_⟩) (args_list_sort _)))
  exact wpAny_pure ⟨_, rfl, h p a1 a2⟩
end
section
variable {X : Cx}
theorem tupsAt_of {pins : List (Addr × Obj)} {σ : St} {H : Hp} {s : Shared} (I : Inv X pins σ H s) : ∀ {vs : List V} {us : List Value} {its : List (List Int)}, Vals vs us->KeysAt true H vs its->TupsAt s.heap us its
  | _, _, [], .nil, _ => .nil
  | _, _, _ :: _, .nil, R => absurd R.len (by simp)
  | _, _, [], .cons _ _, R => absurd R.len (by simp)
  | _, _, ks :: its, .cons (a := v) r rs, R => by
    obtain ⟨a, rfl, ha⟩ := R.get 0 v ks rfl rfl
    obtain ⟨xs, rv, ⟨o, ho, hc, n, hd⟩, _⟩ := I.tuple (SqT.of ha)
    refine .cons ⟨a, o, _, n, r, ho, hc, hd, by simpa using intsAre_of rv⟩ (tupsAt_of I rs ⟨by simpa using R.len, fun i v k e1 e2 => R.get (i + 1) v k (by simpa using e1) (by simpa using e2)⟩)
theorem Vals.getD : ∀ {vs : List V} {us : List Value}, Vals vs us->∀ (p : List Nat), (∀ i ∈ p, i < vs.length)->Vals (p.map fun i => vs.getD i .non) (p.map fun i => us.getD i Value.none) := by
  intro vs us r p
  induction p with
  | nil => intro _; exact .nil
  | cons i p ih =>
    intro h
    refine .cons ?_ (ih fun j hj => h j (by simp [hj]))
    have hi := h i (by simp)
    clear h ih
    induction r generalizing i with
    | nil => exact absurd hi (Nat.not_lt_zero _)
    | cons a b ih => cases i with
      | zero => simpa using a
      | succ i => simpa using ih i (by simpa using hi)
theorem call_sortedT : CallR X (.builtin "sorted") (fun xs H Q => ∃ (a : Addr) (vs : List V) (its : List (List Int)), xs = [.ref a] /\ SqL X.K H a vs /\ KeysAt true H vs its /\ (∀ k ∈ its, k ≠ []) /\ vs.length < 64 ∧
    ∀ (l : Addr) (p : List Nat), H l = none->p.Perm (List.range vs.length)->(p.map fun i => its.getD i []).Pairwise Le->Q (.ref l) (upd H l (.lst (p.map fun i => vs.getD i .non)))) := by
  rintro pins s σ H xs us Q I r ⟨a, vs, its, rfl, hS, hK, hne, h64, q⟩
  obtain ⟨u, rfl, ru⟩ := vals1 r
  cases (show u = Value.ref a from ru)
  obtain ⟨us, rv, pl, _⟩ := I.list hS
  have hl := rv.length
  refine sorted_tups pl.isList (tupsAt_of I rv hK) hne (by omega) fun p b1 b2 => ?_
  rw [← hl] at b1
  obtain ⟨e, hat⟩ := sortedAll_at s.heap us (p.map fun i => us.getD i Value.none).toArray
  refine ⟨.ref (s.heap.objs.size + 1), _, I.laid (t' := s.toks) (o := .lst (p.map fun i => vs.getD i .non)) (fun b ob z => sortedAll_old z) (Nat.le_succ _) ⟨?_, p.map fun i => us.getD i Value.none, e, rv.getD p fun i hi => ?_, by simpa using hat⟩, rfl, q _ p (I.hok.fresh (Nat.le_succ _)) b1 b2⟩
  · rw [List.length_map, b1.length_eq, List.length_range]
    exact Nat.le_of_lt (small1000 (by omega))
  · have := b1.mem_iff.mp hi
    simpa using this
end
theorem op_ne_refK {X : Cx} {K : PySem.W.Frag} (e : X.K = K) (hu : X.A.units + 64 < cLine) : OpR X (compareOp .NotEq) (rNeR K) := by subst e; exact op_ne_ref hu
theorem op_in_seqK {X : Cx} {K : PySem.W.Frag} (e : X.K = K) : OpR X (compareOp .In) (rIn K false) := by subst e; exact op_in_seq
open PySem PySem.Spec PyProof.Rows
section
variable {X : Cx}
def tLSet (K : PySem.W.Frag) (te : TE) : TE := fun σ H Q => te σ H fun v H1 => ∃ (l : Addr) (ns : List Int), v = .ref l /\ SqL K H1 l (ns.map V.int) /\ (dd ns).length ≤ 63 /\ Q (.int (dd ns).length) H1
theorem pe_lset {e : Expr} {te : TE} {p1 p2 pos1 pos2 : Pos} (hc : X.calm = true) (hg1 : Gl X "len") (hm1 : X.mg "len" = none) (hg2 : Gl X "set") (hm2 : X.mg "set" = none) (he : PE X e te)
    (hs1 : starEach [Expr.Call (.Name "set" p2) [e] [] pos2] X.env = [(false, eval (Expr.Call (.Name "set" p2) [e] [] pos2) X.env)] := by rfl) (hs2 : starEach [e] X.env = [(false, eval e X.env)] := by rfl) :
    PE X (.Call (.Name "len" p1) [.Call (.Name "set" p2) [e] [] pos2] [] pos1) (tLSet X.K te) := by
  intro pins s σ H Q I h
  refine wpAny_Call_Name_kw (ld_blt I hg1 hm1 PySem.boot_len ?_)
  refine PyProof.Rows.callWith_builtin1 ?_ hs1 rfl
  rw [hs1]
  show wpAny _ _ (spliced ((false, eval (Expr.Call (.Name "set" p2) [e] [] pos2) X.env) :: backTo pos1 [])) _ _ s
  refine Calls.spliced_cons ?_
  refine wpAny_Call_Name_kw (ld_blt I hg2 hm2 boot_set ?_)
  refine PyProof.Rows.callWith_type1 ?_ hs2 rfl
  rw [hs2]
  show wpAny _ _ (spliced ((false, eval e X.env) :: backTo pos2 [])) _ _ s
  refine Calls.spliced_cons (thn (he pins s σ H _ I h) fun u s1 ⟨x, H1, I1, r1, q1⟩ => ?_)
  obtain ⟨l, ns, rfl, hl, h63, q⟩ := q1
  cases r1
  refine Calls.spliced_nil ?_
  obtain ⟨its, rv, p, hz⟩ := I1.list hl
  have hI := intsAre_of rv
  have hlen : its.length = ns.length := by have := rv.length; simpa using this.symm
  refine iset_call (I1.ok.hd hc) p.isList (by simpa using hI) (by rw [List.size_toArray, hlen]; exact h63) fun h' tk hS keep => ?_
  refine Calls.spliced_nil ?_
  have I2 : Inv X pins σ H1 { s1 with heap := h', toks := tk } := I1.kept fun b o e => keep b o (Heap.lt_size e) e
  rw [show its.toArray.size = ns.length by rw [List.size_toArray, hlen]] at hS
  obtain ⟨es, ep, t, ho, hel, hp, hT, h63'⟩ := hS
  have hes : es.size = (dd ns).length := by rw [← keys_len]; exact hp.length_eq
  refine call_len_set ho ⟨rfl, rfl, rfl⟩ rfl hT.fits (by omega) ?_
  exact ⟨.int (dd ns).length, H1, I2.tok _, ⟨_, by rw [hes]⟩, q⟩
theorem dd_nodup {ns : List Int} (h : ns.Nodup) : (dd ns).length = ns.length := by
  have h1 : (dd ns).Perm ns := (List.perm_ext_iff_of_nodup (dedup_nodup _ _) h).mpr fun a => dd_mem
  exact h1.length_eq
end
end L2
namespace Mine
open PySem L2
def top (i : Nat) : Stmt := PySem.Challenge.pw_keepsakes_k48_whole_needed_legs.main.body.getD i (.Pass ⟨0, 0, 0, 0⟩)
abbrev s_Heap___init__ : Stmt := inClass (top 5) 0
abbrev s_Heap_add : Stmt := inClass (top 5) 1
abbrev s_Heap_least : Stmt := inClass (top 5) 2
abbrev s_Heap_take : Stmt := inClass (top 5) 3
abbrev s_Heap_size : Stmt := inClass (top 5) 4
abbrev s_Heap_lift : Stmt := inClass (top 5) 6
abbrev s_Heap_sink : Stmt := inClass (top 5) 7
abbrev s_Heap_lesser_below : Stmt := inClass (top 5) 8
abbrev s_Heap_swap : Stmt := inClass (top 5) 9
abbrev s_prices : Stmt := top 7
abbrev s_last_legs : Stmt := top 8
abbrev s_legs_by_start : Stmt := top 9
abbrev s_price_at : Stmt := top 10
abbrev s_price_over : Stmt := top 11
abbrev s_needed : Stmt := top 13
abbrev s__law_cell_at : Stmt := top 15
abbrev s__law_whole : Stmt := top 16
abbrev s__law_stream : Stmt := top 17
abbrev s__law_legs : Stmt := top 18
abbrev s__law_frame : Stmt := top 19
abbrev s__law_wanted : Stmt := top 20
abbrev s__law_behind : Stmt := top 21
abbrev s__law_prices : Stmt := top 22
abbrev s__law_due : Stmt := top 23
abbrev s__law_lacks : Stmt := top 24
abbrev s__law_tree : Stmt := top 25
abbrev s__law_asked : Stmt := top 26
abbrev s_law : Stmt := top 27
theorem sc_Heap___init__ : FnScope ["self"] ["self"] (defScope s_Heap___init__) := ⟨rfl, rfl, rfl, by decide +kernel, rfl, by decide +kernel, by decide +kernel⟩
theorem sc_Heap_add : FnScope ["self", "item"] ["self", "item"] (defScope s_Heap_add) := ⟨rfl, rfl, rfl, by decide +kernel, rfl, by decide +kernel, by decide +kernel⟩
theorem sc_Heap_least : FnScope ["self"] ["self"] (defScope s_Heap_least) := ⟨rfl, rfl, rfl, by decide +kernel, rfl, by decide +kernel, by decide +kernel⟩
theorem sc_Heap_take : FnScope ["self", "item", "last"] ["self"] (defScope s_Heap_take) := ⟨rfl, rfl, rfl, by decide +kernel, rfl, by decide +kernel, by decide +kernel⟩
theorem sc_Heap_size : FnScope ["self"] ["self"] (defScope s_Heap_size) := ⟨rfl, rfl, rfl, by decide +kernel, rfl, by decide +kernel, by decide +kernel⟩
theorem sc_Heap_lift : FnScope ["self", "place", "low"] ["self", "place"] (defScope s_Heap_lift) := ⟨rfl, rfl, rfl, by decide +kernel, rfl, by decide +kernel, by decide +kernel⟩
theorem sc_Heap_sink : FnScope ["self", "place", "high", "low"] ["self", "place"] (defScope s_Heap_sink) := ⟨rfl, rfl, rfl, by decide +kernel, rfl, by decide +kernel, by decide +kernel⟩
theorem sc_Heap_lesser_below : FnScope ["self", "place", "low"] ["self", "place"] (defScope s_Heap_lesser_below) := ⟨rfl, rfl, rfl, by decide +kernel, rfl, by decide +kernel, by decide +kernel⟩
theorem sc_Heap_swap : FnScope ["self", "one", "other", "item"] ["self", "one", "other"] (defScope s_Heap_swap) := ⟨rfl, rfl, rfl, by decide +kernel, rfl, by decide +kernel, by decide +kernel⟩
theorem sc_prices : FnScope ["legs", "starting", "priced", "heap", "item", "leg"] ["legs"] (defScope s_prices) := ⟨rfl, rfl, rfl, by decide +kernel, rfl, by decide +kernel, by decide +kernel⟩
theorem sc_last_legs : FnScope ["legs", "priced", "last", "leg", "start"] ["legs"] (defScope s_last_legs) := ⟨rfl, rfl, rfl, by decide +kernel, rfl, by decide +kernel, by decide +kernel⟩
theorem sc_legs_by_start : FnScope ["legs", "starting", "leg"] ["legs"] (defScope s_legs_by_start) := ⟨rfl, rfl, rfl, by decide +kernel, rfl, by decide +kernel, by decide +kernel⟩
theorem sc_price_at : FnScope ["priced", "start"] ["priced", "start"] (defScope s_price_at) := ⟨rfl, rfl, rfl, by decide +kernel, rfl, by decide +kernel, by decide +kernel⟩
theorem sc_price_over : FnScope ["price", "leg"] ["price", "leg"] (defScope s_price_over) := ⟨rfl, rfl, rfl, by decide +kernel, rfl, by decide +kernel, by decide +kernel⟩
theorem sc_needed : FnScope ["legs", "wanted", "last", "starts", "found", "day", "at"] ["legs", "wanted"] (defScope s_needed) := ⟨rfl, rfl, rfl, by decide +kernel, rfl, by decide +kernel, by decide +kernel⟩
theorem sc__law_cell_at : FnScope ["_law_script", "_law_k"] ["_law_script", "_law_k"] (defScope s__law_cell_at) := ⟨rfl, rfl, rfl, by decide +kernel, rfl, by decide +kernel, by decide +kernel⟩
theorem sc__law_whole : FnScope ["_law_found"] ["_law_found"] (defScope s__law_whole) := ⟨rfl, rfl, rfl, by decide +kernel, rfl, by decide +kernel, by decide +kernel⟩
theorem sc__law_stream : FnScope ["_law_cell", "_law_many", "_law_found", "_law_number", "_law_k"] ["_law_cell", "_law_many"] (defScope s__law_stream) := ⟨rfl, rfl, rfl, by decide +kernel, rfl, by decide +kernel, by decide +kernel⟩
theorem sc__law_legs : FnScope ["_law_some", "_law_frame_here", "_law_legs_here", "_law_k", "_law_xs", "_law_day", "_law_start", "_law_number", "_law_great", "_law_cost"] ["_law_some", "_law_frame_here"] (defScope s__law_legs) := ⟨rfl, rfl, rfl, by decide +kernel, rfl, by decide +kernel, by decide +kernel⟩
theorem sc__law_frame : FnScope ["_law_cell", "_law_xs", "_law_far"] ["_law_cell"] (defScope s__law_frame) := ⟨rfl, rfl, rfl, by decide +kernel, rfl, by decide +kernel, by decide +kernel⟩
theorem sc__law_wanted : FnScope ["_law_cell", "_law_frame_here", "_law_xs", "_law_wanted_here"] ["_law_cell", "_law_frame_here"] (defScope s__law_wanted) := ⟨rfl, rfl, rfl, by decide +kernel, rfl, by decide +kernel, by decide +kernel⟩
theorem sc__law_behind : FnScope ["_law_price", "_law_leg"] ["_law_price", "_law_leg"] (defScope s__law_behind) := ⟨rfl, rfl, rfl, by decide +kernel, rfl, by decide +kernel, by decide +kernel⟩
theorem sc__law_prices : FnScope ["_law_legs_here", "_law_best", "_law_turn", "_law_changed", "_law_leg", "_law_price"] ["_law_legs_here"] (defScope s__law_prices) := ⟨rfl, rfl, rfl, by decide +kernel, rfl, by decide +kernel, by decide +kernel⟩
theorem sc__law_due : FnScope ["_law_legs_here", "_law_best", "_law_wanted_here", "_law_last", "_law_leg", "_law_found", "_law_day", "_law_here"] ["_law_legs_here", "_law_best", "_law_wanted_here"] (defScope s__law_due) := ⟨rfl, rfl, rfl, by decide +kernel, rfl, by decide +kernel, by decide +kernel⟩
theorem sc__law_lacks : FnScope ["_law_legs_here", "_law_wanted_here", "_law_best", "_law_known", "_law_day"] ["_law_legs_here", "_law_wanted_here", "_law_best"] (defScope s__law_lacks) := ⟨rfl, rfl, rfl, by decide +kernel, rfl, by decide +kernel, by decide +kernel⟩
theorem sc__law_tree : FnScope ["_law_legs_here", "_law_stay", "_law_wanted_here", "_law_best", "_law_days", "_law_known", "_law_day", "_law_leg"] ["_law_legs_here", "_law_stay", "_law_wanted_here", "_law_best"] (defScope s__law_tree) := ⟨rfl, rfl, rfl, by decide +kernel, rfl, by decide +kernel, by decide +kernel⟩
theorem sc__law_asked : FnScope ["_law_legs_here", "_law_wanted_here", "_law_best", "_law_handed", "_law_given", "_law_found", "_law_number"] ["_law_legs_here", "_law_wanted_here"] (defScope s__law_asked) := ⟨rfl, rfl, rfl, by decide +kernel, rfl, by decide +kernel, by decide +kernel⟩
theorem sc_law : FnScope ["_law_script", "_law_frame_here", "_law_legs_here", "_law_wanted_here", "_law_other", "_law_row"] ["_law_script"] (defScope s_law) := ⟨rfl, rfl, rfl, by decide +kernel, rfl, by decide +kernel, by decide +kernel⟩
theorem if_yes {c : TT} {t u : TS} {D : Ends} {σ : St} {H : Hp} (hc : ∀ Q : Bool->Hp->Prop, Q true H->c σ H Q) (h : t D σ H) : tIfS c t u D σ H := hc _ (iteT h)
theorem if_no {c : TT} {t u : TS} {D : Ends} {σ : St} {H : Hp} (hc : ∀ Q : Bool->Hp->Prop, Q false H->c σ H Q) (h : u D σ H) : tIfS c t u D σ H := hc _ (iteF h)
theorem cutA {S1 R : TS} {D : Ends} {σ : St} {H : Hp} (Post : St->Hp->Prop) (h : ∀ N : St->Hp->Prop, (∀ σ' H', Post σ' H'->N σ' H')->S1 { D with nx := N } σ H) (hr : ∀ σ' H', Post σ' H'->R D σ' H') : tSeq S1 R D σ H := h (R D) hr
theorem gNameA {k : Nat} {x : V} {σ : St} (σ' : St) {H : Hp} {N : St->Hp->Prop} (h : N σ' H) (e : σ.set k (some x) = σ' := by rfl) : gName k x σ H N := by subst e; exact h
theorem upd_upd {H : Hp} {a : Addr} {o o' : HO} : upd (upd H a o) a o' = upd H a o' := by
  funext b
  by_cases h : b = a
  · subst h; rw [upd_same, upd_same]
  · rw [upd_ne h, upd_ne h, upd_ne h]
def sp_hinit (C : Addr) : Sp := fun vs H Q _ => ∃ (p dx : Addr), vs = [.ref p] /\ H p = some (.ins C dx []) /\ ∀ r H', H r = none->HpAt C true H' p r [] []->HpAt C false H' p r [] []->Keep [p] H H'->Q .non H'
def sp_swap (C : Addr) : Sp := fun vs H Q _ => ∃ (tu : Bool) (p r : Addr) (xs : List V) (its : List (List Int)) (i j : Nat), vs = [.ref p, .int (i : Int), .int (j : Int)] /\ HpAt C tu H p r xs its /\ i < its.length /\ j < its.length ∧
  ∀ xs' H', HpAt C tu H' p r xs' (swp its i j)->Keep [r] H H'->Q .non H'
def sp_lesser (C : Addr) : Sp := fun vs H Q _ => ∃ (tu : Bool) (p r : Addr) (xs : List V) (its : List (List Int)) (i : Nat), vs = [.ref p, .int (i : Int)] /\ HpAt C tu H p r xs its /\ Q (.int (lsr its i : Int)) H
def sp_lift (C : Addr) : Sp := fun vs H Q _ => ∃ (tu : Bool) (p r : Addr) (xs : List V) (its : List (List Int)) (k : Nat), vs = [.ref p, .int (k : Int)] /\ HpAt C tu H p r xs its /\ k < its.length /\ LiftI its k ∧
  ∀ xs' its' H', HpAt C tu H' p r xs' its'->HOrd its'->its'.Perm its->Keep [r] H H'->Q .non H'
def sp_sink (C : Addr) : Sp := fun vs H Q _ => ∃ (tu : Bool) (p r : Addr) (xs : List V) (its : List (List Int)) (k : Nat), vs = [.ref p, .int (k : Int)] /\ HpAt C tu H p r xs its /\ k < its.length /\ SinkI its k ∧
  ∀ xs' its' H', HpAt C tu H' p r xs' its'->HOrd its'->its'.Perm its->Keep [r] H H'->Q .non H'
def sp_add (C : Addr) : Sp := fun vs H Q _ => ∃ (tu : Bool) (p r : Addr) (xs : List V) (its : List (List Int)) (v : V) (ks : List Int), vs = [.ref p, v] /\ HpAt C tu H p r xs its /\ HOrd its /\ KeyAt tu H v ks /\ its.length < 100000 ∧
  ∀ xs' its' H', HpAt C tu H' p r xs' its'->HOrd its'->its'.Perm (its ++ [ks])->Keep [r] H H'->Q .non H'
def sp_least (C CN : Addr) : Sp := fun vs H Q E => ∃ (tu : Bool) (p r : Addr) (xs : List V) (its : List (List Int)), vs = [.ref p] /\ HpAt C tu H p r xs its /\ HOrd its ∧
  (∀ v, its ≠ []->xs[0]? = some v->KeyAt tu H v (gK its 0)->(∀ ks ∈ its, Le (gK its 0) ks)->Q v H) /\ (its = []->∀ e H', ExcAt H' e CN []->Same H H'->E (.ref CN) (some e) H')
def sp_take (C CN : Addr) : Sp := fun vs H Q E => ∃ (tu : Bool) (p r : Addr) (xs : List V) (its : List (List Int)), vs = [.ref p] /\ HpAt C tu H p r xs its /\ HOrd its ∧
  (its ≠ []->∀ v m xs' its' H', KeyAt tu H' v m->HpAt C tu H' p r xs' its'->HOrd its'->its.Perm (m :: its')->(∀ ks ∈ its, Le m ks)->v ∈ xs->Keep [r] H H'->Q v H') /\ (its = []->∀ e H', ExcAt H' e CN []->Same H H'->E (.ref CN) (some e) H')
def sp_hsize (C : Addr) : Sp := fun vs H Q _ => ∃ (tu : Bool) (p r : Addr) (xs : List V) (its : List (List Int)), vs = [.ref p] /\ HpAt C tu H p r xs its /\ Q (.int (its.length : Int)) H
theorem mem_le {l : List (List Int)} (h : HOrd l) : ∀ ks ∈ l, Le (gK l 0) ks := fun ks hk => by
  obtain ⟨i, hi, e⟩ := List.getElem_of_mem hk
  have := hord_min h i hi
  rw [show gK l i = ks by simp [gK, List.getD_eq_getElem?_getD, hi, e]] at this
  exact this
theorem row_no {m : Str} {r : Addr} (h : ¬ m = "row") : ([("row", V.ref r)] : List (Str × V)).lookup m = none := by rw [look_ne h]; rfl
def sp_over : Sp := fun vs H Q _ => ∃ (a b : Addr) (p : List Int) (g : Leg), vs = [.ref a, .ref b] /\ IsPr p /\ H a = some (.tup (p.map V.int)) /\ H b = some (.tup ((legT g).map V.int)) /\ ∀ t, H t = none->Q (.ref t) (upd H t (.tup ((overT p g).map V.int)))
def selV (LV : List V) (legs : List Leg) (d : Int) : List V := ((LV.zip legs).filter fun x => decide (x.2.start = d)).map (·.1)
structure StAt (H : Hp) (kvs : List (Key × V)) (LV : List V) (legs : List Leg) : Prop where
  val : ∀ d, (∃ l, valV kvs (Sum.inl d) = some (.ref l) /\ H l = some (.lst (selV LV legs d))) ∨ (valV kvs (Sum.inl d) = none /\ selV LV legs d = [])
def sp_lbs : Sp := fun vs H Q _ => ∃ (a : Addr) (LV : List V) (legs : List Leg), vs = [.ref a] /\ H a = some (.lst LV) /\ KeysAt true H LV (legs.map legT) /\ legs.length ≤ 1000 ∧
  ∀ s kvs H', H' s = some (.dK kvs)->StAt H' kvs LV legs->H s = none->Same H H'->Q (.ref s) H'
def sp_prices : Sp := fun vs H Q _ => ∃ (a : Addr) (LV : List V) (legs : List Leg), vs = [.ref a] /\ H a = some (.lst LV) /\ KeysAt true H LV (legs.map legT) /\ (∀ g ∈ legs, LegOk g) /\ legs.length ≤ 500 ∧
  ∀ d kvs P H', H' d = some (.dK kvs)->PrAt H' kvs (dropP P (-1))->Least legs P->H d = none->kvs.length ≤ 501->Same H H'->Q (.ref d) H'
theorem sel_take {LV : List V} {legs : List Leg} {i : Nat} {v : V} {g : Leg} (h1 : LV[i]? = some v) (h2 : legs[i]? = some g) (d : Int) : selV (LV.take (i + 1)) (legs.take (i + 1)) d = selV (LV.take i) (legs.take i) d ++ (if g.start = d then [v] else []) := by
  have l1 := (List.getElem?_eq_some_iff.mp h1).1
  have l2 := (List.getElem?_eq_some_iff.mp h2).1
  unfold selV
  rw [List.take_add_one, List.take_add_one, h1, h2]
  rw [List.zip_append (by rw [List.length_take, List.length_take]; omega), List.filter_append, List.map_append]
  congr 1
  show ((([v].zip [g]).filter fun x => decide (x.2.start = d)).map (·.1)) = _
  by_cases e : g.start = d <;> simp [e]
theorem sel_keys {H : Hp} {LV : List V} {legs : List Leg} (R : KeysAt true H LV (legs.map legT)) (d : Int) : KeysAt true H (selV LV legs d) ((legs.filter fun g => decide (g.start = d)).map legT) := by
  have key : ∀ (n : Nat), n ≤ legs.length->KeysAt true H (selV (LV.take n) (legs.take n) d) (((legs.take n).filter fun g => decide (g.start = d)).map legT) := by
    intro n
    induction n with
    | zero => intro _; simp [selV]; exact KeysAt.nil
    | succ n ih =>
      intro hn
      have hg : legs[n]? = some legs[n] := List.getElem?_eq_getElem (by omega)
      have hl : n < LV.length := by rw [R.len, List.length_map]; omega
      have hv : LV[n]? = some LV[n] := List.getElem?_eq_getElem hl
      generalize legs[n] = g at hg
      generalize LV[n] = v at hv
      rw [sel_take hv hg d, List.take_add_one, hg, List.filter_append, List.map_append]
      by_cases e : g.start = d
      · rw [if_pos e]
        have k := R.get n v (legT g) hv (by rw [List.getElem?_map, hg]; rfl)
        have := (ih (by omega)).snoc k
        simpa [e] using this
      · rw [if_neg e]
        have := ih (by omega)
        simpa [e] using this
  have := key legs.length (Nat.le_refl _)
  rw [List.take_length, List.take_of_length_le (by rw [R.len, List.length_map]; exact Nat.le_refl _)] at this
  exact this
theorem key_tup {H : Hp} {v : V} {ks : List Int} (h : KeyAt true H v ks) : ∃ a, v = .ref a /\ H a = some (.tup (ks.map V.int)) := h
def sp_priceat : Sp := fun vs H Q _ => ∃ (pd : Addr) (kvs : List (Key × V)) (P : Int->Option (List Int)) (st : Int), vs = [.ref pd, .int st] /\ H pd = some (.dK kvs) /\ PrAt H kvs (dropP P (-1)) /\ P (-1) = some [0, 0, 0] /\ (P st = none->Q .non H) /\ (∀ p, P st = some p->∀ t H', H' t = some (.tup (p.map V.int))->Same H H'->Q (.ref t) H')
theorem nd_map {α β : Type} {f : α->β} (hf : ∀ a b, f a = f b->a = b) : ∀ {l : List α}, l.Nodup->(l.map f).Nodup
  | [], _ => List.nodup_nil
  | x :: l, h => by
    rw [List.nodup_cons] at h
    rw [List.map_cons, List.nodup_cons]
    refine ⟨fun hm => ?_, nd_map hf h.2⟩
    obtain ⟨y, hy, e⟩ := List.mem_map.mp hm
    exact h.1 (by rw [← hf _ _ e]; exact hy)
theorem least_has {legs : List Leg} {P : Int->Option (List Int)} (h : Least legs P) : ∀ (n : Nat) (d b c : Int), P d = some [b, c, (n : Int)]->∀ j : Nat, 1 ≤ j->j ≤ n->∃ g ∈ legs, ∃ b' c', P g.to = some [b', c', (j : Int)] := by
  intro n
  induction n with
  | zero => intro d b c _ j h1 h2; omega
  | succ n ih =>
    intro d b c hd j h1 h2
    have e : d ≠ -1 := fun e => by rw [e, h.zero] at hd; cases hd
    obtain ⟨g, hg, rfl, p, hp, hq⟩ := h.att d _ hd e
    obtain ⟨b', c', m, rfl⟩ := h.pr _ _ hp
    have h3 : ((n + 1 : Nat) : Int) = (m : Int) + 1 := congrArg (fun l : List Int => l.getD 2 0) hq
    have hm : m = n := by omega
    subst hm
    by_cases ej : j = m + 1
    · subst ej; exact ⟨g, hg, b, c, hd⟩
    · exact ih _ _ _ hp j h1 (by omega)
theorem least_cnt {legs : List Leg} {P : Int->Option (List Int)} (h : Least legs P) {n : Nat} {d b c : Int} (hd : P d = some [b, c, (n : Int)]) : n ≤ legs.length := by
  have := nd_len (l := (List.range n).map fun j : Nat => ((j + 1 : Nat) : Int)) (m := legs.map fun g => ((P g.to).getD []).getD 2 0) ?_ ?_
  · simpa using this
  · exact nd_map (fun a b hab => by omega) List.nodup_range
  · intro x hx
    obtain ⟨j, hj, rfl⟩ := List.mem_map.mp hx
    have hj := List.mem_range.mp hj
    obtain ⟨g, hg, b', c', e⟩ := least_has h n d b c hd (j + 1) (by omega) (by omega)
    exact List.mem_map.mpr ⟨g, hg, by rw [e]; rfl⟩
def Att (P : Int->Option (List Int)) (g : Leg) : Prop := ∃ p, P g.start = some p /\ P g.to = some (overT p g)
structure IsLast (legs : List Leg) (P : Int->Option (List Int)) (L : Int->Option Int) : Prop where
  none_ : ∀ d, L d = none->∀ g ∈ legs, g.to = d->¬ Att P g
  some_ : ∀ d x, L d = some x->(∃ g ∈ legs, g.to = d /\ Att P g /\ g.num = x) /\ ∀ g ∈ legs, g.to = d->Att P g->x ≤ g.num
theorem IsLast.one {legs legs' : List Leg} {P : Int->Option (List Int)} {L L' : Int->Option Int} (h : IsLast legs P L) (h' : IsLast legs' P L') (e : ∀ g, g ∈ legs ↔ g ∈ legs') : L = L' := by
  funext d
  cases hL : L d with
  | none =>
    cases hL' : L' d with
    | none => rfl
    | some x => obtain ⟨⟨g, hg, h1, h2, _⟩, _⟩ := h'.some_ d x hL'; exact absurd h2 (h.none_ d hL g ((e g).mpr hg) h1)
  | some x =>
    obtain ⟨⟨g, hg, h1, h2, h3⟩, h4⟩ := h.some_ d x hL
    cases hL' : L' d with
    | none => exact absurd h2 (h'.none_ d hL' g ((e g).mp hg) h1)
    | some y =>
      obtain ⟨⟨g', hg', h1', h2', h3'⟩, h4'⟩ := h'.some_ d y hL'
      have a := h4 g' ((e g').mpr hg') h1' h2'
      have b := h4' g ((e g).mp hg) h1 h2
      congr 1; omega
def putC (C : Int->Option Int) (d c : Int) : Int->Option Int := fun i => if i = d then some c else C i
theorem IsLast.nil {P : Int->Option (List Int)} : IsLast [] P (fun _ => none) := ⟨fun d _ g hg => (by cases hg), fun d x h => (by cases h)⟩
theorem IsLast.skip {ls : List Leg} {P : Int->Option (List Int)} {L : Int->Option Int} (h : IsLast ls P L) {g : Leg} (hg : ¬ Att P g) : IsLast (ls ++ [g]) P L := by
  refine ⟨fun d hd g' hg' e ha => ?_, fun d x hx => ?_⟩
  · rcases List.mem_append.mp hg' with h1 | h1
    · exact h.none_ d hd g' h1 e ha
    · rw [List.mem_singleton.mp h1] at ha; exact hg ha
  · obtain ⟨⟨g', h1, h2⟩, h3⟩ := h.some_ d x hx
    refine ⟨⟨g', List.mem_append_left _ h1, h2⟩, fun g'' h4 e ha => ?_⟩
    rcases List.mem_append.mp h4 with h4 | h4
    · exact h3 g'' h4 e ha
    · rw [List.mem_singleton.mp h4] at ha; exact absurd ha hg
theorem IsLast.put {ls : List Leg} {P : Int->Option (List Int)} {L : Int->Option Int} (h : IsLast ls P L) {g : Leg} (hg : Att P g) : IsLast (ls ++ [g]) P (putC L g.to (min g.num ((L g.to).getD g.num))) := by
  refine ⟨fun d hd g' hg' e ha => ?_, fun d x hx => ?_⟩
  · unfold putC at hd
    split at hd
    · cases hd
    · rename_i hne
      rcases List.mem_append.mp hg' with h1 | h1
      · exact h.none_ d hd g' h1 e ha
      · rw [List.mem_singleton.mp h1] at e; exact hne e.symm
  · unfold putC at hx
    split at hx
    · rename_i hde
      subst hde
      cases hx
      cases hL : L g.to with
      | none =>
        show (∃ g' ∈ ls ++ [g], g'.to = g.to /\ Att P g' /\ g'.num = min g.num g.num) /\ ∀ g' ∈ ls ++ [g], g'.to = g.to->Att P g'->min g.num g.num ≤ g'.num
        refine ⟨⟨g, by simp, rfl, hg, by omega⟩, fun g' h1 e ha => ?_⟩
        rcases List.mem_append.mp h1 with h1 | h1
        · exact absurd ha (h.none_ _ hL g' h1 e)
        · rw [List.mem_singleton.mp h1]; omega
      | some y =>
        obtain ⟨⟨g2, a1, a2, a3, a4⟩, a5⟩ := h.some_ _ y hL
        show (∃ g' ∈ ls ++ [g], g'.to = g.to /\ Att P g' /\ g'.num = min g.num y) /\ ∀ g' ∈ ls ++ [g], g'.to = g.to->Att P g'->min g.num y ≤ g'.num
        refine ⟨?_, fun g' h1 e ha => ?_⟩
        · by_cases hlt : g.num ≤ y
          · exact ⟨g, by simp, rfl, hg, by omega⟩
          · exact ⟨g2, List.mem_append_left _ a1, a2, a3, by omega⟩
        · rcases List.mem_append.mp h1 with h1 | h1
          · have := a5 g' h1 e ha; omega
          · rw [List.mem_singleton.mp h1]; omega
    · rename_i hne
      obtain ⟨⟨g', h1, h2⟩, h3⟩ := h.some_ d x hx
      refine ⟨⟨g', List.mem_append_left _ h1, h2⟩, fun g'' h4 e ha => ?_⟩
      rcases List.mem_append.mp h4 with h4 | h4
      · exact h3 g'' h4 e ha
      · rw [List.mem_singleton.mp h4] at e; exact absurd e.symm hne
structure NumAt (kvs : List (Key × V)) (L : Int->Option Int) : Prop where
  nd : (kvs.map (·.1)).Nodup
  alli : AllI kvs
  val : ∀ i, valV kvs (Sum.inl i) = (L i).map V.int
theorem NumAt.nil : NumAt [] (fun _ => none) := ⟨List.nodup_nil, AllI.nil, fun i => rfl⟩
theorem NumAt.put {kvs : List (Key × V)} {L : Int->Option Int} (h : NumAt kvs L) (d c : Int) : NumAt (putK kvs (Sum.inl d) (.int c)) (putC L d c) := by
  refine ⟨nd_put _ h.nd, h.alli.put d _, fun i => ?_⟩
  rw [valV_put]
  unfold putC
  by_cases e : i = d
  · subst e; rw [if_pos rfl, if_pos rfl]; rfl
  · rw [if_neg (fun z => e (Sum.inl.inj z)), if_neg e]; exact h.val i
def StOf (legs : List Leg) (x s : Int) : Prop := ∃ g ∈ legs, g.num = x /\ g.start = s
inductive Chain (L : Int->Option Int) (legs : List Leg) : Int->List Int->Prop
  | nil : Chain L legs (-1) []
  | cons {d x s : Int} {ws : List Int} : d ≠ -1->L d = some x->StOf legs x s->Chain L legs s ws->Chain L legs d (x :: ws)
def sp_last : Sp := fun vs H Q _ => ∃ (a : Addr) (LV : List V) (legs : List Leg), vs = [.ref a] /\ H a = some (.lst LV) /\ KeysAt true H LV (legs.map legT) /\ (∀ g ∈ legs, LegOk g) /\ legs.length ≤ 500 ∧
  ∀ d kvs P L H', H' d = some (.dK kvs)->NumAt kvs L->Least legs P->IsLast legs P L->H d = none->kvs.length ≤ 500->Same H H'->Q (.ref d) H'
theorem nd_inj : ∀ {l : List Leg}, (l.map Leg.num).Nodup->∀ {g g' : Leg}, g ∈ l->g' ∈ l->g.num = g'.num->g = g'
  | x :: l, h, g, g', hg, hg', e => by
    rw [List.map_cons, List.nodup_cons] at h
    rcases List.mem_cons.mp hg with e1 | h1
    · rcases List.mem_cons.mp hg' with e2 | h2
      · rw [e1, e2]
      · exact absurd (List.mem_map.mpr ⟨g', h2, by rw [← e, e1]⟩) h.1
    · rcases List.mem_cons.mp hg' with e2 | h2
      · exact absurd (List.mem_map.mpr ⟨g, h1, by rw [e, e2]⟩) h.1
      · exact nd_inj h.2 h1 h2 e
theorem merge_other : ∀ (ls : List Leg) (acc : List (Key × V)) (k : Int), k ∉ ls.map Leg.num->valV (mergeK acc (ls.map fun g => ((Sum.inl g.num : Key), V.int g.start))) (Sum.inl k) = valV acc (Sum.inl k)
  | [], _, _, _ => rfl
  | g :: r, acc, k, h => by
    simp only [List.map_cons, List.mem_cons, not_or] at h
    show valV (mergeK (putK acc (Sum.inl g.num) (V.int g.start)) (r.map fun g => ((Sum.inl g.num : Key), V.int g.start))) (Sum.inl k) = _
    rw [merge_other r _ k h.2, valV_put, if_neg (fun z => h.1 (Sum.inl.inj z))]
theorem merge_val : ∀ (ls : List Leg) (acc : List (Key × V)), (ls.map Leg.num).Nodup->∀ g ∈ ls, valV (mergeK acc (ls.map fun g => ((Sum.inl g.num : Key), V.int g.start))) (Sum.inl g.num) = some (.int g.start)
  | g0 :: r, acc, hn, g, hg => by
    rw [List.map_cons, List.nodup_cons] at hn
    show valV (mergeK (putK acc (Sum.inl g0.num) (V.int g0.start)) (r.map fun g => ((Sum.inl g.num : Key), V.int g.start))) (Sum.inl g.num) = _
    rcases List.mem_cons.mp hg with e | hg
    · subst e
      rw [merge_other r _ _ hn.1, valV_put, if_pos rfl]
    · exact merge_val r _ hn.2 g hg
inductive Goes (legs : List Leg) : Int->Int->Int->Int->Prop
  | zero : Goes legs (-1) 0 0 0
  | step {g : Leg} {b c n : Int} : g ∈ legs->Goes legs g.start b c n->Goes legs g.to (b + g.bad) (c + g.cost) (n + 1)
theorem Goes.pos {legs : List Leg} (ok : ∀ g ∈ legs, LegOk g) : ∀ {d b c n : Int}, Goes legs d b c n->0 ≤ b /\ 0 ≤ c /\ 0 ≤ n
  | _, _, _, _, .zero => ⟨by omega, by omega, by omega⟩
  | _, _, _, _, .step hg h => by
    obtain ⟨h1, h2, h3⟩ := h.pos ok
    obtain ⟨_, h4, h5⟩ := ok _ hg
    exact ⟨by omega, by omega, by omega⟩
theorem goes_min {legs : List Leg} (ok : ∀ g ∈ legs, LegOk g) (d : Int) : ∀ (x : Nat × Nat × Nat) (b c n : Int), x = (b.toNat, c.toNat, n.toNat)->Goes legs d b c n->∃ b c n, Goes legs d b c n /\ ∀ b' c' n', Goes legs d b' c' n'->Le [b, c, n] [b', c', n'] := by
  intro x
  refine (Prod.lex (Nat.lt_wfRel) (Prod.lex Nat.lt_wfRel Nat.lt_wfRel)).wf.induction (C := fun x => ∀ (b c n : Int), x = (b.toNat, c.toNat, n.toNat)->Goes legs d b c n->∃ b c n, Goes legs d b c n /\ ∀ b' c' n', Goes legs d b' c' n'->Le [b, c, n] [b', c', n']) x ?_
  clear x
  intro x ih b c n e h
  by_cases hex : ∃ b' c' n', Goes legs d b' c' n' /\ HT.lexLt [b', c', n'] [b, c, n] = true
  · obtain ⟨b', c', n', h', hlt⟩ := hex
    refine ih (b'.toNat, c'.toNat, n'.toNat) ?_ b' c' n' rfl h'
    rw [lex3, decide_eq_true_eq] at hlt
    have p := h.pos ok
    have p' := h'.pos ok
    subst e
    show Prod.Lex _ _ _ _
    rcases hlt with h1 | ⟨h1, h2 | ⟨h2, h3⟩⟩
    · exact Prod.Lex.left _ _ (show b'.toNat < b.toNat by omega)
    · rw [h1]; exact Prod.Lex.right _ (Prod.Lex.left _ _ (show c'.toNat < c.toNat by omega))
    · rw [h1, h2]; exact Prod.Lex.right _ (Prod.Lex.right _ (show n'.toNat < n.toNat by omega))
  · refine ⟨b, c, n, h, fun b' c' n' h' => ?_⟩
    show HT.lexLt [b', c', n'] [b, c, n] = false
    cases z : HT.lexLt [b', c', n'] [b, c, n] with
    | false => rfl
    | true => exact absurd ⟨b', c', n', h', z⟩ hex
theorem least_ex {legs : List Leg} (ok : ∀ g ∈ legs, LegOk g) : ∃ P, Least legs P := by
  classical
  let M : Int->Int->Int->Int->Prop := fun d b c n => Goes legs d b c n /\ ∀ b' c' n', Goes legs d b' c' n'->Le [b, c, n] [b', c', n']
  have key : ∀ d, ∃ o : Option (List Int), (∀ q, o = some q->∃ b c n, q = [b, c, n] /\ M d b c n) /\ (o = none->∀ b c n, ¬ Goes legs d b c n) := fun d => by
    by_cases h : ∃ b c n, Goes legs d b c n
    · obtain ⟨b, c, n, h⟩ := h
      obtain ⟨b, c, n, h⟩ := goes_min ok d _ b c n rfl h
      exact ⟨some [b, c, n], fun q e => ⟨b, c, n, (Option.some.inj e).symm, h⟩, fun e => by cases e⟩
    · exact ⟨none, (fun q e => by cases e), fun _ b c n h' => h ⟨b, c, n, h'⟩⟩
  let P : Int->Option (List Int) := fun d => Classical.choose (key d)
  have hP : ∀ d, (∀ q, P d = some q->∃ b c n, q = [b, c, n] /\ M d b c n) /\ (P d = none->∀ b c n, ¬ Goes legs d b c n) := fun d => Classical.choose_spec (key d)
  have one : ∀ {d b c n b' c' n'}, M d b c n->M d b' c' n'->[b, c, n] = [b', c', n'] := fun h h' => Le.antisymm (h.2 _ _ _ h'.1) (h'.2 _ _ _ h.1)
  have of : ∀ {d b c n}, Goes legs d b c n->∃ b' c' n', P d = some [b', c', n'] /\ M d b' c' n' := fun {d b c n} h => by
    cases e : P d with
    | none => exact absurd h ((hP d).2 e b c n)
    | some q => obtain ⟨b', c', n', rfl, hm⟩ := (hP d).1 q e; exact ⟨b', c', n', rfl, hm⟩
  have isn : ∀ {d b c n}, Goes legs d b c n->∃ m : Nat, n = (m : Int) := fun h => ⟨_, (Int.toNat_of_nonneg (h.pos ok).2.2).symm⟩
  refine ⟨P, ?_, ?_, ?_, ?_⟩
  · obtain ⟨b, c, n, e, hm⟩ := of (.zero)
    rw [e]
    have h0 : Goes legs (-1) b c n := hm.1
    generalize hd : (-1 : Int) = d at h0
    cases h0 with
    | zero => rfl
    | step hg _ => have := (ok _ hg).1; omega
  · intro d q e
    obtain ⟨b, c, n, rfl, hm⟩ := (hP d).1 q e
    obtain ⟨m, rfl⟩ := isn hm.1
    exact ⟨b, c, m, rfl⟩
  · intro g hg p e
    obtain ⟨b, c, n, rfl, hm⟩ := (hP _).1 p e
    have := Goes.step hg hm.1
    obtain ⟨b', c', n', e', hm'⟩ := of this
    exact ⟨_, e', hm'.2 _ _ _ this⟩
  · intro d q e hd
    obtain ⟨b, c, n, rfl, hm⟩ := (hP d).1 q e
    have h0 := hm.1
    have hmin := hm.2
    cases h0 with
    | zero => exact absurd rfl hd
    | step hg h1 =>
      rename_i g b1 c1 n1
      obtain ⟨b2, c2, n2, e2, hm2⟩ := of h1
      refine ⟨g, hg, rfl, _, e2, ?_⟩
      obtain ⟨k1, rfl⟩ := isn h1
      obtain ⟨k2, rfl⟩ := isn hm2.1
      have a1 := hmin _ _ _ (Goes.step hg hm2.1)
      have a2 := over_mono ⟨_, _, _, rfl⟩ ⟨_, _, _, rfl⟩ (hm2.2 _ _ _ h1) g
      exact Le.antisymm a1 a2
inductive OnCh (L : Int->Option Int) (legs : List Leg) : Int->Leg->Prop
  | here {d : Int} {g : Leg} : g ∈ legs->L d = some g.num->OnCh L legs d g
  | up {d : Int} {g g' : Leg} : g ∈ legs->L d = some g.num->OnCh L legs g.start g'->OnCh L legs d g'
structure Ned (legs : List Leg) (P : Int->Option (List Int)) (L : Int->Option Int) : Prop where
  nd : (legs.map Leg.num).Nodup
  ok : ∀ g ∈ legs, LegOk g
  lp : Least legs P
  il : IsLast legs P L
def NeedS (L : Int->Option Int) (legs : List Leg) (ds : List Int) (g : Leg) : Prop := ∃ d ∈ ds, OnCh L legs d g
section
variable {legs : List Leg} {P : Int->Option (List Int)} {L : Int->Option Int}
theorem Ned.uniq (N : Ned legs P L) {d : Int} {g : Leg} (hg : g ∈ legs) (h : L d = some g.num) : g.to = d /\ Att P g := by
  obtain ⟨⟨g', h1, h2, h3, h4⟩, _⟩ := N.il.some_ d _ h
  have := nd_inj N.nd h1 hg h4
  subst this
  exact ⟨h2, h3⟩
theorem Ned.leg (N : Ned legs P L) {d x : Int} (h : L d = some x) : ∃ g ∈ legs, g.num = x /\ g.to = d /\ Att P g := by
  obtain ⟨⟨g', h1, h2, h3, h4⟩, _⟩ := N.il.some_ d _ h
  exact ⟨g', h1, h4, h2, h3⟩
theorem OnCh.mem : ∀ {d : Int} {g : Leg}, OnCh L legs d g->g ∈ legs
  | _, _, .here h _ => h
  | _, _, .up _ _ h => h.mem
theorem OnCh.last (N : Ned legs P L) : ∀ {d : Int} {g : Leg}, OnCh L legs d g->L g.to = some g.num
  | _, _, .here h1 h2 => by rw [(N.uniq h1 h2).1]; exact h2
  | _, _, .up _ _ h => h.last N
theorem OnCh.start (N : Ned legs P L) : ∀ {d : Int} {g : Leg}, OnCh L legs d g->∃ x, L d = some x
  | _, _, .here h1 h2 => ⟨_, h2⟩
  | _, _, .up _ h2 _ => ⟨_, h2⟩
theorem OnCh.trans : ∀ {d : Int} {g g' : Leg}, OnCh L legs d g->OnCh L legs g.start g'->OnCh L legs d g'
  | _, _, _, .here h1 h2, h => .up h1 h2 h
  | _, _, _, .up h1 h2 h3, h => .up h1 h2 (h3.trans h)
theorem OnCh.iff (N : Ned legs P L) {d : Int} {g : Leg} (hg : g ∈ legs) (h : L d = some g.num) (g' : Leg) : OnCh L legs d g' ↔ g' = g ∨ OnCh L legs g.start g' := by
  constructor
  · intro h'
    cases h' with
    | here h1 h2 => rw [h] at h2; exact .inl (nd_inj N.nd h1 hg (Option.some.inj h2).symm)
    | up h1 h2 h3 =>
      rw [h] at h2
      have := nd_inj N.nd h1 hg (Option.some.inj h2).symm
      subst this
      exact .inr h3
  · rintro (rfl | h')
    · exact .here hg h
    · exact .up hg h h'
theorem OnCh.none_ {d : Int} (h : L d = none) (g : Leg) : ¬ OnCh L legs d g := fun h' => by
  cases h' with
  | here _ h2 => rw [h] at h2; cases h2
  | up _ h2 _ => rw [h] at h2; cases h2
theorem least_sub {some_ : List Leg} {P' : Int->Option (List Int)} (h : Least some_ P') (h' : Least legs P) (sub : ∀ g ∈ some_, g ∈ legs) : ∀ (n : Nat) (d b c : Int), P' d = some [b, c, (n : Int)]->∃ q, P d = some q /\ Le q [b, c, (n : Int)] := by
  intro n
  induction n with
  | zero =>
    intro d b c hd
    by_cases e : d = -1
    · subst e
      rw [h.zero] at hd
      cases hd
      exact ⟨_, h'.zero, Le.refl _⟩
    · obtain ⟨g, hg, rfl, p, hp, hq⟩ := h.att d _ hd e
      obtain ⟨b', c', m, rfl⟩ := h.pr _ _ hp
      have h3 : ((0 : Nat) : Int) = (m : Int) + 1 := congrArg (fun l : List Int => l.getD 2 0) hq
      exact absurd h3 (by omega)
  | succ n ih =>
    intro d b c hd
    have e : d ≠ -1 := fun e => by rw [e, h.zero] at hd; cases hd
    obtain ⟨g, hg, rfl, p, hp, hq⟩ := h.att d _ hd e
    obtain ⟨b', c', m, rfl⟩ := h.pr _ _ hp
    have h3 : ((n + 1 : Nat) : Int) = (m : Int) + 1 := congrArg (fun l : List Int => l.getD 2 0) hq
    have hm : m = n := by omega
    subst hm
    obtain ⟨p', hp', hle⟩ := ih _ _ _ hp
    obtain ⟨q, hq', hle'⟩ := h'.closed g (sub g hg) p' hp'
    refine ⟨q, hq', hle'.trans ?_⟩
    rw [hq]
    exact over_mono (h'.pr _ _ hp') ⟨_, _, _, rfl⟩ hle g
theorem Ned.days (N : Ned legs P L) {ds : List Int} {g g' : Leg} (h : NeedS L legs ds g) (h' : NeedS L legs ds g') (e : g.to = g'.to) : g = g' := by
  obtain ⟨d, _, h⟩ := h
  obtain ⟨d', _, h'⟩ := h'
  have a := h.last N
  have b := h'.last N
  rw [e, b] at a
  exact nd_inj N.nd h.mem h'.mem (Option.some.inj a).symm
theorem Ned.keeps (N : Ned legs P L) {some_ : List Leg} {P' : Int->Option (List Int)} (hl : Least some_ P') (sub : ∀ g ∈ some_, g ∈ legs) : ∀ (n : Nat) (d b c : Int), P d = some [b, c, (n : Int)]->(∀ g, OnCh L legs d g->g ∈ some_)->P' d = some [b, c, (n : Int)] := by
  intro n
  induction n with
  | zero =>
    intro d b c hd hon
    by_cases e : d = -1
    · subst e; rw [N.lp.zero] at hd; rw [hl.zero, ← hd]
    · obtain ⟨g, hg, rfl, p, hp, hq⟩ := N.lp.att d _ hd e
      obtain ⟨b', c', m, rfl⟩ := N.lp.pr _ _ hp
      have h3 : ((0 : Nat) : Int) = (m : Int) + 1 := congrArg (fun l : List Int => l.getD 2 0) hq
      exact absurd h3 (by omega)
  | succ n ih =>
    intro d b c hd hon
    have e : d ≠ -1 := fun e => by rw [e, N.lp.zero] at hd; cases hd
    obtain ⟨g0, hg0, h0, p0, hp0, hq0⟩ := N.lp.att d _ hd e
    cases hL : L d with
    | none => exact absurd ⟨p0, hp0, by rw [h0, hd, hq0]⟩ (N.il.none_ d hL g0 hg0 h0)
    | some x =>
      obtain ⟨g, hg, rfl, h1, p, hp, hpt⟩ := N.leg hL
      rw [h1, hd] at hpt
      obtain ⟨b', c', m, rfl⟩ := N.lp.pr _ _ hp
      have h3 : ((n + 1 : Nat) : Int) = (m : Int) + 1 := congrArg (fun l : List Int => l.getD 2 0) (Option.some.inj hpt)
      have hm : m = n := by omega
      subst hm
      have := ih _ _ _ hp fun g' h' => hon g' (.up hg hL h')
      obtain ⟨q', hq', hle⟩ := hl.closed g (hon g (.here hg hL)) _ this
      rw [h1] at hq'
      rw [← Option.some.inj hpt] at hle
      obtain ⟨b2, c2, m2, rfl⟩ := hl.pr _ _ hq'
      obtain ⟨q2, hq2, hle2⟩ := least_sub hl N.lp sub m2 d b2 c2 hq'
      rw [hd] at hq2
      cases hq2
      rw [hq', Le.antisymm hle hle2]
theorem Ned.lacks (N : Ned legs P L) {ds : List Int} {g0 : Leg} {some_ : List Leg} {P' : Int->Option (List Int)} (hl : Least some_ P') (sub : ∀ g ∈ some_, NeedS L legs ds g /\ g ≠ g0) : ∀ {d : Int}, (∀ g, OnCh L legs d g->NeedS L legs ds g)->OnCh L legs d g0->P' d = none := by
  have key : ∀ {d : Int} {g : Leg}, OnCh L legs d g->g = g0->(∀ g, OnCh L legs d g->NeedS L legs ds g)->P' d = none := by
    intro d g h
    induction h with
    | here h1 h2 =>
      rename_i d g
      intro e hon
      subst e
      have hd := (N.uniq h1 h2).1
      cases hP : P' d with
      | none => rfl
      | some q =>
        have := (N.ok _ h1).1
        obtain ⟨g', hg', h3, _⟩ := hl.att d q hP (by omega)
        have s := sub g' hg'
        exact absurd (N.days s.1 (hon _ (.here h1 h2)) (by rw [h3, hd])) s.2
    | up h1 h2 h3 ih =>
      rename_i d g g'
      intro e hon
      have hd := (N.uniq h1 h2).1
      have hn := ih e fun g'' h'' => hon g'' (.up h1 h2 h'')
      cases hP : P' d with
      | none => rfl
      | some q =>
        have := (N.ok _ h1).1
        obtain ⟨g2, hg2, h4, p, hp, _⟩ := hl.att d q hP (by omega)
        have s := sub g2 hg2
        have := N.days s.1 (hon _ (.here h1 h2)) (by rw [h4, hd])
        subst this
        rw [hn] at hp; cases hp
  exact fun {d} hon h => key h rfl hon
def cntP (P : Int->Option (List Int)) (d : Int) : Nat := (((P d).getD []).getD 2 0).toNat
theorem Ned.cnt (N : Ned legs P L) {d : Int} {g : Leg} (hg : g ∈ legs) (h : L d = some g.num) : cntP P g.start < cntP P d := by
  obtain ⟨h1, p, hp, hpt⟩ := N.uniq hg h
  obtain ⟨b, c, n, rfl⟩ := N.lp.pr _ _ hp
  rw [h1] at hpt
  unfold cntP
  rw [hp, hpt]
  show ((n : Int)).toNat < ((n : Int) + 1).toNat
  omega
def FoundAt (fk : List (Key × V)) (F : Leg->Prop) : Prop := SetAt fk fun x => ∃ g, F g /\ g.num = x
theorem FoundAt.len {fk : List (Key × V)} {F : Leg->Prop} (h : FoundAt fk F) (hF : ∀ g, F g->g ∈ legs) : fk.length ≤ legs.length := by
  have key : ∀ kv ∈ fk, kv.1 ∈ legs.map fun g => (Sum.inl g.num : Key) := fun kv hkv => by
    obtain ⟨n, hn⟩ := h.alli _ hkv
    have : (valV fk (Sum.inl n)).isSome = true := by
      have := valV_nd h.nd (k := kv.1) (v := kv.2) hkv
      rw [show kv.1 = Sum.inl n from hn] at this
      rw [this]; rfl
    obtain ⟨g, hg, e⟩ := (h.val n).mp this
    rw [show kv.1 = Sum.inl n from hn, ← e]
    exact List.mem_map.mpr ⟨g, hF g hg, rfl⟩
  have := nd_len h.nd fun x hx => by
    obtain ⟨kv, hkv, rfl⟩ := List.mem_map.mp hx
    exact key kv hkv
  simpa using this
theorem allI_ns : ∀ {fk : List (Key × V)}, AllI fk->∃ ns : List Int, fk.map (·.1) = ns.map Sum.inl
  | [], _ => ⟨[], rfl⟩
  | kv :: r, h => by
    obtain ⟨n, hn⟩ := h kv (by simp)
    obtain ⟨ns, e⟩ := allI_ns (fk := r) fun x hx => h x (by simp [hx])
    exact ⟨n :: ns, by rw [List.map_cons, List.map_cons, e, hn]⟩
theorem FoundAt.rise {fk : List (Key × V)} {F : Leg->Prop} (h : FoundAt fk F) {ns ns' : List Int} (e : fk.map (·.1) = ns.map Sum.inl) (hp : ns'.Perm ns) (hs : ns'.Pairwise (· ≤ ·)) : ns'.Pairwise (· < ·) /\ ∀ x, x ∈ ns' ↔ ∃ g, F g /\ g.num = x := by
  have hn : ns.Nodup := by
    have := h.nd
    rw [e] at this
    exact (List.pairwise_map.mp this).imp fun a b => a (congrArg Sum.inl b)
  have hn' : ns'.Nodup := hp.nodup_iff.mpr hn
  refine ⟨(hs.and hn').imp fun ⟨a, b⟩ => by omega, fun x => ?_⟩
  rw [hp.mem_iff, ← h.val x, valV_there, e, List.mem_map]
  constructor
  · intro h; exact ⟨x, h, rfl⟩
  · rintro ⟨y, h, e⟩; cases e; exact h
end
theorem pick2 (a b : V) {i : Int} (h0 : 0 ≤ i) (h2 : i < 2) : atI [a, b] i = some (if i = 0 then a else b) := by
  have : i = 0 ∨ i = 1 := by omega
  rcases this with rfl | rfl <;> rfl
theorem ints_at {ds : List Int} {k : Int} (h0 : 0 ≤ k) (h1 : k < (ds.length : Int)) : ∃ z, atI (ds.map V.int) k = some (V.int z) /\ z ∈ ds := by
  obtain ⟨j, rfl⟩ : ∃ j : Nat, k = (j : Int) := ⟨k.toNat, by omega⟩
  have hj : j < ds.length := by omega
  exact ⟨ds[j], atI_nat (by rw [List.getElem?_map, List.getElem?_eq_getElem hj]; rfl), List.getElem_mem hj⟩
theorem cut_sub (ns : List Int) (lo hi : Option Int) : ∃ cs : List Int, cutV (ns.map V.int) lo hi = cs.map V.int /\ cs.length ≤ ns.length /\ ∀ d ∈ cs, d ∈ ns := by
  unfold cutV
  refine ⟨(ns.drop (HT.sIx (ns.map V.int).length 0 lo)).take (HT.sIx (ns.map V.int).length (ns.map V.int).length hi - HT.sIx (ns.map V.int).length 0 lo), by rw [List.map_take, List.map_drop], ?_, fun d h => List.mem_of_mem_drop (List.mem_of_mem_take h)⟩
  rw [List.length_take, List.length_drop]; omega
def leg0 : Leg := ⟨0, 0, 0, 0, 0⟩
theorem range_getD {α : Type} (d : α) : ∀ l : List α, (List.range l.length).map (fun i => l.getD i d) = l := fun l => by
  apply List.ext_getElem
  · simp
  · intro i h1 h2; simp at h1; simp [h1]
theorem le_num {g g' : Leg} (h : Le (legT g) (legT g')) : g.num ≤ g'.num := by
  have h' : HT.lexLt (legT g') (legT g) = false := h
  unfold legT at h'
  rw [HT.lexLt_cons] at h'
  by_cases e : g'.num = g.num
  · omega
  · rw [if_neg e] at h'
    have := of_decide_eq_false h'
    omega
theorem sort_legs {H : Hp} {LV : List V} {legs : List Leg} (R : KeysAt true H LV (legs.map legT)) {p : List Nat} (hp : p.Perm (List.range LV.length)) (hs : (p.map fun i => (legs.map legT).getD i []).Pairwise Le) :
    ∃ ss : List Leg, ss.Perm legs /\ ss.Pairwise (fun g g' => g.num ≤ g'.num) /\ KeysAt true H (p.map fun i => LV.getD i .non) (ss.map legT) := by
  have hl : LV.length = legs.length := by rw [R.len, List.length_map]
  have hlt : ∀ i ∈ p, i < legs.length := fun i hi => by have := hp.mem_iff.mp hi; rw [hl] at this; simpa using this
  have e : (p.map fun i => (legs.map legT).getD i []) = (p.map fun i => legs.getD i leg0).map legT := by
    rw [List.map_map]
    refine List.map_congr_left fun i hi => ?_
    simp [List.getD, List.getElem?_map, List.getElem?_eq_getElem (hlt i hi)]
  refine ⟨p.map fun i => legs.getD i leg0, ?_, ?_, ⟨by simp, fun i v ks e1 e2 => ?_⟩⟩
  · have := hp.map fun i => legs.getD i leg0
    rwa [hl, range_getD] at this
  · rw [e] at hs
    exact (List.pairwise_map.mp hs).imp fun h => le_num h
  · rw [← e, List.getElem?_map] at e2
    rw [List.getElem?_map] at e1
    cases hpi : p[i]? with
    | none => rw [hpi] at e1; cases e1
    | some j =>
      rw [hpi] at e1 e2
      have hj := hlt j (List.mem_of_getElem? hpi)
      have e1' : LV.getD j .non = v := by simpa using e1
      have e2' : (legs.map legT).getD j [] = ks := by simpa using e2
      refine R.get j v ks ?_ ?_
      · rw [← e1', List.getD_eq_getElem?_getD, List.getElem?_eq_getElem (by omega)]; rfl
      · rw [← e2', List.getD_eq_getElem?_getD, List.getElem?_map, List.getElem?_eq_getElem hj]; rfl
theorem IsLast.stay {ls : List Leg} {P : Int->Option (List Int)} {L : Int->Option Int} (h : IsLast ls P L) {g : Leg} {x : Int} (hg : Att P g) (hx : L g.to = some x) (hle : x ≤ g.num) : IsLast (ls ++ [g]) P L := by
  have := h.put hg
  rwa [show putC L g.to (min g.num ((L g.to).getD g.num)) = L from ?_] at this
  funext d
  unfold putC
  split
  · rename_i e; rw [e, hx]; congr 1; show min g.num x = x; omega
  · rfl
theorem IsLast.first {ls : List Leg} {P : Int->Option (List Int)} {L : Int->Option Int} (h : IsLast ls P L) {g : Leg} (hg : Att P g) (hx : L g.to = none) : IsLast (ls ++ [g]) P (putC L g.to g.num) := by
  have := h.put hg
  rwa [hx, show min g.num ((none : Option Int).getD g.num) = g.num by show min g.num g.num = g.num; omega] at this
def putLg (Lg : Int->Option Leg) (g : Leg) : Int->Option Leg := fun d => if d = g.to then some g else Lg d
theorem putLg_T (Lg : Int->Option Leg) (g : Leg) : (fun d => (putLg Lg g d).map legT) = putP (fun d => (Lg d).map legT) g.to (legT g) := by
  funext d; unfold putLg putP; by_cases e : d = g.to
  · rw [if_pos e, if_pos e]; rfl
  · rw [if_neg e, if_neg e]
theorem putLg_N (Lg : Int->Option Leg) (g : Leg) : (fun d => (putLg Lg g d).map Leg.num) = putC (fun d => (Lg d).map Leg.num) g.to g.num := by
  funext d; unfold putLg putC; by_cases e : d = g.to
  · rw [if_pos e, if_pos e]; rfl
  · rw [if_neg e, if_neg e]
theorem pw_take {ss : List Leg} (h : ss.Pairwise fun g g' => g.num ≤ g'.num) {i : Nat} {g g' : Leg} (hg : ss[i]? = some g) (hg' : g' ∈ ss.take i) : g'.num ≤ g.num := by
  obtain ⟨j, hj, e⟩ := List.mem_iff_getElem.mp hg'
  have hjl : j < i /\ j < ss.length := by simpa [Nat.lt_min] using hj
  obtain ⟨hi, e2⟩ := List.getElem?_eq_some_iff.mp hg
  have := List.pairwise_iff_getElem.mp h j i hjl.2 hi hjl.1
  rw [← e2, ← e, List.getElem_take]
  exact this
theorem four_of {a b c d k : Int} (h0 : 0 ≤ k) (h1 : k < 4) (ha : 0 ≤ a) (hb : 0 ≤ b) (hc : 0 ≤ c) (hd : 0 ≤ d) : ∃ z, atI [V.int a, V.int b, V.int c, V.int d] k = some (V.int z) /\ 0 ≤ z := by
  have : k = 0 ∨ k = 1 ∨ k = 2 ∨ k = 3 := by omega
  rcases this with rfl | rfl | rfl | rfl
  · exact ⟨a, rfl, ha⟩
  · exact ⟨b, rfl, hb⟩
  · exact ⟨c, rfl, hc⟩
  · exact ⟨d, rfl, hd⟩
theorem nd_mapR {f : Nat->Int} {n : Nat} (h : ∀ x y, x < n->y < n->f x = f y->x = y) : ((List.range n).map f).Nodup := by
  induction n with
  | zero => exact List.nodup_nil
  | succ n ih =>
    rw [List.range_succ, List.map_append, List.nodup_append]
    refine ⟨ih fun x y hx hy => h x y (by omega) (by omega), by simp, fun a ha b hb e => ?_⟩
    obtain ⟨x, hx, rfl⟩ := List.mem_map.mp ha
    have hb : b = f n := by simpa using hb
    have := h x n (by have := List.mem_range.mp hx; omega) (by omega) (by rw [e, hb])
    have := List.mem_range.mp hx
    omega
theorem inV_int (d : Int) : ∀ L : List Int, inV (.int d) (L.map V.int) = decide (d ∈ L)
  | [] => rfl
  | x :: r => by
    have ih := inV_int d r
    unfold inV at ih ⊢
    rw [List.map_cons, List.any_cons, ih]
    show ((x == d) || decide (d ∈ r)) = decide (d ∈ x :: r)
    by_cases h : x = d
    · subst h; simp
    · rw [beq_eq_false_iff_ne.mpr h]
      simp [List.mem_cons, Ne.symm h]
theorem in_b (d : Int) (AL : List Int) : (if false = true then !inV (.int d) (AL.map V.int) else inV (.int d) (AL.map V.int)) = decide (d ∈ AL) := by rw [if_neg (by decide), inV_int]
theorem flat_ints (L : List Int) : (L.map V.int).all flatV = true := by
  rw [List.all_eq_true]; intro x hx; obtain ⟨z, _, rfl⟩ := List.mem_map.mp hx; rfl
theorem cut_40 (ns : List Int) : ∃ cs : List Int, cutV (ns.map V.int) (some 5) (some 45) = cs.map V.int /\ cs.length ≤ 40 := by
  unfold cutV
  refine ⟨(ns.drop (HT.sIx (ns.map V.int).length 0 (some 5))).take (HT.sIx (ns.map V.int).length (ns.map V.int).length (some 45) - HT.sIx (ns.map V.int).length 0 (some 5)), by rw [List.map_take, List.map_drop], ?_⟩
  rw [List.length_take, List.length_drop, List.length_map]
  have h5 : HT.sIx ns.length 0 (some 5) = min 5 ns.length := HT.sIx_nat _ _ 5
  have h45 : HT.sIx ns.length ns.length (some 45) = min 45 ns.length := HT.sIx_nat _ _ 45
  rw [h5, h45]; omega
theorem cut_last (xs : List V) : cutV xs none (some (-1)) = xs.dropLast := by
  unfold cutV
  show (xs.drop 0).take ((if (-1 : Int) < 0 then (-1 + (xs.length : Int)).toNat else min ((-1 : Int).toNat) xs.length) - 0) = _
  rw [if_pos (by decide), List.drop_zero, List.dropLast_eq_take, Nat.sub_zero]
  congr 1; omega
def cellI (ns : List Int) (k : Int) : Int := if k < (ns.length : Int) then ns.getD k.toNat 0 else 0
def sp_cell (K : PySem.W.Frag) : Sp := fun vs H Q _ => ∃ (a : Addr) (ns : List Int) (k : Nat), vs = [.ref a, .int (k : Int)] /\ SqL K H a (ns.map V.int) /\ Q (.int (cellI ns k)) H
def sp_whole : Sp := fun vs H Q _ => ∃ n : Int, vs = [.int n] /\ Q (.bl true) H
def sp_drawn : Sp := fun vs H Q _ => ∃ (c : Int) (m : Nat), vs = [.int c, .int (m : Int)] /\ m ≤ 60 /\ ∀ (l : Addr) (xs : List Int) H', H' l = some (.lst (xs.map V.int))->H l = none->xs.length = m->(∀ x ∈ xs, (0 : Int) ≤ x /\ x < 2147483647)->Same H H'->Q (.ref l) H'
def Frame48 (fr : List Int) : Prop := ∃ n far off mul : Int, fr = [n, far, off, mul] /\ 4 ≤ n /\ n ≤ 12 /\ 1 ≤ far /\ far ≤ 80000000 /\ 0 ≤ off /\ off < 101 /\ 1 ≤ mul /\ mul ≤ 9000000
def Legs48 (legs : List Leg) : Prop := (∀ g ∈ legs, LegOk g) /\ legs.length ≤ 60 /\ (legs.map Leg.num).Nodup
def sp_frame48 : Sp := fun vs H Q _ => ∃ c : Int, vs = [.int c] /\ ∀ (l : Addr) (fr : List Int) H', Frame48 fr->H' l = some (.lst (fr.map V.int))->H l = none->Same H H'->Q (.ref l) H'
def sp_legs48 : Sp := fun vs H Q _ => ∃ (sl fl : Addr) (ns fr : List Int), vs = [.ref sl, .ref fl] /\ H sl = some (.lst (ns.map V.int)) /\ ns.length ≤ 40 /\ Frame48 fr /\ H fl = some (.lst (fr.map V.int)) ∧
  ∀ (ll : Addr) (LV : List V) (legs : List Leg) H', H' ll = some (.lst LV)->KeysAt true H' LV (legs.map legT)->Legs48 legs->H ll = none->Same H H'->Q (.ref ll) H'
def sp_want48 : Sp := fun vs H Q _ => ∃ (c : Int) (fl : Addr) (fr : List Int), vs = [.int c, .ref fl] /\ Frame48 fr /\ H fl = some (.lst (fr.map V.int)) ∧
  ∀ (l : Addr) (ws : List Int) H', H' l = some (.lst (ws.map V.int))->ws.length ≤ 20->(∀ d ∈ ws, 0 ≤ d)->H l = none->Same H H'->Q (.ref l) H'
def NeedN (L : Int->Option Int) (legs : List Leg) (ds ns : List Int) : Prop := ns.Pairwise (· < ·) /\ ∀ x, x ∈ ns ↔ ∃ g, NeedS L legs ds g /\ g.num = x
def sp_needed : Sp := fun vs H Q _ => ∃ (a wl : Addr) (LV : List V) (legs : List Leg) (ws : List Int), vs = [.ref a, .ref wl] /\ H a = some (.lst LV) /\ KeysAt true H LV (legs.map legT) /\ Legs48 legs /\ H wl = some (.lst (ws.map V.int)) ∧
  ∀ P L (l : Addr) (ns : List Int) H', Ned legs P L->NeedN L legs ws ns->H' l = some (.lst (ns.map V.int))->H l = none->Same H H'->Q (.ref l) H'
def sp_lpr48 : Sp := fun vs H Q _ => ∃ (ll : Addr) (LV : List V) (legs : List Leg), vs = [.ref ll] /\ H ll = some (.lst LV) /\ KeysAt true H LV (legs.map legT) /\ (∀ g ∈ legs, LegOk g) /\ legs.length ≤ 60 ∧
  ∀ d kvs P H', Least legs P->H' d = some (.dK kvs)->PrAt H' kvs P->H d = none->Same H H'->Q (.ref d) H'
def sp_due48 : Sp := fun vs H Q _ => ∃ (ll bd wl : Addr) (LV : List V) (legs : List Leg) (kvs : List (Key × V)) (P : Int->Option (List Int)) (L : Int->Option Int) (ws : List Int), vs = [.ref ll, .ref bd, .ref wl] /\ H ll = some (.lst LV) /\ KeysAt true H LV (legs.map legT) /\ Legs48 legs /\ Ned legs P L /\ H bd = some (.dK kvs) /\ PrAt H kvs P /\ H wl = some (.lst (ws.map V.int)) ∧
  ∀ (l : Addr) (ns : List Int) H', NeedN L legs ws ns->H' l = some (.lst (ns.map V.int))->H l = none->Same H H'->Q (.ref l) H'
def sp_lacks48 : Sp := fun vs H Q _ => ∃ (ll wl bd : Addr) (LV : List V) (legs : List Leg) (kvs : List (Key × V)) (P : Int->Option (List Int)) (ws : List Int), vs = [.ref ll, .ref wl, .ref bd] /\ H ll = some (.lst LV) /\ KeysAt true H LV (legs.map legT) /\ (∀ g ∈ legs, LegOk g) /\ legs.length ≤ 60 /\ H bd = some (.dK kvs) /\ PrAt H kvs P /\ H wl = some (.lst (ws.map V.int)) ∧
  ∀ P' H', Least legs P'->Same H H'->Q (.bl (ws.any fun d => (P d).isSome && (P' d).isNone)) H'
def sp_tree48 : Sp := fun vs H Q _ => ∃ (ll sl wl bd : Addr) (LV SV : List V) (legs stay : List Leg) (kvs : List (Key × V)) (P : Int->Option (List Int)) (L : Int->Option Int) (ws : List Int), vs = [.ref ll, .ref sl, .ref wl, .ref bd] /\ H ll = some (.lst LV) /\ KeysAt true H LV (legs.map legT) /\ Legs48 legs /\ Ned legs P L ∧
  H sl = some (.lst SV) /\ KeysAt true H SV (stay.map legT) /\ stay.Sublist legs /\ (∀ g, g ∈ stay ↔ NeedS L legs ws g) /\ H bd = some (.dK kvs) /\ PrAt H kvs P /\ H wl = some (.lst (ws.map V.int)) /\ ws.length ≤ 20 /\ ∀ H', Same H H'->Q (.bl true) H'
def sp_asked48 : Sp := fun vs H Q _ => ∃ (ll wl : Addr) (LV : List V) (legs : List Leg) (ws : List Int), vs = [.ref ll, .ref wl] /\ H ll = some (.lst LV) /\ KeysAt true H LV (legs.map legT) /\ Legs48 legs /\ H wl = some (.lst (ws.map V.int)) /\ ws.length ≤ 20 /\ ∀ H', Same H H'->Q (.bl true) H'
def sp_law (K : PySem.W.Frag) : Sp := fun vs H Q _ => ∃ (a : Addr) (ns : List Int), vs = [.ref a] /\ SqL K H a (ns.map V.int) /\ ns.length ≤ 63 /\ ∀ H', Q (.bl true) H'
theorem if_yesP {c : TT} {t u : TS} {D : Ends} {σ : St} {H : Hp} (P : Hp->Prop) (hc : ∀ Q : Bool->Hp->Prop, (∀ H', P H'->Q true H')->c σ H Q) (h : ∀ H', P H'->t D σ H') : tIfS c t u D σ H := hc _ fun H' p => iteT (h H' p)
theorem if_noP {c : TT} {t : TS} {D : Ends} {σ : St} {H : Hp} (P : Hp->Prop) (hc : ∀ Q : Bool->Hp->Prop, (∀ H', P H'->Q false H')->c σ H Q) (h : ∀ H', P H'->D.nx σ H') : tIfS c t tNext D σ H := hc _ fun H' p => iteF (h H' p)
theorem Legs48.last {legs : List Leg} (h : Legs48 legs) : Legs48 legs.dropLast := by
  have hs := List.dropLast_sublist legs
  exact ⟨fun g hg => h.1 g (hs.subset hg), Nat.le_trans hs.length_le h.2.1, List.Pairwise.sublist (hs.map _) h.2.2⟩
structure Txt (K : PySem.W.Frag) (mg : Str->Option Value) (C_KeepError : Addr) (C_NoItem : Addr) (C_Heap : Addr) : Prop where
  mg_KeepError : mg "KeepError" = some (.ref C_KeepError)
  x_KeepError : XCls K C_KeepError
  mg_NoItem : mg "NoItem" = some (.ref C_NoItem)
  x_NoItem : XCls K C_NoItem
  mg_Heap : mg "Heap" = some (.ref C_Heap)
  cl_Heap : Cls K C_Heap
  n_Heap_row : NoAttr K C_Heap "row"
  b_len : mg "len" = none
  b_isinstance : mg "isinstance" = none
  b_int : mg "int" = none
  b_bool : mg "bool" = none
  b_list : mg "list" = none
  b_tuple : mg "tuple" = none
  b_dict : mg "dict" = none
  b_range : mg "range" = none
  b_min : mg "min" = none
  b_max : mg "max" = none
  b_sorted : mg "sorted" = none
  b_reversed : mg "reversed" = none
  b_str : mg "str" = none
  b_ValueError : mg "ValueError" = none
  b_set : mg "set" = none
  in0_NoItem : PySem.W.findIn K (.ref C_NoItem) "__init__" = some (some (.builtin "ValueError.__init__"))
  kp0_NoItem : PySem.W.keepIn K (.ref C_NoItem) = true
section
variable {P : Program} {w : World} {K : PySem.W.Frag} {mg : Str->Option Value} {base : Heap} {C_KeepError : Addr} {C_NoItem : Addr} {C_Heap : Addr}
theorem ok_Heap___init__ {f : Addr} {fd : FuncData} (F : Fun K "__init__" "Heap.__init__" s_Heap___init__ f fd) (T : Txt K mg C_KeepError C_NoItem C_Heap)  : FnOk P w K mg base (CXx P w) 1 f fd ["self"] (sp_hinit C_Heap) := by
  refine F.okX sc_Heap___init__ (fun vs H Q E h => ?_) (fun cdv A outer s H vs Q E hr h => ?_)
  · obtain ⟨p, dx, rfl, hp, q⟩ := h; rfl
  obtain ⟨p, dx, rfl, hp, q⟩ := h
  refine ⟨_, (pss_one (ps_fld (pv 0) (pe_lst pa_nil) rfl)), ?_⟩
  repeat (first | refine ⟨_, rfl, ?_⟩ | refine ⟨_, _, rfl, rfl, ?_⟩ | refine ⟨(by first | decide | (dsimp only; decide) | (show 2 ≤ sizeLine; decide) | (show 1 ≤ sizeLine; decide) | (show 3 ≤ sizeLine; decide) | (show 4 ≤ sizeLine; decide)), ?_⟩ | refine ⟨.inl ⟨by first | decide | (dsimp only; decide), by first | decide | (dsimp only; decide)⟩, ?_⟩ | refine ⟨.inr ⟨by first | decide | (dsimp only; decide), by first | decide | (dsimp only; decide)⟩, ?_⟩ | refine ⟨⟨by first | decide | (dsimp only; decide), by first | decide | (dsimp only; decide)⟩, ?_⟩ | refine ⟨rfl, ?_⟩ | refine ⟨_, _, rfl, ?_⟩)
  intro r hr
  refine ⟨_, rfl, p, C_Heap, dx, _, rfl, Same.new hr _ _ hp, T.cl_Heap, T.n_Heap_row, by decide, ?_⟩
  have npr : p ≠ r := ne_of_none hp hr
  have ob : upd (upd H r (.lst [])) p (.ins C_Heap dx (putF "row" (V.ref r) [])) p = some (.ins C_Heap dx [("row", V.ref r)]) := upd_same
  have rw' : upd (upd H r (.lst [])) p (.ins C_Heap dx (putF "row" (V.ref r) [])) r = some (.lst []) := by rw [upd_ne npr.symm, upd_same]
  exact q r _ hr ⟨⟨dx, ob⟩, rw', KeysAt.nil⟩ ⟨⟨dx, ob⟩, rw', KeysAt.nil⟩ (keep_upd (Keep.of_same (Same.new hr)) (.inl (by simp)))
theorem ok_Heap_swap {f : Addr} {fd : FuncData} (F : Fun K "swap" "Heap.swap" s_Heap_swap f fd) (T : Txt K mg C_KeepError C_NoItem C_Heap)  : FnOk P w K mg base (CXx P w) 1 f fd ["self", "one", "other"] (sp_swap C_Heap) := by
  refine F.okX sc_Heap_swap (fun vs H Q E h => ?_) (fun cdv A outer s H vs Q E hr h => ?_)
  · obtain ⟨tu, p, r, xs, its, i, j, rfl, W, hi, hj, q⟩ := h; rfl
  obtain ⟨tu, p, r, xs, its, i, j, rfl, W, hi, hj, q⟩ := h
  refine ⟨_, (pss_cons (ps_set (i := 3) sc_Heap_swap.nd rfl (Or.inl rfl) (pe_ix ix_list (pe_fld (pv 0) rfl) (pv 1) (fun _ _ => rfl)))
      (pss_cons (ps_asg (pe_ix ix_list (pe_fld (pv 0) rfl) (pv 2) (fun _ _ => rfl)) (pg_sub (pe_fld (pv 0) rfl) (pv 1) set_list))
      (pss_one (ps_asg (pv 3) (pg_sub (pe_fld (pv 0) rfl) (pv 2) set_list))))), ?_⟩
  obtain ⟨dx, ob⟩ := W.ob
  obtain ⟨v, ev, kv⟩ := W.ks.at_ hi
  obtain ⟨w', ew, kw⟩ := W.ks.at_ hj
  have npr := W.ne
  have hxl : xs.length = its.length := W.ks.len
  refine ⟨_, rfl, p, C_Heap, dx, _, _, rfl, ob, T.cl_Heap, T.n_Heap_row, look_eq, _, rfl, r, _, _, v, rfl, rfl, SqL.of W.row, atI_nat ev, ?_⟩
  refine gNameA [some (.ref p), some (.int (i : Int)), some (.int (j : Int)), some v] ?_
  refine ⟨_, rfl, p, C_Heap, dx, _, _, rfl, ob, T.cl_Heap, T.n_Heap_row, look_eq, _, rfl, r, _, _, w', rfl, rfl, SqL.of W.row, atI_nat ew, ?_⟩
  refine ⟨_, rfl, p, C_Heap, dx, _, _, rfl, ob, T.cl_Heap, T.n_Heap_row, look_eq, _, rfl, r, _, _, i, rfl, rfl, W.row, by unfold ixN; rw [if_pos (by omega), if_pos (by omega)]; rfl, ?_⟩
  refine ⟨_, rfl, _, rfl, p, C_Heap, dx, _, _, rfl, by rw [upd_ne npr]; exact ob, T.cl_Heap, T.n_Heap_row, look_eq, _, rfl, r, _, _, j, rfl, rfl, upd_same, by rw [List.length_set]; unfold ixN; rw [if_pos (by omega), if_pos (by omega)]; rfl, ?_⟩
  have e2 : upd (upd H r (.lst (xs.set i w'))) r (.lst ((xs.set i w').set j v)) = upd H r (.lst ((xs.set i w').set j v)) := upd_upd
  rw [e2]
  exact q _ _ (W.put (W.ks.swap hi hj ev ew)) (keep_upd Keep.refl (.inl (by simp)))
theorem ok_Heap_lesser_below {f : Addr} {fd : FuncData} (F : Fun K "lesser_below" "Heap.lesser_below" s_Heap_lesser_below f fd) (T : Txt K mg C_KeepError C_NoItem C_Heap)  : FnOk P w K mg base (CXx P w) 1 f fd ["self", "place"] (sp_lesser C_Heap) := by
  refine F.okX sc_Heap_lesser_below (fun vs H Q E h => ?_) (fun cdv A outer s H vs Q E hr h => ?_)
  · obtain ⟨tu, p, r, xs, its, i, rfl, W, q⟩ := h; rfl
  obtain ⟨tu, p, r, xs, its, i, rfl, W, q⟩ := h
  refine ⟨_, (pss_cons (ps_set (i := 2) sc_Heap_lesser_below.nd rfl (Or.inl rfl) (pe_op op_add (pe_op op_mul pe_int (pv 1)) pe_int))
      (pss_cons (ps_if (PW.pt (pw_and (pt_cmpR op_lt (pe_op op_add (pv 2) pe_int) (pe_callB call_len_seq (by rfl) T.b_len PySem.boot_len (pa_cons (pe_fld (pv 0) rfl) pa_nil)) (nomark _)) (pw_and1 (pt_cmpR (op_ltO (Nat.lt_of_le_of_lt (Nat.le_add_right _ 64) hr.units)) (pe_ix ix_list (pe_fld (pv 0) rfl) (pe_op op_add (pv 2) pe_int) (fun _ _ => rfl)) (pe_ix ix_list (pe_fld (pv 0) rfl) (pv 2) (fun _ _ => rfl)) (nomark _))))) (pss_one (ps_ret (pe_op op_add (pv 2) pe_int))) pss_nil)
      (pss_one (ps_ret (pv 2))))), ?_⟩
  obtain ⟨dx, ob⟩ := W.ob
  have hxl : xs.length = its.length := W.ks.len
  refine ⟨_, rfl, _, _, rfl, rfl, .inl ⟨by decide, by decide⟩, _, _, rfl, rfl, ?_⟩
  refine gNameA [some (.ref p), some (.int (i : Int)), some (.int ((2 * i + 1 : Nat) : Int))] ?_ (by show [_, _, some (V.int (2 * (i : Int) + 1))] = _; rw [show (2 * (i : Int) + 1) = ((2 * i + 1 : Nat) : Int) by omega])
  refine ⟨_, rfl, _, _, rfl, rfl, _, rfl, p, C_Heap, dx, _, _, rfl, ob, T.cl_Heap, T.n_Heap_row, look_eq, r, _, rfl, .inl (SqL.of W.row), _, _, rfl, rfl, _, rfl, ?_⟩
  have r1 : 2 * i + 2 < its.length->HT.lexLt (gK its (2 * i + 2)) (gK its (2 * i + 1)) = true->lsr its i = 2 * i + 2 := fun a b => if_pos ⟨a, b⟩
  have r2 : ¬ (2 * i + 2 < its.length /\ HT.lexLt (gK its (2 * i + 2)) (gK its (2 * i + 1)) = true)->lsr its i = 2 * i + 1 := fun a => if_neg a
  by_cases hlt : 2 * i + 2 < its.length
  · refine iteY (by omega) ?_
    obtain ⟨v, ev, kv⟩ := W.ks.at_ hlt
    obtain ⟨w', ew, kw⟩ := W.ks.at_ (show 2 * i + 1 < its.length by omega)
    refine ⟨_, rfl, p, C_Heap, dx, _, _, rfl, ob, T.cl_Heap, T.n_Heap_row, look_eq, _, rfl, _, _, rfl, rfl, r, _, _, v, rfl, rfl, SqL.of W.row, ?_, ?_⟩
    · rw [show ((2 * i + 1 : Nat) : Int) + 1 = ((2 * i + 2 : Nat) : Int) by omega]; exact atI_nat ev
    refine ⟨_, rfl, p, C_Heap, dx, _, _, rfl, ob, T.cl_Heap, T.n_Heap_row, look_eq, _, rfl, r, _, _, w', rfl, rfl, SqL.of W.row, atI_nat ew, ?_⟩
    refine ltO_of kv kw ⟨_, rfl, ?_⟩
    cases hc : HT.lexLt (gK its (2 * i + 2)) (gK its (2 * i + 1)) with
    | true =>
      rw [r1 hlt hc] at q
      refine iteT ⟨_, rfl, _, _, rfl, rfl, ?_⟩
      show Q (V.int (((2 * i + 1 : Nat) : Int) + 1)) H
      rw [show ((2 * i + 1 : Nat) : Int) + 1 = ((2 * i + 2 : Nat) : Int) by omega]
      exact q
    | false =>
      rw [r2 (fun h => by rw [hc] at h; cases h.2)] at q
      exact iteF ⟨_, rfl, q⟩
  · refine iteN (by omega) (iteF ⟨_, rfl, ?_⟩)
    rw [r2 (fun h => hlt h.1)] at q
    exact q
theorem ok_Heap_lift {f : Addr} {fd : FuncData} (F : Fun K "lift" "Heap.lift" s_Heap_lift f fd) (T : Txt K mg C_KeepError C_NoItem C_Heap) (D_Heap_swap : MethX P w K mg base C_Heap "swap" 1 ["self", "one", "other"] (sp_swap C_Heap)) : FnOk P w K mg base (CXx P w) 2 f fd ["self", "place"] (sp_lift C_Heap) := by
  refine F.okX sc_Heap_lift (fun vs H Q E h => ?_) (fun cdv A outer s H vs Q E hr h => ?_)
  · obtain ⟨tu, p, r, xs, its, k, rfl, W, hk, I, q⟩ := h; rfl
  obtain ⟨tu, p, r, xs, its, k, rfl, W, hk, I, q⟩ := h
  refine ⟨_, (pss_cons (ps_set (i := 2) sc_Heap_lift.nd rfl (Or.inl rfl) (pv 1))
      (pss_one (ps_while PassesOwn.leaving (PW.pt (pw_and (pt_cmpR op_gt (pv 2) pe_int (nomark _)) (pw_and1 (pt_cmpR (op_ltO (Nat.lt_of_le_of_lt (Nat.le_add_right _ 64) hr.units)) (pe_ix ix_list (pe_fld (pv 0) rfl) (pv 2) (fun _ _ => rfl)) (pe_ix ix_list (pe_fld (pv 0) rfl) (pe_op op_fdivB (pe_op op_sub (pv 2) pe_int) pe_int) (fun _ _ => rfl)) (nomark _))))) (pss_cons (ps_expr (pe_methS (pv 0) T.cl_Heap D_Heap_swap passesN (hr.mono (by decide)) (pa_cons (pv 2) (pa_cons (pe_op op_fdivB (pe_op op_sub (pv 2) pe_int) pe_int) pa_nil))))
      (pss_one (ps_set (i := 2) sc_Heap_lift.nd rfl (Or.inl rfl) (pe_op op_fdivB (pe_op op_sub (pv 2) pe_int) pe_int))))))), ?_⟩
  refine ⟨_, rfl, ?_⟩
  refine gNameA [some (.ref p), some (.int (k : Int)), some (.int (k : Int))] ?_
  refine ⟨fun m σ H' => ∃ xs' its', σ = [some (.ref p), some (.int (k : Int)), some (.int (m : Int))] /\ HpAt C_Heap tu H' p r xs' its' /\ m < its'.length /\ LiftI its' m /\ its'.Perm its /\ Keep [r] H H', ⟨k, xs, its, rfl, W, hk, I, List.Perm.refl _, Keep.refl⟩, ?_⟩
  rintro m σ H1 ⟨xs1, its1, rfl, W1, hm, I1, P1, k1⟩
  obtain ⟨dx, ob⟩ := W1.ob
  refine ⟨_, rfl, _, _, rfl, rfl, _, rfl, ?_⟩
  by_cases h0 : m = 0
  · subst h0
    refine iteN (by omega) (iteF ?_)
    exact q _ _ _ W1 (lift_end I1 (.inl rfl)) P1 k1
  refine iteY (by omega) ?_
  have hpm : (m - 1) / 2 < its1.length := by omega
  obtain ⟨v, ev, kv⟩ := W1.ks.at_ hm
  obtain ⟨w', ew, kw⟩ := W1.ks.at_ hpm
  have e2 : ((m : Int) - 1) / 2 = (((m - 1) / 2 : Nat) : Int) := by omega
  refine ⟨_, rfl, p, C_Heap, dx, _, _, rfl, ob, T.cl_Heap, T.n_Heap_row, look_eq, _, rfl, r, _, _, v, rfl, rfl, SqL.of W1.row, atI_nat ev, ?_⟩
  refine ⟨_, rfl, p, C_Heap, dx, _, _, rfl, ob, T.cl_Heap, T.n_Heap_row, look_eq, _, rfl, _, _, rfl, rfl, _, _, rfl, rfl, ⟨by decide, by decide⟩, r, _, _, w', rfl, rfl, SqL.of W1.row, by show atI xs1 (((m : Int) - 1) / 2) = _; rw [e2]; exact atI_nat ew, ?_⟩
  refine ltO_of kv kw ⟨_, rfl, ?_⟩
  cases hlt : HT.lexLt (gK its1 m) (gK its1 ((m - 1) / 2)) with
  | false => exact iteF (q _ _ _ W1 (lift_end I1 (.inr hlt)) P1 k1)
  | true =>
    refine iteT ⟨_, fun σ' H' h => h, ?_⟩
    refine ⟨_, rfl, p, dx, _, rfl, ob, row_no (by decide +kernel), _, rfl, _, rfl, _, _, rfl, rfl, _, _, rfl, rfl, ⟨by decide, by decide⟩, ?_⟩
    refine ⟨tu, p, r, xs1, its1, m, (m - 1) / 2, by show [_, _, V.int (((m : Int) - 1) / 2)] = _; rw [e2], W1, hm, hpm, fun xs2 H2 W2 k2 => ?_⟩
    refine ⟨_, rfl, _, _, rfl, rfl, _, _, rfl, rfl, ⟨by decide, by decide⟩, ?_⟩
    refine ⟨(m - 1) / 2, by omega, xs2, _, by show [_, _, some (V.int (((m : Int) - 1) / 2))] = _; rw [e2], W2, by rw [swp_len]; exact hpm, lift_step I1 (by omega) hm hlt, (swp_perm hm hpm).trans P1, fun b o e hb => k2 b o (k1 b o e hb) hb⟩
theorem ok_Heap_sink {f : Addr} {fd : FuncData} (F : Fun K "sink" "Heap.sink" s_Heap_sink f fd) (T : Txt K mg C_KeepError C_NoItem C_Heap) (D_Heap_lesser_below : MethX P w K mg base C_Heap "lesser_below" 1 ["self", "place"] (sp_lesser C_Heap)) (D_Heap_swap : MethX P w K mg base C_Heap "swap" 1 ["self", "one", "other"] (sp_swap C_Heap)) : FnOk P w K mg base (CXx P w) 2 f fd ["self", "place"] (sp_sink C_Heap) := by
  refine F.okX sc_Heap_sink (fun vs H Q E h => ?_) (fun cdv A outer s H vs Q E hr h => ?_)
  · obtain ⟨tu, p, r, xs, its, k, rfl, W, hk, I, q⟩ := h; rfl
  obtain ⟨tu, p, r, xs, its, k, rfl, W, hk, I, q⟩ := h
  refine ⟨_, (pss_cons (ps_set (i := 2) sc_Heap_sink.nd rfl (Or.inl rfl) (pv 1))
      (pss_cons (ps_set (i := 3) sc_Heap_sink.nd rfl (Or.inl rfl) (pe_methS (pv 0) T.cl_Heap D_Heap_lesser_below passesN (hr.mono (by decide)) (pa_cons (pv 2) pa_nil)))
      (pss_one (ps_while PassesOwn.leaving (PW.pt (pw_and (pt_cmpR op_lt (pv 3) (pe_callB call_len_seq (by rfl) T.b_len PySem.boot_len (pa_cons (pe_fld (pv 0) rfl) pa_nil)) (nomark _)) (pw_and1 (pt_cmpR (op_ltO (Nat.lt_of_le_of_lt (Nat.le_add_right _ 64) hr.units)) (pe_ix ix_list (pe_fld (pv 0) rfl) (pv 3) (fun _ _ => rfl)) (pe_ix ix_list (pe_fld (pv 0) rfl) (pv 2) (fun _ _ => rfl)) (nomark _))))) (pss_cons (ps_expr (pe_methS (pv 0) T.cl_Heap D_Heap_swap passesN (hr.mono (by decide)) (pa_cons (pv 3) (pa_cons (pv 2) pa_nil))))
      (pss_cons (ps_set (i := 2) sc_Heap_sink.nd rfl (Or.inl rfl) (pv 3))
      (pss_one (ps_set (i := 3) sc_Heap_sink.nd rfl (Or.inl rfl) (pe_methS (pv 0) T.cl_Heap D_Heap_lesser_below passesN (hr.mono (by decide)) (pa_cons (pv 2) pa_nil)))))))))), ?_⟩
  obtain ⟨dx, ob⟩ := W.ob
  refine ⟨_, rfl, ?_⟩
  refine gNameA [some (.ref p), some (.int (k : Int)), some (.int (k : Int)), none] ?_
  refine ⟨_, rfl, p, dx, _, rfl, ob, row_no (by decide +kernel), _, rfl, tu, p, r, xs, its, k, rfl, W, ?_⟩
  refine gNameA [some (.ref p), some (.int (k : Int)), some (.int (k : Int)), some (.int (lsr its k : Int))] ?_
  refine ⟨fun m σ H' => ∃ (xs' : List V) (its' : List (List Int)) (h : Nat), σ = [some (.ref p), some (.int (k : Int)), some (.int (h : Int)), some (.int (lsr its' h : Int))] /\ HpAt C_Heap tu H' p r xs' its' /\ h < its'.length /\ SinkI its' h /\ its'.Perm its /\ Keep [r] H H' /\ m = its'.length - h, ⟨_, xs, its, k, rfl, W, hk, I, List.Perm.refl _, Keep.refl, rfl⟩, ?_⟩
  rintro m σ H1 ⟨xs1, its1, h, rfl, W1, hm, I1, P1, k1, rfl⟩
  clear ob
  obtain ⟨dx, ob⟩ := W1.ob
  have hxl : xs1.length = its1.length := W1.ks.len
  refine ⟨_, rfl, _, rfl, p, C_Heap, dx, _, _, rfl, ob, T.cl_Heap, T.n_Heap_row, look_eq, r, _, rfl, .inl (SqL.of W1.row), _, _, rfl, rfl, _, rfl, ?_⟩
  by_cases h0 : its1.length ≤ lsr its1 h
  · refine iteN (by omega) (iteF ?_)
    exact q _ _ _ W1 (sink_end I1 (.inl h0)) P1 k1
  refine iteY (by omega) ?_
  have hw : lsr its1 h < its1.length := by omega
  obtain ⟨v, ev, kv⟩ := W1.ks.at_ hw
  obtain ⟨w', ew, kw⟩ := W1.ks.at_ hm
  refine ⟨_, rfl, p, C_Heap, dx, _, _, rfl, ob, T.cl_Heap, T.n_Heap_row, look_eq, _, rfl, r, _, _, v, rfl, rfl, SqL.of W1.row, atI_nat ev, ?_⟩
  refine ⟨_, rfl, p, C_Heap, dx, _, _, rfl, ob, T.cl_Heap, T.n_Heap_row, look_eq, _, rfl, r, _, _, w', rfl, rfl, SqL.of W1.row, atI_nat ew, ?_⟩
  refine ltO_of kv kw ⟨_, rfl, ?_⟩
  cases hlt : HT.lexLt (gK its1 (lsr its1 h)) (gK its1 h) with
  | false => exact iteF (q _ _ _ W1 (sink_end I1 (.inr hlt)) P1 k1)
  | true =>
    refine iteT ⟨_, fun σ' H' h => h, ?_⟩
    refine ⟨_, rfl, p, dx, _, rfl, ob, row_no (by decide +kernel), _, rfl, _, rfl, tu, p, r, xs1, its1, lsr its1 h, h, rfl, W1, hw, hm, fun xs2 H2 W2 k2 => ?_⟩
    obtain ⟨dx2, ob2⟩ := W2.ob
    refine ⟨_, rfl, ?_⟩
    refine gNameA [some (.ref p), some (.int (k : Int)), some (.int (lsr its1 h : Int)), some (.int (lsr its1 h : Int))] ?_
    refine ⟨_, rfl, p, dx2, _, rfl, ob2, row_no (by decide +kernel), _, rfl, tu, p, r, xs2, _, lsr its1 h, rfl, W2, ?_⟩
    have hgt := lsr_par its1 h
    refine ⟨_, ?_, xs2, _, lsr its1 h, rfl, W2, by rw [swp_len]; exact hw, sink_step I1 hw hlt, (swp_perm hw hm).trans P1, fun b o e hb => k2 b o (k1 b o e hb) hb, rfl⟩
    rw [swp_len]; omega
theorem ok_Heap_add {f : Addr} {fd : FuncData} (F : Fun K "add" "Heap.add" s_Heap_add f fd) (T : Txt K mg C_KeepError C_NoItem C_Heap) (D_Heap_lift : MethX P w K mg base C_Heap "lift" 2 ["self", "place"] (sp_lift C_Heap)) : FnOk P w K mg base (CXx P w) 3 f fd ["self", "item"] (sp_add C_Heap) := by
  refine F.okX sc_Heap_add (fun vs H Q E h => ?_) (fun cdv A outer s H vs Q E hr h => ?_)
  · obtain ⟨tu, p, r, xs, its, v, ks, rfl, W, hO, hv, hl, q⟩ := h; rfl
  obtain ⟨tu, p, r, xs, its, v, ks, rfl, W, hO, hv, hl, q⟩ := h
  refine ⟨_, (pss_cons (ps_expr (pe_bm PySem.F.plainAttrs_list PySem.F.slot_list_append PySem.F.type_list_append mt_append (pe_fld (pv 0) rfl) (pa_cons (pv 1) pa_nil)))
      (pss_one (ps_expr (pe_methS (pv 0) T.cl_Heap D_Heap_lift passesN (hr.mono (by decide)) (pa_cons (pe_op op_sub (pe_callB call_len_seq (by rfl) T.b_len PySem.boot_len (pa_cons (pe_fld (pv 0) rfl) pa_nil)) pe_int) pa_nil))))), ?_⟩
  obtain ⟨dx, ob⟩ := W.ob
  have hxl : xs.length = its.length := W.ks.len
  refine ⟨_, rfl, p, C_Heap, dx, _, _, rfl, ob, T.cl_Heap, T.n_Heap_row, look_eq, .inl ⟨rfl, _, SqL.of W.row⟩, _, rfl, r, _, _, rfl, rfl, W.row, by rw [hxl]; exact Nat.lt_of_lt_of_le hl (by decide), ?_⟩
  have W2 := W.put (W.ks.snoc hv)
  have k2 : Keep [r] H (upd H r (.lst (xs ++ [v]))) := keep_upd Keep.refl (.inl (by simp))
  generalize upd H r (.lst (xs ++ [v])) = H2 at W2 k2
  obtain ⟨dx2, ob2⟩ := W2.ob
  have e2 : (((xs ++ [v]).length : Nat) : Int) - 1 = (its.length : Int) := by simp [hxl]
  refine ⟨_, rfl, p, dx2, _, rfl, ob2, row_no (by decide +kernel), _, rfl, p, C_Heap, dx2, _, _, rfl, ob2, T.cl_Heap, T.n_Heap_row, look_eq, r, _, rfl, .inl (SqL.of W2.row), _, _, rfl, rfl, ?_⟩
  refine ⟨tu, p, r, xs ++ [v], its ++ [ks], its.length, by show [_, V.int ((((xs ++ [v]).length : Nat) : Int) - 1)] = _; rw [e2], W2, by simp, ⟨fun i h0 hi hne => ?_, fun h0 i h1 hi hp => ?_⟩, fun xs' its' H' W' hO' P' k' => q _ _ _ W' hO' P' fun b o e hb => k' b o (k2 b o e hb) hb⟩
  · rw [List.length_append] at hi
    have hi' : i < its.length := by simp at hi; omega
    have hg : ∀ j, j < its.length->gK (its ++ [ks]) j = gK its j := fun j hj => by simp [gK, List.getD_eq_getElem?_getD, List.getElem?_append_left hj]
    rw [hg _ hi', hg _ (by omega)]
    exact hO i h0 hi'
  · rw [List.length_append] at hi
    simp at hi; omega
theorem ok_Heap_least {f : Addr} {fd : FuncData} (F : Fun K "least" "Heap.least" s_Heap_least f fd) (T : Txt K mg C_KeepError C_NoItem C_Heap)  : FnOk P w K mg base (CXx P w) 2 f fd ["self"] (sp_least C_Heap C_NoItem) := by
  refine F.okX sc_Heap_least (fun vs H Q E h => ?_) (fun cdv A outer s H vs Q E hr h => ?_)
  · obtain ⟨tu, p, r, xs, its, rfl, W, hO, q0, q1⟩ := h; rfl
  obtain ⟨tu, p, r, xs, its, rfl, W, hO, q0, q1⟩ := h
  refine ⟨_, (pss_cons (ps_if (pt_cmpR op_eq (pe_callB call_len_seq (by rfl) T.b_len PySem.boot_len (pa_cons (pe_fld (pv 0) rfl) pa_nil)) pe_int (nomark _)) (pss_one (ps_raise rfl raisesB (pe_exc0 T.mg_NoItem T.x_NoItem T.in0_NoItem T.kp0_NoItem rfl))) pss_nil)
      (pss_one (ps_ret (pe_ix ix_list (pe_fld (pv 0) rfl) pe_int (fun _ _ => rfl))))), ?_⟩
  obtain ⟨dx, ob⟩ := W.ob
  have hxl : xs.length = its.length := W.ks.len
  refine ⟨_, rfl, p, C_Heap, dx, _, _, rfl, ob, T.cl_Heap, T.n_Heap_row, look_eq, r, _, rfl, .inl (SqL.of W.row), rfl, _, rfl, ?_⟩
  by_cases h0 : its = []
  · have hx0 : (xs.length : Int) = 0 := by rw [hxl, h0]; rfl
    rw [hx0, decide_eq_true rfl]
    refine iteT fun e he => ⟨e, C_NoItem, none, rfl, upd_same, T.x_NoItem, ?_⟩
    refine q1 h0 e _ ⟨false, none, upd_same, rfl⟩ fun b o eb => ?_
    have := ne_of_none eb he
    rw [upd_ne this, upd_ne this]; exact eb
  · have hpos : 0 < its.length := List.length_pos_iff.mpr h0
    rw [decide_eq_false (show ¬ V.int (xs.length : Int) = V.int 0 from fun e => by have := V.int.inj e; omega)]
    obtain ⟨v, ev, kv⟩ := W.ks.at_ hpos
    refine iteF ⟨_, rfl, p, C_Heap, dx, _, _, rfl, ob, T.cl_Heap, T.n_Heap_row, look_eq, r, _, _, v, rfl, rfl, SqL.of W.row, atI_nat (j := 0) ev, ?_⟩
    exact q0 v h0 ev kv (mem_le hO)
theorem ok_Heap_take {f : Addr} {fd : FuncData} (F : Fun K "take" "Heap.take" s_Heap_take f fd) (T : Txt K mg C_KeepError C_NoItem C_Heap) (D_Heap_least : MethX P w K mg base C_Heap "least" 2 ["self"] (sp_least C_Heap C_NoItem)) (D_Heap_sink : MethX P w K mg base C_Heap "sink" 2 ["self", "place"] (sp_sink C_Heap)) : FnOk P w K mg base (CXx P w) 3 f fd ["self"] (sp_take C_Heap C_NoItem) := by
  refine F.okX sc_Heap_take (fun vs H Q E h => ?_) (fun cdv A outer s H vs Q E hr h => ?_)
  · obtain ⟨tu, p, r, xs, its, rfl, W, hO, q0, q1⟩ := h; rfl
  obtain ⟨tu, p, r, xs, its, rfl, W, hO, q0, q1⟩ := h
  refine ⟨_, (pss_cons (ps_set (i := 1) sc_Heap_take.nd rfl (Or.inl rfl) (pe_methS0 (pv 0) T.cl_Heap D_Heap_least passesB (hr.mono (by decide))))
      (pss_cons (ps_set (i := 2) sc_Heap_take.nd rfl (Or.inl rfl) (pe_bm0 PySem.F.plainAttrs_list PySem.F.slot_list_pop PySem.F.type_list_pop mt_pop (pe_fld (pv 0) rfl)))
      (pss_cons (ps_if (pt_cmpR op_gt (pe_callB call_len_seq (by rfl) T.b_len PySem.boot_len (pa_cons (pe_fld (pv 0) rfl) pa_nil)) pe_int (nomark _)) (pss_cons (ps_asg (pv 2) (pg_sub (pe_fld (pv 0) rfl) pe_int set_list))
      (pss_one (ps_expr (pe_methS (pv 0) T.cl_Heap D_Heap_sink passesN (hr.mono (by decide)) (pa_cons pe_int pa_nil))))) pss_nil)
      (pss_one (ps_ret (pv 1)))))), ?_⟩
  obtain ⟨dx, ob⟩ := W.ob
  have hxl : xs.length = its.length := W.ks.len
  refine ⟨_, rfl, p, dx, _, rfl, ob, row_no (by decide +kernel), tu, p, r, xs, its, rfl, W, hO, fun v hne ev kv hmin => ?_, q1⟩
  refine gNameA [some (.ref p), some v, none] ?_
  have hpos : 0 < its.length := List.length_pos_iff.mpr hne
  obtain ⟨lv, elv, klv⟩ := W.ks.at_ (show its.length - 1 < its.length by omega)
  have elv' : xs[xs.length - 1]? = some lv := by rw [hxl]; exact elv
  have hvx : v ∈ xs := List.mem_of_getElem? ev
  refine ⟨_, rfl, p, C_Heap, dx, _, _, rfl, ob, T.cl_Heap, T.n_Heap_row, look_eq, .inl ⟨rfl, _, SqL.of W.row⟩, r, _, lv, rfl, rfl, W.row, elv', ?_⟩
  refine gNameA [some (.ref p), some v, some lv] ?_
  have W2 := W.put W.ks.dropLast
  have k2 : Keep [r] H (upd H r (.lst xs.dropLast)) := keep_upd Keep.refl (.inl (by simp))
  have kt2 : ∀ t ys, H t = some (.tup ys)->upd H r (.lst xs.dropLast) t = some (.tup ys) := fun t ys e => by rw [upd_ne (ne_of e W.row (by intro z; cases z))]; exact e
  generalize upd H r (.lst xs.dropLast) = H2 at W2 k2 kt2 ⊢
  clear ob
  obtain ⟨dx, ob⟩ := W2.ob
  have hdl : xs.dropLast.length = its.length - 1 := by rw [List.length_dropLast, hxl]
  by_cases h1 : its.length = 1
  · obtain ⟨a, rfl⟩ := List.length_eq_one_iff.mp h1
    refine ⟨_, rfl, p, C_Heap, dx, _, _, rfl, ob, T.cl_Heap, T.n_Heap_row, look_eq, r, _, rfl, .inl (SqL.of W2.row), _, _, rfl, rfl, _, rfl, iteN (by rw [hdl, h1]; decide) ⟨_, rfl, ?_⟩⟩
    exact q0 hne v a _ _ H2 (kv.mono kt2) W2 (fun i h0 hi => by simp at hi) (List.Perm.refl _) hmin hvx k2
  · obtain ⟨a, tl, b, rfl⟩ : ∃ a tl b, its = a :: (tl ++ [b]) := by
      match its, h1, hpos with
      | a :: r', h1, _ =>
        have hr : r' ≠ [] := fun e => h1 (by rw [e]; rfl)
        exact ⟨a, r'.dropLast, r'.getLast hr, by rw [List.dropLast_concat_getLast hr]⟩
    refine ⟨_, rfl, p, C_Heap, dx, _, _, rfl, ob, T.cl_Heap, T.n_Heap_row, look_eq, r, _, rfl, .inl (SqL.of W2.row), _, _, rfl, rfl, _, rfl, iteY (by rw [hdl]; simp) ?_⟩
    have hd2 : (a :: (tl ++ [b])).dropLast = a :: tl := by rw [show a :: (tl ++ [b]) = (a :: tl) ++ [b] from rfl, List.dropLast_concat]
    rw [hd2] at W2
    have hb : gK (a :: (tl ++ [b])) ((a :: (tl ++ [b])).length - 1) = b := by
      simp [gK, List.getD_eq_getElem?_getD]
    rw [hb] at klv
    refine ⟨_, rfl, _, rfl, p, C_Heap, dx, _, _, rfl, ob, T.cl_Heap, T.n_Heap_row, look_eq, r, _, _, 0, rfl, rfl, W2.row, by unfold ixN; rw [if_pos (by omega), if_pos (by rw [hdl]; simp)]; rfl, ?_⟩
    have W3 := W2.put (W2.ks.set (i := 0) (klv.mono kt2))
    have k3 : Keep [r] H2 (upd H2 r (.lst (xs.dropLast.set 0 lv))) := keep_upd Keep.refl (.inl (by simp))
    have kt3 : ∀ t ys, H2 t = some (.tup ys)->upd H2 r (.lst (xs.dropLast.set 0 lv)) t = some (.tup ys) := fun t ys e => by rw [upd_ne (ne_of e W2.row (by intro z; cases z))]; exact e
    generalize upd H2 r (.lst (xs.dropLast.set 0 lv)) = H3 at W3 k3 kt3 ⊢
    obtain ⟨dx3, ob3⟩ := W3.ob
    refine ⟨_, rfl, p, dx3, _, rfl, ob3, row_no (by decide +kernel), tu, p, r, _, _, 0, rfl, W3, by simp, ⟨fun i h0 hi hp => ?_, fun h => absurd h (by decide)⟩, fun xs' its' H' W' hO' P' k' => ?_⟩
    · have hi' : i < (a :: tl).length := by simpa using hi
      have hg : ∀ j, 0 < j->j < (a :: tl).length->gK ((a :: tl).set 0 b) j = gK (a :: (tl ++ [b])) j := fun j h0 hj => by
        cases j with
        | zero => omega
        | succ j => simp at hj; simp [gK, List.getD_eq_getElem?_getD, List.getElem?_append_left hj]
      rw [hg i h0 hi', hg _ (by omega) (by omega)]
      exact hO i h0 (by simp at hi' ⊢; omega)
    · refine ⟨_, rfl, q0 hne v a _ _ H' (KeyAt.mono (H := H3) ((kv.mono kt2).mono kt3) fun t ys e => k' t _ e ?_) W' hO' ?_ hmin hvx fun b' o e hb => k' b' o (k3 b' o (k2 b' o e hb) hb) hb⟩
      · have := ne_of e W3.row (by intro z; cases z)
        simpa using this
      · refine List.Perm.cons a ?_
        refine List.Perm.trans ?_ P'.symm
        show (tl ++ [b]).Perm (b :: tl)
        exact List.perm_append_comm
theorem ok_Heap_size {f : Addr} {fd : FuncData} (F : Fun K "size" "Heap.size" s_Heap_size f fd) (T : Txt K mg C_KeepError C_NoItem C_Heap)  : FnOk P w K mg base (CXx P w) 1 f fd ["self"] (sp_hsize C_Heap) := by
  refine F.okX sc_Heap_size (fun vs H Q E h => ?_) (fun cdv A outer s H vs Q E hr h => ?_)
  · obtain ⟨tu, p, r, xs, its, rfl, W, q⟩ := h; rfl
  obtain ⟨tu, p, r, xs, its, rfl, W, q⟩ := h
  refine ⟨_, (pss_one (ps_ret (pe_callB call_len_seq (by rfl) T.b_len PySem.boot_len (pa_cons (pe_fld (pv 0) rfl) pa_nil)))), ?_⟩
  obtain ⟨dx, ob⟩ := W.ob
  refine ⟨_, rfl, p, C_Heap, dx, _, _, rfl, ob, T.cl_Heap, T.n_Heap_row, look_eq, r, _, rfl, .inl (SqL.of W.row), ?_⟩
  rw [W.ks.len]
  exact q
theorem ok_price_over {f : Addr} {fd : FuncData} (F : Fun K "price_over" "price_over" s_price_over f fd) (T : Txt K mg C_KeepError C_NoItem C_Heap)  : FnOk P w K mg base (CXx P w) 1 f fd ["price", "leg"] (sp_over) := by
  refine F.okX sc_price_over (fun vs H Q E h => ?_) (fun cdv A outer s H vs Q E hr h => ?_)
  · obtain ⟨a, b, p, g, rfl, hp, ha, hb, q⟩ := h; rfl
  obtain ⟨a, b, p, g, rfl, hp, ha, hb, q⟩ := h
  refine ⟨_, (pss_one (ps_ret (pe_tup (pa_cons (pe_op op_add (pe_ix ix_tup (pv 0) pe_int (fun _ _ => rfl)) (pe_ix ix_tup (pv 1) pe_int (fun _ _ => rfl))) (pa_cons (pe_op op_add (pe_ix ix_tup (pv 0) pe_int (fun _ _ => rfl)) (pe_ix ix_tup (pv 1) pe_int (fun _ _ => rfl))) (pa_cons (pe_op op_add (pe_ix ix_tup (pv 0) pe_int (fun _ _ => rfl)) pe_int) pa_nil)))))), ?_⟩
  obtain ⟨x, y, n, rfl⟩ := hp
  refine ⟨_, rfl, a, _, _, V.int x, rfl, rfl, SqT.of ha, rfl, _, rfl, b, _, _, V.int g.bad, rfl, rfl, SqT.of hb, rfl, _, _, rfl, rfl, ?_⟩
  refine ⟨_, rfl, a, _, _, V.int y, rfl, rfl, SqT.of ha, rfl, _, rfl, b, _, _, V.int g.cost, rfl, rfl, SqT.of hb, rfl, _, _, rfl, rfl, ?_⟩
  refine ⟨_, rfl, a, _, _, V.int (n : Int), rfl, rfl, SqT.of ha, rfl, _, _, rfl, rfl, ?_⟩
  refine ⟨(by show 3 ≤ sizeLine; decide), fun t ht => ?_⟩
  exact q t ht
theorem ok_legs_by_start {f : Addr} {fd : FuncData} (F : Fun K "legs_by_start" "legs_by_start" s_legs_by_start f fd) (T : Txt K mg C_KeepError C_NoItem C_Heap)  : FnOk P w K mg base (CXx P w) 1 f fd ["legs"] (sp_lbs) := by
  refine F.okX sc_legs_by_start (fun vs H Q E h => ?_) (fun cdv A outer s H vs Q E hr h => ?_)
  · obtain ⟨a, LV, legs, rfl, ha, R, hlen, q⟩ := h; rfl
  obtain ⟨a, LV, legs, rfl, ha, R, hlen, q⟩ := h
  refine ⟨_, (pss_cons (ps_set (i := 1) sc_legs_by_start.nd rfl (Or.inl rfl) pe_dnewK)
      (pss_cons (ps_for PassesOwn.leaving rfl (pi_list (pv 0)) (pg_name (i := 2) sc_legs_by_start.nd rfl (Or.inl rfl))
      (pss_one (ps_expr (pe_bm PySem.F.plainAttrs_list PySem.F.slot_list_append PySem.F.type_list_append mt_append (pe_dsetd (pv 1) (pe_ix ix_tup (pv 2) pe_int (fun _ _ => rfl)) (pe_lst pa_nil) ⟨rfl, rfl, rfl, rfl⟩) (pa_cons (pv 2) pa_nil)))))
      (pss_one (ps_ret (pv 1))))), ?_⟩
  refine fun s hs => ?_
  refine gNameA [some (.ref a), some (.ref s), none] ?_
  have hLl : LV.length = legs.length := by rw [R.len, List.length_map]
  refine ⟨_, rfl, a, rfl, ⟨_, SqL.of (Same.new hs _ _ ha)⟩, for_list (K := K) (a := a) (xs := LV) (fun i σ H2 => ∃ (v2 : Option V) (kvs : List (Key × V)), σ = [some (.ref a), some (.ref s), v2] /\ Same H H2 /\ H2 s = some (.dK kvs) /\ kvs.length ≤ i /\ StAt H2 kvs (LV.take i) (legs.take i) /\ (∀ d l, valV kvs (Sum.inl d) = some (.ref l)->H l = none) /\ (∀ d d' l, valV kvs (Sum.inl d) = some (.ref l)->valV kvs (Sum.inl d') = some (.ref l)->d = d')) ⟨none, [], rfl, Same.new hs, upd_same, Nat.le_refl _, ⟨fun d => .inr ⟨rfl, rfl⟩⟩, fun d l h => (by cases h), fun d d' l h => (by cases h)⟩ (fun i σ H2 _ ⟨_, _, _, s2, _⟩ => SqL.of (s2 _ _ ha)) ?_ ?_⟩
  · rintro i v σ H2 hi ⟨v2, kvs, rfl, s2, hs2, hkl, S, hfr, hinj⟩
    have hil : i < legs.length := by have := (List.getElem?_eq_some_iff.mp hi).1; omega
    have eg : legs[i]? = some legs[i] := List.getElem?_eq_getElem hil
    generalize legs[i] = g at eg
    obtain ⟨b, rfl, hb⟩ := key_tup (R.get i v (legT g) hi (by rw [List.getElem?_map, eg]; rfl))
    have hb2 := s2 _ _ hb
    have hst := fun d => sel_take hi eg d
    have hsl : ∀ d, (selV (LV.take i) (legs.take i) d).length ≤ 1000 := fun d => by
      unfold selV
      rw [List.length_map]
      refine Nat.le_trans (List.length_filter_le _ _) ?_
      rw [List.length_zip, List.length_take]; omega
    refine ⟨_, rfl, s, rfl, .inl ⟨kvs, .inl hs2⟩, _, rfl, b, _, _, V.int g.start, rfl, rfl, SqT.of hb2, rfl, Nat.zero_le _, fun e he => ?_⟩
    have s3 : Same H2 (upd H2 e (.lst [])) := Same.new he
    have he3 : upd H2 e (.lst []) e = some (.lst []) := upd_same
    generalize upd H2 e (.lst []) = H3 at s3 he3 ⊢
    have hs3 := s3 _ _ hs2
    have nes : s ≠ e := ne_of_none hs2 he
    refine ⟨kvs, Sum.inl g.start, hs3, rfl, small1000 (by omega), fun w' hw => ?_, fun hn => ?_⟩
    · rcases S.val g.start with ⟨l, hl, hl2⟩ | ⟨hl, _⟩
      case inr => rw [hl] at hw; cases hw
      rw [hl] at hw
      cases hw
      have hl3 := s3 _ _ hl2
      have nls : l ≠ s := ne_of hl3 hs3 (by intro z; cases z)
      refine ⟨.inl ⟨rfl, _, SqL.of hl3⟩, _, rfl, l, _, _, rfl, rfl, hl3, Nat.lt_of_le_of_lt (hsl _) (by decide), ?_⟩
      refine ⟨_, kvs, rfl, fun b' o eb => ?_, by rw [upd_ne nls.symm]; exact hs3, by omega, ⟨fun d => ?_⟩, hfr, hinj⟩
      · rw [upd_ne (ne_of_none eb (hfr _ _ hl))]; exact s3 b' o (s2 b' o eb)
      · rw [hst d]
        by_cases ed : g.start = d
        · subst ed
          rw [if_pos rfl]
          exact .inl ⟨l, hl, upd_same⟩
        · rw [if_neg ed, List.append_nil]
          rcases S.val d with ⟨l', hl', hl2'⟩ | h
          · refine .inl ⟨l', hl', ?_⟩
            rw [upd_ne (show l' ≠ l from fun z => ed (hinj _ _ _ hl (by rw [← z]; exact hl')))]
            exact s3 _ _ hl2'
          · exact .inr h
    · have he4 : upd H3 s (.dK (putK kvs (Sum.inl g.start) (.ref e))) e = some (.lst []) := by rw [upd_ne nes.symm]; exact he3
      refine ⟨.inl ⟨rfl, _, SqL.of he4⟩, _, rfl, e, _, _, rfl, rfl, he4, by decide, ?_⟩
      have heH : H e = none := s2.free he
      have hno : ∀ d l, valV kvs (Sum.inl d) = some (.ref l)->l ≠ e := fun d l h z => by
        rcases S.val d with ⟨l', hl', hl2'⟩ | ⟨h', _⟩
        · rw [hl'] at h; cases h
          rw [z, he] at hl2'; cases hl2'
        · rw [h'] at h; cases h
      refine ⟨_, _, rfl, fun b' o eb => ?_, by rw [upd_ne nes, upd_same], by have := length_putK kvs (Sum.inl g.start) (V.ref e); omega, ⟨fun d => ?_⟩, fun d l h => ?_, fun d d' l h h' => ?_⟩
      · rw [upd_ne (ne_of_none eb heH), upd_ne (ne_of_none eb hs)]; exact s3 b' o (s2 b' o eb)
      · rw [hst d, valV_put]
        by_cases ed : g.start = d
        · subst ed
          rw [if_pos rfl, if_pos rfl]
          have : selV (LV.take i) (legs.take i) g.start = [] := by
            rcases S.val g.start with ⟨l, hl, _⟩ | ⟨_, h⟩
            · rw [hl] at hn; cases hn
            · exact h
          rw [this]
          exact .inl ⟨e, rfl, upd_same⟩
        · rw [if_neg (fun z => ed (Sum.inl.inj z).symm), if_neg ed, List.append_nil]
          rcases S.val d with ⟨l', hl', hl2'⟩ | h
          · refine .inl ⟨l', hl', ?_⟩
            rw [upd_ne (hno _ _ hl'), upd_ne (ne_of (s3 _ _ hl2') hs3 (by intro z; cases z))]
            exact s3 _ _ hl2'
          · exact .inr h
      · rw [valV_put] at h
        split at h
        · cases h; exact heH
        · exact hfr _ _ h
      · rw [valV_put] at h h'
        split at h
        · rename_i e1
          split at h'
          · rename_i e2
            exact (Sum.inl.inj e1).trans (Sum.inl.inj e2).symm
          · cases h; exact absurd rfl (hno _ _ h')
        · split at h'
          · cases h'; exact absurd rfl (hno _ _ h)
          · exact hinj _ _ _ h h'
  · rintro σ H2 ⟨v2, kvs, rfl, s2, hs2, hkl, S, hfr, hinj⟩
    rw [List.take_length, List.take_of_length_le (by omega)] at S
    exact ⟨_, rfl, q s kvs H2 hs2 S hs s2⟩
theorem ok_prices {f : Addr} {fd : FuncData} (F : Fun K "prices" "prices" s_prices f fd) (T : Txt K mg C_KeepError C_NoItem C_Heap) (D_legs_by_start : DefX P w K mg base "legs_by_start" 1 ["legs"] sp_lbs) (D_Heap : MakeX P w K mg base "Heap" C_Heap 1 ["self"] (sp_hinit C_Heap)) (D_Heap_add : MethX P w K mg base C_Heap "add" 3 ["self", "item"] (sp_add C_Heap)) (D_Heap_size : MethX P w K mg base C_Heap "size" 1 ["self"] (sp_hsize C_Heap)) (D_Heap_take : MethX P w K mg base C_Heap "take" 3 ["self"] (sp_take C_Heap C_NoItem)) (D_price_over : DefX P w K mg base "price_over" 1 ["price", "leg"] sp_over) : FnOk P w K mg base (CXx P w) 4 f fd ["legs"] (sp_prices) := by
  refine F.okX sc_prices (fun vs H Q E h => ?_) (fun cdv A outer s H vs Q E hr h => ?_)
  · obtain ⟨a, LV, legs, rfl, ha, R, hok, hlen, q⟩ := h; rfl
  obtain ⟨a, LV, legs, rfl, ha, R, hok, hlen, q⟩ := h
  refine ⟨_, (pss_cons (ps_set (i := 1) sc_prices.nd rfl (Or.inl rfl) (pe_callS D_legs_by_start passesN (hr.mono (by decide)) rfl (pa_cons (pv 0) pa_nil)))
      (pss_cons (ps_set (i := 2) sc_prices.nd rfl (Or.inl rfl) pe_dnewK)
      (pss_cons (ps_set (i := 3) sc_prices.nd rfl (Or.inl rfl) (pe_makeS0 D_Heap passesN (hr.mono (by decide)) rfl))
      (pss_cons (ps_expr (pe_methS (pv 3) T.cl_Heap D_Heap_add passesN (hr.mono (by decide)) (pa_cons (pe_tup (pa_cons pe_int (pa_cons pe_int (pa_cons pe_int (pa_cons (pe_un un_neg pe_int) pa_nil))))) pa_nil)))
      (pss_cons (ps_while PassesOwn.leaving (pt_cmpR op_gt (pe_methS0 (pv 3) T.cl_Heap D_Heap_size passesN (hr.mono (by decide))) pe_int (nomark _)) (pss_cons (ps_set (i := 4) sc_prices.nd rfl (Or.inl rfl) (pe_methS0 (pv 3) T.cl_Heap D_Heap_take passesB (hr.mono (by decide))))
      (pss_one (ps_if (pt_cmp (pc_dnotin (hu_of hr) (pe_ix ix_tup (pv 4) pe_int (fun _ _ => rfl)) (pv 2))) (pss_cons (ps_dput (hu_of hr) (pv 2) (pe_ix ix_tup (pv 4) pe_int (fun _ _ => rfl)) (pe_slice sl_tup (pv 4) po_none (po_some pe_int)) rfl)
      (pss_one (ps_for PassesOwn.leaving rfl (pi_list (pe_dget2 (hu_of hr) (pv 1) (pe_ix ix_tup (pv 4) pe_int (fun _ _ => rfl)) (pe_lst pa_nil) ⟨rfl, rfl, rfl, rfl⟩)) (pg_name (i := 5) sc_prices.nd rfl (Or.inl rfl))
      (pss_one (ps_expr (pe_methS (pv 3) T.cl_Heap D_Heap_add passesN (hr.mono (by decide)) (pa_cons (pe_op op_catT (pe_callS D_price_over passesN (hr.mono (by decide)) rfl (pa_cons (pe_slice sl_tup (pv 4) po_none (po_some pe_int)) (pa_cons (pv 5) pa_nil))) (pe_tup (pa_cons (pe_ix ix_tup (pv 5) pe_int (fun _ _ => rfl)) pa_nil))) pa_nil))))))) pss_nil))))
      (pss_cons (ps_expr (pe_dpop1 (pv 2) (pe_un un_neg pe_int) ⟨rfl, rfl, rfl, rfl⟩))
      (pss_one (ps_ret (pv 2))))))))), ?_⟩
  refine ⟨_, rfl, a, LV, legs, rfl, ha, R, by omega, fun s skvs H1 hs1 S ns s1 => ?_⟩
  refine gNameA [some (.ref a), some (.ref s), none, none, none, none] ?_
  intro d hd
  refine gNameA [some (.ref a), some (.ref s), some (.ref d), none, none, none] ?_
  have R1 := R.mono fun t xs e => s1 t _ e
  have s2 : Same H1 (upd H1 d (.dK [])) := Same.new hd
  have hd2 : upd H1 d (.dK []) d = some (.dK []) := upd_same
  generalize upd H1 d (.dK []) = H2 at s2 hd2 ⊢
  refine fun p dx hp hdx hne => ?_
  have sp' : Same H2 (upd (upd H2 dx (HO.own p)) p (HO.ins C_Heap dx [])) := fun b o e => by rw [upd_ne (ne_of_none e hp), upd_ne (ne_of_none e hdx)]; exact e
  have hp' : upd (upd H2 dx (HO.own p)) p (HO.ins C_Heap dx []) p = some (HO.ins C_Heap dx []) := upd_same
  generalize upd (upd H2 dx (HO.own p)) p (HO.ins C_Heap dx []) = H2' at sp' hp' ⊢
  refine ⟨p, dx, rfl, hp', fun r H3 hr W3 _ k3 => ⟨rfl, ?_⟩⟩
  refine gNameA [some (.ref a), some (.ref s), some (.ref d), some (.ref p), none, none] ?_
  have s3 : Same H2 H3 := fun b o e => k3 b o (sp' b o e) (by have := ne_of_none e hp; simpa using this)
  have hr2 : H2 r = none := sp'.free hr
  have hr1 : H1 r = none := s2.free hr2
  have hp1 : H1 p = none := s2.free hp
  have s13 := s2.trans s3
  have hd3 := s3 _ _ hd2
  have ndr : d ≠ r := ne_of_none hd2 hr2
  obtain ⟨dx3, ob3⟩ := W3.ob
  refine ⟨_, rfl, p, dx3, _, rfl, ob3, row_no (by decide +kernel), ?_⟩
  repeat (first | refine ⟨_, rfl, ?_⟩ | refine ⟨_, _, rfl, rfl, ?_⟩ | refine ⟨(by first | decide | (dsimp only; decide) | (show 2 ≤ sizeLine; decide) | (show 1 ≤ sizeLine; decide) | (show 3 ≤ sizeLine; decide) | (show 4 ≤ sizeLine; decide)), ?_⟩ | refine ⟨.inl ⟨by first | decide | (dsimp only; decide), by first | decide | (dsimp only; decide)⟩, ?_⟩ | refine ⟨.inr ⟨by first | decide | (dsimp only; decide), by first | decide | (dsimp only; decide)⟩, ?_⟩ | refine ⟨⟨by first | decide | (dsimp only; decide), by first | decide | (dsimp only; decide)⟩, ?_⟩ | refine ⟨rfl, ?_⟩ | refine ⟨_, _, rfl, ?_⟩)
  intro t0 ht0
  have st : Same H3 (upd H3 t0 (HO.tup [V.int 0, V.int 0, V.int 0, V.int (-1)])) := Same.new ht0
  have ht0' : upd H3 t0 (HO.tup [V.int 0, V.int 0, V.int 0, V.int (-1)]) t0 = some (.tup ([(0 : Int), 0, 0, -1].map V.int)) := upd_same
  generalize upd H3 t0 (HO.tup [V.int 0, V.int 0, V.int 0, V.int (-1)]) = H3' at st ht0' ⊢
  refine ⟨true, p, r, [], [], .ref t0, [0, 0, 0, -1], rfl, W3.same st, fun i h0 hi => absurd hi (Nat.not_lt_zero _), ⟨t0, rfl, ht0'⟩, by decide, fun xs its H4 W4 hO4 P4 k4 => ?_⟩
  have hits : its = [[0, 0, 0, -1]] := List.perm_singleton.mp P4
  subst hits
  have s14 : Same H1 H4 := fun b o e => k4 b o (st b o (s13 b o e)) (by have := ne_of_none e hr1; simpa using this)
  have hd4 : H4 d = some (.dK []) := k4 _ _ (st _ _ hd3) (by simpa using ndr)
  dsimp only
  refine cutA (fun σ' H' => ∃ (v4 v5 : Option V) (kvs : List (Key × V)) (P : Int->Option (List Int)), σ' = [some (.ref a), some (.ref s), some (.ref d), some (.ref p), v4, v5] /\ Same H1 H' /\ H' d = some (.dK kvs) /\ PrAt H' kvs P /\ Least legs P /\ kvs.length ≤ 501) (fun N hN => ?_) ?_
  · refine ⟨fun m σ H' => ∃ (v4 v5 : Option V) (kvs : List (Key × V)) (P : Int->Option (List Int)) (xs : List V) (its : List (List Int)), σ = [some (.ref a), some (.ref s), some (.ref d), some (.ref p), v4, v5] /\ Same H1 H' /\ H' d = some (.dK kvs) /\ PrAt H' kvs P /\ HpAt C_Heap true H' p r xs its /\ HOrd its /\ Walk legs P its /\ m = its.length + ahead legs P /\ kvs.length + m ≤ legs.length + 1, ⟨_, none, none, [], _, xs, _, rfl, s14, hd4, PrAt.nil, W4, hO4, Walk.start legs, rfl, ?_⟩, ?_⟩
    · have : ahead legs (fun _ => none) ≤ legs.length := List.length_filter_le _ _
      simp; omega
    rintro m σ H5 ⟨v4, v5, kvs, P, xs5, its5, rfl, s5, hd5, PR, W5, hO5, WK, rfl, hkm⟩
    obtain ⟨dx5, ob5⟩ := W5.ob
    refine ⟨_, rfl, p, dx5, _, rfl, ob5, row_no (by decide +kernel), true, p, r, xs5, its5, rfl, W5, _, _, rfl, rfl, _, rfl, ?_⟩
    by_cases he : its5 = []
    · subst he
      refine iteN (by simp) ?_
      exact hN _ _ ⟨v4, v5, kvs, P, rfl, s5, hd5, PR, WK.done, by omega⟩
    refine iteY (by have := List.length_pos_iff.mpr he; omega) ?_
    refine ⟨_, fun σ' H' h => h, ?_⟩
    refine ⟨_, rfl, p, dx5, _, rfl, ob5, row_no (by decide +kernel), true, p, r, xs5, its5, rfl, W5, hO5, fun _ v m xs6 its6 H6 kv W6 hO6 hperm hmin hvx k6 => ?_, fun h => absurd h he⟩
    obtain ⟨ia, rfl, hia⟩ := key_tup kv
    have hmi : m ∈ its5 := hperm.mem_iff.mpr (by simp)
    obtain ⟨qp, day, hqp, rfl⟩ := WK.shape m hmi
    have hln : its5.length = its6.length + 1 := by rw [hperm.length_eq]; simp
    have s6 : Same H1 H6 := fun b o e => k6 b o (s5 b o e) (by have := ne_of_none e hr1; simpa using this)
    have hd6 : H6 d = some (.dK kvs) := k6 _ _ hd5 (by simpa using ndr)
    have kt6 : ∀ t ys, H5 t = some (.tup ys)->H6 t = some (.tup ys) := fun t ys e => k6 t _ e (by have := ne_of e W5.row (by intro z; cases z); simpa using this)
    have PR6 := PR.mono kt6
    have h3 : atI ((qp ++ [day]).map V.int) 3 = some (V.int day) := by obtain ⟨x, y, n, rfl⟩ := hqp; rfl
    refine gNameA [some (.ref a), some (.ref s), some (.ref d), some (.ref p), some (.ref ia), v5] ?_
    refine ⟨_, rfl, ia, _, _, V.int day, rfl, rfl, SqT.of hia, h3, _, rfl, d, _, rfl, .inl ⟨kvs, Sum.inl day, .inl hd6, rfl, rfl⟩, _, rfl, ?_⟩
    cases hP : P day with
    | some q0 =>
      have := PR6.val day
      rw [(this).is, hP]
      refine iteF ⟨its6.length + ahead legs P, by omega, _, v5, kvs, P, xs6, its6, rfl, s6, hd6, PR6, W6, hO6, WK.skip hqp hperm hP, rfl, by omega⟩
    | none =>
      have hv0 := PR6.val day
      rw [(hv0).is, hP]
      refine iteT ?_
      have hsl : cutV ((qp ++ [day]).map V.int) none (some 3) = qp.map V.int := by obtain ⟨x, y, n, rfl⟩ := hqp; rfl
      have hnw : ¬ (HT.sIx ((qp ++ [day]).map V.int).length 0 none = 0 /\ HT.sIx ((qp ++ [day]).map V.int).length ((qp ++ [day]).map V.int).length (some 3) = ((qp ++ [day]).map V.int).length) := by
        obtain ⟨x, y, n, rfl⟩ := hqp
        exact fun h => absurd (show HT.sIx 4 4 (some 3) = 4 from h.2) (by simp [HT.sIx])
      refine ⟨_, rfl, _, rfl, ia, _, rfl, SqT.of hia, hnw, fun pt hpt => ?_⟩
      rw [hsl]
      have s7 : Same H6 (upd H6 pt (.tup (qp.map V.int))) := Same.new hpt
      have hpt7 : upd H6 pt (.tup (qp.map V.int)) pt = some (.tup (qp.map V.int)) := upd_same
      generalize upd H6 pt (.tup (qp.map V.int)) = H7 at s7 hpt7 ⊢
      have hd7 := s7 _ _ hd6
      refine ⟨_, rfl, _, rfl, ia, _, _, V.int day, rfl, rfl, SqT.of (s7 _ _ hia), h3, d, _, rfl, DPut.k (k := Sum.inl day) hd7 (small1000 (by omega)), ?_⟩
      have kt8 : ∀ t ys, H7 t = some (.tup ys)->upd H7 d (.dK (putK kvs (Sum.inl day) (.ref pt))) t = some (.tup ys) := fun t ys e => by rw [upd_ne (ne_of e hd7 (by intro z; cases z))]; exact e
      have PR8 := ((PR6.mono fun t ys e => s7 t _ e).put hP hpt7).mono kt8
      have s8 : Same H1 (upd H7 d (.dK (putK kvs (Sum.inl day) (.ref pt)))) := fun b o e => by rw [upd_ne (ne_of_none e hd)]; exact s7 b o (s6 b o e)
      have hd8 : upd H7 d (.dK (putK kvs (Sum.inl day) (.ref pt))) d = some (.dK (putK kvs (Sum.inl day) (.ref pt))) := upd_same
      have W8 : HpAt C_Heap true (upd H7 d (.dK (putK kvs (Sum.inl day) (.ref pt)))) p r xs6 its6 := by
        have W7 := W6.same s7
        obtain ⟨dx7, ob7⟩ := W7.ob
        exact ⟨⟨dx7, by rw [upd_ne (ne_of ob7 hd7 (by intro z; cases z))]; exact ob7⟩, by rw [upd_ne ndr.symm]; exact W7.row, W7.ks.mono kt8⟩
      have hia8 := kt8 _ _ (s7 _ _ hia)
      have hkl8 := length_putK kvs (Sum.inl day) (V.ref pt)
      generalize upd H7 d (.dK (putK kvs (Sum.inl day) (.ref pt))) = H8 at s8 hd8 PR8 W8 hia8 ⊢
      generalize putK kvs (Sum.inl day) (.ref pt) = kvs8 at hd8 PR8 hkl8
      clear kt8 hpt7 s7 hd7 hpt
      refine ⟨_, rfl, s, rfl, .inl ⟨skvs, .inl (s8 _ _ hs1)⟩, _, rfl, ia, _, _, V.int day, rfl, rfl, SqT.of hia8, h3, Nat.zero_le _, fun e he => ?_⟩
      have s9 : Same H8 (upd H8 e (.lst [])) := Same.new he
      have he9 : upd H8 e (.lst []) e = some (.lst []) := upd_same
      have ner : r ≠ e := ne_of_none W8.row he
      generalize upd H8 e (.lst []) = H9 at s9 he9 ⊢
      have s19 := s8.trans s9
      refine ⟨_, .inl ⟨skvs, Sum.inl day, .inl (s19 _ _ hs1), rfl, rfl⟩, ?_⟩
      obtain ⟨l, hl, hl9, hlr⟩ : ∃ l, (valV skvs (Sum.inl day)).getD (V.ref e) = V.ref l /\ H9 l = some (.lst (selV LV legs day)) /\ l ≠ r := by
        rcases S.val day with ⟨l, h1, h2⟩ | ⟨h1, h2⟩
        · exact ⟨l, by rw [h1]; rfl, s19 _ _ h2, ne_of_none h2 hr1⟩
        · exact ⟨e, by rw [h1]; rfl, by rw [h2]; exact he9, ner.symm⟩
      have RS := sel_keys R1 day
      have hsn : (legs.filter fun g => decide (g.start = day)).length ≤ legs.length := List.length_filter_le _ _
      have hah := ahead_put (legs := legs) (q := qp) hP
      have hWS := fun its2 h => WK.step (its2 := its2) hok hqp hperm hmin hP h
      generalize hsel : (legs.filter fun g => decide (g.start = day)) = sel at RS hsn hah hWS
      have hselok : ∀ g ∈ sel, LegOk g := fun g hg => hok g (by rw [← hsel] at hg; exact (List.mem_filter.mp hg).1)
      refine ⟨l, hl, ⟨_, SqL.of hl9⟩, for_list (K := K) (a := l) (xs := selV LV legs day) (fun j σ H' => ∃ (v5 : Option V) (xs' : List V) (its' : List (List Int)), σ = [some (.ref a), some (.ref s), some (.ref d), some (.ref p), some (.ref ia), v5] /\ Same H1 H' /\ H' d = some (.dK kvs8) /\ PrAt H' kvs8 (putP P day qp) /\ HpAt C_Heap true H' p r xs' its' /\ HOrd its' /\ its'.Perm (its6 ++ (sel.take j).map (itemOf qp)) /\ H' l = some (.lst (selV LV legs day)) /\ H' ia = some (.tup ((qp ++ [day]).map V.int)))
        ⟨v5, xs6, its6, rfl, s19, s9 _ _ hd8, PR8.mono fun t ys e => s9 t _ e, W8.same s9, hO6, by simp, hl9, s9 _ _ hia8⟩ (fun j σ H' _ ⟨_, _, _, _, _, _, _, _, _, _, h, _⟩ => SqL.of h) ?_ ?_⟩
      · rintro j v σ Ha hj ⟨v5', xsa, itsa, rfl, sa, hda, PRa, Wa, hOa, Pa, hla, hiaa⟩
        have hjl : j < sel.length := by have := (List.getElem?_eq_some_iff.mp hj).1; have h2 := RS.len; rw [List.length_map] at h2; omega
        have eg : sel[j]? = some sel[j] := List.getElem?_eq_getElem hjl
        generalize sel[j] = g at eg
        obtain ⟨lb, rfl, hlb⟩ := key_tup (RS.get j v (legT g) hj (by rw [List.getElem?_map, eg]; rfl))
        obtain ⟨dxa, oba⟩ := Wa.ob
        refine ⟨_, rfl, p, dxa, _, rfl, oba, row_no (by decide +kernel), ?_⟩
        refine ⟨_, rfl, _, rfl, ia, _, rfl, SqT.of hiaa, hnw, fun pt2 hpt2 => ?_⟩
        rw [hsl]
        have sb : Same Ha (upd Ha pt2 (.tup (qp.map V.int))) := Same.new hpt2
        have hpt2' : upd Ha pt2 (.tup (qp.map V.int)) pt2 = some (.tup (qp.map V.int)) := upd_same
        generalize upd Ha pt2 (.tup (qp.map V.int)) = Hb at sb hpt2' ⊢
        refine ⟨_, rfl, pt2, lb, qp, g, rfl, hqp, hpt2', sb _ _ (sa _ _ hlb), fun t ht => ?_⟩
        have sc : Same Hb (upd Hb t (.tup ((overT qp g).map V.int))) := Same.new ht
        have ht' : upd Hb t (.tup ((overT qp g).map V.int)) t = some (.tup ((overT qp g).map V.int)) := upd_same
        generalize upd Hb t (.tup ((overT qp g).map V.int)) = Hc at sc ht' ⊢
        have hlbc := sc _ _ (sb _ _ (sa _ _ hlb))
        refine ⟨_, rfl, lb, _, _, V.int g.to, rfl, rfl, SqT.of hlbc, rfl, (by show 1 ≤ sizeLine; decide), fun u hu => ?_⟩
        have sd : Same Hc (upd Hc u (.tup [V.int g.to])) := Same.new hu
        have hu' : upd Hc u (.tup [V.int g.to]) u = some (.tup [V.int g.to]) := upd_same
        generalize upd Hc u (.tup [V.int g.to]) = Hd at sd hu' ⊢
        refine ⟨t, u, _, _, rfl, rfl, SqT.of (sd _ _ ht'), SqT.of hu', by simp [overT], by show 3 + 1 ≤ sizeLine; decide, fun h => (by cases h), fun _ w' hw' => ?_⟩
        have sE : Same Hd (upd Hd w' (.tup ((overT qp g).map V.int ++ [V.int g.to]))) := Same.new hw'
        have hwE : upd Hd w' (.tup ((overT qp g).map V.int ++ [V.int g.to])) w' = some (.tup ((itemOf qp g).map V.int)) := by rw [upd_same]; unfold itemOf; rw [List.map_append]; rfl
        generalize upd Hd w' (.tup ((overT qp g).map V.int ++ [V.int g.to])) = He at sE hwE ⊢
        have sae := ((sb.trans sc).trans sd).trans sE
        have hpl : itsa.length = its6.length + j := by rw [Pa.length_eq, List.length_append, List.length_map, List.length_take]; omega
        refine ⟨true, p, r, xsa, itsa, .ref w', itemOf qp g, rfl, Wa.same sae, hOa, ⟨w', rfl, hwE⟩, by omega, fun xsf itsf Hf Wf hOf Pf kf => ?_⟩
        have sf : Same H1 Hf := fun b o eb => kf b o (sae b o (sa b o eb)) (by have := ne_of_none eb hr1; simpa using this)
        have ktf : ∀ t ys, He t = some (.tup ys)->Hf t = some (.tup ys) := fun t ys eb => kf t _ eb (by have := ne_of eb (Wa.same sae).row (by intro z; cases z); simpa using this)
        refine ⟨_, xsf, itsf, rfl, sf, kf _ _ (sae _ _ hda) (by simpa using ndr), PRa.mono (fun t ys eb => ktf t ys (sae _ _ eb)), Wf, hOf, ?_, kf _ _ (sae _ _ hla) (by simpa using hlr), ktf _ _ (sae _ _ hiaa)⟩
        rw [List.take_add_one, eg, List.map_append, ← List.append_assoc]
        exact Pf.trans (Pa.append_right _)
      · rintro σ Ha ⟨v5', xsa, itsa, rfl, sa, hda, PRa, Wa, hOa, Pa, hla, hiaa⟩
        rw [List.take_of_length_le (by have h2 := RS.len; rw [List.length_map] at h2; omega)] at Pa
        have hpl : itsa.length = its6.length + sel.length := by rw [Pa.length_eq, List.length_append, List.length_map]
        exact ⟨itsa.length + ahead legs (putP P day qp), by omega, _, _, kvs8, _, xsa, itsa, rfl, sa, hda, PRa, Wa, hOa, hWS itsa Pa, rfl, by omega⟩
  rintro σ' H' ⟨v4, v5, kvs, P, rfl, s5, hd5, PR, LP, hk5⟩
  have hv := PR.val (-1)
  rw [LP.zero] at hv
  obtain ⟨za, hza, _⟩ := hv.some_of
  refine ⟨_, rfl, d, rfl, .inl ⟨kvs, .inl hd5⟩, _, rfl, kvs, Sum.inl (-1), _, hd5, rfl, hza, ?_⟩
  refine ⟨_, rfl, q d _ P _ upd_same ((PR.drop (-1)).mono fun t ys e => by rw [upd_ne (ne_of e hd5 (by intro z; cases z))]; exact e) LP (s1.free hd) (Nat.le_trans (dropK_le _ _) hk5) fun b o e => ?_⟩
  rw [upd_ne (ne_of_none e (s1.free hd))]; exact s5 b o (s1 b o e)
theorem ok__law_cell_at {f : Addr} {fd : FuncData} (F : Fun K "_law_cell_at" "_law_cell_at" s__law_cell_at f fd) (T : Txt K mg C_KeepError C_NoItem C_Heap)  : FnOk P w K mg base (CXx P w) 1 f fd ["_law_script", "_law_k"] (sp_cell K) := by
  refine F.okX sc__law_cell_at (fun vs H Q E h => ?_) (fun cdv A outer s H vs Q E hr h => ?_)
  · obtain ⟨a, ns, k, rfl, hS, q⟩ := h; rfl
  obtain ⟨a, ns, k, rfl, hS, q⟩ := h
  refine ⟨_, (pss_cons (ps_if (pt_cmpR op_lt (pv 1) (pe_callB call_len_seq (by rfl) T.b_len PySem.boot_len (pa_cons (pv 0) pa_nil)) (nomark _)) (pss_one (ps_ret (pe_ix ix_list (pv 0) (pv 1) (fun _ _ => rfl)))) pss_nil)
      (pss_one (ps_ret pe_int))), ?_⟩
  refine ⟨_, rfl, _, rfl, a, _, rfl, .inl hS, _, _, rfl, rfl, _, rfl, ?_⟩
  refine ite2 (fun h => ?_) (fun h => ?_)
  · have h : k < ns.length := by simpa using h
    refine ⟨_, rfl, _, rfl, a, _, _, V.int (ns.getD k 0), rfl, rfl, hS, atI_nat ?_, ?_⟩
    · simp [h]
    · have e : cellI ns k = ns.getD k 0 := by unfold cellI; rw [if_pos (by omega)]; rfl
      rw [e] at q; exact q
  · have h : ¬ k < ns.length := by simpa using h
    have e : cellI ns k = 0 := by unfold cellI; rw [if_neg (by omega)]
    rw [e] at q; exact q
theorem ok__law_whole {f : Addr} {fd : FuncData} (F : Fun K "_law_whole" "_law_whole" s__law_whole f fd) (T : Txt K mg C_KeepError C_NoItem C_Heap)  : FnOk P w K mg base (CXx P w) 1 f fd ["_law_found"] (sp_whole) := by
  refine F.okX sc__law_whole (fun vs H Q E h => ?_) (fun cdv A outer s H vs Q E hr h => ?_)
  · obtain ⟨n, rfl, q⟩ := h; rfl
  obtain ⟨n, rfl, q⟩ := h
  refine ⟨_, (pss_one (ps_ret (pe_and (pe_callB call_isinst (by rfl) T.b_isinstance PyProof.Rows.boot_isinstance (pa_cons (pv 0) (pa_cons (pe_bltn (v := .ty "int") rfl T.b_int PyProof.Rows.boot_int rfl) pa_nil))) (pe_one (pe_not (pe_callB call_isinst (by rfl) T.b_isinstance PyProof.Rows.boot_isinstance (pa_cons (pv 0) (pa_cons (pe_bltn (v := .ty "bool") rfl T.b_bool PyProof.Rows.boot_bool rfl) pa_nil)))))))), ?_⟩
  refine ⟨_, rfl, _, _, _, _, true, rfl, rfl, .int _, rfl, _, rfl, ?_⟩
  refine iteT ?_
  refine ⟨_, rfl, _, _, _, _, false, rfl, rfl, .int _, (by with_unfolding_all rfl), _, rfl, ?_⟩
  exact q
theorem ok__law_behind {f : Addr} {fd : FuncData} (F : Fun K "_law_behind" "_law_behind" s__law_behind f fd) (T : Txt K mg C_KeepError C_NoItem C_Heap)  : FnOk P w K mg base (CXx P w) 1 f fd ["_law_price", "_law_leg"] (sp_over) := by
  refine F.okX sc__law_behind (fun vs H Q E h => ?_) (fun cdv A outer s H vs Q E hr h => ?_)
  · obtain ⟨a, b, p, g, rfl, hp, ha, hb, q⟩ := h; rfl
  obtain ⟨a, b, p, g, rfl, hp, ha, hb, q⟩ := h
  refine ⟨_, (pss_one (ps_ret (pe_tup (pa_cons (pe_op op_add (pe_ix ix_tup (pv 0) pe_int (fun _ _ => rfl)) (pe_ix ix_tup (pv 1) pe_int (fun _ _ => rfl))) (pa_cons (pe_op op_add (pe_ix ix_tup (pv 0) pe_int (fun _ _ => rfl)) (pe_ix ix_tup (pv 1) pe_int (fun _ _ => rfl))) (pa_cons (pe_op op_add (pe_ix ix_tup (pv 0) pe_int (fun _ _ => rfl)) pe_int) pa_nil)))))), ?_⟩
  obtain ⟨x, y, n, rfl⟩ := hp
  refine ⟨_, rfl, a, _, _, V.int x, rfl, rfl, SqT.of ha, rfl, _, rfl, b, _, _, V.int g.bad, rfl, rfl, SqT.of hb, rfl, _, _, rfl, rfl, ?_⟩
  refine ⟨_, rfl, a, _, _, V.int y, rfl, rfl, SqT.of ha, rfl, _, rfl, b, _, _, V.int g.cost, rfl, rfl, SqT.of hb, rfl, _, _, rfl, rfl, ?_⟩
  refine ⟨_, rfl, a, _, _, V.int (n : Int), rfl, rfl, SqT.of ha, rfl, _, _, rfl, rfl, ?_⟩
  refine ⟨(by show 3 ≤ sizeLine; decide), fun t ht => ?_⟩
  exact q t ht
theorem ok_price_at {f : Addr} {fd : FuncData} (F : Fun K "price_at" "price_at" s_price_at f fd) (T : Txt K mg C_KeepError C_NoItem C_Heap)  : FnOk P w K mg base (CXx P w) 1 f fd ["priced", "start"] (sp_priceat) := by
  refine F.okX sc_price_at (fun vs H Q E h => ?_) (fun cdv A outer s H vs Q E hr h => ?_)
  · obtain ⟨pd, kvs, P, st, rfl, hpd, PR, hz, q0, q1⟩ := h; rfl
  obtain ⟨pd, kvs, P, st, rfl, hpd, PR, hz, q0, q1⟩ := h
  refine ⟨_, (pss_one (ps_ret (pe_ifExp (pt_cmpR op_eq (pv 1) (pe_un un_neg pe_int) (nomark _)) (pe_tup (pa_cons pe_int (pa_cons pe_int (pa_cons pe_int pa_nil)))) (pe_dget1 (hu_of hr) (pv 0) (pv 1) ⟨rfl, rfl, rfl, rfl⟩)))), ?_⟩
  refine ⟨_, rfl, _, rfl, rfl, _, rfl, ?_⟩
  by_cases hs : st = -1
  · rw [decide_eq_true (show V.int st = V.int (-1) by rw [hs])]
    refine iteT ⟨(by show 3 ≤ sizeLine; decide), fun t ht => ?_⟩
    exact q1 [0, 0, 0] (by rw [hs]; exact hz) t _ upd_same (Same.new ht)
  · rw [decide_eq_false (show ¬ V.int st = V.int (-1) from fun e => hs (V.int.inj e))]
    have hv := PR.val st
    rw [show dropP P (-1) st = P st from if_neg hs] at hv
    refine iteF ⟨_, rfl, pd, rfl, .inl ⟨kvs, .inl hpd⟩, _, rfl, _, .inl ⟨kvs, Sum.inl st, .inl hpd, rfl, rfl⟩, ?_⟩
    cases hp : P st with
    | none => rw [hp] at hv; rw [hv.none_of]; exact q0 hp
    | some p =>
      rw [hp] at hv
      obtain ⟨a, ha, ha'⟩ := hv.some_of
      rw [ha]
      exact q1 p hp a H ha' (Same.refl _)
theorem ok_last_legs {f : Addr} {fd : FuncData} (F : Fun K "last_legs" "last_legs" s_last_legs f fd) (T : Txt K mg C_KeepError C_NoItem C_Heap) (D_prices : DefX P w K mg base "prices" 4 ["legs"] sp_prices) (D_price_at : DefX P w K mg base "price_at" 1 ["priced", "start"] sp_priceat) (D_price_over : DefX P w K mg base "price_over" 1 ["price", "leg"] sp_over) : FnOk P w K mg base (CXx P w) 5 f fd ["legs"] (sp_last) := by
  refine F.okX sc_last_legs (fun vs H Q E h => ?_) (fun cdv A outer s H vs Q E hr h => ?_)
  · obtain ⟨a, LV, legs, rfl, ha, R, hok, h500, q⟩ := h; rfl
  obtain ⟨a, LV, legs, rfl, ha, R, hok, h500, q⟩ := h
  refine ⟨_, (pss_cons (ps_set (i := 1) sc_last_legs.nd rfl (Or.inl rfl) (pe_callS D_prices passesN (hr.mono (by decide)) rfl (pa_cons (pv 0) pa_nil)))
      (pss_cons (ps_set (i := 2) sc_last_legs.nd rfl (Or.inl rfl) pe_dnewK)
      (pss_cons (ps_for PassesOwn.leaving rfl (pi_list (pv 0)) (pg_name (i := 3) sc_last_legs.nd rfl (Or.inl rfl))
      (pss_cons (ps_set (i := 4) sc_last_legs.nd rfl (Or.inl rfl) (pe_callS D_price_at passesN (hr.mono (by decide)) rfl (pa_cons (pv 1) (pa_cons (pe_ix ix_tup (pv 3) pe_int (fun _ _ => rfl)) pa_nil))))
      (pss_one (ps_if (PW.pt (pw_and (pt_cmpR op_notN (pv 4) pe_non (nomark _)) (pw_and1 (pt_cmpR (op_eq_ref hr.units) (pe_callS D_price_over passesN (hr.mono (by decide)) rfl (pa_cons (pv 4) (pa_cons (pv 3) pa_nil))) (pe_dget (hu_of hr) (pv 1) (pe_ix ix_tup (pv 3) pe_int (fun _ _ => rfl)) (fun _ _ => rfl)) (nomark _))))) (pss_one (ps_dput (hu_of hr) (pv 2) (pe_ix ix_tup (pv 3) pe_int (fun _ _ => rfl)) (pe_callB (call_min2 rfl) (by rfl) T.b_min PyProof.Rows.boot_min (pa_cons (pe_ix ix_tup (pv 3) pe_int (fun _ _ => rfl)) (pa_cons (pe_dget2 (hu_of hr) (pv 2) (pe_ix ix_tup (pv 3) pe_int (fun _ _ => rfl)) (pe_ix ix_tup (pv 3) pe_int (fun _ _ => rfl)) ⟨rfl, rfl, rfl, rfl⟩) pa_nil))) rfl)) pss_nil))))
      (pss_one (ps_ret (pv 2)))))), ?_⟩
  refine ⟨_, rfl, a, LV, legs, rfl, ha, R, hok, h500, fun pd kvs P H1 hpd PR LP npd _ s1 => ?_⟩
  refine gNameA [some (.ref a), some (.ref pd), none, none, none] ?_
  intro ld hld
  refine gNameA [some (.ref a), some (.ref pd), some (.ref ld), none, none] ?_
  have nld : H ld = none := s1.free hld
  have hLl : LV.length = legs.length := by rw [R.len, List.length_map]
  have hdp : ∀ d, d ≠ -1->dropP P (-1) d = P d := fun d h => if_neg h
  refine ⟨_, rfl, a, rfl, ⟨_, SqL.of (Same.new hld _ _ (s1 _ _ ha))⟩, for_list (K := K) (a := a) (xs := LV) (fun i σ H2 => ∃ (v3 v4 : Option V) (lk : List (Key × V)) (L : Int->Option Int), σ = [some (.ref a), some (.ref pd), some (.ref ld), v3, v4] /\ Same H1 H2 /\ H2 ld = some (.dK lk) /\ lk.length ≤ i /\ NumAt lk L /\ IsLast (legs.take i) P L) ⟨none, none, [], _, rfl, Same.new hld, upd_same, Nat.le_refl _, NumAt.nil, IsLast.nil⟩ (fun i σ H2 _ ⟨_, _, _, _, _, s', _⟩ => SqL.of (s' _ _ (s1 _ _ ha))) ?_ ?_⟩
  · rintro i v σ H2 hi ⟨v3, v4, lk, L, rfl, s12, hlk, hll, NA, IL⟩
    have s2 := s1.trans s12
    have hil : i < legs.length := by have := (List.getElem?_eq_some_iff.mp hi).1; omega
    have eg : legs[i]? = some legs[i] := List.getElem?_eq_getElem hil
    generalize legs[i] = g at eg
    have hgm : g ∈ legs := List.mem_of_getElem? eg
    obtain ⟨b, rfl, hb⟩ := key_tup (R.get i v (legT g) hi (by rw [List.getElem?_map, eg]; rfl))
    have hb2 := s2 _ _ hb
    have tk : legs.take (i + 1) = legs.take i ++ [g] := by rw [List.take_add_one, eg]; rfl
    refine gNameA [some (.ref a), some (.ref pd), some (.ref ld), some (.ref b), v4] ?_
    have hto : g.to ≠ -1 := by have := (hok g hgm).1; omega
    refine ⟨_, rfl, _, rfl, b, _, _, V.int g.start, rfl, rfl, SqT.of hb2, rfl, pd, kvs, P, g.start, rfl, s12 _ _ hpd, PR.mono (fun t ys e => s12 t _ e), LP.zero, fun hn => ?_, fun p hp t H3 ht s3 => ?_⟩
    · refine gNameA [some (.ref a), some (.ref pd), some (.ref ld), some (.ref b), some .non] ?_
      refine ⟨_, rfl, rfl, _, rfl, iteF (iteF ⟨_, _, lk, L, rfl, s12, hlk, by omega, NA, ?_⟩)⟩
      rw [tk]
      exact IL.skip fun ⟨p, hp, _⟩ => by rw [hn] at hp; cases hp
    refine gNameA [some (.ref a), some (.ref pd), some (.ref ld), some (.ref b), some (.ref t)] ?_
    obtain ⟨q', hq', hle⟩ := LP.closed g hgm p hp
    have hb3 := s3 _ _ hb2
    refine ⟨_, rfl, rfl, _, rfl, iteT ⟨_, rfl, _, rfl, t, b, p, g, rfl, LP.pr _ _ hp, ht, hb3, fun u hu => ?_⟩⟩
    have s4 : Same H3 (upd H3 u (.tup ((overT p g).map V.int))) := Same.new hu
    have hu4 : upd H3 u (.tup ((overT p g).map V.int)) u = some (.tup ((overT p g).map V.int)) := upd_same
    generalize upd H3 u (.tup ((overT p g).map V.int)) = H4 at s4 hu4 ⊢
    have s14 := (s12.trans s3).trans s4
    have hb4 := s4 _ _ hb3
    have hlk4 := s4 _ _ (s3 _ _ hlk)
    have hv := (PR.mono fun t ys e => s14 t _ e).val g.to
    rw [hdp _ hto, hq'] at hv
    obtain ⟨qa, hqa, hqa'⟩ := hv.some_of
    refine ⟨_, rfl, _, rfl, b, _, _, V.int g.to, rfl, rfl, SqT.of hb4, rfl, pd, V.ref qa, rfl, .inl ⟨kvs, Sum.inl g.to, .inl (s14 _ _ hpd), rfl, hqa.symm⟩, 0, decide (overT p g = q'), by decide, SeqEq.intsT (SqT.of hu4) (SqT.of hqa'), _, rfl, ?_⟩
    by_cases he : overT p g = q'
    · rw [decide_eq_true he]
      have hA : Att P g := ⟨p, hp, by rw [hq', he]⟩
      have hval : (valV lk (Sum.inl g.to)).getD (V.int g.num) = V.int ((L g.to).getD g.num) := by rw [NA.val g.to]; cases L g.to <;> rfl
      refine iteT ⟨_, rfl, b, _, _, V.int g.num, rfl, rfl, SqT.of hb4, rfl, _, rfl, ld, rfl, .inl ⟨lk, .inl hlk4⟩, _, rfl, b, _, _, V.int g.to, rfl, rfl, SqT.of hb4, rfl, _, rfl, b, _, _, V.int g.num, rfl, rfl, SqT.of hb4, rfl, _, .inl ⟨lk, Sum.inl g.to, .inl hlk4, rfl, rfl⟩, g.num, (L g.to).getD g.num, by rw [hval], ?_⟩
      have hmn : (if (L g.to).getD g.num < g.num then (L g.to).getD g.num else g.num) = min g.num ((L g.to).getD g.num) := by split <;> omega
      rw [hmn]
      refine ⟨_, rfl, _, rfl, b, _, _, V.int g.to, rfl, rfl, SqT.of hb4, rfl, ld, _, rfl, DPut.k (k := Sum.inl g.to) hlk4 (small1000 (by omega)), ?_⟩
      refine ⟨_, _, _, _, rfl, fun b' o e => by rw [upd_ne (ne_of_none e hld)]; exact s14 b' o e, upd_same, by have := length_putK lk (Sum.inl g.to) (V.int (min g.num ((L g.to).getD g.num))); omega, NA.put g.to _, ?_⟩
      rw [tk]; exact IL.put hA
    · rw [decide_eq_false he]
      refine iteF ⟨_, _, lk, L, rfl, s14, hlk4, by omega, NA, ?_⟩
      rw [tk]
      exact IL.skip fun ⟨p', hp', h2⟩ => by rw [hp] at hp'; cases hp'; rw [hq'] at h2; exact he (Option.some.inj h2).symm
  · rintro σ H2 ⟨v3, v4, lk, L, rfl, s12, hlk, hll, NA, IL⟩
    rw [hLl, List.take_length] at IL
    exact ⟨_, rfl, q ld lk P L H2 hlk NA LP IL nld (by omega) (s1.trans s12)⟩
theorem ok__law_stream {f : Addr} {fd : FuncData} (F : Fun K "_law_stream" "_law_stream" s__law_stream f fd) (T : Txt K mg C_KeepError C_NoItem C_Heap)  : FnOk P w K mg base (CXx P w) 1 f fd ["_law_cell", "_law_many"] (sp_drawn) := by
  refine F.okX sc__law_stream (fun vs H Q E h => ?_) (fun cdv A outer s H vs Q E hr h => ?_)
  · obtain ⟨c, m, rfl, hm, q⟩ := h; rfl
  obtain ⟨c, m, rfl, hm, q⟩ := h
  refine ⟨_, (pss_cons (ps_set (i := 2) sc__law_stream.nd rfl (Or.inl rfl) (pe_lst pa_nil))
      (pss_cons (ps_set (i := 3) sc__law_stream.nd rfl (Or.inl rfl) (pe_op op_mod (pv 0) pe_int))
      (pss_cons (ps_for PassesOwn.leaving rfl (pi_range1 rfl T.b_range (pa_cons (pv 1) pa_nil)) (pg_name (i := 4) sc__law_stream.nd rfl (Or.inl rfl))
      (pss_cons (ps_set (i := 3) sc__law_stream.nd rfl (Or.inl rfl) (pe_op op_mod (pe_op op_add (pe_op op_add (pe_op op_add (pe_op op_mul (pv 3) (pv 3)) (pe_op op_mul pe_int (pv 3))) (pe_op op_mul pe_int (pv 4))) pe_int) pe_int))
      (pss_one (ps_expr (pe_bm PySem.F.plainAttrs_list PySem.F.slot_list_append PySem.F.type_list_append mt_append (pv 2) (pa_cons (pv 3) pa_nil))))))
      (pss_one (ps_ret (pv 2)))))), ?_⟩
  refine ⟨Nat.zero_le _, fun l hl => ?_⟩
  refine ⟨_, rfl, _, _, rfl, rfl, (by first | decide | (dsimp only; decide)), ?_⟩
  refine ⟨_, rfl, _, rfl, by omega, by omega, for_range (lo := 0) (n := (m : Int).toNat) (fun i σ H2 => ∃ (num : Int) (v4 : Option V) (xs : List Int), σ = [some (.int c), some (.int (m : Int)), some (.ref l), some (.int num), v4] /\ Same H H2 /\ H2 l = some (.lst (xs.map V.int)) /\ xs.length = i /\ (∀ x ∈ xs, 0 ≤ x /\ x < 2147483647) /\ 0 ≤ num /\ num < 2147531918)
    ⟨c % 2147483647, none, [], rfl, Same.new hl, upd_same, rfl, by simp, by omega, by omega⟩ ?_ ?_⟩
  · rintro i σ H2 hi ⟨num, v4, xs, rfl, s2, h2, hlx, hx, n0, n1⟩
    refine ⟨_, rfl, _, rfl, _, _, rfl, rfl, .inl ⟨by omega, by omega⟩, _, rfl, _, _, rfl, rfl, .inl ⟨by decide, by decide⟩, _, _, rfl, rfl, _, rfl, _, _, rfl, rfl, .inl ⟨by decide, by decide⟩, _, _, rfl, rfl, _, _, rfl, rfl, _, _, rfl, rfl, (by first | decide | (dsimp only; decide)), ?_⟩
    refine ⟨_, rfl, .inl ⟨rfl, _, SqL.of h2⟩, _, rfl, l, _, _, rfl, rfl, h2, (by rw [List.length_map]; exact small1000 (by omega)), ?_⟩
    have b0 := Int.emod_nonneg (num * num + 48271 * num + 7919 * (0 + (i : Int)) + 11) (show (2147483647 : Int) ≠ 0 by decide)
    have b1 := Int.emod_lt_of_pos (num * num + 48271 * num + 7919 * (0 + (i : Int)) + 11) (show (0 : Int) < 2147483647 by decide)
    refine ⟨_, _, xs ++ [(num * num + 48271 * num + 7919 * (0 + (i : Int)) + 11) % 2147483647], rfl, fun b o e => ?_, by rw [upd_same]; simp, by simp [hlx], ?_, b0, by omega⟩
    · rw [upd_ne (ne_of_none e hl)]; exact s2 b _ e
    · intro x hx'
      rcases List.mem_append.mp hx' with h | h
      · exact hx x h
      · have : x = (num * num + 48271 * num + 7919 * (0 + (i : Int)) + 11) % 2147483647 := by simpa using h
        rw [this]; exact ⟨b0, b1⟩
  · rintro σ H2 ⟨num, v4, xs, rfl, s2, h2, hlx, hx, n0, n1⟩
    exact ⟨_, rfl, q l xs H2 h2 hl (by omega) hx s2⟩
theorem ok_needed {f : Addr} {fd : FuncData} (F : Fun K "needed" "needed" s_needed f fd) (T : Txt K mg C_KeepError C_NoItem C_Heap) (D_last_legs : DefX P w K mg base "last_legs" 5 ["legs"] sp_last) : FnOk P w K mg base (CXx P w) 6 f fd ["legs", "wanted"] (sp_needed) := by
  refine F.okX sc_needed (fun vs H Q E h => ?_) (fun cdv A outer s H vs Q E hr h => ?_)
  · obtain ⟨a, wl, LV, legs, ws, rfl, ha, R, hL48, hwl, q⟩ := h; rfl
  obtain ⟨a, wl, LV, legs, ws, rfl, ha, R, hL48, hwl, q⟩ := h
  refine ⟨_, (pss_cons (ps_set (i := 2) sc_needed.nd rfl (Or.inl rfl) (pe_callS D_last_legs passesN (hr.mono (by decide)) rfl (pa_cons (pv 0) pa_nil)))
      (pss_cons (ps_set (i := 3) sc_needed.nd rfl (Or.inl rfl) (pe_callTy (call_dictP rfl) (by rfl) T.b_dict PyProof.Rows.boot_dict (pa_cons (pe_comp (N := ["leg"]) (k := 1) (cap := []) rfl rfl (pi_list (pv 0)) (fun _ _ _ _ => (pg_name (i := 0) (show (["leg"] : List Str).Nodup from by decide +kernel) rfl (Or.inl rfl) (.inr rfl))) (fun _ _ _ _ => pts_nil) (fun _ _ _ _ => (pe_tup (pa_cons (pe_ix (ix_tupK (K := K) rfl) (pv 0) pe_int (fun _ _ => rfl)) (pa_cons (pe_ix (ix_tupK (K := K) rfl) (pv 0) pe_int (fun _ _ => rfl)) pa_nil))))) pa_nil)))
      (pss_cons (ps_set (i := 4) sc_needed.nd rfl (Or.inl rfl) pe_dnewK)
      (pss_cons (ps_for PassesOwn.leaving rfl (pi_list (pv 1)) (pg_name (i := 5) sc_needed.nd rfl (Or.inl rfl))
      (pss_cons (ps_set (i := 6) sc_needed.nd rfl (Or.inl rfl) (pv 5))
      (pss_one (ps_while PassesOwn.leaving (PW.pt (pw_and (pt_cmp (pc_din (hu_of hr) (pv 6) (pv 2))) (pw_and1 (pt_cmp (pc_dnotin (hu_of hr) (pe_dget (hu_of hr) (pv 2) (pv 6) (fun _ _ => rfl)) (pv 4)))))) (pss_cons (ps_dput (hu_of hr) (pv 4) (pe_dget (hu_of hr) (pv 2) (pv 6) (fun _ _ => rfl)) pe_bl rfl)
      (pss_one (ps_set (i := 6) sc_needed.nd rfl (Or.inl rfl) (pe_dget (hu_of hr) (pv 3) (pe_dget (hu_of hr) (pv 2) (pv 6) (fun _ _ => rfl)) (fun _ _ => rfl)))))))))
      (pss_one (ps_ret (pe_callB (call_sortedD rfl) (by rfl) T.b_sorted PyProof.Rows.boot_sorted (pa_cons (pv 4) pa_nil)))))))), ?_⟩
  obtain ⟨hok, h60, hnod⟩ := hL48
  refine ⟨_, rfl, a, LV, legs, rfl, ha, R, hok, by omega, fun ld lk P L H1 hlk NA LP IL nld _ s1 => ?_⟩
  refine gNameA [some (.ref a), some (.ref wl), some (.ref ld), none, none, none, none] ?_
  have hLl : LV.length = legs.length := by rw [R.len, List.length_map]
  have N : Ned legs P L := ⟨hnod, hok, LP, IL⟩
  dsimp only
  have ha1 := s1 _ _ ha
  have R1 := R.mono fun t ys e => s1 t _ e
  refine ⟨_, rfl, a, rfl, ⟨_, SqL.of ha1⟩, fun D' hD' => ?_⟩
  refine comp_list D' (K := K) (a := a) (xs := LV) (fun i σ H5 ys => ∃ (v : Option V), σ = [v] /\ Same H1 H5 /\ H5 D' = some (.lst ys) /\ ys.length = i /\ ∀ (j : Nat) v, ys[j]? = some v->∃ t g, v = V.ref t /\ legs[j]? = some g /\ H5 t = some (.tup [V.int g.num, V.int g.start])) ⟨none, rfl, Same.new hD', upd_same, rfl, fun j v e => (by cases e)⟩ (fun i σ H5 ys _ ⟨_, _, s5, _⟩ => SqL.of (s5 _ _ ha1)) ?_ ?_
  · rintro i v σ H2 ys hi ⟨v0, rfl, s2, hD2, hyl, hys⟩
    have hil : i < legs.length := by have := (List.getElem?_eq_some_iff.mp hi).1; omega
    have eg : legs[i]? = some legs[i] := List.getElem?_eq_getElem hil
    generalize legs[i] = g at eg
    obtain ⟨b, rfl, hb⟩ := key_tup (R1.get i v (legT g) hi (by rw [List.getElem?_map, eg]; rfl))
    have hb2 := s2 _ _ hb
    refine ⟨_, rfl, b, _, _, V.int g.num, rfl, rfl, SqT.of hb2, rfl, _, rfl, b, _, _, V.int g.start, rfl, rfl, SqT.of hb2, rfl, (by show 2 ≤ sizeLine; decide), fun t ht => ?_⟩
    have ndt : D' ≠ t := ne_of_none hD2 ht
    refine ⟨Same.new ht _ _ hD2, by rw [hyl]; exact small1000 (by omega), some (.ref b), rfl, fun b' o e => by rw [upd_ne (ne_of_none e hD')]; exact Same.new ht b' o (s2 b' o e), upd_same, by simp [hyl], fun j w' ew => ?_⟩
    by_cases hj : j < ys.length
    · rw [List.getElem?_append_left hj] at ew
      obtain ⟨t', g', h1, h2, h3⟩ := hys j w' ew
      refine ⟨t', g', h1, h2, ?_⟩
      rw [upd_ne (ne_of h3 hD2 (by intro z; cases z))]; exact Same.new ht _ _ h3
    · have hjl := (List.getElem?_eq_some_iff.mp ew).1
      have : j = ys.length := by simp at hjl; omega
      subst this
      rw [List.getElem?_append_right (Nat.le_refl _)] at ew
      simp at ew
      subst ew
      exact ⟨t, g, rfl, by rw [hyl]; exact eg, by rw [upd_ne ndt.symm]; exact upd_same⟩
  rintro σ H2 ys ⟨v0, rfl, s2, hD2, hyl, hys⟩
  refine ⟨D', ys, legs.map (fun g => ((Sum.inl g.num : Key), V.int g.start)), rfl, hD2, by rw [List.length_map]; omega, fun j v e => ?_, fun sd hsd => ?_⟩
  · obtain ⟨t, g, h1, h2, h3⟩ := hys j v e
    exact ⟨t, Sum.inl g.num, V.int g.start, h1, h3, by rw [List.getElem?_map, h2]; rfl⟩
  have hmv := merge_val legs [] hnod
  have s3 : Same H2 (upd H2 sd (.dK (mergeK [] (legs.map fun g => ((Sum.inl g.num : Key), V.int g.start))))) := Same.new hsd
  have hsd3 : upd H2 sd (.dK (mergeK [] (legs.map fun g => ((Sum.inl g.num : Key), V.int g.start)))) sd = some (.dK (mergeK [] (legs.map fun g => ((Sum.inl g.num : Key), V.int g.start)))) := upd_same
  generalize upd H2 sd (.dK (mergeK [] (legs.map fun g => ((Sum.inl g.num : Key), V.int g.start)))) = H3 at s3 hsd3 ⊢
  generalize mergeK [] (legs.map fun g => ((Sum.inl g.num : Key), V.int g.start)) = sk at hsd3 hmv
  refine gNameA [some (.ref a), some (.ref wl), some (.ref ld), some (.ref sd), none, none, none] ?_
  dsimp only
  intro fd hfd
  refine gNameA [some (.ref a), some (.ref wl), some (.ref ld), some (.ref sd), some (.ref fd), none, none] ?_
  have s13 := s2.trans s3
  dsimp only
  have s4 : Same H3 (upd H3 fd (.dK [])) := Same.new hfd
  have hfd4 : upd H3 fd (.dK []) fd = some (.dK []) := upd_same
  generalize upd H3 fd (.dK []) = H4 at s4 hfd4 ⊢
  have nfd : H fd = none := s1.free (s13.free hfd)
  refine ⟨_, rfl, wl, rfl, ⟨_, SqL.of (s4 _ _ (s13 _ _ (s1 _ _ hwl)))⟩, for_list (K := K) (a := wl) (xs := ws.map V.int) (fun i σ H' => ∃ (v5 v6 : Option V) (fk : List (Key × V)), σ = [some (.ref a), some (.ref wl), some (.ref ld), some (.ref sd), some (.ref fd), v5, v6] /\ Same H3 H' /\ H' fd = some (.dK fk) /\ FoundAt fk (NeedS L legs (ws.take i))) ⟨none, none, [], rfl, s4, hfd4, ?_⟩ (fun i σ H' _ ⟨_, _, _, _, s5, _⟩ => SqL.of (s5 _ _ (s13 _ _ (s1 _ _ hwl)))) ?_ ?_⟩
  · exact ⟨List.nodup_nil, AllI.nil, fun i => ⟨(fun h => by cases h), fun ⟨g, ⟨d, hd, _⟩, _⟩ => by simp at hd⟩⟩
  · rintro i v σ H5 hi ⟨v5, v6, fk, rfl, s5, hfd5, FA⟩
    rw [List.getElem?_map] at hi
    obtain ⟨day, hday, rfl⟩ := Option.map_eq_some_iff.mp hi
    have tk : ∀ g, NeedS L legs (ws.take (i + 1)) g ↔ NeedS L legs (ws.take i) g ∨ OnCh L legs day g := fun g => by
      unfold NeedS
      rw [List.take_add_one, hday]
      simp [or_and_right, exists_or]
    refine gNameA [some (.ref a), some (.ref wl), some (.ref ld), some (.ref sd), some (.ref fd), some (.int day), v6] ?_
    refine ⟨_, rfl, ?_⟩
    refine gNameA [some (.ref a), some (.ref wl), some (.ref ld), some (.ref sd), some (.ref fd), some (.int day), some (.int day)] ?_
    dsimp only
    refine ⟨fun m σ H' => ∃ (t : Int) (fk : List (Key × V)) (F : Leg->Prop), σ = [some (.ref a), some (.ref wl), some (.ref ld), some (.ref sd), some (.ref fd), some (.int day), some (.int t)] /\ Same H3 H' /\ H' fd = some (.dK fk) /\ FoundAt fk F /\ (∀ g, F g->g ∈ legs) /\ (∀ g, NeedS L legs (ws.take i) g->F g) /\ (∀ g, (F g ∨ OnCh L legs t g) ↔ (NeedS L legs (ws.take i) g ∨ OnCh L legs day g)) /\ (∀ g, F g->NeedS L legs (ws.take i) g ∨ cntP P t < cntP P g.to) /\ m = cntP P t, ⟨_, day, fk, _, rfl, s5, hfd5, FA, fun g ⟨d, _, h⟩ => h.mem, fun g h => h, fun g => Iff.rfl, fun g h => .inl h, rfl⟩, ?_⟩
    clear hfd5 s5 FA fk
    rintro m σ H5 ⟨t, fk, F, rfl, s5, hfd5, FA, hFm, hF0, hiff, hcn, rfl⟩
    have hlk5 := s5 _ _ (s13 _ _ hlk)
    refine ⟨_, rfl, _, rfl, ld, _, rfl, .inl ⟨lk, Sum.inl t, .inl hlk5, rfl, rfl⟩, _, rfl, ?_⟩
    have hvt := NA.val t
    cases hLt : L t with
    | none =>
      rw [hLt] at hvt
      rw [hvt]
      refine iteF (iteF ⟨_, _, fk, rfl, s5, hfd5, ?_⟩)
      exact ⟨FA.nd, FA.alli, fun x => (FA.val x).trans ⟨fun ⟨g, h, e⟩ => ⟨g, (tk g).mpr ((hiff g).mp (.inl h)), e⟩, fun ⟨g, h, e⟩ => ⟨g, ((hiff g).mpr ((tk g).mp h)).elim id fun h' => absurd h' (OnCh.none_ hLt g), e⟩⟩⟩
    | some x =>
      rw [hLt] at hvt
      have hvx : valV lk (Sum.inl t) = some (V.int x) := hvt
      rw [hvx]
      obtain ⟨g, hg, rfl, hgt, _⟩ := N.leg hLt
      have hcg := N.cnt hg hLt
      refine iteT ⟨_, rfl, _, rfl, ld, V.int g.num, rfl, .inl ⟨lk, Sum.inl t, .inl hlk5, rfl, hvx.symm⟩, _, rfl, fd, _, rfl, .inl ⟨fk, Sum.inl g.num, .inl hfd5, rfl, rfl⟩, _, rfl, ?_⟩
      have hlen := FA.len hFm
      cases hv : valV fk (Sum.inl g.num) with
      | some y =>
        obtain ⟨g', hg', e'⟩ := (FA.val g.num).mp (by rw [hv]; rfl)
        have := nd_inj hnod (hFm g' hg') hg e'
        subst this
        have h0 : NeedS L legs (ws.take i) g' := (hcn g' hg').elim id fun h => by rw [hgt] at h; omega
        obtain ⟨d0, hd0, hon⟩ := h0
        have more : ∀ g'', OnCh L legs t g''->F g'' := fun g'' h => by
          rcases (OnCh.iff N hg hLt g'').mp h with rfl | h
          · exact hg'
          · exact hF0 g'' ⟨d0, hd0, hon.trans h⟩
        refine iteF ⟨_, _, fk, rfl, s5, hfd5, ?_⟩
        exact ⟨FA.nd, FA.alli, fun x => (FA.val x).trans ⟨fun ⟨g, h, e⟩ => ⟨g, (tk g).mpr ((hiff g).mp (.inl h)), e⟩, fun ⟨g, h, e⟩ => ⟨g, ((hiff g).mpr ((tk g).mp h)).elim id (more g), e⟩⟩⟩
      | none =>
        refine iteT ⟨_, fun σ' H' h => h, ?_⟩
        refine ⟨_, rfl, _, rfl, _, rfl, ld, V.int g.num, rfl, .inl ⟨lk, Sum.inl t, .inl hlk5, rfl, hvx.symm⟩, fd, _, rfl, DPut.k (k := Sum.inl g.num) hfd5 (small1000 (by omega)), ?_⟩
        have hne1 : ld ≠ fd := fun e => by rw [← e] at hfd; rw [s13 _ _ hlk] at hfd; cases hfd
        have hsd5 := s5 _ _ hsd3
        have hne2 : sd ≠ fd := fun e => by rw [← e] at hfd; rw [hsd3] at hfd; cases hfd
        refine ⟨_, rfl, _, rfl, _, rfl, ld, V.int g.num, rfl, .inl ⟨lk, Sum.inl t, .inl (by rw [upd_ne hne1]; exact hlk5), rfl, hvx.symm⟩, sd, V.int g.start, rfl, .inl ⟨sk, Sum.inl g.num, .inl (by rw [upd_ne hne2]; exact hsd5), rfl, (hmv g hg).symm⟩, ?_⟩
        refine ⟨cntP P g.start, hcg, g.start, _, fun g' => F g' ∨ g' = g, rfl, fun b' o e => by rw [upd_ne (ne_of_none e hfd)]; exact s5 b' o e, upd_same, ?_, ?_, ?_, ?_, ?_, rfl⟩
        · have := FA.put g.num (V.bl true)
          exact ⟨this.nd, this.alli, fun x => (this.val x).trans ⟨fun h => h.elim (fun ⟨g', h, e⟩ => ⟨g', .inl h, e⟩) fun e => ⟨g, .inr rfl, e.symm⟩, fun ⟨g', h, e⟩ => h.elim (fun h => .inl ⟨g', h, e⟩) fun h => .inr (by rw [← e, h])⟩⟩
        · exact fun g' h => h.elim (hFm g') fun e => by rw [e]; exact hg
        · exact fun g' h => .inl (hF0 g' h)
        · intro g'
          rw [← hiff g', OnCh.iff N hg hLt g', or_assoc]
        · exact fun g' h => h.elim (fun h => (hcn g' h).imp id fun h => by omega) fun e => .inr (by rw [e, hgt]; exact hcg)
  · rintro σ H5 ⟨v5, v6, fk, rfl, s5, hfd5, FA⟩
    rw [List.length_map, List.take_length] at FA
    obtain ⟨ns, hns⟩ := allI_ns FA.alli
    have hlen := FA.len (legs := legs) fun g ⟨d, _, h⟩ => h.mem
    have hnl := congrArg List.length hns
    rw [List.length_map, List.length_map] at hnl
    refine ⟨_, rfl, fd, fk, ns, rfl, hfd5, hns, by omega, fun l ns' hl hp hs => ?_⟩
    exact q P L l ns' _ N (FA.rise hns hp hs) upd_same ((s1.trans (s13.trans s5)).free hl) ((s1.trans (s13.trans s5)).trans (Same.new hl))
theorem ok__law_frame {f : Addr} {fd : FuncData} (F : Fun K "_law_frame" "_law_frame" s__law_frame f fd) (T : Txt K mg C_KeepError C_NoItem C_Heap) (D__law_stream : DefX P w K mg base "_law_stream" 1 ["_law_cell", "_law_many"] sp_drawn) : FnOk P w K mg base (CXx P w) 2 f fd ["_law_cell"] (sp_frame48) := by
  refine F.okX sc__law_frame (fun vs H Q E h => ?_) (fun cdv A outer s H vs Q E hr h => ?_)
  · obtain ⟨c, rfl, q⟩ := h; rfl
  obtain ⟨c, rfl, q⟩ := h
  refine ⟨_, (pss_cons (ps_set (i := 1) sc__law_frame.nd rfl (Or.inl rfl) (pe_callS D__law_stream passesN (hr.mono (by decide)) rfl (pa_cons (pv 0) (pa_cons pe_int pa_nil))))
      (pss_cons (ps_set (i := 2) sc__law_frame.nd rfl (Or.inl rfl) (pe_ix ix_list (pe_lst (pa_cons pe_int (pa_cons (pe_op op_add pe_int (pe_op op_mod (pe_ix ix_list (pv 1) pe_int (fun _ _ => rfl)) pe_int)) pa_nil))) (pe_op op_mod (pe_ix ix_list (pv 1) pe_int (fun _ _ => rfl)) pe_int) (fun _ _ => rfl)))
      (pss_one (ps_ret (pe_lst (pa_cons (pe_ix ix_list (pe_lst (pa_cons pe_int (pa_cons pe_int pa_nil))) (pe_callTy call_int_bl (by rfl) T.b_int PyProof.Rows.boot_int (pa_cons (pe_cmpR op_eq (pe_op op_mod (pe_ix ix_list (pv 1) pe_int (fun _ _ => rfl)) pe_int) pe_int (nomark _)) pa_nil)) (fun _ _ => rfl)) (pa_cons (pv 2) (pa_cons (pe_op op_mod (pe_ix ix_list (pv 1) pe_int (fun _ _ => rfl)) pe_int) (pa_cons (pe_ix ix_list (pe_lst (pa_cons pe_int (pa_cons (pe_op op_add pe_int (pe_op op_mod (pe_ix ix_list (pv 1) pe_int (fun _ _ => rfl)) pe_int)) pa_nil))) (pe_op op_mod (pe_ix ix_list (pv 1) pe_int (fun _ _ => rfl)) pe_int) (fun _ _ => rfl)) pa_nil))))))))), ?_⟩
  refine ⟨_, rfl, c, 5, rfl, by omega, fun xl xs H1 hxl nxl hxn hx s1 => ?_⟩
  refine gNameA [some (.int c), some (.ref xl), none] ?_
  obtain ⟨x0, x1, x2, x3, x4, rfl⟩ : ∃ x0 x1 x2 x3 x4, xs = [x0, x1, x2, x3, x4] := by
    match xs, hxn with
    | [x0, x1, x2, x3, x4], _ => exact ⟨x0, x1, x2, x3, x4, rfl⟩
  dsimp only
  refine ⟨_, rfl, xl, _, _, V.int x1, rfl, rfl, SqL.of hxl, rfl, _, _, rfl, rfl, (by first | decide | (dsimp only; decide)), _, _, rfl, rfl, (by show 2 ≤ sizeLine; decide), fun l1 hl1 => ?_⟩
  refine ⟨_, rfl, xl, _, _, V.int x0, rfl, rfl, SqL.of (Same.new hl1 _ _ hxl), rfl, _, _, rfl, rfl, (by first | decide | (dsimp only; decide)), l1, _, _, V.int (if x0 % 2 = 0 then 1 else 1 + x1 % 80000000), rfl, rfl, SqL.of upd_same, ?_, ?_⟩
  · exact (pick2 _ _ (by omega) (by omega)).trans (by split <;> rfl)
  refine gNameA [some (.int c), some (.ref xl), some (.int (if x0 % 2 = 0 then 1 else 1 + x1 % 80000000))] ?_
  have s2 : Same H1 (upd H1 l1 (.lst [V.int 1, V.int (1 + x1 % 80000000)])) := Same.new hl1
  generalize upd H1 l1 (.lst [V.int 1, V.int (1 + x1 % 80000000)]) = H2 at s2 ⊢
  dsimp only
  refine ⟨(by show 2 ≤ sizeLine; decide), fun l2 hl2 => ?_⟩
  have s3 : Same H2 (upd H2 l2 (.lst [V.int 12, V.int 4])) := Same.new hl2
  have hl23 : upd H2 l2 (.lst [V.int 12, V.int 4]) l2 = some (.lst [V.int 12, V.int 4]) := upd_same
  generalize upd H2 l2 (.lst [V.int 12, V.int 4]) = H3 at s3 hl23 ⊢
  have hxl3 := s3 _ _ (s2 _ _ hxl)
  refine ⟨_, rfl, xl, _, _, V.int x0, rfl, rfl, SqL.of hxl3, rfl, _, _, rfl, rfl, (by first | decide | (dsimp only; decide)), rfl, _, rfl, l2, _, _, V.int (if x0 % 5 = 4 then 4 else 12), rfl, rfl, SqL.of hl23, ?_, ?_⟩
  · by_cases h : x0 % 5 = 4
    · simp [h]; rfl
    · simp [h]; rfl
  refine ⟨_, rfl, _, rfl, xl, _, _, V.int x2, rfl, rfl, SqL.of hxl3, rfl, _, _, rfl, rfl, (by first | decide | (dsimp only; decide)), ?_⟩
  refine ⟨_, rfl, xl, _, _, V.int x3, rfl, rfl, SqL.of hxl3, rfl, _, _, rfl, rfl, (by first | decide | (dsimp only; decide)), _, _, rfl, rfl, (by show 2 ≤ sizeLine; decide), fun l3 hl3 => ?_⟩
  refine ⟨_, rfl, xl, _, _, V.int x4, rfl, rfl, SqL.of (Same.new hl3 _ _ hxl3), rfl, _, _, rfl, rfl, (by first | decide | (dsimp only; decide)), l3, _, _, V.int (if x4 % 2 = 0 then 1 else 1 + x3 % 9000000), rfl, rfl, SqL.of upd_same, ?_, ?_⟩
  · exact (pick2 _ _ (by omega) (by omega)).trans (by split <;> rfl)
  have s4 : Same H3 (upd H3 l3 (.lst [V.int 1, V.int (1 + x3 % 9000000)])) := Same.new hl3
  generalize upd H3 l3 (.lst [V.int 1, V.int (1 + x3 % 9000000)]) = H4 at s4 ⊢
  have s14 := (s1.trans (s2.trans s3)).trans s4
  refine ⟨(by show 4 ≤ sizeLine; decide), fun l4 hl4 => ?_⟩
  refine q l4 [if x0 % 5 = 4 then 4 else 12, if x0 % 2 = 0 then 1 else 1 + x1 % 80000000, x2 % 101, if x4 % 2 = 0 then 1 else 1 + x3 % 9000000] _ ⟨_, _, _, _, rfl, ?_, ?_, ?_, ?_, by omega, by omega, ?_, ?_⟩ upd_same (s14.free hl4) (s14.trans (Same.new hl4))
  all_goals (split <;> omega)
theorem ok__law_legs {f : Addr} {fd : FuncData} (F : Fun K "_law_legs" "_law_legs" s__law_legs f fd) (T : Txt K mg C_KeepError C_NoItem C_Heap) (D__law_stream : DefX P w K mg base "_law_stream" 1 ["_law_cell", "_law_many"] sp_drawn) : FnOk P w K mg base (CXx P w) 2 f fd ["_law_some", "_law_frame_here"] (sp_legs48) := by
  refine F.okX sc__law_legs (fun vs H Q E h => ?_) (fun cdv A outer s H vs Q E hr h => ?_)
  · obtain ⟨sl, fl, ns, fr, rfl, hsl, hns, hfr, hfl, q⟩ := h; rfl
  obtain ⟨sl, fl, ns, fr, rfl, hsl, hns, hfr, hfl, q⟩ := h
  refine ⟨_, (pss_cons (ps_set (i := 2) sc__law_legs.nd rfl (Or.inl rfl) (pe_lst pa_nil))
      (pss_cons (ps_for PassesOwn.leaving rfl (pi_range1 rfl T.b_range (pa_cons (pe_callB call_len_seq (by rfl) T.b_len PySem.boot_len (pa_cons (pv 0) pa_nil)) pa_nil)) (pg_name (i := 3) sc__law_legs.nd rfl (Or.inl rfl))
      (pss_cons (ps_set (i := 4) sc__law_legs.nd rfl (Or.inl rfl) (pe_callS D__law_stream passesN (hr.mono (by decide)) rfl (pa_cons (pe_ix ix_list (pv 0) (pv 3) (fun _ _ => rfl)) (pa_cons pe_int pa_nil))))
      (pss_cons (ps_set (i := 5) sc__law_legs.nd rfl (Or.inl rfl) (pe_op op_mod (pe_ix ix_list (pv 4) pe_int (fun _ _ => rfl)) (pe_ix ix_list (pv 1) pe_int (fun _ _ => rfl))))
      (pss_cons (ps_set (i := 6) sc__law_legs.nd rfl (Or.inl rfl) (pe_op op_sub (pe_op op_mod (pe_ix ix_list (pv 4) pe_int (fun _ _ => rfl)) (pe_op op_add (pe_ix ix_list (pv 1) pe_int (fun _ _ => rfl)) pe_int)) pe_int))
      (pss_cons (ps_if (pt_cmpR op_eq (pe_op op_mod (pe_ix ix_list (pv 4) pe_int (fun _ _ => rfl)) pe_int) pe_int (nomark _)) (pss_one (ps_set (i := 6) sc__law_legs.nd rfl (Or.inl rfl) (pe_op op_sub (pv 5) pe_int))) pss_nil)
      (pss_cons (ps_if (pt_cmpR op_eq (pv 6) (pv 5) (nomark _)) (pss_one (ps_set (i := 6) sc__law_legs.nd rfl (Or.inl rfl) (pe_un un_neg pe_int))) pss_nil)
      (pss_cons (ps_if (pt_cmpR op_ge (pv 6) pe_int (nomark _)) (pss_one (ps_set (i := 6) sc__law_legs.nd rfl (Or.inl rfl) (pe_op op_mul (pv 6) (pe_ix ix_list (pv 1) pe_int (fun _ _ => rfl))))) pss_nil)
      (pss_cons (ps_set (i := 7) sc__law_legs.nd rfl (Or.inl rfl) (pe_op op_mul (pe_op op_mod (pe_op op_add (pe_op op_mul (pv 3) pe_int) (pe_ix ix_list (pv 1) pe_int (fun _ _ => rfl))) pe_int) (pe_ix ix_list (pv 1) pe_int (fun _ _ => rfl))))
      (pss_cons (ps_set (i := 8) sc__law_legs.nd rfl (Or.inl rfl) (pe_op op_add (pe_op op_mul (pe_op op_mul (pe_op op_mul (pe_ix ix_list (pv 4) pe_int (fun _ _ => rfl)) pe_int) pe_int) pe_int) (pe_ix ix_list (pv 4) pe_int (fun _ _ => rfl))))
      (pss_cons (ps_set (i := 9) sc__law_legs.nd rfl (Or.inl rfl) (pe_ix ix_list (pe_lst (pa_cons pe_int (pa_cons (pe_op op_mod (pe_ix ix_list (pv 4) pe_int (fun _ _ => rfl)) pe_int) (pa_cons (pe_op op_mod (pe_ix ix_list (pv 4) pe_int (fun _ _ => rfl)) pe_int) (pa_cons (pe_op op_mod (pv 8) (pe_op op_add (pe_powc (n := 1000000000000000000000000000000)) pe_int)) pa_nil))))) (pe_op op_mod (pe_ix ix_list (pv 4) pe_int (fun _ _ => rfl)) pe_int) (fun _ _ => rfl)))
      (pss_one (ps_expr (pe_bm PySem.F.plainAttrs_list PySem.F.slot_list_append PySem.F.type_list_append mt_append (pv 2) (pa_cons (pe_tup (pa_cons (pv 7) (pa_cons (pv 6) (pa_cons (pe_op op_mul (pv 5) (pe_ix ix_list (pv 1) pe_int (fun _ _ => rfl))) (pa_cons (pe_callTy call_int_bl (by rfl) T.b_int PyProof.Rows.boot_int (pa_cons (pe_cmpR op_eq (pe_op op_mod (pe_ix ix_list (pv 4) pe_int (fun _ _ => rfl)) pe_int) pe_int (nomark _)) pa_nil)) (pa_cons (pv 9) pa_nil)))))) pa_nil))))))))))))))
      (pss_one (ps_ret (pv 2))))), ?_⟩
  obtain ⟨n, far, off, mul, rfl, hn4, hn12, hf1, hf8, ho0, ho1, hm1, hm9⟩ := hfr
  refine ⟨Nat.zero_le _, fun lg hlg => ?_⟩
  have s0 : Same H (upd H lg (.lst [])) := Same.new hlg
  have hlg0 : upd H lg (.lst []) lg = some (.lst []) := upd_same
  generalize upd H lg (.lst []) = H0 at s0 hlg0 ⊢
  refine gNameA [some (.ref sl), some (.ref fl), some (.ref lg), none, none, none, none, none, none, none] ?_
  dsimp only
  have hnl : (ns.map V.int).length = ns.length := List.length_map _
  refine ⟨_, rfl, sl, _, rfl, .inl (SqL.of (s0 _ _ hsl)), _, rfl, by omega, by omega, for_range (lo := 0) (n := ((ns.map V.int).length : Int).toNat) (fun i σ H' => ∃ (v3 v4 v5 v6 v7 v8 v9 : Option V) (LV : List V) (legs : List Leg), σ = [some (.ref sl), some (.ref fl), some (.ref lg), v3, v4, v5, v6, v7, v8, v9] /\ Same H H' /\ H' lg = some (.lst LV) /\ KeysAt true H' LV (legs.map legT) /\ (∀ g ∈ legs, LegOk g) /\ legs.map Leg.num = (List.range i).map (fun j : Nat => (((j : Int) * 29 + off) % 101) * mul)) ⟨none, none, none, none, none, none, none, [], [], rfl, s0, hlg0, KeysAt.nil, fun g h => (by cases h), rfl⟩ ?_ ?_⟩
  · rintro i σ H2 hi ⟨v3, v4, v5, v6, v7, v8, v9, LV, legs, rfl, s2, hlg2, R2, hok2, hnum2⟩
    have hi' : i < ns.length := by omega
    have e1 : (ns.map V.int)[i]? = some (V.int (ns.getD i 0)) := by simp [hi']
    have hln : legs.length = i := by have := congrArg List.length hnum2; simpa using this
    refine gNameA [some (.ref sl), some (.ref fl), some (.ref lg), some (.int (0 + (i : Int))), v4, v5, v6, v7, v8, v9] ?_
    dsimp only
    refine ⟨_, rfl, _, rfl, sl, _, _, V.int (ns.getD i 0), rfl, rfl, SqL.of (s2 _ _ hsl), (by rw [Int.zero_add]; exact atI_nat e1), ns.getD i 0, 9, rfl, by omega, fun xl xs H3 hxl nxl hxn hx s3 => ?_⟩
    obtain ⟨x0, x1, x2, x3, x4, x5, x6, x7, x8, rfl⟩ : ∃ x0 x1 x2 x3 x4 x5 x6 x7 x8, xs = [x0, x1, x2, x3, x4, x5, x6, x7, x8] := by
      match xs, hxn with
      | [x0, x1, x2, x3, x4, x5, x6, x7, x8], _ => exact ⟨x0, x1, x2, x3, x4, x5, x6, x7, x8, rfl⟩
    have b5 := hx x5 (by simp)
    have hfl3 := s3 _ _ (s2 _ _ hfl)
    refine gNameA [some (.ref sl), some (.ref fl), some (.ref lg), some (.int (0 + (i : Int))), some (.ref xl), v5, v6, v7, v8, v9] ?_
    dsimp only
    refine ⟨_, rfl, xl, _, _, V.int x0, rfl, rfl, SqL.of hxl, rfl, _, rfl, fl, _, _, V.int n, rfl, rfl, SqL.of hfl3, rfl, _, _, rfl, rfl, (by show (0 : Int) < n; omega), ?_⟩
    have hd0 := Int.emod_nonneg x0 (show n ≠ 0 by omega)
    have hd1 := Int.emod_lt_of_pos x0 (show 0 < n by omega)
    refine gNameA [some (.ref sl), some (.ref fl), some (.ref lg), some (.int (0 + (i : Int))), some (.ref xl), some (.int (x0 % n)), v6, v7, v8, v9] ?_
    generalize x0 % n = day at hd0 hd1 ⊢
    dsimp only
    refine ⟨_, rfl, xl, _, _, V.int x1, rfl, rfl, SqL.of hxl, rfl, _, rfl, fl, _, _, V.int n, rfl, rfl, SqL.of hfl3, rfl, _, _, rfl, rfl, _, _, rfl, rfl, (by show (0 : Int) < n + 1; omega), _, _, rfl, rfl, ?_⟩
    refine gNameA [some (.ref sl), some (.ref fl), some (.ref lg), some (.int (0 + (i : Int))), some (.ref xl), some (.int day), some (.int (x1 % (n + 1) - 1)), v7, v8, v9] ?_
    generalize x1 % (n + 1) - 1 = st0
    dsimp only
    refine cutA (fun σ' H' => ∃ st : Int, σ' = [some (.ref sl), some (.ref fl), some (.ref lg), some (.int (0 + (i : Int))), some (.ref xl), some (.int day), some (.int st), v7, v8, v9] /\ H3 = H') (fun N hN => ?_) ?_
    · refine ⟨_, rfl, xl, _, _, V.int x2, rfl, rfl, SqL.of hxl, rfl, _, _, rfl, rfl, (by first | decide | (dsimp only; decide)), rfl, _, rfl, ?_⟩
      refine ite2 (fun h => ?_) (fun h => ?_)
      · exact ⟨_, rfl, _, _, rfl, rfl, hN _ _ ⟨_, rfl, rfl⟩⟩
      · exact hN _ _ ⟨_, rfl, rfl⟩
    clear st0
    rintro σ _ ⟨st0, rfl, rfl⟩
    refine cutA (fun σ' H' => ∃ st : Int, σ' = [some (.ref sl), some (.ref fl), some (.ref lg), some (.int (0 + (i : Int))), some (.ref xl), some (.int day), some (.int st), v7, v8, v9] /\ H3 = H') (fun N hN => ?_) ?_
    · refine ⟨_, rfl, _, rfl, rfl, _, rfl, ?_⟩
      refine ite2 (fun h => ?_) (fun h => ?_)
      · exact ⟨_, rfl, hN _ _ ⟨-1, rfl, rfl⟩⟩
      · exact hN _ _ ⟨_, rfl, rfl⟩
    clear st0
    rintro σ _ ⟨st0, rfl, rfl⟩
    refine cutA (fun σ' H' => ∃ st : Int, σ' = [some (.ref sl), some (.ref fl), some (.ref lg), some (.int (0 + (i : Int))), some (.ref xl), some (.int day), some (.int st), v7, v8, v9] /\ H3 = H') (fun N hN => ?_) ?_
    · refine ⟨_, rfl, _, _, rfl, rfl, _, rfl, ?_⟩
      refine ite2 (fun h => ?_) (fun h => ?_)
      · exact ⟨_, rfl, _, rfl, fl, _, _, V.int far, rfl, rfl, SqL.of hfl3, rfl, _, _, rfl, rfl, .inr ⟨by omega, by omega⟩, hN _ _ ⟨_, rfl, rfl⟩⟩
      · exact hN _ _ ⟨_, rfl, rfl⟩
    clear st0
    rintro σ _ ⟨st, rfl, rfl⟩
    refine ⟨_, rfl, _, _, rfl, rfl, .inr ⟨by decide, by decide⟩, _, rfl, fl, _, _, V.int off, rfl, rfl, SqL.of hfl3, rfl, _, _, rfl, rfl, _, _, rfl, rfl, (by first | decide | (dsimp only; decide)), _, rfl, fl, _, _, V.int mul, rfl, rfl, SqL.of hfl3, rfl, _, _, rfl, rfl, .inr ⟨by omega, by omega⟩, ?_⟩
    obtain ⟨num, hnum⟩ : ∃ num, ((0 + (i : Int)) * 29 + off) % 101 * mul = num := ⟨_, rfl⟩
    refine gNameA [some (.ref sl), some (.ref fl), some (.ref lg), some (.int (0 + (i : Int))), some (.ref xl), some (.int day), some (.int st), some (.int num), v8, v9] ?_ (by show [_, _, _, _, _, _, _, some (V.int (((0 + (i : Int)) * 29 + off) % 101 * mul)), _, _] = _; rw [hnum])
    dsimp only
    refine ⟨_, rfl, xl, _, _, V.int x3, rfl, rfl, SqL.of hxl, rfl, _, _, rfl, rfl, .inr ⟨by decide, by decide⟩, _, _, rfl, rfl, .inr ⟨by decide, by decide⟩, _, _, rfl, rfl, .inr ⟨by decide, by decide⟩, _, rfl, xl, _, _, V.int x4, rfl, rfl, SqL.of hxl, rfl, _, _, rfl, rfl, ?_⟩
    refine gNameA [some (.ref sl), some (.ref fl), some (.ref lg), some (.int (0 + (i : Int))), some (.ref xl), some (.int day), some (.int st), some (.int num), some (.int (x3 * 8589934592 * 8589934592 * 8589934592 + x4)), v9] ?_
    generalize x3 * 8589934592 * 8589934592 * 8589934592 + x4 = gr
    dsimp only
    refine ⟨_, rfl, xl, _, _, V.int x5, rfl, rfl, SqL.of hxl, rfl, _, _, rfl, rfl, (by first | decide | (dsimp only; decide)), _, rfl, xl, _, _, V.int x5, rfl, rfl, SqL.of hxl, rfl, _, _, rfl, rfl, (by first | decide | (dsimp only; decide)), _, rfl, _, _, rfl, rfl, _, _, rfl, rfl, (by first | decide | (dsimp only; decide)), (by show 4 ≤ sizeLine; decide), fun z hz => ?_⟩
    have hgr := Int.emod_nonneg gr (show (1000000000000000000000000000000 : Int) + 1 ≠ 0 by decide)
    have s4 : Same H3 (upd H3 z (.lst [V.int 0, V.int (x5 % 4), V.int (x5 % 4), V.int (gr % (1000000000000000000000000000000 + 1))])) := Same.new hz
    have hz4 : upd H3 z (.lst [V.int 0, V.int (x5 % 4), V.int (x5 % 4), V.int (gr % (1000000000000000000000000000000 + 1))]) z = some (.lst [V.int 0, V.int (x5 % 4), V.int (x5 % 4), V.int (gr % (1000000000000000000000000000000 + 1))]) := upd_same
    generalize upd H3 z (.lst [V.int 0, V.int (x5 % 4), V.int (x5 % 4), V.int (gr % (1000000000000000000000000000000 + 1))]) = H4 at s4 hz4 ⊢
    have hxl4 := s4 _ _ hxl
    obtain ⟨cost, hcost, hcost0⟩ := four_of (a := 0) (b := x5 % 4) (c := x5 % 4) (d := gr % (1000000000000000000000000000000 + 1)) (k := x6 % 4) (by omega) (by omega) (by omega) (by omega) (by omega) hgr
    refine ⟨_, rfl, xl, _, _, V.int x6, rfl, rfl, SqL.of hxl4, rfl, _, _, rfl, rfl, (by first | decide | (dsimp only; decide)), z, _, _, V.int cost, rfl, rfl, SqL.of hz4, hcost, ?_⟩
    refine gNameA [some (.ref sl), some (.ref fl), some (.ref lg), some (.int (0 + (i : Int))), some (.ref xl), some (.int day), some (.int st), some (.int num), some (.int gr), some (.int cost)] ?_
    dsimp only
    have s24 := s3.trans s4
    have hlg4 := s24 _ _ hlg2
    have hfl4 := s4 _ _ hfl3
    refine ⟨_, rfl, .inl ⟨rfl, _, SqL.of hlg4⟩, _, rfl, _, rfl, _, rfl, _, rfl, fl, _, _, V.int far, rfl, rfl, SqL.of hfl4, rfl, _, _, rfl, rfl, .inr ⟨by omega, by omega⟩, _, rfl, xl, _, _, V.int x7, rfl, rfl, SqL.of hxl4, rfl, _, _, rfl, rfl, (by first | decide | (dsimp only; decide)), rfl, _, rfl, _, rfl, (by show 5 ≤ sizeLine; decide), fun t ht => ?_⟩
    have hday0 : 0 ≤ day * far := Int.mul_nonneg hd0 (by omega)
    dsimp only
    generalize day * far = to_ at hday0 ⊢
    generalize hbad : (if decide (V.int (x7 % 4) = V.int 0) = true then (1 : Int) else 0) = bad
    have hbad0 : 0 ≤ bad := by rw [← hbad]; split <;> omega
    have s5 : Same H4 (upd H4 t (.tup [V.int num, V.int st, V.int to_, V.int bad, V.int cost])) := Same.new ht
    have ht5 : upd H4 t (.tup [V.int num, V.int st, V.int to_, V.int bad, V.int cost]) t = some (.tup ((legT ⟨num, st, to_, bad, cost⟩).map V.int)) := upd_same
    generalize upd H4 t (.tup [V.int num, V.int st, V.int to_, V.int bad, V.int cost]) = H5 at s5 ht5 ⊢
    have hlg5 := s5 _ _ hlg4
    have s25 := s24.trans s5
    have tk : ∀ t' ys, H5 t' = some (.tup ys)->upd H5 lg (.lst (LV ++ [.ref t])) t' = some (.tup ys) := fun t' ys e => by rw [upd_ne (ne_of e hlg5 (by intro z; cases z))]; exact e
    refine ⟨lg, LV, _, rfl, rfl, hlg5, by rw [R2.len, List.length_map, hln]; exact small1000 (by omega), _, _, _, _, _, _, _, _, legs ++ [⟨num, st, to_, bad, cost⟩], rfl, fun b o e => ?_, upd_same, ?_, fun g' h => ?_, ?_⟩
    · rw [upd_ne (ne_of_none e hlg)]; exact s25 b o (s2 b o e)
    · rw [List.map_append]
      exact ((R2.mono fun t' ys e => s25 t' _ e).snoc (ks := legT ⟨num, st, to_, bad, cost⟩) ⟨t, rfl, ht5⟩).mono tk
    · rcases List.mem_append.mp h with h | h
      · exact hok2 g' h
      · rw [List.mem_singleton.mp h]; exact ⟨hday0, hbad0, hcost0⟩
    · rw [List.map_append, hnum2, List.range_succ, List.map_append]
      congr 1
      show [num] = [((i : Int) * 29 + off) % 101 * mul]
      rw [← hnum, Int.zero_add]
  · rintro σ H3 ⟨v3, v4, v5, v6, v7, v8, v9, LV, legs, rfl, s3, hlg3, R3, hok3, hnum3⟩
    have hln := congrArg List.length hnum3
    simp only [List.length_map, List.length_range] at hln
    refine ⟨_, rfl, q lg LV legs H3 hlg3 R3 ⟨hok3, by omega, ?_⟩ hlg s3⟩
    rw [hnum3]
    refine nd_mapR (fun x y hx hy e => ?_)
    have e' := Int.eq_of_mul_eq_mul_right (show mul ≠ 0 by omega) e
    omega
theorem ok__law_wanted {f : Addr} {fd : FuncData} (F : Fun K "_law_wanted" "_law_wanted" s__law_wanted f fd) (T : Txt K mg C_KeepError C_NoItem C_Heap) (D__law_stream : DefX P w K mg base "_law_stream" 1 ["_law_cell", "_law_many"] sp_drawn) : FnOk P w K mg base (CXx P w) 2 f fd ["_law_cell", "_law_frame_here"] (sp_want48) := by
  refine F.okX sc__law_wanted (fun vs H Q E h => ?_) (fun cdv A outer s H vs Q E hr h => ?_)
  · obtain ⟨c, fl, fr, rfl, hfr, hfl, q⟩ := h; rfl
  obtain ⟨c, fl, fr, rfl, hfr, hfl, q⟩ := h
  refine ⟨_, (pss_cons (ps_set (i := 2) sc__law_wanted.nd rfl (Or.inr rfl) (pe_callS D__law_stream passesN (hr.mono (by decide)) rfl (pa_cons (pv 0) (pa_cons pe_int pa_nil))))
      (pss_cons (ps_setComp (i := 3) sc__law_wanted.nd rfl (Or.inl rfl) (N := ["_law_k", "_law_frame_here", "_law_xs"]) (k := 1) (cap := [1, 2]) rfl rfl (pi_range1 rfl T.b_range (pa_cons (pe_op op_mod (pe_ix ix_list (pv 2) pe_int (fun _ _ => rfl)) pe_int) pa_nil)) (fun _ _ _ _ => (pg_name (i := 0) (show (["_law_k", "_law_frame_here", "_law_xs"] : List Str).Nodup from by decide +kernel) rfl (Or.inl rfl) (.inr rfl))) (fun _ _ _ _ => pts_nil) (fun _ _ _ _ => (pe_op op_mul (pe_op op_mod (pe_ix (ix_listK (K := K) rfl) (pv 2) (pe_op op_add pe_int (pv 0)) (fun _ _ => rfl)) pe_int) (pe_ix (ix_listK (K := K) rfl) (pv 1) pe_int (fun _ _ => rfl)))))
      (pss_cons (ps_if (pt_cmpR op_eq (pe_op op_mod (pe_ix ix_list (pv 2) pe_int (fun _ _ => rfl)) pe_int) pe_int (nomark _)) (pss_one (ps_set (i := 3) sc__law_wanted.nd rfl (Or.inl rfl) (pe_op op_cat (pv 3) (pe_slice sl_list (pv 3) po_none (po_some pe_int))))) pss_nil)
      (pss_one (ps_ret (pv 3)))))), ?_⟩
  refine ⟨_, rfl, c, 9, rfl, by omega, fun xl xs H1 hxl nxl hxn hx s1 => ?_⟩
  refine gNameA [some (.int c), some (.ref fl), some (.ref xl), none] ?_
  dsimp only
  obtain ⟨n, far, off, mul, rfl, hn4, hn12, hf1, hf8, ho0, ho1, hm1, hm9⟩ := hfr
  have pick : ∀ i : Int, 0 ≤ i->i < 9->∃ y, atI (xs.map V.int) i = some (V.int y) /\ y ∈ xs := fun i h0 h9 => ints_at (ds := xs) h0 (by rw [hxn]; exact h9)
  obtain ⟨x0, hx0, hm0⟩ := pick 0 (by omega) (by omega)
  have b0 := hx x0 hm0
  refine ⟨_, rfl, xl, _, _, V.int x0, rfl, rfl, SqL.of hxl, hx0, _, _, rfl, rfl, (by first | decide | (dsimp only; decide)), _, rfl, by omega, by omega, fun D' hD' => ?_⟩
  refine comp_range (lo := 0) (n := (x0 % 7).toNat) D' (fun i σ H2 ys => ∃ (v : Option V) (ws : List Int), σ = [v, some (.ref fl), some (.ref xl)] /\ Same H1 H2 /\ H2 D' = some (.lst ys) /\ ys = ws.map V.int /\ ws.length = i /\ ∀ d ∈ ws, 0 ≤ d) ⟨none, [], rfl, Same.new hD', upd_same, rfl, rfl, fun d h => (by cases h)⟩ ?_ ?_
  · rintro i σ H2 ys hi ⟨v, ws, rfl, s2, h2, rfl, hwn, hw0⟩
    obtain ⟨y, hy, hym⟩ := pick (2 + (0 + (i : Int))) (by omega) (by omega)
    have by0 := hx y hym
    have e0 : 0 ≤ y % 13 * far := Int.mul_nonneg (by omega) (by omega)
    refine ⟨_, rfl, _, rfl, _, _, rfl, rfl, xl, _, _, V.int y, rfl, rfl, SqL.of (s2 _ _ hxl), hy, _, _, rfl, rfl, (by first | decide | (dsimp only; decide)), _, rfl, fl, _, _, V.int far, rfl, rfl, SqL.of (s2 _ _ (s1 _ _ hfl)), rfl, _, _, rfl, rfl, .inl ⟨by omega, by omega⟩, h2, by rw [List.length_map]; exact small1000 (by omega), _, ws ++ [y % 13 * far], rfl, fun b o e => ?_, upd_same, by simp, by simp [hwn], fun d hd => ?_⟩
    · rw [upd_ne (ne_of_none e hD')]; exact s2 b o e
    · rcases List.mem_append.mp hd with h | h
      · exact hw0 d h
      · rw [List.mem_singleton.mp h]; exact e0
  rintro σ H2 ys ⟨v, ws, rfl, s2, h2, rfl, hwn, hw0⟩
  refine gNameA [some (.int c), some (.ref fl), some (.ref xl), some (.ref D')] ?_
  dsimp only
  obtain ⟨x1, hx1, hm1'⟩ := pick 1 (by omega) (by omega)
  have hxl2 := s2 _ _ hxl
  have test : ∀ Qb : Bool->Hp->Prop, Qb (decide (x1 % 2 = 0)) H2->(tTest (tOp rEq (tOp (rI (fun x j => 0 < j) fun i j => V.int (i % j)) (tOp (rIxL K) (tVar 2) (tC (V.int 1))) (tC (V.int 2))) (tC (V.int 0)))) [some (.int c), some (.ref fl), some (.ref xl), some (.ref D')] H2 Qb := fun Qb hq => by
    refine ⟨_, rfl, xl, _, _, V.int x1, rfl, rfl, SqL.of hxl2, hx1, _, _, rfl, rfl, (by show (0 : Int) < 2; decide), rfl, _, rfl, ?_⟩
    rw [decI]; exact hq
  refine cutA (fun σ' H' => ∃ (l : Addr) (ws : List Int), σ' = [some (.int c), some (.ref fl), some (.ref xl), some (.ref l)] /\ Same H H' /\ H l = none /\ H' l = some (.lst (ws.map V.int)) /\ ws.length ≤ 20 /\ ∀ d ∈ ws, 0 ≤ d) (fun N hN => ?_) ?_
  · by_cases h : x1 % 2 = 0
    · rw [decide_eq_true h] at test
      refine if_yes test ?_
      refine ⟨_, rfl, _, rfl, _, rfl, D', _, rfl, SqL.of h2, fun p hp => ?_⟩
      obtain ⟨cs, hcs, hcl, hcm⟩ := cut_sub ws none (some 2)
      have s3 : Same H2 (upd H2 p (.lst (cutV (ws.map V.int) none (some 2)))) := Same.new hp
      have hp3 : upd H2 p (.lst (cutV (ws.map V.int) none (some 2))) p = some (.lst (cs.map V.int)) := by rw [upd_same, hcs]
      generalize upd H2 p (.lst (cutV (ws.map V.int) none (some 2))) = H3 at s3 hp3 ⊢
      refine ⟨D', p, _, _, rfl, rfl, s3 _ _ h2, hp3, by rw [List.length_map, List.length_map]; exact Nat.le_of_lt (small1000 (by omega)), fun l hl => ?_⟩
      refine gNameA [some (.int c), some (.ref fl), some (.ref xl), some (.ref l)] ?_
      refine hN _ _ ⟨l, ws ++ cs, rfl, (s1.trans (s2.trans s3)).trans (Same.new hl), (s1.trans (s2.trans s3)).free hl, by rw [upd_same, List.map_append], by rw [List.length_append]; omega, fun d hd => ?_⟩
      rcases List.mem_append.mp hd with h | h
      · exact hw0 d h
      · exact hw0 d (hcm d h)
    · rw [decide_eq_false h] at test
      exact if_no test (hN _ _ ⟨D', ws, rfl, s1.trans s2, s1.free hD', h2, by omega, hw0⟩)
  rintro σ H3 ⟨l, ws, rfl, s3, nl, hl, hwl, hw0⟩
  exact ⟨_, rfl, q l ws H3 hl hwl hw0 nl s3⟩
theorem ok__law_prices {f : Addr} {fd : FuncData} (F : Fun K "_law_prices" "_law_prices" s__law_prices f fd) (T : Txt K mg C_KeepError C_NoItem C_Heap) (D__law_behind : DefX P w K mg base "_law_behind" 1 ["_law_price", "_law_leg"] sp_over) : FnOk P w K mg base (CXx P w) 2 f fd ["_law_legs_here"] (sp_lpr48) := by
  refine F.okX sc__law_prices (fun vs H Q E h => ?_) (fun cdv A outer s H vs Q E hr h => ?_)
  · obtain ⟨ll, LV, legs, rfl, hll, R, hok, h60, q⟩ := h; rfl
  obtain ⟨ll, LV, legs, rfl, hll, R, hok, h60, q⟩ := h
  refine ⟨_, (pss_cons (ps_set (i := 1) sc__law_prices.nd rfl (Or.inl rfl) (pe_disp (pps_cons (pe_un un_neg pe_int) (pe_tup (pa_cons pe_int (pa_cons pe_int (pa_cons pe_int pa_nil)))) pps_nil) rfl rfl (by decide) (by decide)))
      (pss_cons (ps_for PassesOwn.leaving rfl (pi_range1 rfl T.b_range (pa_cons (pe_op op_add (pe_callB call_len_seq (by rfl) T.b_len PySem.boot_len (pa_cons (pv 0) pa_nil)) pe_int) pa_nil)) (pg_name (i := 2) sc__law_prices.nd rfl (Or.inl rfl))
      (pss_cons (ps_set (i := 3) sc__law_prices.nd rfl (Or.inl rfl) pe_bl)
      (pss_cons (ps_for PassesOwn.leaving rfl (pi_list (pv 0)) (pg_name (i := 4) sc__law_prices.nd rfl (Or.inl rfl))
      (pss_one (ps_if (pt_cmp (pc_din (hu_of hr) (pe_ix ix_tup (pv 4) pe_int (fun _ _ => rfl)) (pv 1))) (pss_cons (ps_set (i := 5) sc__law_prices.nd rfl (Or.inl rfl) (pe_callS D__law_behind passesN (hr.mono (by decide)) rfl (pa_cons (pe_dget (hu_of hr) (pv 1) (pe_ix ix_tup (pv 4) pe_int (fun _ _ => rfl)) (fun _ _ => rfl)) (pa_cons (pv 4) pa_nil))))
      (pss_one (ps_if (PW.pt (pw_or (pt_cmp (pc_dnotin (hu_of hr) (pe_ix ix_tup (pv 4) pe_int (fun _ _ => rfl)) (pv 1))) (pw_or1 (pt_cmpR (op_ltO (Nat.lt_of_le_of_lt (Nat.le_add_right _ 64) hr.units)) (pv 5) (pe_dget (hu_of hr) (pv 1) (pe_ix ix_tup (pv 4) pe_int (fun _ _ => rfl)) (fun _ _ => rfl)) (nomark _))))) (pss_cons (ps_dput (hu_of hr) (pv 1) (pe_ix ix_tup (pv 4) pe_int (fun _ _ => rfl)) (pv 5) rfl)
      (pss_one (ps_set (i := 3) sc__law_prices.nd rfl (Or.inl rfl) pe_bl))) pss_nil))) pss_nil)))
      (pss_one (ps_if (pt_not (pt_val (pv 3))) (pss_one ps_break) pss_nil)))))
      (pss_one (ps_ret (pv 1))))), ?_⟩
  obtain ⟨P, LP⟩ := least_ex hok
  have hcnt : ∀ (d b c : Int) (n : Nat), P d = some [b, c, (n : Int)]->n ≤ legs.length := fun d b c n h => least_cnt LP h
  intro d hd
  refine ⟨_, rfl, (by show 3 ≤ sizeLine; decide), fun z hz => ?_⟩
  have ndz : d ≠ z := ne_of_none upd_same hz
  refine ⟨by rw [upd_ne ndz]; exact upd_same, [(Sum.inl (-1), V.ref z)], rfl, by simp, ?_⟩
  rw [show mergeK [] [((Sum.inl (-1) : Key), V.ref z)] = [((Sum.inl (-1) : Key), V.ref z)] from rfl]
  have s1 : Same H (upd (upd (upd H d (.dK [])) z (.tup [V.int 0, V.int 0, V.int 0])) d (.dK [(Sum.inl (-1), V.ref z)])) := fun b o e => by rw [upd_ne (ne_of_none e hd), upd_ne (ne_of_none (by rw [upd_ne (ne_of_none e hd)]; exact e) hz), upd_ne (ne_of_none e hd)]; exact e
  have hd1 : upd (upd (upd H d (.dK [])) z (.tup [V.int 0, V.int 0, V.int 0])) d (.dK [(Sum.inl (-1), V.ref z)]) d = some (.dK [((Sum.inl (-1) : Key), V.ref z)]) := upd_same
  have hz1 : upd (upd (upd H d (.dK [])) z (.tup [V.int 0, V.int 0, V.int 0])) d (.dK [(Sum.inl (-1), V.ref z)]) z = some (.tup (([0, 0, 0] : List Int).map V.int)) := by rw [upd_ne ndz.symm]; exact upd_same
  generalize upd (upd (upd H d (.dK [])) z (.tup [V.int 0, V.int 0, V.int 0])) d (.dK [(Sum.inl (-1), V.ref z)]) = H1 at s1 hd1 hz1 ⊢
  refine gNameA [some (.ref ll), some (.ref d), none, none, none, none] ?_
  dsimp only
  have hLl : LV.length = legs.length := by rw [R.len, List.length_map]
  refine cutA (fun σ H' => ∃ (v2 v3 v4 v5 : Option V) (kvs : List (Key × V)), σ = [some (.ref ll), some (.ref d), v2, v3, v4, v5] /\ Same H H' /\ H' d = some (.dK kvs) /\ PrAt H' kvs P) (fun N hN => ?_) ?_
  · refine ⟨_, rfl, ll, _, rfl, .inl (SqL.of (s1 _ _ hll)), _, _, rfl, rfl, _, rfl, by omega, by omega, for_range (lo := 0) (n := ((LV.length : Int) + 1).toNat) (fun r σ H' => ∃ (v2 v3 v4 v5 : Option V) (kvs : List (Key × V)) (B : Int->Option (List Int)), σ = [some (.ref ll), some (.ref d), v2, v3, v4, v5] /\ Same H H' /\ H' d = some (.dK kvs) /\ PrAt H' kvs B /\ Near P B /\ Sett P B r /\ r ≤ legs.length) ⟨none, none, none, none, _, _, rfl, s1, hd1, PrAt.start hz1, Near.start LP, Sett.start LP, Nat.zero_le _⟩ ?_ ?_⟩
    · rintro r σ H2 hr0 ⟨v2, v3, v4, v5, kvs, B, rfl, s2, hd2, PR, hN1, hS1, hrl⟩
      refine gNameA [some (.ref ll), some (.ref d), some (.int (0 + (r : Int))), v3, v4, v5] ?_
      dsimp only
      refine gNameA [some (.ref ll), some (.ref d), some (.int (0 + (r : Int))), some (.bl false), v4, v5] ?_
      dsimp only
      refine cutA (fun σ H' => ∃ (v4 v5 : Option V) (kvs : List (Key × V)) (B : Int->Option (List Int)) (bm : Bool), σ = [some (.ref ll), some (.ref d), some (.int (0 + (r : Int))), some (.bl bm), v4, v5] /\ Same H H' /\ H' d = some (.dK kvs) /\ PrAt H' kvs B /\ Near P B /\ Sett P B r /\ (∀ g ∈ legs, DoneP P B r g) /\ (bm = false->∀ g ∈ legs, ClosedP B g) /\ (bm = true->r < legs.length)) (fun M hM => ?_) ?_
      · refine ⟨_, rfl, ll, rfl, ⟨_, SqL.of (s2 _ _ hll)⟩, for_list (K := K) (a := ll) (xs := LV) (fun i σ H' => ∃ (v4 v5 : Option V) (kvs : List (Key × V)) (B : Int->Option (List Int)) (bm : Bool), σ = [some (.ref ll), some (.ref d), some (.int (0 + (r : Int))), some (.bl bm), v4, v5] /\ Same H H' /\ H' d = some (.dK kvs) /\ PrAt H' kvs B /\ Near P B /\ Sett P B r /\ (∀ g ∈ legs.take i, DoneP P B r g) /\ (bm = false->∀ g ∈ legs.take i, ClosedP B g) /\ (bm = true->r < legs.length)) ⟨v4, v5, kvs, B, false, rfl, s2, hd2, PR, hN1, hS1, fun g hg => (by cases hg), fun _ g hg => (by cases hg), fun h => (by cases h)⟩ (fun i σ H' _ ⟨_, _, _, _, _, _, s', _⟩ => SqL.of (s' _ _ hll)) ?_ ?_⟩
        · clear hd2 PR hN1 hS1 s2 v4 v5 kvs B
          rintro i v σ H2 hi ⟨v4, v5, kvs, B, bm, rfl, s2, hd2, PR, hN1, hS1, hDn, hcl, hlt⟩
          have hil : i < legs.length := by have := (List.getElem?_eq_some_iff.mp hi).1; omega
          have eg : legs[i]? = some legs[i] := List.getElem?_eq_getElem hil
          generalize legs[i] = g at eg
          have hgm : g ∈ legs := List.mem_of_getElem? eg
          obtain ⟨b, rfl, hb⟩ := key_tup (R.get i v (legT g) hi (by rw [List.getElem?_map, eg]; rfl))
          have hb2 := s2 _ _ hb
          have hto : g.to ≠ -1 := by have := (hok g hgm).1; omega
          have tk : ∀ g', g' ∈ legs.take (i + 1)->g' ∈ legs.take i ∨ g' = g := fun g' h => by
            rw [List.take_add_one, eg] at h
            rcases List.mem_append.mp h with h | h
            · exact .inl h
            · exact .inr (List.mem_singleton.mp h)
          refine gNameA [some (.ref ll), some (.ref d), some (.int (0 + (r : Int))), some (.bl bm), some (.ref b), v5] ?_
          have hvs := PR.val g.start
          dsimp only
          cases hC : B g.start with
          | none =>
            rw [hC] at hvs
            have hcg : ClosedP B g := fun p h => by rw [hC] at h; cases h
            refine if_noP (fun H' => H2 = H') (fun Qb hq => ?_) ?_
            · refine ⟨_, rfl, b, _, _, V.int g.start, rfl, rfl, SqT.of hb2, rfl, _, rfl, d, _, rfl, .inl ⟨kvs, Sum.inl g.start, .inl hd2, rfl, rfl⟩, _, rfl, ?_⟩
              rw [hvs.none_of]; exact hq _ rfl
            rintro _ rfl
            exact ⟨_, _, kvs, B, bm, rfl, s2, hd2, PR, hN1, hS1, fun g' hg' => (tk g' hg').elim (hDn g') (fun e => by rw [e]; exact DoneP.old hS1 hcg), fun hb g' hg' => (tk g' hg').elim (hcl hb g') (fun e => by rw [e]; exact hcg), hlt⟩
          | some p =>
            rw [hC] at hvs
            obtain ⟨pa, hpa, hpa'⟩ := hvs.some_of
            refine if_yesP (fun H' => H2 = H') (fun Qb hq => ?_) ?_
            · refine ⟨_, rfl, b, _, _, V.int g.start, rfl, rfl, SqT.of hb2, rfl, _, rfl, d, _, rfl, .inl ⟨kvs, Sum.inl g.start, .inl hd2, rfl, rfl⟩, _, rfl, ?_⟩
              rw [hpa]; exact hq _ rfl
            rintro _ rfl
            have hpp := hN1.pr _ _ hC
            refine ⟨_, rfl, _, rfl, b, _, _, V.int g.start, rfl, rfl, SqT.of hb2, rfl, d, V.ref pa, rfl, .inl ⟨kvs, Sum.inl g.start, .inl hd2, rfl, hpa.symm⟩, _, rfl, pa, b, p, g, rfl, hpp, hpa', hb2, fun t ht => ?_⟩
            obtain ⟨x, y, n, rfl⟩ := hpp
            have s3 : Same H2 (upd H2 t (.tup ((overT [x, y, (n : Int)] g).map V.int))) := Same.new ht
            have ht3 : upd H2 t (.tup ((overT [x, y, (n : Int)] g).map V.int)) t = some (.tup ((overT [x, y, (n : Int)] g).map V.int)) := upd_same
            generalize upd H2 t (.tup ((overT [x, y, (n : Int)] g).map V.int)) = H3 at s3 ht3 ⊢
            refine gNameA [some (.ref ll), some (.ref d), some (.int (0 + (r : Int))), some (.bl bm), some (.ref b), some (.ref t)] ?_
            have hb3 := s3 _ _ hb2
            have hd3 := s3 _ _ hd2
            have PR3 := PR.mono fun t ys e => s3 t _ e
            have hvt := PR3.val g.to
            have hfew := PR3.few fun d h => hN1.only LP h
            dsimp only
            by_cases hl : LessP B g.to (overT [x, y, (n : Int)] g)
            · refine if_yesP (fun H' => H3 = H') (fun Qb hq => ?_) ?_
              · refine ⟨_, rfl, b, _, _, V.int g.to, rfl, rfl, SqT.of hb3, rfl, _, rfl, d, _, rfl, .inl ⟨kvs, Sum.inl g.to, .inl hd3, rfl, rfl⟩, _, rfl, ?_⟩
                cases hC2 : B g.to with
                | none =>
                  rw [hC2] at hvt
                  rw [hvt.none_of]; exact iteT (hq _ rfl)
                | some q' =>
                  rw [hC2] at hvt
                  obtain ⟨qa, hqa, hqa'⟩ := hvt.some_of
                  rw [hqa]
                  refine iteF ⟨_, rfl, _, rfl, _, rfl, b, _, _, V.int g.to, rfl, rfl, SqT.of hb3, rfl, d, V.ref qa, rfl, .inl ⟨kvs, Sum.inl g.to, .inl hd3, rfl, hqa.symm⟩, ltO_of (tu := true) (ks := overT [x, y, (n : Int)] g) (ls := q') ⟨t, rfl, ht3⟩ ⟨qa, rfl, hqa'⟩ ?_⟩
                  rw [hl q' hC2]
                  exact ⟨_, rfl, hq _ rfl⟩
              rintro _ rfl
              obtain ⟨hS2, hr2⟩ := Sett.put LP hN1 hS1 hgm hC hl hcnt
              refine ⟨_, rfl, _, rfl, _, rfl, b, _, _, V.int g.to, rfl, rfl, SqT.of hb3, rfl, d, _, rfl, DPut.k (k := Sum.inl g.to) hd3 (small1000 (by omega)), ?_⟩
              have tk3 : ∀ t' ys, H3 t' = some (.tup ys)->upd H3 d (.dK (putK kvs (Sum.inl g.to) (.ref t))) t' = some (.tup ys) := fun t' ys e => by rw [upd_ne (ne_of e hd3 (by intro z; cases z))]; exact e
              refine ⟨_, _, _, _, true, rfl, fun b' o e => ?_, upd_same, (PR3.putG ht3).mono tk3, hN1.put LP hgm hto hC, hS2, fun g' hg' => (tk g' hg').elim (fun h => (hDn g' h).put hN1 hC hl) (fun e => by rw [e]; exact DoneP.new hS1 hC), fun h => (by cases h), fun _ => hr2⟩
              rw [upd_ne (ne_of_none e hd)]; exact s3 b' o (s2 b' o e)
            · have hcg : ClosedP B g := fun p' h => by
                rw [hC] at h
                cases h
                cases hC2 : B g.to with
                | none => exact absurd (fun q' h => by rw [hC2] at h; cases h) hl
                | some q' =>
                  refine ⟨q', rfl, ?_⟩
                  show HT.lexLt _ _ = false
                  cases e : HT.lexLt (overT [x, y, (n : Int)] g) q' with
                  | false => rfl
                  | true => exact absurd (fun q'' h => by rw [hC2] at h; cases h; exact e) hl
              refine if_noP (fun H' => H3 = H') (fun Qb hq => ?_) ?_
              · refine ⟨_, rfl, b, _, _, V.int g.to, rfl, rfl, SqT.of hb3, rfl, _, rfl, d, _, rfl, .inl ⟨kvs, Sum.inl g.to, .inl hd3, rfl, rfl⟩, _, rfl, ?_⟩
                obtain ⟨q', hC2, hle⟩ := hcg _ hC
                rw [hC2] at hvt
                obtain ⟨qa, hqa, hqa'⟩ := hvt.some_of
                rw [hqa]
                refine iteF ⟨_, rfl, _, rfl, _, rfl, b, _, _, V.int g.to, rfl, rfl, SqT.of hb3, rfl, d, V.ref qa, rfl, .inl ⟨kvs, Sum.inl g.to, .inl hd3, rfl, hqa.symm⟩, ltO_of (tu := true) (ks := overT [x, y, (n : Int)] g) (ls := q') ⟨t, rfl, ht3⟩ ⟨qa, rfl, hqa'⟩ ?_⟩
                rw [show HT.lexLt (overT [x, y, (n : Int)] g) q' = false from hle]
                exact ⟨_, rfl, hq _ rfl⟩
              rintro _ rfl
              exact ⟨_, _, kvs, B, bm, rfl, s2.trans s3, hd3, PR3, hN1, hS1, fun g' hg' => (tk g' hg').elim (hDn g') (fun e => by rw [e]; exact DoneP.old hS1 hcg), fun hb g' hg' => (tk g' hg').elim (hcl hb g') (fun e => by rw [e]; exact hcg), hlt⟩
        · rintro σ H2 ⟨v4, v5, kvs, B, bm, rfl, s2, hd2, PR, hN1, hS1, hDn, hcl, hlt⟩
          rw [hLl, List.take_length] at hcl hDn
          exact hM _ _ ⟨v4, v5, kvs, B, bm, rfl, s2, hd2, PR, hN1, hS1, hDn, hcl, hlt⟩
      clear hd2 PR hN1 hS1 s2 v4 v5 kvs B
      rintro σ H3 ⟨v4, v5, kvs, B, bm, rfl, s2, hd2, PR, hN1, hS1, hDn, hcl, hlt⟩
      cases bm with
      | false =>
        have := hN1.done LP (hcl rfl)
        subst this
        refine if_yes (fun Qb hq => ⟨_, rfl, _, rfl, hq⟩) ?_
        exact hN _ _ ⟨_, _, _, _, kvs, rfl, s2, hd2, PR⟩
      | true =>
        refine if_no (fun Qb hq => ⟨_, rfl, _, rfl, hq⟩) ?_
        exact ⟨_, _, _, _, kvs, B, rfl, s2, hd2, PR, hN1, Sett.next LP hN1 hS1 hDn, hlt rfl⟩
    · rintro σ H2 ⟨v2, v3, v4, v5, kvs, B, rfl, s2, hd2, PR, hN1, hS1, hrl⟩
      exact absurd hrl (by omega)
  rintro σ H2 ⟨v2, v3, v4, v5, kvs, rfl, s2, hd2, PR⟩
  exact ⟨_, rfl, q d kvs P H2 LP hd2 PR hd s2⟩
theorem ok__law_due {f : Addr} {fd : FuncData} (F : Fun K "_law_due" "_law_due" s__law_due f fd) (T : Txt K mg C_KeepError C_NoItem C_Heap) (D__law_behind : DefX P w K mg base "_law_behind" 1 ["_law_price", "_law_leg"] sp_over) : FnOk P w K mg base (CXx P w) 2 f fd ["_law_legs_here", "_law_best", "_law_wanted_here"] (sp_due48) := by
  refine F.okX sc__law_due (fun vs H Q E h => ?_) (fun cdv A outer s H vs Q E hr h => ?_)
  · obtain ⟨ll, bd, wl, LV, legs, kvs, P, L, ws, rfl, hll, R, hL48, N, hbd, PR, hwl, q⟩ := h; rfl
  obtain ⟨ll, bd, wl, LV, legs, kvs, P, L, ws, rfl, hll, R, hL48, N, hbd, PR, hwl, q⟩ := h
  refine ⟨_, (pss_cons (ps_set (i := 3) sc__law_due.nd rfl (Or.inl rfl) pe_dnewK)
      (pss_cons (ps_for PassesOwn.leaving rfl (pi_list (pe_callB call_sortedT (by rfl) T.b_sorted PyProof.Rows.boot_sorted (pa_cons (pv 0) pa_nil))) (pg_name (i := 4) sc__law_due.nd rfl (Or.inl rfl))
      (pss_one (ps_if (PW.pt (pw_and (pt_cmp (pc_din (hu_of hr) (pe_ix ix_tup (pv 4) pe_int (fun _ _ => rfl)) (pv 1))) (pw_and (pt_cmpR (op_eq_ref hr.units) (pe_callS D__law_behind passesN (hr.mono (by decide)) rfl (pa_cons (pe_dget (hu_of hr) (pv 1) (pe_ix ix_tup (pv 4) pe_int (fun _ _ => rfl)) (fun _ _ => rfl)) (pa_cons (pv 4) pa_nil))) (pe_dget (hu_of hr) (pv 1) (pe_ix ix_tup (pv 4) pe_int (fun _ _ => rfl)) (fun _ _ => rfl)) (nomark _)) (pw_and1 (pt_cmp (pc_dnotin (hu_of hr) (pe_ix ix_tup (pv 4) pe_int (fun _ _ => rfl)) (pv 3))))))) (pss_one (ps_dput (hu_of hr) (pv 3) (pe_ix ix_tup (pv 4) pe_int (fun _ _ => rfl)) (pv 4) rfl)) pss_nil)))
      (pss_cons (ps_set (i := 5) sc__law_due.nd rfl (Or.inl rfl) pe_dnewK)
      (pss_cons (ps_for PassesOwn.leaving rfl (pi_list (pv 2)) (pg_name (i := 6) sc__law_due.nd rfl (Or.inl rfl))
      (pss_cons (ps_set (i := 7) sc__law_due.nd rfl (Or.inl rfl) (pv 6))
      (pss_one (ps_while PassesOwn.leaving (pt_cmp (pc_din (hu_of hr) (pv 7) (pv 3))) (pss_cons (ps_dput (hu_of hr) (pv 5) (pe_ix ix_tup (pe_dget (hu_of hr) (pv 3) (pv 7) (fun _ _ => rfl)) pe_int (fun _ _ => rfl)) pe_bl rfl)
      (pss_one (ps_set (i := 7) sc__law_due.nd rfl (Or.inl rfl) (pe_ix ix_tup (pe_dget (hu_of hr) (pv 3) (pv 7) (fun _ _ => rfl)) pe_int (fun _ _ => rfl)))))))))
      (pss_one (ps_ret (pe_callB (call_sortedD rfl) (by rfl) T.b_sorted PyProof.Rows.boot_sorted (pa_cons (pv 5) pa_nil)))))))), ?_⟩
  obtain ⟨hok, h60, hnod⟩ := hL48
  have hLl : LV.length = legs.length := by rw [R.len, List.length_map]
  intro ld hld
  refine gNameA [some (.ref ll), some (.ref bd), some (.ref wl), some (.ref ld), none, none, none, none] ?_
  have s1 : Same H (upd H ld (.dK [])) := Same.new hld
  have hld1 : upd H ld (.dK []) ld = some (.dK []) := upd_same
  generalize upd H ld (.dK []) = H1 at s1 hld1 ⊢
  dsimp only
  refine cutA (fun σ H' => ∃ (v4 : Option V) (lk : List (Key × V)) (Lg : Int->Option Leg), σ = [some (.ref ll), some (.ref bd), some (.ref wl), some (.ref ld), v4, none, none, none] /\ Same H H' /\ H' ld = some (.dK lk) /\ PrAt H' lk (fun d => (Lg d).map legT) /\ (∀ d g, Lg d = some g->g ∈ legs) /\ (∀ d, (Lg d).map Leg.num = L d)) (fun M hM => ?_) ?_
  · refine ⟨_, rfl, ll, LV, legs.map legT, rfl, SqL.of (s1 _ _ hll), R.mono (fun t ys e => s1 t _ e), (fun k hk => ?_), by omega, fun l p hl hp hs => ?_⟩
    · obtain ⟨g, _, rfl⟩ := List.mem_map.mp hk; intro z; cases z
    obtain ⟨ss, hss, hsn, RS⟩ := sort_legs R hp hs
    have s2 : Same H1 (upd H1 l (.lst (p.map fun i => LV.getD i .non))) := Same.new hl
    have hl2 : upd H1 l (.lst (p.map fun i => LV.getD i .non)) l = some (.lst (p.map fun i => LV.getD i .non)) := upd_same
    generalize upd H1 l (.lst (p.map fun i => LV.getD i .non)) = H2 at s2 hl2 ⊢
    have hsl : (p.map fun i => LV.getD i V.non).length = ss.length := by rw [RS.len, List.length_map]
    have hssl := hss.length_eq
    refine ⟨l, rfl, ⟨_, SqL.of hl2⟩, for_list (K := K) (a := l) (xs := p.map fun i => LV.getD i .non) (fun i σ H' => ∃ (v4 : Option V) (lk : List (Key × V)) (Lg : Int->Option Leg), σ = [some (.ref ll), some (.ref bd), some (.ref wl), some (.ref ld), v4, none, none, none] /\ Same H H' /\ H' l = some (.lst (p.map fun i => LV.getD i .non)) /\ H' ld = some (.dK lk) /\ lk.length ≤ i /\ PrAt H' lk (fun d => (Lg d).map legT) /\ (∀ d g, Lg d = some g->g ∈ ss.take i) /\ IsLast (ss.take i) P (fun d => (Lg d).map Leg.num)) ⟨none, [], fun _ => none, rfl, s1.trans s2, hl2, s2 _ _ hld1, Nat.le_refl _, PrAt.nil, fun d g h => (by cases h), (by rw [List.take_zero]; exact IsLast.nil)⟩ (fun i σ H' _ ⟨_, _, _, _, _, h, _⟩ => SqL.of h) ?_ ?_⟩
    · clear s2 hl2 s1 hld1 H2
      rintro i v σ H2 hi ⟨v4, lk, Lg, rfl, s2, hl2, hlk, hll', PL, htk, IL⟩
      have hil : i < ss.length := by have := (List.getElem?_eq_some_iff.mp hi).1; omega
      have eg : ss[i]? = some ss[i] := List.getElem?_eq_getElem hil
      generalize ss[i] = g at eg
      have hgm : g ∈ legs := hss.mem_iff.mp (List.mem_of_getElem? eg)
      obtain ⟨b, rfl, hb⟩ := key_tup (RS.get i v (legT g) hi (by rw [List.getElem?_map, eg]; rfl))
      have hb2 := s2 _ _ hb
      have tk : ss.take (i + 1) = ss.take i ++ [g] := by rw [List.take_add_one, eg]; rfl
      have htk' : ∀ d g', Lg d = some g'->g' ∈ ss.take (i + 1) := fun d g' h => by rw [tk]; exact List.mem_append.mpr (.inl (htk d g' h))
      have hbd2 := s2 _ _ hbd
      have PR2 := PR.mono fun t ys e => s2 t _ e
      have nel : ld ≠ l := ne_of hlk hl2 (by intro z; cases z)
      refine gNameA [some (.ref ll), some (.ref bd), some (.ref wl), some (.ref ld), some (.ref b), none, none, none] ?_
      have hvs := PR2.val g.start
      dsimp only
      refine ⟨_, rfl, b, _, _, V.int g.start, rfl, rfl, SqT.of hb2, rfl, _, rfl, bd, _, rfl, .inl ⟨kvs, Sum.inl g.start, .inl hbd2, rfl, rfl⟩, _, rfl, ?_⟩
      cases hC : P g.start with
      | none =>
        rw [hC] at hvs
        rw [hvs.none_of]
        refine iteF (iteF ⟨_, lk, Lg, rfl, s2, hl2, hlk, by omega, PL, htk', ?_⟩)
        rw [tk]
        exact IL.skip fun ⟨p, hp, _⟩ => by rw [hC] at hp; cases hp
      | some pr =>
        rw [hC] at hvs
        obtain ⟨pa, hpa, hpa'⟩ := hvs.some_of
        rw [hpa]
        obtain ⟨q', hq', hle⟩ := N.lp.closed g hgm pr hC
        refine iteT ⟨_, rfl, _, rfl, b, _, _, V.int g.start, rfl, rfl, SqT.of hb2, rfl, bd, V.ref pa, rfl, .inl ⟨kvs, Sum.inl g.start, .inl hbd2, rfl, hpa.symm⟩, _, rfl, pa, b, pr, g, rfl, N.lp.pr _ _ hC, hpa', hb2, fun t ht => ?_⟩
        have s3 : Same H2 (upd H2 t (.tup ((overT pr g).map V.int))) := Same.new ht
        have ht3 : upd H2 t (.tup ((overT pr g).map V.int)) t = some (.tup ((overT pr g).map V.int)) := upd_same
        generalize upd H2 t (.tup ((overT pr g).map V.int)) = H3 at s3 ht3 ⊢
        have s23 := s2.trans s3
        have hb3 := s3 _ _ hb2
        have hbd3 := s3 _ _ hbd2
        have hlk3 := s3 _ _ hlk
        have hl3 := s3 _ _ hl2
        have PL3 := PL.mono fun t ys e => s3 t _ e
        have hvt := (PR2.mono fun t ys e => s3 t _ e).val g.to
        rw [hq'] at hvt
        obtain ⟨qa, hqa, hqa'⟩ := hvt.some_of
        refine ⟨_, rfl, _, rfl, b, _, _, V.int g.to, rfl, rfl, SqT.of hb3, rfl, bd, V.ref qa, rfl, .inl ⟨kvs, Sum.inl g.to, .inl hbd3, rfl, hqa.symm⟩, 0, decide (overT pr g = q'), by decide, SeqEq.intsT (SqT.of ht3) (SqT.of hqa'), _, rfl, ?_⟩
        by_cases he : overT pr g = q'
        · rw [decide_eq_true he]
          have hA : Att P g := ⟨pr, hC, by rw [hq', he]⟩
          have hvl := PL3.val g.to
          refine iteT ⟨_, rfl, b, _, _, V.int g.to, rfl, rfl, SqT.of hb3, rfl, _, rfl, ld, _, rfl, .inl ⟨lk, Sum.inl g.to, .inl hlk3, rfl, rfl⟩, _, rfl, ?_⟩
          cases hLg : Lg g.to with
          | some g' =>
            simp only [hLg] at hvl
            obtain ⟨za, hza, _⟩ := RelP.some_of (q := legT g') hvl
            rw [hza]
            refine iteF ⟨_, lk, Lg, rfl, s23, hl3, hlk3, by omega, PL3, htk', ?_⟩
            rw [tk]
            exact IL.stay (x := g'.num) hA (by rw [hLg]; rfl) (pw_take hsn eg (htk _ _ hLg))
          | none =>
            simp only [hLg] at hvl
            rw [RelP.none_of hvl]
            refine iteT ⟨_, rfl, _, rfl, _, rfl, b, _, _, V.int g.to, rfl, rfl, SqT.of hb3, rfl, ld, _, rfl, DPut.k (k := Sum.inl g.to) hlk3 (small1000 (by omega)), ?_⟩
            have tk3 : ∀ t' ys, H3 t' = some (.tup ys)->upd H3 ld (.dK (putK lk (Sum.inl g.to) (.ref b))) t' = some (.tup ys) := fun t' ys e => by rw [upd_ne (ne_of e hlk3 (by intro z; cases z))]; exact e
            refine ⟨_, _, putLg Lg g, rfl, fun b' o e => ?_, by rw [upd_ne nel.symm]; exact hl3, upd_same, by have := length_putK lk (Sum.inl g.to) (V.ref b); omega, ?_, fun d g' h => ?_, ?_⟩
            · rw [upd_ne (ne_of_none e hld)]; exact s23 b' o e
            · rw [putLg_T]; exact (PL3.put (by rw [hLg]; rfl) hb3).mono tk3
            · unfold putLg at h
              split at h
              · cases h; rw [tk]; simp
              · exact htk' d g' h
            · rw [putLg_N, tk]; exact IL.first hA (by rw [hLg]; rfl)
        · rw [decide_eq_false he]
          refine iteF (iteF ⟨_, lk, Lg, rfl, s23, hl3, hlk3, by omega, PL3, htk', ?_⟩)
          rw [tk]
          exact IL.skip fun ⟨p', hp', h2⟩ => by rw [hC] at hp'; cases hp'; rw [hq'] at h2; exact he (Option.some.inj h2).symm
    · rintro σ H3 ⟨v4, lk, Lg, rfl, s3, hl3, hlk, _, PL, htk, IL⟩
      rw [hsl, List.take_length] at IL htk
      have e := IL.one N.il fun g => hss.mem_iff
      exact hM _ _ ⟨v4, lk, Lg, rfl, s3, hlk, PL, fun d g h => hss.mem_iff.mp (htk d g h), fun d => congrFun e d⟩
  clear s1 hld1 H1
  rintro σ H3 ⟨v4, lk, Lg, rfl, s3, hlk, PL, hLm, hLn⟩
  intro fd hfd
  refine gNameA [some (.ref ll), some (.ref bd), some (.ref wl), some (.ref ld), v4, some (.ref fd), none, none] ?_
  dsimp only
  have s4 : Same H3 (upd H3 fd (.dK [])) := Same.new hfd
  have hfd4 : upd H3 fd (.dK []) fd = some (.dK []) := upd_same
  generalize upd H3 fd (.dK []) = H4 at s4 hfd4 ⊢
  have nfd : H fd = none := s3.free hfd
  refine ⟨_, rfl, wl, rfl, ⟨_, SqL.of (s4 _ _ (s3 _ _ hwl))⟩, for_list (K := K) (a := wl) (xs := ws.map V.int) (fun i σ H' => ∃ (v6 v7 : Option V) (fk : List (Key × V)), σ = [some (.ref ll), some (.ref bd), some (.ref wl), some (.ref ld), v4, some (.ref fd), v6, v7] /\ Same H3 H' /\ H' fd = some (.dK fk) /\ FoundAt fk (NeedS L legs (ws.take i))) ⟨none, none, [], rfl, s4, hfd4, ?_⟩ (fun i σ H' _ ⟨_, _, _, _, s5, _⟩ => SqL.of (s5 _ _ (s3 _ _ hwl))) ?_ ?_⟩
  · exact ⟨List.nodup_nil, AllI.nil, fun i => ⟨(fun h => by cases h), fun ⟨g, ⟨d, hd, _⟩, _⟩ => by simp at hd⟩⟩
  · rintro i v σ H5 hi ⟨v6, v7, fk, rfl, s5, hfd5, FA⟩
    rw [List.getElem?_map] at hi
    obtain ⟨day, hday, rfl⟩ := Option.map_eq_some_iff.mp hi
    have tk : ∀ g, NeedS L legs (ws.take (i + 1)) g ↔ NeedS L legs (ws.take i) g ∨ OnCh L legs day g := fun g => by
      unfold NeedS
      rw [List.take_add_one, hday]
      simp [or_and_right, exists_or]
    refine gNameA [some (.ref ll), some (.ref bd), some (.ref wl), some (.ref ld), v4, some (.ref fd), some (.int day), v7] ?_
    refine ⟨_, rfl, ?_⟩
    refine gNameA [some (.ref ll), some (.ref bd), some (.ref wl), some (.ref ld), v4, some (.ref fd), some (.int day), some (.int day)] ?_
    dsimp only
    refine ⟨fun m σ H' => ∃ (t : Int) (fk : List (Key × V)) (F : Leg->Prop), σ = [some (.ref ll), some (.ref bd), some (.ref wl), some (.ref ld), v4, some (.ref fd), some (.int day), some (.int t)] /\ Same H3 H' /\ H' fd = some (.dK fk) /\ FoundAt fk F /\ (∀ g, F g->g ∈ legs) /\ (∀ g, (F g ∨ OnCh L legs t g) ↔ (NeedS L legs (ws.take i) g ∨ OnCh L legs day g)) /\ m = cntP P t, ⟨_, day, fk, _, rfl, s5, hfd5, FA, fun g ⟨d, _, h⟩ => h.mem, fun g => Iff.rfl, rfl⟩, ?_⟩
    clear hfd5 s5 FA fk
    rintro m σ H5 ⟨t, fk, F, rfl, s5, hfd5, FA, hFm, hiff, rfl⟩
    have hlk5 := s5 _ _ hlk
    refine ⟨_, rfl, _, rfl, ld, _, rfl, .inl ⟨lk, Sum.inl t, .inl hlk5, rfl, rfl⟩, _, rfl, ?_⟩
    have hvt := (PL.mono fun t ys e => s5 t _ e).val t
    have hLnt := hLn t
    cases hLt : Lg t with
    | none =>
      rw [hLt] at hLnt
      simp only [hLt] at hvt
      rw [RelP.none_of hvt]
      refine iteF ⟨_, _, fk, rfl, s5, hfd5, ?_⟩
      exact ⟨FA.nd, FA.alli, fun x => (FA.val x).trans ⟨fun ⟨g, h, e⟩ => ⟨g, (tk g).mpr ((hiff g).mp (.inl h)), e⟩, fun ⟨g, h, e⟩ => ⟨g, ((hiff g).mpr ((tk g).mp h)).elim id fun h' => absurd h' (OnCh.none_ hLnt.symm g), e⟩⟩⟩
    | some g =>
      rw [hLt] at hLnt
      have hL : L t = some g.num := hLnt.symm
      simp only [hLt] at hvt
      obtain ⟨b, hvb, hb⟩ := RelP.some_of (q := legT g) hvt
      have hg := hLm t g hLt
      have hgt := (N.uniq hg hL).1
      have hcg := N.cnt hg hL
      have hlen := FA.len hFm
      rw [hvb]
      refine iteT ⟨_, fun σ' H' h => h, ?_⟩
      refine ⟨_, rfl, _, rfl, _, rfl, ld, V.ref b, rfl, .inl ⟨lk, Sum.inl t, .inl hlk5, rfl, hvb.symm⟩, b, _, _, V.int g.num, rfl, rfl, SqT.of hb, rfl, fd, _, rfl, DPut.k (k := Sum.inl g.num) hfd5 (small1000 (by omega)), ?_⟩
      have hne1 : ld ≠ fd := fun e => by rw [← e] at hfd; rw [hlk] at hfd; cases hfd
      have hneb : b ≠ fd := ne_of hb hfd5 (by intro z; cases z)
      refine ⟨_, rfl, _, rfl, ld, V.ref b, rfl, .inl ⟨lk, Sum.inl t, .inl (by rw [upd_ne hne1]; exact hlk5), rfl, hvb.symm⟩, b, _, _, V.int g.start, rfl, rfl, SqT.of (by rw [upd_ne hneb]; exact hb), rfl, ?_⟩
      refine ⟨cntP P g.start, hcg, g.start, _, fun g' => F g' ∨ g' = g, rfl, fun b' o e => by rw [upd_ne (ne_of_none e hfd)]; exact s5 b' o e, upd_same, ?_, ?_, ?_, rfl⟩
      · have := FA.put g.num (V.bl true)
        exact ⟨this.nd, this.alli, fun x => (this.val x).trans ⟨fun h => h.elim (fun ⟨g', h, e⟩ => ⟨g', .inl h, e⟩) fun e => ⟨g, .inr rfl, e.symm⟩, fun ⟨g', h, e⟩ => h.elim (fun h => .inl ⟨g', h, e⟩) fun h => .inr (by rw [← e, h])⟩⟩
      · exact fun g' h => h.elim (hFm g') fun e => by rw [e]; exact hg
      · intro g'
        rw [← hiff g', OnCh.iff N hg hL g', or_assoc]
  · rintro σ H5 ⟨v6, v7, fk, rfl, s5, hfd5, FA⟩
    rw [List.length_map, List.take_length] at FA
    obtain ⟨ns, hns⟩ := allI_ns FA.alli
    have hlen := FA.len (legs := legs) fun g ⟨d, _, h⟩ => h.mem
    have hnl := congrArg List.length hns
    rw [List.length_map, List.length_map] at hnl
    refine ⟨_, rfl, fd, fk, ns, rfl, hfd5, hns, by omega, fun l ns' hl hp hs => ?_⟩
    exact q l ns' _ (FA.rise hns hp hs) upd_same ((s3.trans s5).free hl) ((s3.trans s5).trans (Same.new hl))
theorem ok__law_lacks {f : Addr} {fd : FuncData} (F : Fun K "_law_lacks" "_law_lacks" s__law_lacks f fd) (T : Txt K mg C_KeepError C_NoItem C_Heap) (D__law_prices : DefX P w K mg base "_law_prices" 2 ["_law_legs_here"] sp_lpr48) : FnOk P w K mg base (CXx P w) 3 f fd ["_law_legs_here", "_law_wanted_here", "_law_best"] (sp_lacks48) := by
  refine F.okX sc__law_lacks (fun vs H Q E h => ?_) (fun cdv A outer s H vs Q E hr h => ?_)
  · obtain ⟨ll, wl, bd, LV, legs, kvs, P, ws, rfl, hll, R, hok, h60, hbd, PR, hwl, q⟩ := h; rfl
  obtain ⟨ll, wl, bd, LV, legs, kvs, P, ws, rfl, hll, R, hok, h60, hbd, PR, hwl, q⟩ := h
  refine ⟨_, (pss_cons (ps_set (i := 3) sc__law_lacks.nd rfl (Or.inl rfl) (pe_callS D__law_prices passesN (hr.mono (by decide)) rfl (pa_cons (pv 0) pa_nil)))
      (pss_cons (ps_for PassesOwn.leaving rfl (pi_list (pv 1)) (pg_name (i := 4) sc__law_lacks.nd rfl (Or.inl rfl))
      (pss_one (ps_if (PW.pt (pw_and (pt_cmp (pc_din (hu_of hr) (pv 4) (pv 2))) (pw_and1 (pt_cmp (pc_dnotin (hu_of hr) (pv 4) (pv 3)))))) (pss_one (ps_ret pe_bl)) pss_nil)))
      (pss_one (ps_ret pe_bl)))), ?_⟩
  refine ⟨_, rfl, ll, LV, legs, rfl, hll, R, hok, h60, fun kd kk P' H1 LP' hkd PR' nkd s1 => ?_⟩
  refine gNameA [some (.ref ll), some (.ref wl), some (.ref bd), some (.ref kd), none] ?_
  dsimp only
  have q1 := q P' H1 LP' s1
  have hbd1 := s1 _ _ hbd
  have PR1 := PR.mono fun t ys e => s1 t _ e
  refine ⟨_, rfl, wl, rfl, ⟨_, SqL.of (s1 _ _ hwl)⟩, for_list (K := K) (a := wl) (xs := ws.map V.int) (fun i σ H' => ∃ v4, σ = [some (.ref ll), some (.ref wl), some (.ref bd), some (.ref kd), v4] /\ H1 = H' /\ ((ws.take i).any fun d => (P d).isSome && (P' d).isNone) = false) ⟨none, rfl, rfl, rfl⟩ (fun i σ H' _ ⟨_, _, e, _⟩ => by rw [← e]; exact SqL.of (s1 _ _ hwl)) ?_ ?_⟩
  · rintro i v σ H2 hi ⟨v4, rfl, rfl, hany⟩
    rw [List.getElem?_map] at hi
    obtain ⟨day, hday, rfl⟩ := Option.map_eq_some_iff.mp hi
    refine gNameA [some (.ref ll), some (.ref wl), some (.ref bd), some (.ref kd), some (.int day)] ?_
    dsimp only
    have hv1 := PR1.val day
    have hv2 := PR'.val day
    have tk : ((ws.take (i + 1)).any fun d => (P d).isSome && (P' d).isNone) = ((P day).isSome && (P' day).isNone) := by
      rw [List.take_add_one, hday, List.any_append, hany]
      simp
    cases hP : P day with
    | none =>
      rw [hP] at hv1 tk
      refine if_no (fun Qb hq => ?_) ⟨_, rfl, rfl, tk⟩
      refine ⟨_, rfl, _, rfl, bd, _, rfl, .inl ⟨kvs, Sum.inl day, .inl hbd1, rfl, rfl⟩, _, rfl, ?_⟩
      rw [hv1.none_of]; exact iteF hq
    | some p =>
      rw [hP] at hv1 tk
      obtain ⟨pa, hpa, _⟩ := hv1.some_of
      cases hP' : P' day with
      | some p' =>
        rw [hP'] at hv2 tk
        obtain ⟨pa', hpa', _⟩ := hv2.some_of
        refine if_no (fun Qb hq => ?_) ⟨_, rfl, rfl, tk⟩
        refine ⟨_, rfl, _, rfl, bd, _, rfl, .inl ⟨kvs, Sum.inl day, .inl hbd1, rfl, rfl⟩, _, rfl, ?_⟩
        rw [hpa]
        refine iteT ⟨_, rfl, _, rfl, kd, _, rfl, .inl ⟨kk, Sum.inl day, .inl hkd, rfl, rfl⟩, _, rfl, ?_⟩
        rw [hpa']; exact hq
      | none =>
        rw [hP'] at hv2 tk
        refine if_yes (fun Qb hq => ?_) ?_
        · refine ⟨_, rfl, _, rfl, bd, _, rfl, .inl ⟨kvs, Sum.inl day, .inl hbd1, rfl, rfl⟩, _, rfl, ?_⟩
          rw [hpa]
          refine iteT ⟨_, rfl, _, rfl, kd, _, rfl, .inl ⟨kk, Sum.inl day, .inl hkd, rfl, rfl⟩, _, rfl, ?_⟩
          rw [hv2.none_of]; exact hq
        have : (ws.any fun d => (P d).isSome && (P' d).isNone) = true := List.any_eq_true.mpr ⟨day, List.mem_of_getElem? hday, by rw [hP, hP']; rfl⟩
        rw [this] at q1
        exact q1
  · rintro σ H2 ⟨v4, rfl, rfl, hany⟩
    rw [List.length_map, List.take_length] at hany
    rw [hany] at q1
    exact q1
theorem ok__law_tree {f : Addr} {fd : FuncData} (F : Fun K "_law_tree" "_law_tree" s__law_tree f fd) (T : Txt K mg C_KeepError C_NoItem C_Heap) (D__law_prices : DefX P w K mg base "_law_prices" 2 ["_law_legs_here"] sp_lpr48) (D__law_lacks : DefX P w K mg base "_law_lacks" 3 ["_law_legs_here", "_law_wanted_here", "_law_best"] sp_lacks48) : FnOk P w K mg base (CXx P w) 4 f fd ["_law_legs_here", "_law_stay", "_law_wanted_here", "_law_best"] (sp_tree48) := by
  refine F.okX sc__law_tree (fun vs H Q E h => ?_) (fun cdv A outer s H vs Q E hr h => ?_)
  · obtain ⟨ll, sl, wl, bd, LV, SV, legs, stay, kvs, P, L, ws, rfl, hll, R, hL48, N, hsl, S, sub, hst, hbd, PR, hwl, hwn, q⟩ := h; rfl
  obtain ⟨ll, sl, wl, bd, LV, SV, legs, stay, kvs, P, L, ws, rfl, hll, R, hL48, N, hsl, S, sub, hst, hbd, PR, hwl, hwn, q⟩ := h
  refine ⟨_, (pss_cons (ps_setComp (i := 4) sc__law_tree.nd rfl (Or.inl rfl) (N := ["_law_leg"]) (k := 1) (cap := []) rfl rfl (pi_list (pv 1)) (fun _ _ _ _ => (pg_name (i := 0) (show (["_law_leg"] : List Str).Nodup from by decide +kernel) rfl (Or.inl rfl) (.inr rfl))) (fun _ _ _ _ => pts_nil) (fun _ _ _ _ => (pe_ix (ix_tupK (K := K) rfl) (pv 0) pe_int (fun _ _ => rfl))))
      (pss_cons (ps_if (pt_cmpR op_ne (pe_callB call_len_seq (by rfl) T.b_len PySem.boot_len (pa_cons (pv 4) pa_nil)) (pe_lset rfl (by rfl) T.b_len (by rfl) T.b_set (pv 4)) (nomark _)) (pss_one (ps_ret pe_bl)) pss_nil)
      (pss_cons (ps_set (i := 5) sc__law_tree.nd rfl (Or.inl rfl) (pe_callS D__law_prices passesN (hr.mono (by decide)) rfl (pa_cons (pv 1) pa_nil)))
      (pss_cons (ps_for PassesOwn.leaving rfl (pi_list (pv 2)) (pg_name (i := 6) sc__law_tree.nd rfl (Or.inl rfl))
      (pss_one (ps_if (PW.pt (pw_and (pt_cmp (pc_din (hu_of hr) (pv 6) (pv 3))) (pw_and1 (pt_cmpR (op_ne_ref hr.units) (pe_dget1 (hu_of hr) (pv 5) (pv 6) ⟨rfl, rfl, rfl, rfl⟩) (pe_dget (hu_of hr) (pv 3) (pv 6) (fun _ _ => rfl)) (nomark _))))) (pss_one (ps_ret pe_bl)) pss_nil)))
      (pss_cons (ps_for PassesOwn.leaving rfl (pi_list (pv 1)) (pg_name (i := 7) sc__law_tree.nd rfl (Or.inr rfl))
      (pss_one (ps_if (pt_not (pt_val (pe_callS D__law_lacks passesN (hr.mono (by decide)) rfl (pa_cons (pe_comp (N := ["_law_other", "_law_leg"]) (k := 1) (cap := [7]) rfl rfl (pi_list (pv 1)) (fun _ _ _ _ => (pg_name (i := 0) (show (["_law_other", "_law_leg"] : List Str).Nodup from by decide +kernel) rfl (Or.inl rfl) (.inr rfl))) (fun _ _ _ _ => (pts_one (pt_cmpR (op_ne_refK (K := K) rfl hr.units) (pv 0) (pv 1) (nomark _)))) (fun _ _ _ _ => (pv 0))) (pa_cons (pv 2) (pa_cons (pv 3) pa_nil)))))) (pss_one (ps_ret pe_bl)) pss_nil)))
      (pss_one (ps_ret pe_bl))))))), ?_⟩
  obtain ⟨hok, h60, hnod⟩ := hL48
  have hSl : SV.length = stay.length := by rw [S.len, List.length_map]
  have hs60 := sub.length_le
  have hsok : ∀ g ∈ stay, LegOk g := fun g hg => hok g (sub.subset hg)
  refine ⟨_, rfl, sl, rfl, ⟨_, SqL.of hsl⟩, fun D' hD' => ?_⟩
  refine comp_list D' (K := K) (a := sl) (xs := SV) (fun i σ H5 ys => ∃ v, σ = [v] /\ Same H H5 /\ H5 D' = some (.lst ys) /\ ys = ((stay.take i).map Leg.to).map V.int) ⟨none, rfl, Same.new hD', upd_same, rfl⟩ (fun i σ H5 ys _ ⟨_, _, s5, _⟩ => SqL.of (s5 _ _ hsl)) ?_ ?_
  · rintro i v σ H2 ys hi ⟨v0, rfl, s2, hD2, rfl⟩
    have hil : i < stay.length := by have := (List.getElem?_eq_some_iff.mp hi).1; omega
    have eg : stay[i]? = some stay[i] := List.getElem?_eq_getElem hil
    generalize stay[i] = g at eg
    obtain ⟨b, rfl, hb⟩ := key_tup (S.get i v (legT g) hi (by rw [List.getElem?_map, eg]; rfl))
    refine ⟨_, rfl, b, _, _, V.int g.to, rfl, rfl, SqT.of (s2 _ _ hb), rfl, hD2, by rw [List.length_map, List.length_map, List.length_take]; exact small1000 (by omega), some (.ref b), rfl, fun b' o e => by rw [upd_ne (ne_of_none e hD')]; exact s2 b' o e, upd_same, by rw [List.take_add_one, eg]; simp⟩
  rintro σ H2 ys ⟨v0, rfl, s2, hD2, rfl⟩
  rw [hSl, List.take_length] at hD2
  refine gNameA [some (.ref ll), some (.ref sl), some (.ref wl), some (.ref bd), some (.ref D'), none, none, none] ?_
  dsimp only
  have hsnd : stay.Nodup := List.Pairwise.sublist sub ((List.pairwise_map.mp hnod).imp fun h e => h (congrArg Leg.num e))
  have htnd : (stay.map Leg.to).Nodup := List.pairwise_map.mpr (hsnd.imp_of_mem fun {a b} ha hb hne e => hne (N.days ((hst a).mp ha) ((hst b).mp hb) e))
  have hdd := dd_nodup htnd
  have hddl : (dd (stay.map Leg.to)).length = stay.length := by rw [hdd, List.length_map]
  refine if_no (fun Qb hq => ?_) ?_
  · refine ⟨_, rfl, D', _, rfl, .inl (SqL.of hD2), _, rfl, D', _, rfl, SqL.of hD2, by omega, rfl, _, rfl, ?_⟩
    rw [List.length_map, hdd, decide_eq_true rfl]; exact hq
  have hsl2 := s2 _ _ hsl
  have S2 := S.mono fun t ys e => s2 t _ e
  refine ⟨_, rfl, sl, SV, stay, rfl, hsl2, S2, hsok, by omega, fun kd kk P' H3 LP' hkd PR' nkd s3 => ?_⟩
  refine gNameA [some (.ref ll), some (.ref sl), some (.ref wl), some (.ref bd), some (.ref D'), some (.ref kd), none, none] ?_
  dsimp only
  have s13 := s2.trans s3
  have hwl3 := s13 _ _ hwl
  have hbd3 := s13 _ _ hbd
  have hsl3 := s13 _ _ hsl
  have S3 := S.mono fun t ys e => s13 t _ e
  have PR3 := PR.mono fun t ys e => s13 t _ e
  have hkeep : ∀ d ∈ ws, ∀ p, P d = some p->P' d = some p := fun d hd p hp => by
    obtain ⟨b, c, n, rfl⟩ := N.lp.pr _ _ hp
    exact N.keeps LP' (fun g hg => sub.subset hg) n d b c hp fun g h => (hst g).mpr ⟨d, hd, h⟩
  refine cutA (fun σ H' => ∃ v6 : Option V, σ = [some (.ref ll), some (.ref sl), some (.ref wl), some (.ref bd), some (.ref D'), some (.ref kd), v6, none] /\ H3 = H') (fun M hM => ?_) ?_
  · refine ⟨_, rfl, wl, rfl, ⟨_, SqL.of hwl3⟩, for_list (K := K) (a := wl) (xs := ws.map V.int) (fun i σ H' => ∃ v6 : Option V, σ = [some (.ref ll), some (.ref sl), some (.ref wl), some (.ref bd), some (.ref D'), some (.ref kd), v6, none] /\ H3 = H') ⟨none, rfl, rfl⟩ (fun i σ H' _ ⟨_, _, e⟩ => by rw [← e]; exact SqL.of hwl3) ?_ ?_⟩
    · rintro i v σ _ hi ⟨v6, rfl, rfl⟩
      rw [List.getElem?_map] at hi
      obtain ⟨day, hday, rfl⟩ := Option.map_eq_some_iff.mp hi
      have hdm := List.mem_of_getElem? hday
      refine gNameA [some (.ref ll), some (.ref sl), some (.ref wl), some (.ref bd), some (.ref D'), some (.ref kd), some (.int day), none] ?_
      dsimp only
      have hv1 := PR3.val day
      have hv2 := PR'.val day
      refine ⟨_, rfl, _, rfl, bd, _, rfl, .inl ⟨kvs, Sum.inl day, .inl hbd3, rfl, rfl⟩, _, rfl, ?_⟩
      cases hP : P day with
      | none =>
        rw [hP] at hv1
        rw [hv1.none_of]
        exact iteF (iteF ⟨_, rfl, rfl⟩)
      | some p =>
        rw [hP] at hv1
        obtain ⟨pa, hpa, hpa'⟩ := hv1.some_of
        rw [hkeep day hdm p hP] at hv2
        obtain ⟨ka, hka, hka'⟩ := hv2.some_of
        rw [hpa]
        refine iteT ⟨_, rfl, kd, rfl, .inl ⟨kk, .inl hkd⟩, _, rfl, some (V.ref ka), .inl ⟨kk, Sum.inl day, .inl hkd, rfl, hka.symm⟩, _, rfl, _, rfl, bd, V.ref pa, rfl, .inl ⟨kvs, Sum.inl day, .inl hbd3, rfl, hpa.symm⟩, 0, decide (p = p), by decide, SeqEq.intsT (SqT.of hka') (SqT.of hpa'), _, rfl, ?_⟩
        rw [decide_eq_true rfl]
        exact iteF ⟨_, rfl, rfl⟩
    · rintro σ _ ⟨v6, rfl, rfl⟩
      exact hM _ _ ⟨v6, rfl, rfl⟩
  rintro σ _ ⟨v6, rfl, rfl⟩
  refine ⟨_, rfl, sl, rfl, ⟨_, SqL.of hsl3⟩, for_list (K := K) (a := sl) (xs := SV) (fun i σ H' => ∃ v7 : Option V, σ = [some (.ref ll), some (.ref sl), some (.ref wl), some (.ref bd), some (.ref D'), some (.ref kd), v6, v7] /\ Same H3 H') ⟨none, rfl, Same.refl _⟩ (fun i σ H' _ ⟨_, _, s'⟩ => SqL.of (s' _ _ hsl3)) ?_ ?_⟩
  · rintro i v σ H4 hi ⟨v7, rfl, s4⟩
    have hil : i < stay.length := by have := (List.getElem?_eq_some_iff.mp hi).1; omega
    have eg : stay[i]? = some stay[i] := List.getElem?_eq_getElem hil
    generalize stay[i] = g at eg
    have hgs : g ∈ stay := List.mem_of_getElem? eg
    obtain ⟨b, rfl, hb⟩ := key_tup (S3.get i v (legT g) hi (by rw [List.getElem?_map, eg]; rfl))
    have hb4 := s4 _ _ hb
    have hsl4 := s4 _ _ hsl3
    refine gNameA [some (.ref ll), some (.ref sl), some (.ref wl), some (.ref bd), some (.ref D'), some (.ref kd), v6, some (.ref b)] ?_
    dsimp only
    refine ⟨_, rfl, sl, rfl, ⟨_, SqL.of hsl4⟩, fun D2 hD2' => ?_⟩
    refine comp_list D2 (K := K) (a := sl) (xs := SV) (fun i σ H5 ys => ∃ v, σ = [v, some (.ref b)] /\ Same H4 H5 /\ H5 D2 = some (.lst ys) /\ KeysAt true H4 ys (((stay.take i).filter fun o => !decide (legT o = legT g)).map legT)) ⟨none, rfl, Same.new hD2', upd_same, KeysAt.nil⟩ (fun i σ H5 ys _ ⟨_, _, s5, _⟩ => SqL.of (s5 _ _ hsl4)) ?_ ?_
    · rintro j v σ H5 ys hj ⟨v0, rfl, s5, hD5, KS⟩
      have hjl : j < stay.length := by have := (List.getElem?_eq_some_iff.mp hj).1; omega
      have eo : stay[j]? = some stay[j] := List.getElem?_eq_getElem hjl
      generalize stay[j] = o at eo
      obtain ⟨c, rfl, hc⟩ := key_tup (S3.get j v (legT o) hj (by rw [List.getElem?_map, eo]; rfl))
      have hc4 := s4 _ _ hc
      refine ⟨_, rfl, _, rfl, 0, decide (legT o = legT g), by decide, SeqEq.intsT (SqT.of (s5 _ _ hc4)) (SqT.of (s5 _ _ hb4)), _, rfl, ?_⟩
      by_cases he : legT o = legT g
      · rw [decide_eq_true he]
        refine iteF ⟨_, rfl, s5, hD5, ?_⟩
        rw [List.take_add_one, eo, List.filter_append]
        simpa [he] using KS
      · rw [decide_eq_false he]
        have hyl : ys.length ≤ stay.length := by
          rw [KS.len, List.length_map]
          exact Nat.le_trans (List.length_filter_le _ _) (by rw [List.length_take]; omega)
        refine iteT ⟨_, rfl, hD5, small1000 (by omega), some (.ref c), rfl, fun b' o e => by rw [upd_ne (ne_of_none e hD2')]; exact s5 b' o e, upd_same, ?_⟩
        have := KS.snoc (v := V.ref c) (ks := legT o) ⟨c, rfl, hc4⟩
        rw [List.take_add_one, eo, List.filter_append]
        simpa [he] using this
    rintro σ H5 ys ⟨v0, rfl, s5, hD5, KS⟩
    rw [hSl, List.take_length] at KS
    have s35 := s4.trans s5
    refine ⟨_, rfl, _, rfl, D2, wl, bd, ys, _, kvs, P, ws, rfl, hD5, KS.mono (fun t ys e => s5 t _ e), (fun g' hg' => hsok g' (List.mem_filter.mp hg').1), Nat.le_trans (List.length_filter_le _ _) (by omega), s35 _ _ hbd3, PR3.mono (fun t ys e => s35 t _ e), s35 _ _ hwl3, fun P2 H6 LP2 s6 => ?_⟩
    have hany : (ws.any fun d => (P d).isSome && (P2 d).isNone) = true := by
      obtain ⟨d, hd, hon⟩ := (hst g).mp hgs
      refine List.any_eq_true.mpr ⟨d, hd, ?_⟩
      have hn := N.lacks LP2 (ds := ws) (g0 := g) (fun g' hg' => ⟨(hst g').mp (List.mem_filter.mp hg').1, fun e => by have := (List.mem_filter.mp hg').2; rw [e] at this; simp at this⟩) (fun g' h => ⟨d, hd, h⟩) hon
      obtain ⟨x, hx⟩ := hon.start N
      obtain ⟨g1, _, _, hg1, p, _, hp⟩ := N.leg hx
      rw [hg1] at hp
      rw [hn, hp]; rfl
    refine ⟨_, rfl, ?_⟩
    dsimp only
    rw [hany]
    exact iteF ⟨_, rfl, s35.trans s6⟩
  · rintro σ H4 ⟨v7, rfl, s4⟩
    exact q H4 (s13.trans s4)
theorem ok__law_asked {f : Addr} {fd : FuncData} (F : Fun K "_law_asked" "_law_asked" s__law_asked f fd) (T : Txt K mg C_KeepError C_NoItem C_Heap) (D__law_prices : DefX P w K mg base "_law_prices" 2 ["_law_legs_here"] sp_lpr48) (D_needed : DefX P w K mg base "needed" 6 ["legs", "wanted"] sp_needed) (D__law_whole : DefX P w K mg base "_law_whole" 1 ["_law_found"] sp_whole) (D__law_due : DefX P w K mg base "_law_due" 2 ["_law_legs_here", "_law_best", "_law_wanted_here"] sp_due48) (D__law_tree : DefX P w K mg base "_law_tree" 4 ["_law_legs_here", "_law_stay", "_law_wanted_here", "_law_best"] sp_tree48) : FnOk P w K mg base (CXx P w) 7 f fd ["_law_legs_here", "_law_wanted_here"] (sp_asked48) := by
  refine F.okX sc__law_asked (fun vs H Q E h => ?_) (fun cdv A outer s H vs Q E hr h => ?_)
  · obtain ⟨ll, wl, LV, legs, ws, rfl, hll, R, hL48, hwl, hwn, q⟩ := h; rfl
  obtain ⟨ll, wl, LV, legs, ws, rfl, hll, R, hL48, hwl, hwn, q⟩ := h
  refine ⟨_, (pss_cons (ps_set (i := 2) sc__law_asked.nd rfl (Or.inl rfl) (pe_callS D__law_prices passesN (hr.mono (by decide)) rfl (pa_cons (pv 0) pa_nil)))
      (pss_cons (ps_set (i := 3) sc__law_asked.nd rfl (Or.inl rfl) (pe_callTy call_list_of (by rfl) T.b_list PyProof.Rows.boot_list (pa_cons (pv 0) pa_nil)))
      (pss_cons (ps_set (i := 4) sc__law_asked.nd rfl (Or.inl rfl) (pe_callTy call_list_of (by rfl) T.b_list PyProof.Rows.boot_list (pa_cons (pv 1) pa_nil)))
      (pss_cons (ps_set (i := 5) sc__law_asked.nd rfl (Or.inr rfl) (pe_callS D_needed passesN (hr.mono (by decide)) rfl (pa_cons (pv 3) (pa_cons (pv 4) pa_nil))))
      (pss_cons (ps_if (PW.pt (pw_or (pt_not (pt_val (pe_callB call_isinst (by rfl) T.b_isinstance PyProof.Rows.boot_isinstance (pa_cons (pv 5) (pa_cons (pe_bltn (v := .ty "list") rfl T.b_list PyProof.Rows.boot_list rfl) pa_nil))))) (pw_or (pt_cmpR (op_ne_ref hr.units) (pv 3) (pv 0) (nomark _)) (pw_or1 (pt_cmpR (op_ne_ref hr.units) (pv 4) (pv 1) (nomark _)))))) (pss_one (ps_ret pe_bl)) pss_nil)
      (pss_cons (ps_for PassesOwn.leaving rfl (pi_list (pv 5)) (pg_name (i := 6) sc__law_asked.nd rfl (Or.inl rfl))
      (pss_one (ps_if (pt_not (pt_val (pe_callS D__law_whole passesN (hr.mono (by decide)) rfl (pa_cons (pv 6) pa_nil)))) (pss_one (ps_ret pe_bl)) pss_nil)))
      (pss_cons (ps_if (pt_cmpR (op_ne_ref hr.units) (pv 5) (pe_callS D__law_due passesN (hr.mono (by decide)) rfl (pa_cons (pv 0) (pa_cons (pv 2) (pa_cons (pv 1) pa_nil)))) (nomark _)) (pss_one (ps_ret pe_bl)) pss_nil)
      (pss_one (ps_ret (pe_callS D__law_tree passesN (hr.mono (by decide)) rfl (pa_cons (pv 0) (pa_cons (pe_comp (N := ["_law_leg", "_law_found"]) (k := 1) (cap := [5]) rfl rfl (pi_list (pv 0)) (fun _ _ _ _ => (pg_name (i := 0) (show (["_law_leg", "_law_found"] : List Str).Nodup from by decide +kernel) rfl (Or.inl rfl) (.inr rfl))) (fun _ _ _ _ => (pts_one (pt_cmpR (op_in_seqK (K := K) rfl) (pe_ix (ix_tupK (K := K) rfl) (pv 0) pe_int (fun _ _ => rfl)) (pv 1) (by with_unfolding_all rfl)))) (fun _ _ _ _ => (pv 0))) (pa_cons (pv 1) (pa_cons (pv 2) pa_nil)))))))))))))), ?_⟩
  have hL48' := hL48
  obtain ⟨hok, h60, hnod⟩ := hL48'
  have hLl : LV.length = legs.length := by rw [R.len, List.length_map]
  have hrefs : ∀ H' x, x ∈ LV->EqI K H' 0 x x true := fun H' x hx => by
    obtain ⟨j, hj⟩ := List.mem_iff_getElem?.mp hx
    have hjl : j < legs.length := by have := (List.getElem?_eq_some_iff.mp hj).1; omega
    obtain ⟨b, rfl, _⟩ := key_tup (R.get j x (legT legs[j]) hj (by rw [List.getElem?_map, List.getElem?_eq_getElem hjl]; rfl))
    exact eqI_same b
  refine ⟨_, rfl, ll, LV, legs, rfl, hll, R, hok, h60, fun bd kvs P1 H1 LP1 hbd PR nbd s1 => ?_⟩
  refine gNameA [some (.ref ll), some (.ref wl), some (.ref bd), none, none, none, none] ?_
  dsimp only
  refine ⟨_, rfl, ll, _, rfl, .inl (SqL.of (s1 _ _ hll)), fun hd hhd => ?_⟩
  have s2 : Same H1 (upd H1 hd (.lst LV)) := Same.new hhd
  have hhd2 : upd H1 hd (.lst LV) hd = some (.lst LV) := upd_same
  generalize upd H1 hd (.lst LV) = H2 at s2 hhd2 ⊢
  refine gNameA [some (.ref ll), some (.ref wl), some (.ref bd), some (.ref hd), none, none, none] ?_
  dsimp only
  refine ⟨_, rfl, wl, _, rfl, .inl (SqL.of (s2 _ _ (s1 _ _ hwl))), fun gd hgd => ?_⟩
  have s3 : Same H2 (upd H2 gd (.lst (ws.map V.int))) := Same.new hgd
  have hgd3 : upd H2 gd (.lst (ws.map V.int)) gd = some (.lst (ws.map V.int)) := upd_same
  generalize upd H2 gd (.lst (ws.map V.int)) = H3 at s3 hgd3 ⊢
  refine gNameA [some (.ref ll), some (.ref wl), some (.ref bd), some (.ref hd), some (.ref gd), none, none] ?_
  dsimp only
  have s03 := s1.trans (s2.trans s3)
  refine ⟨_, rfl, _, rfl, hd, gd, LV, legs, ws, rfl, s3 _ _ hhd2, R.mono (fun t ys e => s03 t _ e), hL48, hgd3, fun P L fl ns H4 N hns hfl nfl s4 => ?_⟩
  have eP : P1 = P := funext fun d => least_one LP1 N.lp d
  subst eP
  refine gNameA [some (.ref ll), some (.ref wl), some (.ref bd), some (.ref hd), some (.ref gd), some (.ref fl), none] ?_
  dsimp only
  have s04 := s03.trans s4
  have hll4 := s04 _ _ hll
  have hwl4 := s04 _ _ hwl
  have hbd4 := (s2.trans (s3.trans s4)) _ _ hbd
  have R4 := R.mono fun t ys e => s04 t _ e
  have PR4 := PR.mono fun t ys e => (s2.trans (s3.trans s4)) t _ e
  refine if_no (fun Qb hq => ?_) ?_
  · exact ⟨_, rfl, _, _, _, _, true, rfl, rfl, .lst hfl, rfl, _, rfl, iteF ⟨_, rfl, _, rfl, 0, true, by decide, SeqEq.sameL (SqL.of ((s3.trans s4) _ _ hhd2)) (SqL.of hll4) (hrefs _), _, rfl, iteF ⟨_, rfl, _, rfl, 0, true, by decide, SeqEq.sameL (SqL.of (s4 _ _ hgd3)) (SqL.of hwl4) (fun x hx => by obtain ⟨z, _, rfl⟩ := List.mem_map.mp hx; exact eqI_int z), _, rfl, hq⟩⟩⟩
  unfold tNext
  dsimp only
  refine cutA (fun σ H' => ∃ v6 : Option V, σ = [some (.ref ll), some (.ref wl), some (.ref bd), some (.ref hd), some (.ref gd), some (.ref fl), v6] /\ H4 = H') (fun M hM => ?_) ?_
  · refine ⟨_, rfl, fl, rfl, ⟨_, SqL.of hfl⟩, for_list (K := K) (a := fl) (xs := ns.map V.int) (fun i σ H' => ∃ v6 : Option V, σ = [some (.ref ll), some (.ref wl), some (.ref bd), some (.ref hd), some (.ref gd), some (.ref fl), v6] /\ H4 = H') ⟨none, rfl, rfl⟩ (fun i σ H' _ ⟨_, _, e⟩ => by rw [← e]; exact SqL.of hfl) ?_ ?_⟩
    · rintro i v σ _ hi ⟨v6, rfl, rfl⟩
      rw [List.getElem?_map] at hi
      obtain ⟨n, _, rfl⟩ := Option.map_eq_some_iff.mp hi
      exact ⟨_, rfl, n, rfl, _, rfl, iteF ⟨_, rfl, rfl⟩⟩
    · rintro σ _ ⟨v6, rfl, rfl⟩
      exact hM _ _ ⟨v6, rfl, rfl⟩
  rintro σ _ ⟨v6, rfl, rfl⟩
  refine if_noP (fun H' => Same H4 H') (fun Qb hq => ?_) ?_
  · refine ⟨_, rfl, _, rfl, _, rfl, _, rfl, ll, bd, wl, LV, legs, kvs, P1, L, ws, rfl, hll4, R4, hL48, N, hbd4, PR4, hwl4, fun l2 ns2 H5 hns2 hl2 nl2 s5 => ?_⟩
    have : ns = ns2 := rise_ext hns.1 hns2.1 fun x => (hns.2 x).trans (hns2.2 x).symm
    subst this
    exact ⟨0, true, by decide, SeqEq.sameL (SqL.of (s5 _ _ hfl)) (SqL.of hl2) (fun x hx => by obtain ⟨z, _, rfl⟩ := List.mem_map.mp hx; exact eqI_int z), _, rfl, hq _ s5⟩
  intro H5 s5
  have hll5 := s5 _ _ hll4
  have hfl5 := s5 _ _ hfl
  have R5 := R4.mono fun t ys e => s5 t _ e
  dsimp only
  refine ⟨_, rfl, _, rfl, ll, rfl, ⟨_, SqL.of hll5⟩, fun D' hD' => ?_⟩
  refine comp_list D' (K := K) (a := ll) (xs := LV) (fun i σ H6 ys => ∃ v, σ = [v, some (.ref fl)] /\ Same H5 H6 /\ H6 D' = some (.lst ys) /\ KeysAt true H5 ys (((legs.take i).filter fun g => decide (g.num ∈ ns)).map legT)) ⟨none, rfl, Same.new hD', upd_same, KeysAt.nil⟩ (fun i σ H6 ys _ ⟨_, _, s6, _⟩ => SqL.of (s6 _ _ hll5)) ?_ ?_
  · rintro i v σ H6 ys hi ⟨v0, rfl, s6, hD6, KS⟩
    have hil : i < legs.length := by have := (List.getElem?_eq_some_iff.mp hi).1; omega
    have eg : legs[i]? = some legs[i] := List.getElem?_eq_getElem hil
    generalize legs[i] = g at eg
    obtain ⟨b, rfl, hb⟩ := key_tup (R5.get i v (legT g) hi (by rw [List.getElem?_map, eg]; rfl))
    refine ⟨_, rfl, b, _, _, V.int g.num, rfl, rfl, SqT.of (s6 _ _ hb), rfl, _, rfl, fl, _, rfl, .inl (SqL.of (s6 _ _ hfl5)), rfl, flat_ints ns, _, rfl, ?_⟩
    rw [in_b]
    by_cases he : g.num ∈ ns
    · rw [decide_eq_true he]
      have hyl : ys.length ≤ legs.length := by
        rw [KS.len, List.length_map]
        exact Nat.le_trans (List.length_filter_le _ _) (by rw [List.length_take]; omega)
      refine iteT ⟨_, rfl, hD6, small1000 (by omega), some (.ref b), rfl, fun b' o e => by rw [upd_ne (ne_of_none e hD')]; exact s6 b' o e, upd_same, ?_⟩
      have := KS.snoc (v := V.ref b) (ks := legT g) ⟨b, rfl, hb⟩
      rw [List.take_add_one, eg, List.filter_append]
      simpa [he] using this
    · rw [decide_eq_false he]
      refine iteF ⟨_, rfl, s6, hD6, ?_⟩
      rw [List.take_add_one, eg, List.filter_append]
      simpa [he] using KS
  rintro σ H6 ys ⟨v0, rfl, s6, hD6, KS⟩
  rw [hLl, List.take_length] at KS
  have s46 := s5.trans s6
  refine ⟨_, rfl, _, rfl, ll, D', wl, bd, LV, ys, legs, _, kvs, P1, L, ws, rfl, s6 _ _ hll5, R5.mono (fun t ys e => s6 t _ e), hL48, N, hD6, KS.mono (fun t ys e => s6 t _ e), List.filter_sublist, fun g => ?_, s46 _ _ hbd4, PR4.mono (fun t ys e => s46 t _ e), s46 _ _ hwl4, hwn, fun H7 s7 => q H7 ((s04.trans s46).trans s7)⟩
  rw [List.mem_filter]
  constructor
  · rintro ⟨h1, h2⟩
    obtain ⟨g', h3, h4⟩ := (hns.2 g.num).mp (of_decide_eq_true h2)
    obtain ⟨d, hd', h5⟩ := h3
    have := nd_inj hnod h5.mem h1 h4
    subst this
    exact ⟨d, hd', h5⟩
  · rintro ⟨d, hd', h5⟩
    exact ⟨h5.mem, decide_eq_true ((hns.2 g.num).mpr ⟨g, ⟨d, hd', h5⟩, rfl⟩)⟩
theorem ok_law {f : Addr} {fd : FuncData} (F : Fun K "law" "law" s_law f fd) (T : Txt K mg C_KeepError C_NoItem C_Heap) (D__law_frame : DefX P w K mg base "_law_frame" 2 ["_law_cell"] sp_frame48) (D__law_cell_at : DefX P w K mg base "_law_cell_at" 1 ["_law_script", "_law_k"] (sp_cell K)) (D__law_legs : DefX P w K mg base "_law_legs" 2 ["_law_some", "_law_frame_here"] sp_legs48) (D__law_wanted : DefX P w K mg base "_law_wanted" 2 ["_law_cell", "_law_frame_here"] sp_want48) (D__law_asked : DefX P w K mg base "_law_asked" 7 ["_law_legs_here", "_law_wanted_here"] sp_asked48) (D_needed : DefX P w K mg base "needed" 6 ["legs", "wanted"] sp_needed) : FnOk P w K mg base (CXx P w) 8 f fd ["_law_script"] (sp_law K) := by
  refine F.okX sc_law (fun vs H Q E h => ?_) (fun cdv A outer s H vs Q E hr h => ?_)
  · obtain ⟨a, ns, rfl, hS, hlen, q⟩ := h; rfl
  obtain ⟨a, ns, rfl, hS, hlen, q⟩ := h
  refine ⟨_, (pss_cons (ps_set (i := 1) sc_law.nd rfl (Or.inl rfl) (pe_callS D__law_frame passesN (hr.mono (by decide)) rfl (pa_cons (pe_callS D__law_cell_at passesN (hr.mono (by decide)) rfl (pa_cons (pv 0) (pa_cons pe_int pa_nil))) pa_nil)))
      (pss_cons (ps_set (i := 2) sc_law.nd rfl (Or.inl rfl) (pe_callS D__law_legs passesN (hr.mono (by decide)) rfl (pa_cons (pe_slice sl_list (pv 0) (po_some pe_int) (po_some pe_int)) (pa_cons (pv 1) pa_nil))))
      (pss_cons (ps_set (i := 3) sc_law.nd rfl (Or.inl rfl) (pe_callS D__law_wanted passesN (hr.mono (by decide)) rfl (pa_cons (pe_callS D__law_cell_at passesN (hr.mono (by decide)) rfl (pa_cons (pv 0) (pa_cons pe_int pa_nil))) (pa_cons (pv 1) pa_nil))))
      (pss_cons (ps_set (i := 4) sc_law.nd rfl (Or.inl rfl) (pe_callS D__law_wanted passesN (hr.mono (by decide)) rfl (pa_cons (pe_callS D__law_cell_at passesN (hr.mono (by decide)) rfl (pa_cons (pv 0) (pa_cons pe_int pa_nil))) (pa_cons (pv 1) pa_nil))))
      (pss_cons (ps_for PassesOwn.leaving rfl (pi_list (pe_lst (pa_cons (pv 3) (pa_cons (pv 4) (pa_cons (pe_slice sl_list (pv 3) po_none (po_some pe_int)) pa_nil))))) (pg_name (i := 5) sc_law.nd rfl (Or.inl rfl))
      (pss_one (ps_if (pt_not (pt_val (pe_callS D__law_asked passesN (hr.mono (by decide)) rfl (pa_cons (pv 2) (pa_cons (pv 5) pa_nil))))) (pss_one (ps_ret pe_bl)) pss_nil)))
      (pss_one (ps_ret (pe_and (pe_cmpR (op_eq_ref hr.units) (pe_callS D_needed passesN (hr.mono (by decide)) rfl (pa_cons (pe_callTy call_list_of (by rfl) T.b_list PyProof.Rows.boot_list (pa_cons (pv 2) pa_nil)) (pa_cons (pe_lst pa_nil) pa_nil))) (pe_lst pa_nil) (nomark _)) (pe_one (pe_callS D__law_asked passesN (hr.mono (by decide)) rfl (pa_cons (pe_slice sl_list (pv 2) po_none (po_some (pe_un un_neg pe_int))) (pa_cons (pv 3) pa_nil)))))))))))), ?_⟩
  refine ⟨_, rfl, a, ns, 0, rfl, hS, _, rfl, fun fl fr H1 hfr hfl nfl s1 => ?_⟩
  refine gNameA [some (.ref a), some (.ref fl), none, none, none, none] ?_
  dsimp only
  refine ⟨_, rfl, _, rfl, _, rfl, a, _, rfl, s1.seq hS, fun c1 hc1 => ?_⟩
  obtain ⟨cs, hcs, hcl⟩ := cut_40 ns
  have s2 : Same H1 (upd H1 c1 (.lst (cs.map V.int))) := Same.new hc1
  have hc2 : upd H1 c1 (.lst (cs.map V.int)) c1 = some (.lst (cs.map V.int)) := upd_same
  rw [hcs]
  generalize upd H1 c1 (.lst (cs.map V.int)) = H2 at s2 hc2 ⊢
  refine ⟨_, rfl, c1, fl, cs, fr, rfl, hc2, hcl, hfr, s2 _ _ hfl, fun ll LV legs H3 hll R hL48 nll s3 => ?_⟩
  refine gNameA [some (.ref a), some (.ref fl), some (.ref ll), none, none, none] ?_
  dsimp only
  have s13 := s2.trans s3
  refine ⟨_, rfl, a, ns, 1, rfl, (s1.trans s13).seq hS, _, rfl, _, fl, fr, rfl, hfr, s13 _ _ hfl, fun wl ws H4 hwl hwn hw0 nwl s4 => ?_⟩
  refine gNameA [some (.ref a), some (.ref fl), some (.ref ll), some (.ref wl), none, none] ?_
  dsimp only
  have s14 := s13.trans s4
  refine ⟨_, rfl, a, ns, 2, rfl, (s1.trans s14).seq hS, _, rfl, _, fl, fr, rfl, hfr, s14 _ _ hfl, fun ol os H5 hol hon ho0 nol s5 => ?_⟩
  refine gNameA [some (.ref a), some (.ref fl), some (.ref ll), some (.ref wl), some (.ref ol), none] ?_
  dsimp only
  have s35 := s4.trans s5
  have hll5 := s35 _ _ hll
  have hwl5 := s5 _ _ hwl
  have R5 := R.mono fun t ys e => s35 t _ e
  refine cutA (fun σ H' => ∃ v5 : Option V, σ = [some (.ref a), some (.ref fl), some (.ref ll), some (.ref wl), some (.ref ol), v5] /\ Same H5 H') (fun M hM => ?_) ?_
  · refine ⟨_, rfl, _, rfl, _, rfl, _, rfl, wl, _, rfl, SqL.of hwl5, fun c3 hc3 => ?_⟩
    obtain ⟨ps, hps, hpl, _⟩ := cut_sub ws none (some 1)
    rw [hps]
    have s6 : Same H5 (upd H5 c3 (.lst (ps.map V.int))) := Same.new hc3
    have hc6 : upd H5 c3 (.lst (ps.map V.int)) c3 = some (.lst (ps.map V.int)) := upd_same
    generalize upd H5 c3 (.lst (ps.map V.int)) = H6 at s6 hc6 ⊢
    refine ⟨(by show 3 ≤ sizeLine; decide), fun rl hrl => ?_⟩
    have s7 : Same H6 (upd H6 rl (.lst [V.ref wl, V.ref ol, V.ref c3])) := Same.new hrl
    have hrl7 : upd H6 rl (.lst [V.ref wl, V.ref ol, V.ref c3]) rl = some (.lst [V.ref wl, V.ref ol, V.ref c3]) := upd_same
    generalize upd H6 rl (.lst [V.ref wl, V.ref ol, V.ref c3]) = H7 at s7 hrl7 ⊢
    have s57 := s6.trans s7
    have hall : ∀ v ∈ [V.ref wl, V.ref ol, V.ref c3], ∃ (al : Addr) (zs : List Int), v = .ref al /\ H7 al = some (.lst (zs.map V.int)) /\ zs.length ≤ 20 := fun v hv => by
      simp only [List.mem_cons, List.not_mem_nil, or_false] at hv
      rcases hv with rfl | rfl | rfl
      · exact ⟨wl, ws, rfl, s57 _ _ hwl5, hwn⟩
      · exact ⟨ol, os, rfl, s57 _ _ hol, hon⟩
      · exact ⟨c3, ps, rfl, s7 _ _ hc6, by omega⟩
    refine ⟨rl, rfl, ⟨_, SqL.of hrl7⟩, for_list (K := K) (a := rl) (xs := [V.ref wl, V.ref ol, V.ref c3]) (fun i σ H' => ∃ v5 : Option V, σ = [some (.ref a), some (.ref fl), some (.ref ll), some (.ref wl), some (.ref ol), v5] /\ Same H7 H') ⟨none, rfl, Same.refl _⟩ (fun i σ H' _ ⟨_, _, s'⟩ => SqL.of (s' _ _ hrl7)) ?_ ?_⟩
    · rintro i v σ H8 hi ⟨v5, rfl, s8⟩
      obtain ⟨al, zs, rfl, hal, hzl⟩ := hall v (List.mem_of_getElem? hi)
      have s58 := s57.trans s8
      exact ⟨_, rfl, _, rfl, ll, al, LV, legs, zs, rfl, s58 _ _ hll5, R5.mono (fun t ys e => s58 t _ e), hL48, s8 _ _ hal, hzl, fun H9 s9 => ⟨_, rfl, iteF ⟨_, rfl, s8.trans s9⟩⟩⟩
    · rintro σ H8 ⟨v5, rfl, s8⟩
      exact hM _ _ ⟨v5, rfl, s57.trans s8⟩
  rintro σ H6 ⟨v5, rfl, s6⟩
  have hll6 := s6 _ _ hll5
  have hwl6 := s6 _ _ hwl5
  have R6 := R5.mono fun t ys e => s6 t _ e
  refine ⟨_, rfl, ll, _, rfl, .inl (SqL.of hll6), fun l1 hl1 => ?_⟩
  have s7 : Same H6 (upd H6 l1 (.lst LV)) := Same.new hl1
  have hl7 : upd H6 l1 (.lst LV) l1 = some (.lst LV) := upd_same
  generalize upd H6 l1 (.lst LV) = H7 at s7 hl7 ⊢
  refine ⟨Nat.zero_le _, fun e1 he1 => ?_⟩
  have s8 : Same H7 (upd H7 e1 (.lst [])) := Same.new he1
  have he8 : upd H7 e1 (.lst []) e1 = some (.lst (([] : List Int).map V.int)) := upd_same
  generalize upd H7 e1 (.lst []) = H8 at s8 he8 ⊢
  have s68 := s7.trans s8
  refine ⟨l1, e1, LV, legs, [], rfl, s8 _ _ hl7, R6.mono (fun t ys e => s68 t _ e), hL48, he8, fun P L nl rs H9 N hns hnl nnl s9 => ?_⟩
  have : rs = [] := by
    cases rs with
    | nil => rfl
    | cons x r => obtain ⟨g, ⟨d, hd, _⟩, _⟩ := (hns.2 x).mp (by simp); cases hd
  subst this
  refine ⟨Nat.zero_le _, fun e2 he2 => ?_⟩
  have s10 : Same H9 (upd H9 e2 (.lst [])) := Same.new he2
  have he10 : upd H9 e2 (.lst []) e2 = some (.lst []) := upd_same
  generalize upd H9 e2 (.lst []) = H10 at s10 he10 ⊢
  refine ⟨0, true, by decide, SeqEq.sameL (xs := []) (SqL.of (s10 _ _ hnl)) (SqL.of he10) (fun x hx => (by cases hx)), true, rfl, iteT ⟨_, rfl, _, rfl, _, rfl, ll, _, rfl, SqL.of (s10 _ _ (s9 _ _ (s68 _ _ hll6))), fun c4 hc4 => ?_⟩⟩
  have hcd : cutV LV none (some (-1)) = LV.dropLast := cut_last LV
  rw [hcd]
  have s610 := (s68.trans s9).trans s10
  have s11 : Same H10 (upd H10 c4 (.lst LV.dropLast)) := Same.new hc4
  have hc11 : upd H10 c4 (.lst LV.dropLast) c4 = some (.lst LV.dropLast) := upd_same
  generalize upd H10 c4 (.lst LV.dropLast) = H11 at s11 hc11 ⊢
  have s611 := s610.trans s11
  refine ⟨_, rfl, c4, wl, LV.dropLast, legs.dropLast, ws, rfl, hc11, ?_, hL48.last, s611 _ _ hwl6, hwn, fun H12 s12 => q H12⟩
  rw [List.map_dropLast]
  exact (R6.mono fun t ys e => s611 t _ e).dropLast
end
theorem all_mk {l : PySem.W.OpenLaw} {w : World} {K : PySem.W.Frag} {h : Heap} {mg : Str->Option Value} {fa : Addr} (X : K.In h) (G : h.Ns mainGlobals mg) (hfa : mg "law" = some (.ref fa))
    {C_KeepError : Addr} (a_KeepError : PySem.W.nsIn K mainGlobals "KeepError" = some (some (.ref C_KeepError)))
    {C_NoItem : Addr} (a_NoItem : PySem.W.nsIn K mainGlobals "NoItem" = some (some (.ref C_NoItem)))
    {C_Heap : Addr} (a_Heap : PySem.W.nsIn K mainGlobals "Heap" = some (some (.ref C_Heap)))
    (clg : PySem.W.specialIn K (.builtin "object.__class__") "__get__" = some (some (.builtin "getset_descriptor.__get__"))) (clt : PySem.W.takesIn K (.builtin "object.__class__") = some true)
    (xo_KeepError : xobjIn K C_KeepError = true) (xs_KeepError : PySem.W.findIn K (.ref C_KeepError) "__setattr__" = some (some (.builtin "object.__setattr__"))) (xg_KeepError : PySem.W.findIn K (.ref C_KeepError) "__getattribute__" = some (some (.builtin "BaseException.__getattribute__"))) (xh_KeepError : PySem.W.findIn K (.ref C_KeepError) "__getattr__" = some none) (xc_KeepError : PySem.W.findIn K (.ref C_KeepError) "__class__" = some (some (.builtin "object.__class__"))) (kc_KeepError : PySem.W.keepIn K (.ref C_KeepError) = true)
    (xo_NoItem : xobjIn K C_NoItem = true) (xs_NoItem : PySem.W.findIn K (.ref C_NoItem) "__setattr__" = some (some (.builtin "object.__setattr__"))) (xg_NoItem : PySem.W.findIn K (.ref C_NoItem) "__getattribute__" = some (some (.builtin "BaseException.__getattribute__"))) (xh_NoItem : PySem.W.findIn K (.ref C_NoItem) "__getattr__" = some none) (xc_NoItem : PySem.W.findIn K (.ref C_NoItem) "__class__" = some (some (.builtin "object.__class__"))) (kc_NoItem : PySem.W.keepIn K (.ref C_NoItem) = true)
    (pg_Heap : PySem.W.plainGet K C_Heap Str.empty = true) (hd_Heap : PySem.W.hasDictIn K C_Heap = true) (po_Heap : PySem.W.plainOver K C_Heap = true) (sa_Heap : PySem.W.findIn K (.ref C_Heap) "__setattr__" = some (some (.builtin "object.__setattr__"))) (mk_Heap : PySem.W.makesIn K C_Heap = true) (kc_Heap : PySem.W.keepIn K (.ref C_Heap) = true)
    (n_Heap_row : PySem.W.findIn K (.ref C_Heap) "row" = some none)
    {f0 : Addr} {od0 an0 : Option Addr} {sl0 : Array (Option Value)} {oc0 kV0 dc0 pm0 cd0 ct0 : Value}
    (a0 : PySem.W.findIn K (.ref C_Heap) "__init__" = some (some (.ref f0))) (i0 : PySem.W.isFn K (.ref f0) = true)
    (l0 : K.lookup f0 = some ⟨oc0, od0, .func (PySem.W.fnOf "__init__" "Heap.__init__" (defArgs s_Heap___init__) (defBody s_Heap___init__) (defScope s_Heap___init__) .none kV0 dc0 pm0 an0 cd0 ct0), sl0⟩) (c0 : PySem.W.codeIn K cd0 "Heap.__init__" = true) (k0 : PySem.W.keepIn K (.ref f0) = true)
    {f1 : Addr} {od1 an1 : Option Addr} {sl1 : Array (Option Value)} {oc1 kV1 dc1 pm1 cd1 ct1 : Value}
    (a1 : PySem.W.findIn K (.ref C_Heap) "add" = some (some (.ref f1))) (i1 : PySem.W.isFn K (.ref f1) = true)
    (l1 : K.lookup f1 = some ⟨oc1, od1, .func (PySem.W.fnOf "add" "Heap.add" (defArgs s_Heap_add) (defBody s_Heap_add) (defScope s_Heap_add) .none kV1 dc1 pm1 an1 cd1 ct1), sl1⟩) (c1 : PySem.W.codeIn K cd1 "Heap.add" = true) (k1 : PySem.W.keepIn K (.ref f1) = true)
    {f2 : Addr} {od2 an2 : Option Addr} {sl2 : Array (Option Value)} {oc2 kV2 dc2 pm2 cd2 ct2 : Value}
    (a2 : PySem.W.findIn K (.ref C_Heap) "least" = some (some (.ref f2))) (i2 : PySem.W.isFn K (.ref f2) = true)
    (l2 : K.lookup f2 = some ⟨oc2, od2, .func (PySem.W.fnOf "least" "Heap.least" (defArgs s_Heap_least) (defBody s_Heap_least) (defScope s_Heap_least) .none kV2 dc2 pm2 an2 cd2 ct2), sl2⟩) (c2 : PySem.W.codeIn K cd2 "Heap.least" = true) (k2 : PySem.W.keepIn K (.ref f2) = true)
    {f3 : Addr} {od3 an3 : Option Addr} {sl3 : Array (Option Value)} {oc3 kV3 dc3 pm3 cd3 ct3 : Value}
    (a3 : PySem.W.findIn K (.ref C_Heap) "take" = some (some (.ref f3))) (i3 : PySem.W.isFn K (.ref f3) = true)
    (l3 : K.lookup f3 = some ⟨oc3, od3, .func (PySem.W.fnOf "take" "Heap.take" (defArgs s_Heap_take) (defBody s_Heap_take) (defScope s_Heap_take) .none kV3 dc3 pm3 an3 cd3 ct3), sl3⟩) (c3 : PySem.W.codeIn K cd3 "Heap.take" = true) (k3 : PySem.W.keepIn K (.ref f3) = true)
    {f4 : Addr} {od4 an4 : Option Addr} {sl4 : Array (Option Value)} {oc4 kV4 dc4 pm4 cd4 ct4 : Value}
    (a4 : PySem.W.findIn K (.ref C_Heap) "size" = some (some (.ref f4))) (i4 : PySem.W.isFn K (.ref f4) = true)
    (l4 : K.lookup f4 = some ⟨oc4, od4, .func (PySem.W.fnOf "size" "Heap.size" (defArgs s_Heap_size) (defBody s_Heap_size) (defScope s_Heap_size) .none kV4 dc4 pm4 an4 cd4 ct4), sl4⟩) (c4 : PySem.W.codeIn K cd4 "Heap.size" = true) (k4 : PySem.W.keepIn K (.ref f4) = true)
    {f5 : Addr} {od5 an5 : Option Addr} {sl5 : Array (Option Value)} {oc5 kV5 dc5 pm5 cd5 ct5 : Value}
    (a5 : PySem.W.findIn K (.ref C_Heap) "lift" = some (some (.ref f5))) (i5 : PySem.W.isFn K (.ref f5) = true)
    (l5 : K.lookup f5 = some ⟨oc5, od5, .func (PySem.W.fnOf "lift" "Heap.lift" (defArgs s_Heap_lift) (defBody s_Heap_lift) (defScope s_Heap_lift) .none kV5 dc5 pm5 an5 cd5 ct5), sl5⟩) (c5 : PySem.W.codeIn K cd5 "Heap.lift" = true) (k5 : PySem.W.keepIn K (.ref f5) = true)
    {f6 : Addr} {od6 an6 : Option Addr} {sl6 : Array (Option Value)} {oc6 kV6 dc6 pm6 cd6 ct6 : Value}
    (a6 : PySem.W.findIn K (.ref C_Heap) "sink" = some (some (.ref f6))) (i6 : PySem.W.isFn K (.ref f6) = true)
    (l6 : K.lookup f6 = some ⟨oc6, od6, .func (PySem.W.fnOf "sink" "Heap.sink" (defArgs s_Heap_sink) (defBody s_Heap_sink) (defScope s_Heap_sink) .none kV6 dc6 pm6 an6 cd6 ct6), sl6⟩) (c6 : PySem.W.codeIn K cd6 "Heap.sink" = true) (k6 : PySem.W.keepIn K (.ref f6) = true)
    {f7 : Addr} {od7 an7 : Option Addr} {sl7 : Array (Option Value)} {oc7 kV7 dc7 pm7 cd7 ct7 : Value}
    (a7 : PySem.W.findIn K (.ref C_Heap) "lesser_below" = some (some (.ref f7))) (i7 : PySem.W.isFn K (.ref f7) = true)
    (l7 : K.lookup f7 = some ⟨oc7, od7, .func (PySem.W.fnOf "lesser_below" "Heap.lesser_below" (defArgs s_Heap_lesser_below) (defBody s_Heap_lesser_below) (defScope s_Heap_lesser_below) .none kV7 dc7 pm7 an7 cd7 ct7), sl7⟩) (c7 : PySem.W.codeIn K cd7 "Heap.lesser_below" = true) (k7 : PySem.W.keepIn K (.ref f7) = true)
    {f8 : Addr} {od8 an8 : Option Addr} {sl8 : Array (Option Value)} {oc8 kV8 dc8 pm8 cd8 ct8 : Value}
    (a8 : PySem.W.findIn K (.ref C_Heap) "swap" = some (some (.ref f8))) (i8 : PySem.W.isFn K (.ref f8) = true)
    (l8 : K.lookup f8 = some ⟨oc8, od8, .func (PySem.W.fnOf "swap" "Heap.swap" (defArgs s_Heap_swap) (defBody s_Heap_swap) (defScope s_Heap_swap) .none kV8 dc8 pm8 an8 cd8 ct8), sl8⟩) (c8 : PySem.W.codeIn K cd8 "Heap.swap" = true) (k8 : PySem.W.keepIn K (.ref f8) = true)
    {f9 : Addr} {od9 an9 : Option Addr} {sl9 : Array (Option Value)} {oc9 kV9 dc9 pm9 cd9 ct9 : Value}
    (a9 : PySem.W.nsIn K mainGlobals "prices" = some (some (.ref f9)))
    (l9 : K.lookup f9 = some ⟨oc9, od9, .func (PySem.W.fnOf "prices" "prices" (defArgs s_prices) (defBody s_prices) (defScope s_prices) .none kV9 dc9 pm9 an9 cd9 ct9), sl9⟩) (c9 : PySem.W.codeIn K cd9 "prices" = true) (k9 : PySem.W.keepIn K (.ref f9) = true)
    {f10 : Addr} {od10 an10 : Option Addr} {sl10 : Array (Option Value)} {oc10 kV10 dc10 pm10 cd10 ct10 : Value}
    (a10 : PySem.W.nsIn K mainGlobals "last_legs" = some (some (.ref f10)))
    (l10 : K.lookup f10 = some ⟨oc10, od10, .func (PySem.W.fnOf "last_legs" "last_legs" (defArgs s_last_legs) (defBody s_last_legs) (defScope s_last_legs) .none kV10 dc10 pm10 an10 cd10 ct10), sl10⟩) (c10 : PySem.W.codeIn K cd10 "last_legs" = true) (k10 : PySem.W.keepIn K (.ref f10) = true)
    {f11 : Addr} {od11 an11 : Option Addr} {sl11 : Array (Option Value)} {oc11 kV11 dc11 pm11 cd11 ct11 : Value}
    (a11 : PySem.W.nsIn K mainGlobals "legs_by_start" = some (some (.ref f11)))
    (l11 : K.lookup f11 = some ⟨oc11, od11, .func (PySem.W.fnOf "legs_by_start" "legs_by_start" (defArgs s_legs_by_start) (defBody s_legs_by_start) (defScope s_legs_by_start) .none kV11 dc11 pm11 an11 cd11 ct11), sl11⟩) (c11 : PySem.W.codeIn K cd11 "legs_by_start" = true) (k11 : PySem.W.keepIn K (.ref f11) = true)
    {f12 : Addr} {od12 an12 : Option Addr} {sl12 : Array (Option Value)} {oc12 kV12 dc12 pm12 cd12 ct12 : Value}
    (a12 : PySem.W.nsIn K mainGlobals "price_at" = some (some (.ref f12)))
    (l12 : K.lookup f12 = some ⟨oc12, od12, .func (PySem.W.fnOf "price_at" "price_at" (defArgs s_price_at) (defBody s_price_at) (defScope s_price_at) .none kV12 dc12 pm12 an12 cd12 ct12), sl12⟩) (c12 : PySem.W.codeIn K cd12 "price_at" = true) (k12 : PySem.W.keepIn K (.ref f12) = true)
    {f13 : Addr} {od13 an13 : Option Addr} {sl13 : Array (Option Value)} {oc13 kV13 dc13 pm13 cd13 ct13 : Value}
    (a13 : PySem.W.nsIn K mainGlobals "price_over" = some (some (.ref f13)))
    (l13 : K.lookup f13 = some ⟨oc13, od13, .func (PySem.W.fnOf "price_over" "price_over" (defArgs s_price_over) (defBody s_price_over) (defScope s_price_over) .none kV13 dc13 pm13 an13 cd13 ct13), sl13⟩) (c13 : PySem.W.codeIn K cd13 "price_over" = true) (k13 : PySem.W.keepIn K (.ref f13) = true)
    {f14 : Addr} {od14 an14 : Option Addr} {sl14 : Array (Option Value)} {oc14 kV14 dc14 pm14 cd14 ct14 : Value}
    (a14 : PySem.W.nsIn K mainGlobals "needed" = some (some (.ref f14)))
    (l14 : K.lookup f14 = some ⟨oc14, od14, .func (PySem.W.fnOf "needed" "needed" (defArgs s_needed) (defBody s_needed) (defScope s_needed) .none kV14 dc14 pm14 an14 cd14 ct14), sl14⟩) (c14 : PySem.W.codeIn K cd14 "needed" = true) (k14 : PySem.W.keepIn K (.ref f14) = true)
    {f15 : Addr} {od15 an15 : Option Addr} {sl15 : Array (Option Value)} {oc15 kV15 dc15 pm15 cd15 ct15 : Value}
    (a15 : PySem.W.nsIn K mainGlobals "_law_cell_at" = some (some (.ref f15)))
    (l15 : K.lookup f15 = some ⟨oc15, od15, .func (PySem.W.fnOf "_law_cell_at" "_law_cell_at" (defArgs s__law_cell_at) (defBody s__law_cell_at) (defScope s__law_cell_at) .none kV15 dc15 pm15 an15 cd15 ct15), sl15⟩) (c15 : PySem.W.codeIn K cd15 "_law_cell_at" = true) (k15 : PySem.W.keepIn K (.ref f15) = true)
    {f16 : Addr} {od16 an16 : Option Addr} {sl16 : Array (Option Value)} {oc16 kV16 dc16 pm16 cd16 ct16 : Value}
    (a16 : PySem.W.nsIn K mainGlobals "_law_whole" = some (some (.ref f16)))
    (l16 : K.lookup f16 = some ⟨oc16, od16, .func (PySem.W.fnOf "_law_whole" "_law_whole" (defArgs s__law_whole) (defBody s__law_whole) (defScope s__law_whole) .none kV16 dc16 pm16 an16 cd16 ct16), sl16⟩) (c16 : PySem.W.codeIn K cd16 "_law_whole" = true) (k16 : PySem.W.keepIn K (.ref f16) = true)
    {f17 : Addr} {od17 an17 : Option Addr} {sl17 : Array (Option Value)} {oc17 kV17 dc17 pm17 cd17 ct17 : Value}
    (a17 : PySem.W.nsIn K mainGlobals "_law_stream" = some (some (.ref f17)))
    (l17 : K.lookup f17 = some ⟨oc17, od17, .func (PySem.W.fnOf "_law_stream" "_law_stream" (defArgs s__law_stream) (defBody s__law_stream) (defScope s__law_stream) .none kV17 dc17 pm17 an17 cd17 ct17), sl17⟩) (c17 : PySem.W.codeIn K cd17 "_law_stream" = true) (k17 : PySem.W.keepIn K (.ref f17) = true)
    {f18 : Addr} {od18 an18 : Option Addr} {sl18 : Array (Option Value)} {oc18 kV18 dc18 pm18 cd18 ct18 : Value}
    (a18 : PySem.W.nsIn K mainGlobals "_law_legs" = some (some (.ref f18)))
    (l18 : K.lookup f18 = some ⟨oc18, od18, .func (PySem.W.fnOf "_law_legs" "_law_legs" (defArgs s__law_legs) (defBody s__law_legs) (defScope s__law_legs) .none kV18 dc18 pm18 an18 cd18 ct18), sl18⟩) (c18 : PySem.W.codeIn K cd18 "_law_legs" = true) (k18 : PySem.W.keepIn K (.ref f18) = true)
    {f19 : Addr} {od19 an19 : Option Addr} {sl19 : Array (Option Value)} {oc19 kV19 dc19 pm19 cd19 ct19 : Value}
    (a19 : PySem.W.nsIn K mainGlobals "_law_frame" = some (some (.ref f19)))
    (l19 : K.lookup f19 = some ⟨oc19, od19, .func (PySem.W.fnOf "_law_frame" "_law_frame" (defArgs s__law_frame) (defBody s__law_frame) (defScope s__law_frame) .none kV19 dc19 pm19 an19 cd19 ct19), sl19⟩) (c19 : PySem.W.codeIn K cd19 "_law_frame" = true) (k19 : PySem.W.keepIn K (.ref f19) = true)
    {f20 : Addr} {od20 an20 : Option Addr} {sl20 : Array (Option Value)} {oc20 kV20 dc20 pm20 cd20 ct20 : Value}
    (a20 : PySem.W.nsIn K mainGlobals "_law_wanted" = some (some (.ref f20)))
    (l20 : K.lookup f20 = some ⟨oc20, od20, .func (PySem.W.fnOf "_law_wanted" "_law_wanted" (defArgs s__law_wanted) (defBody s__law_wanted) (defScope s__law_wanted) .none kV20 dc20 pm20 an20 cd20 ct20), sl20⟩) (c20 : PySem.W.codeIn K cd20 "_law_wanted" = true) (k20 : PySem.W.keepIn K (.ref f20) = true)
    {f21 : Addr} {od21 an21 : Option Addr} {sl21 : Array (Option Value)} {oc21 kV21 dc21 pm21 cd21 ct21 : Value}
    (a21 : PySem.W.nsIn K mainGlobals "_law_behind" = some (some (.ref f21)))
    (l21 : K.lookup f21 = some ⟨oc21, od21, .func (PySem.W.fnOf "_law_behind" "_law_behind" (defArgs s__law_behind) (defBody s__law_behind) (defScope s__law_behind) .none kV21 dc21 pm21 an21 cd21 ct21), sl21⟩) (c21 : PySem.W.codeIn K cd21 "_law_behind" = true) (k21 : PySem.W.keepIn K (.ref f21) = true)
    {f22 : Addr} {od22 an22 : Option Addr} {sl22 : Array (Option Value)} {oc22 kV22 dc22 pm22 cd22 ct22 : Value}
    (a22 : PySem.W.nsIn K mainGlobals "_law_prices" = some (some (.ref f22)))
    (l22 : K.lookup f22 = some ⟨oc22, od22, .func (PySem.W.fnOf "_law_prices" "_law_prices" (defArgs s__law_prices) (defBody s__law_prices) (defScope s__law_prices) .none kV22 dc22 pm22 an22 cd22 ct22), sl22⟩) (c22 : PySem.W.codeIn K cd22 "_law_prices" = true) (k22 : PySem.W.keepIn K (.ref f22) = true)
    {f23 : Addr} {od23 an23 : Option Addr} {sl23 : Array (Option Value)} {oc23 kV23 dc23 pm23 cd23 ct23 : Value}
    (a23 : PySem.W.nsIn K mainGlobals "_law_due" = some (some (.ref f23)))
    (l23 : K.lookup f23 = some ⟨oc23, od23, .func (PySem.W.fnOf "_law_due" "_law_due" (defArgs s__law_due) (defBody s__law_due) (defScope s__law_due) .none kV23 dc23 pm23 an23 cd23 ct23), sl23⟩) (c23 : PySem.W.codeIn K cd23 "_law_due" = true) (k23 : PySem.W.keepIn K (.ref f23) = true)
    {f24 : Addr} {od24 an24 : Option Addr} {sl24 : Array (Option Value)} {oc24 kV24 dc24 pm24 cd24 ct24 : Value}
    (a24 : PySem.W.nsIn K mainGlobals "_law_lacks" = some (some (.ref f24)))
    (l24 : K.lookup f24 = some ⟨oc24, od24, .func (PySem.W.fnOf "_law_lacks" "_law_lacks" (defArgs s__law_lacks) (defBody s__law_lacks) (defScope s__law_lacks) .none kV24 dc24 pm24 an24 cd24 ct24), sl24⟩) (c24 : PySem.W.codeIn K cd24 "_law_lacks" = true) (k24 : PySem.W.keepIn K (.ref f24) = true)
    {f25 : Addr} {od25 an25 : Option Addr} {sl25 : Array (Option Value)} {oc25 kV25 dc25 pm25 cd25 ct25 : Value}
    (a25 : PySem.W.nsIn K mainGlobals "_law_tree" = some (some (.ref f25)))
    (l25 : K.lookup f25 = some ⟨oc25, od25, .func (PySem.W.fnOf "_law_tree" "_law_tree" (defArgs s__law_tree) (defBody s__law_tree) (defScope s__law_tree) .none kV25 dc25 pm25 an25 cd25 ct25), sl25⟩) (c25 : PySem.W.codeIn K cd25 "_law_tree" = true) (k25 : PySem.W.keepIn K (.ref f25) = true)
    {f26 : Addr} {od26 an26 : Option Addr} {sl26 : Array (Option Value)} {oc26 kV26 dc26 pm26 cd26 ct26 : Value}
    (a26 : PySem.W.nsIn K mainGlobals "_law_asked" = some (some (.ref f26)))
    (l26 : K.lookup f26 = some ⟨oc26, od26, .func (PySem.W.fnOf "_law_asked" "_law_asked" (defArgs s__law_asked) (defBody s__law_asked) (defScope s__law_asked) .none kV26 dc26 pm26 an26 cd26 ct26), sl26⟩) (c26 : PySem.W.codeIn K cd26 "_law_asked" = true) (k26 : PySem.W.keepIn K (.ref f26) = true)
    {f27 : Addr} {od27 an27 : Option Addr} {sl27 : Array (Option Value)} {oc27 kV27 dc27 pm27 cd27 ct27 : Value}
    (a27 : PySem.W.nsIn K mainGlobals "law" = some (some (.ref f27)))
    (l27 : K.lookup f27 = some ⟨oc27, od27, .func (PySem.W.fnOf "law" "law" (defArgs s_law) (defBody s_law) (defScope s_law) .none kV27 dc27 pm27 an27 cd27 ct27), sl27⟩) (c27 : PySem.W.codeIn K cd27 "law" = true) (k27 : PySem.W.keepIn K (.ref f27) = true)
    (z_len : PySem.W.nsIn K mainGlobals "len" = some none)
    (z_isinstance : PySem.W.nsIn K mainGlobals "isinstance" = some none)
    (z_int : PySem.W.nsIn K mainGlobals "int" = some none)
    (z_bool : PySem.W.nsIn K mainGlobals "bool" = some none)
    (z_list : PySem.W.nsIn K mainGlobals "list" = some none)
    (z_tuple : PySem.W.nsIn K mainGlobals "tuple" = some none)
    (z_dict : PySem.W.nsIn K mainGlobals "dict" = some none)
    (z_range : PySem.W.nsIn K mainGlobals "range" = some none)
    (z_min : PySem.W.nsIn K mainGlobals "min" = some none)
    (z_max : PySem.W.nsIn K mainGlobals "max" = some none)
    (z_sorted : PySem.W.nsIn K mainGlobals "sorted" = some none)
    (z_reversed : PySem.W.nsIn K mainGlobals "reversed" = some none)
    (z_str : PySem.W.nsIn K mainGlobals "str" = some none)
    (z_ValueError : PySem.W.nsIn K mainGlobals "ValueError" = some none)
    (z_set : PySem.W.nsIn K mainGlobals "set" = some none)
    (in0_NoItem : PySem.W.findIn K (.ref C_NoItem) "__init__" = some (some (.builtin "ValueError.__init__")))
    (kp0_NoItem : PySem.W.keepIn K (.ref C_NoItem) = true)
    : ∃ fd : FuncData, (∀ (s : Shared) (v : Value), BindsTo s fd ⟨[v], []⟩ [("_law_script", v)]) /\ ∀ base : Heap, K.In base->base.Ns mainGlobals mg->FnOk l.prog w K mg base (CXx l.prog w) 8 fa fd ["_law_script"] (sp_law K) := by
  have e := hfa.symm.trans (PySem.W.mg_of X G a27)
  cases e
  have T : Txt K mg C_KeepError C_NoItem C_Heap := ⟨PySem.W.mg_of X G a_KeepError, ⟨xo_KeepError, xs_KeepError, xg_KeepError, xh_KeepError, xc_KeepError, clg, clt⟩, PySem.W.mg_of X G a_NoItem, ⟨xo_NoItem, xs_NoItem, xg_NoItem, xh_NoItem, xc_NoItem, clg, clt⟩, PySem.W.mg_of X G a_Heap, ⟨pg_Heap, hd_Heap, po_Heap, sa_Heap⟩, n_Heap_row, PySem.W.mg_none_of X G z_len, PySem.W.mg_none_of X G z_isinstance, PySem.W.mg_none_of X G z_int, PySem.W.mg_none_of X G z_bool, PySem.W.mg_none_of X G z_list, PySem.W.mg_none_of X G z_tuple, PySem.W.mg_none_of X G z_dict, PySem.W.mg_none_of X G z_range, PySem.W.mg_none_of X G z_min, PySem.W.mg_none_of X G z_max, PySem.W.mg_none_of X G z_sorted, PySem.W.mg_none_of X G z_reversed, PySem.W.mg_none_of X G z_str, PySem.W.mg_none_of X G z_ValueError, PySem.W.mg_none_of X G z_set, in0_NoItem, kp0_NoItem⟩
  have F0 := fun_mk (st := s_Heap___init__) l0 c0 k0
  have b0 := F0.binds (ps := ["self"]) fun _ _ _ _ _ _ us hl => match us, hl with | [_], _ => rfl
  have F1 := fun_mk (st := s_Heap_add) l1 c1 k1
  have b1 := F1.binds (ps := ["self", "item"]) fun _ _ _ _ _ _ us hl => match us, hl with | [_, _], _ => rfl
  have F2 := fun_mk (st := s_Heap_least) l2 c2 k2
  have b2 := F2.binds (ps := ["self"]) fun _ _ _ _ _ _ us hl => match us, hl with | [_], _ => rfl
  have F3 := fun_mk (st := s_Heap_take) l3 c3 k3
  have b3 := F3.binds (ps := ["self"]) fun _ _ _ _ _ _ us hl => match us, hl with | [_], _ => rfl
  have F4 := fun_mk (st := s_Heap_size) l4 c4 k4
  have b4 := F4.binds (ps := ["self"]) fun _ _ _ _ _ _ us hl => match us, hl with | [_], _ => rfl
  have F5 := fun_mk (st := s_Heap_lift) l5 c5 k5
  have b5 := F5.binds (ps := ["self", "place"]) fun _ _ _ _ _ _ us hl => match us, hl with | [_, _], _ => rfl
  have F6 := fun_mk (st := s_Heap_sink) l6 c6 k6
  have b6 := F6.binds (ps := ["self", "place"]) fun _ _ _ _ _ _ us hl => match us, hl with | [_, _], _ => rfl
  have F7 := fun_mk (st := s_Heap_lesser_below) l7 c7 k7
  have b7 := F7.binds (ps := ["self", "place"]) fun _ _ _ _ _ _ us hl => match us, hl with | [_, _], _ => rfl
  have F8 := fun_mk (st := s_Heap_swap) l8 c8 k8
  have b8 := F8.binds (ps := ["self", "one", "other"]) fun _ _ _ _ _ _ us hl => match us, hl with | [_, _, _], _ => rfl
  have F9 := fun_mk (st := s_prices) l9 c9 k9
  have b9 := F9.binds (ps := ["legs"]) fun _ _ _ _ _ _ us hl => match us, hl with | [_], _ => rfl
  have F10 := fun_mk (st := s_last_legs) l10 c10 k10
  have b10 := F10.binds (ps := ["legs"]) fun _ _ _ _ _ _ us hl => match us, hl with | [_], _ => rfl
  have F11 := fun_mk (st := s_legs_by_start) l11 c11 k11
  have b11 := F11.binds (ps := ["legs"]) fun _ _ _ _ _ _ us hl => match us, hl with | [_], _ => rfl
  have F12 := fun_mk (st := s_price_at) l12 c12 k12
  have b12 := F12.binds (ps := ["priced", "start"]) fun _ _ _ _ _ _ us hl => match us, hl with | [_, _], _ => rfl
  have F13 := fun_mk (st := s_price_over) l13 c13 k13
  have b13 := F13.binds (ps := ["price", "leg"]) fun _ _ _ _ _ _ us hl => match us, hl with | [_, _], _ => rfl
  have F14 := fun_mk (st := s_needed) l14 c14 k14
  have b14 := F14.binds (ps := ["legs", "wanted"]) fun _ _ _ _ _ _ us hl => match us, hl with | [_, _], _ => rfl
  have F15 := fun_mk (st := s__law_cell_at) l15 c15 k15
  have b15 := F15.binds (ps := ["_law_script", "_law_k"]) fun _ _ _ _ _ _ us hl => match us, hl with | [_, _], _ => rfl
  have F16 := fun_mk (st := s__law_whole) l16 c16 k16
  have b16 := F16.binds (ps := ["_law_found"]) fun _ _ _ _ _ _ us hl => match us, hl with | [_], _ => rfl
  have F17 := fun_mk (st := s__law_stream) l17 c17 k17
  have b17 := F17.binds (ps := ["_law_cell", "_law_many"]) fun _ _ _ _ _ _ us hl => match us, hl with | [_, _], _ => rfl
  have F18 := fun_mk (st := s__law_legs) l18 c18 k18
  have b18 := F18.binds (ps := ["_law_some", "_law_frame_here"]) fun _ _ _ _ _ _ us hl => match us, hl with | [_, _], _ => rfl
  have F19 := fun_mk (st := s__law_frame) l19 c19 k19
  have b19 := F19.binds (ps := ["_law_cell"]) fun _ _ _ _ _ _ us hl => match us, hl with | [_], _ => rfl
  have F20 := fun_mk (st := s__law_wanted) l20 c20 k20
  have b20 := F20.binds (ps := ["_law_cell", "_law_frame_here"]) fun _ _ _ _ _ _ us hl => match us, hl with | [_, _], _ => rfl
  have F21 := fun_mk (st := s__law_behind) l21 c21 k21
  have b21 := F21.binds (ps := ["_law_price", "_law_leg"]) fun _ _ _ _ _ _ us hl => match us, hl with | [_, _], _ => rfl
  have F22 := fun_mk (st := s__law_prices) l22 c22 k22
  have b22 := F22.binds (ps := ["_law_legs_here"]) fun _ _ _ _ _ _ us hl => match us, hl with | [_], _ => rfl
  have F23 := fun_mk (st := s__law_due) l23 c23 k23
  have b23 := F23.binds (ps := ["_law_legs_here", "_law_best", "_law_wanted_here"]) fun _ _ _ _ _ _ us hl => match us, hl with | [_, _, _], _ => rfl
  have F24 := fun_mk (st := s__law_lacks) l24 c24 k24
  have b24 := F24.binds (ps := ["_law_legs_here", "_law_wanted_here", "_law_best"]) fun _ _ _ _ _ _ us hl => match us, hl with | [_, _, _], _ => rfl
  have F25 := fun_mk (st := s__law_tree) l25 c25 k25
  have b25 := F25.binds (ps := ["_law_legs_here", "_law_stay", "_law_wanted_here", "_law_best"]) fun _ _ _ _ _ _ us hl => match us, hl with | [_, _, _, _], _ => rfl
  have F26 := fun_mk (st := s__law_asked) l26 c26 k26
  have b26 := F26.binds (ps := ["_law_legs_here", "_law_wanted_here"]) fun _ _ _ _ _ _ us hl => match us, hl with | [_, _], _ => rfl
  have F27 := fun_mk (st := s_law) l27 c27 k27
  have b27 := F27.binds (ps := ["_law_script"]) fun _ _ _ _ _ _ us hl => match us, hl with | [_], _ => rfl
  refine ⟨PySem.W.fnOf "law" "law" (defArgs s_law) (defBody s_law) (defScope s_law) .none kV27 dc27 pm27 an27 cd27 ct27, fun s v => .of_eq rfl, fun base _ _ => ?_⟩
  have D_Heap : MakeX l.prog w K mg base "Heap" C_Heap 1 ["self"] (sp_hinit C_Heap) := ⟨_, _, PySem.W.mg_of X G a_Heap, ⟨mk_Heap, a0, i0, kc_Heap⟩, ok_Heap___init__ F0 T , b0⟩
  have D_Heap_swap : MethX l.prog w K mg base C_Heap "swap" 1 ["self", "one", "other"] (sp_swap C_Heap) := ⟨_, _, ⟨a8, i8, k8⟩, ok_Heap_swap F8 T , b8⟩
  have D_Heap_lift : MethX l.prog w K mg base C_Heap "lift" 2 ["self", "place"] (sp_lift C_Heap) := ⟨_, _, ⟨a5, i5, k5⟩, ok_Heap_lift F5 T D_Heap_swap, b5⟩
  have D_Heap_add : MethX l.prog w K mg base C_Heap "add" 3 ["self", "item"] (sp_add C_Heap) := ⟨_, _, ⟨a1, i1, k1⟩, ok_Heap_add F1 T D_Heap_lift, b1⟩
  have D_Heap_least : MethX l.prog w K mg base C_Heap "least" 2 ["self"] (sp_least C_Heap C_NoItem) := ⟨_, _, ⟨a2, i2, k2⟩, ok_Heap_least F2 T , b2⟩
  have D_Heap_lesser_below : MethX l.prog w K mg base C_Heap "lesser_below" 1 ["self", "place"] (sp_lesser C_Heap) := ⟨_, _, ⟨a7, i7, k7⟩, ok_Heap_lesser_below F7 T , b7⟩
  have D_Heap_sink : MethX l.prog w K mg base C_Heap "sink" 2 ["self", "place"] (sp_sink C_Heap) := ⟨_, _, ⟨a6, i6, k6⟩, ok_Heap_sink F6 T D_Heap_lesser_below D_Heap_swap, b6⟩
  have D_Heap_take : MethX l.prog w K mg base C_Heap "take" 3 ["self"] (sp_take C_Heap C_NoItem) := ⟨_, _, ⟨a3, i3, k3⟩, ok_Heap_take F3 T D_Heap_least D_Heap_sink, b3⟩
  have D_Heap_size : MethX l.prog w K mg base C_Heap "size" 1 ["self"] (sp_hsize C_Heap) := ⟨_, _, ⟨a4, i4, k4⟩, ok_Heap_size F4 T , b4⟩
  have D_legs_by_start : DefX l.prog w K mg base "legs_by_start" 1 ["legs"] sp_lbs := ⟨_, _, PySem.W.mg_of X G a11, ok_legs_by_start F11 T , k11, b11⟩
  have D_price_over : DefX l.prog w K mg base "price_over" 1 ["price", "leg"] sp_over := ⟨_, _, PySem.W.mg_of X G a13, ok_price_over F13 T , k13, b13⟩
  have D_prices : DefX l.prog w K mg base "prices" 4 ["legs"] sp_prices := ⟨_, _, PySem.W.mg_of X G a9, ok_prices F9 T D_legs_by_start D_Heap D_Heap_add D_Heap_size D_Heap_take D_price_over, k9, b9⟩
  have D_price_at : DefX l.prog w K mg base "price_at" 1 ["priced", "start"] sp_priceat := ⟨_, _, PySem.W.mg_of X G a12, ok_price_at F12 T , k12, b12⟩
  have D_last_legs : DefX l.prog w K mg base "last_legs" 5 ["legs"] sp_last := ⟨_, _, PySem.W.mg_of X G a10, ok_last_legs F10 T D_prices D_price_at D_price_over, k10, b10⟩
  have D_needed : DefX l.prog w K mg base "needed" 6 ["legs", "wanted"] sp_needed := ⟨_, _, PySem.W.mg_of X G a14, ok_needed F14 T D_last_legs, k14, b14⟩
  have D__law_cell_at : DefX l.prog w K mg base "_law_cell_at" 1 ["_law_script", "_law_k"] (sp_cell K) := ⟨_, _, PySem.W.mg_of X G a15, ok__law_cell_at F15 T , k15, b15⟩
  have D__law_whole : DefX l.prog w K mg base "_law_whole" 1 ["_law_found"] sp_whole := ⟨_, _, PySem.W.mg_of X G a16, ok__law_whole F16 T , k16, b16⟩
  have D__law_stream : DefX l.prog w K mg base "_law_stream" 1 ["_law_cell", "_law_many"] sp_drawn := ⟨_, _, PySem.W.mg_of X G a17, ok__law_stream F17 T , k17, b17⟩
  have D__law_legs : DefX l.prog w K mg base "_law_legs" 2 ["_law_some", "_law_frame_here"] sp_legs48 := ⟨_, _, PySem.W.mg_of X G a18, ok__law_legs F18 T D__law_stream, k18, b18⟩
  have D__law_frame : DefX l.prog w K mg base "_law_frame" 2 ["_law_cell"] sp_frame48 := ⟨_, _, PySem.W.mg_of X G a19, ok__law_frame F19 T D__law_stream, k19, b19⟩
  have D__law_wanted : DefX l.prog w K mg base "_law_wanted" 2 ["_law_cell", "_law_frame_here"] sp_want48 := ⟨_, _, PySem.W.mg_of X G a20, ok__law_wanted F20 T D__law_stream, k20, b20⟩
  have D__law_behind : DefX l.prog w K mg base "_law_behind" 1 ["_law_price", "_law_leg"] sp_over := ⟨_, _, PySem.W.mg_of X G a21, ok__law_behind F21 T , k21, b21⟩
  have D__law_prices : DefX l.prog w K mg base "_law_prices" 2 ["_law_legs_here"] sp_lpr48 := ⟨_, _, PySem.W.mg_of X G a22, ok__law_prices F22 T D__law_behind, k22, b22⟩
  have D__law_due : DefX l.prog w K mg base "_law_due" 2 ["_law_legs_here", "_law_best", "_law_wanted_here"] sp_due48 := ⟨_, _, PySem.W.mg_of X G a23, ok__law_due F23 T D__law_behind, k23, b23⟩
  have D__law_lacks : DefX l.prog w K mg base "_law_lacks" 3 ["_law_legs_here", "_law_wanted_here", "_law_best"] sp_lacks48 := ⟨_, _, PySem.W.mg_of X G a24, ok__law_lacks F24 T D__law_prices, k24, b24⟩
  have D__law_tree : DefX l.prog w K mg base "_law_tree" 4 ["_law_legs_here", "_law_stay", "_law_wanted_here", "_law_best"] sp_tree48 := ⟨_, _, PySem.W.mg_of X G a25, ok__law_tree F25 T D__law_prices D__law_lacks, k25, b25⟩
  have D__law_asked : DefX l.prog w K mg base "_law_asked" 7 ["_law_legs_here", "_law_wanted_here"] sp_asked48 := ⟨_, _, PySem.W.mg_of X G a26, ok__law_asked F26 T D__law_prices D_needed D__law_whole D__law_due D__law_tree, k26, b26⟩
  exact ok_law F27 T D__law_frame D__law_cell_at D__law_legs D__law_wanted D__law_asked D_needed
theorem walk {l : PySem.W.OpenLaw} {q : Program} {loose : List Str} {XP : (Str->Option Value)->Heap->Prop} {YP : World->Heap->Prop} {d : DefRec} {K : Params->PySem.W.Frag} (hn : l.most = some 63) (hdf : d.params.defaults = [])
    (hY : ∀ (w : World) (h : Heap), YP w h->(K w.params).In h)
    (F : ∀ (w : World) (mg : Str->Option Value) (fa : Addr) (h : Heap), (K w.params).In h->h.Ns mainGlobals mg->mg d.name = some (.ref fa) →
      ∃ fd : FuncData, (∀ (s : Shared) (u : Value), BindsTo s fd ⟨[u], []⟩ [("_law_script", u)]) /\ ∀ base : Heap, (K w.params).In base->base.Ns mainGlobals mg->FnOk l.prog w (K w.params) mg base (CXx l.prog w) 8 fa fd ["_law_script"] (sp_law (K w.params))) :
    PySem.W.WalkO q loose XP YP l.row.toRowW d [] (fun f vs => PySem.call f vs) :=
  L2.walk_of (n := 63) (k := 8) (x := "_law_script") (CX := fun w => CXx l.prog w) (sp := fun w => sp_law (K w.params)) hn (by decide) hdf ⟨rfl, by decide, by decide⟩ hY F (fun _ _ a ns hl _ hS => ⟨a, ns, rfl, hS, hl, fun _ => rfl⟩) fun _ _ _ _ _ z => L2.cxx_no z
end Mine
open PySem PySem.W PyProof.Rows
namespace Hd
open PySem
noncomputable abbrev h0 := (((((Str.ofString "<module>", Str.ofString "/claim/cut.py"), Str.ofString "__main__"), ((Str.ofString "__name__", Str.ofString "keepsakes.errors"), Str.ofString "__doc__")), (((Str.ofString "__package__", Str.ofString "__loader__"), Str.ofString "__spec__"), ((Str.ofString "__annotations__", Str.ofString "__builtins__"), Str.ofString "__file__"))), ((((Str.ofString "__cached__", Str.ofString "_wall"), Str.ofString "KeepError"), ((Str.ofString "k", Str.ofString "__module__"), Str.ofString "__qualname__")), (((Str.ofString "__firstlineno__", Str.ofString "__static_attributes__"), Str.ofString "__weakref__"), ((Str.ofString "keepsakes.heaps", Str.ofString "NoItem"), Str.ofString "Heap"))))
noncomputable abbrev h1 := (((((Str.ofString "__init__", Str.ofString "add"), Str.ofString "least"), ((Str.ofString "take", Str.ofString "size"), Str.ofString "lying")), (((Str.ofString "lift", Str.ofString "sink"), Str.ofString "lesser_below"), ((Str.ofString "swap", Str.ofString "self"), Str.ofString "Heap.__init__"))), ((((Str.ofString "item", Str.ofString "Heap.add"), Str.ofString "Heap.least"), ((Str.ofString "last", Str.ofString "Heap.take"), Str.ofString "Heap.size")), (((Str.ofString "Heap.lying", Str.ofString "place"), Str.ofString "low"), ((Str.ofString "Heap.lift", Str.ofString "high"), Str.ofString "Heap.sink"))))
noncomputable abbrev h2 := (((((Str.ofString "Heap.lesser_below", Str.ofString "one"), Str.ofString "other"), ((Str.ofString "Heap.swap", Str.ofString "row"), Str.ofString "__dict__")), (((Str.ofString "law_keepsakes_k48_whole_needed_legs", Str.ofString "prices"), Str.ofString "last_legs"), ((Str.ofString "legs_by_start", Str.ofString "price_at"), Str.ofString "price_over"))), ((((Str.ofString "needed", Str.ofString "_law_cell_at"), Str.ofString "_law_whole"), ((Str.ofString "_law_stream", Str.ofString "_law_legs"), Str.ofString "_law_frame")), (((Str.ofString "_law_wanted", Str.ofString "legs"), Str.ofString "starting"), ((Str.ofString "priced", Str.ofString "heap"), Str.ofString "leg"))))
noncomputable abbrev h3 := (((((Str.ofString "keepsakes.least", Str.ofString "start"), Str.ofString "price"), ((Str.ofString "keepsakes.tidy", Str.ofString "_law_script"), Str.ofString "_law_k")), (((Str.ofString "_law_found", Str.ofString "_law_cell"), Str.ofString "_law_many"), ((Str.ofString "_law_number", Str.ofString "_law_some"), Str.ofString "_law_frame_here"))), ((((Str.ofString "_law_legs_here", Str.ofString "_law_xs"), Str.ofString "_law_day"), ((Str.ofString "_law_start", Str.ofString "_law_great"), Str.ofString "_law_cost")), (((Str.ofString "_law_far", Str.ofString "_law_behind"), Str.ofString "_law_prices"), ((Str.ofString "_law_due", Str.ofString "_law_lacks"), Str.ofString "_law_tree"))))
noncomputable abbrev h4 := ((((Str.ofString "_law_asked", Str.ofString "law"), (Str.ofString "_law_price", Str.ofString "_law_leg")), ((Str.ofString "_law_best", Str.ofString "_law_turn"), Str.ofString "_law_changed")), (((Str.ofString "_law_wanted_here", Str.ofString "_law_last"), Str.ofString "_law_here"), ((Str.ofString "_law_known", Str.ofString "_law_other"), Str.ofString "_law_row")))
noncomputable abbrev h5 := ((((("tuple", "code"), "frame"), (("dict", "__main__.__loader__#opaque"), "function")), ((("ValueError", "builtin_function_or_method"), "type.__prepare__"), ("type", "Exception"))), (((("BaseException", "object"), "ValueError.__new__"), ("getset_descriptor", "ExceptionGroup.__weakref__")), ((("super", "object.__init_subclass__"), "object.__new__"), ("function.__dict__", "function.__dict__#set"))))
abbrev X : Type := ((((((((Str × Str) × Str) × ((Str × Str) × Str)) × (((Str × Str) × Str) × ((Str × Str) × Str))) × ((((Str × Str) × Str) × ((Str × Str) × Str)) × (((Str × Str) × Str) × ((Str × Str) × Str)))) × (((((Str × Str) × Str) × ((Str × Str) × Str)) × (((Str × Str) × Str) × ((Str × Str) × Str))) × ((((Str × Str) × Str) × ((Str × Str) × Str)) × (((Str × Str) × Str) × ((Str × Str) × Str))))) × ((((((Str × Str) × Str) × ((Str × Str) × Str)) × (((Str × Str) × Str) × ((Str × Str) × Str))) × ((((Str × Str) × Str) × ((Str × Str) × Str)) × (((Str × Str) × Str) × ((Str × Str) × Str)))) × (((((Str × Str) × Str) × ((Str × Str) × Str)) × (((Str × Str) × Str) × ((Str × Str) × Str))) × ((((Str × Str) × Str) × ((Str × Str) × Str)) × (((Str × Str) × Str) × ((Str × Str) × Str)))))) × ((((((Str × Str) × (Str × Str)) × ((Str × Str) × Str)) × (((Str × Str) × Str) × ((Str × Str) × Str))) × (((((String × String) × String) × ((String × String) × String)) × (((String × String) × String) × (String × String))) × ((((String × String) × String) × (String × String)) × (((String × String) × String) × (String × String))))) × PySem.Program)) × PySem.Params
noncomputable abbrev hs := (((h0, h1), (h2, h3)), ((h4, h5), PySem.Challenge.pw_keepsakes_k48_whole_needed_legs))
lay_quick h0 h1 h2 h3 h4 h5 PySem.Challenge.pw_keepsakes_k48_whole_needed_legs
lay_quick hs
noncomputable abbrev s0 (x : X) := x.1.1.1.1.1.1.1.1.1
noncomputable abbrev s1 (x : X) := x.1.1.1.1.1.1.1.1.2
noncomputable abbrev s2 (x : X) := x.1.1.1.1.1.1.1.2
noncomputable abbrev s3 (x : X) := x.1.1.1.1.1.1.2.1.1
noncomputable abbrev s4 (x : X) := x.1.1.1.1.1.1.2.1.2
noncomputable abbrev s5 (x : X) := x.1.1.1.1.1.1.2.2
noncomputable abbrev s6 (x : X) := x.1.1.1.1.1.2.1.1.1
noncomputable abbrev s7 (x : X) := x.1.1.1.1.1.2.1.1.2
noncomputable abbrev s8 (x : X) := x.1.1.1.1.1.2.1.2
noncomputable abbrev s9 (x : X) := x.1.1.1.1.1.2.2.1.1
noncomputable abbrev s10 (x : X) := x.1.1.1.1.1.2.2.1.2
noncomputable abbrev s11 (x : X) := x.1.1.1.1.1.2.2.2
noncomputable abbrev s12 (x : X) := x.1.1.1.1.2.1.1.1.1
noncomputable abbrev s13 (x : X) := x.1.1.1.1.2.1.1.1.2
noncomputable abbrev s14 (x : X) := x.1.1.1.1.2.1.1.2
noncomputable abbrev s15 (x : X) := x.1.1.1.1.2.1.2.1.1
noncomputable abbrev s16 (x : X) := x.1.1.1.1.2.1.2.1.2
noncomputable abbrev s17 (x : X) := x.1.1.1.1.2.1.2.2
noncomputable abbrev s18 (x : X) := x.1.1.1.1.2.2.1.1.1
noncomputable abbrev s19 (x : X) := x.1.1.1.1.2.2.1.1.2
noncomputable abbrev s20 (x : X) := x.1.1.1.1.2.2.1.2
noncomputable abbrev s21 (x : X) := x.1.1.1.1.2.2.2.1.1
noncomputable abbrev s22 (x : X) := x.1.1.1.1.2.2.2.1.2
noncomputable abbrev s23 (x : X) := x.1.1.1.1.2.2.2.2
noncomputable abbrev s24 (x : X) := x.1.1.1.2.1.1.1.1.1
noncomputable abbrev s25 (x : X) := x.1.1.1.2.1.1.1.1.2
noncomputable abbrev s26 (x : X) := x.1.1.1.2.1.1.1.2
noncomputable abbrev s27 (x : X) := x.1.1.1.2.1.1.2.1.1
noncomputable abbrev s28 (x : X) := x.1.1.1.2.1.1.2.1.2
noncomputable abbrev s29 (x : X) := x.1.1.1.2.1.1.2.2
noncomputable abbrev s30 (x : X) := x.1.1.1.2.1.2.1.1.1
noncomputable abbrev s31 (x : X) := x.1.1.1.2.1.2.1.1.2
noncomputable abbrev s32 (x : X) := x.1.1.1.2.1.2.1.2
noncomputable abbrev s33 (x : X) := x.1.1.1.2.1.2.2.1.1
noncomputable abbrev s34 (x : X) := x.1.1.1.2.1.2.2.1.2
noncomputable abbrev s35 (x : X) := x.1.1.1.2.1.2.2.2
noncomputable abbrev s36 (x : X) := x.1.1.1.2.2.1.1.1.1
noncomputable abbrev s37 (x : X) := x.1.1.1.2.2.1.1.1.2
noncomputable abbrev s38 (x : X) := x.1.1.1.2.2.1.1.2
noncomputable abbrev s39 (x : X) := x.1.1.1.2.2.1.2.1.1
noncomputable abbrev s40 (x : X) := x.1.1.1.2.2.1.2.1.2
noncomputable abbrev s41 (x : X) := x.1.1.1.2.2.1.2.2
noncomputable abbrev s42 (x : X) := x.1.1.1.2.2.2.1.1.1
noncomputable abbrev s43 (x : X) := x.1.1.1.2.2.2.1.1.2
noncomputable abbrev s44 (x : X) := x.1.1.1.2.2.2.1.2
noncomputable abbrev s45 (x : X) := x.1.1.1.2.2.2.2.1.1
noncomputable abbrev s46 (x : X) := x.1.1.1.2.2.2.2.1.2
noncomputable abbrev s47 (x : X) := x.1.1.1.2.2.2.2.2
noncomputable abbrev s48 (x : X) := x.1.1.2.1.1.1.1.1.1
noncomputable abbrev s49 (x : X) := x.1.1.2.1.1.1.1.1.2
noncomputable abbrev s50 (x : X) := x.1.1.2.1.1.1.1.2
noncomputable abbrev s51 (x : X) := x.1.1.2.1.1.1.2.1.1
noncomputable abbrev s52 (x : X) := x.1.1.2.1.1.1.2.1.2
noncomputable abbrev s53 (x : X) := x.1.1.2.1.1.1.2.2
noncomputable abbrev s54 (x : X) := x.1.1.2.1.1.2.1.1.1
noncomputable abbrev s55 (x : X) := x.1.1.2.1.1.2.1.1.2
noncomputable abbrev s56 (x : X) := x.1.1.2.1.1.2.1.2
noncomputable abbrev s57 (x : X) := x.1.1.2.1.1.2.2.1.1
noncomputable abbrev s58 (x : X) := x.1.1.2.1.1.2.2.1.2
noncomputable abbrev s59 (x : X) := x.1.1.2.1.1.2.2.2
noncomputable abbrev s60 (x : X) := x.1.1.2.1.2.1.1.1.1
noncomputable abbrev s61 (x : X) := x.1.1.2.1.2.1.1.1.2
noncomputable abbrev s62 (x : X) := x.1.1.2.1.2.1.1.2
noncomputable abbrev s63 (x : X) := x.1.1.2.1.2.1.2.1.1
noncomputable abbrev s64 (x : X) := x.1.1.2.1.2.1.2.1.2
noncomputable abbrev s65 (x : X) := x.1.1.2.1.2.1.2.2
noncomputable abbrev s66 (x : X) := x.1.1.2.1.2.2.1.1.1
noncomputable abbrev s67 (x : X) := x.1.1.2.1.2.2.1.1.2
noncomputable abbrev s68 (x : X) := x.1.1.2.1.2.2.1.2
noncomputable abbrev s69 (x : X) := x.1.1.2.1.2.2.2.1.1
noncomputable abbrev s70 (x : X) := x.1.1.2.1.2.2.2.1.2
noncomputable abbrev s71 (x : X) := x.1.1.2.1.2.2.2.2
noncomputable abbrev s72 (x : X) := x.1.1.2.2.1.1.1.1.1
noncomputable abbrev s73 (x : X) := x.1.1.2.2.1.1.1.1.2
noncomputable abbrev s74 (x : X) := x.1.1.2.2.1.1.1.2
noncomputable abbrev s75 (x : X) := x.1.1.2.2.1.1.2.1.1
noncomputable abbrev s76 (x : X) := x.1.1.2.2.1.1.2.1.2
noncomputable abbrev s77 (x : X) := x.1.1.2.2.1.1.2.2
noncomputable abbrev s78 (x : X) := x.1.1.2.2.1.2.1.1.1
noncomputable abbrev s79 (x : X) := x.1.1.2.2.1.2.1.1.2
noncomputable abbrev s80 (x : X) := x.1.1.2.2.1.2.1.2
noncomputable abbrev s81 (x : X) := x.1.1.2.2.1.2.2.1.1
noncomputable abbrev s82 (x : X) := x.1.1.2.2.1.2.2.1.2
noncomputable abbrev s83 (x : X) := x.1.1.2.2.1.2.2.2
noncomputable abbrev s84 (x : X) := x.1.1.2.2.2.1.1.1.1
noncomputable abbrev s85 (x : X) := x.1.1.2.2.2.1.1.1.2
noncomputable abbrev s86 (x : X) := x.1.1.2.2.2.1.1.2
noncomputable abbrev s87 (x : X) := x.1.1.2.2.2.1.2.1.1
noncomputable abbrev s88 (x : X) := x.1.1.2.2.2.1.2.1.2
noncomputable abbrev s89 (x : X) := x.1.1.2.2.2.1.2.2
noncomputable abbrev s90 (x : X) := x.1.1.2.2.2.2.1.1.1
noncomputable abbrev s91 (x : X) := x.1.1.2.2.2.2.1.1.2
noncomputable abbrev s92 (x : X) := x.1.1.2.2.2.2.1.2
noncomputable abbrev s93 (x : X) := x.1.1.2.2.2.2.2.1.1
noncomputable abbrev s94 (x : X) := x.1.1.2.2.2.2.2.1.2
noncomputable abbrev s95 (x : X) := x.1.1.2.2.2.2.2.2
noncomputable abbrev s96 (x : X) := x.1.2.1.1.1.1.1.1
noncomputable abbrev s97 (x : X) := x.1.2.1.1.1.1.1.2
noncomputable abbrev s98 (x : X) := x.1.2.1.1.1.1.2.1
noncomputable abbrev s99 (x : X) := x.1.2.1.1.1.1.2.2
noncomputable abbrev s100 (x : X) := x.1.2.1.1.1.2.1.1
noncomputable abbrev s101 (x : X) := x.1.2.1.1.1.2.1.2
noncomputable abbrev s102 (x : X) := x.1.2.1.1.1.2.2
noncomputable abbrev s103 (x : X) := x.1.2.1.1.2.1.1.1
noncomputable abbrev s104 (x : X) := x.1.2.1.1.2.1.1.2
noncomputable abbrev s105 (x : X) := x.1.2.1.1.2.1.2
noncomputable abbrev s106 (x : X) := x.1.2.1.1.2.2.1.1
noncomputable abbrev s107 (x : X) := x.1.2.1.1.2.2.1.2
noncomputable abbrev s108 (x : X) := x.1.2.1.1.2.2.2
noncomputable abbrev l0 (x : X) := x.1.2.1.2.1.1.1.1.1
noncomputable abbrev l1 (x : X) := x.1.2.1.2.1.1.1.1.2
noncomputable abbrev l2 (x : X) := x.1.2.1.2.1.1.1.2
noncomputable abbrev l3 (x : X) := x.1.2.1.2.1.1.2.1.1
noncomputable abbrev l4 (x : X) := x.1.2.1.2.1.1.2.1.2
noncomputable abbrev l5 (x : X) := x.1.2.1.2.1.1.2.2
noncomputable abbrev l6 (x : X) := x.1.2.1.2.1.2.1.1.1
noncomputable abbrev l7 (x : X) := x.1.2.1.2.1.2.1.1.2
noncomputable abbrev l8 (x : X) := x.1.2.1.2.1.2.1.2
noncomputable abbrev l9 (x : X) := x.1.2.1.2.1.2.2.1
noncomputable abbrev l10 (x : X) := x.1.2.1.2.1.2.2.2
noncomputable abbrev l11 (x : X) := x.1.2.1.2.2.1.1.1.1
noncomputable abbrev l12 (x : X) := x.1.2.1.2.2.1.1.1.2
noncomputable abbrev l13 (x : X) := x.1.2.1.2.2.1.1.2
noncomputable abbrev l14 (x : X) := x.1.2.1.2.2.1.2.1
noncomputable abbrev l15 (x : X) := x.1.2.1.2.2.1.2.2
noncomputable abbrev l16 (x : X) := x.1.2.1.2.2.2.1.1.1
noncomputable abbrev l17 (x : X) := x.1.2.1.2.2.2.1.1.2
noncomputable abbrev l18 (x : X) := x.1.2.1.2.2.2.1.2
noncomputable abbrev l19 (x : X) := x.1.2.1.2.2.2.2.1
noncomputable abbrev l20 (x : X) := x.1.2.1.2.2.2.2.2
noncomputable abbrev b0 (x : X) := PySem.W.boot_o_0 x.2
noncomputable abbrev b1 (x : X) := PySem.W.boot_o_1 x.2
noncomputable abbrev b2 (x : X) := PySem.W.boot_o_2 x.2
noncomputable abbrev b3 (x : X) := PySem.W.boot_o_3 x.2
noncomputable abbrev b4 (x : X) := PySem.W.boot_o_4 x.2
noncomputable abbrev b5 (x : X) := PySem.W.boot_o_5 x.2
noncomputable abbrev b6 (x : X) := PySem.W.boot_o_6 x.2
noncomputable abbrev b7 (x : X) := PySem.W.boot_o_7 x.2
noncomputable abbrev b8 (x : X) := PySem.W.boot_o_8 x.2
noncomputable abbrev b9 (x : X) := PySem.W.boot_o_9 x.2
noncomputable abbrev b10 (x : X) := PySem.W.boot_o_10 x.2
noncomputable abbrev pg (x : X) : PySem.Program := x.1.2.2
noncomputable def nth : List PySem.Stmt->Nat->PySem.Stmt := fun l => @List.rec PySem.Stmt (fun _ => Nat->PySem.Stmt) (fun _ => .Pass ⟨0, 0, 0, 0⟩) (fun a _ ih n => @Nat.rec (fun _ => PySem.Stmt) a (fun m _ => ih m) n) l
noncomputable abbrev st (x : X) (k : Nat) : PySem.Stmt := nth (pg x).main.body k
noncomputable def cb : PySem.Stmt->List PySem.Stmt | .ClassDef _ _ _ y _ _ _ _ _ _ _ => y | _ => []
noncomputable abbrev sm (x : X) (k m : Nat) : PySem.Stmt := nth (cb (st x k)) m
noncomputable def f0 : PySem.Stmt->Str | .FunctionDef y _ _ _ _ _ _ _ _ _ => y | _ => default
noncomputable def f1 : PySem.Stmt->Arguments | .FunctionDef _ y _ _ _ _ _ _ _ _ => y | _ => default
noncomputable def f2 : PySem.Stmt->List Stmt | .FunctionDef _ _ y _ _ _ _ _ _ _ => y | _ => []
noncomputable def f6 : PySem.Stmt->Scope | .FunctionDef _ _ _ _ _ _ y _ _ _ => y | _ => default
noncomputable abbrev u0 := @PySem.Obj.mk
noncomputable abbrev u1 := @PySem.Value.type
noncomputable abbrev u2 := @Option.none.{0} (@Nat)
noncomputable abbrev u3 := @PySem.Data.seq
noncomputable abbrev u4 := @List.toArray.{0} (@PySem.Value)
noncomputable abbrev u5 := @List.nil.{0} (@PySem.Value)
noncomputable abbrev u6 := @List.toArray.{0} (@Option.{0} (@PySem.Value))
noncomputable abbrev u7 := @List.nil.{0} (@Option.{0} (@PySem.Value))
noncomputable abbrev u8 := @PySem.Value.none
noncomputable abbrev u9 := @PySem.Data.fields
noncomputable abbrev u10 := @List.cons.{0} (@PySem.Value)
noncomputable abbrev u11 := @PySem.Value.str
noncomputable abbrev u12 := @PySem.Value.int
noncomputable abbrev u13 := @PySem.Value.ref
noncomputable abbrev u14 := @PySem.Value.bool
noncomputable abbrev u15 := @Bool.false
noncomputable abbrev u16 := @PySem.Data.plain
noncomputable abbrev u17 := @List.cons.{0} (@Option.{0} (@PySem.Value))
noncomputable abbrev u18 := @Option.some.{0} (@PySem.Value)
noncomputable abbrev u19 := @Option.none.{0} (@PySem.Value)
noncomputable abbrev u20 := @PySem.Data.dict
noncomputable abbrev u21 := @List.toArray.{0} (@PySem.DictEntry)
noncomputable abbrev u22 := @List.cons.{0} (@PySem.DictEntry)
noncomputable abbrev u23 := @PySem.DictEntry.mk
noncomputable abbrev u24 := @PySem.PyData.keyHash
noncomputable abbrev u25 := @PySem.Value.builtin
noncomputable abbrev u26 := @List.nil.{0} (@PySem.DictEntry)
noncomputable abbrev u27 := @PySem.Data.func
noncomputable abbrev u28 := @PySem.FuncData.mk
noncomputable abbrev u29 := @PySem.FuncBody.stmts
noncomputable abbrev u30 := @List.nil.{0} (@Prod.{0, 0} (@PySem.Str) (@Nat))
noncomputable abbrev u31 := @Bool.true
noncomputable abbrev u32 := @PySem.Data.cls
noncomputable abbrev u33 := @PySem.ClassData.mk
noncomputable abbrev u34 := @List.nil.{0} (@PySem.Str)
noncomputable abbrev u35 := @Option.none.{0} (@Bool)
noncomputable abbrev u36 := @List.cons.{0} (@Prod.{0, 0} (@Nat) (@PySem.Obj))
noncomputable abbrev u37 := @Prod.mk.{0, 0} (@Nat) (@PySem.Obj)
noncomputable abbrev u38 := @List.nil.{0} (@Prod.{0, 0} (@Nat) (@PySem.Obj))
noncomputable abbrev u39 := @PySem.Heap.mk
noncomputable abbrev u40 := @Array.mk.{0} (@PySem.Obj)
noncomputable abbrev u41 := @List.cons.{0} (@PySem.Obj)
noncomputable abbrev u42 := @List.nil.{0} (@PySem.Obj)
noncomputable abbrev u43 := @PySem.Life.mk
noncomputable abbrev u44 := @List.nil.{0} (@Nat)
noncomputable abbrev u45 := @List.nil.{0} (@Prod.{0, 0} (@Nat) (@Nat))
noncomputable abbrev u46 := @List.toArray.{0} (@Nat)
noncomputable abbrev u47 := @List.cons.{0} (@Int)
noncomputable abbrev u48 := @List.nil.{0} (@Int)
noncomputable abbrev u49 := @PySem.W.BT.node
noncomputable abbrev u50 := @PySem.W.BT.nil
noncomputable abbrev M (c : PySem.Value) (d : PySem.Data) : PySem.Obj := PySem.Obj.mk c none d #[]
noncomputable abbrev E (x : X) (s : PySem.Str) (n : Nat) (v : PySem.Value) : PySem.DictEntry := ⟨PySem.PyData.keyHash x.2 s, .str s n, v⟩
noncomputable abbrev N (o : X->PySem.Obj) (l r : X->PySem.W.BT) : X->PySem.W.BT := fun x => .node (o x) (l x) (r x)
noncomputable abbrev Z : X->PySem.W.BT := fun _ => .nil
noncomputable abbrev Q (o : X->PySem.Obj) (l : X->List PySem.Obj) : X->List PySem.Obj := fun x => o x :: l x
noncomputable abbrev R : X->List PySem.Obj := fun _ => []
noncomputable abbrev J (k : Nat) (o : X->PySem.Obj) (l : X->List (Nat × PySem.Obj)) : X->List (Nat × PySem.Obj) := fun x => (k, o x) :: l x
noncomputable abbrev I : X->List (Nat × PySem.Obj) := fun _ => []
noncomputable def k0 (x : X) : PySem.Obj := (M (u1 (l0 x)) (u3 (u4 u5) 0))
noncomputable def k1 (x : X) (a0 : PySem.Str) (a1 a2 a3 : Nat) (a4 : Int) (a5 a6 : Nat) (a7 : Int) (a8 : Nat) : PySem.Obj := (M (u1 (l1 x)) (u9 (u4 [(u11 a0 a1), (u11 a0 a2), (u11 (s1 x) a3), (u12 a4 0), (u12 0 0), (u12 0 0), (u12 0 0), (u12 0 0), (u13 a5), (u14 u15), (u12 181 0), (u13 a6), u8, u8, u8, u8, (u12 a7 0), (u12 a4 0), (u11 (s1 x) a8)])))
noncomputable def k2 (x : X) (a0 a1 : Nat) (a2 : PySem.Str) (a3 : Nat) : PySem.Obj := (u0 (u1 (l2 x)) u2 u16 (u6 [(u18 (u13 a0)), (u18 (u13 3)), (u18 (u13 a1)), u19, (u18 (u11 a2 a3)), u19, (u18 (u13 0))]))
noncomputable def k3 (x : X) (a0 : PySem.Str) (a1 : Nat) : PySem.Obj := (M (u1 (l0 x)) (u3 (u4 [(u11 a0 a1)]) 0))
noncomputable def k4 (x : X) (a0 : PySem.Str) (a1 : PySem.Stmt) : PySem.Obj := (M u8 (u27 (u28 a0 a0 (f1 a1) (u29 (f2 a1)) (f6 a1) 0 u30 u8 u8 u8 u8 u2 u8 u8 0)))
noncomputable def k5 (x : X) (a0 : PySem.Str) (a1 : Nat) (a2 : PySem.Str) (a3 a4 : Nat) (a5 a6 : Int) (a7 a8 a9 a10 a11 : Nat) (a12 : Int) (a13 : Nat) : PySem.Obj := (M (u1 (l1 x)) (u9 (u4 [(u11 a0 a1), (u11 a2 a3), (u11 (s1 x) a4), (u12 a5 0), (u12 a6 0), (u12 0 0), (u12 0 0), (u12 3 0), (u13 a7), (u14 u31), (u12 181 0), (u13 a8), u8, (u13 a9), (u13 a10), (u13 a11), (u12 a12 0), (u12 a5 0), (u11 (s1 x) a13)])))
noncomputable def k6 (x : X) (a0 : PySem.Str) (a1 : PySem.Stmt) (a2 : PySem.Str) (a3 a4 : Nat) : PySem.Obj := (M (u1 (l5 x)) (u27 (u28 a0 a0 (f1 a1) (u29 (f2 a1)) (f6 a1) 3 u30 u8 u8 u8 (u11 a2 a3) u2 (u13 a4) u8 0)))
noncomputable def k7 (x : X) : PySem.Obj := (M (u1 (l7 x)) (u9 (u4 [(u25 (l8 x)), (u1 (l9 x))])))
noncomputable def k8 (x : X) (a0 : Nat) : PySem.Obj := (M (u1 (l16 x)) (u9 (u4 [(u13 a0), (u13 a0), (u13 a0)])))
noncomputable def k9 (x : X) (a0 : Nat) : PySem.Obj := (M (u1 (l7 x)) (u9 (u4 [(u25 (l17 x)), (u13 a0)])))
noncomputable def k10 (x : X) (a0 a1 : PySem.Str) (a2 : PySem.Stmt) : PySem.Obj := (M u8 (u27 (u28 a0 a1 (f1 a2) (u29 (f2 a2)) (f6 a2) 0 u30 u8 u8 u8 u8 u2 u8 u8 0)))
noncomputable def k11 (x : X) (a0 a1 : PySem.Str) (a2 : PySem.Stmt) (a3 : Nat) : PySem.Obj := (M (u1 (l5 x)) (u27 (u28 a0 a1 (f1 a2) (u29 (f2 a2)) (f6 a2) 3 u30 u8 u8 u8 (u11 (s21 x) 230) u2 (u13 a3) u8 0)))
noncomputable def k12 (x : X) (a0 : PySem.Str) (a1 : Nat) (a2 : PySem.Str) (a3 : Nat) : PySem.Obj := (M (u1 (l0 x)) (u3 (u4 [(u11 a0 a1), (u11 a2 a3)]) 0))
noncomputable def k13 (x : X) (a0 : PySem.Str) (a1 : Nat) (a2 : PySem.Str) (a3 : Nat) (a4 : PySem.Str) (a5 : Nat) : PySem.Obj := (M (u1 (l0 x)) (u3 (u4 [(u11 a0 a1), (u11 a2 a3), (u11 a4 a5)]) 0))
noncomputable def k14 (x : X) (a0 : PySem.Str) (a1 : Nat) (a2 : PySem.Str) (a3 : Nat) (a4 : PySem.Str) (a5 : Nat) (a6 : PySem.Str) (a7 : Nat) (a8 : PySem.Str) (a9 : Nat) (a10 : PySem.Str) (a11 : Nat) : PySem.Obj := (M (u1 (l0 x)) (u3 (u4 [(u11 a0 a1), (u11 a2 a3), (u11 a4 a5), (u11 a6 a7), (u11 a8 a9), (u11 a10 a11)]) 0))
noncomputable def k15 (x : X) (a0 : PySem.Str) (a1 : Nat) (a2 : PySem.Str) (a3 : Nat) (a4 : PySem.Str) (a5 : Nat) (a6 : PySem.Str) (a7 : Nat) (a8 : PySem.Str) (a9 : Nat) : PySem.Obj := (M (u1 (l0 x)) (u3 (u4 [(u11 a0 a1), (u11 a2 a3), (u11 a4 a5), (u11 a6 a7), (u11 a8 a9)]) 0))
noncomputable def k16 (x : X) (a0 : PySem.Stmt) : PySem.Obj := (M u8 (u27 (u28 (f0 a0) (f0 a0) (f1 a0) (u29 (f2 a0)) (f6 a0) 0 u30 u8 u8 u8 u8 u2 u8 u8 0)))
noncomputable def k17 (x : X) (a0 : PySem.Stmt) (a1 : PySem.Str) (a2 a3 : Nat) : PySem.Obj := (M (u1 (l5 x)) (u27 (u28 (f0 a0) (f0 a0) (f1 a0) (u29 (f2 a0)) (f6 a0) 3 u30 u8 u8 u8 (u11 a1 a2) u2 (u13 a3) u8 0)))
noncomputable def k18 (x : X) (a0 : PySem.Str) (a1 a2 a3 : Nat) (a4 a5 : Int) (a6 a7 a8 : Nat) (a9 : Int) (a10 : Nat) : PySem.Obj := (M (u1 (l1 x)) (u9 (u4 [(u11 a0 a1), (u11 a0 a2), (u11 (s1 x) a3), (u12 a4 0), (u12 a5 0), (u12 0 0), (u12 0 0), (u12 3 0), (u13 a6), (u14 u31), (u12 181 0), (u13 a7), u8, u8, u8, (u13 a8), (u12 a9 0), (u12 a4 0), (u11 (s1 x) a10)])))
variable (x : X)
noncomputable def o43 := k0 x 
noncomputable def o44 (x : X) : Obj := (M u8 (u9 (u4 u5)))
noncomputable def o45 := k1 x (s0 x) 182 183 184 1 11 12 185 186
noncomputable def o46 := k2 x 13 3 (s2 x) 164
noncomputable def o49 := (M (u1 (l3 x)) (u20 (u21 [(E x (s3 x) 165 (u11 (s4 x) 194)), (E x (s5 x) 166 u8), (E x (s6 x) 167 u8), (E x (s7 x) 168 (u25 (l4 x))), (E x (s8 x) 169 u8), (E x (s9 x) 170 (u13 6)), (E x (s10 x) 171 (u13 4)), (E x (s11 x) 173 (u11 (s1 x) 172)), (E x (s12 x) 174 u8), (E x (s13 x) 193 (u13 21)), (E x (s14 x) 213 (u13 31))]) 11))
noncomputable def o50 (x : X) : Obj := (M u8 (u9 (u4 [(u12 1 0), (u12 0 0), (u13 20), (u12 5 0), (u12 0 0), (u13 27)])))
noncomputable def o51 := k0 x 
noncomputable def o52 (x : X) : Obj := (M u8 (u9 (u4 u5)))
noncomputable def o53 := k3 x (s15 x) 190
noncomputable def o54 := k0 x 
noncomputable def o55 := k4 x (s13 x) (st x 0)
noncomputable def o56 := k5 x (s13 x) 187 (s13 x) 188 189 1 1 15 16 17 18 19 191 192
noncomputable def o57 := k6 x (s13 x) (st x 0) (s2 x) 164 20
noncomputable def o58 := (M (u1 (l0 x)) (u3 (u4 [(u1 (l6 x))]) 0))
noncomputable def o59 := k7 x 
noncomputable def o60 := (M (u1 (l3 x)) (u20 (u21 [(E x (s16 x) 203 (u11 (s4 x) 194)), (E x (s17 x) 205 (u11 (s14 x) 204)), (E x (s18 x) 207 (u12 5 206)), (E x (s19 x) 208 (u13 29))]) 4))
noncomputable def o61 := k0 x 
noncomputable def o62 (x : X) : Obj := (M u8 (u9 (u4 u5)))
noncomputable def o63 := k1 x (s14 x) 198 199 200 5 25 26 201 202
noncomputable def o64 := k2 x 27 24 (s4 x) 194
noncomputable def o65 := k0 x 
noncomputable def o66 := (M (u1 (l3 x)) (u20 (u21 [(E x (s16 x) 203 (u11 (s4 x) 194)), (E x (s18 x) 207 (u12 5 206)), (E x (s19 x) 208 (u13 29)), (E x (s20 x) 210 (u13 32)), (E x (s5 x) 211 u8)]) 3))
noncomputable def o67 := (u0 (u1 (l9 x)) u2 (u32 (u33 (s14 x) [(u1 (l6 x))] [(u13 31), (u1 (l6 x)), (u1 (l10 x)), (u1 (l11 x)), (u1 (l12 x))] 30 (s14 x) u31 u34 u5 u15 u35 u15)) (u6 [(u18 (u13 22)), u19, (u18 (u11 (s14 x) 196)), (u18 (u11 (s14 x) 204)), (u18 (u25 (l13 x))), (u18 (u14 u31))]))
noncomputable def o68 := (M (u1 (l14 x)) (u9 (u4 [(u11 (s20 x) 209), (u13 31), (u25 (l15 x)), u8])))
noncomputable def o69 := k8 x 31
noncomputable def o70 := k9 x 31
noncomputable def o71 := (M (u1 (l3 x)) (u20 (u21 [(E x (s3 x) 165 (u11 (s21 x) 230)), (E x (s5 x) 166 u8), (E x (s6 x) 167 u8), (E x (s7 x) 168 (u25 (l4 x))), (E x (s8 x) 169 u8), (E x (s9 x) 170 (u13 6)), (E x (s10 x) 171 (u13 4)), (E x (s11 x) 173 (u11 (s1 x) 172)), (E x (s12 x) 174 u8), (E x (s13 x) 193 (u13 21)), (E x (s14 x) 213 (u13 31)), (E x (s22 x) 229 (u13 44))]) 12))
noncomputable def o72 (x : X) : Obj := (M u8 (u9 (u4 [(u12 1 0), (u12 0 0), (u13 20), (u12 5 0), (u12 0 0), (u13 27), (u12 7 0), (u12 0 0), (u13 40)])))
noncomputable def o73 := (u0 (u1 (l9 x)) u2 (u32 (u33 (s14 x) [(u1 (l6 x))] [(u13 31), (u1 (l6 x)), (u1 (l10 x)), (u1 (l11 x)), (u1 (l12 x))] 30 (s14 x) u31 u34 [(u13 44)] u15 u35 u15)) (u6 [(u18 (u13 22)), u19, (u18 (u11 (s14 x) 196)), (u18 (u11 (s14 x) 204)), (u18 (u25 (l13 x))), (u18 (u14 u31))]))
noncomputable def o74 := (M (u1 (l0 x)) (u3 (u4 [(u13 31)]) 0))
noncomputable def o75 := k7 x 
noncomputable def o76 := (M (u1 (l3 x)) (u20 (u21 [(E x (s16 x) 221 (u11 (s4 x) 194)), (E x (s17 x) 223 (u11 (s22 x) 222)), (E x (s18 x) 225 (u12 7 224)), (E x (s19 x) 226 (u13 42))]) 4))
noncomputable def o77 := k0 x 
noncomputable def o78 (x : X) : Obj := (M u8 (u9 (u4 u5)))
noncomputable def o79 := k1 x (s22 x) 216 217 218 7 38 39 219 220
noncomputable def o80 := k2 x 40 37 (s4 x) 194
noncomputable def o81 := k0 x 
noncomputable def o82 := (M (u1 (l3 x)) (u20 (u21 [(E x (s16 x) 221 (u11 (s4 x) 194)), (E x (s18 x) 225 (u12 7 224)), (E x (s19 x) 226 (u13 42)), (E x (s5 x) 227 u8)]) 2))
noncomputable def o83 := (u0 (u1 (l9 x)) u2 (u32 (u33 (s22 x) [(u13 31)] [(u13 44), (u13 31), (u1 (l6 x)), (u1 (l10 x)), (u1 (l11 x)), (u1 (l12 x))] 43 (s22 x) u31 u34 u5 u15 u35 u15)) (u6 [(u18 (u13 35)), u19, (u18 (u11 (s22 x) 214)), (u18 (u11 (s22 x) 222)), (u18 (u25 (l13 x))), (u18 (u14 u31))]))
noncomputable def o84 := k8 x 44
noncomputable def o85 := k9 x 44
noncomputable def o86 := (M (u1 (l3 x)) (u20 (u21 [(E x (s3 x) 165 (u11 (s21 x) 230)), (E x (s5 x) 166 u8), (E x (s6 x) 167 u8), (E x (s7 x) 168 (u25 (l4 x))), (E x (s8 x) 169 u8), (E x (s9 x) 170 (u13 6)), (E x (s10 x) 171 (u13 4)), (E x (s11 x) 173 (u11 (s1 x) 172)), (E x (s12 x) 174 u8), (E x (s13 x) 193 (u13 21)), (E x (s14 x) 213 (u13 31)), (E x (s22 x) 229 (u13 44)), (E x (s23 x) 335 (u13 126))]) 13))
noncomputable def o87 (x : X) : Obj := (M u8 (u9 (u4 [(u12 1 0), (u12 0 0), (u13 20), (u12 5 0), (u12 0 0), (u13 27), (u12 7 0), (u12 0 0), (u13 40), (u12 10 0), (u12 0 0), (u13 52)])))
noncomputable def o88 := k0 x 
noncomputable def o89 := k7 x 
noncomputable def o90 := (M (u1 (l3 x)) (u20 (u21 [(E x (s16 x) 239 (u11 (s21 x) 230)), (E x (s17 x) 241 (u11 (s23 x) 240)), (E x (s18 x) 243 (u12 10 242)), (E x (s24 x) 250 (u13 60)), (E x (s25 x) 258 (u13 67)), (E x (s26 x) 265 (u13 74)), (E x (s27 x) 274 (u13 81)), (E x (s28 x) 281 (u13 88)), (E x (s29 x) 288 (u13 95)), (E x (s30 x) 297 (u13 102)), (E x (s31 x) 307 (u13 109)), (E x (s32 x) 316 (u13 116)), (E x (s33 x) 326 (u13 123)), (E x (s19 x) 328 (u13 124))]) 14))
noncomputable def o91 := k0 x 
noncomputable def o92 (x : X) : Obj := (M u8 (u9 (u4 [(u12 12 0), (u12 4 0), (u13 59), (u12 15 0), (u12 4 0), (u13 66), (u12 19 0), (u12 4 0), (u13 73), (u12 24 0), (u12 4 0), (u13 80), (u12 32 0), (u12 4 0), (u13 87), (u12 35 0), (u12 4 0), (u13 94), (u12 38 0), (u12 4 0), (u13 101), (u12 44 0), (u12 4 0), (u13 108), (u12 52 0), (u12 4 0), (u13 115), (u12 58 0), (u12 4 0), (u13 122)])))
noncomputable def o93 := k1 x (s23 x) 234 235 236 10 50 51 237 238
noncomputable def o94 := k2 x 52 49 (s21 x) 230
noncomputable def o95 := k0 x 
noncomputable def o96 (x : X) : Obj := (M u8 (u9 (u4 u5)))
noncomputable def o97 := k3 x (s34 x) 247
noncomputable def o98 := k0 x 
noncomputable def o99 := k10 x (s24 x) (s35 x) (sm x 5 0)
noncomputable def o100 := k5 x (s24 x) 244 (s35 x) 245 246 12 1 54 55 56 57 58 248 249
noncomputable def o101 := k11 x (s24 x) (s35 x) (sm x 5 0) 59
noncomputable def o102 := k0 x 
noncomputable def o103 (x : X) : Obj := (M u8 (u9 (u4 u5)))
noncomputable def o104 := k12 x (s34 x) 254 (s36 x) 255
noncomputable def o105 := k0 x 
noncomputable def o106 := k10 x (s25 x) (s37 x) (sm x 5 1)
noncomputable def o107 := k5 x (s25 x) 251 (s37 x) 252 253 15 2 61 62 63 64 65 256 257
noncomputable def o108 := k11 x (s25 x) (s37 x) (sm x 5 1) 66
noncomputable def o109 := k0 x 
noncomputable def o110 (x : X) : Obj := (M u8 (u9 (u4 u5)))
noncomputable def o111 := k3 x (s34 x) 262
noncomputable def o112 := k0 x 
noncomputable def o113 := k10 x (s26 x) (s38 x) (sm x 5 2)
noncomputable def o114 := k5 x (s26 x) 259 (s38 x) 260 261 19 1 68 69 70 71 72 263 264
noncomputable def o115 := k11 x (s26 x) (s38 x) (sm x 5 2) 73
noncomputable def o116 := k0 x 
noncomputable def o117 (x : X) : Obj := (M u8 (u9 (u4 u5)))
noncomputable def o118 := k13 x (s34 x) 269 (s36 x) 270 (s39 x) 271
noncomputable def o119 := k0 x 
noncomputable def o120 := k10 x (s27 x) (s40 x) (sm x 5 3)
noncomputable def o121 := k5 x (s27 x) 266 (s40 x) 267 268 24 1 75 76 77 78 79 272 273
noncomputable def o122 := k11 x (s27 x) (s40 x) (sm x 5 3) 80
noncomputable def o123 := k0 x 
noncomputable def o124 (x : X) : Obj := (M u8 (u9 (u4 u5)))
noncomputable def o125 := k3 x (s34 x) 278
noncomputable def o126 := k0 x 
noncomputable def o127 := k10 x (s28 x) (s41 x) (sm x 5 4)
noncomputable def o128 := k5 x (s28 x) 275 (s41 x) 276 277 32 1 82 83 84 85 86 279 280
noncomputable def o129 := k11 x (s28 x) (s41 x) (sm x 5 4) 87
noncomputable def o130 := k0 x 
noncomputable def o131 (x : X) : Obj := (M u8 (u9 (u4 u5)))
noncomputable def o132 := k3 x (s34 x) 285
noncomputable def o133 := k0 x 
noncomputable def o134 := k10 x (s29 x) (s42 x) (sm x 5 5)
noncomputable def o135 := k5 x (s29 x) 282 (s42 x) 283 284 35 1 89 90 91 92 93 286 287
noncomputable def o136 := k11 x (s29 x) (s42 x) (sm x 5 5) 94
noncomputable def o137 := k0 x 
noncomputable def o138 (x : X) : Obj := (M u8 (u9 (u4 u5)))
noncomputable def o139 := k13 x (s34 x) 292 (s43 x) 293 (s44 x) 294
noncomputable def o140 := k0 x 
noncomputable def o141 := k10 x (s30 x) (s45 x) (sm x 5 6)
noncomputable def o142 := k5 x (s30 x) 289 (s45 x) 290 291 38 2 96 97 98 99 100 295 296
noncomputable def o143 := k11 x (s30 x) (s45 x) (sm x 5 6) 101
noncomputable def o144 := k0 x 
noncomputable def o145 (x : X) : Obj := (M u8 (u9 (u4 u5)))
noncomputable def o146 := (M (u1 (l0 x)) (u3 (u4 [(u11 (s34 x) 301), (u11 (s43 x) 302), (u11 (s46 x) 303), (u11 (s44 x) 304)]) 0))
noncomputable def o147 := k0 x 
noncomputable def o148 := k10 x (s31 x) (s47 x) (sm x 5 7)
noncomputable def o149 := k5 x (s31 x) 298 (s47 x) 299 300 44 2 103 104 105 106 107 305 306
noncomputable def o150 := k11 x (s31 x) (s47 x) (sm x 5 7) 108
noncomputable def o151 := k0 x 
noncomputable def o152 (x : X) : Obj := (M u8 (u9 (u4 u5)))
noncomputable def o153 := k13 x (s34 x) 311 (s43 x) 312 (s44 x) 313
noncomputable def o154 := k0 x 
noncomputable def o155 := (M u8 (u27 (u28 (f0 (sm x 5 8)) (s48 x) (f1 (sm x 5 8)) (u29 (f2 (sm x 5 8))) (f6 (sm x 5 8)) 0 u30 u8 u8 u8 u8 u2 u8 u8 0)))
noncomputable def o156 := k5 x (s32 x) 308 (s48 x) 309 310 52 2 110 111 112 113 114 314 315
noncomputable def o157 := (M (u1 (l5 x)) (u27 (u28 (f0 (sm x 5 8)) (s48 x) (f1 (sm x 5 8)) (u29 (f2 (sm x 5 8))) (f6 (sm x 5 8)) 3 u30 u8 u8 u8 (u11 (s21 x) 230) u2 (u13 115) u8 0)))
noncomputable def o158 := k0 x 
noncomputable def o159 (x : X) : Obj := (M u8 (u9 (u4 u5)))
noncomputable def o160 := (M (u1 (l0 x)) (u3 (u4 [(u11 (s34 x) 320), (u11 (s49 x) 321), (u11 (s50 x) 322), (u11 (s36 x) 323)]) 0))
noncomputable def o161 := k0 x 
noncomputable def o162 := k10 x (s33 x) (s51 x) (sm x 5 9)
noncomputable def o163 := k5 x (s33 x) 317 (s51 x) 318 319 58 3 117 118 119 120 121 324 325
noncomputable def o164 := k11 x (s33 x) (s51 x) (sm x 5 9) 122
noncomputable def o165 := k3 x (s52 x) 327
noncomputable def o166 := (M (u1 (l3 x)) (u20 (u21 [(E x (s16 x) 239 (u11 (s21 x) 230)), (E x (s18 x) 243 (u12 10 242)), (E x (s24 x) 250 (u13 60)), (E x (s25 x) 258 (u13 67)), (E x (s26 x) 265 (u13 74)), (E x (s27 x) 274 (u13 81)), (E x (s28 x) 281 (u13 88)), (E x (s29 x) 288 (u13 95)), (E x (s30 x) 297 (u13 102)), (E x (s31 x) 307 (u13 109)), (E x (s32 x) 316 (u13 116)), (E x (s33 x) 326 (u13 123)), (E x (s19 x) 328 (u13 124)), (E x (s53 x) 330 (u13 127)), (E x (s20 x) 332 (u13 128)), (E x (s5 x) 333 u8)]) 4))
noncomputable def o167 := (u0 (u1 (l9 x)) u2 (u32 (u33 (s23 x) [(u1 (l12 x))] [(u13 126), (u1 (l12 x))] 125 (s23 x) u31 u34 u5 u15 u35 u15)) (u6 [u19, u19, (u18 (u11 (s23 x) 232)), (u18 (u11 (s23 x) 240)), (u18 (u25 (l18 x))), (u18 (u14 u31))]))
noncomputable def o168 := (M (u1 (l14 x)) (u9 (u4 [(u11 (s53 x) 329), (u13 126), (u25 (l19 x)), (u25 (l20 x))])))
noncomputable def o169 := (M (u1 (l14 x)) (u9 (u4 [(u11 (s20 x) 331), (u13 126), (u25 (l15 x)), u8])))
noncomputable def o170 := k8 x 126
noncomputable def o171 := k9 x 126
noncomputable def o172 := (M (u1 (l3 x)) (u20 (u21 [(E x (s3 x) 165 (u11 (s54 x) 394)), (E x (s5 x) 166 u8), (E x (s6 x) 167 u8), (E x (s7 x) 168 (u25 (l4 x))), (E x (s8 x) 169 u8), (E x (s9 x) 170 (u13 6)), (E x (s10 x) 171 (u13 4)), (E x (s11 x) 173 (u11 (s1 x) 172)), (E x (s12 x) 174 u8), (E x (s13 x) 193 (u13 21)), (E x (s14 x) 213 (u13 31)), (E x (s22 x) 229 (u13 44)), (E x (s23 x) 335 (u13 126)), (E x (s55 x) 349 (u13 137)), (E x (s56 x) 360 (u13 144)), (E x (s57 x) 369 (u13 151)), (E x (s58 x) 377 (u13 158)), (E x (s59 x) 385 (u13 165)), (E x (s60 x) 393 (u13 170)), (E x (s61 x) 403 (u13 177)), (E x (s62 x) 410 (u13 184)), (E x (s63 x) 421 (u13 191)), (E x (s64 x) 437 (u13 198)), (E x (s65 x) 446 (u13 205)), (E x (s66 x) 452 (u13 210))]) 25))
noncomputable def o173 (x : X) : Obj := (M u8 (u9 (u4 (u10 (u12 1 0) (u10 (u12 0 0) (u10 (u13 20) (u10 (u12 5 0) (u10 (u12 0 0) (u10 (u13 27) (u10 (u12 7 0) (u10 (u12 0 0) [(u13 40), (u12 10 0), (u12 0 0), (u13 52), (u12 63 0), (u12 0 0), (u13 136), (u12 76 0), (u12 0 0), (u13 143), (u12 84 0), (u12 0 0), (u13 150), (u12 89 0), (u12 0 0), (u13 157), (u12 91 0), (u12 0 0), (u13 164), (u12 94 0), (u12 0 0), (u13 169), (u12 105 0), (u12 0 0), (u13 176), (u12 109 0), (u12 0 0), (u13 183), (u12 111 0), (u12 0 0), (u13 190), (u12 118 0), (u12 0 0), (u13 197), (u12 135 0), (u12 0 0), (u13 204), (u12 139 0), (u12 0 0), (u13 209)])))))))))))
noncomputable def o174 := k0 x 
noncomputable def o175 (x : X) : Obj := (M u8 (u9 (u4 u5)))
noncomputable def o176 := k14 x (s67 x) 341 (s68 x) 342 (s69 x) 343 (s70 x) 344 (s36 x) 345 (s71 x) 346
noncomputable def o177 := k0 x 
noncomputable def o178 := k4 x (s55 x) (st x 7)
noncomputable def o179 := k5 x (s55 x) 338 (s55 x) 339 340 63 1 131 132 133 134 135 347 348
noncomputable def o180 := k6 x (s55 x) (st x 7) (s72 x) 336 136
noncomputable def o181 := k0 x 
noncomputable def o182 (x : X) : Obj := (M u8 (u9 (u4 u5)))
noncomputable def o183 := k15 x (s67 x) 353 (s69 x) 354 (s39 x) 355 (s71 x) 356 (s73 x) 357
noncomputable def o184 := k0 x 
noncomputable def o185 := k4 x (s56 x) (st x 8)
noncomputable def o186 := k5 x (s56 x) 350 (s56 x) 351 352 76 1 138 139 140 141 142 358 359
noncomputable def o187 := k6 x (s56 x) (st x 8) (s72 x) 336 143
noncomputable def o188 := k0 x 
noncomputable def o189 (x : X) : Obj := (M u8 (u9 (u4 u5)))
noncomputable def o190 := k13 x (s67 x) 364 (s68 x) 365 (s71 x) 366
noncomputable def o191 := k0 x 
noncomputable def o192 := k16 x (st x 9)
noncomputable def o193 := k5 x (s57 x) 361 (s57 x) 362 363 84 1 145 146 147 148 149 367 368
noncomputable def o194 := k17 x (st x 9) (s72 x) 336 150
noncomputable def o195 := k0 x 
noncomputable def o196 (x : X) : Obj := (M u8 (u9 (u4 u5)))
noncomputable def o197 := k12 x (s69 x) 373 (s73 x) 374
noncomputable def o198 := k0 x 
noncomputable def o199 := k4 x (s58 x) (st x 10)
noncomputable def o200 := k5 x (s58 x) 370 (s58 x) 371 372 89 2 152 153 154 155 156 375 376
noncomputable def o201 := k6 x (s58 x) (st x 10) (s72 x) 336 157
noncomputable def o202 := k0 x 
noncomputable def o203 (x : X) : Obj := (M u8 (u9 (u4 u5)))
noncomputable def o204 := k12 x (s74 x) 381 (s71 x) 382
noncomputable def o205 := k0 x 
noncomputable def o206 := k4 x (s59 x) (st x 11)
noncomputable def o207 := k5 x (s59 x) 378 (s59 x) 379 380 91 2 159 160 161 162 163 383 384
noncomputable def o208 := k6 x (s59 x) (st x 11) (s72 x) 336 164
noncomputable def o209 := k0 x 
noncomputable def o210 (x : X) : Obj := (M u8 (u9 (u4 u5)))
noncomputable def o211 := k4 x (s60 x) (st x 13)
noncomputable def o212 := k18 x (s60 x) 388 389 390 94 2 166 167 168 391 392
noncomputable def o213 := k6 x (s60 x) (st x 13) (s75 x) 386 169
noncomputable def o214 := k0 x 
noncomputable def o215 (x : X) : Obj := (M u8 (u9 (u4 u5)))
noncomputable def o216 := k12 x (s76 x) 399 (s77 x) 400
noncomputable def o217 := k0 x 
noncomputable def o218 := k16 x (st x 15)
noncomputable def o219 := k5 x (s61 x) 396 (s61 x) 397 398 105 2 171 172 173 174 175 401 402
noncomputable def o220 := k17 x (st x 15) (s54 x) 394 176
noncomputable def o221 := k0 x 
noncomputable def o222 (x : X) : Obj := (M u8 (u9 (u4 u5)))
noncomputable def o223 := k3 x (s78 x) 407
noncomputable def o224 := k0 x 
noncomputable def o225 := k4 x (s62 x) (st x 16)
noncomputable def o226 := k5 x (s62 x) 404 (s62 x) 405 406 109 1 178 179 180 181 182 408 409
noncomputable def o227 := k6 x (s62 x) (st x 16) (s54 x) 394 183
noncomputable def o228 := k0 x 
noncomputable def o229 (x : X) : Obj := (M u8 (u9 (u4 u5)))
noncomputable def o230 := k15 x (s79 x) 414 (s80 x) 415 (s78 x) 416 (s81 x) 417 (s77 x) 418
noncomputable def o231 := k0 x 
noncomputable def o232 := k16 x (st x 17)
noncomputable def o233 := k5 x (s63 x) 411 (s63 x) 412 413 111 2 185 186 187 188 189 419 420
noncomputable def o234 := k17 x (st x 17) (s54 x) 394 190
noncomputable def o235 := k0 x 
noncomputable def o236 (x : X) : Obj := (M u8 (u9 (u4 u5)))
noncomputable def o237 := (M (u1 (l0 x)) (u3 (u4 [(u11 (s82 x) 425), (u11 (s83 x) 426), (u11 (s84 x) 427), (u11 (s77 x) 428), (u11 (s85 x) 429), (u11 (s86 x) 430), (u11 (s87 x) 431), (u11 (s81 x) 432), (u11 (s88 x) 433), (u11 (s89 x) 434)]) 0))
noncomputable def o238 := k0 x 
noncomputable def o239 := k4 x (s64 x) (st x 18)
noncomputable def o240 := k5 x (s64 x) 422 (s64 x) 423 424 118 2 192 193 194 195 196 435 436
noncomputable def o241 := k6 x (s64 x) (st x 18) (s54 x) 394 197
noncomputable def o242 := k0 x 
noncomputable def o243 (x : X) : Obj := (M u8 (u9 (u4 u5)))
noncomputable def o244 := k13 x (s79 x) 441 (s85 x) 442 (s90 x) 443
noncomputable def o245 := k0 x 
noncomputable def o246 := k4 x (s65 x) (st x 19)
noncomputable def o247 := k5 x (s65 x) 438 (s65 x) 439 440 135 1 199 200 201 202 203 444 445
noncomputable def o248 := k6 x (s65 x) (st x 19) (s54 x) 394 204
noncomputable def o249 := k0 x 
noncomputable def o250 (x : X) : Obj := (M u8 (u9 (u4 u5)))
noncomputable def o251 := k16 x (st x 20)
noncomputable def o252 := k18 x (s66 x) 447 448 449 139 2 206 207 208 450 451
noncomputable def o253 := k17 x (st x 20) (s54 x) 394 209
noncomputable def o254 := (M (u1 (l3 x)) (u20 (u21 [(E x (s3 x) 165 (u11 (s54 x) 394)), (E x (s5 x) 166 u8), (E x (s6 x) 167 u8), (E x (s7 x) 168 (u25 (l4 x))), (E x (s8 x) 169 u8), (E x (s9 x) 170 (u13 6)), (E x (s10 x) 171 (u13 4)), (E x (s11 x) 173 (u11 (s1 x) 172)), (E x (s12 x) 174 u8), (E x (s13 x) 193 (u13 21)), (E x (s14 x) 213 (u13 31)), (E x (s22 x) 229 (u13 44)), (E x (s23 x) 335 (u13 126)), (E x (s55 x) 349 (u13 137)), (E x (s56 x) 360 (u13 144)), (E x (s57 x) 369 (u13 151)), (E x (s58 x) 377 (u13 158)), (E x (s59 x) 385 (u13 165)), (E x (s60 x) 393 (u13 170)), (E x (s61 x) 403 (u13 177)), (E x (s62 x) 410 (u13 184)), (E x (s63 x) 421 (u13 191)), (E x (s64 x) 437 (u13 198)), (E x (s65 x) 446 (u13 205)), (E x (s66 x) 452 (u13 210)), (E x (s91 x) 460 (u13 217)), (E x (s92 x) 472 (u13 224)), (E x (s93 x) 486 (u13 231)), (E x (s94 x) 497 (u13 238)), (E x (s95 x) 503 (u13 243)), (E x (s96 x) 509 (u13 248)), (E x (s97 x) 521 (u13 255))]) 32))
noncomputable def o255 (x : X) : Obj := (M u8 (u9 (u4 (u10 (u12 1 0) (u10 (u12 0 0) (u10 (u13 20) (u10 (u12 5 0) (u10 (u12 0 0) (u10 (u13 27) (u10 (u12 7 0) (u10 (u12 0 0) (u10 (u13 40) (u10 (u12 10 0) (u10 (u12 0 0) (u10 (u13 52) (u10 (u12 63 0) (u10 (u12 0 0) (u10 (u13 136) (u10 (u12 76 0) (u10 (u12 0 0) (u10 (u13 143) (u10 (u12 84 0) (u10 (u12 0 0) (u10 (u13 150) (u10 (u12 89 0) (u10 (u12 0 0) (u10 (u13 157) (u10 (u12 91 0) (u10 (u12 0 0) (u10 (u13 164) (u10 (u12 94 0) (u10 (u12 0 0) [(u13 169), (u12 105 0), (u12 0 0), (u13 176), (u12 109 0), (u12 0 0), (u13 183), (u12 111 0), (u12 0 0), (u13 190), (u12 118 0), (u12 0 0), (u13 197), (u12 135 0), (u12 0 0), (u13 204), (u12 139 0), (u12 0 0), (u13 209), (u12 145 0), (u12 0 0), (u13 216), (u12 147 0), (u12 0 0), (u13 223), (u12 160 0), (u12 0 0), (u13 230), (u12 172 0), (u12 0 0), (u13 237), (u12 178 0), (u12 0 0), (u13 242), (u12 190 0), (u12 0 0), (u13 247), (u12 203 0), (u12 0 0), (u13 254)]))))))))))))))))))))))))))))))))
noncomputable def o256 := k0 x 
noncomputable def o257 (x : X) : Obj := (M u8 (u9 (u4 u5)))
noncomputable def o258 := k12 x (s98 x) 456 (s99 x) 457
noncomputable def o259 := k0 x 
noncomputable def o260 := k16 x (st x 21)
noncomputable def o261 := k5 x (s91 x) 453 (s91 x) 454 455 145 2 211 212 213 214 215 458 459
noncomputable def o262 := k17 x (st x 21) (s54 x) 394 216
noncomputable def o263 := k0 x 
noncomputable def o264 (x : X) : Obj := (M u8 (u9 (u4 u5)))
noncomputable def o265 := k14 x (s84 x) 464 (s100 x) 465 (s101 x) 466 (s102 x) 467 (s99 x) 468 (s98 x) 469
noncomputable def o266 := k0 x 
noncomputable def o267 := k16 x (st x 22)
noncomputable def o268 := k5 x (s92 x) 461 (s92 x) 462 463 147 1 218 219 220 221 222 470 471
noncomputable def o269 := k17 x (st x 22) (s54 x) 394 223
noncomputable def o270 := k0 x 
noncomputable def o271 (x : X) : Obj := (M u8 (u9 (u4 u5)))
noncomputable def o272 := (M (u1 (l0 x)) (u3 (u4 [(u11 (s84 x) 476), (u11 (s100 x) 477), (u11 (s103 x) 478), (u11 (s104 x) 479), (u11 (s99 x) 480), (u11 (s78 x) 481), (u11 (s86 x) 482), (u11 (s105 x) 483)]) 0))
noncomputable def o273 := k0 x 
noncomputable def o274 := k4 x (s93 x) (st x 23)
noncomputable def o275 := k5 x (s93 x) 473 (s93 x) 474 475 160 3 225 226 227 228 229 484 485
noncomputable def o276 := k6 x (s93 x) (st x 23) (s54 x) 394 230
noncomputable def o277 := k0 x 
noncomputable def o278 (x : X) : Obj := (M u8 (u9 (u4 u5)))
noncomputable def o279 := k15 x (s84 x) 490 (s103 x) 491 (s100 x) 492 (s106 x) 493 (s86 x) 494
noncomputable def o280 := k0 x 
noncomputable def o281 := k4 x (s94 x) (st x 24)
noncomputable def o282 := k5 x (s94 x) 487 (s94 x) 488 489 172 3 232 233 234 235 236 495 496
noncomputable def o283 := k6 x (s94 x) (st x 24) (s54 x) 394 237
noncomputable def o284 := k0 x 
noncomputable def o285 (x : X) : Obj := (M u8 (u9 (u4 u5)))
noncomputable def o286 := k4 x (s95 x) (st x 25)
noncomputable def o287 := k18 x (s95 x) 498 499 500 178 4 239 240 241 501 502
noncomputable def o288 := k6 x (s95 x) (st x 25) (s54 x) 394 242
noncomputable def o289 := k0 x 
noncomputable def o290 (x : X) : Obj := (M u8 (u9 (u4 u5)))
noncomputable def o291 := k4 x (s96 x) (st x 26)
noncomputable def o292 := k18 x (s96 x) 504 505 506 190 2 244 245 246 507 508
noncomputable def o293 := k6 x (s96 x) (st x 26) (s54 x) 394 247
noncomputable def o294 := k0 x 
noncomputable def o295 (x : X) : Obj := (M u8 (u9 (u4 u5)))
noncomputable def o296 := k14 x (s76 x) 513 (s83 x) 514 (s84 x) 515 (s103 x) 516 (s107 x) 517 (s108 x) 518
noncomputable def o297 := k0 x 
noncomputable def o298 := k4 x (s97 x) (st x 27)
noncomputable def o299 := k5 x (s97 x) 510 (s97 x) 511 512 203 1 249 250 251 252 253 519 520
noncomputable def o300 := k6 x (s97 x) (st x 27) (s54 x) 394 254
noncomputable def q1 (x : X) : PySem.Obj := (M u8 (u20 (u21 u26) 0))
noncomputable def heap39 : X->PySem.W.Frag := (J 2 q1 (J 3 o254 (J 15 o297 (J 17 o53 (J 18 o297 (J 20 o56 (J 21 o57 (J 22 o58 (J 29 o297 (J 30 o66 (J 31 o73 (J 32 o68 (J 35 o74 (J 42 o297 (J 43 o82 (J 44 o83 (J 54 o297 (J 56 o97 (J 57 o297 (J 59 o100 (J 60 o101 (J 61 o297 (J 63 o104 (J 64 o297 (J 66 o107 (J 67 o108 (J 68 o297 (J 70 o111 (J 71 o297 (J 73 o114 (J 74 o115 (J 75 o297 (J 77 o118 (J 78 o297 (J 80 o121 (J 81 o122 (J 82 o297 (J 84 o125 (J 85 o297 (J 87 o128 (J 88 o129 (J 89 o297 (J 91 o132 (J 92 o297 (J 94 o135 (J 95 o136 (J 96 o297 (J 98 o139 (J 99 o297 (J 101 o142 (J 102 o143 (J 103 o297 (J 105 o146 (J 106 o297 (J 108 o149 (J 109 o150 (J 110 o297 (J 112 o153 (J 113 o297 (J 115 o156 (J 116 o157 (J 117 o297 (J 119 o160 (J 120 o297 (J 122 o163 (J 123 o164 (J 124 o165 (J 125 o166 (J 126 o167 (J 127 o168 (J 128 o169 (J 131 o297 (J 133 o176 (J 134 o297 (J 136 o179 (J 137 o180 (J 138 o297 (J 140 o183 (J 141 o297 (J 143 o186 (J 144 o187 (J 145 o297 (J 147 o190 (J 148 o297 (J 150 o193 (J 151 o194 (J 152 o297 (J 154 o197 (J 155 o297 (J 157 o200 (J 158 o201 (J 159 o297 (J 161 o204 (J 162 o297 (J 164 o207 (J 165 o208 (J 166 o297 (J 169 o212 (J 170 o213 (J 171 o297 (J 173 o216 (J 174 o297 (J 176 o219 (J 177 o220 (J 178 o297 (J 180 o223 (J 181 o297 (J 183 o226 (J 184 o227 (J 185 o297 (J 187 o230 (J 188 o297 (J 190 o233 (J 191 o234 (J 192 o297 (J 194 o237 (J 195 o297 (J 197 o240 (J 198 o241 (J 199 o297 (J 201 o244 (J 202 o297 (J 204 o247 (J 205 o248 (J 206 o297 (J 209 o252 (J 210 o253 (J 211 o297 (J 213 o258 (J 214 o297 (J 216 o261 (J 217 o262 (J 218 o297 (J 220 o265 (J 221 o297 (J 223 o268 (J 224 o269 (J 225 o297 (J 227 o272 (J 228 o297 (J 230 o275 (J 231 o276 (J 232 o297 (J 234 o279 (J 235 o297 (J 237 o282 (J 238 o283 (J 239 o297 (J 242 o287 (J 243 o288 (J 244 o297 (J 247 o292 (J 248 o293 (J 249 o297 (J 251 o296 (J 252 o297 (J 254 o299 (J 255 o300 I))))))))))))))))))))))))))))))))))))))))))))))))))))))))))))))))))))))))))))))))))))))))))))))))))))))))))))))))))))))))))))))))))))))))))))))))))))))))))))))
noncomputable def heap46 : X->PySem.Heap := fun x => u39 (u40 ((Q b0 (Q b1 (Q b2 (Q b3 (Q b4 (Q b5 (Q b6 (Q b7 (Q b8 (Q b9 (Q b10 (Q o43 (Q o44 (Q o45 (Q o46 R))))))))))))))) x)) (u43 u44 u44 u44 0 u45 u44 u15 (u46 u44) u44 0 u15 u15 u15 0 [2000, 10, 10] u15 0 u31 u44 u44 0 u15)
noncomputable def tree47 : X->PySem.W.BT := (N b0 (N b1 (N b3 (N b7 Z Z) (N o43 Z Z)) (N b5 (N b9 Z Z) (N o45 Z Z))) (N b2 (N b4 (N b8 Z Z) (N o44 Z Z)) (N b6 (N b10 Z Z) (N o46 Z Z))))
noncomputable def tree70 : X->PySem.W.BT := (N b0 (N b1 (N o49 (N b7 (N o51 (N o67 Z Z) Z) (N o59 Z Z)) (N o43 (N o55 Z Z) (N o63 Z Z))) (N b5 (N b9 (N o53 (N o69 Z Z) Z) (N o61 Z Z)) (N o45 (N o57 Z Z) (N o65 Z Z)))) (N b2 (N b4 (N b8 (N o52 (N o68 Z Z) Z) (N o60 Z Z)) (N o50 (N o56 Z Z) (N o64 Z Z))) (N b6 (N b10 (N o54 (N o70 Z Z) Z) (N o62 Z Z)) (N o46 (N o58 Z Z) (N o66 Z Z)))))
noncomputable def tree85 : X->PySem.W.BT := (N b0 (N b1 (N o71 (N b7 (N o51 (N o73 Z Z) Z) (N o59 (N o78 Z Z) Z)) (N o43 (N o55 (N o74 Z Z) Z) (N o63 (N o82 Z Z) Z))) (N b5 (N b9 (N o53 (N o69 Z Z) Z) (N o61 (N o80 Z Z) Z)) (N o45 (N o57 (N o76 Z Z) Z) (N o65 (N o84 Z Z) Z)))) (N b2 (N b4 (N b8 (N o52 (N o68 Z Z) Z) (N o60 (N o79 Z Z) Z)) (N o72 (N o56 (N o75 Z Z) Z) (N o64 (N o83 Z Z) Z))) (N b6 (N b10 (N o54 (N o70 Z Z) Z) (N o62 (N o81 Z Z) Z)) (N o46 (N o58 (N o77 Z Z) Z) (N o66 (N o85 Z Z) Z)))))
noncomputable def tree171 : X->PySem.W.BT := (N b0 (N b1 (N o86 (N b7 (N o51 (N o73 (N o104 (N o168 Z Z) Z) (N o136 Z Z)) (N o88 (N o120 Z Z) (N o152 Z Z))) (N o59 (N o78 (N o112 Z Z) (N o144 Z Z)) (N o96 (N o128 Z Z) (N o160 Z Z)))) (N o43 (N o55 (N o74 (N o108 Z Z) (N o140 Z Z)) (N o92 (N o124 Z Z) (N o156 Z Z))) (N o63 (N o82 (N o116 Z Z) (N o148 Z Z)) (N o100 (N o132 Z Z) (N o164 Z Z))))) (N b5 (N b9 (N o53 (N o69 (N o106 (N o170 Z Z) Z) (N o138 Z Z)) (N o90 (N o122 Z Z) (N o154 Z Z))) (N o61 (N o80 (N o114 Z Z) (N o146 Z Z)) (N o98 (N o130 Z Z) (N o162 Z Z)))) (N o45 (N o57 (N o76 (N o110 Z Z) (N o142 Z Z)) (N o94 (N o126 Z Z) (N o158 Z Z))) (N o65 (N o84 (N o118 Z Z) (N o150 Z Z)) (N o102 (N o134 Z Z) (N o166 Z Z)))))) (N b2 (N b4 (N b8 (N o52 (N o68 (N o105 (N o169 Z Z) Z) (N o137 Z Z)) (N o89 (N o121 Z Z) (N o153 Z Z))) (N o60 (N o79 (N o113 Z Z) (N o145 Z Z)) (N o97 (N o129 Z Z) (N o161 Z Z)))) (N o87 (N o56 (N o75 (N o109 Z Z) (N o141 Z Z)) (N o93 (N o125 Z Z) (N o157 Z Z))) (N o64 (N o83 (N o117 Z Z) (N o149 Z Z)) (N o101 (N o133 Z Z) (N o165 Z Z))))) (N b6 (N b10 (N o54 (N o70 (N o107 (N o171 Z Z) Z) (N o139 Z Z)) (N o91 (N o123 Z Z) (N o155 Z Z))) (N o62 (N o81 (N o115 Z Z) (N o147 Z Z)) (N o99 (N o131 Z Z) (N o163 Z Z)))) (N o46 (N o58 (N o77 (N o111 Z Z) (N o143 Z Z)) (N o95 (N o127 Z Z) (N o159 Z Z))) (N o66 (N o85 (N o119 Z Z) (N o151 Z Z)) (N o103 (N o135 Z Z) (N o167 Z Z)))))))
noncomputable def tree253 : X->PySem.W.BT := (N b0 (N b1 (N o172 (N b7 (N o51 (N o73 (N o104 (N o168 Z Z) (N o234 Z Z)) (N o136 (N o202 Z Z) Z)) (N o88 (N o120 (N o186 Z Z) (N o250 Z Z)) (N o152 (N o218 Z Z) Z))) (N o59 (N o78 (N o112 (N o178 Z Z) (N o242 Z Z)) (N o144 (N o210 Z Z) Z)) (N o96 (N o128 (N o194 Z Z) Z) (N o160 (N o226 Z Z) Z)))) (N o43 (N o55 (N o74 (N o108 (N o174 Z Z) (N o238 Z Z)) (N o140 (N o206 Z Z) Z)) (N o92 (N o124 (N o190 Z Z) Z) (N o156 (N o222 Z Z) Z))) (N o63 (N o82 (N o116 (N o182 Z Z) (N o246 Z Z)) (N o148 (N o214 Z Z) Z)) (N o100 (N o132 (N o198 Z Z) Z) (N o164 (N o230 Z Z) Z))))) (N b5 (N b9 (N o53 (N o69 (N o106 (N o170 Z Z) (N o236 Z Z)) (N o138 (N o204 Z Z) Z)) (N o90 (N o122 (N o188 Z Z) (N o252 Z Z)) (N o154 (N o220 Z Z) Z))) (N o61 (N o80 (N o114 (N o180 Z Z) (N o244 Z Z)) (N o146 (N o212 Z Z) Z)) (N o98 (N o130 (N o196 Z Z) Z) (N o162 (N o228 Z Z) Z)))) (N o45 (N o57 (N o76 (N o110 (N o176 Z Z) (N o240 Z Z)) (N o142 (N o208 Z Z) Z)) (N o94 (N o126 (N o192 Z Z) Z) (N o158 (N o224 Z Z) Z))) (N o65 (N o84 (N o118 (N o184 Z Z) (N o248 Z Z)) (N o150 (N o216 Z Z) Z)) (N o102 (N o134 (N o200 Z Z) Z) (N o166 (N o232 Z Z) Z)))))) (N b2 (N b4 (N b8 (N o52 (N o68 (N o105 (N o169 Z Z) (N o235 Z Z)) (N o137 (N o203 Z Z) Z)) (N o89 (N o121 (N o187 Z Z) (N o251 Z Z)) (N o153 (N o219 Z Z) Z))) (N o60 (N o79 (N o113 (N o179 Z Z) (N o243 Z Z)) (N o145 (N o211 Z Z) Z)) (N o97 (N o129 (N o195 Z Z) Z) (N o161 (N o227 Z Z) Z)))) (N o173 (N o56 (N o75 (N o109 (N o175 Z Z) (N o239 Z Z)) (N o141 (N o207 Z Z) Z)) (N o93 (N o125 (N o191 Z Z) Z) (N o157 (N o223 Z Z) Z))) (N o64 (N o83 (N o117 (N o183 Z Z) (N o247 Z Z)) (N o149 (N o215 Z Z) Z)) (N o101 (N o133 (N o199 Z Z) Z) (N o165 (N o231 Z Z) Z))))) (N b6 (N b10 (N o54 (N o70 (N o107 (N o171 Z Z) (N o237 Z Z)) (N o139 (N o205 Z Z) Z)) (N o91 (N o123 (N o189 Z Z) (N o253 Z Z)) (N o155 (N o221 Z Z) Z))) (N o62 (N o81 (N o115 (N o181 Z Z) (N o245 Z Z)) (N o147 (N o213 Z Z) Z)) (N o99 (N o131 (N o197 Z Z) Z) (N o163 (N o229 Z Z) Z)))) (N o46 (N o58 (N o77 (N o111 (N o177 Z Z) (N o241 Z Z)) (N o143 (N o209 Z Z) Z)) (N o95 (N o127 (N o193 Z Z) Z) (N o159 (N o225 Z Z) Z))) (N o66 (N o85 (N o119 (N o185 Z Z) (N o249 Z Z)) (N o151 (N o217 Z Z) Z)) (N o103 (N o135 (N o201 Z Z) Z) (N o167 (N o233 Z Z) Z)))))))
noncomputable def tree300 : X->PySem.W.BT := (N b0 (N b1 (N o254 (N b7 (N o51 (N o73 (N o104 (N o168 (N o300 Z Z) Z) (N o234 Z Z)) (N o136 (N o202 Z Z) (N o268 Z Z))) (N o88 (N o120 (N o186 Z Z) (N o250 Z Z)) (N o152 (N o218 Z Z) (N o284 Z Z)))) (N o59 (N o78 (N o112 (N o178 Z Z) (N o242 Z Z)) (N o144 (N o210 Z Z) (N o276 Z Z))) (N o96 (N o128 (N o194 Z Z) (N o260 Z Z)) (N o160 (N o226 Z Z) (N o292 Z Z))))) (N o43 (N o55 (N o74 (N o108 (N o174 Z Z) (N o238 Z Z)) (N o140 (N o206 Z Z) (N o272 Z Z))) (N o92 (N o124 (N o190 Z Z) (N o256 Z Z)) (N o156 (N o222 Z Z) (N o288 Z Z)))) (N o63 (N o82 (N o116 (N o182 Z Z) (N o246 Z Z)) (N o148 (N o214 Z Z) (N o280 Z Z))) (N o100 (N o132 (N o198 Z Z) (N o264 Z Z)) (N o164 (N o230 Z Z) (N o296 Z Z)))))) (N b5 (N b9 (N o53 (N o69 (N o106 (N o170 Z Z) (N o236 Z Z)) (N o138 (N o204 Z Z) (N o270 Z Z))) (N o90 (N o122 (N o188 Z Z) (N o252 Z Z)) (N o154 (N o220 Z Z) (N o286 Z Z)))) (N o61 (N o80 (N o114 (N o180 Z Z) (N o244 Z Z)) (N o146 (N o212 Z Z) (N o278 Z Z))) (N o98 (N o130 (N o196 Z Z) (N o262 Z Z)) (N o162 (N o228 Z Z) (N o294 Z Z))))) (N o45 (N o57 (N o76 (N o110 (N o176 Z Z) (N o240 Z Z)) (N o142 (N o208 Z Z) (N o274 Z Z))) (N o94 (N o126 (N o192 Z Z) (N o258 Z Z)) (N o158 (N o224 Z Z) (N o290 Z Z)))) (N o65 (N o84 (N o118 (N o184 Z Z) (N o248 Z Z)) (N o150 (N o216 Z Z) (N o282 Z Z))) (N o102 (N o134 (N o200 Z Z) (N o266 Z Z)) (N o166 (N o232 Z Z) (N o298 Z Z))))))) (N b2 (N b4 (N b8 (N o52 (N o68 (N o105 (N o169 Z Z) (N o235 Z Z)) (N o137 (N o203 Z Z) (N o269 Z Z))) (N o89 (N o121 (N o187 Z Z) (N o251 Z Z)) (N o153 (N o219 Z Z) (N o285 Z Z)))) (N o60 (N o79 (N o113 (N o179 Z Z) (N o243 Z Z)) (N o145 (N o211 Z Z) (N o277 Z Z))) (N o97 (N o129 (N o195 Z Z) (N o261 Z Z)) (N o161 (N o227 Z Z) (N o293 Z Z))))) (N o255 (N o56 (N o75 (N o109 (N o175 Z Z) (N o239 Z Z)) (N o141 (N o207 Z Z) (N o273 Z Z))) (N o93 (N o125 (N o191 Z Z) (N o257 Z Z)) (N o157 (N o223 Z Z) (N o289 Z Z)))) (N o64 (N o83 (N o117 (N o183 Z Z) (N o247 Z Z)) (N o149 (N o215 Z Z) (N o281 Z Z))) (N o101 (N o133 (N o199 Z Z) (N o265 Z Z)) (N o165 (N o231 Z Z) (N o297 Z Z)))))) (N b6 (N b10 (N o54 (N o70 (N o107 (N o171 Z Z) (N o237 Z Z)) (N o139 (N o205 Z Z) (N o271 Z Z))) (N o91 (N o123 (N o189 Z Z) (N o253 Z Z)) (N o155 (N o221 Z Z) (N o287 Z Z)))) (N o62 (N o81 (N o115 (N o181 Z Z) (N o245 Z Z)) (N o147 (N o213 Z Z) (N o279 Z Z))) (N o99 (N o131 (N o197 Z Z) (N o263 Z Z)) (N o163 (N o229 Z Z) (N o295 Z Z))))) (N o46 (N o58 (N o77 (N o111 (N o177 Z Z) (N o241 Z Z)) (N o143 (N o209 Z Z) (N o275 Z Z))) (N o95 (N o127 (N o193 Z Z) (N o259 Z Z)) (N o159 (N o225 Z Z) (N o291 Z Z)))) (N o66 (N o85 (N o119 (N o185 Z Z) (N o249 Z Z)) (N o151 (N o217 Z Z) (N o283 Z Z))) (N o103 (N o135 (N o201 Z Z) (N o267 Z Z)) (N o167 (N o233 Z Z) (N o299 Z Z))))))))
noncomputable def heap301 : X->PySem.Heap := fun x => u39 (u40 ((Q b0 (Q b1 (Q b2 (Q o254 (Q b4 (Q b5 (Q b6 (Q b7 (Q b8 (Q b9 (Q b10 (Q o43 (Q o255 (Q o45 (Q o46 (Q o51 (Q o52 (Q o53 (Q o54 (Q o55 (Q o56 (Q o57 (Q o58 (Q o59 (Q o60 (Q o61 (Q o62 (Q o63 (Q o64 (Q o65 (Q o66 (Q o73 (Q o68 (Q o69 (Q o70 (Q o74 (Q o75 (Q o76 (Q o77 (Q o78 (Q o79 (Q o80 (Q o81 (Q o82 (Q o83 (Q o84 (Q o85 (Q o88 (Q o89 (Q o90 (Q o91 (Q o92 (Q o93 (Q o94 (Q o95 (Q o96 (Q o97 (Q o98 (Q o99 (Q o100 (Q o101 (Q o102 (Q o103 (Q o104 (Q o105 (Q o106 (Q o107 (Q o108 (Q o109 (Q o110 (Q o111 (Q o112 (Q o113 (Q o114 (Q o115 (Q o116 (Q o117 (Q o118 (Q o119 (Q o120 (Q o121 (Q o122 (Q o123 (Q o124 (Q o125 (Q o126 (Q o127 (Q o128 (Q o129 (Q o130 (Q o131 (Q o132 (Q o133 (Q o134 (Q o135 (Q o136 (Q o137 (Q o138 (Q o139 (Q o140 (Q o141 (Q o142 (Q o143 (Q o144 (Q o145 (Q o146 (Q o147 (Q o148 (Q o149 (Q o150 (Q o151 (Q o152 (Q o153 (Q o154 (Q o155 (Q o156 (Q o157 (Q o158 (Q o159 (Q o160 (Q o161 (Q o162 (Q o163 (Q o164 (Q o165 (Q o166 (Q o167 (Q o168 (Q o169 (Q o170 (Q o171 (Q o174 (Q o175 (Q o176 (Q o177 (Q o178 (Q o179 (Q o180 (Q o181 (Q o182 (Q o183 (Q o184 (Q o185 (Q o186 (Q o187 (Q o188 (Q o189 (Q o190 (Q o191 (Q o192 (Q o193 (Q o194 (Q o195 (Q o196 (Q o197 (Q o198 (Q o199 (Q o200 (Q o201 (Q o202 (Q o203 (Q o204 (Q o205 (Q o206 (Q o207 (Q o208 (Q o209 (Q o210 (Q o211 (Q o212 (Q o213 (Q o214 (Q o215 (Q o216 (Q o217 (Q o218 (Q o219 (Q o220 (Q o221 (Q o222 (Q o223 (Q o224 (Q o225 (Q o226 (Q o227 (Q o228 (Q o229 (Q o230 (Q o231 (Q o232 (Q o233 (Q o234 (Q o235 (Q o236 (Q o237 (Q o238 (Q o239 (Q o240 (Q o241 (Q o242 (Q o243 (Q o244 (Q o245 (Q o246 (Q o247 (Q o248 (Q o249 (Q o250 (Q o251 (Q o252 (Q o253 (Q o256 (Q o257 (Q o258 (Q o259 (Q o260 (Q o261 (Q o262 (Q o263 (Q o264 (Q o265 (Q o266 (Q o267 (Q o268 (Q o269 (Q o270 (Q o271 (Q o272 (Q o273 (Q o274 (Q o275 (Q o276 (Q o277 (Q o278 (Q o279 (Q o280 (Q o281 (Q o282 (Q o283 (Q o284 (Q o285 (Q o286 (Q o287 (Q o288 (Q o289 (Q o290 (Q o291 (Q o292 (Q o293 (Q o294 (Q o295 (Q o296 (Q o297 (Q o298 (Q o299 (Q o300 R)))))))))))))))))))))))))))))))))))))))))))))))))))))))))))))))))))))))))))))))))))))))))))))))))))))))))))))))))))))))))))))))))))))))))))))))))))))))))))))))))))))))))))))))))))))))))))))))))))))))))))))))))))))))))))))))))))))))))))))))))))))))))))))))) x)) (u43 u44 u44 u44 0 u45 u44 u15 (u46 u44) u44 0 u15 u15 u15 0 [2000, 10, 10] u15 0 u31 u44 u44 0 u15)
end Hd
noncomputable def PySem.W.Fast.tw2505975470608301272 : PySem.Params->PySem.W.Frag := fun P => Hd.heap39 (PySem.W.Fast.tw13745409909519247493, P)
theorem PySem.W.Fast.te2505975470608301272 : (fun P => Hd.heap39 (Hd.hs, P)) = PySem.W.Fast.tw2505975470608301272 := congrArg (fun σ P => Hd.heap39 (σ, P)) PySem.W.Fast.te13745409909519247493
noncomputable def PySem.W.Fast.tw13983001987325952928 : PySem.Params->PySem.Heap := fun P => Hd.heap46 (PySem.W.Fast.tw13745409909519247493, P)
theorem PySem.W.Fast.te13983001987325952928 : (fun P => Hd.heap46 (Hd.hs, P)) = PySem.W.Fast.tw13983001987325952928 := congrArg (fun σ P => Hd.heap46 (σ, P)) PySem.W.Fast.te13745409909519247493
noncomputable def PySem.W.Fast.tw17967036778387719842 : PySem.Params->PySem.W.BT := fun P => Hd.tree47 (PySem.W.Fast.tw13745409909519247493, P)
theorem PySem.W.Fast.te17967036778387719842 : (fun P => Hd.tree47 (Hd.hs, P)) = PySem.W.Fast.tw17967036778387719842 := congrArg (fun σ P => Hd.tree47 (σ, P)) PySem.W.Fast.te13745409909519247493
noncomputable def PySem.W.Fast.tw17674299913467783052 : PySem.Params->PySem.W.BT := fun P => Hd.tree70 (PySem.W.Fast.tw13745409909519247493, P)
theorem PySem.W.Fast.te17674299913467783052 : (fun P => Hd.tree70 (Hd.hs, P)) = PySem.W.Fast.tw17674299913467783052 := congrArg (fun σ P => Hd.tree70 (σ, P)) PySem.W.Fast.te13745409909519247493
noncomputable def PySem.W.Fast.tw3157550829962409089 : PySem.Params->PySem.W.BT := fun P => Hd.tree85 (PySem.W.Fast.tw13745409909519247493, P)
theorem PySem.W.Fast.te3157550829962409089 : (fun P => Hd.tree85 (Hd.hs, P)) = PySem.W.Fast.tw3157550829962409089 := congrArg (fun σ P => Hd.tree85 (σ, P)) PySem.W.Fast.te13745409909519247493
noncomputable def PySem.W.Fast.tw2468142370946429319 : PySem.Params->PySem.W.BT := fun P => Hd.tree171 (PySem.W.Fast.tw13745409909519247493, P)
theorem PySem.W.Fast.te2468142370946429319 : (fun P => Hd.tree171 (Hd.hs, P)) = PySem.W.Fast.tw2468142370946429319 := congrArg (fun σ P => Hd.tree171 (σ, P)) PySem.W.Fast.te13745409909519247493
noncomputable def PySem.W.Fast.tw1492722072014915210 : PySem.Params->PySem.W.BT := fun P => Hd.tree253 (PySem.W.Fast.tw13745409909519247493, P)
theorem PySem.W.Fast.te1492722072014915210 : (fun P => Hd.tree253 (Hd.hs, P)) = PySem.W.Fast.tw1492722072014915210 := congrArg (fun σ P => Hd.tree253 (σ, P)) PySem.W.Fast.te13745409909519247493
noncomputable def PySem.W.Fast.tw9715441445336276212 : PySem.Params->PySem.W.BT := fun P => Hd.tree300 (PySem.W.Fast.tw13745409909519247493, P)
theorem PySem.W.Fast.te9715441445336276212 : (fun P => Hd.tree300 (Hd.hs, P)) = PySem.W.Fast.tw9715441445336276212 := congrArg (fun σ P => Hd.tree300 (σ, P)) PySem.W.Fast.te13745409909519247493
noncomputable def PySem.W.Fast.tw6146175317805896260 : PySem.Params->PySem.Heap := fun P => Hd.heap301 (PySem.W.Fast.tw13745409909519247493, P)
theorem PySem.W.Fast.te6146175317805896260 : (fun P => Hd.heap301 (Hd.hs, P)) = PySem.W.Fast.tw6146175317805896260 := congrArg (fun σ P => Hd.heap301 (σ, P)) PySem.W.Fast.te13745409909519247493
set_option maxRecDepth 100000 in
set_option maxHeartbeats 0 in
theorem PySem.Challenge.cw_keepsakes_k48_whole_needed_legs_holds : PySem.Challenge.rw_keepsakes_k48_whole_needed_legs.Holds := by
  w_on; o_law; k_head; (case hw => w_witness2)
  k_fill
  refine Mine.walk (l := PySem.Challenge.rw_keepsakes_k48_whole_needed_legs) rfl rfl (fun w h Y => PySem.W.kIn_of Y) ?F
  case F =>
    intro w mg fa h KX G hmg
    refine' Mine.all_mk KX G hmg ?a_KeepError ?a_NoItem ?a_Heap ?clg ?clt ?xo_KeepError ?xs_KeepError ?xg_KeepError ?xh_KeepError ?xc_KeepError ?kc_KeepError ?xo_NoItem ?xs_NoItem ?xg_NoItem ?xh_NoItem ?xc_NoItem ?kc_NoItem ?pg_Heap ?hd_Heap ?po_Heap ?sa_Heap ?mk_Heap ?kc_Heap ?n_Heap_row ?a0 ?i0 ?l0 ?c0 ?k0 ?a1 ?i1 ?l1 ?c1 ?k1 ?a2 ?i2 ?l2 ?c2 ?k2 ?a3 ?i3 ?l3 ?c3 ?k3 ?a4 ?i4 ?l4 ?c4 ?k4 ?a5 ?i5 ?l5 ?c5 ?k5 ?a6 ?i6 ?l6 ?c6 ?k6 ?a7 ?i7 ?l7 ?c7 ?k7 ?a8 ?i8 ?l8 ?c8 ?k8 ?a9 ?l9 ?c9 ?k9 ?a10 ?l10 ?c10 ?k10 ?a11 ?l11 ?c11 ?k11 ?a12 ?l12 ?c12 ?k12 ?a13 ?l13 ?c13 ?k13 ?a14 ?l14 ?c14 ?k14 ?a15 ?l15 ?c15 ?k15 ?a16 ?l16 ?c16 ?k16 ?a17 ?l17 ?c17 ?k17 ?a18 ?l18 ?c18 ?k18 ?a19 ?l19 ?c19 ?k19 ?a20 ?l20 ?c20 ?k20 ?a21 ?l21 ?c21 ?k21 ?a22 ?l22 ?c22 ?k22 ?a23 ?l23 ?c23 ?k23 ?a24 ?l24 ?c24 ?k24 ?a25 ?l25 ?c25 ?k25 ?a26 ?l26 ?c26 ?k26 ?a27 ?l27 ?c27 ?k27 ?z_len ?z_isinstance ?z_int ?z_bool ?z_list ?z_tuple ?z_dict ?z_range ?z_min ?z_max ?z_sorted ?z_reversed ?z_str ?z_ValueError ?z_set ?in0_NoItem ?kp0_NoItem
    case a_KeepError | a_NoItem | a_Heap | clg | clt | xo_KeepError | xs_KeepError | xg_KeepError | xh_KeepError | xc_KeepError | kc_KeepError | xo_NoItem | xs_NoItem | xg_NoItem | xh_NoItem | xc_NoItem | kc_NoItem | pg_Heap | hd_Heap | po_Heap | sa_Heap | mk_Heap | kc_Heap | n_Heap_row | a0 | i0 | l0 | c0 | k0 | a1 | i1 | l1 | c1 | k1 | a2 | i2 | l2 | c2 | k2 | a3 | i3 | l3 | c3 | k3 | a4 | i4 | l4 | c4 | k4 | a5 | i5 | l5 | c5 | k5 | a6 | i6 | l6 | c6 | k6 | a7 | i7 | l7 | c7 | k7 | a8 | i8 | l8 | c8 | k8 | a9 | l9 | c9 | k9 | a10 | l10 | c10 | k10 | a11 | l11 | c11 | k11 | a12 | l12 | c12 | k12 | a13 | l13 | c13 | k13 | a14 | l14 | c14 | k14 | a15 | l15 | c15 | k15 | a16 | l16 | c16 | k16 | a17 | l17 | c17 | k17 | a18 | l18 | c18 | k18 | a19 | l19 | c19 | k19 | a20 | l20 | c20 | k20 | a21 | l21 | c21 | k21 | a22 | l22 | c22 | k22 | a23 | l23 | c23 | k23 | a24 | l24 | c24 | k24 | a25 | l25 | c25 | k25 | a26 | l26 | c26 | k26 | a27 | l27 | c27 | k27 | z_len | z_isinstance | z_int | z_bool | z_list | z_tuple | z_dict | z_range | z_min | z_max | z_sorted | z_reversed | z_str | z_ValueError | z_set | in0_NoItem | kp0_NoItem => first | k_is | kit_is | kernel_rfl
