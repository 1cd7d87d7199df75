import PyProof.Rows.All
import Wide.All
import OpenK.AllK
import Wide.FinOn
import Lean
import PyProof.EqAt
import PyProof.EqKinds
import PyProof.TupleCall
import PyProof.AttrMissHeap
import PyProof.DictWalks
import KE.KDictObj
import KE.KEqDict
import KE.KUnpack
import PyProof.Rows.SetFrom
import KE.KRevIter
import KE.KDictSum
import KE.KFmtOwn
import PyProof.FactsAll.set_1
import PyProof.FactsAll.set_2
import PyProof.FactsAll.tuple_1
import PyProof.FactsAll.tuple_2
import KE.KSortTup
import PyProof.SetRoads
import PyProof.DictValues
import PyProof.FactsAll.dict_4
import PyProof.Rows.CallKwBuiltin
import PyProof.DictCopy
import KE.KDictList
import KE.KPairComp
import PyProof.DictItems
import PyProof.MinMaxWalk
import PyProof.WalkInts
import PyProof.RulesTry
import PyProof.ListRange
import PyProof.RangeFor
import KE.KNest
import KE.KLam
import PySem.Challenge.RW_keepsakes_k33_legs_of_a_shelf
set_option Elab.async false
set_option linter.all false
set_option maxRecDepth 100000
namespace L2
open PySem PySem.Spec PyProof.Rows
abbrev Key := Sum Int Str
def keyIs : Key->Value->Bool
  | .inl k, v => Value.isInt k v
  | .inr x, v => Value.isStrOf x v
def keyH (w : World) : Key->Int
  | .inl k => hashInt k
  | .inr x => hashStr w x
theorem keyIs_shape : ∀ {k : Key} {v : Value}, keyIs k v = true->(∃ i t, k = Sum.inl i /\ v = Value.int i t) ∨ (∃ x t, k = Sum.inr x /\ v = Value.str x t)
  | .inl i, v, h => by
    obtain ⟨t, e⟩ := Value.isInt_shape (k := i) (v := v) h
    exact .inl ⟨i, t, rfl, e⟩
  | .inr x, v, h => by
    obtain ⟨t, e⟩ := Value.isStrOf_shape (x := x) (v := v) h
    exact .inr ⟨x, t, rfl, e⟩
theorem keyIs_int (i : Int) (t : Tok) : keyIs (.inl i) (.int i t) = true := by simp [keyIs, Value.isInt]
theorem keyIs_str (x : Str) (t : Tok) : keyIs (.inr x) (.str x t) = true := by simp [keyIs, Value.isStrOf]
theorem key_ll (a b : Int) : decide ((Sum.inl a : Key) = Sum.inl b) = (a == b) := by
  by_cases e : a = b
  · subst e; simp
  · have h : ¬ (Sum.inl a : Key) = Sum.inl b := fun q => e (Sum.inl.inj q)
    rw [decide_eq_false h]
    exact (beq_eq_false_iff_ne.mpr e).symm
theorem key_rr (a b : Str) : decide ((Sum.inr a : Key) = Sum.inr b) = decide (a = b) := by
  by_cases e : a = b
  · subst e; simp
  · have h : ¬ (Sum.inr a : Key) = Sum.inr b := fun q => e (Sum.inr.inj q)
    rw [decide_eq_false h, decide_eq_false e]
theorem key_lr (a : Int) (b : Str) : decide ((Sum.inl a : Key) = Sum.inr b) = false := decide_eq_false (fun q => nomatch q)
theorem key_rl (a : Str) (b : Int) : decide ((Sum.inr a : Key) = Sum.inl b) = false := decide_eq_false (fun q => nomatch q)
def mixKind (prog : Program) (w : World) : PySem.KeyKind prog w Key where
  is := keyIs
  hash := keyH w
  inj := fun v a b ha hb => by
    rcases keyIs_shape ha with ⟨i, t, rfl, rfl⟩ | ⟨x, t, rfl, rfl⟩
    · rcases keyIs_shape hb with ⟨j, u, rfl, e⟩ | ⟨y, u, rfl, e⟩
      · injection e with e1 _; rw [e1]
      · exact nomatch e
    · rcases keyIs_shape hb with ⟨j, u, rfl, e⟩ | ⟨y, u, rfl, e⟩
      · exact nomatch e
      · injection e with e1 _; rw [e1]
  byValue := fun k v h => by
    rcases keyIs_shape h with ⟨i, t, rfl, rfl⟩ | ⟨x, t, rfl, rfl⟩ <;> rfl
  pyHash := fun hv h => by
    rcases keyIs_shape hv with ⟨i, t, rfl, rfl⟩ | ⟨x, t, rfl, rfl⟩
    · exact wpAny_pyHash_int h
    · exact wpAny_pyHash_str h
  eqBool := fun hu hv h => by
    rcases keyIs_shape hu with ⟨i, t, rfl, rfl⟩ | ⟨x, t, rfl, rfl⟩
    · rcases keyIs_shape hv with ⟨j, u, rfl, rfl⟩ | ⟨y, u, rfl, rfl⟩
      · rw [key_ll] at h; exact wpAny_eqBool_int h
      · rw [key_lr] at h; exact SeqAt.EqAt.int_str i t y u _ _ _ _ h
    · rcases keyIs_shape hv with ⟨j, u, rfl, rfl⟩ | ⟨y, u, rfl, rfl⟩
      · rw [key_rl] at h; exact SeqAt.EqAt.str_int x t j u _ _ _ _ h
      · rw [key_rr] at h; exact wpAny_eqBool_str h
  «strs» := fun k x t v h => by
    rcases keyIs_shape h with ⟨i, u, rfl, e⟩ | ⟨y, u, rfl, e⟩
    · exact nomatch e
    · injection e with e1 _
      subst e1
      cases v <;> rfl
theorem mixKind_int (prog : Program) (w : World) (i : Int) (t : Tok) : (mixKind prog w).is (.inl i) (.int i t) = true := keyIs_int i t
theorem mixKind_str (prog : Program) (w : World) (x : Str) (t : Tok) : (mixKind prog w).is (.inr x) (.str x t) = true := keyIs_str x t
open PySem PySem.Spec PyProof.Rows
inductive V where
  | non | bl (b : Bool) | int (i : Int) | str (x : Str) | byt (b : Array UInt8) | flt (b : UInt64) | ref (a : Addr) | ty (n : String)
  deriving DecidableEq
def RelV : V->Value->Prop
  | .non, u => u = Value.none
  | .bl b, u => u = Value.bool b
  | .int i, u => ∃ t, u = Value.int i t
  | .str x, u => ∃ t, u = Value.str x t
  | .byt b, u => ∃ t, u = Value.bytes b t
  | .flt b, u => ∃ t, u = Value.float b t
  | .ref a, u => u = Value.ref a
  | .ty n, u => u = Value.type n
abbrev Vals : List V->List Value->Prop := Paired RelV
theorem Vals.length {xs : List V} {us : List Value} (r : Vals xs us) : xs.length = us.length := Paired.length r
theorem Vals.get : ∀ {xs : List V} {us : List Value} {i : Nat} {x : V}, Vals xs us->xs[i]? = some x->∃ u, us[i]? = some u /\ RelV x u
  | _, _, _, _, .nil, e => by simp at e
  | _, _, 0, _, .cons r _, e => by simp at e; subst e; exact ⟨_, rfl, r⟩
  | _, _, i + 1, x, .cons _ t, e => by
    obtain ⟨u, h1, h2⟩ := Vals.get (i := i) (x := x) t (by simpa using e)
    exact ⟨u, by simpa using h1, h2⟩
theorem Vals.set {x : V} {u : Value} (r : RelV x u) : ∀ {xs : List V} {us : List Value} (i : Nat), Vals xs us->Vals (xs.set i x) (us.set i u)
  | _, _, _, .nil => .nil
  | _, _, 0, .cons _ t => .cons r t
  | _, _, i + 1, .cons q t => .cons q (Vals.set r i t)
theorem Vals.append : ∀ {xs ys : List V} {us ws : List Value}, Vals xs us->Vals ys ws->Vals (xs ++ ys) (us ++ ws)
  | _, _, _, _, .nil, s => s
  | _, _, _, _, .cons r t, s => .cons r (Vals.append t s)
theorem Vals.take : ∀ {xs : List V} {us : List Value} (n : Nat), Vals xs us->Vals (xs.take n) (us.take n)
  | _, _, 0, _ => .nil
  | _, _, _ + 1, .nil => .nil
  | _, _, n + 1, .cons r t => .cons r (Vals.take n t)
theorem Vals.drop : ∀ {xs : List V} {us : List Value} (n : Nat), Vals xs us->Vals (xs.drop n) (us.drop n)
  | _, _, 0, r => r
  | _, _, _ + 1, .nil => .nil
  | _, _, n + 1, .cons _ t => Vals.drop n t
def RelO : Option V->Option Value->Prop
  | some v, some u => RelV v u
  | none, none => True
  | _, _ => False
def KV {κ : Type} : List (κ × V)->List (κ × Value)->Prop := Paired fun (p : κ × V) (q : κ × Value) => p.1 = q.1 /\ RelV p.2 q.2
def kV : Key->V
  | .inl i => .int i
  | .inr x => .str x
inductive HO where
    | lst (xs : List V)
    | tup (xs : List V)
    | dK (kvs : List (Key × V)) | dT (kvs : List (List Key × V))
    | set (S : Int->Bool) (n : Nat)
    | ins (C dx : Addr) (fs : List (Str × V))
    | own (x : Addr)
    | xd (fs : List (Str × V))
    | met (f x : Addr)
    | rng (lo hi : Int)
    | frz (o : Obj) (u : HO)
    | tbl (ps : Array Value)
    | ext (φ : Heap->Prop)
abbrev Hp := Addr->Option HO
def upd (H : Hp) (a : Addr) (o : HO) : Hp := fun b => if b = a then some o else H b
theorem upd_same {H : Hp} {a : Addr} {o : HO} : upd H a o a = some o := by unfold upd; rw [if_pos rfl]
theorem upd_ne {H : Hp} {a b : Addr} {o : HO} (h : b ≠ a) : upd H a o b = H b := by unfold upd; rw [if_neg h]
theorem upd_upd {H : Hp} {a : Addr} {o u : HO} : upd (upd H a o) a u = upd H a u := by
  funext b; unfold upd; split <;> rfl
theorem ne_of {H : Hp} {a b : Addr} {o u : HO} (h : H a = some o) (h' : H b = some u) (d : o ≠ u) : a ≠ b := by
  intro e; subst e; rw [h] at h'; exact d (Option.some.inj h')
theorem ne_of_none {H : Hp} {a b : Addr} {o : HO} (h : H a = some o) (h' : H b = none) : a ≠ b := by
  intro e; subst e; rw [h] at h'; cases h'
section
variable (P : Program) (w : World)
def ObjOk (H : Hp) (h : Heap) (a : Addr) : HO->Prop
  | .lst xs => xs.length ≤ sizeLine /\ ∃ (its : List Value) (n : Nat), Vals xs its /\ h.get? a = some { cls := .type "list", data := .seq its.toArray n }
  | .tup xs => xs.length ≤ sizeLine /\ ∃ its : List Value, Vals xs its /\ IsTup h a its.toArray
  | .dK kvs => kvs.length ≤ sizeLine /\ (a == sysModules) = false /\ ∃ vs, KV kvs vs /\ h.DictOf (mixKind P w) a vs
  | .dT kvs => kvs.length ≤ sizeLine /\ (a == sysModules) = false /\ ∃ xs : List (List Key × Addr × Value),
      Paired (fun (p : List Key × V) (q : List Key × Addr × Value) => p.1 = q.1 /\ H q.2.1 = some (.tup (p.1.map kV)) /\ RelV p.2 q.2.2) kvs xs ∧
      ∃ o es ep, h.get? a = some o /\ o.ExactDict /\ o.data = .dict es ep /\ es.toList = xs.map (entryOfKey (tupleKind (mixKind P w))) /\ (xs.map (·.1)).Nodup
  | .set S n => h.SetOf (intKind P w) a S n
  | .ins C dx fs => H dx = some (.own a) /\ fs.length ≤ 1000 /\ dx ≠ a /\ h.get? a = some (PySem.W.instObj C dx) ∧
      ∃ mA, h.Ns1 dx mA /\ (∀ f, RelO (fs.lookup f) (mA f)) /\ PySem.Within mA (fs.map (·.1))
  | .own _ => ∃ o, h.get? a = some o
  | .xd fs => ∃ mA, h.Ns1 a mA /\ ∀ f, RelO (fs.lookup f) (mA f)
  | .rng lo hi => ∃ t u v, h.get? a = some { cls := .type "range", data := .fields #[.int lo t, .int hi u, .int 1 v] }
  | .frz o u => h.get? a = some o /\ ObjOk H h a u
  | .tbl ps => h.get? a = some { cls := .none, data := .fields ps }
  | .met f x => h.get? a = some (PySem.W.methodObj (.ref f) (.ref x))
  | .ext φ => φ h /\ (∃ o, h.get? a = some o) /\ ∀ h1 h2 : Heap, φ h1->(∀ o, h1.get? a = some o->h2.get? a = some o)->φ h2
def HOk (H : Hp) (h : Heap) : Prop := ∀ a o, H a = some o->ObjOk P w H h a o
end
section
variable {P : Program} {w : World} {H H' : Hp} {h h' : Heap} {a : Addr} {o : HO}
theorem ObjOk.lt (x : ObjOk P w H h a o) : a < h.objs.size := by
  cases o with
  | lst xs => obtain ⟨_, _, _, _, e⟩ := x; exact Heap.lt_size e
  | tup xs => obtain ⟨_, _, _, p⟩ := x; exact p.lt
  | dK kvs => obtain ⟨_, _, _, _, o, _, _, e, _⟩ := x; exact Heap.lt_size e
  | dT kvs => obtain ⟨_, _, _, _, o, _, _, e, _⟩ := x; exact Heap.lt_size e
  | set S n => obtain ⟨o, _, _, _, e, _⟩ := x; exact Heap.lt_size e
  | ins C dx fs => obtain ⟨_, _, _, e, _⟩ := x; exact Heap.lt_size e
  | own y => obtain ⟨_, e⟩ := x; exact Heap.lt_size e
  | xd fs => obtain ⟨_, ⟨_, _, _, e, _⟩, _⟩ := x; exact Heap.lt_size e
  | rng lo hi => obtain ⟨_, _, _, e⟩ := x; exact Heap.lt_size e
  | frz ob u => obtain ⟨e, _⟩ := x; exact Heap.lt_size e
  | tbl ps => exact Heap.lt_size (show h.get? a = some _ from x)
  | met f y => exact Heap.lt_size (show h.get? a = some _ from x)
  | ext φ => obtain ⟨_, ⟨_, e⟩, _⟩ := x; exact Heap.lt_size e
theorem Paired.mapP {α β : Type} {F G : α->β->Prop} : ∀ {l₁ : List α} {l₂ : List β}, Paired F l₁ l₂->(∀ a b, F a b->G a b)->Paired G l₁ l₂
  | _, _, .nil, _ => .nil
  | _, _, .cons r t, f => .cons (f _ _ r) (Paired.mapP t f)
theorem ObjOk.stay (x : ObjOk P w H h a o) (k : ∀ b u, (b = a ∨ H b = some (.own a))->h.get? b = some u->h'.get? b = some u)
    (ho : ∀ b, H b = some (.own a)->H' b = some (.own a)) (ht : ∀ b xs, H b = some (.tup xs)->H' b = some (.tup xs)) : ObjOk P w H' h' a o := by
  induction o with
  | lst xs => obtain ⟨z, its, n, r, e⟩ := x; exact ⟨z, its, n, r, k _ _ (.inl rfl) e⟩
  | tup xs => obtain ⟨z, its, r, ob, e, c⟩ := x; exact ⟨z, its, r, ob, k _ _ (.inl rfl) e, c⟩
  | dK kvs => obtain ⟨z, y, vs, r, ob, es, ep, e, c⟩ := x; exact ⟨z, y, vs, r, ob, es, ep, k _ _ (.inl rfl) e, c⟩
  | dT kvs =>
    obtain ⟨z, y, xs, r, ob, es, ep, e, c⟩ := x
    exact ⟨z, y, xs, Paired.mapP r fun p q z => ⟨z.1, ht _ _ z.2.1, z.2.2⟩, ob, es, ep, k _ _ (.inl rfl) e, c⟩
  | set S n => obtain ⟨ob, es, ep, t, e, c⟩ := x; exact ⟨ob, es, ep, t, k _ _ (.inl rfl) e, c⟩
  | ins C dx fs =>
    obtain ⟨d, z, ne, e, mA, ⟨od, es, ep, e2, c⟩, r⟩ := x
    exact ⟨ho _ d, z, ne, k _ _ (.inl rfl) e, mA, ⟨od, es, ep, k _ _ (.inr d) e2, c⟩, r⟩
  | own y => obtain ⟨ob, e⟩ := x; exact ⟨ob, k _ _ (.inl rfl) e⟩
  | xd fs => obtain ⟨mA, ⟨od, es, ep, e, c⟩, r⟩ := x; exact ⟨mA, ⟨od, es, ep, k _ _ (.inl rfl) e, c⟩, r⟩
  | rng lo hi => obtain ⟨t, u, v, e⟩ := x; exact ⟨t, u, v, k _ _ (.inl rfl) e⟩
  | frz ob u ih => obtain ⟨e, q⟩ := x; exact ⟨k _ _ (.inl rfl) e, ih q⟩
  | tbl ps =>
    have e : h.get? a = some { cls := .none, data := .fields ps } := x
    show h'.get? a = some { cls := .none, data := .fields ps }
    exact k a _ (.inl rfl) e
  | met f y =>
    have e : h.get? a = some (PySem.W.methodObj (.ref f) (.ref y)) := x
    show h'.get? a = some (PySem.W.methodObj (.ref f) (.ref y))
    exact k a _ (.inl rfl) e
  | ext φ => obtain ⟨p, ⟨o, e⟩, st⟩ := x; exact ⟨st _ _ p fun o q => k _ _ (.inl rfl) q, ⟨o, k _ _ (.inl rfl) e⟩, st⟩
theorem HOk.lt (x : HOk P w H h) (e : H a = some o) : a < h.objs.size := (x a o e).lt
theorem HOk.fresh (x : HOk P w H h) (e : h.objs.size ≤ a) : H a = none := by
  cases q : H a with
  | none => rfl
  | some u => exact absurd (Nat.lt_of_lt_of_le (x.lt q) e) (Nat.lt_irrefl _)
theorem HOk.kept (x : HOk P w H h) (k : ∀ b u, h.get? b = some u->h'.get? b = some u) : HOk P w H h' := fun a o e =>
  (x a o e).stay (fun b u _ q => k b u q) (fun _ q => q) fun _ _ q => q
theorem HOk.laid (x : HOk P w H h) (k : ∀ b u, h.get? b = some u->h'.get? b = some u) (hp : h.objs.size ≤ a) (new : ObjOk P w (upd H a o) h' a o) : HOk P w (upd H a o) h' := fun b u e => by
  have hn := x.fresh hp
  by_cases hb : b = a
  · subst hb; rw [upd_same] at e; cases e; exact new
  · rw [upd_ne hb] at e
    exact (x b u e).stay (fun c v _ q => k c v q) (fun c q => by rw [upd_ne (ne_of_none q hn)]; exact q) fun c xs q => by rw [upd_ne (ne_of_none q hn)]; exact q
end
def Rd (H : Hp) (a : Addr) (u : HO) : Prop := H a = some u ∨ ∃ o, H a = some (.frz o u)
theorem Rd.ok {P : Program} {w : World} {H : Hp} {h : Heap} {a : Addr} {u : HO} (r : Rd H a u) (x : HOk P w H h) : ObjOk P w H h a u := by
  rcases r with r | ⟨o, r⟩
  · exact x a u r
  · obtain ⟨_, q⟩ := x a _ r
    exact q
def Mut : Option HO->Prop
  | some (.lst _) => True
  | some (.dK _) => True
  | some (.dT _) => True
  | some (.set _ _) => True
  | some (.ins _ _ _) => True
  | some (.ext _) => True
  | _ => False
section
variable {P : Program} {w : World} {H : Hp} {h h' : Heap} {x e : Addr} {o' : HO}
theorem HOk.write (ok : HOk P w H h) (mu : Mut (H x)) (he : e = x ∨ H e = some (.own x)) (k : ∀ b u, b ≠ e->h.get? b = some u->h'.get? b = some u) (heo : ∃ u, h'.get? e = some u)
    (new : ObjOk P w (upd H x o') h' x o') : HOk P w (upd H x o') h' := fun b u q => by
  have nown : ∀ c y, H c = some (.own y)->c ≠ x := fun c y r z => by subst z; rw [r] at mu; exact mu
  have ntup : ∀ c xs, H c = some (.tup xs)->c ≠ x := fun c xs r z => by subst z; rw [r] at mu; exact mu
  by_cases hb : b = x
  · subst hb; rw [upd_same] at q; cases q; exact new
  · rw [upd_ne hb] at q
    by_cases hbe : b = e
    · have q' : H b = some (.own x) := by
        rcases he with z | z
        · exact absurd (hbe.trans z) hb
        · rw [hbe]; exact z
      rw [q] at q'; cases q'
      obtain ⟨v, hv⟩ := heo
      exact ⟨v, by rw [hbe]; exact hv⟩
    · refine (ok b u q).stay (fun c v hc r => k c v ?_ r) (fun c r => by rw [upd_ne (nown c b r)]; exact r) fun c xs r => by rw [upd_ne (ntup c xs r)]; exact r
      rcases hc with rfl | hc
      · exact hbe
      · rintro rfl
        rcases he with z | z
        · exact nown c b hc z
        · rw [hc] at z; cases z; exact hb rfl
end
structure Un (fs ex : List Addr) (H H' : Hp) (h h' : Heap) : Prop where
  keep : ∀ b o, h.get? b = some o->H b = none->b ∉ fs->b ∉ ex->h'.get? b = some o
  slot : ∀ b o, h.get? b = some o->H b = none->b ∈ fs->b ∉ ex->∃ sl, h'.get? b = some { o with slots := sl }
  free : ∀ b o, h.get? b = some o->H b = none->b ∉ ex->H' b = none
  there : ∀ b o, h.get? b = some o->b ∉ ex->∃ o', h'.get? b = some o'
  tups : ∀ b xs, H b = some (.tup xs)->H' b = some (.tup xs)
  frzs : ∀ b o u, H b = some (.frz o u)->H' b = some (.frz o u)
  tbls : ∀ b ps, H b = some (.tbl ps)->∃ more, H' b = some (.tbl (ps ++ more))
section
variable {fs fs' ex ex' : List Addr} {H H1 H2 : Hp} {h h1 h2 h' : Heap} {a x e : Addr} {o : HO}
theorem Un.any (u : Un fs ex H H1 h h1) {b : Addr} {ob : Obj} (q : h.get? b = some ob) (n : H b = none) (hx : b ∉ ex) : ∃ sl, h1.get? b = some { ob with slots := sl } := by
  by_cases hb : b ∈ fs
  · exact u.slot b ob q n hb hx
  · exact ⟨ob.slots, u.keep b ob q n hb hx⟩
theorem Un.kept (k : ∀ b u, h.get? b = some u->h'.get? b = some u) : Un fs ex H H h h' :=
  ⟨fun b ob q _ _ _ => k b ob q, fun b ob q _ _ _ => ⟨ob.slots, k b ob q⟩, fun _ _ _ n _ => n, fun b ob q _ => ⟨ob, k b ob q⟩, fun _ _ q => q, fun _ _ _ q => q, fun _ ps q => ⟨#[], by rw [q]; simp⟩⟩
theorem Un.refl : Un fs ex H H h h := Un.kept fun _ _ q => q
theorem Un.laid (k : ∀ b u, h.get? b = some u->h'.get? b = some u) (hp : h.objs.size ≤ a) (hn : H a = none) : Un fs ex H (upd H a o) h h' where
  keep := fun b u q _ _ _ => k b u q
  slot := fun b u q _ _ _ => ⟨u.slots, k b u q⟩
  free := fun b u q n _ => by rw [upd_ne (Nat.ne_of_lt (Nat.lt_of_lt_of_le (Heap.lt_size q) hp))]; exact n
  there := fun b u q _ => ⟨u, k b u q⟩
  tups := fun b xs q => by rw [upd_ne (ne_of_none q hn)]; exact q
  frzs := fun b u xs q => by rw [upd_ne (ne_of_none q hn)]; exact q
  tbls := fun b ps q => ⟨#[], by rw [upd_ne (ne_of_none q hn), q]; simp⟩
theorem Un.write (mu : Mut (H x)) (he : e = x ∨ H e = some (.own x)) (k : ∀ b u, b ≠ e->h.get? b = some u->h'.get? b = some u) (heo : ∃ u, h'.get? e = some u) : Un fs ex H (upd H x o) h h' := by
  have hx : ∀ b, H b = none->b ≠ x := fun b n z => by subst z; rw [n] at mu; exact mu
  have hb : ∀ b, H b = none->b ≠ e := fun b n z => by
    subst z
    rcases he with r | r
    · exact hx b n r
    · rw [n] at r; cases r
  have hm : ∀ b u, H b = some u->¬ Mut (some u)->b ≠ x := fun b u q nm z => by subst z; rw [q] at mu; exact nm mu
  refine ⟨fun b u q n _ _ => k b u (hb b n) q, fun b u q n _ _ => ⟨u.slots, k b u (hb b n) q⟩, fun b u q n _ => by rw [upd_ne (hx b n)]; exact n, fun b u q _ => ?_,
    fun b xs q => by rw [upd_ne (hm b _ q fun z => z)]; exact q, fun b u xs q => by rw [upd_ne (hm b _ q fun z => z)]; exact q, fun b ps q => ⟨#[], by rw [upd_ne (hm b _ q fun z => z), q]; simp⟩⟩
  by_cases hbe : b = e
  · subst hbe; exact heo
  · exact ⟨u, k b u hbe q⟩
end
def trk (h : Heap) (H : Hp) : List Addr := (List.range h.objs.size).filter fun a => (H a).isSome
def hidT (h : Heap) (H : Hp) : Heap := PySem.W.hideAll h (trk h H)
theorem hidT_size (h : Heap) (H : Hp) : (hidT h H).objs.size = h.objs.size := PySem.W.hideAll_size _ _
theorem hidT_get {h : Heap} {H : Hp} {b : Addr} {o : Obj} (e : h.get? b = some o) (n : H b = none) : (hidT h H).get? b = some o :=
  PySem.W.hideAll_get _ e fun hm => by
    have q : (H b).isSome = true := (List.mem_filter.mp hm).2
    rw [n] at q; simp at q
theorem of_hidT {h : Heap} {H : Hp} {b : Addr} {o : Obj} (e : (hidT h H).get? b = some o) : h.get? b = some o /\ H b = none := by
  have e' : h.get? b = some o := PySem.W.of_hideAll (trk h H) e
  refine ⟨e', ?_⟩
  cases q : H b with
  | none => rfl
  | some x =>
    have hm : b ∈ trk h H := List.mem_filter.mpr ⟨List.mem_range.mpr (Heap.lt_size e'), by simp [q]⟩
    have z : (hidT h H).get? b = none := PySem.W.hideAll_none (trk h H) hm
    rw [z] at e; cases e
def allNews (g h : Heap) (L : Addr) : List (Addr × Obj) := (List.range h.objs.size).filterMap fun a => if a = L ∨ (g.get? a).isSome = true then none else (h.get? a).map fun o => (a, o)
def rest (g h : Heap) (L d : Addr) : List (Addr × Obj) := (allNews g h L).filter fun p => decide (p.1 ≠ d)
open PySem PySem.Spec PyProof.Rows
structure Mod (K : PySem.W.Frag) (mg : Str->Option Value) (base : Heap) : Prop where
  kin : K.In base
  glob : base.Ns mainGlobals mg
  blt : ∃ mb, base.Ns builtinsNs mb /\ ∀ x : Str, x ≠ "__name__"->mb x = bootBuiltins x
  nolimit : base.NoLimit
structure Cx where
  prog : Program
  w : World
  K : PySem.W.Frag
  mg : Str->Option Value
  base : Heap
  A : Around
  N : List Str
  s₀ : Shared
  H₀ : Hp
  env : Env
  outer : List Env
  stack : List Env
  ex : List Addr
  fn : Str->Bool
  calm : Bool
  pn : List (Addr × Obj)
  xe : Value->Shared->Prop
def frs (l : List Env) : List Addr := l.filterMap (·.frame)
abbrev Cx.fs (X : Cx) : List Addr := frs X.outer
def Vis (sc : Scope) (x : Str) : Prop := sc.names.lookup x = some .local ∨ sc.names.lookup x = some .cell ∨ sc.names.lookup x = some .free
def Loc (sc : Scope) (x : Str) : Prop := sc.names.lookup x = some .local ∨ sc.names.lookup x = some .cell
def Look (env : Env) (h : Heap) (m : Str->Option Value) (x : Str) (u : Value) : Prop :=
  (env.kindOf x = some .local /\ m x = some u) ∨ ((env.kindOf x = some .cell ∨ env.kindOf x = some .free) /\ ∃ c, env.cells.lookup x = some c /\ h.IsCell c (some u))
structure Cx.Ok (X : Cx) : Prop where
  mod : Mod X.K X.mg X.base
  kind : X.env.scope.kind = .function
  glob : X.env.globals = mainGlobals
  blt : X.env.builtins = builtinsNs
  above : X.s₀.heap.objs.size ≤ X.env.locals
  inj : ∀ x y c, X.env.cells.lookup x = some c->X.env.cells.lookup y = some c->x = y
  has : ∀ x, (X.env.kindOf x = some .cell ∨ X.env.kindOf x = some .free)->∃ c, X.env.cells.lookup x = some c
  cab : ∀ x c, X.fn x = true->X.env.cells.lookup x = some c->X.s₀.heap.objs.size ≤ c
  hd : X.calm = true->X.A.handled = none
  frames : X.A.frames = some X.stack
  stk : X.stack = X.outer ∨ (X.stack = X.env :: X.outer /\ X.env.frame = some X.env.locals)
  exf : ∀ b ∈ X.ex, b ≠ X.env.locals /\ ∀ x c, X.env.cells.lookup x = some c->c ≠ b
  bs : ∀ b o, X.base.get? b = some o->X.s₀.heap.get? b = some o /\ X.H₀ b = none
  bsz : X.base.objs.size ≤ X.s₀.heap.objs.size
  noex : ∀ b o, X.base.get? b = some o->b ∉ X.ex
  exfs : ∀ b ∈ X.ex, b ∉ X.fs
  funs : X.s₀.heap.FunFrames X.base X.outer
  frf : ∀ b ∈ X.fs, X.H₀ b = none
structure Inv (X : Cx) (pins : List (Addr × Obj)) (σ : List (Option V)) (H : Hp) (s : Shared) : Prop where
  ok : X.Ok
  os : s.os = X.s₀.os
  bare : AllBare s.gens
  base : Un X.fs X.ex X.H₀ H X.s₀.heap s.heap
  loc : ∃ m, s.heap.Ns X.env.locals m /\ ∀ (i : Nat) (x : Str) (v : V), X.N[i]? = some x->σ[i]? = some (some v)->Vis X.env.scope x->∃ u, RelV v u /\ Look X.env s.heap m x u
  cell : ∀ x c, X.env.cells.lookup x = some c->∃ v, s.heap.IsCell c v
  free : H X.env.locals = none
  freeC : ∀ x c, X.env.cells.lookup x = some c->H c = none
  pin : ∀ p ∈ X.pn ++ pins, s.heap.get? p.1 = some p.2 /\ H p.1 = none /\ p.1 ≠ X.env.locals /\ p.1 ∉ X.fs /\ ∀ v, p.2.data ≠ .cell v
  hok : HOk X.prog X.w H s.heap
  len : σ.length = X.N.length
section
variable {X : Cx} {pins : List (Addr × Obj)} {σ : List (Option V)} {H H' : Hp} {s : Shared} {h' : Heap}
theorem Cx.Ok.nofr (ok : X.Ok) {b : Addr} {o : Obj} (e : X.base.get? b = some o) : b ∉ X.fs := fun hb => by
  have := (ok.funs.mem hb).1
  rw [e] at this; cases this
theorem Inv.bs (I : Inv X pins σ H s) : ∀ b o, X.base.get? b = some o->s.heap.get? b = some o /\ H b = none := fun b o e =>
  ⟨I.base.keep b o (I.ok.bs b o e).1 (I.ok.bs b o e).2 (I.ok.nofr e) (I.ok.noex b o e), I.base.free b o (I.ok.bs b o e).1 (I.ok.bs b o e).2 (I.ok.noex b o e)⟩
theorem Inv.bk (I : Inv X pins σ H s) : ∀ b o, X.base.get? b = some o->s.heap.get? b = some o := fun b o e => (I.bs b o e).1
theorem Inv.mod (I : Inv X pins σ H s) : Mod X.K X.mg X.base := I.ok.mod
theorem Inv.kIn (I : Inv X pins σ H s) : X.K.In s.heap := I.ok.mod.kin.keeps I.bk
theorem Inv.lt (I : Inv X pins σ H s) : X.env.locals < s.heap.objs.size := let ⟨_, hn, _⟩ := I.loc; hn.lt
theorem Inv.sz (I : Inv X pins σ H s) : X.s₀.heap.objs.size ≤ s.heap.objs.size := Nat.le_trans I.ok.above (Nat.le_of_lt I.lt)
theorem Inv.nofs (I : Inv X pins σ H s) {a : Addr} (h : s.heap.objs.size ≤ a) : a ∉ X.fs := fun hb => by
  obtain ⟨_, o, ho, _⟩ := I.ok.funs.mem hb
  exact absurd (Nat.lt_of_lt_of_le (Heap.lt_size ho) (Nat.le_trans I.sz h)) (Nat.lt_irrefl _)
theorem Inv.cne (I : Inv X pins σ H s) : ∀ x c, X.env.cells.lookup x = some c->c ≠ X.env.locals := fun x c e z => by
  obtain ⟨v, o, ho, hd⟩ := I.cell x c e
  obtain ⟨m, ⟨o', es, ep, ho', hd', _⟩, _⟩ := I.loc
  rw [z, ho'] at ho; cases ho; rw [hd'] at hd; cases hd
theorem Inv.funs (I : Inv X pins σ H s) : s.heap.FunFrames X.base X.outer := by
  have all : ∀ (l : List Env), (∀ b ∈ frs l, b ∈ X.fs)->X.s₀.heap.FunFrames X.base l->s.heap.FunFrames X.base l := by
    intro l
    induction l with
    | nil => intro _ _; trivial
    | cons env r ih =>
      intro hs hl
      obtain ⟨hk, ⟨L, o, hf, hn, ho, hd⟩, hr⟩ := hl
      have hL : L ∈ X.fs := hs L (by unfold frs; rw [List.filterMap_cons, hf]; exact List.mem_cons_self)
      obtain ⟨sl, e⟩ := I.base.slot L o ho (I.ok.frf L hL) hL fun z => I.ok.exfs L z hL
      exact ⟨hk, ⟨L, _, hf, hn, e, hd⟩, ih (fun b hb => hs b (by unfold frs; rw [List.filterMap_cons, hf]; exact List.mem_cons_of_mem _ hb)) hr⟩
  exact all X.outer (fun _ hb => hb) I.ok.funs
theorem Inv.stack (I : Inv X pins σ H s) : s.heap.FunFrames X.base X.stack := by
  rcases I.ok.stk with e | ⟨e, hf⟩
  · rw [e]; exact I.funs
  · rw [e]
    obtain ⟨m, hn, _⟩ := I.loc
    refine .cons (by rw [I.ok.kind]; decide) hf hn ?_ I.funs
    exact Heap.get?_none_of_le (Nat.le_trans I.ok.bsz I.ok.above)
theorem Inv.stkSub (I : Inv X pins σ H s) : ∀ b ∈ frs X.stack, b ∈ X.env.locals :: X.fs := fun b hb => by
  rcases I.ok.stk with e | ⟨e, hf⟩
  · rw [e] at hb; exact List.mem_cons_of_mem _ hb
  · rw [e] at hb
    unfold frs at hb
    rw [List.filterMap_cons, hf] at hb
    exact hb
theorem Inv.stkFree (I : Inv X pins σ H s) : ∀ b ∈ frs X.stack, H b = none := fun b hb => by
  rcases List.mem_cons.mp (I.stkSub b hb) with e | hb
  · rw [e]; exact I.free
  · obtain ⟨_, o, ho, _⟩ := I.ok.funs.mem hb
    exact I.base.free b o ho (I.ok.frf b hb) fun z => I.ok.exfs b z hb
theorem Inv.step {g' : Array GenState} {t' : Nat} {d' : Drawn} {ch : List Addr} (I : Inv X pins σ H s)
    (hch : ∀ b ∈ ch, (b ∈ X.ex ∨ X.s₀.heap.objs.size ≤ b) /\ b ≠ X.env.locals /\ (∀ x c, X.env.cells.lookup x = some c->c ≠ b) /\ ∀ p ∈ X.pn ++ pins, p.1 ≠ b)
    (keep : ∀ b o, b ≠ X.env.locals->b ∉ X.fs->b ∉ ch->s.heap.get? b = some o->H b = none->h'.get? b = some o)
    (slot : ∀ b o, b ≠ X.env.locals->b ∈ X.fs->b ∉ ch->s.heap.get? b = some o->H b = none->∃ sl, h'.get? b = some { o with slots := sl }) (free : ∀ b o, b ∉ ch->s.heap.get? b = some o->H b = none->H' b = none)
    (there : ∀ b o, b ∉ ch->s.heap.get? b = some o->∃ o', h'.get? b = some o')
    (tups : ∀ b xs, H b = some (.tup xs)->H' b = some (.tup xs)) (frzs : ∀ b o u, H b = some (.frz o u)->H' b = some (.frz o u)) (tbls : ∀ b ps, H b = some (.tbl ps)->∃ more, H' b = some (.tbl (ps ++ more)))
    (ns : ∀ m, s.heap.Ns X.env.locals m->h'.Ns X.env.locals m) (hok : HOk X.prog X.w H' h') (hg : AllBare g') :
    Inv X pins σ H' { s with heap := h', gens := g', drawn := d', toks := t' } := by
  have neL : ∀ b o, X.s₀.heap.get? b = some o->b ≠ X.env.locals := fun b o e => Nat.ne_of_lt (Nat.lt_of_lt_of_le (Heap.lt_size e) I.ok.above)
  have neC : ∀ b o, X.s₀.heap.get? b = some o->b ∉ X.ex->b ∉ ch := fun b o e hx hb => by
    rcases (hch b hb).1 with z | z
    · exact hx z
    · exact absurd (Nat.lt_of_lt_of_le (Heap.lt_size e) z) (Nat.lt_irrefl _)
  have cellK : ∀ x c, X.env.cells.lookup x = some c->∀ v, s.heap.IsCell c v->h'.IsCell c v := fun x c e v ⟨o, ho, hd⟩ => by
    have nch : c ∉ ch := fun z => (hch c z).2.2.1 x c e rfl
    by_cases hc : c ∈ X.fs
    · obtain ⟨sl, q⟩ := slot c o (I.cne x c e) hc nch ho (I.freeC x c e)
      exact ⟨_, q, hd⟩
    · exact ⟨o, keep c o (I.cne x c e) hc nch ho (I.freeC x c e), hd⟩
  refine ⟨I.ok, I.os, hg, ⟨fun b o e n hb hx => ?_, fun b o e n hb hx => ?_, fun b o e n hx => ?_, fun b o e hx => ?_, fun b xs e => tups b xs (I.base.tups b xs e), fun b o xs e => frzs b o xs (I.base.frzs b o xs e), fun b ps e => ?_⟩, ?_, fun x c e => ?_, ?_, fun x c e => ?_, fun p hp => ?_, hok, I.len⟩
  · exact keep b o (neL b o e) hb (neC b o e hx) (I.base.keep b o e n hb hx) (I.base.free b o e n hx)
  · obtain ⟨sl, e1⟩ := I.base.slot b o e n hb hx
    obtain ⟨sl', e2⟩ := slot b _ (neL b o e) hb (neC b o e hx) e1 (I.base.free b o e n hx)
    exact ⟨sl', e2⟩
  · obtain ⟨o', e1⟩ := I.base.there b o e hx
    exact free b o' (neC b o e hx) e1 (I.base.free b o e n hx)
  · obtain ⟨o', e1⟩ := I.base.there b o e hx
    exact there b o' (neC b o e hx) e1
  · obtain ⟨m1, e1⟩ := I.base.tbls b ps e
    obtain ⟨m2, e2⟩ := tbls b _ e1
    exact ⟨m1 ++ m2, by rw [e2, Array.append_assoc]⟩
  · obtain ⟨m, hn, hl⟩ := I.loc
    refine ⟨m, ns m hn, fun i x v e1 e2 e3 => ?_⟩
    obtain ⟨u, r, l⟩ := hl i x v e1 e2 e3
    refine ⟨u, r, ?_⟩
    rcases l with l | ⟨k, c, e, z⟩
    · exact .inl l
    · exact .inr ⟨k, c, e, cellK x c e _ z⟩
  · obtain ⟨v, z⟩ := I.cell x c e
    exact ⟨v, cellK x c e v z⟩
  · obtain ⟨m, ⟨o, _, _, ho, _⟩, _⟩ := I.loc
    exact free _ o (fun z => (hch _ z).2.1 rfl) ho I.free
  · obtain ⟨v, o, ho, hd⟩ := I.cell x c e
    exact free c o (fun z => (hch c z).2.2.1 x c e rfl) ho (I.freeC x c e)
  · obtain ⟨e, n, ne, nf, d⟩ := I.pin p hp
    have nch : p.1 ∉ ch := fun z => (hch p.1 z).2.2.2 p hp rfl
    exact ⟨keep p.1 p.2 ne nf nch e n, free p.1 p.2 nch e n, ne, nf, d⟩
theorem Inv.un {t' : Nat} (I : Inv X pins σ H s) (u : Un X.fs [] H H' s.heap h') (hok : HOk X.prog X.w H' h') : Inv X pins σ H' { s with heap := h', toks := t' } := by
  obtain ⟨m, ⟨o, es, ep, ho, r⟩, _⟩ := id I.loc
  obtain ⟨sl, hL⟩ := u.any ho I.free (by simp)
  exact I.step (g' := s.gens) (d' := s.drawn) (ch := []) (fun _ z => nomatch z) (fun b o _ hb _ e n => u.keep b o e n hb (by simp)) (fun b o _ hb _ e n => u.slot b o e n hb (by simp)) (fun b o _ e n => u.free b o e n (by simp)) (fun b o _ e => u.there b o e (by simp)) u.tups u.frzs u.tbls (fun m' hm => by
    obtain ⟨o', es', ep', ho', r'⟩ := hm
    rw [ho] at ho'; cases ho'
    exact ⟨_, es', ep', hL, r'⟩) hok I.bare
theorem Inv.call {g' : Array GenState} {t' : Nat} {d' : Drawn} {ch : List Addr} (I : Inv X pins σ H s) (u : Un (frs X.stack) ch H H' s.heap h') (hok : HOk X.prog X.w H' h') (hg : AllBare g')
    (hch : ∀ b ∈ ch, (b ∈ X.ex ∨ X.s₀.heap.objs.size ≤ b) /\ b ≠ X.env.locals /\ (∀ x c, X.env.cells.lookup x = some c->c ≠ b) /\ ∀ p ∈ X.pn ++ pins, p.1 ≠ b) :
    Inv X pins σ H' { s with heap := h', gens := g', drawn := d', toks := t' } := by
  obtain ⟨m, ⟨o, es, ep, ho, r⟩, _⟩ := id I.loc
  obtain ⟨sl, hL⟩ := u.any ho I.free fun z => (hch _ z).2.1 rfl
  exact I.step (ch := ch) hch (fun b o hL hb hc e n => u.keep b o e n (fun z => (List.mem_cons.mp (I.stkSub b z)).elim hL hb) hc) (fun b o _ _ hc e n => u.any e n hc) (fun b o hc e n => u.free b o e n hc) (fun b o hc e => u.there b o e hc) u.tups u.frzs u.tbls (fun m' hm => by
    obtain ⟨o', es', ep', ho', r'⟩ := hm
    rw [ho] at ho'; cases ho'
    exact ⟨_, es', ep', hL, r'⟩) hok hg
theorem Inv.turned {t' : Nat} {it : Addr} (I : Inv X pins σ H s) (k : ∀ b o, b ≠ it->s.heap.get? b = some o->h'.get? b = some o) (hn : H it = none) (hL : it ≠ X.env.locals)
    (h1 : it ∈ X.ex ∨ X.s₀.heap.objs.size ≤ it) (h2 : ∀ x c, X.env.cells.lookup x = some c->c ≠ it) (h3 : ∀ p ∈ X.pn ++ pins, p.1 ≠ it) : Inv X pins σ H { s with heap := h', toks := t' } := by
  have nit : ∀ b u, H b = some u->b ≠ it := fun b u e z => by rw [z, hn] at e; cases e
  refine I.step (g' := s.gens) (d' := s.drawn) (ch := [it]) (fun b hb => ?_) (fun b o _ _ hc e _ => k b o (fun z => hc (by simp [z])) e) (fun b o _ _ hc e _ => ⟨o.slots, k b o (fun z => hc (by simp [z])) e⟩) (fun _ _ _ _ n => n)
    (fun b o hc e => ⟨o, k b o (fun z => hc (by simp [z])) e⟩) (fun _ _ e => e) (fun _ _ _ e => e) (fun b ps e => ⟨#[], by rw [e]; simp⟩) (fun m hm => ?_) (fun b u e => ?_) I.bare
  · have e : b = it := by simpa using hb
    subst e
    exact ⟨h1, hL, h2, h3⟩
  · obtain ⟨o, es, ep, ho, r⟩ := hm
    exact ⟨o, es, ep, k _ o (Ne.symm hL) ho, r⟩
  · refine (I.hok b u e).stay (fun c v hc q => k c v ?_ q) (fun _ q => q) fun _ _ q => q
    rcases hc with z | z
    · rw [z]; exact nit b u e
    · exact nit c _ z
theorem Inv.tok (I : Inv X pins σ H s) (t : Nat) : Inv X pins σ H { s with toks := t } := I.un (h' := s.heap) (t' := t) Un.refl I.hok
theorem Inv.kept {t' : Nat} (I : Inv X pins σ H s) (k : ∀ b u, s.heap.get? b = some u->h'.get? b = some u) : Inv X pins σ H { s with heap := h', toks := t' } := I.un (Un.kept k) (I.hok.kept k)
theorem Inv.laid {a : Addr} {o : HO} {t' : Nat} (I : Inv X pins σ H s) (k : ∀ b u, s.heap.get? b = some u->h'.get? b = some u) (hp : s.heap.objs.size ≤ a) (new : ObjOk X.prog X.w (upd H a o) h' a o) :
    Inv X pins σ (upd H a o) { s with heap := h', toks := t' } := I.un (Un.laid k hp (I.hok.fresh hp)) (I.hok.laid k hp new)
theorem Inv.write {x e : Addr} {o : HO} {t' : Nat} (I : Inv X pins σ H s) (mu : Mut (H x)) (he : e = x ∨ H e = some (.own x)) (k : ∀ b u, b ≠ e->s.heap.get? b = some u->h'.get? b = some u) (heo : ∃ u, h'.get? e = some u)
    (new : ObjOk X.prog X.w (upd H x o) h' x o) : Inv X pins σ (upd H x o) { s with heap := h', toks := t' } := I.un (Un.write mu he k heo) (I.hok.write mu he k heo new)
theorem Inv.pins_of {pins' : List (Addr × Obj)} (I : Inv X pins σ H s) (h : ∀ p ∈ pins', s.heap.get? p.1 = some p.2 /\ H p.1 = none /\ p.1 ≠ X.env.locals /\ p.1 ∉ X.fs /\ ∀ v, p.2.data ≠ .cell v) : Inv X pins' σ H s :=
  ⟨I.ok, I.os, I.bare, I.base, I.loc, I.cell, I.free, I.freeC, fun p hp => (List.mem_append.mp hp).elim (fun z => I.pin p (List.mem_append_left _ z)) (h p), I.hok, I.len⟩
theorem nodup_ix {N : List Str} (hN : N.Nodup) {i j : Nat} {x : Str} (a : N[i]? = some x) (b : N[j]? = some x) : i = j := by
  obtain ⟨h1, e1⟩ := List.getElem?_eq_some_iff.mp a
  obtain ⟨h2, e2⟩ := List.getElem?_eq_some_iff.mp b
  exact (List.getElem_inj hN).mp (e1.trans e2.symm)
theorem store_ok2 {M : Model} {A : Around} {E : Value->Shared->Prop} {i : Nat} {x : Str} {v : V} {u : Value} {Q : Unit->Shared->Prop} (I : Inv X pins σ H s) (hN : X.N.Nodup) (hi : X.N[i]? = some x) (hx : Loc X.env.scope x) (r : RelV v u)
    (h : ∀ s', Inv X pins (σ.set i (some v)) H s'->(∃ a, Heap.SameBut a s.heap s'.heap /\ (a = X.env.locals ∨ X.env.cells.lookup x = some a))->Q () s') (hf : X.fn x = true ∨ X.env.scope.names.lookup x = some .local := by first | exact .inl rfl | exact .inr rfl | assumption) : wpAny M A (storeName X.env x u) Q E s := by
  obtain ⟨m, hn, hl⟩ := id I.loc
  have hcls : (X.env.scope.kind == .class || (X.env.scope.kind == .module && X.env.locals != X.env.globals)) = false := by rw [I.ok.kind]; rfl
  have hiσ : i < σ.length := by rw [I.len]; exact (List.getElem?_eq_some_iff.mp hi).1
  have cne := I.cne
  have tracked : ∀ {a : Addr} {h' : Heap}, (∃ o, s.heap.get? a = some o /\ H a = none)->Heap.SameBut a s.heap h'->HOk X.prog X.w H h' := fun {a h'} ha hs b ob e => by
    obtain ⟨_, _, hfree⟩ := ha
    refine (I.hok b ob e).stay (fun c w' hc q => (hs.2 c ?_).trans q) (fun _ q => q) fun _ _ q => q
    rintro rfl
    rcases hc with rfl | hc
    · rw [hfree] at e; cases e
    · rw [hfree] at hc; cases hc
  rcases hx with hk | hk
  · refine wpAny_storeName_local hk hn (fun h' hn' hs => ?_) hcls
    obtain ⟨oL, _, _, hoL, _⟩ := id hn
    refine h _ ⟨I.ok, I.os, I.bare, ⟨fun b o e n hb hx => ?_, fun b o e n hb hx => ?_, I.base.free, fun b o e hx => ?_, I.base.tups, I.base.frzs, I.base.tbls⟩, ⟨_, hn', fun j y v' e1 e2 e3 => ?_⟩, fun y c e => ?_, I.free, I.freeC, fun p hp => ?_, tracked ⟨oL, hoL, I.free⟩ hs, by simpa using I.len⟩ ⟨_, hs, .inl rfl⟩
    · exact (hs.2 b (Nat.ne_of_lt (Nat.lt_of_lt_of_le (Heap.lt_size e) I.ok.above))).trans (I.base.keep b o e n hb hx)
    · obtain ⟨sl, e1⟩ := I.base.slot b o e n hb hx
      exact ⟨sl, (hs.2 b (Nat.ne_of_lt (Nat.lt_of_lt_of_le (Heap.lt_size e) I.ok.above))).trans e1⟩
    · obtain ⟨o', e1⟩ := I.base.there b o e hx
      exact ⟨o', (hs.2 b (Nat.ne_of_lt (Nat.lt_of_lt_of_le (Heap.lt_size e) I.ok.above))).trans e1⟩
    · by_cases hj : j = i
      · subst hj
        rw [hi] at e1; cases e1
        rw [List.getElem?_set_self hiσ] at e2
        cases e2
        exact ⟨u, r, .inl ⟨hk, by simp⟩⟩
      · rw [List.getElem?_set_ne (Ne.symm hj)] at e2
        obtain ⟨u', r', q⟩ := hl j y v' e1 e2 e3
        refine ⟨u', r', ?_⟩
        rcases q with ⟨k, e⟩ | ⟨k, c, e, z⟩
        · refine .inl ⟨k, ?_⟩
          have : y ≠ x := fun e => hj (nodup_ix hN e1 (e ▸ hi))
          simp [this, e]
        · exact .inr ⟨k, c, e, z.sameBut hs (cne y c e)⟩
    · obtain ⟨w', z⟩ := I.cell y c e
      exact ⟨w', z.sameBut hs (cne y c e)⟩
    · obtain ⟨e, n, ne, nf, d⟩ := I.pin p hp
      exact ⟨(hs.2 p.1 ne).trans e, n, ne, nf, d⟩
  · have hfn : X.fn x = true := by
      rcases hf with z | z
      · exact z
      · rw [z] at hk; cases hk
    obtain ⟨c, hc⟩ := I.ok.has x (.inl hk)
    obtain ⟨w', z⟩ := I.cell x c hc
    refine wpAny_storeName_cell I.ok.kind hk hc z (fun h' hc' hs => ?_)
    obtain ⟨oc, hoc, hocd⟩ := id z
    refine h { s with heap := h' } ⟨I.ok, I.os, I.bare, ⟨fun b o e n hb hx => ?_, fun b o e n hb hx => ?_, I.base.free, fun b o e hx => ?_, I.base.tups, I.base.frzs, I.base.tbls⟩, ⟨m, hn.sameBut hs (Ne.symm (cne x c hc)), fun j y v' e1 e2 e3 => ?_⟩, fun y c' e => ?_, I.free, I.freeC, fun p hp => ?_, tracked ⟨oc, hoc, I.freeC x c hc⟩ hs, by simpa using I.len⟩ ⟨c, hs, .inr hc⟩
    · exact (hs.2 b (Nat.ne_of_lt (Nat.lt_of_lt_of_le (Heap.lt_size e) (I.ok.cab x c hfn hc)))).trans (I.base.keep b o e n hb hx)
    · obtain ⟨sl, e1⟩ := I.base.slot b o e n hb hx
      exact ⟨sl, (hs.2 b (Nat.ne_of_lt (Nat.lt_of_lt_of_le (Heap.lt_size e) (I.ok.cab x c hfn hc)))).trans e1⟩
    · obtain ⟨o', e1⟩ := I.base.there b o e hx
      exact ⟨o', (hs.2 b (Nat.ne_of_lt (Nat.lt_of_lt_of_le (Heap.lt_size e) (I.ok.cab x c hfn hc)))).trans e1⟩
    · by_cases hj : j = i
      · subst hj
        rw [hi] at e1; cases e1
        rw [List.getElem?_set_self hiσ] at e2
        cases e2
        exact ⟨u, r, .inr ⟨.inl hk, c, hc, hc'⟩⟩
      · rw [List.getElem?_set_ne (Ne.symm hj)] at e2
        obtain ⟨u', r', q⟩ := hl j y v' e1 e2 e3
        refine ⟨u', r', ?_⟩
        rcases q with q | ⟨k, c', e, z'⟩
        · exact .inl q
        · refine .inr ⟨k, c', e, z'.sameBut hs ?_⟩
          rintro rfl
          exact hj (nodup_ix hN e1 (I.ok.inj _ _ _ e hc ▸ hi))
    · by_cases hcc : c' = c
      · subst hcc; exact ⟨_, hc'⟩
      · obtain ⟨w2, z2⟩ := I.cell y c' e
        exact ⟨w2, z2.sameBut hs hcc⟩
    · obtain ⟨e, n, ne, nf, d⟩ := I.pin p hp
      refine ⟨(hs.2 p.1 ?_).trans e, n, ne, nf, d⟩
      intro q
      rw [q, hoc] at e
      have q' : oc = p.2 := Option.some.inj e
      exact d w' (by rw [← q']; exact hocd)
theorem store_ok {M : Model} {A : Around} {E : Value->Shared->Prop} {i : Nat} {x : Str} {v : V} {u : Value} {Q : Unit->Shared->Prop} (I : Inv X pins σ H s) (hN : X.N.Nodup) (hi : X.N[i]? = some x) (hx : Loc X.env.scope x) (r : RelV v u)
    (h : ∀ s', Inv X pins (σ.set i (some v)) H s'->Q () s') (hf : X.fn x = true ∨ X.env.scope.names.lookup x = some .local := by first | exact .inl rfl | exact .inr rfl | assumption) : wpAny M A (storeName X.env x u) Q E s :=
  store_ok2 I hN hi hx r (fun s' I' _ => h s' I') hf
theorem Inv.call' {s' : Shared} {ch : List Addr} (I : Inv X pins σ H s) (ho : s'.os = s.os) (u : Un (frs X.stack) ch H H' s.heap s'.heap) (hok : HOk X.prog X.w H' s'.heap) (hg : AllBare s'.gens)
    (hch : ∀ b ∈ ch, (b ∈ X.ex ∨ X.s₀.heap.objs.size ≤ b) /\ b ≠ X.env.locals /\ (∀ x c, X.env.cells.lookup x = some c->c ≠ b) /\ ∀ p ∈ X.pn ++ pins, p.1 ≠ b) : Inv X pins σ H' s' := by
  obtain ⟨h', g', d', t', o'⟩ := s'
  have e : o' = s.os := ho
  subst e
  exact I.call (g' := g') (t' := t') (d' := d') u hok hg hch
end
abbrev XK := Value->Option Addr->Hp->Prop
abbrev St := List (Option V)
abbrev VK := V->Hp->Prop
abbrev TE := St->Hp->VK->Prop
abbrev TT := St->Hp->(Bool->Hp->Prop)->Prop
abbrev TA := St->Hp->(List V->Hp->Prop)->Prop
structure Ends where
  nx : St->Hp->Prop
  rt : VK
  bk : St->Hp->Prop := fun _ _ => False
  ct : St->Hp->Prop := fun _ _ => False
abbrev TS := Ends->St->Hp->Prop
def EP (X : Cx) (pins : List (Addr × Obj)) (σ : St) (Q : VK) (u : Value) (s' : Shared) : Prop := ∃ v H', Inv X pins σ H' s' /\ RelV v u /\ Q v H'
def TP (X : Cx) (pins : List (Addr × Obj)) (σ : St) (Q : Bool->Hp->Prop) (b : Bool) (s' : Shared) : Prop := ∃ H', Inv X pins σ H' s' /\ Q b H'
def AP (X : Cx) (pins : List (Addr × Obj)) (σ : St) (Q : List V->Hp->Prop) (us : List Value) (s' : Shared) : Prop := ∃ vs H', Inv X pins σ H' s' /\ Vals vs us /\ Q vs H'
def SP (X : Cx) (pins : List (Addr × Obj)) (D : Ends) (f : Flow) (s' : Shared) : Prop :=
  match f with
  | .next => ∃ σ' H', Inv X pins σ' H' s' /\ D.nx σ' H'
  | .brk => ∃ σ' H', Inv X pins σ' H' s' /\ D.bk σ' H'
  | .cont => ∃ σ' H', Inv X pins σ' H' s' /\ D.ct σ' H'
  | .ret u => ∃ v σ' H', Inv X pins σ' H' s' /\ RelV v u /\ D.rt v H'
def PE (X : Cx) (e : Expr) (t : TE) : Prop :=
  ∀ (pins : List (Addr × Obj)) (s : Shared) (σ : St) (H : Hp) (Q : VK), Inv X pins σ H s->t σ H Q->wpAny (model X.prog X.w) X.A (eval e X.env) (EP X pins σ Q) X.xe s
def PT (X : Cx) (e : Expr) (t : TT) : Prop :=
  ∀ (pins : List (Addr × Obj)) (s : Shared) (σ : St) (H : Hp) (Q : Bool->Hp->Prop), Inv X pins σ H s->t σ H Q->wpAny (model X.prog X.w) X.A (isTrue e X.env (eval e X.env)) (TP X pins σ Q) X.xe s
def PW (X : Cx) (e : Expr) (t : TT) : Prop :=
  ∀ (whole : Sem Value) (pins : List (Addr × Obj)) (s : Shared) (σ : St) (H : Hp) (Q : Bool->Hp->Prop), Inv X pins σ H s->t σ H Q->wpAny (model X.prog X.w) X.A (isTrue e X.env whole) (TP X pins σ Q) X.xe s
theorem PW.pt {X : Cx} {e : Expr} {t : TT} (h : PW X e t) : PT X e t := h _
def PA (X : Cx) (es : List Expr) (t : TA) : Prop :=
  ∀ (pos : Pos) (pins : List (Addr × Obj)) (s : Shared) (σ : St) (H : Hp) (Q : List V->Hp->Prop), Inv X pins σ H s->t σ H Q->wpAny (model X.prog X.w) X.A (spliced (backTo pos (starEach es X.env))) (AP X pins σ Q) X.xe s
def PS (X : Cx) (st : Stmt) (t : TS) : Prop :=
  ∀ (pins : List (Addr × Obj)) (s : Shared) (σ : St) (H : Hp) (D : Ends), Inv X pins σ H s->t D σ H->wpAny (model X.prog X.w) X.A (exec st X.env) (SP X pins D) X.xe s
def PSs (X : Cx) (st : List Stmt) (t : TS) : Prop :=
  ∀ (pins : List (Addr × Obj)) (s : Shared) (σ : St) (H : Hp) (D : Ends), Inv X pins σ H s->t D σ H->wpAny (model X.prog X.w) X.A (execs st X.env) (SP X pins D) X.xe s
theorem thn {α : Type} {t : Sem α} {Q Q' : α->Shared->Prop} {M : Model} {A : Around} {E : Value->Shared->Prop} {s : Shared} (h : wpAny M A t Q E s) (hQ : ∀ a s, Q a s->Q' a s) : wpAny M A t Q' E s := wpAny_mono h hQ fun _ _ x => x
open PySem PySem.Spec PyProof.Rows
section
variable {X : Cx}
def tVar (i : Nat) : TE := fun σ H Q => ∃ v, σ[i]? = some (some v) /\ Q v H
def tC (v : V) : TE := fun _ H Q => Q v H
theorem pe_var {i : Nat} {x : Str} {pos : Pos} (hN : X.N[i]? = some x) (hv : Vis X.env.scope x) (hd : (x == ("__debug__" : Str)) = false := by decide) (hcd : (x == ("__classdict__" : Str)) = false := by decide) : PE X (.Name x pos) (tVar i) := by
  intro pins s σ H Q I h
  obtain ⟨v, e, h⟩ := h
  obtain ⟨m, hn, hl⟩ := I.loc
  obtain ⟨u, r, l⟩ := hl i x v hN e hv
  have fin : EP X pins σ Q u s := ⟨v, H, I, r, h⟩
  rcases l with ⟨hk, hm⟩ | ⟨hk, c, hc, hcell⟩
  · exact wpAny_Name (wpAny_loadName_local I.ok.kind hk hn hm fin) hd
  · rcases hk with hk | hk
    · exact wpAny_Name (wpAny_loadName_cell I.ok.kind hk hc hcell fin) hd
    · exact wpAny_Name (wpAny_loadName_free I.ok.kind hk hc hcell fin hcd) hd
theorem pe_int {i j pos} : PE X (.Constant (.int i) j pos) (tC (.int i)) := fun _ _ _ H _ I h => wpAny_Constant_int ⟨.int i, H, I.tok _, ⟨_, rfl⟩, h⟩
theorem pe_bl {b j pos} : PE X (.Constant (.bool b) j pos) (tC (.bl b)) := fun _ _ _ H _ I h => Constant_bool ⟨.bl b, H, I, rfl, h⟩
theorem pe_non {j pos} : PE X (.Constant .none j pos) (tC .non) := fun _ _ _ H _ I h => Constant_none ⟨.non, H, I, rfl, h⟩
def Gl (X : Cx) (x : Str) : Prop := X.env.kindOf x = some .globalImplicit
theorem ld_glob {E : Value->Shared->Prop} {pins : List (Addr × Obj)} {s : Shared} {σ : St} {H : Hp} {x : Str} {u : Value} {pos : Pos} {Q : Value->Shared->Prop} (I : Inv X pins σ H s) (hg : Gl X x) (hm : X.mg x = some u) (h : Q u s)
    (hd : (x == ("__debug__" : Str)) = false := by decide) : wpAny (model X.prog X.w) X.A (eval (.Name x pos) X.env) Q E s :=
  Calls.Name_function_global I.ok.kind hg (Calls.loadGlobal_global (by rw [I.ok.glob]; exact I.mod.glob.keeps I.bk) hm h) hd
theorem ld_blt {E : Value->Shared->Prop} {pins : List (Addr × Obj)} {s : Shared} {σ : St} {H : Hp} {x : Str} {u : Value} {pos : Pos} {Q : Value->Shared->Prop} (I : Inv X pins σ H s) (hg : Gl X x) (hm : X.mg x = none) (hv : bootBuiltins x = some u) (h : Q u s)
    (hn : x ≠ "__name__" := by decide) (hd : (x == ("__debug__" : Str)) = false := by decide) : wpAny (model X.prog X.w) X.A (eval (.Name x pos) X.env) Q E s := by
  obtain ⟨mb, h1, h2⟩ := I.mod.blt
  exact Calls.Name_function_global I.ok.kind hg (Calls.loadGlobal_builtin (by rw [I.ok.glob]; exact I.mod.glob.keeps I.bk) hm (by rw [I.ok.blt]; exact h1.keeps I.bk) ((h2 x hn).trans hv) h) hd
theorem pe_glob {x : Str} {v : V} {u : Value} {pos : Pos} (hg : Gl X x) (hm : X.mg x = some u) (r : RelV v u) (hd : (x == ("__debug__" : Str)) = false := by decide) : PE X (.Name x pos) (tC v) :=
  fun _ _ _ H _ I h => ld_glob I hg hm ⟨v, H, I, r, h⟩ hd
theorem pe_bltn {x : Str} {v : V} {u : Value} {pos : Pos} (hg : Gl X x) (hm : X.mg x = none) (hv : bootBuiltins x = some u) (r : RelV v u) (hn : x ≠ "__name__" := by decide) (hd : (x == ("__debug__" : Str)) = false := by decide) : PE X (.Name x pos) (tC v) :=
  fun _ _ _ H _ I h => ld_blt I hg hm hv ⟨v, H, I, r, h⟩ hn hd
variable {a b : Expr} {ta tb : TE} {pos : Pos}
def PC (X : Cx) (op : CmpOp) (a b : Expr) (t : TE) : Prop :=
  ∀ (pins : List (Addr × Obj)) (s : Shared) (σ : St) (H : Hp) (Q : VK), Inv X pins σ H s->t σ H Q →
    wpAny (model X.prog X.w) X.A (eval a X.env) (fun v s₁ => wpAny (model X.prog X.w) X.A (eval b X.env) (fun u s₂ => wpAny (model X.prog X.w) X.A (compareOp op v u) (EP X pins σ Q) X.xe s₂) X.xe s₁) X.xe s
theorem nobehind (b : Expr) {op : CmpOp} (h : op ≠ .In) (h2 : op ≠ .NotIn) : behindInMarks op b = false := by
  have e1 : (op == CmpOp.In) = false := by cases op <;> first | rfl | exact absurd rfl h
  have e2 : (op == CmpOp.NotIn) = false := by cases op <;> first | rfl | exact absurd rfl h2
  cases b <;> simp [behindInMarks, e1, e2]
def tB (t : TE) : TT := fun σ H Q => t σ H fun x H1 => ∃ c, x = .bl c /\ Q c H1
theorem pt_cmp {op : CmpOp} {t : TE} (h : PC X op a b t) (h1 : behindInMarks op b = false := by first | exact nobehind _ (by decide) (by decide) | rfl) : PT X (.Compare a [op] [b] pos) (tB t) := by
  intro pins s σ H Q I hw
  refine wpAny_isTrue_Compare1 (thn (h pins s σ H _ I hw) fun v s1 h1 => thn h1 fun u s2 h2 => thn h2 fun c s3 ⟨x, H1, I1, r1, q1⟩ => ?_) h1
  obtain ⟨d, rfl, q⟩ := q1
  cases r1
  exact wpAny_truthy_bool ⟨H1, I1, q⟩
theorem pt_val {e : Expr} {t : TE} (h : PE X e t) (he : ∀ whole, isTrue e X.env whole = (do let v ← whole; standAt e.pos; holding [v] (truthy v)) := by intro _; rfl) : PT X e (tB t) := by
  intro pins s σ H Q I hw
  refine isTrue_plain (thn (h pins s σ H _ I hw) fun v s1 ⟨x, H1, I1, r1, q1⟩ => ?_) (he _)
  obtain ⟨d, rfl, q⟩ := q1
  cases r1
  exact wpAny_truthy_bool ⟨H1, I1, q⟩
variable {tA tB' : TT} {rest : List Expr}
def tAnd (t u : TT) : TT := fun σ H Q => t σ H fun c H1 => if c = true then u σ H1 Q else Q false H1
def tOr (t u : TT) : TT := fun σ H Q => t σ H fun c H1 => if c = true then Q true H1 else u σ H1 Q
def tNot (t : TT) : TT := fun σ H Q => t σ H fun c H1 => Q (!c) H1
theorem pw_and1 (ha : PT X a tA) : PW X (.BoolOp .And [a] pos) tA := by
  intro wh pins s σ H Q I h
  refine isTrue_and (thn (ha pins s σ H Q I h) fun c s1 e => ?_)
  cases c with
  | true => exact isTrue_and_nil e
  | false => exact e
theorem pw_or1 (ha : PT X a tA) : PW X (.BoolOp .Or [a] pos) tA := by
  intro wh pins s σ H Q I h
  refine isTrue_or (thn (ha pins s σ H Q I h) fun c s1 e => ?_)
  cases c with
  | false => exact isTrue_or_nil e
  | true => exact e
theorem pw_and (ha : PT X a tA) (hb : PW X (.BoolOp .And (b :: rest) pos) tB') : PW X (.BoolOp .And (a :: b :: rest) pos) (tAnd tA tB') := by
  intro wh pins s σ H Q I h
  refine isTrue_and (thn (ha pins s σ H _ I h) fun c s1 ⟨H1, I1, q1⟩ => ?_)
  cases c with
  | true => exact hb wh pins s1 σ H1 Q I1 q1
  | false => exact ⟨H1, I1, q1⟩
theorem pw_or (ha : PT X a tA) (hb : PW X (.BoolOp .Or (b :: rest) pos) tB') : PW X (.BoolOp .Or (a :: b :: rest) pos) (tOr tA tB') := by
  intro wh pins s σ H Q I h
  refine isTrue_or (thn (ha pins s σ H _ I h) fun c s1 ⟨H1, I1, q1⟩ => ?_)
  cases c with
  | true => exact ⟨H1, I1, q1⟩
  | false => exact hb wh pins s1 σ H1 Q I1 q1
theorem pt_not (ha : PT X a tA) : PT X (.UnaryOp .Not a pos) (tNot tA) := by
  intro pins s σ H Q I h
  exact isTrue_not (ha pins s σ H (fun c H1 => Q (!c) H1) I h)
def tAndV (ta tb : TE) : TE := fun σ H Q => ta σ H fun x H1 => ∃ c, x = .bl c /\ if c = true then tb σ H1 Q else Q (.bl false) H1
def tNotV (ta : TE) : TE := fun σ H Q => ta σ H fun x H1 => ∃ c, x = .bl c /\ Q (.bl (!c)) H1
theorem pe_one {op} {t : TE} (h : PE X a t) : PE X (.BoolOp op [a] pos) t := fun pins s σ H Q I hw => BoolOp_one (h pins s σ H Q I hw)
theorem pe_and (ha : PE X a ta) (hb : PE X (.BoolOp .And (b :: rest) pos) tb) : PE X (.BoolOp .And (a :: b :: rest) pos) (tAndV ta tb) := by
  intro pins s σ H Q I h
  refine BoolOp_and (thn (ha pins s σ H _ I h) fun v s1 ⟨x, H1, I1, r1, q1⟩ => ?_)
  obtain ⟨c, rfl, q1⟩ := q1
  cases r1
  refine wpAny_truthy_bool ?_
  cases c with
  | true => exact hb pins s1 σ H1 Q I1 q1
  | false => exact ⟨.bl false, H1, I1, rfl, q1⟩
theorem pe_not (ha : PE X a ta) : PE X (.UnaryOp .Not a pos) (tNotV ta) := by
  intro pins s σ H Q I h
  refine UnaryOp_ (thn (ha pins s σ H _ I h) fun v s1 ⟨x, H1, I1, r1, q1⟩ => ?_)
  obtain ⟨c, rfl, q1⟩ := q1
  cases r1
  exact not_of (wpAny_truthy_bool ⟨.bl (!c), H1, I1, rfl, q1⟩)
def tIf (t : TT) (ta tb : TE) : TE := fun σ H Q => t σ H fun c H1 => if c = true then ta σ H1 Q else tb σ H1 Q
theorem pe_ifExp {c : Expr} (hc : PT X c tA) (ha : PE X a ta) (hb : PE X b tb) : PE X (.IfExp c a b pos) (tIf tA ta tb) := by
  intro pins s σ H Q I h
  refine wpAny_IfExp (thn (hc pins s σ H _ I h) fun d s1 ⟨H1, I1, q1⟩ => ?_)
  cases d with
  | true => exact ha pins s1 σ H1 Q I1 q1
  | false => exact hb pins s1 σ H1 Q I1 q1
end
open PySem PySem.Spec PyProof.Rows
def SqL (K : PySem.W.Frag) (H : Hp) (a : Addr) (xs : List V) : Prop :=
  Rd H a (.lst xs) ∨
    ∃ (o : Obj) (its : Array Value) (n : Nat), K.lookup a = some o /\ o.cls = .type "list" /\ o.dict = none /\ o.data = .seq its n /\ its.size ≤ sizeLine /\ Vals xs its.toList
def SqT (K : PySem.W.Frag) (H : Hp) (a : Addr) (xs : List V) : Prop :=
  Rd H a (.tup xs) ∨
    ∃ (o : Obj) (its : Array Value) (n : Nat), K.lookup a = some o /\ o.cls = .type "tuple" /\ o.data = .seq its n /\ its.size ≤ sizeLine /\ Vals xs its.toList
def absV : Value->Option V
  | .none => some .non
  | .bool b => some (.bl b)
  | .int i _ => some (.int i)
  | .str x _ => some (.str x)
  | .bytes b _ => some (.byt b)
  | .float b _ => some (.flt b)
  | .ref a => some (.ref a)
  | .type n => some (.ty n)
  | _ => none
theorem RelV.abs {x : V} {u : Value} (r : RelV x u) : absV u = some x := by
  cases x with
  | non => cases r; rfl
  | bl _ => cases r; rfl
  | int _ => obtain ⟨t, rfl⟩ := r; rfl
  | str _ => obtain ⟨t, rfl⟩ := r; rfl
  | byt _ => obtain ⟨t, rfl⟩ := r; rfl
  | flt _ => obtain ⟨t, rfl⟩ := r; rfl
  | ref _ => cases r; rfl
  | ty _ => cases r; rfl
theorem RelV.inj {x y : V} {u : Value} (r : RelV x u) (q : RelV y u) : x = y := Option.some.inj (r.abs.symm.trans q.abs)
theorem Vals.inj : ∀ {xs ys : List V} {us : List Value}, Vals xs us->Vals ys us->xs = ys
  | _, _, _, .nil, .nil => rfl
  | _, _, _, .cons r t, .cons r' t' => by rw [r.inj r', Vals.inj t t']
section
variable {X : Cx} {pins : List (Addr × Obj)} {σ : St} {H : Hp} {s : Shared} {a : Addr} {xs ys : List V}
theorem SqL.of {K : PySem.W.Frag} (h : H a = some (.lst xs)) : SqL K H a xs := .inl (.inl h)
theorem SqT.of {K : PySem.W.Frag} (h : H a = some (.tup xs)) : SqT K H a xs := .inl (.inl h)
theorem Inv.list (I : Inv X pins σ H s) (h : SqL X.K H a xs) : ∃ its : List Value, Vals xs its /\ PlainL s.heap a its.toArray /\ xs.length ≤ sizeLine := by
  rcases h with h | ⟨o, its, n, hk, hc, hd, hs, hz, r⟩
  · obtain ⟨z, its, n, r, e⟩ := h.ok I.hok
    exact ⟨its, r, ⟨_, n, e, rfl, rfl, rfl⟩, z⟩
  · refine ⟨its.toList, r, ⟨o, n, I.kIn a o hk, hc, hd, by simpa using hs⟩, ?_⟩
    have e := r.length
    simp only [Array.length_toList] at e
    omega
theorem Inv.tuple (I : Inv X pins σ H s) (h : SqT X.K H a xs) : ∃ its : List Value, Vals xs its /\ IsTup s.heap a its.toArray /\ xs.length ≤ sizeLine := by
  rcases h with h | ⟨o, its, n, hk, hc, hs, hz, r⟩
  · obtain ⟨z, its, r, p⟩ := h.ok I.hok
    exact ⟨its, r, p, z⟩
  · refine ⟨its.toList, r, ⟨o, I.kIn a o hk, hc, n, by simpa using hs⟩, ?_⟩
    have e := r.length
    simp only [Array.length_toList] at e
    omega
theorem Inv.list_inj (I : Inv X pins σ H s) (h : SqL X.K H a xs) (h' : SqL X.K H a ys) : xs = ys := by
  obtain ⟨its, r, ⟨o, n, e, _, _, d⟩, _⟩ := I.list h
  obtain ⟨its', r', ⟨o', n', e', _, _, d'⟩, _⟩ := I.list h'
  rw [e] at e'; cases e'
  rw [d] at d'
  injection d' with d1 _
  have : its = its' := by simpa using congrArg Array.toList d1
  subst this
  exact r.inj r'
theorem Inv.tuple_inj (I : Inv X pins σ H s) (h : SqT X.K H a xs) (h' : SqT X.K H a ys) : xs = ys := by
  obtain ⟨its, r, ⟨o, e, _, n, d⟩, _⟩ := I.tuple h
  obtain ⟨its', r', ⟨o', e', _, n', d'⟩, _⟩ := I.tuple h'
  rw [e] at e'; cases e'
  rw [d] at d'
  injection d' with d1 _
  have : its = its' := by simpa using congrArg Array.toList d1
  subst this
  exact r.inj r'
end
abbrev Cx.wish (X : Cx) (E : Value->Shared->Prop) : Cx := { X with xe := E }
abbrev Cx.nox (X : Cx) : Cx := X.wish fun _ _ => False
theorem Cx.Ok.wish {X : Cx} (ok : X.Ok) (E : Value->Shared->Prop) : (X.wish E).Ok :=
  ⟨ok.mod, ok.kind, ok.glob, ok.blt, ok.above, ok.inj, ok.has, ok.cab, ok.hd, ok.frames, ok.stk, ok.exf, ok.bs, ok.bsz, ok.noex, ok.exfs, ok.funs, ok.frf⟩
theorem Cx.Ok.unwish {X : Cx} {E : Value->Shared->Prop} (ok : (X.wish E).Ok) : X.Ok :=
  ⟨ok.mod, ok.kind, ok.glob, ok.blt, ok.above, ok.inj, ok.has, ok.cab, ok.hd, ok.frames, ok.stk, ok.exf, ok.bs, ok.bsz, ok.noex, ok.exfs, ok.funs, ok.frf⟩
section
variable {X : Cx} {pins : List (Addr × Obj)} {σ : St} {H : Hp} {s : Shared} {E : Value->Shared->Prop}
theorem Inv.wish (I : Inv X pins σ H s) (E : Value->Shared->Prop) : Inv (X.wish E) pins σ H s := ⟨I.ok.wish E, I.os, I.bare, I.base, I.loc, I.cell, I.free, I.freeC, I.pin, I.hok, I.len⟩
theorem Inv.unwish (I : Inv (X.wish E) pins σ H s) : Inv X pins σ H s := ⟨I.ok.unwish, I.os, I.bare, I.base, I.loc, I.cell, I.free, I.freeC, I.pin, I.hok, I.len⟩
end
section
variable {X : Cx} {st : Stmt} {rest : List Stmt} {t u : TS} {e : Expr} {te : TE} {pos : Pos}
def tNext : TS := fun D σ H => D.nx σ H
def tSeq (t u : TS) : TS := fun D σ H => t { D with nx := u D } σ H
theorem pss_nil : PSs X [] tNext := fun _ _ σ H _ I h => wpAny_execs_nil ⟨σ, H, I, h⟩
theorem pss_cons (h1 : PS X st t) (h2 : PSs X rest u) : PSs X (st :: rest) (tSeq t u) := by
  intro pins s σ H D I h
  refine wpAny_execs_cons (thn (h1 pins s σ H { D with nx := u D } I h) fun f s1 q => ?_)
  cases f with
  | next =>
    obtain ⟨σ', H', I', q⟩ := q
    exact h2 pins s1 σ' H' D I' q
  | ret v => exact q
  | brk => exact q
  | cont => exact q
theorem pss_one (h1 : PS X st t) : PSs X [st] t := by
  intro pins s σ H D I h
  refine wpAny_execs_cons (thn (h1 pins s σ H D I h) fun f s1 q => ?_)
  cases f with
  | next => exact wpAny_execs_nil q
  | ret v => exact q
  | brk => exact q
  | cont => exact q
theorem Inv.quiet {pins : List (Addr × Obj)} {σ : St} {H : Hp} {s : Shared} (I : Inv X pins σ H s) : interactive X.env = false := by simp [interactive, I.ok.kind]
def tDrop (te : TE) : TS := fun D σ H => te σ H fun _ H1 => D.nx σ H1
theorem ps_expr (he : PE X e te) (hs : swapsWith e none pos.line X.env = pure false := by rfl) : PS X (.Expr e pos) (tDrop te) := by
  intro pins s σ H D I h
  exact wpAny_Expr_any (thn (he pins s σ H _ I h) fun v s1 ⟨x, H1, I1, r1, q1⟩ => ⟨σ, H1, I1, q1⟩) I.quiet hs
def tRet (te : TE) : TS := fun D σ H => te σ H D.rt
theorem ps_ret (he : PE X e te) : PS X (.Return (some e) pos) (tRet te) := by
  intro pins s σ H D I h
  exact wpAny_Return_some (thn (he pins s σ H _ I h) fun v s1 ⟨x, H1, I1, r1, q1⟩ => ⟨x, σ, H1, I1, r1, q1⟩)
def tIfS (c : TT) (t u : TS) : TS := fun D σ H => c σ H fun b H1 => if b = true then t D σ H1 else u D σ H1
theorem ps_if {c : Expr} {a b : List Stmt} {tc : TT} (hc : PT X c tc) (ha : PSs X a t) (hb : PSs X b u) : PS X (.If c a b pos) (tIfS tc t u) := by
  intro pins s σ H D I h
  refine wpAny_If (thn (hc pins s σ H _ I h) fun d s1 ⟨H1, I1, q1⟩ => ?_)
  cases d with
  | true => exact ha pins s1 σ H1 D I1 q1
  | false => exact hb pins s1 σ H1 D I1 q1
end
abbrev TG := V->St->Hp->(St->Hp->Prop)->Prop
abbrev TGs := List V->St->Hp->(St->Hp->Prop)->Prop
def PG (X : Cx) (target : Expr) (t : TG) : Prop :=
  ∀ (pins : List (Addr × Obj)) (s : Shared) (σ : St) (H : Hp) (v : V) (u : Value) (Q : St->Hp->Prop), Inv X pins σ H s->RelV v u->t v σ H Q →
    wpAny (model X.prog X.w) X.A (assign target X.env u) (fun _ s' => ∃ σ' H', Inv X pins σ' H' s' /\ Q σ' H') X.xe s
def PGs (X : Cx) (ts : List Expr) (t : TGs) : Prop :=
  ∀ (pins : List (Addr × Obj)) (s : Shared) (σ : St) (H : Hp) (vs : List V) (us : List Value) (Q : St->Hp->Prop), Inv X pins σ H s->Vals vs us->t vs σ H Q →
    wpAny (model X.prog X.w) X.A (assignInOrder ((assignEach ts X.env).map (·.2)) us) (fun _ s' => ∃ σ' H', Inv X pins σ' H' s' /\ Q σ' H') X.xe s
abbrev TSet := V->V->V->Hp->(Hp->Prop)->Prop
def PSet (X : Cx) (t : TSet) : Prop :=
  ∀ (pins : List (Addr × Obj)) (s : Shared) (σ : St) (H : Hp) (o i v : V) (ov iv u : Value) (Q : Hp->Prop), Inv X pins σ H s->RelV o ov->RelV i iv->RelV v u->t o i v H Q →
    wpAny (model X.prog X.w) X.A (setItem ov iv u) (fun _ s' => ∃ H', Inv X pins σ H' s' /\ Q H') X.xe s
section
variable {X : Cx} {pos : Pos}
def gName (i : Nat) : TG := fun v σ H Q => Q (σ.set i (some v)) H
theorem pg_name {i : Nat} {x : Str} (hN : X.N.Nodup) (hi : X.N[i]? = some x) (hx : Loc X.env.scope x) (hf : X.fn x = true ∨ X.env.scope.names.lookup x = some .local := by first | exact .inl rfl | exact .inr rfl | assumption) : PG X (.Name x pos) (gName i) := by
  intro pins s σ H v u Q I r h
  exact wpAny_assign_Name (store_ok I hN hi hx r (fun s' I' => ⟨_, H, I', h⟩) hf)
def gNil : TGs := fun vs σ H Q => vs = [] /\ Q σ H
def gCons (t : TG) (u : TGs) : TGs := fun vs σ H Q => ∃ v r, vs = v :: r /\ t v σ H fun σ' H' => u r σ' H' Q
theorem pgs_nil : PGs X [] gNil := by
  intro pins s σ H vs us Q I r h
  obtain ⟨e, h⟩ := h
  subst e
  cases r
  exact assignInOrder_nil ⟨σ, H, I, h⟩
theorem pgs_cons {e : Expr} {es : List Expr} {t : TG} {u : TGs} (h1 : PG X e t) (h2 : PGs X es u)
    (hs : (assignEach (e :: es) X.env).map (·.2) = assign e X.env :: (assignEach es X.env).map (·.2) := by rfl) : PGs X (e :: es) (gCons t u) := by
  intro pins s σ H vs us Q I r h
  obtain ⟨v, vr, e1, h⟩ := h
  subst e1
  cases r with
  | cons r rr =>
    rw [hs]
    refine assignInOrder_cons (thn (h1 pins s σ H _ _ _ I r h) fun _ s1 ⟨σ1, H1, I1, q1⟩ => ?_)
    exact h2 pins s1 σ1 H1 _ _ Q I1 rr q1
def gTup (K : PySem.W.Frag) (n : Nat) (t : TGs) : TG := fun v σ H Q => ∃ a xs, v = .ref a /\ SqT K H a xs /\ xs.length = n /\ t xs σ H Q
theorem pg_tup {es : List Expr} {k : Nat} {t : TGs} {n : Nat} (hc : X.calm = true) (h : PGs X es t)
    (hn : (assignEach es X.env).length = n := by rfl) (hst : (assignEach es X.env).findIdx? (·.1) = none := by rfl) : PG X (.Tuple es k pos) (gTup X.K n t) := by
  intro pins s σ H v u Q I r hw
  obtain ⟨a, xs, e1, hq, hl, hw⟩ := hw
  subst e1
  cases r
  obtain ⟨its, rv, ht, hz⟩ := I.tuple hq
  refine assign_Tuple_tuple (I.ok.hd hc) ht (by simp [hn, ← hl, rv.length]) hst fun h' hx => ?_
  have I1 : Inv X pins σ H { s with heap := h' } := I.kept (t' := s.toks) fun b o e => hx b o (Nat.ne_of_lt (Heap.lt_size e)) e
  exact h pins _ σ H xs _ Q I1 (by simpa using rv) hw
def gSub (to ti : TE) (t : TSet) : TG := fun v σ H Q => to σ H fun o H1 => ti σ H1 fun i H2 => t o i v H2 fun H3 => Q σ H3
theorem pg_sub {o i : Expr} {to ti : TE} {t : TSet} (ho : PE X o to) (hi : PE X i ti) (hs : PSet X t)
    (ha : ∀ v, assign (.Subscript o i pos) X.env v = (do
      let ov ← holding [v] (eval o X.env)
      let iv ← holding [v, ov] (eval i X.env)
      standAt pos
      holding [v, ov, iv] (setItem ov iv v)
      release [v, ov, iv] []) := by intro _; rfl) : PG X (.Subscript o i pos) (gSub to ti t) := by
  intro pins s σ H v u Q I r h
  rw [ha]
  refine wpAny_bind (wpAny_holding (thn (ho pins s σ H _ I h) fun ov s1 ⟨x, H1, I1, r1, q1⟩ => ?_))
  refine wpAny_bind (wpAny_holding (thn (hi pins s1 σ H1 _ I1 q1) fun iv s2 ⟨y, H2, I2, r2, q2⟩ => ?_))
  refine wpAny_bind (wpAny_standAt (wpAny_bind (wpAny_holding (thn (hs pins s2 σ H2 x y v ov iv u _ I2 r1 r2 r q2) fun _ s3 ⟨H3, I3, q3⟩ => ?_))))
  exact wpAny_release ⟨σ, H3, I3, q3⟩
def tAsg (te : TE) (g : TG) : TS := fun D σ H => te σ H fun x H1 => g x σ H1 D.nx
theorem ps_asg {tg e : Expr} {te : TE} {g : TG} (he : PE X e te) (hg : PG X tg g) (hs : swapsWithSole [tg] e pos.line X.env = pure false := by rfl) (hw : swappedStores [tg] e X.env = pure none := by rfl)
    (h1 : (assignEach [tg] X.env).map (·.2) = [assign tg X.env] := by rfl) : PS X (.Assign [tg] e pos) (tAsg te g) := by
  intro pins s σ H D I h
  refine wpAny_Assign_stores (thn (he pins s σ H _ I h) fun v s1 ⟨x, H1, I1, r1, q1⟩ => ?_) hs hw
  rw [h1]
  exact thn (hg pins s1 σ H1 x v _ I1 r1 q1) fun _ s2 q => q
theorem ps_set {i : Nat} {x : Str} {e : Expr} {te : TE} {pos' : Pos} (hN : X.N.Nodup) (hi : X.N[i]? = some x) (hx : Loc X.env.scope x) (he : PE X e te) (hs : swapsWith e (some (.Name x pos')) pos.line X.env = pure false := by rfl) (hf : X.fn x = true ∨ X.env.scope.names.lookup x = some .local := by first | exact .inl rfl | exact .inr rfl | assumption) :
    PS X (.Assign [.Name x pos'] e pos) (tAsg te (gName i)) := by
  intro pins s σ H D I h
  refine wpAny_Assign_Name (thn (he pins s σ H _ I h) fun v s1 ⟨y, H1, I1, r1, q1⟩ => ?_) hs
  exact store_ok I1 hN hi hx r1 (fun s2 I2 => ⟨_, H1, I2, q1⟩) hf
end
structure It where
  go : Nat->Hp->Prop
  yld : Nat->Hp->V->Hp->Prop
  stop : Nat->Hp->Prop
def FpOk (X : Cx) (pins : List (Addr × Obj)) (H : Hp) (b : Addr) : Prop :=
  H b = none /\ b ≠ X.env.locals /\ b ∉ X.fs /\ (b ∈ X.ex ∨ X.s₀.heap.objs.size ≤ b) /\ (∀ x c, X.env.cells.lookup x = some c->c ≠ b) /\ ∀ p ∈ X.pn ++ pins, p.1 ≠ b
theorem Inv.fpOk {X : Cx} {pins : List (Addr × Obj)} {σ : St} {H H' : Hp} {s : Shared} {b : Addr} (I : Inv X pins σ H s) (hb : s.heap.objs.size ≤ b) (hn : H' b = none) : FpOk X pins H' b := by
  refine ⟨hn, Nat.ne_of_gt (Nat.lt_of_lt_of_le I.lt hb), I.nofs hb, .inr (Nat.le_trans I.sz hb), fun x c e z => ?_, fun p hp z => ?_⟩
  · obtain ⟨v, q⟩ := I.cell x c e
    exact absurd (Nat.lt_of_lt_of_le q.lt (by rw [z]; exact hb)) (Nat.lt_irrefl _)
  · exact absurd (Nat.lt_of_lt_of_le (Heap.lt_size (I.pin p hp).1) (by rw [z]; exact hb)) (Nat.lt_irrefl _)
structure Turn (P : Program) (w : World) (K : PySem.W.Frag) (tg : Expr) (J : It) (fp : List Addr) (it : Addr) (tn : Nat->Heap->Prop) : Prop where
  mem : it ∈ fp
  obj : ∀ i h, tn i h->∀ b ∈ fp, ∃ o, h.get? b = some o /\ ∀ v, o.data ≠ .cell v
  keep : ∀ i h h', tn i h->(∀ b ∈ fp, ∀ o, h.get? b = some o->h'.get? b = some o)->tn i h'
  item : ∀ (X : Cx), X.prog = P->X.w = w->X.K = K->X.calm = true->∀ (i : Nat) (pins : List (Addr × Obj)) (s : Shared) (σ : St) (H : Hp) (E : Value->Shared->Prop), Inv X pins σ H s->(∀ b ∈ fp, FpOk X pins H b)->tn i s.heap->J.go i H →
    wpAny (model P w) X.A (pyNext (.ref it)) (fun r s1 => ∃ u, r = some u ∧
      wpAny (model P w) X.A (letOwnedTupleGo tg (.ref it) u) (fun _ s2 => ∃ x H', Inv X pins σ H' s2 /\ RelV x u /\ J.yld i H x H' /\ tn (i + 1) s2.heap /\ ∀ b ∈ fp, H' b = none) E s1) E s
  done : ∀ (X : Cx), X.prog = P->X.w = w->X.K = K->X.calm = true->∀ (i : Nat) (pins : List (Addr × Obj)) (s : Shared) (σ : St) (H : Hp) (E : Value->Shared->Prop), Inv X pins σ H s->(∀ b ∈ fp, FpOk X pins H b)->tn i s.heap->J.stop i H →
    wpAny (model P w) X.A (pyNext (.ref it)) (fun r s1 => r = none /\ Inv X pins σ H s1) E s
  self : ∀ (A : Around) (i : Nat) (s : Shared) (Q : Value->Shared->Prop) (E : Value->Shared->Prop), tn i s.heap->Q (.ref it) s->wpAny (model P w) A (pyIter (.ref it)) Q E s
abbrev TI := St->Hp->(It->Hp->Prop)->Prop
def PIE (X : Cx) (pins : List (Addr × Obj)) (σ : St) (tg : Expr) (R : It->Hp->Prop) (itv : Value) (s2 : Shared) : Prop :=
  ∃ (it : Addr) (fp : List Addr) (tn : Nat->Heap->Prop) (J : It) (H' : Hp), itv = .ref it /\ Inv X pins σ H' s2 /\ Turn X.prog X.w X.K tg J fp it tn /\ tn 0 s2.heap /\ (∀ b ∈ fp, FpOk X pins H' b) /\ R J H'
def PI (X : Cx) (tg iter : Expr) (wi : TI) : Prop :=
  ∀ (pins : List (Addr × Obj)) (s : Shared) (σ : St) (H : Hp) (R : It->Hp->Prop), Inv X pins σ H s->wi σ H R →
    wpAny (model X.prog X.w) X.A (eval iter X.env) (fun v s1 => wpAny (model X.prog X.w) X.A (pyIter v) (PIE X pins σ tg R) X.xe s1) X.xe s
theorem go_of {M : Model} {A : Around} {E : Value->Shared->Prop} {s : Shared} {tg : Expr} {it : Addr} {u : Value} {o : Obj} {n : String} {vs : Array Value} {Q : Unit->Shared->Prop} (ho : s.heap.get? it = some o) (hc : o.cls = .type n) (hd : o.data = .fields vs)
    (hn : ["enumerate", "zip", "dict_itemiterator", "dict_reverseitemiterator", "odict_iterator", "itertools.zip_longest", "itertools.pairwise"].contains n = false) (hQ : Q () s) : wpAny M A (letOwnedTupleGo tg (.ref it) u) Q E s := by
  unfold letOwnedTupleGo
  cases tg <;> first
    | exact wpAny_pure hQ
    | (cases u <;> first
        | exact wpAny_pure hQ
        | (refine wpAny_bind (wpAny_load ho ?_)
           rw [hc, hd]
           show wpAny M A (if (["enumerate", "zip", "dict_itemiterator", "dict_reverseitemiterator", "odict_iterator", "itertools.zip_longest", "itertools.pairwise"].contains n && vs[0]? == some (rawInt _)) = true then _ else _) Q E s
           rw [if_neg (by intro h; rw [hn, Bool.false_and] at h; cases h)]
           exact wpAny_pure hQ))
def Itl (K : PySem.W.Frag) (a : Addr) : It :=
  ⟨fun i H => ∃ xs x, SqL K H a xs /\ xs[i]? = some x, fun i H x H' => H' = H /\ ∀ xs, SqL K H a xs->xs[i]? = some x, fun i H => ∃ xs, SqL K H a xs /\ xs.length ≤ i⟩
def Itt (K : PySem.W.Frag) (a : Addr) : It :=
  ⟨fun i H => ∃ xs x, SqT K H a xs /\ xs[i]? = some x, fun i H x H' => H' = H /\ ∀ xs, SqT K H a xs->xs[i]? = some x, fun i H => ∃ xs, SqT K H a xs /\ xs.length ≤ i⟩
def Itr (lo : Int) (n : Nat) : It := ⟨fun i _ => i < n, fun i H x H' => H' = H /\ x = .int (lo + i), fun i _ => n ≤ i⟩
theorem turn_list {P : Program} {w : World} {K : PySem.W.Frag} {tg : Expr} (a it : Addr) : Turn P w K tg (Itl K a) [it] it (fun i h => h.IsListIter it a i) where
  mem := by simp
  obj := fun i h st b hb => by
    have e : b = it := by simpa using hb
    subst e
    obtain ⟨o, e, c, d⟩ := st
    exact ⟨o, e, fun v z => by rw [d] at z; cases z⟩
  keep := fun i h h' st k => st.at fun o e => k it (by simp) o e
  item := by
    intro X hP hw hK hc i pins s σ H E I hf st hg
    subst hP hw hK
    obtain ⟨xs, x, hq, hx⟩ := hg
    obtain ⟨its, rv, p, hz⟩ := I.list hq
    obtain ⟨u, hu, ru⟩ := rv.get hx
    obtain ⟨f0, f1, f2, f3, f4, f5⟩ := hf it (by simp)
    refine wpAny_pyNext_list_item st p.isList (x := u) (by simpa using hu) fun h' st' sb => ?_
    have I1 : Inv X pins σ H { s with heap := h' } := I.turned (t' := s.toks) (fun b o hb e => (sb.2 b hb).trans e) f0 f1 f3 f4 f5
    obtain ⟨o, e, c, d⟩ := id st'
    exact ⟨u, rfl, go_of (s := { s with heap := h' }) e c d (by decide) ⟨x, H, I1, ru, ⟨rfl, fun ys hy => by rw [I.list_inj hy hq]; exact hx⟩, st', fun b hb => (hf b hb).1⟩⟩
  done := by
    intro X hP hw hK hc i pins s σ H E I hf st hg
    subst hP hw hK
    obtain ⟨xs, hq, hx⟩ := hg
    obtain ⟨its, rv, p, hz⟩ := I.list hq
    obtain ⟨f0, f1, f2, f3, f4, f5⟩ := hf it (by simp)
    have hl := rv.length
    exact wpAny_pyNext_list_end (I.ok.hd hc) st p.isList (by simp; omega) fun h' eb => ⟨rfl, I.turned (t' := s.toks) (fun b o hb e => eb b o hb e) f0 f1 f3 f4 f5⟩
  self := fun _ _ _ _ _ st h => wpAny_pyIter_listiter st h
theorem turn_tuple {P : Program} {w : World} {K : PySem.W.Frag} {tg : Expr} (a it : Addr) : Turn P w K tg (Itt K a) [it] it (fun i h => h.IsTupleIter it a i) where
  mem := by simp
  obj := fun i h st b hb => by
    have e : b = it := by simpa using hb
    subst e
    obtain ⟨o, e, c, d⟩ := st
    exact ⟨o, e, fun v z => by rw [d] at z; cases z⟩
  keep := fun i h h' st k => st.at fun o e => k it (by simp) o e
  item := by
    intro X hP hw hK hc i pins s σ H E I hf st hg
    subst hP hw hK
    obtain ⟨xs, x, hq, hx⟩ := hg
    obtain ⟨its, rv, p, hz⟩ := I.tuple hq
    obtain ⟨u, hu, ru⟩ := rv.get hx
    obtain ⟨f0, f1, f2, f3, f4, f5⟩ := hf it (by simp)
    refine wpAny_pyNext_tuple_item st (show s.heap.IsTuple a its.toArray from p) (x := u) (by simpa using hu) fun h' st' sb => ?_
    have I1 : Inv X pins σ H { s with heap := h' } := I.turned (t' := s.toks) (fun b o hb e => (sb.2 b hb).trans e) f0 f1 f3 f4 f5
    obtain ⟨o, e, c, d⟩ := id st'
    exact ⟨u, rfl, go_of (s := { s with heap := h' }) e c d (by decide) ⟨x, H, I1, ru, ⟨rfl, fun ys hy => by rw [I.tuple_inj hy hq]; exact hx⟩, st', fun b hb => (hf b hb).1⟩⟩
  done := by
    intro X hP hw hK hc i pins s σ H E I hf st hg
    subst hP hw hK
    obtain ⟨xs, hq, hx⟩ := hg
    obtain ⟨its, rv, p, hz⟩ := I.tuple hq
    obtain ⟨f0, f1, f2, f3, f4, f5⟩ := hf it (by simp)
    have hl := rv.length
    exact wpAny_pyNext_tuple_end (I.ok.hd hc) st (show s.heap.IsTuple a its.toArray from p) (by simp; omega) fun h' eb => ⟨rfl, I.turned (t' := s.toks) (fun b o hb e => eb b o hb e) f0 f1 f3 f4 f5⟩
  self := fun _ _ _ _ _ st h => wpAny_pyIter_tupleiter st h
theorem turn_range {P : Program} {w : World} {K : PySem.W.Frag} {tg : Expr} (it : Addr) (lo : Int) (n : Nat) : Turn P w K tg (Itr lo n) [it] it (fun i h => IsRangeIter h it (lo + (i : Nat) * 1) ((n : Int) - (i : Nat)) 1) where
  mem := by simp
  obj := fun i h st b hb => by
    have e : b = it := by simpa using hb
    subst e
    exact ⟨_, st, fun v z => by
      have z' : Data.fields _ = Data.cell v := z
      cases z'⟩
  keep := fun i h h' st k => k it (by simp) _ st
  item := by
    intro X hP hw hK hc i pins s σ H E I hf st hg
    subst hP hw hK
    obtain ⟨f0, f1, f2, f3, f4, f5⟩ := hf it (by simp)
    have W := Walks.range (prog := X.prog) (w := X.w) (I.ok.hd hc) it lo 1 n
    refine W.item i s _ _ hg st fun v h' tk hv st' kk => ?_
    obtain ⟨t, rfl⟩ := hv
    have I1 : Inv X pins σ H { s with heap := h', toks := tk } := I.turned (fun b o hb e => kk b o (by simpa using hb) e) f0 f1 f3 f4 f5
    refine ⟨_, rfl, go_of (s := { s with heap := h', toks := tk }) (n := "range_iterator") st' rfl rfl (by decide) ⟨.int (lo + i), H, I1, ⟨t, ?_⟩, ⟨rfl, rfl⟩, st', fun b hb => (hf b hb).1⟩⟩
    rw [Int.mul_one]
  done := by
    intro X hP hw hK hc i pins s σ H E I hf st hg
    subst hP hw hK
    obtain ⟨f0, f1, f2, f3, f4, f5⟩ := hf it (by simp)
    exact wpAny_pyNext_range_end (I.ok.hd hc) st (by have : n ≤ i := hg; omega) fun h' eb => ⟨rfl, I.turned (t' := s.toks) (fun b o hb e => eb b o hb e) f0 f1 f3 f4 f5⟩
  self := fun _ _ _ _ _ st h => wpAny_pyIter_rangeiter st h
open PySem PySem.Spec PyProof.Rows
section
variable {X : Cx} {tg : Expr}
def iList (K : PySem.W.Frag) (tl : TE) : TI := fun σ H R => tl σ H fun x H1 => ∃ a, x = .ref a /\ (∃ xs, SqL K H1 a xs) /\ R (Itl K a) H1
def iTup (K : PySem.W.Frag) (tl : TE) : TI := fun σ H R => tl σ H fun x H1 => ∃ a, x = .ref a /\ (∃ xs, SqT K H1 a xs) /\ R (Itt K a) H1
theorem pi_list {l : Expr} {tl : TE} (hl : PE X l tl) : PI X tg l (iList X.K tl) := by
  intro pins s σ H R I h
  refine thn (hl pins s σ H _ I h) fun v s1 ⟨x, H1, I1, r1, q1⟩ => ?_
  obtain ⟨a, e, ⟨xs, hq⟩, q⟩ := q1
  subst e
  cases r1
  obtain ⟨its, rv, p, hz⟩ := I1.list hq
  refine wpAny_pyIter_list p.isList ?_
  refine ⟨s1.heap.objs.size, [s1.heap.objs.size], _, _, H1, rfl, I1.kept (t' := s1.toks) fun b o e => Heap.get?_push_of_some _ e, turn_list a _, ⟨_, Heap.get?_push_size _ rfl, rfl, rfl⟩, fun b hb => ?_, q⟩
  have e : b = s1.heap.objs.size := by simpa using hb
  subst e
  exact I1.fpOk (Nat.le_refl _) (I1.hok.fresh (Nat.le_refl _))
theorem pi_tup {l : Expr} {tl : TE} (hl : PE X l tl) : PI X tg l (iTup X.K tl) := by
  intro pins s σ H R I h
  refine thn (hl pins s σ H _ I h) fun v s1 ⟨x, H1, I1, r1, q1⟩ => ?_
  obtain ⟨a, e, ⟨xs, hq⟩, q⟩ := q1
  subst e
  cases r1
  obtain ⟨its, rv, p, hz⟩ := I1.tuple hq
  refine wpAny_pyIter_tuple (show s1.heap.IsTuple a its.toArray from p) ?_
  refine ⟨s1.heap.objs.size, [s1.heap.objs.size], _, _, H1, rfl, I1.kept (t' := s1.toks) fun b o e => Heap.get?_push_of_some _ e, turn_tuple a _, ⟨_, Heap.get?_push_size _ rfl, rfl, rfl⟩, fun b hb => ?_, q⟩
  have e : b = s1.heap.objs.size := by simpa using hb
  subst e
  exact I1.fpOk (Nat.le_refl _) (I1.hok.fresh (Nat.le_refl _))
theorem range_it {pins : List (Addr × Obj)} {σ : St} {H : Hp} {s : Shared} {R : It->Hp->Prop} {E : Value->Shared->Prop} {lo hi : Int} {t u v : Tok} {tk : Nat} (I : Inv X pins σ H s) (h1 : -(2 ^ 62) ≤ lo) (h2 : lo < 2 ^ 62) (h3 : -(2 ^ 62) ≤ hi) (h4 : hi < 2 ^ 62)
    (q : R (Itr lo (hi - lo).toNat) H) : wpAny (model X.prog X.w) X.A (pyIter (.ref s.heap.objs.size)) (PIE X pins σ tg R) E { s with heap := s.heap.push { cls := .type "range", data := .fields #[.int lo t, .int hi u, .int 1 v] }, toks := tk } := by
  refine wpAny_pyIter_range (IsRange.new ..) (small_one h1 h2 h3 h4) ?_
  have I1 : Inv X pins σ H { s with heap := s.heap.push { cls := .type "range", data := .fields #[.int lo t, .int hi u, .int 1 v] }, toks := tk } := I.kept fun b o e => Heap.get?_push_of_some _ e
  refine ⟨(s.heap.push { cls := .type "range", data := .fields #[.int lo t, .int hi u, .int 1 v] }).objs.size, [(s.heap.push { cls := .type "range", data := .fields #[.int lo t, .int hi u, .int 1 v] }).objs.size], _, _, H, rfl,
    I1.kept (t' := tk) fun b o e => Heap.get?_push_of_some _ e, turn_range _ lo (hi - lo).toNat, ?_, fun b hb => ?_, q⟩
  · have e1 : lo + ((0 : Nat) : Int) * 1 = lo := by simp
    have e2 : (((hi - lo).toNat : Nat) : Int) - ((0 : Nat) : Int) = Builtin.Range.rangeSize lo hi 1 := by rw [rangeSize_one]; split <;> omega
    show IsRangeIter _ _ (lo + ((0 : Nat) : Int) * 1) ((((hi - lo).toNat : Nat) : Int) - ((0 : Nat) : Int)) 1
    rw [e1, e2]
    exact Heap.get?_push_size _ rfl
  · have e : b = (s.heap.push { cls := .type "range", data := .fields #[.int lo t, .int hi u, .int 1 v] }).objs.size := by simpa using hb
    subst e
    exact I1.fpOk (Nat.le_refl _) (I1.hok.fresh (Nat.le_refl _))
def iRng1 (ta : TA) : TI := fun σ H R => ta σ H fun vs H1 => ∃ j : Int, vs = [.int j] /\ -(2 ^ 62) ≤ j /\ j < 2 ^ 62 /\ R (Itr 0 j.toNat) H1
theorem pi_range1 {a : Expr} {ta : TA} {p pos : Pos} (hg : Gl X "range") (hm : X.mg "range" = none) (ha : PA X [a] ta) (hs : starEach [a] X.env = [(false, eval a X.env)] := by rfl) : PI X tg (.Call (.Name "range" p) [a] [] pos) (iRng1 ta) := by
  intro pins s σ H R I h
  refine Call_ (ld_blt I hg hm boot_range (PyProof.Rows.callWith_type1 (thn (ha pos pins s σ H _ I h) fun us s1 ⟨vs, H1, I1, r1, q1⟩ => ?_) hs rfl))
  obtain ⟨j, e, q1, q2, q⟩ := q1
  subst e
  cases r1 with
  | cons r rr =>
    cases rr
    obtain ⟨t, rfl⟩ := r
    exact call_range_1 (range_it I1 (by omega) (by omega) q1 q2 (by simpa using q))
def tFor (wi : TI) (g : TG) (tb : TS) : TS := fun D σ H => wi σ H fun J H1 => ∃ W : Nat->Nat->St->Hp->Prop, (∃ m, W 0 m σ H1) /\ ∀ i m σ H, W i m σ H →
  (J.stop i H /\ D.nx σ H) ∨ (J.go i H /\ ∃ N : St->Hp->Prop, (∀ σ' H', N σ' H'->∃ m', m' < m /\ W (i + 1) m' σ' H') /\ ∀ x H', J.yld i H x H'->g x σ H' fun σ2 H2 => tb { D with nx := N, ct := N, bk := D.nx } σ2 H2)
def pinsAt (fp : List Addr) (h : Heap) : List (Addr × Obj) := fp.filterMap fun b => (h.get? b).map fun o => (b, o)
theorem mem_pinsAt {fp : List Addr} {h : Heap} {b : Addr} {o : Obj} (hb : b ∈ fp) (e : h.get? b = some o) : (b, o) ∈ pinsAt fp h := List.mem_filterMap.mpr ⟨b, hb, by rw [e]; rfl⟩
theorem of_pinsAt {fp : List Addr} {h : Heap} {p : Addr × Obj} (hp : p ∈ pinsAt fp h) : p.1 ∈ fp /\ h.get? p.1 = some p.2 := by
  obtain ⟨b, hb, e⟩ := List.mem_filterMap.mp hp
  cases q : h.get? b with
  | none => rw [q] at e; cases e
  | some o =>
    rw [q] at e
    have e' : (b, o) = p := Option.some.inj e
    subst e'
    exact ⟨hb, q⟩
theorem Inv.pinned {pins : List (Addr × Obj)} {σ : St} {H : Hp} {s : Shared} {fp : List Addr} (I : Inv X pins σ H s) (hf : ∀ b ∈ fp, FpOk X pins H b) (ho : ∀ b ∈ fp, ∃ o, s.heap.get? b = some o /\ ∀ v, o.data ≠ .cell v) : Inv X (pins ++ pinsAt fp s.heap) σ H s :=
  I.pins_of fun p hp => (List.mem_append.mp hp).elim (fun z => I.pin p (List.mem_append_right _ z)) fun z => by
    obtain ⟨hb, e⟩ := of_pinsAt z
    obtain ⟨f0, f1, f2, _⟩ := hf p.1 hb
    obtain ⟨o, e', d⟩ := ho p.1 hb
    rw [e] at e'; cases e'
    exact ⟨e, f0, f1, f2, d⟩
theorem Inv.unpinned {pins pl : List (Addr × Obj)} {σ : St} {H : Hp} {s : Shared} (I : Inv X (pins ++ pl) σ H s) : Inv X pins σ H s := I.pins_of fun p hp => I.pin p (List.mem_append_right _ (List.mem_append_left _ hp))
theorem ps_for {iter : Expr} {body : List Stmt} {wi : TI} {g : TG} {tb : TS} {pos : Pos} (hp : PassesOwn (model X.prog X.w) X.A X.env X.xe) (hc : X.calm = true) (hi : PI X tg iter wi) (hg : PG X tg g) (hb : PSs X body tb)
    (hs : ∀ x, foldedSetIterable iter X.env x = pure x := by intro _; rfl) : PS X (.For tg iter body [] pos) (tFor wi g tb) := by
  intro pins s σ H D I h
  refine wpAny_For (thn (hi pins s σ H _ I h) fun v s1 h1 => thn h1 fun itv s2 h2 => ?_) hs
  obtain ⟨it, fp, tn, J, H2, e, I2, T, st2, f2, W, ⟨m0, w0⟩, turn⟩ := h2
  subst e
  have stat : ∀ {H' : Hp}, (∀ b ∈ fp, H' b = none)->∀ b ∈ fp, FpOk X pins H' b := fun hn b hb => ⟨hn b hb, (f2 b hb).2⟩
  refine codeAny_forLoop_any (fun n s' => ∃ i σ' H', Inv X pins σ' H' s' /\ tn i s'.heap /\ (∀ b ∈ fp, H' b = none) /\ W i n σ' H') ?_ m0 ⟨0, σ, H2, I2, st2, fun b hb => (f2 b hb).1, w0⟩
  rintro n s3 ⟨i, σ3, H3, I3, st3, fr3, w3⟩
  rcases turn i n σ3 H3 w3 with ⟨stop, qn⟩ | ⟨go, N, hN, step⟩
  · refine wpAny_passesOwn hp (thn (T.done X rfl rfl rfl hc i pins s3 σ3 H3 X.xe I3 (stat fr3) st3 stop) fun r s4 ⟨hr, I4⟩ => ?_)
    subst hr
    exact wpAny_execs_nil ⟨σ3, H3, I4, qn⟩
  · refine wpAny_passesOwn hp (thn (T.item X rfl rfl rfl hc i pins s3 σ3 H3 X.xe I3 (stat fr3) st3 go) fun r s4 ⟨u, hr, h4⟩ => ?_)
    subst hr
    refine wpAny_passesOwn hp (thn h4 fun _ s5 ⟨x, H5, I5, r5, y5, st5, fr5⟩ => ?_)
    have I5' := I5.pinned (stat fr5) (T.obj _ _ st5)
    refine wpAny_passesOwn hp (thn (hg _ s5 σ3 H5 x u _ I5' r5 (step x H5 y5)) fun _ s6 ⟨σ6, H6, I6, q6⟩ => ?_)
    refine wpAny_passesOwn hp (thn (hb _ s6 σ6 H6 _ I6 q6) fun f s7 q7 => ?_)
    have again : ∀ {σ7 : St} {H7 : Hp}, Inv X (pins ++ pinsAt fp s5.heap) σ7 H7 s7->N σ7 H7->∃ m, m < n /\ ∃ i σ' H', Inv X pins σ' H' s7 /\ tn i s7.heap /\ (∀ b ∈ fp, H' b = none) /\ W i m σ' H' := fun {σ7 H7} I7 n7 => by
      obtain ⟨m', hm, w7⟩ := hN σ7 H7 n7
      refine ⟨m', hm, i + 1, σ7, H7, I7.unpinned, T.keep _ _ _ st5 fun b hb o e => (I7.pin (b, o) (List.mem_append_right _ (List.mem_append_right _ (mem_pinsAt hb e)))).1, fun b hb => ?_, w7⟩
      obtain ⟨o, e, d⟩ := T.obj _ _ st5 b hb
      exact (I7.pin (b, o) (List.mem_append_right _ (List.mem_append_right _ (mem_pinsAt hb e)))).2.1
    cases f with
    | next => obtain ⟨σ7, H7, I7, n7⟩ := q7; exact again I7 n7
    | cont => obtain ⟨σ7, H7, I7, n7⟩ := q7; exact again I7 n7
    | brk => obtain ⟨σ7, H7, I7, q7⟩ := q7; exact ⟨σ7, H7, I7.unpinned, q7⟩
    | ret v => obtain ⟨x7, σ7, H7, I7, r7, q7⟩ := q7; exact ⟨x7, σ7, H7, I7.unpinned, r7, q7⟩
end
theorem for_list {K : PySem.W.Frag} {a : Addr} {xs : List V} {g : TG} {tb : TS} {D : Ends} {σ : St} {H : Hp} (Pv : Nat->St->Hp->Prop) (h0 : Pv 0 σ H) (hl : ∀ i σ H, i ≤ xs.length->Pv i σ H->SqL K H a xs)
    (hs : ∀ i x σ H, xs[i]? = some x->Pv i σ H->g x σ H fun σ2 H2 => tb { D with nx := Pv (i + 1), ct := Pv (i + 1), bk := D.nx } σ2 H2) (hd : ∀ σ H, Pv xs.length σ H->D.nx σ H) :
    ∃ W : Nat->Nat->St->Hp->Prop, (∃ m, W 0 m σ H) /\ ∀ i m σ H, W i m σ H →
      ((Itl K a).stop i H /\ D.nx σ H) ∨ ((Itl K a).go i H /\ ∃ N : St->Hp->Prop, (∀ σ' H', N σ' H'->∃ m', m' < m /\ W (i + 1) m' σ' H') /\ ∀ x H', (Itl K a).yld i H x H'->g x σ H' fun σ2 H2 => tb { D with nx := N, ct := N, bk := D.nx } σ2 H2) := by
  refine ⟨fun i m σ H => m = xs.length - i /\ i ≤ xs.length /\ Pv i σ H, ⟨xs.length, by simp, Nat.zero_le _, h0⟩, ?_⟩
  rintro i m σ H ⟨rfl, hi, p⟩
  have q := hl i σ H hi p
  by_cases hlt : i < xs.length
  · refine .inr ⟨⟨xs, xs[i], q, by simp [hlt]⟩, Pv (i + 1), fun σ' H' p' => ⟨xs.length - (i + 1), by omega, rfl, hlt, p'⟩, fun x H' y => ?_⟩
    obtain ⟨e, y⟩ := y
    subst e
    exact hs i x σ _ (y xs q) p
  · have e : i = xs.length := by omega
    subst e
    exact .inl ⟨⟨xs, q, Nat.le_refl _⟩, hd σ H p⟩
theorem for_tup {K : PySem.W.Frag} {a : Addr} {xs : List V} {g : TG} {tb : TS} {D : Ends} {σ : St} {H : Hp} (Pv : Nat->St->Hp->Prop) (h0 : Pv 0 σ H) (hl : ∀ i σ H, i ≤ xs.length->Pv i σ H->SqT K H a xs)
    (hs : ∀ i x σ H, xs[i]? = some x->Pv i σ H->g x σ H fun σ2 H2 => tb { D with nx := Pv (i + 1), ct := Pv (i + 1), bk := D.nx } σ2 H2) (hd : ∀ σ H, Pv xs.length σ H->D.nx σ H) :
    ∃ W : Nat->Nat->St->Hp->Prop, (∃ m, W 0 m σ H) /\ ∀ i m σ H, W i m σ H →
      ((Itt K a).stop i H /\ D.nx σ H) ∨ ((Itt K a).go i H /\ ∃ N : St->Hp->Prop, (∀ σ' H', N σ' H'->∃ m', m' < m /\ W (i + 1) m' σ' H') /\ ∀ x H', (Itt K a).yld i H x H'->g x σ H' fun σ2 H2 => tb { D with nx := N, ct := N, bk := D.nx } σ2 H2) := by
  refine ⟨fun i m σ H => m = xs.length - i /\ i ≤ xs.length /\ Pv i σ H, ⟨xs.length, by simp, Nat.zero_le _, h0⟩, ?_⟩
  rintro i m σ H ⟨rfl, hi, p⟩
  have q := hl i σ H hi p
  by_cases hlt : i < xs.length
  · refine .inr ⟨⟨xs, xs[i], q, by simp [hlt]⟩, Pv (i + 1), fun σ' H' p' => ⟨xs.length - (i + 1), by omega, rfl, hlt, p'⟩, fun x H' y => ?_⟩
    obtain ⟨e, y⟩ := y
    subst e
    exact hs i x σ _ (y xs q) p
  · have e : i = xs.length := by omega
    subst e
    exact .inl ⟨⟨xs, q, Nat.le_refl _⟩, hd σ H p⟩
theorem for_range {lo : Int} {n : Nat} {g : TG} {tb : TS} {D : Ends} {σ : St} {H : Hp} (Pv : Nat->St->Hp->Prop) (h0 : Pv 0 σ H)
    (hs : ∀ i σ H, i < n->Pv i σ H->g (.int (lo + i)) σ H fun σ2 H2 => tb { D with nx := Pv (i + 1), ct := Pv (i + 1), bk := D.nx } σ2 H2) (hd : ∀ σ H, Pv n σ H->D.nx σ H) :
    ∃ W : Nat->Nat->St->Hp->Prop, (∃ m, W 0 m σ H) /\ ∀ i m σ H, W i m σ H →
      ((Itr lo n).stop i H /\ D.nx σ H) ∨ ((Itr lo n).go i H /\ ∃ N : St->Hp->Prop, (∀ σ' H', N σ' H'->∃ m', m' < m /\ W (i + 1) m' σ' H') /\ ∀ x H', (Itr lo n).yld i H x H'->g x σ H' fun σ2 H2 => tb { D with nx := N, ct := N, bk := D.nx } σ2 H2) := by
  refine ⟨fun i m σ H => m = n - i /\ i ≤ n /\ Pv i σ H, ⟨n, by simp, Nat.zero_le _, h0⟩, ?_⟩
  rintro i m σ H ⟨rfl, hi, p⟩
  by_cases hlt : i < n
  · refine .inr ⟨hlt, Pv (i + 1), fun σ' H' p' => ⟨n - (i + 1), by omega, rfl, hlt, p'⟩, fun x H' y => ?_⟩
    obtain ⟨e, y⟩ := y
    subst e y
    exact hs i σ _ hlt p
  · have e : i = n := by omega
    subst e
    exact .inl ⟨Nat.le_refl _, hd σ H p⟩
open PySem PySem.Spec PyProof.Rows
abbrev R2 := V->V->Hp->VK->Prop
def OpR (X : Cx) (f : Value->Value->Sem Value) (r : R2) : Prop :=
  ∀ (pins : List (Addr × Obj)) (s : Shared) (σ : St) (H : Hp) (x y : V) (v u : Value) (Q : VK), Inv X pins σ H s->RelV x v->RelV y u->r x y H Q →
    wpAny (model X.prog X.w) X.A (f v u) (EP X pins σ Q) X.xe s
def UnR (X : Cx) (f : Value->Sem Value) (r : V->Hp->VK->Prop) : Prop :=
  ∀ (pins : List (Addr × Obj)) (s : Shared) (σ : St) (H : Hp) (x : V) (v : Value) (Q : VK), Inv X pins σ H s->RelV x v->r x H Q →
    wpAny (model X.prog X.w) X.A (f v) (EP X pins σ Q) X.xe s
def CallR (X : Cx) (f : Value) (r : List V->Hp->VK->Prop) : Prop :=
  ∀ (pins : List (Addr × Obj)) (s : Shared) (σ : St) (H : Hp) (xs : List V) (us : List Value) (Q : VK), Inv X pins σ H s->Vals xs us->r xs H Q →
    wpAny (model X.prog X.w) X.A (call f us) (EP X pins σ Q) X.xe s
def tOp (r : R2) (ta tb : TE) : TE := fun σ H Q => ta σ H fun x H1 => tb σ H1 fun y H2 => r x y H2 Q
def tUn (r : V->Hp->VK->Prop) (ta : TE) : TE := fun σ H Q => ta σ H fun x H1 => r x H1 Q
def rI (C : Int->Int->Prop) (g : Int->Int->V) : R2 := fun x y H Q => ∃ i j, x = .int i /\ y = .int j /\ C i j /\ Q (g i j) H
def rI0 (g : Int->Int->V) : R2 := fun x y H Q => ∃ i j, x = .int i /\ y = .int j /\ Q (g i j) H
def rU (g : Int->V) : V->Hp->VK->Prop := fun x H Q => ∃ i, x = .int i /\ Q (g i) H
section
variable {X : Cx} {a b c : Expr} {ta tb tc : TE} {pos : Pos}
theorem binT (ha : PE X a ta) (hb : PE X b tb) {pins : List (Addr × Obj)} {s : Shared} {σ : St} {H : Hp} {R : V->V->Hp->Prop} (I : Inv X pins σ H s)
    (h : ta σ H fun x H1 => tb σ H1 fun y H2 => R x y H2) {Q : Value->Shared->Prop} {f : Value->Value->Sem Value}
    (hf : ∀ v u s2 x y H2, Inv X pins σ H2 s2->RelV x v->RelV y u->R x y H2->wpAny (model X.prog X.w) X.A (f v u) Q X.xe s2) :
    wpAny (model X.prog X.w) X.A (eval a X.env) (fun v s₁ => wpAny (model X.prog X.w) X.A (eval b X.env) (fun u s₂ => wpAny (model X.prog X.w) X.A (f v u) Q X.xe s₂) X.xe s₁) X.xe s := by
  refine thn (ha pins s σ H _ I h) fun v s1 ⟨x, H1, I1, r1, q1⟩ => ?_
  refine thn (hb pins s1 σ H1 _ I1 q1) fun u s2 ⟨y, H2, I2, r2, q2⟩ => ?_
  exact hf v u s2 x y H2 I2 r1 r2 q2
theorem pe_op {op : Operator} {r : R2} (ho : OpR X (binaryOp op) r) (ha : PE X a ta) (hb : PE X b tb) : PE X (.BinOp a op b pos) (tOp r ta tb) := by
  intro pins s σ H Q I h
  exact wpAny_BinOp (binT ha hb I h fun v u s2 x y H2 I2 rx ry q => ho pins s2 σ H2 x y v u Q I2 rx ry q)
theorem pe_un {op : UnaryOp} {r : V->Hp->VK->Prop} (ho : UnR X (unaryOp op) r) (ha : PE X a ta) : PE X (.UnaryOp op a pos) (tUn r ta) := by
  intro pins s σ H Q I h
  exact UnaryOp_ (thn (ha pins s σ H _ I h) fun v s1 ⟨x, H1, I1, r1, q1⟩ => ho pins s1 σ H1 x v Q I1 r1 q1)
theorem opI {f : Value->Value->Sem Value} {C : Int->Int->Prop} {g : Int->Int->Int}
    (rule : ∀ (i j : Int) (t u : Tok) (s : Shared) (Q : Value->Shared->Prop) (E : Value->Shared->Prop), C i j->Q (.int (g i j) s.toks) { s with toks := s.toks + 1 }->wpAny (model X.prog X.w) X.A (f (.int i t) (.int j u)) Q E s) :
    OpR X f (rI C fun i j => .int (g i j)) := by
  intro pins s σ H x y v u Q I rx ry h
  obtain ⟨i, j, rfl, rfl, hc, q⟩ := h
  obtain ⟨t, rfl⟩ := rx
  obtain ⟨t', rfl⟩ := ry
  exact rule i j t t' s _ _ hc ⟨.int (g i j), H, I.tok _, ⟨_, rfl⟩, q⟩
theorem opI0 {f : Value->Value->Sem Value} {g : Int->Int->Int}
    (rule : ∀ (i j : Int) (t u : Tok) (s : Shared) (Q : Value->Shared->Prop) (E : Value->Shared->Prop), Q (.int (g i j) s.toks) { s with toks := s.toks + 1 }->wpAny (model X.prog X.w) X.A (f (.int i t) (.int j u)) Q E s) :
    OpR X f (rI0 fun i j => .int (g i j)) := by
  intro pins s σ H x y v u Q I rx ry h
  obtain ⟨i, j, rfl, rfl, q⟩ := h
  obtain ⟨t, rfl⟩ := rx
  obtain ⟨t', rfl⟩ := ry
  exact rule i j t t' s _ _ ⟨.int (g i j), H, I.tok _, ⟨_, rfl⟩, q⟩
theorem opB0 {f : Value->Value->Sem Value} {g : Int->Int->Bool}
    (rule : ∀ (i j : Int) (t u : Tok) (s : Shared) (Q : Value->Shared->Prop) (E : Value->Shared->Prop), Q (.bool (g i j)) s->wpAny (model X.prog X.w) X.A (f (.int i t) (.int j u)) Q E s) :
    OpR X f (rI0 fun i j => .bl (g i j)) := by
  intro pins s σ H x y v u Q I rx ry h
  obtain ⟨i, j, rfl, rfl, q⟩ := h
  obtain ⟨t, rfl⟩ := rx
  obtain ⟨t', rfl⟩ := ry
  exact rule i j t t' s _ _ ⟨.bl (g i j), H, I, rfl, q⟩
def CPow (i j : Int) : Prop := 0 ≤ j /\ j ≤ 1000000 /\ i.natAbs < 2 ^ 64
def CMul (i j : Int) : Prop := (-(2 ^ 64) < i /\ i < 2 ^ 64) ∨ (-(2 ^ 64) < j /\ j < 2 ^ 64)
theorem CMul.ok {i j : Int} (h : CMul i j) : IntMulOk i j := by
  rcases h with ⟨h1, h2⟩ | ⟨h1, h2⟩
  · exact .of_left (intBits_le_64 h1 h2)
  · exact .of_right (intBits_le_64 h1 h2)
theorem op_add : OpR X (binaryOp .Add) (rI0 fun i j => .int (i + j)) := opI0 fun _ _ _ _ _ _ _ q => add_int q
theorem op_sub : OpR X (binaryOp .Sub) (rI0 fun i j => .int (i - j)) := opI0 fun _ _ _ _ _ _ _ q => sub_int q
theorem op_mul : OpR X (binaryOp .Mult) (rI CMul fun i j => .int (i * j)) := opI fun _ _ _ _ _ _ _ hc q => mul_int q hc.ok
theorem op_mod : OpR X (binaryOp .Mod) (rI (fun _ j => 0 < j) fun i j => .int (i % j)) := opI fun i j _ _ _ _ _ hc q => by
  have h1 : (0 : Int) < j := hc
  exact mod_int' (by omega) (by rw [Int.fmod_eq_emod_of_nonneg i (by omega)]; exact q)
theorem op_pow : OpR X (binaryOp .Pow) (rI CPow fun i j => .int (i ^ j.toNat)) := opI fun _ _ _ _ _ _ _ hc q => pow_int_small hc.1 hc.2.1 hc.2.2 q
theorem op_xor : OpR X (binaryOp .BitXor) (rI0 fun i j => .int (Builtin.bitXor i j)) := opI0 fun _ _ _ _ _ _ _ q => xor_int q
theorem unI {f : Value->Sem Value} {g : Int->Int}
    (rule : ∀ (i : Int) (t : Tok) (s : Shared) (Q : Value->Shared->Prop) (E : Value->Shared->Prop), Q (.int (g i) s.toks) { s with toks := s.toks + 1 }->wpAny (model X.prog X.w) X.A (f (.int i t)) Q E s) :
    UnR X f (rU fun i => .int (g i)) := by
  intro pins s σ H x v Q I rx h
  obtain ⟨i, rfl, q⟩ := h
  obtain ⟨t, rfl⟩ := rx
  exact rule i t s _ _ ⟨.int (g i), H, I.tok _, ⟨_, rfl⟩, q⟩
theorem un_neg : UnR X (unaryOp .USub) (rU fun i => .int (-i)) := unI fun _ _ _ _ _ q => neg_int q
end
def scal : V->V->Bool
  | .non, .non => true | .non, .int _ => true | .int _, .non => true | .non, .bl _ => true | .bl _, .non => true | .non, .str _ => true | .str _, .non => true
  | .int _, .int _ => true | .bl _, .bl _ => true | .str _, .str _ => true | .byt _, .byt _ => true
  | .int _, .str _ => true | .str _, .int _ => true | .bl _, .str _ => true | .str _, .bl _ => true
  | _, _ => false
def rEq : R2 := fun x y H Q => scal x y = true /\ Q (.bl (decide (x = y))) H
def rNe : R2 := fun x y H Q => scal x y = true /\ Q (.bl (!decide (x = y))) H
theorem dec_int {i j : Int} : decide (V.int i = V.int j) = (i == j) := by
  rw [Bool.eq_iff_iff]
  simp
theorem dec_bl {i j : Bool} : decide (V.bl i = V.bl j) = (i == j) := by
  rw [Bool.eq_iff_iff]
  simp
theorem dec_str {i j : Str} : decide (V.str i = V.str j) = (i == j) := by
  rw [Bool.eq_iff_iff]
  simp
theorem dec_byt {i j : Array UInt8} : decide (V.byt i = V.byt j) = (i.toList == j.toList) := by
  rw [Bool.eq_iff_iff]
  cases i
  cases j
  simp
section
variable {X : Cx} {a b c : Expr} {ta tb tc : TE} {pos : Pos}
theorem fin_bl {pins : List (Addr × Obj)} {σ : St} {H : Hp} {s : Shared} {Q : VK} {k k' : Bool} (I : Inv X pins σ H s) (q : Q (.bl k) H) (e : k = k') : EP X pins σ Q (.bool k') s := by
  subst e
  exact ⟨.bl k, H, I, rfl, q⟩
theorem op_eq : OpR X (compareOp .Eq) rEq := by
  intro pins s σ H x y v u Q I rx ry h
  obtain ⟨hs, q⟩ := h
  cases x with
  | non =>
    cases rx
    cases y with
    | non => cases ry; exact PySem.EqNone.eq_none_none (fin_bl I q (by simp))
    | bl j => cases ry; exact PySem.EqNone.eq_none_bool (fin_bl I q (by simp))
    | int j => obtain ⟨t', rfl⟩ := ry; exact PySem.EqNone.eq_none_int (fin_bl I q (by simp))
    | str j => obtain ⟨t', rfl⟩ := ry; exact PySem.EqNone.eq_none_str (fin_bl I q (by simp))
    | _ => exact absurd (show false = true from hs) Bool.false_ne_true
  | bl i =>
    cases rx
    cases y with
    | non => cases ry; exact PySem.EqNone.eq_bool_none (fin_bl I q (by simp))
    | bl j => cases ry; exact eq_bool (fin_bl I q dec_bl)
    | str j => obtain ⟨t', rfl⟩ := ry; exact PySem.EqMixed.eq_bool_str (fin_bl I q (by simp))
    | _ => exact absurd (show false = true from hs) Bool.false_ne_true
  | int i =>
    obtain ⟨t, rfl⟩ := rx
    cases y with
    | non => cases ry; exact PySem.EqNone.eq_int_none (fin_bl I q (by simp))
    | int j => obtain ⟨t', rfl⟩ := ry; exact eq_int (fin_bl I q dec_int)
    | str j => obtain ⟨t', rfl⟩ := ry; exact PySem.EqMixed.eq_int_str (fin_bl I q (by simp))
    | _ => exact absurd (show false = true from hs) Bool.false_ne_true
  | str i =>
    obtain ⟨t, rfl⟩ := rx
    cases y with
    | non => cases ry; exact PySem.EqNone.eq_str_none (fin_bl I q (by simp))
    | bl j => cases ry; exact PySem.EqMixed.eq_str_bool (fin_bl I q (by simp))
    | int j => obtain ⟨t', rfl⟩ := ry; exact PySem.EqMixed.eq_str_int (fin_bl I q (by simp))
    | str j => obtain ⟨t', rfl⟩ := ry; exact eq_str (fin_bl I q dec_str)
    | _ => exact absurd (show false = true from hs) Bool.false_ne_true
  | byt i =>
    obtain ⟨t, rfl⟩ := rx
    cases y with
    | byt j => obtain ⟨t', rfl⟩ := ry; exact PySem.W.eq_bytes (fin_bl I q dec_byt)
    | _ => exact absurd (show false = true from hs) Bool.false_ne_true
  | _ => cases y <;> exact absurd (show false = true from hs) Bool.false_ne_true
theorem op_ne : OpR X (compareOp .NotEq) rNe := by
  intro pins s σ H x y v u Q I rx ry h
  obtain ⟨hs, q⟩ := h
  cases x with
  | non =>
    cases rx
    cases y with
    | non => cases ry; exact PySem.EqNone.ne_none_none (fin_bl I q (by simp))
    | bl j => cases ry; exact PySem.EqNone.ne_none_bool (fin_bl I q (by simp))
    | int j => obtain ⟨t', rfl⟩ := ry; exact PySem.EqNone.ne_none_int (fin_bl I q (by simp))
    | str j => obtain ⟨t', rfl⟩ := ry; exact PySem.EqNone.ne_none_str (fin_bl I q (by simp))
    | _ => exact absurd (show false = true from hs) Bool.false_ne_true
  | bl i =>
    cases rx
    cases y with
    | non => cases ry; exact PySem.EqNone.ne_bool_none (fin_bl I q (by simp))
    | bl j => cases ry; exact ne_bool (fin_bl I q (congrArg not dec_bl))
    | str j => obtain ⟨t', rfl⟩ := ry; exact PySem.EqMixed.ne_bool_str (fin_bl I q (by simp))
    | _ => exact absurd (show false = true from hs) Bool.false_ne_true
  | int i =>
    obtain ⟨t, rfl⟩ := rx
    cases y with
    | non => cases ry; exact PySem.EqNone.ne_int_none (fin_bl I q (by simp))
    | int j => obtain ⟨t', rfl⟩ := ry; exact ne_int (fin_bl I q (congrArg not dec_int))
    | str j => obtain ⟨t', rfl⟩ := ry; exact PySem.EqMixed.ne_int_str (fin_bl I q (by simp))
    | _ => exact absurd (show false = true from hs) Bool.false_ne_true
  | str i =>
    obtain ⟨t, rfl⟩ := rx
    cases y with
    | non => cases ry; exact PySem.EqNone.ne_str_none (fin_bl I q (by simp))
    | bl j => cases ry; exact PySem.EqMixed.ne_str_bool (fin_bl I q (by simp))
    | int j => obtain ⟨t', rfl⟩ := ry; exact PySem.EqMixed.ne_str_int (fin_bl I q (by simp))
    | str j => obtain ⟨t', rfl⟩ := ry; exact ne_str (fin_bl I q (congrArg not dec_str))
    | _ => exact absurd (show false = true from hs) Bool.false_ne_true
  | byt i =>
    obtain ⟨t, rfl⟩ := rx
    cases y with
    | byt j => obtain ⟨t', rfl⟩ := ry; exact PySem.W.ne_bytes (fin_bl I q (congrArg not dec_byt))
    | _ => exact absurd (show false = true from hs) Bool.false_ne_true
  | _ => cases y <;> exact absurd (show false = true from hs) Bool.false_ne_true
theorem op_lt : OpR X (compareOp .Lt) (rI0 fun i j => .bl (decide (i < j))) := opB0 fun _ _ _ _ _ _ _ q => lt_int q
theorem op_ge : OpR X (compareOp .GtE) (rI0 fun i j => .bl (decide (j ≤ i))) := opB0 fun _ _ _ _ _ _ _ q => ge_int q
theorem op_isN : OpR X (compareOp .Is) (fun x y H Q => y = .non /\ Q (.bl (decide (x = .non))) H) := by
  intro pins s σ H x y v u Q I rx ry h
  obtain ⟨rfl, q⟩ := h
  cases ry
  refine is_none_gen (fin_bl I q ?_)
  cases x <;> first
    | (cases rx; rfl)
    | (obtain ⟨t, rfl⟩ := rx; rfl)
theorem nomark (b : Expr) {op : CmpOp} (h : op ≠ .In := by decide) (h2 : op ≠ .NotIn := by decide) : behindInMarks op b = false := by
  have e1 : (op == CmpOp.In) = false := by cases op <;> first | rfl | exact absurd rfl h
  have e2 : (op == CmpOp.NotIn) = false := by cases op <;> first | rfl | exact absurd rfl h2
  cases b <;> simp [behindInMarks, e1, e2]
theorem pe_cmpR {op : CmpOp} {r : R2} (ho : OpR X (compareOp op) r) (ha : PE X a ta) (hb : PE X b tb) (hm : behindInMarks op b = false) : PE X (.Compare a [op] [b] pos) (tOp r ta tb) := by
  intro pins s σ H Q I h
  exact wpAny_Compare1 (binT ha hb I h fun v u s2 x y H2 I2 rx ry q => ho pins s2 σ H2 x y v u Q I2 rx ry q) hm
def tTest (t : TE) : TT := fun σ H Q => t σ H fun x H' => ∃ k, x = .bl k /\ Q k H'
theorem pt_cmpR {op : CmpOp} {r : R2} (ho : OpR X (compareOp op) r) (ha : PE X a ta) (hb : PE X b tb) (hm : behindInMarks op b = false) : PT X (.Compare a [op] [b] pos) (tTest (tOp r ta tb)) := by
  intro pins s σ H Q I h
  refine wpAny_isTrue_Compare1 (thn (ha pins s σ H _ I h) fun v s1 ⟨x, H1, I1, r1, q1⟩ => thn (hb pins s1 σ H1 _ I1 q1) fun u s2 ⟨y, H2, I2, r2, q2⟩ =>
    thn (ho pins s2 σ H2 x y v u _ I2 r1 r2 q2) fun c s3 ⟨z, H3, I3, r3, k, e, q3⟩ => ?_) hm
  subst e
  cases r3
  exact wpAny_truthy_bool ⟨H3, I3, q3⟩
theorem line63 : (sizeLine : Nat) < 2 ^ 63 := by rw [sizeLine_eq]; decide
theorem vals1 {x : V} {us : List Value} (r : Vals [x] us) : ∃ u, us = [u] /\ RelV x u := by
  cases r with
  | cons r1 r2 => cases r2; exact ⟨_, rfl, r1⟩
theorem vals2 {x y : V} {us : List Value} (r : Vals [x, y] us) : ∃ u w', us = [u, w'] /\ RelV x u /\ RelV y w' := by
  cases r with
  | cons r1 r2 =>
    cases r2 with
    | cons r3 r4 => cases r4; exact ⟨_, _, rfl, r1, r3⟩
theorem call_max2 (hc : X.calm = true) : CallR X (.builtin "max") (fun xs H Q => ∃ i j, xs = [.int i, .int j] /\ Q (.int (if j > i then j else i)) H) := by
  intro pins s σ H xs us Q I r h
  obtain ⟨i, j, rfl, q⟩ := h
  obtain ⟨u, w', rfl, ⟨t, rfl⟩, ⟨t', rfl⟩⟩ := vals2 r
  refine max_two_ints (I.ok.hd hc) fun h' tk k => ⟨_, H, I.kept k, ?_, q⟩
  by_cases hj : j > i
  · rw [if_pos hj, if_pos hj]; exact ⟨_, rfl⟩
  · rw [if_neg hj, if_neg hj]; exact ⟨_, rfl⟩
end
open PySem PySem.Spec PyProof.Rows
structure ObjM (h : Heap) (x dx C : Addr) (mA : Str->Option Value) : Prop where
  obj : h.get? x = some (PySem.W.instObj C dx)
  ns : h.Ns1 dx mA
  ne : dx ≠ x
theorem lookIn_ns {h : Heap} {dx : Addr} {mA : Str->Option Value} (n : h.Ns1 dx mA) : ∃ od, h.get? dx = some od /\ ∀ name, PySem.W.lookIn name od = some (mA name) := by
  obtain ⟨o, es, ep, ho, hd, hk, _, hm⟩ := n
  refine ⟨o, ho, fun name => ?_⟩
  have e := hm name
  unfold nsFind findBy at e
  rw [← Array.find?_toList] at e
  unfold PySem.W.lookIn
  rw [hd]
  dsimp only
  split
  · rename_i y q
    rw [q] at e
    exact congrArg some e
  · rename_i q
    rw [q] at e
    have a : es.toList.any (·.refKey) = false := by
      rw [List.any_eq_false]
      intro y hy
      obtain ⟨z, t, hkey⟩ := hk y (Array.mem_toList_iff.mp hy)
      simp [DictEntry.refKey, hkey]
    have a' : ¬ es.toList.any (·.refKey) = true := by rw [a]; exact Bool.false_ne_true
    rw [if_neg a']
    exact congrArg some e
theorem ObjM.look {h : Heap} {x dx C : Addr} {mA : Str->Option Value} (I : ObjM h x dx C mA) : ∃ od, PySem.W.InstAt h x (PySem.W.instObj C dx) C (some od) /\ ∀ name, PySem.W.lookIn name od = some (mA name) :=
  let ⟨od, ho, hl⟩ := lookIn_ns I.ns
  ⟨od, ⟨I.obj, rfl, rfl, ho⟩, hl⟩
section
variable {prog : Program} {w : World} {A : Around} {E : Value->Shared->Prop} {s : Shared} {K : PySem.W.Frag} {x dx C f : Addr} {mA : Str->Option Value} {name : Str} {v : Value}
theorem get_map {expr : Bool} {Q : Value->Shared->Prop} (X : K.In s.heap) (I : ObjM s.heap x dx C mA) (hg : PySem.W.plainGet K C name = true) (hh : PySem.W.hasDictIn K C = true)
    (ha : PySem.W.findIn K (.ref C) name = some none) (hv : mA name = some v) (hv' : PySem.W.handedIn v = true) (h : Q v { s with toks := s.toks + 1 }) :
    wpAny (model prog w) A (getAttr (.ref x) name expr) Q E s := by
  obtain ⟨od, J, hl⟩ := I.look
  exact PySem.W.get_value X J (PySem.W.plainGet_of hg).1 (PySem.W.findObj_own hh ha rfl (by rw [hl, hv])) hv' h
theorem get_meth {pl : Sem Bool} {Q : Value × List Value->Shared->Prop} (X : K.In s.heap) (I : ObjM s.heap x dx C mA) (hg : PySem.W.plainGet K C name = true)
    (hf : PySem.W.findIn K (.ref C) name = some (some (.ref f))) (ht : PySem.W.isFn K (.ref f) = true) (hv : mA name = none) (h : Q (.ref f, [.ref x]) s) :
    wpAny (model prog w) A (getMethod (.ref x) name pl) Q E s := by
  obtain ⟨od, J, hl⟩ := I.look
  exact PySem.W.method_fn X J (PySem.W.plainGet_of hg).1 (PySem.W.plainGet_of hg).2 hf (beq_iff_eq.mp ht) (by show (PySem.W.lookIn name od).map (·.isSome) = some false; rw [hl, hv]; rfl) h
theorem set_map {ns : List Str} {Q : Unit->Shared->Prop} (X : K.In s.heap) (I : ObjM s.heap x dx C mA)
    (hs : PySem.W.findIn K (.ref C) "__setattr__" = some (some (.builtin "object.__setattr__"))) (hp : PySem.W.plainOver K C = true) (ht : PySem.W.takerIn K C name = some none) (hh : PySem.W.hasDictIn K C = true)
    (hw : PySem.Within mA ns) (hsz : ns.length ≤ sizeLine)
    (h : ∀ h', ObjM h' x dx C (fun y => if y = name then some v else mA y)->Heap.SameBut dx s.heap h'->Q () { s with heap := h', toks := s.toks + 2 }) :
    wpAny (model prog w) A (setAttr (.ref x) name v) Q E s := by
  obtain ⟨od, J, hl⟩ := I.look
  refine PySem.W.set_plain X J hs (PySem.W.osa_open (s := { s with toks := s.toks + 1 }) (r := none) X J hp ht fun b => ?_)
  obtain ⟨cd, hc, hd'⟩ := PySem.W.any_some hh
  have hx : s.heap.get? x = some ⟨.ref C, some dx, .plain, #[]⟩ := I.obj
  refine wpAny_bind (wpAny_pure (wpAny_bind (wpAny_bind (wpAny_loadPart hx (wpAny_bind (PySem.W.Looks.here (s := { s with toks := s.toks + 1 }) (PySem.W.looks_clsIn X hc) ?_))))))
  rw [hd']
  refine wpAny_pure (a := some dx) (wpAny_bind (wpAny_pure (wpAny_bind ?_)))
  refine wpAny_nsSet1 (s := { s with toks := s.toks + 1 }) I.ns fun h' hn2 hs2 => ?_
  obtain ⟨oD, esD, epD, hoD, hdD, hcD⟩ := hn2.count (PySem.Within.cons name v hw)
  refine wpAny_bind (wpAny_lookBehind hoD (by rw [hdD]; exact pastItsLine_dict (Nat.le_trans hcD (by rw [List.length_cons]; omega))) ?_)
  exact wpAny_pure (h _ ⟨(hs2.2 _ (Ne.symm I.ne)).trans I.obj, hn2, I.ne⟩ hs2)
theorem make_map {R : Result->Shared->Prop} {vs : List Value} {kw : List (Str × Value)} (X : K.In s.heap) (hm : PySem.W.makesIn K C = true)
    (hi : PySem.W.findIn K (.ref C) "__init__" = some (some (.ref f))) (hf : PySem.W.typeIn K (.ref f) = some (.type "function"))
    (h : codeAny (model prog w) (A.under (.builtin "type.__call__" ⟨.ref C :: vs, kw⟩)) (.call (.ref f) ⟨.ref (s.heap.objs.size + 1) :: vs, kw⟩) (PySem.W.InitBack (s.heap.objs.size + 1) R)
      { s with heap := (s.heap.push PySem.W.emptyDict).push (PySem.W.instObj C s.heap.objs.size) }) :
    codeAny (model prog w) A (.call (.ref C) ⟨vs, kw⟩) R s := by
  obtain ⟨hh, g, d, t, os⟩ := s
  exact PySem.W.make_core (PySem.W.makes_of X hm) (PySem.W.looks_findIn X hi) (fun self => PySem.W.bind_fn X self hf) (.inl rfl) h
end
def putF (f : Str) (v : V) : List (Str × V)->List (Str × V)
  | [] => [(f, v)]
  | (g, x) :: r => if g = f then (g, v) :: r else (g, x) :: putF f v r
theorem lookup_putF (f g : Str) (v : V) : ∀ fs : List (Str × V), (putF f v fs).lookup g = if g = f then some v else fs.lookup g
  | [] => by
    show List.lookup g [(f, v)] = _
    by_cases h : g = f
    · have hb : (g == f) = true := beq_iff_eq.mpr h
      simp only [List.lookup, hb, if_pos h]
    · have hb : (g == f) = false := beq_eq_false_iff_ne.mpr h
      simp only [List.lookup, hb, if_neg h]
  | (k, x) :: r => by
    have ih := lookup_putF f g v r
    rw [show putF f v ((k, x) :: r) = (if k = f then (k, v) :: r else (k, x) :: putF f v r) from rfl]
    by_cases hk : k = f
    · rw [if_pos hk]
      by_cases h : g = k
      · have hb : (g == k) = true := beq_iff_eq.mpr h
        simp only [List.lookup, hb, if_pos (h.trans hk)]
      · have hb : (g == k) = false := beq_eq_false_iff_ne.mpr h
        simp only [List.lookup, hb, if_neg (fun e : g = f => h (e.trans hk.symm))]
    · rw [if_neg hk]
      by_cases h : g = k
      · have hb : (g == k) = true := beq_iff_eq.mpr h
        simp only [List.lookup, hb, if_neg (fun e : g = f => hk (h.symm.trans e))]
      · have hb : (g == k) = false := beq_eq_false_iff_ne.mpr h
        simp only [List.lookup, hb]
        exact ih
theorem keys_putF (f : Str) (v : V) : ∀ fs : List (Str × V), f ∈ (putF f v fs).map (·.1) /\ ∀ g, g ∈ fs.map (·.1)->g ∈ (putF f v fs).map (·.1)
  | [] => ⟨by simp [putF], fun g h => by simp at h⟩
  | (k, x) :: r => by
    obtain ⟨i1, i2⟩ := keys_putF f v r
    rw [show putF f v ((k, x) :: r) = (if k = f then (k, v) :: r else (k, x) :: putF f v r) from rfl]
    by_cases hk : k = f
    · rw [if_pos hk]
      subst hk
      exact ⟨by simp, fun g h => by simpa using h⟩
    · rw [if_neg hk]
      refine ⟨?_, fun g h => ?_⟩
      · rw [List.map_cons]
        exact List.mem_cons_of_mem _ i1
      · rw [List.map_cons] at h ⊢
        rcases List.mem_cons.mp h with e | e
        · exact List.mem_cons.mpr (.inl e)
        · exact List.mem_cons_of_mem _ (i2 g e)
theorem length_putF (f : Str) (v : V) : ∀ fs : List (Str × V), (putF f v fs).length ≤ fs.length + 1
  | [] => by simp [putF]
  | (k, x) :: r => by
    have ih := length_putF f v r
    rw [show putF f v ((k, x) :: r) = (if k = f then (k, v) :: r else (k, x) :: putF f v r) from rfl]
    by_cases hk : k = f
    · rw [if_pos hk, List.length_cons, List.length_cons]; omega
    · rw [if_neg hk, List.length_cons, List.length_cons]; omega
theorem RelO.some_of {v : V} {o : Option Value} (r : RelO (some v) o) : ∃ u, o = some u /\ RelV v u := by
  cases o with
  | none => exact (show False from r).elim
  | some u => exact ⟨u, rfl, r⟩
theorem RelO.none_of {o : Option Value} (r : RelO none o) : o = none := by
  cases o with
  | none => rfl
  | some u => exact (show False from r).elim
theorem handed_of {v : V} {u : Value} (r : RelV v u) : PySem.W.handedIn u = true := by
  cases v with
  | non => cases (show u = Value.none from r); rfl
  | bl b => cases (show u = Value.bool b from r); rfl
  | int i => obtain ⟨t, e⟩ := (show ∃ t, u = Value.int i t from r); cases e; rfl
  | str x => obtain ⟨t, e⟩ := (show ∃ t, u = Value.str x t from r); cases e; rfl
  | byt b => obtain ⟨t, e⟩ := (show ∃ t, u = Value.bytes b t from r); cases e; rfl
  | flt b => obtain ⟨t, e⟩ := (show ∃ t, u = Value.float b t from r); cases e; rfl
  | ref a => cases (show u = Value.ref a from r); rfl
  | ty n => cases (show u = Value.type n from r); rfl
section
variable {P : Program} {w : World} {H H' : Hp} {h h' : Heap} {a C dx : Addr} {fs fs' : List (Str × V)}
theorem ins_get (hok : HOk P w H h) (e : H a = some (.ins C dx fs)) : ∃ mA, ObjM h a dx C mA /\ (∀ f, RelO (fs.lookup f) (mA f)) /\ PySem.Within mA (fs.map (·.1)) /\ fs.length ≤ 1000 /\ H dx = some (.own a) := by
  obtain ⟨d, z, ne, ob, mA, n, r, q⟩ := (show ObjOk P w H h a (.ins C dx fs) from hok a _ e)
  exact ⟨mA, ⟨ob, n, ne⟩, r, q, z, d⟩
end
structure Cls (K : PySem.W.Frag) (C : Addr) : Prop where
  pg : PySem.W.plainGet K C Str.empty = true
  hd : PySem.W.hasDictIn K C = true
  po : PySem.W.plainOver K C = true
  sa : PySem.W.findIn K (.ref C) "__setattr__" = some (some (.builtin "object.__setattr__"))
theorem Cls.get {K : PySem.W.Frag} {C : Addr} (c : Cls K C) (f : Str) : PySem.W.plainGet K C f = true := c.pg
def NoAttr (K : PySem.W.Frag) (C : Addr) (f : Str) : Prop := PySem.W.findIn K (.ref C) f = some none
theorem NoAttr.taker {K : PySem.W.Frag} {C : Addr} {f : Str} (n : NoAttr K C f) : PySem.W.takerIn K C f = some none := by
  unfold PySem.W.takerIn
  rw [show PySem.W.findIn K (.ref C) f = some none from n]
  rfl
structure Meth (K : PySem.W.Frag) (C : Addr) (m : Str) (f : Addr) : Prop where
  at_ : PySem.W.findIn K (.ref C) m = some (some (.ref f))
  fn : PySem.W.isFn K (.ref f) = true
  kp : PySem.W.keepIn K (.ref f) = true
section
variable {X : Cx} {pins : List (Addr × Obj)} {σ : St} {H : Hp} {s : Shared} {a C dx : Addr} {fs : List (Str × V)} {f : Str} {v : V} {A : Around} {E : Value->Shared->Prop}
theorem getattr_ok {b : Bool} {Q : Value->Shared->Prop} (I : Inv X pins σ H s) (e : H a = some (.ins C dx fs)) (c : Cls X.K C) (n : NoAttr X.K C f) (l : fs.lookup f = some v)
    (h : ∀ u s', Inv X pins σ H s'->RelV v u->Q u s') : wpAny (model X.prog X.w) A (getAttr (.ref a) f b) Q E s := by
  obtain ⟨mA, O, r, _, _, _⟩ := ins_get I.hok e
  obtain ⟨u, hu, ru⟩ := RelO.some_of (v := v) (o := mA f) (by rw [← l]; exact r f)
  exact get_map I.kIn O (c.get f) c.hd n hu (handed_of ru) (h u _ (I.tok _) ru)
theorem getmeth_ok {m : Str} {g : Addr} {pl : Sem Bool} {Q : Value × List Value->Shared->Prop} (I : Inv X pins σ H s) (e : H a = some (.ins C dx fs)) (c : Cls X.K C) (k : Meth X.K C m g) (l : fs.lookup m = none)
    (h : Q (.ref g, [.ref a]) s) : wpAny (model X.prog X.w) A (getMethod (.ref a) m pl) Q E s := by
  obtain ⟨mA, O, r, _, _, _⟩ := ins_get I.hok e
  have hn : mA m = none := RelO.none_of (by rw [← l]; exact r m)
  exact get_meth I.kIn O (c.get m) k.at_ k.fn hn h
theorem setattr_ok {y : V} {u : Value} {Q : Unit->Shared->Prop} (I : Inv X pins σ H s) (e : H a = some (.ins C dx fs)) (c : Cls X.K C) (n : NoAttr X.K C f) (hl : fs.length < 1000) (ry : RelV y u)
    (h : ∀ s', Inv X pins σ (upd H a (.ins C dx (putF f y fs))) s'->Q () s') : wpAny (model X.prog X.w) A (setAttr (.ref a) f u) Q E s := by
  obtain ⟨mA, O, r, wi, _, ho⟩ := ins_get I.hok e
  have hz : (fs.map (·.1)).length ≤ sizeLine := by rw [List.length_map, sizeLine_eq]; omega
  refine set_map I.kIn O c.sa c.po n.taker c.hd wi hz fun h' O' sb => h _ ?_
  have hd : ∃ o, h'.get? dx = some o := let ⟨o, _, _, e', _⟩ := O'.ns; ⟨o, e'⟩
  refine I.write (x := a) (e := dx) (by rw [e]; exact True.intro) (.inr ho) (fun b q hb z => (sb.2 b hb).trans z) hd ?_
  refine ⟨by rw [upd_ne O.ne]; exact ho, ?_, O.ne, O'.obj, _, O'.ns, fun g => ?_, fun g hg => ?_⟩
  · have := length_putF f y fs; omega
  · show RelO ((putF f y fs).lookup g) (if g = f then some u else mA g)
    rw [lookup_putF]
    by_cases q : g = f
    · rw [if_pos q, if_pos q]; exact ry
    · rw [if_neg q, if_neg q]; exact r g
  · by_cases q : g = f
    · rw [q]; exact (keys_putF f y fs).1
    · refine (keys_putF f y fs).2 g (wi g fun z => hg ?_)
      show (if g = f then some u else mA g) = none
      rw [if_neg q]; exact z
theorem Inv.made (I : Inv X pins σ H s) : Inv X pins σ (upd (upd H s.heap.objs.size (.own (s.heap.objs.size + 1))) (s.heap.objs.size + 1) (.ins C s.heap.objs.size []))
    { s with heap := (s.heap.push PySem.W.emptyDict).push (PySem.W.instObj C s.heap.objs.size) } := by
  have e1 : (s.heap.push PySem.W.emptyDict).get? s.heap.objs.size = some PySem.W.emptyDict := Heap.get?_push_size s.heap rfl
  have e2 : ((s.heap.push PySem.W.emptyDict).push (PySem.W.instObj C s.heap.objs.size)).get? (s.heap.objs.size + 1) = some (PySem.W.instObj C s.heap.objs.size) := by
    have := Heap.get?_push_size (s.heap.push PySem.W.emptyDict) (o := PySem.W.instObj C s.heap.objs.size) rfl
    rwa [Heap.size_push] at this
  have e3 : (s.heap.push PySem.W.emptyDict).Ns s.heap.objs.size (fun _ => none) := ⟨PySem.W.emptyDict, #[], _, e1, rfl, (fun e he => absurd he (by simp)), fun _ => rfl⟩
  have I1 := I.laid (a := s.heap.objs.size) (o := .own (s.heap.objs.size + 1)) (h' := s.heap.push PySem.W.emptyDict) (t' := s.toks) (fun b u q => Heap.get?_push_of_some _ q) (Nat.le_refl _) ⟨_, e1⟩
  refine I1.laid (a := s.heap.objs.size + 1) (o := .ins C s.heap.objs.size []) (t' := s.toks) (fun b u q => Heap.get?_push_of_some _ q) (Nat.le_of_eq (Heap.size_push _ _)) ?_
  have ne : s.heap.objs.size ≠ s.heap.objs.size + 1 := Nat.ne_of_lt (Nat.lt_succ_self _)
  refine ⟨by rw [upd_ne ne, upd_same], Nat.zero_le _, ne, e2, fun _ => none, (Heap.Ns1.of_empty e3).at fun o q => Heap.get?_push_of_some _ q, fun _ => True.intro, fun y hy => absurd rfl hy⟩
theorem attr_of {prog : Program} {w : World} {env : Env} {e : Expr} {f : Str} {pos : Pos} {s : Shared} {Q : Value->Shared->Prop} (hb : attributeBase e f env (eval e env) = eval e env)
    (h : wpAny (model prog w) A (eval e env) (fun o s₁ => wpAny (model prog w) A (getAttr o f true) Q E s₁) E s) : wpAny (model prog w) A (eval (.Attribute e f pos) env) Q E s :=
  Attribute_any_ h (by rw [arm_eval_Attribute, hb])
end
def tFld (K : PySem.W.Frag) (ta : TE) (f : Str) : TE := fun σ H Q => ta σ H fun x H1 => ∃ a C dx fs v, x = .ref a /\ H1 a = some (.ins C dx fs) /\ Cls K C /\ NoAttr K C f /\ fs.lookup f = some v /\ Q v H1
def sFld (K : PySem.W.Frag) (ta tv : TE) (f : Str) : TS := fun D σ H => tv σ H fun y H1 => ta σ H1 fun x H2 => ∃ a C dx fs, x = .ref a /\ H2 a = some (.ins C dx fs) /\ Cls K C /\ NoAttr K C f /\ fs.length < 1000 ∧
  D.nx σ (upd H2 a (.ins C dx (putF f y fs)))
section
variable {X : Cx} {o e value : Expr} {f : Str} {pos pos' tpos : Pos} {ta tv : TE}
theorem pe_fld (he : PE X e ta) (hb : attributeBase e f X.env (eval e X.env) = eval e X.env) : PE X (.Attribute e f pos) (tFld X.K ta f) := by
  intro pins s σ H Q I h
  refine attr_of hb (thn (he pins s σ H _ I h) fun u s1 ⟨x, H1, I1, rx, a, C, dx, fs, v, ex, ea, c, n, l, q⟩ => ?_)
  subst ex
  obtain rfl : u = Value.ref a := rx
  exact getattr_ok I1 ea c n l fun u' s2 I2 ru => ⟨v, H1, I2, ru, q⟩
theorem ps_fld (ha : PE X o ta) (hv : PE X value tv) (hs : swapsWith value (some (.Attribute o f pos')) pos.line X.env = pure false) : PS X (.Assign [.Attribute o f pos'] value pos) (sFld X.K ta tv f) := by
  intro pins s σ H D I h
  refine plainObj_wpAny_Assign_Attribute (thn (hv pins s σ H _ I h) fun u s1 ⟨y, H1, I1, ry, q⟩ => thn (ha pins s1 σ H1 _ I1 q) fun ov s2 ⟨x, H2, I2, rx, a, C, dx, fs, ex, ea, c, n, l, q2⟩ => ?_) hs
  subst ex
  obtain rfl : ov = Value.ref a := rx
  exact setattr_ok I2 ea c n l ry fun s3 I3 => ⟨σ, _, I3, q2⟩
end
section
variable {X : Cx} {pins : List (Addr × Obj)} {σ : St} {H : Hp} {s : Shared} {A : Around} {E : Value->Shared->Prop} {Q : Value->Shared->Prop} {c : Value} {b : Bool}
inductive TyOf (K : PySem.W.Frag) (H : Hp) : V->Value->Prop where
  | non : TyOf K H .non (.type "NoneType")
  | bl (x : Bool) : TyOf K H (.bl x) (.type "bool")
  | int (i : Int) : TyOf K H (.int i) (.type "int")
  | str (x : Str) : TyOf K H (.str x) (.type "str")
  | flt (x : UInt64) : TyOf K H (.flt x) (.type "float")
  | lst {a : Addr} {xs : List V} (e : H a = some (.lst xs)) : TyOf K H (.ref a) (.type "list")
  | frz {a : Addr} {o : Obj} {xs : List V} (e : H a = some (.frz o (.lst xs))) : TyOf K H (.ref a) (.type "list")
  | tup {a : Addr} {xs : List V} (e : H a = some (.tup xs)) : TyOf K H (.ref a) (.type "tuple")
  | dK {a : Addr} {kvs : List (Key × V)} (e : H a = some (.dK kvs)) : TyOf K H (.ref a) (.type "dict")
  | dT {a : Addr} {kvs : List (List Key × V)} (e : H a = some (.dT kvs)) : TyOf K H (.ref a) (.type "dict")
  | ins {a C dx : Addr} {fs : List (Str × V)} (e : H a = some (.ins C dx fs)) (cl : Cls K C) (ha : PySem.W.findIn K (.ref C) "__class__" = some (some (.builtin "object.__class__")))
      (hn : PySem.W.specialIn K (.builtin "object.__class__") "__get__" = some (some (.builtin "getset_descriptor.__get__"))) (htk : PySem.W.takesIn K (.builtin "object.__class__") = some true)
      (hm : PySem.W.mroIn K C (.type "object") = some true) : TyOf K H (.ref a) (.ref C)
theorem isinst_ok {x : V} {u t : Value} (I : Inv X pins σ H s) (rx : RelV x u) (ty : TyOf X.K H x t) (e : PySem.W.kitOne X.K t c = some b) (h : ∀ tk, Q (.bool b) { s with toks := tk }) :
    wpAny (model X.prog X.w) A (call (.builtin "isinstance") [u, c]) Q E s := by
  cases ty with
  | non => cases (show u = Value.none from rx); exact PySem.W.kia_one PySem.W.kitx_none I.kIn True.intro e (fun z => nomatch z) h
  | bl y => cases (show u = Value.bool y from rx); exact PySem.W.kia_one PySem.W.kitx_bool I.kIn True.intro e (fun z => nomatch z) h
  | int i => obtain ⟨t, q⟩ := (show ∃ t, u = Value.int i t from rx); cases q; exact PySem.W.kia_one PySem.W.kitx_int I.kIn True.intro e (fun z => nomatch z) h
  | str y => obtain ⟨t, q⟩ := (show ∃ t, u = Value.str y t from rx); cases q; exact PySem.W.kia_one PySem.W.kitx_str I.kIn True.intro e (fun z => nomatch z) h
  | flt y => obtain ⟨t, q⟩ := (show ∃ t, u = Value.float y t from rx); cases q; exact PySem.W.kia_one PySem.W.kitx_float I.kIn True.intro e (fun z => nomatch z) h
  | @lst a xs ea =>
    cases (show u = Value.ref a from rx)
    obtain ⟨_, _, n, _, h1⟩ := (show ObjOk X.prog X.w H s.heap a (.lst xs) from I.hok a _ ea)
    exact PySem.W.kia_one PySem.W.kitx_list I.kIn ⟨_, h1, rfl⟩ e (fun z => nomatch z) h
  | @frz a ob xs ea =>
    cases (show u = Value.ref a from rx)
    obtain ⟨_, _, _, n, _, h1⟩ := (show ObjOk X.prog X.w H s.heap a (.frz ob (.lst xs)) from I.hok a _ ea)
    exact PySem.W.kia_one PySem.W.kitx_list I.kIn ⟨_, h1, rfl⟩ e (fun z => nomatch z) h
  | @tup a xs ea =>
    cases (show u = Value.ref a from rx)
    obtain ⟨_, _, _, p⟩ := (show ObjOk X.prog X.w H s.heap a (.tup xs) from I.hok a _ ea)
    obtain ⟨o, h1, h2, _⟩ := p
    exact PySem.W.kia_one PySem.W.kitx_tuple I.kIn ⟨o, h1, h2⟩ e (fun z => nomatch z) h
  | @dK a kvs ea =>
    cases (show u = Value.ref a from rx)
    obtain ⟨_, _, vs, _, p⟩ := (show ObjOk X.prog X.w H s.heap a (.dK kvs) from I.hok a _ ea)
    obtain ⟨o, es, ep, h1, h2, _⟩ := p
    exact PySem.W.kia_one PySem.W.kitx_dict I.kIn ⟨o, h1, h2.1⟩ e (fun z => nomatch z) h
  | @dT a kvs ea =>
    cases (show u = Value.ref a from rx)
    obtain ⟨_, _, xs, _, o, es, ep, h1, h2, _⟩ := (show ObjOk X.prog X.w H s.heap a (.dT kvs) from I.hok a _ ea)
    exact PySem.W.kia_one PySem.W.kitx_dict I.kIn ⟨o, h1, h2.1⟩ e (fun z => nomatch z) h
  | @ins a C dx fs ea cl ha hn htk hm =>
    cases (show u = Value.ref a from rx)
    obtain ⟨mA, O, _⟩ := ins_get I.hok ea
    obtain ⟨od, J, _⟩ := O.look
    exact PySem.W.kia_one (PySem.W.kitx_own (cl.get _) cl.hd ha hn htk hm) I.kIn J e (fun z => nomatch z) h
end
open PySem PySem.Spec PyProof.Rows
structure Room (k : Nat) (A : Around) : Prop where
  hd : A.handled = none
  dp : A.depth + 3 * k + 5 < recursionLimit
  un : A.units + 16 * k + 200 < cLine
theorem Room.mono {j k : Nat} {A : Around} (r : Room k A) (h : j ≤ k) : Room j A := ⟨r.hd, by have := r.dp; omega, by have := r.un; omega⟩
theorem Room.deeper {k : Nat} {A : Around} (r : Room (k + 1) A) (env : Env) : Room k (A.deeper env) :=
  ⟨r.hd, by have := r.dp; show A.depth + 1 + 3 * k + 5 < _; omega, by have := r.un; show A.units + 3 + 16 * k + 200 < _; omega⟩
theorem make_depth {A : Around} {C : Addr} {us : List Value} {kw : List (Str × Value)} : (A.under (.builtin "type.__call__" ⟨.ref C :: us, kw⟩)).depth = A.depth + 1 := by
  first | rfl | simp [Around.under, Code.weight, Code.isCreation, Code.isGuard, Code.isCaller, Code.frames, Code.isFrame, guardIds]
theorem make_units {A : Around} {C : Addr} {us : List Value} {kw : List (Str × Value)} : (A.under (.builtin "type.__call__" ⟨.ref C :: us, kw⟩)).units = A.units + 1 := by
  first | rfl | simp [Around.under, Code.cUnits, Code.frames, Code.isFrame]
theorem Room.make {k : Nat} {A : Around} (r : Room (k + 1) A) (C : Addr) (us : List Value) (kw : List (Str × Value)) : Room k (A.under (.builtin "type.__call__" ⟨.ref C :: us, kw⟩)) :=
  ⟨r.hd, by have := r.dp; rw [make_depth]; omega, by have := r.un; rw [make_units]; omega⟩
theorem Room.depth {k : Nat} {A : Around} (r : Room k A) : A.depth < recursionLimit := by have := r.dp; omega
theorem Room.units {k : Nat} {A : Around} (r : Room k A) : A.units + 64 < cLine := by have := r.un; omega
def tNil : TA := fun _ H Q => Q [] H
def tCons (ta : TE) (tr : TA) : TA := fun σ H Q => ta σ H fun x H1 => tr σ H1 fun xs H2 => Q (x :: xs) H2
section
variable {X : Cx} {e : Expr} {es : List Expr} {te : TE} {t : TA} {pos : Pos}
theorem pa_nil : PA X [] tNil := fun _ _ _ _ H Q I h => Calls.spliced_nil ⟨[], H, I, .nil, h⟩
theorem pa_cons (ha : PE X e te) (hr : PA X es t) (hs : starEach (e :: es) X.env = (false, eval e X.env) :: starEach es X.env := by rfl) : PA X (e :: es) (tCons te t) := by
  intro pos pins s σ H Q I h
  rw [hs]
  show wpAny _ _ (spliced ((false, eval e X.env) :: backTo pos (starEach es X.env))) _ _ s
  refine Calls.spliced_cons (thn (ha pins s σ H _ I h) fun u s1 ⟨x, H1, I1, r1, q1⟩ => ?_)
  exact thn (hr pos pins s1 σ H1 _ I1 q1) fun us s2 ⟨xs, H2, I2, r2, q2⟩ => ⟨x :: xs, H2, I2, .cons r1 r2, q2⟩
def tTup (t : TA) : TE := fun σ H Q => t σ H fun xs H1 => xs.length ≤ sizeLine /\ ∀ p, H1 p = none->Q (.ref p) (upd H1 p (.tup xs))
def tLst (t : TA) : TE := fun σ H Q => t σ H fun xs H1 => xs.length ≤ sizeLine /\ ∀ p, H1 p = none->Q (.ref p) (upd H1 p (.lst xs))
theorem pe_tup {x1} (h : PA X es t) : PE X (.Tuple es x1 pos) (tTup t) := by
  intro pins s σ H Q I hq
  refine wpAny_Tuple_spliced (thn (h pos pins s σ H _ I hq) fun us s1 ⟨xs, H1, I1, r, z, q⟩ => ⟨by rw [← r.length]; exact z, ?_⟩)
  have hf : H1 s1.heap.objs.size = none := I1.hok.fresh (Nat.le_refl _)
  refine ⟨.ref s1.heap.objs.size, upd H1 s1.heap.objs.size (.tup xs), I1.laid (t' := s1.toks) (fun b u e => Heap.get?_push_of_some _ e) (Nat.le_refl _) ?_, rfl, q _ hf⟩
  exact ⟨z, us, r, ⟨_, Heap.get?_push_size _ rfl, rfl, _, rfl⟩⟩
theorem pe_lst (h : PA X es t) : PE X (.List es pos) (tLst t) := by
  intro pins s σ H Q I hq
  refine wpAny_List_spliced (thn (h pos pins s σ H _ I hq) fun us s1 ⟨xs, H1, I1, r, z, q⟩ => ⟨by rw [← r.length]; exact z, ?_⟩)
  have hf : H1 s1.heap.objs.size = none := I1.hok.fresh (Nat.le_refl _)
  refine ⟨.ref s1.heap.objs.size, upd H1 s1.heap.objs.size (.lst xs), I1.laid (t' := s1.toks) (fun b u e => Heap.get?_push_of_some _ e) (Nat.le_refl _) ?_, rfl, q _ hf⟩
  exact ⟨z, us, 0, r, Heap.get?_push_size _ rfl⟩
end
abbrev Sp := List V->Hp->VK->XK->Prop
abbrev CXT := List Env->Hp->Shared->XK->Value->Shared->Prop
structure Env0 (P : Program) (w : World) (K : PySem.W.Frag) (mg : Str->Option Value) (base : Heap) (A : Around) (outer : List Env) (s : Shared) (H : Hp) : Prop where
  frames : A.frames = some outer
  mod : Mod K mg base
  bs : ∀ b o, base.get? b = some o->s.heap.get? b = some o /\ H b = none
  bsz : base.objs.size ≤ s.heap.objs.size
  funs : s.heap.FunFrames base outer
  frf : ∀ b ∈ frs outer, H b = none
  hok : HOk P w H s.heap
  bare : AllBare s.gens
def CE (outer : List Env) (P : Program) (w : World) (H : Hp) (s : Shared) (Q : VK) (u : Value) (s' : Shared) : Prop :=
  ∃ v H', s'.os = s.os /\ AllBare s'.gens /\ Un (frs outer) [] H H' s.heap s'.heap /\ HOk P w H' s'.heap /\ RelV v u /\ Q v H'
def CR (CX : CXT) (outer : List Env) (P : Program) (w : World) (H : Hp) (s : Shared) (Q : VK) (E : XK) (r : Result) (s' : Shared) : Prop :=
  match r with
  | .ok (.ret u) => CE outer P w H s Q u s'
  | .ok _ => False
  | .error e => CX outer H s E e s'
structure FnOk (P : Program) (w : World) (K : PySem.W.Frag) (mg : Str->Option Value) (base : Heap) (CX : CXT) (k : Nat) (f : Addr) (fd : FuncData) (ps : List Str) (sp : Sp) : Prop where
  len : ∀ vs H Q E, sp vs H Q E->vs.length = ps.length
  run : ∀ (A : Around) (outer : List Env) (s : Shared) (H : Hp) (args : Args) (us : List Value) (vs : List V) (Q : VK) (E : XK), Room k A->Env0 P w K mg base A outer s H->BindsTo s fd args (ps.zip us)->Vals vs us->sp vs H Q E →
    codeAny (model P w) A (.call (.ref f) args) (CR CX outer P w H s Q E) s
theorem Env0.make {P : Program} {w : World} {K : PySem.W.Frag} {mg : Str->Option Value} {base : Heap} {A : Around} {outer : List Env} {s : Shared} {H : Hp} (e : Env0 P w K mg base A outer s H) (C : Addr) (us : List Value) (kw : List (Str × Value)) :
    Env0 P w K mg base (A.under (.builtin "type.__call__" ⟨.ref C :: us, kw⟩)) outer s H := ⟨by first | exact e.frames | (simpa [Around.under, Code.envs, Code.isFrame, pushEnvs] using e.frames), e.mod, e.bs, e.bsz, e.funs, e.frf, e.hok, e.bare⟩
section
variable {X : Cx} {pins : List (Addr × Obj)} {σ : St} {H : Hp} {s s' : Shared}
theorem Inv.env0 (I : Inv X pins σ H s) : Env0 X.prog X.w X.K X.mg X.base X.A X.stack s H :=
  ⟨I.ok.frames, I.ok.mod, I.bs, Nat.le_trans I.ok.bsz I.sz, I.stack, I.stkFree, I.hok, I.bare⟩
theorem Inv.after {Q : VK} {u : Value} (I : Inv X pins σ H s) (h : CE X.stack X.prog X.w H s Q u s') : EP X pins σ Q u s' := by
  obtain ⟨v, H', os, bare, un, hok, r, q⟩ := h
  obtain ⟨hh, g, d, t, os'⟩ := s'
  obtain rfl : os' = s.os := os
  exact ⟨v, H', I.call (h' := hh) (g' := g) (d' := d) (t' := t) (ch := []) un hok bare (fun b z => absurd z (by simp)), r, q⟩
end
def Binds (K : PySem.W.Frag) (fd : FuncData) (ps : List Str) (ds : List Value) : Prop :=
  ∀ (s : Shared) (us : List Value), K.In s.heap->(us ++ ds).length = ps.length->BindsTo s fd ⟨us, []⟩ (ps.zip (us ++ ds))
theorem Binds.all {K : PySem.W.Frag} {fd : FuncData} {ps : List Str} (h : ∀ us : List Value, us.length = ps.length->bindArgs fd ⟨us, []⟩ = pure (ps.zip us)) : Binds K fd ps [] := fun s us _ hl => by
  rw [List.append_nil] at hl ⊢
  exact .of_eq (h us hl)
section
variable {X : Cx} {CX : CXT} {k : Nat} {f C : Addr} {fd : FuncData} {ps : List Str} {sp : Sp} {dvs : List V} {ds : List Value} {E : XK} {x m : Str} {p pos apos : Pos} {e o : Expr} {es : List Expr} {ta : TE} {t : TA}
structure Mk (K : PySem.W.Frag) (C f : Addr) : Prop where
  makes : PySem.W.makesIn K C = true
  init : PySem.W.findIn K (.ref C) "__init__" = some (some (.ref f))
  fn : PySem.W.isFn K (.ref f) = true
  kp : PySem.W.keepIn K (.ref C) = true
end
structure FnScope (N P : List Str) (sc : Scope) : Prop where
  kind : sc.kind = .function
  co : sc.isCoroutine = false
  gen : sc.isGenerator = false
  nd : N.Nodup
  pre : N.take P.length = P
  par : ∀ x ∈ P, sc.names.lookup x = some .local ∨ sc.names.lookup x = some .cell
  nofree : ∀ y ∈ sc.names, y.2 ≠ .free
theorem bindL_out {kindOf : Str->Option NameKind} {x : Str} : ∀ {binds : List (Str × Value)} {m : Str->Option Value}, (∀ v, (x, v) ∉ binds)->bindL kindOf binds m x = m x
  | [], _, _ => rfl
  | (n, v) :: r, m, h => by
    unfold bindL
    rw [bindL_out fun w hw => h w (List.mem_cons_of_mem _ hw)]
    split
    · have : x ≠ n := by rintro rfl; exact h v List.mem_cons_self
      simp [this]
    · rfl
theorem bindC_out {kindOf : Str->Option NameKind} {x : Str} : ∀ {binds : List (Str × Value)} {m : Str->Option Value}, (∀ v, (x, v) ∉ binds)->bindC kindOf binds m x = m x
  | [], _, _ => rfl
  | (n, v) :: r, m, h => by
    unfold bindC
    rw [bindC_out fun w hw => h w (List.mem_cons_of_mem _ hw)]
    split
    · rfl
    · have : x ≠ n := by rintro rfl; exact h v List.mem_cons_self
      simp [this]
theorem bindL_get {kindOf : Str->Option NameKind} {x : Str} {v : Value} : ∀ {P : List Str} {vs : List Value} {i : Nat} {m : Str->Option Value}, P.Nodup->P[i]? = some x->vs[i]? = some v->kindOf x = some .local →
    bindL kindOf (P.zip vs) m x = some v
  | [], _, _, _, _, h, _, _ => by simp at h
  | _ :: _, [], _, _, _, _, h, _ => by simp at h
  | p :: P, w :: vs, 0, m, nd, h1, h2, hk => by
    simp at h1 h2; subst h1; subst h2
    show bindL kindOf ((p, w) :: P.zip vs) m p = _
    unfold bindL
    rw [bindL_out fun v hv => (List.nodup_cons.mp nd).1 (List.of_mem_zip hv).1, if_pos hk]
    simp
  | p :: P, w :: vs, i + 1, m, nd, h1, h2, hk => by
    show bindL kindOf ((p, w) :: P.zip vs) m x = _
    unfold bindL
    exact bindL_get (i := i) (List.nodup_cons.mp nd).2 (by simpa using h1) (by simpa using h2) hk
theorem bindC_get {kindOf : Str->Option NameKind} {x : Str} {v : Value} : ∀ {P : List Str} {vs : List Value} {i : Nat} {m : Str->Option Value}, P.Nodup->P[i]? = some x->vs[i]? = some v->kindOf x ≠ some .local →
    bindC kindOf (P.zip vs) m x = some v
  | [], _, _, _, _, h, _, _ => by simp at h
  | _ :: _, [], _, _, _, _, h, _ => by simp at h
  | p :: P, w :: vs, 0, m, nd, h1, h2, hk => by
    simp at h1 h2; subst h1; subst h2
    show bindC kindOf ((p, w) :: P.zip vs) m p = _
    unfold bindC
    rw [bindC_out fun v hv => (List.nodup_cons.mp nd).1 (List.of_mem_zip hv).1, if_neg hk]
    simp
  | p :: P, w :: vs, i + 1, m, nd, h1, h2, hk => by
    show bindC kindOf ((p, w) :: P.zip vs) m x = _
    unfold bindC
    exact bindC_get (i := i) (List.nodup_cons.mp nd).2 (by simpa using h1) (by simpa using h2) hk
def start (N : List Str) (vs : List V) : St := vs.map some ++ List.replicate (N.length - vs.length) none
def cxOf (CX : CXT) (P : Program) (w : World) (K : PySem.W.Frag) (mg : Str->Option Value) (base : Heap) (N : List Str) (qual : Str) (scope : Scope) (f : Addr) (cd : Value) (A : Around) (outer : List Env) (s : Shared) (H : Hp) (E : XK) : Cx where
  prog := P
  w := w
  K := K
  mg := mg
  base := base
  A := A.deeper (envOfC qual scope s.heap.objs.size f cd)
  N := N
  s₀ := s
  H₀ := H
  env := envOfC qual scope s.heap.objs.size f cd
  outer := outer
  stack := envOfC qual scope s.heap.objs.size f cd :: outer
  ex := []
  calm := true
  fn := fun _ => true
  pn := []
  xe := fun e s' => wpAny (model P w) (A.deeper (envOfC qual scope s.heap.objs.size f cd)) (leaving (envOfC qual scope s.heap.objs.size f cd) e) (fun _ s'' => CX outer H s E e s'') (fun e' s'' => CX outer H s E e' s'') s'
theorem cell_has {sc : Scope} {n : Nat} {x : Str} (h : sc.names.lookup x = some .cell) : ∃ c, (cellsFrom n sc.names []).lookup x = some c := by
  have q := PySem.W.cellsFrom_some sc.names n [] (.inl h)
  exact Option.isSome_iff_exists.mp q
theorem inv_start {CX : CXT} {P : Program} {w : World} {K : PySem.W.Frag} {mg : Str->Option Value} {base : Heap} {N ps : List Str} {qual : Str} {scope : Scope} {f : Addr} {cd : Value} {A : Around} {outer : List Env} {s s1 : Shared} {H : Hp} {E : XK} {us : List Value} {vs : List V}
    (S : FnScope N ps scope) (hd : A.handled = none) (e0 : Env0 P w K mg base A outer s H) (hl : vs.length = ps.length) (r : Vals vs us)
    (x : InCallC s s.heap.objs.size (bindL (envOfC qual scope s.heap.objs.size f cd).kindOf (ps.zip us) fun _ => none) (cellsFrom (s.heap.objs.size + 1) scope.names []) (bindC (envOfC qual scope s.heap.objs.size f cd).kindOf (ps.zip us) fun _ => none) s1) :
    Inv (cxOf CX P w K mg base N qual scope f cd A outer s H E) [] (start N vs) H s1 := by
  have hpl : ps.length ≤ N.length := by have := congrArg List.length S.pre; rw [List.length_take] at this; omega
  obtain ⟨h1, tk, rfl, hk⟩ := x.done
  have noA : ∀ b : Addr, b ∉ (cxOf CX P w K mg base N qual scope f cd A outer s H E).ex := fun b z => absurd (show b ∈ ([] : List Addr) from z) (by simp)
  refine ⟨⟨e0.mod, S.kind, rfl, rfl, Nat.le_refl _, fun y z c h1 h2 => ?_, fun y hy => ?_, fun y c _ h => ?_, fun _ => hd, Around.frames_deeper e0.frames, .inr ⟨rfl, rfl⟩, fun b z => absurd z (noA b), e0.bs, e0.bsz, fun b _ _ => noA b, fun b z => absurd z (noA b), e0.funs, e0.frf⟩,
    rfl, e0.bare, Un.kept hk, ⟨_, x.toInCall.ns, fun i y v h1 h2 h3 => ?_⟩, fun y c h => ⟨_, x.cell y c h⟩, e0.hok.fresh (Nat.le_refl _), fun y c h => ?_, fun p hp => absurd (show p ∈ ([] : List (Addr × Obj)) from hp) (by simp), e0.hok.kept hk, ?_⟩
  · exact name_of_addr x.apart (PySem.mem_of_lookup h1) (PySem.mem_of_lookup h2)
  · have hy : scope.names.lookup y = some .cell ∨ scope.names.lookup y = some .free := hy
    rcases hy with hy | hy
    · exact cell_has hy
    · exact absurd rfl (S.nofree _ (PySem.mem_of_lookup hy))
  · exact Nat.le_of_lt (x.above y c (PySem.mem_of_lookup h))
  · have hi : i < vs.length := by
      unfold start at h2
      by_cases hi : i < vs.length
      · exact hi
      · rw [List.getElem?_append_right (by simpa using hi)] at h2
        rw [List.getElem?_replicate] at h2
        split at h2 <;> cases h2
    have ha : vs[i]? = some v := by
      unfold start at h2
      rw [List.getElem?_append_left (by simpa using hi), List.getElem?_map] at h2
      cases e : vs[i]? with
      | none => rw [e] at h2; cases h2
      | some a => rw [e] at h2; cases h2; rfl
    obtain ⟨u, hu, rv⟩ := r.get ha
    have hp : ps[i]? = some y := by
      rw [← S.pre, List.getElem?_take_of_lt (by omega)]; exact h1
    have ndP : ps.Nodup := by rw [← S.pre]; exact S.nd.sublist (List.take_sublist _ _)
    refine ⟨u, rv, ?_⟩
    rcases S.par y (List.mem_of_getElem? hp) with k | k
    · exact .inl ⟨k, bindL_get ndP hp hu k⟩
    · obtain ⟨c, e⟩ := cell_has (n := s.heap.objs.size + 1) k
      refine .inr ⟨.inl k, c, e, ?_⟩
      have q := x.cell y c e
      rw [bindC_get ndP hp hu (by show scope.names.lookup y ≠ _; rw [k]; decide)] at q
      exact q
  · exact e0.hok.fresh (Nat.le_of_lt (x.above y c (PySem.mem_of_lookup h)))
  · unfold start
    show _ = N.length
    rw [List.length_append, List.length_map, List.length_replicate]
    omega
theorem fn_of {CX : CXT} {P : Program} {w : World} {K : PySem.W.Frag} {mg : Str->Option Value} {base : Heap} {k : Nat} {f : Addr} {name qual : Str} {params : Arguments} {body : List Stmt} {scope : Scope} {dV kV doc pm cdv ct oc : Value} {an od : Option Addr}
    {osl : Array (Option Value)} {N ps : List Str} {sp : Sp} (lk : K.lookup f = some ⟨oc, od, .func (PySem.W.fnOf name qual params body scope dV kV doc pm an cdv ct), osl⟩) (hcd : PySem.W.codeIn K cdv qual = true) (S : FnScope N ps scope)
    (len : ∀ vs H Q E, sp vs H Q E->vs.length = ps.length)
    (hbody : ∀ (A : Around) (outer : List Env) (s : Shared) (H : Hp) (vs : List V) (Q : VK) (E : XK), Room k (A.deeper (envOfC qual scope s.heap.objs.size f cdv))->sp vs H Q E →
      ∃ t, PSs (cxOf CX P w K mg base N qual scope f cdv A outer s H E) body t /\ t { nx := fun _ H' => Q .non H', rt := Q } (start N vs) H) :
    FnOk P w K mg base CX (k + 1) f (PySem.W.fnOf name qual params body scope dV kV doc pm an cdv ct) ps sp := by
  refine ⟨len, fun A outer s H args us vs Q E hr e0 hb r hsp => ?_⟩
  have hl := len _ _ _ _ hsp
  have KX : K.In s.heap := e0.mod.kin.keeps fun b o e => (e0.bs b o e).1
  have lim : s.heap.NoLimit := e0.mod.nolimit.keeps fun b o e => (e0.bs b o e).1
  have hkind : ∀ y ∈ ps.zip us, scope.names.lookup y.1 = some .local ∨ (scope.names.lookup y.1 = some .cell /\ ((cellsFrom (s.heap.objs.size + 1) scope.names []).lookup y.1).isSome = true) := fun ⟨n, v⟩ hy => by
    rcases S.par n (List.of_mem_zip hy).1 with q | q
    · exact .inl q
    · exact .inr ⟨q, PySem.W.cellsFrom_some _ _ _ (.inl q)⟩
  refine codeAny_call_function hr.depth (KX _ _ lk) rfl S.co S.gen rfl (PySem.W.codeRec_of KX hcd) (hb _ _ _ _ ?_)
  refine wpAny_newFunctionEnv_cells S.kind hkind fun env he s1 x => ?_
  subst he
  refine ⟨lim.keeps x.toInCall.keep, codeAny_func ?_⟩
  obtain ⟨t, ht, hq⟩ := hbody A outer s H vs Q E (hr.deeper _) hsp
  have I : Inv (cxOf CX P w K mg base N qual scope f cdv A outer s H E) [] (start N vs) H s1 := inv_start S hr.hd e0 hl r x
  refine wpAny_mono (ht [] s1 (start N vs) H _ I hq) (fun fl s' hs => ?_) fun e s' hs => hs
  have fin : ∀ {σ' : St} {H' : Hp} {v : V} {u : Value}, Inv (cxOf CX P w K mg base N qual scope f cdv A outer s H E) [] σ' H' s'->RelV v u->Q v H'->CE outer P w H s Q u s' :=
    fun {σ' H' v u} J rv q => ⟨v, H', J.os, J.bare, J.base, J.hok, rv, q⟩
  cases fl with
  | ret u =>
    obtain ⟨v, σ', H', J, rv, q⟩ := hs
    exact fin J rv q
  | next =>
    obtain ⟨σ', H', J, q⟩ := hs
    exact fin (v := V.non) (u := Value.none) J rfl q
  | brk =>
    obtain ⟨_, _, _, q⟩ := hs
    exact False.elim q
  | cont =>
    obtain ⟨_, _, _, q⟩ := hs
    exact False.elim q
open PySem PySem.Spec PyProof.Rows
section
variable {X : Cx} {x : Str} {p pos : Pos} {e : Expr} {es : List Expr} {t : TA} {id T : String} {r : List V->Hp->VK->Prop}
def tCB (r : List V->Hp->VK->Prop) (t : TA) : TE := fun σ H Q => t σ H fun vs H1 => r vs H1 Q
theorem pe_callB (hc : CallR X (.builtin id) r) (hg : Gl X x) (hm : X.mg x = none) (hv : bootBuiltins x = some (.builtin id)) (ha : PA X (e :: es) t) (hn : x ≠ "__name__" := by decide) (hdb : (x == ("__debug__" : Str)) = false := by decide)
    (he : starEach (e :: es) X.env = (false, eval e X.env) :: starEach es X.env := by rfl) (hpl : (backTo pos (starEach es X.env)).any (·.1) = false := by rfl) : PE X (.Call (.Name x p) (e :: es) [] pos) (tCB r t) := by
  intro pins s σ H Q I h
  refine wpAny_Call_Name_kw (ld_blt I hg hm hv ?_ hn hdb)
  exact PyProof.Rows.callWith_builtin1 (thn (ha pos pins s σ H _ I h) fun us s1 ⟨vs, H1, I1, r1, q1⟩ => hc pins s1 σ H1 vs us Q I1 r1 q1) he hpl
theorem pe_callTy (hc : CallR X (.type T) r) (hg : Gl X x) (hm : X.mg x = none) (hv : bootBuiltins x = some (.type T)) (ha : PA X (e :: es) t) (hn : x ≠ "__name__" := by decide) (hdb : (x == ("__debug__" : Str)) = false := by decide)
    (he : starEach (e :: es) X.env = (false, eval e X.env) :: starEach es X.env := by rfl) (hpl : (backTo pos (starEach es X.env)).any (·.1) = false := by rfl) : PE X (.Call (.Name x p) (e :: es) [] pos) (tCB r t) := by
  intro pins s σ H Q I h
  refine wpAny_Call_Name_kw (ld_blt I hg hm hv ?_ hn hdb)
  exact PyProof.Rows.callWith_type1 (thn (ha pos pins s σ H _ I h) fun us s1 ⟨vs, H1, I1, r1, q1⟩ => hc pins s1 σ H1 vs us Q I1 r1 q1) he hpl
end
end L2
namespace HT
open PySem PyProof.Rows
section
variable {prog : Program} {w : World} {A : Around} {E : Value->Shared->Prop} {s : Shared}
def sIx (n d : Nat) : Option Int->Nat
  | none => d
  | some v => if v < 0 then (v + (n : Int)).toNat else min v.toNat n
theorem sIx_nat (n d k : Nat) : sIx n d (some (k : Int)) = min k n := by
  show (if (k : Int) < 0 then ((k : Int) + (n : Int)).toNat else min (k : Int).toNat n) = min k n
  rw [if_neg (by omega), Int.toNat_natCast]
end
end HT
namespace L2
open PySem PySem.Spec PyProof.Rows
abbrev TO := St->Hp->(Option Int->Hp->Prop)->Prop
def PO (X : Cx) (e : Option Expr) (t : TO) : Prop :=
  ∀ (pins : List (Addr × Obj)) (s : Shared) (σ : St) (H : Hp) (Q : Option Int->Hp->Prop), Inv X pins σ H s->t σ H Q →
    wpAny (model X.prog X.w) X.A (evalPart e X.env) (fun u s' => ∃ o H', Inv X pins σ H' s' /\ IsPart u o /\ Q o H') X.xe s
def tPart (t : TE) : TO := fun σ H Q => t σ H fun x H1 => ∃ i, x = .int i /\ Q (some i) H1
theorem intsAre_of {ns : List Int} : ∀ {us : List Value}, Vals (ns.map V.int) us->IntsAre us ns := by
  induction ns with
  | nil => intro us r; rw [List.map_nil] at r; cases r; exact .nil
  | cons n ns ih =>
    intro us r
    rw [List.map_cons] at r
    cases r with
    | cons r1 r2 =>
      obtain ⟨t, e⟩ := r1
      subst e
      exact .cons n t (ih r2)
section
variable {X : Cx} {e : Expr} {te : TE} {lo hi : Option Expr} {tl th : TO} {pos p2 : Pos}
theorem po_some (h : PE X e te) : PO X (some e) (tPart te) := by
  intro pins s σ H Q I hw
  rw [evalPart_some]
  refine thn (h pins s σ H _ I hw) fun u s1 ⟨x, H1, I1, r1, q1⟩ => ?_
  obtain ⟨i, rfl, q⟩ := q1
  obtain ⟨t, rfl⟩ := r1
  exact ⟨some i, H1, I1, .int i t, q⟩
def SlR (X : Cx) (r : V->Option Int->Option Int->Hp->VK->Prop) : Prop :=
  ∀ (pins : List (Addr × Obj)) (s : Shared) (σ : St) (H : Hp) (x : V) (v vl vu : Value) (lo hi : Option Int) (sl : Addr) (Q : VK), Inv X pins σ H s->RelV x v->s.heap.IsSliceOf sl vl vu .none->IsPart vl lo->IsPart vu hi->r x lo hi H Q →
    ∃ T id, typeLookup (.type T) "__getitem__" = pure (some (.builtin id)) /\ s.TypeIs v T /\ wpAny (model X.prog X.w) X.A (getItem v (.ref sl)) (EP X pins σ Q) X.xe s
def tSl (r : V->Option Int->Option Int->Hp->VK->Prop) (te : TE) (tl th : TO) : TE := fun σ H Q => te σ H fun x H1 => tl σ H1 fun l H2 => th σ H2 fun u H3 => r x l u H3 Q
theorem pe_slice {r : V->Option Int->Option Int->Hp->VK->Prop} (hr : SlR X r) (he : PE X e te) (hl : PO X lo tl) (hu : PO X hi th) : PE X (.Subscript e (.Slice lo hi none p2) pos) (tSl r te tl th) := by
  intro pins s σ H Q I h
  refine Subscript_ (thn (he pins s σ H _ I h) fun v s1 ⟨x, H1, I1, r1, q1⟩ => ?_)
  refine wpAny_Slice (thn (hl pins s1 σ H1 _ I1 q1) fun vl s2 ⟨l, H2, I2, pl, q2⟩ => thn (hu pins s2 σ H2 _ I2 q2) fun vu s3 ⟨u, H3, I3, pu, q3⟩ => ?_)
  rw [evalPart_none]
  refine wpAny_pure ?_
  have I4 : Inv X pins σ H3 { s3 with heap := s3.heap.push { cls := .type "slice", data := .fields #[vl, vu, .none] } } := I3.kept (t' := s3.toks) fun b ob q => Heap.get?_push_of_some _ q
  obtain ⟨T, id, hT, ht, hg⟩ := hr pins { s3 with heap := s3.heap.push { cls := .type "slice", data := .fields #[vl, vu, .none] } } σ H3 x v vl vu l u s3.heap.objs.size Q I4 r1 (Heap.IsSliceOf.new ..) pl pu q3
  show wpAny (model X.prog X.w) X.A (subscriptTail e (.Slice lo hi none p2) v (.ref s3.heap.objs.size)) (EP X pins σ Q) X.xe { s3 with heap := s3.heap.push { cls := .type "slice", data := .fields #[vl, vu, .none] } }
  exact tail_any (ops := [.ref s3.heap.objs.size, v]) ht hT hg (by with_unfolding_all rfl)
def cutV (xs : List V) (lo hi : Option Int) : List V := (xs.drop (HT.sIx xs.length 0 lo)).take (HT.sIx xs.length xs.length hi - HT.sIx xs.length 0 lo)
theorem cutV_length (xs : List V) (lo hi : Option Int) : (cutV xs lo hi).length ≤ xs.length := by
  unfold cutV
  rw [List.length_take, List.length_drop]
  omega
end
open PySem PySem.Spec PyProof.Rows
def ixN (n : Nat) (i : Int) : Option Nat := if 0 ≤ i then (if i < n then some i.toNat else none) else if -(n : Int) ≤ i then some (i + n).toNat else none
def atI {α : Type} (xs : List α) (i : Int) : Option α := (ixN xs.length i).bind fun j => xs[j]?
theorem ixN_seq {n : Nat} {i : Int} {j : Nat} (h : ixN n i = some j) : seqIndex? i n = some j /\ j < n /\ -(n : Int) ≤ i /\ i < n := by
  unfold ixN at h
  by_cases h0 : 0 ≤ i
  · rw [if_pos h0] at h
    by_cases h1 : i < n
    · rw [if_pos h1] at h
      have e : i.toNat = j := Option.some.inj h
      exact ⟨by rw [seqIndex_of h0 h1, e], by omega, by omega, h1⟩
    · rw [if_neg h1] at h; cases h
  · rw [if_neg h0] at h
    by_cases h1 : -(n : Int) ≤ i
    · rw [if_pos h1] at h
      have e : (i + n).toNat = j := Option.some.inj h
      exact ⟨by rw [seqIndex_neg (by omega) h1, e], by omega, h1, by omega⟩
    · rw [if_neg h1] at h; cases h
theorem atI_get {α : Type} {xs : List α} {i : Int} {v : α} (h : atI xs i = some v) : ∃ j, seqIndex? i xs.length = some j /\ xs[j]? = some v /\ j < xs.length /\ -(xs.length : Int) ≤ i /\ i < xs.length := by
  unfold atI at h
  cases e : ixN xs.length i with
  | none => rw [e] at h; cases h
  | some j =>
    rw [e] at h
    obtain ⟨h1, h2, h3, h4⟩ := ixN_seq e
    exact ⟨j, h1, h, h2, h3, h4⟩
theorem atI_nat {α : Type} {xs : List α} {j : Nat} {v : α} (h : xs[j]? = some v) : atI xs (j : Int) = some v := by
  have hj : j < xs.length := (List.getElem?_eq_some_iff.mp h).1
  have e : ixN xs.length (j : Int) = some j := by
    unfold ixN
    rw [if_pos (by omega), if_pos (by omega)]; simp
  unfold atI; rw [e]; exact h
def PlainIx (b : Expr) : Prop := ∀ o i, subscripted b false o i = operate [o, i] (getItem o i)
def IxR (X : Cx) (r : R2) : Prop :=
  ∀ (value slice : Expr) (pins : List (Addr × Obj)) (s : Shared) (σ : St) (H : Hp) (x y : V) (v u : Value) (Q : VK), Inv X pins σ H s->RelV x v->RelV y u->r x y H Q →
    subscripted slice false v u = operate [v, u] (getItem v u)->wpAny (model X.prog X.w) X.A (subscriptTail value slice v u) (EP X pins σ Q) X.xe s
def MtR (X : Cx) (id : String) (r : V->List V->Hp->VK->Prop) : Prop :=
  ∀ (pins : List (Addr × Obj)) (s : Shared) (σ : St) (H : Hp) (x : V) (xs : List V) (v : Value) (us : List Value) (Q : VK), Inv X pins σ H s->RelV x v->Vals xs us->r x xs H Q →
    wpAny (model X.prog X.w) X.A (call (.builtin id) (v :: us)) (EP X pins σ Q) X.xe s
section
variable {X : Cx} {a b : Expr} {ta tb : TE} {pos : Pos}
theorem pe_ix {r : R2} (hr : IxR X r) (ha : PE X a ta) (hb : PE X b tb) (hs : PlainIx b) : PE X (.Subscript a b pos) (tOp r ta tb) := by
  intro pins s σ H Q I h
  exact Subscript_ (binT ha hb I h fun v u s2 x y H2 I2 rx ry q => hr a b pins s2 σ H2 x y v u Q I2 rx ry q (hs _ _))
def rIxL (K : PySem.W.Frag) : R2 := fun x y H Q => ∃ p xs i v, x = .ref p /\ y = .int i /\ SqL K H p xs /\ atI xs i = some v /\ Q v H
def rIxT (K : PySem.W.Frag) : R2 := fun x y H Q => ∃ p xs i v, x = .ref p /\ y = .int i /\ SqT K H p xs /\ atI xs i = some v /\ Q v H
theorem ix_list : IxR X (rIxL X.K) := by
  intro value slice pins s σ H x y v u Q I rx ry h hs
  obtain ⟨p, xs, i, z, rfl, rfl, hq, he, q⟩ := h
  cases rx
  obtain ⟨t, rfl⟩ := ry
  obtain ⟨its, r, pl, hz⟩ := I.list hq
  obtain ⟨j, h1, h2, h3, h4, h5⟩ := atI_get he
  obtain ⟨w, ew, rw'⟩ := r.get h2
  have hl := r.length
  have hn := line63
  have fin : EP X pins σ Q w s := ⟨z, H, I, rw', q⟩
  by_cases h0 : 0 ≤ i
  · have hj : i.toNat = j := by
      rw [seqIndex_of h0 h5] at h1
      exact Option.some.inj h1
    exact item_listR pl.isList h0 (by omega) (by rw [hj]; simpa using ew) fin hs
  · have hj : (i + (its.toArray.size : Int)).toNat = j := by
      rw [seqIndex_neg (by omega) h4] at h1
      rw [List.size_toArray, ← hl]
      exact Option.some.inj h1
    exact subscriptTail_builtinR (x := w) pl.isList.typeIs slot_list_getitem.lookup
      (wpAny_getItem_list_neg (Q := fun r s' => r = w /\ EP X pins σ Q r s') pl.isList (by omega) (by rw [List.size_toArray] <;> omega) (by omega) (by rw [hj]; simpa using ew) ⟨rfl, fin⟩) hs
theorem ix_tup : IxR X (rIxT X.K) := by
  intro value slice pins s σ H x y v u Q I rx ry h hs
  obtain ⟨p, xs, i, z, rfl, rfl, hq, he, q⟩ := h
  cases rx
  obtain ⟨t, rfl⟩ := ry
  obtain ⟨its, r, pl, hz⟩ := I.tuple hq
  obtain ⟨j, h1, h2, h3, h4, h5⟩ := atI_get he
  obtain ⟨w, ew, rw'⟩ := r.get h2
  have hl := r.length
  have hn := line63
  have fin : EP X pins σ Q w s := ⟨z, H, I, rw', q⟩
  exact subscriptTail_builtinR (x := w) pl.typeIs slot_tuple_getitem.lookup
    (getItem_tuple (j := j) (Q := fun r s' => r = w /\ EP X pins σ Q r s') pl (by omega) (by omega) (by rw [List.size_toArray, ← hl]; exact h1) (by simpa using ew) ⟨rfl, fin⟩) hs
theorem mapSeq_set (its : List Value) (n j : Nat) (u : Value) : Obj.mapSeq (·.setIfInBounds j u) { cls := .type "list", data := .seq its.toArray n } = { cls := .type "list", data := .seq (its.set j u).toArray n } := by
  simp [Obj.mapSeq]
theorem Inv.lst {pins : List (Addr × Obj)} {σ : St} {H : Hp} {s : Shared} {p : Addr} {xs : List V} (I : Inv X pins σ H s) (h : H p = some (.lst xs)) :
    ∃ (its : List Value) (n : Nat), Vals xs its /\ s.heap.get? p = some { cls := .type "list", data := .seq its.toArray n } /\ xs.length ≤ sizeLine := by
  obtain ⟨z, its, n, r, e⟩ := I.hok p _ h
  exact ⟨its, n, r, e, z⟩
theorem Inv.lstUpd {pins : List (Addr × Obj)} {σ : St} {H : Hp} {s : Shared} {p : Addr} {xs ys : List V} {its its' : List Value} {n n' : Nat} {f : Obj->Obj} (I : Inv X pins σ H s) (h : H p = some (.lst xs))
    (ho : s.heap.get? p = some { cls := .type "list", data := .seq its.toArray n }) (hf : f { cls := .type "list", data := .seq its.toArray n } = { cls := .type "list", data := .seq its'.toArray n' }) (r : Vals ys its') (hz : ys.length ≤ sizeLine) (t : Nat) :
    Inv X pins σ (upd H p (.lst ys)) { s with heap := s.heap.update p f, toks := t } := by
  have e : (s.heap.update p f).get? p = some { cls := .type "list", data := .seq its'.toArray n' } := by
    rw [Heap.get?_update_self f ho (by rw [hf] <;> rfl), hf]
  refine I.write (x := p) (e := p) (by rw [h]; trivial) (.inl rfl) (fun b u hb q => (Heap.get?_update_other _ _ (Ne.symm hb)).trans q) ⟨_, e⟩ ?_
  exact ⟨hz, its', n', r, e⟩
def rSetL : V->V->V->Hp->(Hp->Prop)->Prop := fun o i v H Q => ∃ p xs k j, o = .ref p /\ i = .int k /\ H p = some (.lst xs) /\ ixN xs.length k = some j /\ Q (upd H p (.lst (xs.set j v)))
theorem set_list : PSet X rSetL := by
  intro pins s σ H o i v ov iv u Q I ro ri rv h
  obtain ⟨p, xs, k, j, rfl, rfl, hp, hj, q⟩ := h
  cases ro
  obtain ⟨t, rfl⟩ := ri
  obtain ⟨its, n, r, ho, hz⟩ := I.lst hp
  obtain ⟨h1, h2, h3, h4⟩ := ixN_seq hj
  have hl := r.length
  have hn := line63
  have I' : Inv X pins σ (upd H p (.lst (xs.set j v))) { s with heap := s.heap.update p (Obj.mapSeq (·.setIfInBounds j u)) } :=
    I.lstUpd hp ho (mapSeq_set its n j u) (r.set rv j) (by rw [List.length_set]; exact hz) s.toks
  by_cases h0 : 0 ≤ k
  · have hk : k.toNat = j := by
      rw [seqIndex_of h0 h4] at h1
      exact Option.some.inj h1
    exact PySem.W.ki_setAt ho h0 (by omega) (by rw [List.size_toArray, ← hl]; exact h4) (by rw [hk]; exact ⟨_, I', q⟩)
  · have hk : (k + (its.toArray.size : Int)).toNat = j := by
      rw [seqIndex_neg (by omega) h3] at h1
      rw [List.size_toArray, ← hl]
      exact Option.some.inj h1
    exact PySem.W.ki_setBack ho (by omega) (by rw [List.size_toArray, ← hl]; exact h3) (by omega) (by rw [hk]; exact ⟨_, I', q⟩)
theorem slice_bounds (lo hi : Option Int) (n : Nat) : (sliceBounds lo hi none n).1 = ((HT.sIx n 0 lo : Nat) : Int) /\ (sliceBounds lo hi none n).2.1 = ((HT.sIx n n hi : Nat) : Int) /\ (sliceBounds lo hi none n).2.2 = 1 := by
  refine ⟨?_, ?_, rfl⟩
  · cases lo with
    | none => simp [sliceBounds, HT.sIx]
    | some i =>
      simp only [sliceBounds, HT.sIx, Option.getD_none, show (1 : Int) > 0 by decide, if_true]
      by_cases h : i < 0
      · simp only [h, if_true] <;> omega
      · simp only [h, if_false] <;> omega
  · cases hi with
    | none => simp [sliceBounds, HT.sIx]
    | some i =>
      simp only [sliceBounds, HT.sIx, Option.getD_none, show (1 : Int) > 0 by decide, if_true]
      by_cases h : i < 0
      · simp only [h, if_true] <;> omega
      · simp only [h, if_false] <;> omega
theorem slicePick_cut (its : List Value) (lo hi : Option Int) : slicePick its.toArray lo hi none = ((its.drop (HT.sIx its.length 0 lo)).take (HT.sIx its.length its.length hi - HT.sIx its.length 0 lo)).toArray := by
  obtain ⟨h1, h2, h3⟩ := slice_bounds lo hi its.toArray.size
  unfold slicePick
  rw [h1, h2, h3]
  simp only [sliceRange_one, pick_run, List.size_toArray] <;> rfl
def rSlL (K : PySem.W.Frag) : V->Option Int->Option Int->Hp->VK->Prop := fun x lo hi H Q => ∃ a xs, x = .ref a /\ SqL K H a xs /\ ∀ p, H p = none->Q (.ref p) (upd H p (.lst (cutV xs lo hi)))
theorem sl_list : SlR X (rSlL X.K) := by
  intro pins s σ H x v vl vu lo hi sl Q I rx hs pl pu h
  obtain ⟨a, xs, rfl, hx, q⟩ := h
  cases rx
  obtain ⟨its, r, ht, hz⟩ := I.list hx
  have hlen := r.length
  refine ⟨"list", _, slot_list_getitem.lookup, ht.isList.typeIs, ?_⟩
  refine wpAny_getItem_list_slice ht.isList hs pl pu .none (by simp) ?_ (by rw [List.size_toArray] <;> omega)
  rw [slicePick_cut, ← hlen]
  refine ⟨.ref s.heap.objs.size, _, I.laid (t' := s.toks) (o := .lst (cutV xs lo hi)) (fun b ob q => Heap.get?_push_of_some _ q) (Nat.le_refl _) ?_, rfl, q _ (I.hok.fresh (Nat.le_refl _))⟩
  exact ⟨Nat.le_trans (cutV_length xs lo hi) hz, _, 0, (r.drop (HT.sIx xs.length 0 lo)).take (HT.sIx xs.length xs.length hi - HT.sIx xs.length 0 lo), Heap.get?_push_size _ rfl⟩
def flatV : V->Bool
  | .non => true
  | .bl _ => true
  | .int _ => true
  | .str _ => true
  | _ => false
def eqV : V->V->Bool
  | .non, .non => true
  | .bl a, .bl b => a == b
  | .bl a, .int b => (if a then 1 else 0) == b
  | .int a, .bl b => a == (if b then 1 else 0)
  | .int a, .int b => a == b
  | .str a, .str b => a == b
  | _, _ => false
theorem eqAt_V {A : Around} {s : Shared} {y x : V} {u v : Value} (ry : RelV y u) (rx : RelV x v) (fy : flatV y = true) (fx : flatV x = true) : SeqAt.EqAt A s u v (eqV y x) := by
  cases y with
  | non =>
    cases ry
    cases x with
    | non => cases rx; exact SeqAt.EqAt.same _
    | bl b => cases rx; exact SeqAt.EqAt.none_bool b
    | int b => obtain ⟨t, rfl⟩ := rx; exact SeqAt.EqAt.none_int b t
    | str b => obtain ⟨t, rfl⟩ := rx; exact SeqAt.EqAt.none_str b t
    | _ => exact absurd (show false = true from fx) Bool.false_ne_true
  | bl a =>
    cases ry
    cases x with
    | non => cases rx; exact SeqAt.EqAt.bool_none a
    | bl b => cases rx; exact SeqAt.EqAt.bool_bool a b
    | int b => obtain ⟨t, rfl⟩ := rx; exact SeqAt.EqAt.bool_int a b t
    | str b => obtain ⟨t, rfl⟩ := rx; exact SeqAt.EqAt.bool_str a b t
    | _ => exact absurd (show false = true from fx) Bool.false_ne_true
  | int a =>
    obtain ⟨t', rfl⟩ := ry
    cases x with
    | non => cases rx; exact SeqAt.EqAt.int_none a t'
    | bl b => cases rx; exact SeqAt.EqAt.int_bool a t' b
    | int b => obtain ⟨t, rfl⟩ := rx; exact SeqAt.EqAt.int_int a t' b t
    | str b => obtain ⟨t, rfl⟩ := rx; exact SeqAt.EqAt.int_str a t' b t
    | _ => exact absurd (show false = true from fx) Bool.false_ne_true
  | str a =>
    obtain ⟨t', rfl⟩ := ry
    cases x with
    | non => cases rx; exact SeqAt.EqAt.str_none a t'
    | bl b => cases rx; exact SeqAt.EqAt.str_bool a t' b
    | int b => obtain ⟨t, rfl⟩ := rx; exact SeqAt.EqAt.str_int a t' b t
    | str b => obtain ⟨t, rfl⟩ := rx; exact SeqAt.EqAt.str_str a t' b t
    | _ => exact absurd (show false = true from fx) Bool.false_ne_true
  | _ => exact absurd (show false = true from fy) Bool.false_ne_true
theorem call_len_seq : CallR X (.builtin "len") (fun xs H Q => ∃ p ys, xs = [.ref p] /\ (SqL X.K H p ys ∨ SqT X.K H p ys) /\ Q (.int ys.length) H) := by
  intro pins s σ H xs us Q I r h
  obtain ⟨p, ys, rfl, hq, q⟩ := h
  obtain ⟨u, rfl, rx⟩ := vals1 r
  cases rx
  have hn := line63
  rcases hq with hq | hq
  · obtain ⟨its, r', pl, hz⟩ := I.list hq
    have hlen := r'.length
    exact Calls.call_len_list pl.isList (by simp only [List.size_toArray] <;> omega) ⟨.int ys.length, H, I.tok _, ⟨s.toks + 1, by rw [List.size_toArray, hlen]⟩, q⟩
  · obtain ⟨its, r', pl, hz⟩ := I.tuple hq
    have hlen := r'.length
    exact len_tuple pl (by simp only [List.size_toArray] <;> omega) ⟨.int ys.length, H, I.tok _, ⟨s.toks + 1, by rw [List.size_toArray, hlen]⟩, q⟩
theorem call_list_of : CallR X (.type "list") (fun xs H Q => ∃ p ys, xs = [.ref p] /\ (SqL X.K H p ys ∨ SqT X.K H p ys) /\ ∀ l, H l = none->Q (.ref l) (upd H l (.lst ys))) := by
  intro pins s σ H xs us Q I r h
  obtain ⟨p, ys, rfl, hq, q⟩ := h
  obtain ⟨u, rfl, rx⟩ := vals1 r
  cases rx
  have fin : ∀ (its : List Value), Vals ys its->ys.length ≤ sizeLine->∀ (h' : Heap) (c' : Nat), (∀ b o', s.heap.get? b = some o'->h'.get? b = some o') →
      h'.get? s.heap.objs.size = some { cls := .type "list", dict := none, data := .seq its.toArray c', slots := #[] }->EP X pins σ Q (.ref s.heap.objs.size) { s with heap := h' } := fun its r' hz h' c' kp e =>
    ⟨.ref s.heap.objs.size, _, I.laid (t' := s.toks) kp (Nat.le_refl _) (show ObjOk X.prog X.w _ h' _ (.lst ys) from ⟨hz, its, c', r', e⟩), rfl, q _ (I.hok.fresh (Nat.le_refl _))⟩
  rcases hq with hq | hq
  · obtain ⟨its, r', pl, hz⟩ := I.list hq
    have hlen := r'.length
    obtain ⟨o, ho, hc, n, hd⟩ := pl.isList
    exact call_list_seq p (.inl rfl) ho hc hd (fun h' c' kp e => fin its r' hz h' c' kp e) (by simp only [List.size_toArray] <;> omega)
  · obtain ⟨its, r', pl, hz⟩ := I.tuple hq
    have hlen := r'.length
    obtain ⟨o, ho, hc, n, hd⟩ := pl
    exact call_list_seq p (.inr rfl) ho hc hd (fun h' c' kp e => fin its r' hz h' c' kp e) (by simp only [List.size_toArray] <;> omega)
theorem call_tuple_of : CallR X (.type "tuple") (fun xs H Q => ∃ p ys, xs = [.ref p] /\ ((SqL X.K H p ys /\ ∀ l, H l = none->Q (.ref l) (upd H l (.tup ys))) ∨ (SqT X.K H p ys /\ Q (.ref p) H))) := by
  intro pins s σ H xs us Q I r h
  obtain ⟨p, ys, rfl, h⟩ := h
  obtain ⟨u, rfl, rx⟩ := vals1 r
  cases rx
  rcases h with ⟨hq, q⟩ | ⟨hq, q⟩
  · obtain ⟨its, r', pl, hz⟩ := I.list hq
    have hlen := r'.length
    refine call_tuple_list pl.isList (fun h' kp => ?_) (by simp only [List.size_toArray] <;> omega)
    have I1 : Inv X pins σ H { s with heap := h' } := I.kept (t' := s.toks) kp
    have I2 : Inv X pins σ (upd H h'.objs.size (.tup ys)) { s with heap := h'.push { cls := .type "tuple", data := .seq its.toArray } } :=
      I1.laid (t' := s.toks) (fun b o e => Heap.get?_push_of_some _ e) (Nat.le_refl _) (show ObjOk X.prog X.w _ _ _ (.tup ys) from ⟨hz, its, r', IsTup.new _ _⟩)
    exact ⟨.ref h'.objs.size, _, I2, rfl, q _ (I1.hok.fresh (Nat.le_refl _))⟩
  · obtain ⟨its, r', pl, hz⟩ := I.tuple hq
    exact call_tuple_same pl ⟨.ref p, H, I, rfl, q⟩
def tyV (K : PySem.W.Frag) (T : String) (x : V) (H : Hp) : Prop := match x with
  | .str _ => T = "str"
  | .int _ => T = "int"
  | .ref p => (T = "list" /\ ∃ xs, SqL K H p xs) ∨ (T = "tuple" /\ ∃ o, K.lookup p = some o /\ o.cls = .type "tuple" /\ o.dict = none) ∨
      (T = "dict" /\ ((∃ kvs, H p = some (.dK kvs)) ∨ ∃ kvs, H p = some (.dT kvs))) ∨ (T = "set" /\ ∃ S n, H p = some (.set S n))
  | _ => False
theorem tyV_is {pins : List (Addr × Obj)} {σ : St} {H : Hp} {s : Shared} {T : String} {x : V} {v : Value} (I : Inv X pins σ H s) (r : RelV x v) (ty : tyV X.K T x H) :
    s.TypeIs v T /\ ∀ a, v = .ref a->∃ ob, s.heap.get? a = some ob /\ ob.dict = none := by
  cases x with
  | str z =>
    obtain ⟨t, rfl⟩ := r
    cases (show T = "str" from ty)
    exact ⟨typeIs_str s z t, fun _ e => nomatch e⟩
  | int i =>
    obtain ⟨t, rfl⟩ := r
    cases (show T = "int" from ty)
    exact ⟨typeIs_int s i t, fun _ e => nomatch e⟩
  | ref p =>
    cases r
    rcases ty with ⟨rfl, xs, hq⟩ | ⟨rfl, o, hk, hc, hd⟩ | ⟨rfl, hk⟩ | ⟨rfl, S, n, hk⟩
    · obtain ⟨its, _, pl, _⟩ := I.list hq
      refine ⟨pl.isList.typeIs, fun a e => ?_⟩
      cases e
      obtain ⟨o, n, e, c, hd, _⟩ := pl
      exact ⟨o, e, hd⟩
    · refine ⟨⟨o, I.kIn p o hk, hc⟩, fun a e => ?_⟩
      cases e
      exact ⟨o, I.kIn _ o hk, hd⟩
    · have z : ∃ o, s.heap.get? p = some o /\ o.ExactDict := by
        rcases hk with ⟨kvs, hk⟩ | ⟨kvs, hk⟩
        · obtain ⟨_, _, _, _, o, _, _, e, ex, _⟩ := I.hok p _ hk
          exact ⟨o, e, ex⟩
        · obtain ⟨_, _, _, _, o, _, _, e, ex, _⟩ := I.hok p _ hk
          exact ⟨o, e, ex⟩
      obtain ⟨o, e, ex⟩ := z
      refine ⟨⟨o, e, ex.1⟩, fun a e2 => ?_⟩
      cases e2
      exact ⟨o, e, ex.2.1⟩
    · obtain ⟨o, _, _, _, e, ex, _⟩ := I.hok p _ hk
      refine ⟨⟨o, e, ex.1⟩, fun a e2 => ?_⟩
      cases e2
      exact ⟨o, e, ex.2.1⟩
  | _ => exact False.elim ty
def tBM0 (K : PySem.W.Frag) (T : String) (r : V->List V->Hp->VK->Prop) (to : TE) : TE := fun σ H Q => to σ H fun x H1 => tyV K T x H1 /\ r x [] H1 Q
def tBM (K : PySem.W.Frag) (T : String) (r : V->List V->Hp->VK->Prop) (to : TE) (t : TA) : TE := fun σ H Q => to σ H fun x H1 => tyV K T x H1 /\ t σ H1 fun xs H2 => r x xs H2 Q
variable {o e : Expr} {es : List Expr} {to : TE} {t : TA} {name : Str} {apos cpos : Pos} {T id : String} {r : V->List V->Hp->VK->Prop}
theorem pe_bm0 (pa : PlainAttrs T) (slot : Slot T name id) (hty : typeOf (.builtin id) = pure (.type "method_descriptor")) (hm : MtR X id r) (ho : PE X o to)
    (hbase : attributeBase o name X.env (eval o X.env) = eval o X.env := by rfl) (hline : (apos.endLine == cpos.line) = true := by rfl) : PE X (.Call (.Attribute o name apos) [] [] cpos) (tBM0 X.K T r to) := by
  intro pins s σ H Q I h
  refine wpAny_Call_method0_late hbase hline (thn (ho pins s σ H _ I h) fun v s1 ⟨x, H1, I1, r1, ty, q1⟩ => ?_)
  obtain ⟨h1, h2⟩ := tyV_is I1 r1 ty
  exact ⟨T, id, pa, slot, hty, h1, h2, Calls.callWith_builtin rfl (PySem.evalArgs_none (hm pins s1 σ H1 x [] v [] Q I1 r1 .nil q1))⟩
theorem pe_bm (pa : PlainAttrs T) (slot : Slot T name id) (hty : typeOf (.builtin id) = pure (.type "method_descriptor")) (hm : MtR X id r) (ho : PE X o to) (ha : PA X (e :: es) t)
    (hbase : attributeBase o name X.env (eval o X.env) = eval o X.env := by rfl)
    (hfew : ((backTo cpos (starEach (e :: es) X.env)).all (fun x => !x.1) && (backToKw cpos (keywordEach [] X.env)).all (fun x => x.1.isSome)
      && decide ((e :: es).length + ([] : List Keyword).length + (if ([] : List Keyword).isEmpty then 0 else 1) < 30)) = true := by rfl)
    (hline : (apos.endLine == cpos.line) = true := by rfl) (hs : starEach (e :: es) X.env = (false, eval e X.env) :: starEach es X.env := by rfl) (hplain : (backTo cpos (starEach es X.env)).any (·.1) = false := by rfl) :
    PE X (.Call (.Attribute o name apos) (e :: es) [] cpos) (tBM X.K T r to t) := by
  intro pins s σ H Q I h
  refine wpAny_Call_method_late hbase hfew hline rfl (thn (ho pins s σ H _ I h) fun v s1 ⟨x, H1, I1, r1, ty, q1⟩ => ?_)
  obtain ⟨h1, h2⟩ := tyV_is I1 r1 ty
  refine ⟨T, id, pa, slot, hty, h1, h2, ?_⟩
  have hA := ha cpos pins s1 σ H1 _ I1 q1
  rw [hs] at hA ⊢
  refine Calls.callWith_builtin (by show (false || (backTo cpos (starEach es X.env)).any (·.1)) = false; rw [hplain] <;> rfl) (Calls.evalArgs_plain ?_)
  exact thn hA fun us s2 ⟨vs, H2, I2, r2, q2⟩ => hm pins s2 σ H2 x vs v us Q I2 r1 r2 q2
/- xs.append(e), list.index on a module's tuple .. are MtR facts of 06m -/
end
open PySem PySem.Spec PyProof.Rows
def MtM (X : Cx) (id : String) (r : V->List V->Hp->VK->Prop) : Prop :=
  ∀ (pins : List (Addr × Obj)) (s : Shared) (σ : St) (H : Hp) (x : V) (xs : List V) (v : Value) (us : List Value) (Q : VK), Inv X pins σ H s->RelV x v->Vals xs us->r x xs H Q →
    wpAny (model X.prog X.w) X.A (call (.builtin id) (v :: us)) (EP X pins σ Q) X.xe s
theorem Vals.one : ∀ {x : V} {us : List Value}, Vals [x] us->∃ u, us = [u] /\ RelV x u
  | _, _, .cons r .nil => ⟨_, rfl, r⟩
theorem Vals.zero : ∀ {us : List Value}, Vals [] us->us = []
  | _, .nil => rfl
section
variable {X : Cx} {pins : List (Addr × Obj)} {σ : St} {H : Hp} {s : Shared} {l b : Addr} {xs ys zs : List V}
theorem Inv.lset {its its' : List Value} {n : Nat} {f : Array Value->Array Value} {t' : Nat} (I : Inv X pins σ H s) (hH : H l = some (.lst xs))
    (e : s.heap.get? l = some { cls := .type "list", data := .seq its.toArray n }) (hf : f its.toArray = its'.toArray) (hv : Vals ys its') (hz : ys.length ≤ sizeLine) :
    Inv X pins σ (upd H l (.lst ys)) { s with heap := s.heap.update l (Obj.mapSeq f), toks := t' } := by
  have q := PySem.IsL.update e f
  rw [hf] at q
  refine I.write (x := l) (e := l) (by rw [hH]; exact trivial) (.inl rfl) (fun b' u hb hu => (Heap.get?_update_other s.heap (Obj.mapSeq f) (Ne.symm hb)).trans hu) ⟨_, q⟩ ?_
  exact ⟨hz, its', _, hv, q⟩
theorem Inv.lstM (I : Inv X pins σ H s) (hH : H l = some (.lst xs)) : xs.length ≤ sizeLine /\ ∃ (its : List Value) (n : Nat), Vals xs its /\ xs.length = its.length /\ s.heap.get? l = some { cls := .type "list", data := .seq its.toArray n } := by
  obtain ⟨z, its, n, r, e⟩ := I.hok l _ hH
  exact ⟨z, its, n, r, r.length, e⟩
theorem notLongL {n : Nat} (h : n ≤ sizeLine) : Builtin.List.listTooLong n = false := by
  unfold Builtin.List.listTooLong
  exact decide_eq_false (by omega)
end
section
variable {X : Cx}
def rAppend : V->List V->Hp->VK->Prop := fun x vs H Q => ∃ l xs y, x = .ref l /\ vs = [y] /\ H l = some (.lst xs) /\ xs.length < sizeLine /\ Q .non (upd H l (.lst (xs ++ [y])))
theorem mt_append : MtM X "list.append" rAppend := by
  intro pins s σ H x vs v us Q I rx rv h
  obtain ⟨l, xs, y, rfl, rfl, hH, hz, q⟩ := h
  cases rx
  obtain ⟨u, rfl, ru⟩ := rv.one
  obtain ⟨z, its, n, r, hl, e⟩ := I.lstM hH
  refine call_meets F.slot_list_append ⟨_, e, rfl⟩ F.entry_list_append (F.args_list_append_2 _ _) (PySem.list_append l its.toArray n u (by rw [List.size_toArray]; omega)) ⟨e, ?_⟩
  refine ⟨.non, _, I.lset (its' := its ++ [u]) hH e (by simp) (r.append (.cons ru .nil)) ?_, rfl, q⟩
  rw [List.length_append, List.length_singleton]
  omega
def rExtend : V->List V->Hp->VK->Prop := fun x vs H Q => ∃ l b xs zs, x = .ref l /\ vs = [.ref b] /\ H l = some (.lst xs) /\ H b = some (.lst zs) /\ xs.length + zs.length ≤ sizeLine /\ Q .non (upd H l (.lst (xs ++ zs)))
theorem mt_extend : MtM X "list.extend" rExtend := by
  intro pins s σ H x vs v us Q I rx rv h
  obtain ⟨l, b, xs, zs, rfl, rfl, hH, hB, hz, q⟩ := h
  cases rx
  obtain ⟨u, rfl, ru⟩ := rv.one
  cases ru
  obtain ⟨z, its, n, r, hl, e⟩ := I.lstM hH
  obtain ⟨z2, its2, n2, r2, hl2, e2⟩ := I.lstM hB
  have hsz : its.toArray.size + its2.toArray.size ≤ sizeLine := by rw [List.size_toArray, List.size_toArray]; omega
  have hlong : ¬ (!its.toArray.isEmpty && Builtin.List.listTooLong (its.toArray.size + its2.toArray.size)) = true := by
    rw [notLongL hsz, Bool.and_false]
    exact Bool.false_ne_true
  refine call_meets F.slot_list_extend ⟨_, e, rfl⟩ F.entry_list_extend (F.args_list_extend_2 _ _)
    (AutoSeq1.list_extend_list_list_0 l its.toArray n b its2.toArray n2 hlong (by rw [List.size_toArray]; omega) (by omega)) ⟨e, e2, ?_⟩
  refine ⟨.non, _, I.lset (its' := its ++ its2) hH e (by simp) (r.append r2) ?_, rfl, q⟩
  rw [List.length_append]
  omega
def rClear : V->List V->Hp->VK->Prop := fun x vs H Q => ∃ l xs, x = .ref l /\ vs = [] /\ H l = some (.lst xs) /\ Q .non (upd H l (.lst []))
theorem mt_clear : MtM X "list.clear" rClear := by
  intro pins s σ H x vs v us Q I rx rv h
  obtain ⟨l, xs, rfl, rfl, hH, q⟩ := h
  cases rx
  have hus := rv.zero
  subst hus
  obtain ⟨z, its, n, r, hl, e⟩ := I.lstM hH
  refine call_meets F.slot_list_clear ⟨_, e, rfl⟩ F.entry_list_clear (F.args_list_clear_1 _) (AutoSeq1.list_clear_list_0 l its.toArray n (by rw [List.size_toArray]; omega)) ⟨e, ?_⟩
  exact ⟨.non, _, I.lset (its' := []) (ys := []) hH e rfl .nil (Nat.zero_le _), rfl, q⟩
end
section
variable {prog : Program} {w : World} {A : Around} {E : Value->Shared->Prop} {s : Shared}
set_option maxRecDepth 100000 in
end
end L2
namespace Att
open PySem PySem.W PySem.Calls PyProof.Rows
theorem ints_of_wellAll {P : Params} {h : Heap} : ∀ (ns : List Int) (vs : List Value), WellAll P h vs (ns.map WData.int)->IntsAre vs ns := by
  intro ns
  induction ns with
  | nil =>
    intro vs w
    rw [List.map_nil] at w
    cases w
    exact .nil
  | cons n ns ih =>
    intro vs w
    rw [List.map_cons] at w
    cases w with
    | cons a b =>
      cases a
      exact .cons _ _ (ih _ b)
theorem script_of {l : OpenLaw} {n : Nat} (hn : l.most = some n) {P : Params} {h : Heap} {args : List WData} {vals : List Value}
    (hpre : l.row.toRowW.claim.pre args = true) (hwl : WellAll P h vals args) :
    ∃ a vs ns, vals = [Value.ref a] /\ args = [WData.list (ns.map WData.int)] /\ h.get? a = some { cls := .type "list", data := .seq vs.toArray } /\ IntsAre vs ns /\ ns.length ≤ n := by
  have hsh : WShape.hasAll [] args [.list .int] = true := (pre_splitW hpre).1
  have hc : l.pre.holds [] { args := args } = true := (pre_splitW hpre).2
  obtain ⟨d, r, rfl, h1, h2⟩ := hasAllW_cons hsh
  obtain rfl := hasAllW_nil h2
  obtain ⟨xs, rfl, h3⟩ := hasW_list h1
  obtain ⟨ns, rfl⟩ := items_int h3
  have hlen : ns.length ≤ n := by
    unfold OpenLaw.pre at hc
    have h4 : (WTm.not (.lt (.lit (.int (n : Int))) (.len (.arg 0)))).holds [] { args := [.list (ns.map .int)] } = true := by
      have h4 := (holds_andW hc).1
      rw [hn] at h4
      exact h4
    have h5 := condW_of h4 (w_not (w_lt w_lit (w_len_list (w_arg rfl))))
    rw [List.length_map] at h5
    refine Nat.le_of_not_lt fun q => ?_
    have q' : (n : Int) < ((ns.length : Nat) : Int) := by omega
    first
      | (rw [decide_eq_true q'] at h5; exact absurd h5 (by decide))
      | (simp at h5; omega)
  cases hwl with
  | cons w1 w2 =>
    cases w2
    cases w1 with
    | list ho hall => exact ⟨_, _, ns, rfl, rfl, ho, ints_of_wellAll ns _ hall, hlen⟩
theorem post_true (l : OpenLaw) (args : List WData) : l.row.toRowW.claim.post args (.bool true) args = true :=
  postW_of (r := l.row.toRowW) (X := (true == true))
    (show WShape.has [] (.bool true) .bool = true by first | rfl | decide | simp [WShape.has, WShape.arms, WShape.armsAll])
    (show (WTm.eq .res (.lit (.bool true))).value [] { args := args, res := some (.bool true), after := args } = some (.bool (true == true)) from w_eq_bool (w_res rfl) w_lit) rfl
theorem attach_call {l : OpenLaw} {n : Nat} {q : Program} {loose : List Str} {XP : (Str->Option Value)->Heap->Prop} {YP : World->Heap->Prop} {d : DefRec}
    (hn : l.most = some n) (hdf : d.params.defaults = [])
    (call : ∀ (w : World) (s₀ s₁ : Shared) (mg mb : Str->Option Value) (fa : Addr) (o : Obj) (pm cd doc : Value) (a : Addr) (vs : List Value) (ns : List Int),
      Ground q loose [] XP w s₀ mg mb s₁.heap->YP w s₁.heap →
      s₁.heap.get? fa = some o->o.data = .func (docDef d.name d.params d.body d.scope pm cd doc)->s₁.heap.CodeRec cd d.name->mg d.name = some (.ref fa) →
      s₁.heap.get? a = some { cls := .type "list", data := .seq vs.toArray }->IntsAre vs ns->ns.length ≤ n->s₁.gens = #[] →
      codeAny (model l.prog w) callerA (.call (.ref fa) ⟨[.ref a], []⟩) (fun r s' => r = .ok (.ret (.bool true)) /\ OldK s₁.heap s'.heap /\ s'.os = s₁.os /\ AllBare s'.gens) s₁) :
    WalkO q loose XP YP l.row.toRowW d [] (fun f vs => PySem.call f vs) := by
  intro w s₀ s₁ mg mb G Y fa o pm cd doc dV kV ho hd hcd hD hmg hg args vals as hpre hlay hrd hwl hlo
  obtain rfl : dV = .none := Dflts.none hD hdf
  obtain rfl : kV = .none := Dflts.noKw hD
  obtain ⟨a, vs, ns, rfl, rfl, hobj, hints, hlen⟩ := script_of hn hpre hwl
  refine enter_call (codeAny_mono (call w s₀ s₁ mg mb fa o pm cd doc a vs ns G Y ho (fd_plain hd) hcd hmg hobj hints hlen hg) fun r s' hq => ?_)
  obtain ⟨rfl, h2, h3, h4⟩ := hq
  exact ⟨.inl ⟨.bool true, .bool true, [], rfl, fun _ => rfl, .bool true, post_true l _, fun _ => ⟨List.Pairwise.nil, fun _ hm => (nomatch hm)⟩⟩, h2, h3, h4⟩
section
variable {prog : Program} {w : World} {A : Around} {E : Value->Shared->Prop} {s : Shared} {K : Frag}
def ledger (h : Heap) (L d : Addr) : List (Addr × Obj) := (List.range h.objs.size).filterMap fun a => if a = L ∨ a = d then none else (h.get? a).map fun o => (a, o)
end
end Att
namespace L2
open PySem PySem.Spec PyProof.Rows
theorem vals_ints : ∀ {vs : List Value} {ns : List Int}, IntsAre vs ns->Vals (ns.map V.int) vs
  | _, _, .nil => .nil
  | _, _, .cons n t h => .cons ⟨t, rfl⟩ (vals_ints h)
def Only (H : Hp) : Prop := ∀ b, H b = none ∨ ∃ o xs, H b = some (.frz o (.lst xs))
theorem law_call {P : Program} {w : World} {K : PySem.W.Frag} {mg mb : Str->Option Value} {CX : CXT} {k : Nat} {fa a : Addr} {fd : FuncData} {x : Str} {sp : Sp} {s₁ : Shared} {vs : List Value} {ns : List Int}
    (KX : K.In s₁.heap) (hns : s₁.heap.Ns mainGlobals mg) (hb : s₁.heap.Ns builtinsNs mb) (hbb : ∀ x : Str, x ≠ "__name__"->mb x = bootBuiltins x) (hlim : s₁.heap.NoLimit) (hg : s₁.gens = #[])
    (ha : s₁.heap.get? a = some { cls := .type "list", data := .seq vs.toArray }) (hi : IntsAre vs ns) (hl : ns.length ≤ sizeLine) (hr : Room k callerA)
    (F : ∀ base : Heap, K.In base->base.Ns mainGlobals mg->FnOk P w K mg base CX k fa fd [x] sp) (hbind : ∀ (s : Shared) (u : Value), BindsTo s fd ⟨[u], []⟩ [(x, u)])
    (hsp : ∀ H : Hp, Only H->SqL K H a (ns.map V.int)->sp [.ref a] H (fun v _ => v = .bl true) fun _ _ _ => False)
    (hCX : ∀ H e s', CX [] H s₁ (fun _ _ _ => False) e s'->False) :
    codeAny (model P w) callerA (.call (.ref fa) ⟨[.ref a], []⟩) (fun r s' => r = .ok (.ret (.bool true)) /\ OldK s₁.heap s'.heap /\ s'.os = s₁.os /\ AllBare s'.gens) s₁ := by
  have rv := vals_ints hi
  have lenV := hi.length
  have core : ∀ H : Hp, Only H->SqL K H a (ns.map V.int)->HOk P w H s₁.heap->(∀ b, H b ≠ none->b = a)->(H a ≠ none->K.lookup a = none) →
      codeAny (model P w) callerA (.call (.ref fa) ⟨[.ref a], []⟩) (fun r s' => r = .ok (.ret (.bool true)) /\ OldK s₁.heap s'.heap /\ s'.os = s₁.os /\ AllBare s'.gens) s₁ := by
    intro H hO hS hok hA hK
    have base_of : ∀ {b : Addr} {o : Obj}, s₁.heap.get? b = some o->H b = none->(hidT s₁.heap H).get? b = some o := fun e n => hidT_get e n
    have noA : ∀ {b : Addr} {o : Obj} {es : Array DictEntry} {ep : Nat}, s₁.heap.get? b = some o->o.data = .dict es ep->H b = none := fun {b o es ep} e d => by
      cases q : H b with
      | none => rfl
      | some u =>
        have e' : b = a := hA b (by rw [q]; simp)
        subst e'
        rw [ha] at e; cases e
        have d' : Data.seq vs.toArray _ = Data.dict es ep := d
        cases d'
    have nsK : ∀ {b : Addr} {m : Str->Option Value}, s₁.heap.Ns b m->(hidT s₁.heap H).Ns b m := fun {b m} ⟨o, es, ep, e, d, r⟩ => ⟨o, es, ep, base_of e (noA e d), d, r⟩
    have hKb : K.In (hidT s₁.heap H) := fun b o e => base_of (KX b o e) (by
      cases q : H b with
      | none => rfl
      | some u =>
        have e' : b = a := hA b (by rw [q]; simp)
        subst e'
        rw [hK (by rw [q]; simp)] at e; cases e)
    have hM : Mod K mg (hidT s₁.heap H) := ⟨hKb, nsK hns, ⟨mb, nsK hb, hbb⟩, let ⟨mc, h1, h2⟩ := hlim; ⟨mc, nsK h1, h2⟩⟩
    have e0 : Env0 P w K mg (hidT s₁.heap H) callerA [] s₁ H := ⟨rfl, hM, fun b o e => of_hidT e, Nat.le_of_eq (hidT_size _ _), trivial, fun b hb => absurd (show b ∈ ([] : List Addr) from hb) (by simp), hok, .of_eq hg⟩
    refine codeAny_mono ((F _ hKb (nsK hns)).run callerA [] s₁ H ⟨[.ref a], []⟩ [.ref a] [.ref a] _ _ hr e0 (hbind s₁ (.ref a)) (.cons rfl .nil) (hsp H hO hS)) fun r s' h => ?_
    cases r with
    | error e => exact (hCX H e s' h).elim
    | ok fl =>
      cases fl with
      | next => exact False.elim h
      | brk => exact False.elim h
      | cont => exact False.elim h
      | ret u =>
        obtain ⟨v, H', os, bare, un, hok', r', q⟩ := h
        have q' : v = .bl true := q
        subst q'
        obtain rfl : u = Value.bool true := r'
        refine ⟨rfl, OldK.of_keep fun b o e => ?_, os, bare⟩
        cases q : H b with
        | none => exact un.keep b o e q (by intro z; exact absurd (show b ∈ ([] : List Addr) from z) (by simp)) (by simp)
        | some u =>
          rcases hO b with z | ⟨ob, xs, z⟩
          · rw [q] at z; cases z
          · have z2 := un.frzs b ob _ z
            obtain ⟨e1, _⟩ := hok b _ z
            obtain ⟨e2, _⟩ := hok' b _ z2
            rw [e] at e1; cases e1
            exact e2
  cases hk : K.lookup a with
  | some o =>
    have e := KX a o hk
    rw [ha] at e
    cases e
    refine core (fun _ => none) (fun _ => .inl rfl) (.inr ⟨_, vs.toArray, _, hk, rfl, rfl, rfl, by rw [List.size_toArray, lenV]; exact hl, by simpa using rv⟩) (fun b u z => by have z' : (none : Option HO) = some u := z; cases z') (fun b z => absurd rfl z) fun z => absurd rfl z
  | none =>
    refine core (fun b => if b = a then some (.frz { cls := .type "list", data := .seq vs.toArray } (.lst (ns.map V.int))) else none) (fun b => ?_) (.inl (.inr ⟨{ cls := .type "list", data := .seq vs.toArray }, if_pos rfl⟩)) (fun b u z => ?_) (fun b z => ?_) fun _ => hk
    · by_cases hb : b = a
      · exact .inr ⟨_, _, if_pos hb⟩
      · exact .inl (if_neg hb)
    · by_cases hb : b = a
      · have z' := (if_pos hb).symm.trans z
        cases z'
        subst hb
        exact ⟨ha, by rw [List.length_map]; exact hl, vs, _, rv, ha⟩
      · have z' := (if_neg hb).symm.trans z
        cases z'
    · by_cases hb : b = a
      · exact hb
      · exact absurd (if_neg hb) z
open PySem PySem.Spec PyProof.Rows
abbrev KOf {K : PySem.W.Frag} {h : Heap} (_ : K.In h) : PySem.W.Frag := K
theorem walk_of {l : PySem.W.OpenLaw} {n k : Nat} {q : Program} {loose : List Str} {XP : (Str->Option Value)->Heap->Prop} {YP : World->Heap->Prop} {d : DefRec} {K : Params->PySem.W.Frag} {CX : World->CXT} {sp : World->Sp} {x : Str}
    (hn : l.most = some n) (hn2 : n ≤ sizeLine) (hdf : d.params.defaults = []) (hr : Room k callerA)
    (hY : ∀ (w : World) (h : Heap), YP w h->(K w.params).In h)
    (F : ∀ (w : World) (mg : Str->Option Value) (fa : Addr) (h : Heap), (K w.params).In h->h.Ns mainGlobals mg->mg d.name = some (.ref fa) →
      ∃ fd : FuncData, (∀ (s : Shared) (u : Value), BindsTo s fd ⟨[u], []⟩ [(x, u)]) ∧
        ∀ base : Heap, (K w.params).In base->base.Ns mainGlobals mg->FnOk l.prog w (K w.params) mg base (CX w) k fa fd [x] (sp w))
    (hsp : ∀ (w : World) (H : Hp) (a : Addr) (ns : List Int), ns.length ≤ n->Only H->SqL (K w.params) H a (ns.map V.int)->sp w [.ref a] H (fun v _ => v = .bl true) fun _ _ _ => False)
    (hCX : ∀ (w : World) (H : Hp) (s : Shared) (e : Value) (s' : Shared), CX w [] H s (fun _ _ _ => False) e s'->False) :
    PySem.W.WalkO q loose XP YP l.row.toRowW d [] (fun f vs => PySem.call f vs) := by
  refine Att.attach_call hn hdf fun w s₀ s₁ mg mb fa o pm cd doc a vs ns G Y ho hd hcd hmg hobj hints hlen hg => ?_
  have KX := hY w _ Y
  obtain ⟨fd, hb, hF⟩ := F w mg fa _ KX G.T.g hmg
  exact law_call KX G.T.g G.T.b G.T.builtins G.T.nolimit hg hobj hints (Nat.le_trans hlen hn2) hr hF hb (fun H hO hS => hsp w H a ns hlen hO hS) fun H e s' => hCX w H s₁ e s'
end L2
/- THE LAST THEOREM (shape; LID, My.* are yours):
   My.Adr: a structure of the addresses that your layer names (classes, functions); My.Txt K t: a structure (Prop) of the equations over K;
   My.txt_mk : {K} {implicit addresses ..} (e1 : nsIn K mainGlobals "law" = some (some (.ref f))) (e2 : K.lookup f = some ⟨oc, od, .func (fnOf "law" "law" params body scope dV kV doc pm an cdv ct), sl⟩) (e3 : codeIn K cdv "law" = true) .. : ∃ t, My.Txt K t
set_option maxRecDepth 100000 in
set_option maxHeartbeats 0 in
theorem PySem.Challenge.cw_LID_holds : PySem.Challenge.rw_LID.Holds := by
  w_on; o_law; k_head; (case hw => w_witness2)
  k_fill
  refine L2.walk_of (l := PySem.Challenge.rw_LID) (n := 63) (k := 40) (x := "script") (CX := fun w => ..) (sp := fun _ => My.sp_law) rfl (by decide) rfl ⟨rfl, by decide, by decide⟩ (fun w h Y => PySem.W.kIn_of Y) ?F ?S ?C
  case F =>
    intro w mg fa h KX G hmg
    have T : ∃ t, My.Txt (L2.KOf KX) t := by
      dsimp only [L2.KOf]                          -- K must stand as «<heap const> w.params» for k_is
      refine' My.txt_mk ?e1 ?e2 ?e3 ..
      (case e1 => PySem.W.k_is)                    -- in the order: a name -> its address -> its object -> its parts
      (case e2 => PySem.W.k_is)
      ..
    obtain ⟨t, T⟩ := T
    have e0 := hmg.symm.trans (PySem.W.mg_of KX G T.law)
    cases e0                                       -- fa is the law's own address
    exact ⟨_, fun s u => .of_eq rfl, fun base kb nb => My.law_fn T kb nb⟩     -- if «.of_eq rfl» comes too early: refine' ⟨_, ?b, fun base kb nb => My.law_fn T kb nb⟩; exact fun s u => .of_eq rfl
  case S => exact fun w H a ns hl hO hS => ..
  case C => exact ..
(the tactic k_is has no namespace: write k_is) -/
namespace L2
open PySem PySem.Spec PyProof.Rows
def inClass (s : Stmt) (j : Nat) : Stmt := match s with
  | .ClassDef _ _ _ body _ _ _ _ _ _ _ => body.getD j (.Pass ⟨0, 0, 0, 0⟩)
  | _ => .Pass ⟨0, 0, 0, 0⟩
def defArgs (s : Stmt) : Arguments := match s with
  | .FunctionDef _ a _ _ _ _ _ _ _ _ => a
  | _ => { posonlyargs := [], args := [], vararg := none, kwonlyargs := [], kw_defaults := [], kwarg := none, defaults := [] }
def defBody (s : Stmt) : List Stmt := match s with
  | .FunctionDef _ _ b _ _ _ _ _ _ _ => b
  | _ => []
def defScope (s : Stmt) : Scope := match s with
  | .FunctionDef _ _ _ _ _ _ sc _ _ _ => sc
  | _ => { kind := .function, names := [], isGenerator := false, isCoroutine := false }
abbrev E0 : XK := fun _ _ _ => False
structure Fun (K : PySem.W.Frag) (x qual : Str) (st : Stmt) (f : Addr) (fd : FuncData) : Prop where
  ex : ∃ (oc : Value) (od : Option Addr) (kV doc pm : Value) (an : Option Addr) (cdv ct : Value) (osl : Array (Option Value)),
    fd = PySem.W.fnOf x qual (defArgs st) (defBody st) (defScope st) .none kV doc pm an cdv ct /\ K.lookup f = some ⟨oc, od, .func fd, osl⟩ /\ PySem.W.codeIn K cdv qual = true
  kp : PySem.W.keepIn K (.ref f) = true
section
variable {P : Program} {w : World} {K : PySem.W.Frag} {mg : Str->Option Value} {base : Heap}
theorem Fun.binds {x qual : Str} {st : Stmt} {f : Addr} {fd : FuncData} {ps : List Str} (F : Fun K x qual st f fd)
    (h : ∀ (kV doc pm : Value) (an : Option Addr) (cdv ct : Value) (us : List Value), us.length = ps.length->bindArgs (PySem.W.fnOf x qual (defArgs st) (defBody st) (defScope st) .none kV doc pm an cdv ct) ⟨us, []⟩ = pure (ps.zip us)) : Binds K fd ps [] := by
  obtain ⟨oc, od, kV, doc, pm, an, cdv, ct, osl, rfl, lk, hcd⟩ := F.ex
  exact .all (h kV doc pm an cdv ct)
theorem fun_mk {x qual : Str} {st : Stmt} {f : Addr} {oc : Value} {od an : Option Addr} {osl : Array (Option Value)} {kV doc pm cdv ct : Value} (l : K.lookup f = some ⟨oc, od, .func (PySem.W.fnOf x qual (defArgs st) (defBody st) (defScope st) .none kV doc pm an cdv ct), osl⟩)
    (c : PySem.W.codeIn K cdv qual = true) (k : PySem.W.keepIn K (.ref f) = true) : Fun K x qual st f (PySem.W.fnOf x qual (defArgs st) (defBody st) (defScope st) .none kV doc pm an cdv ct) := ⟨⟨oc, od, kV, doc, pm, an, cdv, ct, osl, rfl, l, c⟩, k⟩
end
theorem hu_of {A : Around} {k : Nat} (hr : Room k A) : A.units + 1 < cLine := Nat.lt_of_le_of_lt (Nat.add_le_add_left (by decide : 1 ≤ 64) _) hr.units
theorem small1000 {n : Nat} (h : n ≤ 1000) : n < sizeLine := Nat.lt_of_le_of_lt h (by decide)
section
variable {X : Cx}
theorem pv (i : Nat) {x : Str} {pos : Pos} (hN : X.N[i]? = some x := by rfl) (hv : Vis X.env.scope x := by first | exact Or.inl rfl | exact Or.inr (Or.inl rfl) | exact Or.inr (Or.inr rfl)) (hd : (x == ("__debug__" : Str)) = false := by decide)
    (hcd : (x == ("__classdict__" : Str)) = false := by decide) : PE X (.Name x pos) (tVar i) := pe_var hN hv hd hcd
end
theorem iteF {A B : Prop} (h : B) : if false = true then A else B := by
  rw [if_neg Bool.false_ne_true]
  exact h
theorem iteT {A B : Prop} (h : A) : if true = true then A else B := by
  rw [if_pos rfl]
  exact h
theorem ite2 {c A B : Prop} [Decidable c] (h1 : c->A) (h2 : ¬ c->B) : if c then A else B := by
  by_cases h : c
  · rw [if_pos h]
    exact h1 h
  · rw [if_neg h]
    exact h2 h
def Same (H H' : Hp) : Prop := ∀ b o, H b = some o->H' b = some o
theorem Same.refl (H : Hp) : Same H H := fun _ _ h => h
theorem Same.trans {H H1 H2 : Hp} (a : Same H H1) (b : Same H1 H2) : Same H H2 := fun c o h => b c o (a c o h)
theorem Same.free {H H' : Hp} (e : Same H H') {l : Addr} (h : H' l = Option.none) : H l = Option.none := by
  cases q : H l with
  | none => rfl
  | some o =>
    rw [e l o q] at h
    cases h
theorem Same.seq {K : PySem.W.Frag} {H H' : Hp} {a : Addr} {xs : List V} (e : Same H H') (h : SqL K H a xs) : SqL K H' a xs := by
  rcases h with (h | ⟨o, h⟩) | h
  · exact .inl (.inl (e _ _ h))
  · exact .inl (.inr ⟨o, e _ _ h⟩)
  · exact .inr h
end L2
set_option maxHeartbeats 4000000
namespace L2
open PySem PySem.Spec PyProof.Rows
section
variable {κ : Type} [DecidableEq κ]
def valV (kvs : List (κ × V)) (k : κ) : Option V := (kvs.find? fun kv => decide (kv.1 = k)).map (·.2)
def putK (kvs : List (κ × V)) (k : κ) (v : V) : List (κ × V) :=
  if (kvs.any fun kv => decide (kv.1 = k)) = true then kvs.map (fun kv => if kv.1 = k then (kv.1, v) else kv) else kvs ++ [(k, v)]
def dropK (kvs : List (κ × V)) (k : κ) : List (κ × V) := kvs.filter fun kv => decide (kv.1 ≠ k)
theorem valV_pos {p : κ × V} {r : List (κ × V)} {k : κ} (e : p.1 = k) : valV (p :: r) k = some p.2 := by simp [valV, List.find?_cons, e]
theorem valV_neg {p : κ × V} {r : List (κ × V)} {k : κ} (e : ¬ p.1 = k) : valV (p :: r) k = valV r k := by simp [valV, List.find?_cons, e]
theorem valV_any (k : κ) : ∀ kvs : List (κ × V), (kvs.any fun kv => decide (kv.1 = k)) = (valV kvs k).isSome
  | [] => rfl
  | p :: r => by
    rw [List.any_cons]
    by_cases e : p.1 = k
    · simp only [valV_pos e, decide_eq_true e, Bool.true_or, Option.isSome_some]
    · rw [valV_neg e, decide_eq_false e, Bool.false_or]; exact valV_any k r
theorem valV_map (k j : κ) (y : V) : ∀ kvs : List (κ × V), valV (kvs.map fun kv => if kv.1 = k then (kv.1, y) else kv) j = (valV kvs j).map fun x => if j = k then y else x
  | [] => rfl
  | p :: r => by
    have ih := valV_map k j y r
    rw [List.map_cons]
    by_cases h : p.1 = k
    · rw [if_pos h]
      by_cases e : p.1 = j
      · rw [valV_pos (p := (p.1, y)) e, valV_pos e, Option.map_some, if_pos (e.symm.trans h)]
      · rw [valV_neg (p := (p.1, y)) e, valV_neg e, ih]
    · rw [if_neg h]
      by_cases e : p.1 = j
      · rw [valV_pos (p := p) e, valV_pos e, Option.map_some, if_neg (fun z => h (e.trans z))]
      · rw [valV_neg (p := p) e, valV_neg e, ih]
theorem valV_snoc (k j : κ) (y : V) : ∀ kvs : List (κ × V), valV kvs k = none->valV (kvs ++ [(k, y)]) j = if j = k then some y else valV kvs j
  | [], _ => by
    by_cases e : k = j
    · rw [if_pos e.symm]; exact valV_pos (p := (k, y)) e
    · rw [if_neg (fun z => e z.symm)]; exact valV_neg (p := (k, y)) e
  | p :: r, hn => by
    rw [List.cons_append]
    have hk : ¬ p.1 = k := fun z => by rw [valV_pos z] at hn; cases hn
    rw [valV_neg hk] at hn
    have ih := valV_snoc k j y r hn
    by_cases e : p.1 = j
    · rw [valV_pos e, valV_pos e, if_neg (fun z => hk (e.trans z))]
    · rw [valV_neg e, valV_neg e, ih]
theorem valV_put (kvs : List (κ × V)) (k j : κ) (y : V) : valV (putK kvs k y) j = if j = k then some y else valV kvs j := by
  unfold putK
  by_cases a : (kvs.any fun kv => decide (kv.1 = k)) = true
  · rw [if_pos a, valV_map]
    rw [valV_any] at a
    by_cases e : j = k
    · obtain ⟨x, hx⟩ := Option.isSome_iff_exists.mp a
      rw [if_pos e, e, hx, Option.map_some, if_pos rfl]
    · rw [if_neg e]
      cases valV kvs j with
      | none => rfl
      | some x => rw [Option.map_some, if_neg e]
  · rw [if_neg a]
    refine valV_snoc k j y kvs ?_
    rw [valV_any] at a
    cases q : valV kvs k with
    | none => rfl
    | some x => rw [q] at a; exact (a rfl).elim
theorem length_putK (kvs : List (κ × V)) (k : κ) (v : V) : (putK kvs k v).length ≤ kvs.length + 1 := by
  unfold putK
  split
  · rw [List.length_map]; omega
  · rw [List.length_append, List.length_cons, List.length_nil]; omega
theorem putK_new {kvs : List (κ × V)} {k : κ} (v : V) (h : valV kvs k = none) : putK kvs k v = kvs ++ [(k, v)] := by
  unfold putK
  rw [valV_any, h]
  exact if_neg (by decide)
theorem RelO.isSome_eq {o : Option V} {u : Option Value} (r : RelO o u) : o.isSome = u.isSome := by
  cases o with
  | none => cases u with
    | none => rfl
    | some _ => exact (show False from r).elim
  | some _ => cases u with
    | none => exact (show False from r).elim
    | some _ => rfl
theorem KV.val {kvs : List (κ × V)} {vs : List (κ × Value)} (r : KV kvs vs) (k : κ) : RelO (valV kvs k) (valueAt vs k) := by
  unfold KV at r
  induction r with
  | nil => exact True.intro
  | @cons p q ps qs h t ih =>
    obtain ⟨h1, h2⟩ := h
    by_cases e : p.1 = k
    · have e' : q.1 = k := h1.symm.trans e
      have b : valueAt (q :: qs) k = some q.2 := by simp [valueAt, List.find?_cons, e']
      rw [valV_pos e, b]; exact h2
    · have e' : ¬ q.1 = k := fun z => e (h1.trans z)
      have b : valueAt (q :: qs) k = valueAt qs k := by simp [valueAt, List.find?_cons, e']
      rw [valV_neg e, b]; exact ih
theorem KV.any {kvs : List (κ × V)} {vs : List (κ × Value)} (r : KV kvs vs) (k : κ) : (kvs.any fun kv => decide (kv.1 = k)) = vs.any fun kv => decide (kv.1 = k) := by
  unfold KV at r
  induction r with
  | nil => rfl
  | cons h t ih => rw [List.any_cons, List.any_cons, ih, h.1]
theorem KV.repl {kvs : List (κ × V)} {vs : List (κ × Value)} (r : KV kvs vs) (k : κ) {y : V} {u : Value} (ry : RelV y u) :
    KV (kvs.map fun kv => if kv.1 = k then (kv.1, y) else kv) (vs.map fun kv => if kv.1 = k then (kv.1, u) else kv) := by
  unfold KV at r ⊢
  induction r with
  | nil => exact .nil
  | @cons p q ps qs h t ih =>
    rw [List.map_cons, List.map_cons]
    refine .cons ?_ ih
    obtain ⟨h1, h2⟩ := h
    by_cases e : p.1 = k
    · rw [if_pos e, if_pos (h1.symm.trans e)]; exact ⟨h1, ry⟩
    · rw [if_neg e, if_neg (fun z => e (h1.trans z))]; exact ⟨h1, h2⟩
theorem KV.put {kvs : List (κ × V)} {vs : List (κ × Value)} (r : KV kvs vs) (k : κ) {y : V} {u : Value} (ry : RelV y u) : KV (putK kvs k y) (stored vs k u) := by
  unfold putK stored
  rw [r.any k]
  by_cases e : (vs.any fun kv => decide (kv.1 = k)) = true
  · rw [if_pos e, if_pos e]; exact r.repl k ry
  · rw [if_neg e, if_neg e]; exact Paired.snoc r ⟨rfl, ry⟩
theorem KV.drop {kvs : List (κ × V)} {vs : List (κ × Value)} (r : KV kvs vs) (k : κ) : KV (dropK kvs k) (without vs k) := by
  unfold KV at r ⊢
  unfold dropK without
  induction r with
  | nil => exact .nil
  | @cons p q ps qs h t ih =>
    obtain ⟨h1, h2⟩ := h
    rw [List.filter_cons, List.filter_cons]
    by_cases e : p.1 = k
    · have a : ¬ decide (p.1 ≠ k) = true := by simp [e]
      have b : ¬ decide (q.1 ≠ k) = true := by simp [h1.symm.trans e]
      rw [if_neg a, if_neg b]; exact ih
    · have e' : ¬ q.1 = k := fun z => e (h1.trans z)
      have a : decide (p.1 ≠ k) = true := by simp [e]
      have b : decide (q.1 ≠ k) = true := by simp [e']
      rw [if_pos a, if_pos b]; exact .cons ⟨h1, h2⟩ ih
theorem KV.keys {kvs : List (κ × V)} {vs : List (κ × Value)} (r : KV kvs vs) : kvs.map (·.1) = vs.map (·.1) := by
  unfold KV at r
  induction r with
  | nil => rfl
  | cons h t ih => rw [List.map_cons, List.map_cons, ih, h.1]
theorem KV.length {kvs : List (κ × V)} {vs : List (κ × Value)} (r : KV kvs vs) : kvs.length = vs.length := Paired.length r
theorem dropK_le (kvs : List (κ × V)) (k : κ) : (dropK kvs k).length ≤ kvs.length := List.length_filter_le _ _
end
theorem kV_is {P : Program} {w : World} {k : Key} {u : Value} (r : RelV (kV k) u) : (mixKind P w).is k u = true := by
  cases k with
  | inl i => obtain ⟨t, e⟩ := (show ∃ t, u = Value.int i t from r); subst e; exact mixKind_int P w i t
  | inr x => obtain ⟨t, e⟩ := (show ∃ t, u = Value.str x t from r); subst e; exact mixKind_str P w x t
theorem items_are {P : Program} {w : World} : ∀ {ks : List Key} {us : List Value}, Vals (ks.map kV) us->ItemsAre (mixKind P w) ks us
  | [], _, r => by rw [List.map_nil] at r; cases r; exact .nil
  | k :: ks, _, r => by
    rw [List.map_cons] at r
    cases r with
    | cons h t => exact .cons (kV_is h) (items_are t)
abbrev KT (H : Hp) : List (List Key × V)->List (List Key × Addr × Value)->Prop := Paired fun p q => p.1 = q.1 /\ H q.2.1 = some (.tup (p.1.map kV)) /\ RelV p.2 q.2.2
theorem KT.val {H : Hp} {kvs : List (List Key × V)} {xs : List (List Key × Addr × Value)} (r : KT H kvs xs) (k : List Key) : RelO (valV kvs k) ((atKey xs k).map (·.2)) := by
  induction r with
  | nil => exact True.intro
  | @cons p q ps qs h t ih =>
    obtain ⟨h1, _, h2⟩ := h
    by_cases e : p.1 = k
    · have e' : q.1 = k := h1.symm.trans e
      have b : atKey (q :: qs) k = some q.2 := by simp [atKey, List.find?_cons, e']
      rw [valV_pos e, b]; exact h2
    · have e' : ¬ q.1 = k := fun z => e (h1.trans z)
      have b : atKey (q :: qs) k = atKey qs k := by simp [atKey, List.find?_cons, e']
      rw [valV_neg e, b]; exact ih
theorem KT.repl {H : Hp} {kvs : List (List Key × V)} {xs : List (List Key × Addr × Value)} (r : KT H kvs xs) (k : List Key) {y : V} {u : Value} (ry : RelV y u) :
    KT H (kvs.map fun kv => if kv.1 = k then (kv.1, y) else kv) (xs.map (putAt k u)) := by
  induction r with
  | nil => exact .nil
  | @cons p q ps qs h t ih =>
    rw [List.map_cons, List.map_cons]
    refine .cons ?_ ih
    obtain ⟨h1, h2, h3⟩ := h
    unfold putAt
    by_cases e : p.1 = k
    · rw [if_pos e, if_pos (h1.symm.trans e)]; exact ⟨h1, h2, ry⟩
    · rw [if_neg e, if_neg (fun z => e (h1.trans z))]; exact ⟨h1, h2, h3⟩
theorem KT.put {H : Hp} {kvs : List (List Key × V)} {xs : List (List Key × Addr × Value)} (r : KT H kvs xs) (k : List Key) {b : Addr} {y : V} {u : Value} (hb : H b = some (.tup (k.map kV))) (ry : RelV y u) :
    KT H (putK kvs k y) (storedH xs k b u) := by
  have e : (kvs.any fun kv => decide (kv.1 = k)) = (atKey xs k).isSome := by
    rw [valV_any, (r.val k).isSome_eq, Option.isSome_map]
  unfold putK storedH
  rw [e]
  by_cases q : (atKey xs k).isSome = true
  · rw [if_pos q, if_pos q]; exact r.repl k ry
  · rw [if_neg q, if_neg q]; exact Paired.snoc r ⟨rfl, hb, ry⟩
theorem KT.keeps {H H' : Hp} {kvs : List (List Key × V)} {xs : List (List Key × Addr × Value)} (r : KT H kvs xs) (ht : ∀ b ys, H b = some (.tup ys)->H' b = some (.tup ys)) : KT H' kvs xs :=
  Paired.mapP r fun _ _ z => ⟨z.1, ht _ _ z.2.1, z.2.2⟩
section
variable {P : Program} {w : World} {H : Hp} {h : Heap} {a : Addr}
theorem rd_of {u : HO} (ok : HOk P w H h) (e : Rd H a u) : ObjOk P w H h a u := e.ok ok
theorem dk_rd {kvs : List (Key × V)} (ok : HOk P w H h) (e : Rd H a (.dK kvs)) : kvs.length ≤ sizeLine /\ (a == sysModules) = false /\ ∃ vs, KV kvs vs /\ h.DictOf (mixKind P w) a vs :=
  show ObjOk P w H h a (.dK kvs) from rd_of ok e
theorem dk_of {kvs : List (Key × V)} (ok : HOk P w H h) (e : H a = some (.dK kvs)) : kvs.length ≤ sizeLine /\ (a == sysModules) = false /\ ∃ vs, KV kvs vs /\ h.DictOf (mixKind P w) a vs := dk_rd ok (.inl e)
theorem key_of {ks : List Key} (ok : HOk P w H h) (e : H a = some (.tup (ks.map kV))) : (tupleKind (mixKind P w)).is h ks a := by
  obtain ⟨_, its, r, o, h1, h2, n, h3⟩ := (show ObjOk P w H h a (.tup (ks.map kV)) from ok a _ e)
  exact ⟨o, its.toArray, n, h1, h2, h3, by simpa using items_are r⟩
theorem dt_rd {kvs : List (List Key × V)} (ok : HOk P w H h) (e : Rd H a (.dT kvs)) : kvs.length ≤ sizeLine /\ (a == sysModules) = false ∧
    ∃ xs, KT H kvs xs /\ h.DictOfH (tupleKind (mixKind P w)) a xs := by
  obtain ⟨z, y, xs, r, o, es, ep, h1, h2, h3, h4, h5⟩ := (show ObjOk P w H h a (.dT kvs) from rd_of ok e)
  refine ⟨z, y, xs, r, o, es, ep, h1, h2, h3, h4, fun x hx => ?_, h5⟩
  have all : ∀ {l : List (List Key × V)} {m : List (List Key × Addr × Value)}, KT H l m->∀ x ∈ m, (tupleKind (mixKind P w)).is h x.1 x.2.1 := by
    intro l m q
    induction q with
    | nil => intro x hx; exact nomatch hx
    | @cons p q ps qs hq t ih =>
      intro x hx
      rcases List.mem_cons.mp hx with e | hx
      · subst e
        exact key_of ok (by rw [← hq.1]; exact hq.2.1)
      · exact ih x hx
  exact all r x hx
theorem dt_of {kvs : List (List Key × V)} (ok : HOk P w H h) (e : H a = some (.dT kvs)) : kvs.length ≤ sizeLine /\ (a == sysModules) = false ∧
    ∃ xs, KT H kvs xs /\ h.DictOfH (tupleKind (mixKind P w)) a xs := dt_rd ok (.inl e)
end
def DGet (H : Hp) (a : Addr) (y : V) (r : Option V) : Prop :=
  (∃ kvs k, Rd H a (.dK kvs) /\ y = kV k /\ r = valV kvs k) ∨ ∃ kvs k b, Rd H a (.dT kvs) /\ y = .ref b /\ H b = some (.tup (k.map kV)) /\ r = valV kvs k
def DPut (H : Hp) (a : Addr) (y v : V) (H' : Hp) : Prop :=
  (∃ kvs k, H a = some (.dK kvs) /\ y = kV k /\ kvs.length < sizeLine /\ H' = upd H a (.dK (putK kvs k v))) ∨
  ∃ kvs k b, H a = some (.dT kvs) /\ y = .ref b /\ H b = some (.tup (k.map kV)) /\ kvs.length < sizeLine /\ H' = upd H a (.dT (putK kvs k v))
theorem DGet.k {H : Hp} {a : Addr} {kvs : List (Key × V)} {k : Key} (e : H a = some (.dK kvs)) : DGet H a (kV k) (valV kvs k) := .inl ⟨kvs, k, .inl e, rfl, rfl⟩
theorem DPut.k {H : Hp} {a : Addr} {kvs : List (Key × V)} {k : Key} {v : V} (e : H a = some (.dK kvs)) (hl : kvs.length < sizeLine) : DPut H a (kV k) v (upd H a (.dK (putK kvs k v))) := .inl ⟨kvs, k, e, rfl, hl, rfl⟩
section
variable {X : Cx} {pins : List (Addr × Obj)} {σ : St} {H : Hp} {s : Shared} {a : Addr} {y v : V} {u r : Value} {o : Option V} {A : Around} {E : Value->Shared->Prop}
theorem Inv.big (I : Inv X pins σ H s) : sysModules < s.heap.objs.size := by
  have h : mainGlobals < s.heap.objs.size := (I.mod.glob.keeps I.bk).lt
  exact Nat.lt_trans (by decide) h
theorem d_getItem {Q : Value->Shared->Prop} (hu : A.units + 1 < cLine) (I : Inv X pins σ H s) (g : DGet H a y (some v)) (ry : RelV y u) (h : ∀ w' s', Inv X pins σ H s'->RelV v w'->Q w' s') :
    wpAny (model X.prog X.w) A (getItem (.ref a) u) Q E s := by
  rcases g with ⟨kvs, k, e, ey, l⟩ | ⟨kvs, k, b, e, ey, eb, l⟩
  · subst ey
    obtain ⟨z, hd, vs, rel, dd⟩ := dk_rd I.hok e
    obtain ⟨w', hw, rw'⟩ := RelO.some_of (v := v) (o := valueAt vs k) (by rw [l]; exact rel.val k)
    exact wpAny_getItem_of (kV_is ry) dd.mapOf hw (h w' _ (I.tok _) rw')
  · subst ey
    cases (show u = Value.ref b from ry)
    obtain ⟨z, hd, xs, rel, dd⟩ := dt_rd I.hok e
    obtain ⟨w', hw, rw'⟩ := RelO.some_of (v := v) (o := (atKey xs k).map (·.2)) (by rw [l]; exact rel.val k)
    obtain ⟨p, hp, hp2⟩ := Option.map_eq_some_iff.mp hw
    refine wpAny_getItem_heap (tupleKind_room_in1 hu) (key_of I.hok eb) dd hp ?_
    rw [hp2]
    exact h w' _ (I.tok _) rw'
theorem d_notIn {Q : Value->Shared->Prop} (hu : A.units + 1 < cLine) (I : Inv X pins σ H s) (g : DGet H a y o) (ry : RelV y u) (h : ∀ s', Inv X pins σ H s'->Q (.bool (!o.isSome)) s') :
    wpAny (model X.prog X.w) A (compareOp .NotIn u (.ref a)) Q E s := by
  rcases g with ⟨kvs, k, e, ey, l⟩ | ⟨kvs, k, b, e, ey, eb, l⟩
  · subst ey
    obtain ⟨z, hd, vs, rel, dd⟩ := dk_rd I.hok e
    refine wpAny_notIn_of (kV_is ry) hd dd.mapOf ?_
    rw [← (rel.val k).isSome_eq, ← l]
    exact h _ (I.tok _)
  · subst ey
    cases (show u = Value.ref b from ry)
    obtain ⟨z, hd, xs, rel, dd⟩ := dt_rd I.hok e
    refine wpAny_notIn_heap (tupleKind_room_in1 hu) (key_of I.hok eb) hd dd ?_
    have q := (rel.val k).isSome_eq
    rw [Option.isSome_map] at q
    rw [← q, ← l]
    exact h _ (I.tok _)
theorem d_write {h' : Heap} {t' : Nat} {ob : HO} (I : Inv X pins σ H s) (mu : Mut (H a)) (hs : Heap.SameBut a s.heap h') (he : ∃ q, h'.get? a = some q) (new : ObjOk X.prog X.w (upd H a ob) h' a ob) :
    Inv X pins σ (upd H a ob) { s with heap := h', toks := t' } :=
  I.write (x := a) (e := a) mu (.inl rfl) (fun b q hb z => (hs.2 b hb).trans z) he new
theorem dk_new {P : Program} {w : World} {H' : Hp} {h' : Heap} {kvs : List (Key × V)} {vs : List (Key × Value)} (z : kvs.length ≤ sizeLine) (hd : (a == sysModules) = false) (rel : KV kvs vs) (dd : h'.DictOf (mixKind P w) a vs) :
    ObjOk P w H' h' a (.dK kvs) := ⟨z, hd, vs, rel, dd⟩
theorem d_setItem {H' : Hp} {Q : Unit->Shared->Prop} (hu : A.units + 1 < cLine) (I : Inv X pins σ H s) (g : DPut H a y v H') (ry : RelV y u) (rv : RelV v r) (h : ∀ s', Inv X pins σ H' s'->Q () s') :
    wpAny (model X.prog X.w) A (setItem (.ref a) u r) Q E s := by
  rcases g with ⟨kvs, k, e, ey, l, eH⟩ | ⟨kvs, k, b, e, ey, eb, l, eH⟩
  · subst ey eH
    obtain ⟨z, hd, vs, rel, dd⟩ := dk_of I.hok e
    have hz : vs.length ≤ sizeLine := by rw [← rel.length]; exact z
    have hl : (putK kvs k v).length ≤ sizeLine := by have := length_putK kvs k v; omega
    refine wpAny_setItem_pairs (hsz := hz) (kV_is ry) dd fun h' dd' hs => h _ ?_
    have he : ∃ q, h'.get? a = some q := let ⟨q, _, _, hq, _⟩ := dd'; ⟨q, hq⟩
    exact d_write I (by rw [e]; exact True.intro) hs he (dk_new hl hd (rel.put k rv) dd')
  · subst ey eH
    cases (show u = Value.ref b from ry)
    obtain ⟨z, hd, xs, rel, dd⟩ := dt_of I.hok e
    have hz : xs.length ≤ sizeLine := by rw [← Paired.length rel]; exact z
    have hl : (putK kvs k v).length ≤ sizeLine := by have := length_putK kvs k v; omega
    refine wpAny_setItem_heap (hsz := hz) (tupleKind_room_in1 hu) (key_of I.hok eb) dd fun h' dd' hs => h _ ?_
    obtain ⟨q, es, ep, hq, h2, h3, h4, _, h5⟩ := dd'
    refine d_write I (by rw [e]; exact True.intro) hs ⟨q, hq⟩ ⟨hl, hd, _, (rel.put k eb rv).keeps fun c ys ec => ?_, q, es, ep, hq, h2, h3, h4, h5⟩
    rw [upd_ne (ne_of ec e (fun z => nomatch z))]
    exact ec
end
section
variable {X : Cx} {pins : List (Addr × Obj)} {σ : St} {H : Hp} {s : Shared} {a : Addr} {kvs : List (Key × V)} {k : Key} {u : Value} {A : Around} {E : Value->Shared->Prop}
theorem d_pop {v : V} {more : List Value} {Q : Value->Shared->Prop} (I : Inv X pins σ H s) (e : H a = some (.dK kvs)) (ry : RelV (kV k) u) (l : valV kvs k = some v) (hm : more = [] ∨ ∃ x, more = [x])
    (h : ∀ w' s', Inv X pins σ (upd H a (.dK (dropK kvs k))) s'->RelV v w'->Q w' s') : wpAny (model X.prog X.w) A (call (.builtin "dict.pop") (.ref a :: u :: more)) Q E s := by
  obtain ⟨z, hd, vs, rel, dd⟩ := dk_of I.hok e
  obtain ⟨w', hw, rw'⟩ := RelO.some_of (v := v) (o := valueAt vs k) (by rw [← l]; exact rel.val k)
  have hp : (keyPart u).isSome = true := by
    cases k with
    | inl i => obtain ⟨t, q⟩ := (show ∃ t, u = Value.int i t from ry); subst q; rfl
    | inr x => obtain ⟨t, q⟩ := (show ∃ t, u = Value.str x t from ry); subst q; rfl
  have ha : argsOk "dict.pop" ⟨.ref a :: u :: more, []⟩ := by
    rcases hm with q | ⟨x, q⟩
    · subst q; exact PySem.F.args_dict_pop_2 _ _
    · subst q; exact PySem.F.args_dict_pop_3 _ _ _
  refine call_meetsIn PySem.F.slot_dict_pop dd.typeIs PySem.F.entry_dict_pop ha (meets_dict_pop_there (mixKind X.prog X.w) a (kV_is ry) more hm hp)
    ⟨vs, w', dd, by rw [← rel.length]; exact z, hw, fun h' dd' hs => h w' _ ?_ rw'⟩
  have he : ∃ q, h'.get? a = some q := let ⟨q, _, _, hq, _⟩ := dd'; ⟨q, hq⟩
  exact d_write I (by rw [e]; exact True.intro) hs he (dk_new (Nat.le_trans (dropK_le kvs k) z) hd (rel.drop k) dd')
end
def NoSl (i : Expr) : Prop := ∀ ov iv, subscripted i false ov iv = operate [ov, iv] (getItem ov iv)
theorem subD_of {prog : Program} {w : World} {A : Around} {E : Value->Shared->Prop} {s : Shared} {env : Env} {value slice : Expr} {pos : Pos} {T id : String} {Q : Value->Shared->Prop}
    (hl : typeLookup (.type T) "__getitem__" = pure (some (.builtin id))) (hs : NoSl slice)
    (h : wpAny (model prog w) A (eval value env) (fun o s₁ => wpAny (model prog w) A (eval slice env) (fun i s₂ => s₂.TypeIs o T /\ wpAny (model prog w) A (getItem o i) Q E s₂) E s₁) E s) :
    wpAny (model prog w) A (eval (.Subscript value slice pos) env) Q E s := by
  refine Subscript_ (wpAny_mono h (fun o s₁ h₁ => wpAny_mono h₁ (fun i s₂ h₂ => ?_) fun _ _ x => x) fun _ _ x => x)
  obtain ⟨hT, h₂⟩ := h₂
  unfold subscriptTail
  refine wpAny_bind ?_
  rw [getitemInPython_of_ne hT.not_modules]
  refine wpAny_bind (wpAny_specialOf hT hl ?_)
  have fin : wpAny (model prog w) A (subscripted slice false o i) (fun r s₃ => wpAny (model prog w) A (letTemporaryGo value o r >>= fun _ => pure r) Q E s₃) E s₂ := by
    rw [hs o i]
    exact wpAny_operating (wpAny_mono h₂ (fun r s₃ h₃ => wpAny_bind (wpAny_letTemporaryGo (wpAny_pure h₃))) fun _ _ x => x)
  first
    | exact wpAny_pure (wpAny_bind fin)
    | exact wpAny_bind (wpAny_pure (wpAny_bind fin))
    | exact wpAny_bind fin
theorem dict_typeIs {X : Cx} {pins : List (Addr × Obj)} {σ : St} {H : Hp} {s : Shared} {a : Addr} {y : V} {o : Option V} (I : Inv X pins σ H s) (g : DGet H a y o) : s.TypeIs (.ref a) "dict" := by
  rcases g with ⟨kvs, k, e, _, _⟩ | ⟨kvs, k, b, e, _, _, _⟩
  · obtain ⟨_, _, vs, _, dd⟩ := dk_rd I.hok e
    exact dd.typeIs
  · obtain ⟨_, _, xs, _, dd⟩ := dt_rd I.hok e
    exact dd.typeIs
def tDGet (td ty : TE) : TE := fun σ H Q => td σ H fun x H1 => ty σ H1 fun y H2 => ∃ a v, x = .ref a /\ DGet H2 a y (some v) /\ Q v H2
def tDNotIn (ty td : TE) : TE := fun σ H Q => ty σ H fun y H1 => td σ H1 fun x H2 => ∃ a o, x = .ref a /\ DGet H2 a y o /\ Q (.bl (!o.isSome)) H2
def sDPut (td ty tv : TE) : TS := fun D σ H => tv σ H fun v H1 => td σ H1 fun x H2 => ty σ H2 fun y H3 => ∃ a H4, x = .ref a /\ DPut H3 a y v H4 /\ D.nx σ H4
section
variable {X : Cx} {o i e value : Expr} {pos pos' tpos : Pos} {td ty tv : TE}
theorem pe_dget (hu : X.A.units + 1 < cLine) (ho : PE X o td) (hi : PE X i ty) (hs : NoSl i) : PE X (.Subscript o i pos) (tDGet td ty) := by
  intro pins s σ H Q I h
  refine subD_of PySem.F.slot_dict_getitem.lookup hs (thn (ho pins s σ H _ I h) fun u s1 ⟨x, H1, I1, rx, q1⟩ => thn (hi pins s1 σ H1 _ I1 q1) fun iv s2 ⟨y, H2, I2, ry, a, v, ex, g, q2⟩ => ?_)
  subst ex
  obtain rfl : u = Value.ref a := rx
  exact ⟨dict_typeIs I2 g, d_getItem hu I2 g ry fun w' s3 I3 rw' => ⟨v, H2, I3, rw', q2⟩⟩
theorem pc_dnotin (hu : X.A.units + 1 < cLine) (hi : PE X i ty) (ho : PE X o td) : PC X .NotIn i o (tDNotIn ty td) := by
  intro pins s σ H Q I h
  refine thn (hi pins s σ H _ I h) fun iv s1 ⟨y, H1, I1, ry, q1⟩ => thn (ho pins s1 σ H1 _ I1 q1) fun u s2 ⟨x, H2, I2, rx, a, ov, ex, g, q2⟩ => ?_
  subst ex
  obtain rfl : u = Value.ref a := rx
  exact d_notIn hu I2 g ry fun s3 I3 => ⟨.bl (!ov.isSome), H2, I3, rfl, q2⟩
theorem ps_dput (hu : X.A.units + 1 < cLine) (ho : PE X o td) (hi : PE X i ty) (hv : PE X value tv) (hs : swapsWith value (some (.Subscript o i pos')) pos.line X.env = pure false) :
    PS X (.Assign [.Subscript o i pos'] value pos) (sDPut td ty tv) := by
  intro pins s σ H D I h
  refine wpAny_Assign_Subscript (thn (hv pins s σ H _ I h) fun r s1 ⟨v, H1, I1, rv, q1⟩ => thn (ho pins s1 σ H1 _ I1 q1) fun u s2 ⟨x, H2, I2, rx, q2⟩ => thn (hi pins s2 σ H2 _ I2 q2) fun iv s3 ⟨y, H3, I3, ry, a, H4, ex, g, q3⟩ => ?_) hs
  subst ex
  obtain rfl : u = Value.ref a := rx
  exact d_setItem hu I3 g ry rv fun s4 I4 => ⟨σ, H4, I4, q3⟩
end
theorem dk_empty {P : Program} {w : World} {H : Hp} (h : Heap) (hb : sysModules < h.objs.size) : ObjOk P w H (h.push { cls := .type "dict", data := .dict #[] }) h.objs.size (.dK []) :=
  ⟨Nat.zero_le _, beq_eq_false_iff_ne.mpr (Ne.symm (Nat.ne_of_lt hb)), [], .nil, Heap.DictOf.new h⟩
def tDNewK : TE := fun _ H Q => ∀ p, H p = none->Q (.ref p) (upd H p (.dK []))
section
variable {X : Cx} {pos : Pos}
theorem pe_dnewK : PE X (.Dict [] [] pos) tDNewK := fun pins s σ H Q I h =>
  wpAny_Dict_empty ⟨.ref s.heap.objs.size, _, I.laid (a := s.heap.objs.size) (o := .dK []) (t' := s.toks) (fun _ _ q => Heap.get?_push_of_some _ q) (Nat.le_refl _) (dk_empty s.heap I.big), rfl, h _ (I.hok.fresh (Nat.le_refl _))⟩
end
structure M1 (X : Cx) (o : Expr) (m : Str) (apos : Pos) (e : Expr) (cpos : Pos) : Prop where
  base : attributeBase o m X.env (eval o X.env) = eval o X.env
  few : ((backTo cpos (starEach [e] X.env)).all (fun x => !x.1) && (backToKw cpos (keywordEach [] X.env)).all (fun x => x.1.isSome)
    && decide (([e] : List Expr).length + ([] : List Keyword).length + (if ([] : List Keyword).isEmpty then 0 else 1) < 30)) = true
  line : (apos.endLine == cpos.line) = true
  trees : backTo cpos (starEach [e] X.env) = [(false, eval e X.env)]
def IsD (H : Hp) (a : Addr) : Prop := (∃ kvs, Rd H a (.dK kvs)) ∨ ∃ kvs, Rd H a (.dT kvs)
theorem isD_at {X : Cx} {pins : List (Addr × Obj)} {σ : St} {H : Hp} {s : Shared} {a : Addr} (I : Inv X pins σ H s) (d : IsD H a) :
    s.TypeIs (.ref a) "dict" /\ (∀ b, Value.ref a = .ref b->∃ ob, s.heap.get? b = some ob /\ ob.dict = none) /\ (a == sysModules) = false := by
  rcases d with ⟨kvs, e⟩ | ⟨kvs, e⟩
  · obtain ⟨_, hd, vs, _, dd⟩ := dk_rd I.hok e
    refine ⟨dd.typeIs, fun b q => ?_, hd⟩
    cases q
    obtain ⟨ob, _, _, h1, h2, _⟩ := dd
    exact ⟨ob, h1, h2.2.1⟩
  · obtain ⟨_, hd, xs, _, dd⟩ := dt_rd I.hok e
    refine ⟨dd.typeIs, fun b q => ?_, hd⟩
    cases q
    obtain ⟨ob, _, _, h1, h2, _⟩ := dd
    exact ⟨ob, h1, h2.2.1⟩
def tDPop1 (td ty : TE) : TE := fun σ H Q => td σ H fun x H1 => ∃ a, x = .ref a /\ IsD H1 a /\ ty σ H1 fun y H2 => ∃ kvs k v, H2 a = some (.dK kvs) /\ y = kV k /\ valV kvs k = some v /\ Q v (upd H2 a (.dK (dropK kvs k)))
section
variable {X : Cx} {o e f : Expr} {apos cpos : Pos} {td ty tx : TE}
theorem pe_dpop1 (ho : PE X o td) (he : PE X e ty) (m : M1 X o "pop" apos e cpos) : PE X (.Call (.Attribute o "pop" apos) [e] [] cpos) (tDPop1 td ty) := by
  intro pins s σ H Q I h
  refine wpAny_Call_method m.base m.few m.line PySem.F.plainAttrs_dict PySem.F.slot_dict_pop PySem.F.type_dict_pop (thn (ho pins s σ H _ I h) fun u s1 ⟨x, H1, I1, rx, a, ex, d, q1⟩ => ?_)
  subst ex
  obtain rfl : u = Value.ref a := rx
  obtain ⟨t1, t2, _⟩ := isD_at I1 d
  refine ⟨t1, t2, ?_⟩
  rw [m.trees]
  refine Calls.callWith_builtin rfl (Calls.evalArgs_plain (Calls.spliced_cons (thn (he pins s1 σ H1 _ I1 q1) fun iv s2 ⟨y, H2, I2, ry, kvs, k, v, ea, ey, l, q2⟩ => Calls.spliced_nil ?_)))
  subst ey
  exact d_pop I2 ea ry l (.inl rfl) fun w' s3 I3 rw' => ⟨v, _, I3, rw', q2⟩
end
open PySem PySem.Spec PyProof.Rows
section
variable {κ : Type} [DecidableEq κ]
theorem valV_not {kvs : List (κ × V)} {k : κ} (h : valV kvs k = none) : ¬ k ∈ kvs.map (·.1) := by
  intro m
  obtain ⟨p, hp, e⟩ := List.mem_map.mp m
  have q : (kvs.any fun kv => decide (kv.1 = k)) = true := List.any_eq_true.mpr ⟨p, hp, decide_eq_true e⟩
  rw [valV_any, h] at q
  exact absurd q (by simp)
theorem nd_snoc : ∀ {l : List κ} {k : κ}, l.Nodup->¬ k ∈ l->(l ++ [k]).Nodup
  | [], k, _, _ => by simp
  | a :: r, k, h, hk => by
    obtain ⟨h1, h2⟩ := List.nodup_cons.mp h
    show (a :: (r ++ [k])).Nodup
    refine List.nodup_cons.mpr ⟨fun m => ?_, nd_snoc h2 fun m => hk (List.mem_cons.mpr (Or.inr m))⟩
    rcases List.mem_append.mp m with q | q
    · exact h1 q
    · exact hk (List.mem_cons.mpr (Or.inl (List.mem_singleton.mp q).symm))
theorem nd_putK {kvs : List (κ × V)} {k : κ} (v : V) (hn : (kvs.map (·.1)).Nodup) (h : valV kvs k = none) : ((putK kvs k v).map (·.1)).Nodup := by
  rw [putK_new v h, List.map_append]
  exact nd_snoc hn (valV_not h)
theorem dropK_pos {p : κ × V} {r : List (κ × V)} {k : κ} (e : p.1 = k) : dropK (p :: r) k = dropK r k := by
  unfold dropK
  rw [List.filter_cons, if_neg (by simp [e])]
theorem dropK_neg {p : κ × V} {r : List (κ × V)} {k : κ} (e : ¬ p.1 = k) : dropK (p :: r) k = p :: dropK r k := by
  unfold dropK
  rw [List.filter_cons, if_pos (by simp [e])]
theorem dropK_mem {kvs : List (κ × V)} {k : κ} {p : κ × V} (h : p ∈ dropK kvs k) : p ∈ kvs := (List.mem_filter.mp h).1
theorem nd_dropK : ∀ {kvs : List (κ × V)} {k : κ}, (kvs.map (·.1)).Nodup->((dropK kvs k).map (·.1)).Nodup
  | [], _, _ => List.nodup_nil
  | p :: r, k, h => by
    have h : (p.1 :: r.map (·.1)).Nodup := h
    obtain ⟨h1, h2⟩ := List.nodup_cons.mp h
    by_cases e : p.1 = k
    · rw [dropK_pos e]
      exact nd_dropK h2
    · rw [dropK_neg e]
      show (p.1 :: (dropK r k).map (·.1)).Nodup
      refine List.nodup_cons.mpr ⟨fun m => h1 ?_, nd_dropK h2⟩
      obtain ⟨q, hq, eq⟩ := List.mem_map.mp m
      exact List.mem_map.mpr ⟨q, dropK_mem hq, eq⟩
end
end L2
namespace Chk
def T (n : Nat) : Nat := n * 128 % 2 ^ 64 + n / 2 ^ 57
theorem T_eq {n : Nat} : T n = 2 ^ 7 * (n % 2 ^ 57) + n / 2 ^ 57 := by
  unfold T; omega
theorem T_lt {n : Nat} (h : n < 2 ^ 64) : T n < 2 ^ 64 := by
  unfold T; omega
theorem T_inj {a b : Nat} (ha : a < 2 ^ 64) (hb : b < 2 ^ 64) (h : T a = T b) : a = b := by
  rw [T_eq, T_eq] at h
  have ea := Nat.div_add_mod a (2 ^ 57)
  have eb := Nat.div_add_mod b (2 ^ 57)
  have la : a / 2 ^ 57 < 2 ^ 7 := by omega
  have lb : b / 2 ^ 57 < 2 ^ 7 := by omega
  generalize a % 2 ^ 57 = x at *
  generalize b % 2 ^ 57 = y at *
  generalize a / 2 ^ 57 = u at *
  generalize b / 2 ^ 57 = v at *
  have e1 : x = y := by omega
  have e2 : u = v := by omega
  rw [← ea, ← eb, e1, e2]
def D (n : Nat) : Nat := if n * 2 ≥ 2 ^ 64 then n * 2 - 2 ^ 64 + 1 else n * 2
theorem xor_add : ∀ a b : Nat, (a ^^^ b) + 2 * (a &&& b) = a + b := by
  intro a
  induction a using Nat.strongRecOn with
  | ind a ih =>
    intro b
    by_cases ha : a = 0
    · subst ha; simp
    · have h := ih (a / 2) (by omega) (b / 2)
      have e1 : (a ^^^ b) / 2 = a / 2 ^^^ b / 2 := Nat.xor_div_two
      have e2 : (a &&& b) / 2 = a / 2 &&& b / 2 := Nat.and_div_two
      have m0 : (a ^^^ b) % 2 = (a % 2) ^^^ (b % 2) := by
        have := Nat.xor_mod_two_pow (a := a) (b := b) (n := 1)
        simpa using this
      have m1 : (a ^^^ b) % 2 = (a + b) % 2 := by
        rw [m0]
        rcases Nat.mod_two_eq_zero_or_one a with h1 | h1 <;> rcases Nat.mod_two_eq_zero_or_one b with h2 | h2 <;> rw [h1, h2, Nat.add_mod, h1, h2] <;> rfl
      have m2 : (a &&& b) % 2 = (a % 2) &&& (b % 2) := by
        have := Nat.and_mod_two_pow (a := a) (b := b) (n := 1)
        simpa using this
      have m3 : (a % 2) &&& (b % 2) = if a % 2 = 1 /\ b % 2 = 1 then 1 else 0 := by
        rcases Nat.mod_two_eq_zero_or_one a with h1 | h1 <;> rcases Nat.mod_two_eq_zero_or_one b with h2 | h2 <;> rw [h1, h2] <;> rfl
      rw [m3] at m2
      rw [← e1, ← e2] at h
      split at m2 <;> omega
def stp (c n : Nat) : Nat := T c ^^^ n
def chk (l : List Nat) : Nat := l.foldl stp 0
theorem stp_lt {c n : Nat} (hc : c < 2 ^ 64) (hn : n < 2 ^ 64) : stp c n < 2 ^ 64 := Nat.xor_lt_two_pow (T_lt hc) hn
theorem fold_lt : ∀ {l : List Nat} {c : Nat}, c < 2 ^ 64->(∀ n ∈ l, n < 2 ^ 64)->l.foldl stp c < 2 ^ 64
  | [], _, hc, _ => hc
  | n :: r, c, hc, h => fold_lt (l := r) (stp_lt hc (h n List.mem_cons_self)) fun m hm => h m (List.mem_cons_of_mem _ hm)
theorem xor_cancel {a b n : Nat} (h : a ^^^ n = b ^^^ n) : a = b := by
  have : (a ^^^ n) ^^^ n = (b ^^^ n) ^^^ n := by rw [h]
  rwa [Nat.xor_assoc, Nat.xor_assoc, Nat.xor_self, Nat.xor_zero, Nat.xor_zero] at this
theorem xor_cancel' {a b n : Nat} (h : n ^^^ a = n ^^^ b) : a = b := xor_cancel (n := n) (by rw [Nat.xor_comm a, Nat.xor_comm b]; exact h)
theorem fold_inj : ∀ {l : List Nat} {c d : Nat}, c < 2 ^ 64->d < 2 ^ 64->(∀ n ∈ l, n < 2 ^ 64)->l.foldl stp c = l.foldl stp d->c = d
  | [], _, _, _, _, _, h => h
  | n :: r, c, d, hc, hd, hl, h => by
    have hn := hl n List.mem_cons_self
    have e := fold_inj (l := r) (stp_lt hc hn) (stp_lt hd hn) (fun m hm => hl m (List.mem_cons_of_mem _ hm)) h
    exact T_inj hc hd (xor_cancel e)
theorem chk_change {pre post : List Nat} {x y : Nat} (hx : x < 2 ^ 64) (hy : y < 2 ^ 64) (h1 : ∀ n ∈ pre, n < 2 ^ 64) (h2 : ∀ n ∈ post, n < 2 ^ 64) (h : chk (pre ++ x :: post) = chk (pre ++ y :: post)) : x = y := by
  unfold chk at h
  rw [List.foldl_append, List.foldl_append, List.foldl_cons, List.foldl_cons] at h
  have hc := fold_lt (c := 0) (by decide) h1
  have e := fold_inj (stp_lt hc hx) (stp_lt hc hy) h2 h
  exact xor_cancel' e
end Chk
namespace L2
open PySem PySem.Spec PyProof.Rows
section
variable {X : Cx}
theorem op_fdivB : OpR X (binaryOp .FloorDiv) (rI (fun _ j => 0 < j /\ j.natAbs.log2 < 9000) fun i j => .int (i / j)) := opI fun i j _ _ _ _ _ hc q => by
  have h1 : (0 : Int) < j := hc.1
  exact floordiv_int (by omega) (by rw [Int.fdiv_eq_ediv_of_nonneg i (by omega)]; exact q) (.inl (PyProof.noPylong_of_log2 hc.2))
theorem pe_powc {a b n : Int} {j1 j2 p1 p2 pos} (h : 0 ≤ b /\ b ≤ 1000000 /\ a.natAbs < 2 ^ 64 := by decide) (e : a ^ b.toNat = n := by first | rfl | decide +kernel) :
    PE X (.BinOp (.Constant (.int a) j1 p1) .Pow (.Constant (.int b) j2 p2) pos) (tC (.int n)) := fun pins s σ H Q I hw =>
  pe_op op_pow pe_int pe_int pins s σ H Q I ⟨_, _, rfl, rfl, h, by subst e; exact hw⟩
def clsV : V->Option Value
  | .ty n => some (.type n)
  | .ref a => some (.ref a)
  | _ => none
theorem call_isinst : CallR X (.builtin "isinstance") (fun xs H Q => ∃ x c cv t b, xs = [x, c] /\ clsV c = some cv /\ TyOf X.K H x t /\ PySem.W.kitOne X.K t cv = some b /\ Q (.bl b) H) := by
  rintro pins s σ H xs us Q I r ⟨x, c, cv, t, b, rfl, hc, ty, e, q⟩
  obtain ⟨u, v, rfl, ru, rv⟩ := vals2 r
  have hv : v = cv := by
    cases c <;> simp [clsV] at hc <;> subst hc <;> exact rv
  subst hv
  exact isinst_ok I ru ty e fun tk => ⟨.bl b, H, I.tok tk, rfl, q⟩
end
theorem iteY {c A B : Prop} [Decidable c] (hc : c) (h : A) : if decide c = true then A else B := by
  rw [if_pos (decide_eq_true hc)]; exact h
theorem iteN {c A B : Prop} [Decidable c] (hc : ¬ c) (h : B) : if decide c = true then A else B := by
  rw [if_neg (by rw [decide_eq_false hc]; decide)]; exact h
open PySem
def clos (cells : List (Str × Addr)) : List (Str × NameKind)->List (Str × Addr)->List (Str × Addr)
  | [], acc => acc
  | (n, k) :: r, acc => clos cells r (if k == .free then (n, (cells.lookup n).getD 0) :: acc else acc)
theorem clos_loop {env : Env} : ∀ (l : List (Str × NameKind)) (acc : List (Str × Addr)), (∀ y ∈ l, y.2 = .free->∃ c, env.cells.lookup y.1 = some c) →
    (forIn l acc fun (x : Str × NameKind) (cs : List (Str × Addr)) => if (x.2 == NameKind.free) = true then do let a ← cellOf env x.1; pure (ForInStep.yield ((x.1, a) :: cs)) else pure (ForInStep.yield cs) : Sem (List (Str × Addr))) = pure (clos env.cells l acc)
  | [], acc, _ => by simp only [List.forIn_nil]; rfl
  | (n, k) :: r, acc, h => by
    simp only [List.forIn_cons]
    cases hk : (k == NameKind.free) with
    | false =>
      simp only [Bool.false_eq_true, if_false]
      have ih := clos_loop (env := env) r acc fun y hy => h y (List.mem_cons_of_mem _ hy)
      simp only [pure_bind, ih, clos, hk, Bool.false_eq_true, if_false]
    | true =>
      obtain ⟨c, hc⟩ := h (n, k) List.mem_cons_self (by simpa using hk)
      have e : cellOf env n = pure c := by
        unfold cellOf; rw [show env.cells.lookup n = some c from hc]
      simp only [if_true, e, pure_bind]
      have ih := clos_loop (env := env) r ((n, c) :: acc) fun y hy => h y (List.mem_cons_of_mem _ hy)
      rw [ih]
      simp only [clos, hk, if_true]
      rw [show env.cells.lookup n = some c from hc]; rfl
theorem closureFor_eq {scope : Scope} {env : Env} (h : ∀ y ∈ scope.names, y.2 = .free->∃ c, env.cells.lookup y.1 = some c) : closureFor scope env = pure (clos env.cells scope.names []) := by
  have := clos_loop (env := env) scope.names [] h
  unfold closureFor
  simp only [bind_pure]
  exact this
theorem clos_sub {cells : List (Str × Addr)} : ∀ {names : List (Str × NameKind)} {acc : List (Str × Addr)}, (∀ y ∈ names, y.2 = .free->∃ c, cells.lookup y.1 = some c)->(∀ x c, acc.lookup x = some c->cells.lookup x = some c) →
    ∀ x c, (clos cells names acc).lookup x = some c->cells.lookup x = some c
  | [], _, _, ha, x, c, h => ha x c h
  | (n, k) :: r, acc, hn, ha, x, c, h => by
    refine clos_sub (names := r) (fun y hy => hn y (List.mem_cons_of_mem _ hy)) ?_ x c h
    intro x c h
    split at h
    · rename_i hk
      obtain ⟨d, hd⟩ := hn (n, k) List.mem_cons_self (by simpa using hk)
      rw [show cells.lookup n = some d from hd, List.lookup_cons] at h
      split at h
      · rename_i e
        rw [eq_of_beq e, show cells.lookup n = some d from hd]; exact h
      · exact ha x c h
    · exact ha x c h
theorem clos_has {cells : List (Str × Addr)} : ∀ {names : List (Str × NameKind)} {acc : List (Str × Addr)} {x : Str}, ((x, NameKind.free) ∈ names ∨ ∃ c, acc.lookup x = some c)->∃ c, (clos cells names acc).lookup x = some c
  | [], acc, x, h => by
    rcases h with h | h
    · cases h
    · exact h
  | (n, k) :: r, acc, x, h => by
    refine clos_has (names := r) ?_
    rcases h with h | ⟨c, h⟩
    · rcases List.mem_cons.mp h with h | h
      · injection h with h1 h2
        subst h1; subst h2
        exact .inr ⟨(cells.lookup x).getD 0, by simp [List.lookup_cons]⟩
      · exact .inl h
    · right
      split
      · rw [List.lookup_cons]
        split
        · exact ⟨_, rfl⟩
        · exact ⟨c, h⟩
      · exact ⟨c, h⟩
theorem mem_of_lookup {α : Type} {x : Str} {a : α} : ∀ {l : List (Str × α)}, l.lookup x = some a->(x, a) ∈ l
  | [], h => by simp at h
  | (n, k) :: r, h => by
    rw [List.lookup_cons] at h
    split at h
    · rename_i e
      injection h with h
      rw [eq_of_beq e, h]; exact List.mem_cons_self
    · exact List.mem_cons_of_mem _ (mem_of_lookup h)
theorem lookup_relabel {env : Env} {x : Str} : ∀ (names : List (Str × NameKind)),
    (names.map fun (n, k) => if (k == NameKind.free && env.scope.kind == .function && env.kindOf n == some .cell) then (n, NameKind.cell) else (n, k)).lookup x =
      (names.lookup x).map fun k => if (k == NameKind.free && env.scope.kind == .function && env.kindOf x == some .cell) then NameKind.cell else k
  | [] => rfl
  | (n, k) :: r => by
    have ih := lookup_relabel (env := env) (x := x) r
    simp only [List.map_cons]
    by_cases e : x = n
    · subst e
      split <;> rename_i hc
      · simp only [List.lookup_cons, beq_self_eq_true, Option.map_some, hc, if_true]
      · simp only [List.lookup_cons, beq_self_eq_true, Option.map_some]
        rw [if_neg hc]
    · have e' : (x == n) = false := by simpa using e
      split <;> simp only [List.lookup_cons, e'] <;> exact ih
open PySem PySem.Spec PyProof.Rows
theorem anelt {a b n : Nat} (h1 : a < n) (h2 : n ≤ b) : a ≠ b := by omega
def Cx.comp (X : Cx) (scope : Scope) (N : List Str) (C : Addr) (s₀ : Shared) (H₀ : Hp) (ex : List Addr) : Cx :=
  { X with N := N, s₀ := s₀, H₀ := H₀, env := compEnvC scope (clos X.env.cells scope.names []) C X.env, outer := X.stack, stack := X.stack, ex := ex, fn := fun _ => false, pn := [] }
def st0 (k : Nat) (cap : List Nat) (σ : St) : St := List.replicate k none ++ cap.map fun j => (σ[j]?).getD none
def compOk (XN : List Str) (fs sc : Scope) (N : List Str) (k : Nat) (cap : List Nat) : Bool :=
  decide (sc.kind = .function) && sc.names.all (fun y => decide (y.2 ≠ .cell)) && sc.names.all (fun y => decide (y.2 ≠ .local) || decide (sc.names.lookup y.1 = some .local)) &&
  sc.names.all (fun y => decide (y.2 ≠ .free) || decide (fs.names.lookup y.1 = some .cell)) && decide (N.length = k + cap.length) &&
  (cap.zip (N.drop k)).all (fun p => decide (XN[p.1]? = some p.2) && decide (sc.names.lookup p.2 = some .free))
structure CompOk (XN : List Str) (fs sc : Scope) (N : List Str) (k : Nat) (cap : List Nat) : Prop where
  kind : sc.kind = .function
  nocell : ∀ y ∈ sc.names, y.2 ≠ .cell
  locs : ∀ y ∈ sc.names, y.2 = .local->sc.names.lookup y.1 = some .local
  frees : ∀ y ∈ sc.names, y.2 = .free->fs.names.lookup y.1 = some .cell
  len : N.length = k + cap.length
  caps : ∀ p ∈ cap.zip (N.drop k), XN[p.1]? = some p.2 /\ sc.names.lookup p.2 = some .free
theorem CompOk.of {XN : List Str} {fs sc : Scope} {N : List Str} {k : Nat} {cap : List Nat} (h : compOk XN fs sc N k cap = true) : CompOk XN fs sc N k cap := by
  unfold compOk at h
  simp only [Bool.and_eq_true, List.all_eq_true, decide_eq_true_eq, Bool.or_eq_true] at h
  obtain ⟨⟨⟨⟨⟨h1, h2⟩, h3⟩, h4⟩, h5⟩, h6⟩ := h
  exact ⟨h1, h2, fun y hy e => (h3 y hy).resolve_left fun z => z e, fun y hy e => (h4 y hy).resolve_left fun z => z e, h5, h6⟩
section
variable {X : Cx} {pins : List (Addr × Obj)} {σ : St} {H : Hp} {s : Shared} {scope : Scope} {N : List Str} {k : Nat} {cap : List Nat} {fp : List Addr}
theorem Cx.comp_kind {x : Str} {C : Addr} {s₀ : Shared} {H₀ : Hp} {ex : List Addr} (hk : X.env.scope.kind = .function) :
    (X.comp scope N C s₀ H₀ ex).env.kindOf x = (scope.names.lookup x).map fun k => if (k == NameKind.free && X.env.kindOf x == some .cell) then NameKind.cell else k := by
  show (relabel scope X.env).names.lookup x = _
  unfold relabel
  rw [lookup_relabel]
  congr 1
  funext k
  rw [hk]; simp
theorem Inv.freeCells (I : Inv X pins σ H s) (c : CompOk X.N X.env.scope scope N k cap) : ∀ y ∈ scope.names, y.2 = .free->∃ d, X.env.cells.lookup y.1 = some d :=
  fun y hy e => I.ok.has y.1 (.inl (c.frees y hy e))
theorem Inv.block (I : Inv X pins σ H s) (c : CompOk X.N X.env.scope scope N k cap) (hf : ∀ b ∈ fp, FpOk X pins H b) (ho : ∀ b ∈ fp, ∃ o, s.heap.get? b = some o) {D C : Addr} {s1 : Shared}
    (hD : s.heap.objs.size ≤ D) (hC : s.heap.objs.size ≤ C) (hDC : D ≠ C) (hos : s1.os = s.os) (hg : s1.gens = s.gens) (keep : ∀ b o, s.heap.get? b = some o->s1.heap.get? b = some o)
    (hl : s1.heap.get? D = some { cls := .type "list", data := .seq #[] }) (hn : s1.heap.Ns C fun _ => none) :
    Inv (X.comp scope N C s H fp) [] (st0 k cap σ) (upd H D (.lst [])) s1 := by
  have hfc := I.freeCells c
  have lt : ∀ b ∈ fp, b < s.heap.objs.size := fun b hb => let ⟨o, e⟩ := ho b hb; Heap.lt_size e
  have clt : ∀ x d, X.env.cells.lookup x = some d->d < s.heap.objs.size := fun x d e => let ⟨v, o, q, _⟩ := I.cell x d e; Heap.lt_size q
  have sub := clos_sub (cells := X.env.cells) (names := scope.names) (acc := []) hfc (fun x c h => by simp at h)
  have fresh : ∀ a, s.heap.objs.size ≤ a->H a = none := fun a h => I.hok.fresh h
  have kindf : ∀ x, ((X.comp scope N C s H fp).env.kindOf x = some .cell ∨ (X.comp scope N C s H fp).env.kindOf x = some .free)->(x, NameKind.free) ∈ scope.names := fun x h => by
    rw [Cx.comp_kind I.ok.kind] at h
    cases e : scope.names.lookup x with
    | none => rw [e] at h; simp at h
    | some kd =>
      have m := mem_of_lookup e
      rw [e] at h
      cases kd with
      | free => exact m
      | cell => exact absurd rfl (c.nocell _ m)
      | «local» => simp at h
      | globalExplicit => simp at h
      | globalImplicit => simp at h
  have ok : (X.comp scope N C s H fp).Ok :=
    { mod := I.ok.mod
      kind := c.kind
      glob := I.ok.glob
      blt := I.ok.blt
      above := hC
      inj := fun x y d hx hy => I.ok.inj x y d (sub x d hx) (sub y d hy)
      has := fun x h => clos_has (.inl (kindf x h))
      cab := fun x d h => by cases h
      hd := I.ok.hd
      frames := I.ok.frames
      stk := .inl rfl
      exf := fun b hb => ⟨fun z => anelt (lt b hb) hC z, fun x d hx => (hf b hb).2.2.2.2.1 x d (sub x d hx)⟩
      bs := I.bs
      bsz := Nat.le_trans I.ok.bsz I.sz
      noex := fun b o e hb => by
        rcases (hf b hb).2.2.2.1 with h | h
        · exact I.ok.noex b o e h
        · exact absurd (Heap.lt_size (I.ok.bs b o e).1) (Nat.not_lt.mpr h)
      exfs := fun b hb hm => by
        rcases List.mem_cons.mp (I.stkSub b hm) with h | h
        · exact (hf b hb).2.1 h
        · exact (hf b hb).2.2.1 h
      funs := I.stack
      frf := I.stkFree }
  have nD : H D = none := fresh D hD
  refine
    { ok := ok
      os := hos
      bare := by rw [hg]; exact I.bare
      base := Un.laid keep hD nD
      loc := ⟨_, hn, ?_⟩
      cell := fun x d h => let ⟨v, q⟩ := I.cell x d (sub x d h); ⟨v, q.keeps keep⟩
      free := by
        show upd H D _ C = none
        rw [upd_ne (Ne.symm hDC)]; exact fresh C hC
      freeC := fun x d h => by
        have h' := sub x d h
        rw [upd_ne (anelt (clt x d h') hD)]; exact I.freeC x d h'
      pin := fun p hp => by cases hp
      hok := I.hok.laid keep hD ⟨Nat.zero_le _, [], 0, .nil, hl⟩
      len := by
        show (st0 k cap σ).length = N.length
        unfold st0; rw [List.length_append, List.length_replicate, List.length_map, c.len] }
  intro i x v hi hv _
  have hi : N[i]? = some x := hi
  unfold st0 at hv
  by_cases hik : i < k
  · rw [List.getElem?_append_left (by rw [List.length_replicate]; exact hik), List.getElem?_replicate, if_pos hik] at hv
    cases hv
  · rw [List.getElem?_append_right (by rw [List.length_replicate]; omega), List.length_replicate, List.getElem?_map] at hv
    cases ej : cap[i - k]? with
    | none => rw [ej] at hv; cases hv
    | some j =>
      rw [ej] at hv
      have hv : (σ[j]?).getD none = some v := Option.some.inj hv
      have hσ : σ[j]? = some (some v) := by
        cases e : σ[j]? with
        | none => rw [e] at hv; cases hv
        | some z => rw [e] at hv; exact congrArg some hv
      have hm : (j, x) ∈ cap.zip (N.drop k) := by
        refine List.mem_iff_getElem?.mpr ⟨i - k, ?_⟩
        rw [List.getElem?_zip_eq_some]
        refine ⟨ej, ?_⟩
        rw [List.getElem?_drop, show k + (i - k) = i by omega]; exact hi
      obtain ⟨hX, hfree⟩ := c.caps _ hm
      have mf := mem_of_lookup hfree
      have hcell := c.frees _ mf rfl
      obtain ⟨m, _, q⟩ := I.loc
      obtain ⟨u, ru, lk⟩ := q j x v hX hσ (.inr (.inl hcell))
      refine ⟨u, ru, .inr ⟨.inl ?_, ?_⟩⟩
      · rw [Cx.comp_kind I.ok.kind, hfree]
        have : (X.env.kindOf x == some NameKind.cell) = true := by
          show (X.env.scope.names.lookup x == some NameKind.cell) = true
          rw [hcell]; rfl
        simp [this]
      · rcases lk with ⟨hloc, _⟩ | ⟨_, d, hd, hcv⟩
        · have hloc : X.env.scope.names.lookup x = some .local := hloc
          rw [hcell] at hloc; cases hloc
        · obtain ⟨d', hd'⟩ := clos_has (cells := X.env.cells) (acc := []) (.inl mf : (x, NameKind.free) ∈ scope.names ∨ _)
          have := sub x d' hd'
          rw [hd] at this; cases this
          exact ⟨d, hd', hcv.keeps keep⟩
theorem Inv.unblock {H' : Hp} {σ' : St} {s1 : Shared} {C : Addr} {ps : List (Addr × Obj)} (I : Inv X pins σ H s) (hf : ∀ b ∈ fp, FpOk X pins H b) (J : Inv (X.comp scope N C s H fp) ps σ' H' s1) : Inv X pins σ H' s1 :=
  I.call' (ch := fp) J.os J.base J.hok J.bare fun b hb => ⟨(hf b hb).2.2.2.1, (hf b hb).2.1, (hf b hb).2.2.2.2.1, (hf b hb).2.2.2.2.2⟩
end
def tComp (k : Nat) (cap : List Nat) (wi : TI) (g : TG) (tt : TT) (te : TE) : TE := fun σ H Q => wi σ H fun J H1 => ∀ D, H1 D = none->∃ W : Nat->Nat->St->Hp->List V->Prop,
  (∃ m, W 0 m (st0 k cap σ) (upd H1 D (.lst [])) []) /\ ∀ i m σ' H' ys, W i m σ' H' ys->(J.stop i H' /\ Q (.ref D) H') ∨
    (J.go i H' /\ ∃ N : St->Hp->List V->Prop, (∀ σ' H' ys', N σ' H' ys'->∃ m', m' < m /\ W (i + 1) m' σ' H' ys') /\ ∀ x H2, J.yld i H' x H2->g x σ' H2 fun σ3 H3 => tt σ3 H3 fun b H4 => if b = true then
      te σ3 H4 fun y H5 => H5 D = some (.lst ys) /\ ys.length < sizeLine /\ N σ3 (upd H5 D (.lst (ys ++ [y]))) (ys ++ [y])
      else N σ3 H4 ys)
def tYes : TT := fun _ H Q => Q true H
def PTs (X : Cx) (ifs : List Expr) (t : TT) : Prop :=
  ∀ (pins : List (Addr × Obj)) (s : Shared) (σ : St) (H : Hp) (Q : Bool->Hp->Prop), Inv X pins σ H s->t σ H Q →
    wpAny (model X.prog X.w) X.A (forIn ifs true fun c r => if r = true then do let ok ← isTrue c X.env (eval c X.env); pure (ForInStep.yield ok) else pure (ForInStep.yield r)) (TP X pins σ Q) X.xe s
theorem pts_nil {X : Cx} : PTs X [] tYes := fun _ _ _ H _ I h => wpAny_tests_nil ⟨H, I, h⟩
theorem pts_one {X : Cx} {c : Expr} {t : TT} (h : PT X c t) : PTs X [c] t := fun pins s σ H Q I hw => wpAny_tests_one (h pins s σ H Q I hw)
section
variable {prog : Program} {w : World} {A : Around} {R : Result->Shared->Prop} {s : Shared}
theorem codeAny_compLoop_go {elt target iter : Expr} {ifs : List Expr} {scope : Scope} {pos : Pos} {it acc : Value} {env : Env} (I : Nat->Shared->Prop)
    (turn : ∀ n s, I n s->wpAny (model prog w) A (pyNext it) (fun r s₁ => match r with
      | none => R (.ok .next) s₁
      | some v => wpAny (model prog w) A (letOwnedTupleGo target it v) (fun _ s₀ => wpAny (model prog w) A (assign target env v) (fun _ s₂ =>
          wpAny (model prog w) A (forIn ifs true fun c r => if r = true then do let ok ← isTrue c env (eval c env); pure (ForInStep.yield ok) else pure (ForInStep.yield r)) (fun ok s₃ =>
            if ok = true then wpAny (model prog w) A (eval elt env) (fun x s₄ =>
              wpAny (model prog w) A (call (.builtin "list.append") [acc, x]) (fun _ s₅ => ∃ m, m < n /\ I m s₅) (notedBy (model prog w) A env fun e s' => R (.error e) s') s₄) (notedBy (model prog w) A env fun e s' => R (.error e) s') s₃
            else ∃ m, m < n /\ I m s₃) (notedBy (model prog w) A env fun e s' => R (.error e) s') s₂) (notedBy (model prog w) A env fun e s' => R (.error e) s') s₀) (notedBy (model prog w) A env fun e s' => R (.error e) s') s₁) (notedBy (model prog w) A env fun e s' => R (.error e) s') s)
    (n : Nat) (h : I n s) :
    codeAny (model prog w) A (.compLoop (.ListComp elt [⟨target, iter, ifs, 0⟩] scope pos) 0 it acc env) R s := by
  refine codeAny_loop rfl I (fun n s hI => ?_) n h
  show wpAny _ A ((compTurn (.ListComp elt [⟨target, iter, ifs, 0⟩] scope pos) 0 it acc env).onRaise (fun x => do noteFrame x env; theTreesLotGoes x)) _ _ s
  refine wpAny_noted ?_
  rw [compTurn_list]
  refine wpAny_bind (wpAny_standAt (wpAny_bind (wpAny_mono (turn n s hI) (fun r s₁ h₁ => ?_) fun _ _ h' => h')))
  cases r with
  | none => exact wpAny_pure h₁
  | some v =>
    refine wpAny_bind (wpAny_mono h₁ (fun _ s₀ h₀ => ?_) fun _ _ h' => h')
    refine wpAny_bind (wpAny_mono h₀ (fun _ s₂ h₂ => wpAny_bind (wpAny_mono h₂ (fun ok s₃ h₃ => ?_) fun _ _ h' => h')) fun _ _ h' => h')
    cases ok with
    | false => exact wpAny_pure ⟨rfl, h₃⟩
    | true =>
      exact wpAny_bind (wpAny_bind (wpAny_mono h₃ (fun x s₄ h₄ => wpAny_bind (wpAny_mono h₄ (fun _ s₅ h₅ => wpAny_pure (wpAny_pure ⟨rfl, h₅⟩)) fun _ _ h' => h')) fun _ _ h' => h'))
end
section
variable {X : Cx} {scope : Scope} {N : List Str} {k : Nat} {cap : List Nat} {tg iter elt : Expr} {ifs : List Expr} {wi : TI} {g : TG} {tt : TT} {te : TE} {pos : Pos}
theorem comp_loop {E : Value->Shared->Prop} {use : Option (Value->Sem Unit)} {QQ : Value->Shared->Prop} {pins : List (Addr × Obj)} {s : Shared} {σ : St} {H : Hp} {it : Addr} {fp : List Addr} {tn : Nat->Heap->Prop} {J : It} {Q : VK}
    (hc : X.calm = true) (c : CompOk X.N X.env.scope scope N k cap)
    (hg : ∀ C s₀ H₀ ex, PG (X.comp scope N C s₀ H₀ ex).nox tg g) (ht : ∀ C s₀ H₀ ex, PTs (X.comp scope N C s₀ H₀ ex).nox ifs tt) (he : ∀ C s₀ H₀ ex, PE (X.comp scope N C s₀ H₀ ex).nox elt te)
    (I : Inv X pins σ H s) (T : Turn X.prog X.w X.K tg J fp it tn) (st : tn 0 s.heap) (hf : ∀ b ∈ fp, FpOk X pins H b)
    (h : ∀ D, H D = none->∃ W : Nat->Nat->St->Hp->List V->Prop, (∃ m, W 0 m (st0 k cap σ) (upd H D (.lst [])) []) /\ ∀ i m σ' H' ys, W i m σ' H' ys->(J.stop i H' /\ Q (.ref D) H') ∨
      (J.go i H' /\ ∃ N : St->Hp->List V->Prop, (∀ σ' H' ys', N σ' H' ys'->∃ m', m' < m /\ W (i + 1) m' σ' H' ys') /\ ∀ x H2, J.yld i H' x H2->g x σ' H2 fun σ3 H3 => tt σ3 H3 fun b H4 => if b = true then
        te σ3 H4 fun y H5 => H5 D = some (.lst ys) /\ ys.length < sizeLine /\ N σ3 (upd H5 D (.lst (ys ++ [y]))) (ys ++ [y])
        else N σ3 H4 ys))
    (hQ : ∀ D C s1 H', Inv X pins σ H' s1->Q (.ref D) H'->(∃ m, s1.heap.Ns C m)->H' C = none->X.s₀.heap.objs.size ≤ C->C ≠ X.env.locals->(∀ x c, X.env.cells.lookup x = some c->c ≠ C)->(∀ p ∈ X.pn ++ pins, p.1 ≠ C) →
      compPost (model X.prog X.w) X.A E use QQ (.ref D) C (.ok .next) s1) :
    wpAny (model X.prog X.w) X.A (newList []) (fun acc s₃ => wpAny (model X.prog X.w) X.A (newFunctionEnv scope X.env.globals (clos X.env.cells scope.names []) [] X.env.qual none .none (some X.env)) (fun cenv s₄ =>
      codeAny (model X.prog X.w) X.A (.compStart (.ListComp elt [⟨tg, iter, ifs, 0⟩] scope pos) 0 (.ref it) acc { cenv with scope := relabel scope X.env }) (compPost (model X.prog X.w) X.A E use QQ acc cenv.locals) s₄) E s₃) E s := by
  refine wpAny_newObj_type (wpAny_newFunctionEnv c.nocell (by intro y hy; simp at hy) (fun h₁ hns₁ hsb₁ => ?_) c.kind)
  dsimp only at hns₁ hsb₁ ⊢
  generalize hH2 : s.heap.push { cls := .type "list", dict := none, data := .seq ([] : List Value).toArray } = H2 at hns₁ hsb₁ ⊢
  have hC : H2.objs.size = s.heap.objs.size + 1 := by rw [← hH2, Heap.size_push]
  have hDC : s.heap.objs.size ≠ H2.objs.size := by rw [hC]; exact Nat.ne_of_lt (Nat.lt_succ_self _)
  have hle : s.heap.objs.size ≤ H2.objs.size := by rw [hC]; exact Nat.le_succ _
  have keep : ∀ b o, s.heap.get? b = some o->h₁.get? b = some o := fun b o e => by
    exact hsb₁.extBut b o (anelt (Heap.lt_size e) hle) (Heap.get?_push_of_some _ (hH2 ▸ Heap.get?_push_of_some _ e))
  have hl : h₁.get? s.heap.objs.size = some { cls := .type "list", data := .seq #[] } := hsb₁.extBut _ _ hDC (Heap.get?_push_of_some _ (hH2 ▸ Heap.get?_push_size _ rfl))
  have nD : H s.heap.objs.size = none := I.hok.fresh (Nat.le_refl _)
  obtain ⟨W, ⟨m0, w0⟩, turn⟩ := h _ nD
  have ho : ∀ b ∈ fp, ∃ o, s.heap.get? b = some o := fun b hb => let ⟨o, e, _⟩ := T.obj _ _ st b hb; ⟨o, e⟩
  have hCs : X.s₀.heap.objs.size ≤ H2.objs.size := Nat.le_trans I.sz hle
  have hCl : H2.objs.size ≠ X.env.locals := (anelt I.lt hle).symm
  have hCc : ∀ x d, X.env.cells.lookup x = some d->d ≠ H2.objs.size := fun x d e => by
    obtain ⟨v, o, q, _⟩ := I.cell x d e
    exact anelt (Heap.lt_size q) hle
  have hCp : ∀ p ∈ X.pn ++ pins, p.1 ≠ H2.objs.size := fun p hp => by
    exact anelt (Heap.lt_size (I.pin p hp).1) hle
  have loop : ∀ s₃ : Shared, s₃ = { s with heap := h₁, toks := s.toks + ([] : List (Str × Value)).length } →
      codeAny (model X.prog X.w) X.A (.compLoop (.ListComp elt [⟨tg, iter, ifs, 0⟩] scope pos) 0 (.ref it) (.ref s.heap.objs.size) (compEnvC scope (clos X.env.cells scope.names []) H2.objs.size X.env))
        (compPost (model X.prog X.w) X.A E use QQ (.ref s.heap.objs.size) H2.objs.size) s₃ := by
    rintro s₃ rfl
    have I0 : Inv (X.comp scope N H2.objs.size s H fp) [] (st0 k cap σ) (upd H s.heap.objs.size (.lst [])) { s with heap := h₁, toks := s.toks + ([] : List (Str × Value)).length } :=
      I.block c hf ho (Nat.le_refl _) hle hDC rfl rfl keep hl (by simpa using hns₁)
    have stat : ∀ {H' : Hp} {ps : List (Addr × Obj)}, (∀ b ∈ fp, H' b = none)->ps = []->∀ b ∈ fp, FpOk (X.comp scope N H2.objs.size s H fp).nox ps H' b := fun hn hp b hb => by
      subst hp
      exact ⟨hn b hb, (I0.ok.exf b hb).1, I0.ok.exfs b hb, .inl hb, (I0.ok.exf b hb).2, fun p hp => by cases hp⟩
    have nok : ∀ b ∈ fp, upd H s.heap.objs.size (.lst []) b = none := fun b hb => by
      obtain ⟨o, e⟩ := ho b hb
      rw [upd_ne (anelt (Heap.lt_size e) (Nat.le_refl _))]; exact (hf b hb).1
    refine codeAny_compLoop_go (fun n s' => ∃ i σ' H' ys, Inv (X.comp scope N H2.objs.size s H fp).nox [] σ' H' s' /\ tn i s'.heap /\ (∀ b ∈ fp, H' b = none) /\ W i n σ' H' ys) ?_ m0
      ⟨0, _, _, [], I0.wish _, T.keep _ _ _ st fun b _ o e => keep b o e, nok, w0⟩
    rintro n s' ⟨i, σ', H', ys, I', st', fr', w'⟩
    rcases turn i n σ' H' ys w' with ⟨stop, q⟩ | ⟨go, NN, hNN, step⟩
    · refine wpAny_mono (T.done (X.comp scope N H2.objs.size s H fp).nox rfl rfl rfl hc i [] s' σ' H' (fun _ _ => False) I' (stat fr' rfl) st' stop) (fun r s4 ⟨hr, I4⟩ => ?_) (fun _ _ x => x.elim)
      subst hr
      exact hQ _ _ s4 H' (I.unblock hf I4.unwish) q (let ⟨m, hn, _⟩ := I4.loc; ⟨m, hn⟩) I4.free hCs hCl hCc hCp
    · refine wpAny_mono (T.item (X.comp scope N H2.objs.size s H fp).nox rfl rfl rfl hc i [] s' σ' H' (fun _ _ => False) I' (stat fr' rfl) st' go) (fun r s4 ⟨u, hr, h4⟩ => ?_) (fun _ _ x => x.elim)
      subst hr
      refine wpAny_mono h4 (fun _ s5 ⟨x, H5, I5, r5, y5, st5, fr5⟩ => ?_) (fun _ _ x => x.elim)
      have I5' := I5.pinned (stat fr5 rfl) (T.obj _ _ st5)
      refine wpAny_mono (hg _ _ _ _ _ s5 σ' H5 x u _ I5' r5 (step x H5 y5)) (fun _ s6 ⟨σ6, H6, I6, q6⟩ => ?_) (fun _ _ x => x.elim)
      refine wpAny_mono (ht _ _ _ _ _ s6 σ6 H6 _ I6 q6) (fun ok s7 ⟨H7, I7, q7⟩ => ?_) (fun _ _ x => x.elim)
      have again : ∀ {H8 : Hp} {s8 : Shared} {ys8 : List V}, Inv (X.comp scope N H2.objs.size s H fp).nox ([] ++ pinsAt fp s5.heap) σ6 H8 s8->NN σ6 H8 ys8 →
          ∃ m, m < n /\ ∃ i σ' H' ys, Inv (X.comp scope N H2.objs.size s H fp).nox [] σ' H' s8 /\ tn i s8.heap /\ (∀ b ∈ fp, H' b = none) /\ W i m σ' H' ys := fun {H8 s8 ys8} I8 n8 => by
        obtain ⟨m', hm, w8⟩ := hNN _ _ _ n8
        refine ⟨m', hm, i + 1, σ6, H8, ys8, I8.unpinned, T.keep _ _ _ st5 fun b hb o e => (I8.pin (b, o) (List.mem_append_right _ (List.mem_append_right _ (mem_pinsAt hb e)))).1, fun b hb => ?_, w8⟩
        obtain ⟨o, e, d⟩ := T.obj _ _ st5 b hb
        exact (I8.pin (b, o) (List.mem_append_right _ (List.mem_append_right _ (mem_pinsAt hb e)))).2.1
      cases ok with
      | false => exact again I7 q7
      | true =>
        refine wpAny_mono (he _ _ _ _ _ s7 σ6 H7 _ I7 q7) (fun y s8 ⟨v, H8, I8, rv, hD, hlen, w8⟩ => ?_) (fun _ _ x => x.elim)
        refine wpAny_mono (mt_append (X := (X.comp scope N H2.objs.size s H fp).nox) _ s8 σ6 H8 (.ref s.heap.objs.size) [v] (.ref s.heap.objs.size) [y] (fun _ H9 => H9 = upd H8 s.heap.objs.size (.lst (ys ++ [v]))) I8 rfl (.cons rv .nil) ⟨_, ys, v, rfl, rfl, hD, hlen, rfl⟩) (fun _ s9 ⟨_, H9, I9, _, e9⟩ => ?_) (fun _ _ x => x.elim)
        subst e9
        exact again I9 w8
  exact codeAny_compStart_list (loop _ rfl) (T.self _ 0 _ _ _ (T.keep _ _ _ st fun b _ o e => keep b o e) (loop _ rfl))
theorem pe_comp (hc : X.calm = true) (hco : compOk X.N X.env.scope scope N k cap = true) (hi : PI X tg iter wi)
    (hg : ∀ C s₀ H₀ ex, PG (X.comp scope N C s₀ H₀ ex).nox tg g) (ht : ∀ C s₀ H₀ ex, PTs (X.comp scope N C s₀ H₀ ex).nox ifs tt) (he : ∀ C s₀ H₀ ex, PE (X.comp scope N C s₀ H₀ ex).nox elt te)
    (hs : ∀ x, foldedSetIterable iter X.env x = pure x := by intro _; rfl) : PE X (.ListComp elt [⟨tg, iter, ifs, 0⟩] scope pos) (tComp k cap wi g tt te) := by
  intro pins s σ H Q I h
  have c := CompOk.of hco
  rw [eval_ListComp]
  refine wpAny_comprehension_free (use := none) (cl := clos X.env.cells scope.names []) rfl hs (closureFor_eq (I.freeCells c)) c.kind c.locs (thn (hi pins s σ H _ I h) fun xv s₁ h₁ => thn h₁ fun itv s₂ h₂ => ?_)
  obtain ⟨it, fp, tn, J, H2, e, I2, T, st, hf, q⟩ := h₂
  subst e
  exact comp_loop (use := none) hc c hg ht he I2 T st hf q fun D C s1 H' I1 q1 ⟨m, hn⟩ hCn hCs hCl hCc hCp =>
    ⟨m, hn, fun h' hs' => ⟨.ref D, H', I1.turned (t' := s1.toks) (fun b o hb e => hs'.extBut b o hb e) hCn hCl (.inr hCs) hCc hCp, rfl, q1⟩⟩
end
theorem comp_list {K : PySem.W.Frag} {a : Addr} (D : Addr) {xs : List V} {g : TG} {tt : TT} {te : TE} {σ : St} {H : Hp} {R : Hp->Prop} (Pv : Nat->St->Hp->List V->Prop) (h0 : Pv 0 σ H []) (hl : ∀ i σ H ys, i ≤ xs.length->Pv i σ H ys->SqL K H a xs)
    (hs : ∀ i x σ H ys, xs[i]? = some x->Pv i σ H ys->g x σ H fun σ3 H3 => tt σ3 H3 fun b H4 => if b = true then
      te σ3 H4 fun y H5 => H5 D = some (.lst ys) /\ ys.length < sizeLine /\ Pv (i + 1) σ3 (upd H5 D (.lst (ys ++ [y]))) (ys ++ [y]) else Pv (i + 1) σ3 H4 ys) (hd : ∀ σ H ys, Pv xs.length σ H ys->R H) :
    ∃ W : Nat->Nat->St->Hp->List V->Prop, (∃ m, W 0 m σ H []) /\ ∀ i m σ' H' ys, W i m σ' H' ys->((Itl K a).stop i H' /\ R H') ∨
      ((Itl K a).go i H' /\ ∃ N : St->Hp->List V->Prop, (∀ σ' H' ys', N σ' H' ys'->∃ m', m' < m /\ W (i + 1) m' σ' H' ys') /\ ∀ x H2, (Itl K a).yld i H' x H2->g x σ' H2 fun σ3 H3 => tt σ3 H3 fun b H4 => if b = true then
        te σ3 H4 fun y H5 => H5 D = some (.lst ys) /\ ys.length < sizeLine /\ N σ3 (upd H5 D (.lst (ys ++ [y]))) (ys ++ [y])
        else N σ3 H4 ys) := by
  refine ⟨fun i m σ H ys => m = xs.length - i /\ i ≤ xs.length /\ Pv i σ H ys, ⟨xs.length, by simp, Nat.zero_le _, h0⟩, ?_⟩
  rintro i m σ H ys ⟨rfl, hi, p⟩
  have q := hl i σ H ys hi p
  by_cases hlt : i < xs.length
  · refine .inr ⟨⟨xs, xs[i], q, by simp [hlt]⟩, Pv (i + 1), fun σ' H' ys' p' => ⟨xs.length - (i + 1), by omega, rfl, hlt, p'⟩, fun x H' y => ?_⟩
    obtain ⟨e, y⟩ := y
    subst e
    exact hs i x σ _ ys (y xs q) p
  · have e : i = xs.length := by omega
    subst e
    exact .inl ⟨⟨xs, q, Nat.le_refl _⟩, hd σ H ys p⟩
section
variable {X : Cx} {K : PySem.W.Frag}
theorem pg_tupK {es : List Expr} {k : Nat} {t : TGs} {n : Nat} {pos : Pos} (hK : X.K = K) (hc : X.calm = true) (h : PGs X es t) (hn : (assignEach es X.env).length = n := by rfl) (hst : (assignEach es X.env).findIdx? (·.1) = none := by rfl) :
    PG X (.Tuple es k pos) (gTup K n t) := by subst hK; exact pg_tup hc h hn hst
end
open PySem PySem.Spec PyProof.Rows
theorem Same.new {H : Hp} {p : Addr} {o : HO} (h : H p = none) : Same H (upd H p o) := fun b u e => by rw [upd_ne (ne_of_none e h)]; exact e
open PySem PySem.Spec PyProof.Rows PySem.SeqAt
def SeqEq (K : PySem.W.Frag) (H : Hp) (R : V->V->Bool->Prop) (x y : V) (b : Bool) : Prop :=
  ∃ (a c : Addr) (xs ys : List V) (e : Nat->Bool), x = .ref a /\ y = .ref c ∧
    ((SqL K H a xs /\ SqL K H c ys /\ xs.length = ys.length /\ (∀ (j : Nat) x' y', xs[j]? = some x'->ys[j]? = some y'->R x' y' (e j)) /\ b = (List.range xs.length).all e) ∨
     (SqL K H a xs /\ SqL K H c ys /\ xs.length ≠ ys.length /\ b = false) ∨
     (SqT K H a xs /\ SqT K H c ys /\ (∀ (j : Nat) x' y', xs[j]? = some x'->ys[j]? = some y'->R x' y' (e j)) /\ b = ((List.range (min xs.length ys.length)).all e && xs.length == ys.length)))
def EqI (K : PySem.W.Frag) (H : Hp) : Nat->V->V->Bool->Prop
  | 0 => fun x y b => (flatV x = true /\ flatV y = true /\ b = eqV x y) ∨ ∃ a, x = .ref a /\ y = .ref a /\ b = true
  | n + 1 => fun x y b => EqI K H n x y b ∨ (x ≠ y /\ SeqEq K H (EqI K H n) x y b)
section
variable {X : Cx} {pins : List (Addr × Obj)} {σ : St} {H : Hp} {s : Shared} {A : Around}
theorem items_at {xs ys : List V} {us vs : List Value} {R : V->V->Bool->Prop} {e : Nat->Bool} (r : Vals xs us) (q : Vals ys vs) (he : ∀ (j : Nat) x' y', xs[j]? = some x'->ys[j]? = some y'->R x' y' (e j))
    (hR : ∀ x y b u v, R x y b->RelV x u->RelV y v->EqAt A s u v b) : ∀ j (h1 : j < us.toArray.size) (h2 : j < vs.toArray.size), EqAt A s us.toArray[j] vs.toArray[j] (e j) := fun j h1 h2 => by
  have h1' : j < us.length := by simpa using h1
  have h2' : j < vs.length := by simpa using h2
  have l1 := r.length
  have l2 := q.length
  have ex : xs[j]? = some (xs[j]'(by omega)) := List.getElem?_eq_getElem (by omega)
  have ey : ys[j]? = some (ys[j]'(by omega)) := List.getElem?_eq_getElem (by omega)
  obtain ⟨u, eu, ru⟩ := Vals.get r ex
  obtain ⟨v, ev, rv⟩ := Vals.get q ey
  have e1 : us.toArray[j] = u := by
    have := (List.getElem?_eq_some_iff.mp eu).2
    simpa using this
  have e2 : vs.toArray[j] = v := by
    have := (List.getElem?_eq_some_iff.mp ev).2
    simpa using this
  rw [e1, e2]
  exact hR _ _ _ _ _ (he j _ _ ex ey) ru rv
theorem SeqEq.rc {R : V->V->Bool->Prop} {x y : V} {b : Bool} {u v : Value} (I : Inv X pins σ H s) (hR : ∀ x y b u v, R x y b->RelV x u->RelV y v->EqAt A.in1 s u v b) (hu : A.units < cLine)
    (h : SeqEq X.K H R x y b) (rx : RelV x u) (ry : RelV y v) : RcAt A s u v b := by
  obtain ⟨a, c, xs, ys, e, rfl, rfl, h⟩ := h
  cases rx
  cases ry
  rcases h with ⟨h1, h2, hl, he, rfl⟩ | ⟨h1, h2, hl, rfl⟩ | ⟨h1, h2, he, rfl⟩
  · obtain ⟨us, r, p, _⟩ := I.list h1
    obtain ⟨vs, q, p2, _⟩ := I.list h2
    have l1 := r.length
    have l2 := q.length
    have z := RcAt.lists (A := A) (e := e) p.isList p2.isList (by simp; omega) hu (items_at r q he hR)
    rw [show us.toArray.size = xs.length by simp; omega] at z
    exact z
  · obtain ⟨us, r, p, _⟩ := I.list h1
    obtain ⟨vs, q, p2, _⟩ := I.list h2
    have l1 := r.length
    have l2 := q.length
    exact RcAt.lists_lengths p.isList p2.isList (by simp; omega) hu
  · obtain ⟨us, r, p, _⟩ := I.tuple h1
    obtain ⟨vs, q, p2, _⟩ := I.tuple h2
    have l1 := r.length
    have l2 := q.length
    have z := RcAt.tuples (A := A) (e := e) (show s.heap.IsTuple a us.toArray from p) (show s.heap.IsTuple c vs.toArray from p2) hu (items_at r q he hR)
    rw [show us.toArray.size = xs.length by simp; omega, show vs.toArray.size = ys.length by simp; omega] at z
    exact z
theorem SeqEq.rcNe {R : V->V->Bool->Prop} {x y : V} {b : Bool} {u v : Value} (I : Inv X pins σ H s) (hR : ∀ x y b u v, R x y b->RelV x u->RelV y v->EqAt A.in1 s u v b) (hu : A.units < cLine)
    (h : SeqEq X.K H R x y b) (rx : RelV x u) (ry : RelV y v) : RcNeAt A s u v (!b) := by
  obtain ⟨a, c, xs, ys, e, rfl, rfl, h⟩ := h
  cases rx
  cases ry
  rcases h with ⟨h1, h2, hl, he, rfl⟩ | ⟨h1, h2, hl, rfl⟩ | ⟨h1, h2, he, rfl⟩
  · obtain ⟨us, r, p, _⟩ := I.list h1
    obtain ⟨vs, q, p2, _⟩ := I.list h2
    have l1 := r.length
    have l2 := q.length
    have z := RcNeAt.lists (A := A) (e := e) p.isList p2.isList (by simp; omega) hu (items_at r q he hR)
    rw [show us.toArray.size = xs.length by simp; omega] at z
    exact z
  · obtain ⟨us, r, p, _⟩ := I.list h1
    obtain ⟨vs, q, p2, _⟩ := I.list h2
    have l1 := r.length
    have l2 := q.length
    exact RcNeAt.lists_lengths p.isList p2.isList (by simp; omega) hu
  · obtain ⟨us, r, p, _⟩ := I.tuple h1
    obtain ⟨vs, q, p2, _⟩ := I.tuple h2
    have l1 := r.length
    have l2 := q.length
    have z := RcNeAt.tuples (A := A) (e := e) (show s.heap.IsTuple a us.toArray from p) (show s.heap.IsTuple c vs.toArray from p2) hu (items_at r q he hR)
    rw [show us.toArray.size = xs.length by simp; omega, show vs.toArray.size = ys.length by simp; omega] at z
    exact z
theorem EqI.at (I : Inv X pins σ H s) : ∀ (n : Nat) {A : Around} {x y : V} {b : Bool} {u v : Value}, A.units + n < cLine->EqI X.K H n x y b->RelV x u->RelV y v->EqAt A s u v b
  | 0, A, x, y, b, u, v, hu, h, rx, ry => by
    rcases h with ⟨fx, fy, rfl⟩ | ⟨a, rfl, rfl, rfl⟩
    · exact eqAt_V rx ry fx fy
    · cases rx
      cases ry
      exact EqAt.same _
  | n + 1, A, x, y, b, u, v, hu, h, rx, ry => by
    rcases h with h | ⟨hne, h⟩
    · exact EqI.at I n (by omega) h rx ry
    · have z := SeqEq.rc (A := A) I (fun x y b u v h rx ry => EqI.at I n (A := A.in1) (by show A.units + 1 + n < cLine; omega) h rx ry) (by omega) h rx ry
      obtain ⟨a, c, xs, ys, e, rfl, rfl, _⟩ := h
      cases rx
      cases ry
      exact EqAt.of_refs (fun e => hne (by rw [e])) z
def rNeR (K : PySem.W.Frag) : R2 := fun x y H Q => ∃ (n : Nat) (b : Bool), n ≤ 8 /\ SeqEq K H (EqI K H n) x y b /\ Q (.bl (!b)) H
theorem op_ne_ref (hu : X.A.units + 64 < cLine) : OpR X (compareOp .NotEq) (rNeR X.K) := by
  rintro pins s σ H x y v u Q I rx ry ⟨n, b, hn, h, q⟩
  exact SeqEq.rcNe (A := X.A) I (fun x y b u v h rx ry => EqI.at I n (A := X.A.in1) (by show X.A.units + 1 + n < cLine; omega) h rx ry) (by omega) h rx ry X.prog X.w X.xe _ ⟨.bl (!b), H, I, rfl, q⟩
end
theorem SeqEq.sameT {K : PySem.W.Frag} {H : Hp} {a c : Addr} {xs : List V} (h1 : SqT K H a xs) (h2 : SqT K H c xs) (hx : ∀ x ∈ xs, EqI K H n x x true) : SeqEq K H (EqI K H n) (.ref a) (.ref c) true :=
  ⟨a, c, xs, xs, fun _ => true, rfl, rfl, .inr (.inr ⟨h1, h2, fun j x y e1 e2 => by
    rw [e1] at e2; cases e2
    exact hx x (List.mem_of_getElem? e1), by simp⟩)⟩
theorem eqI_int {K : PySem.W.Frag} {H : Hp} (i : Int) : EqI K H 0 (.int i) (.int i) true := .inl ⟨rfl, rfl, by simp [eqV]⟩
theorem pi_or {X : Cx} {tg it : Expr} {w1 w2 : TI} (h1 : PI X tg it w1) (h2 : PI X tg it w2) : PI X tg it (fun σ H R => w1 σ H R ∨ w2 σ H R) := fun pins s σ H R I h => h.elim (h1 pins s σ H R I) (h2 pins s σ H R I)
theorem anelt' {a b n : Nat} (h1 : a < n) (h2 : n ≤ b) : a ≠ b := by omega
open PySem PySem.Spec PyProof.Rows
def Itz (K : PySem.W.Frag) (l1 l2 : Addr) : It :=
  ⟨fun i H => ∃ xs ys x y, SqL K H l1 xs /\ SqL K H l2 ys /\ xs[i]? = some x /\ ys[i]? = some y,
   fun i H v H' => ∃ T x y, H T = none /\ v = .ref T /\ H' = upd H T (.tup [x, y]) /\ (∀ xs, SqL K H l1 xs->xs[i]? = some x) /\ ∀ ys, SqL K H l2 ys->ys[i]? = some y,
   fun i H => ∃ xs ys, SqL K H l1 xs /\ SqL K H l2 ys /\ (xs.length ≤ i ∨ ys.length ≤ i)⟩
def ZipSt (z TI TO i1 i2 l1 l2 : Addr) (i : Nat) (h : Heap) : Prop :=
  IsZip h z TI TO .none /\ IsPair h TI (.ref i1) (.ref i2) /\ (∃ a b, IsPair h TO a b) /\ h.IsListIter i1 l1 i /\ h.IsListIter i2 l2 i
theorem Inv.turnedMany {X : Cx} {pins : List (Addr × Obj)} {σ : St} {H : Hp} {s : Shared} {h' : Heap} {t' : Nat} {ch : List Addr} (I : Inv X pins σ H s) (k : ∀ b o, b ∉ ch->s.heap.get? b = some o->h'.get? b = some o) (hf : ∀ b ∈ ch, FpOk X pins H b) :
    Inv X pins σ H { s with heap := h', toks := t' } := by
  have nit : ∀ b u, H b = some u->b ∉ ch := fun b u e z => by rw [(hf b z).1] at e; cases e
  refine I.step (g' := s.gens) (d' := s.drawn) (ch := ch) (fun b hb => ⟨(hf b hb).2.2.2.1, (hf b hb).2.1, (hf b hb).2.2.2.2.1, (hf b hb).2.2.2.2.2⟩) (fun b o _ _ hc e _ => k b o hc e) (fun b o _ _ hc e _ => ⟨o.slots, k b o hc e⟩) (fun _ _ _ _ n => n)
    (fun b o hc e => ⟨o, k b o hc e⟩) (fun _ _ e => e) (fun _ _ _ e => e) (fun b ps e => ⟨#[], by rw [e]; simp⟩) (fun m hm => ?_) (fun b u e => ?_) I.bare
  · obtain ⟨o, es, ep, ho, r⟩ := hm
    exact ⟨o, es, ep, k _ o (fun z => (hf _ z).2.1 rfl) ho, r⟩
  · refine (I.hok b u e).stay (fun c v hc q => k c v ?_ q) (fun _ q => q) fun _ _ q => q
    rcases hc with z | z
    · rw [z]; exact nit b u e
    · exact nit c _ z
theorem Inv.turnedLaid {X : Cx} {pins : List (Addr × Obj)} {σ : St} {H : Hp} {s : Shared} {h' : Heap} {t' : Nat} {ch : List Addr} {T : Addr} {u : HO} (I : Inv X pins σ H s) (k : ∀ b o, b ∉ ch->s.heap.get? b = some o->h'.get? b = some o) (hf : ∀ b ∈ ch, FpOk X pins H b)
    (hT : s.heap.objs.size ≤ T) (new : ObjOk X.prog X.w (upd H T u) h' T u) : Inv X pins σ (upd H T u) { s with heap := h', toks := t' } := by
  have hn : H T = none := I.hok.fresh hT
  have nit : ∀ b u, H b = some u->b ∉ ch := fun b u e z => by rw [(hf b z).1] at e; cases e
  have nT : ∀ b o, s.heap.get? b = some o->b ≠ T := fun b o e => anelt' (Heap.lt_size e) hT
  refine I.step (g' := s.gens) (d' := s.drawn) (ch := ch) (fun b hb => ⟨(hf b hb).2.2.2.1, (hf b hb).2.1, (hf b hb).2.2.2.2.1, (hf b hb).2.2.2.2.2⟩) (fun b o _ _ hc e _ => k b o hc e) (fun b o _ _ hc e _ => ⟨o.slots, k b o hc e⟩) (fun b o _ e n => by rw [upd_ne (nT b o e)]; exact n)
    (fun b o hc e => ⟨o, k b o hc e⟩) (fun b xs e => by rw [upd_ne (ne_of_none e hn)]; exact e) (fun b o xs e => by rw [upd_ne (ne_of_none e hn)]; exact e) (fun b ps e => ⟨#[], by rw [upd_ne (ne_of_none e hn), e]; simp⟩) (fun m hm => ?_) (fun b v e => ?_) I.bare
  · obtain ⟨o, es, ep, ho, r⟩ := hm
    exact ⟨o, es, ep, k _ o (fun z => (hf _ z).2.1 rfl) ho, r⟩
  · by_cases hb : b = T
    · subst hb; rw [upd_same] at e; cases e; exact new
    · rw [upd_ne hb] at e
      refine (I.hok b v e).stay (fun c v hc q => k c v ?_ q) (fun c q => by rw [upd_ne (ne_of_none q hn)]; exact q) fun c xs q => by rw [upd_ne (ne_of_none q hn)]; exact q
      rcases hc with z | z
      · rw [z]; exact nit b _ e
      · exact nit c _ z
theorem turn_zip {P : Program} {w : World} {K : PySem.W.Frag} {es : List Expr} {x1} {tp : Pos} (z TI TO i1 i2 l1 l2 : Addr) (D : ZipApart z TI TO i1 i2 l1 l2) :
    Turn P w K (.Tuple es x1 tp) (Itz K l1 l2) [z, TI, TO, i1, i2] z (ZipSt z TI TO i1 i2 l1 l2) where
  mem := by simp
  obj := fun i h st b hb => by
    obtain ⟨h1, h2, ⟨_, _, h3⟩, h4, h5⟩ := st
    simp only [List.mem_cons, List.not_mem_nil, or_false] at hb
    rcases hb with rfl | rfl | rfl | rfl | rfl
    · exact ⟨_, h1, fun v q => nomatch q⟩
    · exact ⟨_, h2, fun v q => nomatch q⟩
    · exact ⟨_, h3, fun v q => nomatch q⟩
    · obtain ⟨o, e, _, d⟩ := h4
      exact ⟨o, e, fun v q => by rw [d] at q; cases q⟩
    · obtain ⟨o, e, _, d⟩ := h5
      exact ⟨o, e, fun v q => by rw [d] at q; cases q⟩
  keep := fun i h h' st k => by
    obtain ⟨h1, h2, ⟨a, b, h3⟩, ⟨o4, e4, r4⟩, ⟨o5, e5, r5⟩⟩ := st
    exact ⟨k z (by simp) _ h1, k TI (by simp) _ h2, ⟨a, b, k TO (by simp) _ h3⟩, ⟨o4, k i1 (by simp) _ e4, r4⟩, ⟨o5, k i2 (by simp) _ e5, r5⟩⟩
  item := by
    intro X hP hw hK hc i pins s σ H E I hf st hg
    subst hP hw hK
    obtain ⟨h1, h2, ⟨a, b, h3⟩, h4, h5⟩ := st
    obtain ⟨xs, ys, x, y, hx, hy, ex, ey⟩ := hg
    obtain ⟨us, rx, px, _⟩ := I.list hx
    obtain ⟨vs, ry, py, _⟩ := I.list hy
    obtain ⟨u, eu, ru⟩ := Vals.get rx ex
    obtain ⟨v, ev, rv⟩ := Vals.get ry ey
    refine wpAny_pyNext_zip_item D h1 h2 h3 h4 h5 px.isList py.isList (by simpa using eu) (by simpa using ev) fun h' z1 z2 z3 z4 z5 z6 kk => ?_
    refine ⟨_, rfl, wpAny_letOwnedTupleGo_zip z1 fun h'' y1 sb => ?_⟩
    have lt : ∀ b ∈ [z, TI, TO, i1, i2], b < s.heap.objs.size := fun b hb => by
      simp only [List.mem_cons, List.not_mem_nil, or_false] at hb
      rcases hb with rfl | rfl | rfl | rfl | rfl
      · exact Heap.lt_size h1
      · exact Heap.lt_size h2
      · exact Heap.lt_size h3
      · obtain ⟨o, e, _⟩ := h4; exact Heap.lt_size e
      · obtain ⟨o, e, _⟩ := h5; exact Heap.lt_size e
    have nz : s.heap.objs.size ≠ z := (anelt' (lt z (by simp)) (Nat.le_refl _)).symm
    have keep : ∀ c o, c ∉ [z, TI, TO, i1, i2]->s.heap.get? c = some o->h''.get? c = some o := fun c o hc e => by
      simp only [List.mem_cons, List.not_mem_nil, or_false, not_or] at hc
      exact sb.extBut c o hc.1 (kk c o hc.1 hc.2.2.1 hc.2.2.2.1 hc.2.2.2.2 e)
    have nT : H s.heap.objs.size = none := I.hok.fresh (Nat.le_refl _)
    have hT : h''.get? s.heap.objs.size = some { cls := .type "tuple", data := .seq #[u, v] } := sb.extBut _ _ nz z5
    have I2 : Inv X pins σ (upd H s.heap.objs.size (.tup [x, y])) { s with heap := h'', toks := s.toks } :=
      I.turnedLaid (ch := [z, TI, TO, i1, i2]) keep hf (Nat.le_refl _) ⟨by show 2 ≤ sizeLine; decide, [u, v], .cons ru (.cons rv .nil), ⟨_, hT, rfl, 0, rfl⟩⟩
    refine ⟨.ref s.heap.objs.size, _, I2, rfl, ⟨_, x, y, nT, rfl, rfl, fun xs' h => ?_, fun ys' h => ?_⟩, ⟨y1, ?_, ⟨u, v, ?_⟩, ?_, ?_⟩, fun b hb => ?_⟩
    · rw [I.list_inj h hx]; exact ex
    · rw [I.list_inj h hy]; exact ey
    · exact sb.extBut _ _ D.TIz (kk _ _ D.TIz D.TITO D.TIi1 D.TIi2 h2)
    · exact sb.extBut _ _ D.TOz z2
    · obtain ⟨o, e, r⟩ := z3; exact ⟨o, sb.extBut _ _ D.i1z e, r⟩
    · obtain ⟨o, e, r⟩ := z4; exact ⟨o, sb.extBut _ _ D.i2z e, r⟩
    · rw [upd_ne (anelt' (lt b hb) (Nat.le_refl _))]; exact (hf b hb).1
  done := by
    intro X hP hw hK hc i pins s σ H E I hf st hg
    subst hP hw hK
    obtain ⟨h1, h2, ⟨a, b, h3⟩, h4, h5⟩ := st
    obtain ⟨xs, ys, hx, hy, hl⟩ := hg
    obtain ⟨us, rx, px, _⟩ := I.list hx
    obtain ⟨vs, ry, py, _⟩ := I.list hy
    have l1 := rx.length
    have l2 := ry.length
    refine wpAny_pyNext_zip_end (I.ok.hd hc) D h1 h2 h3 h4 h5 px.isList py.isList (by simp; omega) fun h' kk => ⟨rfl, ?_⟩
    exact I.turnedMany (t' := s.toks) (ch := [z, TI, TO, i1, i2]) (fun c o hc e => by
      simp only [List.mem_cons, List.not_mem_nil, or_false, not_or] at hc
      exact kk c o hc.1 hc.2.2.1 hc.2.2.2.1 hc.2.2.2.2 e) hf
  self := fun _ _ _ _ _ st h => wpAny_pyIter_zip st.1 h
theorem zip_apart {n l1 l2 : Nat} (h1 : l1 < n) (h2 : l2 < n) : ZipApart (n + 4) (n + 2) (n + 3) n (n + 1) l1 l2 := by
  constructor <;> (show ¬ (_ : Nat) = _) <;> omega
def iZip (K : PySem.W.Frag) (ta : TA) : TI := fun σ H R => ta σ H fun vs H1 => ∃ l1 l2, vs = [.ref l1, .ref l2] /\ (∃ xs, SqL K H1 l1 xs) /\ (∃ ys, SqL K H1 l2 ys) /\ R (Itz K l1 l2) H1
theorem pi_zip {X : Cx} {a b : Expr} {ta : TA} {p pos : Pos} {es : List Expr} {x1} {tp : Pos} (hg : Gl X "zip") (hm : X.mg "zip" = none) (ha : PA X [a, b] ta) (hs : starEach [a, b] X.env = (false, eval a X.env) :: starEach [b] X.env := by rfl) (hs2 : (backTo pos (starEach [b] X.env)).any (·.1) = false := by rfl) :
    PI X (.Tuple es x1 tp) (.Call (.Name "zip" p) [a, b] [] pos) (iZip X.K ta) := by
  intro pins s σ H R I h
  refine Call_ (ld_blt I hg hm boot_zip (PyProof.Rows.callWith_type1 (thn (ha pos pins s σ H _ I h) fun us s1 ⟨vs, H1, I1, r1, q1⟩ => ?_) hs hs2))
  obtain ⟨l1, l2, e, ⟨xs, hx⟩, ⟨ys, hy⟩, q⟩ := q1
  subst e
  obtain ⟨u, v, rfl, ru, rv⟩ := vals2 r1
  cases ru
  cases rv
  obtain ⟨us1, rx, px, _⟩ := I1.list hx
  obtain ⟨vs1, ry, py, _⟩ := I1.list hy
  have ll1 : l1 < s1.heap.objs.size := by obtain ⟨o, e, _⟩ := px.isList; exact Heap.lt_size e
  have ll2 : l2 < s1.heap.objs.size := by obtain ⟨o, e, _⟩ := py.isList; exact Heap.lt_size e
  refine call_zip_2 px.isList py.isList fun h' z1 z2 z3 z4 z5 z6 kk => ?_
  refine wpAny_pyIter_zip z1 ?_
  have I2 : Inv X pins σ H1 { s1 with heap := h', toks := s1.toks } := I1.kept kk
  refine ⟨s1.heap.objs.size + 4, _, _, _, H1, rfl, I2, turn_zip (s1.heap.objs.size + 4) (s1.heap.objs.size + 2) (s1.heap.objs.size + 3) s1.heap.objs.size (s1.heap.objs.size + 1) l1 l2 (zip_apart ll1 ll2), ⟨z1, z2, ⟨_, _, z3⟩, z4, z5⟩, fun b hb => ?_, q⟩
  have hbs : s1.heap.objs.size ≤ b := by
    simp only [List.mem_cons, List.not_mem_nil, or_false] at hb
    rcases hb with h | h | h | h | h <;> rw [h] <;> first | exact Nat.le_refl _ | exact Nat.le_add_right _ _
  exact I1.fpOk hbs (I1.hok.fresh hbs)
theorem for_zip {K : PySem.W.Frag} {l1 l2 : Addr} {xs ys : List V} {g : TG} {tb : TS} {D : Ends} {σ : St} {H : Hp} (Pv : Nat->St->Hp->Prop) (h0 : Pv 0 σ H) (hl : ∀ i σ H, Pv i σ H->SqL K H l1 xs /\ SqL K H l2 ys) (hlen : xs.length = ys.length)
    (hs : ∀ i x y σ H T, xs[i]? = some x->ys[i]? = some y->Pv i σ H->H T = none->g (.ref T) σ (upd H T (.tup [x, y])) fun σ2 H2 => tb { D with nx := Pv (i + 1), ct := Pv (i + 1), bk := D.nx } σ2 H2) (hd : ∀ σ H, Pv xs.length σ H->D.nx σ H) :
    ∃ W : Nat->Nat->St->Hp->Prop, (∃ m, W 0 m σ H) /\ ∀ i m σ H, W i m σ H →
      ((Itz K l1 l2).stop i H /\ D.nx σ H) ∨ ((Itz K l1 l2).go i H /\ ∃ N : St->Hp->Prop, (∀ σ' H', N σ' H'->∃ m', m' < m /\ W (i + 1) m' σ' H') /\ ∀ x H', (Itz K l1 l2).yld i H x H'->g x σ H' fun σ2 H2 => tb { D with nx := N, ct := N, bk := D.nx } σ2 H2) := by
  refine ⟨fun i m σ H => m = xs.length - i /\ i ≤ xs.length /\ Pv i σ H, ⟨xs.length, by simp, Nat.zero_le _, h0⟩, ?_⟩
  rintro i m σ H ⟨rfl, hi, p⟩
  obtain ⟨q1, q2⟩ := hl i σ H p
  by_cases hlt : i < xs.length
  · have ex : xs[i]? = some xs[i] := List.getElem?_eq_getElem hlt
    have ey : ys[i]? = some (ys[i]'(by omega)) := List.getElem?_eq_getElem (by omega)
    refine .inr ⟨⟨xs, ys, _, _, q1, q2, ex, ey⟩, Pv (i + 1), fun σ' H' p' => ⟨xs.length - (i + 1), by omega, rfl, hlt, p'⟩, ?_⟩
    rintro v H' ⟨T, x, y, nT, rfl, rfl, hx, hy⟩
    exact hs i x y σ H T (hx xs q1) (hy ys q2) p nT
  · have e : i = xs.length := by omega
    subst e
    exact .inl ⟨⟨xs, ys, q1, q2, .inl (Nat.le_refl _)⟩, hd σ H p⟩
open PySem PySem.Spec PyProof.Rows
def veTail : List Value := [.type "ValueError", .type "Exception", .type "BaseException", .type "object"]
def isRefV : Value->Bool
  | .ref _ => true
  | _ => false
def excMro (l : List Value) : Bool := l.dropWhile isRefV == veTail
theorem excMro_at {l : List Value} (h : excMro l = true) : ∃ rs : List Addr, l = rs.map Value.ref ++ veTail := by
  induction l with
  | nil => exact absurd h (by decide)
  | cons x r ih =>
    unfold excMro at h
    by_cases hx : isRefV x = true
    · rw [List.dropWhile_cons, if_pos hx] at h
      obtain ⟨rs, e⟩ := ih h
      cases x <;> first | cases hx | skip
      rename_i a
      exact ⟨a :: rs, by rw [e]; rfl⟩
    · rw [List.dropWhile_cons, if_neg hx] at h
      exact ⟨[], by rw [beq_iff_eq.mp h]; rfl⟩
theorem excMro_has {T : String} (hT : veTail.contains (.type T) = true) {l : List Value} (h : excMro l = true) : l.contains (.type T) = true := by
  obtain ⟨rs, rfl⟩ := excMro_at h
  rw [List.contains_eq_mem]
  simp only [List.contains_eq_mem, decide_eq_true_eq] at hT ⊢
  exact List.mem_append_right _ hT
theorem excMro_ne {l : List Value} (h : excMro l = true) : l.isEmpty = false := by
  cases l with
  | nil => exact absurd h (by decide)
  | cons _ _ => rfl
theorem refuse_exc (self : Value) {l : List Value} (h : excMro l = true) : refuseLoop self "__setattr__" l = pure () := by
  obtain ⟨rs, rfl⟩ := excMro_at h
  induction rs with
  | nil => exact PySem.F.store_ValueError.passes self
  | cons a r ih =>
    show refuseLoop self "__setattr__" (.ref a :: (r.map Value.ref ++ veTail)) = _
    rw [refuseLoop_ref]
    refine ih ?_
    have : ∀ r : List Addr, excMro (r.map Value.ref ++ veTail) = true := fun r => by
      induction r with
      | nil => decide
      | cons b r ih => exact ih
    exact this r
def xobjIn (K : PySem.W.Frag) (C : Addr) : Bool := match K.lookup C with
  | some ⟨.type "type", _, .cls cd, sl⟩ => (match cd.mro, sl.toList with
    | .ref D :: bm, [_, _, _, _, some (.builtin n), _] => D == C && !cd.hasDel && excMro bm && n == "ValueError.__new__" && cd.hasDict
    | _, _ => false)
  | _ => false
structure XObj (h : Heap) (C : Addr) : Prop where
  ex : ∃ nm q N bs bm sn sub ab col dd k0 k1 k2 k3 k5, h.get? C = some (excClassObj nm q C N bs bm true sn sub ab col dd k0 k1 k2 k3 k5 "ValueError.__new__") /\ excMro bm = true
theorem xobj_of {K : PySem.W.Frag} {C : Addr} (q : xobjIn K C = true) : ∃ nm qn N bs bm sn sub ab col dd k0 k1 k2 k3 k5, K.lookup C = some (excClassObj nm qn C N bs bm true sn sub ab col dd k0 k1 k2 k3 k5 "ValueError.__new__") /\ excMro bm = true := by
  unfold xobjIn at q
  split at q
  · rename_i dd cd sl ho
    split at q
    · rename_i D bm k0 k1 k2 k3 n k5 hm hs
      simp only [Bool.and_eq_true, beq_iff_eq, Bool.not_eq_true'] at q
      obtain ⟨⟨⟨⟨rfl, hdel⟩, hb⟩, rfl⟩, hd⟩ := q
      obtain ⟨nm, bs, mro, ns, qn, hd', sn, sub, ab, col, del⟩ := cd
      dsimp only at hm hdel hd
      subst hm hdel hd
      have hsl : sl = #[k0, k1, k2, k3, some (.builtin "ValueError.__new__"), k5] := by
        obtain ⟨l⟩ := sl
        simp only at hs
        rw [hs]
      subst hsl
      exact ⟨nm, qn, ns, bs, bm, sn, sub, ab, col, dd, k0, k1, k2, k3, k5, ho, hb⟩
    · cases q
  · cases q
structure XCls (K : PySem.W.Frag) (C : Addr) : Prop where
  obj : xobjIn K C = true
  sa : PySem.W.findIn K (.ref C) "__setattr__" = some (some (.builtin "object.__setattr__"))
  ga : PySem.W.findIn K (.ref C) "__getattribute__" = some (some (.builtin "BaseException.__getattribute__"))
  gh : PySem.W.findIn K (.ref C) "__getattr__" = some none
  cl : PySem.W.findIn K (.ref C) "__class__" = some (some (.builtin "object.__class__"))
  clg : PySem.W.specialIn K (.builtin "object.__class__") "__get__" = some (some (.builtin "getset_descriptor.__get__"))
  clt : PySem.W.takesIn K (.builtin "object.__class__") = some true
theorem excMro_cons {C : Addr} {bm : List Value} (h : excMro bm = true) : excMro (.ref C :: bm) = true := h
theorem XCls.mro {K : PySem.W.Frag} {C : Addr} (c : XCls K C) : ∃ cd, PySem.W.clsIn K C = some cd /\ excMro cd.mro = true /\ cd.hasDict = true := by
  obtain ⟨nm, qn, N, bs, bm, sn, sub, ab, col, dd, k0, k1, k2, k3, k5, ho, hb⟩ := xobj_of c.obj
  refine ⟨{ name := nm, bases := bs, mro := .ref C :: bm, ns := N, qualname := qn, hasDict := true, slotNames := sn, subclasses := sub, abstract := ab, collection := col, hasDel := false }, ?_, excMro_cons (C := C) hb, rfl⟩
  unfold PySem.W.clsIn
  rw [ho]
theorem XCls.at {K : PySem.W.Frag} {C : Addr} {h : Heap} (c : XCls K C) (X : K.In h) : XObj h C := by
  obtain ⟨nm, qn, N, bs, bm, sn, sub, ab, col, dd, k0, k1, k2, k3, k5, ho, hb⟩ := xobj_of c.obj
  exact ⟨nm, qn, N, bs, bm, sn, sub, ab, col, dd, k0, k1, k2, k3, k5, X _ _ ho, hb⟩
theorem XCls.has {K : PySem.W.Frag} {C : Addr} (c : XCls K C) {T : String} (hT : veTail.contains (.type T) = true) : PySem.W.mroIn K C (.type T) = some true := by
  obtain ⟨cd, h1, h2, _⟩ := c.mro
  unfold PySem.W.mroIn
  rw [h1, Option.bind_some, if_neg (by rw [excMro_ne h2]; decide), excMro_has hT h2]
open PySem PySem.Spec PyProof.Rows
section
variable {prog : Program} {w : World} {A : Around} {E : Value->Shared->Prop} {s : Shared} {K : PySem.W.Frag} {x C : Addr} {ox : Obj} {od : Option Obj} {name : Str} {v : Value}
theorem xset_open {Q : Unit->Shared->Prop} (X : K.In s.heap) (I : PySem.W.InstAt s.heap x ox C od) (c : XCls K C) (n : NoAttr K C name)
    (h : ∀ b, wpAny (model prog w) A.in1 (Builtin.ObjectAttr.storeInOwnDict (.ref x) (.ref C) (.str name s.toks) name v b)
      (fun fin s' => match fin with | .done (.ret _) => Q () s' | _ => False) (fun e s' => E e s') { s with toks := s.toks + 1 }) :
    wpAny (model prog w) A (setAttr (.ref x) name v) Q E s := by
  obtain ⟨hp, g, d, t, os⟩ := s
  have SF := PySem.F.store_ValueError
  obtain ⟨cd, hc, ho, _⟩ := c.mro
  refine PySem.W.set_plain X I c.sa ?_
  have sub : PySem.W.Looks (model prog w) hp (isInstance (.ref x) (.type "object")) true := I.type.andThen (PySem.W.looks_mroIn X (c.has (by decide)))
  refine codeAny_call_builtin SF.slot.plain SF.entry (@PySem.W.check_slot (model prog w) _ _ _ "object.__setattr__" "object" "__setattr__" (.ref x) [.str name t, v] [] _ SF.kind SF.split sub (SF.args (.ref x) (.str name t) v) ?_)
  have hm : PySem.W.Looks (model prog w) hp (mroOf (.ref C)) cd.mro := (PySem.W.looks_clsIn X hc).andThen .now
  have LN := PySem.W.looks_findIn (M := model prog w) X (show PySem.W.findIn K (.ref C) name = some none from n)
  rw [PySem.W.osa_eq, refuse_eq]
  refine wpAny_bind (wpAny_bind (I.type.at (wpAny_bind (hm.at ?_))))
  rw [refuse_exc _ ho]
  refine wpAny_pure (wpAny_bind (I.type.at (wpAny_bind (LN.at (wpAny_bind (wpAny_pure ?_))))))
  refine wpAny_mono (h false) (fun fin s' z => ?_) fun _ _ z => z
  rcases fin with (_ | _ | _ | _) | _ <;> first | exact z | exact z.elim
theorem xset_first {vs : Array Value} {sl : Array (Option Value)} {Q : Unit->Shared->Prop} (X : K.In s.heap) (hx : s.heap.get? x = some ⟨.ref C, none, .fields vs, sl⟩) (c : XCls K C) (n : NoAttr K C name)
    (h : ∀ h' tk', h'.get? x = some ⟨.ref C, some s.heap.objs.size, .fields vs, sl⟩->h'.Ns1 s.heap.objs.size (fun y => if y = name then some v else none)->(∀ b o, b ≠ x->s.heap.get? b = some o->h'.get? b = some o) →
      Q () { s with heap := h', toks := tk' }) :
    wpAny (model prog w) A (setAttr (.ref x) name v) Q E s := by
  have I : PySem.W.InstAt s.heap x ⟨.ref C, none, .fields vs, sl⟩ C none := ⟨hx, rfl, rfl, trivial⟩
  refine xset_open X I c n fun b => ?_
  obtain ⟨hp, g, d, t, os⟩ := s
  obtain ⟨cd, hc, ho, hd⟩ := c.mro
  have LC := PySem.W.looks_clsIn (M := model prog w) X hc
  unfold Builtin.ObjectAttr.storeInOwnDict
  refine wpAny_bind (wpAny_pure ?_)
  refine wpAny_bind (m := Builtin.ObjectAttr.ownDictForStores _) ?_
  show wpAny _ _ (instanceDict x true) _ _ _
  unfold instanceDict
  refine wpAny_bind (wpAny_loadPart hx ?_)
  dsimp only
  refine wpAny_bind (LC.at ?_)
  rw [hd]
  have hx1 : (hp.push { cls := .type "dict", data := .dict #[] }).get? x = some ⟨.ref C, none, .fields vs, sl⟩ := Heap.get?_push_of_some _ hx
  have hxs : x ≠ hp.objs.size := Nat.ne_of_lt (Heap.lt_size hx)
  show wpAny _ _ (do let dd ← alloc { cls := .type "dict", data := .dict #[] }; update x (fun o => { o with dict := some dd }); dictMade (.ref C) x dd) _ _ _
  refine wpAny_bind (wpAny_alloc' ?_)
  refine wpAny_bind (wpAny_update' hx1 ?_)
  refine wpAny_pure ?_
  have hgd : ((hp.push { cls := .type "dict", data := .dict #[] }).update x fun o => { o with dict := some hp.objs.size }).get? hp.objs.size = some { cls := .type "dict", data := .dict #[] } :=
    (Heap.get?_update_ne _ _ _ _ hxs.symm).trans (Heap.get?_push_at rfl rfl)
  have hnd : ((hp.push { cls := .type "dict", data := .dict #[] }).update x fun o => { o with dict := some hp.objs.size }).Ns hp.objs.size (fun _ => none) := ⟨_, #[], _, hgd, rfl, fun e he => absurd he (by simp), fun _ => rfl⟩
  show wpAny _ _ (Builtin.ObjectAttr.storeInDict hp.objs.size (.str name t) name v) _ _ _
  unfold Builtin.ObjectAttr.storeInDict Builtin.ObjectAttr.newKeyGuard
  refine wpAny_bind (wpAny_pure (wpAny_bind (wpAny_nsSet1 (Heap.Ns1.of_empty hnd) fun h' hn' hs => ?_)))
  obtain ⟨oD, esD, epD, hoD, hdD, hcD⟩ := hn'.count (Within.cons name v Within.nil)
  refine wpAny_bind (wpAny_lookBehind hoD (by rw [hdD]; exact pastItsLine_dict (Nat.le_trans hcD (by rw [List.length_cons, List.length_nil, sizeLine_eq]; omega))) ?_)
  refine wpAny_pure (h h' _ ?_ hn' fun b o hb e => ?_)
  · exact (hs.2 x hxs).trans (Heap.get?_update_self _ hx1 rfl)
  · exact (hs.2 b (Nat.ne_of_lt (Heap.lt_size e))).trans ((Heap.get?_update_ne _ _ _ _ hb).trans (Heap.get?_push_of_some _ e))
end
open PySem PySem.Spec PyProof.Rows
abbrev excNew (C t : Addr) : Obj := { cls := .ref C, data := .fields #[.ref t, .none, .none, .none, .bool false, .none] }
abbrev tupNew (rest : List Value) : Obj := { cls := .type "tuple", data := .seq rest.toArray }
theorem own_has {C : Addr} {bm : List Value} (hb : excMro bm = true) {T : String} (hT : veTail.contains (.type T) = true) : (Value.ref C :: bm).contains (.type T) = true := by
  rw [List.contains_cons, excMro_has hT hb, Bool.or_true]
theorem own_not {C : Addr} {bm : List Value} (hb : excMro bm = true) {T : String} (hT : veTail.contains (.type T) = false) : (Value.ref C :: bm).contains (.type T) = false := by
  obtain ⟨rs, rfl⟩ := excMro_at hb
  rw [List.contains_cons, List.contains_eq_mem, decide_eq_false, Bool.or_false]
  · rfl
  · intro hm
    rcases List.mem_append.mp hm with h | h
    · obtain ⟨a, _, e⟩ := List.mem_map.mp h
      cases e
    · rw [List.contains_eq_mem] at hT
      exact (of_decide_eq_false hT) h
section
variable {prog : Program} {w : World} {A : Around} {E : Value->Shared->Prop} {h : Heap} {g : Array GenState} {d : Drawn} {t : Nat} {os : OsState} {K : PySem.W.Frag} {C f : Addr}
variable {nm q : Str} {N : Addr} {bs bm : List Value} {sn : List Str} {sub : List Value} {ab : Bool} {col : Option Bool} {dd : Option Addr} {k0 k1 k2 k3 k5 : Option Value}
theorem xcheck_new {M : Model} {rest : List Value} {Q : Unit->Shared->Prop} (hb : excMro bm = true) (hC : h.get? C = some (excClassObj nm q C N bs bm true sn sub ab col dd k0 k1 k2 k3 k5 "ValueError.__new__")) (hq : Q () ⟨h, g, d, t, os⟩) :
    wpAny M A (checkBuiltinCall "ValueError.__new__" ⟨.ref C :: rest, []⟩) Q E ⟨h, g, d, t, os⟩ := by
  have F := PySem.F.excBase_ValueError
  have hcont := own_has (C := C) hb (T := "ValueError") (by decide)
  have hstar := F.noStar
  simp only [checkBuiltinCall, F.newKind, F.newSplit, F.newRow]
  repeat (first
    | refine wpAny_loadPart_at hC ?_
    | (refine wpAny_isSubtype_exc hC ?_; rw [hcont])
    | refine wpAny_staticBase_exc hC ?_
    | refine wpAny_madeBy_exc hC ?_
    | simp only [bne_self_eq_false, Bool.false_eq_true, if_false]
    | wp_step)
  exact hq
theorem xcode_new {R : Result->Shared->Prop} {rest : List Value} (hb : excMro bm = true) (hC : h.get? C = some (excClassObj nm q C N bs bm true sn sub ab col dd k0 k1 k2 k3 k5 "ValueError.__new__")) (hrest : rest.length ≤ sizeLine)
    (hq : R (.ok (.ret (.ref (h.objs.size + 1)))) ⟨(h.push (tupNew rest)).push (excNew C h.objs.size), g, d, t, os⟩) :
    codeAny (model prog w) A (.builtin "ValueError.__new__" ⟨.ref C :: rest, []⟩) R ⟨h, g, d, t, os⟩ := by
  have F := PySem.F.excBase_ValueError
  have hends := F.ends
  have hcB := own_has (C := C) hb (T := "ValueError") (by decide)
  have hcA := own_not (C := C) hb (T := "AttributeError") (by decide)
  have hcN := own_not (C := C) hb (T := "NameError") (by decide)
  refine codeAny_builtinAt F.entry ?_
  unfold Builtin.«BaseException.__new__»
  refine PySem.wpAt_bind ?_
  show PySem.wpAt _ _ _ (stack >>= _) _ _ _
  refine PySem.wpAt_bind (PySem.wpAt_stack fun p below => PySem.wpAt_of_wpAny ?_)
  wp_walk
  refine PySem.wpAt_of_wpAny ?_
  rw [F.owner]
  repeat (first
    | with_reducible refine wpAny_madeHere_exc F.canon hC ?_
    | with_reducible refine wpAny_loadPart_at hC ?_
    | (with_reducible refine wpAny_isSubtype_exc hC ?_; first | rw [hcB] | rw [hcA] | rw [hcN])
    | wp_step)
  show R _ _
  rw [Heap.size_push]
  exact hq
theorem xkeeps {rest : List Value} : ∀ b o, h.get? b = some o->((h.push (tupNew rest)).push (excNew C h.objs.size)).get? b = some o := fun b o e => Heap.get?_push_of_some _ (Heap.get?_push_of_some _ e)
theorem xnew_at {rest : List Value} : ((h.push (tupNew rest)).push (excNew C h.objs.size)).get? (h.objs.size + 1) = some (excNew C h.objs.size) := by
  have := Heap.get?_push_size (h.push (tupNew rest)) (o := excNew C h.objs.size) rfl
  rwa [Heap.size_push] at this
theorem xtype_call {rest : List Value} {Q : Fin->Shared->Prop} (hb : excMro bm = true) (hC : h.get? C = some (excClassObj nm q C N bs bm true sn sub ab col dd k0 k1 k2 k3 k5 "ValueError.__new__")) (hrest : rest.length ≤ sizeLine) (X : K.In h)
    (hi : PySem.W.findIn K (.ref C) "__init__" = some (some (.ref f))) (hf : PySem.W.typeIn K (.ref f) = some (.type "function"))
    (hq : wpAny (model prog w) A (call (.ref f) (.ref (h.objs.size + 1) :: rest)) (fun r s' => r = .none /\ Q (.done (.ret (.ref (h.objs.size + 1)))) s') E ⟨(h.push (tupNew rest)).push (excNew C h.objs.size), g, d, t, os⟩) :
    wpAny (model prog w) A (Builtin.«type.__call__» ⟨.ref C :: rest, []⟩) Q E ⟨h, g, d, t, os⟩ := by
  have F := PySem.F.excBase_ValueError
  repeat (first | with_reducible refine wpAny_loadPart_at hC ?_ | with_reducible refine wpAny_madeBy_exc hC ?_ | wp_step)
  refine codeAny_call_builtin_code (Code.quiet_builtin _ F.quiet) (xcheck_new hb hC ?_)
  refine xcode_new hb hC hrest ?_
  show wpAny _ _ _ _ _ _
  have X1 : K.In ((h.push (tupNew rest)).push (excNew C h.objs.size)) := X.keeps xkeeps
  have hC1 := xkeeps (C := C) (rest := rest) _ _ hC
  have hcC : (Value.ref C :: bm).contains (.ref C) = true := by simp
  have L1 := PySem.W.looks_findIn (M := model prog w) X1 hi
  have L2 := PySem.W.bind_fn (M := model prog w) X1 (.ref (h.objs.size + 1)) hf
  unfold isInstance
  repeat (first | with_reducible refine wpAny_loadPart_at xnew_at ?_ | (with_reducible refine wpAny_isSubtype_exc hC1 ?_; rw [hcC]) | wp_step)
  show wpAny _ _ (typeLookup (.ref C) _) _ _ _
  refine L1.at ?_
  refine wpAny_holding (wpAny_bind (L2.at ?_))
  refine wpAny_bind (wpAny_mono hq (fun r s' hr => ?_) fun _ _ x => x)
  obtain ⟨rfl, hQ⟩ := hr
  wp_walk
  exact hQ
theorem xcall_init {rest : List Value} {Q : Value->Shared->Prop} (X : K.In h) (c : XCls K C) (hrest : rest.length ≤ sizeLine)
    (hi : PySem.W.findIn K (.ref C) "__init__" = some (some (.ref f))) (hf : PySem.W.typeIn K (.ref f) = some (.type "function"))
    (hq : wpAny (model prog w) (A.under (.builtin "type.__call__" ⟨.ref C :: rest, []⟩)) (call (.ref f) (.ref (h.objs.size + 1) :: rest)) (fun r s' => r = .none /\ Q (.ref (h.objs.size + 1)) s') E ⟨(h.push (tupNew rest)).push (excNew C h.objs.size), g, d, t, os⟩) :
    wpAny (model prog w) A (call (.ref C) rest) Q E ⟨h, g, d, t, os⟩ := by
  obtain ⟨nm, qn, N, bs, bm, sn, sub, ab, col, dd, k0, k1, k2, k3, k5, hC, hb⟩ := (c.at X).ex
  have f1 := tc_lookup
  have f2 := tc_bind (.ref C)
  have hT : (⟨h, g, d, t, os⟩ : Shared).TypeIs (.ref C) "type" := ⟨_, hC, rfl⟩
  refine wpAny_call (codeAny_of_tree ?_)
  show wpAny _ _ (callAny (.ref C) _) _ _ _
  repeat (any_goals (first | assumption | with_reducible refine wpAny_loadPart_at hC ?_ | wp_step))
  refine ⟨rfl, ?_⟩
  exact codeAny_call_builtin_at (Code.quiet_builtin _ (by decide +kernel)) entry_typeCall (wpAny_check_type_call_sub hC (xtype_call hb hC hrest X hi hf hq))
end
open PySem PySem.Spec PyProof.Rows
def IsExc (raw : Bool) (e C : Addr) (od : Option Addr) (h : Heap) : Prop := ∃ vs sl, h.get? e = some ⟨.ref C, od, .fields vs, sl⟩ /\ vs.size = 6 /\ (raw = true->vs[1]? = some .none)
def IsXd (dx : Addr) (fs : List (Str × V)) (h : Heap) : Prop := ∃ mA, h.Ns1 dx mA /\ (∀ f, RelO (fs.lookup f) (mA f)) /\ PySem.Within mA (fs.map (·.1))
abbrev exO (raw : Bool) (e C : Addr) (od : Option Addr) : HO := .ext (IsExc raw e C od)
abbrev xdO (dx : Addr) (fs : List (Str × V)) : HO := .ext (IsXd dx fs)
def ExcAt (H : Hp) (e C : Addr) (fs : List (Str × V)) : Prop := ∃ raw od, H e = some (exO raw e C od) /\ match od with
  | none => fs = []
  | some dx => H dx = some (xdO dx fs) /\ dx ≠ e
section
variable {P : Program} {w : World} {H : Hp} {h : Heap} {e C dx : Addr} {od : Option Addr} {raw : Bool} {fs : List (Str × V)}
theorem objOk_exc (x : IsExc raw e C od h) : ObjOk P w H h e (exO raw e C od) := by
  refine ⟨x, ?_, ?_⟩
  · obtain ⟨vs, sl, q, _⟩ := x
    exact ⟨_, q⟩
  · rintro h1 h2 ⟨vs, sl, q, r⟩ k
    exact ⟨vs, sl, k _ q, r⟩
theorem objOk_xd (x : IsXd dx fs h) : ObjOk P w H h dx (xdO dx fs) := by
  refine ⟨x, ?_, ?_⟩
  · obtain ⟨mA, ⟨o, es, ep, q, _⟩, _⟩ := x
    exact ⟨o, q⟩
  · rintro h1 h2 ⟨mA, ⟨o, es, ep, q, r⟩, z⟩ k
    exact ⟨mA, ⟨o, es, ep, k _ q, r⟩, z⟩
theorem exc_of (x : HOk P w H h) (q : H e = some (exO raw e C od)) : IsExc raw e C od h := (x e _ q).1
end
section
variable {X : Cx} {pins : List (Addr × Obj)} {σ : St} {H : Hp} {s : Shared} {a C dx : Addr} {od : Option Addr} {raw : Bool} {fs : List (Str × V)} {f : Str} {v : V} {A : Around} {E : Value->Shared->Prop}
theorem xsetattr_first {y : V} {u : Value} {Q : Unit->Shared->Prop} (I : Inv X pins σ H s) (e : H a = some (exO raw a C none)) (c : XCls X.K C) (n : NoAttr X.K C f) (ry : RelV y u)
    (h : ∀ dx s', H dx = none->Inv X pins σ (upd (upd H dx (xdO dx [(f, y)])) a (exO raw a C (some dx))) s'->Q () s') : wpAny (model X.prog X.w) A (setAttr (.ref a) f u) Q E s := by
  obtain ⟨vs, sl, q, hv⟩ := exc_of I.hok e
  refine xset_first I.kIn q c n fun h' tk' h1 h2 h3 => ?_
  have hn : H s.heap.objs.size = none := I.hok.fresh (Nat.le_refl _)
  have hna : a ≠ s.heap.objs.size := Nat.ne_of_lt (Heap.lt_size q)
  refine h s.heap.objs.size _ hn ?_
  have hd2 : IsXd s.heap.objs.size [(f, y)] h' := by
    refine ⟨_, h2, fun g => ?_, fun g hg => ?_⟩
    · show RelO (List.lookup g [(f, y)]) (if g = f then some u else none)
      rw [List.lookup_cons]
      by_cases z : g = f
      · subst z; rw [if_pos rfl]; simp; exact ry
      · rw [if_neg z, show (g == f) = false by simpa using z]; exact True.intro
    · by_cases z : g = f
      · subst z; simp
      · exact absurd (if_neg z) hg
  have hE : IsExc raw a C (some s.heap.objs.size) h' := ⟨vs, sl, h1, hv⟩
  have hu : Un X.fs [] H (upd (upd H s.heap.objs.size (xdO s.heap.objs.size [(f, y)])) a (exO raw a C (some s.heap.objs.size))) s.heap h' := by
    have nn : ∀ b o, s.heap.get? b = some o->b ≠ s.heap.objs.size := fun b o e => Nat.ne_of_lt (Heap.lt_size e)
    refine ⟨fun b o e' n' _ _ => h3 b o (fun z => by rw [z, e] at n'; cases n') e', fun b o e' n' _ _ => ⟨o.slots, h3 b o (fun z => by rw [z, e] at n'; cases n') e'⟩, fun b o e' n' _ => ?_, fun b o e' _ => ?_, fun b xs e' => ?_, fun b o u' e' => ?_, fun b ps e' => ⟨#[], ?_⟩⟩
    · rw [upd_ne (fun z => by rw [z, e] at n'; cases n'), upd_ne (nn b o e')]; exact n'
    · by_cases z : b = a
      · subst z; exact ⟨_, h1⟩
      · exact ⟨o, h3 b o z e'⟩
    · rw [upd_ne (fun z => by rw [z, e] at e'; cases e'), upd_ne (ne_of_none e' hn)]; exact e'
    · rw [upd_ne (fun z => by rw [z, e] at e'; cases e'), upd_ne (ne_of_none e' hn)]; exact e'
    · rw [upd_ne (fun z => by rw [z, e] at e'; cases e'), upd_ne (ne_of_none e' hn), e']; simp
  refine I.un hu fun b o e' => ?_
  by_cases z : b = a
  · subst z; rw [upd_same] at e'; cases e'; exact objOk_exc hE
  · rw [upd_ne z] at e'
    by_cases z2 : b = s.heap.objs.size
    · subst z2; rw [upd_same] at e'; cases e'; exact objOk_xd hd2
    · rw [upd_ne z2] at e'
      refine (I.hok b o e').stay (fun c' v' hc q' => h3 c' v' ?_ q') (fun c' q' => ?_) fun c' xs q' => ?_
      · rcases hc with hc | hc
        · rw [hc]; exact z
        · intro z3; rw [z3, e] at hc; cases hc
      · rw [upd_ne (fun z3 => by rw [z3, e] at q'; cases q'), upd_ne (ne_of_none q' hn)]; exact q'
      · rw [upd_ne (fun z3 => by rw [z3, e] at q'; cases q'), upd_ne (ne_of_none q' hn)]; exact q'
end
def sXFld1 (K : PySem.W.Frag) (ta tv : TE) (f : Str) : TS := fun D σ H => tv σ H fun y H1 => ta σ H1 fun x H2 => ∃ a C raw, x = .ref a /\ H2 a = some (exO raw a C none) /\ XCls K C /\ NoAttr K C f ∧
  ∀ dx, H2 dx = none->D.nx σ (upd (upd H2 dx (xdO dx [(f, y)])) a (exO raw a C (some dx)))
section
variable {X : Cx} {o e value : Expr} {f : Str} {pos pos' : Pos} {ta tv : TE}
theorem ps_xfld1 (ha : PE X o ta) (hv : PE X value tv) (hs : swapsWith value (some (.Attribute o f pos')) pos.line X.env = pure false) : PS X (.Assign [.Attribute o f pos'] value pos) (sXFld1 X.K ta tv f) := by
  intro pins s σ H D I h
  refine plainObj_wpAny_Assign_Attribute (thn (hv pins s σ H _ I h) fun u s1 ⟨y, H1, I1, ry, q⟩ => thn (ha pins s1 σ H1 _ I1 q) fun ov s2 ⟨x, H2, I2, rx, a, C, raw, ex, ea, c, n, q2⟩ => ?_) hs
  subst ex
  obtain rfl : ov = Value.ref a := rx
  exact xsetattr_first I2 ea c n ry fun dx s3 hdx I3 => ⟨σ, _, I3, q2 dx hdx⟩
end
open PySem PySem.Spec PyProof.Rows
def Fly (h : Heap) (e T : Addr) (fl : Value) : Prop := ∃ oe vs oT ts, h.get? e = some oe /\ oe.data = .fields vs /\ vs[1]? = some (.ref T) /\ h.get? T = some oT /\ oT.data = .fields ts /\ ts[3]? = some fl /\ T ≠ e
structure Noted (fs ch : List Addr) (e T : Addr) (fl : Value) (h h' : Heap) : Prop where
  keep : ∀ b o, b ∉ fs->b ∉ ch->b ≠ e->h.get? b = some o->h'.get? b = some o
  slot : ∀ b o, b ∈ fs->b ∉ ch->b ≠ e->h.get? b = some o->∃ sl, h'.get? b = some { o with slots := sl }
  new : h.objs.size ≤ T
  exc : ∀ oe vs, h.get? e = some oe->oe.data = .fields vs->h'.get? e = some (oe.mapFields (·.setIfInBounds 1 (.ref T)))
  fly : Fly h' e T fl
section
variable {M : Model} {A : Around} {E : Value->Shared->Prop} {s : Shared} {base : Heap} {env : Env} {outer : List Env} {L e : Addr} {oe : Obj} {vs : Array Value} {Q : Unit->Shared->Prop}
theorem entry_ok {head : Value} {b : Bool} (hfr : A.frames = some (env :: outer)) (hl : s.heap.FunFrames base (env :: outer)) (hf : env.frame = some L) (he : s.heap.get? e = some oe) (hd : oe.data = .fields vs) (hsz : 1 < vs.size)
    (h : ∀ h' T, Noted (frs (env :: outer)) [] e T (rawInt L) s.heap h'->Q () { s with heap := h' }) :
    wpAny M A (do let a ← frameOf env; let pl ← entryPlaceOf L b; let x ← EntryCells.newEntry head a .none (rawInt L) .none pl; setField (.ref e) 1 x) Q E s := by
  have hene : e ∉ frs (env :: outer) := fun hm => by
    obtain ⟨_, o, ho, hnf⟩ := hl.mem hm
    rw [he] at ho
    cases ho
    exact hnf vs hd
  refine wpAny_bind (wpAny_frameOf_fun hfr hl hf fun h1 hs => ?_)
  refine wpAny_bind (wpAny_entryPlaceOf fun pl hpl => ?_)
  unfold EntryCells.newEntry newFields
  refine wpAny_bind (wpAny_newObj_type ?_ (hpl.sizeOk5 _ _ _ _ _))
  have he1 : h1.get? e = some oe := (hs.2.1 e hene).trans he
  generalize hT : ({ cls := .type "traceback", dict := none, data := .fields ([head, .ref L, .none, rawInt L, .none] ++ (if pl.isEmpty then List.replicate 6 Value.none else pl)).toArray } : Obj) = oT
  have he2 := Heap.get?_push_of_some (h := h1) oT he1
  refine wpAny_setField he2 hd hsz (h _ h1.objs.size ?_)
  have hTe : h1.objs.size ≠ e := Nat.ne_of_gt (Heap.lt_size he1)
  have hd3 := Obj.data_mapFields hd (·.setIfInBounds 1 (Value.ref h1.objs.size))
  have he3 := Heap.get?_update_self (Obj.mapFields (·.setIfInBounds 1 (Value.ref h1.objs.size))) he2 (Obj.isFreed_of_fields hd3)
  have hT3 : ((h1.push oT).update e (Obj.mapFields (·.setIfInBounds 1 (Value.ref h1.objs.size)))).get? h1.objs.size = some oT :=
    (Heap.get?_update_other _ _ (Ne.symm hTe)).trans (Heap.get?_push_size h1 (by rw [← hT]; rfl))
  have keep : ∀ b o, b ≠ e->h1.get? b = some o->((h1.push oT).update e (Obj.mapFields (·.setIfInBounds 1 (Value.ref h1.objs.size)))).get? b = some o := fun b o hb q => by
    rw [Heap.get?_update_other _ _ (Ne.symm hb)]
    exact Heap.get?_push_of_some _ q
  refine ⟨fun b o hb _ hbe q => keep b o hbe ((hs.2.1 b hb).trans q), fun b o hb _ hbe q => ?_, ?_, fun oe' vs' q' d' => ?_, ?_⟩
  · obtain ⟨sl, z⟩ := hs.2.2 b o q
    exact ⟨sl, keep b _ hbe z⟩
  · rw [hs.1]; exact Nat.le_refl _
  · rw [he] at q'; cases q'; exact he3
  · refine ⟨_, _, oT, _, he3, hd3, by simp [hsz], hT3, by rw [← hT], ?_, hTe⟩
    simp
theorem note_new (hfr : A.frames = some (env :: outer)) (hl : s.heap.FunFrames base (env :: outer)) (hf : env.frame = some L) (he : s.heap.get? e = some oe) (hd : oe.data = .fields vs) (h1 : vs[1]? = some .none)
    (h : ∀ h' T, Noted (frs (env :: outer)) [] e T (rawInt L) s.heap h'->Q () { s with heap := h' }) : wpAny M A (noteFrame (.ref e) env) Q E s := by
  unfold noteFrame
  simp only [hf]
  refine wpAny_bind (wpAny_field he hd h1 ?_)
  rw [if_neg (by decide)]
  exact entry_ok hfr hl hf he hd (Array.getElem?_eq_some_iff.mp h1).1 h
theorem note_next {T : Addr} (hfr : A.frames = some (env :: outer)) (hl : s.heap.FunFrames base (env :: outer)) (hf : env.frame = some L) (hF : Fly s.heap e T .none)
    (h : ∀ h' T', Noted (frs (env :: outer)) [T] e T' (rawInt L) s.heap h'->Q () { s with heap := h' }) : wpAny M A (noteFrame (.ref e) env) Q E s := by
  obtain ⟨oe, vs, oT, ts, he, hd, h1, hT, hdT, h3, hTe⟩ := hF
  unfold noteFrame
  simp only [hf]
  refine wpAny_bind (wpAny_field he hd h1 ?_)
  rw [if_pos (show (Value.ref T != Value.none) = true from by simp)]
  refine wpAny_bind (wpAny_field hT hdT h3 ?_)
  rw [if_neg (show ¬ ((Value.none == rawInt L) = true) from by simp [rawInt])]
  refine wpAny_bind (wpAny_setField hT hdT (Array.getElem?_eq_some_iff.mp h3).1 ?_)
  have other : ∀ b, b ≠ T->(s.heap.update T (Obj.mapFields (·.setIfInBounds 3 Value.none))).get? b = s.heap.get? b := fun b hb => Heap.get?_update_other _ _ (Ne.symm hb)
  have nrec : ∀ b o, s.heap.get? b = some o->(∀ vs, o.data ≠ .fields vs)->b ≠ T := fun b o hb hnf q => by
    rw [q, hT] at hb
    cases hb
    exact hnf ts hdT
  have sz : (s.heap.update T (Obj.mapFields (·.setIfInBounds 3 Value.none))).objs.size = s.heap.objs.size := Heap.size_after_update _ _ _
  refine entry_ok hfr (hl.of_keeps fun b o hb hnf => ⟨o, (other b (nrec b o hb hnf)).trans hb, rfl⟩) hf ((other e (Ne.symm hTe)).trans he) hd (Array.getElem?_eq_some_iff.mp h1).1 fun h' T' N => h h' T' ?_
  dsimp only at N
  refine ⟨fun b o hb hc hbe q => N.keep b o hb (by simp) hbe ((other b (by simpa using hc)).trans q), fun b o hb hc hbe q => N.slot b o hb (by simp) hbe ((other b (by simpa using hc)).trans q), ?_, fun oe' vs' q d => N.exc oe' vs' ((other e (Ne.symm hTe)).trans q) d, N.fly⟩
  rw [← sz]; exact N.new
theorem flight_none {T : Addr} {fl : Value} (hF : Fly s.heap e T fl) (h : ∀ h', (∀ b o, b ≠ T->s.heap.get? b = some o->h'.get? b = some o)->h'.objs.size = s.heap.objs.size->Fly h' e T .none->Q () { s with heap := h' }) : wpAny M A (setFlight (.ref e) none) Q E s := by
  obtain ⟨oe, vs, oT, ts, he, hd, h1, hT, hdT, h3, hTe⟩ := hF
  have hsz : 3 < ts.size := (Array.getElem?_eq_some_iff.mp h3).1
  have other : ∀ b, b ≠ T->(s.heap.update T (Obj.mapFields (·.setIfInBounds 3 ((none : Option Addr).elim Value.none fun f => rawInt f)))).get? b = s.heap.get? b := fun b hb => Heap.get?_update_other _ _ (Ne.symm hb)
  unfold setFlight
  refine wpAny_bind (wpAny_field he hd h1 ?_)
  rw [if_pos (show (Value.ref T != Value.none) = true from by simp)]
  refine wpAny_setField hT hdT hsz (h _ (fun b o hb q => (other b hb).trans q) (Heap.size_after_update _ _ _) ?_)
  exact ⟨oe, vs, _, _, (other e (Ne.symm hTe)).trans he, hd, h1, Heap.get?_update_self _ hT (Obj.isFreed_of_fields (Obj.data_mapFields hdT _)), Obj.data_mapFields hdT _, by simp [hsz], hTe⟩
theorem Noted.landed {fs ch : List Addr} {T : Addr} {fl : Value} {h h1 h2 : Heap} (N : Noted fs ch e T fl h h1) (k : ∀ b o, b ≠ T->h1.get? b = some o->h2.get? b = some o) (F : Fly h2 e T .none) : Noted fs ch e T .none h h2 := by
  have nT : ∀ b o, h.get? b = some o->b ≠ T := fun b o q => Nat.ne_of_lt (Nat.lt_of_lt_of_le (Heap.lt_size q) N.new)
  refine ⟨fun b o hb hc hbe q => k b o (nT b o q) (N.keep b o hb hc hbe q), fun b o hb hc hbe q => ?_, N.new, fun oe vs q d => k e _ (nT e oe q) (N.exc oe vs q d), F⟩
  obtain ⟨sl, z⟩ := N.slot b o hb hc hbe q
  exact ⟨sl, k b _ (nT b o q) z⟩
theorem leave_new (hfr : A.frames = some (env :: outer)) (hl : s.heap.FunFrames base (env :: outer)) (hf : env.frame = some L) (he : s.heap.get? e = some oe) (hd : oe.data = .fields vs) (h1 : vs[1]? = some .none)
    (h : ∀ h' T, Noted (frs (env :: outer)) [] e T .none s.heap h'->Q () { s with heap := h' }) : wpAny M A (leaving env (.ref e)) Q E s := by
  unfold leaving
  exact wpAny_bind (note_new hfr hl hf he hd h1 fun h' T N => flight_none (s := { s with heap := h' }) N.fly fun h2 k _ F => h h2 T (N.landed k F))
theorem leave_next {T : Addr} (hfr : A.frames = some (env :: outer)) (hl : s.heap.FunFrames base (env :: outer)) (hf : env.frame = some L) (hF : Fly s.heap e T .none)
    (h : ∀ h' T', Noted (frs (env :: outer)) [T] e T' .none s.heap h'->Q () { s with heap := h' }) : wpAny M A (leaving env (.ref e)) Q E s := by
  unfold leaving
  exact wpAny_bind (note_next hfr hl hf hF fun h' T' N => flight_none (s := { s with heap := h' }) N.fly fun h2 k _ F => h h2 T' (N.landed k F))
end
open PySem PySem.Spec PyProof.Rows
section
variable {X : Cx} {pins : List (Addr × Obj)} {σ : St} {H : Hp} {s : Shared} {e C T : Addr} {od : Option Addr} {raw : Bool} {fl : Value} {h' : Heap} {ch : List Addr}
theorem upd_id {o : HO} (q : H e = some o) : upd H e o = H := by
  funext b
  unfold upd
  split
  · rename_i z; rw [z]; exact q.symm
  · rfl
theorem Inv.noted (I : Inv X pins σ H s) (q : H e = some (exO raw e C od)) (N : Noted (frs X.stack) ch e T fl s.heap h') (hc : ∀ b ∈ ch, FpOk X pins H b) :
    Inv X pins σ (upd H e (exO false e C od)) { s with heap := h' } := by
  obtain ⟨vs, sl, g, hz, _⟩ := exc_of I.hok q
  have ne : ∀ b, H b = none->b ≠ e := fun b n z => by rw [z, q] at n; cases n
  have tfs : ∀ b o, H b = some o->b ∉ frs X.stack := fun b o z hm => by rw [I.stkFree b hm] at z; cases z
  have tch : ∀ b o, H b = some o->b ∉ ch := fun b o z hm => by rw [(hc b hm).1] at z; cases z
  have hE : IsExc false e C od h' := by
    have := N.exc _ vs g rfl
    refine ⟨vs.setIfInBounds 1 (.ref T), sl, this, by simpa using hz, fun z => by cases z⟩
  refine I.call' (s' := { s with heap := h' }) (ch := ch) rfl ⟨fun b o e' n hf hx => N.keep b o hf hx (ne b n) e', fun b o e' n hf hx => N.slot b o hf hx (ne b n) e', fun b o e' n hx => ?_, fun b o e' hx => ?_, fun b xs e' => ?_, fun b o u e' => ?_, fun b ps e' => ⟨#[], ?_⟩⟩ (fun b o e' => ?_) I.bare fun b hb => ⟨(hc b hb).2.2.2.1, (hc b hb).2.1, (hc b hb).2.2.2.2.1, (hc b hb).2.2.2.2.2⟩
  · rw [upd_ne (ne b n)]; exact n
  · by_cases z : b = e
    · subst z; obtain ⟨vs', sl', g', _⟩ := hE; exact ⟨_, g'⟩
    · by_cases hf : b ∈ frs X.stack
      · obtain ⟨sl', g'⟩ := N.slot b o hf hx z e'; exact ⟨_, g'⟩
      · exact ⟨o, N.keep b o hf hx z e'⟩
  · rw [upd_ne (fun z => by rw [z, q] at e'; cases e')]; exact e'
  · rw [upd_ne (fun z => by rw [z, q] at e'; cases e')]; exact e'
  · rw [upd_ne (fun z => by rw [z, q] at e'; cases e'), e']; simp
  · by_cases z : b = e
    · subst z; rw [upd_same] at e'; cases e'; exact objOk_exc hE
    · rw [upd_ne z] at e'
      refine (I.hok b o e').stay (fun c v hcv g' => ?_) (fun c g' => ?_) fun c xs g' => ?_
      · have hcH : ∃ u, H c = some u := by
          rcases hcv with z | z
          · exact ⟨o, by rw [z]; exact e'⟩
          · exact ⟨_, z⟩
        obtain ⟨u, hu⟩ := hcH
        have hce : c ≠ e := by
          rcases hcv with z' | z'
          · rw [z']; exact z
          · intro z2; rw [z2, q] at z'; cases z'
        exact N.keep c v (tfs c u hu) (tch c u hu) hce g'
      · rw [upd_ne (fun z2 => by rw [z2, q] at g'; cases g')]; exact g'
      · rw [upd_ne (fun z2 => by rw [z2, q] at g'; cases g')]; exact g'
end
def CXx (P : Program) (w : World) : CXT := fun outer H s E v s' => ∃ e C od T H', v = .ref e /\ s'.os = s.os /\ AllBare s'.gens /\ Un (frs outer) [] H H' s.heap s'.heap /\ HOk P w H' s'.heap ∧
  H' e = some (exO false e C od) /\ s.heap.objs.size ≤ T /\ H' T = none /\ Fly s'.heap e T .none /\ E (.ref C) (some e) H'
abbrev XS := St->XK
def PassesS (X : Cx) (E : XS) : Prop := ∀ (pins : List (Addr × Obj)) (σ : St) (H : Hp) (s : Shared) (v : Value) (s' : Shared), Inv X pins σ H s->CXx X.prog X.w X.stack H s (E σ) v s'->X.xe v s'
def RaisesS (X : Cx) (E : XS) : Prop := ∀ (pins : List (Addr × Obj)) (σ : St) (H : Hp) (s : Shared) (e C : Addr) (od : Option Addr), Inv X pins σ H s->H e = some (exO true e C od)->E σ (.ref C) (some e) (upd H e (exO false e C od))->X.xe (.ref e) s
theorem passesN {X : Cx} : PassesS X (fun _ => E0) := fun _ _ _ _ _ _ _ ⟨_, _, _, _, _, _, _, _, _, _, _, _, _, _, h⟩ => h.elim
section
variable {P : Program} {w : World} {K : PySem.W.Frag} {mg : Str->Option Value} {base : Heap} {N : List Str} {qual : Str} {scope : Scope} {f : Addr} {cd : Value} {A : Around} {outer : List Env} {s₀ : Shared} {H₀ : Hp} {E : XK}
theorem passesB : PassesS (cxOf (CXx P w) P w K mg base N qual scope f cd A outer s₀ H₀ E) (fun _ => E) := by
  rintro pins σ H s v s' I ⟨e, C, od, T, H', rfl, os, bare, un, hok, he, hT, nT, fly, hE⟩
  have I' := I.call' (ch := []) os un hok bare (fun b z => absurd z (by simp))
  have hTn : FpOk (cxOf (CXx P w) P w K mg base N qual scope f cd A outer s₀ H₀ E) pins H' T := I.fpOk hT nT
  show wpAny _ _ (leaving _ (.ref e)) _ _ _
  refine leave_next I.ok.frames I'.stack rfl fly fun h2 T2 Nd => ?_
  have J := I'.noted (ch := [T]) he Nd (fun b hb => by have := List.mem_singleton.mp hb; subst this; exact hTn)
  rw [upd_id he] at J
  exact ⟨e, C, od, T2, H', rfl, J.os, J.bare, J.base, J.hok, he, Nat.le_trans I'.sz Nd.new, I'.hok.fresh Nd.new, Nd.fly, hE⟩
theorem raisesB : RaisesS (cxOf (CXx P w) P w K mg base N qual scope f cd A outer s₀ H₀ E) (fun _ => E) := by
  rintro pins σ H s e C od I he hE
  obtain ⟨vs, sl, g, hz, hr⟩ := exc_of I.hok he
  show wpAny _ _ (leaving _ (.ref e)) _ _ _
  refine leave_new I.ok.frames I.stack rfl g rfl (hr rfl) fun h2 T2 Nd => ?_
  have J := I.noted (ch := []) he Nd (fun b hb => by cases hb)
  exact ⟨e, C, od, T2, _, rfl, J.os, J.bare, J.base, J.hok, upd_same, Nat.le_trans I.sz Nd.new, by rw [upd_ne (fun z => by rw [← z] at g; exact absurd (Heap.lt_size g) (Nat.not_lt.mpr Nd.new))]; exact I.hok.fresh Nd.new, Nd.fly, hE⟩
theorem Fun.okX {x qual : Str} {st : Stmt} {f : Addr} {fd : FuncData} {N ps : List Str} {k : Nat} {sp : Sp} (F : Fun K x qual st f fd) (S : FnScope N ps (defScope st)) (len : ∀ vs H Q E, sp vs H Q E->vs.length = ps.length)
    (hbody : ∀ (cdv : Value) (A : Around) (outer : List Env) (s : Shared) (H : Hp) (vs : List V) (Q : VK) (E : XK), Room k (A.deeper (envOfC qual (defScope st) s.heap.objs.size f cdv))->sp vs H Q E →
      ∃ t, PSs (cxOf (CXx P w) P w K mg base N qual (defScope st) f cdv A outer s H E) (defBody st) t /\ t { nx := fun _ H' => Q .non H', rt := Q } (start N vs) H) : FnOk P w K mg base (CXx P w) (k + 1) f fd ps sp := by
  obtain ⟨oc, od, kV, doc, pm, an, cdv, ct, osl, rfl, lk, hcd⟩ := F.ex
  exact fn_of lk hcd S len fun A outer s H vs Q E hr hsp => hbody cdv A outer s H vs Q E hr hsp
end
open PySem PySem.Spec PyProof.Rows
section
variable (P : Program) (w : World) (K : PySem.W.Frag) (mg : Str->Option Value) (base : Heap)
structure DefX (x : Str) (k : Nat) (ps : List Str) (sp : Sp) : Prop where
  ex : ∃ (f : Addr) (fd : FuncData), mg x = some (.ref f) /\ FnOk P w K mg base (CXx P w) k f fd ps sp /\ PySem.W.keepIn K (.ref f) = true /\ Binds K fd ps []
structure MethX (C : Addr) (m : Str) (k : Nat) (ps : List Str) (sp : Sp) : Prop where
  ex : ∃ (f : Addr) (fd : FuncData), Meth K C m f /\ FnOk P w K mg base (CXx P w) k f fd ps sp /\ Binds K fd ps []
structure MakeX (x : Str) (C : Addr) (k : Nat) (ps : List Str) (sp : Sp) : Prop where
  ex : ∃ (f : Addr) (fd : FuncData), mg x = some (.ref C) /\ Mk K C f /\ FnOk P w K mg base (CXx P w) k f fd ps sp /\ Binds K fd ps []
structure XMk (K : PySem.W.Frag) (C f : Addr) : Prop where
  cls : XCls K C
  init : PySem.W.findIn K (.ref C) "__init__" = some (some (.ref f))
  fn : PySem.W.isFn K (.ref f) = true
  kp : PySem.W.keepIn K (.ref C) = true
structure ExcX (x : Str) (C : Addr) (k : Nat) (ps : List Str) (sp : Sp) : Prop where
  ex : ∃ (f : Addr) (fd : FuncData), mg x = some (.ref C) /\ XMk K C f /\ FnOk P w K mg base (CXx P w) k f fd ps sp /\ Binds K fd ps []
end
def tCallS (sp : Sp) (E : XS) (t : TA) : TE := fun σ H Q => t σ H fun vs H1 => sp vs H1 Q (E σ)
def tMethS (C : Addr) (m : Str) (sp : Sp) (E : XS) (ta : TE) (t : TA) : TE := fun σ H Q => ta σ H fun x H1 => ∃ a dx fs, x = .ref a /\ H1 a = some (.ins C dx fs) /\ fs.lookup m = none /\ t σ H1 fun vs H2 => sp (x :: vs) H2 Q (E σ)
def tMakeS (C : Addr) (sp : Sp) (E : XS) (t : TA) : TE := fun σ H Q => t σ H fun vs H1 => ∀ x dx, H1 x = none->H1 dx = none->dx ≠ x →
  sp (.ref x :: vs) (upd (upd H1 dx (.own x)) x (.ins C dx [])) (fun v H2 => v = .non /\ Q (.ref x) H2) (E σ)
def tExc (C : Addr) (sp : Sp) (t : TA) : TE := fun σ H Q => t σ H fun vs H1 => vs.length ≤ sizeLine /\ ∀ x, H1 x = none->sp (.ref x :: vs) (upd H1 x (exO true x C none)) (fun v H2 => v = .non /\ Q (.ref x) H2) E0
section
variable {X : Cx} {k : Nat} {f C : Addr} {fd : FuncData} {ps : List Str} {sp : Sp} {E : XS} {x m : Str} {p pos apos : Pos} {e o : Expr} {es : List Expr} {ta : TE} {t : TA}
theorem run_fnS {pins : List (Addr × Obj)} {σ : St} {H : Hp} {s : Shared} {Q : VK} {us : List Value} {vs : List V} (F : FnOk X.prog X.w X.K X.mg X.base (CXx X.prog X.w) k f fd ps sp) (hr : Room k X.A) (hb : Binds X.K fd ps []) (hx : PassesS X E)
    (I : Inv X pins σ H s) (r : Vals vs us) (h : sp vs H Q (E σ)) : wpAny (model X.prog X.w) X.A (call (.ref f) us) (EP X pins σ Q) X.xe s := by
  have hl : us.length = ps.length := by rw [← r.length]; exact F.len _ _ _ _ h
  have hb' := hb s us I.kIn (by rw [List.append_nil]; exact hl)
  rw [List.append_nil] at hb'
  refine wpAny_call (codeAny_mono (F.run X.A X.stack s H ⟨us, []⟩ us vs Q (E σ) hr I.env0 hb' r h) fun r s' hq => ?_)
  cases r with
  | error e => exact hx pins σ H s e s' I hq
  | ok fl =>
    cases fl with
    | ret u => exact I.after hq
    | next => exact False.elim hq
    | brk => exact False.elim hq
    | cont => exact False.elim hq
theorem pe_callS (D : DefX X.prog X.w X.K X.mg X.base x k ps sp) (hx : PassesS X E) (hr : Room k X.A) (hg : Gl X x) (ha : PA X (e :: es) t)
    (hdb : (x == ("__debug__" : Str)) = false := by decide) (he : starEach (e :: es) X.env = (false, eval e X.env) :: starEach es X.env := by rfl) (hpl : (backTo pos (starEach es X.env)).any (·.1) = false := by rfl) :
    PE X (.Call (.Name x p) (e :: es) [] pos) (tCallS sp E t) := by
  obtain ⟨f, fd, m, F, kp, b⟩ := D.ex
  intro pins s σ H Q I h
  refine wpAny_Call_Name_kw (ld_glob I hg m ?_ hdb)
  refine PySem.W.callWith_K (h₀ := X.base) I.ok.mod.kin kp (thn (ha pos pins s σ H _ I h) fun us s1 ⟨vs, H1, I1, r, q⟩ => ⟨I1.kIn, ?_⟩) he hpl
  exact run_fnS F hr b hx I1 r q
theorem pe_methS {pl : Sem Bool} (he : PE X o ta) (c : Cls X.K C) (D : MethX X.prog X.w X.K X.mg X.base C m k ps sp) (hx : PassesS X E) (hr : Room k X.A) (ha : PA X (e :: es) t)
    (hst : starEach (e :: es) X.env = (false, eval e X.env) :: starEach es X.env := by rfl) (hpl : (backTo pos (starEach es X.env)).any (·.1) = false := by rfl)
    (ht : eval (.Call (.Attribute o m apos) (e :: es) [] pos) X.env = (do
      let ov ← eval o X.env
      standAt apos.atName
      let (f, first) ← holding [ov] (getMethod ov m pl)
      callWith pos f first (backTo pos (starEach (e :: es) X.env)) (backToKw pos (keywordEach [] X.env))) := by rfl) :
    PE X (.Call (.Attribute o m apos) (e :: es) [] pos) (tMethS C m sp E ta t) := by
  obtain ⟨f, fd, hm, F, b⟩ := D.ex
  intro pins s σ H Q I h
  refine PySem.W.methodCall_KW (pl := pl) (thn (he pins s σ H _ I h) fun u s1 ⟨x, H1, I1, rx, a, dx, fs, ex, ea, l, q⟩ => ?_) ht
  subst ex
  obtain rfl : u = Value.ref a := rx
  refine getmeth_ok I1 ea c hm l ?_
  refine PySem.W.callWith_K (first := [.ref a]) (h₀ := X.base) I.ok.mod.kin hm.kp (thn (ha pos pins s1 σ H1 _ I1 q) fun us s2 ⟨vs, H2, I2, r, q2⟩ => ⟨I2.kIn, ?_⟩) hst hpl
  exact run_fnS (us := .ref a :: us) (vs := .ref a :: vs) F hr b hx I2 (.cons rfl r) q2
theorem pe_methS0 {pl : Sem Bool} (he : PE X o ta) (c : Cls X.K C) (D : MethX X.prog X.w X.K X.mg X.base C m k ps sp) (hx : PassesS X E) (hr : Room k X.A)
    (ht : eval (.Call (.Attribute o m apos) [] [] pos) X.env = (do
      let ov ← eval o X.env
      standAt apos.atName
      let (f, first) ← holding [ov] (getMethod ov m pl)
      callWith pos f first (backTo pos (starEach [] X.env)) (backToKw pos (keywordEach [] X.env))) := by rfl) :
    PE X (.Call (.Attribute o m apos) [] [] pos) (tMethS C m sp E ta tNil) := by
  obtain ⟨f, fd, hm, F, b⟩ := D.ex
  intro pins s σ H Q I h
  refine PySem.W.methodCall_KW (pl := pl) (thn (he pins s σ H _ I h) fun u s1 ⟨x, H1, I1, rx, a, dx, fs, ex, ea, l, q⟩ => ?_) ht
  subst ex
  obtain rfl : u = Value.ref a := rx
  refine getmeth_ok I1 ea c hm l ?_
  exact PySem.W.callWith_K0 (first := [.ref a]) I1.kIn hm.kp (run_fnS (us := [.ref a]) (vs := [.ref a]) F hr b hx I1 (.cons rfl .nil) q)
theorem run_makeS {pins : List (Addr × Obj)} {σ : St} {H : Hp} {s : Shared} {Q : VK} {us : List Value} {vs : List V} (M : Mk X.K C f) (F : FnOk X.prog X.w X.K X.mg X.base (CXx X.prog X.w) k f fd ps sp) (hr : Room (k + 1) X.A) (hb : Binds X.K fd ps [])
    (hx : PassesS X E) (I : Inv X pins σ H s) (r : Vals vs us)
    (h : ∀ x dx, H x = none->H dx = none->dx ≠ x->sp (.ref x :: vs) (upd (upd H dx (.own x)) x (.ins C dx [])) (fun v H2 => v = .non /\ Q (.ref x) H2) (E σ)) :
    wpAny (model X.prog X.w) X.A (call (.ref C) us) (EP X pins σ Q) X.xe s := by
  have hq := h (s.heap.objs.size + 1) s.heap.objs.size (I.hok.fresh (Nat.le_succ _)) (I.hok.fresh (Nat.le_refl _)) (Nat.ne_of_lt (Nat.lt_succ_self _))
  have I2 := Inv.made (C := C) I
  have r2 : Vals (V.ref (s.heap.objs.size + 1) :: vs) (Value.ref (s.heap.objs.size + 1) :: us) := .cons rfl r
  have hl : (Value.ref (s.heap.objs.size + 1) :: us).length = ps.length := by
    have e := r2.length
    rw [F.len _ _ _ _ hq] at e
    exact e.symm
  have hb' := hb _ (Value.ref (s.heap.objs.size + 1) :: us) I2.kIn (by rw [List.append_nil]; exact hl)
  rw [List.append_nil] at hb'
  refine wpAny_call (make_map (f := f) I.kIn M.makes M.init (beq_iff_eq.mp M.fn) (codeAny_mono (F.run _ X.stack _ _ ⟨Value.ref (s.heap.objs.size + 1) :: us, []⟩ (Value.ref (s.heap.objs.size + 1) :: us) _ _ (E σ) (hr.make C us [])
    (I2.env0.make C us []) hb' r2 hq) fun r s' hq' => ?_))
  cases r with
  | error e => exact hx pins σ _ _ e s' I2 hq'
  | ok fl =>
    cases fl with
    | ret u =>
      obtain ⟨v, H', I3, rv, ev, q3⟩ := I2.after hq'
      subst ev
      exact ⟨rv, ⟨V.ref (s.heap.objs.size + 1), H', I3, rfl, q3⟩⟩
    | next => exact False.elim hq'
    | brk => exact False.elim hq'
    | cont => exact False.elim hq'
theorem pe_makeS (D : MakeX X.prog X.w X.K X.mg X.base x C k ps sp) (hx : PassesS X E) (hr : Room (k + 1) X.A) (hg : Gl X x) (ha : PA X (e :: es) t)
    (hdb : (x == ("__debug__" : Str)) = false := by decide) (he : starEach (e :: es) X.env = (false, eval e X.env) :: starEach es X.env := by rfl) (hpl : (backTo pos (starEach es X.env)).any (·.1) = false := by rfl) :
    PE X (.Call (.Name x p) (e :: es) [] pos) (tMakeS C sp E t) := by
  obtain ⟨f, fd, m, M, F, b⟩ := D.ex
  intro pins s σ H Q I h
  refine wpAny_Call_Name_kw (ld_glob I hg m ?_ hdb)
  refine PySem.W.callWith_K (h₀ := X.base) I.ok.mod.kin M.kp (thn (ha pos pins s σ H _ I h) fun us s1 ⟨vs, H1, I1, r, q⟩ => ⟨I1.kIn, ?_⟩) he hpl
  exact run_makeS M F hr b hx I1 r q
theorem pe_makeS0 (D : MakeX X.prog X.w X.K X.mg X.base x C k ps sp) (hx : PassesS X E) (hr : Room (k + 1) X.A) (hg : Gl X x) (hdb : (x == ("__debug__" : Str)) = false := by decide) : PE X (.Call (.Name x p) [] [] pos) (tMakeS C sp E tNil) := by
  obtain ⟨f, fd, m, M, F, b⟩ := D.ex
  intro pins s σ H Q I h
  refine wpAny_Call_Name_kw (ld_glob I hg m ?_ hdb)
  exact PySem.W.callWith_K0 I.kIn M.kp (run_makeS (us := []) M F hr b hx I .nil h)
theorem Inv.xmade {pins : List (Addr × Obj)} {σ : St} {H : Hp} {s : Shared} {rest : List Value} (I : Inv X pins σ H s) :
    Inv X pins σ (upd H (s.heap.objs.size + 1) (exO true (s.heap.objs.size + 1) C none)) { s with heap := (s.heap.push (tupNew rest)).push (excNew C s.heap.objs.size) } := by
  refine I.laid (a := s.heap.objs.size + 1) (t' := s.toks) (fun b u q => xkeeps b u q) (Nat.le_succ _) (objOk_exc ⟨_, _, xnew_at, rfl, fun _ => rfl⟩)
theorem run_exc {pins : List (Addr × Obj)} {σ : St} {H : Hp} {s : Shared} {Q : VK} {us : List Value} {vs : List V} (M : XMk X.K C f) (F : FnOk X.prog X.w X.K X.mg X.base (CXx X.prog X.w) k f fd ps sp) (hr : Room (k + 1) X.A) (hb : Binds X.K fd ps [])
    (I : Inv X pins σ H s) (r : Vals vs us) (hlen : vs.length ≤ sizeLine) (h : ∀ x, H x = none->sp (.ref x :: vs) (upd H x (exO true x C none)) (fun v H2 => v = .non /\ Q (.ref x) H2) E0) :
    wpAny (model X.prog X.w) X.A (call (.ref C) us) (EP X pins σ Q) X.xe s := by
  have hq := h (s.heap.objs.size + 1) (I.hok.fresh (Nat.le_succ _))
  have I2 := Inv.xmade (C := C) (rest := us) I
  have r2 : Vals (V.ref (s.heap.objs.size + 1) :: vs) (Value.ref (s.heap.objs.size + 1) :: us) := .cons rfl r
  have hl : (Value.ref (s.heap.objs.size + 1) :: us).length = ps.length := by
    have e := r2.length
    rw [F.len _ _ _ _ hq] at e
    exact e.symm
  have hb' := hb _ (Value.ref (s.heap.objs.size + 1) :: us) I2.kIn (by rw [List.append_nil]; exact hl)
  rw [List.append_nil] at hb'
  have run := F.run _ X.stack _ _ ⟨Value.ref (s.heap.objs.size + 1) :: us, []⟩ (Value.ref (s.heap.objs.size + 1) :: us) _ _ E0 (hr.make C us []) (I2.env0.make C us []) hb' r2 hq
  obtain ⟨hp, g, d, t, os⟩ := s
  refine xcall_init I.kIn M.cls (by rw [← r.length]; exact hlen) M.init (beq_iff_eq.mp M.fn) (wpAny_call (codeAny_mono run fun r s' hq' => ?_))
  cases r with
  | error e =>
    obtain ⟨_, _, _, _, _, _, _, _, _, _, _, _, _, _, z⟩ := hq'
    exact z.elim
  | ok fl =>
    cases fl with
    | ret u =>
      obtain ⟨v, H', I3, rv, ev, q3⟩ := I2.after hq'
      subst ev
      exact ⟨rv, ⟨V.ref (hp.objs.size + 1), H', I3, rfl, q3⟩⟩
    | next => exact False.elim hq'
    | brk => exact False.elim hq'
    | cont => exact False.elim hq'
theorem pe_exc (D : ExcX X.prog X.w X.K X.mg X.base x C k ps sp) (hr : Room (k + 1) X.A) (hg : Gl X x) (ha : PA X (e :: es) t)
    (hdb : (x == ("__debug__" : Str)) = false := by decide) (he : starEach (e :: es) X.env = (false, eval e X.env) :: starEach es X.env := by rfl) (hpl : (backTo pos (starEach es X.env)).any (·.1) = false := by rfl) :
    PE X (.Call (.Name x p) (e :: es) [] pos) (tExc C sp t) := by
  obtain ⟨f, fd, m, M, F, b⟩ := D.ex
  intro pins s σ H Q I h
  refine wpAny_Call_Name_kw (ld_glob I hg m ?_ hdb)
  refine PySem.W.callWith_K (h₀ := X.base) I.ok.mod.kin M.kp (thn (ha pos pins s σ H _ I h) fun us s1 ⟨vs, H1, I1, r, hlen, q⟩ => ⟨I1.kIn, ?_⟩) he hpl
  exact run_exc M F hr b I1 r hlen q
end
def sRaise (K : PySem.W.Frag) (te : TE) (E : XS) : TS := fun _ σ H => te σ H fun v H1 => ∃ e C od, v = .ref e /\ H1 e = some (exO true e C od) /\ XCls K C /\ E σ (.ref C) (some e) (upd H1 e (exO false e C od))
section
variable {X : Cx} {x : Expr} {te : TE} {E : XS} {pos : Pos}
theorem raise_ok {M : Model} {A : Around} {E : Value->Shared->Prop} {env : Env} {s : Shared} {x : Sem Value} {Q : Flow->Shared->Prop} (hh : A.handled = none)
    (h : wpAny M A x (fun v s₁ => ∃ e vs sl C od, v = .ref e /\ s₁.heap.get? e = some ⟨.ref C, od, .fields vs, sl⟩ /\ vs[1]? = some .none /\ XObj s₁.heap C /\ E (.ref e) s₁) E s) :
    wpAny M A (raiseStmt env (some x) none) Q E s := by
  unfold raiseStmt
  refine wpAny_bind (wpAny_mono h (fun v s₁ h₁ => ?_) fun _ _ x => x)
  obtain ⟨e, vs, sl, C, od, rfl, he, h1, hC, hE⟩ := h₁
  obtain ⟨nm, qn, N, bs, bm, sn, sub, ab, col, dd, k0, k1, k2, k3, k5, hC, hb⟩ := hC.ex
  have hcB := own_has (C := C) hb (T := "BaseException") (by decide)
  obtain ⟨hp, g, d, tk, os⟩ := s₁
  repeat (first
    | with_reducible refine wpAny_loadPart_at he ?_
    | with_reducible refine wpAny_loadPart_at hC ?_
    | (with_reducible refine wpAny_isSubtype_exc hC ?_; rw [hcB])
    | with_reducible refine wpAny_field he rfl h1 ?_
    | wp_step)
  exact wpAny_raiseNew_none hh hE
theorem ps_raise (hc : X.calm = true) (hx : RaisesS X E) (he : PE X x te) : PS X (.Raise (some x) none pos) (sRaise X.K te E) := by
  intro pins s σ H D I h
  rw [arm_exec_Raise]
  have hh := I.ok.hd hc
  have key : wpAny (model X.prog X.w) X.A (eval x X.env) (fun v s₁ => ∃ e vs sl C od, v = .ref e /\ s₁.heap.get? e = some ⟨.ref C, od, .fields vs, sl⟩ /\ vs[1]? = some .none /\ XObj s₁.heap C /\ X.xe (.ref e) s₁) X.xe s := by
    refine thn (he pins s σ H _ I h) fun u s1 ⟨v, H1, I1, rv, e, C, od, ev, eo, hcl, hE⟩ => ?_
    subst ev
    cases (show u = Value.ref e from rv)
    obtain ⟨vs, sl, g, hz, hr⟩ := exc_of I1.hok eo
    exact ⟨e, vs, sl, C, od, rfl, g, hr rfl, hcl.at I1.kIn, hx pins σ H1 s1 e C od I1 eo hE⟩
  exact wpAny_bind (wpAny_standAt (raise_ok hh (wpAny_bind (wpAny_mono key (fun v s₁ h₁ => wpAny_bind (wpAny_standAt (wpAny_pure h₁))) fun _ _ x => x))))
end
open PySem PySem.Spec PyProof.Rows
abbrev TH := Addr->Addr->TS
open PySem PySem.Spec PyProof.Rows
theorem cxx_no {P : Program} {w : World} {o : List Env} {H : Hp} {s s' : Shared} {e : Value} (h : CXx P w o H s (fun _ _ _ => False) e s') : False := by
  obtain ⟨_, _, _, _, _, _, _, _, _, _, _, _, _, _, z⟩ := h
  exact z
def sp_x1 (C : Addr) (f : Str) : Sp := fun vs H Q _ => ∃ p y, vs = [.ref p, y] /\ H p = some (exO true p C none) /\ ∀ dx, H dx = none->Q .non (upd (upd H dx (xdO dx [(f, y)])) p (exO true p C (some dx)))
section
variable {K : PySem.W.Frag} {C : Addr} {f g : Str} {y z : V} {H1 : Hp} {E : XK}
theorem excAt_made {H1 : Hp} {x dx C : Addr} {fs : List (Str × V)} (hx : H1 x = none) (hdx : upd H1 x (exO true x C none) dx = none) :
    ExcAt (upd (upd (upd (upd H1 x (exO true x C none)) dx (xdO dx fs)) x (exO true x C (some dx))) x (exO false x C (some dx))) x C fs /\ Same H1 (upd (upd (upd (upd H1 x (exO true x C none)) dx (xdO dx fs)) x (exO true x C (some dx))) x (exO false x C (some dx))) := by
  have hne : dx ≠ x := fun e => by rw [e, upd_same] at hdx; cases hdx
  have hn : H1 dx = none := by rw [upd_ne hne] at hdx; exact hdx
  refine ⟨⟨false, some dx, upd_same, ?_, hne⟩, fun b o q => ?_⟩
  · rw [upd_ne hne, upd_ne hne, upd_same]
  · have h1 := ne_of_none q hx
    have h2 := ne_of_none q hn
    rw [upd_ne h1, upd_ne h1, upd_ne h2, upd_ne h1]; exact q
theorem raise1 (c : XCls K C) (h : ∀ e H', ExcAt H' e C [(f, y)]->Same H1 H'->E (.ref C) (some e) H') :
    [y].length ≤ sizeLine /\ ∀ x, H1 x = none->sp_x1 C f (.ref x :: [y]) (upd H1 x (exO true x C none)) (fun v H2 => v = .non /\ ∃ e C' od, V.ref x = .ref e /\ H2 e = some (exO true e C' od) /\ XCls K C' /\ E (.ref C') (some e) (upd H2 e (exO false e C' od))) E0 :=
  ⟨by show 1 ≤ sizeLine; decide, fun x hx => ⟨x, y, rfl, upd_same, fun dx hdx => ⟨rfl, x, C, some dx, rfl, upd_same, c, let ⟨a, b⟩ := excAt_made hx hdx; h x _ a b⟩⟩⟩
end
open PySem
theorem upd_none {H : Hp} {a b : Addr} {o : HO} (h : upd H a o b = none) : H b = none /\ b ≠ a := by
  unfold upd at h
  split at h
  · cases h
  · exact ⟨h, by assumption⟩
theorem putF_ne {f g : Str} {v x : V} {r : List (Str × V)} (h : ¬ g = f) : putF f v ((g, x) :: r) = (g, x) :: putF f v r := by
  show (if g = f then _ else _) = _
  rw [if_neg h]
theorem putF_eq {f : Str} {v x : V} {r : List (Str × V)} : putF f v ((f, x) :: r) = (f, v) :: r := by
  show (if f = f then _ else _) = _
  rw [if_pos rfl]
def Keep (F : List Addr) (H H' : Hp) : Prop := ∀ b o, H b = some o->b ∉ F->H' b = some o
theorem Keep.of_same {F : List Addr} {H H' : Hp} (h : Same H H') : Keep F H H' := fun b o e _ => h b o e
theorem keep_upd {F : List Addr} {H H' : Hp} {p : Addr} {o : HO} (s : Keep F H H') (h : p ∈ F ∨ H p = none) : Keep F H (upd H' p o) := fun b u e hb => by
  rw [upd_ne]
  · exact s b u e hb
  · rintro rfl
    rcases h with h | h
    · exact hb h
    · rw [h] at e; cases e
theorem Keep.refl {F : List Addr} {H : Hp} : Keep F H H := fun _ _ e _ => e
def fl (wd ls : Int) (ta sa : Addr) : List (Str × V) := [("wide", .int wd), ("last", .int ls), ("tables", .ref ta), ("set_places", .ref sa)]
theorem s1 : ¬ (("wide" : Str) = "last") := by decide +kernel
theorem s2 : ¬ (("wide" : Str) = "tables") := by decide +kernel
theorem s3 : ¬ (("wide" : Str) = "set_places") := by decide +kernel
theorem s4 : ¬ (("last" : Str) = "tables") := by decide +kernel
theorem s5 : ¬ (("last" : Str) = "set_places") := by decide +kernel
theorem s6 : ¬ (("tables" : Str) = "set_places") := by decide +kernel
open PySem PySem.Spec PyProof.Rows
theorem log20 {n : Int} (h0 : 0 ≤ n) (h : n < 10 ^ 20) : n.natAbs.log2 < 1920 := by
  by_cases hz : n.natAbs = 0
  · rw [hz]; decide
  · exact (Nat.log2_lt hz).mpr (Nat.lt_of_lt_of_le (show n.natAbs < 10 ^ 20 by omega) (by decide +kernel))
open PySem PySem.Spec PyProof.Rows
structure FunD (K : PySem.W.Frag) (x qual : Str) (st : Stmt) (f : Addr) (fd : FuncData) (dV : Value) : Prop where
  ex : ∃ (oc : Value) (od : Option Addr) (kV doc pm : Value) (an : Option Addr) (cdv ct : Value) (osl : Array (Option Value)),
    fd = PySem.W.fnOf x qual (defArgs st) (defBody st) (defScope st) dV kV doc pm an cdv ct /\ K.lookup f = some ⟨oc, od, .func fd, osl⟩ /\ PySem.W.codeIn K cdv qual = true
  kp : PySem.W.keepIn K (.ref f) = true
section
variable {P : Program} {w : World} {K : PySem.W.Frag} {mg : Str->Option Value} {base : Heap}
theorem FunD.okX {x qual : Str} {st : Stmt} {f : Addr} {fd : FuncData} {dV : Value} {N ps : List Str} {k : Nat} {sp : Sp} (F : FunD K x qual st f fd dV) (S : FnScope N ps (defScope st)) (len : ∀ vs H Q E, sp vs H Q E->vs.length = ps.length)
    (hbody : ∀ (cdv : Value) (A : Around) (outer : List Env) (s : Shared) (H : Hp) (vs : List V) (Q : VK) (E : XK), Room k (A.deeper (envOfC qual (defScope st) s.heap.objs.size f cdv))->sp vs H Q E →
      ∃ t, PSs (cxOf (CXx P w) P w K mg base N qual (defScope st) f cdv A outer s H E) (defBody st) t /\ t { nx := fun _ H' => Q .non H', rt := Q } (start N vs) H) : FnOk P w K mg base (CXx P w) (k + 1) f fd ps sp := by
  obtain ⟨oc, od, kV, doc, pm, an, cdv, ct, osl, rfl, lk, hcd⟩ := F.ex
  exact fn_of lk hcd S len fun A outer s H vs Q E hr hsp => hbody cdv A outer s H vs Q E hr hsp
theorem fund_mk {x qual : Str} {st : Stmt} {f : Addr} {oc dV : Value} {od an : Option Addr} {osl : Array (Option Value)} {kV doc pm cdv ct : Value} (l : K.lookup f = some ⟨oc, od, .func (PySem.W.fnOf x qual (defArgs st) (defBody st) (defScope st) dV kV doc pm an cdv ct), osl⟩)
    (c : PySem.W.codeIn K cdv qual = true) (k : PySem.W.keepIn K (.ref f) = true) : FunD K x qual st f (PySem.W.fnOf x qual (defArgs st) (defBody st) (defScope st) dV kV doc pm an cdv ct) dV := ⟨⟨oc, od, kV, doc, pm, an, cdv, ct, osl, rfl, l, c⟩, k⟩
theorem FunD.binds {x qual : Str} {st : Stmt} {f T : Addr} {fd : FuncData} {ps : List Str} {o : Obj} {its : Array Value} {n : Nat} {ds : List Value} (F : FunD K x qual st f fd (.ref T)) (ho : K.lookup T = some o) (hs : o.data = .seq its n)
    (h : ∀ (kV doc pm : Value) (an : Option Addr) (cdv ct : Value) (us : List Value), us.length + ds.length = ps.length->∃ k : Option (Array Value)->Sem (List (Str × Value)),
      bindArgs (PySem.W.fnOf x qual (defArgs st) (defBody st) (defScope st) (.ref T) kV doc pm an cdv ct) ⟨us, []⟩ = seqItems? (.ref T) >>= k /\ k (some its) = pure (ps.zip (us ++ ds))) : Binds K fd ps ds := by
  obtain ⟨oc, od, kV, doc, pm, an, cdv, ct, osl, rfl, lk, hcd⟩ := F.ex
  intro s us X hl
  obtain ⟨k, h1, h2⟩ := h kV doc pm an cdv ct us (by rw [← List.length_append]; exact hl)
  exact PySem.W.binds_K X rfl ho hs h1 h2
end
section
variable (P : Program) (w : World) (K : PySem.W.Frag) (mg : Str->Option Value) (base : Heap)
structure MakeXd (x : Str) (C : Addr) (k : Nat) (ps : List Str) (ds : List Value) (sp : Sp) : Prop where
  ex : ∃ (f : Addr) (fd : FuncData), mg x = some (.ref C) /\ Mk K C f /\ FnOk P w K mg base (CXx P w) k f fd ps sp /\ Binds K fd ps ds
structure ClsFn (C : Addr) (m : Str) (f : Addr) : Prop where
  ga : PySem.W.specialIn K (.ref C) "__getattribute__" = some (some (.builtin "type.__getattribute__"))
  rd : PySem.W.readsIn K C (.type "type") = true
  fc : PySem.W.findCls K (.ref C) (.type "type") m = some (.val (.ref f))
  kp : PySem.W.keepIn K (.ref f) = true
structure ClsX (x : Str) (C : Addr) (m : Str) (k : Nat) (ps : List Str) (sp : Sp) : Prop where
  ex : ∃ (f : Addr) (fd : FuncData), mg x = some (.ref C) /\ ClsFn K C m f /\ FnOk P w K mg base (CXx P w) k f fd ps sp /\ Binds K fd ps []
end
def tMakeSd (C : Addr) (sp : Sp) (E : XS) (dvs : List V) (t : TA) : TE := fun σ H Q => t σ H fun vs H1 => ∀ x dx, H1 x = none->H1 dx = none->dx ≠ x →
  sp (.ref x :: (vs ++ dvs)) (upd (upd H1 dx (.own x)) x (.ins C dx [])) (fun v H2 => v = .non /\ Q (.ref x) H2) (E σ)
def tEither (t1 t2 : TE) : TE := fun σ H Q => t1 σ H Q ∨ t2 σ H Q
section
variable {X : Cx} {k : Nat} {f C : Addr} {fd : FuncData} {ps : List Str} {sp : Sp} {E : XS} {x m : Str} {p pos apos : Pos} {e o : Expr} {es : List Expr} {ta : TE} {t : TA} {ds : List Value} {dvs : List V}
theorem pe_or2 {t1 t2 : TE} (h1 : PE X e t1) (h2 : PE X e t2) : PE X e (tEither t1 t2) := fun pins s σ H Q I h => h.elim (h1 pins s σ H Q I) (h2 pins s σ H Q I)
theorem run_makeSd {pins : List (Addr × Obj)} {σ : St} {H : Hp} {s : Shared} {Q : VK} {us : List Value} {vs : List V} (M : Mk X.K C f) (F : FnOk X.prog X.w X.K X.mg X.base (CXx X.prog X.w) k f fd ps sp) (hr : Room (k + 1) X.A) (hb : Binds X.K fd ps ds) (rd : Vals dvs ds)
    (hx : PassesS X E) (I : Inv X pins σ H s) (r : Vals vs us)
    (h : ∀ x dx, H x = none->H dx = none->dx ≠ x->sp (.ref x :: (vs ++ dvs)) (upd (upd H dx (.own x)) x (.ins C dx [])) (fun v H2 => v = .non /\ Q (.ref x) H2) (E σ)) :
    wpAny (model X.prog X.w) X.A (call (.ref C) us) (EP X pins σ Q) X.xe s := by
  have hq := h (s.heap.objs.size + 1) s.heap.objs.size (I.hok.fresh (Nat.le_succ _)) (I.hok.fresh (Nat.le_refl _)) (Nat.ne_of_lt (Nat.lt_succ_self _))
  have I2 := Inv.made (C := C) I
  have r2 : Vals (V.ref (s.heap.objs.size + 1) :: (vs ++ dvs)) (Value.ref (s.heap.objs.size + 1) :: us ++ ds) := .cons rfl (Vals.append r rd)
  have hl : (Value.ref (s.heap.objs.size + 1) :: us ++ ds).length = ps.length := by
    have e := r2.length
    rw [F.len _ _ _ _ hq] at e
    exact e.symm
  have hb' := hb _ (Value.ref (s.heap.objs.size + 1) :: us) I2.kIn hl
  refine wpAny_call (make_map (f := f) I.kIn M.makes M.init (beq_iff_eq.mp M.fn) (codeAny_mono (F.run _ X.stack _ _ ⟨Value.ref (s.heap.objs.size + 1) :: us, []⟩ (Value.ref (s.heap.objs.size + 1) :: us ++ ds) _ _ (E σ) (hr.make C us [])
    (I2.env0.make C us []) hb' r2 hq) fun r s' hq' => ?_))
  cases r with
  | error e => exact hx pins σ _ _ e s' I2 hq'
  | ok fl =>
    cases fl with
    | ret u =>
      obtain ⟨v, H', I3, rv, ev, q3⟩ := I2.after hq'
      subst ev
      exact ⟨rv, ⟨V.ref (s.heap.objs.size + 1), H', I3, rfl, q3⟩⟩
    | next => exact False.elim hq'
    | brk => exact False.elim hq'
    | cont => exact False.elim hq'
theorem pe_makeSd (D : MakeXd X.prog X.w X.K X.mg X.base x C k ps ds sp) (rd : Vals dvs ds) (hx : PassesS X E) (hr : Room (k + 1) X.A) (hg : Gl X x) (ha : PA X (e :: es) t)
    (hdb : (x == ("__debug__" : Str)) = false := by decide) (he : starEach (e :: es) X.env = (false, eval e X.env) :: starEach es X.env := by rfl) (hpl : (backTo pos (starEach es X.env)).any (·.1) = false := by rfl) :
    PE X (.Call (.Name x p) (e :: es) [] pos) (tMakeSd C sp E dvs t) := by
  obtain ⟨f, fd, m, M, F, b⟩ := D.ex
  intro pins s σ H Q I h
  refine wpAny_Call_Name_kw (ld_glob I hg m ?_ hdb)
  refine PySem.W.callWith_K (h₀ := X.base) I.ok.mod.kin M.kp (thn (ha pos pins s σ H _ I h) fun us s1 ⟨vs, H1, I1, r, q⟩ => ⟨I1.kIn, ?_⟩) he hpl
  exact run_makeSd M F hr b rd hx I1 r q
theorem pe_clsS {pl : Sem Bool} (he : PE X o (tC (.ref C))) (D : ClsX X.prog X.w X.K X.mg X.base x C m k ps sp) (hx : PassesS X E) (hr : Room k X.A) (ha : PA X (e :: es) t)
    (hst : starEach (e :: es) X.env = (false, eval e X.env) :: starEach es X.env := by rfl) (hpl : (backTo pos (starEach es X.env)).any (·.1) = false := by rfl)
    (ht : eval (.Call (.Attribute o m apos) (e :: es) [] pos) X.env = (do
      let ov ← eval o X.env
      standAt apos.atName
      let (f, first) ← holding [ov] (getMethod ov m pl)
      callWith pos f first (backTo pos (starEach (e :: es) X.env)) (backToKw pos (keywordEach [] X.env))) := by rfl) :
    PE X (.Call (.Attribute o m apos) (e :: es) [] pos) (tCallS sp E t) := by
  obtain ⟨f, fd, _, c, F, b⟩ := D.ex
  intro pins s σ H Q I h
  refine PySem.W.methodCall_KW (pl := pl) (thn (he pins s σ H (fun v H' => v = .ref C /\ H' = H) I ⟨rfl, rfl⟩) fun u s1 ⟨x, H1, I1, rx, ex, eH⟩ => ?_) ht
  subst ex eH
  obtain rfl : u = Value.ref C := rx
  refine PySem.W.method_cls I1.kIn c.ga (PySem.W.cls_value I1.kIn c.rd c.fc rfl ?_)
  refine PySem.W.callWith_K (first := []) (h₀ := X.base) I.ok.mod.kin c.kp (thn (ha pos pins _ σ H1 _ (I1.tok _) h) fun us s2 ⟨vs, H2, I2, r, q2⟩ => ⟨I2.kIn, ?_⟩) hst hpl
  exact run_fnS F hr b hx I2 r q2
end
open PySem PySem.Spec PyProof.Rows
theorem comp_tup {K : PySem.W.Frag} {a : Addr} (D : Addr) {xs : List V} {g : TG} {tt : TT} {te : TE} {σ : St} {H : Hp} {R : Hp->Prop} (Pv : Nat->St->Hp->List V->Prop) (h0 : Pv 0 σ H []) (hl : ∀ i σ H ys, i ≤ xs.length->Pv i σ H ys->SqT K H a xs)
    (hs : ∀ i x σ H ys, xs[i]? = some x->Pv i σ H ys->g x σ H fun σ3 H3 => tt σ3 H3 fun b H4 => if b = true then
      te σ3 H4 fun y H5 => H5 D = some (.lst ys) /\ ys.length < sizeLine /\ Pv (i + 1) σ3 (upd H5 D (.lst (ys ++ [y]))) (ys ++ [y]) else Pv (i + 1) σ3 H4 ys) (hd : ∀ σ H ys, Pv xs.length σ H ys->R H) :
    ∃ W : Nat->Nat->St->Hp->List V->Prop, (∃ m, W 0 m σ H []) /\ ∀ i m σ' H' ys, W i m σ' H' ys->((Itt K a).stop i H' /\ R H') ∨
      ((Itt K a).go i H' /\ ∃ N : St->Hp->List V->Prop, (∀ σ' H' ys', N σ' H' ys'->∃ m', m' < m /\ W (i + 1) m' σ' H' ys') /\ ∀ x H2, (Itt K a).yld i H' x H2->g x σ' H2 fun σ3 H3 => tt σ3 H3 fun b H4 => if b = true then
        te σ3 H4 fun y H5 => H5 D = some (.lst ys) /\ ys.length < sizeLine /\ N σ3 (upd H5 D (.lst (ys ++ [y]))) (ys ++ [y])
        else N σ3 H4 ys) := by
  refine ⟨fun i m σ H ys => m = xs.length - i /\ i ≤ xs.length /\ Pv i σ H ys, ⟨xs.length, by simp, Nat.zero_le _, h0⟩, ?_⟩
  rintro i m σ H ys ⟨rfl, hi, p⟩
  have q := hl i σ H ys hi p
  by_cases hlt : i < xs.length
  · refine .inr ⟨⟨xs, xs[i], q, by simp [hlt]⟩, Pv (i + 1), fun σ' H' ys' p' => ⟨xs.length - (i + 1), by omega, rfl, hlt, p'⟩, fun x H' y => ?_⟩
    obtain ⟨e, y⟩ := y
    subst e
    exact hs i x σ _ ys (y xs q) p
  · have e : i = xs.length := by omega
    subst e
    exact .inl ⟨⟨xs, q, Nat.le_refl _⟩, hd σ H ys p⟩
def tI (n : Int) : Int := n * 128 % 18446744073709551616 + n / 144115188075855872
theorem tI_nat (n : Nat) : tI (n : Int) = (Chk.T n : Nat) := by
  unfold tI Chk.T; omega
theorem xor_nat (a b : Nat) : Builtin.bitXor (a : Int) (b : Int) = ((a ^^^ b : Nat) : Int) := by
  rw [PyProof.Rows.bitXor_and]
  have e : Builtin.bitAnd (a : Int) (b : Int) = ((a &&& b : Nat) : Int) := by
    unfold Builtin.bitAnd
    simp
  rw [e]
  have := Chk.xor_add a b
  omega
def flat (rows : List (Nat × Nat)) : List Nat := rows.flatMap fun r => [r.1, r.2]
theorem flat_snoc (rows : List (Nat × Nat)) (r : Nat × Nat) : flat (rows ++ [r]) = flat rows ++ [r.1, r.2] := by simp [flat]
structure RowsAt (H : Hp) (L : List V) (rows : List (Nat × Nat)) : Prop where
  len : L.length = rows.length
  get : ∀ (i : Nat) v, L[i]? = some v->∃ t r, v = V.ref t /\ rows[i]? = some r /\ H t = some (.tup [.int (r.1 : Int), .int (r.2 : Int)])
theorem RowsAt.mono {H H' : Hp} {L : List V} {rows : List (Nat × Nat)} (R : RowsAt H L rows) (h : ∀ t xs, H t = some (.tup xs)->H' t = some (.tup xs)) : RowsAt H' L rows :=
  ⟨R.len, fun i v e => let ⟨t, r, a, b, c⟩ := R.get i v e; ⟨t, r, a, b, h t _ c⟩⟩
theorem RowsAt.snoc {H : Hp} {L : List V} {rows : List (Nat × Nat)} (R : RowsAt H L rows) {t : Addr} {r : Nat × Nat} (h : H t = some (.tup [.int (r.1 : Int), .int (r.2 : Int)])) : RowsAt H (L ++ [.ref t]) (rows ++ [r]) :=
  ⟨by simp [R.len], fun i v e => by
    by_cases hi : i < L.length
    · rw [List.getElem?_append_left hi] at e
      obtain ⟨t, r, a, b, c⟩ := R.get i v e
      exact ⟨t, r, a, by rw [List.getElem?_append_left (by rw [← R.len]; exact hi)]; exact b, c⟩
    · rw [List.getElem?_append_right (by omega)] at e
      have hi2 : i - L.length = 0 := by
        have := (List.getElem?_eq_some_iff.mp e).1
        simp at this; omega
      rw [hi2] at e
      have e : V.ref t = v := by simpa using e
      refine ⟨t, r, e.symm, ?_, h⟩
      rw [List.getElem?_append_right (by rw [← R.len]; omega), ← R.len, hi2]; rfl⟩
theorem flat_len (l : List (Nat × Nat)) : (flat l).length = 2 * l.length := by
  induction l with
  | nil => rfl
  | cons r l ih =>
    have : flat (r :: l) = r.1 :: r.2 :: flat l := rfl
    rw [this]; simp only [List.length_cons, ih]; omega
theorem put_rows {x v : V} : putF "rows" v [("day", x)] = ([("day", x), ("rows", v)] : List (Str × V)) := by
  rw [putF_ne (by decide +kernel)]; rfl
theorem put_check {x y v : V} : putF "check" v [("day", x), ("rows", y)] = ([("day", x), ("rows", y), ("check", v)] : List (Str × V)) := by
  rw [putF_ne (by decide +kernel), putF_ne (by decide +kernel)]; rfl
theorem put_fits {x y z v : V} : putF "fits" v [("day", x), ("rows", y), ("check", z)] = ([("day", x), ("rows", y), ("check", z), ("fits", v)] : List (Str × V)) := by
  rw [putF_ne (by decide +kernel), putF_ne (by decide +kernel), putF_ne (by decide +kernel)]; rfl
theorem put_base {x y z f v : V} : putF "base" v [("day", x), ("rows", y), ("check", z), ("fits", f)] = ([("day", x), ("rows", y), ("check", z), ("fits", f), ("base", v)] : List (Str × V)) := by
  rw [putF_ne (by decide +kernel), putF_ne (by decide +kernel), putF_ne (by decide +kernel), putF_ne (by decide +kernel)]; rfl
theorem lk_day {x : V} {r : List (Str × V)} : List.lookup ("day" : Str) (("day", x) :: r) = some x := by rw [List.lookup_cons]; simp
theorem lk_rows {x y : V} {r : List (Str × V)} : List.lookup ("rows" : Str) (("day", x) :: ("rows", y) :: r) = some y := by
  rw [List.lookup_cons, show (("rows" : Str) == "day") = false by decide +kernel, List.lookup_cons]; simp
theorem lk_check {x y z : V} {r : List (Str × V)} : List.lookup ("check" : Str) (("day", x) :: ("rows", y) :: ("check", z) :: r) = some z := by
  rw [List.lookup_cons, show (("check" : Str) == "day") = false by decide +kernel, List.lookup_cons, show (("check" : Str) == "rows") = false by decide +kernel, List.lookup_cons]; simp
theorem lk_fits {x y z f : V} {r : List (Str × V)} : List.lookup ("fits" : Str) (("day", x) :: ("rows", y) :: ("check", z) :: ("fits", f) :: r) = some f := by
  rw [List.lookup_cons, show (("fits" : Str) == "day") = false by decide +kernel, List.lookup_cons, show (("fits" : Str) == "rows") = false by decide +kernel, List.lookup_cons, show (("fits" : Str) == "check") = false by decide +kernel, List.lookup_cons]; simp
theorem lk_base {x y z f v : V} {r : List (Str × V)} : List.lookup ("base" : Str) (("day", x) :: ("rows", y) :: ("check", z) :: ("fits", f) :: ("base", v) :: r) = some v := by
  rw [List.lookup_cons, show (("base" : Str) == "day") = false by decide +kernel, List.lookup_cons, show (("base" : Str) == "rows") = false by decide +kernel, List.lookup_cons, show (("base" : Str) == "check") = false by decide +kernel, List.lookup_cons, show (("base" : Str) == "fits") = false by decide +kernel, List.lookup_cons]; simp
def pfs (wh : Bool) (b d : Nat) (r : Addr) (c : Int) (f : Bool) : List (Str × V) := match wh with
  | true => [("day", V.int (d : Int)), ("rows", V.ref r), ("check", V.int c), ("fits", V.bl f)]
  | false => [("day", V.int (d : Int)), ("rows", V.ref r), ("check", V.int c), ("fits", V.bl f), ("base", V.int (b : Int))]
theorem lk_no {m : Str} {wh : Bool} {b d : Nat} {r : Addr} {c : Int} {f : Bool} (h1 : (m == "day") = false) (h2 : (m == "rows") = false) (h3 : (m == "check") = false) (h4 : (m == "base") = false) (h5 : (m == "fits") = false := by decide +kernel) : List.lookup m (pfs wh b d r c f) = none := by
  cases wh
  · show List.lookup m [_, _, _, _, _] = none
    rw [List.lookup_cons, h1, List.lookup_cons, h2, List.lookup_cons, h3, List.lookup_cons, h5, List.lookup_cons, h4]; rfl
  · show List.lookup m [_, _, _, _] = none
    rw [List.lookup_cons, h1, List.lookup_cons, h2, List.lookup_cons, h3, List.lookup_cons, h5]; rfl
def stN (wh : Bool) (b : Nat) : Nat := cond wh 0 (b + 1)
def ckOf (wh : Bool) (b d : Nat) (rows : List (Nat × Nat)) : Nat := Chk.chk (stN wh b :: d :: flat rows)
def PAt (CW CG : Addr) (H : Hp) (p : Addr) (wh : Bool) (b d : Nat) (rows : List (Nat × Nat)) (c : Int) : Prop :=
  ∃ dx r R, H p = some (.ins (cond wh CW CG) dx (pfs wh b d r c (decide (c = (ckOf wh b d rows : Nat))))) /\ H r = some (.tup R) /\ RowsAt H R rows
theorem PAt.keep {CW CG : Addr} {H H' : Hp} {p : Addr} {wh : Bool} {b d : Nat} {rows : List (Nat × Nat)} {c : Int} (h : PAt CW CG H p wh b d rows c) (s : Same H H') : PAt CW CG H' p wh b d rows c := by
  obtain ⟨dx, r, R, h1, h2, h3⟩ := h
  exact ⟨dx, r, R, s _ _ h1, s _ _ h2, h3.mono fun t xs e => s _ _ e⟩
theorem made_same {H H' : Hp} {x dx : Addr} {o : HO} (hx : H x = none) (hd : H dx = none) (k : Keep [x] (upd (upd H dx (.own x)) x o) H') : Same H H' := fun b u e => by
  have n1 := ne_of_none e hx
  have n2 := ne_of_none e hd
  exact k b u (by rw [upd_ne n1, upd_ne n2]; exact e) (by simpa using n1)
theorem decI {i j : Int} : decide (V.int i = V.int j) = decide (i = j) := decide_eq_decide.mpr ⟨V.int.inj, fun e => by rw [e]⟩
def sp_turned : Sp := fun vs H Q _ => ∃ n : Int, vs = [.int n] /\ Q (.int (tI n)) H
def sp_check : Sp := fun vs H Q _ => ∃ (s d : Nat) (a : Addr) (L : List V) (rows : List (Nat × Nat)), vs = [.int ((s : Int) - 1), .int (d : Int), .ref a] /\ (H a = some (.lst L) ∨ H a = some (.tup L)) /\ RowsAt H L rows /\ rows.length ≤ 100 /\ ∀ H', Same H H'->Q (.int (Chk.chk (s :: d :: flat rows) : Nat)) H'
def sp_pinit (K : PySem.W.Frag) : Sp := fun vs H Q _ => ∃ (p C dx a : Addr) (s d : Nat) (L : List V) (rows : List (Nat × Nat)) (cv : V) (c : Int), vs = [.ref p, .int ((s : Int) - 1), .int (d : Int), .ref a, cv] /\ H p = some (.ins C dx []) /\ Cls K C /\ NoAttr K C "day" /\ NoAttr K C "rows" /\ NoAttr K C "check" /\ NoAttr K C "fits" ∧
  (H a = some (.lst L) ∨ H a = some (.tup L)) /\ RowsAt H L rows /\ rows.length ≤ 100 /\ ((cv = .non /\ c = (Chk.chk (s :: d :: flat rows) : Nat)) ∨ cv = .int c) ∧
  ∀ r R H', H' p = some (.ins C dx [("day", V.int (d : Int)), ("rows", V.ref r), ("check", V.int c), ("fits", V.bl (decide (c = (Chk.chk (s :: d :: flat rows) : Nat))))])->H' r = some (.tup R)->RowsAt H' R rows->Keep [p] H H'->Q .non H'
def sp_winit (CW CG : Addr) : Sp := fun vs H Q _ => ∃ (p dx a : Addr) (d : Nat) (L : List V) (rows : List (Nat × Nat)) (cv : V) (c : Int), vs = [.ref p, .int (d : Int), .ref a, cv] /\ H p = some (.ins CW dx []) ∧
  (H a = some (.lst L) ∨ H a = some (.tup L)) /\ RowsAt H L rows /\ rows.length ≤ 100 /\ ((cv = .non /\ c = (ckOf true 0 d rows : Nat)) ∨ cv = .int c) /\ ∀ H', PAt CW CG H' p true 0 d rows c->Keep [p] H H'->Q .non H'
def sp_ginit (CW CG : Addr) : Sp := fun vs H Q _ => ∃ (p dx a : Addr) (b d : Nat) (L : List V) (rows : List (Nat × Nat)) (cv : V) (c : Int), vs = [.ref p, .int (b : Int), .int (d : Int), .ref a, cv] /\ H p = some (.ins CG dx []) ∧
  (H a = some (.lst L) ∨ H a = some (.tup L)) /\ RowsAt H L rows /\ rows.length ≤ 100 /\ ((cv = .non /\ c = (ckOf false b d rows : Nat)) ∨ cv = .int c) /\ ∀ H', PAt CW CG H' p false b d rows c->Keep [p] H H'->Q .non H'
def sp_size (CW CG : Addr) : Sp := fun vs H Q _ => ∃ (p : Addr) (wh : Bool) (b d : Nat) (rows : List (Nat × Nat)) (c : Int), vs = [.ref p] /\ PAt CW CG H p wh b d rows c /\ Q (.int (rows.length : Int)) H
def sp_good (CW CG : Addr) : Sp := fun vs H Q _ => ∃ (p : Addr) (wh : Bool) (b d : Nat) (rows : List (Nat × Nat)) (c : Int), vs = [.ref p] /\ PAt CW CG H p wh b d rows c /\ rows.length ≤ 100 /\ ∀ H', Same H H'->Q (.bl (decide (c = (ckOf wh b d rows : Nat)))) H'
def sp_wstart : Sp := fun vs H Q _ => ∃ p : Addr, vs = [.ref p] /\ Q (.int (-1)) H
def sp_gstart (CW CG : Addr) : Sp := fun vs H Q _ => ∃ (p : Addr) (b d : Nat) (rows : List (Nat × Nat)) (c : Int), vs = [.ref p] /\ PAt CW CG H p false b d rows c /\ Q (.int (b : Int)) H
open PySem PySem.Spec PyProof.Rows
theorem vals_of : ∀ {us : List Value} {ns : List Int}, IntsAre us ns->Vals (ns.map V.int) us
  | _, _, .nil => .nil
  | _, _, .cons _ t r => .cons ⟨t, rfl⟩ (vals_of r)
theorem ints_len {us : List Value} {ns : List Int} (h : IntsAre us ns) : us.length = ns.length := by
  have := (vals_of h).length
  rw [List.length_map] at this
  exact this.symm
theorem objOk_there {P : Program} {w : World} {H : Hp} {h : Heap} {a : Addr} {o : HO} (x : ObjOk P w H h a o) : ∃ ob, h.get? a = some ob := by
  cases o with
  | lst xs => obtain ⟨_, _, _, _, e⟩ := x; exact ⟨_, e⟩
  | tup xs => obtain ⟨_, _, _, ob, e, _⟩ := x; exact ⟨_, e⟩
  | dK kvs => obtain ⟨_, _, _, _, o, _, _, e, _⟩ := x; exact ⟨_, e⟩
  | dT kvs => obtain ⟨_, _, _, _, o, _, _, e, _⟩ := x; exact ⟨_, e⟩
  | set S n => obtain ⟨o, _, _, _, e, _⟩ := x; exact ⟨_, e⟩
  | ins C dx fs => obtain ⟨_, _, _, e, _⟩ := x; exact ⟨_, e⟩
  | own y => exact x
  | xd fs => obtain ⟨_, ⟨_, _, _, e, _⟩, _⟩ := x; exact ⟨_, e⟩
  | rng lo hi => obtain ⟨_, _, _, e⟩ := x; exact ⟨_, e⟩
  | frz ob u => exact ⟨_, x.1⟩
  | tbl ps => exact ⟨_, x⟩
  | met f y => exact ⟨_, x⟩
  | ext φ => exact x.2.1
section
variable {X : Cx} {pins : List (Addr × Obj)} {σ : St} {H : Hp} {s : Shared}
theorem Inv.laidAt {a : Addr} {h' : Heap} {t' : Nat} {vs : List V} (I : Inv X pins σ H s) (hn : s.heap.get? a = none) (k : ∀ b o, s.heap.get? b = some o->h'.get? b = some o) (new : ObjOk X.prog X.w (upd H a (.lst vs)) h' a (.lst vs)) :
    ∃ _ : H a = none, Inv X pins σ (upd H a (.lst vs)) { s with heap := h', toks := t' } /\ True := by
  have hHn : H a = none := by
    cases z : H a with
    | none => rfl
    | some o =>
      obtain ⟨ob, hob⟩ := objOk_there (I.hok a o z)
      rw [hn] at hob; cases hob
  refine ⟨hHn, ?_, trivial⟩
  have na : ∀ b o, s.heap.get? b = some o->b ≠ a := fun b o e z => by rw [z, hn] at e; cases e
  have hu : Un X.fs [] H (upd H a (.lst vs)) s.heap h' := by
    refine ⟨fun b o e _ _ _ => k b o e, fun b o e _ _ _ => ⟨o.slots, k b o e⟩, fun b o e n _ => ?_, fun b o e _ => ⟨o, k b o e⟩, fun b xs e => ?_, fun b o u e => ?_, fun b ps e => ⟨#[], ?_⟩⟩
    · rw [upd_ne (na b o e)]; exact n
    · rw [upd_ne (ne_of_none e hHn)]; exact e
    · rw [upd_ne (ne_of_none e hHn)]; exact e
    · rw [upd_ne (ne_of_none e hHn), e]; simp
  refine I.un hu fun b o e => ?_
  by_cases z : b = a
  · subst z; rw [upd_same] at e; cases e; exact new
  · rw [upd_ne z] at e
    exact (I.hok b o e).stay (fun c v _ q => k c v q) (fun c q => by rw [upd_ne (ne_of_none q hHn)]; exact q) fun c xs q => by rw [upd_ne (ne_of_none q hHn)]; exact q
end
section
variable {X : Cx}
theorem call_sortedD (hc : X.calm = true) : CallR X (.builtin "sorted") (fun xs H Q => ∃ (a : Addr) (kvs : List (Key × V)) (ns : List Int), xs = [.ref a] /\ H a = some (.dK kvs) /\ kvs.map (·.1) = ns.map Sum.inl /\ ns.length < 64 ∧
    ∀ (l : Addr) (ns' : List Int), H l = none->ns'.Perm ns->ns'.Pairwise (· ≤ ·)->Q (.ref l) (upd H l (.lst (ns'.map V.int)))) := by
  rintro pins s σ H xs us Q I r ⟨a, kvs, ns, rfl, hD, hk, h64, q⟩
  obtain ⟨u, rfl, ru⟩ := vals1 r
  cases (show u = Value.ref a from ru)
  obtain ⟨hsz, lo, vs, kv, hd⟩ := dk_of I.hok hD
  obtain ⟨ep, hat⟩ := hd.dictAt
  have hkeys := kv.keys
  have hvl : vs.length = ns.length := by
    have := congrArg List.length (hkeys.symm.trans hk)
    simpa using this
  refine Calls.call_function_entry kind_sorted plain_sorted entry_sorted (args_sorted1 _) ?_
  unfold Builtin.«sorted»
  refine wpAny_bind (m := checkCount "sorted" 1 1 _) (wpAny_pure ?_)
  refine wpAny_bind (PySem.W.kdu_collect (A := X.A.in1) (PySem.W.kdl_dict (knd := mixKind X.prog X.w) (kvs := vs) (ep := ep) lo) (I.ok.hd hc) hat (by rw [hvl]; exact Nat.le_of_lt (small1000 (by omega))) fun h' tk acc keep hacc => ?_)
  have hI : IntsAre acc.toList ns := by
    refine intsAre_of ?_
    have hal : acc.toList.length = ns.length := by rw [Array.length_toList, hacc.1, hvl]
    have key : ∀ (j : Nat) v, acc.toList[j]? = some v->∃ n t, ns[j]? = some n /\ v = Value.int n t := fun j v e => by
      obtain ⟨k, x, h1, h2⟩ := hacc.2 j v (by rw [← Array.getElem?_toList]; exact e)
      have e1 : (vs.map (·.1))[j]? = some k := by rw [List.getElem?_map, h1]; rfl
      rw [← hkeys, hk, List.getElem?_map] at e1
      obtain ⟨n, e2, e3⟩ := Option.map_eq_some_iff.mp e1
      subst e3
      have h2 : keyIs (Sum.inl n) v = true := h2
      rcases keyIs_shape h2 with ⟨i, t, e5, e4⟩ | ⟨y, t, e5, e4⟩
      · first | (cases e4; subst e5; exact ⟨n, t, e2, rfl⟩) | (cases e5; subst e4; exact ⟨n, t, e2, rfl⟩)
      · first | (cases e4; done) | (cases e5; done)
    clear hacc
    generalize acc.toList = us at hal key
    clear hk hvl h64 q
    induction us generalizing ns with
    | nil => cases ns with
      | nil => exact .nil
      | cons n ns => simp at hal
    | cons u us ih => cases ns with
      | nil => simp at hal
      | cons n ns =>
        obtain ⟨m, t, e1, e2⟩ := key 0 u rfl
        have e1 : n = m := by simpa using e1
        subst e1
        exact .cons ⟨t, e2⟩ (ih (ns := ns) (by simpa using hal) fun j v e => by
          obtain ⟨m, t, a1, a2⟩ := key (j + 1) v (by simpa using e)
          exact ⟨m, t, by simpa using a1, a2⟩)
  have hal : acc.toList.length < 64 := by rw [ints_len hI]; exact h64
  refine wpAny_bind (wpAny_newList ?_ (Nat.le_of_lt (small1000 (by omega))))
  have hoL : (h'.push (seqObj "list" acc.toList.toArray 0)).get? h'.objs.size = some (seqObj "list" acc.toList.toArray 0) := Heap.get?_push_size _ rfl
  refine wpAny_bind (wpAny_holding (wpAny_call_entry slot_list_sort ⟨_, hoL, rfl⟩ entry_list_sort (list_sort_tree hoL hI hal fun out ns' b1 b2 b3 => ⟨_, rfl, ?_⟩) (args_list_sort _)))
  refine wpAny_pure ⟨_, rfl, ?_⟩
  obtain ⟨e, hat2⟩ := sortedHeap_at (out := out) hoL
  have hno : s.heap.get? h'.objs.size = none := by
    cases z : s.heap.get? h'.objs.size with
    | none => rfl
    | some o => exact absurd (Heap.lt_size (keep _ _ z)) (Nat.lt_irrefl _)
  have hlen : ns'.length ≤ sizeLine := by rw [b2.length_eq]; exact Nat.le_of_lt (small1000 (by omega))
  have keep2 : ∀ b o, s.heap.get? b = some o->(sortedHeap (h'.push (seqObj "list" acc.toList.toArray 0)) h'.objs.size acc.toList out).get? b = some o := fun b o z => by
    have hb := keep b o z
    have hlt := Heap.lt_size hb
    rw [sortedHeap_old (Nat.ne_of_lt hlt) (by rw [size_push']; exact Nat.lt_succ_of_lt hlt)]
    exact Heap.get?_push_of_some _ hb
  obtain ⟨H', I', _⟩ := I.laidAt (t' := tk) (vs := ns'.map V.int) hno keep2 ⟨by rw [List.length_map]; exact hlen, out.toList, e, vals_of b1, by simpa using hat2⟩
  exact ⟨.ref h'.objs.size, _, I', rfl, q _ ns' H' b2 b3⟩
end
open PySem PySem.Spec PyProof.Rows
def sfs (d : Addr) (fl : Int) : List (Str × V) := [("pieces", V.ref d), ("follows", V.int fl)]
theorem put_follows {x v : V} : putF "follows" v [("pieces", x)] = ([("pieces", x), ("follows", v)] : List (Str × V)) := by
  rw [putF_ne (by decide +kernel)]; rfl
theorem put_follows2 {d : Addr} {fl m : Int} : putF "follows" (.int m) (sfs d fl) = sfs d m := by
  unfold sfs; rw [putF_ne (by decide +kernel), putF_eq]
theorem lk_pieces {d : Addr} {fl : Int} : List.lookup ("pieces" : Str) (sfs d fl) = some (V.ref d) := by
  unfold sfs; rw [List.lookup_cons]; simp
theorem lk_follows {d : Addr} {fl : Int} : List.lookup ("follows" : Str) (sfs d fl) = some (V.int fl) := by
  unfold sfs; rw [List.lookup_cons, show (("follows" : Str) == "pieces") = false by decide +kernel, List.lookup_cons]; simp
theorem lk_sno {m : Str} {d : Addr} {fl : Int} (h1 : (m == "pieces") = false) (h2 : (m == "follows") = false) : List.lookup m (sfs d fl) = none := by
  unfold sfs; rw [List.lookup_cons, h1, List.lookup_cons, h2]; rfl
def ShAt (C : Addr) (H : Hp) (p d : Addr) (fl : Int) (kvs : List (Key × V)) : Prop := ∃ dx, H p = some (.ins C dx (sfs d fl)) /\ H d = some (.dK kvs)
theorem ShAt.keep {C : Addr} {H H' : Hp} {p d : Addr} {fl : Int} {kvs : List (Key × V)} (h : ShAt C H p d fl kvs) (s : Same H H') : ShAt C H' p d fl kvs := by
  obtain ⟨dx, h1, h2⟩ := h
  exact ⟨dx, s _ _ h1, s _ _ h2⟩
def sp_sinit (C : Addr) : Sp := fun vs H Q _ => ∃ (p dx : Addr), vs = [.ref p] /\ H p = some (.ins C dx []) /\ ∀ d H', ShAt C H' p d 0 []->H d = none->Keep [p] H H'->Q .non H'
def sp_lay (C : Addr) : Sp := fun vs H Q _ => ∃ (p d : Addr) (fl : Int) (kvs : List (Key × V)) (n : Int) (a : Addr), vs = [.ref p, .int n, .ref a] /\ ShAt C H p d fl kvs /\ kvs.length < 1000 ∧
  ∀ H', ShAt C H' p d (if n + 1 > fl then n + 1 else fl) (putK kvs (.inl n) (.ref a))->Keep [p, d] H H'->Q .non H'
def sp_put (C : Addr) : Sp := fun vs H Q _ => ∃ (p d : Addr) (fl : Int) (kvs : List (Key × V)) (a : Addr), vs = [.ref p, .ref a] /\ ShAt C H p d fl kvs /\ kvs.length < 1000 ∧
  ∀ H', ShAt C H' p d (fl + 1) (putK kvs (.inl fl) (.ref a))->Keep [p, d] H H'->Q (.int fl) H'
def sp_piece (C CN : Addr) : Sp := fun vs H Q E => ∃ (p d : Addr) (fl : Int) (kvs : List (Key × V)) (n : Int), vs = [.ref p, .int n] /\ ShAt C H p d fl kvs /\ (∀ v, valV kvs (.inl n) = some v->Q v H) ∧
  (valV kvs (.inl n) = none->∀ e H', ExcAt H' e CN [("number", .int n)]->Same H H'->E (.ref CN) (some e) H')
def sp_drop (C CN : Addr) : Sp := fun vs H Q E => ∃ (p d : Addr) (fl : Int) (kvs : List (Key × V)) (n : Int), vs = [.ref p, .int n] /\ ShAt C H p d fl kvs ∧
  (∀ v, valV kvs (.inl n) = some v->∀ H', ShAt C H' p d fl (dropK kvs (.inl n))->Keep [p, d] H H'->Q v H') ∧
  (valV kvs (.inl n) = none->∀ e H', ExcAt H' e CN [("number", .int n)]->Same H H'->E (.ref CN) (some e) H')
open PySem PySem.Spec PyProof.Rows
theorem SeqEq.ints {K : PySem.W.Frag} {H : Hp} {a c : Addr} {xs ys : List Int} (h1 : SqL K H a (xs.map V.int)) (h2 : SqL K H c (ys.map V.int)) : SeqEq K H (EqI K H 0) (.ref a) (.ref c) (decide (xs = ys)) := by
  by_cases hl : xs.length = ys.length
  · refine ⟨a, c, _, _, fun j => decide (xs[j]? = ys[j]?), rfl, rfl, .inl ⟨h1, h2, by simpa using hl, fun j x' y' e1 e2 => ?_, ?_⟩⟩
    · rw [List.getElem?_map] at e1 e2
      obtain ⟨x, ex, rfl⟩ := Option.map_eq_some_iff.mp e1
      obtain ⟨y, ey, rfl⟩ := Option.map_eq_some_iff.mp e2
      refine .inl ⟨rfl, rfl, ?_⟩
      show decide (xs[j]? = ys[j]?) = eqV (.int x) (.int y)
      rw [ex, ey]
      show decide (some x = some y) = (x == y)
      rw [Bool.eq_iff_iff, decide_eq_true_iff, beq_iff_eq]
      exact ⟨fun h => Option.some.inj h, fun h => by rw [h]⟩
    · rw [List.length_map, Bool.eq_iff_iff, decide_eq_true_iff, List.all_eq_true]
      constructor
      · rintro rfl j _; simp
      · intro h
        refine List.ext_getElem? fun j => ?_
        by_cases hj : j < xs.length
        · exact of_decide_eq_true (h j (List.mem_range.mpr hj))
        · rw [List.getElem?_eq_none (by omega), List.getElem?_eq_none (by omega)]
  · refine ⟨a, c, _, _, fun _ => true, rfl, rfl, .inr (.inl ⟨h1, h2, by simpa using hl, ?_⟩)⟩
    exact decide_eq_false (fun e => hl (by rw [e]))
theorem valV_drop (kvs : List (Key × V)) (k j : Key) : valV (dropK kvs k) j = if j = k then none else valV kvs j := by
  induction kvs with
  | nil => show none = _; split <;> rfl
  | cons p r ih =>
    have e : dropK (p :: r) k = if p.1 = k then dropK r k else p :: dropK r k := by
      unfold dropK; rw [List.filter_cons]; by_cases h : p.1 = k <;> simp [h]
    rw [e]
    by_cases h : p.1 = k
    · rw [if_pos h, ih]
      by_cases hj : j = k
      · rw [if_pos hj, if_pos hj]
      · rw [if_neg hj, if_neg hj, valV_neg (fun z => hj (z.symm.trans h))]
    · rw [if_neg h]
      by_cases hp : p.1 = j
      · rw [valV_pos hp, valV_pos hp, if_neg (fun z => h (hp.trans z))]
      · rw [valV_neg hp, valV_neg hp, ih]
def AllI (lkv : List (Key × V)) : Prop := ∀ kv ∈ lkv, ∃ n : Int, kv.1 = Sum.inl n
theorem AllI.nil : AllI [] := fun _ h => by cases h
theorem AllI.put {kvs : List (Key × V)} (h : AllI kvs) (n : Int) (v : V) : AllI (putK kvs (Sum.inl n) v) := fun kv hm => by
  unfold putK at hm
  split at hm
  · obtain ⟨kv', h1, rfl⟩ := List.mem_map.mp hm
    obtain ⟨m, e⟩ := h kv' h1
    split
    · exact ⟨m, e⟩
    · exact ⟨m, e⟩
  · rcases List.mem_append.mp hm with h1 | h1
    · exact h kv h1
    · have : kv = (Sum.inl n, v) := by simpa using h1
      exact ⟨n, by rw [this]⟩
theorem AllI.drop {kvs : List (Key × V)} (h : AllI kvs) (k : Key) : AllI (dropK kvs k) := fun kv hm => h kv (List.mem_filter.mp hm).1
def NoPart (H : Hp) (F : List Addr) : Prop := ∀ x ∈ F, (∃ kv, H x = some (.dK kv)) ∨ (∃ C dx d fl, H x = some (.ins C dx (sfs d fl)))
theorem NoPart.tup {H : Hp} {F : List Addr} (h : NoPart H F) {t : Addr} {xs : List V} (e : H t = some (.tup xs)) : t ∉ F := fun hm => by
  rcases h t hm with ⟨kv, e'⟩ | ⟨C, dx, d, fl, e'⟩ <;> (rw [e] at e'; cases e')
theorem NoPart.lst {H : Hp} {F : List Addr} (h : NoPart H F) {t : Addr} {xs : List V} (e : H t = some (.lst xs)) : t ∉ F := fun hm => by
  rcases h t hm with ⟨kv, e'⟩ | ⟨C, dx, d, fl, e'⟩ <;> (rw [e] at e'; cases e')
theorem PAt.keepF {CW CG : Addr} {H H' : Hp} {F : List Addr} {a : Addr} {wh : Bool} {b d : Nat} {rows : List (Nat × Nat)} {c : Int} (h : PAt CW CG H a wh b d rows c) (k : Keep F H H') (hF : NoPart H F) : PAt CW CG H' a wh b d rows c := by
  obtain ⟨dx, r, R, h1, h2, h3⟩ := h
  refine ⟨dx, r, R, k _ _ h1 (fun hm => ?_), k _ _ h2 (hF.tup h2), h3.mono fun t xs e => k _ _ e (hF.tup e)⟩
  rcases hF _ hm with ⟨kv, e⟩ | ⟨C, dx', d', fl, e⟩
  · rw [h1] at e; cases e
  · rw [h1] at e
    have e := congrArg List.length (HO.ins.inj (Option.some.inj e)).2.2
    cases wh <;> simp [pfs, sfs] at e
theorem NoPart.one {H : Hp} {a : Addr} {kv : List (Key × V)} (h : H a = some (.dK kv)) : NoPart H [a] := fun x hx => by
  have : x = a := by simpa using hx
  subst this; exact .inl ⟨_, h⟩
theorem ShAt.keepF {C : Addr} {H H' : Hp} {F : List Addr} {p d : Addr} {fl : Int} {kvs : List (Key × V)} (h : ShAt C H p d fl kvs) (k : Keep F H H') (hp : p ∉ F) (hd : d ∉ F) : ShAt C H' p d fl kvs := by
  obtain ⟨dx, h1, h2⟩ := h
  exact ⟨dx, k _ _ h1 hp, k _ _ h2 hd⟩
open PySem PySem.Spec PyProof.Rows
theorem KV.len' : ∀ {ps : List (Key × V)} {pv : List (Key × Value)}, KV ps pv->pv.length = ps.length
  | _, _, .nil => rfl
  | _, _, .cons _ r => by simp [KV.len' r]
open PySem PySem.Spec PyProof.Rows
section
variable {X : Cx} {pins : List (Addr × Obj)} {σ : List (Option V)} {H : Hp} {s : Shared} {d : Addr} {u u' : HO}
theorem Inv.swap (I : Inv X pins σ H s) (e : H d = some u) (nt : ∀ xs, u ≠ .tup xs) (no : ∀ y, u ≠ .own y) (nb : ∀ ps, u ≠ .tbl ps) (nf : ∀ o v, u = .frz o v->X.H₀ d ≠ some (.frz o v)) (new : ObjOk X.prog X.w (upd H d u') s.heap d u') : Inv X pins σ (upd H d u') s := by
  have hn : ∀ b, H b = none->upd H d u' b = none := fun b h => by rw [upd_ne (fun z => by subst z; rw [h] at e; cases e)]; exact h
  have hs : ∀ b v, H b = some v->v ≠ u->upd H d u' b = some v := fun b v h n => by rw [upd_ne (fun z => by subst z; rw [h] at e; cases e; exact n rfl)]; exact h
  refine ⟨I.ok, I.os, I.bare, ⟨I.base.keep, I.base.slot, fun b o q n hx => hn b (I.base.free b o q n hx), I.base.there, fun b xs q => hs b _ (I.base.tups b xs q) (fun z => nt xs z.symm), fun b o v q => ?_, fun b ps q => ?_⟩, I.loc, I.cell, hn _ I.free, fun x c q => hn _ (I.freeC x c q), fun p hp => ?_, fun a o q => ?_, I.len⟩
  · have h1 := I.base.frzs b o v q
    by_cases hb : b = d
    · subst hb
      rw [e] at h1
      exact absurd q (nf o v (Option.some.inj h1))
    · rw [upd_ne hb]; exact h1
  · obtain ⟨more, h1⟩ := I.base.tbls b ps q
    exact ⟨more, hs b _ h1 (fun z => nb _ z.symm)⟩
  · obtain ⟨a1, a2, a3⟩ := I.pin p hp
    exact ⟨a1, hn _ a2, a3⟩
  · by_cases hb : a = d
    · subst hb; rw [upd_same] at q; cases q; exact new
    · rw [upd_ne hb] at q
      exact (I.hok a o q).stay (fun _ _ _ r => r) (fun b r => hs b _ r (fun z => no a z.symm)) fun b xs r => hs b _ r (fun z => nt xs z.symm)
def NF (H₀ : Hp) (d : Addr) : Prop := ∀ o v, H₀ d ≠ some (.frz o v)
theorem Inv.freeze {kvs : List (Key × V)} (I : Inv X pins σ H s) (e : H d = some (.dK kvs)) : NF X.H₀ d /\ ∃ o, s.heap.get? d = some o /\ Inv X pins σ (upd H d (.frz o (.dK kvs))) s := by
  have nf : NF X.H₀ d := fun o v q => by have := I.base.frzs d o v q; rw [e] at this; cases this
  have ok := I.hok d _ e
  obtain ⟨z, y, vs, r, ob, es, ep, e2, c⟩ := (show ObjOk X.prog X.w H s.heap d (.dK kvs) from ok)
  exact ⟨nf, ob, e2, I.swap e (fun _ => nofun) (fun _ => nofun) (fun _ => nofun) (fun _ _ => nofun) ⟨e2, z, y, vs, r, ob, es, ep, e2, c⟩⟩
theorem Inv.thaw {kvs : List (Key × V)} {o : Obj} (I : Inv X pins σ H s) (e : H d = some (.frz o (.dK kvs))) (nf : NF X.H₀ d) : Inv X pins σ (upd H d (.dK kvs)) s := by
  obtain ⟨e2, z, y, vs, r, ob, es, ep, e3, c⟩ := (show ObjOk X.prog X.w H s.heap d (.frz o (.dK kvs)) from I.hok d _ e)
  exact I.swap e (fun _ => nofun) (fun _ => nofun) (fun _ => nofun) (fun o v _ => nf o v) ⟨z, y, vs, r, ob, es, ep, e3, c⟩
end
def Itd (d : Addr) (o : Obj) (kvs : List (Key × V)) : It :=
  ⟨fun i H => i < kvs.length /\ H d = some (.frz o (.dK kvs)), fun i H x H' => H' = H /\ ∃ k v, kvs[i]? = some (k, v) /\ x = kV k, fun i H => kvs.length ≤ i /\ H d = some (.frz o (.dK kvs))⟩
def iDict (H₀ : Hp) (td : TE) : TI := fun σ H R => td σ H fun x H1 => ∃ d kvs, x = .ref d /\ H1 d = some (.dK kvs) /\ ∀ o, NF H₀ d->R (Itd d o kvs) (upd H1 d (.frz o (.dK kvs)))
theorem KV.get {kvs : List (Key × V)} {vs : List (Key × Value)} (r : KV kvs vs) : ∀ {i : Nat} {k : Key} {v : V}, kvs[i]? = some (k, v)->∃ u, vs[i]? = some (k, u) := by
  induction r with
  | nil => intro i k v h; simp at h
  | cons a b ih =>
    intro i k v h
    cases i with
    | zero => simp at h; subst h; exact ⟨_, by simp; exact Prod.ext a.1.symm rfl⟩
    | succ i => obtain ⟨u, hu⟩ := ih (by simpa using h); exact ⟨u, by simpa using hu⟩
theorem relK {k : Key} {u : Value} (h : keyIs k u = true) : RelV (kV k) u := by
  rcases keyIs_shape h with ⟨i, t, e5, e4⟩ | ⟨y, t, e5, e4⟩
  · first | (subst e5; subst e4; exact ⟨t, rfl⟩) | (subst e4; subst e5; exact ⟨t, rfl⟩)
  · first | (subst e5; subst e4; exact ⟨t, rfl⟩) | (subst e4; subst e5; exact ⟨t, rfl⟩)
theorem dict_at {P : Program} {w : World} {H : Hp} {h : Heap} {d : Addr} {o : Obj} {kvs : List (Key × V)} {es : Array DictEntry} {ep : Nat} (ok : ObjOk P w H h d (.frz o (.dK kvs))) (hdat : o.data = .dict es ep) : ∃ vs, KV kvs vs /\ h.DictAt (mixKind P w) d vs ep := by
  obtain ⟨e2, z, y, vs, r, ob, es2, ep2, e3, c, hd, q⟩ := ok
  rw [e2] at e3; cases e3
  rw [hdat] at hd; cases hd
  exact ⟨vs, r, _, _, e2, c, hdat, q⟩
theorem turn_dict {P : Program} {w : World} {K : PySem.W.Frag} {tg : Expr} {d it : Addr} {o : Obj} {kvs : List (Key × V)} {es : Array DictEntry} {ep : Nat} (hdat : o.data = .dict es ep) :
    Turn P w K tg (Itd d o kvs) [it] it (fun i h => h.IsKeyIter it d i kvs.length ep) where
  mem := by simp
  obj := fun i h st b hb => by
    have e : b = it := by simpa using hb
    subst e
    obtain ⟨o, e, c, d⟩ := st
    exact ⟨o, e, fun v z => by rw [d] at z; cases z⟩
  keep := fun i h h' st k => by
    obtain ⟨o, e, r⟩ := st
    exact ⟨o, k it (by simp) o e, r⟩
  item := by
    intro X hP hw hK hc i pins s σ H E I hf st hg
    subst hP hw hK
    obtain ⟨hlt, hfz⟩ := hg
    obtain ⟨vs, rv, hat⟩ := dict_at (I.hok d _ hfz) hdat
    obtain ⟨k, v, hkv⟩ : ∃ k v, kvs[i]? = some (k, v) := ⟨_, _, List.getElem?_eq_getElem hlt⟩
    obtain ⟨u, hu⟩ := rv.get hkv
    obtain ⟨f0, f1, f2, f3, f4, f5⟩ := hf it (by simp)
    have hlen := KV.len' rv
    refine wpAny_pyNext_dict_item (knd := mixKind X.prog X.w) (by rw [hlen]; exact st) hat hu fun key h' hk st' sb => ?_
    rw [hlen] at st'
    have I1 : Inv X pins σ H { s with heap := h' } := I.turned (t' := s.toks) (fun b o hb e => (sb.2 b hb).trans e) f0 f1 f3 f4 f5
    obtain ⟨o2, e, c, d2⟩ := id st'
    exact ⟨key, rfl, go_of (s := { s with heap := h' }) e c d2 (by decide) ⟨kV k, H, I1, relK hk, ⟨rfl, k, v, hkv, rfl⟩, st', fun b hb => (hf b hb).1⟩⟩
  done := by
    intro X hP hw hK hc i pins s σ H E I hf st hg
    subst hP hw hK
    obtain ⟨hle, hfz⟩ := hg
    obtain ⟨vs, rv, hat⟩ := dict_at (I.hok d _ hfz) hdat
    obtain ⟨f0, f1, f2, f3, f4, f5⟩ := hf it (by simp)
    have hlen := KV.len' rv
    exact wpAny_pyNext_dict_end (knd := mixKind X.prog X.w) (I.ok.hd hc) (by rw [hlen]; exact st) hat (List.getElem?_eq_none (by omega)) fun h' eb => ⟨rfl, I.turned (t' := s.toks) (fun b o hb e => eb b o hb e) f0 f1 f3 f4 f5⟩
  self := fun _ _ _ _ _ st h => wpAny_pyIter_keyiter st h
section
variable {X : Cx} {tg : Expr}
theorem pi_dict {l : Expr} {tl : TE} (hl : PE X l tl) : PI X tg l (iDict X.H₀ tl) := by
  intro pins s σ H R I h
  refine thn (hl pins s σ H _ I h) fun v s1 ⟨x, H1, I1, r1, q1⟩ => ?_
  obtain ⟨d, kvs, e, hd, q⟩ := q1
  subst e
  cases (show v = Value.ref d from r1)
  obtain ⟨nf, o, ho, I2⟩ := I1.freeze hd
  obtain ⟨z, y, vs, r, ob, es, ep, e2, c, hdat, rest⟩ := (show ObjOk X.prog X.w H1 s1.heap d (.dK kvs) from I1.hok d _ hd)
  rw [ho] at e2; cases e2
  have hlen := KV.len' r
  refine wpAny_pyIter_dict (knd := mixKind X.prog X.w) (kvs := vs) (ep := ep) y ⟨o, es, ho, c, hdat, rest⟩ ?_
  refine ⟨s1.heap.objs.size, [s1.heap.objs.size], _, _, _, rfl, I2.kept (t' := s1.toks) fun b o e => Heap.get?_push_of_some _ e, turn_dict hdat, ⟨_, Heap.get?_push_size _ rfl, rfl, by rw [hlen]; rfl⟩, fun b hb => ?_, q o nf⟩
  have e : b = s1.heap.objs.size := by simpa using hb
  subst e
  exact I2.fpOk (Nat.le_refl _) (I2.hok.fresh (Nat.le_refl _))
def sThaw (H₀ : Hp) (t : TS) : TS := fun D σ H => t { D with nx := fun σ' H' => ∃ d o kvs, H' d = some (.frz o (.dK kvs)) /\ NF H₀ d /\ D.nx σ' (upd H' d (.dK kvs)), rt := fun v H' => ∃ d o kvs, H' d = some (.frz o (.dK kvs)) /\ NF H₀ d /\ D.rt v (upd H' d (.dK kvs)) } σ H
theorem ps_thaw {st : Stmt} {t : TS} (h : PS X st t) : PS X st (sThaw X.H₀ t) := by
  intro pins s σ H D I q
  refine thn (h pins s σ H _ I q) fun f s' hq => ?_
  cases f with
  | next => obtain ⟨σ', H', I', d, o, kvs, e, nf, q'⟩ := hq; exact ⟨σ', _, I'.thaw e nf, q'⟩
  | brk => exact hq
  | cont => exact hq
  | ret u => obtain ⟨v, σ', H', I', r, d, o, kvs, e, nf, q'⟩ := hq; exact ⟨v, σ', _, I'.thaw e nf, r, q'⟩
end
theorem for_dict {d : Addr} {o : Obj} {kvs : List (Key × V)} {g : TG} {tb : TS} {D : Ends} {σ : St} {H : Hp} (Pv : Nat->St->Hp->Prop) (h0 : Pv 0 σ H) (hl : ∀ i σ H, i ≤ kvs.length->Pv i σ H->H d = some (.frz o (.dK kvs)))
    (hs : ∀ i k v σ H, kvs[i]? = some (k, v)->Pv i σ H->g (kV k) σ H fun σ2 H2 => tb { D with nx := Pv (i + 1), ct := Pv (i + 1), bk := D.nx } σ2 H2) (hd : ∀ σ H, Pv kvs.length σ H->D.nx σ H) :
    ∃ W : Nat->Nat->St->Hp->Prop, (∃ m, W 0 m σ H) /\ ∀ i m σ H, W i m σ H →
      ((Itd d o kvs).stop i H /\ D.nx σ H) ∨ ((Itd d o kvs).go i H /\ ∃ N : St->Hp->Prop, (∀ σ' H', N σ' H'->∃ m', m' < m /\ W (i + 1) m' σ' H') /\ ∀ x H', (Itd d o kvs).yld i H x H'->g x σ H' fun σ2 H2 => tb { D with nx := N, ct := N, bk := D.nx } σ2 H2) := by
  refine ⟨fun i m σ H => m = kvs.length - i /\ i ≤ kvs.length /\ Pv i σ H, ⟨kvs.length, by simp, Nat.zero_le _, h0⟩, ?_⟩
  rintro i m σ H ⟨rfl, hi, p⟩
  have q := hl i σ H hi p
  by_cases hlt : i < kvs.length
  · refine .inr ⟨⟨hlt, q⟩, Pv (i + 1), fun σ' H' p' => ⟨kvs.length - (i + 1), by omega, rfl, hlt, p'⟩, fun x H' y => ?_⟩
    obtain ⟨e, k, v, hkv, rfl⟩ := y
    subst e
    exact hs i k v σ _ hkv p
  · have e : i = kvs.length := by omega
    subst e
    exact .inl ⟨⟨Nat.le_refl _, q⟩, hd σ H p⟩
open PySem PySem.Spec PyProof.Rows
def gTupL (K : PySem.W.Frag) (n : Nat) (t : TGs) : TG := fun v σ H Q => ∃ a xs, v = .ref a /\ SqL K H a xs /\ xs.length = n /\ t xs σ H Q
theorem pg_tupL {X : Cx} {pos : Pos} {es : List Expr} {k : Nat} {t : TGs} {n : Nat} (hc : X.calm = true) (h : PGs X es t)
    (hn : (assignEach es X.env).length = n := by rfl) (hst : (assignEach es X.env).findIdx? (·.1) = none := by rfl) : PG X (.Tuple es k pos) (gTupL X.K n t) := by
  intro pins s σ H v u Q I r hw
  obtain ⟨a, xs, e1, hq, hl, hw⟩ := hw
  subst e1
  cases r
  obtain ⟨its, rv, ht, hz⟩ := I.list hq
  have hlen : its.length = n := by rw [← rv.length, hl]
  rw [assign]
  refine wpAny_bind (wpAny_standAt ?_)
  unfold unpack
  simp only [hst]
  refine wpAny_bind ?_
  rw [hn, ← hlen, ← List.size_toArray]
  refine wpAny_holding (PySem.W.kun_itemsOf (I.ok.hd hc) ht.isList fun h' hx => ?_)
  have I1 : Inv X pins σ H { s with heap := h' } := I.kept (t' := s.toks) fun b o e => hx b o (Nat.ne_of_lt (Heap.lt_size e)) e
  exact h pins _ σ H xs _ Q I1 (by simpa using rv) hw
open PySem
structure Leg where
  num : Int
  start : Int
  to : Int
  bad : Int
  cost : Int
def ahead (legs : List Leg) (P : Int->Option (List Int)) : Nat := (legs.filter fun g => (P g.start).isNone).length
open PySem
theorem valV_there {kvs : List (Key × V)} {k : Key} : (valV kvs k).isSome = true ↔ k ∈ kvs.map (·.1) := by
  unfold valV
  rw [Option.isSome_map, List.find?_isSome, List.mem_map]
  constructor
  · rintro ⟨x, hx, e⟩; exact ⟨x, hx, by simpa using e⟩
  · rintro ⟨x, hx, e⟩; exact ⟨x, hx, by simpa using e⟩
theorem valV_nd : ∀ {kvs : List (Key × V)} {k : Key} {v : V}, (kvs.map (·.1)).Nodup->(k, v) ∈ kvs->valV kvs k = some v
  | [], _, _, _, h => by cases h
  | (k', v') :: r, k, v, hn, h => by
    rw [List.map_cons, List.nodup_cons] at hn
    unfold valV
    rw [List.find?_cons]
    rcases List.mem_cons.mp h with e | h
    · cases e; simp
    · have hne : k' ≠ k := fun e => hn.1 (by rw [e]; exact List.mem_map.mpr ⟨_, h, rfl⟩)
      simp only [hne, decide_false]
      exact valV_nd hn.2 h
theorem nd_put {kvs : List (Key × V)} {k : Key} (v : V) (hn : (kvs.map (·.1)).Nodup) : ((putK kvs k v).map (·.1)).Nodup := by
  cases h : valV kvs k with
  | none => exact nd_putK v hn h
  | some y =>
    unfold putK
    rw [valV_any, h]
    simp only [Option.isSome_some, if_true, List.map_map]
    rw [show ((fun x : Key × V => x.1) ∘ fun kv : Key × V => if kv.1 = k then (kv.1, v) else kv) = fun x => x.1 from funext fun kv => by simp only [Function.comp]; split <;> rfl]
    exact hn
open PySem PySem.Spec PyProof.Rows
def tfs (a b c : Addr) : List (Str × V) := [("sizes", V.ref a), ("weights", V.ref b), ("rates", V.ref c)]
theorem upK {H4 : Hp} {x dx : Addr} {o : HO} (hx : H4 x = none) (hd : H4 dx = none) (t : Addr) (o' : HO) (e : H4 t = some o') : upd (upd H4 dx (.own x)) x o t = some o' := by
  rw [upd_ne (ne_of_none e hx), upd_ne (ne_of_none e hd)]; exact e
open PySem PySem.Spec PyProof.Rows
section
variable {prog : Program} {w : World} {A : Around} {E : Value->Shared->Prop} {s : Shared}
set_option maxHeartbeats 6400000 in
end
open PySem PySem.Spec PyProof.Rows
section
variable {X : Cx}
def dd (ns : List Int) : List Int := firstMet (fun i => ns.getD i 0) ns.length
end
open PySem PySem.Spec PyProof.Rows
theorem rise_ext : ∀ {l m : List Int}, l.Pairwise (· < ·)->m.Pairwise (· < ·)->(∀ a, a ∈ l ↔ a ∈ m)->l = m
  | [], [], _, _, _ => rfl
  | [], b :: m, _, _, h => absurd ((h b).mpr (by simp)) (by simp)
  | a :: l, [], _, _, h => absurd ((h a).mp (by simp)) (by simp)
  | a :: l, b :: m, hl, hm, h => by
    rw [List.pairwise_cons] at hl hm
    have e : a = b := by
      rcases List.mem_cons.mp ((h a).mp (by simp)) with e | h1
      · exact e
      · rcases List.mem_cons.mp ((h b).mpr (by simp)) with e | h2
        · exact e.symm
        · have := hm.1 a h1; have := hl.1 b h2; omega
    subst e
    rw [rise_ext hl.2 hm.2 fun c => ⟨fun hc => ?_, fun hc => ?_⟩]
    · rcases List.mem_cons.mp ((h c).mp (by simp [hc])) with e | h1
      · subst e; have := hl.1 c hc; omega
      · exact h1
    · rcases List.mem_cons.mp ((h c).mpr (by simp [hc])) with e | h1
      · subst e; have := hm.1 c hc; omega
      · exact h1
open PySem PySem.Spec PyProof.Rows
abbrev LiesG := Int->Option (Int × Int × Bool)
def okG (gd g : Bool) : Prop := g = true ∨ gd = false
instance (gd g : Bool) : Decidable (okG gd g) := inferInstanceAs (Decidable (_ ∨ _))
open PySem PySem.Spec PyProof.Rows
section
variable {α : Type}
def aput (M : Int->Option α) (n : Int) (x : Option α) : Int->Option α := fun m => if m = n then x else M m
theorem aput_eq {M : Int->Option α} {n : Int} {x : Option α} : aput M n x n = x := if_pos rfl
theorem aput_ne {M : Int->Option α} {n m : Int} {x : Option α} (h : m ≠ n) : aput M n x m = M m := if_neg h
structure DRep (Pr : V->α->Prop) (kvs : List (Key × V)) (M : Int->Option α) : Prop where
  nd : (kvs.map (·.1)).Nodup
  alli : AllI kvs
  none_ : ∀ n, M n = none->valV kvs (Sum.inl n) = none
  some_ : ∀ n u, M n = some u->∃ v, valV kvs (Sum.inl n) = some v /\ Pr v u
variable {Pr Pr' : V->α->Prop} {kvs : List (Key × V)} {M : Int->Option α}
theorem DRep.nil : DRep Pr [] (fun _ => none) := ⟨List.nodup_nil, AllI.nil, fun n _ => rfl, fun n u e => by cases e⟩
theorem DRep.mono (h : DRep Pr kvs M) (k : ∀ v u, Pr v u->Pr' v u) : DRep Pr' kvs M := ⟨h.nd, h.alli, h.none_, fun n u e => let ⟨v, h1, h2⟩ := h.some_ n u e; ⟨v, h1, k v u h2⟩⟩
theorem DRep.has (h : DRep Pr kvs M) {n : Int} {v : V} (e : valV kvs (Sum.inl n) = some v) : ∃ u, M n = some u /\ Pr v u := by
  cases eM : M n with
  | none => rw [h.none_ n eM] at e; cases e
  | some u => obtain ⟨v', h1, h2⟩ := h.some_ n u eM; rw [h1] at e; cases e; exact ⟨u, rfl, h2⟩
theorem DRep.put (h : DRep Pr kvs M) {n : Int} {v : V} {u : α} (hv : Pr v u) : DRep Pr (putK kvs (Sum.inl n) v) (aput M n (some u)) := by
  refine ⟨nd_put _ h.nd, h.alli.put n _, fun m e => ?_, fun m u' e => ?_⟩
  · by_cases em : m = n
    · subst em; rw [aput_eq] at e; cases e
    · rw [aput_ne em] at e; rw [valV_put, if_neg (fun z => em (Sum.inl.inj z))]; exact h.none_ m e
  · by_cases em : m = n
    · subst em; rw [aput_eq] at e; cases e; exact ⟨v, by rw [valV_put, if_pos rfl], hv⟩
    · rw [aput_ne em] at e; rw [valV_put, if_neg (fun z => em (Sum.inl.inj z))]; exact h.some_ m u' e
theorem DRep.drop (h : DRep Pr kvs M) (n : Int) : DRep Pr (dropK kvs (Sum.inl n)) (aput M n none) := by
  refine ⟨nd_dropK h.nd, h.alli.drop _, fun m e => ?_, fun m u' e => ?_⟩
  · by_cases em : m = n
    · subst em; rw [valV_drop, if_pos rfl]
    · rw [aput_ne em] at e; rw [valV_drop, if_neg (fun z => em (Sum.inl.inj z))]; exact h.none_ m e
  · by_cases em : m = n
    · subst em; rw [aput_eq] at e; cases e
    · rw [aput_ne em] at e; rw [valV_drop, if_neg (fun z => em (Sum.inl.inj z))]; exact h.some_ m u' e
theorem DRep.at_ (h : DRep Pr kvs M) {i : Nat} {k : Key} {v : V} (e : kvs[i]? = some (k, v)) : ∃ n u, k = Sum.inl n /\ M n = some u /\ Pr v u /\ valV kvs (Sum.inl n) = some v := by
  have hm := List.mem_of_getElem? e
  obtain ⟨n, hn⟩ := h.alli _ hm
  have hv := valV_nd h.nd (k := k) (v := v) hm
  rw [show k = Sum.inl n from hn] at hv
  obtain ⟨u, h1, h2⟩ := h.has hv
  exact ⟨n, u, hn, h1, h2, hv⟩
theorem DRep.keys (h : DRep Pr kvs M) {ns : List Int} (e : kvs.map (·.1) = ns.map Sum.inl) (n : Int) : n ∈ ns ↔ (M n).isSome = true := by
  have : n ∈ ns ↔ (valV kvs (Sum.inl n)).isSome = true := by
    rw [valV_there, e, List.mem_map]
    exact ⟨fun h => ⟨n, h, rfl⟩, fun ⟨y, h, z⟩ => by cases z; exact h⟩
  rw [this]
  cases eM : M n with
  | none => rw [h.none_ n eM]; simp
  | some u => obtain ⟨v, h1, _⟩ := h.some_ n u eM; rw [h1]; rfl
end
structure PDue where
  wh : Bool
  b : Nat
  d : Nat
  rows : List (Nat × Nat)
  bits : Nat
open PySem PySem.Spec PyProof.Rows
structure PcU where
  wh : Bool
  b : Nat
  d : Nat
  rows : List (Nat × Nat)
  c : Int
def PcU.st (u : PcU) : Int := (stN u.wh u.b : Int) - 1
def PcU.good (u : PcU) : Bool := decide (u.c = (ckOf u.wh u.b u.d u.rows : Nat))
def PieceC (CW CG : Addr) (H : Hp) (v : V) (u : PcU) : Prop := ∃ a, v = .ref a /\ PAt CW CG H a u.wh u.b u.d u.rows u.c /\ u.rows.length ≤ 100
section
variable {CW CG : Addr} {H H' : Hp} {F : List Addr} {v : V} {u : PcU}
theorem PieceC.keepF (h : PieceC CW CG H v u) (k : Keep F H H') (hF : NoPart H F) : PieceC CW CG H' v u := let ⟨a, h1, h2, h3⟩ := h; ⟨a, h1, h2.keepF k hF, h3⟩
theorem PieceC.keep (h : PieceC CW CG H v u) (k : Same H H') : PieceC CW CG H' v u := let ⟨a, h1, h2, h3⟩ := h; ⟨a, h1, h2.keep k, h3⟩
end
theorem flat_set : ∀ (rows : List (Nat × Nat)) (i p x : Nat), i < rows.length->∃ pre post : List Nat, (∀ y, flat (rows.set i (p, y)) = pre ++ p :: y :: post) /\ (∀ m ∈ pre, m ∈ flat rows) /\ ∀ m ∈ post, m ∈ flat rows
  | [], i, p, x, h => by simp at h
  | r :: rs, 0, p, x, _ => ⟨[], flat rs, fun y => rfl, fun m h => (by cases h), fun m h => by show m ∈ r.1 :: r.2 :: flat rs; simp [h]⟩
  | r :: rs, i + 1, p, x, h => by
    obtain ⟨pre, post, h1, h2, h3⟩ := flat_set rs i p x (by simpa using h)
    refine ⟨r.1 :: r.2 :: pre, post, fun y => ?_, fun m hm => ?_, fun m hm => ?_⟩
    · show r.1 :: r.2 :: flat (rs.set i (p, y)) = _
      rw [h1]; rfl
    · show m ∈ r.1 :: r.2 :: flat rs
      rcases List.mem_cons.mp hm with h | hm
      · simp [h]
      · rcases List.mem_cons.mp hm with h | hm
        · simp [h]
        · simp [h2 m hm]
    · show m ∈ r.1 :: r.2 :: flat rs
      simp [h3 m hm]
theorem ck_block {wh : Bool} {b d : Nat} {rows : List (Nat × Nat)} {i p x y : Nat} (hi : rows[i]? = some (p, x)) (hb : stN wh b < 2 ^ 64) (hd : d < 2 ^ 64) (hr : ∀ m ∈ flat rows, m < 2 ^ 64) (hy : y < 2 ^ 64) (hne : x ≠ y) : ckOf wh b d (rows.set i (p, y)) ≠ ckOf wh b d rows := by
  obtain ⟨hil, hget⟩ := List.getElem?_eq_some_iff.mp hi
  obtain ⟨pre, post, h1, h2, h3⟩ := flat_set rows i p x hil
  have e0 : rows.set i (p, x) = rows := by rw [← hget]; exact List.set_getElem_self hil
  have hx := h1 x
  rw [e0] at hx
  have hp : p < 2 ^ 64 := hr p (by rw [hx]; simp)
  have hx64 : x < 2 ^ 64 := hr x (by rw [hx]; simp)
  intro h
  unfold ckOf at h
  rw [h1 y, hx] at h
  have := Chk.chk_change (pre := stN wh b :: d :: (pre ++ [p])) (post := post) (x := y) (y := x) hy hx64 (fun m hm => ?_) (fun m hm => hr m (h3 m hm)) (by simpa using h)
  · exact hne this.symm
  · rcases List.mem_cons.mp hm with rfl | hm
    · exact hb
    · rcases List.mem_cons.mp hm with rfl | hm
      · exact hd
      · rcases List.mem_append.mp hm with hm | hm
        · exact hr m (h2 m hm)
        · rw [List.mem_singleton.mp hm]; exact hp
open PySem PySem.Spec PyProof.Rows Builtin Builtin.Str
section
variable {c : Int} (h0 : 0 ≤ c) (h1 : c < 10 ^ 20)
include h0 h1
end
open PySem PySem.Spec PyProof.Rows
def cutH (cs : List Addr) (H : Hp) : Hp := fun b => if b ∈ cs then none else H b
def glue (cs : List Addr) (H H' : Hp) : Hp := fun b => if b ∈ cs then H b else H' b
section
variable {cs : List Addr} {H H' : Hp} {b : Addr} {P : Program} {w : World} {h h' : Heap} {fs ex : List Addr}
theorem cut_in (hb : b ∈ cs) : cutH cs H b = none := if_pos hb
theorem cut_out (hb : b ∉ cs) : cutH cs H b = H b := if_neg hb
theorem glue_in (hb : b ∈ cs) : glue cs H H' b = H b := if_pos hb
theorem glue_out (hb : b ∉ cs) : glue cs H H' b = H' b := if_neg hb
theorem glue_cut : glue cs H (cutH cs H) = H := by
  funext b
  by_cases hb : b ∈ cs
  · rw [glue_in hb]
  · rw [glue_out hb, cut_out hb]
def AllExt (cs : List Addr) (H : Hp) : Prop := ∀ c ∈ cs, ∃ φ, H c = some (.ext φ)
theorem AllExt.out (hc : AllExt cs H) {u : HO} (e : H b = some u) (hu : ∀ φ, u ≠ .ext φ) : b ∉ cs := fun hb => by
  obtain ⟨φ, q⟩ := hc b hb
  rw [q] at e
  exact hu φ (Option.some.inj e).symm
theorem AllExt.none (hc : AllExt cs H) (e : H b = none) : b ∉ cs := fun hb => by
  obtain ⟨φ, q⟩ := hc b hb
  rw [q] at e; cases e
theorem HOk.cut (x : HOk P w H h) (hc : AllExt cs H) : HOk P w (cutH cs H) h := fun a o e => by
  have ha : a ∉ cs := fun z => by rw [cut_in z] at e; cases e
  rw [cut_out ha] at e
  exact (x a o e).stay (fun _ _ _ q => q) (fun b q => by rw [cut_out (hc.out q (by intro φ z; cases z))]; exact q) (fun b xs q => by rw [cut_out (hc.out q (by intro φ z; cases z))]; exact q)
theorem HOk.glue (x : HOk P w H' h') (x0 : HOk P w H h) (hc : AllExt cs H) (hf : ∀ c ∈ cs, H' c = none) (k : ∀ c ∈ cs, ∀ o, h.get? c = some o->h'.get? c = some o) : HOk P w (glue cs H H') h' := fun a o e => by
  by_cases ha : a ∈ cs
  · rw [glue_in ha] at e
    obtain ⟨φ, q⟩ := hc a ha
    rw [q] at e; cases e
    obtain ⟨p, ⟨o, e⟩, st⟩ := x0 a _ q
    exact ⟨st _ _ p (fun o q => k a ha o q), ⟨o, k a ha o e⟩, st⟩
  · rw [glue_out ha] at e
    have out : ∀ {b u}, H' b = some u->b ∉ cs := fun q hb => by rw [hf _ hb] at q; cases q
    exact (x a o e).stay (fun _ _ _ q => q) (fun b q => by rw [glue_out (out q)]; exact q) (fun b xs q => by rw [glue_out (out q)]; exact q)
theorem Un.glue (u : Un fs ex (cutH cs H) H' h h') (hc : AllExt cs H) : Un fs ex H (glue cs H H') h h' where
  keep := fun b o e n hb hx => u.keep b o e (by rw [cut_out (hc.none n)]; exact n) hb hx
  slot := fun b o e n hb hx => u.slot b o e (by rw [cut_out (hc.none n)]; exact n) hb hx
  free := fun b o e n hx => by rw [glue_out (hc.none n)]; exact u.free b o e (by rw [cut_out (hc.none n)]; exact n) hx
  there := u.there
  tups := fun b xs q => by
    have ho := hc.out q (by intro φ z; cases z)
    rw [glue_out ho]; exact u.tups b xs (by rw [cut_out ho]; exact q)
  frzs := fun b o v q => by
    have ho := hc.out q (by intro φ z; cases z)
    rw [glue_out ho]; exact u.frzs b o v (by rw [cut_out ho]; exact q)
  tbls := fun b ps q => by
    have ho := hc.out q (by intro φ z; cases z)
    rw [glue_out ho]; exact u.tbls b ps (by rw [cut_out ho]; exact q)
end
def CellO (c : Addr) (v : V) : HO := .ext fun h => ∃ u, RelV v u /\ h.IsCell c (some u)
def FnO (f : Addr) (fd : FuncData) : HO := .ext fun h => ∃ oc od sl, h.get? f = some ⟨oc, od, .func fd, sl⟩
def CodeO (c : Addr) (qual : Str) : HO := .ext fun h => h.CodeRec (.ref c) qual
section
variable {P : Program} {w : World} {H : Hp} {h : Heap} {c f : Addr} {v : V} {fd : FuncData} {qual : Str}
theorem CellO.mk {u : Value} (r : RelV v u) (e : h.IsCell c (some u)) : ObjOk P w H h c (CellO c v) := by
  obtain ⟨o, e1, e2⟩ := e
  exact ⟨⟨u, r, o, e1, e2⟩, ⟨o, e1⟩, fun h1 h2 ⟨u, r, o, q1, q2⟩ k => ⟨u, r, o, k o q1, q2⟩⟩
theorem FnO.mk {oc : Value} {od : Option Addr} {sl : Array (Option Value)} (e : h.get? f = some ⟨oc, od, .func fd, sl⟩) : ObjOk P w H h f (FnO f fd) :=
  ⟨⟨oc, od, sl, e⟩, ⟨_, e⟩, fun h1 h2 ⟨oc, od, sl, q⟩ k => ⟨oc, od, sl, k _ q⟩⟩
theorem CodeO.mk (e : h.CodeRec (.ref c) qual) : ObjOk P w H h c (CodeO c qual) := by
  obtain ⟨c', o, vs, t, e0, e1, e2⟩ := e
  cases e0
  exact ⟨⟨c, o, vs, t, rfl, e1, e2⟩, ⟨o, e1⟩, fun h1 h2 ⟨c', o, vs, t, e0, q1, q2⟩ k => by cases e0; exact ⟨c, o, vs, t, rfl, k _ q1, q2⟩⟩
end
def CellsAt (H : Hp) (cl : List (Str × Addr)) (fvs : List V) : Prop := cl.length = fvs.length /\ ∀ (i : Nat) x c v, cl[i]? = some (x, c)->fvs[i]? = some v->H c = some (CellO c v)
def cellsOf (cl : List (Str × Addr)) : List Addr := cl.map (·.2)
theorem CellsAt.ext {H : Hp} {cl : List (Str × Addr)} {fvs : List V} (h : CellsAt H cl fvs) : AllExt (cellsOf cl) H := fun c hc => by
  obtain ⟨q, hq, rfl⟩ := List.mem_map.mp hc
  obtain ⟨i, hi⟩ := List.mem_iff_getElem?.mp hq
  have hl := (List.getElem?_eq_some_iff.mp hi).1
  rw [h.1] at hl
  exact ⟨_, h.2 i q.1 q.2 _ hi (List.getElem?_eq_getElem hl)⟩
theorem lookup_nodup {α : Type} : ∀ {l : List (Str × α)} {i : Nat} {x : Str} {c : α}, (l.map (·.1)).Nodup->l[i]? = some (x, c)->l.lookup x = some c
  | [], i, x, c, _, h => by simp at h
  | (y, d) :: r, 0, x, c, _, h => by
    cases h
    rw [List.lookup_cons, beq_self_eq_true]
  | (y, d) :: r, i + 1, x, c, nd, h => by
    rw [List.map_cons, List.nodup_cons] at nd
    have h : r[i]? = some (x, c) := h
    have hx : (x == y) = false := by
      rw [beq_eq_false_iff_ne]
      rintro rfl
      exact nd.1 (List.mem_map.mpr ⟨(x, c), List.mem_of_getElem? h, rfl⟩)
    rw [List.lookup_cons, hx]
    exact lookup_nodup nd.2 h
theorem lookup_at {α : Type} : ∀ {l : List (Str × α)} {x : Str} {c : α}, l.lookup x = some c->∃ i : Nat, l[i]? = some (x, c)
  | [], x, c, h => by cases h
  | (y, d) :: r, x, c, h => by
    rw [List.lookup_cons] at h
    cases hb : x == y with
    | true => rw [hb] at h; cases h; rw [eq_of_beq hb]; exact ⟨0, rfl⟩
    | false => rw [hb] at h; obtain ⟨i, hi⟩ := lookup_at h; exact ⟨i + 1, hi⟩
structure ClScope (x0 : Str) (fr : List Str) (sc : Scope) : Prop where
  kind : sc.kind = .function
  co : sc.isCoroutine = false
  gen : sc.isGenerator = false
  nd : fr.Nodup
  par : sc.names.lookup x0 = some .local
  nocell : ∀ y ∈ sc.names, y.2 ≠ .cell
  isfr : ∀ x ∈ fr, sc.names.lookup x = some .free
  fre : ∀ y ∈ sc.names, y.2 = .free->y.1 ∈ fr
def cxClos (P : Program) (w : World) (K : PySem.W.Frag) (mg : Str->Option Value) (base : Heap) (N : List Str) (qual : Str) (scope : Scope) (f : Addr) (cd : Value) (cl : List (Str × Addr)) (A : Around) (outer : List Env) (s : Shared) (H : Hp) : Cx where
  prog := P
  w := w
  K := K
  mg := mg
  base := base
  A := A.deeper (PySem.W.envX qual scope s.heap.objs.size f cd cl)
  N := N
  s₀ := s
  H₀ := H
  env := PySem.W.envX qual scope s.heap.objs.size f cd cl
  outer := outer
  stack := PySem.W.envX qual scope s.heap.objs.size f cd cl :: outer
  ex := []
  calm := true
  fn := fun _ => false
  pn := []
  xe := fun _ _ => False
section
variable {CX : CXT} {P : Program} {w : World} {K : PySem.W.Frag} {mg : Str->Option Value} {base : Heap} {x0 : Str} {fr : List Str} {name qual : Str} {params : Arguments} {body : List Stmt} {scope : Scope} {f : Addr} {dV kV doc pm cdv ct : Value} {an : Option Addr} {cl : List (Str × Addr)} {A : Around} {outer : List Env} {s : Shared} {H : Hp} {E : XK} {u : Value} {v : V} {fvs : List V}
theorem Env0.cut {cs : List Addr} (e0 : Env0 P w K mg base A outer s H) (hc : AllExt cs H) : Env0 P w K mg base A outer s (cutH cs H) :=
  ⟨e0.frames, e0.mod, fun b o e => ⟨(e0.bs b o e).1, by rw [cut_out (hc.none (e0.bs b o e).2)]; exact (e0.bs b o e).2⟩, e0.bsz, e0.funs, fun b hb => by rw [cut_out (hc.none (e0.frf b hb))]; exact e0.frf b hb, e0.hok.cut hc, e0.bare⟩
theorem inv_clos (S : ClScope x0 fr scope) (hcl : cl.map (·.1) = fr) (hnc : (cl.map (·.2)).Nodup) (hd : A.handled = none) (e0 : Env0 P w K mg base A outer s H) (hC : CellsAt H cl fvs) (r : RelV v u) {h' : Heap}
    (ns : h'.Ns s.heap.objs.size (fun x => [(x0, u)].reverse.lookup x)) (sb : Heap.SameBut s.heap.objs.size (s.heap.push { cls := .type "frame", data := .dict #[] }) h') {tk : Nat} :
    Inv (cxClos P w K mg base (x0 :: fr) qual scope f cdv cl A outer s (cutH (cellsOf cl) H)) [] (some v :: fvs.map some) (cutH (cellsOf cl) H) { s with heap := h', toks := tk } := by
  have hx := hC.ext
  have e1 := e0.cut hx
  have keep : ∀ b o, s.heap.get? b = some o->h'.get? b = some o := fun b o e => by
    rw [sb.2 b (Nat.ne_of_lt (Heap.lt_size e))]
    exact Heap.get?_push_of_some _ e
  have ndn : (cl.map (·.1)).Nodup := by rw [hcl]; exact S.nd
  have inCl : ∀ {x : Str} {c : Addr}, cl.lookup x = some c->c ∈ cellsOf cl := fun e => by
    obtain ⟨i, hi⟩ := lookup_at e
    exact List.mem_map.mpr ⟨_, List.mem_of_getElem? hi, rfl⟩
  have noA : ∀ b : Addr, b ∉ ([] : List Addr) := fun b z => by cases z
  refine ⟨⟨e1.mod, S.kind, rfl, rfl, Nat.le_refl _, fun y z c h1 h2 => ?_, fun y hy => ?_, fun y c h _ => absurd h (by intro z; cases z), fun _ => hd, Around.frames_deeper e1.frames, .inr ⟨rfl, rfl⟩, fun b z => absurd z (noA b), e1.bs, e1.bsz, fun b _ _ => noA b, fun b z => absurd z (noA b), e1.funs, e1.frf⟩,
    rfl, e1.bare, Un.kept keep, ⟨_, ns, fun i y v' h1 h2 h3 => ?_⟩, fun y c h => ?_, e1.hok.fresh (Nat.le_refl _), fun y c h => cut_in (inCl h), fun p hp => absurd (show p ∈ ([] : List (Addr × Obj)) from hp) (by simp), e1.hok.kept keep, ?_⟩
  · have h1 : cl.lookup y = some c := h1
    have h2 : cl.lookup z = some c := h2
    obtain ⟨i, hi⟩ := lookup_at h1
    obtain ⟨j, hj⟩ := lookup_at h2
    have e1 : (cl.map (·.2))[i]? = some c := by rw [List.getElem?_map, hi]; rfl
    have e2 : (cl.map (·.2))[j]? = some c := by rw [List.getElem?_map, hj]; rfl
    have : i = j := (List.getElem?_inj (List.getElem?_eq_some_iff.mp e1).1 hnc).mp (e1.trans e2.symm)
    subst this
    rw [hi] at hj
    cases hj; rfl
  · have hy : scope.names.lookup y = some .cell ∨ scope.names.lookup y = some .free := hy
    have hm : y ∈ fr := by
      rcases hy with hy | hy
      · exact absurd rfl (S.nocell _ (PySem.mem_of_lookup hy))
      · exact S.fre _ (PySem.mem_of_lookup hy) rfl
    rw [← hcl] at hm
    obtain ⟨q, hq, rfl⟩ := List.mem_map.mp hm
    obtain ⟨i, hi⟩ := List.mem_iff_getElem?.mp hq
    exact ⟨q.2, lookup_nodup (i := i) ndn hi⟩
  · cases i with
    | zero =>
      have h1 : some x0 = some y := h1
      have h2 : some (some v) = some (some v') := h2
      cases h1; cases h2
      exact ⟨u, r, .inl ⟨S.par, by simp [List.lookup]⟩⟩
    | succ j =>
      have h1 : fr[j]? = some y := h1
      have h2 : (fvs.map some)[j]? = some (some v') := h2
      rw [List.getElem?_map] at h2
      obtain ⟨v2, h4, h5⟩ := Option.map_eq_some_iff.mp h2
      cases h5
      rw [← hcl, List.getElem?_map] at h1
      obtain ⟨q, h6, rfl⟩ := Option.map_eq_some_iff.mp h1
      have hc := hC.2 j q.1 q.2 v' h6 h4
      obtain ⟨⟨u', r', o, q1, q2⟩, _⟩ := e0.hok _ _ hc
      refine ⟨u', r', .inr ⟨.inr (S.isfr _ (by rw [← hcl]; exact List.mem_map.mpr ⟨q, List.mem_of_getElem? h6, rfl⟩)), q.2, lookup_nodup ndn h6, o, keep _ _ q1, q2⟩⟩
  · obtain ⟨i, hi⟩ := lookup_at (show cl.lookup y = some c from h)
    have hl := (List.getElem?_eq_some_iff.mp hi).1
    rw [hC.1] at hl
    have hc := hC.2 i y c _ hi (List.getElem?_eq_getElem hl)
    obtain ⟨⟨u', r', o, q1, q2⟩, _⟩ := e0.hok _ _ hc
    exact ⟨_, o, keep _ _ q1, q2⟩
  · show (some v :: fvs.map some).length = (x0 :: fr).length
    rw [List.length_cons, List.length_cons, List.length_map, ← hC.1, ← hcl, List.length_map]
structure ClosF (P : Program) (w : World) (K : PySem.W.Frag) (mg : Str->Option Value) (base : Heap) (CX : CXT) (k : Nat) (f : Addr) (sp : Sp) : Prop where
  one : ∀ vs H Q E, sp vs H Q E->(∃ v, vs = [v]) /\ ∃ fd, H f = some (FnO f fd)
  run : ∀ (A : Around) (outer : List Env) (s : Shared) (H : Hp) (us : List Value) (vs : List V) (Q : VK) (E : XK), Room k A->Env0 P w K mg base A outer s H->Vals vs us->sp vs H Q E →
    codeAny (model P w) A (.call (.ref f) ⟨us, []⟩) (CR CX outer P w H s Q E) s
theorem clos_of {k : Nat} {sp : Sp} (S : ClScope x0 fr scope) (hb : ∀ (cl : List (Str × Addr)) (doc pm cdv ct : Value) (s : Shared) (u : Value), BindsTo s (PySem.W.fnX name qual params body scope cl .none .none doc pm none cdv ct) ⟨[u], []⟩ [(x0, u)])
    (hsp : ∀ vs H Q E, sp vs H Q E->∃ (v : V) (cl : List (Str × Addr)) (doc pm : Value) (c' : Addr) (ctv : Value) (fvs : List V), vs = [v] /\ H f = some (FnO f (PySem.W.fnX name qual params body scope cl .none .none doc pm none (.ref c') ctv)) /\ cl.map (·.1) = fr /\ (cl.map (·.2)).Nodup /\ CellsAt H cl fvs /\ H c' = some (CodeO c' qual) ∧
      ∀ (A : Around) (outer : List Env) (s : Shared), Room k (A.deeper (PySem.W.envX qual scope s.heap.objs.size f (.ref c') cl))->∃ t, PSs (cxClos P w K mg base (x0 :: fr) qual scope f (.ref c') cl A outer s (cutH (cellsOf cl) H)) body t ∧
        t { nx := fun _ H' => Q .non (glue (cellsOf cl) H H'), rt := fun v H' => Q v (glue (cellsOf cl) H H') } (some v :: fvs.map some) (cutH (cellsOf cl) H)) :
    ClosF P w K mg base CX (k + 1) f sp := by
  refine ⟨fun vs H Q E h => ?_, fun A outer s H us vs Q E hr e0 r h => ?_⟩
  · obtain ⟨v, cl, doc, pm, c', ctv, fvs, rfl, hf, _⟩ := hsp _ _ _ _ h
    exact ⟨⟨v, rfl⟩, _, hf⟩
  · obtain ⟨v, cl, doc, pm, c', ctv, fvs, rfl, hf, hcl, hnc, hC, hc', hbody⟩ := hsp _ _ _ _ h
    obtain ⟨u, rfl, ru⟩ := vals1 r
    obtain ⟨⟨oc, od, sl, ho⟩, _⟩ := e0.hok _ _ hf
    obtain ⟨hcd, _⟩ := e0.hok _ _ hc'
    have lim : s.heap.NoLimit := e0.mod.nolimit.keeps fun b o e => (e0.bs b o e).1
    have hloc : ∀ x ∈ [(x0, u)], scope.names.lookup x.1 = some .local := fun x hx => by rw [List.mem_singleton.mp hx]; exact S.par
    refine codeAny_call_function hr.depth ho rfl S.co S.gen rfl hcd (hb cl doc pm (.ref c') ctv s u _ _ _ _ ?_)
    refine wpAny_newFunctionEnv S.nocell hloc (fun h' ns sb => ?_) S.kind
    have keep : ∀ b o, s.heap.get? b = some o->h'.get? b = some o := fun b o e => by
      rw [sb.2 b (Nat.ne_of_lt (Heap.lt_size e))]
      exact Heap.get?_push_of_some _ e
    refine ⟨lim.keeps keep, codeAny_func ?_⟩
    obtain ⟨t, ht, hq⟩ := hbody A outer s (hr.deeper _)
    have I := inv_clos (P := P) (w := w) (K := K) (mg := mg) (base := base) (qual := qual) (f := f) (cdv := .ref c') (tk := s.toks + [(x0, u)].length) S hcl hnc hr.hd e0 hC ru ns sb
    refine wpAny_mono (ht [] _ _ _ _ I hq) (fun fl s' hs => ?_) fun e s' hs => hs.elim
    have hx := hC.ext
    have fin : ∀ {σ' : St} {H' : Hp} {v : V} {u : Value}, Inv (cxClos P w K mg base (x0 :: fr) qual scope f (.ref c') cl A outer s (cutH (cellsOf cl) H)) [] σ' H' s'->RelV v u->Q v (glue (cellsOf cl) H H')->CE outer P w H s Q u s' :=
      fun {σ' H' v u} J rv q => by
        refine ⟨v, _, J.os, J.bare, J.base.glue hx, J.hok.glue e0.hok hx (fun c hc => ?_) (fun c hc o e => ?_), rv, q⟩
        · obtain ⟨φ, hφ⟩ := hx c hc
          obtain ⟨_, ⟨o, e⟩, _⟩ := e0.hok _ _ hφ
          exact J.base.free c o e (cut_in hc) (by intro z; cases z)
        · obtain ⟨φ, hφ⟩ := hx c hc
          exact J.base.keep c o e (cut_in hc) (fun hb => by have := e0.frf c hb; rw [hφ] at this; cases this) (by intro z; cases z)
    cases fl with
    | ret u =>
      obtain ⟨v, σ', H', J, rv, q⟩ := hs
      exact fin J rv q
    | next =>
      obtain ⟨σ', H', J, q⟩ := hs
      exact fin (v := V.non) (u := Value.none) J rfl q
    | brk =>
      obtain ⟨_, _, _, q⟩ := hs
      exact False.elim q
    | cont =>
      obtain ⟨_, _, _, q⟩ := hs
      exact False.elim q
end
def tCallV (i : Nat) (sp : Addr->Sp) (t : TA) : TE := fun σ H Q => ∃ f fd, σ[i]? = some (some (.ref f)) /\ H f = some (FnO f fd) /\ t σ H fun vs H1 => sp f vs H1 Q E0
section
variable {X : Cx} {k i : Nat} {x : Str} {p pos : Pos} {e : Expr} {t : TA} {sp : Addr->Sp}
theorem pe_callV (C : ∀ f, ClosF X.prog X.w X.K X.mg X.base (CXx X.prog X.w) k f (sp f)) (hr : Room k X.A) (hN : X.N[i]? = some x) (hv : Vis X.env.scope x) (ha : PA X [e] t)
    (hd : (x == ("__debug__" : Str)) = false := by decide) (hcd : (x == ("__classdict__" : Str)) = false := by decide)
    (he : starEach [e] X.env = (false, eval e X.env) :: starEach [] X.env := by rfl) : PE X (.Call (.Name x p) [e] [] pos) (tCallV i sp t) := by
  intro pins s σ H Q I h
  obtain ⟨f, fd, hf, hF, h⟩ := h
  refine wpAny_Call_Name_kw (thn ((pe_var hN hv hd hcd : PE X (.Name x p) _) pins s σ H (fun v H1 => v = .ref f /\ H1 = H) I ⟨_, hf, rfl, rfl⟩) fun u s1 ⟨v, H1, I1, r, e1, e2⟩ => ?_)
  subst e1; subst e2
  cases (show u = Value.ref f from r)
  have fnat : ∀ {H : Hp} {s : Shared} {fd : FuncData}, Inv X pins σ H s->H f = some (FnO f fd)->PySem.W.FnAt f s.heap := fun I e => by
    obtain ⟨⟨oc, od, sl, q⟩, _⟩ := I.hok _ _ e
    exact ⟨oc, od, _, sl, q⟩
  refine PySem.W.callWith_F (fnat I1 hF) (thn (ha pos pins s1 σ _ _ I1 h) fun us s2 ⟨vs, H2, I2, r2, q2⟩ => ?_) he
  obtain ⟨_, fd2, hF2⟩ := (C f).one _ _ _ _ q2
  refine ⟨fnat I2 hF2, ?_⟩
  refine wpAny_call (codeAny_mono ((C f).run X.A X.stack s2 H2 us vs Q E0 hr I2.env0 r2 q2) fun r s' hq => ?_)
  cases r with
  | error e =>
    obtain ⟨_, _, _, _, _, _, _, _, _, _, _, _, _, _, h⟩ := hq
    exact h.elim
  | ok fl =>
    cases fl with
    | ret u => exact I2.after hq
    | next => exact False.elim hq
    | brk => exact False.elim hq
    | cont => exact False.elim hq
end
open PySem PySem.Spec PyProof.Rows
section
variable {P : Program} {w : World} {H H' : Hp} {h h' : Heap} {a T : Addr} {fs ex : List Addr} {φ : Heap->Prop} {ps qs : Array Value}
theorem HOk.ext (x : HOk P w H h) (hn : H a = none) (ob : ObjOk P w (upd H a (.ext φ)) h a (.ext φ)) : HOk P w (upd H a (.ext φ)) h := fun b u e => by
  by_cases hb : b = a
  · subst hb
    rw [upd_same] at e; cases e
    exact ob
  · rw [upd_ne hb] at e
    exact (x b u e).stay (fun _ _ _ q => q) (fun c q => by rw [upd_ne (ne_of_none q hn)]; exact q) (fun c xs q => by rw [upd_ne (ne_of_none q hn)]; exact q)
theorem Un.ext (u : Un fs ex H H' h h') (ok : HOk P w H h) (hn : h.objs.size ≤ a) {o : HO} : Un fs ex H (upd H' a o) h h' where
  keep := u.keep
  slot := u.slot
  free := fun b ob e n hx => by rw [upd_ne (show b ≠ a from Nat.ne_of_lt (Nat.lt_of_lt_of_le (Heap.lt_size e) hn))]; exact u.free b ob e n hx
  there := u.there
  tups := fun b xs q => by rw [upd_ne (show b ≠ a from Nat.ne_of_lt (Nat.lt_of_lt_of_le (ok.lt q) hn))]; exact u.tups b xs q
  frzs := fun b o v q => by rw [upd_ne (show b ≠ a from Nat.ne_of_lt (Nat.lt_of_lt_of_le (ok.lt q) hn))]; exact u.frzs b o v q
  tbls := fun b ps q => by rw [upd_ne (show b ≠ a from Nat.ne_of_lt (Nat.lt_of_lt_of_le (ok.lt q) hn))]; exact u.tbls b ps q
theorem HOk.tab (x : HOk P w H h) (hT : H T = some (.tbl ps)) (k : ∀ b u, b ≠ T->h.get? b = some u->h'.get? b = some u) (hq : h'.get? T = some (PySem.W.tabObj (ps ++ qs))) : HOk P w (upd H T (.tbl (ps ++ qs))) h' := fun b u e => by
  by_cases hb : b = T
  · subst hb
    rw [upd_same] at e; cases e
    exact hq
  · rw [upd_ne hb] at e
    exact (x b u e).stay (fun c o hc q => k c o (by
      rcases hc with rfl | hc
      · exact hb
      · exact ne_of hc hT (by intro z; cases z)) q) (fun c q => by rw [upd_ne (ne_of q hT (by intro z; cases z))]; exact q) (fun c xs q => by rw [upd_ne (ne_of q hT (by intro z; cases z))]; exact q)
theorem Un.tab (hT : H T = some (.tbl ps)) (k : ∀ b u, b ≠ T->h.get? b = some u->h'.get? b = some u) (hq : h'.get? T = some (PySem.W.tabObj (ps ++ qs))) : Un fs ex H (upd H T (.tbl (ps ++ qs))) h h' where
  keep := fun b o e n _ _ => k b o (fun z => by rw [z, hT] at n; cases n) e
  slot := fun b o e n _ _ => ⟨o.slots, k b o (fun z => by rw [z, hT] at n; cases n) e⟩
  free := fun b o e n _ => by rw [upd_ne (fun z => by rw [z, hT] at n; cases n)]; exact n
  there := fun b o e _ => by
    by_cases hb : b = T
    · exact ⟨_, by rw [hb]; exact hq⟩
    · exact ⟨o, k b o hb e⟩
  tups := fun b xs q => by rw [upd_ne (ne_of q hT (by intro z; cases z))]; exact q
  frzs := fun b o v q => by rw [upd_ne (ne_of q hT (by intro z; cases z))]; exact q
  tbls := fun b rs q => by
    by_cases hb : b = T
    · subst hb
      rw [hT] at q; cases q
      exact ⟨qs, upd_same⟩
    · exact ⟨#[], by rw [upd_ne hb, q]; simp⟩
end
def TabSt (T : Addr) (pos : Pos) (qual : Str) (H : Hp) : Prop := H T = some (.tbl #[]) ∨ ∃ c', H T = some (.tbl #[rawInt pos.line, rawInt pos.col, .ref c']) /\ H c' = some (CodeO c' qual)
def MadeAt (name qual : Str) (params : Arguments) (body : List Stmt) (scope : Scope) (fr : List Str) (H : Hp) (f : Addr) (fvs : List V) : Prop := ∃ (cl : List (Str × Addr)) (doc pm : Value) (c' : Addr) (ctv : Value), H f = some (FnO f (PySem.W.fnX name qual params body scope cl .none .none doc pm none (.ref c') ctv)) /\ cl.map (·.1) = fr /\ (cl.map (·.2)).Nodup /\ CellsAt H cl fvs /\ H c' = some (CodeO c' qual)
theorem MadeAt.same {name qual : Str} {params : Arguments} {body : List Stmt} {scope : Scope} {fr : List Str} {H H' : Hp} {f : Addr} {fvs : List V} (h : MadeAt name qual params body scope fr H f fvs) (k : ∀ b φ, H b = some (.ext φ)->H' b = some (.ext φ)) : MadeAt name qual params body scope fr H' f fvs :=
  let ⟨cl, doc, pm, c', ctv, h1, h2, h3, h4, h5⟩ := h
  ⟨cl, doc, pm, c', ctv, k _ _ h1, h2, h3, ⟨h4.1, fun i x c v e1 e2 => k _ _ (h4.2 i x c v e1 e2)⟩, k _ _ h5⟩
def sp_maker (T : Addr) (pos : Pos) (name qual : Str) (params : Arguments) (body : List Stmt) (scope : Scope) (fr : List Str) : Sp := fun vs H Q _ => ∃ v1 v2 : V, vs = [v1, v2] /\ TabSt T pos qual H /\ ∀ f H', MadeAt name qual params body scope fr H' f [v1, v2]->H f = none->TabSt T pos qual H'->Keep [T] H H'->Q (.ref f) H'
theorem HOk.keptBut {P : Program} {w : World} {H : Hp} {h h' : Heap} {L : Addr} (x : HOk P w H h) (hL : H L = none) (k : ∀ b u, b ≠ L->h.get? b = some u->h'.get? b = some u) : HOk P w H h' := fun a o e =>
  (x a o e).stay (fun b u hb q => k b u (by
    rcases hb with rfl | hb
    · exact ne_of_none e hL
    · exact ne_of_none hb hL) q) (fun _ q => q) fun _ _ q => q
theorem Un.then {fs ex : List Addr} {H H' : Hp} {h hA hB : Heap} (u : Un fs ex H H' h hA) (k : ∀ b o, b < h.objs.size->hA.get? b = some o->hB.get? b = some o) : Un fs ex H H' h hB where
  keep := fun b o e n hb hx => k b o (Heap.lt_size e) (u.keep b o e n hb hx)
  slot := fun b o e n hb hx => let ⟨sl, q⟩ := u.slot b o e n hb hx; ⟨sl, k b _ (Heap.lt_size e) q⟩
  free := u.free
  there := fun b o e hx => let ⟨o', q⟩ := u.there b o e hx; ⟨o', k b o' (Heap.lt_size e) q⟩
  tups := u.tups
  frzs := u.frzs
  tbls := u.tbls
abbrev nSeek : Str := Str.ofString "seek"
abbrev nEach : Str := Str.ofString "each"
abbrev nCost : Str := Str.ofString "cost"
section
variable {CX : CXT} {P : Program} {w : World} {K : PySem.W.Frag} {mg : Str->Option Value} {base : Heap} {k : Nat} {f c T : Addr} {mparams cparams : Arguments} {cbody : List Stmt} {mscope cscope : Scope} {dV kV doc pm ct oc : Value} {an od : Option Addr} {osl : Array (Option Value)} {cpos np rp : Pos} {cqual : Str}
theorem maker_of (lk : K.lookup f = some ⟨oc, od, .func (PySem.W.fnOf "rate" "rate" mparams [.FunctionDef "cost" cparams cbody [] none [] cscope none "cost" cpos, .Return (some (.Name "cost" np)) rp] mscope dV kV doc pm an (.ref c) ct), osl⟩) (hcd : PySem.W.codeIn K (.ref c) "rate" = true)
    (mk : mscope.kind = .function) (mco : mscope.isCoroutine = false) (mge : mscope.isGenerator = false) (mn : mscope.names = [(nSeek, NameKind.cell), (nEach, NameKind.cell), (nCost, NameKind.local)])
    (cn : cscope.names = [(Str.ofString "piece", NameKind.local), (nEach, NameKind.free), (nSeek, NameKind.free)]) (hd0 : cparams.defaults = []) (hk0 : cparams.kw_defaults = []) (ha : ∀ env, annTrees cparams none env = [])
    (hqn : ∀ L, qualnameIn (envOfC "rate" mscope L f (.ref c)) "cost" "cost" = cqual) (Cd : PySem.W.CodeHd base c T) (hB : base.BuiltinsAt mg T) (hTG : mainGlobals ≠ T) :
    FnOk P w K mg base CX (k + 1) f (PySem.W.fnOf "rate" "rate" mparams [.FunctionDef "cost" cparams cbody [] none [] cscope none "cost" cpos, .Return (some (.Name "cost" np)) rp] mscope dV kV doc pm an (.ref c) ct) ["seek", "each"] (sp_maker T cpos "cost" cqual cparams cbody cscope ["seek", "each"]) := by
  refine ⟨fun vs H Q E ⟨v1, v2, e, _⟩ => by rw [e]; rfl, fun A outer s H args us vs Q E hr e0 hb r hsp => ?_⟩
  obtain ⟨v1, v2, rfl, hT, q⟩ := hsp
  obtain ⟨u1, u2, rfl, r1, r2⟩ := vals2 r
  have KX : K.In s.heap := e0.mod.kin.keeps fun b o e => (e0.bs b o e).1
  have lim : s.heap.NoLimit := e0.mod.nolimit.keeps fun b o e => (e0.bs b o e).1
  have cf : ∀ n, cellsFrom n mscope.names [] = [(nEach, n + 1), (nSeek, n)] := fun n => by rw [mn]; rfl
  have hkind : ∀ y ∈ (["seek", "each"] : List Str).zip [u1, u2], mscope.names.lookup y.1 = some .local ∨ (mscope.names.lookup y.1 = some .cell /\ ((cellsFrom (s.heap.objs.size + 1) mscope.names []).lookup y.1).isSome = true) := fun y hy => by
    rw [cf, mn]
    simp only [List.zip_cons_cons, List.zip_nil_right, List.mem_cons, List.not_mem_nil, or_false] at hy
    rcases hy with rfl | rfl
    · exact .inr ⟨rfl, rfl⟩
    · exact .inr ⟨rfl, rfl⟩
  refine codeAny_call_function hr.depth (KX _ _ lk) rfl mco mge rfl (PySem.W.codeRec_of KX hcd) (hb _ _ _ _ ?_)
  refine wpAny_newFunctionEnv_cells mk hkind fun env he s1 x => ?_
  subst he
  refine ⟨lim.keeps x.toInCall.keep, codeAny_func ?_⟩
  obtain ⟨h1, tk, rfl, hk⟩ := x.done
  refine wpAny_execs_cons (PySem.W.nestDef_K hd0 hk0 (ha _) ?_)
  rw [show qualnameIn (newEnv mscope s.heap.objs.size mainGlobals (cellsFrom (s.heap.objs.size + 1) mscope.names []) (Str.ofString "rate" ++ ".<locals>.") (some f) (.ref c) none builtinsNs) "cost" "cost" = cqual from hqn s.heap.objs.size]
  have kS : mscope.names.lookup nSeek = some .cell := by rw [mn]; rfl
  have kE : mscope.names.lookup nEach = some .cell := by rw [mn]; rfl
  have kC : mscope.names.lookup nCost = some .local := by rw [mn]; rfl
  have cSeek : h1.IsCell (s.heap.objs.size + 1) (some u1) := by
    have := x.cell nSeek (s.heap.objs.size + 1) (by show (cellsFrom (s.heap.objs.size + 1) mscope.names []).lookup _ = _; rw [cf]; rfl)
    rw [bindC_get (P := [nSeek, nEach]) (vs := [u1, u2]) (i := 0) (by decide +kernel) rfl rfl (by show mscope.names.lookup nSeek ≠ _; rw [kS]; decide)] at this
    exact this
  have cEach : h1.IsCell (s.heap.objs.size + 2) (some u2) := by
    have := x.cell nEach (s.heap.objs.size + 2) (by show (cellsFrom (s.heap.objs.size + 1) mscope.names []).lookup _ = _; rw [cf]; rfl)
    rw [bindC_get (P := [nSeek, nEach]) (vs := [u1, u2]) (i := 1) (by decide +kernel) rfl rfl (by show mscope.names.lookup nEach ≠ _; rw [kE]; decide)] at this
    exact this
  have ns1 := x.toInCall.ns
  have bk : ∀ b o, base.get? b = some o->h1.get? b = some o := fun b o e => hk b o (e0.bs b o e).1
  have hTs : T < s.heap.objs.size := by rcases hT with h | ⟨_, h, _⟩ <;> exact e0.hok.lt h
  have hcell2 : s.heap.objs.size + 2 < h1.objs.size := by obtain ⟨o, e, _⟩ := cEach; exact Heap.lt_size e
  have hcl : closureFor cscope (newEnv mscope s.heap.objs.size mainGlobals (cellsFrom (s.heap.objs.size + 1) mscope.names []) (Str.ofString "rate" ++ ".<locals>.") (some f) (.ref c) none builtinsNs) = pure [(nSeek, s.heap.objs.size + 1), (nEach, s.heap.objs.size + 2)] := by
    rw [cf]
    unfold closureFor
    rw [cn]
    rfl
  have tail : ∀ (H2 : Hp) (c' : Addr) (ctv doc' : Value) (h2 : Heap) (tk2 : Nat), (∀ b o, b ≠ T->h1.get? b = some o->h2.get? b = some o)->h1.objs.size ≤ h2.objs.size->c' < h2.objs.size->HOk P w H2 h2->Un (frs outer) [] H H2 s.heap h2->H2 c' = some (CodeO c' cqual)->TabSt T cpos cqual H2->(∀ b o, H b = some o->b ≠ T->H2 b = some o)->(∀ b, s.heap.objs.size ≤ b->b < s.heap.objs.size + 3->H2 b = none) →
      wpAny (model P w) (A.deeper (newEnv mscope s.heap.objs.size mainGlobals (cellsFrom (s.heap.objs.size + 1) mscope.names []) (Str.ofString "rate" ++ ".<locals>.") (some f) (.ref c) none builtinsNs)) (storeName (newEnv mscope s.heap.objs.size mainGlobals (cellsFrom (s.heap.objs.size + 1) mscope.names []) (Str.ofString "rate" ++ ".<locals>.") (some f) (.ref c) none builtinsNs) "cost" (.ref h2.objs.size))
        (fun _ s' => wpAny (model P w) (A.deeper (newEnv mscope s.heap.objs.size mainGlobals (cellsFrom (s.heap.objs.size + 1) mscope.names []) (Str.ofString "rate" ++ ".<locals>.") (some f) (.ref c) none builtinsNs)) (execs [.Return (some (.Name "cost" np)) rp] (newEnv mscope s.heap.objs.size mainGlobals (cellsFrom (s.heap.objs.size + 1) mscope.names []) (Str.ofString "rate" ++ ".<locals>.") (some f) (.ref c) none builtinsNs)) (fun fl s' => ∃ u, fl = .ret u /\ CE outer P w H s Q u s') (fun e s' => False) s') (fun e s' => False)
        { s with heap := h2.push (PySem.W.fnMade "cost" cqual cparams cbody cscope [(nSeek, s.heap.objs.size + 1), (nEach, s.heap.objs.size + 2)] doc' ((mg "__name__").getD .none) c' ctv), toks := tk2 } := by
    intro H2 c' ctv doc' h2 tk2 kk hsz hc2 ok2 un2 hco tst kT fr3
    have hLT : s.heap.objs.size ≠ T := (Nat.ne_of_lt hTs).symm
    have ns2 : (h2.push (PySem.W.fnMade "cost" cqual cparams cbody cscope [(nSeek, s.heap.objs.size + 1), (nEach, s.heap.objs.size + 2)] doc' ((mg "__name__").getD .none) c' ctv)).Ns s.heap.objs.size (bindL (newEnv mscope s.heap.objs.size mainGlobals (cellsFrom (s.heap.objs.size + 1) mscope.names []) (Str.ofString "rate" ++ ".<locals>.") (some f) (.ref c) none builtinsNs).kindOf ((["seek", "each"] : List Str).zip [u1, u2]) fun _ => none) := by
      obtain ⟨o, es, ep, e, d, rest⟩ := ns1
      exact ⟨o, es, ep, Heap.get?_push_of_some _ (kk _ o hLT e), d, rest⟩
    refine wpAny_storeName_local kC ns2 (fun h3 ns3 sb3 => ?_) (by show (mscope.kind == .class || (mscope.kind == .module && _)) = false; rw [mk]; rfl)
    refine wpAny_execs_cons (wpAny_Return_some (wpAny_Name (wpAny_loadName_local mk kC ns3 (if_pos rfl) ?_) (by decide)))
    have keep3 : ∀ b o, b ≠ s.heap.objs.size->h2.get? b = some o->h3.get? b = some o := fun b o hb e => by
      rw [sb3.2 b hb]; exact Heap.get?_push_of_some _ e
    have hfa : s.heap.objs.size ≤ h2.objs.size := by omega
    have obf : h3.get? h2.objs.size = some (PySem.W.fnMade "cost" cqual cparams cbody cscope [(nSeek, s.heap.objs.size + 1), (nEach, s.heap.objs.size + 2)] doc' ((mg "__name__").getD .none) c' ctv) := by
      rw [sb3.2 _ (by show h2.objs.size ≠ s.heap.objs.size; omega)]
      exact Heap.get?_push_size _ rfl
    have o3 : HOk P w H2 h3 := ok2.keptBut (fr3 _ (Nat.le_refl _) (by omega)) keep3
    have un3 : Un (frs outer) [] H H2 s.heap h3 := un2.then fun b o hb e => keep3 b o (Nat.ne_of_lt hb) e
    have cell3 : ∀ {a : Addr} {u : Value}, h1.IsCell a (some u)->a ≠ T->a ≠ s.heap.objs.size->h3.IsCell a (some u) := fun ⟨o, e, d⟩ h1 h2 => ⟨o, keep3 _ _ h2 (kk _ _ h1 e), d⟩
    have o4 := o3.ext (a := s.heap.objs.size + 1) (φ := fun h => ∃ u, RelV v1 u /\ h.IsCell (s.heap.objs.size + 1) (some u)) (fr3 _ (by omega) (by omega)) (CellO.mk r1 (cell3 cSeek (Nat.ne_of_gt (Nat.lt_succ_of_lt hTs)) (Nat.ne_of_gt (Nat.lt_succ_self _))))
    have un4 := un3.ext (a := s.heap.objs.size + 1) (o := CellO (s.heap.objs.size + 1) v1) e0.hok (by omega)
    have o5 := o4.ext (a := s.heap.objs.size + 2) (φ := fun h => ∃ u, RelV v2 u /\ h.IsCell (s.heap.objs.size + 2) (some u)) (by rw [upd_ne (Nat.ne_of_gt (Nat.lt_succ_self _))]; exact fr3 _ (by omega) (by omega)) (CellO.mk r2 (cell3 cEach (Nat.ne_of_gt (Nat.lt_succ_of_lt (Nat.lt_succ_of_lt hTs))) (Nat.ne_of_gt (Nat.lt_succ_of_lt (Nat.lt_succ_self _)))))
    have un5 := un4.ext (a := s.heap.objs.size + 2) (o := CellO (s.heap.objs.size + 2) v2) e0.hok (by omega)
    have hn2 : H2 h2.objs.size = none := ok2.fresh (Nat.le_refl _)
    have o6 := o5.ext (a := h2.objs.size) (φ := fun h => ∃ oc od sl, h.get? h2.objs.size = some ⟨oc, od, .func (PySem.W.fnX "cost" cqual cparams cbody cscope [(nSeek, s.heap.objs.size + 1), (nEach, s.heap.objs.size + 2)] .none .none doc' ((mg "__name__").getD .none) none (.ref c') ctv), sl⟩) (by rw [upd_ne (Nat.ne_of_gt (show s.heap.objs.size + 2 < h2.objs.size by omega)), upd_ne (Nat.ne_of_gt (show s.heap.objs.size + 1 < h2.objs.size by omega))]; exact hn2) (FnO.mk obf)
    have un6 := un5.ext (a := h2.objs.size) (o := FnO h2.objs.size (PySem.W.fnX "cost" cqual cparams cbody cscope [(nSeek, s.heap.objs.size + 1), (nEach, s.heap.objs.size + 2)] .none .none doc' ((mg "__name__").getD .none) none (.ref c') ctv)) e0.hok hfa
    have up : ∀ b o, H2 b = some o->upd (upd (upd H2 (s.heap.objs.size + 1) (CellO (s.heap.objs.size + 1) v1)) (s.heap.objs.size + 2) (CellO (s.heap.objs.size + 2) v2)) h2.objs.size (FnO h2.objs.size (PySem.W.fnX "cost" cqual cparams cbody cscope [(nSeek, s.heap.objs.size + 1), (nEach, s.heap.objs.size + 2)] .none .none doc' ((mg "__name__").getD .none) none (.ref c') ctv)) b = some o := fun b o e => by
      have n1 := ne_of_none e (fr3 (s.heap.objs.size + 1) (by omega) (by omega))
      have n2 := ne_of_none e (fr3 (s.heap.objs.size + 2) (by omega) (by omega))
      rw [upd_ne (ne_of_none e hn2), upd_ne n2, upd_ne n1]; exact e
    refine ⟨_, rfl, .ref h2.objs.size, _, rfl, e0.bare, un6, o6, rfl, q _ _ ⟨[(nSeek, s.heap.objs.size + 1), (nEach, s.heap.objs.size + 2)], doc', _, c', ctv, upd_same, rfl, by simp, ⟨rfl, fun i y a v h1 h2' => ?_⟩, up _ _ hco⟩ (e0.hok.fresh hfa) ?_ (fun b o e hb => up b o (kT b o e (by simpa using hb)))⟩
    · cases i with
      | zero => cases h1; cases h2'; rw [upd_ne (Nat.ne_of_lt (show s.heap.objs.size + 1 < h2.objs.size by omega)), upd_ne (Nat.ne_of_lt (Nat.lt_succ_self _))]; exact upd_same
      | succ i =>
        cases i with
        | zero => cases h1; cases h2'; rw [upd_ne (Nat.ne_of_lt (show s.heap.objs.size + 2 < h2.objs.size by omega))]; exact upd_same
        | succ i => cases h1
    · rcases tst with h | ⟨d, h1, h2⟩
      · exact .inl (up _ _ h)
      · exact .inr ⟨d, up _ _ h1, up _ _ h2⟩
  have hb1 : h1.BuiltinsAt mg T := by
    obtain ⟨bm, o, e1, e2, e3, e4, e5, rest⟩ := hB
    exact ⟨bm, o, e1, e2, e3, e4, bk _ _ e5, rest⟩
  have hg1 : h1.Ns mainGlobals mg := e0.mod.glob.keeps bk
  have C1 : PySem.W.CodeHd h1 c T := Cd.keeps bk
  have keepT : ∀ {h2 : Heap}, Heap.ExtBut T h1 h2->∀ b o, b ≠ T->h1.get? b = some o->h2.get? b = some o := fun hx b o hb e => hx b o hb e
  have fresh3 : ∀ b, s.heap.objs.size ≤ b->H b = none := fun b hb => e0.hok.fresh hb
  rcases hT with hT | ⟨d, hT, hd⟩
  · refine wpAny_mono (PySem.W.makeFunction_K (c := c) (P := T) (ps := #[]) (clos := [(nSeek, s.heap.objs.size + 1), (nEach, s.heap.objs.size + 2)]) (mg := mg) hcl rfl hg1 rfl C1 (hk _ _ (e0.hok _ _ hT)) trivial rfl hTG hb1 fun c' ctv doc' h2 tk2 hx hge hlt hrec htab => ?_) (fun v s' h => h) (fun e s' h => h)
    have hge : h1.objs.size ≤ c' := hge
    have hc'T : c' ≠ T := Nat.ne_of_gt (Nat.lt_of_lt_of_le (Nat.lt_trans hTs (by omega)) hge)
    have hc'n : H c' = none := fresh3 c' (Nat.le_trans (by omega) hge)
    have ok2 := ((e0.hok.tab (h' := h2) (qs := #[rawInt cpos.line, rawInt cpos.col, .ref c']) hT (fun b o hb e => hx b o hb (hk b o e)) htab).ext (a := c') (φ := fun h => h.CodeRec (.ref c') cqual) (by rw [upd_ne hc'T]; exact hc'n) (CodeO.mk hrec))
    have un2 := (Un.tab (fs := frs outer) (ex := []) (h' := h2) (qs := #[rawInt cpos.line, rawInt cpos.col, .ref c']) hT (fun b o hb e => hx b o hb (hk b o e)) htab).ext (a := c') (o := CodeO c' cqual) e0.hok (Nat.le_trans (by omega) hge)
    refine wpAny_mono (tail _ c' ctv doc' h2 tk2 (fun b o hb e => hx b o hb e) (by omega) hlt ok2 un2 upd_same (.inr ⟨c', by rw [upd_ne hc'T.symm]; exact upd_same, upd_same⟩) (fun b o e hb => by rw [upd_ne (ne_of_none e hc'n), upd_ne hb]; exact e) (fun b hb1 hb2 => ?_)) (fun _ s'' h => wpAny_mono h (fun fl s3 ⟨u, e, h⟩ => by subst e; exact h) (fun _ _ h => h.elim)) (fun _ _ h => h.elim)
    rw [upd_ne (Nat.ne_of_lt (Nat.lt_of_lt_of_le (show b < h1.objs.size by omega) hge)), upd_ne (Nat.ne_of_gt (Nat.lt_of_lt_of_le hTs hb1))]
    exact fresh3 b hb1
  · refine wpAny_mono (PySem.W.makeFunction_hit (c := c) (P := T) (ps := #[rawInt cpos.line, rawInt cpos.col, .ref d]) (cv := .ref d) (clos := [(nSeek, s.heap.objs.size + 1), (nEach, s.heap.objs.size + 2)]) (mg := mg) hcl rfl hg1 rfl C1 (hk _ _ (e0.hok _ _ hT)) trivial (by simp [codeAmong, rawInt]) hb1 fun ctv doc' h2 tk2 kk hsz => ?_) (fun v s' h => h) (fun e s' h => h)
    have hsz : h1.objs.size ≤ h2.objs.size := hsz
    have hdl := e0.hok.lt hd
    exact wpAny_mono (tail H d ctv doc' h2 tk2 (fun b o _ e => kk b o e) hsz (Nat.lt_of_lt_of_le hdl (by omega)) (e0.hok.kept fun b o e => kk b o (hk b o e)) (Un.kept fun b o e => kk b o (hk b o e)) hd (.inr ⟨d, hT, hd⟩) (fun b o e _ => e) (fun b hb1 _ => fresh3 b hb1)) (fun _ s'' h => wpAny_mono h (fun fl s3 ⟨u, e, h⟩ => by subst e; exact h) (fun _ _ h => h.elim)) (fun _ _ h => h.elim)
end
open PySem PySem.Spec PyProof.Rows
def TabsOk (K : PySem.W.Frag) (h : Heap) (tabs : List (Addr × Addr)) : Prop := ∀ q ∈ tabs, PySem.W.CodeHd h q.1 q.2 /\ h.get? q.2 = some (PySem.W.tabObj #[]) /\ K.lookup q.2 = none
def TabsIn (mg : Str->Option Value) (base : Heap) (tabs : List (Addr × Addr)) : Prop := ∀ q ∈ tabs, PySem.W.CodeHd base q.1 q.2 /\ base.BuiltinsAt mg q.2 /\ mainGlobals ≠ q.2
def Tabs0 (H : Hp) (tabs : List (Addr × Addr)) : Prop := ∀ q ∈ tabs, H q.2 = some (.tbl #[])
theorem law_callT {P : Program} {w : World} {K : PySem.W.Frag} {mg mb : Str->Option Value} {CX : CXT} {k : Nat} {fa a : Addr} {tabs : List (Addr × Addr)} {fd : FuncData} {x : Str} {sp : Sp} {s₁ : Shared} {vs : List Value} {ns : List Int}
    (KX : K.In s₁.heap) (hns : s₁.heap.Ns mainGlobals mg) (hb : s₁.heap.Ns builtinsNs mb) (hbb : ∀ x : Str, x ≠ "__name__"->mb x = bootBuiltins x) (hlim : s₁.heap.NoLimit) (hg : s₁.gens = #[])
    (hbm : ∃ bm ob, mg "__builtins__" = some (.ref bm) /\ bm ≠ builtinsNs /\ s₁.heap.get? bm = some ob /\ ob.cls = .type "module" /\ ob.dict = some builtinsNs /\ ob.data = .plain)
    (hTs : TabsOk K s₁.heap tabs)
    (ha : s₁.heap.get? a = some { cls := .type "list", data := .seq vs.toArray }) (hi : IntsAre vs ns) (hl : ns.length ≤ sizeLine) (hr : Room k callerA)
    (F : ∀ base : Heap, K.In base->base.Ns mainGlobals mg->TabsIn mg base tabs->FnOk P w K mg base CX k fa fd [x] sp) (hbind : ∀ (s : Shared) (u : Value), BindsTo s fd ⟨[u], []⟩ [(x, u)])
    (hsp : ∀ H : Hp, Tabs0 H tabs->SqL K H a (ns.map V.int)->sp [.ref a] H (fun v _ => v = .bl true) fun _ _ _ => False)
    (hCX : ∀ H e s', CX [] H s₁ (fun _ _ _ => False) e s'->False) :
    codeAny (model P w) callerA (.call (.ref fa) ⟨[.ref a], []⟩) (fun r s' => r = .ok (.ret (.bool true)) /\ OldK s₁.heap s'.heap /\ s'.os = s₁.os /\ AllBare s'.gens) s₁ := by
  have rv := vals_ints hi
  have lenV := hi.length
  have tb : ∀ {b : Addr}, b ∈ tabs.map (·.2)->s₁.heap.get? b = some (PySem.W.tabObj #[]) /\ K.lookup b = none /\ ∃ c, PySem.W.CodeHd s₁.heap c b := fun hb => by
    obtain ⟨q, hq, rfl⟩ := List.mem_map.mp hb
    exact ⟨(hTs q hq).2.1, (hTs q hq).2.2, q.1, (hTs q hq).1⟩
  have haT : a ∉ tabs.map (·.2) := fun z => by
    have := (tb z).1
    rw [ha] at this; cases this
  have core : ∀ H : Hp, (∀ b ∈ tabs.map (·.2), H b = some (.tbl #[]))->(∀ b, b ∉ tabs.map (·.2)->H b = none ∨ ∃ o xs, H b = some (.frz o (.lst xs)))->SqL K H a (ns.map V.int)->HOk P w H s₁.heap->(∀ b, H b ≠ none->b = a ∨ b ∈ tabs.map (·.2))->(H a ≠ none->K.lookup a = none) →
      codeAny (model P w) callerA (.call (.ref fa) ⟨[.ref a], []⟩) (fun r s' => r = .ok (.ret (.bool true)) /\ OldK s₁.heap s'.heap /\ s'.os = s₁.os /\ AllBare s'.gens) s₁ := by
    intro H hTH hO hS hok hA hK
    have base_of : ∀ {b : Addr} {o : Obj}, s₁.heap.get? b = some o->H b = none->(hidT s₁.heap H).get? b = some o := fun e n => hidT_get e n
    have noA : ∀ {b : Addr} {o : Obj}, s₁.heap.get? b = some o->(∀ vs n, o.data ≠ .seq vs n)->(o.cls ≠ .none)->H b = none := fun {b o} e d1 d2 => by
      cases q : H b with
      | none => rfl
      | some u =>
        rcases hA b (by rw [q]; simp) with e' | e'
        · subst e'
          rw [ha] at e; cases e
          exact absurd rfl (d1 _ _)
        · rw [(tb e').1] at e; cases e
          exact absurd rfl d2
    have noD : ∀ {b : Addr} {o : Obj} {es : Array DictEntry} {ep : Nat}, s₁.heap.get? b = some o->o.data = .dict es ep->H b = none := fun {b o es ep} e d => by
      cases q : H b with
      | none => rfl
      | some u =>
        rcases hA b (by rw [q]; simp) with e' | e'
        · subst e'
          rw [ha] at e; cases e
          have d' : Data.seq vs.toArray _ = Data.dict es ep := d
          cases d'
        · rw [(tb e').1] at e; cases e
          have d' : Data.fields #[] = Data.dict es ep := d
          cases d'
    have nsK : ∀ {b : Addr} {m : Str->Option Value}, s₁.heap.Ns b m->(hidT s₁.heap H).Ns b m := fun {b m} ⟨o, es, ep, e, d, r⟩ => ⟨o, es, ep, base_of e (noD e d), d, r⟩
    have hKb : K.In (hidT s₁.heap H) := fun b o e => base_of (KX b o e) (by
      cases q : H b with
      | none => rfl
      | some u =>
        rcases hA b (by rw [q]; simp) with e' | e'
        · subst e'
          rw [hK (by rw [q]; simp)] at e; cases e
        · rw [(tb e').2.1] at e; cases e)
    have hM : Mod K mg (hidT s₁.heap H) := ⟨hKb, nsK hns, ⟨mb, nsK hb, hbb⟩, let ⟨mc, h1, h2⟩ := hlim; ⟨mc, nsK h1, h2⟩⟩
    have e0 : Env0 P w K mg (hidT s₁.heap H) callerA [] s₁ H := ⟨rfl, hM, fun b o e => of_hidT e, Nat.le_of_eq (hidT_size _ _), trivial, fun b hb => absurd (show b ∈ ([] : List Addr) from hb) (by simp), hok, .of_eq hg⟩
    have tin : TabsIn mg (hidT s₁.heap H) tabs := fun q hq => by
      have hT := (hTs q hq).2.1
      refine ⟨?_, ?_, fun z => ?_⟩
      · obtain ⟨o, vs', file, tf, flags, tg, inF, text, tt, e, e2, e3, rest⟩ := (hTs q hq).1
        exact ⟨o, vs', file, tf, flags, tg, inF, text, tt, base_of e (noA e (fun _ _ z => by rw [e3] at z; cases z) (fun z => by rw [e2] at z; cases z)), e2, e3, rest⟩
      · obtain ⟨bm, ob, e1, e2, e3, e4, e5, e6⟩ := hbm
        refine ⟨bm, ob, e1, e2, fun z => ?_, fun z => ?_, base_of e3 (noA e3 (fun _ _ z => by rw [e6] at z; cases z) (fun z => by rw [e4] at z; cases z)), e4, e5, e6⟩
        · obtain ⟨o, es, ep, e, d, _⟩ := hns
          rw [← z, e3] at e; cases e
          rw [e6] at d; cases d
        · rw [z, hT] at e3; cases e3
          cases e4
      · obtain ⟨o, es, ep, e, d, _⟩ := hns
        rw [z, hT] at e; cases e
        have d' : Data.fields #[] = Data.dict es ep := d
        cases d'
    refine codeAny_mono ((F _ hKb (nsK hns) tin).run callerA [] s₁ H ⟨[.ref a], []⟩ [.ref a] [.ref a] _ _ hr e0 (hbind s₁ (.ref a)) (.cons rfl .nil) (hsp H (fun q hq => hTH _ (List.mem_map.mpr ⟨q, hq, rfl⟩)) hS)) fun r s' h => ?_
    cases r with
    | error e => exact (hCX H e s' h).elim
    | ok fl =>
      cases fl with
      | next => exact False.elim h
      | brk => exact False.elim h
      | cont => exact False.elim h
      | ret u =>
        obtain ⟨v, H', os, bare, un, hok', r', q⟩ := h
        have q' : v = .bl true := q
        subst q'
        obtain rfl : u = Value.bool true := r'
        have kept : ∀ b o, b ∉ tabs.map (·.2)->s₁.heap.get? b = some o->s'.heap.get? b = some o := fun b o hb e => by
          cases q : H b with
          | none => exact un.keep b o e q (by intro z; exact absurd (show b ∈ ([] : List Addr) from z) (by simp)) (by simp)
          | some u =>
            rcases hO b hb with z | ⟨ob, xs, z⟩
            · rw [q] at z; cases z
            · have z2 := un.frzs b ob _ z
              obtain ⟨e1, _⟩ := hok b _ z
              obtain ⟨e2, _⟩ := hok' b _ z2
              rw [e] at e1; cases e1
              exact e2
        have grown : ∀ b ∈ tabs.map (·.2), ∃ more, s'.heap.get? b = some (PySem.W.tabObj (#[] ++ more)) := fun b hb => by
          obtain ⟨more, z⟩ := un.tbls b #[] (hTH b hb)
          exact ⟨more, hok' b _ z⟩
        refine ⟨rfl, ⟨fun b o e => ?_, fun b o e => ?_⟩, os, bare⟩
        · by_cases hbT : b ∈ tabs.map (·.2)
          · obtain ⟨more, gr⟩ := grown b hbT
            obtain ⟨hT, _, c, hC⟩ := tb hbT
            rw [hT] at e; cases e
            exact .inr (.inl ⟨(hC.tab hT).isCodeTable, rfl, #[], more, rfl, gr⟩)
          · exact .inl (kept b o hbT e)
        · by_cases hbT : b ∈ tabs.map (·.2)
          · obtain ⟨more, gr⟩ := grown b hbT
            exact ⟨_, gr⟩
          · exact ⟨o, kept b o hbT e⟩
  cases hk : K.lookup a with
  | some o =>
    have e := KX a o hk
    rw [ha] at e
    cases e
    refine core (fun b => if b ∈ tabs.map (·.2) then some (.tbl #[]) else none) (fun b hb => if_pos hb) (fun b hb => .inl (if_neg hb)) (.inr ⟨_, vs.toArray, _, hk, rfl, rfl, rfl, by rw [List.size_toArray, lenV]; exact hl, by simpa using rv⟩) (fun b u z => ?_) (fun b z => ?_) fun z => absurd (if_neg haT) z
    · by_cases hb : b ∈ tabs.map (·.2)
      · have z' := (if_pos hb).symm.trans z
        cases z'
        exact (tb hb).1
      · have z' := (if_neg hb).symm.trans z
        cases z'
    · by_cases hb : b ∈ tabs.map (·.2)
      · exact .inr hb
      · exact absurd (if_neg hb) z
  | none =>
    let H0 : Hp := fun b => if b ∈ tabs.map (·.2) then some (.tbl #[]) else if b = a then some (.frz { cls := .type "list", data := .seq vs.toArray } (.lst (ns.map V.int))) else none
    have hHT : ∀ b ∈ tabs.map (·.2), H0 b = some (.tbl #[]) := fun b hb => if_pos hb
    have hHa : H0 a = some (.frz { cls := .type "list", data := .seq vs.toArray } (.lst (ns.map V.int))) := by show (if a ∈ tabs.map (·.2) then _ else if a = a then _ else _) = _; rw [if_neg haT, if_pos rfl]
    have hHo : ∀ b, b ∉ tabs.map (·.2)->b ≠ a->H0 b = none := fun b h1 h2 => by show (if b ∈ tabs.map (·.2) then _ else if b = a then _ else _) = _; rw [if_neg h1, if_neg h2]
    refine core H0 hHT (fun b hbT => ?_) (.inl (.inr ⟨_, hHa⟩)) (fun b u z => ?_) (fun b z => ?_) fun _ => hk
    · by_cases hb : b = a
      · subst hb; exact .inr ⟨_, _, hHa⟩
      · exact .inl (hHo b hbT hb)
    · by_cases hbT : b ∈ tabs.map (·.2)
      · rw [hHT b hbT] at z; cases z
        exact (tb hbT).1
      · by_cases hb : b = a
        · subst hb
          rw [hHa] at z; cases z
          exact ⟨ha, by rw [List.length_map]; exact hl, vs, _, rv, ha⟩
        · rw [hHo b hbT hb] at z; cases z
    · by_cases hbT : b ∈ tabs.map (·.2)
      · exact .inr hbT
      · by_cases hb : b = a
        · exact .inl hb
        · exact absurd (hHo b hbT hb) z
theorem tabIn_of {K : PySem.W.Frag} {x : Str} {f c T : Addr} {oc oc' : Value} {od od' : Option Addr} {fd : FuncData} {sl sl' : Array (Option Value)} {vs : Array Value} (a : PySem.W.nsIn K mainGlobals x = some (some (.ref f))) (l : K.lookup f = some ⟨oc, od, .func fd, sl⟩) (hc : fd.code = .ref c) (lc : K.lookup c = some ⟨oc', od', .fields vs, sl'⟩) (hv : vs[11]? = some (.ref T)) : PySem.W.tabIn K x = some (c, T) := by
  unfold PySem.W.tabIn
  rw [a]
  dsimp only
  rw [l]
  dsimp only
  rw [hc]
  dsimp only
  rw [lc]
  dsimp only
  rw [hv]
theorem walk_ofT {l : PySem.W.OpenLaw} {n k : Nat} {q : Program} {loose : List Str} {XP : (Str->Option Value)->Heap->Prop} {YP : World->Heap->Prop} {d : DefRec} {K : Params->PySem.W.Frag} {CX : World->CXT} {sp : World->List (Addr × Addr)->Sp} {x : Str} (ms : List Str)
    (hn : l.most = some n) (hn2 : n ≤ sizeLine) (hdf : d.params.defaults = []) (hr : Room k callerA) (hm : ms.all (fun m => ((recsOf q).find? (fun e => e.name == m)).isSome) = true)
    (hY : ∀ (w : World) (h : Heap), YP w h->(K w.params).In h)
    (F : ∀ (w : World) (mg : Str->Option Value) (fa : Addr) (h : Heap), (K w.params).In h->h.Ns mainGlobals mg->mg d.name = some (.ref fa) →
      ∃ (tabs : List (Addr × Addr)) (fd : FuncData), (∀ t ∈ tabs, ∃ m ∈ ms, PySem.W.tabIn (K w.params) m = some t /\ (K w.params).lookup t.2 = none) /\ (∀ (s : Shared) (u : Value), BindsTo s fd ⟨[u], []⟩ [(x, u)]) ∧
        ∀ base : Heap, (K w.params).In base->base.Ns mainGlobals mg->TabsIn mg base tabs->FnOk l.prog w (K w.params) mg base (CX w) k fa fd [x] (sp w tabs))
    (hsp : ∀ (w : World) (tabs : List (Addr × Addr)) (H : Hp) (a : Addr) (ns : List Int), ns.length ≤ n->Tabs0 H tabs->SqL (K w.params) H a (ns.map V.int)->sp w tabs [.ref a] H (fun v _ => v = .bl true) fun _ _ _ => False)
    (hCX : ∀ (w : World) (H : Hp) (s : Shared) (e : Value) (s' : Shared), CX w [] H s (fun _ _ _ => False) e s'->False) :
    PySem.W.WalkO q loose XP YP l.row.toRowW d [] (fun f vs => PySem.call f vs) := by
  refine Att.attach_call hn hdf fun w s₀ s₁ mg mb fa o pm cd doc a vs ns G Y ho hd hcd hmg hobj hints hlen hg => ?_
  have KX := hY w _ Y
  obtain ⟨tabs, fd, ht, hb, hF⟩ := F w mg fa _ KX G.T.g hmg
  have tok : TabsOk (K w.params) s₁.heap tabs := fun t hq => by
    obtain ⟨m, hm1, h1, h2⟩ := ht t hq
    have := List.all_eq_true.mp hm m hm1
    obtain ⟨dm, hdm⟩ := Option.isSome_iff_exists.mp this
    obtain ⟨hC, hT⟩ := PySem.W.tab_of (c := t.1) (P := t.2) G.T KX hdm h1
    exact ⟨hC, hT, h2⟩
  exact law_callT KX G.T.g G.T.b G.T.builtins G.T.nolimit hg G.T.bmain tok hobj hints (Nat.le_trans hlen hn2) hr hF hb (fun H hO hS => hsp w tabs H a ns hlen hO hS) fun H e s' => hCX w H s₁ e s'
open PySem PySem.Spec PyProof.Rows
theorem cutH_nil {H : Hp} : cutH [] H = H := by
  funext b
  exact cut_out (by intro z; cases z)
section
variable {CX : CXT} {P : Program} {w : World} {K : PySem.W.Frag} {mg : Str->Option Value} {base : Heap} {x0 : Str} {name qual : Str} {params : Arguments} {body : Expr} {scope : Scope} {f : Addr}
theorem clos_ofE {k : Nat} {sp : Sp} (S : ClScope x0 [] scope) (hb : ∀ (pm cdv ct : Value) (s : Shared) (u : Value), BindsTo s (PySem.W.kla_fn name qual params body scope [] pm cdv ct) ⟨[u], []⟩ [(x0, u)])
    (hsp : ∀ vs H Q E, sp vs H Q E->∃ (v : V) (pm : Value) (c' : Addr) (ctv : Value), vs = [v] /\ H f = some (FnO f (PySem.W.kla_fn name qual params body scope [] pm (.ref c') ctv)) /\ H c' = some (CodeO c' qual) ∧
      ∀ (A : Around) (outer : List Env) (s : Shared), Room k (A.deeper (PySem.W.envX qual scope s.heap.objs.size f (.ref c') []))->∃ t, PE (cxClos P w K mg base [x0] qual scope f (.ref c') [] A outer s H) body t /\ t [some v] H Q) :
    ClosF P w K mg base CX (k + 1) f sp := by
  refine ⟨fun vs H Q E h => ?_, fun A outer s H us vs Q E hr e0 r h => ?_⟩
  · obtain ⟨v, pm, c', ctv, rfl, hf, _⟩ := hsp _ _ _ _ h
    exact ⟨⟨v, rfl⟩, _, hf⟩
  · obtain ⟨v, pm, c', ctv, rfl, hf, hc', hbody⟩ := hsp _ _ _ _ h
    obtain ⟨u, rfl, ru⟩ := vals1 r
    obtain ⟨⟨oc, od, sl, ho⟩, _⟩ := e0.hok _ _ hf
    obtain ⟨hcd, _⟩ := e0.hok _ _ hc'
    have lim : s.heap.NoLimit := e0.mod.nolimit.keeps fun b o e => (e0.bs b o e).1
    have hloc : ∀ x ∈ [(x0, u)], scope.names.lookup x.1 = some .local := fun x hx => by rw [List.mem_singleton.mp hx]; exact S.par
    refine PySem.W.kla_callFunE hr.depth ho rfl S.co S.gen rfl hcd (hb pm (.ref c') ctv s u _ _ _ _ ?_)
    refine wpAny_newFunctionEnv S.nocell hloc (fun h' ns sb => ?_) S.kind
    have keep : ∀ b o, s.heap.get? b = some o->h'.get? b = some o := fun b o e => by
      rw [sb.2 b (Nat.ne_of_lt (Heap.lt_size e))]
      exact Heap.get?_push_of_some _ e
    refine ⟨lim.keeps keep, PySem.W.kla_codeExpr ?_⟩
    obtain ⟨t, ht, hq⟩ := hbody A outer s (hr.deeper _)
    have I := inv_clos (P := P) (w := w) (K := K) (mg := mg) (base := base) (qual := qual) (f := f) (cdv := .ref c') (cl := []) (fvs := []) (tk := s.toks + [(x0, u)].length) S rfl (by simp) hr.hd e0 ⟨rfl, fun i x c v e => by simp at e⟩ ru ns sb
    rw [show cellsOf [] = [] from rfl, cutH_nil] at I
    refine wpAny_mono (ht [] _ _ _ _ I hq) (fun u s' hs => ?_) fun e s' hs => hs.elim
    obtain ⟨v, H', J, rv, q⟩ := hs
    exact ⟨v, H', J.os, J.bare, J.base, J.hok, rv, q⟩
end
def tLam (T : Addr) (pos : Pos) (qual : Str) (params : Arguments) (body : Expr) (scope : Scope) : TE := fun _ H Q => H T = some (.tbl #[]) /\ ∀ f c' pm ctv H', H f = none->H' f = some (FnO f (PySem.W.kla_fn "<lambda>" qual params body scope [] pm (.ref c') ctv))->H' c' = some (CodeO c' qual)->H' T = some (.tbl #[rawInt pos.line, rawInt pos.col, .ref c'])->Keep [T] H H'->Q (.ref f) H'
section
variable {X : Cx} {c T : Addr} {pos : Pos} {qual : Str} {params : Arguments} {body : Expr} {scope : Scope}
theorem pe_lam (hcode : X.env.code = .ref c) (C : PySem.W.CodeHd X.base c T) (hB : X.base.BuiltinsAt X.mg T) (hG : mainGlobals ≠ T) (hcl : closureFor scope X.env = pure []) (hdef : defaultsOf params X.env = ([], [])) (hq : X.env.qual ++ "<lambda>" = qual) :
    PE X (.Lambda params body scope pos) (tLam T pos qual params body scope) := by
  rintro pins s σ H Q I ⟨hT, h⟩
  refine PySem.W.kla_eval hdef ?_
  rw [hq]
  have hb1 : s.heap.BuiltinsAt X.mg T := by
    obtain ⟨bm, o, e1, e2, e3, e4, e5, rest⟩ := hB
    exact ⟨bm, o, e1, e2, e3, e4, I.bk _ _ e5, rest⟩
  have hg1 : s.heap.Ns mainGlobals X.mg := I.mod.glob.keeps I.bk
  have hTs := I.hok.lt hT
  refine PySem.W.kla_makeFunction (c := c) (P := T) (ps := #[]) (clos := []) (mg := X.mg) hcl I.ok.glob hg1 hcode (C.keeps I.bk) (I.hok _ _ hT) trivial rfl hG hb1 fun c' ctv h2 tk hx hge hlt hrec htab => ?_
  have hc'T : c' ≠ T := Nat.ne_of_gt (Nat.lt_of_lt_of_le hTs hge)
  have hc'n : H c' = none := I.hok.fresh hge
  have hf2 : s.heap.objs.size ≤ h2.objs.size := Nat.le_of_lt (Nat.lt_of_le_of_lt hge hlt)
  have hfn : H h2.objs.size = none := I.hok.fresh hf2
  have hfT : h2.objs.size ≠ T := Nat.ne_of_gt (Nat.lt_of_lt_of_le hTs hf2)
  have hfc : h2.objs.size ≠ c' := Nat.ne_of_gt hlt
  have kp : ∀ b o, b ≠ T->s.heap.get? b = some o->(h2.push (PySem.W.kla_obj "<lambda>" qual params body scope [] ((X.mg "__name__").getD .none) c' ctv)).get? b = some o := fun b o hb e => Heap.get?_push_of_some _ (hx b o hb e)
  have o1 := (I.hok.tab (h' := h2.push (PySem.W.kla_obj "<lambda>" qual params body scope [] ((X.mg "__name__").getD .none) c' ctv)) (qs := #[rawInt pos.line, rawInt pos.col, .ref c']) hT kp (Heap.get?_push_of_some _ htab)).ext (a := c') (φ := fun h => h.CodeRec (.ref c') qual) (by rw [upd_ne hc'T]; exact hc'n) (CodeO.mk (hrec.push _))
  have o2 := o1.ext (a := h2.objs.size) (φ := fun h => ∃ oc od sl, h.get? h2.objs.size = some ⟨oc, od, .func (PySem.W.kla_fn "<lambda>" qual params body scope [] ((X.mg "__name__").getD .none) (.ref c') ctv), sl⟩) (by rw [upd_ne hfc, upd_ne hfT]; exact hfn) (FnO.mk (Heap.get?_push_size _ rfl))
  have up : ∀ b o, H b = some o->b ≠ T->upd (upd (upd H T (.tbl (#[] ++ #[rawInt pos.line, rawInt pos.col, .ref c']))) c' (CodeO c' qual)) h2.objs.size (FnO h2.objs.size (PySem.W.kla_fn "<lambda>" qual params body scope [] ((X.mg "__name__").getD .none) (.ref c') ctv)) b = some o := fun b o e hb => by
    rw [upd_ne (ne_of_none e hfn), upd_ne (ne_of_none e hc'n), upd_ne hb]; exact e
  have atT : upd (upd (upd H T (.tbl (#[] ++ #[rawInt pos.line, rawInt pos.col, .ref c']))) c' (CodeO c' qual)) h2.objs.size (FnO h2.objs.size (PySem.W.kla_fn "<lambda>" qual params body scope [] ((X.mg "__name__").getD .none) (.ref c') ctv)) T = some (.tbl (#[] ++ #[rawInt pos.line, rawInt pos.col, .ref c'])) := by
    rw [upd_ne hfT.symm, upd_ne hc'T.symm]; exact upd_same
  have nT : ∀ {b : Addr}, H b = none->b ≠ T := fun n z => by rw [z, hT] at n; cases n
  refine ⟨.ref h2.objs.size, _, I.step (g' := s.gens) (d' := s.drawn) (ch := []) (fun _ z => nomatch z) (fun b o _ _ _ e n => kp b o (nT n) e) (fun b o _ _ _ e n => ⟨o.slots, kp b o (nT n) e⟩) (fun b o _ e n => ?_) (fun b o _ e => ?_) (fun b xs e => up b _ e (ne_of e hT (by intro z; cases z))) (fun b o u e => up b _ e (ne_of e hT (by intro z; cases z))) (fun b ps e => ?_) (fun m hn => ?_) o2 I.bare, rfl, h _ c' _ ctv _ hfn upd_same (by rw [upd_ne hfc.symm]; exact upd_same) atT (fun b o e hb => up b o e (by simpa using hb))⟩
  · have hbl := Heap.lt_size e
    rw [upd_ne (Nat.ne_of_lt (Nat.lt_of_lt_of_le hbl hf2)), upd_ne (Nat.ne_of_lt (Nat.lt_of_lt_of_le hbl hge)), upd_ne (nT n)]
    exact n
  · by_cases hb : b = T
    · exact ⟨_, by rw [hb]; exact Heap.get?_push_of_some _ htab⟩
    · exact ⟨o, kp b o hb e⟩
  · by_cases hb : b = T
    · subst hb
      rw [hT] at e; cases e
      exact ⟨_, atT⟩
    · exact ⟨#[], by rw [up b _ e hb]; simp⟩
  · obtain ⟨o, es, ep, e, d, rest⟩ := hn
    exact ⟨o, es, ep, kp _ o (nT I.free) e, d, rest⟩
end
section
variable {P : Program} {w : World} {K : PySem.W.Frag} {mg : Str->Option Value} {base : Heap}
theorem Fun.okXc {x qual : Str} {st : Stmt} {f c : Addr} {fd : FuncData} {N ps : List Str} {k : Nat} {sp : Sp} (F : Fun K x qual st f fd) (hc : fd.code = .ref c) (S : FnScope N ps (defScope st)) (len : ∀ vs H Q E, sp vs H Q E->vs.length = ps.length)
    (hbody : ∀ (A : Around) (outer : List Env) (s : Shared) (H : Hp) (vs : List V) (Q : VK) (E : XK), Room k (A.deeper (envOfC qual (defScope st) s.heap.objs.size f (.ref c)))->sp vs H Q E →
      ∃ t, PSs (cxOf (CXx P w) P w K mg base N qual (defScope st) f (.ref c) A outer s H E) (defBody st) t /\ t { nx := fun _ H' => Q .non H', rt := Q } (start N vs) H) : FnOk P w K mg base (CXx P w) (k + 1) f fd ps sp := by
  obtain ⟨oc, od, kV, doc, pm, an, cdv, ct, osl, rfl, lk, hcd⟩ := F.ex
  have e : cdv = .ref c := hc
  subst e
  exact fn_of lk hcd S len fun A outer s H vs Q E hr hsp => hbody A outer s H vs Q E hr hsp
end
def lamArgs : Expr->Arguments
  | .Lambda a _ _ _ => a
  | _ => default
def lamBody : Expr->Expr
  | .Lambda _ b _ _ => b
  | e => e
def lamScope : Expr->Scope
  | .Lambda _ _ s _ => s
  | _ => default
def asgVal : Stmt->Expr
  | .Assign _ v _ => v
  | _ => .Constant .none 0 ⟨0, 0, 0, 0⟩
def argAt (i : Nat) : Expr->Expr
  | .Call _ as _ _ => as.getD i (.Constant .none 0 ⟨0, 0, 0, 0⟩)
  | e => e
theorem ClosF.or {P : Program} {w : World} {K : PySem.W.Frag} {mg : Str->Option Value} {base : Heap} {CX : CXT} {k : Nat} {f : Addr} {sp1 sp2 sp : Sp} (F1 : ClosF P w K mg base CX k f sp1) (F2 : ClosF P w K mg base CX k f sp2) (h : ∀ vs H Q E, sp vs H Q E->sp1 vs H Q E ∨ sp2 vs H Q E) : ClosF P w K mg base CX k f sp :=
  ⟨fun vs H Q E x => (h vs H Q E x).elim (F1.one vs H Q E) (F2.one vs H Q E), fun A outer s H us vs Q E hr e0 r x => (h vs H Q E x).elim (F1.run A outer s H us vs Q E hr e0 r) (F2.run A outer s H us vs Q E hr e0 r)⟩
def refAt (vs : Array Value) (n : Nat) : Addr := match vs[n]? with
  | some (.ref a) => a
  | _ => 0
end L2
namespace Mine
open PySem L2
def top (i : Nat) : Stmt := PySem.Challenge.pw_keepsakes_k33_legs_of_a_shelf.main.body.getD i (.Pass ⟨0, 0, 0, 0⟩)
abbrev s_NoPlace___init__ : Stmt := inClass (top 3) 0
abbrev s_NoPiece___init__ : Stmt := inClass (top 4) 0
abbrev s_rate : Stmt := top 6
abbrev s_legs_of : Stmt := top 7
abbrev s_turned : Stmt := top 10
abbrev s_check_of : Stmt := top 11
abbrev s_Piece___init__ : Stmt := inClass (top 13) 0
abbrev s_Piece_size : Stmt := inClass (top 13) 1
abbrev s_Piece_is_good : Stmt := inClass (top 13) 2
abbrev s_Piece_harmed : Stmt := inClass (top 13) 3
abbrev s_Whole___init__ : Stmt := inClass (top 14) 0
abbrev s_Whole_start : Stmt := inClass (top 14) 1
abbrev s_Whole_with_rows : Stmt := inClass (top 14) 4
abbrev s_Gain___init__ : Stmt := inClass (top 15) 0
abbrev s_Gain_start : Stmt := inClass (top 15) 1
abbrev s_Gain_with_rows : Stmt := inClass (top 15) 4
abbrev s_Shelf___init__ : Stmt := inClass (top 17) 0
abbrev s_Shelf_put : Stmt := inClass (top 17) 1
abbrev s_Shelf_lay : Stmt := inClass (top 17) 2
abbrev s_Shelf_piece : Stmt := inClass (top 17) 3
abbrev s_Shelf_drop : Stmt := inClass (top 17) 4
abbrev s_Shelf_numbers : Stmt := inClass (top 17) 5
abbrev s__law_cell_at : Stmt := top 19
abbrev s__law_whole : Stmt := top 20
abbrev s__law_drawn : Stmt := top 21
abbrev s__law_rows : Stmt := top 22
abbrev s__law_made : Stmt := top 23
abbrev s__law_alike : Stmt := top 24
abbrev s__law_rated : Stmt := top 25
abbrev s__law_due : Stmt := top 26
abbrev s__law_filled : Stmt := top 27
abbrev s_law : Stmt := top 28
abbrev s_cost : Stmt := (defBody s_rate).getD 0 (.Pass ⟨0, 0, 0, 0⟩)
abbrev e_lam : Expr := argAt 1 (asgVal ((defBody s_law).getD 12 (.Pass ⟨0, 0, 0, 0⟩)))
theorem cs_lam : ClScope "_law_piece" [] (lamScope e_lam) := ⟨rfl, rfl, rfl, by decide +kernel, rfl, by decide +kernel, by decide +kernel, by decide +kernel⟩
theorem cs_cost : ClScope "piece" ["seek", "each"] (defScope s_cost) := ⟨rfl, rfl, rfl, by decide +kernel, rfl, by decide +kernel, by decide +kernel, by decide +kernel⟩
theorem sc_NoPlace___init__ : FnScope ["self", "place"] ["self", "place"] (defScope s_NoPlace___init__) := ⟨rfl, rfl, rfl, by decide +kernel, rfl, by decide +kernel, by decide +kernel⟩
theorem sc_NoPiece___init__ : FnScope ["self", "number"] ["self", "number"] (defScope s_NoPiece___init__) := ⟨rfl, rfl, rfl, by decide +kernel, rfl, by decide +kernel, by decide +kernel⟩
theorem sc_legs_of : FnScope ["shelf", "cost", "legs", "number", "piece"] ["shelf", "cost"] (defScope s_legs_of) := ⟨rfl, rfl, rfl, by decide +kernel, rfl, by decide +kernel, by decide +kernel⟩
theorem sc_turned : FnScope ["number"] ["number"] (defScope s_turned) := ⟨rfl, rfl, rfl, by decide +kernel, rfl, by decide +kernel, by decide +kernel⟩
theorem sc_check_of : FnScope ["start", "day", "rows", "numbers", "place", "block", "check", "number"] ["start", "day", "rows"] (defScope s_check_of) := ⟨rfl, rfl, rfl, by decide +kernel, rfl, by decide +kernel, by decide +kernel⟩
theorem sc_Piece___init__ : FnScope ["self", "start", "day", "rows", "check", "fitting"] ["self", "start", "day", "rows", "check"] (defScope s_Piece___init__) := ⟨rfl, rfl, rfl, by decide +kernel, rfl, by decide +kernel, by decide +kernel⟩
theorem sc_Piece_size : FnScope ["self"] ["self"] (defScope s_Piece_size) := ⟨rfl, rfl, rfl, by decide +kernel, rfl, by decide +kernel, by decide +kernel⟩
theorem sc_Piece_is_good : FnScope ["self"] ["self"] (defScope s_Piece_is_good) := ⟨rfl, rfl, rfl, by decide +kernel, rfl, by decide +kernel, by decide +kernel⟩
theorem sc_Piece_harmed : FnScope ["self", "at", "bits", "rows", "row"] ["self", "at", "bits"] (defScope s_Piece_harmed) := ⟨rfl, rfl, rfl, by decide +kernel, rfl, by decide +kernel, by decide +kernel⟩
theorem sc_Whole___init__ : FnScope ["self", "day", "rows", "check"] ["self", "day", "rows", "check"] (defScope s_Whole___init__) := ⟨rfl, rfl, rfl, by decide +kernel, rfl, by decide +kernel, by decide +kernel⟩
theorem sc_Whole_start : FnScope ["self"] ["self"] (defScope s_Whole_start) := ⟨rfl, rfl, rfl, by decide +kernel, rfl, by decide +kernel, by decide +kernel⟩
theorem sc_Whole_with_rows : FnScope ["self", "rows"] ["self", "rows"] (defScope s_Whole_with_rows) := ⟨rfl, rfl, rfl, by decide +kernel, rfl, by decide +kernel, by decide +kernel⟩
theorem sc_Gain___init__ : FnScope ["self", "base", "day", "rows", "check"] ["self", "base", "day", "rows", "check"] (defScope s_Gain___init__) := ⟨rfl, rfl, rfl, by decide +kernel, rfl, by decide +kernel, by decide +kernel⟩
theorem sc_Gain_start : FnScope ["self"] ["self"] (defScope s_Gain_start) := ⟨rfl, rfl, rfl, by decide +kernel, rfl, by decide +kernel, by decide +kernel⟩
theorem sc_Gain_with_rows : FnScope ["self", "rows"] ["self", "rows"] (defScope s_Gain_with_rows) := ⟨rfl, rfl, rfl, by decide +kernel, rfl, by decide +kernel, by decide +kernel⟩
theorem sc_Shelf___init__ : FnScope ["self"] ["self"] (defScope s_Shelf___init__) := ⟨rfl, rfl, rfl, by decide +kernel, rfl, by decide +kernel, by decide +kernel⟩
theorem sc_Shelf_put : FnScope ["self", "piece", "number"] ["self", "piece"] (defScope s_Shelf_put) := ⟨rfl, rfl, rfl, by decide +kernel, rfl, by decide +kernel, by decide +kernel⟩
theorem sc_Shelf_lay : FnScope ["self", "number", "piece"] ["self", "number", "piece"] (defScope s_Shelf_lay) := ⟨rfl, rfl, rfl, by decide +kernel, rfl, by decide +kernel, by decide +kernel⟩
theorem sc_Shelf_piece : FnScope ["self", "number"] ["self", "number"] (defScope s_Shelf_piece) := ⟨rfl, rfl, rfl, by decide +kernel, rfl, by decide +kernel, by decide +kernel⟩
theorem sc_Shelf_drop : FnScope ["self", "number", "piece"] ["self", "number"] (defScope s_Shelf_drop) := ⟨rfl, rfl, rfl, by decide +kernel, rfl, by decide +kernel, by decide +kernel⟩
theorem sc_Shelf_numbers : FnScope ["self"] ["self"] (defScope s_Shelf_numbers) := ⟨rfl, rfl, rfl, by decide +kernel, rfl, by decide +kernel, by decide +kernel⟩
theorem sc__law_cell_at : FnScope ["_law_script", "_law_k"] ["_law_script", "_law_k"] (defScope s__law_cell_at) := ⟨rfl, rfl, rfl, by decide +kernel, rfl, by decide +kernel, by decide +kernel⟩
theorem sc__law_whole : FnScope ["_law_found"] ["_law_found"] (defScope s__law_whole) := ⟨rfl, rfl, rfl, by decide +kernel, rfl, by decide +kernel, by decide +kernel⟩
theorem sc__law_drawn : FnScope ["_law_cell", "_law_many", "_law_found", "_law_number", "_law_k"] ["_law_cell", "_law_many"] (defScope s__law_drawn) := ⟨rfl, rfl, rfl, by decide +kernel, rfl, by decide +kernel, by decide +kernel⟩
theorem sc__law_rows : FnScope ["_law_cell", "_law_wide", "_law_full", "_law_xs", "_law_rows_here", "_law_k"] ["_law_cell", "_law_wide", "_law_full"] (defScope s__law_rows) := ⟨rfl, rfl, rfl, by decide +kernel, rfl, by decide +kernel, by decide +kernel⟩
theorem sc__law_made : FnScope ["_law_cell", "_law_wide", "_law_xs", "_law_day", "_law_full", "_law_rows_here", "_law_start", "_law_piece", "_law_bad"] ["_law_cell", "_law_wide"] (defScope s__law_made) := ⟨rfl, rfl, rfl, by decide +kernel, rfl, by decide +kernel, by decide +kernel⟩
theorem sc__law_alike : FnScope ["_law_found", "_law_due_here", "_law_one", "_law_other"] ["_law_found", "_law_due_here"] (defScope s__law_alike) := ⟨rfl, rfl, rfl, by decide +kernel, rfl, by decide +kernel, by decide +kernel⟩
theorem sc__law_rated : FnScope ["_law_shelf", "_law_facts", "_law_one", "_law_other", "_law_seek", "_law_each", "_law_number", "_law_piece", "_law_first"] ["_law_shelf", "_law_facts", "_law_one", "_law_other", "_law_seek", "_law_each"] (defScope s__law_rated) := ⟨rfl, rfl, rfl, by decide +kernel, rfl, by decide +kernel, by decide +kernel⟩
theorem sc__law_due : FnScope ["_law_facts", "_law_seek", "_law_each", "_law_late", "_law_due_here", "_law_number", "_law_start", "_law_day", "_law_bad", "_law_many"] ["_law_facts", "_law_seek", "_law_each", "_law_late"] (defScope s__law_due) := ⟨rfl, rfl, rfl, by decide +kernel, rfl, by decide +kernel, by decide +kernel⟩
theorem sc__law_filled : FnScope ["_law_script", "_law_wide", "_law_shelf", "_law_facts", "_law_cell", "_law_piece", "_law_told", "_law_xs", "_law_there", "_law_number"] ["_law_script", "_law_wide", "_law_shelf"] (defScope s__law_filled) := ⟨rfl, rfl, rfl, by decide +kernel, rfl, by decide +kernel, by decide +kernel⟩
theorem sc_law : FnScope ["_law_script", "_law_wide", "_law_most", "_law_seek", "_law_each", "_law_one", "_law_other", "_law_shelf", "_law_facts", "_law_found"] ["_law_script"] (defScope s_law) := ⟨rfl, rfl, rfl, by decide +kernel, rfl, by decide +kernel, by decide +kernel⟩
def stPos : Stmt->Pos
  | .FunctionDef _ _ _ _ _ _ _ _ _ p => p
  | _ => ⟨0, 0, 0, 0⟩
theorem gNameA {k : Nat} {x : V} {σ : St} (σ' : St) {H : Hp} {N : St->Hp->Prop} (h : N σ' H) (e : σ.set k (some x) = σ' := by rfl) : gName k x σ H N := by subst e; exact h
theorem cutA {S1 R : TS} {D : Ends} {σ : St} {H : Hp} (Post : St->Hp->Prop) (h : ∀ N : St->Hp->Prop, (∀ σ' H', Post σ' H'->N σ' H')->S1 { D with nx := N } σ H) (hr : ∀ σ' H', Post σ' H'->R D σ' H') : tSeq S1 R D σ H := h (R D) hr
theorem if_no {c : TT} {t u : TS} {D : Ends} {σ : St} {H : Hp} (hc : ∀ Q : Bool->Hp->Prop, Q false H->c σ H Q) (h : u D σ H) : tIfS c t u D σ H := hc _ (iteF h)
theorem if_B {c : TT} {t u : TS} {D : Ends} {σ : St} {H : Hp} (b : Bool) (P : Hp->Prop) (hc : ∀ Q : Bool->Hp->Prop, (∀ H', P H'->Q b H')->c σ H Q) (ht : b = true->∀ H', P H'->t D σ H') (hu : b = false->∀ H', P H'->u D σ H') : tIfS c t u D σ H := hc _ fun H' p => by
  cases b with
  | true => exact iteT (ht rfl H' p)
  | false => exact iteF (hu rfl H' p)
theorem thaw_same {H H5 : Hp} {a : Addr} {u w : HO} (h : H a = some w) (s : Same (upd H a u) H5) : Same H (upd H5 a w) := fun b o e => by
  by_cases hb : b = a
  · subst hb; rw [upd_same, ← h]; exact e
  · rw [upd_ne hb]; exact s b o (by rw [upd_ne hb]; exact e)
theorem allI_ns : ∀ {fk : List (Key × V)}, AllI fk->∃ ns : List Int, fk.map (·.1) = ns.map Sum.inl
  | [], _ => ⟨[], rfl⟩
  | kv :: r, h => by
    obtain ⟨n, hn⟩ := h kv (by simp)
    obtain ⟨ns, e⟩ := allI_ns (fk := r) fun x hx => h x (by simp [hx])
    exact ⟨n :: ns, by rw [List.map_cons, List.map_cons, e, hn]⟩
theorem two_of {x y k : Int} (h0 : 0 ≤ k) (h1 : k < 2) : ∃ z, atI [V.int x, V.int y] k = some (V.int z) /\ (z = x ∨ z = y) := by
  have : k = 0 ∨ k = 1 := by omega
  rcases this with rfl | rfl
  · exact ⟨x, rfl, .inl rfl⟩
  · exact ⟨y, rfl, .inr rfl⟩
theorem ints_at {ds : List Int} {k : Int} (h0 : 0 ≤ k) (h1 : k < (ds.length : Int)) : ∃ z, atI (ds.map V.int) k = some (V.int z) /\ z ∈ ds := by
  obtain ⟨j, rfl⟩ : ∃ j : Nat, k = (j : Int) := ⟨k.toNat, by omega⟩
  have hj : j < ds.length := by omega
  exact ⟨ds[j], atI_nat (by rw [List.getElem?_map, List.getElem?_eq_getElem hj]; rfl), List.getElem_mem hj⟩
def sp_whole : Sp := fun vs H Q _ => ∃ n : Int, vs = [.int n] /\ Q (.bl true) H
def sp_numbers (C : Addr) : Sp := fun vs H Q _ => ∃ (p d : Addr) (fl : Int) (kvs : List (Key × V)) (ns : List Int), vs = [.ref p] /\ ShAt C H p d fl kvs /\ kvs.map (·.1) = ns.map Sum.inl /\ ns.length < 64 ∧
  ∀ (l : Addr) (ns' : List Int), H l = none->ns'.Perm ns->ns'.Pairwise (· ≤ ·)->Q (.ref l) (upd H l (.lst (ns'.map V.int)))
theorem if_any {c : TT} {t u : TS} {D : Ends} {σ : St} {H : Hp} (hc : ∀ Q : Bool->Hp->Prop, Q true H->Q false H->c σ H Q) (ht : t D σ H) (hu : u D σ H) : tIfS c t u D σ H := hc _ (iteT ht) (iteF hu)
theorem keepD {H H' : Hp} {d : Addr} {u : HO} (s : Same (upd H d u) H') : Keep [d] H H' := fun b o e hb => s b o (by rw [upd_ne (by simpa using hb)]; exact e)
theorem if_PQ {c : TT} {t u : TS} {D : Ends} {σ : St} {H : Hp} (PT PF : Hp->Prop) (hc : ∀ Q : Bool->Hp->Prop, (∀ H', PT H'->Q true H')->(∀ H', PF H'->Q false H')->c σ H Q) (ht : ∀ H', PT H'->t D σ H') (hu : ∀ H', PF H'->u D σ H') : tIfS c t u D σ H := hc _ (fun H' p => iteT (ht H' p)) fun H' p => iteF (hu H' p)
def xorAt (rows : List (Nat × Nat)) (i bt : Nat) : List (Nat × Nat) := rows.modify i fun r => (r.1, r.2 ^^^ bt)
theorem xorAt_len (rows : List (Nat × Nat)) (i bt : Nat) : (xorAt rows i bt).length = rows.length := by simp [xorAt]
theorem xorAt_get {rows : List (Nat × Nat)} {i bt : Nat} {r : Nat × Nat} (h : rows[i]? = some r) : xorAt rows i bt = rows.set i (r.1, r.2 ^^^ bt) := by
  unfold xorAt
  apply List.ext_getElem?
  intro j
  rw [List.getElem?_modify, List.getElem?_set]
  by_cases e : i = j
  · subst e
    obtain ⟨hl, he⟩ := List.getElem?_eq_some_iff.mp h
    simp [hl, he]
  · simp [e]
theorem rows_set {H : Hp} {L : List V} {rows : List (Nat × Nat)} (R : RowsAt H L rows) {t : Addr} {r : Nat × Nat} {i : Nat} (h : H t = some (.tup [.int (r.1 : Int), .int (r.2 : Int)])) : RowsAt H (L.set i (.ref t)) (rows.set i r) :=
  ⟨by simp [R.len], fun j v e => by
    rw [List.getElem?_set] at e
    by_cases ej : i = j
    · subst ej
      rw [if_pos rfl] at e
      split at e
      · rename_i hl
        have e : V.ref t = v := by simpa using e
        exact ⟨t, r, e.symm, by rw [List.getElem?_set, if_pos rfl, if_pos (by rw [← R.len]; exact hl)], h⟩
      · cases e
    · rw [if_neg ej] at e
      obtain ⟨u, r', a, b, c⟩ := R.get j v e
      exact ⟨u, r', a, by rw [List.getElem?_set, if_neg ej]; exact b, c⟩⟩
def sp_wr (CW CG : Addr) (wh : Bool) : Sp := fun vs H Q _ => ∃ (p : Addr) (b d : Nat) (rows : List (Nat × Nat)) (c : Int) (l : Addr) (L : List V) (rows2 : List (Nat × Nat)), vs = [.ref p, .ref l] /\ PAt CW CG H p wh b d rows c /\ H l = some (.lst L) /\ RowsAt H L rows2 /\ rows2.length ≤ 100 /\ ∀ p2 H', PAt CW CG H' p2 wh b d rows2 c->H p2 = none->Same H H'->Q (.ref p2) H'
def sp_harm (CW CG CN : Addr) : Sp := fun vs H Q E => ∃ (p : Addr) (wh : Bool) (b d : Nat) (rows : List (Nat × Nat)) (c ai : Int) (bt : Nat), vs = [.ref p, .int ai, .int (bt : Int)] /\ PAt CW CG H p wh b d rows c /\ rows.length ≤ 100 ∧
  (∀ i : Nat, ai = (i : Int)->i < rows.length->∀ p2 H', PAt CW CG H' p2 wh b d (xorAt rows i bt) c->H p2 = none->Same H H'->Q (.ref p2) H') ∧
  (¬ (0 ≤ ai /\ ai < (rows.length : Int))->∀ e H', ExcAt H' e CN [("place", .int ai)]->Same H H'->E (.ref CN) (some e) H')
theorem PAt.of0 {CW CG : Addr} {H : Hp} {p : Addr} {b d : Nat} {rows : List (Nat × Nat)} {c : Int} (h : PAt CW CG H p true 0 d rows c) : PAt CW CG H p true b d rows c := h
abbrev LiesC := Int->Option PcU
theorem st_wh {u : PcU} (h : u.wh = true) : u.st = -1 := by unfold PcU.st stN; rw [h]; rfl
theorem st_g {u : PcU} (h : u.wh = false) : u.st = (u.b : Int) := by unfold PcU.st stN; rw [h]; show (((u.b + 1 : Nat) : Int) - 1) = _; omega
theorem keys_rise {Pr : V->PcU->Prop} {kvs : List (Key × V)} {M : LiesC} (h : DRep Pr kvs M) {ns ms : List Int} (e : kvs.map (·.1) = ns.map Sum.inl) (p : ms.Perm ns) (s : ms.Pairwise (· ≤ ·)) : ms.Pairwise (· < ·) := by
  have hn := h.nd
  rw [e] at hn
  have : ns.Nodup := (List.pairwise_map.mp hn).imp fun a b => a (congrArg Sum.inl b)
  exact (s.and (p.nodup_iff.mpr this)).imp fun ⟨a, b⟩ => by omega
def sp_drawn : Sp := fun vs H Q _ => ∃ (c : Int) (m : Nat), vs = [.int c, .int (m : Int)] /\ m ≤ 20 /\ ∀ (l : Addr) (xs : List Int) H', H' l = some (.lst (xs.map V.int))->H l = none->xs.length = m->(∀ x ∈ xs, (0 : Int) ≤ x /\ x < 2147483647)->Same H H'->Q (.ref l) H'
def sp_cost (CW CG f : Addr) : Sp := fun vs H Q _ => ∃ (p : Addr) (wh : Bool) (b d : Nat) (rows : List (Nat × Nat)) (c seek each : Int), vs = [.ref p] /\ (0 ≤ each /\ each < 10 ^ 30 /\ rows.length ≤ 100) /\ MadeAt "cost" "rate.<locals>.cost" (defArgs s_cost) (defBody s_cost) (defScope s_cost) ["seek", "each"] H f [.int seek, .int each] /\ PAt CW CG H p wh b d rows c /\ Q (.int (seek + each * (rows.length : Int))) H
def LamAt (H : Hp) (f : Addr) : Prop := ∃ (pm : Value) (c' : Addr) (ctv : Value), H f = some (FnO f (PySem.W.kla_fn "<lambda>" "law.<locals>.<lambda>" (lamArgs e_lam) (lamBody e_lam) (lamScope e_lam) [] pm (.ref c') ctv)) /\ H c' = some (CodeO c' "law.<locals>.<lambda>")
def sp_lam (CW CG f : Addr) : Sp := fun vs H Q _ => ∃ (p : Addr) (wh : Bool) (b d : Nat) (rows : List (Nat × Nat)) (c : Int), vs = [.ref p] /\ rows.length ≤ 100 /\ LamAt H f /\ PAt CW CG H p wh b d rows c /\ Q (.int (7 + 2 * (rows.length : Int) + 3 * (d : Int))) H
def sp_fn (CW CG f : Addr) : Sp := fun vs H Q E => sp_cost CW CG f vs H Q E ∨ sp_lam CW CG f vs H Q E
def CostAt (H : Hp) (g : Addr) (pr : PcU->Int) : Prop := (∃ seek each : Int, (0 ≤ each /\ each < 10 ^ 30) /\ MadeAt "cost" "rate.<locals>.cost" (defArgs s_cost) (defBody s_cost) (defScope s_cost) ["seek", "each"] H g [.int seek, .int each] /\ ∀ u, pr u = seek + each * (u.rows.length : Int)) ∨ (LamAt H g /\ ∀ u, pr u = 7 + 2 * (u.rows.length : Int) + 3 * (u.d : Int))
theorem LamAt.same {H H' : Hp} {f : Addr} (h : LamAt H f) (s : Same H H') : LamAt H' f := let ⟨pm, c', ctv, h1, h2⟩ := h; ⟨pm, c', ctv, s _ _ h1, s _ _ h2⟩
theorem CostAt.keepE {H H' : Hp} {g : Addr} {pr : PcU->Int} (h : CostAt H g pr) (k : ∀ b φ, H b = some (.ext φ)->H' b = some (.ext φ)) : CostAt H' g pr := by
  rcases h with ⟨sk, ea, h0, h1, h2⟩ | ⟨⟨pm, c', ctv, h3, h4⟩, h2⟩
  · exact .inl ⟨sk, ea, h0, MadeAt.same h1 k, h2⟩
  · exact .inr ⟨⟨pm, c', ctv, k _ _ h3, k _ _ h4⟩, h2⟩
theorem CostAt.same {H H' : Hp} {g : Addr} {pr : PcU->Int} (h : CostAt H g pr) (s : Same H H') : CostAt H' g pr := by
  rcases h with ⟨sk, ea, h0, h1, h2⟩ | ⟨h1, h2⟩
  · exact .inl ⟨sk, ea, h0, MadeAt.same h1 (fun b φ e => s b _ e), h2⟩
  · exact .inr ⟨LamAt.same h1 s, h2⟩
theorem CostAt.ask {CW CG : Addr} {H : Hp} {g p : Addr} {pr : PcU->Int} {u : PcU} {Q : VK} {E : XK} (h : CostAt H g pr) (hP : PAt CW CG H p u.wh u.b u.d u.rows u.c) (hl : u.rows.length ≤ 100) (q : Q (.int (pr u)) H) : sp_fn CW CG g [.ref p] H Q E := by
  rcases h with ⟨sk, ea, h0, h1, h2⟩ | ⟨h1, h2⟩
  · exact .inl ⟨p, _, _, _, _, _, sk, ea, rfl, ⟨h0.1, h0.2, hl⟩, h1, hP, by rw [← h2 u]; exact q⟩
  · exact .inr ⟨p, _, _, _, _, _, rfl, hl, h1, hP, by rw [← h2 u]; exact q⟩
theorem CostAt.fn {H : Hp} {g : Addr} {pr : PcU->Int} (h : CostAt H g pr) : ∃ fd, H g = some (FnO g fd) := by
  rcases h with ⟨_, _, _, ⟨_, _, _, _, _, h1, _⟩, _⟩ | ⟨⟨_, _, _, h1, _⟩, _⟩
  · exact ⟨_, h1⟩
  · exact ⟨_, h1⟩
def cellI (ns : List Int) (k : Int) : Int := if k < (ns.length : Int) then ns.getD k.toNat 0 else 0
def sp_cell (K : PySem.W.Frag) : Sp := fun vs H Q _ => ∃ (a : Addr) (ns : List Int) (k : Nat), vs = [.ref a, .int (k : Int)] /\ SqL K H a (ns.map V.int) /\ Q (.int (cellI ns k)) H
def badI (u : PcU) : Int := if u.good = true then 0 else 1
def legU (n : Int) (u : PcU) (pr : PcU->Int) : List Int := [n, u.st, (u.d : Int), badI u, pr u]
structure LegsOf (H : Hp) (LV : List V) (M : LiesC) (ns : List Int) (pr : PcU->Int) : Prop where
  len : LV.length = ns.length
  get : ∀ (i : Nat) v n, LV[i]? = some v->ns[i]? = some n->∃ t u, v = .ref t /\ M n = some u /\ H t = some (.tup ((legU n u pr).map V.int))
theorem LegsOf.mono {H H' : Hp} {LV : List V} {M : LiesC} {ns : List Int} {pr : PcU->Int} (h : LegsOf H LV M ns pr) (k : ∀ t xs, H t = some (.tup xs)->H' t = some (.tup xs)) : LegsOf H' LV M ns pr := ⟨h.len, fun i v n e1 e2 => let ⟨t, u, h1, h2, h3⟩ := h.get i v n e1 e2; ⟨t, u, h1, h2, k _ _ h3⟩⟩
theorem LegsOf.snoc {H : Hp} {LV : List V} {M : LiesC} {ns : List Int} {pr : PcU->Int} (h : LegsOf H LV M ns pr) {t : Addr} {n : Int} {u : PcU} (hM : M n = some u) (ht : H t = some (.tup ((legU n u pr).map V.int))) : LegsOf H (LV ++ [.ref t]) M (ns ++ [n]) pr :=
  ⟨by simp [h.len], fun i v m e1 e2 => by
    by_cases hi : i < LV.length
    · rw [List.getElem?_append_left hi] at e1
      rw [List.getElem?_append_left (by rw [← h.len]; exact hi)] at e2
      exact h.get i v m e1 e2
    · have hlt := (List.getElem?_eq_some_iff.mp e1).1
      have : i = LV.length := by simp at hlt; omega
      subst this
      rw [List.getElem?_append_right (Nat.le_refl _)] at e1
      rw [h.len, List.getElem?_append_right (Nat.le_refl _)] at e2
      simp at e1 e2
      subst e1 e2
      exact ⟨t, u, rfl, hM, ht⟩⟩
def SortOf (M : LiesC) (ns : List Int) : Prop := ns.Pairwise (· < ·) /\ ∀ n, n ∈ ns ↔ (M n).isSome = true
def sp_legsof (C CW CG : Addr) : Sp := fun vs H Q _ => ∃ (p d g : Addr) (fl : Int) (kvs : List (Key × V)) (M : LiesC) (pr : PcU->Int), vs = [.ref p, .ref g] /\ ShAt C H p d fl kvs /\ DRep (PieceC CW CG H) kvs M /\ kvs.length < 64 /\ CostAt H g pr /\ (∀ n u, M n = some u->u.rows.length ≤ 100) ∧
  ∀ l LV ns H', H' l = some (.lst LV)->H l = none->SortOf M ns->LegsOf H' LV M ns pr->Same H H'->Q (.ref l) H'
def LV33 (H : Hp) (v : V) (u : PcU) : Prop := ∃ t : Addr, v = .ref t /\ H t = some (.tup [.int u.st, .int (u.d : Int), .int (badI u), .int (u.rows.length : Int)]) /\ u.rows.length ≤ 100
theorem LV33.keep {H H' : Hp} {v : V} {u : PcU} (h : LV33 H v u) (s : Same H H') : LV33 H' v u := let ⟨t, h1, h2, h3⟩ := h; ⟨t, h1, s _ _ h2, h3⟩
def KyAt (H : Hp) (LV : List V) (ks : List (List Int)) : Prop := LV.length = ks.length /\ ∀ (i : Nat) v k, LV[i]? = some v->ks[i]? = some k->∃ t, v = .ref t /\ H t = some (.tup (k.map V.int))
def sp_rows33 : Sp := fun vs H Q _ => ∃ (c : Int) (wd : Nat) (fu : Bool), vs = [.int c, .int (wd : Int), .bl fu] /\ wd ≤ 40 /\ ∀ l L rows H', H' l = some (.lst L)->H l = none->RowsAt H' L rows->rows.length ≤ wd->(∀ r ∈ rows, r.1 < wd /\ r.2 < 2 ^ 64)->Same H H'->Q (.ref l) H'
def sp_made33 (CW CG : Addr) : Sp := fun vs H Q _ => ∃ (c : Int) (wd : Nat), vs = [.int c, .int (wd : Int)] /\ wd ≤ 40 /\ ∀ l a t u H', H' l = some (.lst [.ref a, .ref t])->PieceC CW CG H' (.ref a) u->LV33 H' (.ref t) u->u.rows.length ≤ 40->Same H H'->Q (.ref l) H'
def sp_alike33 : Sp := fun vs H Q _ => ∃ (f e : Addr) (LV LW : List V) (ks : List (List Int)), vs = [.ref f, .ref e] /\ H f = some (.lst LV) /\ H e = some (.lst LW) /\ KyAt H LV ks /\ KyAt H LW ks /\ (∀ k ∈ ks, k.length = 5) /\ ks.length ≤ 100 /\ ∀ H', Same H H'->Q (.bl true) H'
def sp_due33 : Sp := fun vs H Q _ => ∃ (ld : Addr) (lkv : List (Key × V)) (M : LiesC) (sk ea la : Int), vs = [.ref ld, .int sk, .int ea, .int la] /\ (0 ≤ la /\ la ≤ 3) /\ H ld = some (.dK lkv) /\ DRep (LV33 H) lkv M /\ lkv.length < 64 /\ ∀ l LV ns H', H' l = some (.lst LV)->H l = none->SortOf M ns->LegsOf H' LV M ns (fun u => sk + ea * (u.rows.length : Int) + la * (u.d : Int))->Same H H'->Q (.ref l) H'
def sp_rated33 (C CW CG : Addr) : Sp := fun vs H Q _ => ∃ (p d ld g1 g2 : Addr) (fl : Int) (kvs lkv : List (Key × V)) (M : LiesC) (sk ea : Int), vs = [.ref p, .ref ld, .ref g1, .ref g2, .int sk, .int ea] /\ ShAt C H p d fl kvs /\ DRep (PieceC CW CG H) kvs M /\ H ld = some (.dK lkv) /\ DRep (LV33 H) lkv M /\ lkv.length < 64 /\ d ≠ ld /\ CostAt H g1 (fun u => sk + ea * (u.rows.length : Int)) /\ CostAt H g2 (fun u => ea + sk * (u.rows.length : Int)) /\ ∀ H', Same H H'->Q (.bl true) H'
def sp_filled33 (K : PySem.W.Frag) (C CW CG : Addr) : Sp := fun vs H Q _ => ∃ (H0 : Hp) (a p d : Addr) (ns : List Int) (wd : Nat), vs = [.ref a, .int (wd : Int), .ref p] /\ SqL K H a (ns.map V.int) /\ ns.length ≤ 63 /\ wd ≤ 40 /\ Same H0 H /\ H0 p = none /\ H0 d = none /\ ShAt C H p d 0 [] ∧
  ∀ ld fl kvs lkv M H', Same H0 H'->ShAt C H' p d fl kvs->DRep (PieceC CW CG H') kvs M->H' ld = some (.dK lkv)->DRep (LV33 H') lkv M->kvs.length < 64->lkv.length < 64->d ≠ ld->(∀ n u, M n = some u->u.rows.length ≤ 40)->Q (.ref ld) H'
def sp_law (K : PySem.W.Frag) (tabs : List (Addr × Addr)) : Sp := fun vs H Q _ => ∃ (a : Addr) (ns : List Int), vs = [.ref a] /\ SqL K H a (ns.map V.int) /\ ns.length ≤ 63 /\ Tabs0 H tabs /\ ∀ H', Q (.bl true) H'
theorem PAt.cut {CW CG : Addr} {H : Hp} {p : Addr} {wh : Bool} {b d : Nat} {rows : List (Nat × Nat)} {c : Int} {cs : List Addr} (h : PAt CW CG H p wh b d rows c) (hc : AllExt cs H) : PAt CW CG (cutH cs H) p wh b d rows c := by
  obtain ⟨dx, r, R, h1, h2, h3⟩ := h
  exact ⟨dx, r, R, by rw [cut_out (hc.out h1 (by intro φ z; cases z))]; exact h1, by rw [cut_out (hc.out h2 (by intro φ z; cases z))]; exact h2, h3.mono fun t xs e => by rw [cut_out (hc.out e (by intro φ z; cases z))]; exact e⟩
def ksOf (M : LiesC) (pr : PcU->Int) (ns : List Int) : List (List Int) := ns.map fun n => match M n with | some u => legU n u pr | none => []
theorem LegsOf.ky {H : Hp} {LV : List V} {M : LiesC} {ns : List Int} {pr pr' : PcU->Int} (h : LegsOf H LV M ns pr) (e : ∀ u, pr u = pr' u) : KyAt H LV (ksOf M pr' ns) :=
  ⟨by unfold ksOf; rw [List.length_map]; exact h.len, fun i v k e1 e2 => by
    unfold ksOf at e2
    rw [List.getElem?_map] at e2
    obtain ⟨n, hn, rfl⟩ := Option.map_eq_some_iff.mp e2
    obtain ⟨t, u, h1, h2, h3⟩ := h.get i v n e1 hn
    refine ⟨t, h1, ?_⟩
    rw [h2]
    show H t = some (.tup ((legU n u pr').map V.int))
    rw [show legU n u pr' = legU n u pr by unfold legU; rw [e u]]
    exact h3⟩
theorem ks_five {M : LiesC} {pr : PcU->Int} {ns : List Int} (h : ∀ n ∈ ns, (M n).isSome = true) : ∀ k ∈ ksOf M pr ns, k.length = 5 := fun k hk => by
  unfold ksOf at hk
  obtain ⟨n, hn, rfl⟩ := List.mem_map.mp hk
  obtain ⟨u, hu⟩ := Option.isSome_iff_exists.mp (h n hn)
  rw [hu]; rfl
theorem SortOf.eq {M : LiesC} {ns ms : List Int} (h : SortOf M ns) (h2 : SortOf M ms) : ns = ms := rise_ext h.1 h2.1 fun x => by rw [h.2, h2.2]
theorem PAt.keepT {CW CG : Addr} {H H' : Hp} {p T : Addr} {wh : Bool} {b d : Nat} {rows : List (Nat × Nat)} {c : Int} {ps : Array Value} (h : PAt CW CG H p wh b d rows c) (hT : H T = some (.tbl ps)) (k : Keep [T] H H') : PAt CW CG H' p wh b d rows c := by
  obtain ⟨dx, r, R, h1, h2, h3⟩ := h
  exact ⟨dx, r, R, k _ _ h1 (by simpa using ne_of h1 hT (by intro z; cases z)), k _ _ h2 (by simpa using ne_of h2 hT (by intro z; cases z)), h3.mono fun t xs e => k _ _ e (by simpa using ne_of e hT (by intro z; cases z))⟩
theorem PieceC.keepT {CW CG : Addr} {H H' : Hp} {v : V} {u : PcU} {T : Addr} {ps : Array Value} (h : PieceC CW CG H v u) (hT : H T = some (.tbl ps)) (k : Keep [T] H H') : PieceC CW CG H' v u := let ⟨a, h1, h2, h3⟩ := h; ⟨a, h1, PAt.keepT h2 hT k, h3⟩
theorem LV33.keepT {H H' : Hp} {v : V} {u : PcU} {T : Addr} {ps : Array Value} (h : LV33 H v u) (hT : H T = some (.tbl ps)) (k : Keep [T] H H') : LV33 H' v u := let ⟨t, h1, h2, h3⟩ := h; ⟨t, h1, k _ _ h2 (by simpa using ne_of h2 hT (by intro z; cases z)), h3⟩
theorem ShAt.keepT {C : Addr} {H H' : Hp} {p d T : Addr} {fl : Int} {kvs : List (Key × V)} {ps : Array Value} (h : ShAt C H p d fl kvs) (hT : H T = some (.tbl ps)) (k : Keep [T] H H') : ShAt C H' p d fl kvs := let ⟨dx, h1, h2⟩ := h; ⟨dx, k _ _ h1 (by simpa using ne_of h1 hT (by intro z; cases z)), k _ _ h2 (by simpa using ne_of h2 hT (by intro z; cases z))⟩
theorem three33 (x : Int) : ∃ m : Int, atI [V.int 10, V.int 1000, V.int (1000000000000000000000000 + 1)] (x % 3) = some (V.int m) /\ 0 < m /\ m ≤ 10 ^ 24 + 1 := by
  rcases (show x % 3 = 0 ∨ x % 3 = 1 ∨ x % 3 = 2 by omega) with h | h | h <;> rw [h]
  · exact ⟨10, rfl, by decide, by decide⟩
  · exact ⟨1000, rfl, by decide, by decide⟩
  · exact ⟨_, rfl, by decide, by decide⟩
theorem SqL.keepT {K : PySem.W.Frag} {H H' : Hp} {a T : Addr} {xs : List V} {ps : Array Value} (h : SqL K H a xs) (hT : H T = some (.tbl ps)) (k : Keep [T] H H') : SqL K H' a xs := by
  rcases h with (h | ⟨o, h⟩) | h
  · exact .inl (.inl (k _ _ h (by simpa using ne_of h hT (by intro z; cases z))))
  · exact .inl (.inr ⟨o, k _ _ h (by simpa using ne_of h hT (by intro z; cases z))⟩)
  · exact .inr h
theorem flat_lt : ∀ {rows : List (Nat × Nat)}, (∀ r ∈ rows, r.1 < 2 ^ 64 /\ r.2 < 2 ^ 64)->∀ n ∈ flat rows, n < 2 ^ 64
  | [], _, n, hn => by simp [flat] at hn
  | r :: rs, h, n, hn => by
    have h1 := h r (by simp)
    have h2 := flat_lt (rows := rs) fun x hx => h x (List.mem_cons_of_mem _ hx)
    have : n = r.1 ∨ n = r.2 ∨ n ∈ flat rs := by simpa [flat] using hn
    rcases this with rfl | rfl | h3
    · exact h1.1
    · exact h1.2
    · exact h2 n h3
theorem harm_bad {u : PcU} {i bt : Nat} (hg : u.c = (ckOf u.wh u.b u.d u.rows : Nat)) (hi : i < u.rows.length) (hb : u.b < 2 ^ 63) (hd : u.d < 2 ^ 63) (hr : ∀ r ∈ u.rows, r.1 < 2 ^ 64 /\ r.2 < 2 ^ 64) (h0 : bt ≠ 0) (h1 : bt < 2 ^ 64) : ({ u with rows := xorAt u.rows i bt } : PcU).good = false := by
  obtain ⟨⟨pl, x⟩, hx⟩ : ∃ r, u.rows[i]? = some r := ⟨_, List.getElem?_eq_getElem hi⟩
  have hx64 := (hr _ (List.mem_of_getElem? hx)).2
  unfold PcU.good
  apply decide_eq_false
  show ¬ (u.c = (ckOf u.wh u.b u.d (xorAt u.rows i bt) : Nat))
  rw [hg, xorAt_get hx]
  intro e
  refine ck_block hx (by cases u.wh <;> (unfold stN; dsimp only [cond]; omega)) (by omega) (flat_lt hr) (Nat.xor_lt_two_pow hx64 h1) (fun e => h0 ?_) (Int.ofNat_inj.mp e.symm)
  exact Chk.xor_cancel' (n := x) (by rw [← e, Nat.xor_zero])
theorem ne_nil33 {K : PySem.W.Frag} {H : Hp} {l m : Addr} {L : List V} (h1 : H l = some (.lst L)) (h2 : H m = some (.lst [])) : SeqEq K H (EqI K H 0) (.ref l) (.ref m) (decide (L = [])) := by
  cases L with
  | nil => exact ⟨l, m, [], [], fun _ => true, rfl, rfl, .inl ⟨SqL.of h1, SqL.of h2, rfl, fun j x y e => by simp at e, rfl⟩⟩
  | cons x r => exact ⟨l, m, x :: r, [], fun _ => true, rfl, rfl, .inr (.inl ⟨SqL.of h1, SqL.of h2, by simp, by simp⟩)⟩
theorem LV33.keepF {H H' : Hp} {v : V} {u : PcU} {F : List Addr} (h : LV33 H v u) (k : Keep F H H') (hF : NoPart H F) : LV33 H' v u := let ⟨t, h1, h2, h3⟩ := h; ⟨t, h1, k _ _ h2 (hF.tup h2), h3⟩
structure F33 (C CW CG : Addr) (H0 H : Hp) (p d ld : Addr) (fl : Int) (MS ML : LiesC) (kvs lkv : List (Key × V)) : Prop where
  same : Same H0 H
  sh : ShAt C H p d fl kvs
  sr : DRep (PieceC CW CG H) kvs MS
  ld_ : H ld = some (.dK lkv)
  lr : DRep (LV33 H) lkv ML
  fr : H0 p = none /\ H0 d = none /\ H0 ld = none
  dld : d ≠ ld
section
variable {C CW CG : Addr} {H0 H H' : Hp} {p d ld : Addr} {fl fl' : Int} {MS ML MS' ML' : LiesC} {kvs lkv kvs' lkv' : List (Key × V)}
theorem F33.keep (h : F33 C CW CG H0 H p d ld fl MS ML kvs lkv) (s : Same H H') : F33 C CW CG H0 H' p d ld fl MS ML kvs lkv := ⟨h.same.trans s, h.sh.keep s, h.sr.mono fun _ _ z => z.keep s, s _ _ h.ld_, h.lr.mono fun _ _ z => z.keep s, h.fr, h.dld⟩
theorem F33.part (h : F33 C CW CG H0 H p d ld fl MS ML kvs lkv) : NoPart H [p, d] := fun x hx => by
  obtain ⟨dx, h1, h2⟩ := h.sh
  simp only [List.mem_cons, List.not_mem_nil, or_false] at hx
  rcases hx with rfl | rfl
  · exact .inr ⟨C, dx, _, _, h1⟩
  · exact .inl ⟨_, h2⟩
theorem F33.shelf (h : F33 C CW CG H0 H p d ld fl MS ML kvs lkv) (k : Keep [p, d] H H') (hS : ShAt C H' p d fl' kvs') (hR : DRep (PieceC CW CG H') kvs' MS') : F33 C CW CG H0 H' p d ld fl' MS' ML kvs' lkv := by
  have hF := h.part
  obtain ⟨dx, h1, h2⟩ := h.sh
  have ldn : ld ∉ [p, d] := by
    simp only [List.mem_cons, List.not_mem_nil, or_false, not_or]
    exact ⟨ne_of h.ld_ h1 (by intro z; cases z), h.dld.symm⟩
  refine ⟨fun b o e => k b o (h.same b o e) ?_, hS, hR, k _ _ h.ld_ ldn, h.lr.mono fun _ _ z => z.keepF k hF, h.fr, h.dld⟩
  simp only [List.mem_cons, List.not_mem_nil, or_false, not_or]
  exact ⟨ne_of_none e h.fr.1, ne_of_none e h.fr.2.1⟩
theorem F33.lies (h : F33 C CW CG H0 H p d ld fl MS ML kvs lkv) (hR : DRep (LV33 H) lkv' ML') : F33 C CW CG H0 (upd H ld (.dK lkv')) p d ld fl MS ML' kvs lkv' := by
  obtain ⟨dx, h1, h2⟩ := h.sh
  have k : Keep [ld] H (upd H ld (.dK lkv')) := keep_upd Keep.refl (.inl (by simp))
  have hF : NoPart H [ld] := NoPart.one h.ld_
  have np : ∀ {b : Addr}, b ≠ ld->b ∉ [ld] := fun e => by simpa using e
  exact ⟨fun b o e => k b o (h.same b o e) (np (ne_of_none e h.fr.2.2)), ⟨dx, k _ _ h1 (np (ne_of h1 h.ld_ (by intro z; cases z))), k _ _ h2 (np h.dld)⟩, h.sr.mono fun _ _ z => z.keepF k hF, upd_same, hR.mono fun _ _ z => z.keepF k hF, h.fr, h.dld⟩
end
theorem cut33 (ns : List Int) : ∃ cs : List Int, cutV (ns.map V.int) (some 3) (some 43) = cs.map V.int /\ cs.length ≤ 40 := by
  refine ⟨(ns.drop (HT.sIx (ns.map V.int).length 0 (some ((3 : Nat) : Int)))).take (HT.sIx (ns.map V.int).length (ns.map V.int).length (some ((43 : Nat) : Int)) - HT.sIx (ns.map V.int).length 0 (some ((3 : Nat) : Int))), ?_, ?_⟩
  · unfold cutV
    rw [List.map_take, List.map_drop]
    rfl
  · rw [List.length_take, List.length_drop, HT.sIx_nat, HT.sIx_nat, List.length_map]
    omega
structure Txt (K : PySem.W.Frag) (mg : Str->Option Value) (t_W : Tok) (C_KeepError : Addr) (C_NoPlace : Addr) (C_NoPiece : Addr) (C_Piece : Addr) (C_Whole : Addr) (C_Gain : Addr) (C_Shelf : Addr) : Prop where
  m_W : mg "W" = some (.int 18446744073709551615 t_W)
  mg_KeepError : mg "KeepError" = some (.ref C_KeepError)
  x_KeepError : XCls K C_KeepError
  mg_NoPlace : mg "NoPlace" = some (.ref C_NoPlace)
  x_NoPlace : XCls K C_NoPlace
  n_NoPlace_place : NoAttr K C_NoPlace "place"
  mg_NoPiece : mg "NoPiece" = some (.ref C_NoPiece)
  x_NoPiece : XCls K C_NoPiece
  n_NoPiece_number : NoAttr K C_NoPiece "number"
  mg_Piece : mg "Piece" = some (.ref C_Piece)
  mg_Whole : mg "Whole" = some (.ref C_Whole)
  cl_Whole : Cls K C_Whole
  n_Whole_day : NoAttr K C_Whole "day"
  n_Whole_rows : NoAttr K C_Whole "rows"
  n_Whole_check : NoAttr K C_Whole "check"
  n_Whole_fits : NoAttr K C_Whole "fits"
  mg_Gain : mg "Gain" = some (.ref C_Gain)
  cl_Gain : Cls K C_Gain
  n_Gain_day : NoAttr K C_Gain "day"
  n_Gain_rows : NoAttr K C_Gain "rows"
  n_Gain_check : NoAttr K C_Gain "check"
  n_Gain_fits : NoAttr K C_Gain "fits"
  n_Gain_base : NoAttr K C_Gain "base"
  mg_Shelf : mg "Shelf" = some (.ref C_Shelf)
  cl_Shelf : Cls K C_Shelf
  n_Shelf_pieces : NoAttr K C_Shelf "pieces"
  n_Shelf_follows : NoAttr K C_Shelf "follows"
  b_len : mg "len" = none
  b_isinstance : mg "isinstance" = none
  b_int : mg "int" = none
  b_bool : mg "bool" = none
  b_list : mg "list" = none
  b_tuple : mg "tuple" = none
  b_range : mg "range" = none
  b_max : mg "max" = none
  b_sorted : mg "sorted" = none
  b_zip : mg "zip" = none
section
variable {cc_rate T_rate : Addr} {cc_law T_law : Addr} {P : Program} {w : World} {K : PySem.W.Frag} {mg : Str->Option Value} {base : Heap} {t_W : Tok} {C_KeepError : Addr} {C_NoPlace : Addr} {C_NoPiece : Addr} {C_Piece : Addr} {C_Whole : Addr} {C_Gain : Addr} {C_Shelf : Addr}
theorem ok_NoPlace___init__ {f : Addr} {fd : FuncData} (F : Fun K "__init__" "NoPlace.__init__" s_NoPlace___init__ f fd) (T : Txt K mg t_W C_KeepError C_NoPlace C_NoPiece C_Piece C_Whole C_Gain C_Shelf) : FnOk P w K mg base (CXx P w) 1 f fd ["self", "place"] (sp_x1 C_NoPlace "place") := by
  refine F.okX sc_NoPlace___init__ (fun vs H Q E h => ?_) (fun cdv A outer s H vs Q E hr h => ?_)
  · obtain ⟨p, y0, rfl, hp, q⟩ := h; rfl
  · obtain ⟨p, y0, rfl, hp, q⟩ := h
    refine ⟨_, (pss_one (ps_xfld1 (pv 0) (pv 1) rfl)), ?_⟩
    exact ⟨_, rfl, _, rfl, p, C_NoPlace, true, rfl, hp, T.x_NoPlace, T.n_NoPlace_place, fun dx hdx => q dx hdx⟩
theorem ok_NoPiece___init__ {f : Addr} {fd : FuncData} (F : Fun K "__init__" "NoPiece.__init__" s_NoPiece___init__ f fd) (T : Txt K mg t_W C_KeepError C_NoPlace C_NoPiece C_Piece C_Whole C_Gain C_Shelf) : FnOk P w K mg base (CXx P w) 1 f fd ["self", "number"] (sp_x1 C_NoPiece "number") := by
  refine F.okX sc_NoPiece___init__ (fun vs H Q E h => ?_) (fun cdv A outer s H vs Q E hr h => ?_)
  · obtain ⟨p, y0, rfl, hp, q⟩ := h; rfl
  · obtain ⟨p, y0, rfl, hp, q⟩ := h
    refine ⟨_, (pss_one (ps_xfld1 (pv 0) (pv 1) rfl)), ?_⟩
    exact ⟨_, rfl, _, rfl, p, C_NoPiece, true, rfl, hp, T.x_NoPiece, T.n_NoPiece_number, fun dx hdx => q dx hdx⟩
theorem ok_turned {f : Addr} {fd : FuncData} (F : Fun K "turned" "turned" s_turned f fd) (T : Txt K mg t_W C_KeepError C_NoPlace C_NoPiece C_Piece C_Whole C_Gain C_Shelf)  : FnOk P w K mg base (CXx P w) 1 f fd ["number"] (sp_turned) := by
  refine F.okX sc_turned (fun vs H Q E h => ?_) (fun cdv A outer s H vs Q E hr h => ?_)
  · obtain ⟨n, rfl, q⟩ := h; rfl
  obtain ⟨n, rfl, q⟩ := h
  refine ⟨_, (pss_one (ps_ret (pe_op op_add (pe_op op_mod (pe_op op_mul (pv 0) pe_int) (pe_op op_add (pe_glob (v := .int 18446744073709551615) rfl T.m_W ⟨_, rfl⟩) pe_int)) (pe_op op_fdivB (pv 0) (pe_powc (n := 144115188075855872)))))), ?_⟩
  refine ⟨_, rfl, _, _, rfl, rfl, .inr ⟨by first | decide | (dsimp only; decide), by first | decide | (dsimp only; decide)⟩, _, _, rfl, rfl, _, _, rfl, rfl, (by first | decide | (dsimp only; decide)), _, rfl, _, _, rfl, rfl, ⟨by first | decide | (dsimp only; decide), by first | decide | (dsimp only; decide)⟩, _, _, rfl, rfl, ?_⟩
  exact q
theorem ok_check_of {f : Addr} {fd : FuncData} (F : Fun K "check_of" "check_of" s_check_of f fd) (T : Txt K mg t_W C_KeepError C_NoPlace C_NoPiece C_Piece C_Whole C_Gain C_Shelf) (D_turned : DefX P w K mg base "turned" 1 ["number"] sp_turned) : FnOk P w K mg base (CXx P w) 2 f fd ["start", "day", "rows"] (sp_check) := by
  refine F.okX sc_check_of (fun vs H Q E h => ?_) (fun cdv A outer s H vs Q E hr h => ?_)
  · obtain ⟨s1, d, a, L, rows, rfl, hA, R, hlen, q⟩ := h; rfl
  obtain ⟨s1, d, a, L, rows, rfl, hA, R, hlen, q⟩ := h
  refine ⟨_, (pss_cons (ps_set (i := 3) sc_check_of.nd rfl (Or.inl rfl) (pe_lst (pa_cons (pe_op op_add (pv 0) pe_int) (pa_cons (pv 1) pa_nil))))
      (pss_cons (ps_for PassesOwn.leaving rfl (pi_or (pi_list (pv 2)) (pi_tup (pv 2))) (pg_tup rfl (pgs_cons (pg_name (i := 4) sc_check_of.nd rfl (Or.inl rfl)) (pgs_cons (pg_name (i := 5) sc_check_of.nd rfl (Or.inl rfl)) pgs_nil)))
      (pss_one (ps_expr (pe_bm PySem.F.plainAttrs_list PySem.F.slot_list_extend PySem.F.type_list_extend mt_extend (pv 3) (pa_cons (pe_lst (pa_cons (pv 4) (pa_cons (pv 5) pa_nil))) pa_nil)))))
      (pss_cons (ps_set (i := 6) sc_check_of.nd rfl (Or.inl rfl) pe_int)
      (pss_cons (ps_for PassesOwn.leaving rfl (pi_list (pv 3)) (pg_name (i := 7) sc_check_of.nd rfl (Or.inl rfl))
      (pss_one (ps_set (i := 6) sc_check_of.nd rfl (Or.inl rfl) (pe_op op_xor (pe_callS D_turned passesN (hr.mono (by decide)) rfl (pa_cons (pv 6) pa_nil)) (pv 7)))))
      (pss_one (ps_ret (pv 6))))))), ?_⟩
  refine ⟨_, rfl, _, _, rfl, rfl, _, rfl, (by show 2 ≤ sizeLine; decide), fun m hm => ?_⟩
  have nam : a ≠ m := hA.elim (fun h => ne_of_none h hm) (fun h => ne_of_none h hm)
  rcases hA with hA | hA
  · refine .inl ⟨_, rfl, a, rfl, ⟨_, SqL.of (by rw [upd_ne nam]; exact hA)⟩, for_list (K := K) (a := a) (xs := L) (fun i σ H2 => ∃ v4 v5 : Option V, σ = [some (.int ((s1 : Int) - 1)), some (.int (d : Int)), some (.ref a), some (.ref m), v4, v5, none, none] /\ Same H H2 ∧
      H2 m = some (.lst ((s1 :: d :: flat (rows.take i)).map fun z : Nat => V.int (z : Int))))
    ⟨none, none, rfl, Same.new hm, by rw [upd_same]; show some (HO.lst [V.int ((s1 : Int) - 1 + 1), V.int (d : Int)]) = _; rw [Int.sub_add_cancel]; rfl⟩ (fun i σ H2 _ ⟨_, _, _, s2, _⟩ => SqL.of (s2 a _ hA)) ?_ ?_⟩
    · rintro i v σ H2 hi ⟨v4, v5, rfl, s2, h2⟩
      obtain ⟨t, r, rfl, hr2, ht⟩ := R.get i v hi
      have hil : i < rows.length := (List.getElem?_eq_some_iff.mp hr2).1
      refine ⟨t, _, rfl, SqT.of (s2 t _ ht), rfl, _, _, rfl, _, _, rfl, rfl, ?_⟩
      refine ⟨_, rfl, .inl ⟨rfl, _, SqL.of h2⟩, _, rfl, _, rfl, (by show 2 ≤ sizeLine; decide), fun l hl => ?_⟩
      have nml : m ≠ l := ne_of_none h2 hl
      have hml : H l = none := s2.free hl
      refine ⟨m, l, _, _, rfl, rfl, (by rw [upd_ne nml]; exact h2), upd_same, ?_, ?_⟩
      · have e1 : (flat (rows.take i)).length = 2 * i := by rw [flat_len, List.length_take]; omega
        show _ ≤ sizeLine
        simp only [List.length_map, List.length_cons, e1, List.length_nil]
        exact Nat.le_of_lt (small1000 (by omega))
      · refine ⟨_, _, rfl, fun b o e => ?_, ?_⟩
        · rw [upd_ne (ne_of_none e hm), upd_ne (ne_of_none e hml)]; exact s2 b o e
        · rw [upd_same]
          have e : rows.take (i + 1) = rows.take i ++ [r] := by rw [List.take_add_one, hr2]; rfl
          rw [e, flat_snoc]; simp
    · rintro σ H2 ⟨v4, v5, rfl, s2, h2⟩
      have h2 : H2 m = some (.lst ((s1 :: d :: flat rows).map fun z : Nat => V.int (z : Int))) := by
        rw [h2, R.len, List.take_length]
      refine ⟨_, rfl, m, rfl, ⟨_, SqL.of h2⟩, for_list (K := K) (a := m) (xs := (s1 :: d :: flat rows).map fun z : Nat => V.int (z : Int)) (fun i σ H3 => ∃ v7 : Option V, σ = [some (.int ((s1 : Int) - 1)), some (.int (d : Int)), some (.ref a), some (.ref m), v4, v5, some (.int ((((s1 :: d :: flat rows).take i).foldl Chk.stp 0 : Nat) : Int)), v7] /\ H3 = H2)
        ⟨none, rfl, rfl⟩ (fun i σ H3 _ ⟨_, _, e⟩ => by rw [e]; exact SqL.of h2) ?_ ?_⟩
      · rintro i v σ H3 hi ⟨v7, rfl, rfl⟩
        rw [List.getElem?_map] at hi
        cases ez : (s1 :: d :: flat rows)[i]? with
        | none => rw [ez] at hi; cases hi
        | some z =>
          rw [ez] at hi
          have hi : V.int (z : Int) = v := Option.some.inj hi
          subst hi
          refine ⟨_, rfl, _, rfl, _, rfl, _, _, rfl, rfl, ?_⟩
          have e : Builtin.bitXor (tI ((((s1 :: d :: flat rows).take i).foldl Chk.stp 0 : Nat) : Int)) (z : Int) = ((((s1 :: d :: flat rows).take (i + 1)).foldl Chk.stp 0 : Nat) : Int) := by
            rw [tI_nat, xor_nat, List.take_add_one, ez]
            simp only [Option.toList, List.foldl_append, List.foldl_cons, List.foldl_nil]
            rfl
          exact ⟨some (V.int (z : Int)), by rw [← e]; rfl, rfl⟩
      · rintro σ H3 ⟨v7, rfl, rfl⟩
        refine ⟨_, rfl, ?_⟩
        rw [List.length_map, List.take_length]
        exact q H3 s2
  · refine .inr ⟨_, rfl, a, rfl, ⟨_, SqT.of (by rw [upd_ne nam]; exact hA)⟩, for_tup (K := K) (a := a) (xs := L) (fun i σ H2 => ∃ v4 v5 : Option V, σ = [some (.int ((s1 : Int) - 1)), some (.int (d : Int)), some (.ref a), some (.ref m), v4, v5, none, none] /\ Same H H2 ∧
      H2 m = some (.lst ((s1 :: d :: flat (rows.take i)).map fun z : Nat => V.int (z : Int))))
    ⟨none, none, rfl, Same.new hm, by rw [upd_same]; show some (HO.lst [V.int ((s1 : Int) - 1 + 1), V.int (d : Int)]) = _; rw [Int.sub_add_cancel]; rfl⟩ (fun i σ H2 _ ⟨_, _, _, s2, _⟩ => SqT.of (s2 a _ hA)) ?_ ?_⟩
    · rintro i v σ H2 hi ⟨v4, v5, rfl, s2, h2⟩
      obtain ⟨t, r, rfl, hr2, ht⟩ := R.get i v hi
      have hil : i < rows.length := (List.getElem?_eq_some_iff.mp hr2).1
      refine ⟨t, _, rfl, SqT.of (s2 t _ ht), rfl, _, _, rfl, _, _, rfl, rfl, ?_⟩
      refine ⟨_, rfl, .inl ⟨rfl, _, SqL.of h2⟩, _, rfl, _, rfl, (by show 2 ≤ sizeLine; decide), fun l hl => ?_⟩
      have nml : m ≠ l := ne_of_none h2 hl
      have hml : H l = none := s2.free hl
      refine ⟨m, l, _, _, rfl, rfl, (by rw [upd_ne nml]; exact h2), upd_same, ?_, ?_⟩
      · have e1 : (flat (rows.take i)).length = 2 * i := by rw [flat_len, List.length_take]; omega
        show _ ≤ sizeLine
        simp only [List.length_map, List.length_cons, e1, List.length_nil]
        exact Nat.le_of_lt (small1000 (by omega))
      · refine ⟨_, _, rfl, fun b o e => ?_, ?_⟩
        · rw [upd_ne (ne_of_none e hm), upd_ne (ne_of_none e hml)]; exact s2 b o e
        · rw [upd_same]
          have e : rows.take (i + 1) = rows.take i ++ [r] := by rw [List.take_add_one, hr2]; rfl
          rw [e, flat_snoc]; simp
    · rintro σ H2 ⟨v4, v5, rfl, s2, h2⟩
      have h2 : H2 m = some (.lst ((s1 :: d :: flat rows).map fun z : Nat => V.int (z : Int))) := by
        rw [h2, R.len, List.take_length]
      refine ⟨_, rfl, m, rfl, ⟨_, SqL.of h2⟩, for_list (K := K) (a := m) (xs := (s1 :: d :: flat rows).map fun z : Nat => V.int (z : Int)) (fun i σ H3 => ∃ v7 : Option V, σ = [some (.int ((s1 : Int) - 1)), some (.int (d : Int)), some (.ref a), some (.ref m), v4, v5, some (.int ((((s1 :: d :: flat rows).take i).foldl Chk.stp 0 : Nat) : Int)), v7] /\ H3 = H2)
        ⟨none, rfl, rfl⟩ (fun i σ H3 _ ⟨_, _, e⟩ => by rw [e]; exact SqL.of h2) ?_ ?_⟩
      · rintro i v σ H3 hi ⟨v7, rfl, rfl⟩
        rw [List.getElem?_map] at hi
        cases ez : (s1 :: d :: flat rows)[i]? with
        | none => rw [ez] at hi; cases hi
        | some z =>
          rw [ez] at hi
          have hi : V.int (z : Int) = v := Option.some.inj hi
          subst hi
          refine ⟨_, rfl, _, rfl, _, rfl, _, _, rfl, rfl, ?_⟩
          have e : Builtin.bitXor (tI ((((s1 :: d :: flat rows).take i).foldl Chk.stp 0 : Nat) : Int)) (z : Int) = ((((s1 :: d :: flat rows).take (i + 1)).foldl Chk.stp 0 : Nat) : Int) := by
            rw [tI_nat, xor_nat, List.take_add_one, ez]
            simp only [Option.toList, List.foldl_append, List.foldl_cons, List.foldl_nil]
            rfl
          exact ⟨some (V.int (z : Int)), by rw [← e]; rfl, rfl⟩
      · rintro σ H3 ⟨v7, rfl, rfl⟩
        refine ⟨_, rfl, ?_⟩
        rw [List.length_map, List.take_length]
        exact q H3 s2
theorem ok_Piece___init__ {f : Addr} {fd : FuncData} (F : Fun K "__init__" "Piece.__init__" s_Piece___init__ f fd) (T : Txt K mg t_W C_KeepError C_NoPlace C_NoPiece C_Piece C_Whole C_Gain C_Shelf) (D_check_of : DefX P w K mg base "check_of" 2 ["start", "day", "rows"] sp_check) : FnOk P w K mg base (CXx P w) 3 f fd ["self", "start", "day", "rows", "check"] (sp_pinit K) := by
  refine F.okX sc_Piece___init__ (fun vs H Q E h => ?_) (fun cdv A outer s H vs Q E hr h => ?_)
  · obtain ⟨p, C, dx, a, s1, d, L, rows, cv, c, rfl, hp, cl, n1, n2, n3, n4, hA, R, hlen, hcv, q⟩ := h; rfl
  obtain ⟨p, C, dx, a, s1, d, L, rows, cv, c, rfl, hp, cl, n1, n2, n3, n4, hA, R, hlen, hcv, q⟩ := h
  refine ⟨_, (pss_cons (ps_fld (pv 0) (pv 2) rfl)
      (pss_cons (ps_fld (pv 0) (pe_callTy call_tuple_of (by rfl) T.b_tuple PyProof.Rows.boot_tuple (pa_cons (pe_comp (N := ["place", "block"]) (k := 2) (cap := []) rfl rfl (pi_or (pi_list (pv 3)) (pi_tup (pv 3))) (fun _ _ _ _ => (pg_tupK (K := K) (n := 2) rfl rfl (pgs_cons (pg_name (i := 0) (show (["place", "block"] : List Str).Nodup from by decide +kernel) rfl (Or.inl rfl) (.inr rfl)) (pgs_cons (pg_name (i := 1) (show (["place", "block"] : List Str).Nodup from by decide +kernel) rfl (Or.inl rfl) (.inr rfl)) pgs_nil)))) (fun _ _ _ _ => pts_nil) (fun _ _ _ _ => (pe_tup (pa_cons (pv 0) (pa_cons (pv 1) pa_nil))))) pa_nil)) rfl)
      (pss_cons (ps_set (i := 5) sc_Piece___init__.nd rfl (Or.inl rfl) (pe_callS D_check_of passesN (hr.mono (by decide)) rfl (pa_cons (pv 1) (pa_cons (pv 2) (pa_cons (pe_fld (pv 0) rfl) pa_nil)))))
      (pss_cons (ps_fld (pv 0) (pe_ifExp (pt_cmpR op_isN (pv 4) pe_non (nomark _)) (pv 5) (pv 4)) rfl)
      (pss_one (ps_fld (pv 0) (pe_cmpR op_eq (pe_fld (pv 0) rfl) (pv 5) (nomark _)) rfl)))))), ?_⟩
  have npa : a ≠ p := by rcases hA with h | h <;> exact ne_of h hp (by intro z; cases z)
  refine ⟨_, rfl, _, rfl, p, C, dx, _, rfl, hp, cl, n1, (by show 0 < 1000; decide), ?_⟩
  have hp1 : upd H p (.ins C dx (putF "day" (V.int (d : Int)) [])) p = some (.ins C dx [("day", V.int (d : Int))]) := upd_same
  have k1 : Keep [p] H (upd H p (.ins C dx (putF "day" (V.int (d : Int)) []))) := keep_upd Keep.refl (.inl (by simp))
  generalize upd H p (.ins C dx (putF "day" (V.int (d : Int)) [])) = H1 at hp1 k1
  have hA1 : H1 a = some (.lst L) ∨ H1 a = some (.tup L) := hA.imp (fun h => k1 a _ h (by simpa using npa)) (fun h => k1 a _ h (by simpa using npa))
  have R1 : RowsAt H1 L rows := R.mono fun t xs e => k1 t _ e (by have := ne_of e hp (by intro z; cases z); simpa using this)
  rcases hA1 with hA1 | hA1
  · refine .inl ⟨_, rfl, a, rfl, ⟨_, SqL.of hA1⟩, fun D hD => ?_⟩
    refine comp_list D (K := K) (a := a) (xs := L) (fun i σ H5 ys => ∃ v v' : Option V, σ = [v, v'] /\ Same H1 H5 /\ H5 D = some (.lst ys) /\ RowsAt H5 ys (rows.take i)) ⟨none, none, rfl, Same.new hD, upd_same, ⟨rfl, fun i v e => by simp at e⟩⟩ (fun i σ H5 ys _ ⟨_, _, _, s5, _⟩ => SqL.of (s5 a _ hA1)) ?_ ?_
    · rintro i x σ H5 ys hi ⟨v, v', rfl, s5, hy, R5⟩
      obtain ⟨t, r, rfl, hr2, ht⟩ := R1.get i x hi
      refine ⟨t, _, rfl, SqT.of (s5 t _ ht), rfl, _, _, rfl, _, _, rfl, rfl, _, rfl, _, rfl, (by show 2 ≤ sizeLine; decide), fun t2 ht2 => ?_⟩
      have nD : D ≠ t2 := ne_of_none hy ht2
      refine ⟨by rw [upd_ne nD]; exact hy, (by rw [R5.len, List.length_take]; exact small1000 (by omega)), _, _, rfl, fun b o e => ?_, upd_same, ?_⟩
      · rw [upd_ne (ne_of_none e hD)]; exact Same.new ht2 b _ (s5 b _ e)
      · rw [List.take_add_one, hr2]
        refine (R5.mono fun b xs e => ?_).snoc ?_
        · rw [upd_ne (ne_of e hy (by intro z; cases z))]; exact Same.new ht2 b _ e
        · rw [upd_ne nD.symm, upd_same]
    · rintro σ H5 ys ⟨v, v', rfl, s5, hy, R5⟩
      rw [show rows.take L.length = rows by rw [R1.len, List.take_length]] at R5
      refine ⟨D, _, rfl, .inl ⟨SqL.of hy, fun r hr => ?_⟩⟩
      have hp5 := s5 p _ hp1
      have npr : p ≠ r := ne_of_none hp5 hr
      refine ⟨_, rfl, p, C, dx, _, rfl, Same.new hr p _ hp5, cl, n2, (by show 1 < 1000; decide), ?_⟩
      rw [put_rows]
      have hp6 : upd (upd H5 r (.tup ys)) p (.ins C dx [("day", V.int (d : Int)), ("rows", V.ref r)]) p = some (.ins C dx [("day", V.int (d : Int)), ("rows", V.ref r)]) := upd_same
      have hr6 : upd (upd H5 r (.tup ys)) p (.ins C dx [("day", V.int (d : Int)), ("rows", V.ref r)]) r = some (.tup ys) := by rw [upd_ne npr.symm, upd_same]
      have k6 : Keep [p] H5 (upd (upd H5 r (.tup ys)) p (.ins C dx [("day", V.int (d : Int)), ("rows", V.ref r)])) := keep_upd (Keep.of_same (Same.new hr)) (.inl (by simp))
      have R6 : RowsAt (upd (upd H5 r (.tup ys)) p (.ins C dx [("day", V.int (d : Int)), ("rows", V.ref r)])) ys rows := R5.mono fun t xs e => k6 t _ e (by have := ne_of e hp5 (by intro z; cases z); simpa using this)
      generalize upd (upd H5 r (.tup ys)) p (.ins C dx [("day", V.int (d : Int)), ("rows", V.ref r)]) = H6 at hp6 hr6 k6 R6
      have k06 : Keep [p] H H6 := fun b o e hb => k6 b o (s5 b o (k1 b o e hb)) hb
      have npr6 : r ≠ p := npr.symm
      refine ⟨_, rfl, _, rfl, _, rfl, p, C, dx, _, _, rfl, hp6, cl, n2, lk_rows, s1, d, r, ys, rows, rfl, .inr hr6, R6, hlen, fun H7 s7 => ?_⟩
      have last : Q V.non (upd (upd H7 p (.ins C dx [("day", V.int (d : Int)), ("rows", V.ref r), ("check", V.int c)])) p (.ins C dx (putF "fits" (V.bl (decide (V.int c = V.int ((Chk.chk (s1 :: d :: flat rows) : Nat) : Int)))) [("day", V.int (d : Int)), ("rows", V.ref r), ("check", V.int c)]))) := by
        rw [put_fits, upd_upd, decI]
        refine q r ys _ upd_same (by rw [upd_ne npr6]; exact s7 r _ hr6) (R6.mono fun t xs e => ?_) fun b o e hb => ?_
        · rw [upd_ne (ne_of e hp6 (by intro z; cases z))]; exact s7 t _ e
        · rw [upd_ne (by simpa using hb)]; exact s7 b _ (k06 b o e hb)
      rcases hcv with ⟨rfl, hc⟩ | rfl
      · subst hc
        refine ⟨_, rfl, rfl, _, rfl, ?_⟩
        refine iteY rfl ?_
        refine ⟨_, rfl, _, rfl, p, C, dx, _, rfl, s7 p _ hp6, cl, n3, (by show 2 < 1000; decide), ?_⟩
        rw [put_check]
        refine ⟨_, rfl, p, C, dx, _, _, rfl, upd_same, cl, n3, lk_check, _, rfl, rfl, _, rfl, p, C, dx, _, rfl, upd_same, cl, n4, (by show 3 < 1000; decide), ?_⟩
        exact last
      · refine ⟨_, rfl, rfl, _, rfl, ?_⟩
        refine iteN (by intro h; cases h) ?_
        refine ⟨_, rfl, _, rfl, p, C, dx, _, rfl, s7 p _ hp6, cl, n3, (by show 2 < 1000; decide), ?_⟩
        rw [put_check]
        refine ⟨_, rfl, p, C, dx, _, _, rfl, upd_same, cl, n3, lk_check, _, rfl, rfl, _, rfl, p, C, dx, _, rfl, upd_same, cl, n4, (by show 3 < 1000; decide), ?_⟩
        exact last
  · refine .inr ⟨_, rfl, a, rfl, ⟨_, SqT.of hA1⟩, fun D hD => ?_⟩
    refine comp_tup D (K := K) (a := a) (xs := L) (fun i σ H5 ys => ∃ v v' : Option V, σ = [v, v'] /\ Same H1 H5 /\ H5 D = some (.lst ys) /\ RowsAt H5 ys (rows.take i)) ⟨none, none, rfl, Same.new hD, upd_same, ⟨rfl, fun i v e => by simp at e⟩⟩ (fun i σ H5 ys _ ⟨_, _, _, s5, _⟩ => SqT.of (s5 a _ hA1)) ?_ ?_
    · rintro i x σ H5 ys hi ⟨v, v', rfl, s5, hy, R5⟩
      obtain ⟨t, r, rfl, hr2, ht⟩ := R1.get i x hi
      refine ⟨t, _, rfl, SqT.of (s5 t _ ht), rfl, _, _, rfl, _, _, rfl, rfl, _, rfl, _, rfl, (by show 2 ≤ sizeLine; decide), fun t2 ht2 => ?_⟩
      have nD : D ≠ t2 := ne_of_none hy ht2
      refine ⟨by rw [upd_ne nD]; exact hy, (by rw [R5.len, List.length_take]; exact small1000 (by omega)), _, _, rfl, fun b o e => ?_, upd_same, ?_⟩
      · rw [upd_ne (ne_of_none e hD)]; exact Same.new ht2 b _ (s5 b _ e)
      · rw [List.take_add_one, hr2]
        refine (R5.mono fun b xs e => ?_).snoc ?_
        · rw [upd_ne (ne_of e hy (by intro z; cases z))]; exact Same.new ht2 b _ e
        · rw [upd_ne nD.symm, upd_same]
    · rintro σ H5 ys ⟨v, v', rfl, s5, hy, R5⟩
      rw [show rows.take L.length = rows by rw [R1.len, List.take_length]] at R5
      refine ⟨D, _, rfl, .inl ⟨SqL.of hy, fun r hr => ?_⟩⟩
      have hp5 := s5 p _ hp1
      have npr : p ≠ r := ne_of_none hp5 hr
      refine ⟨_, rfl, p, C, dx, _, rfl, Same.new hr p _ hp5, cl, n2, (by show 1 < 1000; decide), ?_⟩
      rw [put_rows]
      have hp6 : upd (upd H5 r (.tup ys)) p (.ins C dx [("day", V.int (d : Int)), ("rows", V.ref r)]) p = some (.ins C dx [("day", V.int (d : Int)), ("rows", V.ref r)]) := upd_same
      have hr6 : upd (upd H5 r (.tup ys)) p (.ins C dx [("day", V.int (d : Int)), ("rows", V.ref r)]) r = some (.tup ys) := by rw [upd_ne npr.symm, upd_same]
      have k6 : Keep [p] H5 (upd (upd H5 r (.tup ys)) p (.ins C dx [("day", V.int (d : Int)), ("rows", V.ref r)])) := keep_upd (Keep.of_same (Same.new hr)) (.inl (by simp))
      have R6 : RowsAt (upd (upd H5 r (.tup ys)) p (.ins C dx [("day", V.int (d : Int)), ("rows", V.ref r)])) ys rows := R5.mono fun t xs e => k6 t _ e (by have := ne_of e hp5 (by intro z; cases z); simpa using this)
      generalize upd (upd H5 r (.tup ys)) p (.ins C dx [("day", V.int (d : Int)), ("rows", V.ref r)]) = H6 at hp6 hr6 k6 R6
      have k06 : Keep [p] H H6 := fun b o e hb => k6 b o (s5 b o (k1 b o e hb)) hb
      have npr6 : r ≠ p := npr.symm
      refine ⟨_, rfl, _, rfl, _, rfl, p, C, dx, _, _, rfl, hp6, cl, n2, lk_rows, s1, d, r, ys, rows, rfl, .inr hr6, R6, hlen, fun H7 s7 => ?_⟩
      have last : Q V.non (upd (upd H7 p (.ins C dx [("day", V.int (d : Int)), ("rows", V.ref r), ("check", V.int c)])) p (.ins C dx (putF "fits" (V.bl (decide (V.int c = V.int ((Chk.chk (s1 :: d :: flat rows) : Nat) : Int)))) [("day", V.int (d : Int)), ("rows", V.ref r), ("check", V.int c)]))) := by
        rw [put_fits, upd_upd, decI]
        refine q r ys _ upd_same (by rw [upd_ne npr6]; exact s7 r _ hr6) (R6.mono fun t xs e => ?_) fun b o e hb => ?_
        · rw [upd_ne (ne_of e hp6 (by intro z; cases z))]; exact s7 t _ e
        · rw [upd_ne (by simpa using hb)]; exact s7 b _ (k06 b o e hb)
      rcases hcv with ⟨rfl, hc⟩ | rfl
      · subst hc
        refine ⟨_, rfl, rfl, _, rfl, ?_⟩
        refine iteY rfl ?_
        refine ⟨_, rfl, _, rfl, p, C, dx, _, rfl, s7 p _ hp6, cl, n3, (by show 2 < 1000; decide), ?_⟩
        rw [put_check]
        refine ⟨_, rfl, p, C, dx, _, _, rfl, upd_same, cl, n3, lk_check, _, rfl, rfl, _, rfl, p, C, dx, _, rfl, upd_same, cl, n4, (by show 3 < 1000; decide), ?_⟩
        exact last
      · refine ⟨_, rfl, rfl, _, rfl, ?_⟩
        refine iteN (by intro h; cases h) ?_
        refine ⟨_, rfl, _, rfl, p, C, dx, _, rfl, s7 p _ hp6, cl, n3, (by show 2 < 1000; decide), ?_⟩
        rw [put_check]
        refine ⟨_, rfl, p, C, dx, _, _, rfl, upd_same, cl, n3, lk_check, _, rfl, rfl, _, rfl, p, C, dx, _, rfl, upd_same, cl, n4, (by show 3 < 1000; decide), ?_⟩
        exact last
theorem ok_Whole___init__ {f : Addr} {fd : FuncData} {dV : Value} (F : FunD K "__init__" "Whole.__init__" s_Whole___init__ f fd dV) (T : Txt K mg t_W C_KeepError C_NoPlace C_NoPiece C_Piece C_Whole C_Gain C_Shelf) (D_Piece___init__ : ClsX P w K mg base "Piece" C_Piece "__init__" 3 ["self", "start", "day", "rows", "check"] (sp_pinit K)) : FnOk P w K mg base (CXx P w) 4 f fd ["self", "day", "rows", "check"] (sp_winit C_Whole C_Gain) := by
  refine F.okX sc_Whole___init__ (fun vs H Q E h => ?_) (fun cdv A outer s H vs Q E hr h => ?_)
  · obtain ⟨p, dx, a, d, L, rows, cv, c, rfl, hp, hA, R, hlen, hcv, q⟩ := h; rfl
  obtain ⟨p, dx, a, d, L, rows, cv, c, rfl, hp, hA, R, hlen, hcv, q⟩ := h
  refine ⟨_, (pss_one (ps_expr (pe_clsS (pe_glob (v := .ref C_Piece) rfl T.mg_Piece rfl) D_Piece___init__ passesN (hr.mono (by decide)) (pa_cons (pv 0) (pa_cons (pe_un un_neg pe_int) (pa_cons (pv 1) (pa_cons (pv 2) (pa_cons (pv 3) pa_nil)))))))), ?_⟩
  refine ⟨_, rfl, _, rfl, _, rfl, _, rfl, _, rfl, p, C_Whole, dx, a, 0, d, L, rows, cv, c, rfl, hp, T.cl_Whole, T.n_Whole_day, T.n_Whole_rows, T.n_Whole_check, T.n_Whole_fits, hA, R, hlen, hcv, fun r Rr H1 h1 h2 h3 k1 => ?_⟩
  exact q H1 ⟨dx, r, Rr, h1, h2, h3⟩ k1
theorem ok_Gain___init__ {f : Addr} {fd : FuncData} {dV : Value} (F : FunD K "__init__" "Gain.__init__" s_Gain___init__ f fd dV) (T : Txt K mg t_W C_KeepError C_NoPlace C_NoPiece C_Piece C_Whole C_Gain C_Shelf) (D_Piece___init__ : ClsX P w K mg base "Piece" C_Piece "__init__" 3 ["self", "start", "day", "rows", "check"] (sp_pinit K)) : FnOk P w K mg base (CXx P w) 4 f fd ["self", "base", "day", "rows", "check"] (sp_ginit C_Whole C_Gain) := by
  refine F.okX sc_Gain___init__ (fun vs H Q E h => ?_) (fun cdv A outer s H vs Q E hr h => ?_)
  · obtain ⟨p, dx, a, b, d, L, rows, cv, c, rfl, hp, hA, R, hlen, hcv, q⟩ := h; rfl
  obtain ⟨p, dx, a, b, d, L, rows, cv, c, rfl, hp, hA, R, hlen, hcv, q⟩ := h
  refine ⟨_, (pss_cons (ps_expr (pe_clsS (pe_glob (v := .ref C_Piece) rfl T.mg_Piece rfl) D_Piece___init__ passesN (hr.mono (by decide)) (pa_cons (pv 0) (pa_cons (pv 1) (pa_cons (pv 2) (pa_cons (pv 3) (pa_cons (pv 4) pa_nil)))))))
      (pss_one (ps_fld (pv 0) (pv 1) rfl))), ?_⟩
  refine ⟨_, rfl, _, rfl, _, rfl, _, rfl, _, rfl, p, C_Gain, dx, a, b + 1, d, L, rows, cv, c, (by rw [show (((b + 1 : Nat) : Int) - 1) = (b : Int) by omega]), hp, T.cl_Gain, T.n_Gain_day, T.n_Gain_rows, T.n_Gain_check, T.n_Gain_fits, hA, R, hlen, hcv, fun r Rr H1 h1 h2 h3 k1 => ?_⟩
  refine ⟨_, rfl, _, rfl, p, C_Gain, dx, _, rfl, h1, T.cl_Gain, T.n_Gain_base, (by show 4 < 1000; decide), ?_⟩
  rw [put_base]
  refine q _ ⟨dx, r, Rr, upd_same, ?_, h3.mono fun t xs e => ?_⟩ (keep_upd k1 (.inl (by simp)))
  · rw [upd_ne (ne_of h2 h1 (by intro z; cases z))]; exact h2
  · rw [upd_ne (ne_of e h1 (by intro z; cases z))]; exact e
theorem ok_Whole_start {f : Addr} {fd : FuncData} (F : Fun K "start" "Whole.start" s_Whole_start f fd) (T : Txt K mg t_W C_KeepError C_NoPlace C_NoPiece C_Piece C_Whole C_Gain C_Shelf)  : FnOk P w K mg base (CXx P w) 1 f fd ["self"] (sp_wstart) := by
  refine F.okX sc_Whole_start (fun vs H Q E h => ?_) (fun cdv A outer s H vs Q E hr h => ?_)
  · obtain ⟨p, rfl, q⟩ := h; rfl
  obtain ⟨p, rfl, q⟩ := h
  refine ⟨_, (pss_one (ps_ret (pe_un un_neg pe_int))), ?_⟩
  exact ⟨_, rfl, q⟩
theorem ok_Gain_start {f : Addr} {fd : FuncData} (F : Fun K "start" "Gain.start" s_Gain_start f fd) (T : Txt K mg t_W C_KeepError C_NoPlace C_NoPiece C_Piece C_Whole C_Gain C_Shelf)  : FnOk P w K mg base (CXx P w) 1 f fd ["self"] (sp_gstart C_Whole C_Gain) := by
  refine F.okX sc_Gain_start (fun vs H Q E h => ?_) (fun cdv A outer s H vs Q E hr h => ?_)
  · obtain ⟨p, b, d, rows, c, rfl, ⟨dx, r, R, h1, h2, h3⟩, q⟩ := h; rfl
  obtain ⟨p, b, d, rows, c, rfl, ⟨dx, r, R, h1, h2, h3⟩, q⟩ := h
  refine ⟨_, (pss_one (ps_ret (pe_fld (pv 0) rfl))), ?_⟩
  exact ⟨_, rfl, p, C_Gain, dx, _, _, rfl, h1, T.cl_Gain, T.n_Gain_base, lk_base, q⟩
theorem ok_Piece_is_good {f : Addr} {fd : FuncData} (F : Fun K "is_good" "Piece.is_good" s_Piece_is_good f fd) (T : Txt K mg t_W C_KeepError C_NoPlace C_NoPiece C_Piece C_Whole C_Gain C_Shelf)  : FnOk P w K mg base (CXx P w) 3 f fd ["self"] (sp_good C_Whole C_Gain) := by
  refine F.okX sc_Piece_is_good (fun vs H Q E h => ?_) (fun cdv A outer s H vs Q E hr h => ?_)
  · obtain ⟨p, wh, b, d, rows, c, rfl, hP, hlen, q⟩ := h; rfl
  obtain ⟨p, wh, b, d, rows, c, rfl, hP, hlen, q⟩ := h
  refine ⟨_, (pss_one (ps_ret (pe_fld (pv 0) rfl))), ?_⟩
  obtain ⟨dx, r, R, h1, h2, h3⟩ := id hP
  cases wh
  · exact ⟨_, rfl, p, C_Gain, dx, _, _, rfl, h1, T.cl_Gain, T.n_Gain_fits, lk_fits, q H (Same.refl _)⟩
  · exact ⟨_, rfl, p, C_Whole, dx, _, _, rfl, h1, T.cl_Whole, T.n_Whole_fits, lk_fits, q H (Same.refl _)⟩
theorem ok_Piece_size {f : Addr} {fd : FuncData} (F : Fun K "size" "Piece.size" s_Piece_size f fd) (T : Txt K mg t_W C_KeepError C_NoPlace C_NoPiece C_Piece C_Whole C_Gain C_Shelf)  : FnOk P w K mg base (CXx P w) 1 f fd ["self"] (sp_size C_Whole C_Gain) := by
  refine F.okX sc_Piece_size (fun vs H Q E h => ?_) (fun cdv A outer s H vs Q E hr h => ?_)
  · obtain ⟨p, wh, b, d, rows, c, rfl, ⟨dx, r, R, h1, h2, h3⟩, q⟩ := h; rfl
  obtain ⟨p, wh, b, d, rows, c, rfl, ⟨dx, r, R, h1, h2, h3⟩, q⟩ := h
  refine ⟨_, (pss_one (ps_ret (pe_callB call_len_seq (by rfl) T.b_len PySem.boot_len (pa_cons (pe_fld (pv 0) rfl) pa_nil)))), ?_⟩
  rw [← h3.len] at q
  cases wh
  · exact ⟨_, rfl, p, C_Gain, dx, _, _, rfl, h1, T.cl_Gain, T.n_Gain_rows, lk_rows, r, R, rfl, .inr (SqT.of h2), q⟩
  · exact ⟨_, rfl, p, C_Whole, dx, _, _, rfl, h1, T.cl_Whole, T.n_Whole_rows, lk_rows, r, R, rfl, .inr (SqT.of h2), q⟩
theorem ok_Whole_with_rows {f : Addr} {fd : FuncData} (F : Fun K "with_rows" "Whole.with_rows" s_Whole_with_rows f fd) (T : Txt K mg t_W C_KeepError C_NoPlace C_NoPiece C_Piece C_Whole C_Gain C_Shelf) (D_Whole : MakeX P w K mg base "Whole" C_Whole 4 ["self", "day", "rows", "check"] (sp_winit C_Whole C_Gain)) : FnOk P w K mg base (CXx P w) 6 f fd ["self", "rows"] (sp_wr C_Whole C_Gain true) := by
  refine F.okX sc_Whole_with_rows (fun vs H Q E h => ?_) (fun cdv A outer s H vs Q E hr h => ?_)
  · obtain ⟨p, b, d, rows, c, l, L, rows2, rfl, hP, hl, R, hlen, q⟩ := h; rfl
  obtain ⟨p, b, d, rows, c, l, L, rows2, rfl, hP, hl, R, hlen, q⟩ := h
  refine ⟨_, (pss_one (ps_ret (pe_makeS D_Whole passesN (hr.mono (by decide)) rfl (pa_cons (pe_fld (pv 0) rfl) (pa_cons (pv 1) (pa_cons (pe_fld (pv 0) rfl) pa_nil)))))), ?_⟩
  have up : ∀ {x dx : Addr} {o : HO}, H x = none->H dx = none->∀ t o', H t = some o'->upd (upd H dx (.own x)) x o t = some o' := fun hx hd t o' e => by rw [upd_ne (ne_of_none e hx), upd_ne (ne_of_none e hd)]; exact e
  obtain ⟨dx, r, Rr, h1, h2, h3⟩ := id hP
  exact ⟨_, rfl, p, C_Whole, dx, _, _, rfl, h1, T.cl_Whole, T.n_Whole_day, lk_day, _, rfl, _, rfl, p, C_Whole, dx, _, _, rfl, h1, T.cl_Whole, T.n_Whole_check, lk_check, fun x dx2 hx hd ne => ⟨x, dx2, l, d, L, rows2, .int c, c, rfl, upd_same, .inl (up hx hd l _ hl), R.mono (fun t xs e => up hx hd t _ e), hlen, .inr rfl, fun H1 hP2 k1 => ⟨rfl, q x H1 (PAt.of0 hP2) hx (made_same hx hd k1)⟩⟩⟩
theorem ok_Gain_with_rows {f : Addr} {fd : FuncData} (F : Fun K "with_rows" "Gain.with_rows" s_Gain_with_rows f fd) (T : Txt K mg t_W C_KeepError C_NoPlace C_NoPiece C_Piece C_Whole C_Gain C_Shelf) (D_Gain : MakeX P w K mg base "Gain" C_Gain 4 ["self", "base", "day", "rows", "check"] (sp_ginit C_Whole C_Gain)) : FnOk P w K mg base (CXx P w) 6 f fd ["self", "rows"] (sp_wr C_Whole C_Gain false) := by
  refine F.okX sc_Gain_with_rows (fun vs H Q E h => ?_) (fun cdv A outer s H vs Q E hr h => ?_)
  · obtain ⟨p, b, d, rows, c, l, L, rows2, rfl, hP, hl, R, hlen, q⟩ := h; rfl
  obtain ⟨p, b, d, rows, c, l, L, rows2, rfl, hP, hl, R, hlen, q⟩ := h
  refine ⟨_, (pss_one (ps_ret (pe_makeS D_Gain passesN (hr.mono (by decide)) rfl (pa_cons (pe_fld (pv 0) rfl) (pa_cons (pe_fld (pv 0) rfl) (pa_cons (pv 1) (pa_cons (pe_fld (pv 0) rfl) pa_nil))))))), ?_⟩
  have up : ∀ {x dx : Addr} {o : HO}, H x = none->H dx = none->∀ t o', H t = some o'->upd (upd H dx (.own x)) x o t = some o' := fun hx hd t o' e => by rw [upd_ne (ne_of_none e hx), upd_ne (ne_of_none e hd)]; exact e
  obtain ⟨dx, r, Rr, h1, h2, h3⟩ := id hP
  exact ⟨_, rfl, p, C_Gain, dx, _, _, rfl, h1, T.cl_Gain, T.n_Gain_base, lk_base, _, rfl, p, C_Gain, dx, _, _, rfl, h1, T.cl_Gain, T.n_Gain_day, lk_day, _, rfl, _, rfl, p, C_Gain, dx, _, _, rfl, h1, T.cl_Gain, T.n_Gain_check, lk_check, fun x dx2 hx hd ne => ⟨x, dx2, l, b, d, L, rows2, .int c, c, rfl, upd_same, .inl (up hx hd l _ hl), R.mono (fun t xs e => up hx hd t _ e), hlen, .inr rfl, fun H1 hP2 k1 => ⟨rfl, q x H1 hP2 hx (made_same hx hd k1)⟩⟩⟩
theorem ok_Piece_harmed {f : Addr} {fd : FuncData} (F : Fun K "harmed" "Piece.harmed" s_Piece_harmed f fd) (T : Txt K mg t_W C_KeepError C_NoPlace C_NoPiece C_Piece C_Whole C_Gain C_Shelf) (D_NoPlace : ExcX P w K mg base "NoPlace" C_NoPlace 1 ["self", "place"] (sp_x1 C_NoPlace "place")) (D_Gain_with_rows : MethX P w K mg base C_Gain "with_rows" 6 ["self", "rows"] (sp_wr C_Whole C_Gain false)) (D_Whole_with_rows : MethX P w K mg base C_Whole "with_rows" 6 ["self", "rows"] (sp_wr C_Whole C_Gain true)) : FnOk P w K mg base (CXx P w) 7 f fd ["self", "at", "bits"] (sp_harm C_Whole C_Gain C_NoPlace) := by
  refine F.okX sc_Piece_harmed (fun vs H Q E h => ?_) (fun cdv A outer s H vs Q E hr h => ?_)
  · obtain ⟨p, wh, b, d, rows, c, ai, bt, rfl, hP, hlen, q1, q2⟩ := h; rfl
  obtain ⟨p, wh, b, d, rows, c, ai, bt, rfl, hP, hlen, q1, q2⟩ := h
  refine ⟨_, (pss_cons (ps_if (PW.pt (pw_or (pt_cmpR op_lt (pv 1) pe_int (nomark _)) (pw_or1 (pt_cmpR op_ge (pv 1) (pe_callB call_len_seq (by rfl) T.b_len PySem.boot_len (pa_cons (pe_fld (pv 0) rfl) pa_nil)) (nomark _))))) (pss_one (ps_raise rfl raisesB (pe_exc D_NoPlace (hr.mono (by decide)) rfl (pa_cons (pv 1) pa_nil)))) pss_nil)
      (pss_cons (ps_set (i := 3) sc_Piece_harmed.nd rfl (Or.inl rfl) (pe_callTy call_list_of (by rfl) T.b_list PyProof.Rows.boot_list (pa_cons (pe_fld (pv 0) rfl) pa_nil)))
      (pss_cons (ps_set (i := 4) sc_Piece_harmed.nd rfl (Or.inl rfl) (pe_ix ix_list (pv 3) (pv 1) (fun _ _ => rfl)))
      (pss_cons (ps_asg (pe_tup (pa_cons (pe_ix ix_tup (pv 4) pe_int (fun _ _ => rfl)) (pa_cons (pe_op op_xor (pe_ix ix_tup (pv 4) pe_int (fun _ _ => rfl)) (pv 2)) pa_nil))) (pg_sub (pv 3) (pv 1) set_list))
      (pss_one (ps_ret (pe_or2 (pe_methS (pv 0) T.cl_Whole D_Whole_with_rows passesN (hr.mono (by decide)) (pa_cons (pv 3) pa_nil)) (pe_methS (pv 0) T.cl_Gain D_Gain_with_rows passesN (hr.mono (by decide)) (pa_cons (pv 3) pa_nil))))))))), ?_⟩
  obtain ⟨dx, r, Rr, h1, h2, h3⟩ := id hP
  cases wh
  · refine ⟨_, rfl, _, _, rfl, rfl, _, rfl, ?_⟩
    by_cases a0 : ai < 0
    · refine iteY a0 ?_
      refine iteT ?_
      exact ⟨_, rfl, raise1 (E := E) T.x_NoPlace fun e H' he hs => q2 (by omega) e H' he hs⟩
    refine iteN a0 ?_
    refine ⟨_, rfl, _, rfl, p, C_Gain, dx, _, _, rfl, h1, T.cl_Gain, T.n_Gain_rows, lk_rows, r, Rr, rfl, .inr (SqT.of h2), _, _, rfl, rfl, _, rfl, ?_⟩
    by_cases a1 : ai ≥ (Rr.length : Int)
    · refine iteY a1 ?_
      rw [h3.len] at a1
      exact ⟨_, rfl, raise1 (E := E) T.x_NoPlace fun e H' he hs => q2 (by omega) e H' he hs⟩
    refine iteN a1 ?_
    rw [h3.len] at a1
    obtain ⟨i, rfl⟩ : ∃ i : Nat, ai = (i : Int) := ⟨ai.toNat, by omega⟩
    have hi : i < rows.length := by omega
    obtain ⟨v, hv⟩ : ∃ v, Rr[i]? = some v := ⟨_, List.getElem?_eq_getElem (by rw [h3.len]; exact hi)⟩
    obtain ⟨t, rw1, rfl, hrw, ht⟩ := h3.get i v hv
    refine ⟨_, rfl, p, C_Gain, dx, _, _, rfl, h1, T.cl_Gain, T.n_Gain_rows, lk_rows, r, Rr, rfl, .inr (SqT.of h2), fun l hl => ?_⟩
    have s1 : Same H (upd H l (.lst Rr)) := Same.new hl
    have hl1 : upd H l (.lst Rr) l = some (.lst Rr) := upd_same
    generalize upd H l (.lst Rr) = H1 at s1 hl1
    refine ⟨_, rfl, _, rfl, l, _, _, V.ref t, rfl, rfl, SqL.of hl1, atI_nat hv, ?_⟩
    have ht1 := s1 t _ ht
    refine ⟨_, rfl, t, _, _, V.int (rw1.1 : Int), rfl, rfl, SqT.of ht1, atI_nat (j := 0) rfl, _, rfl, t, _, _, V.int (rw1.2 : Int), rfl, rfl, SqT.of ht1, atI_nat (j := 1) rfl, _, rfl, _, _, rfl, rfl, (by show 2 ≤ sizeLine; decide), fun t2 ht2 => ?_⟩
    have nlt : l ≠ t2 := ne_of_none hl1 ht2
    refine ⟨_, rfl, _, rfl, l, _, _, i, rfl, rfl, Same.new ht2 l _ hl1, ?_, ?_⟩
    · unfold ixN; rw [if_pos (by omega), if_pos (by rw [h3.len]; omega)]; simp
    have ex : xorAt rows i bt = rows.set i (rw1.1, rw1.2 ^^^ bt) := xorAt_get hrw
    have hl3 : upd (upd H1 t2 (.tup [V.int (rw1.1 : Int), V.int (Builtin.bitXor (rw1.2 : Int) (bt : Int))])) l (.lst (Rr.set i (V.ref t2))) l = some (.lst (Rr.set i (V.ref t2))) := upd_same
    have s3 : Same H (upd (upd H1 t2 (.tup [V.int (rw1.1 : Int), V.int (Builtin.bitXor (rw1.2 : Int) (bt : Int))])) l (.lst (Rr.set i (V.ref t2)))) := fun b o e => by rw [upd_ne (ne_of_none e hl)]; exact Same.new ht2 b _ (s1 b _ e)
    have ht3 : upd (upd H1 t2 (.tup [V.int (rw1.1 : Int), V.int (Builtin.bitXor (rw1.2 : Int) (bt : Int))])) l (.lst (Rr.set i (V.ref t2))) t2 = some (.tup [V.int (rw1.1 : Int), V.int ((rw1.2 ^^^ bt : Nat) : Int)]) := by rw [upd_ne nlt.symm, upd_same, xor_nat]
    generalize upd (upd H1 t2 (.tup [V.int (rw1.1 : Int), V.int (Builtin.bitXor (rw1.2 : Int) (bt : Int))])) l (.lst (Rr.set i (V.ref t2))) = H3 at hl3 s3 ht3
    have R3 : RowsAt H3 (Rr.set i (V.ref t2)) (xorAt rows i bt) := by rw [ex]; exact rows_set (h3.mono fun t xs e => s3 t _ e) ht3
    have h1 := s3 _ _ h1
    refine .inr ⟨_, rfl, p, dx, _, rfl, h1, lk_no (wh := false) (by decide +kernel) (by decide +kernel) (by decide +kernel) (by decide +kernel), _, rfl, p, b, d, rows, c, l, _, xorAt rows i bt, rfl, hP.keep s3, hl3, R3, by rw [xorAt_len]; exact hlen, fun p2 H4 hP2 hn s4 => ?_⟩
    exact q1 i rfl hi p2 H4 hP2 (s3.free hn) (s3.trans s4)
  · refine ⟨_, rfl, _, _, rfl, rfl, _, rfl, ?_⟩
    by_cases a0 : ai < 0
    · refine iteY a0 ?_
      refine iteT ?_
      exact ⟨_, rfl, raise1 (E := E) T.x_NoPlace fun e H' he hs => q2 (by omega) e H' he hs⟩
    refine iteN a0 ?_
    refine ⟨_, rfl, _, rfl, p, C_Whole, dx, _, _, rfl, h1, T.cl_Whole, T.n_Whole_rows, lk_rows, r, Rr, rfl, .inr (SqT.of h2), _, _, rfl, rfl, _, rfl, ?_⟩
    by_cases a1 : ai ≥ (Rr.length : Int)
    · refine iteY a1 ?_
      rw [h3.len] at a1
      exact ⟨_, rfl, raise1 (E := E) T.x_NoPlace fun e H' he hs => q2 (by omega) e H' he hs⟩
    refine iteN a1 ?_
    rw [h3.len] at a1
    obtain ⟨i, rfl⟩ : ∃ i : Nat, ai = (i : Int) := ⟨ai.toNat, by omega⟩
    have hi : i < rows.length := by omega
    obtain ⟨v, hv⟩ : ∃ v, Rr[i]? = some v := ⟨_, List.getElem?_eq_getElem (by rw [h3.len]; exact hi)⟩
    obtain ⟨t, rw1, rfl, hrw, ht⟩ := h3.get i v hv
    refine ⟨_, rfl, p, C_Whole, dx, _, _, rfl, h1, T.cl_Whole, T.n_Whole_rows, lk_rows, r, Rr, rfl, .inr (SqT.of h2), fun l hl => ?_⟩
    have s1 : Same H (upd H l (.lst Rr)) := Same.new hl
    have hl1 : upd H l (.lst Rr) l = some (.lst Rr) := upd_same
    generalize upd H l (.lst Rr) = H1 at s1 hl1
    refine ⟨_, rfl, _, rfl, l, _, _, V.ref t, rfl, rfl, SqL.of hl1, atI_nat hv, ?_⟩
    have ht1 := s1 t _ ht
    refine ⟨_, rfl, t, _, _, V.int (rw1.1 : Int), rfl, rfl, SqT.of ht1, atI_nat (j := 0) rfl, _, rfl, t, _, _, V.int (rw1.2 : Int), rfl, rfl, SqT.of ht1, atI_nat (j := 1) rfl, _, rfl, _, _, rfl, rfl, (by show 2 ≤ sizeLine; decide), fun t2 ht2 => ?_⟩
    have nlt : l ≠ t2 := ne_of_none hl1 ht2
    refine ⟨_, rfl, _, rfl, l, _, _, i, rfl, rfl, Same.new ht2 l _ hl1, ?_, ?_⟩
    · unfold ixN; rw [if_pos (by omega), if_pos (by rw [h3.len]; omega)]; simp
    have ex : xorAt rows i bt = rows.set i (rw1.1, rw1.2 ^^^ bt) := xorAt_get hrw
    have hl3 : upd (upd H1 t2 (.tup [V.int (rw1.1 : Int), V.int (Builtin.bitXor (rw1.2 : Int) (bt : Int))])) l (.lst (Rr.set i (V.ref t2))) l = some (.lst (Rr.set i (V.ref t2))) := upd_same
    have s3 : Same H (upd (upd H1 t2 (.tup [V.int (rw1.1 : Int), V.int (Builtin.bitXor (rw1.2 : Int) (bt : Int))])) l (.lst (Rr.set i (V.ref t2)))) := fun b o e => by rw [upd_ne (ne_of_none e hl)]; exact Same.new ht2 b _ (s1 b _ e)
    have ht3 : upd (upd H1 t2 (.tup [V.int (rw1.1 : Int), V.int (Builtin.bitXor (rw1.2 : Int) (bt : Int))])) l (.lst (Rr.set i (V.ref t2))) t2 = some (.tup [V.int (rw1.1 : Int), V.int ((rw1.2 ^^^ bt : Nat) : Int)]) := by rw [upd_ne nlt.symm, upd_same, xor_nat]
    generalize upd (upd H1 t2 (.tup [V.int (rw1.1 : Int), V.int (Builtin.bitXor (rw1.2 : Int) (bt : Int))])) l (.lst (Rr.set i (V.ref t2))) = H3 at hl3 s3 ht3
    have R3 : RowsAt H3 (Rr.set i (V.ref t2)) (xorAt rows i bt) := by rw [ex]; exact rows_set (h3.mono fun t xs e => s3 t _ e) ht3
    have h1 := s3 _ _ h1
    refine .inl ⟨_, rfl, p, dx, _, rfl, h1, lk_no (wh := true) (by decide +kernel) (by decide +kernel) (by decide +kernel) (by decide +kernel), _, rfl, p, b, d, rows, c, l, _, xorAt rows i bt, rfl, hP.keep s3, hl3, R3, by rw [xorAt_len]; exact hlen, fun p2 H4 hP2 hn s4 => ?_⟩
    exact q1 i rfl hi p2 H4 hP2 (s3.free hn) (s3.trans s4)
theorem ok_Shelf___init__ {f : Addr} {fd : FuncData} (F : Fun K "__init__" "Shelf.__init__" s_Shelf___init__ f fd) (T : Txt K mg t_W C_KeepError C_NoPlace C_NoPiece C_Piece C_Whole C_Gain C_Shelf)  : FnOk P w K mg base (CXx P w) 1 f fd ["self"] (sp_sinit C_Shelf) := by
  refine F.okX sc_Shelf___init__ (fun vs H Q E h => ?_) (fun cdv A outer s H vs Q E hr h => ?_)
  · obtain ⟨p, dx, rfl, hp, q⟩ := h; rfl
  obtain ⟨p, dx, rfl, hp, q⟩ := h
  refine ⟨_, (pss_cons (ps_fld (pv 0) pe_dnewK rfl)
      (pss_one (ps_fld (pv 0) pe_int rfl))), ?_⟩
  refine fun d hd => ?_
  have npd : p ≠ d := ne_of_none hp hd
  refine ⟨_, rfl, p, C_Shelf, dx, _, rfl, Same.new hd p _ hp, T.cl_Shelf, T.n_Shelf_pieces, (by show 0 < 1000; decide), ?_⟩
  refine ⟨_, rfl, p, C_Shelf, dx, _, rfl, upd_same, T.cl_Shelf, T.n_Shelf_follows, (by show 1 < 1000; decide), ?_⟩
  rw [upd_upd, show putF "pieces" (V.ref d) [] = ([("pieces", V.ref d)] : List (Str × V)) from rfl, put_follows]
  refine q d _ ⟨dx, upd_same, by rw [upd_ne npd.symm, upd_same]⟩ hd ?_
  exact keep_upd (Keep.of_same (Same.new hd)) (.inl (by simp))
theorem ok_Shelf_lay {f : Addr} {fd : FuncData} (F : Fun K "lay" "Shelf.lay" s_Shelf_lay f fd) (T : Txt K mg t_W C_KeepError C_NoPlace C_NoPiece C_Piece C_Whole C_Gain C_Shelf)  : FnOk P w K mg base (CXx P w) 1 f fd ["self", "number", "piece"] (sp_lay C_Shelf) := by
  refine F.okX sc_Shelf_lay (fun vs H Q E h => ?_) (fun cdv A outer s H vs Q E hr h => ?_)
  · obtain ⟨p, d, fl, kvs, n, a, rfl, ⟨dx, h1, h2⟩, hlen, q⟩ := h; rfl
  obtain ⟨p, d, fl, kvs, n, a, rfl, ⟨dx, h1, h2⟩, hlen, q⟩ := h
  refine ⟨_, (pss_cons (ps_dput (hu_of hr) (pe_fld (pv 0) rfl) (pv 1) (pv 2) rfl)
      (pss_one (ps_fld (pv 0) (pe_callB (call_max2 rfl) (by rfl) T.b_max PyProof.Rows.boot_max (pa_cons (pe_fld (pv 0) rfl) (pa_cons (pe_op op_add (pv 1) pe_int) pa_nil))) rfl))), ?_⟩
  have npd : p ≠ d := ne_of h1 h2 (by intro z; cases z)
  refine ⟨_, rfl, _, rfl, p, C_Shelf, dx, _, _, rfl, h1, T.cl_Shelf, T.n_Shelf_pieces, lk_pieces, _, rfl, d, _, rfl, DPut.k (k := Sum.inl n) h2 (small1000 (by omega)), ?_⟩
  have h1' : upd H d (.dK (putK kvs (Sum.inl n) (V.ref a))) p = some (.ins C_Shelf dx (sfs d fl)) := by rw [upd_ne npd]; exact h1
  refine ⟨_, rfl, p, C_Shelf, dx, _, _, rfl, h1', T.cl_Shelf, T.n_Shelf_follows, lk_follows, ?_⟩
  repeat (first | refine ⟨_, rfl, ?_⟩ | refine ⟨_, _, rfl, rfl, ?_⟩ | refine ⟨(by first | decide | (dsimp only; decide) | (show 2 ≤ sizeLine; decide) | (show 1 ≤ sizeLine; decide) | (show 3 ≤ sizeLine; decide) | (show 4 ≤ sizeLine; decide)), ?_⟩ | refine ⟨.inl ⟨by first | decide | (dsimp only; decide), by first | decide | (dsimp only; decide)⟩, ?_⟩ | refine ⟨.inr ⟨by first | decide | (dsimp only; decide), by first | decide | (dsimp only; decide)⟩, ?_⟩ | refine ⟨⟨by first | decide | (dsimp only; decide), by first | decide | (dsimp only; decide)⟩, ?_⟩ | refine ⟨rfl, ?_⟩ | refine ⟨_, _, rfl, ?_⟩)
  refine ⟨p, C_Shelf, dx, _, rfl, h1', T.cl_Shelf, T.n_Shelf_follows, (by show 2 < 1000; decide), ?_⟩
  rw [put_follows2]
  refine q _ ⟨dx, upd_same, by rw [upd_ne npd.symm, upd_same]⟩ ?_
  exact keep_upd (keep_upd Keep.refl (.inl (by simp))) (.inl (by simp))
theorem ok_Shelf_put {f : Addr} {fd : FuncData} (F : Fun K "put" "Shelf.put" s_Shelf_put f fd) (T : Txt K mg t_W C_KeepError C_NoPlace C_NoPiece C_Piece C_Whole C_Gain C_Shelf) (D_Shelf_lay : MethX P w K mg base C_Shelf "lay" 1 ["self", "number", "piece"] (sp_lay C_Shelf)) : FnOk P w K mg base (CXx P w) 2 f fd ["self", "piece"] (sp_put C_Shelf) := by
  refine F.okX sc_Shelf_put (fun vs H Q E h => ?_) (fun cdv A outer s H vs Q E hr h => ?_)
  · obtain ⟨p, d, fl, kvs, a, rfl, ⟨dx, h1, h2⟩, hlen, q⟩ := h; rfl
  obtain ⟨p, d, fl, kvs, a, rfl, ⟨dx, h1, h2⟩, hlen, q⟩ := h
  refine ⟨_, (pss_cons (ps_set (i := 2) sc_Shelf_put.nd rfl (Or.inl rfl) (pe_fld (pv 0) rfl))
      (pss_cons (ps_expr (pe_methS (pv 0) T.cl_Shelf D_Shelf_lay passesN (hr.mono (by decide)) (pa_cons (pv 2) (pa_cons (pv 1) pa_nil))))
      (pss_one (ps_ret (pv 2))))), ?_⟩
  refine ⟨_, rfl, p, C_Shelf, dx, _, _, rfl, h1, T.cl_Shelf, T.n_Shelf_follows, lk_follows, ?_⟩
  refine ⟨_, rfl, p, dx, _, rfl, h1, lk_sno (by decide +kernel) (by decide +kernel), _, rfl, _, rfl, p, d, fl, kvs, fl, a, rfl, ⟨dx, h1, h2⟩, hlen, fun H1 hS k1 => ?_⟩
  rw [if_pos (by omega)] at hS
  exact ⟨_, rfl, q H1 hS k1⟩
theorem ok_Shelf_piece {f : Addr} {fd : FuncData} (F : Fun K "piece" "Shelf.piece" s_Shelf_piece f fd) (T : Txt K mg t_W C_KeepError C_NoPlace C_NoPiece C_Piece C_Whole C_Gain C_Shelf) (D_NoPiece : ExcX P w K mg base "NoPiece" C_NoPiece 1 ["self", "number"] (sp_x1 C_NoPiece "number")) : FnOk P w K mg base (CXx P w) 3 f fd ["self", "number"] (sp_piece C_Shelf C_NoPiece) := by
  refine F.okX sc_Shelf_piece (fun vs H Q E h => ?_) (fun cdv A outer s H vs Q E hr h => ?_)
  · obtain ⟨p, d, fl, kvs, n, rfl, ⟨dx, h1, h2⟩, q1, q2⟩ := h; rfl
  obtain ⟨p, d, fl, kvs, n, rfl, ⟨dx, h1, h2⟩, q1, q2⟩ := h
  refine ⟨_, (pss_cons (ps_if (pt_cmp (pc_dnotin (hu_of hr) (pv 1) (pe_fld (pv 0) rfl))) (pss_one (ps_raise rfl raisesB (pe_exc D_NoPiece (hr.mono (by decide)) rfl (pa_cons (pv 1) pa_nil)))) pss_nil)
      (pss_one (ps_ret (pe_dget (hu_of hr) (pe_fld (pv 0) rfl) (pv 1) (fun _ _ => rfl))))), ?_⟩
  refine ⟨_, rfl, _, rfl, p, C_Shelf, dx, _, _, rfl, h1, T.cl_Shelf, T.n_Shelf_pieces, lk_pieces, d, _, rfl, DGet.k (k := Sum.inl n) h2, _, rfl, ?_⟩
  cases hv : valV kvs (Sum.inl n) with
  | none =>
    refine iteT ?_
    exact ⟨_, rfl, raise1 (E := E) T.x_NoPiece fun e H' he hs => q2 hv e H' he hs⟩
  | some v =>
    refine iteF ?_
    exact ⟨_, rfl, p, C_Shelf, dx, _, _, rfl, h1, T.cl_Shelf, T.n_Shelf_pieces, lk_pieces, _, rfl, d, v, rfl, hv ▸ DGet.k (k := Sum.inl n) h2, q1 v hv⟩
theorem ok_Shelf_drop {f : Addr} {fd : FuncData} (F : Fun K "drop" "Shelf.drop" s_Shelf_drop f fd) (T : Txt K mg t_W C_KeepError C_NoPlace C_NoPiece C_Piece C_Whole C_Gain C_Shelf) (D_Shelf_piece : MethX P w K mg base C_Shelf "piece" 3 ["self", "number"] (sp_piece C_Shelf C_NoPiece)) : FnOk P w K mg base (CXx P w) 4 f fd ["self", "number"] (sp_drop C_Shelf C_NoPiece) := by
  refine F.okX sc_Shelf_drop (fun vs H Q E h => ?_) (fun cdv A outer s H vs Q E hr h => ?_)
  · obtain ⟨p, d, fl, kvs, n, rfl, ⟨dx, h1, h2⟩, q1, q2⟩ := h; rfl
  obtain ⟨p, d, fl, kvs, n, rfl, ⟨dx, h1, h2⟩, q1, q2⟩ := h
  refine ⟨_, (pss_cons (ps_set (i := 2) sc_Shelf_drop.nd rfl (Or.inl rfl) (pe_methS (pv 0) T.cl_Shelf D_Shelf_piece passesB (hr.mono (by decide)) (pa_cons (pv 1) pa_nil)))
      (pss_cons (ps_expr (pe_dpop1 (pe_fld (pv 0) rfl) (pv 1) ⟨rfl, rfl, rfl, rfl⟩))
      (pss_one (ps_ret (pv 2))))), ?_⟩
  have npd : p ≠ d := ne_of h1 h2 (by intro z; cases z)
  refine ⟨_, rfl, p, dx, _, rfl, h1, lk_sno (by decide +kernel) (by decide +kernel), _, rfl, p, d, fl, kvs, n, rfl, ⟨dx, h1, h2⟩, fun v hv => ?_, fun hv e H' he hs => q2 hv e H' he hs⟩
  refine ⟨_, rfl, p, C_Shelf, dx, _, _, rfl, h1, T.cl_Shelf, T.n_Shelf_pieces, lk_pieces, d, rfl, .inl ⟨_, .inl h2⟩, _, rfl, kvs, Sum.inl n, v, h2, rfl, hv, ?_⟩
  refine ⟨_, rfl, q1 v hv _ ⟨dx, by rw [upd_ne npd]; exact h1, upd_same⟩ ?_⟩
  exact keep_upd Keep.refl (.inl (by simp))
theorem ok_Shelf_numbers {f : Addr} {fd : FuncData} (F : Fun K "numbers" "Shelf.numbers" s_Shelf_numbers f fd) (T : Txt K mg t_W C_KeepError C_NoPlace C_NoPiece C_Piece C_Whole C_Gain C_Shelf)  : FnOk P w K mg base (CXx P w) 1 f fd ["self"] (sp_numbers C_Shelf) := by
  refine F.okX sc_Shelf_numbers (fun vs H Q E h => ?_) (fun cdv A outer s H vs Q E hr h => ?_)
  · obtain ⟨p, d, fl, kvs, ns, rfl, ⟨dx, h1, h2⟩, hns, h64, q⟩ := h; rfl
  obtain ⟨p, d, fl, kvs, ns, rfl, ⟨dx, h1, h2⟩, hns, h64, q⟩ := h
  refine ⟨_, (pss_one (ps_ret (pe_callB (call_sortedD rfl) (by rfl) T.b_sorted PyProof.Rows.boot_sorted (pa_cons (pe_fld (pv 0) rfl) pa_nil)))), ?_⟩
  exact ⟨_, rfl, p, C_Shelf, dx, _, _, rfl, h1, T.cl_Shelf, T.n_Shelf_pieces, lk_pieces, d, kvs, ns, rfl, h2, hns, by omega, fun l ns' hl hp hs => q l ns' hl hp hs⟩
theorem ok__law_cell_at {f : Addr} {fd : FuncData} (F : Fun K "_law_cell_at" "_law_cell_at" s__law_cell_at f fd) (T : Txt K mg t_W C_KeepError C_NoPlace C_NoPiece C_Piece C_Whole C_Gain C_Shelf)  : FnOk P w K mg base (CXx P w) 1 f fd ["_law_script", "_law_k"] (sp_cell K) := by
  refine F.okX sc__law_cell_at (fun vs H Q E h => ?_) (fun cdv A outer s H vs Q E hr h => ?_)
  · obtain ⟨a, ns, k, rfl, hS, q⟩ := h; rfl
  obtain ⟨a, ns, k, rfl, hS, q⟩ := h
  refine ⟨_, (pss_cons (ps_if (pt_cmpR op_lt (pv 1) (pe_callB call_len_seq (by rfl) T.b_len PySem.boot_len (pa_cons (pv 0) pa_nil)) (nomark _)) (pss_one (ps_ret (pe_ix ix_list (pv 0) (pv 1) (fun _ _ => rfl)))) pss_nil)
      (pss_one (ps_ret pe_int))), ?_⟩
  refine ⟨_, rfl, _, rfl, a, _, rfl, .inl hS, _, _, rfl, rfl, _, rfl, ?_⟩
  refine ite2 (fun h => ?_) (fun h => ?_)
  · have h : k < ns.length := by simpa using h
    refine ⟨_, rfl, _, rfl, a, _, _, V.int (ns.getD k 0), rfl, rfl, hS, atI_nat ?_, ?_⟩
    · simp [h]
    · have e : cellI ns k = ns.getD k 0 := by unfold cellI; rw [if_pos (by omega)]; rfl
      rw [e] at q; exact q
  · have h : ¬ k < ns.length := by simpa using h
    have e : cellI ns k = 0 := by unfold cellI; rw [if_neg (by omega)]
    rw [e] at q; exact q
theorem ok__law_whole {f : Addr} {fd : FuncData} (F : Fun K "_law_whole" "_law_whole" s__law_whole f fd) (T : Txt K mg t_W C_KeepError C_NoPlace C_NoPiece C_Piece C_Whole C_Gain C_Shelf)  : FnOk P w K mg base (CXx P w) 1 f fd ["_law_found"] (sp_whole) := by
  refine F.okX sc__law_whole (fun vs H Q E h => ?_) (fun cdv A outer s H vs Q E hr h => ?_)
  · obtain ⟨n, rfl, q⟩ := h; rfl
  obtain ⟨n, rfl, q⟩ := h
  refine ⟨_, (pss_one (ps_ret (pe_and (pe_callB call_isinst (by rfl) T.b_isinstance PyProof.Rows.boot_isinstance (pa_cons (pv 0) (pa_cons (pe_bltn (v := .ty "int") rfl T.b_int PyProof.Rows.boot_int rfl) pa_nil))) (pe_one (pe_not (pe_callB call_isinst (by rfl) T.b_isinstance PyProof.Rows.boot_isinstance (pa_cons (pv 0) (pa_cons (pe_bltn (v := .ty "bool") rfl T.b_bool PyProof.Rows.boot_bool rfl) pa_nil)))))))), ?_⟩
  refine ⟨_, rfl, _, _, _, _, true, rfl, rfl, .int _, rfl, _, rfl, ?_⟩
  refine iteT ?_
  refine ⟨_, rfl, _, _, _, _, false, rfl, rfl, .int _, (by with_unfolding_all rfl), _, rfl, ?_⟩
  exact q
theorem ok__law_drawn {f : Addr} {fd : FuncData} (F : Fun K "_law_drawn" "_law_drawn" s__law_drawn f fd) (T : Txt K mg t_W C_KeepError C_NoPlace C_NoPiece C_Piece C_Whole C_Gain C_Shelf)  : FnOk P w K mg base (CXx P w) 1 f fd ["_law_cell", "_law_many"] (sp_drawn) := by
  refine F.okX sc__law_drawn (fun vs H Q E h => ?_) (fun cdv A outer s H vs Q E hr h => ?_)
  · obtain ⟨c, m, rfl, hm, q⟩ := h; rfl
  obtain ⟨c, m, rfl, hm, q⟩ := h
  refine ⟨_, (pss_cons (ps_set (i := 2) sc__law_drawn.nd rfl (Or.inl rfl) (pe_lst pa_nil))
      (pss_cons (ps_set (i := 3) sc__law_drawn.nd rfl (Or.inl rfl) (pe_op op_add (pe_op op_mod (pv 0) pe_int) pe_int))
      (pss_cons (ps_for PassesOwn.leaving rfl (pi_range1 rfl T.b_range (pa_cons (pv 1) pa_nil)) (pg_name (i := 4) sc__law_drawn.nd rfl (Or.inl rfl))
      (pss_cons (ps_set (i := 3) sc__law_drawn.nd rfl (Or.inl rfl) (pe_op op_mod (pe_op op_add (pe_op op_add (pe_op op_mul (pv 3) (pv 3)) (pe_op op_mul pe_int (pv 3))) (pv 4)) pe_int))
      (pss_one (ps_expr (pe_bm PySem.F.plainAttrs_list PySem.F.slot_list_append PySem.F.type_list_append mt_append (pv 2) (pa_cons (pv 3) pa_nil))))))
      (pss_one (ps_ret (pv 2)))))), ?_⟩
  refine ⟨Nat.zero_le _, fun l hl => ?_⟩
  refine ⟨_, rfl, _, _, rfl, rfl, (by first | decide | (dsimp only; decide)), _, _, rfl, rfl, ?_⟩
  refine ⟨_, rfl, _, rfl, by omega, by omega, for_range (lo := 0) (n := (m : Int).toNat) (fun i σ H2 => ∃ (num : Int) (v4 : Option V) (xs : List Int), σ = [some (.int c), some (.int (m : Int)), some (.ref l), some (.int num), v4] /\ Same H H2 /\ H2 l = some (.lst (xs.map V.int)) /\ xs.length = i /\ (∀ x ∈ xs, 0 ≤ x /\ x < 2147483647) /\ 0 ≤ num /\ num < 2147531918)
    ⟨c % 2147483647 + 48271, none, [], rfl, Same.new hl, upd_same, rfl, by simp, by omega, by omega⟩ ?_ ?_⟩
  · rintro i σ H2 hi ⟨num, v4, xs, rfl, s2, h2, hlx, hx, n0, n1⟩
    refine ⟨_, rfl, _, rfl, _, _, rfl, rfl, .inl ⟨by omega, by omega⟩, _, rfl, _, _, rfl, rfl, .inl ⟨by decide, by decide⟩, _, _, rfl, rfl, _, rfl, _, _, rfl, rfl, _, _, rfl, rfl, (by first | decide | (dsimp only; decide)), ?_⟩
    refine ⟨_, rfl, .inl ⟨rfl, _, SqL.of h2⟩, _, rfl, l, _, _, rfl, rfl, h2, (by rw [List.length_map]; exact small1000 (by omega)), ?_⟩
    have b0 := Int.emod_nonneg (num * num + 48271 * num + (0 + (i : Int))) (show (2147483647 : Int) ≠ 0 by decide)
    have b1 := Int.emod_lt_of_pos (num * num + 48271 * num + (0 + (i : Int))) (show (0 : Int) < 2147483647 by decide)
    refine ⟨_, _, xs ++ [(num * num + 48271 * num + (0 + (i : Int))) % 2147483647], rfl, fun b o e => ?_, by rw [upd_same]; simp, by simp [hlx], ?_, b0, by omega⟩
    · rw [upd_ne (ne_of_none e hl)]; exact s2 b _ e
    · intro x hx'
      rcases List.mem_append.mp hx' with h | h
      · exact hx x h
      · have : x = (num * num + 48271 * num + (0 + (i : Int))) % 2147483647 := by simpa using h
        rw [this]; exact ⟨b0, b1⟩
  · rintro σ H2 ⟨num, v4, xs, rfl, s2, h2, hlx, hx, n0, n1⟩
    exact ⟨_, rfl, q l xs H2 h2 hl (by omega) hx s2⟩
theorem ok_clos_cost {f : Addr} (T : Txt K mg t_W C_KeepError C_NoPlace C_NoPiece C_Piece C_Whole C_Gain C_Shelf) (D_Gain_size : MethX P w K mg base C_Gain "size" 1 ["self"] (sp_size C_Whole C_Gain)) (D_Whole_size : MethX P w K mg base C_Whole "size" 1 ["self"] (sp_size C_Whole C_Gain)) : ClosF P w K mg base (CXx P w) (3 + 1) f (sp_cost C_Whole C_Gain f) := by
  refine clos_of (name := "cost") (qual := "rate.<locals>.cost") (params := defArgs s_cost) (body := defBody s_cost) (scope := defScope s_cost) cs_cost (fun cl doc pm cdv ct s u => .of_eq rfl) fun vs H Q E h => ?_
  obtain ⟨p, wh, b, d, rows, c, seek, each, rfl, hb, hM, hP, q⟩ := h
  obtain ⟨cl, doc, pm, c', ctv, hf, hcl, hnc, hC, hc'⟩ := hM
  refine ⟨_, cl, doc, pm, c', ctv, _, rfl, hf, hcl, hnc, hC, hc', fun A outer s hr => ⟨_, (pss_one (ps_ret (pe_op op_add (pv 1) (pe_op op_mul (pv 2) (pe_or2 (pe_methS0 (pv 0) T.cl_Whole D_Whole_size passesN (hr.mono (by decide))) (pe_methS0 (pv 0) T.cl_Gain D_Gain_size passesN (hr.mono (by decide)))))))), ?_⟩⟩
  have hPc := PAt.cut hP hC.ext
  obtain ⟨dx, r, R, h1, h2, h3⟩ := id hPc
  have fin : (Q (.int (seek + each * (rows.length : Int))) (glue (cellsOf cl) H (cutH (cellsOf cl) H))) := by rw [glue_cut]; exact q
  cases wh
  · exact ⟨_, rfl, _, rfl, .inr ⟨_, rfl, p, dx, _, rfl, h1, lk_no (wh := false) (by decide +kernel) (by decide +kernel) (by decide +kernel) (by decide +kernel), p, _, _, _, _, _, rfl, hPc, _, _, rfl, rfl, .inr ⟨by omega, by omega⟩, _, _, rfl, rfl, fin⟩⟩
  · exact ⟨_, rfl, _, rfl, .inl ⟨_, rfl, p, dx, _, rfl, h1, lk_no (wh := true) (by decide +kernel) (by decide +kernel) (by decide +kernel) (by decide +kernel), p, _, _, _, _, _, rfl, hPc, _, _, rfl, rfl, .inr ⟨by omega, by omega⟩, _, _, rfl, rfl, fin⟩⟩
theorem ok_clos_lam {f : Addr} (T : Txt K mg t_W C_KeepError C_NoPlace C_NoPiece C_Piece C_Whole C_Gain C_Shelf) (D_Gain_size : MethX P w K mg base C_Gain "size" 1 ["self"] (sp_size C_Whole C_Gain)) (D_Whole_size : MethX P w K mg base C_Whole "size" 1 ["self"] (sp_size C_Whole C_Gain)) : ClosF P w K mg base (CXx P w) (3 + 1) f (sp_lam C_Whole C_Gain f) := by
  refine clos_ofE (name := "<lambda>") (qual := "law.<locals>.<lambda>") (params := lamArgs e_lam) (body := lamBody e_lam) (scope := lamScope e_lam) cs_lam (fun pm cdv ct s u => .of_eq rfl) fun vs H Q E h => ?_
  obtain ⟨p, wh, b, d, rows, c, rfl, hb, hM, hP, q⟩ := h
  obtain ⟨pm, c', ctv, hf, hc'⟩ := hM
  refine ⟨_, pm, c', ctv, rfl, hf, hc', fun A outer s hr => ⟨_, (pe_op op_add (pe_op op_add pe_int (pe_op op_mul pe_int (pe_or2 (pe_methS0 (pv 0) T.cl_Whole D_Whole_size passesN (hr.mono (by decide))) (pe_methS0 (pv 0) T.cl_Gain D_Gain_size passesN (hr.mono (by decide)))))) (pe_op op_mul pe_int (pe_fld (pv 0) rfl))), ?_⟩⟩
  obtain ⟨dx, r, R, h1, h2, h3⟩ := id hP
  cases wh
  · exact .inr ⟨_, rfl, p, dx, _, rfl, h1, lk_no (wh := false) (by decide +kernel) (by decide +kernel) (by decide +kernel) (by decide +kernel), p, _, _, _, _, _, rfl, hP, _, _, rfl, rfl, .inl ⟨by decide, by decide⟩, _, _, rfl, rfl, _, rfl, p, C_Gain, dx, _, _, rfl, h1, T.cl_Gain, T.n_Gain_day, lk_day, _, _, rfl, rfl, .inl ⟨by decide, by decide⟩, _, _, rfl, rfl, q⟩
  · exact .inl ⟨_, rfl, p, dx, _, rfl, h1, lk_no (wh := true) (by decide +kernel) (by decide +kernel) (by decide +kernel) (by decide +kernel), p, _, _, _, _, _, rfl, hP, _, _, rfl, rfl, .inl ⟨by decide, by decide⟩, _, _, rfl, rfl, _, rfl, p, C_Whole, dx, _, _, rfl, h1, T.cl_Whole, T.n_Whole_day, lk_day, _, _, rfl, rfl, .inl ⟨by decide, by decide⟩, _, _, rfl, rfl, q⟩
theorem ok_legs_of {f : Addr} {fd : FuncData} (F : Fun K "legs_of" "legs_of" s_legs_of f fd) (T : Txt K mg t_W C_KeepError C_NoPlace C_NoPiece C_Piece C_Whole C_Gain C_Shelf) (D_Shelf_numbers : MethX P w K mg base C_Shelf "numbers" 1 ["self"] (sp_numbers C_Shelf)) (D_Shelf_piece : MethX P w K mg base C_Shelf "piece" 3 ["self", "number"] (sp_piece C_Shelf C_NoPiece)) (D_clos_cost : ∀ f, ClosF P w K mg base (CXx P w) 4 f (sp_fn C_Whole C_Gain f)) (D_Gain_is_good : MethX P w K mg base C_Gain "is_good" 3 ["self"] (sp_good C_Whole C_Gain)) (D_Whole_is_good : MethX P w K mg base C_Whole "is_good" 3 ["self"] (sp_good C_Whole C_Gain)) (D_Gain_start : MethX P w K mg base C_Gain "start" 1 ["self"] (sp_gstart C_Whole C_Gain)) (D_Whole_start : MethX P w K mg base C_Whole "start" 1 ["self"] sp_wstart) : FnOk P w K mg base (CXx P w) 6 f fd ["shelf", "cost"] (sp_legsof C_Shelf C_Whole C_Gain) := by
  refine F.okX sc_legs_of (fun vs H Q E h => ?_) (fun cdv A outer s H vs Q E hr h => ?_)
  · obtain ⟨p, d, g, fl, kvs, M, pr, rfl, hS, hR, h64, hC, hok, q⟩ := h; rfl
  obtain ⟨p, d, g, fl, kvs, M, pr, rfl, hS, hR, h64, hC, hok, q⟩ := h
  refine ⟨_, (pss_cons (ps_set (i := 2) sc_legs_of.nd rfl (Or.inl rfl) (pe_lst pa_nil))
      (pss_cons (ps_for PassesOwn.leaving rfl (pi_list (pe_methS0 (pv 0) T.cl_Shelf D_Shelf_numbers passesN (hr.mono (by decide)))) (pg_name (i := 3) sc_legs_of.nd rfl (Or.inl rfl))
      (pss_cons (ps_set (i := 4) sc_legs_of.nd rfl (Or.inl rfl) (pe_methS (pv 0) T.cl_Shelf D_Shelf_piece passesB (hr.mono (by decide)) (pa_cons (pv 3) pa_nil)))
      (pss_one (ps_expr (pe_bm PySem.F.plainAttrs_list PySem.F.slot_list_append PySem.F.type_list_append mt_append (pv 2) (pa_cons (pe_tup (pa_cons (pv 3) (pa_cons (pe_or2 (pe_methS0 (pv 4) T.cl_Whole D_Whole_start passesN (hr.mono (by decide))) (pe_methS0 (pv 4) T.cl_Gain D_Gain_start passesN (hr.mono (by decide)))) (pa_cons (pe_fld (pv 4) rfl) (pa_cons (pe_ifExp (pt_val (pe_or2 (pe_methS0 (pv 4) T.cl_Whole D_Whole_is_good passesN (hr.mono (by decide))) (pe_methS0 (pv 4) T.cl_Gain D_Gain_is_good passesN (hr.mono (by decide))))) pe_int pe_int) (pa_cons (pe_callV (i := 1) D_clos_cost (hr.mono (by decide)) rfl (by first | exact Or.inl rfl | exact Or.inr (Or.inl rfl) | exact Or.inr (Or.inr rfl)) (pa_cons (pv 4) pa_nil)) pa_nil)))))) pa_nil))))))
      (pss_one (ps_ret (pv 2))))), ?_⟩
  refine cutA (fun σ H' => ∃ l : Addr, σ = [some (.ref p), some (.ref g), some (.ref l), none, none] /\ Same H H' /\ H l = none /\ H' l = some (.lst [])) (fun N hN => ?_) ?_
  · exact ⟨Nat.zero_le _, fun l hl => hN _ _ ⟨l, rfl, Same.new hl, hl, upd_same⟩⟩
  rintro σ H1 ⟨l, rfl, s1, nl, hl1⟩
  have hS1 := hS.keep s1
  obtain ⟨dx, g1, g2⟩ := id hS1
  obtain ⟨ks, hks⟩ := allI_ns hR.alli
  have hkl : ks.length < 64 := by have := congrArg List.length hks; simp at this; omega
  refine cutA (fun σ H' => ∃ (v3 v4 : Option V) (LV : List V) (ns : List Int), σ = [some (.ref p), some (.ref g), some (.ref l), v3, v4] /\ Same H H' /\ H' l = some (.lst LV) /\ SortOf M ns /\ LegsOf H' LV M ns pr) (fun N hN => ?_) ?_
  · refine ⟨_, rfl, p, dx, _, rfl, g1, lk_sno (by decide +kernel) (by decide +kernel), p, d, fl, kvs, ks, rfl, hS1, hks, hkl, fun nl' ns' hnl' hp hs => ?_⟩
    have s2 : Same H1 (upd H1 nl' (.lst (ns'.map V.int))) := Same.new hnl'
    have hnl2 : upd H1 nl' (.lst (ns'.map V.int)) nl' = some (.lst (ns'.map V.int)) := upd_same
    have nnl : l ≠ nl' := ne_of_none hl1 hnl'
    have hl2 : upd H1 nl' (.lst (ns'.map V.int)) l = some (.lst []) := by rw [upd_ne nnl]; exact hl1
    generalize upd H1 nl' (.lst (ns'.map V.int)) = H2 at s2 hnl2 hl2 ⊢
    have hri := keys_rise hR hks hp hs
    have hmem : ∀ n, n ∈ ns' ↔ (M n).isSome = true := fun n => by rw [hp.mem_iff]; exact hR.keys hks n
    have hl' : ns'.length ≤ 63 := by rw [hp.length_eq]; omega
    refine ⟨nl', rfl, ⟨_, SqL.of hnl2⟩, for_list (K := K) (a := nl') (xs := ns'.map V.int) (fun i σ H' => ∃ (v3 v4 : Option V) (LV : List V), σ = [some (.ref p), some (.ref g), some (.ref l), v3, v4] /\ Same H H' /\ H' nl' = some (.lst (ns'.map V.int)) /\ H' l = some (.lst LV) /\ LegsOf H' LV M (ns'.take i) pr) ⟨none, none, [], rfl, s1.trans s2, hnl2, hl2, ⟨rfl, fun i v n e => by simp at e⟩⟩ (fun i σ H' _ ⟨_, _, _, _, _, e, _⟩ => SqL.of e) ?_ ?_⟩
    · rintro i v σ H3 hi ⟨v3, v4, LV, rfl, s3, hnl3, hl3, hLg⟩
      rw [List.getElem?_map] at hi
      obtain ⟨n, hn, rfl⟩ := Option.map_eq_some_iff.mp hi
      have hil := (List.getElem?_eq_some_iff.mp hn).1
      obtain ⟨u, hu⟩ := Option.isSome_iff_exists.mp ((hmem n).mp (List.mem_of_getElem? hn))
      have hS3 := hS.keep s3
      have hR3 := hR.mono fun v u z => PieceC.keep z s3
      obtain ⟨v', hv', a, rfl, hP3, hr100⟩ := hR3.some_ n u hu
      refine gNameA [some (.ref p), some (.ref g), some (.ref l), some (.int n), v4] ?_
      dsimp only
      obtain ⟨dx3, h13, h23⟩ := id hS3
      refine cutA (fun σ H' => σ = [some (.ref p), some (.ref g), some (.ref l), some (.int n), some (.ref a)] /\ H3 = H') (fun N2 hN2 => ?_) ?_
      · refine ⟨_, rfl, p, dx3, _, rfl, h13, lk_sno (by decide +kernel) (by decide +kernel), _, rfl, p, d, fl, kvs, n, rfl, hS3, fun v hv => ?_, fun hv => ?_⟩
        · rw [hv'] at hv; cases hv
          exact hN2 _ _ ⟨rfl, rfl⟩
        · rw [hv'] at hv; cases hv
      rintro σ _ ⟨rfl, rfl⟩
      obtain ⟨dxa, r, Rr, g1a, g2a, g3a⟩ := id hP3
      have hC3 := CostAt.same hC s3
      obtain ⟨fd, hfd⟩ := CostAt.fn hC3
      have tail : ∀ (H4 : Hp), Same H3 H4->∀ q1, H4 q1 = none->∃ v3 v4 LV', [some (V.ref p), some (V.ref g), some (V.ref l), some (V.int n), some (V.ref a)] = [some (.ref p), some (.ref g), some (.ref l), v3, v4] /\ Same H (upd (upd H4 q1 (.tup ((legU n u pr).map V.int))) l (.lst (LV ++ [V.ref q1]))) /\ upd (upd H4 q1 (.tup ((legU n u pr).map V.int))) l (.lst (LV ++ [V.ref q1])) nl' = some (.lst (ns'.map V.int)) /\ upd (upd H4 q1 (.tup ((legU n u pr).map V.int))) l (.lst (LV ++ [V.ref q1])) l = some (.lst LV') /\ LegsOf (upd (upd H4 q1 (.tup ((legU n u pr).map V.int))) l (.lst (LV ++ [V.ref q1]))) LV' M (ns'.take (i + 1)) pr := fun H4 s4 q1 hq1 => by
        have hl4 := s4 _ _ hl3
        have nlq : l ≠ q1 := ne_of_none hl4 hq1
        refine ⟨_, _, LV ++ [V.ref q1], rfl, fun b o e => ?_, ?_, upd_same, ?_⟩
        · rw [upd_ne (ne_of_none e nl), upd_ne (ne_of_none (s4 _ _ (s3 b o e)) hq1)]; exact s4 _ _ (s3 b o e)
        · rw [upd_ne nnl.symm, upd_ne (ne_of_none (s4 _ _ hnl3) hq1)]; exact s4 _ _ hnl3
        · rw [show ns'.take (i + 1) = ns'.take i ++ [n] by rw [List.take_add_one, hn]; rfl]
          refine (LegsOf.mono hLg fun t xs e => ?_).snoc hu ?_
          · rw [upd_ne (ne_of e hl3 (by intro z; cases z)), upd_ne (ne_of_none (s4 _ _ e) hq1)]; exact s4 _ _ e
          · rw [upd_ne nlq.symm]; exact upd_same
      refine ⟨_, rfl, .inl ⟨rfl, _, SqL.of hl3⟩, _, rfl, ?_⟩
      cases hw : u.wh with
      | false =>
        have hPu := hP3
        rw [hw] at hP3 g1a
        refine .inr ⟨_, rfl, a, dxa, _, rfl, g1a, lk_no (wh := false) (by decide +kernel) (by decide +kernel) (by decide +kernel) (by decide +kernel), a, u.b, u.d, u.rows, u.c, rfl, hP3, _, rfl, a, C_Gain, dxa, _, _, rfl, g1a, T.cl_Gain, T.n_Gain_day, lk_day, .inr ⟨_, rfl, a, dxa, _, rfl, g1a, lk_no (wh := false) (by decide +kernel) (by decide +kernel) (by decide +kernel) (by decide +kernel), a, false, u.b, u.d, u.rows, u.c, rfl, hP3, hr100, fun H4 s4 => ⟨_, rfl, ?_⟩⟩⟩
        have eg : decide (u.c = (ckOf false u.b u.d u.rows : Nat)) = u.good := by unfold PcU.good; rw [hw]
        rw [eg]
        cases hgd : u.good
        · refine iteF ⟨g, fd, rfl, s4 _ _ hfd, _, rfl, CostAt.ask (CostAt.same hC3 s4) (hPu.keep s4) hr100 ⟨(by show 5 ≤ sizeLine; decide), fun q1 hq1 => ⟨l, LV, _, rfl, rfl, by rw [upd_ne (ne_of_none (s4 _ _ hl3) hq1)]; exact s4 _ _ hl3, by rw [LegsOf.len hLg, List.length_take]; exact small1000 (by omega), ?_⟩⟩⟩
          have e : (legU n u pr).map V.int = [V.int n, V.int (u.b : Int), V.int (u.d : Int), V.int 1, V.int (pr u)] := by unfold legU badI; rw [st_g hw, hgd]; rfl
          have := tail H4 s4 q1 hq1
          rw [e] at this
          exact this
        · refine iteT ⟨g, fd, rfl, s4 _ _ hfd, _, rfl, CostAt.ask (CostAt.same hC3 s4) (hPu.keep s4) hr100 ⟨(by show 5 ≤ sizeLine; decide), fun q1 hq1 => ⟨l, LV, _, rfl, rfl, by rw [upd_ne (ne_of_none (s4 _ _ hl3) hq1)]; exact s4 _ _ hl3, by rw [LegsOf.len hLg, List.length_take]; exact small1000 (by omega), ?_⟩⟩⟩
          have e : (legU n u pr).map V.int = [V.int n, V.int (u.b : Int), V.int (u.d : Int), V.int 0, V.int (pr u)] := by unfold legU badI; rw [st_g hw, hgd]; rfl
          have := tail H4 s4 q1 hq1
          rw [e] at this
          exact this
      | true =>
        have hPu := hP3
        rw [hw] at hP3 g1a
        refine .inl ⟨_, rfl, a, dxa, _, rfl, g1a, lk_no (wh := true) (by decide +kernel) (by decide +kernel) (by decide +kernel) (by decide +kernel), a, rfl, _, rfl, a, C_Whole, dxa, _, _, rfl, g1a, T.cl_Whole, T.n_Whole_day, lk_day, .inl ⟨_, rfl, a, dxa, _, rfl, g1a, lk_no (wh := true) (by decide +kernel) (by decide +kernel) (by decide +kernel) (by decide +kernel), a, true, u.b, u.d, u.rows, u.c, rfl, hP3, hr100, fun H4 s4 => ⟨_, rfl, ?_⟩⟩⟩
        have eg : decide (u.c = (ckOf true u.b u.d u.rows : Nat)) = u.good := by unfold PcU.good; rw [hw]
        rw [eg]
        cases hgd : u.good
        · refine iteF ⟨g, fd, rfl, s4 _ _ hfd, _, rfl, CostAt.ask (CostAt.same hC3 s4) (hPu.keep s4) hr100 ⟨(by show 5 ≤ sizeLine; decide), fun q1 hq1 => ⟨l, LV, _, rfl, rfl, by rw [upd_ne (ne_of_none (s4 _ _ hl3) hq1)]; exact s4 _ _ hl3, by rw [LegsOf.len hLg, List.length_take]; exact small1000 (by omega), ?_⟩⟩⟩
          have e : (legU n u pr).map V.int = [V.int n, V.int (-1), V.int (u.d : Int), V.int 1, V.int (pr u)] := by unfold legU badI; rw [st_wh hw, hgd]; rfl
          have := tail H4 s4 q1 hq1
          rw [e] at this
          exact this
        · refine iteT ⟨g, fd, rfl, s4 _ _ hfd, _, rfl, CostAt.ask (CostAt.same hC3 s4) (hPu.keep s4) hr100 ⟨(by show 5 ≤ sizeLine; decide), fun q1 hq1 => ⟨l, LV, _, rfl, rfl, by rw [upd_ne (ne_of_none (s4 _ _ hl3) hq1)]; exact s4 _ _ hl3, by rw [LegsOf.len hLg, List.length_take]; exact small1000 (by omega), ?_⟩⟩⟩
          have e : (legU n u pr).map V.int = [V.int n, V.int (-1), V.int (u.d : Int), V.int 0, V.int (pr u)] := by unfold legU badI; rw [st_wh hw, hgd]; rfl
          have := tail H4 s4 q1 hq1
          rw [e] at this
          exact this
    · rintro σ H3 ⟨v3, v4, LV, rfl, s3, hnl3, hl3, hLg⟩
      rw [List.length_map, List.take_length] at hLg
      exact hN _ _ ⟨v3, v4, LV, ns', rfl, s3, hl3, ⟨hri, hmem⟩, hLg⟩
  rintro σ H2 ⟨v3, v4, LV, ns, rfl, s2, hl2, hso, hLg⟩
  exact ⟨_, rfl, q l LV ns H2 hl2 nl hso hLg s2⟩
theorem ok__law_rows {f : Addr} {fd : FuncData} (F : Fun K "_law_rows" "_law_rows" s__law_rows f fd) (T : Txt K mg t_W C_KeepError C_NoPlace C_NoPiece C_Piece C_Whole C_Gain C_Shelf) (D__law_drawn : DefX P w K mg base "_law_drawn" 1 ["_law_cell", "_law_many"] sp_drawn) : FnOk P w K mg base (CXx P w) 2 f fd ["_law_cell", "_law_wide", "_law_full"] (sp_rows33) := by
  refine F.okX sc__law_rows (fun vs H Q E h => ?_) (fun cdv A outer s H vs Q E hr h => ?_)
  · obtain ⟨c, wd, fu, rfl, hw, q⟩ := h; rfl
  obtain ⟨c, wd, fu, rfl, hw, q⟩ := h
  refine ⟨_, (pss_cons (ps_set (i := 3) sc__law_rows.nd rfl (Or.inl rfl) (pe_callS D__law_drawn passesN (hr.mono (by decide)) rfl (pa_cons (pv 0) (pa_cons pe_int pa_nil))))
      (pss_cons (ps_set (i := 4) sc__law_rows.nd rfl (Or.inl rfl) (pe_lst pa_nil))
      (pss_cons (ps_for PassesOwn.leaving rfl (pi_range1 rfl T.b_range (pa_cons (pv 1) pa_nil)) (pg_name (i := 5) sc__law_rows.nd rfl (Or.inl rfl))
      (pss_one (ps_if (PW.pt (pw_or (pt_val (pv 2)) (pw_or1 (pt_cmpR op_eq (pe_op op_mod (pe_op op_fdivB (pe_ix ix_list (pv 3) (pe_op op_mod (pv 5) pe_int) (fun _ _ => rfl)) (pe_op op_add (pv 5) pe_int)) pe_int) pe_int (nomark _))))) (pss_one (ps_expr (pe_bm PySem.F.plainAttrs_list PySem.F.slot_list_append PySem.F.type_list_append mt_append (pv 4) (pa_cons (pe_tup (pa_cons (pv 5) (pa_cons (pe_op op_mod (pe_op op_add (pe_op op_mul (pe_ix ix_list (pv 3) (pe_op op_mod (pe_op op_add (pv 5) pe_int) pe_int) (fun _ _ => rfl)) pe_int) (pe_op op_mul (pe_ix ix_list (pv 3) (pe_op op_mod (pv 5) pe_int) (fun _ _ => rfl)) (pe_op op_add (pv 5) pe_int))) (pe_powc (n := 18446744073709551616))) pa_nil))) pa_nil)))) pss_nil)))
      (pss_one (ps_ret (pv 4)))))), ?_⟩
  refine cutA (fun σ H' => ∃ (xl : Addr) (xs : List Int), σ = [some (.int c), some (.int (wd : Int)), some (.bl fu), some (.ref xl), none, none] /\ Same H H' /\ H' xl = some (.lst (xs.map V.int)) /\ xs.length = 4) (fun N hN => ?_) ?_
  · exact ⟨_, rfl, c, 4, rfl, by omega, fun l xs H1 hl _ hn h0 s1 => hN _ _ ⟨l, xs, rfl, s1, hl, hn⟩⟩
  rintro σ H1 ⟨xl, xs, rfl, s1, hxl, hxn⟩
  refine cutA (fun σ H' => ∃ l : Addr, σ = [some (.int c), some (.int (wd : Int)), some (.bl fu), some (.ref xl), some (.ref l), none] /\ Same H1 H' /\ H1 l = none /\ H' l = some (.lst [])) (fun N hN => ?_) ?_
  · exact ⟨Nat.zero_le _, fun l hl => hN _ _ ⟨l, rfl, Same.new hl, hl, upd_same⟩⟩
  rintro σ H2 ⟨l, rfl, s2, nl, hl2⟩
  have nlH : H l = none := s1.free nl
  refine cutA (fun σ H' => ∃ (v5 : Option V) (L : List V) (rows : List (Nat × Nat)), σ = [some (.int c), some (.int (wd : Int)), some (.bl fu), some (.ref xl), some (.ref l), v5] /\ Same H1 H' /\ H' l = some (.lst L) /\ RowsAt H' L rows /\ rows.length ≤ wd /\ ∀ r ∈ rows, r.1 < wd /\ r.2 < 2 ^ 64) (fun N hN => ?_) ?_
  · refine ⟨_, rfl, _, rfl, by omega, by omega, for_range (lo := 0) (n := (wd : Int).toNat) (fun i σ H3 => ∃ (v5 : Option V) (L : List V) (rows : List (Nat × Nat)), σ = [some (.int c), some (.int (wd : Int)), some (.bl fu), some (.ref xl), some (.ref l), v5] /\ Same H1 H3 /\ H3 l = some (.lst L) /\ RowsAt H3 L rows /\ rows.length ≤ i /\ ∀ r ∈ rows, r.1 < wd /\ r.2 < 2 ^ 64) ⟨none, [], [], rfl, s2, hl2, ⟨rfl, fun i v e => by simp at e⟩, Nat.le_refl _, by simp⟩ ?_ ?_⟩
    · rintro i σ H3 hi ⟨v5, L, rows, rfl, s3, h3, R, hr, hb⟩
      have hiw : i < wd := by omega
      refine gNameA [some (.int c), some (.int (wd : Int)), some (.bl fu), some (.ref xl), some (.ref l), some (.int (0 + (i : Int)))] ?_
      dsimp only
      have hx3 := s3 _ _ hxl
      obtain ⟨z1, e1, _⟩ := ints_at (ds := xs) (k := (0 + (i : Int)) % 4) (by omega) (by omega)
      obtain ⟨z2, e2, _⟩ := ints_at (ds := xs) (k := (0 + (i : Int) + 1) % 4) (by omega) (by omega)
      refine if_any (fun Qb y1 y2 => ?_) ?_ ?_
      · refine ⟨_, rfl, _, rfl, ?_⟩
        cases fu
        · refine iteF ⟨_, rfl, _, rfl, _, _, rfl, rfl, (by first | decide | (dsimp only; decide)), xl, _, _, V.int z1, rfl, rfl, SqL.of hx3, e1, _, rfl, _, _, rfl, rfl, _, _, rfl, rfl, ⟨by omega, Nat.lt_trans (log20 (by omega) (by omega)) (by decide)⟩, _, _, rfl, rfl, (by first | decide | (dsimp only; decide)), rfl, _, rfl, ?_⟩
          cases decide ((fun i j => V.int (i % j)) (z1 / (0 + (i : Int) + 1)) 3 = V.int 0)
          · exact y2
          · exact y1
        · exact iteT y1
      · refine ⟨_, rfl, .inl ⟨rfl, _, SqL.of h3⟩, _, rfl, _, rfl, _, rfl, _, _, rfl, rfl, _, _, rfl, rfl, (by first | decide | (dsimp only; decide)), xl, _, _, V.int z2, rfl, rfl, SqL.of hx3, e2, _, _, rfl, rfl, .inr ⟨by decide, by decide⟩, _, rfl, _, rfl, _, _, rfl, rfl, (by first | decide | (dsimp only; decide)), xl, _, _, V.int z1, rfl, rfl, SqL.of hx3, e1, _, rfl, _, _, rfl, rfl, _, _, rfl, rfl, .inr ⟨by omega, by omega⟩, _, _, rfl, rfl, _, _, rfl, rfl, (by first | decide | (dsimp only; decide)), (by show 2 ≤ sizeLine; decide), fun t ht => ?_⟩
        have nlt : l ≠ t := ne_of_none h3 ht
        refine ⟨l, L, _, rfl, rfl, Same.new ht l _ h3, (by rw [R.len]; exact small1000 (by omega)), ?_⟩
        obtain ⟨bk, eb, hbk⟩ : ∃ bk : Nat, (z2 * 8589934593 + z1 * (0 + (i : Int) + 1)) % 18446744073709551616 = (bk : Int) /\ bk < 2 ^ 64 := ⟨((z2 * 8589934593 + z1 * (0 + (i : Int) + 1)) % 18446744073709551616).toNat, by omega, by omega⟩
        refine ⟨_, L ++ [.ref t], rows ++ [(i, bk)], rfl, fun b o e => ?_, upd_same, ?_, by simp; omega, fun r hr' => ?_⟩
        · rw [upd_ne (ne_of_none e nl)]; exact Same.new ht b _ (s3 b _ e)
        · refine (R.mono fun b xs e => ?_).snoc ?_
          · rw [upd_ne (ne_of e h3 (by intro z; cases z))]; exact Same.new ht b _ e
          · rw [upd_ne nlt.symm, upd_same, ← eb, Int.zero_add]
        · rcases List.mem_append.mp hr' with h | h
          · exact hb r h
          · rw [List.mem_singleton.mp h]; exact ⟨hiw, hbk⟩
      · exact ⟨_, L, rows, rfl, s3, h3, R, by omega, hb⟩
    · rintro σ H3 ⟨v5, L, rows, rfl, s3, h3, R, hr, hb⟩
      exact hN _ _ ⟨v5, L, rows, rfl, s3, h3, R, by omega, hb⟩
  rintro σ H3 ⟨v5, L, rows, rfl, s3, h3, R, hr, hb⟩
  exact ⟨_, rfl, q l L rows H3 h3 nlH R hr hb (s1.trans s3)⟩
theorem ok__law_made {f : Addr} {fd : FuncData} (F : Fun K "_law_made" "_law_made" s__law_made f fd) (T : Txt K mg t_W C_KeepError C_NoPlace C_NoPiece C_Piece C_Whole C_Gain C_Shelf) (D__law_drawn : DefX P w K mg base "_law_drawn" 1 ["_law_cell", "_law_many"] sp_drawn) (D__law_rows : DefX P w K mg base "_law_rows" 2 ["_law_cell", "_law_wide", "_law_full"] sp_rows33) (D_Whole_d1 : MakeXd P w K mg base "Whole" C_Whole 4 ["self", "day", "rows", "check"] [Value.none] (sp_winit C_Whole C_Gain)) (D_Gain_d1 : MakeXd P w K mg base "Gain" C_Gain 4 ["self", "base", "day", "rows", "check"] [Value.none] (sp_ginit C_Whole C_Gain)) (D_Gain_harmed : MethX P w K mg base C_Gain "harmed" 7 ["self", "at", "bits"] (sp_harm C_Whole C_Gain C_NoPlace)) (D_Whole_harmed : MethX P w K mg base C_Whole "harmed" 7 ["self", "at", "bits"] (sp_harm C_Whole C_Gain C_NoPlace)) : FnOk P w K mg base (CXx P w) 9 f fd ["_law_cell", "_law_wide"] (sp_made33 C_Whole C_Gain) := by
  refine F.okX sc__law_made (fun vs H Q E h => ?_) (fun cdv A outer s H vs Q E hr h => ?_)
  · obtain ⟨c, wd, rfl, hw, q⟩ := h; rfl
  obtain ⟨c, wd, rfl, hw, q⟩ := h
  refine ⟨_, (pss_cons (ps_set (i := 2) sc__law_made.nd rfl (Or.inl rfl) (pe_callS D__law_drawn passesN (hr.mono (by decide)) rfl (pa_cons (pv 0) (pa_cons pe_int pa_nil))))
      (pss_cons (ps_set (i := 3) sc__law_made.nd rfl (Or.inl rfl) (pe_op op_add pe_int (pe_op op_mod (pe_ix ix_list (pv 2) pe_int (fun _ _ => rfl)) (pe_ix ix_list (pe_lst (pa_cons pe_int (pa_cons (pe_powc (n := 1000000000)) pa_nil))) (pe_op op_mod (pe_ix ix_list (pv 2) pe_int (fun _ _ => rfl)) pe_int) (fun _ _ => rfl)))))
      (pss_cons (ps_set (i := 4) sc__law_made.nd rfl (Or.inl rfl) (pe_cmpR op_eq (pe_op op_mod (pe_ix ix_list (pv 2) pe_int (fun _ _ => rfl)) pe_int) pe_int (nomark _)))
      (pss_cons (ps_set (i := 5) sc__law_made.nd rfl (Or.inl rfl) (pe_callS D__law_rows passesN (hr.mono (by decide)) rfl (pa_cons (pe_ix ix_list (pv 2) pe_int (fun _ _ => rfl)) (pa_cons (pv 1) (pa_cons (pv 4) pa_nil)))))
      (pss_cons (ps_if (pt_val (pv 4)) (pss_cons (ps_set (i := 6) sc__law_made.nd rfl (Or.inl rfl) (pe_un un_neg pe_int))
      (pss_one (ps_set (i := 7) sc__law_made.nd rfl (Or.inl rfl) (pe_makeSd (dvs := [V.non]) D_Whole_d1 (Paired.cons rfl Paired.nil) passesN (hr.mono (by decide)) rfl (pa_cons (pv 3) (pa_cons (pv 5) pa_nil)))))) (pss_cons (ps_set (i := 6) sc__law_made.nd rfl (Or.inl rfl) (pe_op op_mod (pe_ix ix_list (pv 2) pe_int (fun _ _ => rfl)) (pv 3)))
      (pss_one (ps_set (i := 7) sc__law_made.nd rfl (Or.inl rfl) (pe_makeSd (dvs := [V.non]) D_Gain_d1 (Paired.cons rfl Paired.nil) passesN (hr.mono (by decide)) rfl (pa_cons (pv 6) (pa_cons (pv 3) (pa_cons (pv 5) pa_nil))))))))
      (pss_cons (ps_set (i := 8) sc__law_made.nd rfl (Or.inl rfl) pe_int)
      (pss_cons (ps_if (PW.pt (pw_and (pt_cmpR (op_ne_ref hr.units) (pv 5) (pe_lst pa_nil) (nomark _)) (pw_and1 (pt_cmpR op_eq (pe_op op_mod (pe_ix ix_list (pv 2) pe_int (fun _ _ => rfl)) pe_int) pe_int (nomark _))))) (pss_cons (ps_set (i := 7) sc__law_made.nd rfl (Or.inl rfl) (pe_or2 (pe_methS (pv 7) T.cl_Whole D_Whole_harmed passesB (hr.mono (by decide)) (pa_cons (pe_op op_mod (pe_ix ix_list (pv 2) pe_int (fun _ _ => rfl)) (pe_callB call_len_seq (by rfl) T.b_len PySem.boot_len (pa_cons (pv 5) pa_nil))) (pa_cons (pe_op op_add pe_int (pe_op op_mod (pe_op op_mul (pe_ix ix_list (pv 2) pe_int (fun _ _ => rfl)) pe_int) (pe_op op_sub (pe_powc (n := 18446744073709551616)) pe_int))) pa_nil))) (pe_methS (pv 7) T.cl_Gain D_Gain_harmed passesB (hr.mono (by decide)) (pa_cons (pe_op op_mod (pe_ix ix_list (pv 2) pe_int (fun _ _ => rfl)) (pe_callB call_len_seq (by rfl) T.b_len PySem.boot_len (pa_cons (pv 5) pa_nil))) (pa_cons (pe_op op_add pe_int (pe_op op_mod (pe_op op_mul (pe_ix ix_list (pv 2) pe_int (fun _ _ => rfl)) pe_int) (pe_op op_sub (pe_powc (n := 18446744073709551616)) pe_int))) pa_nil)))))
      (pss_one (ps_set (i := 8) sc__law_made.nd rfl (Or.inl rfl) pe_int))) pss_nil)
      (pss_one (ps_ret (pe_lst (pa_cons (pv 7) (pa_cons (pe_tup (pa_cons (pv 6) (pa_cons (pv 3) (pa_cons (pv 8) (pa_cons (pe_callB call_len_seq (by rfl) T.b_len PySem.boot_len (pa_cons (pv 5) pa_nil)) pa_nil))))) pa_nil)))))))))))), ?_⟩
  have upK : ∀ {H4 : Hp} {x dx : Addr} {o : HO}, H4 x = none->H4 dx = none->∀ t o', H4 t = some o'->upd (upd H4 dx (.own x)) x o t = some o' := fun hx hd t o' e => by rw [upd_ne (ne_of_none e hx), upd_ne (ne_of_none e hd)]; exact e
  refine cutA (fun σ H' => ∃ (xl : Addr) (xs : List Int), σ = [some (.int c), some (.int (wd : Int)), some (.ref xl), none, none, none, none, none, none] /\ Same H H' /\ H' xl = some (.lst (xs.map V.int)) /\ xs.length = 7 /\ ∀ x ∈ xs, (0 : Int) ≤ x) (fun N hN => ?_) ?_
  · exact ⟨_, rfl, c, 7, rfl, by omega, fun l xs H1 hl _ hn h0 s1 => hN _ _ ⟨l, xs, rfl, s1, hl, hn, fun x hx => (h0 x hx).1⟩⟩
  rintro σ H1 ⟨xl, xs, rfl, s1, hxl, hxn, hx0⟩
  obtain ⟨z0, e0, m0⟩ := ints_at (ds := xs) (k := 0) (by omega) (by omega)
  obtain ⟨z1, e1, _⟩ := ints_at (ds := xs) (k := 1) (by omega) (by omega)
  obtain ⟨z2, e2, _⟩ := ints_at (ds := xs) (k := 2) (by omega) (by omega)
  obtain ⟨z3, e3, _⟩ := ints_at (ds := xs) (k := 3) (by omega) (by omega)
  obtain ⟨z4, e4, _⟩ := ints_at (ds := xs) (k := 4) (by omega) (by omega)
  obtain ⟨z5, e5, _⟩ := ints_at (ds := xs) (k := 5) (by omega) (by omega)
  obtain ⟨z6, e6, _⟩ := ints_at (ds := xs) (k := 6) (by omega) (by omega)
  refine cutA (fun σ H' => ∃ dd : Nat, σ = [some (.int c), some (.int (wd : Int)), some (.ref xl), some (.int (dd : Int)), none, none, none, none, none] /\ Same H1 H' /\ 0 < dd /\ dd ≤ 1000000000) (fun N hN => ?_) ?_
  · obtain ⟨y, ey, hy⟩ := two_of (x := 10) (y := 1000000000) (k := z6 % 2) (by omega) (by omega)
    have hy0 : 0 < y /\ y ≤ 1000000000 := by rcases hy with rfl | rfl <;> omega
    have h0 := Int.emod_nonneg z0 (show y ≠ 0 by omega)
    have h1 := Int.emod_lt_of_pos z0 hy0.1
    obtain ⟨dd, hdd, hd1⟩ : ∃ dd : Nat, 1 + z0 % y = (dd : Int) /\ 0 < dd /\ dd ≤ 1000000000 := ⟨(1 + z0 % y).toNat, by omega, by omega, by omega⟩
    refine ⟨_, rfl, xl, _, _, V.int z0, rfl, rfl, SqL.of hxl, e0, (by show 2 ≤ sizeLine; decide), fun p1 hp1 => ?_⟩
    have s2 := Same.new hp1 (o := HO.lst [V.int 10, V.int 1000000000])
    exact ⟨_, rfl, xl, _, _, V.int z6, rfl, rfl, SqL.of (s2 _ _ hxl), e6, _, _, rfl, rfl, (by first | decide | (dsimp only; decide)), p1, _, _, V.int y, rfl, rfl, SqL.of upd_same, ey, _, _, rfl, rfl, hy0.1, _, _, rfl, rfl, hN _ _ ⟨dd, by dsimp only; rw [hdd]; rfl, s2, hd1⟩⟩
  rintro σ H2 ⟨dd, rfl, s2, hd0, hd1⟩
  have hx2 := s2 _ _ hxl
  refine cutA (fun σ H' => ∃ fu : Bool, σ = [some (.int c), some (.int (wd : Int)), some (.ref xl), some (.int (dd : Int)), some (.bl fu), none, none, none, none] /\ H2 = H') (fun N hN => ?_) ?_
  · exact ⟨_, rfl, xl, _, _, V.int z1, rfl, rfl, SqL.of hx2, e1, _, _, rfl, rfl, (by first | decide | (dsimp only; decide)), rfl, hN _ _ ⟨_, rfl, rfl⟩⟩
  rintro σ _ ⟨fu, rfl, rfl⟩
  refine cutA (fun σ H' => ∃ (rl : Addr) (L : List V) (rows : List (Nat × Nat)), σ = [some (.int c), some (.int (wd : Int)), some (.ref xl), some (.int (dd : Int)), some (.bl fu), some (.ref rl), none, none, none] /\ Same H2 H' /\ H' rl = some (.lst L) /\ RowsAt H' L rows /\ rows.length ≤ wd /\ ∀ r ∈ rows, r.1 < wd /\ r.2 < 2 ^ 64) (fun N hN => ?_) ?_
  · exact ⟨_, rfl, xl, _, _, V.int z2, rfl, rfl, SqL.of hx2, e2, _, rfl, _, rfl, z2, wd, fu, rfl, hw, fun l L rows H3 hl _ R hrl hrb s3 => hN _ _ ⟨l, L, rows, rfl, s3, hl, R, hrl, hrb⟩⟩
  rintro σ H3 ⟨rl, L, rows, rfl, s3, hrl, R3, hrw, hrb⟩
  have hx3 := s3 _ _ hx2
  refine cutA (fun σ H' => ∃ (u : PcU) (a : Addr), σ = [some (.int c), some (.int (wd : Int)), some (.ref xl), some (.int (dd : Int)), some (.bl fu), some (.ref rl), some (.int u.st), some (.ref a), none] /\ Same H3 H' /\ PAt C_Whole C_Gain H' a u.wh u.b u.d u.rows u.c /\ u.c = (ckOf u.wh u.b u.d u.rows : Nat) /\ u.rows = rows /\ u.d = dd /\ u.b ≤ 1000000000) (fun N hN => ?_) ?_
  · refine ⟨_, rfl, _, rfl, ?_⟩
    cases fu
    · have h0 := Int.emod_nonneg z3 (show (dd : Int) ≠ 0 by omega)
      have h1 := Int.emod_lt_of_pos z3 (show (0 : Int) < dd by omega)
      obtain ⟨bb, hbb, hb1⟩ : ∃ bb : Nat, z3 % (dd : Int) = (bb : Int) /\ bb < dd := ⟨(z3 % (dd : Int)).toNat, by omega, by omega⟩
      refine iteF ⟨_, rfl, xl, _, _, V.int z3, rfl, rfl, SqL.of hx3, e3, _, rfl, _, _, rfl, rfl, (by show (0 : Int) < dd; omega), ?_⟩
      dsimp only
      rw [hbb]
      exact ⟨_, rfl, _, rfl, _, rfl, fun x dx hx hd ne => ⟨x, dx, rl, bb, dd, L, rows, .non, _, rfl, upd_same, .inl (upK hx hd _ _ hrl), R3.mono (fun t xs e => upK hx hd t _ e), by omega, .inl ⟨rfl, rfl⟩, fun J hP k => ⟨rfl, hN _ _ ⟨⟨false, bb, dd, rows, _⟩, x, by rw [st_g rfl]; rfl, made_same hx hd k, hP, rfl, rfl, rfl, by show bb ≤ _; omega⟩⟩⟩⟩
    · refine iteT ⟨_, rfl, _, rfl, _, rfl, fun x dx hx hd ne => ⟨x, dx, rl, dd, L, rows, .non, _, rfl, upd_same, .inl (upK hx hd _ _ hrl), R3.mono (fun t xs e => upK hx hd t _ e), by omega, .inl ⟨rfl, rfl⟩, fun J hP k => ⟨rfl, hN _ _ ⟨⟨true, 0, dd, rows, _⟩, x, rfl, made_same hx hd k, hP, rfl, rfl, rfl, by show 0 ≤ _; omega⟩⟩⟩⟩
  rintro σ H4 ⟨u, a, rfl, s4, hPa, hgood, hur, hud, hub⟩
  refine cutA (fun σ H' => σ = [some (.int c), some (.int (wd : Int)), some (.ref xl), some (.int (dd : Int)), some (.bl fu), some (.ref rl), some (.int u.st), some (.ref a), some (.int 0)] /\ H4 = H') (fun N hN => hN _ _ ⟨rfl, rfl⟩) ?_
  rintro σ _ ⟨rfl, rfl⟩
  have hrl4 := s4 _ _ hrl
  have hx4 := s4 _ _ hx3
  have R : RowsAt H4 L u.rows := by rw [hur]; exact R3.mono fun t xs e => s4 t _ e
  have hul : u.rows.length ≤ 40 := by rw [hur]; omega
  refine cutA (fun σ H' => ∃ (a2 : Addr) (u2 : PcU), σ = [some (.int c), some (.int (wd : Int)), some (.ref xl), some (.int (dd : Int)), some (.bl fu), some (.ref rl), some (.int u2.st), some (.ref a2), some (.int (badI u2))] /\ Same H4 H' /\ PAt C_Whole C_Gain H' a2 u2.wh u2.b u2.d u2.rows u2.c /\ u2.d = dd /\ u2.rows.length = u.rows.length) (fun N2 hN2 => ?_) ?_
  · refine if_PQ (fun H' => Same H4 H' /\ L ≠ []) (fun H' => Same H4 H') (fun Qb y1 y2 => ?_) (fun H6 h6 => ?_) (fun H6 s6 => ?_)
    · refine ⟨_, rfl, Nat.zero_le _, fun m hm => ⟨0, decide (L = []), by decide, ne_nil33 (Same.new hm _ _ hrl4) upd_same, _, rfl, ?_⟩⟩
      by_cases hL : L = []
      · rw [decide_eq_true hL]; exact iteF (y2 _ (Same.new hm))
      · rw [decide_eq_false hL]
        refine iteT ⟨_, rfl, xl, _, _, V.int z4, rfl, rfl, SqL.of (Same.new hm _ _ hx4), e4, _, _, rfl, rfl, (by first | decide | (dsimp only; decide)), rfl, _, rfl, ?_⟩
        generalize decide ((fun i j => V.int (i % j)) z4 3 = V.int 0) = bb
        cases bb
        · exact y2 _ (Same.new hm)
        · exact y1 _ ⟨Same.new hm, hL⟩
    · obtain ⟨s6, hL⟩ := h6
      have hlp : (0 : Int) < ((L.length : Nat) : Int) := by have := List.length_pos_iff.mpr hL; omega
      have hx6 := s6 _ _ hx4
      have hrl6 := s6 _ _ hrl4
      have hP6 := hPa.keep s6
      have hLl := R.len
      have i0 := Int.emod_nonneg z5 (show ((L.length : Nat) : Int) ≠ 0 by omega)
      have i1 := Int.emod_lt_of_pos z5 hlp
      obtain ⟨bt, hbt, hbt0, hbt1⟩ : ∃ bt : Nat, 1 + z4 * 8589934593 % (18446744073709551616 - 1) = (bt : Int) /\ bt ≠ 0 /\ bt < 2 ^ 64 := ⟨(1 + z4 * 8589934593 % (18446744073709551616 - 1)).toNat, by omega, by omega, by omega⟩
      have hr64 : ∀ r ∈ u.rows, r.1 < 2 ^ 64 /\ r.2 < 2 ^ 64 := fun r hr => by rw [hur] at hr; exact ⟨Nat.lt_trans (hrb r hr).1 (by omega), (hrb r hr).2⟩
      obtain ⟨dxa, r, Rr, g1a, g2a, g3a⟩ := id hP6
      cases hw : u.wh with
      | false =>
        rw [hw] at g1a
        refine .inr ⟨_, rfl, a, dxa, _, rfl, g1a, lk_no (wh := false) (by decide +kernel) (by decide +kernel) (by decide +kernel) (by decide +kernel), _, rfl, xl, _, _, V.int z5, rfl, rfl, SqL.of hx6, e5, _, rfl, rl, _, rfl, .inl (SqL.of hrl6), _, _, rfl, rfl, hlp, _, rfl, xl, _, _, V.int z4, rfl, rfl, SqL.of hx6, e4, _, _, rfl, rfl, .inr ⟨by decide, by decide⟩, _, _, rfl, rfl, _, _, rfl, rfl, (by first | decide | (dsimp only; decide)), _, _, rfl, rfl, ?_⟩
        refine ⟨a, u.wh, u.b, u.d, u.rows, u.c, z5 % (L.length : Int), bt, by rw [← hbt], hP6, by omega, fun i hi hil p2 J hP2 np2 j => hN2 _ _ ⟨p2, { u with rows := xorAt u.rows i bt }, ?_, s6.trans j, hP2, hud, xorAt_len _ _ _⟩, fun h => absurd ⟨by omega, by omega⟩ h⟩
        rw [show badI { u with rows := xorAt u.rows i bt } = 1 by unfold badI; rw [harm_bad hgood hil (by omega) (by omega) hr64 hbt0 hbt1]; exact if_neg (by decide)]
        rfl
      | true =>
        rw [hw] at g1a
        refine .inl ⟨_, rfl, a, dxa, _, rfl, g1a, lk_no (wh := true) (by decide +kernel) (by decide +kernel) (by decide +kernel) (by decide +kernel), _, rfl, xl, _, _, V.int z5, rfl, rfl, SqL.of hx6, e5, _, rfl, rl, _, rfl, .inl (SqL.of hrl6), _, _, rfl, rfl, hlp, _, rfl, xl, _, _, V.int z4, rfl, rfl, SqL.of hx6, e4, _, _, rfl, rfl, .inr ⟨by decide, by decide⟩, _, _, rfl, rfl, _, _, rfl, rfl, (by first | decide | (dsimp only; decide)), _, _, rfl, rfl, ?_⟩
        refine ⟨a, u.wh, u.b, u.d, u.rows, u.c, z5 % (L.length : Int), bt, by rw [← hbt], hP6, by omega, fun i hi hil p2 J hP2 np2 j => hN2 _ _ ⟨p2, { u with rows := xorAt u.rows i bt }, ?_, s6.trans j, hP2, hud, xorAt_len _ _ _⟩, fun h => absurd ⟨by omega, by omega⟩ h⟩
        rw [show badI { u with rows := xorAt u.rows i bt } = 1 by unfold badI; rw [harm_bad hgood hil (by omega) (by omega) hr64 hbt0 hbt1]; exact if_neg (by decide)]
        rfl
    · refine hN2 _ _ ⟨a, u, ?_, s6, hPa.keep s6, hud, rfl⟩
      rw [show badI u = 0 by unfold badI PcU.good; rw [decide_eq_true hgood]; rfl]
  rintro σ H5 ⟨a2, u2, rfl, s5, hP5, hd5, hl5⟩
  refine ⟨_, rfl, _, rfl, _, rfl, _, rfl, _, rfl, rl, _, rfl, .inl (SqL.of (s5 _ _ hrl4)), (by show 4 ≤ sizeLine; decide), fun t ht => ⟨(by show 2 ≤ sizeLine; decide), fun l hl => ?_⟩⟩
  have s6 := (Same.new ht (o := HO.tup [V.int u2.st, V.int (dd : Int), V.int (badI u2), V.int ((L.length : Nat) : Int)])).trans (Same.new hl (o := HO.lst [V.ref a2, V.ref t]))
  refine q l a2 t u2 _ upd_same ⟨a2, rfl, hP5.keep s6, by omega⟩ ⟨t, rfl, ?_, by omega⟩ (by omega) (s1.trans (s2.trans (s3.trans (s4.trans (s5.trans s6)))))
  rw [upd_ne (ne_of_none upd_same hl), upd_same, R.len, hd5, hl5]
theorem ok__law_alike {f : Addr} {fd : FuncData} (F : Fun K "_law_alike" "_law_alike" s__law_alike f fd) (T : Txt K mg t_W C_KeepError C_NoPlace C_NoPiece C_Piece C_Whole C_Gain C_Shelf) (D__law_whole : DefX P w K mg base "_law_whole" 1 ["_law_found"] sp_whole) : FnOk P w K mg base (CXx P w) 2 f fd ["_law_found", "_law_due_here"] (sp_alike33) := by
  refine F.okX sc__law_alike (fun vs H Q E h => ?_) (fun cdv A outer s H vs Q E hr h => ?_)
  · obtain ⟨f, e, LV, LW, ks, rfl, hf, he, k1, k2, h5, hl, q⟩ := h; rfl
  obtain ⟨f, e, LV, LW, ks, rfl, hf, he, k1, k2, h5, hl, q⟩ := h
  refine ⟨_, (pss_cons (ps_if (PW.pt (pw_or (pt_not (pt_val (pe_callB call_isinst (by rfl) T.b_isinstance PyProof.Rows.boot_isinstance (pa_cons (pv 0) (pa_cons (pe_bltn (v := .ty "list") rfl T.b_list PyProof.Rows.boot_list rfl) pa_nil))))) (pw_or1 (pt_cmpR op_ne (pe_callB call_len_seq (by rfl) T.b_len PySem.boot_len (pa_cons (pv 0) pa_nil)) (pe_callB call_len_seq (by rfl) T.b_len PySem.boot_len (pa_cons (pv 1) pa_nil)) (nomark _))))) (pss_one (ps_ret pe_bl)) pss_nil)
      (pss_cons (ps_for PassesOwn.leaving rfl (pi_zip rfl T.b_zip (pa_cons (pv 0) (pa_cons (pv 1) pa_nil))) (pg_tup rfl (pgs_cons (pg_name (i := 2) sc__law_alike.nd rfl (Or.inl rfl)) (pgs_cons (pg_name (i := 3) sc__law_alike.nd rfl (Or.inl rfl)) pgs_nil)))
      (pss_one (ps_if (PW.pt (pw_or (pt_not (pt_val (pe_callB call_isinst (by rfl) T.b_isinstance PyProof.Rows.boot_isinstance (pa_cons (pv 2) (pa_cons (pe_bltn (v := .ty "tuple") rfl T.b_tuple PyProof.Rows.boot_tuple rfl) pa_nil))))) (pw_or (pt_cmpR (op_ne_ref hr.units) (pv 2) (pv 3) (nomark _)) (pw_or1 (pt_cmpR op_ne (pe_callB call_len_seq (by rfl) T.b_len PySem.boot_len (pa_cons (pe_comp (N := ["_law_part"]) (k := 1) (cap := []) rfl rfl (pi_tup (pv 2)) (fun _ _ _ _ => (pg_name (i := 0) (show (["_law_part"] : List Str).Nodup from by decide +kernel) rfl (Or.inl rfl) (.inr rfl))) (fun _ _ _ _ => (pts_one (pt_val (pe_callS D__law_whole passesN (hr.mono (by decide)) rfl (pa_cons (pv 0) pa_nil))))) (fun _ _ _ _ => (pv 0))) pa_nil)) pe_int (nomark _)))))) (pss_one (ps_ret pe_bl)) pss_nil)))
      (pss_one (ps_ret pe_bl)))), ?_⟩
  refine if_no (fun Qb hq => ?_) ?_
  · refine ⟨_, rfl, _, _, _, _, true, rfl, rfl, .lst hf, rfl, _, rfl, iteF ?_⟩
    refine ⟨_, rfl, f, _, rfl, .inl (SqL.of hf), _, rfl, e, _, rfl, .inl (SqL.of he), rfl, _, rfl, ?_⟩
    rw [k1.1, k2.1, decide_eq_true rfl]
    exact hq
  try unfold tNext
  dsimp only
  refine cutA (fun σ H' => ∃ v2 v3 : Option V, σ = [some (.ref f), some (.ref e), v2, v3] /\ Same H H') (fun N hN => ?_) ?_
  · refine ⟨_, rfl, _, rfl, f, e, rfl, ⟨_, SqL.of hf⟩, ⟨_, SqL.of he⟩, for_zip (K := K) (l1 := f) (l2 := e) (xs := LV) (ys := LW) (fun i σ H2 => ∃ v2 v3 : Option V, σ = [some (.ref f), some (.ref e), v2, v3] /\ Same H H2) ⟨none, none, rfl, Same.refl _⟩ (fun i σ H2 ⟨_, _, _, s2⟩ => ⟨SqL.of (s2 f _ hf), SqL.of (s2 e _ he)⟩) (by rw [k1.1, k2.1]) ?_ ?_⟩
    · rintro i x y σ H2 TT hx hy ⟨v2, v3, rfl, s2⟩ hT
      have hil := (List.getElem?_eq_some_iff.mp hx).1
      rw [k1.1] at hil
      obtain ⟨t1, rfl, ht1⟩ := k1.2 i x _ hx (List.getElem?_eq_getElem hil)
      obtain ⟨t2, rfl, ht2⟩ := k2.2 i y _ hy (List.getElem?_eq_getElem hil)
      have hk5 := h5 _ (List.getElem_mem hil)
      generalize ks[i] = k at ht1 ht2 hk5
      have s3 := s2.trans (Same.new (o := .tup [V.ref t1, V.ref t2]) hT)
      have hT3 : upd H2 TT (.tup [V.ref t1, V.ref t2]) TT = some (.tup [V.ref t1, V.ref t2]) := upd_same
      generalize upd H2 TT (.tup [V.ref t1, V.ref t2]) = H3 at s3 hT3 ⊢
      have ht1' := s3 t1 _ ht1
      have ht2' := s3 t2 _ ht2
      refine ⟨TT, _, rfl, SqT.of hT3, rfl, _, _, rfl, _, _, rfl, rfl, ?_⟩
      refine if_B false (fun H' => Same H3 H') (fun Qb hq => ?_) (fun h => by cases h) (fun _ H4 s4 => ⟨_, _, rfl, s3.trans s4⟩)
      refine ⟨_, rfl, _, _, _, _, true, rfl, rfl, .tup ht1', rfl, _, rfl, iteF ?_⟩
      refine ⟨_, rfl, _, rfl, 0, true, by decide, SeqEq.sameT (SqT.of ht1') (SqT.of ht2') (fun x hx => by obtain ⟨z, _, rfl⟩ := List.mem_map.mp hx; exact eqI_int _), _, rfl, iteF ?_⟩
      refine ⟨_, rfl, t1, rfl, ⟨_, SqT.of ht1'⟩, fun D hD => ?_⟩
      refine comp_tup D (K := K) (a := t1) (xs := k.map V.int) (fun i σ H5 ys => ∃ v : Option V, σ = [v] /\ Same H3 H5 /\ H5 D = some (.lst ys) /\ ys = (k.take i).map V.int) ⟨none, rfl, Same.new hD, upd_same, rfl⟩ (fun i σ H5 ys _ ⟨_, _, s5, _⟩ => SqT.of (s5 _ _ ht1')) ?_ ?_
      · rintro j x σ H5 ys hi ⟨v, rfl, s5, hy, rfl⟩
        rw [List.getElem?_map] at hi
        obtain ⟨z, hz, rfl⟩ := Option.map_eq_some_iff.mp hi
        refine ⟨_, rfl, z, rfl, _, rfl, iteT ⟨_, rfl, hy, by rw [List.length_map, List.length_take]; exact small1000 (by omega), _, rfl, fun b o e => ?_, upd_same, by rw [List.take_add_one, hz, List.map_append]; rfl⟩⟩
        rw [upd_ne (ne_of_none e hD)]; exact s5 b o e
      · rintro σ H5 ys ⟨v, rfl, s5, hy, rfl⟩
        rw [List.take_of_length_le (by simp)] at hy
        refine ⟨D, _, rfl, .inl (SqL.of hy), rfl, _, rfl, ?_⟩
        rw [List.length_map, hk5, decide_eq_true (show V.int ((5 : Nat) : Int) = V.int 5 from rfl)]
        exact hq _ s5
    · rintro σ H2 ⟨v2, v3, rfl, s2⟩
      exact hN _ _ ⟨v2, v3, rfl, s2⟩
  rintro σ H2 ⟨v2, v3, rfl, s2⟩
  exact q H2 s2
theorem ok__law_rated {f : Addr} {fd : FuncData} (F : Fun K "_law_rated" "_law_rated" s__law_rated f fd) (T : Txt K mg t_W C_KeepError C_NoPlace C_NoPiece C_Piece C_Whole C_Gain C_Shelf) (D_Shelf_piece : MethX P w K mg base C_Shelf "piece" 3 ["self", "number"] (sp_piece C_Shelf C_NoPiece)) (D_clos_cost : ∀ f, ClosF P w K mg base (CXx P w) 4 f (sp_fn C_Whole C_Gain f)) (D__law_whole : DefX P w K mg base "_law_whole" 1 ["_law_found"] sp_whole) : FnOk P w K mg base (CXx P w) 6 f fd ["_law_shelf", "_law_facts", "_law_one", "_law_other", "_law_seek", "_law_each"] (sp_rated33 C_Shelf C_Whole C_Gain) := by
  refine F.okX sc__law_rated (fun vs H Q E h => ?_) (fun cdv A outer s H vs Q E hr h => ?_)
  · obtain ⟨p, d, ld, g1, g2, fl, kvs, lkv, M, sk, ea, rfl, hS, hR, hld, hL, h64, hdl, c1, c2, q⟩ := h; rfl
  obtain ⟨p, d, ld, g1, g2, fl, kvs, lkv, M, sk, ea, rfl, hS, hR, hld, hL, h64, hdl, c1, c2, q⟩ := h
  refine ⟨_, (pss_cons (ps_thaw (ps_for PassesOwn.leaving rfl (pi_dict (pv 1)) (pg_name (i := 6) sc__law_rated.nd rfl (Or.inl rfl))
      (pss_cons (ps_set (i := 7) sc__law_rated.nd rfl (Or.inl rfl) (pe_methS (pv 0) T.cl_Shelf D_Shelf_piece passesB (hr.mono (by decide)) (pa_cons (pv 6) pa_nil)))
      (pss_cons (ps_set (i := 8) sc__law_rated.nd rfl (Or.inl rfl) (pe_callV (i := 2) D_clos_cost (hr.mono (by decide)) rfl (by first | exact Or.inl rfl | exact Or.inr (Or.inl rfl) | exact Or.inr (Or.inr rfl)) (pa_cons (pv 7) pa_nil)))
      (pss_cons (ps_if (PW.pt (pw_or (pt_not (pt_val (pe_callS D__law_whole passesN (hr.mono (by decide)) rfl (pa_cons (pv 8) pa_nil)))) (pw_or1 (pt_cmpR op_ne (pv 8) (pe_op op_add (pv 4) (pe_op op_mul (pv 5) (pe_ix ix_tup (pe_dget (hu_of hr) (pv 1) (pv 6) (fun _ _ => rfl)) pe_int (fun _ _ => rfl)))) (nomark _))))) (pss_one (ps_ret pe_bl)) pss_nil)
      (pss_one (ps_if (pt_cmpR op_ne (pe_callV (i := 3) D_clos_cost (hr.mono (by decide)) rfl (by first | exact Or.inl rfl | exact Or.inr (Or.inl rfl) | exact Or.inr (Or.inr rfl)) (pa_cons (pv 7) pa_nil)) (pe_op op_add (pv 5) (pe_op op_mul (pv 4) (pe_ix ix_tup (pe_dget (hu_of hr) (pv 1) (pv 6) (fun _ _ => rfl)) pe_int (fun _ _ => rfl)))) (nomark _)) (pss_one (ps_ret pe_bl)) pss_nil)))))))
      (pss_one (ps_ret pe_bl))), ?_⟩
  have npl : p ≠ ld := by
    obtain ⟨dx, h1, _⟩ := hS
    exact ne_of h1 hld (by intro z; cases z)
  refine cutA (fun σ H' => ∃ v6 v7 v8 : Option V, σ = [some (.ref p), some (.ref ld), some (.ref g1), some (.ref g2), some (.int sk), some (.int ea), v6, v7, v8] /\ Same H H') (fun N hN => ?_) ?_
  · refine ⟨_, rfl, ld, lkv, rfl, hld, fun o nf => for_dict (d := ld) (o := o) (kvs := lkv) (fun i σ H' => ∃ v6 v7 v8 : Option V, σ = [some (.ref p), some (.ref ld), some (.ref g1), some (.ref g2), some (.int sk), some (.int ea), v6, v7, v8] /\ Same (upd H ld (.frz o (.dK lkv))) H') ⟨none, none, none, rfl, Same.refl _⟩ (fun i σ H' _ ⟨_, _, _, _, s'⟩ => s' _ _ upd_same) ?_ ?_⟩
    · rintro i k v σ H1 hi ⟨v6, v7, v8, rfl, s1⟩
      obtain ⟨n', u, rfl, eM, ⟨t, rfl, ht, hu100⟩, hvl⟩ := hL.at_ hi
      have kp := keepD s1
      have hSh1 := hS.keepF kp (by simpa using npl) (by simpa using hdl)
      have hF := NoPart.one hld
      obtain ⟨v', hv', hPR⟩ := hR.some_ n' u eM
      obtain ⟨a, rfl, hP1, hr100⟩ := PieceC.keepF hPR kp hF
      have ht1 := kp t _ ht (hF.tup ht)
      have ke : ∀ b φ, H b = some (.ext φ)->H1 b = some (.ext φ) := fun b φ e => kp b _ e (by simpa using ne_of e hld (by intro z; cases z))
      have c11 := CostAt.keepE c1 ke
      have c21 := CostAt.keepE c2 ke
      obtain ⟨f1, hf1⟩ := CostAt.fn c11
      obtain ⟨f2, hf2⟩ := CostAt.fn c21
      have hfz := s1 _ _ upd_same
      obtain ⟨dx, h1, h2⟩ := id hSh1
      refine gNameA [some (.ref p), some (.ref ld), some (.ref g1), some (.ref g2), some (.int sk), some (.int ea), some (.int n'), v7, v8] ?_
      dsimp only
      refine cutA (fun σ H' => σ = [some (.ref p), some (.ref ld), some (.ref g1), some (.ref g2), some (.int sk), some (.int ea), some (.int n'), some (.ref a), v8] /\ H1 = H') (fun N2 hN2 => ?_) ?_
      · refine ⟨_, rfl, p, dx, _, rfl, h1, lk_sno (by decide +kernel) (by decide +kernel), _, rfl, p, d, fl, kvs, n', rfl, hSh1, fun w1 hw1 => ?_, fun hw1 => by rw [hv'] at hw1; cases hw1⟩
        rw [hv'] at hw1; cases hw1
        exact hN2 _ _ ⟨rfl, rfl⟩
      rintro σ _ ⟨rfl, rfl⟩
      refine cutA (fun σ H' => σ = [some (.ref p), some (.ref ld), some (.ref g1), some (.ref g2), some (.int sk), some (.int ea), some (.int n'), some (.ref a), some (.int (sk + ea * (u.rows.length : Int)))] /\ H1 = H') (fun N2 hN2 => ?_) ?_
      · exact ⟨g1, f1, rfl, hf1, _, rfl, CostAt.ask c11 hP1 hr100 (hN2 _ _ ⟨rfl, rfl⟩)⟩
      rintro σ _ ⟨rfl, rfl⟩
      have hdg : DGet H1 ld (.int n') (some (V.ref t)) := .inl ⟨lkv, Sum.inl n', .inr ⟨o, hfz⟩, rfl, hvl.symm⟩
      refine if_no (fun Qb hq => ?_) ?_
      · refine ⟨_, rfl, _, rfl, _, rfl, iteF ?_⟩
        refine ⟨_, rfl, _, rfl, _, rfl, _, rfl, _, rfl, ld, V.ref t, rfl, hdg, t, _, _, V.int (u.rows.length : Int), rfl, rfl, SqT.of ht1, atI_nat (j := 3) rfl, _, _, rfl, rfl, .inr ⟨by omega, by omega⟩, _, _, rfl, rfl, rfl, _, rfl, ?_⟩
        rw [decide_eq_true rfl]
        exact hq
      try unfold tNext
      dsimp only
      refine if_no (fun Qb hq => ?_) ⟨_, _, _, rfl, s1⟩
      refine ⟨g2, f2, rfl, hf2, _, rfl, CostAt.ask c21 hP1 hr100 ⟨_, rfl, _, rfl, _, rfl, _, rfl, ld, V.ref t, rfl, hdg, t, _, _, V.int (u.rows.length : Int), rfl, rfl, SqT.of ht1, atI_nat (j := 3) rfl, _, _, rfl, rfl, .inr ⟨by omega, by omega⟩, _, _, rfl, rfl, rfl, _, rfl, ?_⟩⟩
      rw [decide_eq_true rfl]
      exact hq
    · rintro σ H1 ⟨v6, v7, v8, rfl, s1⟩
      exact ⟨ld, o, lkv, s1 _ _ upd_same, nf, hN _ _ ⟨v6, v7, v8, rfl, thaw_same hld s1⟩⟩
  rintro σ H1 ⟨v6, v7, v8, rfl, s1⟩
  exact q H1 s1
theorem ok__law_due {f : Addr} {fd : FuncData} (F : Fun K "_law_due" "_law_due" s__law_due f fd) (T : Txt K mg t_W C_KeepError C_NoPlace C_NoPiece C_Piece C_Whole C_Gain C_Shelf)  : FnOk P w K mg base (CXx P w) 1 f fd ["_law_facts", "_law_seek", "_law_each", "_law_late"] (sp_due33) := by
  refine F.okX sc__law_due (fun vs H Q E h => ?_) (fun cdv A outer s H vs Q E hr h => ?_)
  · obtain ⟨ld, lkv, M, sk, ea, la, rfl, hla, hld, hL, h64, q⟩ := h; rfl
  obtain ⟨ld, lkv, M, sk, ea, la, rfl, hla, hld, hL, h64, q⟩ := h
  refine ⟨_, (pss_cons (ps_set (i := 4) sc__law_due.nd rfl (Or.inl rfl) (pe_lst pa_nil))
      (pss_cons (ps_for PassesOwn.leaving rfl (pi_list (pe_callB (call_sortedD rfl) (by rfl) T.b_sorted PyProof.Rows.boot_sorted (pa_cons (pv 0) pa_nil))) (pg_name (i := 5) sc__law_due.nd rfl (Or.inl rfl))
      (pss_cons (ps_asg (pe_dget (hu_of hr) (pv 0) (pv 5) (fun _ _ => rfl)) (pg_tup rfl (pgs_cons (pg_name (i := 6) sc__law_due.nd rfl (Or.inl rfl)) (pgs_cons (pg_name (i := 7) sc__law_due.nd rfl (Or.inl rfl)) (pgs_cons (pg_name (i := 8) sc__law_due.nd rfl (Or.inl rfl)) (pgs_cons (pg_name (i := 9) sc__law_due.nd rfl (Or.inl rfl)) pgs_nil))))))
      (pss_one (ps_expr (pe_bm PySem.F.plainAttrs_list PySem.F.slot_list_append PySem.F.type_list_append mt_append (pv 4) (pa_cons (pe_tup (pa_cons (pv 5) (pa_cons (pv 6) (pa_cons (pv 7) (pa_cons (pv 8) (pa_cons (pe_op op_add (pe_op op_add (pv 1) (pe_op op_mul (pv 2) (pv 9))) (pe_op op_mul (pv 3) (pv 7))) pa_nil)))))) pa_nil))))))
      (pss_one (ps_ret (pv 4))))), ?_⟩
  refine cutA (fun σ H' => ∃ l : Addr, σ = [some (.ref ld), some (.int sk), some (.int ea), some (.int la), some (.ref l), none, none, none, none, none] /\ Same H H' /\ H l = none /\ H' l = some (.lst [])) (fun N hN => ?_) ?_
  · exact ⟨Nat.zero_le _, fun l hl => hN _ _ ⟨l, rfl, Same.new hl, hl, upd_same⟩⟩
  rintro σ H1 ⟨l, rfl, s1, nl, hl1⟩
  obtain ⟨ks, hks⟩ := allI_ns hL.alli
  have hkl : ks.length < 64 := by have := congrArg List.length hks; simp at this; omega
  refine cutA (fun σ H' => ∃ (v5 v6 v7 v8 v9 : Option V) (LV : List V) (ns : List Int), σ = [some (.ref ld), some (.int sk), some (.int ea), some (.int la), some (.ref l), v5, v6, v7, v8, v9] /\ Same H H' /\ H' l = some (.lst LV) /\ SortOf M ns /\ LegsOf H' LV M ns (fun u => sk + ea * (u.rows.length : Int) + la * (u.d : Int))) (fun N hN => ?_) ?_
  · refine ⟨_, rfl, ld, lkv, ks, rfl, s1 _ _ hld, hks, hkl, fun nl' ns' hnl' hp hs => ?_⟩
    have s2 : Same H1 (upd H1 nl' (.lst (ns'.map V.int))) := Same.new hnl'
    have hnl2 : upd H1 nl' (.lst (ns'.map V.int)) nl' = some (.lst (ns'.map V.int)) := upd_same
    have nnl : l ≠ nl' := ne_of_none hl1 hnl'
    have hl2 : upd H1 nl' (.lst (ns'.map V.int)) l = some (.lst []) := by rw [upd_ne nnl]; exact hl1
    generalize upd H1 nl' (.lst (ns'.map V.int)) = H2 at s2 hnl2 hl2 ⊢
    have hri := keys_rise hL hks hp hs
    have hmem : ∀ n, n ∈ ns' ↔ (M n).isSome = true := fun n => by rw [hp.mem_iff]; exact hL.keys hks n
    have hl' : ns'.length ≤ 63 := by rw [hp.length_eq]; omega
    refine ⟨nl', rfl, ⟨_, SqL.of hnl2⟩, for_list (K := K) (a := nl') (xs := ns'.map V.int) (fun i σ H' => ∃ (v5 v6 v7 v8 v9 : Option V) (LV : List V), σ = [some (.ref ld), some (.int sk), some (.int ea), some (.int la), some (.ref l), v5, v6, v7, v8, v9] /\ Same H H' /\ H' nl' = some (.lst (ns'.map V.int)) /\ H' l = some (.lst LV) /\ LegsOf H' LV M (ns'.take i) (fun u => sk + ea * (u.rows.length : Int) + la * (u.d : Int))) ⟨none, none, none, none, none, [], rfl, s1.trans s2, hnl2, hl2, ⟨rfl, fun i v n e => by simp at e⟩⟩ (fun i σ H' _ ⟨_, _, _, _, _, _, _, _, e, _⟩ => SqL.of e) ?_ ?_⟩
    · rintro i v σ H3 hi ⟨v5, v6, v7, v8, v9, LV, rfl, s3, hnl3, hl3, hLg⟩
      rw [List.getElem?_map] at hi
      obtain ⟨n, hn, rfl⟩ := Option.map_eq_some_iff.mp hi
      have hil := (List.getElem?_eq_some_iff.mp hn).1
      obtain ⟨u, hu⟩ := Option.isSome_iff_exists.mp ((hmem n).mp (List.mem_of_getElem? hn))
      obtain ⟨v', hv', t, rfl, ht, hu100⟩ := hL.some_ n u hu
      have hld3 := s3 _ _ hld
      have ht3 := s3 _ _ ht
      refine gNameA [some (.ref ld), some (.int sk), some (.int ea), some (.int la), some (.ref l), some (.int n), v6, v7, v8, v9] ?_
      dsimp only
      refine cutA (fun σ H' => σ = [some (.ref ld), some (.int sk), some (.int ea), some (.int la), some (.ref l), some (.int n), some (.int u.st), some (.int (u.d : Int)), some (.int (badI u)), some (.int (u.rows.length : Int))] /\ H3 = H') (fun N2 hN2 => ?_) ?_
      · exact ⟨_, rfl, _, rfl, ld, V.ref t, rfl, by rw [← hv']; exact DGet.k (k := Sum.inl n) hld3, t, _, rfl, SqT.of ht3, rfl, _, _, rfl, _, _, rfl, _, _, rfl, _, _, rfl, rfl, hN2 _ _ ⟨rfl, rfl⟩⟩
      rintro σ _ ⟨rfl, rfl⟩
      refine ⟨_, rfl, .inl ⟨rfl, _, SqL.of hl3⟩, _, rfl, _, rfl, _, rfl, _, rfl, _, rfl, _, rfl, _, rfl, _, _, rfl, rfl, .inr ⟨by omega, by omega⟩, _, _, rfl, rfl, _, rfl, _, rfl, _, _, rfl, rfl, .inl ⟨by omega, by omega⟩, _, _, rfl, rfl, (by show 5 ≤ sizeLine; decide), fun q1 hq1 => ⟨l, LV, _, rfl, rfl, by rw [upd_ne (ne_of_none hl3 hq1)]; exact hl3, by rw [LegsOf.len hLg, List.length_take]; exact small1000 (by omega), ?_⟩⟩
      have nlq : l ≠ q1 := ne_of_none hl3 hq1
      refine ⟨_, _, _, _, _, LV ++ [V.ref q1], rfl, fun b o e => ?_, ?_, upd_same, ?_⟩
      · rw [upd_ne (ne_of_none e nl), upd_ne (ne_of_none (s3 b o e) hq1)]; exact s3 b o e
      · rw [upd_ne nnl.symm, upd_ne (ne_of_none hnl3 hq1)]; exact hnl3
      · rw [show ns'.take (i + 1) = ns'.take i ++ [n] by rw [List.take_add_one, hn]; rfl]
        refine (LegsOf.mono hLg fun t xs e => ?_).snoc hu ?_
        · rw [upd_ne (ne_of e hl3 (by intro z; cases z)), upd_ne (ne_of_none e hq1)]; exact e
        · rw [upd_ne nlq.symm]; exact upd_same
    · rintro σ H3 ⟨v5, v6, v7, v8, v9, LV, rfl, s3, hnl3, hl3, hLg⟩
      rw [List.length_map, List.take_length] at hLg
      exact hN _ _ ⟨v5, v6, v7, v8, v9, LV, ns', rfl, s3, hl3, ⟨hri, hmem⟩, hLg⟩
  rintro σ H2 ⟨v5, v6, v7, v8, v9, LV, ns, rfl, s2, hl2, hso, hLg⟩
  exact ⟨_, rfl, q l LV ns H2 hl2 nl hso hLg s2⟩
theorem ok__law_filled {f : Addr} {fd : FuncData} (F : Fun K "_law_filled" "_law_filled" s__law_filled f fd) (T : Txt K mg t_W C_KeepError C_NoPlace C_NoPiece C_Piece C_Whole C_Gain C_Shelf) (D__law_made : DefX P w K mg base "_law_made" 9 ["_law_cell", "_law_wide"] (sp_made33 C_Whole C_Gain)) (D__law_drawn : DefX P w K mg base "_law_drawn" 1 ["_law_cell", "_law_many"] sp_drawn) (D_Shelf_drop : MethX P w K mg base C_Shelf "drop" 4 ["self", "number"] (sp_drop C_Shelf C_NoPiece)) (D_Shelf_lay : MethX P w K mg base C_Shelf "lay" 1 ["self", "number", "piece"] (sp_lay C_Shelf)) (D_Shelf_put : MethX P w K mg base C_Shelf "put" 2 ["self", "piece"] (sp_put C_Shelf)) : FnOk P w K mg base (CXx P w) 10 f fd ["_law_script", "_law_wide", "_law_shelf"] (sp_filled33 K C_Shelf C_Whole C_Gain) := by
  refine F.okX sc__law_filled (fun vs H Q E h => ?_) (fun cdv A outer s H vs Q E hr h => ?_)
  · obtain ⟨H0, a, p, d, ns, wd, rfl, hS, hlen, hw, hs0, hp0, hd0, hSh, q⟩ := h; rfl
  obtain ⟨H0, a, p, d, ns, wd, rfl, hS, hlen, hw, hs0, hp0, hd0, hSh, q⟩ := h
  refine ⟨_, (pss_cons (ps_set (i := 3) sc__law_filled.nd rfl (Or.inl rfl) pe_dnewK)
      (pss_cons (ps_for PassesOwn.leaving rfl (pi_list (pe_slice sl_list (pv 0) (po_some pe_int) (po_some pe_int))) (pg_name (i := 4) sc__law_filled.nd rfl (Or.inl rfl))
      (pss_cons (ps_asg (pe_callS D__law_made passesN (hr.mono (by decide)) rfl (pa_cons (pv 4) (pa_cons (pv 1) pa_nil))) (pg_tupL rfl (pgs_cons (pg_name (i := 5) sc__law_filled.nd rfl (Or.inl rfl)) (pgs_cons (pg_name (i := 6) sc__law_filled.nd rfl (Or.inl rfl)) pgs_nil))))
      (pss_cons (ps_set (i := 7) sc__law_filled.nd rfl (Or.inl rfl) (pe_callS D__law_drawn passesN (hr.mono (by decide)) rfl (pa_cons (pe_op op_fdivB (pv 4) pe_int) (pa_cons pe_int pa_nil))))
      (pss_cons (ps_set (i := 8) sc__law_filled.nd rfl (Or.inl rfl) (pe_callB (call_sortedD rfl) (by rfl) T.b_sorted PyProof.Rows.boot_sorted (pa_cons (pv 3) pa_nil)))
      (pss_one (ps_if (PW.pt (pw_and (pt_cmpR op_eq (pe_op op_mod (pe_ix ix_list (pv 7) pe_int (fun _ _ => rfl)) pe_int) pe_int (nomark _)) (pw_and1 (pt_cmpR (op_ne_ref hr.units) (pv 8) (pe_lst pa_nil) (nomark _))))) (pss_cons (ps_set (i := 9) sc__law_filled.nd rfl (Or.inl rfl) (pe_ix ix_list (pv 8) (pe_op op_mod (pe_ix ix_list (pv 7) pe_int (fun _ _ => rfl)) (pe_callB call_len_seq (by rfl) T.b_len PySem.boot_len (pa_cons (pv 8) pa_nil))) (fun _ _ => rfl)))
      (pss_cons (ps_expr (pe_methS (pv 2) T.cl_Shelf D_Shelf_drop passesB (hr.mono (by decide)) (pa_cons (pv 9) pa_nil)))
      (pss_one (ps_expr (pe_dpop1 (pv 3) (pv 9) ⟨rfl, rfl, rfl, rfl⟩))))) (pss_one (ps_if (pt_cmpR op_eq (pe_op op_mod (pe_ix ix_list (pv 7) pe_int (fun _ _ => rfl)) pe_int) pe_int (nomark _)) (pss_cons (ps_set (i := 9) sc__law_filled.nd rfl (Or.inl rfl) (pe_ix ix_list (pe_lst (pa_cons (pe_op op_mod (pe_ix ix_list (pv 7) pe_int (fun _ _ => rfl)) pe_int) (pa_cons (pe_op op_mod (pe_ix ix_list (pv 7) pe_int (fun _ _ => rfl)) pe_int) pa_nil))) (pe_op op_mod (pe_op op_fdivB (pe_ix ix_list (pv 7) pe_int (fun _ _ => rfl)) pe_int) pe_int) (fun _ _ => rfl)))
      (pss_cons (ps_expr (pe_methS (pv 2) T.cl_Shelf D_Shelf_lay passesN (hr.mono (by decide)) (pa_cons (pv 9) (pa_cons (pv 5) pa_nil))))
      (pss_one (ps_dput (hu_of hr) (pv 3) (pv 9) (pv 6) rfl)))) (pss_one (ps_dput (hu_of hr) (pv 3) (pe_methS (pv 2) T.cl_Shelf D_Shelf_put passesN (hr.mono (by decide)) (pa_cons (pv 5) pa_nil)) (pv 6) rfl))))))))))
      (pss_one (ps_ret (pv 3))))), ?_⟩
  refine cutA (fun σ H' => ∃ ld : Addr, σ = [some (.ref a), some (.int (wd : Int)), some (.ref p), some (.ref ld), none, none, none, none, none, none] /\ F33 C_Shelf C_Whole C_Gain H0 H' p d ld 0 (fun _ => none) (fun _ => none) [] [] /\ Same H H') (fun N hN => ?_) ?_
  · intro ld hld
    obtain ⟨dx, g1, g2⟩ := hSh
    have s1 : Same H (upd H ld (.dK [])) := Same.new hld
    exact hN _ _ ⟨ld, rfl, ⟨hs0.trans s1, ⟨dx, s1 _ _ g1, s1 _ _ g2⟩, DRep.nil, upd_same, DRep.nil, ⟨hp0, hd0, hs0.free hld⟩, fun z => by rw [← z, g2] at hld; cases hld⟩, s1⟩
  rintro σ H1 ⟨ld, rfl, F1, s1⟩
  obtain ⟨cs, hcs, hcl⟩ := cut33 ns
  refine cutA (fun σ H' => ∃ (v4 v5 v6 v7 v8 v9 : Option V) (fl : Int) (kvs lkv : List (Key × V)) (M : LiesC), σ = [some (.ref a), some (.int (wd : Int)), some (.ref p), some (.ref ld), v4, v5, v6, v7, v8, v9] /\ F33 C_Shelf C_Whole C_Gain H0 H' p d ld fl M M kvs lkv /\ kvs.length ≤ 40 /\ lkv.length ≤ 40 /\ ∀ n u, M n = some u->u.rows.length ≤ 40) (fun N hN => ?_) ?_
  · refine ⟨_, rfl, _, rfl, _, rfl, a, _, rfl, s1.seq hS, fun c1 hc1 => ?_⟩
    rw [hcs]
    have s2 := Same.new hc1 (o := HO.lst (cs.map V.int))
    refine ⟨c1, rfl, ⟨_, SqL.of upd_same⟩, for_list (K := K) (a := c1) (xs := cs.map V.int) (fun i σ H' => ∃ (v4 v5 v6 v7 v8 v9 : Option V) (fl : Int) (kvs lkv : List (Key × V)) (M : LiesC), σ = [some (.ref a), some (.int (wd : Int)), some (.ref p), some (.ref ld), v4, v5, v6, v7, v8, v9] /\ F33 C_Shelf C_Whole C_Gain H0 H' p d ld fl M M kvs lkv /\ H' c1 = some (.lst (cs.map V.int)) /\ kvs.length ≤ i /\ lkv.length ≤ i /\ ∀ n u, M n = some u->u.rows.length ≤ 40) ⟨none, none, none, none, none, none, 0, [], [], _, rfl, F1.keep s2, upd_same, Nat.le_refl _, Nat.le_refl _, fun n u e => by cases e⟩ (fun i σ H' _ ⟨_, _, _, _, _, _, _, _, _, _, _, _, e, _⟩ => SqL.of e) ?_ ?_⟩
    · rintro i v σ H3 hi ⟨v4, v5, v6, v7, v8, v9, fl, kvs, lkv, M, rfl, F3, hc3, hk, hl, h40⟩
      rw [List.getElem?_map] at hi
      obtain ⟨cc, hcc, rfl⟩ := Option.map_eq_some_iff.mp hi
      have hil := (List.getElem?_eq_some_iff.mp hcc).1
      refine gNameA [some (.ref a), some (.int (wd : Int)), some (.ref p), some (.ref ld), some (.int cc), v5, v6, v7, v8, v9] ?_
      dsimp only
      refine cutA (fun σ H' => ∃ (a5 t6 : Addr) (u : PcU), σ = [some (.ref a), some (.int (wd : Int)), some (.ref p), some (.ref ld), some (.int cc), some (.ref a5), some (.ref t6), v7, v8, v9] /\ Same H3 H' /\ PieceC C_Whole C_Gain H' (.ref a5) u /\ LV33 H' (.ref t6) u /\ u.rows.length ≤ 40) (fun N2 hN2 => ?_) ?_
      · refine ⟨_, rfl, _, rfl, cc, wd, rfl, hw, fun l a5 t6 u H4 hl4 hP hV hu s4 => ?_⟩
        exact ⟨l, _, rfl, SqL.of hl4, rfl, _, _, rfl, _, _, rfl, rfl, hN2 _ _ ⟨a5, t6, u, rfl, s4, hP, hV, hu⟩⟩
      rintro σ H4 ⟨a5, t6, u, rfl, s4, hP4, hV4, hu40⟩
      refine cutA (fun σ H' => ∃ (xl : Addr) (xs : List Int), σ = [some (.ref a), some (.int (wd : Int)), some (.ref p), some (.ref ld), some (.int cc), some (.ref a5), some (.ref t6), some (.ref xl), v8, v9] /\ Same H4 H' /\ H' xl = some (.lst (xs.map V.int)) /\ xs.length = 2 /\ ∀ x ∈ xs, (0 : Int) ≤ x) (fun N2 hN2 => ?_) ?_
      · exact ⟨_, rfl, _, _, rfl, rfl, ⟨by first | decide | (dsimp only; decide), by first | decide | (dsimp only; decide)⟩, _, 2, rfl, by omega, fun l xs H5 hl5 _ hn h0 s5 => hN2 _ _ ⟨l, xs, rfl, s5, hl5, hn, fun x hx => (h0 x hx).1⟩⟩
      rintro σ H5 ⟨xl, xs, rfl, s5, hxl, hxn, hx0⟩
      obtain ⟨z0, e0, _⟩ := ints_at (ds := xs) (k := 0) (by omega) (by omega)
      obtain ⟨z1, e1, mz1⟩ := ints_at (ds := xs) (k := 1) (by omega) (by omega)
      have hz1 := hx0 z1 mz1
      have F5 := F3.keep (s4.trans s5)
      obtain ⟨ks, hks⟩ := allI_ns F5.lr.alli
      have hkl : ks.length < 64 := by have := congrArg List.length hks; simp at this; omega
      refine cutA (fun σ H' => ∃ (th : Addr) (ms : List Int), σ = [some (.ref a), some (.int (wd : Int)), some (.ref p), some (.ref ld), some (.int cc), some (.ref a5), some (.ref t6), some (.ref xl), some (.ref th), v9] /\ Same H5 H' /\ H' th = some (.lst (ms.map V.int)) /\ ∀ n ∈ ms, (M n).isSome = true) (fun N2 hN2 => ?_) ?_
      · exact ⟨_, rfl, ld, lkv, ks, rfl, F5.ld_, hks, hkl, fun l ms hl' hp hs => hN2 _ _ ⟨l, ms, rfl, Same.new hl', upd_same, fun n hn => (DRep.keys F5.lr hks n).mp (hp.mem_iff.mp hn)⟩⟩
      rintro σ H6 ⟨th, ms, rfl, s6, hth, hms⟩
      have F6 := F5.keep s6
      have hx6 := s6 _ _ hxl
      have hP6 := PieceC.keep (PieceC.keep hP4 s5) s6
      have hV6 := LV33.keep (LV33.keep hV4 s5) s6
      have hc6 := s6 _ _ (s5 _ _ (s4 _ _ hc3))
      have hil40 : i < 40 := by omega
      refine if_PQ (fun H' => Same H6 H' /\ ms ≠ []) (fun H' => Same H6 H') (fun Qb y1 y2 => ?_) (fun H7 h7 => ?_) (fun H7 s7 => ?_)
      · refine ⟨_, rfl, xl, _, _, V.int z0, rfl, rfl, SqL.of hx6, e0, _, _, rfl, rfl, (by first | decide | (dsimp only; decide)), rfl, _, rfl, ?_⟩
        generalize decide ((fun i j => V.int (i % j)) z0 6 = V.int 5) = bb
        cases bb
        · exact iteF (y2 _ (Same.refl _))
        · refine iteT ⟨_, rfl, Nat.zero_le _, fun m hm => ⟨0, decide (ms = []), by decide, SeqEq.ints (ys := []) (SqL.of (Same.new hm _ _ hth)) (SqL.of upd_same), _, rfl, ?_⟩⟩
          by_cases hms0 : ms = []
          · rw [decide_eq_true hms0]; exact y2 _ (Same.new hm)
          · rw [decide_eq_false hms0]; exact y1 _ ⟨Same.new hm, hms0⟩
      · obtain ⟨s7, hne⟩ := h7
        have F7 := F6.keep s7
        have hlp : (0 : Int) < (((ms.map V.int).length : Nat) : Int) := by have := List.length_pos_iff.mpr hne; rw [List.length_map]; omega
        have i0 := Int.emod_nonneg z1 (show (((ms.map V.int).length : Nat) : Int) ≠ 0 by omega)
        have i1 := Int.emod_lt_of_pos z1 hlp
        obtain ⟨n, en, mn⟩ := ints_at (ds := ms) (k := z1 % (((ms.map V.int).length : Nat) : Int)) i0 (by rw [List.length_map] at i1 ⊢; exact i1)
        obtain ⟨un, hun⟩ := Option.isSome_iff_exists.mp (hms n mn)
        refine cutA (fun σ H' => σ = [some (.ref a), some (.int (wd : Int)), some (.ref p), some (.ref ld), some (.int cc), some (.ref a5), some (.ref t6), some (.ref xl), some (.ref th), some (.int n)] /\ H7 = H') (fun N2 hN2 => ?_) ?_
        · exact ⟨_, rfl, _, rfl, xl, _, _, V.int z1, rfl, rfl, SqL.of (s7 _ _ hx6), e1, _, rfl, th, _, rfl, .inl (SqL.of (s7 _ _ hth)), _, _, rfl, rfl, hlp, th, _, _, V.int n, rfl, rfl, SqL.of (s7 _ _ hth), en, hN2 _ _ ⟨rfl, rfl⟩⟩
        rintro σ _ ⟨rfl, rfl⟩
        obtain ⟨dx7, h17, h27⟩ := id F7.sh
        obtain ⟨vn, hvn, hPn⟩ := F7.sr.some_ n un hun
        refine ⟨_, rfl, p, dx7, _, rfl, h17, lk_sno (by decide +kernel) (by decide +kernel), _, rfl, p, d, fl, kvs, n, rfl, F7.sh, fun v hv H8 hS8 k8 => ?_, fun hv => by rw [hvn] at hv; cases hv⟩
        have F8 := F7.shelf k8 hS8 ((F7.sr.mono fun _ _ z => PieceC.keepF z k8 F7.part).drop n)
        obtain ⟨wn, hwn, hLn⟩ := F8.lr.some_ n un hun
        refine ⟨_, rfl, ld, rfl, .inl ⟨lkv, .inl F8.ld_⟩, _, rfl, lkv, Sum.inl n, wn, F8.ld_, rfl, hwn, ?_⟩
        have F9 := F8.lies (F8.lr.drop n)
        have l1 := dropK_le kvs (Sum.inl n)
        have l2 := dropK_le lkv (Sum.inl n)
        refine ⟨_, _, _, _, _, _, fl, _, _, _, rfl, F9, ?_, by omega, by omega, fun n' u' e => ?_⟩
        · have h := k8 _ _ (s7 _ _ hc6) (F7.part.lst (s7 _ _ hc6))
          rw [upd_ne (ne_of h F8.ld_ (by intro z; cases z))]; exact h
        · by_cases em : n' = n
          · rw [em, aput_eq] at e; cases e
          · rw [aput_ne em] at e; exact h40 n' u' e
      · have F7 := F6.keep s7
        refine if_any (fun Qb y1 y2 => ?_) ?_ ?_
        · refine ⟨_, rfl, xl, _, _, V.int z0, rfl, rfl, SqL.of (s7 _ _ hx6), e0, _, _, rfl, rfl, (by first | decide | (dsimp only; decide)), rfl, _, rfl, ?_⟩
          generalize decide ((fun i j => V.int (i % j)) z0 6 = V.int 4) = bb
          cases bb
          · exact y2
          · exact y1
        · obtain ⟨num, enum, hnum⟩ := two_of (x := z1 % 1000) (y := z1 % 9) (k := z1 / 1000 % 2) (by omega) (by omega)
          refine cutA (fun σ H' => σ = [some (.ref a), some (.int (wd : Int)), some (.ref p), some (.ref ld), some (.int cc), some (.ref a5), some (.ref t6), some (.ref xl), some (.ref th), some (.int num)] /\ Same H7 H') (fun N2 hN2 => ?_) ?_
          · refine ⟨_, rfl, xl, _, _, V.int z1, rfl, rfl, SqL.of (s7 _ _ hx6), e1, _, _, rfl, rfl, (by first | decide | (dsimp only; decide)), _, rfl, xl, _, _, V.int z1, rfl, rfl, SqL.of (s7 _ _ hx6), e1, _, _, rfl, rfl, (by first | decide | (dsimp only; decide)), (by show 2 ≤ sizeLine; decide), fun p1 hp1 => ?_⟩
            exact ⟨_, rfl, xl, _, _, V.int z1, rfl, rfl, SqL.of (Same.new hp1 _ _ (s7 _ _ hx6)), e1, _, _, rfl, rfl, ⟨by first | decide | (dsimp only; decide), by first | decide | (dsimp only; decide)⟩, _, _, rfl, rfl, (by first | decide | (dsimp only; decide)), p1, _, _, V.int num, rfl, rfl, SqL.of upd_same, enum, hN2 _ _ ⟨rfl, Same.new hp1⟩⟩
          rintro σ H7' ⟨rfl, s7'⟩
          replace s7 := s7.trans s7'
          replace F7 := F7.keep s7'
          obtain ⟨dx7, h17, h27⟩ := id F7.sh
          refine ⟨_, rfl, p, dx7, _, rfl, h17, lk_sno (by decide +kernel) (by decide +kernel), _, rfl, _, rfl, p, d, fl, kvs, num, a5, rfl, F7.sh, by omega, fun H8 hS8 k8 => ?_⟩
          have F8 := F7.shelf k8 hS8 ((F7.sr.mono fun _ _ z => PieceC.keepF z k8 F7.part).put (PieceC.keepF (PieceC.keep hP6 s7) k8 F7.part))
          refine ⟨_, rfl, _, rfl, _, rfl, ld, _, rfl, DPut.k (k := Sum.inl num) F8.ld_ (small1000 (by omega)), ?_⟩
          have hc8 := k8 _ _ (s7 _ _ hc6) (F7.part.lst (s7 _ _ hc6))
          have lp1 := length_putK kvs (Sum.inl num) (V.ref a5)
          have lp2 := length_putK lkv (Sum.inl num) (V.ref t6)
          have F9 := F8.lies (F8.lr.put (n := num) (LV33.keepF (LV33.keep hV6 s7) k8 F7.part))
          refine ⟨_, _, _, _, _, _, _, _, _, _, rfl, F9, ?_, by omega, by omega, fun n' u' e => ?_⟩
          · rw [upd_ne (ne_of hc8 F8.ld_ (by intro z; cases z))]; exact hc8
          · by_cases em : n' = num
            · rw [em, aput_eq] at e; cases e; exact hu40
            · rw [aput_ne em] at e; exact h40 n' u' e
        · obtain ⟨dx7, h17, h27⟩ := id F7.sh
          refine ⟨_, rfl, _, rfl, _, rfl, p, dx7, _, rfl, h17, lk_sno (by decide +kernel) (by decide +kernel), _, rfl, p, d, fl, kvs, a5, rfl, F7.sh, by omega, fun H8 hS8 k8 => ?_⟩
          have F8 := F7.shelf k8 hS8 ((F7.sr.mono fun _ _ z => PieceC.keepF z k8 F7.part).put (PieceC.keepF (PieceC.keep hP6 s7) k8 F7.part))
          refine ⟨ld, _, rfl, DPut.k (k := Sum.inl fl) F8.ld_ (small1000 (by omega)), ?_⟩
          have hc8 := k8 _ _ (s7 _ _ hc6) (F7.part.lst (s7 _ _ hc6))
          have lp1 := length_putK kvs (Sum.inl fl) (V.ref a5)
          have lp2 := length_putK lkv (Sum.inl fl) (V.ref t6)
          have F9 := F8.lies (F8.lr.put (n := fl) (LV33.keepF (LV33.keep hV6 s7) k8 F7.part))
          refine ⟨_, _, _, _, _, _, _, _, _, _, rfl, F9, ?_, by omega, by omega, fun n' u' e => ?_⟩
          · rw [upd_ne (ne_of hc8 F8.ld_ (by intro z; cases z))]; exact hc8
          · by_cases em : n' = fl
            · rw [em, aput_eq] at e; cases e; exact hu40
            · rw [aput_ne em] at e; exact h40 n' u' e
    · rintro σ H3 ⟨v4, v5, v6, v7, v8, v9, fl, kvs, lkv, M, rfl, F3, hc3, hk, hl, h40⟩
      rw [List.length_map] at hk hl
      exact hN _ _ ⟨v4, v5, v6, v7, v8, v9, fl, kvs, lkv, M, rfl, F3, by omega, by omega, h40⟩
  rintro σ H2 ⟨v4, v5, v6, v7, v8, v9, fl, kvs, lkv, M, rfl, F2, hk, hl, h40⟩
  exact ⟨_, rfl, q ld fl kvs lkv M H2 F2.same F2.sh F2.sr F2.ld_ F2.lr (by omega) (by omega) F2.dld h40⟩
theorem ok_law {f : Addr} {fd : FuncData} (F : Fun K "law" "law" s_law f fd) (hcc : fd.code = .ref cc_law) (T : Txt K mg t_W C_KeepError C_NoPlace C_NoPiece C_Piece C_Whole C_Gain C_Shelf) (D__law_cell_at : DefX P w K mg base "_law_cell_at" 1 ["_law_script", "_law_k"] (sp_cell K)) (D_rate : DefX P w K mg base "rate" 1 ["seek", "each"] (sp_maker T_rate (stPos s_cost) "cost" "rate.<locals>.cost" (defArgs s_cost) (defBody s_cost) (defScope s_cost) ["seek", "each"])) (D_Shelf : MakeX P w K mg base "Shelf" C_Shelf 1 ["self"] (sp_sinit C_Shelf)) (D__law_filled : DefX P w K mg base "_law_filled" 10 ["_law_script", "_law_wide", "_law_shelf"] (sp_filled33 K C_Shelf C_Whole C_Gain)) (D_legs_of : DefX P w K mg base "legs_of" 6 ["shelf", "cost"] (sp_legsof C_Shelf C_Whole C_Gain)) (D__law_rated : DefX P w K mg base "_law_rated" 6 ["_law_shelf", "_law_facts", "_law_one", "_law_other", "_law_seek", "_law_each"] (sp_rated33 C_Shelf C_Whole C_Gain)) (D__law_alike : DefX P w K mg base "_law_alike" 2 ["_law_found", "_law_due_here"] sp_alike33) (D__law_due : DefX P w K mg base "_law_due" 1 ["_law_facts", "_law_seek", "_law_each", "_law_late"] sp_due33) (D_tab_law : PySem.W.CodeHd base cc_law T_law /\ base.BuiltinsAt mg T_law /\ mainGlobals ≠ T_law) (D_tabne : T_rate ≠ T_law) : FnOk P w K mg base (CXx P w) 11 f fd ["_law_script"] (sp_law K [(cc_rate, T_rate), (cc_law, T_law)]) := by
  refine F.okXc hcc sc_law (fun vs H Q E h => ?_) (fun A outer s H vs Q E hr h => ?_)
  · obtain ⟨a, ns, rfl, hS, hlen, hT, q⟩ := h; rfl
  obtain ⟨a, ns, rfl, hS, hlen, hT, q⟩ := h
  refine ⟨_, (pss_cons (ps_set (i := 1) sc_law.nd rfl (Or.inl rfl) (pe_op op_add pe_int (pe_op op_mod (pe_callS D__law_cell_at passesN (hr.mono (by decide)) rfl (pa_cons (pv 0) (pa_cons pe_int pa_nil))) pe_int)))
      (pss_cons (ps_if (pt_cmpR op_eq (pe_op op_mod (pe_op op_fdivB (pe_callS D__law_cell_at passesN (hr.mono (by decide)) rfl (pa_cons (pv 0) (pa_cons pe_int pa_nil))) pe_int) pe_int) pe_int (nomark _)) (pss_one (ps_set (i := 1) sc_law.nd rfl (Or.inl rfl) pe_int)) pss_nil)
      (pss_cons (ps_set (i := 2) sc_law.nd rfl (Or.inl rfl) (pe_ix ix_list (pe_lst (pa_cons pe_int (pa_cons pe_int (pa_cons (pe_op op_add (pe_powc (n := 1000000000000000000000000)) pe_int) pa_nil)))) (pe_op op_mod (pe_op op_fdivB (pe_callS D__law_cell_at passesN (hr.mono (by decide)) rfl (pa_cons (pv 0) (pa_cons pe_int pa_nil))) pe_int) pe_int) (fun _ _ => rfl)))
      (pss_cons (ps_set (i := 3) sc_law.nd rfl (Or.inl rfl) (pe_op op_mod (pe_op op_mul (pe_callS D__law_cell_at passesN (hr.mono (by decide)) rfl (pa_cons (pv 0) (pa_cons pe_int pa_nil))) pe_int) (pv 2)))
      (pss_cons (ps_set (i := 4) sc_law.nd rfl (Or.inl rfl) (pe_op op_mod (pe_op op_mul (pe_callS D__law_cell_at passesN (hr.mono (by decide)) rfl (pa_cons (pv 0) (pa_cons pe_int pa_nil))) pe_int) (pv 2)))
      (pss_cons (ps_set (i := 5) sc_law.nd rfl (Or.inl rfl) (pe_callS D_rate passesN (hr.mono (by decide)) rfl (pa_cons (pv 3) (pa_cons (pv 4) pa_nil))))
      (pss_cons (ps_set (i := 6) sc_law.nd rfl (Or.inl rfl) (pe_callS D_rate passesN (hr.mono (by decide)) rfl (pa_cons (pv 4) (pa_cons (pv 3) pa_nil))))
      (pss_cons (ps_set (i := 7) sc_law.nd rfl (Or.inl rfl) (pe_makeS0 D_Shelf passesN (hr.mono (by decide)) rfl))
      (pss_cons (ps_set (i := 8) sc_law.nd rfl (Or.inl rfl) (pe_callS D__law_filled passesN (hr.mono (by decide)) rfl (pa_cons (pv 0) (pa_cons (pv 1) (pa_cons (pv 7) pa_nil)))))
      (pss_cons (ps_set (i := 9) sc_law.nd rfl (Or.inl rfl) (pe_callS D_legs_of passesN (hr.mono (by decide)) rfl (pa_cons (pv 7) (pa_cons (pv 5) pa_nil))))
      (pss_cons (ps_if (PW.pt (pw_or (pt_not (pt_val (pe_callS D__law_alike passesN (hr.mono (by decide)) rfl (pa_cons (pv 9) (pa_cons (pe_callS D__law_due passesN (hr.mono (by decide)) rfl (pa_cons (pv 8) (pa_cons (pv 3) (pa_cons (pv 4) (pa_cons pe_int pa_nil))))) pa_nil))))) (pw_or1 (pt_not (pt_val (pe_callS D__law_rated passesN (hr.mono (by decide)) rfl (pa_cons (pv 7) (pa_cons (pv 8) (pa_cons (pv 5) (pa_cons (pv 6) (pa_cons (pv 3) (pa_cons (pv 4) pa_nil)))))))))))) (pss_one (ps_ret pe_bl)) pss_nil)
      (pss_cons (ps_expr (pe_bm0 PySem.F.plainAttrs_list PySem.F.slot_list_clear PySem.F.type_list_clear mt_clear (pv 9)))
      (pss_cons (ps_set (i := 9) sc_law.nd rfl (Or.inl rfl) (pe_callS D_legs_of passesN (hr.mono (by decide)) rfl (pa_cons (pv 7) (pa_cons (pe_lam (c := cc_law) (T := T_law) (qual := "law.<locals>.<lambda>") rfl D_tab_law.1 D_tab_law.2.1 D_tab_law.2.2 rfl rfl (show Str.ofString "law" ++ ".<locals>." ++ "<lambda>" = Str.ofString "law.<locals>.<lambda>" by decide +kernel)) pa_nil))))
      (pss_cons (ps_if (pt_not (pt_val (pe_callS D__law_alike passesN (hr.mono (by decide)) rfl (pa_cons (pv 9) (pa_cons (pe_callS D__law_due passesN (hr.mono (by decide)) rfl (pa_cons (pv 8) (pa_cons pe_int (pa_cons pe_int (pa_cons pe_int pa_nil))))) pa_nil))))) (pss_one (ps_ret pe_bl)) pss_nil)
      (pss_one (ps_ret (pe_callS D__law_alike passesN (hr.mono (by decide)) rfl (pa_cons (pe_callS D_legs_of passesN (hr.mono (by decide)) rfl (pa_cons (pv 7) (pa_cons (pv 5) pa_nil))) (pa_cons (pe_callS D__law_due passesN (hr.mono (by decide)) rfl (pa_cons (pv 8) (pa_cons (pv 3) (pa_cons (pv 4) (pa_cons pe_int pa_nil))))) pa_nil))))))))))))))))))), ?_⟩
  have hTr : H T_rate = some (.tbl #[]) := hT (cc_rate, T_rate) (by simp)
  have hTl : H T_law = some (.tbl #[]) := hT (cc_law, T_law) (by simp)
  refine cutA (fun σ H' => ∃ wd : Nat, σ = [some (.ref a), some (.int (wd : Int)), none, none, none, none, none, none, none, none] /\ H = H' /\ wd ≤ 40) (fun N hN => ?_) ?_
  · refine ⟨_, rfl, a, ns, 0, rfl, hS, _, _, rfl, rfl, (by first | decide | (dsimp only; decide)), _, _, rfl, rfl, ?_⟩
    generalize cellI ns ((0 : Nat) : Int) = c0
    obtain ⟨wd, hwd, hw⟩ : ∃ wd : Nat, 1 + c0 % 12 = (wd : Int) /\ wd ≤ 40 := ⟨(1 + c0 % 12).toNat, by omega, by omega⟩
    exact hN _ _ ⟨wd, by dsimp only; rw [hwd]; rfl, rfl, hw⟩
  rintro σ _ ⟨wd0, rfl, rfl, hw0⟩
  refine cutA (fun σ H' => ∃ wd : Nat, σ = [some (.ref a), some (.int (wd : Int)), none, none, none, none, none, none, none, none] /\ H = H' /\ wd ≤ 40) (fun N hN => ?_) ?_
  · refine if_any (fun Qb y1 y2 => ?_) ?_ ?_
    · refine ⟨_, rfl, a, ns, 0, rfl, hS, _, _, rfl, rfl, ⟨by first | decide | (dsimp only; decide), by first | decide | (dsimp only; decide)⟩, _, _, rfl, rfl, (by first | decide | (dsimp only; decide)), rfl, _, rfl, ?_⟩
      generalize decide ((fun i j => V.int (i % j)) (cellI ns ((0 : Nat) : Int) / 12) 8 = V.int 1) = bb
      cases bb
      · exact y2
      · exact y1
    · exact hN _ _ ⟨40, rfl, rfl, by omega⟩
    · exact hN _ _ ⟨wd0, rfl, rfl, hw0⟩
  rintro σ _ ⟨wd, rfl, rfl, hw⟩
  refine cutA (fun σ H' => ∃ m : Int, σ = [some (.ref a), some (.int (wd : Int)), some (.int m), none, none, none, none, none, none, none] /\ Same H H' /\ 0 < m /\ m ≤ 10 ^ 24 + 1) (fun N hN => ?_) ?_
  · refine ⟨_, _, rfl, rfl, (by show 3 ≤ sizeLine; decide), fun p1 hp1 => ?_⟩
    obtain ⟨m, em, hm0, hm1⟩ := three33 (cellI ns ((0 : Nat) : Int) / 96)
    exact ⟨_, rfl, a, ns, 0, rfl, (Same.new hp1).seq hS, _, _, rfl, rfl, ⟨by first | decide | (dsimp only; decide), by first | decide | (dsimp only; decide)⟩, _, _, rfl, rfl, (by first | decide | (dsimp only; decide)), p1, _, _, V.int m, rfl, rfl, SqL.of upd_same, em, hN _ _ ⟨m, rfl, Same.new hp1, hm0, hm1⟩⟩
  rintro σ H1 ⟨m, rfl, s1, hm0, hm1⟩
  have hS1 := s1.seq hS
  refine cutA (fun σ H' => ∃ sk : Int, σ = [some (.ref a), some (.int (wd : Int)), some (.int m), some (.int sk), none, none, none, none, none, none] /\ H1 = H' /\ 0 ≤ sk /\ sk < 10 ^ 30) (fun N hN => ?_) ?_
  · refine ⟨_, rfl, a, ns, 1, rfl, hS1, _, _, rfl, rfl, .inr ⟨by decide, by decide⟩, _, rfl, _, _, rfl, rfl, hm0, ?_⟩
    have e0 := Int.emod_nonneg (cellI ns ((1 : Nat) : Int) * 982451653) (show m ≠ 0 by omega)
    have e1 := Int.emod_lt_of_pos (cellI ns ((1 : Nat) : Int) * 982451653) hm0
    exact hN _ _ ⟨_, rfl, rfl, e0, by omega⟩
  rintro σ _ ⟨sk, rfl, rfl, hk0, hk1⟩
  refine cutA (fun σ H' => ∃ ea : Int, σ = [some (.ref a), some (.int (wd : Int)), some (.int m), some (.int sk), some (.int ea), none, none, none, none, none] /\ H1 = H' /\ 0 ≤ ea /\ ea < 10 ^ 30) (fun N hN => ?_) ?_
  · refine ⟨_, rfl, a, ns, 2, rfl, hS1, _, _, rfl, rfl, .inr ⟨by decide, by decide⟩, _, rfl, _, _, rfl, rfl, hm0, ?_⟩
    have e0 := Int.emod_nonneg (cellI ns ((2 : Nat) : Int) * 961748941) (show m ≠ 0 by omega)
    have e1 := Int.emod_lt_of_pos (cellI ns ((2 : Nat) : Int) * 961748941) hm0
    exact hN _ _ ⟨_, rfl, rfl, e0, by omega⟩
  rintro σ _ ⟨ea, rfl, rfl, he0, he1⟩
  have hTr1 := s1 _ _ hTr
  have hTl1 := s1 _ _ hTl
  refine cutA (fun σ H' => ∃ g1 : Addr, σ = [some (.ref a), some (.int (wd : Int)), some (.int m), some (.int sk), some (.int ea), some (.ref g1), none, none, none, none] /\ Keep [T_rate] H1 H' /\ TabSt T_rate (stPos s_cost) "rate.<locals>.cost" H' /\ CostAt H' g1 (fun u => sk + ea * (u.rows.length : Int))) (fun N hN => ?_) ?_
  · exact ⟨_, rfl, _, rfl, .int sk, .int ea, rfl, .inl hTr1, fun f H2 hM _ hts k2 => hN _ _ ⟨f, rfl, k2, hts, .inl ⟨sk, ea, ⟨he0, he1⟩, hM, fun _ => rfl⟩⟩⟩
  rintro σ H2 ⟨g1, rfl, k2, ts2, c12⟩
  refine cutA (fun σ H' => ∃ g2 : Addr, σ = [some (.ref a), some (.int (wd : Int)), some (.int m), some (.int sk), some (.int ea), some (.ref g1), some (.ref g2), none, none, none] /\ Keep [T_rate] H2 H' /\ CostAt H' g1 (fun u => sk + ea * (u.rows.length : Int)) /\ CostAt H' g2 (fun u => ea + sk * (u.rows.length : Int))) (fun N hN => ?_) ?_
  · refine ⟨_, rfl, _, rfl, .int ea, .int sk, rfl, ts2, fun f H3 hM _ hts k3 => hN _ _ ⟨f, rfl, k3, CostAt.keepE c12 (fun b φ e => k3 b _ e ?_), .inl ⟨ea, sk, ⟨hk0, hk1⟩, hM, fun _ => rfl⟩⟩⟩
    have : ∃ ps, H2 T_rate = some (.tbl ps) := by rcases ts2 with h | ⟨_, h, _⟩ <;> exact ⟨_, h⟩
    obtain ⟨ps, hps⟩ := this
    simpa using ne_of e hps (by intro z; cases z)
  rintro σ H3 ⟨g2, rfl, k3, c13, c23⟩
  have ts2' : ∃ ps, H2 T_rate = some (.tbl ps) := by rcases ts2 with h | ⟨_, h, _⟩ <;> exact ⟨_, h⟩
  obtain ⟨ps2, hps2⟩ := ts2'
  have hTl3 : H3 T_law = some (.tbl #[]) := k3 _ _ (k2 _ _ hTl1 (by simpa using D_tabne.symm)) (by simpa using D_tabne.symm)
  have hS3 : SqL K H3 a (ns.map V.int) := SqL.keepT (SqL.keepT hS1 hTr1 k2) hps2 k3
  refine cutA (fun σ H' => ∃ p d : Addr, σ = [some (.ref a), some (.int (wd : Int)), some (.int m), some (.int sk), some (.int ea), some (.ref g1), some (.ref g2), some (.ref p), none, none] /\ Same H3 H' /\ ShAt C_Shelf H' p d 0 [] /\ H3 p = none /\ H3 d = none) (fun N hN => ?_) ?_
  · refine fun p dx hp hdx ne => ⟨p, dx, rfl, upd_same, fun d H4 hSh hd k4 => ⟨rfl, hN _ _ ⟨p, d, rfl, made_same hp hdx k4, hSh, hp, ?_⟩⟩⟩
    exact (upd_none (upd_none hd).1).1
  rintro σ H4 ⟨p, d, rfl, s4, hSh4, hp0, hd0⟩
  refine cutA (fun σ H' => ∃ (ld : Addr) (fl : Int) (kvs lkv : List (Key × V)) (M : LiesC), σ = [some (.ref a), some (.int (wd : Int)), some (.int m), some (.int sk), some (.int ea), some (.ref g1), some (.ref g2), some (.ref p), some (.ref ld), none] /\ Same H3 H' /\ ShAt C_Shelf H' p d fl kvs /\ DRep (PieceC C_Whole C_Gain H') kvs M /\ H' ld = some (.dK lkv) /\ DRep (LV33 H') lkv M /\ kvs.length < 64 /\ lkv.length < 64 /\ d ≠ ld /\ (∀ n u, M n = some u->u.rows.length ≤ 40)) (fun N hN => ?_) ?_
  · exact ⟨_, rfl, _, rfl, _, rfl, H3, a, p, d, ns, wd, rfl, s4.seq hS3, hlen, hw, s4, hp0, hd0, hSh4, fun ld fl kvs lkv M H5 s5 h1 h2 h3 h4 h5 h6 h7 h8 => hN _ _ ⟨ld, fl, kvs, lkv, M, rfl, s5, h1, h2, h3, h4, h5, h6, h7, h8⟩⟩
  rintro σ H5 ⟨ld, fl, kvs, lkv, M, rfl, s5, hSh, hR, hld, hL, hk64, hl64, hdl, h40⟩
  have c15 := CostAt.same c13 s5
  have c25 := CostAt.same c23 s5
  have h100 : ∀ n u, M n = some u->u.rows.length ≤ 100 := fun n u e => Nat.le_trans (h40 n u e) (by decide)
  refine cutA (fun σ H' => ∃ (l9 : Addr) (LV : List V) (ms : List Int), σ = [some (.ref a), some (.int (wd : Int)), some (.int m), some (.int sk), some (.int ea), some (.ref g1), some (.ref g2), some (.ref p), some (.ref ld), some (.ref l9)] /\ Same H5 H' /\ H5 l9 = none /\ H' l9 = some (.lst LV) /\ SortOf M ms /\ LegsOf H' LV M ms (fun u => sk + ea * (u.rows.length : Int))) (fun N hN => ?_) ?_
  · exact ⟨_, rfl, _, rfl, p, d, g1, fl, kvs, M, _, rfl, hSh, hR, hk64, c15, h100, fun l LV ms H6 hl nl hso hlg s6 => hN _ _ ⟨l, LV, ms, rfl, s6, nl, hl, hso, hlg⟩⟩
  rintro σ H6 ⟨l9, LV, ms, rfl, s6, nl9, hl9, hso, hlg⟩
  have hm5 : ∀ n ∈ ms, (M n).isSome = true := fun n hn => (hso.2 n).mp hn
  have hml : ms.length ≤ 100 := by
    obtain ⟨ks, hks⟩ := allI_ns hR.alli
    have hnd : ms.Nodup := hso.1.imp fun h => by omega
    have hsub : ∀ n ∈ ms, n ∈ ks := fun n hn => (hR.keys hks n).mpr (hm5 n hn)
    have hle := List.Nodup.length_le_of_subset hnd hsub
    have := congrArg List.length hks
    simp at this
    omega
  refine if_B false (fun H' => Same H6 H') (fun Qb hq => ?_) (fun h => by cases h) (fun _ H7 s7 => ?_)
  · refine ⟨_, rfl, _, rfl, _, rfl, _, rfl, ld, lkv, M, sk, ea, 0, rfl, ⟨by decide, by decide⟩, s6 _ _ hld, hL.mono fun v u z => LV33.keep z s6, hl64, fun l2 LW ms2 J hl2 nl2 hso2 hlg2 j1 => ?_⟩
    have e2 := SortOf.eq hso2 hso
    subst e2
    refine ⟨l9, l2, LV, LW, ksOf M (fun u => sk + ea * (u.rows.length : Int)) ms2, rfl, j1 _ _ hl9, hl2, LegsOf.ky (LegsOf.mono hlg fun t _ e => j1 t _ e) (fun _ => rfl), LegsOf.ky hlg2 (fun u => by omega), ks_five hm5, by unfold ksOf; rw [List.length_map]; exact hml, fun J2 j2 => ⟨_, rfl, iteF ?_⟩⟩
    have j12 := s6.trans (j1.trans j2)
    exact ⟨_, rfl, _, rfl, _, rfl, _, rfl, _, rfl, _, rfl, p, d, ld, g1, g2, fl, kvs, lkv, M, sk, ea, rfl, hSh.keep j12, hR.mono (fun v u z => PieceC.keep z j12), j12 _ _ hld, hL.mono (fun v u z => LV33.keep z j12), hl64, hdl, CostAt.same c15 j12, CostAt.same c25 j12, fun J3 j3 => ⟨_, rfl, hq _ ((j1.trans j2).trans j3)⟩⟩
  try unfold tNext
  dsimp only
  have s57 := s6.trans s7
  refine cutA (fun σ H' => σ = [some (.ref a), some (.int (wd : Int)), some (.int m), some (.int sk), some (.int ea), some (.ref g1), some (.ref g2), some (.ref p), some (.ref ld), some (.ref l9)] /\ Same H5 H') (fun N hN => ?_) ?_
  · refine ⟨_, rfl, .inl ⟨rfl, _, SqL.of (s7 _ _ hl9)⟩, l9, _, rfl, rfl, s7 _ _ hl9, hN _ _ ⟨rfl, fun b o e => ?_⟩⟩
    rw [upd_ne (ne_of_none e nl9)]; exact s57 b o e
  rintro σ H8 ⟨rfl, s8⟩
  have hTl8 := s8 _ _ (s5 _ _ hTl3)
  refine cutA (fun σ H' => ∃ (H9 : Hp) (l9 : Addr) (LV : List V) (ms : List Int), σ = [some (.ref a), some (.int (wd : Int)), some (.int m), some (.int sk), some (.int ea), some (.ref g1), some (.ref g2), some (.ref p), some (.ref ld), some (.ref l9)] /\ Keep [T_law] H8 H9 /\ Same H9 H' /\ H' l9 = some (.lst LV) /\ SortOf M ms /\ LegsOf H' LV M ms (fun u => 7 + 2 * (u.rows.length : Int) + 3 * (u.d : Int))) (fun N hN => ?_) ?_
  · refine ⟨_, rfl, hTl8, fun f c' pm ctv H9 nf hf hc' hT9 k9 => ?_⟩
    exact ⟨p, d, f, fl, kvs, M, (fun u => 7 + 2 * (u.rows.length : Int) + 3 * (u.d : Int)), rfl, ShAt.keepT (hSh.keep s8) hTl8 k9, hR.mono (fun v u z => PieceC.keepT (PieceC.keep z s8) hTl8 k9), hk64, .inr ⟨⟨pm, c', ctv, hf, hc'⟩, fun _ => rfl⟩, h100, fun l LV ms H10 hl nl hso hlg s10 => hN _ _ ⟨H9, l, LV, ms, rfl, k9, s10, hl, hso, hlg⟩⟩
  rintro σ H10 ⟨H9, l10, LV3, ms3, rfl, k9, s10, hl10, hso3, hlg3⟩
  have e3 := SortOf.eq hso3 hso
  subst e3
  have hSh9 := ShAt.keepT (hSh.keep s8) hTl8 k9
  have hR9 := hR.mono (fun v u z => PieceC.keepT (PieceC.keep z s8) hTl8 k9)
  have hL9 := hL.mono (fun v u z => LV33.keepT (LV33.keep z s8) hTl8 k9)
  have hld9 := k9 _ _ (s8 _ _ hld) (by simpa using ne_of (s8 _ _ hld) hTl8 (by intro z; cases z))
  have c19 := CostAt.keepE (CostAt.same c15 s8) (fun b φ e => k9 b _ e (by simpa using ne_of e hTl8 (by intro z; cases z)))
  refine if_B false (fun H' => Same H10 H') (fun Qb hq => ?_) (fun h => by cases h) (fun _ H11 s11 => ?_)
  · refine ⟨_, rfl, _, rfl, ld, lkv, M, 7, 2, 3, rfl, ⟨by decide, by decide⟩, s10 _ _ hld9, hL9.mono (fun v u z => LV33.keep z s10), hl64, fun l2 LW ms2 J hl2 nl2 hso2 hlg2 j1 => ?_⟩
    have e2 := SortOf.eq hso2 hso3
    subst e2
    exact ⟨l10, l2, LV3, LW, ksOf M (fun u => 7 + 2 * (u.rows.length : Int) + 3 * (u.d : Int)) ms2, rfl, j1 _ _ hl10, hl2, LegsOf.ky (LegsOf.mono hlg3 fun t _ e => j1 t _ e) (fun _ => rfl), LegsOf.ky hlg2 (fun u => rfl), ks_five hm5, by unfold ksOf; rw [List.length_map]; exact hml, fun J2 j2 => ⟨_, rfl, hq _ (j1.trans j2)⟩⟩
  try unfold tNext
  dsimp only
  have s911 := s10.trans s11
  refine ⟨_, rfl, _, rfl, p, d, g1, fl, kvs, M, _, rfl, hSh9.keep s911, hR9.mono (fun v u z => PieceC.keep z s911), hk64, CostAt.same c19 s911, h100, fun l4 LV4 ms4 J hl4 nl4 hso4 hlg4 j1 => ?_⟩
  have s9J := s911.trans j1
  refine ⟨_, rfl, _, rfl, _, rfl, ld, lkv, M, sk, ea, 0, rfl, ⟨by decide, by decide⟩, s9J _ _ hld9, hL9.mono (fun v u z => LV33.keep z s9J), hl64, fun l2 LW ms2 J2 hl2 nl2 hso2 hlg2 j2 => ?_⟩
  have e4 := SortOf.eq hso4 hso
  subst e4
  have e2 := SortOf.eq hso2 hso4
  subst e2
  exact ⟨l4, l2, LV4, LW, ksOf M (fun u => sk + ea * (u.rows.length : Int)) ms2, rfl, j2 _ _ hl4, hl2, LegsOf.ky (LegsOf.mono hlg4 fun t _ e => j2 t _ e) (fun _ => rfl), LegsOf.ky hlg2 (fun u => by omega), ks_five hm5, by unfold ksOf; rw [List.length_map]; exact hml, fun J3 _ => q _⟩
end
theorem all_mk {l : PySem.W.OpenLaw} {w : World} {K : PySem.W.Frag} {h : Heap} {mg : Str->Option Value} {fa : Addr} (X : K.In h) (G : h.Ns mainGlobals mg) (hfa : mg "law" = some (.ref fa))
    {t_W : Tok} (g_W : PySem.W.nsIn K mainGlobals "W" = some (some (.int 18446744073709551615 t_W)))
    {C_KeepError : Addr} (a_KeepError : PySem.W.nsIn K mainGlobals "KeepError" = some (some (.ref C_KeepError)))
    {C_NoPlace : Addr} (a_NoPlace : PySem.W.nsIn K mainGlobals "NoPlace" = some (some (.ref C_NoPlace)))
    {C_NoPiece : Addr} (a_NoPiece : PySem.W.nsIn K mainGlobals "NoPiece" = some (some (.ref C_NoPiece)))
    {C_Piece : Addr} (a_Piece : PySem.W.nsIn K mainGlobals "Piece" = some (some (.ref C_Piece)))
    {C_Whole : Addr} (a_Whole : PySem.W.nsIn K mainGlobals "Whole" = some (some (.ref C_Whole)))
    {C_Gain : Addr} (a_Gain : PySem.W.nsIn K mainGlobals "Gain" = some (some (.ref C_Gain)))
    {C_Shelf : Addr} (a_Shelf : PySem.W.nsIn K mainGlobals "Shelf" = some (some (.ref C_Shelf)))
    (clg : PySem.W.specialIn K (.builtin "object.__class__") "__get__" = some (some (.builtin "getset_descriptor.__get__"))) (clt : PySem.W.takesIn K (.builtin "object.__class__") = some true)
    (xo_KeepError : xobjIn K C_KeepError = true) (xs_KeepError : PySem.W.findIn K (.ref C_KeepError) "__setattr__" = some (some (.builtin "object.__setattr__"))) (xg_KeepError : PySem.W.findIn K (.ref C_KeepError) "__getattribute__" = some (some (.builtin "BaseException.__getattribute__"))) (xh_KeepError : PySem.W.findIn K (.ref C_KeepError) "__getattr__" = some none) (xc_KeepError : PySem.W.findIn K (.ref C_KeepError) "__class__" = some (some (.builtin "object.__class__"))) (kc_KeepError : PySem.W.keepIn K (.ref C_KeepError) = true)
    (xo_NoPlace : xobjIn K C_NoPlace = true) (xs_NoPlace : PySem.W.findIn K (.ref C_NoPlace) "__setattr__" = some (some (.builtin "object.__setattr__"))) (xg_NoPlace : PySem.W.findIn K (.ref C_NoPlace) "__getattribute__" = some (some (.builtin "BaseException.__getattribute__"))) (xh_NoPlace : PySem.W.findIn K (.ref C_NoPlace) "__getattr__" = some none) (xc_NoPlace : PySem.W.findIn K (.ref C_NoPlace) "__class__" = some (some (.builtin "object.__class__"))) (kc_NoPlace : PySem.W.keepIn K (.ref C_NoPlace) = true)
    (n_NoPlace_place : PySem.W.findIn K (.ref C_NoPlace) "place" = some none)
    (xo_NoPiece : xobjIn K C_NoPiece = true) (xs_NoPiece : PySem.W.findIn K (.ref C_NoPiece) "__setattr__" = some (some (.builtin "object.__setattr__"))) (xg_NoPiece : PySem.W.findIn K (.ref C_NoPiece) "__getattribute__" = some (some (.builtin "BaseException.__getattribute__"))) (xh_NoPiece : PySem.W.findIn K (.ref C_NoPiece) "__getattr__" = some none) (xc_NoPiece : PySem.W.findIn K (.ref C_NoPiece) "__class__" = some (some (.builtin "object.__class__"))) (kc_NoPiece : PySem.W.keepIn K (.ref C_NoPiece) = true)
    (n_NoPiece_number : PySem.W.findIn K (.ref C_NoPiece) "number" = some none)
    (pg_Whole : PySem.W.plainGet K C_Whole Str.empty = true) (hd_Whole : PySem.W.hasDictIn K C_Whole = true) (po_Whole : PySem.W.plainOver K C_Whole = true) (sa_Whole : PySem.W.findIn K (.ref C_Whole) "__setattr__" = some (some (.builtin "object.__setattr__"))) (mk_Whole : PySem.W.makesIn K C_Whole = true) (kc_Whole : PySem.W.keepIn K (.ref C_Whole) = true)
    (n_Whole_day : PySem.W.findIn K (.ref C_Whole) "day" = some none)
    (n_Whole_rows : PySem.W.findIn K (.ref C_Whole) "rows" = some none)
    (n_Whole_check : PySem.W.findIn K (.ref C_Whole) "check" = some none)
    (n_Whole_fits : PySem.W.findIn K (.ref C_Whole) "fits" = some none)
    (pg_Gain : PySem.W.plainGet K C_Gain Str.empty = true) (hd_Gain : PySem.W.hasDictIn K C_Gain = true) (po_Gain : PySem.W.plainOver K C_Gain = true) (sa_Gain : PySem.W.findIn K (.ref C_Gain) "__setattr__" = some (some (.builtin "object.__setattr__"))) (mk_Gain : PySem.W.makesIn K C_Gain = true) (kc_Gain : PySem.W.keepIn K (.ref C_Gain) = true)
    (n_Gain_day : PySem.W.findIn K (.ref C_Gain) "day" = some none)
    (n_Gain_rows : PySem.W.findIn K (.ref C_Gain) "rows" = some none)
    (n_Gain_check : PySem.W.findIn K (.ref C_Gain) "check" = some none)
    (n_Gain_fits : PySem.W.findIn K (.ref C_Gain) "fits" = some none)
    (n_Gain_base : PySem.W.findIn K (.ref C_Gain) "base" = some none)
    (pg_Shelf : PySem.W.plainGet K C_Shelf Str.empty = true) (hd_Shelf : PySem.W.hasDictIn K C_Shelf = true) (po_Shelf : PySem.W.plainOver K C_Shelf = true) (sa_Shelf : PySem.W.findIn K (.ref C_Shelf) "__setattr__" = some (some (.builtin "object.__setattr__"))) (mk_Shelf : PySem.W.makesIn K C_Shelf = true) (kc_Shelf : PySem.W.keepIn K (.ref C_Shelf) = true)
    (n_Shelf_pieces : PySem.W.findIn K (.ref C_Shelf) "pieces" = some none)
    (n_Shelf_follows : PySem.W.findIn K (.ref C_Shelf) "follows" = some none)
    {f0 : Addr} {od0 an0 : Option Addr} {sl0 : Array (Option Value)} {oc0 kV0 dc0 pm0 cd0 ct0 : Value}
    (a0 : PySem.W.findIn K (.ref C_NoPlace) "__init__" = some (some (.ref f0))) (i0 : PySem.W.isFn K (.ref f0) = true)
    (l0 : K.lookup f0 = some ⟨oc0, od0, .func (PySem.W.fnOf "__init__" "NoPlace.__init__" (defArgs s_NoPlace___init__) (defBody s_NoPlace___init__) (defScope s_NoPlace___init__) .none kV0 dc0 pm0 an0 cd0 ct0), sl0⟩) (c0 : PySem.W.codeIn K cd0 "NoPlace.__init__" = true) (k0 : PySem.W.keepIn K (.ref f0) = true)
    {f1 : Addr} {od1 an1 : Option Addr} {sl1 : Array (Option Value)} {oc1 kV1 dc1 pm1 cd1 ct1 : Value}
    (a1 : PySem.W.findIn K (.ref C_NoPiece) "__init__" = some (some (.ref f1))) (i1 : PySem.W.isFn K (.ref f1) = true)
    (l1 : K.lookup f1 = some ⟨oc1, od1, .func (PySem.W.fnOf "__init__" "NoPiece.__init__" (defArgs s_NoPiece___init__) (defBody s_NoPiece___init__) (defScope s_NoPiece___init__) .none kV1 dc1 pm1 an1 cd1 ct1), sl1⟩) (c1 : PySem.W.codeIn K cd1 "NoPiece.__init__" = true) (k1 : PySem.W.keepIn K (.ref f1) = true)
    {f2 : Addr} {od2 an2 : Option Addr} {sl2 : Array (Option Value)} {oc2 kV2 dc2 pm2 ct2 : Value}
    (a2 : PySem.W.nsIn K mainGlobals "rate" = some (some (.ref f2)))
    {cc_rate : Addr} {xv_rate : Array Value} {xc_rate : Value} {xd_rate : Option Addr} {xl_rate : Array (Option Value)}
    (l2 : K.lookup f2 = some ⟨oc2, od2, .func (PySem.W.fnOf "rate" "rate" (defArgs s_rate) (defBody s_rate) (defScope s_rate) .none kV2 dc2 pm2 an2 (.ref cc_rate) ct2), sl2⟩) (c2 : PySem.W.codeIn K (.ref cc_rate) "rate" = true) (k2 : PySem.W.keepIn K (.ref f2) = true)
    (xk_rate : K.lookup cc_rate = some ⟨xc_rate, xd_rate, .fields xv_rate, xl_rate⟩) (xt_rate : xv_rate[11]? = some (.ref (refAt xv_rate 11))) (xn_rate : K.lookup (refAt xv_rate 11) = none)
    {f3 : Addr} {od3 an3 : Option Addr} {sl3 : Array (Option Value)} {oc3 kV3 dc3 pm3 cd3 ct3 : Value}
    (a3 : PySem.W.nsIn K mainGlobals "legs_of" = some (some (.ref f3)))
    (l3 : K.lookup f3 = some ⟨oc3, od3, .func (PySem.W.fnOf "legs_of" "legs_of" (defArgs s_legs_of) (defBody s_legs_of) (defScope s_legs_of) .none kV3 dc3 pm3 an3 cd3 ct3), sl3⟩) (c3 : PySem.W.codeIn K cd3 "legs_of" = true) (k3 : PySem.W.keepIn K (.ref f3) = true)
    {f4 : Addr} {od4 an4 : Option Addr} {sl4 : Array (Option Value)} {oc4 kV4 dc4 pm4 cd4 ct4 : Value}
    (a4 : PySem.W.nsIn K mainGlobals "turned" = some (some (.ref f4)))
    (l4 : K.lookup f4 = some ⟨oc4, od4, .func (PySem.W.fnOf "turned" "turned" (defArgs s_turned) (defBody s_turned) (defScope s_turned) .none kV4 dc4 pm4 an4 cd4 ct4), sl4⟩) (c4 : PySem.W.codeIn K cd4 "turned" = true) (k4 : PySem.W.keepIn K (.ref f4) = true)
    {f5 : Addr} {od5 an5 : Option Addr} {sl5 : Array (Option Value)} {oc5 kV5 dc5 pm5 cd5 ct5 : Value}
    (a5 : PySem.W.nsIn K mainGlobals "check_of" = some (some (.ref f5)))
    (l5 : K.lookup f5 = some ⟨oc5, od5, .func (PySem.W.fnOf "check_of" "check_of" (defArgs s_check_of) (defBody s_check_of) (defScope s_check_of) .none kV5 dc5 pm5 an5 cd5 ct5), sl5⟩) (c5 : PySem.W.codeIn K cd5 "check_of" = true) (k5 : PySem.W.keepIn K (.ref f5) = true)
    {f6 : Addr} {od6 an6 : Option Addr} {sl6 : Array (Option Value)} {oc6 kV6 dc6 pm6 cd6 ct6 : Value}
    (a6 : PySem.W.findIn K (.ref C_Piece) "__init__" = some (some (.ref f6))) (i6 : PySem.W.isFn K (.ref f6) = true)
    (l6 : K.lookup f6 = some ⟨oc6, od6, .func (PySem.W.fnOf "__init__" "Piece.__init__" (defArgs s_Piece___init__) (defBody s_Piece___init__) (defScope s_Piece___init__) .none kV6 dc6 pm6 an6 cd6 ct6), sl6⟩) (c6 : PySem.W.codeIn K cd6 "Piece.__init__" = true) (k6 : PySem.W.keepIn K (.ref f6) = true)
    {f7 : Addr} {od7 an7 : Option Addr} {sl7 : Array (Option Value)} {oc7 kV7 dc7 pm7 cd7 ct7 : Value}
    (a7 : PySem.W.findIn K (.ref C_Piece) "size" = some (some (.ref f7))) (i7 : PySem.W.isFn K (.ref f7) = true)
    (l7 : K.lookup f7 = some ⟨oc7, od7, .func (PySem.W.fnOf "size" "Piece.size" (defArgs s_Piece_size) (defBody s_Piece_size) (defScope s_Piece_size) .none kV7 dc7 pm7 an7 cd7 ct7), sl7⟩) (c7 : PySem.W.codeIn K cd7 "Piece.size" = true) (k7 : PySem.W.keepIn K (.ref f7) = true)
    {f8 : Addr} {od8 an8 : Option Addr} {sl8 : Array (Option Value)} {oc8 kV8 dc8 pm8 cd8 ct8 : Value}
    (a8 : PySem.W.findIn K (.ref C_Piece) "is_good" = some (some (.ref f8))) (i8 : PySem.W.isFn K (.ref f8) = true)
    (l8 : K.lookup f8 = some ⟨oc8, od8, .func (PySem.W.fnOf "is_good" "Piece.is_good" (defArgs s_Piece_is_good) (defBody s_Piece_is_good) (defScope s_Piece_is_good) .none kV8 dc8 pm8 an8 cd8 ct8), sl8⟩) (c8 : PySem.W.codeIn K cd8 "Piece.is_good" = true) (k8 : PySem.W.keepIn K (.ref f8) = true)
    {f9 : Addr} {od9 an9 : Option Addr} {sl9 : Array (Option Value)} {oc9 kV9 dc9 pm9 cd9 ct9 : Value}
    (a9 : PySem.W.findIn K (.ref C_Piece) "harmed" = some (some (.ref f9))) (i9 : PySem.W.isFn K (.ref f9) = true)
    (l9 : K.lookup f9 = some ⟨oc9, od9, .func (PySem.W.fnOf "harmed" "Piece.harmed" (defArgs s_Piece_harmed) (defBody s_Piece_harmed) (defScope s_Piece_harmed) .none kV9 dc9 pm9 an9 cd9 ct9), sl9⟩) (c9 : PySem.W.codeIn K cd9 "Piece.harmed" = true) (k9 : PySem.W.keepIn K (.ref f9) = true)
    {f10 : Addr} {od10 an10 : Option Addr} {sl10 : Array (Option Value)} {oc10 kV10 dc10 pm10 cd10 ct10 : Value}
    (a10 : PySem.W.findIn K (.ref C_Whole) "__init__" = some (some (.ref f10))) (i10 : PySem.W.isFn K (.ref f10) = true)
    {td10 : Addr} {yc10 : Value} {yd10 : Option Addr} {yn10 : Nat} {yl10 : Array (Option Value)}
    (l10 : K.lookup f10 = some ⟨oc10, od10, .func (PySem.W.fnOf "__init__" "Whole.__init__" (defArgs s_Whole___init__) (defBody s_Whole___init__) (defScope s_Whole___init__) (.ref td10) kV10 dc10 pm10 an10 cd10 ct10), sl10⟩) (c10 : PySem.W.codeIn K cd10 "Whole.__init__" = true) (k10 : PySem.W.keepIn K (.ref f10) = true)
    (y10 : K.lookup td10 = some ⟨yc10, yd10, .seq #[.none] yn10, yl10⟩)
    {f11 : Addr} {od11 an11 : Option Addr} {sl11 : Array (Option Value)} {oc11 kV11 dc11 pm11 cd11 ct11 : Value}
    (a11 : PySem.W.findIn K (.ref C_Whole) "start" = some (some (.ref f11))) (i11 : PySem.W.isFn K (.ref f11) = true)
    (l11 : K.lookup f11 = some ⟨oc11, od11, .func (PySem.W.fnOf "start" "Whole.start" (defArgs s_Whole_start) (defBody s_Whole_start) (defScope s_Whole_start) .none kV11 dc11 pm11 an11 cd11 ct11), sl11⟩) (c11 : PySem.W.codeIn K cd11 "Whole.start" = true) (k11 : PySem.W.keepIn K (.ref f11) = true)
    {f12 : Addr} {od12 an12 : Option Addr} {sl12 : Array (Option Value)} {oc12 kV12 dc12 pm12 cd12 ct12 : Value}
    (a12 : PySem.W.findIn K (.ref C_Whole) "with_rows" = some (some (.ref f12))) (i12 : PySem.W.isFn K (.ref f12) = true)
    (l12 : K.lookup f12 = some ⟨oc12, od12, .func (PySem.W.fnOf "with_rows" "Whole.with_rows" (defArgs s_Whole_with_rows) (defBody s_Whole_with_rows) (defScope s_Whole_with_rows) .none kV12 dc12 pm12 an12 cd12 ct12), sl12⟩) (c12 : PySem.W.codeIn K cd12 "Whole.with_rows" = true) (k12 : PySem.W.keepIn K (.ref f12) = true)
    {f13 : Addr} {od13 an13 : Option Addr} {sl13 : Array (Option Value)} {oc13 kV13 dc13 pm13 cd13 ct13 : Value}
    (a13 : PySem.W.findIn K (.ref C_Gain) "__init__" = some (some (.ref f13))) (i13 : PySem.W.isFn K (.ref f13) = true)
    {td13 : Addr} {yc13 : Value} {yd13 : Option Addr} {yn13 : Nat} {yl13 : Array (Option Value)}
    (l13 : K.lookup f13 = some ⟨oc13, od13, .func (PySem.W.fnOf "__init__" "Gain.__init__" (defArgs s_Gain___init__) (defBody s_Gain___init__) (defScope s_Gain___init__) (.ref td13) kV13 dc13 pm13 an13 cd13 ct13), sl13⟩) (c13 : PySem.W.codeIn K cd13 "Gain.__init__" = true) (k13 : PySem.W.keepIn K (.ref f13) = true)
    (y13 : K.lookup td13 = some ⟨yc13, yd13, .seq #[.none] yn13, yl13⟩)
    {f14 : Addr} {od14 an14 : Option Addr} {sl14 : Array (Option Value)} {oc14 kV14 dc14 pm14 cd14 ct14 : Value}
    (a14 : PySem.W.findIn K (.ref C_Gain) "start" = some (some (.ref f14))) (i14 : PySem.W.isFn K (.ref f14) = true)
    (l14 : K.lookup f14 = some ⟨oc14, od14, .func (PySem.W.fnOf "start" "Gain.start" (defArgs s_Gain_start) (defBody s_Gain_start) (defScope s_Gain_start) .none kV14 dc14 pm14 an14 cd14 ct14), sl14⟩) (c14 : PySem.W.codeIn K cd14 "Gain.start" = true) (k14 : PySem.W.keepIn K (.ref f14) = true)
    {f15 : Addr} {od15 an15 : Option Addr} {sl15 : Array (Option Value)} {oc15 kV15 dc15 pm15 cd15 ct15 : Value}
    (a15 : PySem.W.findIn K (.ref C_Gain) "with_rows" = some (some (.ref f15))) (i15 : PySem.W.isFn K (.ref f15) = true)
    (l15 : K.lookup f15 = some ⟨oc15, od15, .func (PySem.W.fnOf "with_rows" "Gain.with_rows" (defArgs s_Gain_with_rows) (defBody s_Gain_with_rows) (defScope s_Gain_with_rows) .none kV15 dc15 pm15 an15 cd15 ct15), sl15⟩) (c15 : PySem.W.codeIn K cd15 "Gain.with_rows" = true) (k15 : PySem.W.keepIn K (.ref f15) = true)
    {f16 : Addr} {od16 an16 : Option Addr} {sl16 : Array (Option Value)} {oc16 kV16 dc16 pm16 cd16 ct16 : Value}
    (a16 : PySem.W.findIn K (.ref C_Shelf) "__init__" = some (some (.ref f16))) (i16 : PySem.W.isFn K (.ref f16) = true)
    (l16 : K.lookup f16 = some ⟨oc16, od16, .func (PySem.W.fnOf "__init__" "Shelf.__init__" (defArgs s_Shelf___init__) (defBody s_Shelf___init__) (defScope s_Shelf___init__) .none kV16 dc16 pm16 an16 cd16 ct16), sl16⟩) (c16 : PySem.W.codeIn K cd16 "Shelf.__init__" = true) (k16 : PySem.W.keepIn K (.ref f16) = true)
    {f17 : Addr} {od17 an17 : Option Addr} {sl17 : Array (Option Value)} {oc17 kV17 dc17 pm17 cd17 ct17 : Value}
    (a17 : PySem.W.findIn K (.ref C_Shelf) "put" = some (some (.ref f17))) (i17 : PySem.W.isFn K (.ref f17) = true)
    (l17 : K.lookup f17 = some ⟨oc17, od17, .func (PySem.W.fnOf "put" "Shelf.put" (defArgs s_Shelf_put) (defBody s_Shelf_put) (defScope s_Shelf_put) .none kV17 dc17 pm17 an17 cd17 ct17), sl17⟩) (c17 : PySem.W.codeIn K cd17 "Shelf.put" = true) (k17 : PySem.W.keepIn K (.ref f17) = true)
    {f18 : Addr} {od18 an18 : Option Addr} {sl18 : Array (Option Value)} {oc18 kV18 dc18 pm18 cd18 ct18 : Value}
    (a18 : PySem.W.findIn K (.ref C_Shelf) "lay" = some (some (.ref f18))) (i18 : PySem.W.isFn K (.ref f18) = true)
    (l18 : K.lookup f18 = some ⟨oc18, od18, .func (PySem.W.fnOf "lay" "Shelf.lay" (defArgs s_Shelf_lay) (defBody s_Shelf_lay) (defScope s_Shelf_lay) .none kV18 dc18 pm18 an18 cd18 ct18), sl18⟩) (c18 : PySem.W.codeIn K cd18 "Shelf.lay" = true) (k18 : PySem.W.keepIn K (.ref f18) = true)
    {f19 : Addr} {od19 an19 : Option Addr} {sl19 : Array (Option Value)} {oc19 kV19 dc19 pm19 cd19 ct19 : Value}
    (a19 : PySem.W.findIn K (.ref C_Shelf) "piece" = some (some (.ref f19))) (i19 : PySem.W.isFn K (.ref f19) = true)
    (l19 : K.lookup f19 = some ⟨oc19, od19, .func (PySem.W.fnOf "piece" "Shelf.piece" (defArgs s_Shelf_piece) (defBody s_Shelf_piece) (defScope s_Shelf_piece) .none kV19 dc19 pm19 an19 cd19 ct19), sl19⟩) (c19 : PySem.W.codeIn K cd19 "Shelf.piece" = true) (k19 : PySem.W.keepIn K (.ref f19) = true)
    {f20 : Addr} {od20 an20 : Option Addr} {sl20 : Array (Option Value)} {oc20 kV20 dc20 pm20 cd20 ct20 : Value}
    (a20 : PySem.W.findIn K (.ref C_Shelf) "drop" = some (some (.ref f20))) (i20 : PySem.W.isFn K (.ref f20) = true)
    (l20 : K.lookup f20 = some ⟨oc20, od20, .func (PySem.W.fnOf "drop" "Shelf.drop" (defArgs s_Shelf_drop) (defBody s_Shelf_drop) (defScope s_Shelf_drop) .none kV20 dc20 pm20 an20 cd20 ct20), sl20⟩) (c20 : PySem.W.codeIn K cd20 "Shelf.drop" = true) (k20 : PySem.W.keepIn K (.ref f20) = true)
    {f21 : Addr} {od21 an21 : Option Addr} {sl21 : Array (Option Value)} {oc21 kV21 dc21 pm21 cd21 ct21 : Value}
    (a21 : PySem.W.findIn K (.ref C_Shelf) "numbers" = some (some (.ref f21))) (i21 : PySem.W.isFn K (.ref f21) = true)
    (l21 : K.lookup f21 = some ⟨oc21, od21, .func (PySem.W.fnOf "numbers" "Shelf.numbers" (defArgs s_Shelf_numbers) (defBody s_Shelf_numbers) (defScope s_Shelf_numbers) .none kV21 dc21 pm21 an21 cd21 ct21), sl21⟩) (c21 : PySem.W.codeIn K cd21 "Shelf.numbers" = true) (k21 : PySem.W.keepIn K (.ref f21) = true)
    {f22 : Addr} {od22 an22 : Option Addr} {sl22 : Array (Option Value)} {oc22 kV22 dc22 pm22 cd22 ct22 : Value}
    (a22 : PySem.W.nsIn K mainGlobals "_law_cell_at" = some (some (.ref f22)))
    (l22 : K.lookup f22 = some ⟨oc22, od22, .func (PySem.W.fnOf "_law_cell_at" "_law_cell_at" (defArgs s__law_cell_at) (defBody s__law_cell_at) (defScope s__law_cell_at) .none kV22 dc22 pm22 an22 cd22 ct22), sl22⟩) (c22 : PySem.W.codeIn K cd22 "_law_cell_at" = true) (k22 : PySem.W.keepIn K (.ref f22) = true)
    {f23 : Addr} {od23 an23 : Option Addr} {sl23 : Array (Option Value)} {oc23 kV23 dc23 pm23 cd23 ct23 : Value}
    (a23 : PySem.W.nsIn K mainGlobals "_law_whole" = some (some (.ref f23)))
    (l23 : K.lookup f23 = some ⟨oc23, od23, .func (PySem.W.fnOf "_law_whole" "_law_whole" (defArgs s__law_whole) (defBody s__law_whole) (defScope s__law_whole) .none kV23 dc23 pm23 an23 cd23 ct23), sl23⟩) (c23 : PySem.W.codeIn K cd23 "_law_whole" = true) (k23 : PySem.W.keepIn K (.ref f23) = true)
    {f24 : Addr} {od24 an24 : Option Addr} {sl24 : Array (Option Value)} {oc24 kV24 dc24 pm24 cd24 ct24 : Value}
    (a24 : PySem.W.nsIn K mainGlobals "_law_drawn" = some (some (.ref f24)))
    (l24 : K.lookup f24 = some ⟨oc24, od24, .func (PySem.W.fnOf "_law_drawn" "_law_drawn" (defArgs s__law_drawn) (defBody s__law_drawn) (defScope s__law_drawn) .none kV24 dc24 pm24 an24 cd24 ct24), sl24⟩) (c24 : PySem.W.codeIn K cd24 "_law_drawn" = true) (k24 : PySem.W.keepIn K (.ref f24) = true)
    {f25 : Addr} {od25 an25 : Option Addr} {sl25 : Array (Option Value)} {oc25 kV25 dc25 pm25 cd25 ct25 : Value}
    (a25 : PySem.W.nsIn K mainGlobals "_law_rows" = some (some (.ref f25)))
    (l25 : K.lookup f25 = some ⟨oc25, od25, .func (PySem.W.fnOf "_law_rows" "_law_rows" (defArgs s__law_rows) (defBody s__law_rows) (defScope s__law_rows) .none kV25 dc25 pm25 an25 cd25 ct25), sl25⟩) (c25 : PySem.W.codeIn K cd25 "_law_rows" = true) (k25 : PySem.W.keepIn K (.ref f25) = true)
    {f26 : Addr} {od26 an26 : Option Addr} {sl26 : Array (Option Value)} {oc26 kV26 dc26 pm26 cd26 ct26 : Value}
    (a26 : PySem.W.nsIn K mainGlobals "_law_made" = some (some (.ref f26)))
    (l26 : K.lookup f26 = some ⟨oc26, od26, .func (PySem.W.fnOf "_law_made" "_law_made" (defArgs s__law_made) (defBody s__law_made) (defScope s__law_made) .none kV26 dc26 pm26 an26 cd26 ct26), sl26⟩) (c26 : PySem.W.codeIn K cd26 "_law_made" = true) (k26 : PySem.W.keepIn K (.ref f26) = true)
    {f27 : Addr} {od27 an27 : Option Addr} {sl27 : Array (Option Value)} {oc27 kV27 dc27 pm27 cd27 ct27 : Value}
    (a27 : PySem.W.nsIn K mainGlobals "_law_alike" = some (some (.ref f27)))
    (l27 : K.lookup f27 = some ⟨oc27, od27, .func (PySem.W.fnOf "_law_alike" "_law_alike" (defArgs s__law_alike) (defBody s__law_alike) (defScope s__law_alike) .none kV27 dc27 pm27 an27 cd27 ct27), sl27⟩) (c27 : PySem.W.codeIn K cd27 "_law_alike" = true) (k27 : PySem.W.keepIn K (.ref f27) = true)
    {f28 : Addr} {od28 an28 : Option Addr} {sl28 : Array (Option Value)} {oc28 kV28 dc28 pm28 cd28 ct28 : Value}
    (a28 : PySem.W.nsIn K mainGlobals "_law_rated" = some (some (.ref f28)))
    (l28 : K.lookup f28 = some ⟨oc28, od28, .func (PySem.W.fnOf "_law_rated" "_law_rated" (defArgs s__law_rated) (defBody s__law_rated) (defScope s__law_rated) .none kV28 dc28 pm28 an28 cd28 ct28), sl28⟩) (c28 : PySem.W.codeIn K cd28 "_law_rated" = true) (k28 : PySem.W.keepIn K (.ref f28) = true)
    {f29 : Addr} {od29 an29 : Option Addr} {sl29 : Array (Option Value)} {oc29 kV29 dc29 pm29 cd29 ct29 : Value}
    (a29 : PySem.W.nsIn K mainGlobals "_law_due" = some (some (.ref f29)))
    (l29 : K.lookup f29 = some ⟨oc29, od29, .func (PySem.W.fnOf "_law_due" "_law_due" (defArgs s__law_due) (defBody s__law_due) (defScope s__law_due) .none kV29 dc29 pm29 an29 cd29 ct29), sl29⟩) (c29 : PySem.W.codeIn K cd29 "_law_due" = true) (k29 : PySem.W.keepIn K (.ref f29) = true)
    {f30 : Addr} {od30 an30 : Option Addr} {sl30 : Array (Option Value)} {oc30 kV30 dc30 pm30 cd30 ct30 : Value}
    (a30 : PySem.W.nsIn K mainGlobals "_law_filled" = some (some (.ref f30)))
    (l30 : K.lookup f30 = some ⟨oc30, od30, .func (PySem.W.fnOf "_law_filled" "_law_filled" (defArgs s__law_filled) (defBody s__law_filled) (defScope s__law_filled) .none kV30 dc30 pm30 an30 cd30 ct30), sl30⟩) (c30 : PySem.W.codeIn K cd30 "_law_filled" = true) (k30 : PySem.W.keepIn K (.ref f30) = true)
    {f31 : Addr} {od31 an31 : Option Addr} {sl31 : Array (Option Value)} {oc31 kV31 dc31 pm31 ct31 : Value}
    (a31 : PySem.W.nsIn K mainGlobals "law" = some (some (.ref f31)))
    {cc_law : Addr} {xv_law : Array Value} {xc_law : Value} {xd_law : Option Addr} {xl_law : Array (Option Value)}
    (l31 : K.lookup f31 = some ⟨oc31, od31, .func (PySem.W.fnOf "law" "law" (defArgs s_law) (defBody s_law) (defScope s_law) .none kV31 dc31 pm31 an31 (.ref cc_law) ct31), sl31⟩) (c31 : PySem.W.codeIn K (.ref cc_law) "law" = true) (k31 : PySem.W.keepIn K (.ref f31) = true)
    (xk_law : K.lookup cc_law = some ⟨xc_law, xd_law, .fields xv_law, xl_law⟩) (xt_law : xv_law[11]? = some (.ref (refAt xv_law 11))) (xn_law : K.lookup (refAt xv_law 11) = none)
    (h_Whole_is_good : PySem.W.findIn K (.ref C_Whole) "is_good" = some (some (.ref f8)))
    (h_Gain_is_good : PySem.W.findIn K (.ref C_Gain) "is_good" = some (some (.ref f8)))
    (h_Whole_size : PySem.W.findIn K (.ref C_Whole) "size" = some (some (.ref f7)))
    (h_Gain_size : PySem.W.findIn K (.ref C_Gain) "size" = some (some (.ref f7)))
    (h_Whole_harmed : PySem.W.findIn K (.ref C_Whole) "harmed" = some (some (.ref f9)))
    (h_Gain_harmed : PySem.W.findIn K (.ref C_Gain) "harmed" = some (some (.ref f9)))
    (ga_Piece : PySem.W.specialIn K (.ref C_Piece) "__getattribute__" = some (some (.builtin "type.__getattribute__"))) (rd_Piece : PySem.W.readsIn K C_Piece (.type "type") = true) (fc_Piece___init__ : PySem.W.findCls K (.ref C_Piece) (.type "type") "__init__" = some (.val (.ref f6)))
    (D_tabne : (refAt xv_rate 11) ≠ (refAt xv_law 11))
    (z_len : PySem.W.nsIn K mainGlobals "len" = some none)
    (z_isinstance : PySem.W.nsIn K mainGlobals "isinstance" = some none)
    (z_int : PySem.W.nsIn K mainGlobals "int" = some none)
    (z_bool : PySem.W.nsIn K mainGlobals "bool" = some none)
    (z_list : PySem.W.nsIn K mainGlobals "list" = some none)
    (z_tuple : PySem.W.nsIn K mainGlobals "tuple" = some none)
    (z_range : PySem.W.nsIn K mainGlobals "range" = some none)
    (z_max : PySem.W.nsIn K mainGlobals "max" = some none)
    (z_sorted : PySem.W.nsIn K mainGlobals "sorted" = some none)
    (z_zip : PySem.W.nsIn K mainGlobals "zip" = some none)
    : ∃ (tabs : List (Addr × Addr)) (fd : FuncData), (∀ t ∈ tabs, ∃ m ∈ (["rate", "law"] : List Str), PySem.W.tabIn K m = some t /\ K.lookup t.2 = none) /\ (∀ (s : Shared) (v : Value), BindsTo s fd ⟨[v], []⟩ [("_law_script", v)]) /\ ∀ base : Heap, K.In base->base.Ns mainGlobals mg->TabsIn mg base tabs->FnOk l.prog w K mg base (CXx l.prog w) 11 fa fd ["_law_script"] (sp_law K tabs) := by
  have e := hfa.symm.trans (PySem.W.mg_of X G a31)
  cases e
  have T : Txt K mg t_W C_KeepError C_NoPlace C_NoPiece C_Piece C_Whole C_Gain C_Shelf := ⟨PySem.W.mg_of X G g_W, PySem.W.mg_of X G a_KeepError, ⟨xo_KeepError, xs_KeepError, xg_KeepError, xh_KeepError, xc_KeepError, clg, clt⟩, PySem.W.mg_of X G a_NoPlace, ⟨xo_NoPlace, xs_NoPlace, xg_NoPlace, xh_NoPlace, xc_NoPlace, clg, clt⟩, n_NoPlace_place, PySem.W.mg_of X G a_NoPiece, ⟨xo_NoPiece, xs_NoPiece, xg_NoPiece, xh_NoPiece, xc_NoPiece, clg, clt⟩, n_NoPiece_number, PySem.W.mg_of X G a_Piece, PySem.W.mg_of X G a_Whole, ⟨pg_Whole, hd_Whole, po_Whole, sa_Whole⟩, n_Whole_day, n_Whole_rows, n_Whole_check, n_Whole_fits, PySem.W.mg_of X G a_Gain, ⟨pg_Gain, hd_Gain, po_Gain, sa_Gain⟩, n_Gain_day, n_Gain_rows, n_Gain_check, n_Gain_fits, n_Gain_base, PySem.W.mg_of X G a_Shelf, ⟨pg_Shelf, hd_Shelf, po_Shelf, sa_Shelf⟩, n_Shelf_pieces, n_Shelf_follows, PySem.W.mg_none_of X G z_len, PySem.W.mg_none_of X G z_isinstance, PySem.W.mg_none_of X G z_int, PySem.W.mg_none_of X G z_bool, PySem.W.mg_none_of X G z_list, PySem.W.mg_none_of X G z_tuple, PySem.W.mg_none_of X G z_range, PySem.W.mg_none_of X G z_max, PySem.W.mg_none_of X G z_sorted, PySem.W.mg_none_of X G z_zip⟩
  have F0 := fun_mk (st := s_NoPlace___init__) l0 c0 k0
  have b0 := F0.binds (ps := ["self", "place"]) fun _ _ _ _ _ _ us hl => match us, hl with | [_, _], _ => rfl
  have F1 := fun_mk (st := s_NoPiece___init__) l1 c1 k1
  have b1 := F1.binds (ps := ["self", "number"]) fun _ _ _ _ _ _ us hl => match us, hl with | [_, _], _ => rfl
  have F2 := fun_mk (st := s_rate) l2 c2 k2
  have b2 := F2.binds (ps := ["seek", "each"]) fun _ _ _ _ _ _ us hl => match us, hl with | [_, _], _ => rfl
  have F3 := fun_mk (st := s_legs_of) l3 c3 k3
  have b3 := F3.binds (ps := ["shelf", "cost"]) fun _ _ _ _ _ _ us hl => match us, hl with | [_, _], _ => rfl
  have F4 := fun_mk (st := s_turned) l4 c4 k4
  have b4 := F4.binds (ps := ["number"]) fun _ _ _ _ _ _ us hl => match us, hl with | [_], _ => rfl
  have F5 := fun_mk (st := s_check_of) l5 c5 k5
  have b5 := F5.binds (ps := ["start", "day", "rows"]) fun _ _ _ _ _ _ us hl => match us, hl with | [_, _, _], _ => rfl
  have F6 := fun_mk (st := s_Piece___init__) l6 c6 k6
  have b6 := F6.binds (ps := ["self", "start", "day", "rows", "check"]) fun _ _ _ _ _ _ us hl => match us, hl with | [_, _, _, _, _], _ => rfl
  have F7 := fun_mk (st := s_Piece_size) l7 c7 k7
  have b7 := F7.binds (ps := ["self"]) fun _ _ _ _ _ _ us hl => match us, hl with | [_], _ => rfl
  have F8 := fun_mk (st := s_Piece_is_good) l8 c8 k8
  have b8 := F8.binds (ps := ["self"]) fun _ _ _ _ _ _ us hl => match us, hl with | [_], _ => rfl
  have F9 := fun_mk (st := s_Piece_harmed) l9 c9 k9
  have b9 := F9.binds (ps := ["self", "at", "bits"]) fun _ _ _ _ _ _ us hl => match us, hl with | [_, _, _], _ => rfl
  have F10 := fund_mk (st := s_Whole___init__) l10 c10 k10
  have b10 := F10.binds (ps := ["self", "day", "rows", "check"]) (ds := []) y10 rfl fun _ _ _ _ _ _ us hl => match us, hl with | [_, _, _, _], _ => ⟨_, rfl, rfl⟩
  have b_Whole___init___d1 := F10.binds (ps := ["self", "day", "rows", "check"]) (ds := [Value.none]) y10 rfl fun _ _ _ _ _ _ us hl => match us, hl with | [_, _, _], _ => ⟨_, rfl, rfl⟩
  have F11 := fun_mk (st := s_Whole_start) l11 c11 k11
  have b11 := F11.binds (ps := ["self"]) fun _ _ _ _ _ _ us hl => match us, hl with | [_], _ => rfl
  have F12 := fun_mk (st := s_Whole_with_rows) l12 c12 k12
  have b12 := F12.binds (ps := ["self", "rows"]) fun _ _ _ _ _ _ us hl => match us, hl with | [_, _], _ => rfl
  have F13 := fund_mk (st := s_Gain___init__) l13 c13 k13
  have b13 := F13.binds (ps := ["self", "base", "day", "rows", "check"]) (ds := []) y13 rfl fun _ _ _ _ _ _ us hl => match us, hl with | [_, _, _, _, _], _ => ⟨_, rfl, rfl⟩
  have b_Gain___init___d1 := F13.binds (ps := ["self", "base", "day", "rows", "check"]) (ds := [Value.none]) y13 rfl fun _ _ _ _ _ _ us hl => match us, hl with | [_, _, _, _], _ => ⟨_, rfl, rfl⟩
  have F14 := fun_mk (st := s_Gain_start) l14 c14 k14
  have b14 := F14.binds (ps := ["self"]) fun _ _ _ _ _ _ us hl => match us, hl with | [_], _ => rfl
  have F15 := fun_mk (st := s_Gain_with_rows) l15 c15 k15
  have b15 := F15.binds (ps := ["self", "rows"]) fun _ _ _ _ _ _ us hl => match us, hl with | [_, _], _ => rfl
  have F16 := fun_mk (st := s_Shelf___init__) l16 c16 k16
  have b16 := F16.binds (ps := ["self"]) fun _ _ _ _ _ _ us hl => match us, hl with | [_], _ => rfl
  have F17 := fun_mk (st := s_Shelf_put) l17 c17 k17
  have b17 := F17.binds (ps := ["self", "piece"]) fun _ _ _ _ _ _ us hl => match us, hl with | [_, _], _ => rfl
  have F18 := fun_mk (st := s_Shelf_lay) l18 c18 k18
  have b18 := F18.binds (ps := ["self", "number", "piece"]) fun _ _ _ _ _ _ us hl => match us, hl with | [_, _, _], _ => rfl
  have F19 := fun_mk (st := s_Shelf_piece) l19 c19 k19
  have b19 := F19.binds (ps := ["self", "number"]) fun _ _ _ _ _ _ us hl => match us, hl with | [_, _], _ => rfl
  have F20 := fun_mk (st := s_Shelf_drop) l20 c20 k20
  have b20 := F20.binds (ps := ["self", "number"]) fun _ _ _ _ _ _ us hl => match us, hl with | [_, _], _ => rfl
  have F21 := fun_mk (st := s_Shelf_numbers) l21 c21 k21
  have b21 := F21.binds (ps := ["self"]) fun _ _ _ _ _ _ us hl => match us, hl with | [_], _ => rfl
  have F22 := fun_mk (st := s__law_cell_at) l22 c22 k22
  have b22 := F22.binds (ps := ["_law_script", "_law_k"]) fun _ _ _ _ _ _ us hl => match us, hl with | [_, _], _ => rfl
  have F23 := fun_mk (st := s__law_whole) l23 c23 k23
  have b23 := F23.binds (ps := ["_law_found"]) fun _ _ _ _ _ _ us hl => match us, hl with | [_], _ => rfl
  have F24 := fun_mk (st := s__law_drawn) l24 c24 k24
  have b24 := F24.binds (ps := ["_law_cell", "_law_many"]) fun _ _ _ _ _ _ us hl => match us, hl with | [_, _], _ => rfl
  have F25 := fun_mk (st := s__law_rows) l25 c25 k25
  have b25 := F25.binds (ps := ["_law_cell", "_law_wide", "_law_full"]) fun _ _ _ _ _ _ us hl => match us, hl with | [_, _, _], _ => rfl
  have F26 := fun_mk (st := s__law_made) l26 c26 k26
  have b26 := F26.binds (ps := ["_law_cell", "_law_wide"]) fun _ _ _ _ _ _ us hl => match us, hl with | [_, _], _ => rfl
  have F27 := fun_mk (st := s__law_alike) l27 c27 k27
  have b27 := F27.binds (ps := ["_law_found", "_law_due_here"]) fun _ _ _ _ _ _ us hl => match us, hl with | [_, _], _ => rfl
  have F28 := fun_mk (st := s__law_rated) l28 c28 k28
  have b28 := F28.binds (ps := ["_law_shelf", "_law_facts", "_law_one", "_law_other", "_law_seek", "_law_each"]) fun _ _ _ _ _ _ us hl => match us, hl with | [_, _, _, _, _, _], _ => rfl
  have F29 := fun_mk (st := s__law_due) l29 c29 k29
  have b29 := F29.binds (ps := ["_law_facts", "_law_seek", "_law_each", "_law_late"]) fun _ _ _ _ _ _ us hl => match us, hl with | [_, _, _, _], _ => rfl
  have F30 := fun_mk (st := s__law_filled) l30 c30 k30
  have b30 := F30.binds (ps := ["_law_script", "_law_wide", "_law_shelf"]) fun _ _ _ _ _ _ us hl => match us, hl with | [_, _, _], _ => rfl
  have F31 := fun_mk (st := s_law) l31 c31 k31
  have b31 := F31.binds (ps := ["_law_script"]) fun _ _ _ _ _ _ us hl => match us, hl with | [_], _ => rfl
  refine ⟨[(cc_rate, (refAt xv_rate 11)), (cc_law, (refAt xv_law 11))], PySem.W.fnOf "law" "law" (defArgs s_law) (defBody s_law) (defScope s_law) .none kV31 dc31 pm31 an31 (.ref cc_law) ct31, fun t ht => ?_, fun s v => .of_eq rfl, fun base _ _ hTb => ?_⟩
  · simp only [List.mem_cons, List.not_mem_nil, or_false] at ht
    rcases ht with rfl | rfl
    · exact ⟨"rate", by simp, L2.tabIn_of a2 l2 rfl xk_rate xt_rate, xn_rate⟩
    · exact ⟨"law", by simp, L2.tabIn_of a31 l31 rfl xk_law xt_law, xn_law⟩
  obtain ⟨hCd_rate, hBu_rate, hGT_rate⟩ := hTb (cc_rate, (refAt xv_rate 11)) (by simp)
  obtain ⟨hCd_law, hBu_law, hGT_law⟩ := hTb (cc_law, (refAt xv_law 11)) (by simp)
  have D_tab_law := hTb (cc_law, (refAt xv_law 11)) (by simp)
  have D_NoPlace : ExcX l.prog w K mg base "NoPlace" C_NoPlace 1 ["self", "place"] (sp_x1 C_NoPlace "place") := ⟨_, _, PySem.W.mg_of X G a_NoPlace, ⟨T.x_NoPlace, a0, i0, kc_NoPlace⟩, ok_NoPlace___init__ F0 T , b0⟩
  have D_NoPiece : ExcX l.prog w K mg base "NoPiece" C_NoPiece 1 ["self", "number"] (sp_x1 C_NoPiece "number") := ⟨_, _, PySem.W.mg_of X G a_NoPiece, ⟨T.x_NoPiece, a1, i1, kc_NoPiece⟩, ok_NoPiece___init__ F1 T , b1⟩
  have D_rate : DefX l.prog w K mg base "rate" 1 ["seek", "each"] (sp_maker (refAt xv_rate 11) (stPos s_cost) "cost" "rate.<locals>.cost" (defArgs s_cost) (defBody s_cost) (defScope s_cost) ["seek", "each"]) := ⟨_, _, PySem.W.mg_of X G a2, maker_of l2 c2 rfl rfl rfl rfl rfl rfl rfl (fun _ => rfl) (fun _ => rfl) hCd_rate hBu_rate hGT_rate, k2, b2⟩
  have D_Shelf_numbers : MethX l.prog w K mg base C_Shelf "numbers" 1 ["self"] (sp_numbers C_Shelf) := ⟨_, _, ⟨a21, i21, k21⟩, ok_Shelf_numbers F21 T , b21⟩
  have D_Shelf_piece : MethX l.prog w K mg base C_Shelf "piece" 3 ["self", "number"] (sp_piece C_Shelf C_NoPiece) := ⟨_, _, ⟨a19, i19, k19⟩, ok_Shelf_piece F19 T D_NoPiece, b19⟩
  have D_Whole_size : MethX l.prog w K mg base C_Whole "size" 1 ["self"] (sp_size C_Whole C_Gain) := ⟨_, _, ⟨h_Whole_size, i7, k7⟩, ok_Piece_size F7 T , b7⟩
  have D_Gain_size : MethX l.prog w K mg base C_Gain "size" 1 ["self"] (sp_size C_Whole C_Gain) := ⟨_, _, ⟨h_Gain_size, i7, k7⟩, ok_Piece_size F7 T , b7⟩
  have O_cost : ∀ f, ClosF l.prog w K mg base (CXx l.prog w) 4 f (sp_cost C_Whole C_Gain f) := fun f => ok_clos_cost T D_Gain_size D_Whole_size
  have O_lam : ∀ f, ClosF l.prog w K mg base (CXx l.prog w) 4 f (sp_lam C_Whole C_Gain f) := fun f => ok_clos_lam T D_Gain_size D_Whole_size
  have D_clos_cost : ∀ f, ClosF l.prog w K mg base (CXx l.prog w) 4 f (sp_fn C_Whole C_Gain f) := fun f => (O_cost f).or (O_lam f) fun _ _ _ _ x => x
  have D_Whole_is_good : MethX l.prog w K mg base C_Whole "is_good" 3 ["self"] (sp_good C_Whole C_Gain) := ⟨_, _, ⟨h_Whole_is_good, i8, k8⟩, ok_Piece_is_good F8 T , b8⟩
  have D_Gain_is_good : MethX l.prog w K mg base C_Gain "is_good" 3 ["self"] (sp_good C_Whole C_Gain) := ⟨_, _, ⟨h_Gain_is_good, i8, k8⟩, ok_Piece_is_good F8 T , b8⟩
  have D_Gain_start : MethX l.prog w K mg base C_Gain "start" 1 ["self"] (sp_gstart C_Whole C_Gain) := ⟨_, _, ⟨a14, i14, k14⟩, ok_Gain_start F14 T , b14⟩
  have D_Whole_start : MethX l.prog w K mg base C_Whole "start" 1 ["self"] sp_wstart := ⟨_, _, ⟨a11, i11, k11⟩, ok_Whole_start F11 T , b11⟩
  have D_legs_of : DefX l.prog w K mg base "legs_of" 6 ["shelf", "cost"] (sp_legsof C_Shelf C_Whole C_Gain) := ⟨_, _, PySem.W.mg_of X G a3, ok_legs_of F3 T D_Shelf_numbers D_Shelf_piece D_clos_cost D_Gain_is_good D_Whole_is_good D_Gain_start D_Whole_start, k3, b3⟩
  have D_turned : DefX l.prog w K mg base "turned" 1 ["number"] sp_turned := ⟨_, _, PySem.W.mg_of X G a4, ok_turned F4 T , k4, b4⟩
  have D_check_of : DefX l.prog w K mg base "check_of" 2 ["start", "day", "rows"] sp_check := ⟨_, _, PySem.W.mg_of X G a5, ok_check_of F5 T D_turned, k5, b5⟩
  have D_Piece___init__ : ClsX l.prog w K mg base "Piece" C_Piece "__init__" 3 ["self", "start", "day", "rows", "check"] (sp_pinit K) := ⟨_, _, PySem.W.mg_of X G a_Piece, ⟨ga_Piece, rd_Piece, fc_Piece___init__, k6⟩, ok_Piece___init__ F6 T D_check_of, b6⟩
  have D_Gain : MakeX l.prog w K mg base "Gain" C_Gain 4 ["self", "base", "day", "rows", "check"] (sp_ginit C_Whole C_Gain) := ⟨_, _, PySem.W.mg_of X G a_Gain, ⟨mk_Gain, a13, i13, kc_Gain⟩, ok_Gain___init__ F13 T D_Piece___init__, b13⟩
  have D_Gain_d1 : MakeXd l.prog w K mg base "Gain" C_Gain 4 ["self", "base", "day", "rows", "check"] [Value.none] (sp_ginit C_Whole C_Gain) := ⟨_, _, PySem.W.mg_of X G a_Gain, ⟨mk_Gain, a13, i13, kc_Gain⟩, ok_Gain___init__ F13 T D_Piece___init__, b_Gain___init___d1⟩
  have D_Gain_with_rows : MethX l.prog w K mg base C_Gain "with_rows" 6 ["self", "rows"] (sp_wr C_Whole C_Gain false) := ⟨_, _, ⟨a15, i15, k15⟩, ok_Gain_with_rows F15 T D_Gain, b15⟩
  have D_Whole : MakeX l.prog w K mg base "Whole" C_Whole 4 ["self", "day", "rows", "check"] (sp_winit C_Whole C_Gain) := ⟨_, _, PySem.W.mg_of X G a_Whole, ⟨mk_Whole, a10, i10, kc_Whole⟩, ok_Whole___init__ F10 T D_Piece___init__, b10⟩
  have D_Whole_d1 : MakeXd l.prog w K mg base "Whole" C_Whole 4 ["self", "day", "rows", "check"] [Value.none] (sp_winit C_Whole C_Gain) := ⟨_, _, PySem.W.mg_of X G a_Whole, ⟨mk_Whole, a10, i10, kc_Whole⟩, ok_Whole___init__ F10 T D_Piece___init__, b_Whole___init___d1⟩
  have D_Whole_with_rows : MethX l.prog w K mg base C_Whole "with_rows" 6 ["self", "rows"] (sp_wr C_Whole C_Gain true) := ⟨_, _, ⟨a12, i12, k12⟩, ok_Whole_with_rows F12 T D_Whole, b12⟩
  have D_Whole_harmed : MethX l.prog w K mg base C_Whole "harmed" 7 ["self", "at", "bits"] (sp_harm C_Whole C_Gain C_NoPlace) := ⟨_, _, ⟨h_Whole_harmed, i9, k9⟩, ok_Piece_harmed F9 T D_NoPlace D_Gain_with_rows D_Whole_with_rows, b9⟩
  have D_Gain_harmed : MethX l.prog w K mg base C_Gain "harmed" 7 ["self", "at", "bits"] (sp_harm C_Whole C_Gain C_NoPlace) := ⟨_, _, ⟨h_Gain_harmed, i9, k9⟩, ok_Piece_harmed F9 T D_NoPlace D_Gain_with_rows D_Whole_with_rows, b9⟩
  have D_Shelf : MakeX l.prog w K mg base "Shelf" C_Shelf 1 ["self"] (sp_sinit C_Shelf) := ⟨_, _, PySem.W.mg_of X G a_Shelf, ⟨mk_Shelf, a16, i16, kc_Shelf⟩, ok_Shelf___init__ F16 T , b16⟩
  have D_Shelf_lay : MethX l.prog w K mg base C_Shelf "lay" 1 ["self", "number", "piece"] (sp_lay C_Shelf) := ⟨_, _, ⟨a18, i18, k18⟩, ok_Shelf_lay F18 T , b18⟩
  have D_Shelf_put : MethX l.prog w K mg base C_Shelf "put" 2 ["self", "piece"] (sp_put C_Shelf) := ⟨_, _, ⟨a17, i17, k17⟩, ok_Shelf_put F17 T D_Shelf_lay, b17⟩
  have D_Shelf_drop : MethX l.prog w K mg base C_Shelf "drop" 4 ["self", "number"] (sp_drop C_Shelf C_NoPiece) := ⟨_, _, ⟨a20, i20, k20⟩, ok_Shelf_drop F20 T D_Shelf_piece, b20⟩
  have D__law_cell_at : DefX l.prog w K mg base "_law_cell_at" 1 ["_law_script", "_law_k"] (sp_cell K) := ⟨_, _, PySem.W.mg_of X G a22, ok__law_cell_at F22 T , k22, b22⟩
  have D__law_whole : DefX l.prog w K mg base "_law_whole" 1 ["_law_found"] sp_whole := ⟨_, _, PySem.W.mg_of X G a23, ok__law_whole F23 T , k23, b23⟩
  have D__law_drawn : DefX l.prog w K mg base "_law_drawn" 1 ["_law_cell", "_law_many"] sp_drawn := ⟨_, _, PySem.W.mg_of X G a24, ok__law_drawn F24 T , k24, b24⟩
  have D__law_rows : DefX l.prog w K mg base "_law_rows" 2 ["_law_cell", "_law_wide", "_law_full"] sp_rows33 := ⟨_, _, PySem.W.mg_of X G a25, ok__law_rows F25 T D__law_drawn, k25, b25⟩
  have D__law_made : DefX l.prog w K mg base "_law_made" 9 ["_law_cell", "_law_wide"] (sp_made33 C_Whole C_Gain) := ⟨_, _, PySem.W.mg_of X G a26, ok__law_made F26 T D__law_drawn D__law_rows D_Whole_d1 D_Gain_d1 D_Gain_harmed D_Whole_harmed, k26, b26⟩
  have D__law_alike : DefX l.prog w K mg base "_law_alike" 2 ["_law_found", "_law_due_here"] sp_alike33 := ⟨_, _, PySem.W.mg_of X G a27, ok__law_alike F27 T D__law_whole, k27, b27⟩
  have D__law_rated : DefX l.prog w K mg base "_law_rated" 6 ["_law_shelf", "_law_facts", "_law_one", "_law_other", "_law_seek", "_law_each"] (sp_rated33 C_Shelf C_Whole C_Gain) := ⟨_, _, PySem.W.mg_of X G a28, ok__law_rated F28 T D_Shelf_piece D_clos_cost D__law_whole, k28, b28⟩
  have D__law_due : DefX l.prog w K mg base "_law_due" 1 ["_law_facts", "_law_seek", "_law_each", "_law_late"] sp_due33 := ⟨_, _, PySem.W.mg_of X G a29, ok__law_due F29 T , k29, b29⟩
  have D__law_filled : DefX l.prog w K mg base "_law_filled" 10 ["_law_script", "_law_wide", "_law_shelf"] (sp_filled33 K C_Shelf C_Whole C_Gain) := ⟨_, _, PySem.W.mg_of X G a30, ok__law_filled F30 T D__law_made D__law_drawn D_Shelf_drop D_Shelf_lay D_Shelf_put, k30, b30⟩
  exact ok_law F31 rfl T D__law_cell_at D_rate D_Shelf D__law_filled D_legs_of D__law_rated D__law_alike D__law_due D_tab_law D_tabne
theorem walk {l : PySem.W.OpenLaw} {q : Program} {loose : List Str} {XP : (Str->Option Value)->Heap->Prop} {YP : World->Heap->Prop} {d : DefRec} {K : Params->PySem.W.Frag} (hn : l.most = some 63) (hdf : d.params.defaults = []) (hm : (["rate", "law"] : List Str).all (fun m => ((PyProof.Rows.recsOf q).find? (fun e => e.name == m)).isSome) = true)
    (hY : ∀ (w : World) (h : Heap), YP w h->(K w.params).In h)
    (F : ∀ (w : World) (mg : Str->Option Value) (fa : Addr) (h : Heap), (K w.params).In h->h.Ns mainGlobals mg->mg d.name = some (.ref fa) →
      ∃ (tabs : List (Addr × Addr)) (fd : FuncData), (∀ t ∈ tabs, ∃ m ∈ (["rate", "law"] : List Str), PySem.W.tabIn (K w.params) m = some t /\ (K w.params).lookup t.2 = none) /\ (∀ (s : Shared) (u : Value), BindsTo s fd ⟨[u], []⟩ [("_law_script", u)]) /\ ∀ base : Heap, (K w.params).In base->base.Ns mainGlobals mg->TabsIn mg base tabs->FnOk l.prog w (K w.params) mg base (CXx l.prog w) 11 fa fd ["_law_script"] (sp_law (K w.params) tabs)) :
    PySem.W.WalkO q loose XP YP l.row.toRowW d [] (fun f vs => PySem.call f vs) :=
  L2.walk_ofT (n := 63) (k := 11) (x := "_law_script") (CX := fun w => CXx l.prog w) (sp := fun w tabs => sp_law (K w.params) tabs) ["rate", "law"] hn (by decide) hdf ⟨rfl, by decide, by decide⟩ hm hY F (fun _ _ _ a ns hl hT hS => ⟨a, ns, rfl, hS, hl, hT, fun _ => rfl⟩) fun _ _ _ _ _ z => L2.cxx_no z
end Mine
open PySem PySem.W PyProof.Rows
namespace Hd
noncomputable section
open PySem
abbrev h0 := (((((Str.ofString "<module>", Str.ofString "/claim/cut.py"), Str.ofString "__main__"), ((Str.ofString "__name__", Str.ofString "keepsakes.errors"), Str.ofString "__doc__")), (((Str.ofString "__package__", Str.ofString "__loader__"), Str.ofString "__spec__"), ((Str.ofString "__annotations__", Str.ofString "__builtins__"), Str.ofString "__file__"))), ((((Str.ofString "__cached__", Str.ofString "_wall"), Str.ofString "KeepError"), ((Str.ofString "k", Str.ofString "__module__"), Str.ofString "__qualname__")), (((Str.ofString "__firstlineno__", Str.ofString "__static_attributes__"), Str.ofString "__weakref__"), ((Str.ofString "NoPlace", Str.ofString "__init__"), Str.ofString "self"))))
abbrev h1 := (((((Str.ofString "place", Str.ofString "NoPlace.__init__"), Str.ofString "keepsakes.checks"), ((Str.ofString "NoPiece", Str.ofString "rate"), Str.ofString "legs_of")), (((Str.ofString "W", Str.ofString "turned"), Str.ofString "number"), ((Str.ofString "NoPiece.__init__", Str.ofString "seek"), Str.ofString "each"))), ((((Str.ofString "cost", Str.ofString "keepsakes.least"), Str.ofString "shelf"), ((Str.ofString "legs", Str.ofString "piece"), Str.ofString "keepsakes.pieces")), (((Str.ofString "check_of", Str.ofString "Piece"), Str.ofString "start"), ((Str.ofString "day", Str.ofString "rows"), Str.ofString "numbers"))))
abbrev h2 := (((((Str.ofString "block", Str.ofString "check"), Str.ofString "size"), ((Str.ofString "is_good", Str.ofString "harmed"), Str.ofString "Piece.__init__")), (((Str.ofString "Piece.size", Str.ofString "Piece.is_good"), Str.ofString "at"), ((Str.ofString "bits", Str.ofString "row"), Str.ofString "Piece.harmed"))), ((((Str.ofString "fits", Str.ofString "__dict__"), Str.ofString "Whole"), ((Str.ofString "kind", Str.ofString "laid"), Str.ofString "with_rows")), (((Str.ofString "Whole.__init__", Str.ofString "Whole.start"), Str.ofString "Whole.kind"), ((Str.ofString "table", Str.ofString "Whole.laid"), Str.ofString "Whole.with_rows"))))
abbrev h3 := (((((Str.ofString "keepsakes.shelves", Str.ofString "Gain"), Str.ofString "base"), ((Str.ofString "Gain.__init__", Str.ofString "Gain.start"), Str.ofString "Gain.kind")), (((Str.ofString "Gain.laid", Str.ofString "Gain.with_rows"), Str.ofString "Shelf"), ((Str.ofString "put", Str.ofString "lay"), Str.ofString "drop"))), ((((Str.ofString "following", Str.ofString "copied"), Str.ofString "last_whole"), ((Str.ofString "Shelf.__init__", Str.ofString "Shelf.put"), Str.ofString "Shelf.lay")), (((Str.ofString "Shelf.piece", Str.ofString "Shelf.drop"), Str.ofString "Shelf.numbers"), ((Str.ofString "Shelf.following", Str.ofString "Shelf.copied"), Str.ofString "Shelf.last_whole"))))
abbrev h4 := (((((Str.ofString "follows", Str.ofString "pieces"), Str.ofString "law_keepsakes_k33_legs_of_a_shelf"), ((Str.ofString "_law_cell_at", Str.ofString "_law_whole"), Str.ofString "_law_drawn")), (((Str.ofString "_law_rows", Str.ofString "_law_made"), Str.ofString "_law_alike"), ((Str.ofString "_law_rated", Str.ofString "_law_due"), Str.ofString "_law_filled"))), ((((Str.ofString "law", Str.ofString "_law_script"), Str.ofString "_law_k"), ((Str.ofString "_law_found", Str.ofString "_law_cell"), Str.ofString "_law_many")), (((Str.ofString "_law_number", Str.ofString "_law_wide"), Str.ofString "_law_full"), ((Str.ofString "_law_xs", Str.ofString "_law_rows_here"), Str.ofString "_law_day"))))
abbrev h5 := ((((Str.ofString "_law_start", Str.ofString "_law_piece"), (Str.ofString "_law_bad", Str.ofString "_law_shelf")), ((Str.ofString "_law_facts", Str.ofString "_law_one"), (Str.ofString "_law_other", Str.ofString "_law_seek"))), (((Str.ofString "_law_each", Str.ofString "_law_first"), (Str.ofString "_law_late", Str.ofString "_law_due_here")), ((Str.ofString "_law_told", Str.ofString "_law_there"), Str.ofString "_law_most")))
abbrev h6 := ((((("tuple", "code"), "frame"), (("dict", "__main__.__loader__#opaque"), "function")), ((("ValueError", "builtin_function_or_method"), "type.__prepare__"), ("type", "Exception"))), (((("BaseException", "object"), "ValueError.__new__"), ("getset_descriptor", "ExceptionGroup.__weakref__")), ((("super", "object.__init_subclass__"), "object.__new__"), ("function.__dict__", "function.__dict__#set"))))
abbrev X : Type := ((((((((Str × Str) × Str) × ((Str × Str) × Str)) × (((Str × Str) × Str) × ((Str × Str) × Str))) × ((((Str × Str) × Str) × ((Str × Str) × Str)) × (((Str × Str) × Str) × ((Str × Str) × Str)))) × (((((Str × Str) × Str) × ((Str × Str) × Str)) × (((Str × Str) × Str) × ((Str × Str) × Str))) × ((((Str × Str) × Str) × ((Str × Str) × Str)) × (((Str × Str) × Str) × ((Str × Str) × Str))))) × ((((((Str × Str) × Str) × ((Str × Str) × Str)) × (((Str × Str) × Str) × ((Str × Str) × Str))) × ((((Str × Str) × Str) × ((Str × Str) × Str)) × (((Str × Str) × Str) × ((Str × Str) × Str)))) × (((((Str × Str) × Str) × ((Str × Str) × Str)) × (((Str × Str) × Str) × ((Str × Str) × Str))) × ((((Str × Str) × Str) × ((Str × Str) × Str)) × (((Str × Str) × Str) × ((Str × Str) × Str)))))) × (((((((Str × Str) × Str) × ((Str × Str) × Str)) × (((Str × Str) × Str) × ((Str × Str) × Str))) × ((((Str × Str) × Str) × ((Str × Str) × Str)) × (((Str × Str) × Str) × ((Str × Str) × Str)))) × ((((Str × Str) × (Str × Str)) × ((Str × Str) × (Str × Str))) × (((Str × Str) × (Str × Str)) × ((Str × Str) × Str)))) × ((((((String × String) × String) × ((String × String) × String)) × (((String × String) × String) × (String × String))) × ((((String × String) × String) × (String × String)) × (((String × String) × String) × (String × String)))) × PySem.Program))) × PySem.Params
abbrev hs := (((h0, h1), (h2, h3)), ((h4, h5), (h6, PySem.Challenge.pw_keepsakes_k33_legs_of_a_shelf)))
lay_quick h0 h1 h2 h3 h4 h5 h6 PySem.Challenge.pw_keepsakes_k33_legs_of_a_shelf
lay_quick hs
abbrev s0 (x : X) := x.1.1.1.1.1.1.1.1.1
abbrev s1 (x : X) := x.1.1.1.1.1.1.1.1.2
abbrev s2 (x : X) := x.1.1.1.1.1.1.1.2
abbrev s3 (x : X) := x.1.1.1.1.1.1.2.1.1
abbrev s4 (x : X) := x.1.1.1.1.1.1.2.1.2
abbrev s5 (x : X) := x.1.1.1.1.1.1.2.2
abbrev s6 (x : X) := x.1.1.1.1.1.2.1.1.1
abbrev s7 (x : X) := x.1.1.1.1.1.2.1.1.2
abbrev s8 (x : X) := x.1.1.1.1.1.2.1.2
abbrev s9 (x : X) := x.1.1.1.1.1.2.2.1.1
abbrev s10 (x : X) := x.1.1.1.1.1.2.2.1.2
abbrev s11 (x : X) := x.1.1.1.1.1.2.2.2
abbrev s12 (x : X) := x.1.1.1.1.2.1.1.1.1
abbrev s13 (x : X) := x.1.1.1.1.2.1.1.1.2
abbrev s14 (x : X) := x.1.1.1.1.2.1.1.2
abbrev s15 (x : X) := x.1.1.1.1.2.1.2.1.1
abbrev s16 (x : X) := x.1.1.1.1.2.1.2.1.2
abbrev s17 (x : X) := x.1.1.1.1.2.1.2.2
abbrev s18 (x : X) := x.1.1.1.1.2.2.1.1.1
abbrev s19 (x : X) := x.1.1.1.1.2.2.1.1.2
abbrev s20 (x : X) := x.1.1.1.1.2.2.1.2
abbrev s21 (x : X) := x.1.1.1.1.2.2.2.1.1
abbrev s22 (x : X) := x.1.1.1.1.2.2.2.1.2
abbrev s23 (x : X) := x.1.1.1.1.2.2.2.2
abbrev s24 (x : X) := x.1.1.1.2.1.1.1.1.1
abbrev s25 (x : X) := x.1.1.1.2.1.1.1.1.2
abbrev s26 (x : X) := x.1.1.1.2.1.1.1.2
abbrev s27 (x : X) := x.1.1.1.2.1.1.2.1.1
abbrev s28 (x : X) := x.1.1.1.2.1.1.2.1.2
abbrev s29 (x : X) := x.1.1.1.2.1.1.2.2
abbrev s30 (x : X) := x.1.1.1.2.1.2.1.1.1
abbrev s31 (x : X) := x.1.1.1.2.1.2.1.1.2
abbrev s32 (x : X) := x.1.1.1.2.1.2.1.2
abbrev s33 (x : X) := x.1.1.1.2.1.2.2.1.1
abbrev s34 (x : X) := x.1.1.1.2.1.2.2.1.2
abbrev s35 (x : X) := x.1.1.1.2.1.2.2.2
abbrev s36 (x : X) := x.1.1.1.2.2.1.1.1.1
abbrev s37 (x : X) := x.1.1.1.2.2.1.1.1.2
abbrev s38 (x : X) := x.1.1.1.2.2.1.1.2
abbrev s39 (x : X) := x.1.1.1.2.2.1.2.1.1
abbrev s40 (x : X) := x.1.1.1.2.2.1.2.1.2
abbrev s41 (x : X) := x.1.1.1.2.2.1.2.2
abbrev s42 (x : X) := x.1.1.1.2.2.2.1.1.1
abbrev s43 (x : X) := x.1.1.1.2.2.2.1.1.2
abbrev s44 (x : X) := x.1.1.1.2.2.2.1.2
abbrev s45 (x : X) := x.1.1.1.2.2.2.2.1.1
abbrev s46 (x : X) := x.1.1.1.2.2.2.2.1.2
abbrev s47 (x : X) := x.1.1.1.2.2.2.2.2
abbrev s48 (x : X) := x.1.1.2.1.1.1.1.1.1
abbrev s49 (x : X) := x.1.1.2.1.1.1.1.1.2
abbrev s50 (x : X) := x.1.1.2.1.1.1.1.2
abbrev s51 (x : X) := x.1.1.2.1.1.1.2.1.1
abbrev s52 (x : X) := x.1.1.2.1.1.1.2.1.2
abbrev s53 (x : X) := x.1.1.2.1.1.1.2.2
abbrev s54 (x : X) := x.1.1.2.1.1.2.1.1.1
abbrev s55 (x : X) := x.1.1.2.1.1.2.1.1.2
abbrev s56 (x : X) := x.1.1.2.1.1.2.1.2
abbrev s57 (x : X) := x.1.1.2.1.1.2.2.1.1
abbrev s58 (x : X) := x.1.1.2.1.1.2.2.1.2
abbrev s59 (x : X) := x.1.1.2.1.1.2.2.2
abbrev s60 (x : X) := x.1.1.2.1.2.1.1.1.1
abbrev s61 (x : X) := x.1.1.2.1.2.1.1.1.2
abbrev s62 (x : X) := x.1.1.2.1.2.1.1.2
abbrev s63 (x : X) := x.1.1.2.1.2.1.2.1.1
abbrev s64 (x : X) := x.1.1.2.1.2.1.2.1.2
abbrev s65 (x : X) := x.1.1.2.1.2.1.2.2
abbrev s66 (x : X) := x.1.1.2.1.2.2.1.1.1
abbrev s67 (x : X) := x.1.1.2.1.2.2.1.1.2
abbrev s68 (x : X) := x.1.1.2.1.2.2.1.2
abbrev s69 (x : X) := x.1.1.2.1.2.2.2.1.1
abbrev s70 (x : X) := x.1.1.2.1.2.2.2.1.2
abbrev s71 (x : X) := x.1.1.2.1.2.2.2.2
abbrev s72 (x : X) := x.1.1.2.2.1.1.1.1.1
abbrev s73 (x : X) := x.1.1.2.2.1.1.1.1.2
abbrev s74 (x : X) := x.1.1.2.2.1.1.1.2
abbrev s75 (x : X) := x.1.1.2.2.1.1.2.1.1
abbrev s76 (x : X) := x.1.1.2.2.1.1.2.1.2
abbrev s77 (x : X) := x.1.1.2.2.1.1.2.2
abbrev s78 (x : X) := x.1.1.2.2.1.2.1.1.1
abbrev s79 (x : X) := x.1.1.2.2.1.2.1.1.2
abbrev s80 (x : X) := x.1.1.2.2.1.2.1.2
abbrev s81 (x : X) := x.1.1.2.2.1.2.2.1.1
abbrev s82 (x : X) := x.1.1.2.2.1.2.2.1.2
abbrev s83 (x : X) := x.1.1.2.2.1.2.2.2
abbrev s84 (x : X) := x.1.1.2.2.2.1.1.1.1
abbrev s85 (x : X) := x.1.1.2.2.2.1.1.1.2
abbrev s86 (x : X) := x.1.1.2.2.2.1.1.2
abbrev s87 (x : X) := x.1.1.2.2.2.1.2.1.1
abbrev s88 (x : X) := x.1.1.2.2.2.1.2.1.2
abbrev s89 (x : X) := x.1.1.2.2.2.1.2.2
abbrev s90 (x : X) := x.1.1.2.2.2.2.1.1.1
abbrev s91 (x : X) := x.1.1.2.2.2.2.1.1.2
abbrev s92 (x : X) := x.1.1.2.2.2.2.1.2
abbrev s93 (x : X) := x.1.1.2.2.2.2.2.1.1
abbrev s94 (x : X) := x.1.1.2.2.2.2.2.1.2
abbrev s95 (x : X) := x.1.1.2.2.2.2.2.2
abbrev s96 (x : X) := x.1.2.1.1.1.1.1.1.1
abbrev s97 (x : X) := x.1.2.1.1.1.1.1.1.2
abbrev s98 (x : X) := x.1.2.1.1.1.1.1.2
abbrev s99 (x : X) := x.1.2.1.1.1.1.2.1.1
abbrev s100 (x : X) := x.1.2.1.1.1.1.2.1.2
abbrev s101 (x : X) := x.1.2.1.1.1.1.2.2
abbrev s102 (x : X) := x.1.2.1.1.1.2.1.1.1
abbrev s103 (x : X) := x.1.2.1.1.1.2.1.1.2
abbrev s104 (x : X) := x.1.2.1.1.1.2.1.2
abbrev s105 (x : X) := x.1.2.1.1.1.2.2.1.1
abbrev s106 (x : X) := x.1.2.1.1.1.2.2.1.2
abbrev s107 (x : X) := x.1.2.1.1.1.2.2.2
abbrev s108 (x : X) := x.1.2.1.1.2.1.1.1.1
abbrev s109 (x : X) := x.1.2.1.1.2.1.1.1.2
abbrev s110 (x : X) := x.1.2.1.1.2.1.1.2
abbrev s111 (x : X) := x.1.2.1.1.2.1.2.1.1
abbrev s112 (x : X) := x.1.2.1.1.2.1.2.1.2
abbrev s113 (x : X) := x.1.2.1.1.2.1.2.2
abbrev s114 (x : X) := x.1.2.1.1.2.2.1.1.1
abbrev s115 (x : X) := x.1.2.1.1.2.2.1.1.2
abbrev s116 (x : X) := x.1.2.1.1.2.2.1.2
abbrev s117 (x : X) := x.1.2.1.1.2.2.2.1.1
abbrev s118 (x : X) := x.1.2.1.1.2.2.2.1.2
abbrev s119 (x : X) := x.1.2.1.1.2.2.2.2
abbrev s120 (x : X) := x.1.2.1.2.1.1.1.1
abbrev s121 (x : X) := x.1.2.1.2.1.1.1.2
abbrev s122 (x : X) := x.1.2.1.2.1.1.2.1
abbrev s123 (x : X) := x.1.2.1.2.1.1.2.2
abbrev s124 (x : X) := x.1.2.1.2.1.2.1.1
abbrev s125 (x : X) := x.1.2.1.2.1.2.1.2
abbrev s126 (x : X) := x.1.2.1.2.1.2.2.1
abbrev s127 (x : X) := x.1.2.1.2.1.2.2.2
abbrev s128 (x : X) := x.1.2.1.2.2.1.1.1
abbrev s129 (x : X) := x.1.2.1.2.2.1.1.2
abbrev s130 (x : X) := x.1.2.1.2.2.1.2.1
abbrev s131 (x : X) := x.1.2.1.2.2.1.2.2
abbrev s132 (x : X) := x.1.2.1.2.2.2.1.1
abbrev s133 (x : X) := x.1.2.1.2.2.2.1.2
abbrev s134 (x : X) := x.1.2.1.2.2.2.2
abbrev l0 (x : X) := x.1.2.2.1.1.1.1.1.1
abbrev l1 (x : X) := x.1.2.2.1.1.1.1.1.2
abbrev l2 (x : X) := x.1.2.2.1.1.1.1.2
abbrev l3 (x : X) := x.1.2.2.1.1.1.2.1.1
abbrev l4 (x : X) := x.1.2.2.1.1.1.2.1.2
abbrev l5 (x : X) := x.1.2.2.1.1.1.2.2
abbrev l6 (x : X) := x.1.2.2.1.1.2.1.1.1
abbrev l7 (x : X) := x.1.2.2.1.1.2.1.1.2
abbrev l8 (x : X) := x.1.2.2.1.1.2.1.2
abbrev l9 (x : X) := x.1.2.2.1.1.2.2.1
abbrev l10 (x : X) := x.1.2.2.1.1.2.2.2
abbrev l11 (x : X) := x.1.2.2.1.2.1.1.1.1
abbrev l12 (x : X) := x.1.2.2.1.2.1.1.1.2
abbrev l13 (x : X) := x.1.2.2.1.2.1.1.2
abbrev l14 (x : X) := x.1.2.2.1.2.1.2.1
abbrev l15 (x : X) := x.1.2.2.1.2.1.2.2
abbrev l16 (x : X) := x.1.2.2.1.2.2.1.1.1
abbrev l17 (x : X) := x.1.2.2.1.2.2.1.1.2
abbrev l18 (x : X) := x.1.2.2.1.2.2.1.2
abbrev l19 (x : X) := x.1.2.2.1.2.2.2.1
abbrev l20 (x : X) := x.1.2.2.1.2.2.2.2
abbrev b0 (x : X) := PySem.W.boot_o_0 x.2
abbrev b1 (x : X) := PySem.W.boot_o_1 x.2
abbrev b2 (x : X) := PySem.W.boot_o_2 x.2
abbrev b3 (x : X) := PySem.W.boot_o_3 x.2
abbrev b4 (x : X) := PySem.W.boot_o_4 x.2
abbrev b5 (x : X) := PySem.W.boot_o_5 x.2
abbrev b6 (x : X) := PySem.W.boot_o_6 x.2
abbrev b7 (x : X) := PySem.W.boot_o_7 x.2
abbrev b8 (x : X) := PySem.W.boot_o_8 x.2
abbrev b9 (x : X) := PySem.W.boot_o_9 x.2
abbrev b10 (x : X) := PySem.W.boot_o_10 x.2
abbrev pg (x : X) : PySem.Program := x.1.2.2.2
def nth : List PySem.Stmt->Nat->PySem.Stmt := fun l => @List.rec PySem.Stmt (fun _ => Nat->PySem.Stmt) (fun _ => .Pass ⟨0, 0, 0, 0⟩) (fun a _ ih n => @Nat.rec (fun _ => PySem.Stmt) a (fun m _ => ih m) n) l
abbrev st (x : X) (k : Nat) : PySem.Stmt := nth (pg x).main.body k
def cb : PySem.Stmt->List PySem.Stmt | .ClassDef _ _ _ y _ _ _ _ _ _ _ => y | _ => []
abbrev sm (x : X) (k m : Nat) : PySem.Stmt := nth (cb (st x k)) m
def f0 : PySem.Stmt->Str | .FunctionDef y _ _ _ _ _ _ _ _ _ => y | _ => default
def f1 : PySem.Stmt->Arguments | .FunctionDef _ y _ _ _ _ _ _ _ _ => y | _ => default
def f2 : PySem.Stmt->List Stmt | .FunctionDef _ _ y _ _ _ _ _ _ _ => y | _ => []
def f6 : PySem.Stmt->Scope | .FunctionDef _ _ _ _ _ _ y _ _ _ => y | _ => default
abbrev u0 := @PySem.Obj.mk
abbrev u1 := @PySem.Value.type
abbrev u2 := @Option.none.{0} (@Nat)
abbrev u3 := @PySem.Data.seq
abbrev u4 := @List.toArray.{0} (@PySem.Value)
abbrev u5 := @List.nil.{0} (@PySem.Value)
abbrev u6 := @List.toArray.{0} (@Option.{0} (@PySem.Value))
abbrev u7 := @List.nil.{0} (@Option.{0} (@PySem.Value))
abbrev u8 := @PySem.Value.none
abbrev u9 := @PySem.Data.fields
abbrev u10 := @List.cons.{0} (@PySem.Value)
abbrev u11 := @PySem.Value.str
abbrev u12 := @PySem.Value.int
abbrev u13 := @PySem.Value.ref
abbrev u14 := @PySem.Value.bool
abbrev u15 := @Bool.false
abbrev u16 := @PySem.Data.plain
abbrev u17 := @List.cons.{0} (@Option.{0} (@PySem.Value))
abbrev u18 := @Option.some.{0} (@PySem.Value)
abbrev u19 := @Option.none.{0} (@PySem.Value)
abbrev u20 := @PySem.Data.dict
abbrev u21 := @List.toArray.{0} (@PySem.DictEntry)
abbrev u22 := @List.cons.{0} (@PySem.DictEntry)
abbrev u23 := @PySem.DictEntry.mk
abbrev u24 := @PySem.PyData.keyHash
abbrev u25 := @PySem.Value.builtin
abbrev u26 := @List.nil.{0} (@PySem.DictEntry)
abbrev u27 := @PySem.Data.func
abbrev u28 := @PySem.FuncData.mk
abbrev u29 := @PySem.FuncBody.stmts
abbrev u30 := @List.nil.{0} (@Prod.{0, 0} (@PySem.Str) (@Nat))
abbrev u31 := @Bool.true
abbrev u32 := @PySem.Data.cls
abbrev u33 := @PySem.ClassData.mk
abbrev u34 := @List.nil.{0} (@PySem.Str)
abbrev u35 := @Option.none.{0} (@Bool)
abbrev u36 := @List.cons.{0} (@Prod.{0, 0} (@Nat) (@PySem.Obj))
abbrev u37 := @Prod.mk.{0, 0} (@Nat) (@PySem.Obj)
abbrev u38 := @List.nil.{0} (@Prod.{0, 0} (@Nat) (@PySem.Obj))
abbrev u39 := @PySem.Heap.mk
abbrev u40 := @Array.mk.{0} (@PySem.Obj)
abbrev u41 := @List.cons.{0} (@PySem.Obj)
abbrev u42 := @List.nil.{0} (@PySem.Obj)
abbrev u43 := @PySem.Life.mk
abbrev u44 := @List.nil.{0} (@Nat)
abbrev u45 := @List.nil.{0} (@Prod.{0, 0} (@Nat) (@Nat))
abbrev u46 := @List.toArray.{0} (@Nat)
abbrev u47 := @List.cons.{0} (@Int)
abbrev u48 := @List.nil.{0} (@Int)
abbrev u49 := @PySem.W.BT.node
abbrev u50 := @PySem.W.BT.nil
abbrev M (c : PySem.Value) (d : PySem.Data) : PySem.Obj := PySem.Obj.mk c none d #[]
abbrev E (x : X) (s : PySem.Str) (n : Nat) (v : PySem.Value) : PySem.DictEntry := ⟨PySem.PyData.keyHash x.2 s, .str s n, v⟩
abbrev N (o : X->PySem.Obj) (l r : X->PySem.W.BT) : X->PySem.W.BT := fun x => .node (o x) (l x) (r x)
abbrev Z : X->PySem.W.BT := fun _ => .nil
abbrev Q (o : X->PySem.Obj) (l : X->List PySem.Obj) : X->List PySem.Obj := fun x => o x :: l x
abbrev R : X->List PySem.Obj := fun _ => []
abbrev J (k : Nat) (o : X->PySem.Obj) (l : X->List (Nat × PySem.Obj)) : X->List (Nat × PySem.Obj) := fun x => (k, o x) :: l x
abbrev I : X->List (Nat × PySem.Obj) := fun _ => []
def k0 (x : X) : PySem.Obj := (M (u1 (l0 x)) (u3 (u4 u5) 0))
def k1 (x : X) (a0 : PySem.Str) (a1 a2 a3 : Nat) (a4 : Int) (a5 a6 : Nat) (a7 : Int) (a8 : Nat) : PySem.Obj := (M (u1 (l1 x)) (u9 (u4 [(u11 a0 a1), (u11 a0 a2), (u11 (s1 x) a3), (u12 a4 0), (u12 0 0), (u12 0 0), (u12 0 0), (u12 0 0), (u13 a5), (u14 u15), (u12 181 0), (u13 a6), u8, u8, u8, u8, (u12 a7 0), (u12 a4 0), (u11 (s1 x) a8)])))
def k2 (x : X) (a0 a1 : Nat) (a2 : PySem.Str) (a3 : Nat) : PySem.Obj := (u0 (u1 (l2 x)) u2 u16 (u6 [(u18 (u13 a0)), (u18 (u13 3)), (u18 (u13 a1)), u19, (u18 (u11 a2 a3)), u19, (u18 (u13 0))]))
def k3 (x : X) (a0 : PySem.Str) (a1 : Nat) : PySem.Obj := (M (u1 (l0 x)) (u3 (u4 [(u11 a0 a1)]) 0))
def k4 (x : X) (a0 : PySem.Str) (a1 : PySem.Stmt) : PySem.Obj := (M u8 (u27 (u28 a0 a0 (f1 a1) (u29 (f2 a1)) (f6 a1) 0 u30 u8 u8 u8 u8 u2 u8 u8 0)))
def k5 (x : X) (a0 : PySem.Str) (a1 : Nat) (a2 : PySem.Str) (a3 a4 : Nat) (a5 a6 : Int) (a7 a8 a9 a10 a11 : Nat) (a12 : Int) (a13 : Nat) : PySem.Obj := (M (u1 (l1 x)) (u9 (u4 [(u11 a0 a1), (u11 a2 a3), (u11 (s1 x) a4), (u12 a5 0), (u12 a6 0), (u12 0 0), (u12 0 0), (u12 3 0), (u13 a7), (u14 u31), (u12 181 0), (u13 a8), u8, (u13 a9), (u13 a10), (u13 a11), (u12 a12 0), (u12 a5 0), (u11 (s1 x) a13)])))
def k6 (x : X) (a0 : PySem.Str) (a1 : PySem.Stmt) (a2 : PySem.Str) (a3 a4 : Nat) : PySem.Obj := (M (u1 (l5 x)) (u27 (u28 a0 a0 (f1 a1) (u29 (f2 a1)) (f6 a1) 3 u30 u8 u8 u8 (u11 a2 a3) u2 (u13 a4) u8 0)))
def k7 (x : X) : PySem.Obj := (M (u1 (l7 x)) (u9 (u4 [(u25 (l8 x)), (u1 (l9 x))])))
def k8 (x : X) (a0 a1 : Nat) (a2 : Int) (a3 : Nat) (a4 : PySem.Str) (a5 a6 : Nat) (a7 : PySem.Str) (a8 a9 a10 a11 : Nat) : PySem.Obj := (M (u1 (l3 x)) (u20 (u21 [(E x (s16 x) a0 (u11 (s4 x) 194)), (E x (s18 x) a1 (u12 a2 a3)), (E x a4 a5 (u13 a6)), (E x a7 a8 (u13 a9)), (E x (s5 x) a10 u8)]) a11))
def k9 (x : X) (a0 a1 : Nat) : PySem.Obj := (M (u1 (l14 x)) (u9 (u4 [(u11 (s20 x) a0), (u13 a1), (u25 (l15 x)), u8])))
def k10 (x : X) (a0 : Nat) : PySem.Obj := (M (u1 (l16 x)) (u9 (u4 [(u13 a0), (u13 a0), (u13 a0)])))
def k11 (x : X) (a0 : Nat) : PySem.Obj := (M (u1 (l7 x)) (u9 (u4 [(u25 (l17 x)), (u13 a0)])))
def k12 (x : X) (a0 : Nat) : PySem.Obj := (M (u1 (l0 x)) (u3 (u4 [(u13 a0)]) 0))
def k13 (x : X) (a0 : PySem.Str) (a1 : Nat) (a2 : PySem.Str) (a3 : Nat) : PySem.Obj := (M (u1 (l0 x)) (u3 (u4 [(u11 a0 a1), (u11 a2 a3)]) 0))
def k14 (x : X) (a0 a1 : PySem.Str) (a2 a3 : PySem.Stmt) : PySem.Obj := (M u8 (u27 (u28 a0 a1 (f1 a2) (u29 (f2 a2)) (f6 a3) 0 u30 u8 u8 u8 u8 u2 u8 u8 0)))
def k15 (x : X) (a0 a1 : PySem.Str) (a2 a3 : PySem.Stmt) (a4 : PySem.Str) (a5 a6 : Nat) : PySem.Obj := (M (u1 (l5 x)) (u27 (u28 a0 a1 (f1 a2) (u29 (f2 a2)) (f6 a3) 3 u30 u8 u8 u8 (u11 a4 a5) u2 (u13 a6) u8 0)))
def k16 (x : X) (a0 : PySem.Str) (a1 : Nat) (a2 : PySem.Str) (a3 : Nat) (a4 : PySem.Str) (a5 : Nat) : PySem.Obj := (M (u1 (l0 x)) (u3 (u4 [(u11 a0 a1), (u11 a2 a3), (u11 a4 a5)]) 0))
def k17 (x : X) (a0 : PySem.Str) (a1 : Nat) (a2 : PySem.Str) (a3 : Nat) (a4 : PySem.Str) (a5 : Nat) (a6 : PySem.Str) (a7 : Nat) (a8 : PySem.Str) (a9 : Nat) : PySem.Obj := (M (u1 (l0 x)) (u3 (u4 [(u11 a0 a1), (u11 a2 a3), (u11 a4 a5), (u11 a6 a7), (u11 a8 a9)]) 0))
def k18 (x : X) (a0 : PySem.Str) (a1 : Nat) (a2 : PySem.Str) (a3 : Nat) (a4 : PySem.Str) (a5 : Nat) (a6 : PySem.Str) (a7 : Nat) (a8 : PySem.Str) (a9 : Nat) (a10 : PySem.Str) (a11 : Nat) (a12 : PySem.Str) (a13 : Nat) (a14 : PySem.Str) (a15 : Nat) (a16 : PySem.Str) (a17 : Nat) (a18 : PySem.Str) (a19 : Nat) : PySem.Obj := (M (u1 (l0 x)) (u3 (u4 [(u11 a0 a1), (u11 a2 a3), (u11 a4 a5), (u11 a6 a7), (u11 a8 a9), (u11 a10 a11), (u11 a12 a13), (u11 a14 a15), (u11 a16 a17), (u11 a18 a19)]) 0))
variable (x : X)
def o43 := k0 x 
def o44 (x : X) : Obj := (M u8 (u9 (u4 u5)))
def o45 := k1 x (s0 x) 182 183 184 1 11 12 185 186
def o46 := k2 x 13 3 (s2 x) 164
def o49 := (M (u1 (l3 x)) (u20 (u21 [(E x (s3 x) 165 (u11 (s4 x) 194)), (E x (s5 x) 166 u8), (E x (s6 x) 167 u8), (E x (s7 x) 168 (u25 (l4 x))), (E x (s8 x) 169 u8), (E x (s9 x) 170 (u13 6)), (E x (s10 x) 171 (u13 4)), (E x (s11 x) 173 (u11 (s1 x) 172)), (E x (s12 x) 174 u8), (E x (s13 x) 193 (u13 21)), (E x (s14 x) 213 (u13 31))]) 11))
def o50 (x : X) : Obj := (M u8 (u9 (u4 [(u12 1 0), (u12 0 0), (u13 20), (u12 5 0), (u12 0 0), (u13 27)])))
def o51 := k0 x 
def o52 (x : X) : Obj := (M u8 (u9 (u4 u5)))
def o53 := k3 x (s15 x) 190
def o54 := k0 x 
def o55 := k4 x (s13 x) (st x 0)
def o56 := k5 x (s13 x) 187 (s13 x) 188 189 1 1 15 16 17 18 19 191 192
def o57 := k6 x (s13 x) (st x 0) (s2 x) 164 20
def o58 := (M (u1 (l0 x)) (u3 (u4 [(u1 (l6 x))]) 0))
def o59 := k7 x 
def o60 := (M (u1 (l3 x)) (u20 (u21 [(E x (s16 x) 203 (u11 (s4 x) 194)), (E x (s17 x) 205 (u11 (s14 x) 204)), (E x (s18 x) 207 (u12 5 206)), (E x (s19 x) 208 (u13 29))]) 4))
def o61 := k0 x 
def o62 (x : X) : Obj := (M u8 (u9 (u4 u5)))
def o63 := k1 x (s14 x) 198 199 200 5 25 26 201 202
def o64 := k2 x 27 24 (s4 x) 194
def o65 := k0 x 
def o66 := k8 x 203 207 5 206 (s19 x) 208 29 (s20 x) 210 32 211 3
def o67 := (u0 (u1 (l9 x)) u2 (u32 (u33 (s14 x) [(u1 (l6 x))] [(u13 31), (u1 (l6 x)), (u1 (l10 x)), (u1 (l11 x)), (u1 (l12 x))] 30 (s14 x) u31 u34 u5 u15 u35 u15)) (u6 [(u18 (u13 22)), u19, (u18 (u11 (s14 x) 196)), (u18 (u11 (s14 x) 204)), (u18 (u25 (l13 x))), (u18 (u14 u31))]))
def o68 := k9 x 209 31
def o69 := k10 x 31
def o70 := k11 x 31
def o71 := (M (u1 (l3 x)) (u20 (u21 [(E x (s3 x) 165 (u11 (s4 x) 194)), (E x (s5 x) 166 u8), (E x (s6 x) 167 u8), (E x (s7 x) 168 (u25 (l4 x))), (E x (s8 x) 169 u8), (E x (s9 x) 170 (u13 6)), (E x (s10 x) 171 (u13 4)), (E x (s11 x) 173 (u11 (s1 x) 172)), (E x (s12 x) 174 u8), (E x (s13 x) 193 (u13 21)), (E x (s14 x) 213 (u13 31)), (E x (s21 x) 238 (u13 51))]) 12))
def o72 (x : X) : Obj := (M u8 (u9 (u4 [(u12 1 0), (u12 0 0), (u13 20), (u12 5 0), (u12 0 0), (u13 27), (u12 7 0), (u12 0 0), (u13 40)])))
def o73 := (u0 (u1 (l9 x)) u2 (u32 (u33 (s14 x) [(u1 (l6 x))] [(u13 31), (u1 (l6 x)), (u1 (l10 x)), (u1 (l11 x)), (u1 (l12 x))] 30 (s14 x) u31 u34 [(u13 51)] u15 u35 u15)) (u6 [(u18 (u13 22)), u19, (u18 (u11 (s14 x) 196)), (u18 (u11 (s14 x) 204)), (u18 (u25 (l13 x))), (u18 (u14 u31))]))
def o74 := k12 x 31
def o75 := k7 x 
def o76 := (M (u1 (l3 x)) (u20 (u21 [(E x (s16 x) 221 (u11 (s4 x) 194)), (E x (s17 x) 223 (u11 (s21 x) 222)), (E x (s18 x) 225 (u12 7 224)), (E x (s22 x) 233 (u13 48)), (E x (s19 x) 235 (u13 49))]) 5))
def o77 := k0 x 
def o78 (x : X) : Obj := (M u8 (u9 (u4 [(u12 9 0), (u12 4 0), (u13 47)])))
def o79 := k1 x (s21 x) 216 217 218 7 38 39 219 220
def o80 := k2 x 40 37 (s4 x) 194
def o81 := k0 x 
def o82 (x : X) : Obj := (M u8 (u9 (u4 u5)))
def o83 := k13 x (s23 x) 229 (s24 x) 230
def o84 := k0 x 
def o85 := k14 x (s22 x) (s25 x) (sm x 3 0) (sm x 3 0)
def o86 := k5 x (s22 x) 226 (s25 x) 227 228 9 2 42 43 44 45 46 231 232
def o87 := k15 x (s22 x) (s25 x) (sm x 3 0) (sm x 3 0) (s4 x) 194 47
def o88 := k3 x (s24 x) 234
def o89 := k8 x 221 225 7 224 (s22 x) 233 48 (s19 x) 235 49 236 2
def o90 := (u0 (u1 (l9 x)) u2 (u32 (u33 (s21 x) [(u13 31)] [(u13 51), (u13 31), (u1 (l6 x)), (u1 (l10 x)), (u1 (l11 x)), (u1 (l12 x))] 50 (s21 x) u31 u34 u5 u15 u35 u15)) (u6 [(u18 (u13 35)), u19, (u18 (u11 (s21 x) 214)), (u18 (u11 (s21 x) 222)), (u18 (u25 (l13 x))), (u18 (u14 u31))]))
def o91 := k10 x 51
def o92 := k11 x 51
def o93 := (M (u1 (l3 x)) (u20 (u21 [(E x (s3 x) 165 (u11 (s26 x) 290)), (E x (s5 x) 166 u8), (E x (s6 x) 167 u8), (E x (s7 x) 168 (u25 (l4 x))), (E x (s8 x) 169 u8), (E x (s9 x) 170 (u13 6)), (E x (s10 x) 171 (u13 4)), (E x (s11 x) 173 (u11 (s1 x) 172)), (E x (s12 x) 174 u8), (E x (s13 x) 193 (u13 21)), (E x (s14 x) 213 (u13 31)), (E x (s21 x) 238 (u13 51)), (E x (s27 x) 263 (u13 70)), (E x (s28 x) 276 (u13 79)), (E x (s29 x) 287 (u13 86)), (E x (s30 x) 289 (u12 18446744073709551615 288)), (E x (s31 x) 298 (u13 93))]) 17))
def o94 (x : X) : Obj := (M u8 (u9 (u4 [(u12 1 0), (u12 0 0), (u13 20), (u12 5 0), (u12 0 0), (u13 27), (u12 7 0), (u12 0 0), (u13 40), (u12 11 0), (u12 0 0), (u13 59), (u12 16 0), (u12 0 0), (u13 78), (u12 21 0), (u12 0 0), (u13 85), (u12 29 0), (u12 0 0), (u13 92)])))
def o95 := (u0 (u1 (l9 x)) u2 (u32 (u33 (s14 x) [(u1 (l6 x))] [(u13 31), (u1 (l6 x)), (u1 (l10 x)), (u1 (l11 x)), (u1 (l12 x))] 30 (s14 x) u31 u34 [(u13 51), (u13 70)] u15 u35 u15)) (u6 [(u18 (u13 22)), u19, (u18 (u11 (s14 x) 196)), (u18 (u11 (s14 x) 204)), (u18 (u25 (l13 x))), (u18 (u14 u31))]))
def o96 := k12 x 31
def o97 := k7 x 
def o98 := (M (u1 (l3 x)) (u20 (u21 [(E x (s16 x) 246 (u11 (s4 x) 194)), (E x (s17 x) 248 (u11 (s27 x) 247)), (E x (s18 x) 250 (u12 11 249)), (E x (s22 x) 258 (u13 67)), (E x (s19 x) 260 (u13 68))]) 5))
def o99 := k0 x 
def o100 (x : X) : Obj := (M u8 (u9 (u4 [(u12 13 0), (u12 4 0), (u13 66)])))
def o101 := k1 x (s27 x) 241 242 243 11 57 58 244 245
def o102 := k2 x 59 56 (s4 x) 194
def o103 := k0 x 
def o104 (x : X) : Obj := (M u8 (u9 (u4 u5)))
def o105 := k13 x (s23 x) 254 (s32 x) 255
def o106 := k0 x 
def o107 := k14 x (s22 x) (s33 x) (sm x 4 0) (sm x 4 0)
def o108 := k5 x (s22 x) 251 (s33 x) 252 253 13 2 61 62 63 64 65 256 257
def o109 := k15 x (s22 x) (s33 x) (sm x 4 0) (sm x 4 0) (s4 x) 194 66
def o110 := k3 x (s32 x) 259
def o111 := k8 x 246 250 11 249 (s22 x) 258 67 (s19 x) 260 68 261 2
def o112 := (u0 (u1 (l9 x)) u2 (u32 (u33 (s27 x) [(u13 31)] [(u13 70), (u13 31), (u1 (l6 x)), (u1 (l10 x)), (u1 (l11 x)), (u1 (l12 x))] 69 (s27 x) u31 u34 u5 u15 u35 u15)) (u6 [(u18 (u13 54)), u19, (u18 (u11 (s27 x) 239)), (u18 (u11 (s27 x) 247)), (u18 (u25 (l13 x))), (u18 (u14 u31))]))
def o113 := k10 x 70
def o114 := k11 x 70
def o115 := k0 x 
def o116 (x : X) : Obj := (M u8 (u9 (u4 u5)))
def o117 := k16 x (s34 x) 269 (s35 x) 270 (s36 x) 271
def o118 := k13 x (s34 x) 272 (s35 x) 273
def o119 := k4 x (s28 x) (st x 6)
def o120 := k5 x (s28 x) 266 (s28 x) 267 268 16 2 73 74 75 76 77 274 275
def o121 := k6 x (s28 x) (st x 6) (s37 x) 264 78
def o122 := k0 x 
def o123 (x : X) : Obj := (M u8 (u9 (u4 u5)))
def o124 := k17 x (s38 x) 280 (s36 x) 281 (s39 x) 282 (s32 x) 283 (s40 x) 284
def o125 := k0 x 
def o126 := k4 x (s29 x) (st x 7)
def o127 := k5 x (s29 x) 277 (s29 x) 278 279 21 2 80 81 82 83 84 285 286
def o128 := k6 x (s29 x) (st x 7) (s37 x) 264 85
def o129 := k0 x 
def o130 (x : X) : Obj := (M u8 (u9 (u4 u5)))
def o131 := k3 x (s32 x) 295
def o132 := k0 x 
def o133 := k4 x (s31 x) (st x 10)
def o134 := k5 x (s31 x) 292 (s31 x) 293 294 29 1 87 88 89 90 91 296 297
def o135 := k6 x (s31 x) (st x 10) (s26 x) 290 92
def o136 := (M (u1 (l3 x)) (u20 (u21 [(E x (s3 x) 165 (u11 (s41 x) 313)), (E x (s5 x) 166 u8), (E x (s6 x) 167 u8), (E x (s7 x) 168 (u25 (l4 x))), (E x (s8 x) 169 u8), (E x (s9 x) 170 (u13 6)), (E x (s10 x) 171 (u13 4)), (E x (s11 x) 173 (u11 (s1 x) 172)), (E x (s12 x) 174 u8), (E x (s13 x) 193 (u13 21)), (E x (s14 x) 213 (u13 31)), (E x (s21 x) 238 (u13 51)), (E x (s27 x) 263 (u13 70)), (E x (s28 x) 276 (u13 79)), (E x (s29 x) 287 (u13 86)), (E x (s30 x) 289 (u12 18446744073709551615 288)), (E x (s31 x) 298 (u13 93)), (E x (s42 x) 312 (u13 100)), (E x (s43 x) 369 (u13 136))]) 19))
def o137 (x : X) : Obj := (M u8 (u9 (u4 [(u12 1 0), (u12 0 0), (u13 20), (u12 5 0), (u12 0 0), (u13 27), (u12 7 0), (u12 0 0), (u13 40), (u12 11 0), (u12 0 0), (u13 59), (u12 16 0), (u12 0 0), (u13 78), (u12 21 0), (u12 0 0), (u13 85), (u12 29 0), (u12 0 0), (u13 92), (u12 31 0), (u12 0 0), (u13 99), (u12 40 0), (u12 0 0), (u13 106)])))
def o138 := k0 x 
def o139 (x : X) : Obj := (M u8 (u9 (u4 u5)))
def o140 := (M (u1 (l0 x)) (u3 (u4 [(u11 (s44 x) 302), (u11 (s45 x) 303), (u11 (s46 x) 304), (u11 (s47 x) 305), (u11 (s24 x) 306), (u11 (s48 x) 307), (u11 (s49 x) 308), (u11 (s32 x) 309)]) 0))
def o141 := k0 x 
def o142 := k4 x (s42 x) (st x 11)
def o143 := k5 x (s42 x) 299 (s42 x) 300 301 31 3 94 95 96 97 98 310 311
def o144 := k6 x (s42 x) (st x 11) (s26 x) 290 99
def o145 := k0 x 
def o146 := k7 x 
def o147 := (M (u1 (l3 x)) (u20 (u21 [(E x (s16 x) 322 (u11 (s41 x) 313)), (E x (s17 x) 324 (u11 (s43 x) 323)), (E x (s18 x) 326 (u12 40 325)), (E x (s22 x) 332 (u13 112)), (E x (s50 x) 339 (u13 119)), (E x (s51 x) 346 (u13 126)), (E x (s52 x) 357 (u13 133)), (E x (s19 x) 362 (u13 134))]) 8))
def o148 := k0 x 
def o149 (x : X) : Obj := (M u8 (u9 (u4 [(u12 42 0), (u12 4 0), (u13 111), (u12 49 0), (u12 4 0), (u13 118), (u12 52 0), (u12 4 0), (u13 125), (u12 55 0), (u12 4 0), (u13 132)])))
def o150 := k1 x (s43 x) 317 318 319 40 104 105 320 321
def o151 := k2 x 106 103 (s41 x) 313
def o152 := k0 x 
def o153 (x : X) : Obj := (M u8 (u9 (u4 u5)))
def o154 := k14 x (s22 x) (s53 x) (sm x 13 0) (sm x 13 0)
def o155 := (M (u1 (l1 x)) (u9 (u4 [(u11 (s22 x) 327), (u11 (s53 x) 328), (u11 (s1 x) 329), (u12 42 0), (u12 5 0), (u12 0 0), (u12 0 0), (u12 3 0), (u13 108), (u14 u31), (u12 181 0), (u13 109), u8, u8, u8, (u13 110), (u12 330 0), (u12 42 0), (u11 (s1 x) 331)])))
def o156 := k15 x (s22 x) (s53 x) (sm x 13 0) (sm x 13 0) (s41 x) 313 111
def o157 := k0 x 
def o158 (x : X) : Obj := (M u8 (u9 (u4 u5)))
def o159 := k3 x (s23 x) 336
def o160 := k0 x 
def o161 := k14 x (s50 x) (s54 x) (sm x 13 1) (sm x 13 1)
def o162 := k5 x (s50 x) 333 (s54 x) 334 335 49 1 113 114 115 116 117 337 338
def o163 := k15 x (s50 x) (s54 x) (sm x 13 1) (sm x 13 1) (s41 x) 313 118
def o164 := k0 x 
def o165 (x : X) : Obj := (M u8 (u9 (u4 u5)))
def o166 := k3 x (s23 x) 343
def o167 := k0 x 
def o168 := k14 x (s51 x) (s55 x) (sm x 13 2) (sm x 13 2)
def o169 := k5 x (s51 x) 340 (s55 x) 341 342 52 1 120 121 122 123 124 344 345
def o170 := k15 x (s51 x) (s55 x) (sm x 13 2) (sm x 13 2) (s41 x) 313 125
def o171 := k0 x 
def o172 (x : X) : Obj := (M u8 (u9 (u4 u5)))
def o173 := k17 x (s23 x) 350 (s56 x) 351 (s57 x) 352 (s46 x) 353 (s58 x) 354
def o174 := k0 x 
def o175 := k14 x (s52 x) (s59 x) (sm x 13 3) (sm x 13 3)
def o176 := k5 x (s52 x) 347 (s59 x) 348 349 55 3 127 128 129 130 131 355 356
def o177 := k15 x (s52 x) (s59 x) (sm x 13 3) (sm x 13 3) (s41 x) 313 132
def o178 := (M (u1 (l0 x)) (u3 (u4 [(u11 (s49 x) 358), (u11 (s45 x) 359), (u11 (s60 x) 360), (u11 (s46 x) 361)]) 0))
def o179 := (M (u1 (l3 x)) (u20 (u21 [(E x (s16 x) 322 (u11 (s41 x) 313)), (E x (s18 x) 326 (u12 40 325)), (E x (s22 x) 332 (u13 112)), (E x (s50 x) 339 (u13 119)), (E x (s51 x) 346 (u13 126)), (E x (s52 x) 357 (u13 133)), (E x (s19 x) 362 (u13 134)), (E x (s61 x) 364 (u13 137)), (E x (s20 x) 366 (u13 138)), (E x (s5 x) 367 u8)]) 4))
def o180 := (u0 (u1 (l9 x)) u2 (u32 (u33 (s43 x) [(u1 (l12 x))] [(u13 136), (u1 (l12 x))] 135 (s43 x) u31 u34 u5 u15 u35 u15)) (u6 [u19, u19, (u18 (u11 (s43 x) 315)), (u18 (u11 (s43 x) 323)), (u18 (u25 (l18 x))), (u18 (u14 u31))]))
def o181 := (M (u1 (l14 x)) (u9 (u4 [(u11 (s61 x) 363), (u13 136), (u25 (l19 x)), (u25 (l20 x))])))
def o182 := k9 x 365 136
def o183 := k10 x 136
def o184 := k11 x 136
def o185 := (M (u1 (l3 x)) (u20 (u21 [(E x (s3 x) 165 (u11 (s41 x) 313)), (E x (s5 x) 166 u8), (E x (s6 x) 167 u8), (E x (s7 x) 168 (u25 (l4 x))), (E x (s8 x) 169 u8), (E x (s9 x) 170 (u13 6)), (E x (s10 x) 171 (u13 4)), (E x (s11 x) 173 (u11 (s1 x) 172)), (E x (s12 x) 174 u8), (E x (s13 x) 193 (u13 21)), (E x (s14 x) 213 (u13 31)), (E x (s21 x) 238 (u13 51)), (E x (s27 x) 263 (u13 70)), (E x (s28 x) 276 (u13 79)), (E x (s29 x) 287 (u13 86)), (E x (s30 x) 289 (u12 18446744073709551615 288)), (E x (s31 x) 298 (u13 93)), (E x (s42 x) 312 (u13 100)), (E x (s43 x) 369 (u13 136)), (E x (s62 x) 425 (u13 186))]) 20))
def o186 (x : X) : Obj := (M u8 (u9 (u4 [(u12 1 0), (u12 0 0), (u13 20), (u12 5 0), (u12 0 0), (u13 27), (u12 7 0), (u12 0 0), (u13 40), (u12 11 0), (u12 0 0), (u13 59), (u12 16 0), (u12 0 0), (u13 78), (u12 21 0), (u12 0 0), (u13 85), (u12 29 0), (u12 0 0), (u13 92), (u12 31 0), (u12 0 0), (u13 99), (u12 40 0), (u12 0 0), (u13 106), (u12 62 0), (u12 0 0), (u13 146)])))
def o187 := (u0 (u1 (l9 x)) u2 (u32 (u33 (s43 x) [(u1 (l12 x))] [(u13 136), (u1 (l12 x))] 135 (s43 x) u31 u34 [(u13 186)] u15 u35 u15)) (u6 [u19, u19, (u18 (u11 (s43 x) 315)), (u18 (u11 (s43 x) 323)), (u18 (u25 (l18 x))), (u18 (u14 u31))]))
def o188 := k12 x 136
def o189 := k7 x 
def o190 := (M (u1 (l3 x)) (u20 (u21 [(E x (s16 x) 377 (u11 (s41 x) 313)), (E x (s17 x) 379 (u11 (s62 x) 378)), (E x (s18 x) 381 (u12 62 380)), (E x (s22 x) 391 (u13 155)), (E x (s44 x) 398 (u13 162)), (E x (s63 x) 405 (u13 169)), (E x (s64 x) 413 (u13 176)), (E x (s65 x) 421 (u13 183)), (E x (s19 x) 422 (u13 184))]) 9))
def o191 := k0 x 
def o192 (x : X) : Obj := (M u8 (u9 (u4 [(u12 64 0), (u12 4 0), (u13 154), (u12 67 0), (u12 4 0), (u13 161), (u12 70 0), (u12 4 0), (u13 168), (u12 73 0), (u12 4 0), (u13 175), (u12 76 0), (u12 4 0), (u13 182)])))
def o193 := k1 x (s62 x) 372 373 374 62 144 145 375 376
def o194 := k2 x 146 143 (s41 x) 313
def o195 := (M (u1 (l0 x)) (u3 (u4 [u8]) 0))
def o196 := k0 x 
def o197 (x : X) : Obj := (M u8 (u9 (u4 u5)))
def o198 := (M (u1 (l0 x)) (u3 (u4 [(u11 (s23 x) 385), (u11 (s45 x) 386), (u11 (s46 x) 387), (u11 (s49 x) 388)]) 0))
def o199 := k0 x 
def o200 := k14 x (s22 x) (s66 x) (sm x 14 0) (sm x 14 0)
def o201 := k5 x (s22 x) 382 (s66 x) 383 384 64 4 149 150 151 152 153 389 390
def o202 := (M (u1 (l5 x)) (u27 (u28 (s22 x) (s66 x) (f1 (sm x 14 0)) (u29 (f2 (sm x 14 0))) (f6 (sm x 14 0)) 3 u30 (u13 148) u8 u8 (u11 (s41 x) 313) u2 (u13 154) u8 0)))
def o203 := k0 x 
def o204 (x : X) : Obj := (M u8 (u9 (u4 u5)))
def o205 := k3 x (s23 x) 395
def o206 := k0 x 
def o207 := k14 x (s44 x) (s67 x) (sm x 14 1) (sm x 13 2)
def o208 := k5 x (s44 x) 392 (s67 x) 393 394 67 1 156 157 158 159 160 396 397
def o209 := k15 x (s44 x) (s67 x) (sm x 14 1) (sm x 13 2) (s41 x) 313 161
def o210 := k0 x 
def o211 (x : X) : Obj := (M u8 (u9 (u4 u5)))
def o212 := k3 x (s23 x) 402
def o213 := k0 x 
def o214 := k14 x (s63 x) (s68 x) (sm x 14 2) (sm x 14 2)
def o215 := k5 x (s63 x) 399 (s68 x) 400 401 70 1 163 164 165 166 167 403 404
def o216 := k15 x (s63 x) (s68 x) (sm x 14 2) (sm x 14 2) (s41 x) 313 168
def o217 := k0 x 
def o218 (x : X) : Obj := (M u8 (u9 (u4 u5)))
def o219 := k13 x (s23 x) 409 (s69 x) 410
def o220 := k0 x 
def o221 := k14 x (s64 x) (s70 x) (sm x 14 3) (sm x 14 3)
def o222 := k5 x (s64 x) 406 (s70 x) 407 408 73 2 170 171 172 173 174 411 412
def o223 := k15 x (s64 x) (s70 x) (sm x 14 3) (sm x 14 3) (s41 x) 313 175
def o224 := k0 x 
def o225 (x : X) : Obj := (M u8 (u9 (u4 u5)))
def o226 := k13 x (s23 x) 417 (s46 x) 418
def o227 := k0 x 
def o228 := k14 x (s65 x) (s71 x) (sm x 14 4) (sm x 14 4)
def o229 := k5 x (s65 x) 414 (s71 x) 415 416 76 2 177 178 179 180 181 419 420
def o230 := k15 x (s65 x) (s71 x) (sm x 14 4) (sm x 14 4) (s41 x) 313 182
def o231 := k0 x 
def o232 := (M (u1 (l3 x)) (u20 (u21 [(E x (s16 x) 377 (u11 (s41 x) 313)), (E x (s18 x) 381 (u12 62 380)), (E x (s22 x) 391 (u13 155)), (E x (s44 x) 398 (u13 162)), (E x (s63 x) 405 (u13 169)), (E x (s64 x) 413 (u13 176)), (E x (s65 x) 421 (u13 183)), (E x (s19 x) 422 (u13 184)), (E x (s5 x) 423 u8)]) 2))
def o233 := (u0 (u1 (l9 x)) u2 (u32 (u33 (s62 x) [(u13 136)] [(u13 186), (u13 136), (u1 (l12 x))] 185 (s62 x) u31 u34 u5 u15 u35 u15)) (u6 [(u18 (u13 141)), u19, (u18 (u11 (s62 x) 370)), (u18 (u11 (s62 x) 378)), (u18 (u25 (l18 x))), (u18 (u14 u31))]))
def o234 := k10 x 186
def o235 := k11 x 186
def o236 := (M (u1 (l3 x)) (u20 (u21 [(E x (s3 x) 165 (u11 (s72 x) 484)), (E x (s5 x) 166 u8), (E x (s6 x) 167 u8), (E x (s7 x) 168 (u25 (l4 x))), (E x (s8 x) 169 u8), (E x (s9 x) 170 (u13 6)), (E x (s10 x) 171 (u13 4)), (E x (s11 x) 173 (u11 (s1 x) 172)), (E x (s12 x) 174 u8), (E x (s13 x) 193 (u13 21)), (E x (s14 x) 213 (u13 31)), (E x (s21 x) 238 (u13 51)), (E x (s27 x) 263 (u13 70)), (E x (s28 x) 276 (u13 79)), (E x (s29 x) 287 (u13 86)), (E x (s30 x) 289 (u12 18446744073709551615 288)), (E x (s31 x) 298 (u13 93)), (E x (s42 x) 312 (u13 100)), (E x (s43 x) 369 (u13 136)), (E x (s62 x) 425 (u13 186)), (E x (s73 x) 483 (u13 234))]) 21))
def o237 (x : X) : Obj := (M u8 (u9 (u4 [(u12 1 0), (u12 0 0), (u13 20), (u12 5 0), (u12 0 0), (u13 27), (u12 7 0), (u12 0 0), (u13 40), (u12 11 0), (u12 0 0), (u13 59), (u12 16 0), (u12 0 0), (u13 78), (u12 21 0), (u12 0 0), (u13 85), (u12 29 0), (u12 0 0), (u13 92), (u12 31 0), (u12 0 0), (u13 99), (u12 40 0), (u12 0 0), (u13 106), (u12 62 0), (u12 0 0), (u13 146), (u12 78 0), (u12 0 0), (u13 194)])))
def o238 := (u0 (u1 (l9 x)) u2 (u32 (u33 (s43 x) [(u1 (l12 x))] [(u13 136), (u1 (l12 x))] 135 (s43 x) u31 u34 [(u13 186), (u13 234)] u15 u35 u15)) (u6 [u19, u19, (u18 (u11 (s43 x) 315)), (u18 (u11 (s43 x) 323)), (u18 (u25 (l18 x))), (u18 (u14 u31))]))
def o239 := k12 x 136
def o240 := k7 x 
def o241 := (M (u1 (l3 x)) (u20 (u21 [(E x (s16 x) 433 (u11 (s41 x) 313)), (E x (s17 x) 435 (u11 (s73 x) 434)), (E x (s18 x) 437 (u12 78 436)), (E x (s22 x) 448 (u13 203)), (E x (s44 x) 455 (u13 210)), (E x (s63 x) 462 (u13 217)), (E x (s64 x) 470 (u13 224)), (E x (s65 x) 478 (u13 231)), (E x (s19 x) 480 (u13 232))]) 9))
def o242 := k0 x 
def o243 (x : X) : Obj := (M u8 (u9 (u4 [(u12 80 0), (u12 4 0), (u13 202), (u12 84 0), (u12 4 0), (u13 209), (u12 87 0), (u12 4 0), (u13 216), (u12 90 0), (u12 4 0), (u13 223), (u12 93 0), (u12 4 0), (u13 230)])))
def o244 := k1 x (s73 x) 428 429 430 78 192 193 431 432
def o245 := k2 x 194 191 (s41 x) 313
def o246 := (M (u1 (l0 x)) (u3 (u4 [u8]) 0))
def o247 := k0 x 
def o248 (x : X) : Obj := (M u8 (u9 (u4 u5)))
def o249 := k17 x (s23 x) 441 (s74 x) 442 (s45 x) 443 (s46 x) 444 (s49 x) 445
def o250 := k0 x 
def o251 := k14 x (s22 x) (s75 x) (sm x 15 0) (sm x 15 0)
def o252 := k5 x (s22 x) 438 (s75 x) 439 440 80 5 197 198 199 200 201 446 447
def o253 := (M (u1 (l5 x)) (u27 (u28 (s22 x) (s75 x) (f1 (sm x 15 0)) (u29 (f2 (sm x 15 0))) (f6 (sm x 15 0)) 3 u30 (u13 196) u8 u8 (u11 (s41 x) 313) u2 (u13 202) u8 0)))
def o254 := k0 x 
def o255 (x : X) : Obj := (M u8 (u9 (u4 u5)))
def o256 := k3 x (s23 x) 452
def o257 := k0 x 
def o258 := k14 x (s44 x) (s76 x) (sm x 15 1) (sm x 13 2)
def o259 := k5 x (s44 x) 449 (s76 x) 450 451 84 1 204 205 206 207 208 453 454
def o260 := k15 x (s44 x) (s76 x) (sm x 15 1) (sm x 13 2) (s41 x) 313 209
def o261 := k0 x 
def o262 (x : X) : Obj := (M u8 (u9 (u4 u5)))
def o263 := k3 x (s23 x) 459
def o264 := k0 x 
def o265 := k14 x (s63 x) (s77 x) (sm x 15 2) (sm x 14 2)
def o266 := k5 x (s63 x) 456 (s77 x) 457 458 87 1 211 212 213 214 215 460 461
def o267 := k15 x (s63 x) (s77 x) (sm x 15 2) (sm x 14 2) (s41 x) 313 216
def o268 := k0 x 
def o269 (x : X) : Obj := (M u8 (u9 (u4 u5)))
def o270 := k13 x (s23 x) 466 (s69 x) 467
def o271 := k0 x 
def o272 := k14 x (s64 x) (s78 x) (sm x 15 3) (sm x 14 3)
def o273 := k5 x (s64 x) 463 (s78 x) 464 465 90 2 218 219 220 221 222 468 469
def o274 := k15 x (s64 x) (s78 x) (sm x 15 3) (sm x 14 3) (s41 x) 313 223
def o275 := k0 x 
def o276 (x : X) : Obj := (M u8 (u9 (u4 u5)))
def o277 := k13 x (s23 x) 474 (s46 x) 475
def o278 := k0 x 
def o279 := k14 x (s65 x) (s79 x) (sm x 15 4) (sm x 15 4)
def o280 := k5 x (s65 x) 471 (s79 x) 472 473 93 2 225 226 227 228 229 476 477
def o281 := k15 x (s65 x) (s79 x) (sm x 15 4) (sm x 15 4) (s41 x) 313 230
def o282 := k3 x (s74 x) 479
def o283 := (M (u1 (l3 x)) (u20 (u21 [(E x (s16 x) 433 (u11 (s41 x) 313)), (E x (s18 x) 437 (u12 78 436)), (E x (s22 x) 448 (u13 203)), (E x (s44 x) 455 (u13 210)), (E x (s63 x) 462 (u13 217)), (E x (s64 x) 470 (u13 224)), (E x (s65 x) 478 (u13 231)), (E x (s19 x) 480 (u13 232)), (E x (s5 x) 481 u8)]) 2))
def o284 := (u0 (u1 (l9 x)) u2 (u32 (u33 (s73 x) [(u13 136)] [(u13 234), (u13 136), (u1 (l12 x))] 233 (s73 x) u31 u34 u5 u15 u35 u15)) (u6 [(u18 (u13 189)), u19, (u18 (u11 (s73 x) 426)), (u18 (u11 (s73 x) 434)), (u18 (u25 (l18 x))), (u18 (u14 u31))]))
def o285 := k10 x 234
def o286 := k11 x 234
def o287 := (M (u1 (l3 x)) (u20 (u21 [(E x (s3 x) 165 (u11 (s72 x) 484)), (E x (s5 x) 166 u8), (E x (s6 x) 167 u8), (E x (s7 x) 168 (u25 (l4 x))), (E x (s8 x) 169 u8), (E x (s9 x) 170 (u13 6)), (E x (s10 x) 171 (u13 4)), (E x (s11 x) 173 (u11 (s1 x) 172)), (E x (s12 x) 174 u8), (E x (s13 x) 193 (u13 21)), (E x (s14 x) 213 (u13 31)), (E x (s21 x) 238 (u13 51)), (E x (s27 x) 263 (u13 70)), (E x (s28 x) 276 (u13 79)), (E x (s29 x) 287 (u13 86)), (E x (s30 x) 289 (u12 18446744073709551615 288)), (E x (s31 x) 298 (u13 93)), (E x (s42 x) 312 (u13 100)), (E x (s43 x) 369 (u13 136)), (E x (s62 x) 425 (u13 186)), (E x (s73 x) 483 (u13 234)), (E x (s80 x) 577 (u13 309))]) 22))
def o288 (x : X) : Obj := (M u8 (u9 (u4 [(u12 1 0), (u12 0 0), (u13 20), (u12 5 0), (u12 0 0), (u13 27), (u12 7 0), (u12 0 0), (u13 40), (u12 11 0), (u12 0 0), (u13 59), (u12 16 0), (u12 0 0), (u13 78), (u12 21 0), (u12 0 0), (u13 85), (u12 29 0), (u12 0 0), (u13 92), (u12 31 0), (u12 0 0), (u13 99), (u12 40 0), (u12 0 0), (u13 106), (u12 62 0), (u12 0 0), (u13 146), (u12 78 0), (u12 0 0), (u13 194), (u12 96 0), (u12 0 0), (u13 242)])))
def o289 := k0 x 
def o290 := k7 x 
def o291 := (M (u1 (l3 x)) (u20 (u21 [(E x (s16 x) 493 (u11 (s72 x) 484)), (E x (s17 x) 495 (u11 (s80 x) 494)), (E x (s18 x) 497 (u12 96 496)), (E x (s22 x) 504 (u13 250)), (E x (s81 x) 513 (u13 257)), (E x (s82 x) 522 (u13 264)), (E x (s40 x) 530 (u13 271)), (E x (s83 x) 539 (u13 278)), (E x (s47 x) 546 (u13 285)), (E x (s84 x) 553 (u13 292)), (E x (s85 x) 560 (u13 299)), (E x (s86 x) 567 (u13 306)), (E x (s19 x) 570 (u13 307))]) 13))
def o292 := k0 x 
def o293 (x : X) : Obj := (M u8 (u9 (u4 [(u12 98 0), (u12 4 0), (u13 249), (u12 102 0), (u12 4 0), (u13 256), (u12 107 0), (u12 4 0), (u13 263), (u12 111 0), (u12 4 0), (u13 270), (u12 116 0), (u12 4 0), (u13 277), (u12 121 0), (u12 4 0), (u13 284), (u12 124 0), (u12 4 0), (u13 291), (u12 127 0), (u12 4 0), (u13 298), (u12 130 0), (u12 4 0), (u13 305)])))
def o294 := k1 x (s80 x) 488 489 490 96 240 241 491 492
def o295 := k2 x 242 239 (s72 x) 484
def o296 := k0 x 
def o297 (x : X) : Obj := (M u8 (u9 (u4 u5)))
def o298 := k3 x (s23 x) 501
def o299 := k0 x 
def o300 := k14 x (s22 x) (s87 x) (sm x 17 0) (sm x 13 2)
def o301 := k5 x (s22 x) 498 (s87 x) 499 500 98 1 244 245 246 247 248 502 503
def o302 := k15 x (s22 x) (s87 x) (sm x 17 0) (sm x 13 2) (s72 x) 484 249
def o303 := k0 x 
def o304 (x : X) : Obj := (M u8 (u9 (u4 u5)))
def o305 := k16 x (s23 x) 508 (s40 x) 509 (s32 x) 510
def o306 := k0 x 
def o307 := k14 x (s81 x) (s88 x) (sm x 17 1) (sm x 17 1)
def o308 := k5 x (s81 x) 505 (s88 x) 506 507 102 2 251 252 253 254 255 511 512
def o309 := k15 x (s81 x) (s88 x) (sm x 17 1) (sm x 17 1) (s72 x) 484 256
def o310 := k0 x 
def o311 (x : X) : Obj := (M u8 (u9 (u4 u5)))
def o312 := k16 x (s23 x) 517 (s32 x) 518 (s40 x) 519
def o313 := k0 x 
def o314 := k14 x (s82 x) (s89 x) (sm x 17 2) (sm x 17 2)
def o315 := k5 x (s82 x) 514 (s89 x) 515 516 107 3 258 259 260 261 262 520 521
def o316 := k15 x (s82 x) (s89 x) (sm x 17 2) (sm x 17 2) (s72 x) 484 263
def o317 := k0 x 
def o318 (x : X) : Obj := (M u8 (u9 (u4 u5)))
def o319 := k13 x (s23 x) 526 (s32 x) 527
def o320 := k0 x 
def o321 := k14 x (s40 x) (s90 x) (sm x 17 3) (sm x 17 3)
def o322 := k5 x (s40 x) 523 (s90 x) 524 525 111 2 265 266 267 268 269 528 529
def o323 := k15 x (s40 x) (s90 x) (sm x 17 3) (sm x 17 3) (s72 x) 484 270
def o324 := k0 x 
def o325 (x : X) : Obj := (M u8 (u9 (u4 u5)))
def o326 := k16 x (s23 x) 534 (s32 x) 535 (s40 x) 536
def o327 := k0 x 
def o328 := k14 x (s83 x) (s91 x) (sm x 17 4) (sm x 17 4)
def o329 := k5 x (s83 x) 531 (s91 x) 532 533 116 2 272 273 274 275 276 537 538
def o330 := k15 x (s83 x) (s91 x) (sm x 17 4) (sm x 17 4) (s72 x) 484 277
def o331 := k0 x 
def o332 (x : X) : Obj := (M u8 (u9 (u4 u5)))
def o333 := k3 x (s23 x) 543
def o334 := k0 x 
def o335 := k14 x (s47 x) (s92 x) (sm x 17 5) (sm x 17 5)
def o336 := k5 x (s47 x) 540 (s92 x) 541 542 121 1 279 280 281 282 283 544 545
def o337 := k15 x (s47 x) (s92 x) (sm x 17 5) (sm x 17 5) (s72 x) 484 284
def o338 := k0 x 
def o339 (x : X) : Obj := (M u8 (u9 (u4 u5)))
def o340 := k3 x (s23 x) 550
def o341 := k0 x 
def o342 := k14 x (s84 x) (s93 x) (sm x 17 6) (sm x 14 2)
def o343 := k5 x (s84 x) 547 (s93 x) 548 549 124 1 286 287 288 289 290 551 552
def o344 := k15 x (s84 x) (s93 x) (sm x 17 6) (sm x 14 2) (s72 x) 484 291
def o345 := k0 x 
def o346 (x : X) : Obj := (M u8 (u9 (u4 u5)))
def o347 := k3 x (s23 x) 557
def o348 := k0 x 
def o349 := k14 x (s85 x) (s94 x) (sm x 17 7) (sm x 14 2)
def o350 := k5 x (s85 x) 554 (s94 x) 555 556 127 1 293 294 295 296 297 558 559
def o351 := k15 x (s85 x) (s94 x) (sm x 17 7) (sm x 14 2) (s72 x) 484 298
def o352 := k0 x 
def o353 (x : X) : Obj := (M u8 (u9 (u4 u5)))
def o354 := k3 x (s23 x) 564
def o355 := k0 x 
def o356 := k14 x (s86 x) (s95 x) (sm x 17 8) (sm x 14 2)
def o357 := k5 x (s86 x) 561 (s95 x) 562 563 130 1 300 301 302 303 304 565 566
def o358 := k15 x (s86 x) (s95 x) (sm x 17 8) (sm x 14 2) (s72 x) 484 305
def o359 := k13 x (s96 x) 568 (s97 x) 569
def o360 := (M (u1 (l3 x)) (u20 (u21 [(E x (s16 x) 493 (u11 (s72 x) 484)), (E x (s18 x) 497 (u12 96 496)), (E x (s22 x) 504 (u13 250)), (E x (s81 x) 513 (u13 257)), (E x (s82 x) 522 (u13 264)), (E x (s40 x) 530 (u13 271)), (E x (s83 x) 539 (u13 278)), (E x (s47 x) 546 (u13 285)), (E x (s84 x) 553 (u13 292)), (E x (s85 x) 560 (u13 299)), (E x (s86 x) 567 (u13 306)), (E x (s19 x) 570 (u13 307)), (E x (s61 x) 572 (u13 310)), (E x (s20 x) 574 (u13 311)), (E x (s5 x) 575 u8)]) 4))
def o361 := (u0 (u1 (l9 x)) u2 (u32 (u33 (s80 x) [(u1 (l12 x))] [(u13 309), (u1 (l12 x))] 308 (s80 x) u31 u34 u5 u15 u35 u15)) (u6 [u19, u19, (u18 (u11 (s80 x) 486)), (u18 (u11 (s80 x) 494)), (u18 (u25 (l18 x))), (u18 (u14 u31))]))
def o362 := (M (u1 (l14 x)) (u9 (u4 [(u11 (s61 x) 571), (u13 309), (u25 (l19 x)), (u25 (l20 x))])))
def o363 := k9 x 573 309
def o364 := k10 x 309
def o365 := k11 x 309
def o366 := (M (u1 (l3 x)) (u20 (u21 [(E x (s3 x) 165 (u11 (s98 x) 578)), (E x (s5 x) 166 u8), (E x (s6 x) 167 u8), (E x (s7 x) 168 (u25 (l4 x))), (E x (s8 x) 169 u8), (E x (s9 x) 170 (u13 6)), (E x (s10 x) 171 (u13 4)), (E x (s11 x) 173 (u11 (s1 x) 172)), (E x (s12 x) 174 u8), (E x (s13 x) 193 (u13 21)), (E x (s14 x) 213 (u13 31)), (E x (s21 x) 238 (u13 51)), (E x (s27 x) 263 (u13 70)), (E x (s28 x) 276 (u13 79)), (E x (s29 x) 287 (u13 86)), (E x (s30 x) 289 (u12 18446744073709551615 288)), (E x (s31 x) 298 (u13 93)), (E x (s42 x) 312 (u13 100)), (E x (s43 x) 369 (u13 136)), (E x (s62 x) 425 (u13 186)), (E x (s73 x) 483 (u13 234)), (E x (s80 x) 577 (u13 309)), (E x (s99 x) 587 (u13 320)), (E x (s100 x) 594 (u13 327)), (E x (s101 x) 605 (u13 334)), (E x (s102 x) 617 (u13 341)), (E x (s103 x) 632 (u13 348)), (E x (s104 x) 638 (u13 353)), (E x (s105 x) 653 (u13 360)), (E x (s106 x) 669 (u13 367)), (E x (s107 x) 685 (u13 374)), (E x (s108 x) 701 (u13 381))]) 32))
def o367 (x : X) : Obj := (M u8 (u9 (u4 (u10 (u12 1 0) (u10 (u12 0 0) (u10 (u13 20) (u10 (u12 5 0) (u10 (u12 0 0) (u10 (u13 27) (u10 (u12 7 0) (u10 (u12 0 0) (u10 (u13 40) (u10 (u12 11 0) (u10 (u12 0 0) (u10 (u13 59) (u10 (u12 16 0) (u10 (u12 0 0) (u10 (u13 78) (u10 (u12 21 0) (u10 (u12 0 0) (u10 (u13 85) (u10 (u12 29 0) (u10 (u12 0 0) (u10 (u13 92) (u10 (u12 31 0) (u10 (u12 0 0) (u10 (u13 99) (u10 (u12 40 0) (u10 (u12 0 0) [(u13 106), (u12 62 0), (u12 0 0), (u13 146), (u12 78 0), (u12 0 0), (u13 194), (u12 96 0), (u12 0 0), (u13 242), (u12 133 0), (u12 0 0), (u13 319), (u12 137 0), (u12 0 0), (u13 326), (u12 139 0), (u12 0 0), (u13 333), (u12 146 0), (u12 0 0), (u13 340), (u12 153 0), (u12 0 0), (u13 347), (u12 169 0), (u12 0 0), (u13 352), (u12 176 0), (u12 0 0), (u13 359), (u12 185 0), (u12 0 0), (u13 366), (u12 191 0), (u12 0 0), (u13 373), (u12 208 0), (u12 0 0), (u13 380)])))))))))))))))))))))))))))))
def o368 := k0 x 
def o369 (x : X) : Obj := (M u8 (u9 (u4 u5)))
def o370 := k13 x (s109 x) 583 (s110 x) 584
def o371 := k0 x 
def o372 := (M u8 (u27 (u28 (f0 (st x 19)) (f0 (st x 19)) (f1 (st x 19)) (u29 (f2 (st x 19))) (f6 (st x 19)) 0 u30 u8 u8 u8 u8 u2 u8 u8 0)))
def o373 := k5 x (s99 x) 580 (s99 x) 581 582 133 2 314 315 316 317 318 585 586
def o374 := (M (u1 (l5 x)) (u27 (u28 (f0 (st x 19)) (f0 (st x 19)) (f1 (st x 19)) (u29 (f2 (st x 19))) (f6 (st x 19)) 3 u30 u8 u8 u8 (u11 (s98 x) 578) u2 (u13 319) u8 0)))
def o375 := k0 x 
def o376 (x : X) : Obj := (M u8 (u9 (u4 u5)))
def o377 := k3 x (s111 x) 591
def o378 := k0 x 
def o379 := k4 x (s100 x) (st x 20)
def o380 := k5 x (s100 x) 588 (s100 x) 589 590 137 1 321 322 323 324 325 592 593
def o381 := k6 x (s100 x) (st x 20) (s98 x) 578 326
def o382 := k0 x 
def o383 (x : X) : Obj := (M u8 (u9 (u4 u5)))
def o384 := k17 x (s112 x) 598 (s113 x) 599 (s111 x) 600 (s114 x) 601 (s110 x) 602
def o385 := k0 x 
def o386 := k4 x (s101 x) (st x 21)
def o387 := k5 x (s101 x) 595 (s101 x) 596 597 139 2 328 329 330 331 332 603 604
def o388 := k6 x (s101 x) (st x 21) (s98 x) 578 333
def o389 := k0 x 
def o390 (x : X) : Obj := (M u8 (u9 (u4 u5)))
def o391 := (M (u1 (l0 x)) (u3 (u4 [(u11 (s112 x) 609), (u11 (s115 x) 610), (u11 (s116 x) 611), (u11 (s117 x) 612), (u11 (s118 x) 613), (u11 (s110 x) 614)]) 0))
def o392 := k0 x 
def o393 := k4 x (s102 x) (st x 22)
def o394 := k5 x (s102 x) 606 (s102 x) 607 608 146 3 335 336 337 338 339 615 616
def o395 := k6 x (s102 x) (st x 22) (s98 x) 578 340
def o396 := k0 x 
def o397 (x : X) : Obj := (M u8 (u9 (u4 u5)))
def o398 := (M (u1 (l0 x)) (u3 (u4 [(u11 (s112 x) 621), (u11 (s115 x) 622), (u11 (s117 x) 623), (u11 (s119 x) 624), (u11 (s116 x) 625), (u11 (s118 x) 626), (u11 (s120 x) 627), (u11 (s121 x) 628), (u11 (s122 x) 629)]) 0))
def o399 := k0 x 
def o400 := k4 x (s103 x) (st x 23)
def o401 := k5 x (s103 x) 618 (s103 x) 619 620 153 2 342 343 344 345 346 630 631
def o402 := k6 x (s103 x) (st x 23) (s98 x) 578 347
def o403 := k0 x 
def o404 (x : X) : Obj := (M u8 (u9 (u4 u5)))
def o405 := k4 x (s104 x) (st x 24)
def o406 := (M (u1 (l1 x)) (u9 (u4 [(u11 (s104 x) 633), (u11 (s104 x) 634), (u11 (s1 x) 635), (u12 169 0), (u12 2 0), (u12 0 0), (u12 0 0), (u12 3 0), (u13 349), (u14 u31), (u12 181 0), (u13 350), u8, u8, u8, (u13 351), (u12 636 0), (u12 169 0), (u11 (s1 x) 637)])))
def o407 := k6 x (s104 x) (st x 24) (s98 x) 578 352
def o408 := k0 x 
def o409 (x : X) : Obj := (M u8 (u9 (u4 u5)))
def o410 := (M (u1 (l0 x)) (u3 (u4 [(u11 (s123 x) 642), (u11 (s124 x) 643), (u11 (s125 x) 644), (u11 (s126 x) 645), (u11 (s127 x) 646), (u11 (s128 x) 647), (u11 (s114 x) 648), (u11 (s121 x) 649), (u11 (s129 x) 650)]) 0))
def o411 := k0 x 
def o412 := k4 x (s105 x) (st x 25)
def o413 := k5 x (s105 x) 639 (s105 x) 640 641 176 6 354 355 356 357 358 651 652
def o414 := k6 x (s105 x) (st x 25) (s98 x) 578 359
def o415 := k0 x 
def o416 (x : X) : Obj := (M u8 (u9 (u4 u5)))
def o417 := k18 x (s124 x) 657 (s127 x) 658 (s128 x) 659 (s130 x) 660 (s131 x) 661 (s114 x) 662 (s120 x) 663 (s119 x) 664 (s122 x) 665 (s113 x) 666
def o418 := k0 x 
def o419 := k4 x (s106 x) (st x 26)
def o420 := k5 x (s106 x) 654 (s106 x) 655 656 185 4 361 362 363 364 365 667 668
def o421 := k6 x (s106 x) (st x 26) (s98 x) 578 366
def o422 := k0 x 
def o423 (x : X) : Obj := (M u8 (u9 (u4 u5)))
def o424 := k18 x (s109 x) 673 (s115 x) 674 (s123 x) 675 (s124 x) 676 (s112 x) 677 (s121 x) 678 (s132 x) 679 (s117 x) 680 (s133 x) 681 (s114 x) 682
def o425 := k0 x 
def o426 := (M u8 (u27 (u28 (f0 (st x 27)) (f0 (st x 27)) (f1 (st x 27)) (u29 (f2 (st x 27))) (f6 (st x 27)) 0 u30 u8 u8 u8 u8 u2 u8 u8 0)))
def o427 := k5 x (s107 x) 670 (s107 x) 671 672 191 3 368 369 370 371 372 683 684
def o428 := (M (u1 (l5 x)) (u27 (u28 (f0 (st x 27)) (f0 (st x 27)) (f1 (st x 27)) (u29 (f2 (st x 27))) (f6 (st x 27)) 3 u30 u8 u8 u8 (u11 (s98 x) 578) u2 (u13 373) u8 0)))
def o429 := k0 x 
def o430 (x : X) : Obj := (M u8 (u9 (u4 u5)))
def o431 := k18 x (s109 x) 689 (s115 x) 690 (s134 x) 691 (s127 x) 692 (s128 x) 693 (s125 x) 694 (s126 x) 695 (s123 x) 696 (s124 x) 697 (s111 x) 698
def o432 := k0 x 
def o433 := k4 x (s108 x) (st x 28)
def o434 := k5 x (s108 x) 686 (s108 x) 687 688 208 1 375 376 377 378 379 699 700
def o435 := k6 x (s108 x) (st x 28) (s98 x) 578 380
def q1 (x : X) : PySem.Obj := (M u8 (u20 (u21 u26) 0))
def heap39 : X->PySem.W.Frag := (J 2 q1 (J 3 o366 (J 15 o432 (J 17 o53 (J 18 o432 (J 20 o56 (J 21 o57 (J 22 o58 (J 29 o432 (J 30 o66 (J 31 o95 (J 32 o68 (J 35 o96 (J 42 o432 (J 44 o83 (J 45 o432 (J 47 o86 (J 48 o87 (J 49 o88 (J 50 o89 (J 51 o90 (J 54 o96 (J 61 o432 (J 63 o105 (J 64 o432 (J 66 o108 (J 67 o109 (J 68 o110 (J 69 o111 (J 70 o112 (J 73 o432 (J 75 o117 (J 76 o118 (J 78 o120 (J 79 o121 (J 80 o432 (J 82 o124 (J 83 o432 (J 85 o127 (J 86 o128 (J 87 o432 (J 89 o131 (J 90 o432 (J 92 o134 (J 93 o135 (J 94 o432 (J 96 o140 (J 97 o432 (J 99 o143 (J 100 o144 (J 108 o432 (J 111 o155 (J 112 o156 (J 113 o432 (J 115 o159 (J 116 o432 (J 118 o162 (J 119 o163 (J 120 o432 (J 122 o166 (J 123 o432 (J 125 o169 (J 126 o170 (J 127 o432 (J 129 o173 (J 130 o432 (J 132 o176 (J 133 o177 (J 134 o178 (J 135 o179 (J 136 o238 (J 137 o181 (J 138 o182 (J 141 o239 (J 148 o246 (J 149 o432 (J 151 o198 (J 152 o432 (J 154 o201 (J 155 o202 (J 156 o432 (J 158 o205 (J 159 o432 (J 161 o208 (J 162 o209 (J 163 o432 (J 165 o212 (J 166 o432 (J 168 o215 (J 169 o216 (J 170 o432 (J 172 o219 (J 173 o432 (J 175 o222 (J 176 o223 (J 177 o432 (J 179 o226 (J 180 o432 (J 182 o229 (J 183 o230 (J 184 o432 (J 185 o232 (J 186 o233 (J 189 o239 (J 196 o246 (J 197 o432 (J 199 o249 (J 200 o432 (J 202 o252 (J 203 o253 (J 204 o432 (J 206 o256 (J 207 o432 (J 209 o259 (J 210 o260 (J 211 o432 (J 213 o263 (J 214 o432 (J 216 o266 (J 217 o267 (J 218 o432 (J 220 o270 (J 221 o432 (J 223 o273 (J 224 o274 (J 225 o432 (J 227 o277 (J 228 o432 (J 230 o280 (J 231 o281 (J 232 o282 (J 233 o283 (J 234 o284 (J 244 o432 (J 246 o298 (J 247 o432 (J 249 o301 (J 250 o302 (J 251 o432 (J 253 o305 (J 254 o432 (J 256 o308 (J 257 o309 (J 258 o432 (J 260 o312 (J 261 o432 (J 263 o315 (J 264 o316 (J 265 o432 (J 267 o319 (J 268 o432 (J 270 o322 (J 271 o323 (J 272 o432 (J 274 o326 (J 275 o432 (J 277 o329 (J 278 o330 (J 279 o432 (J 281 o333 (J 282 o432 (J 284 o336 (J 285 o337 (J 286 o432 (J 288 o340 (J 289 o432 (J 291 o343 (J 292 o344 (J 293 o432 (J 295 o347 (J 296 o432 (J 298 o350 (J 299 o351 (J 300 o432 (J 302 o354 (J 303 o432 (J 305 o357 (J 306 o358 (J 307 o359 (J 308 o360 (J 309 o361 (J 310 o362 (J 311 o363 (J 314 o432 (J 316 o370 (J 317 o432 (J 319 o373 (J 320 o374 (J 321 o432 (J 323 o377 (J 324 o432 (J 326 o380 (J 327 o381 (J 328 o432 (J 330 o384 (J 331 o432 (J 333 o387 (J 334 o388 (J 335 o432 (J 337 o391 (J 338 o432 (J 340 o394 (J 341 o395 (J 342 o432 (J 344 o398 (J 345 o432 (J 347 o401 (J 348 o402 (J 349 o432 (J 352 o406 (J 353 o407 (J 354 o432 (J 356 o410 (J 357 o432 (J 359 o413 (J 360 o414 (J 361 o432 (J 363 o417 (J 364 o432 (J 366 o420 (J 367 o421 (J 368 o432 (J 370 o424 (J 371 o432 (J 373 o427 (J 374 o428 (J 375 o432 (J 377 o431 (J 378 o432 (J 380 o434 (J 381 o435 I)))))))))))))))))))))))))))))))))))))))))))))))))))))))))))))))))))))))))))))))))))))))))))))))))))))))))))))))))))))))))))))))))))))))))))))))))))))))))))))))))))))))))))))))))))))))))))))))))))))))))))))))))))))))))))))))))))))))
def heap46 : X->PySem.Heap := fun x => u39 (u40 ((Q b0 (Q b1 (Q b2 (Q b3 (Q b4 (Q b5 (Q b6 (Q b7 (Q b8 (Q b9 (Q b10 (Q o43 (Q o44 (Q o45 (Q o46 R))))))))))))))) x)) (u43 u44 u44 u44 0 u45 u44 u15 (u46 u44) u44 0 u15 u15 u15 0 [2000, 10, 10] u15 0 u31 u44 u44 0 u15)
def tree47 : X->PySem.W.BT := (N b0 (N b1 (N b3 (N b7 Z Z) (N o43 Z Z)) (N b5 (N b9 Z Z) (N o45 Z Z))) (N b2 (N b4 (N b8 Z Z) (N o44 Z Z)) (N b6 (N b10 Z Z) (N o46 Z Z))))
def tree70 : X->PySem.W.BT := (N b0 (N b1 (N o49 (N b7 (N o51 (N o67 Z Z) Z) (N o59 Z Z)) (N o43 (N o55 Z Z) (N o63 Z Z))) (N b5 (N b9 (N o53 (N o69 Z Z) Z) (N o61 Z Z)) (N o45 (N o57 Z Z) (N o65 Z Z)))) (N b2 (N b4 (N b8 (N o52 (N o68 Z Z) Z) (N o60 Z Z)) (N o50 (N o56 Z Z) (N o64 Z Z))) (N b6 (N b10 (N o54 (N o70 Z Z) Z) (N o62 Z Z)) (N o46 (N o58 Z Z) (N o66 Z Z)))))
def tree92 : X->PySem.W.BT := (N b0 (N b1 (N o71 (N b7 (N o51 (N o73 Z Z) (N o86 Z Z)) (N o59 (N o78 Z Z) Z)) (N o43 (N o55 (N o74 Z Z) (N o90 Z Z)) (N o63 (N o82 Z Z) Z))) (N b5 (N b9 (N o53 (N o69 Z Z) (N o88 Z Z)) (N o61 (N o80 Z Z) Z)) (N o45 (N o57 (N o76 Z Z) (N o92 Z Z)) (N o65 (N o84 Z Z) Z)))) (N b2 (N b4 (N b8 (N o52 (N o68 Z Z) (N o87 Z Z)) (N o60 (N o79 Z Z) Z)) (N o72 (N o56 (N o75 Z Z) (N o91 Z Z)) (N o64 (N o83 Z Z) Z))) (N b6 (N b10 (N o54 (N o70 Z Z) (N o89 Z Z)) (N o62 (N o81 Z Z) Z)) (N o46 (N o58 (N o77 Z Z) Z) (N o66 (N o85 Z Z) Z)))))
def tree135 : X->PySem.W.BT := (N b0 (N b1 (N o93 (N b7 (N o51 (N o95 (N o105 Z Z) Z) (N o86 (N o121 Z Z) Z)) (N o59 (N o78 (N o113 Z Z) Z) (N o97 (N o129 Z Z) Z))) (N o43 (N o55 (N o74 (N o109 Z Z) Z) (N o90 (N o125 Z Z) Z)) (N o63 (N o82 (N o117 Z Z) Z) (N o101 (N o133 Z Z) Z)))) (N b5 (N b9 (N o53 (N o69 (N o107 Z Z) Z) (N o88 (N o123 Z Z) Z)) (N o61 (N o80 (N o115 Z Z) Z) (N o99 (N o131 Z Z) Z))) (N o45 (N o57 (N o76 (N o111 Z Z) Z) (N o92 (N o127 Z Z) Z)) (N o65 (N o84 (N o119 Z Z) Z) (N o103 (N o135 Z Z) Z))))) (N b2 (N b4 (N b8 (N o52 (N o68 (N o106 Z Z) Z) (N o87 (N o122 Z Z) Z)) (N o60 (N o79 (N o114 Z Z) Z) (N o98 (N o130 Z Z) Z))) (N o94 (N o56 (N o75 (N o110 Z Z) Z) (N o91 (N o126 Z Z) Z)) (N o64 (N o83 (N o118 Z Z) Z) (N o102 (N o134 Z Z) Z)))) (N b6 (N b10 (N o54 (N o70 (N o108 Z Z) Z) (N o89 (N o124 Z Z) Z)) (N o62 (N o81 (N o116 Z Z) Z) (N o100 (N o132 Z Z) Z))) (N o46 (N o58 (N o77 (N o112 Z Z) Z) (N o96 (N o128 Z Z) Z)) (N o66 (N o85 (N o120 Z Z) Z) (N o104 Z Z))))))
def tree184 : X->PySem.W.BT := (N b0 (N b1 (N o136 (N b7 (N o51 (N o95 (N o105 (N o171 Z Z) Z) (N o139 Z Z)) (N o86 (N o121 Z Z) (N o155 Z Z))) (N o59 (N o78 (N o113 (N o179 Z Z) Z) (N o147 Z Z)) (N o97 (N o129 Z Z) (N o163 Z Z)))) (N o43 (N o55 (N o74 (N o109 (N o175 Z Z) Z) (N o143 Z Z)) (N o90 (N o125 Z Z) (N o159 Z Z))) (N o63 (N o82 (N o117 (N o183 Z Z) Z) (N o151 Z Z)) (N o101 (N o133 Z Z) (N o167 Z Z))))) (N b5 (N b9 (N o53 (N o69 (N o107 (N o173 Z Z) Z) (N o141 Z Z)) (N o88 (N o123 Z Z) (N o157 Z Z))) (N o61 (N o80 (N o115 (N o181 Z Z) Z) (N o149 Z Z)) (N o99 (N o131 Z Z) (N o165 Z Z)))) (N o45 (N o57 (N o76 (N o111 (N o177 Z Z) Z) (N o145 Z Z)) (N o92 (N o127 Z Z) (N o161 Z Z))) (N o65 (N o84 (N o119 Z Z) (N o153 Z Z)) (N o103 (N o135 Z Z) (N o169 Z Z)))))) (N b2 (N b4 (N b8 (N o52 (N o68 (N o106 (N o172 Z Z) Z) (N o140 Z Z)) (N o87 (N o122 Z Z) (N o156 Z Z))) (N o60 (N o79 (N o114 (N o180 Z Z) Z) (N o148 Z Z)) (N o98 (N o130 Z Z) (N o164 Z Z)))) (N o137 (N o56 (N o75 (N o110 (N o176 Z Z) Z) (N o144 Z Z)) (N o91 (N o126 Z Z) (N o160 Z Z))) (N o64 (N o83 (N o118 (N o184 Z Z) Z) (N o152 Z Z)) (N o102 (N o134 Z Z) (N o168 Z Z))))) (N b6 (N b10 (N o54 (N o70 (N o108 (N o174 Z Z) Z) (N o142 Z Z)) (N o89 (N o124 Z Z) (N o158 Z Z))) (N o62 (N o81 (N o116 (N o182 Z Z) Z) (N o150 Z Z)) (N o100 (N o132 Z Z) (N o166 Z Z)))) (N o46 (N o58 (N o77 (N o112 (N o178 Z Z) Z) (N o146 Z Z)) (N o96 (N o128 Z Z) (N o162 Z Z))) (N o66 (N o85 (N o120 Z Z) (N o154 Z Z)) (N o104 (N o138 Z Z) (N o170 Z Z)))))))
def tree235 : X->PySem.W.BT := (N b0 (N b1 (N o185 (N b7 (N o51 (N o95 (N o105 (N o171 Z Z) Z) (N o139 (N o206 Z Z) Z)) (N o86 (N o121 (N o190 Z Z) Z) (N o155 (N o222 Z Z) Z))) (N o59 (N o78 (N o113 (N o179 Z Z) Z) (N o147 (N o214 Z Z) Z)) (N o97 (N o129 (N o198 Z Z) Z) (N o163 (N o230 Z Z) Z)))) (N o43 (N o55 (N o74 (N o109 (N o175 Z Z) Z) (N o143 (N o210 Z Z) Z)) (N o90 (N o125 (N o194 Z Z) Z) (N o159 (N o226 Z Z) Z))) (N o63 (N o82 (N o117 (N o183 Z Z) Z) (N o151 (N o218 Z Z) Z)) (N o101 (N o133 (N o202 Z Z) Z) (N o167 (N o234 Z Z) Z))))) (N b5 (N b9 (N o53 (N o69 (N o107 (N o173 Z Z) Z) (N o141 (N o208 Z Z) Z)) (N o88 (N o123 (N o192 Z Z) Z) (N o157 (N o224 Z Z) Z))) (N o61 (N o80 (N o115 (N o181 Z Z) Z) (N o149 (N o216 Z Z) Z)) (N o99 (N o131 (N o200 Z Z) Z) (N o165 (N o232 Z Z) Z)))) (N o45 (N o57 (N o76 (N o111 (N o177 Z Z) Z) (N o145 (N o212 Z Z) Z)) (N o92 (N o127 (N o196 Z Z) Z) (N o161 (N o228 Z Z) Z))) (N o65 (N o84 (N o119 (N o188 Z Z) Z) (N o153 (N o220 Z Z) Z)) (N o103 (N o135 (N o204 Z Z) Z) (N o169 Z Z)))))) (N b2 (N b4 (N b8 (N o52 (N o68 (N o106 (N o172 Z Z) Z) (N o140 (N o207 Z Z) Z)) (N o87 (N o122 (N o191 Z Z) Z) (N o156 (N o223 Z Z) Z))) (N o60 (N o79 (N o114 (N o187 Z Z) Z) (N o148 (N o215 Z Z) Z)) (N o98 (N o130 (N o199 Z Z) Z) (N o164 (N o231 Z Z) Z)))) (N o186 (N o56 (N o75 (N o110 (N o176 Z Z) Z) (N o144 (N o211 Z Z) Z)) (N o91 (N o126 (N o195 Z Z) Z) (N o160 (N o227 Z Z) Z))) (N o64 (N o83 (N o118 (N o184 Z Z) Z) (N o152 (N o219 Z Z) Z)) (N o102 (N o134 (N o203 Z Z) Z) (N o168 (N o235 Z Z) Z))))) (N b6 (N b10 (N o54 (N o70 (N o108 (N o174 Z Z) Z) (N o142 (N o209 Z Z) Z)) (N o89 (N o124 (N o193 Z Z) Z) (N o158 (N o225 Z Z) Z))) (N o62 (N o81 (N o116 (N o182 Z Z) Z) (N o150 (N o217 Z Z) Z)) (N o100 (N o132 (N o201 Z Z) Z) (N o166 (N o233 Z Z) Z)))) (N o46 (N o58 (N o77 (N o112 (N o178 Z Z) Z) (N o146 (N o213 Z Z) Z)) (N o96 (N o128 (N o197 Z Z) Z) (N o162 (N o229 Z Z) Z))) (N o66 (N o85 (N o120 (N o189 Z Z) Z) (N o154 (N o221 Z Z) Z)) (N o104 (N o138 (N o205 Z Z) Z) (N o170 Z Z)))))))
def tree286 : X->PySem.W.BT := (N b0 (N b1 (N o236 (N b7 (N o51 (N o95 (N o105 (N o171 Z Z) (N o241 Z Z)) (N o139 (N o206 Z Z) (N o273 Z Z))) (N o86 (N o121 (N o190 Z Z) (N o257 Z Z)) (N o155 (N o222 Z Z) Z))) (N o59 (N o78 (N o113 (N o179 Z Z) (N o249 Z Z)) (N o147 (N o214 Z Z) (N o281 Z Z))) (N o97 (N o129 (N o198 Z Z) (N o265 Z Z)) (N o163 (N o230 Z Z) Z)))) (N o43 (N o55 (N o74 (N o109 (N o175 Z Z) (N o245 Z Z)) (N o143 (N o210 Z Z) (N o277 Z Z))) (N o90 (N o125 (N o194 Z Z) (N o261 Z Z)) (N o159 (N o226 Z Z) Z))) (N o63 (N o82 (N o117 (N o183 Z Z) (N o253 Z Z)) (N o151 (N o218 Z Z) (N o285 Z Z))) (N o101 (N o133 (N o202 Z Z) (N o269 Z Z)) (N o167 (N o234 Z Z) Z))))) (N b5 (N b9 (N o53 (N o69 (N o107 (N o173 Z Z) (N o243 Z Z)) (N o141 (N o208 Z Z) (N o275 Z Z))) (N o88 (N o123 (N o192 Z Z) (N o259 Z Z)) (N o157 (N o224 Z Z) Z))) (N o61 (N o80 (N o115 (N o181 Z Z) (N o251 Z Z)) (N o149 (N o216 Z Z) (N o283 Z Z))) (N o99 (N o131 (N o200 Z Z) (N o267 Z Z)) (N o165 (N o232 Z Z) Z)))) (N o45 (N o57 (N o76 (N o111 (N o177 Z Z) (N o247 Z Z)) (N o145 (N o212 Z Z) (N o279 Z Z))) (N o92 (N o127 (N o196 Z Z) (N o263 Z Z)) (N o161 (N o228 Z Z) Z))) (N o65 (N o84 (N o119 (N o188 Z Z) (N o255 Z Z)) (N o153 (N o220 Z Z) Z)) (N o103 (N o135 (N o204 Z Z) (N o271 Z Z)) (N o169 (N o239 Z Z) Z)))))) (N b2 (N b4 (N b8 (N o52 (N o68 (N o106 (N o172 Z Z) (N o242 Z Z)) (N o140 (N o207 Z Z) (N o274 Z Z))) (N o87 (N o122 (N o191 Z Z) (N o258 Z Z)) (N o156 (N o223 Z Z) Z))) (N o60 (N o79 (N o114 (N o238 Z Z) (N o250 Z Z)) (N o148 (N o215 Z Z) (N o282 Z Z))) (N o98 (N o130 (N o199 Z Z) (N o266 Z Z)) (N o164 (N o231 Z Z) Z)))) (N o237 (N o56 (N o75 (N o110 (N o176 Z Z) (N o246 Z Z)) (N o144 (N o211 Z Z) (N o278 Z Z))) (N o91 (N o126 (N o195 Z Z) (N o262 Z Z)) (N o160 (N o227 Z Z) Z))) (N o64 (N o83 (N o118 (N o184 Z Z) (N o254 Z Z)) (N o152 (N o219 Z Z) (N o286 Z Z))) (N o102 (N o134 (N o203 Z Z) (N o270 Z Z)) (N o168 (N o235 Z Z) Z))))) (N b6 (N b10 (N o54 (N o70 (N o108 (N o174 Z Z) (N o244 Z Z)) (N o142 (N o209 Z Z) (N o276 Z Z))) (N o89 (N o124 (N o193 Z Z) (N o260 Z Z)) (N o158 (N o225 Z Z) Z))) (N o62 (N o81 (N o116 (N o182 Z Z) (N o252 Z Z)) (N o150 (N o217 Z Z) (N o284 Z Z))) (N o100 (N o132 (N o201 Z Z) (N o268 Z Z)) (N o166 (N o233 Z Z) Z)))) (N o46 (N o58 (N o77 (N o112 (N o178 Z Z) (N o248 Z Z)) (N o146 (N o213 Z Z) (N o280 Z Z))) (N o96 (N o128 (N o197 Z Z) (N o264 Z Z)) (N o162 (N o229 Z Z) Z))) (N o66 (N o85 (N o120 (N o189 Z Z) (N o256 Z Z)) (N o154 (N o221 Z Z) Z)) (N o104 (N o138 (N o205 Z Z) (N o272 Z Z)) (N o170 (N o240 Z Z) Z)))))))
def tree365 : X->PySem.W.BT := (N b0 (N b1 (N o287 (N b7 (N o51 (N o95 (N o105 (N o171 (N o307 Z Z) Z) (N o241 Z Z)) (N o139 (N o206 (N o339 Z Z) Z) (N o273 Z Z))) (N o86 (N o121 (N o190 (N o323 Z Z) Z) (N o257 Z Z)) (N o155 (N o222 (N o355 Z Z) Z) (N o291 Z Z)))) (N o59 (N o78 (N o113 (N o179 (N o315 Z Z) Z) (N o249 Z Z)) (N o147 (N o214 (N o347 Z Z) Z) (N o281 Z Z))) (N o97 (N o129 (N o198 (N o331 Z Z) Z) (N o265 Z Z)) (N o163 (N o230 (N o363 Z Z) Z) (N o299 Z Z))))) (N o43 (N o55 (N o74 (N o109 (N o175 (N o311 Z Z) Z) (N o245 Z Z)) (N o143 (N o210 (N o343 Z Z) Z) (N o277 Z Z))) (N o90 (N o125 (N o194 (N o327 Z Z) Z) (N o261 Z Z)) (N o159 (N o226 (N o359 Z Z) Z) (N o295 Z Z)))) (N o63 (N o82 (N o117 (N o183 (N o319 Z Z) Z) (N o253 Z Z)) (N o151 (N o218 (N o351 Z Z) Z) (N o285 Z Z))) (N o101 (N o133 (N o202 (N o335 Z Z) Z) (N o269 Z Z)) (N o167 (N o234 Z Z) (N o303 Z Z)))))) (N b5 (N b9 (N o53 (N o69 (N o107 (N o173 (N o309 Z Z) Z) (N o243 Z Z)) (N o141 (N o208 (N o341 Z Z) Z) (N o275 Z Z))) (N o88 (N o123 (N o192 (N o325 Z Z) Z) (N o259 Z Z)) (N o157 (N o224 (N o357 Z Z) Z) (N o293 Z Z)))) (N o61 (N o80 (N o115 (N o181 (N o317 Z Z) Z) (N o251 Z Z)) (N o149 (N o216 (N o349 Z Z) Z) (N o283 Z Z))) (N o99 (N o131 (N o200 (N o333 Z Z) Z) (N o267 Z Z)) (N o165 (N o232 (N o365 Z Z) Z) (N o301 Z Z))))) (N o45 (N o57 (N o76 (N o111 (N o177 (N o313 Z Z) Z) (N o247 Z Z)) (N o145 (N o212 (N o345 Z Z) Z) (N o279 Z Z))) (N o92 (N o127 (N o196 (N o329 Z Z) Z) (N o263 Z Z)) (N o161 (N o228 (N o361 Z Z) Z) (N o297 Z Z)))) (N o65 (N o84 (N o119 (N o188 (N o321 Z Z) Z) (N o255 Z Z)) (N o153 (N o220 (N o353 Z Z) Z) (N o289 Z Z))) (N o103 (N o135 (N o204 (N o337 Z Z) Z) (N o271 Z Z)) (N o169 (N o239 Z Z) (N o305 Z Z))))))) (N b2 (N b4 (N b8 (N o52 (N o68 (N o106 (N o172 (N o308 Z Z) Z) (N o242 Z Z)) (N o140 (N o207 (N o340 Z Z) Z) (N o274 Z Z))) (N o87 (N o122 (N o191 (N o324 Z Z) Z) (N o258 Z Z)) (N o156 (N o223 (N o356 Z Z) Z) (N o292 Z Z)))) (N o60 (N o79 (N o114 (N o238 (N o316 Z Z) Z) (N o250 Z Z)) (N o148 (N o215 (N o348 Z Z) Z) (N o282 Z Z))) (N o98 (N o130 (N o199 (N o332 Z Z) Z) (N o266 Z Z)) (N o164 (N o231 (N o364 Z Z) Z) (N o300 Z Z))))) (N o288 (N o56 (N o75 (N o110 (N o176 (N o312 Z Z) Z) (N o246 Z Z)) (N o144 (N o211 (N o344 Z Z) Z) (N o278 Z Z))) (N o91 (N o126 (N o195 (N o328 Z Z) Z) (N o262 Z Z)) (N o160 (N o227 (N o360 Z Z) Z) (N o296 Z Z)))) (N o64 (N o83 (N o118 (N o184 (N o320 Z Z) Z) (N o254 Z Z)) (N o152 (N o219 (N o352 Z Z) Z) (N o286 Z Z))) (N o102 (N o134 (N o203 (N o336 Z Z) Z) (N o270 Z Z)) (N o168 (N o235 Z Z) (N o304 Z Z)))))) (N b6 (N b10 (N o54 (N o70 (N o108 (N o174 (N o310 Z Z) Z) (N o244 Z Z)) (N o142 (N o209 (N o342 Z Z) Z) (N o276 Z Z))) (N o89 (N o124 (N o193 (N o326 Z Z) Z) (N o260 Z Z)) (N o158 (N o225 (N o358 Z Z) Z) (N o294 Z Z)))) (N o62 (N o81 (N o116 (N o182 (N o318 Z Z) Z) (N o252 Z Z)) (N o150 (N o217 (N o350 Z Z) Z) (N o284 Z Z))) (N o100 (N o132 (N o201 (N o334 Z Z) Z) (N o268 Z Z)) (N o166 (N o233 Z Z) (N o302 Z Z))))) (N o46 (N o58 (N o77 (N o112 (N o178 (N o314 Z Z) Z) (N o248 Z Z)) (N o146 (N o213 (N o346 Z Z) Z) (N o280 Z Z))) (N o96 (N o128 (N o197 (N o330 Z Z) Z) (N o264 Z Z)) (N o162 (N o229 (N o362 Z Z) Z) (N o298 Z Z)))) (N o66 (N o85 (N o120 (N o189 (N o322 Z Z) Z) (N o256 Z Z)) (N o154 (N o221 (N o354 Z Z) Z) (N o290 Z Z))) (N o104 (N o138 (N o205 (N o338 Z Z) Z) (N o272 Z Z)) (N o170 (N o240 Z Z) (N o306 Z Z))))))))
def tree435 : X->PySem.W.BT := (N b0 (N b1 (N o366 (N b7 (N o51 (N o95 (N o105 (N o171 (N o307 Z Z) Z) (N o241 (N o373 Z Z) Z)) (N o139 (N o206 (N o339 Z Z) Z) (N o273 (N o405 Z Z) Z))) (N o86 (N o121 (N o190 (N o323 Z Z) Z) (N o257 (N o389 Z Z) Z)) (N o155 (N o222 (N o355 Z Z) Z) (N o291 (N o421 Z Z) Z)))) (N o59 (N o78 (N o113 (N o179 (N o315 Z Z) Z) (N o249 (N o381 Z Z) Z)) (N o147 (N o214 (N o347 Z Z) Z) (N o281 (N o413 Z Z) Z))) (N o97 (N o129 (N o198 (N o331 Z Z) Z) (N o265 (N o397 Z Z) Z)) (N o163 (N o230 (N o363 Z Z) Z) (N o299 (N o429 Z Z) Z))))) (N o43 (N o55 (N o74 (N o109 (N o175 (N o311 Z Z) Z) (N o245 (N o377 Z Z) Z)) (N o143 (N o210 (N o343 Z Z) Z) (N o277 (N o409 Z Z) Z))) (N o90 (N o125 (N o194 (N o327 Z Z) Z) (N o261 (N o393 Z Z) Z)) (N o159 (N o226 (N o359 Z Z) Z) (N o295 (N o425 Z Z) Z)))) (N o63 (N o82 (N o117 (N o183 (N o319 Z Z) Z) (N o253 (N o385 Z Z) Z)) (N o151 (N o218 (N o351 Z Z) Z) (N o285 (N o417 Z Z) Z))) (N o101 (N o133 (N o202 (N o335 Z Z) Z) (N o269 (N o401 Z Z) Z)) (N o167 (N o234 (N o369 Z Z) Z) (N o303 (N o433 Z Z) Z)))))) (N b5 (N b9 (N o53 (N o69 (N o107 (N o173 (N o309 Z Z) Z) (N o243 (N o375 Z Z) Z)) (N o141 (N o208 (N o341 Z Z) Z) (N o275 (N o407 Z Z) Z))) (N o88 (N o123 (N o192 (N o325 Z Z) Z) (N o259 (N o391 Z Z) Z)) (N o157 (N o224 (N o357 Z Z) Z) (N o293 (N o423 Z Z) Z)))) (N o61 (N o80 (N o115 (N o181 (N o317 Z Z) Z) (N o251 (N o383 Z Z) Z)) (N o149 (N o216 (N o349 Z Z) Z) (N o283 (N o415 Z Z) Z))) (N o99 (N o131 (N o200 (N o333 Z Z) Z) (N o267 (N o399 Z Z) Z)) (N o165 (N o232 (N o365 Z Z) Z) (N o301 (N o431 Z Z) Z))))) (N o45 (N o57 (N o76 (N o111 (N o177 (N o313 Z Z) Z) (N o247 (N o379 Z Z) Z)) (N o145 (N o212 (N o345 Z Z) Z) (N o279 (N o411 Z Z) Z))) (N o92 (N o127 (N o196 (N o329 Z Z) Z) (N o263 (N o395 Z Z) Z)) (N o161 (N o228 (N o361 Z Z) Z) (N o297 (N o427 Z Z) Z)))) (N o65 (N o84 (N o119 (N o188 (N o321 Z Z) Z) (N o255 (N o387 Z Z) Z)) (N o153 (N o220 (N o353 Z Z) Z) (N o289 (N o419 Z Z) Z))) (N o103 (N o135 (N o204 (N o337 Z Z) Z) (N o271 (N o403 Z Z) Z)) (N o169 (N o239 (N o371 Z Z) Z) (N o305 (N o435 Z Z) Z))))))) (N b2 (N b4 (N b8 (N o52 (N o68 (N o106 (N o172 (N o308 Z Z) Z) (N o242 (N o374 Z Z) Z)) (N o140 (N o207 (N o340 Z Z) Z) (N o274 (N o406 Z Z) Z))) (N o87 (N o122 (N o191 (N o324 Z Z) Z) (N o258 (N o390 Z Z) Z)) (N o156 (N o223 (N o356 Z Z) Z) (N o292 (N o422 Z Z) Z)))) (N o60 (N o79 (N o114 (N o238 (N o316 Z Z) Z) (N o250 (N o382 Z Z) Z)) (N o148 (N o215 (N o348 Z Z) Z) (N o282 (N o414 Z Z) Z))) (N o98 (N o130 (N o199 (N o332 Z Z) Z) (N o266 (N o398 Z Z) Z)) (N o164 (N o231 (N o364 Z Z) Z) (N o300 (N o430 Z Z) Z))))) (N o367 (N o56 (N o75 (N o110 (N o176 (N o312 Z Z) Z) (N o246 (N o378 Z Z) Z)) (N o144 (N o211 (N o344 Z Z) Z) (N o278 (N o410 Z Z) Z))) (N o91 (N o126 (N o195 (N o328 Z Z) Z) (N o262 (N o394 Z Z) Z)) (N o160 (N o227 (N o360 Z Z) Z) (N o296 (N o426 Z Z) Z)))) (N o64 (N o83 (N o118 (N o184 (N o320 Z Z) Z) (N o254 (N o386 Z Z) Z)) (N o152 (N o219 (N o352 Z Z) Z) (N o286 (N o418 Z Z) Z))) (N o102 (N o134 (N o203 (N o336 Z Z) Z) (N o270 (N o402 Z Z) Z)) (N o168 (N o235 (N o370 Z Z) Z) (N o304 (N o434 Z Z) Z)))))) (N b6 (N b10 (N o54 (N o70 (N o108 (N o174 (N o310 Z Z) Z) (N o244 (N o376 Z Z) Z)) (N o142 (N o209 (N o342 Z Z) Z) (N o276 (N o408 Z Z) Z))) (N o89 (N o124 (N o193 (N o326 Z Z) Z) (N o260 (N o392 Z Z) Z)) (N o158 (N o225 (N o358 Z Z) Z) (N o294 (N o424 Z Z) Z)))) (N o62 (N o81 (N o116 (N o182 (N o318 Z Z) Z) (N o252 (N o384 Z Z) Z)) (N o150 (N o217 (N o350 Z Z) Z) (N o284 (N o416 Z Z) Z))) (N o100 (N o132 (N o201 (N o334 Z Z) Z) (N o268 (N o400 Z Z) Z)) (N o166 (N o233 (N o368 Z Z) Z) (N o302 (N o432 Z Z) Z))))) (N o46 (N o58 (N o77 (N o112 (N o178 (N o314 Z Z) Z) (N o248 (N o380 Z Z) Z)) (N o146 (N o213 (N o346 Z Z) Z) (N o280 (N o412 Z Z) Z))) (N o96 (N o128 (N o197 (N o330 Z Z) Z) (N o264 (N o396 Z Z) Z)) (N o162 (N o229 (N o362 Z Z) Z) (N o298 (N o428 Z Z) Z)))) (N o66 (N o85 (N o120 (N o189 (N o322 Z Z) Z) (N o256 (N o388 Z Z) Z)) (N o154 (N o221 (N o354 Z Z) Z) (N o290 (N o420 Z Z) Z))) (N o104 (N o138 (N o205 (N o338 Z Z) Z) (N o272 (N o404 Z Z) Z)) (N o170 (N o240 (N o372 Z Z) Z) (N o306 Z Z))))))))
def heap436 : X->PySem.Heap := fun x => u39 (u40 ((Q b0 (Q b1 (Q b2 (Q o366 (Q b4 (Q b5 (Q b6 (Q b7 (Q b8 (Q b9 (Q b10 (Q o43 (Q o367 (Q o45 (Q o46 (Q o51 (Q o52 (Q o53 (Q o54 (Q o55 (Q o56 (Q o57 (Q o58 (Q o59 (Q o60 (Q o61 (Q o62 (Q o63 (Q o64 (Q o65 (Q o66 (Q o95 (Q o68 (Q o69 (Q o70 (Q o74 (Q o75 (Q o76 (Q o77 (Q o78 (Q o79 (Q o80 (Q o81 (Q o82 (Q o83 (Q o84 (Q o85 (Q o86 (Q o87 (Q o88 (Q o89 (Q o90 (Q o91 (Q o92 (Q o96 (Q o97 (Q o98 (Q o99 (Q o100 (Q o101 (Q o102 (Q o103 (Q o104 (Q o105 (Q o106 (Q o107 (Q o108 (Q o109 (Q o110 (Q o111 (Q o112 (Q o113 (Q o114 (Q o115 (Q o116 (Q o117 (Q o118 (Q o119 (Q o120 (Q o121 (Q o122 (Q o123 (Q o124 (Q o125 (Q o126 (Q o127 (Q o128 (Q o129 (Q o130 (Q o131 (Q o132 (Q o133 (Q o134 (Q o135 (Q o138 (Q o139 (Q o140 (Q o141 (Q o142 (Q o143 (Q o144 (Q o145 (Q o146 (Q o147 (Q o148 (Q o149 (Q o150 (Q o151 (Q o152 (Q o153 (Q o154 (Q o155 (Q o156 (Q o157 (Q o158 (Q o159 (Q o160 (Q o161 (Q o162 (Q o163 (Q o164 (Q o165 (Q o166 (Q o167 (Q o168 (Q o169 (Q o170 (Q o171 (Q o172 (Q o173 (Q o174 (Q o175 (Q o176 (Q o177 (Q o178 (Q o179 (Q o238 (Q o181 (Q o182 (Q o183 (Q o184 (Q o188 (Q o189 (Q o190 (Q o191 (Q o192 (Q o193 (Q o194 (Q o195 (Q o196 (Q o197 (Q o198 (Q o199 (Q o200 (Q o201 (Q o202 (Q o203 (Q o204 (Q o205 (Q o206 (Q o207 (Q o208 (Q o209 (Q o210 (Q o211 (Q o212 (Q o213 (Q o214 (Q o215 (Q o216 (Q o217 (Q o218 (Q o219 (Q o220 (Q o221 (Q o222 (Q o223 (Q o224 (Q o225 (Q o226 (Q o227 (Q o228 (Q o229 (Q o230 (Q o231 (Q o232 (Q o233 (Q o234 (Q o235 (Q o239 (Q o240 (Q o241 (Q o242 (Q o243 (Q o244 (Q o245 (Q o246 (Q o247 (Q o248 (Q o249 (Q o250 (Q o251 (Q o252 (Q o253 (Q o254 (Q o255 (Q o256 (Q o257 (Q o258 (Q o259 (Q o260 (Q o261 (Q o262 (Q o263 (Q o264 (Q o265 (Q o266 (Q o267 (Q o268 (Q o269 (Q o270 (Q o271 (Q o272 (Q o273 (Q o274 (Q o275 (Q o276 (Q o277 (Q o278 (Q o279 (Q o280 (Q o281 (Q o282 (Q o283 (Q o284 (Q o285 (Q o286 (Q o289 (Q o290 (Q o291 (Q o292 (Q o293 (Q o294 (Q o295 (Q o296 (Q o297 (Q o298 (Q o299 (Q o300 (Q o301 (Q o302 (Q o303 (Q o304 (Q o305 (Q o306 (Q o307 (Q o308 (Q o309 (Q o310 (Q o311 (Q o312 (Q o313 (Q o314 (Q o315 (Q o316 (Q o317 (Q o318 (Q o319 (Q o320 (Q o321 (Q o322 (Q o323 (Q o324 (Q o325 (Q o326 (Q o327 (Q o328 (Q o329 (Q o330 (Q o331 (Q o332 (Q o333 (Q o334 (Q o335 (Q o336 (Q o337 (Q o338 (Q o339 (Q o340 (Q o341 (Q o342 (Q o343 (Q o344 (Q o345 (Q o346 (Q o347 (Q o348 (Q o349 (Q o350 (Q o351 (Q o352 (Q o353 (Q o354 (Q o355 (Q o356 (Q o357 (Q o358 (Q o359 (Q o360 (Q o361 (Q o362 (Q o363 (Q o364 (Q o365 (Q o368 (Q o369 (Q o370 (Q o371 (Q o372 (Q o373 (Q o374 (Q o375 (Q o376 (Q o377 (Q o378 (Q o379 (Q o380 (Q o381 (Q o382 (Q o383 (Q o384 (Q o385 (Q o386 (Q o387 (Q o388 (Q o389 (Q o390 (Q o391 (Q o392 (Q o393 (Q o394 (Q o395 (Q o396 (Q o397 (Q o398 (Q o399 (Q o400 (Q o401 (Q o402 (Q o403 (Q o404 (Q o405 (Q o406 (Q o407 (Q o408 (Q o409 (Q o410 (Q o411 (Q o412 (Q o413 (Q o414 (Q o415 (Q o416 (Q o417 (Q o418 (Q o419 (Q o420 (Q o421 (Q o422 (Q o423 (Q o424 (Q o425 (Q o426 (Q o427 (Q o428 (Q o429 (Q o430 (Q o431 (Q o432 (Q o433 (Q o434 (Q o435 R)))))))))))))))))))))))))))))))))))))))))))))))))))))))))))))))))))))))))))))))))))))))))))))))))))))))))))))))))))))))))))))))))))))))))))))))))))))))))))))))))))))))))))))))))))))))))))))))))))))))))))))))))))))))))))))))))))))))))))))))))))))))))))))))))))))))))))))))))))))))))))))))))))))))))))))))))))))))))))))))))))))))))))))))))))))))))))))))))))))))))))))))))))))))))))))) x)) (u43 u44 u44 u44 0 u45 u44 u15 (u46 u44) u44 0 u15 u15 u15 0 [2000, 10, 10] u15 0 u31 u44 u44 0 u15)
end
end Hd
noncomputable def PySem.W.Fast.tw14626198991214830386 : PySem.Params->PySem.W.Frag := fun P => Hd.heap39 (PySem.W.Fast.tw13745409909519247493, P)
theorem PySem.W.Fast.te14626198991214830386 : (fun P => Hd.heap39 (Hd.hs, P)) = PySem.W.Fast.tw14626198991214830386 := congrArg (fun σ P => Hd.heap39 (σ, P)) PySem.W.Fast.te13745409909519247493
noncomputable def PySem.W.Fast.tw5917755226804369562 : PySem.Params->PySem.Heap := fun P => Hd.heap46 (PySem.W.Fast.tw13745409909519247493, P)
theorem PySem.W.Fast.te5917755226804369562 : (fun P => Hd.heap46 (Hd.hs, P)) = PySem.W.Fast.tw5917755226804369562 := congrArg (fun σ P => Hd.heap46 (σ, P)) PySem.W.Fast.te13745409909519247493
noncomputable def PySem.W.Fast.tw1099814814095731112 : PySem.Params->PySem.W.BT := fun P => Hd.tree47 (PySem.W.Fast.tw13745409909519247493, P)
theorem PySem.W.Fast.te1099814814095731112 : (fun P => Hd.tree47 (Hd.hs, P)) = PySem.W.Fast.tw1099814814095731112 := congrArg (fun σ P => Hd.tree47 (σ, P)) PySem.W.Fast.te13745409909519247493
noncomputable def PySem.W.Fast.tw5888920657549620710 : PySem.Params->PySem.W.BT := fun P => Hd.tree70 (PySem.W.Fast.tw13745409909519247493, P)
theorem PySem.W.Fast.te5888920657549620710 : (fun P => Hd.tree70 (Hd.hs, P)) = PySem.W.Fast.tw5888920657549620710 := congrArg (fun σ P => Hd.tree70 (σ, P)) PySem.W.Fast.te13745409909519247493
noncomputable def PySem.W.Fast.tw15062447477791291520 : PySem.Params->PySem.W.BT := fun P => Hd.tree92 (PySem.W.Fast.tw13745409909519247493, P)
theorem PySem.W.Fast.te15062447477791291520 : (fun P => Hd.tree92 (Hd.hs, P)) = PySem.W.Fast.tw15062447477791291520 := congrArg (fun σ P => Hd.tree92 (σ, P)) PySem.W.Fast.te13745409909519247493
noncomputable def PySem.W.Fast.tw9960038618317877347 : PySem.Params->PySem.W.BT := fun P => Hd.tree135 (PySem.W.Fast.tw13745409909519247493, P)
theorem PySem.W.Fast.te9960038618317877347 : (fun P => Hd.tree135 (Hd.hs, P)) = PySem.W.Fast.tw9960038618317877347 := congrArg (fun σ P => Hd.tree135 (σ, P)) PySem.W.Fast.te13745409909519247493
noncomputable def PySem.W.Fast.tw11186623265670943885 : PySem.Params->PySem.W.BT := fun P => Hd.tree184 (PySem.W.Fast.tw13745409909519247493, P)
theorem PySem.W.Fast.te11186623265670943885 : (fun P => Hd.tree184 (Hd.hs, P)) = PySem.W.Fast.tw11186623265670943885 := congrArg (fun σ P => Hd.tree184 (σ, P)) PySem.W.Fast.te13745409909519247493
noncomputable def PySem.W.Fast.tw3917240237790656779 : PySem.Params->PySem.W.BT := fun P => Hd.tree235 (PySem.W.Fast.tw13745409909519247493, P)
theorem PySem.W.Fast.te3917240237790656779 : (fun P => Hd.tree235 (Hd.hs, P)) = PySem.W.Fast.tw3917240237790656779 := congrArg (fun σ P => Hd.tree235 (σ, P)) PySem.W.Fast.te13745409909519247493
noncomputable def PySem.W.Fast.tw14805508411792397075 : PySem.Params->PySem.W.BT := fun P => Hd.tree286 (PySem.W.Fast.tw13745409909519247493, P)
theorem PySem.W.Fast.te14805508411792397075 : (fun P => Hd.tree286 (Hd.hs, P)) = PySem.W.Fast.tw14805508411792397075 := congrArg (fun σ P => Hd.tree286 (σ, P)) PySem.W.Fast.te13745409909519247493
noncomputable def PySem.W.Fast.tw8869776782207305717 : PySem.Params->PySem.W.BT := fun P => Hd.tree365 (PySem.W.Fast.tw13745409909519247493, P)
theorem PySem.W.Fast.te8869776782207305717 : (fun P => Hd.tree365 (Hd.hs, P)) = PySem.W.Fast.tw8869776782207305717 := congrArg (fun σ P => Hd.tree365 (σ, P)) PySem.W.Fast.te13745409909519247493
noncomputable def PySem.W.Fast.tw6128922553350150317 : PySem.Params->PySem.W.BT := fun P => Hd.tree435 (PySem.W.Fast.tw13745409909519247493, P)
theorem PySem.W.Fast.te6128922553350150317 : (fun P => Hd.tree435 (Hd.hs, P)) = PySem.W.Fast.tw6128922553350150317 := congrArg (fun σ P => Hd.tree435 (σ, P)) PySem.W.Fast.te13745409909519247493
noncomputable def PySem.W.Fast.tw8292459324327254065 : PySem.Params->PySem.Heap := fun P => Hd.heap436 (PySem.W.Fast.tw13745409909519247493, P)
theorem PySem.W.Fast.te8292459324327254065 : (fun P => Hd.heap436 (Hd.hs, P)) = PySem.W.Fast.tw8292459324327254065 := congrArg (fun σ P => Hd.heap436 (σ, P)) PySem.W.Fast.te13745409909519247493
set_option maxRecDepth 100000 in
set_option maxHeartbeats 0 in
theorem PySem.Challenge.cw_keepsakes_k33_legs_of_a_shelf_holds : PySem.Challenge.rw_keepsakes_k33_legs_of_a_shelf.Holds := by
  w_on; o_law; k_head; (case hw => w_witness2)
  k_fill
  refine Mine.walk (l := PySem.Challenge.rw_keepsakes_k33_legs_of_a_shelf) rfl rfl rfl (fun w h Y => PySem.W.km_in_of Y) ?F
  case F =>
    intro w mg fa h KX G hmg
    refine' Mine.all_mk KX G hmg ?g_W ?a_KeepError ?a_NoPlace ?a_NoPiece ?a_Piece ?a_Whole ?a_Gain ?a_Shelf ?clg ?clt ?xo_KeepError ?xs_KeepError ?xg_KeepError ?xh_KeepError ?xc_KeepError ?kc_KeepError ?xo_NoPlace ?xs_NoPlace ?xg_NoPlace ?xh_NoPlace ?xc_NoPlace ?kc_NoPlace ?n_NoPlace_place ?xo_NoPiece ?xs_NoPiece ?xg_NoPiece ?xh_NoPiece ?xc_NoPiece ?kc_NoPiece ?n_NoPiece_number ?pg_Whole ?hd_Whole ?po_Whole ?sa_Whole ?mk_Whole ?kc_Whole ?n_Whole_day ?n_Whole_rows ?n_Whole_check ?n_Whole_fits ?pg_Gain ?hd_Gain ?po_Gain ?sa_Gain ?mk_Gain ?kc_Gain ?n_Gain_day ?n_Gain_rows ?n_Gain_check ?n_Gain_fits ?n_Gain_base ?pg_Shelf ?hd_Shelf ?po_Shelf ?sa_Shelf ?mk_Shelf ?kc_Shelf ?n_Shelf_pieces ?n_Shelf_follows ?a0 ?i0 ?l0 ?c0 ?k0 ?a1 ?i1 ?l1 ?c1 ?k1 ?a2 ?l2 ?c2 ?k2 ?xk_rate ?xt_rate ?xn_rate ?a3 ?l3 ?c3 ?k3 ?a4 ?l4 ?c4 ?k4 ?a5 ?l5 ?c5 ?k5 ?a6 ?i6 ?l6 ?c6 ?k6 ?a7 ?i7 ?l7 ?c7 ?k7 ?a8 ?i8 ?l8 ?c8 ?k8 ?a9 ?i9 ?l9 ?c9 ?k9 ?a10 ?i10 ?l10 ?c10 ?k10 ?y10 ?a11 ?i11 ?l11 ?c11 ?k11 ?a12 ?i12 ?l12 ?c12 ?k12 ?a13 ?i13 ?l13 ?c13 ?k13 ?y13 ?a14 ?i14 ?l14 ?c14 ?k14 ?a15 ?i15 ?l15 ?c15 ?k15 ?a16 ?i16 ?l16 ?c16 ?k16 ?a17 ?i17 ?l17 ?c17 ?k17 ?a18 ?i18 ?l18 ?c18 ?k18 ?a19 ?i19 ?l19 ?c19 ?k19 ?a20 ?i20 ?l20 ?c20 ?k20 ?a21 ?i21 ?l21 ?c21 ?k21 ?a22 ?l22 ?c22 ?k22 ?a23 ?l23 ?c23 ?k23 ?a24 ?l24 ?c24 ?k24 ?a25 ?l25 ?c25 ?k25 ?a26 ?l26 ?c26 ?k26 ?a27 ?l27 ?c27 ?k27 ?a28 ?l28 ?c28 ?k28 ?a29 ?l29 ?c29 ?k29 ?a30 ?l30 ?c30 ?k30 ?a31 ?l31 ?c31 ?k31 ?xk_law ?xt_law ?xn_law ?h_Whole_is_good ?h_Gain_is_good ?h_Whole_size ?h_Gain_size ?h_Whole_harmed ?h_Gain_harmed ?ga_Piece ?rd_Piece ?fc_Piece___init__ ?D_tabne ?z_len ?z_isinstance ?z_int ?z_bool ?z_list ?z_tuple ?z_range ?z_max ?z_sorted ?z_zip
    case g_W | a_KeepError | a_NoPlace | a_NoPiece | a_Piece | a_Whole | a_Gain | a_Shelf | clg | clt | xo_KeepError | xs_KeepError | xg_KeepError | xh_KeepError | xc_KeepError | kc_KeepError | xo_NoPlace | xs_NoPlace | xg_NoPlace | xh_NoPlace | xc_NoPlace | kc_NoPlace | n_NoPlace_place | xo_NoPiece | xs_NoPiece | xg_NoPiece | xh_NoPiece | xc_NoPiece | kc_NoPiece | n_NoPiece_number | pg_Whole | hd_Whole | po_Whole | sa_Whole | mk_Whole | kc_Whole | n_Whole_day | n_Whole_rows | n_Whole_check | n_Whole_fits | pg_Gain | hd_Gain | po_Gain | sa_Gain | mk_Gain | kc_Gain | n_Gain_day | n_Gain_rows | n_Gain_check | n_Gain_fits | n_Gain_base | pg_Shelf | hd_Shelf | po_Shelf | sa_Shelf | mk_Shelf | kc_Shelf | n_Shelf_pieces | n_Shelf_follows | a0 | i0 | l0 | c0 | k0 | a1 | i1 | l1 | c1 | k1 | a2 | l2 | c2 | k2 | xk_rate | xt_rate | xn_rate | a3 | l3 | c3 | k3 | a4 | l4 | c4 | k4 | a5 | l5 | c5 | k5 | a6 | i6 | l6 | c6 | k6 | a7 | i7 | l7 | c7 | k7 | a8 | i8 | l8 | c8 | k8 | a9 | i9 | l9 | c9 | k9 | a10 | i10 | l10 | c10 | k10 | y10 | a11 | i11 | l11 | c11 | k11 | a12 | i12 | l12 | c12 | k12 | a13 | i13 | l13 | c13 | k13 | y13 | a14 | i14 | l14 | c14 | k14 | a15 | i15 | l15 | c15 | k15 | a16 | i16 | l16 | c16 | k16 | a17 | i17 | l17 | c17 | k17 | a18 | i18 | l18 | c18 | k18 | a19 | i19 | l19 | c19 | k19 | a20 | i20 | l20 | c20 | k20 | a21 | i21 | l21 | c21 | k21 | a22 | l22 | c22 | k22 | a23 | l23 | c23 | k23 | a24 | l24 | c24 | k24 | a25 | l25 | c25 | k25 | a26 | l26 | c26 | k26 | a27 | l27 | c27 | k27 | a28 | l28 | c28 | k28 | a29 | l29 | c29 | k29 | a30 | l30 | c30 | k30 | a31 | l31 | c31 | k31 | xk_law | xt_law | xn_law | h_Whole_is_good | h_Gain_is_good | h_Whole_size | h_Gain_size | h_Whole_harmed | h_Gain_harmed | ga_Piece | rd_Piece | fc_Piece___init__ | D_tabne | z_len | z_isinstance | z_int | z_bool | z_list | z_tuple | z_range | z_max | z_sorted | z_zip => first | k_is | kit_is | kernel_rfl | decide
