import PyProof.Rows.All
import Wide.All
import OpenK.AllK
import Wide.FinOn
import Lean
import PyProof.EqAt
import PyProof.EqKinds
import PyProof.TupleCall
import PyProof.AttrMissHeap
import PyProof.MinMaxWalk
import PyProof.WalkInts
import PyProof.Rows.StrNews2
import PySem.Challenge.RW_keepsakes_k46_texts_that_write_no_rule
set_option Elab.async false
set_option linter.all false
set_option maxRecDepth 100000
namespace L2
open PySem PySem.Spec PyProof.Rows
abbrev Key := Sum Int Str
def keyIs : Key->Value->Bool
  | .inl k, v => Value.isInt k v
  | .inr x, v => Value.isStrOf x v
def keyH (w : World) : Key->Int
  | .inl k => hashInt k
  | .inr x => hashStr w x
theorem keyIs_shape : ∀ {k : Key} {v : Value}, keyIs k v = true->(∃ i t, k = Sum.inl i /\ v = Value.int i t) ∨ (∃ x t, k = Sum.inr x /\ v = Value.str x t)
  | .inl i, v, h => by
    obtain ⟨t, e⟩ := Value.isInt_shape (k := i) (v := v) h
    exact .inl ⟨i, t, rfl, e⟩
  | .inr x, v, h => by
    obtain ⟨t, e⟩ := Value.isStrOf_shape (x := x) (v := v) h
    exact .inr ⟨x, t, rfl, e⟩
theorem keyIs_int (i : Int) (t : Tok) : keyIs (.inl i) (.int i t) = true := by simp [keyIs, Value.isInt]
theorem keyIs_str (x : Str) (t : Tok) : keyIs (.inr x) (.str x t) = true := by simp [keyIs, Value.isStrOf]
theorem key_ll (a b : Int) : decide ((Sum.inl a : Key) = Sum.inl b) = (a == b) := by
  by_cases e : a = b
  · subst e; simp
  · have h : ¬ (Sum.inl a : Key) = Sum.inl b := fun q => e (Sum.inl.inj q)
    rw [decide_eq_false h]
    exact (beq_eq_false_iff_ne.mpr e).symm
theorem key_rr (a b : Str) : decide ((Sum.inr a : Key) = Sum.inr b) = decide (a = b) := by
  by_cases e : a = b
  · subst e; simp
  · have h : ¬ (Sum.inr a : Key) = Sum.inr b := fun q => e (Sum.inr.inj q)
    rw [decide_eq_false h, decide_eq_false e]
theorem key_lr (a : Int) (b : Str) : decide ((Sum.inl a : Key) = Sum.inr b) = false := decide_eq_false (fun q => nomatch q)
theorem key_rl (a : Str) (b : Int) : decide ((Sum.inr a : Key) = Sum.inl b) = false := decide_eq_false (fun q => nomatch q)
def mixKind (prog : Program) (w : World) : PySem.KeyKind prog w Key where
  is := keyIs
  hash := keyH w
  inj := fun v a b ha hb => by
    rcases keyIs_shape ha with ⟨i, t, rfl, rfl⟩ | ⟨x, t, rfl, rfl⟩
    · rcases keyIs_shape hb with ⟨j, u, rfl, e⟩ | ⟨y, u, rfl, e⟩
      · injection e with e1 _; rw [e1]
      · exact nomatch e
    · rcases keyIs_shape hb with ⟨j, u, rfl, e⟩ | ⟨y, u, rfl, e⟩
      · exact nomatch e
      · injection e with e1 _; rw [e1]
  byValue := fun k v h => by
    rcases keyIs_shape h with ⟨i, t, rfl, rfl⟩ | ⟨x, t, rfl, rfl⟩ <;> rfl
  pyHash := fun hv h => by
    rcases keyIs_shape hv with ⟨i, t, rfl, rfl⟩ | ⟨x, t, rfl, rfl⟩
    · exact wpAny_pyHash_int h
    · exact wpAny_pyHash_str h
  eqBool := fun hu hv h => by
    rcases keyIs_shape hu with ⟨i, t, rfl, rfl⟩ | ⟨x, t, rfl, rfl⟩
    · rcases keyIs_shape hv with ⟨j, u, rfl, rfl⟩ | ⟨y, u, rfl, rfl⟩
      · rw [key_ll] at h; exact wpAny_eqBool_int h
      · rw [key_lr] at h; exact SeqAt.EqAt.int_str i t y u _ _ _ _ h
    · rcases keyIs_shape hv with ⟨j, u, rfl, rfl⟩ | ⟨y, u, rfl, rfl⟩
      · rw [key_rl] at h; exact SeqAt.EqAt.str_int x t j u _ _ _ _ h
      · rw [key_rr] at h; exact wpAny_eqBool_str h
  «strs» := fun k x t v h => by
    rcases keyIs_shape h with ⟨i, u, rfl, e⟩ | ⟨y, u, rfl, e⟩
    · exact nomatch e
    · injection e with e1 _
      subst e1
      cases v <;> rfl
theorem mixKind_int (prog : Program) (w : World) (i : Int) (t : Tok) : (mixKind prog w).is (.inl i) (.int i t) = true := keyIs_int i t
theorem mixKind_str (prog : Program) (w : World) (x : Str) (t : Tok) : (mixKind prog w).is (.inr x) (.str x t) = true := keyIs_str x t
open PySem PySem.Spec PyProof.Rows
inductive V where
  | non | bl (b : Bool) | int (i : Int) | str (x : Str) | byt (b : Array UInt8) | flt (b : UInt64) | ref (a : Addr) | ty (n : String)
  deriving DecidableEq
def RelV : V->Value->Prop
  | .non, u => u = Value.none
  | .bl b, u => u = Value.bool b
  | .int i, u => ∃ t, u = Value.int i t
  | .str x, u => ∃ t, u = Value.str x t
  | .byt b, u => ∃ t, u = Value.bytes b t
  | .flt b, u => ∃ t, u = Value.float b t
  | .ref a, u => u = Value.ref a
  | .ty n, u => u = Value.type n
abbrev Vals : List V->List Value->Prop := Paired RelV
theorem Vals.length {xs : List V} {us : List Value} (r : Vals xs us) : xs.length = us.length := Paired.length r
theorem Vals.get : ∀ {xs : List V} {us : List Value} {i : Nat} {x : V}, Vals xs us->xs[i]? = some x->∃ u, us[i]? = some u /\ RelV x u
  | _, _, _, _, .nil, e => by simp at e
  | _, _, 0, _, .cons r _, e => by simp at e; subst e; exact ⟨_, rfl, r⟩
  | _, _, i + 1, x, .cons _ t, e => by
    obtain ⟨u, h1, h2⟩ := Vals.get (i := i) (x := x) t (by simpa using e)
    exact ⟨u, by simpa using h1, h2⟩
theorem Vals.append : ∀ {xs ys : List V} {us ws : List Value}, Vals xs us->Vals ys ws->Vals (xs ++ ys) (us ++ ws)
  | _, _, _, _, .nil, s => s
  | _, _, _, _, .cons r t, s => .cons r (Vals.append t s)
theorem Vals.take : ∀ {xs : List V} {us : List Value} (n : Nat), Vals xs us->Vals (xs.take n) (us.take n)
  | _, _, 0, _ => .nil
  | _, _, _ + 1, .nil => .nil
  | _, _, n + 1, .cons r t => .cons r (Vals.take n t)
theorem Vals.drop : ∀ {xs : List V} {us : List Value} (n : Nat), Vals xs us->Vals (xs.drop n) (us.drop n)
  | _, _, 0, r => r
  | _, _, _ + 1, .nil => .nil
  | _, _, n + 1, .cons _ t => Vals.drop n t
def RelO : Option V->Option Value->Prop
  | some v, some u => RelV v u
  | none, none => True
  | _, _ => False
def KV {κ : Type} : List (κ × V)->List (κ × Value)->Prop := Paired fun (p : κ × V) (q : κ × Value) => p.1 = q.1 /\ RelV p.2 q.2
def kV : Key->V
  | .inl i => .int i
  | .inr x => .str x
inductive HO where
    | lst (xs : List V)
    | tup (xs : List V)
    | dK (kvs : List (Key × V)) | dT (kvs : List (List Key × V))
    | set (S : Int->Bool) (n : Nat)
    | ins (C dx : Addr) (fs : List (Str × V))
    | own (x : Addr)
    | xd (fs : List (Str × V))
    | met (f x : Addr)
    | rng (lo hi : Int)
    | frz (o : Obj) (u : HO)
    | tbl (ps : Array Value)
    | ext (φ : Heap->Prop)
abbrev Hp := Addr->Option HO
def upd (H : Hp) (a : Addr) (o : HO) : Hp := fun b => if b = a then some o else H b
theorem upd_same {H : Hp} {a : Addr} {o : HO} : upd H a o a = some o := by unfold upd; rw [if_pos rfl]
theorem upd_ne {H : Hp} {a b : Addr} {o : HO} (h : b ≠ a) : upd H a o b = H b := by unfold upd; rw [if_neg h]
theorem upd_upd {H : Hp} {a : Addr} {o u : HO} : upd (upd H a o) a u = upd H a u := by
  funext b; unfold upd; split <;> rfl
theorem ne_of_none {H : Hp} {a b : Addr} {o : HO} (h : H a = some o) (h' : H b = none) : a ≠ b := by
  intro e; subst e; rw [h] at h'; cases h'
section
variable (P : Program) (w : World)
def ObjOk (H : Hp) (h : Heap) (a : Addr) : HO->Prop
  | .lst xs => xs.length ≤ sizeLine /\ ∃ (its : List Value) (n : Nat), Vals xs its /\ h.get? a = some { cls := .type "list", data := .seq its.toArray n }
  | .tup xs => xs.length ≤ sizeLine /\ ∃ its : List Value, Vals xs its /\ IsTup h a its.toArray
  | .dK kvs => kvs.length ≤ sizeLine /\ (a == sysModules) = false /\ ∃ vs, KV kvs vs /\ h.DictOf (mixKind P w) a vs
  | .dT kvs => kvs.length ≤ sizeLine /\ (a == sysModules) = false /\ ∃ xs : List (List Key × Addr × Value),
      Paired (fun (p : List Key × V) (q : List Key × Addr × Value) => p.1 = q.1 /\ H q.2.1 = some (.tup (p.1.map kV)) /\ RelV p.2 q.2.2) kvs xs ∧
      ∃ o es ep, h.get? a = some o /\ o.ExactDict /\ o.data = .dict es ep /\ es.toList = xs.map (entryOfKey (tupleKind (mixKind P w))) /\ (xs.map (·.1)).Nodup
  | .set S n => h.SetOf (intKind P w) a S n
  | .ins C dx fs => H dx = some (.own a) /\ fs.length ≤ 1000 /\ dx ≠ a /\ h.get? a = some (PySem.W.instObj C dx) ∧
      ∃ mA, h.Ns1 dx mA /\ (∀ f, RelO (fs.lookup f) (mA f)) /\ PySem.Within mA (fs.map (·.1))
  | .own _ => ∃ o, h.get? a = some o
  | .xd fs => ∃ mA, h.Ns1 a mA /\ ∀ f, RelO (fs.lookup f) (mA f)
  | .rng lo hi => ∃ t u v, h.get? a = some { cls := .type "range", data := .fields #[.int lo t, .int hi u, .int 1 v] }
  | .frz o u => h.get? a = some o /\ ObjOk H h a u
  | .tbl ps => h.get? a = some { cls := .none, data := .fields ps }
  | .met f x => h.get? a = some (PySem.W.methodObj (.ref f) (.ref x))
  | .ext φ => φ h /\ (∃ o, h.get? a = some o) /\ ∀ h1 h2 : Heap, φ h1->(∀ o, h1.get? a = some o->h2.get? a = some o)->φ h2
def HOk (H : Hp) (h : Heap) : Prop := ∀ a o, H a = some o->ObjOk P w H h a o
end
section
variable {P : Program} {w : World} {H H' : Hp} {h h' : Heap} {a : Addr} {o : HO}
theorem ObjOk.lt (x : ObjOk P w H h a o) : a < h.objs.size := by
  cases o with
  | lst xs => obtain ⟨_, _, _, _, e⟩ := x; exact Heap.lt_size e
  | tup xs => obtain ⟨_, _, _, p⟩ := x; exact p.lt
  | dK kvs => obtain ⟨_, _, _, _, o, _, _, e, _⟩ := x; exact Heap.lt_size e
  | dT kvs => obtain ⟨_, _, _, _, o, _, _, e, _⟩ := x; exact Heap.lt_size e
  | set S n => obtain ⟨o, _, _, _, e, _⟩ := x; exact Heap.lt_size e
  | ins C dx fs => obtain ⟨_, _, _, e, _⟩ := x; exact Heap.lt_size e
  | own y => obtain ⟨_, e⟩ := x; exact Heap.lt_size e
  | xd fs => obtain ⟨_, ⟨_, _, _, e, _⟩, _⟩ := x; exact Heap.lt_size e
  | rng lo hi => obtain ⟨_, _, _, e⟩ := x; exact Heap.lt_size e
  | frz ob u => obtain ⟨e, _⟩ := x; exact Heap.lt_size e
  | tbl ps => exact Heap.lt_size (show h.get? a = some _ from x)
  | met f y => exact Heap.lt_size (show h.get? a = some _ from x)
  | ext φ => obtain ⟨_, ⟨_, e⟩, _⟩ := x; exact Heap.lt_size e
theorem Paired.mapP {α β : Type} {F G : α->β->Prop} : ∀ {l₁ : List α} {l₂ : List β}, Paired F l₁ l₂->(∀ a b, F a b->G a b)->Paired G l₁ l₂
  | _, _, .nil, _ => .nil
  | _, _, .cons r t, f => .cons (f _ _ r) (Paired.mapP t f)
theorem ObjOk.stay (x : ObjOk P w H h a o) (k : ∀ b u, (b = a ∨ H b = some (.own a))->h.get? b = some u->h'.get? b = some u)
    (ho : ∀ b, H b = some (.own a)->H' b = some (.own a)) (ht : ∀ b xs, H b = some (.tup xs)->H' b = some (.tup xs)) : ObjOk P w H' h' a o := by
  induction o with
  | lst xs => obtain ⟨z, its, n, r, e⟩ := x; exact ⟨z, its, n, r, k _ _ (.inl rfl) e⟩
  | tup xs => obtain ⟨z, its, r, ob, e, c⟩ := x; exact ⟨z, its, r, ob, k _ _ (.inl rfl) e, c⟩
  | dK kvs => obtain ⟨z, y, vs, r, ob, es, ep, e, c⟩ := x; exact ⟨z, y, vs, r, ob, es, ep, k _ _ (.inl rfl) e, c⟩
  | dT kvs =>
    obtain ⟨z, y, xs, r, ob, es, ep, e, c⟩ := x
    exact ⟨z, y, xs, Paired.mapP r fun p q z => ⟨z.1, ht _ _ z.2.1, z.2.2⟩, ob, es, ep, k _ _ (.inl rfl) e, c⟩
  | set S n => obtain ⟨ob, es, ep, t, e, c⟩ := x; exact ⟨ob, es, ep, t, k _ _ (.inl rfl) e, c⟩
  | ins C dx fs =>
    obtain ⟨d, z, ne, e, mA, ⟨od, es, ep, e2, c⟩, r⟩ := x
    exact ⟨ho _ d, z, ne, k _ _ (.inl rfl) e, mA, ⟨od, es, ep, k _ _ (.inr d) e2, c⟩, r⟩
  | own y => obtain ⟨ob, e⟩ := x; exact ⟨ob, k _ _ (.inl rfl) e⟩
  | xd fs => obtain ⟨mA, ⟨od, es, ep, e, c⟩, r⟩ := x; exact ⟨mA, ⟨od, es, ep, k _ _ (.inl rfl) e, c⟩, r⟩
  | rng lo hi => obtain ⟨t, u, v, e⟩ := x; exact ⟨t, u, v, k _ _ (.inl rfl) e⟩
  | frz ob u ih => obtain ⟨e, q⟩ := x; exact ⟨k _ _ (.inl rfl) e, ih q⟩
  | tbl ps =>
    have e : h.get? a = some { cls := .none, data := .fields ps } := x
    show h'.get? a = some { cls := .none, data := .fields ps }
    exact k a _ (.inl rfl) e
  | met f y =>
    have e : h.get? a = some (PySem.W.methodObj (.ref f) (.ref y)) := x
    show h'.get? a = some (PySem.W.methodObj (.ref f) (.ref y))
    exact k a _ (.inl rfl) e
  | ext φ => obtain ⟨p, ⟨o, e⟩, st⟩ := x; exact ⟨st _ _ p fun o q => k _ _ (.inl rfl) q, ⟨o, k _ _ (.inl rfl) e⟩, st⟩
theorem HOk.lt (x : HOk P w H h) (e : H a = some o) : a < h.objs.size := (x a o e).lt
theorem HOk.fresh (x : HOk P w H h) (e : h.objs.size ≤ a) : H a = none := by
  cases q : H a with
  | none => rfl
  | some u => exact absurd (Nat.lt_of_lt_of_le (x.lt q) e) (Nat.lt_irrefl _)
theorem HOk.kept (x : HOk P w H h) (k : ∀ b u, h.get? b = some u->h'.get? b = some u) : HOk P w H h' := fun a o e =>
  (x a o e).stay (fun b u _ q => k b u q) (fun _ q => q) fun _ _ q => q
theorem HOk.laid (x : HOk P w H h) (k : ∀ b u, h.get? b = some u->h'.get? b = some u) (hp : h.objs.size ≤ a) (new : ObjOk P w (upd H a o) h' a o) : HOk P w (upd H a o) h' := fun b u e => by
  have hn := x.fresh hp
  by_cases hb : b = a
  · subst hb; rw [upd_same] at e; cases e; exact new
  · rw [upd_ne hb] at e
    exact (x b u e).stay (fun c v _ q => k c v q) (fun c q => by rw [upd_ne (ne_of_none q hn)]; exact q) fun c xs q => by rw [upd_ne (ne_of_none q hn)]; exact q
end
def Rd (H : Hp) (a : Addr) (u : HO) : Prop := H a = some u ∨ ∃ o, H a = some (.frz o u)
theorem Rd.ok {P : Program} {w : World} {H : Hp} {h : Heap} {a : Addr} {u : HO} (r : Rd H a u) (x : HOk P w H h) : ObjOk P w H h a u := by
  rcases r with r | ⟨o, r⟩
  · exact x a u r
  · obtain ⟨_, q⟩ := x a _ r
    exact q
def Mut : Option HO->Prop
  | some (.lst _) => True
  | some (.dK _) => True
  | some (.dT _) => True
  | some (.set _ _) => True
  | some (.ins _ _ _) => True
  | some (.ext _) => True
  | _ => False
section
variable {P : Program} {w : World} {H : Hp} {h h' : Heap} {x e : Addr} {o' : HO}
theorem HOk.write (ok : HOk P w H h) (mu : Mut (H x)) (he : e = x ∨ H e = some (.own x)) (k : ∀ b u, b ≠ e->h.get? b = some u->h'.get? b = some u) (heo : ∃ u, h'.get? e = some u)
    (new : ObjOk P w (upd H x o') h' x o') : HOk P w (upd H x o') h' := fun b u q => by
  have nown : ∀ c y, H c = some (.own y)->c ≠ x := fun c y r z => by subst z; rw [r] at mu; exact mu
  have ntup : ∀ c xs, H c = some (.tup xs)->c ≠ x := fun c xs r z => by subst z; rw [r] at mu; exact mu
  by_cases hb : b = x
  · subst hb; rw [upd_same] at q; cases q; exact new
  · rw [upd_ne hb] at q
    by_cases hbe : b = e
    · have q' : H b = some (.own x) := by
        rcases he with z | z
        · exact absurd (hbe.trans z) hb
        · rw [hbe]; exact z
      rw [q] at q'; cases q'
      obtain ⟨v, hv⟩ := heo
      exact ⟨v, by rw [hbe]; exact hv⟩
    · refine (ok b u q).stay (fun c v hc r => k c v ?_ r) (fun c r => by rw [upd_ne (nown c b r)]; exact r) fun c xs r => by rw [upd_ne (ntup c xs r)]; exact r
      rcases hc with rfl | hc
      · exact hbe
      · rintro rfl
        rcases he with z | z
        · exact nown c b hc z
        · rw [hc] at z; cases z; exact hb rfl
end
structure Un (fs ex : List Addr) (H H' : Hp) (h h' : Heap) : Prop where
  keep : ∀ b o, h.get? b = some o->H b = none->b ∉ fs->b ∉ ex->h'.get? b = some o
  slot : ∀ b o, h.get? b = some o->H b = none->b ∈ fs->b ∉ ex->∃ sl, h'.get? b = some { o with slots := sl }
  free : ∀ b o, h.get? b = some o->H b = none->b ∉ ex->H' b = none
  there : ∀ b o, h.get? b = some o->b ∉ ex->∃ o', h'.get? b = some o'
  tups : ∀ b xs, H b = some (.tup xs)->H' b = some (.tup xs)
  frzs : ∀ b o u, H b = some (.frz o u)->H' b = some (.frz o u)
  tbls : ∀ b ps, H b = some (.tbl ps)->∃ more, H' b = some (.tbl (ps ++ more))
section
variable {fs fs' ex ex' : List Addr} {H H1 H2 : Hp} {h h1 h2 h' : Heap} {a x e : Addr} {o : HO}
theorem Un.any (u : Un fs ex H H1 h h1) {b : Addr} {ob : Obj} (q : h.get? b = some ob) (n : H b = none) (hx : b ∉ ex) : ∃ sl, h1.get? b = some { ob with slots := sl } := by
  by_cases hb : b ∈ fs
  · exact u.slot b ob q n hb hx
  · exact ⟨ob.slots, u.keep b ob q n hb hx⟩
theorem Un.kept (k : ∀ b u, h.get? b = some u->h'.get? b = some u) : Un fs ex H H h h' :=
  ⟨fun b ob q _ _ _ => k b ob q, fun b ob q _ _ _ => ⟨ob.slots, k b ob q⟩, fun _ _ _ n _ => n, fun b ob q _ => ⟨ob, k b ob q⟩, fun _ _ q => q, fun _ _ _ q => q, fun _ ps q => ⟨#[], by rw [q]; simp⟩⟩
theorem Un.refl : Un fs ex H H h h := Un.kept fun _ _ q => q
theorem Un.laid (k : ∀ b u, h.get? b = some u->h'.get? b = some u) (hp : h.objs.size ≤ a) (hn : H a = none) : Un fs ex H (upd H a o) h h' where
  keep := fun b u q _ _ _ => k b u q
  slot := fun b u q _ _ _ => ⟨u.slots, k b u q⟩
  free := fun b u q n _ => by rw [upd_ne (Nat.ne_of_lt (Nat.lt_of_lt_of_le (Heap.lt_size q) hp))]; exact n
  there := fun b u q _ => ⟨u, k b u q⟩
  tups := fun b xs q => by rw [upd_ne (ne_of_none q hn)]; exact q
  frzs := fun b u xs q => by rw [upd_ne (ne_of_none q hn)]; exact q
  tbls := fun b ps q => ⟨#[], by rw [upd_ne (ne_of_none q hn), q]; simp⟩
theorem Un.write (mu : Mut (H x)) (he : e = x ∨ H e = some (.own x)) (k : ∀ b u, b ≠ e->h.get? b = some u->h'.get? b = some u) (heo : ∃ u, h'.get? e = some u) : Un fs ex H (upd H x o) h h' := by
  have hx : ∀ b, H b = none->b ≠ x := fun b n z => by subst z; rw [n] at mu; exact mu
  have hb : ∀ b, H b = none->b ≠ e := fun b n z => by
    subst z
    rcases he with r | r
    · exact hx b n r
    · rw [n] at r; cases r
  have hm : ∀ b u, H b = some u->¬ Mut (some u)->b ≠ x := fun b u q nm z => by subst z; rw [q] at mu; exact nm mu
  refine ⟨fun b u q n _ _ => k b u (hb b n) q, fun b u q n _ _ => ⟨u.slots, k b u (hb b n) q⟩, fun b u q n _ => by rw [upd_ne (hx b n)]; exact n, fun b u q _ => ?_,
    fun b xs q => by rw [upd_ne (hm b _ q fun z => z)]; exact q, fun b u xs q => by rw [upd_ne (hm b _ q fun z => z)]; exact q, fun b ps q => ⟨#[], by rw [upd_ne (hm b _ q fun z => z), q]; simp⟩⟩
  by_cases hbe : b = e
  · subst hbe; exact heo
  · exact ⟨u, k b u hbe q⟩
end
def trk (h : Heap) (H : Hp) : List Addr := (List.range h.objs.size).filter fun a => (H a).isSome
def hidT (h : Heap) (H : Hp) : Heap := PySem.W.hideAll h (trk h H)
theorem hidT_size (h : Heap) (H : Hp) : (hidT h H).objs.size = h.objs.size := PySem.W.hideAll_size _ _
theorem hidT_get {h : Heap} {H : Hp} {b : Addr} {o : Obj} (e : h.get? b = some o) (n : H b = none) : (hidT h H).get? b = some o :=
  PySem.W.hideAll_get _ e fun hm => by
    have q : (H b).isSome = true := (List.mem_filter.mp hm).2
    rw [n] at q; simp at q
theorem of_hidT {h : Heap} {H : Hp} {b : Addr} {o : Obj} (e : (hidT h H).get? b = some o) : h.get? b = some o /\ H b = none := by
  have e' : h.get? b = some o := PySem.W.of_hideAll (trk h H) e
  refine ⟨e', ?_⟩
  cases q : H b with
  | none => rfl
  | some x =>
    have hm : b ∈ trk h H := List.mem_filter.mpr ⟨List.mem_range.mpr (Heap.lt_size e'), by simp [q]⟩
    have z : (hidT h H).get? b = none := PySem.W.hideAll_none (trk h H) hm
    rw [z] at e; cases e
def allNews (g h : Heap) (L : Addr) : List (Addr × Obj) := (List.range h.objs.size).filterMap fun a => if a = L ∨ (g.get? a).isSome = true then none else (h.get? a).map fun o => (a, o)
def rest (g h : Heap) (L d : Addr) : List (Addr × Obj) := (allNews g h L).filter fun p => decide (p.1 ≠ d)
open PySem PySem.Spec PyProof.Rows
structure Mod (K : PySem.W.Frag) (mg : Str->Option Value) (base : Heap) : Prop where
  kin : K.In base
  glob : base.Ns mainGlobals mg
  blt : ∃ mb, base.Ns builtinsNs mb /\ ∀ x : Str, x ≠ "__name__"->mb x = bootBuiltins x
  nolimit : base.NoLimit
structure Cx where
  prog : Program
  w : World
  K : PySem.W.Frag
  mg : Str->Option Value
  base : Heap
  A : Around
  N : List Str
  s₀ : Shared
  H₀ : Hp
  env : Env
  outer : List Env
  stack : List Env
  ex : List Addr
  fn : Str->Bool
  calm : Bool
  pn : List (Addr × Obj)
  xe : Value->Shared->Prop
def frs (l : List Env) : List Addr := l.filterMap (·.frame)
abbrev Cx.fs (X : Cx) : List Addr := frs X.outer
def Vis (sc : Scope) (x : Str) : Prop := sc.names.lookup x = some .local ∨ sc.names.lookup x = some .cell ∨ sc.names.lookup x = some .free
def Loc (sc : Scope) (x : Str) : Prop := sc.names.lookup x = some .local ∨ sc.names.lookup x = some .cell
def Look (env : Env) (h : Heap) (m : Str->Option Value) (x : Str) (u : Value) : Prop :=
  (env.kindOf x = some .local /\ m x = some u) ∨ ((env.kindOf x = some .cell ∨ env.kindOf x = some .free) /\ ∃ c, env.cells.lookup x = some c /\ h.IsCell c (some u))
structure Cx.Ok (X : Cx) : Prop where
  mod : Mod X.K X.mg X.base
  kind : X.env.scope.kind = .function
  glob : X.env.globals = mainGlobals
  blt : X.env.builtins = builtinsNs
  above : X.s₀.heap.objs.size ≤ X.env.locals
  inj : ∀ x y c, X.env.cells.lookup x = some c->X.env.cells.lookup y = some c->x = y
  has : ∀ x, (X.env.kindOf x = some .cell ∨ X.env.kindOf x = some .free)->∃ c, X.env.cells.lookup x = some c
  cab : ∀ x c, X.fn x = true->X.env.cells.lookup x = some c->X.s₀.heap.objs.size ≤ c
  hd : X.calm = true->X.A.handled = none
  frames : X.A.frames = some X.stack
  stk : X.stack = X.outer ∨ (X.stack = X.env :: X.outer /\ X.env.frame = some X.env.locals)
  exf : ∀ b ∈ X.ex, b ≠ X.env.locals /\ ∀ x c, X.env.cells.lookup x = some c->c ≠ b
  bs : ∀ b o, X.base.get? b = some o->X.s₀.heap.get? b = some o /\ X.H₀ b = none
  bsz : X.base.objs.size ≤ X.s₀.heap.objs.size
  noex : ∀ b o, X.base.get? b = some o->b ∉ X.ex
  exfs : ∀ b ∈ X.ex, b ∉ X.fs
  funs : X.s₀.heap.FunFrames X.base X.outer
  frf : ∀ b ∈ X.fs, X.H₀ b = none
structure Inv (X : Cx) (pins : List (Addr × Obj)) (σ : List (Option V)) (H : Hp) (s : Shared) : Prop where
  ok : X.Ok
  os : s.os = X.s₀.os
  bare : AllBare s.gens
  base : Un X.fs X.ex X.H₀ H X.s₀.heap s.heap
  loc : ∃ m, s.heap.Ns X.env.locals m /\ ∀ (i : Nat) (x : Str) (v : V), X.N[i]? = some x->σ[i]? = some (some v)->Vis X.env.scope x->∃ u, RelV v u /\ Look X.env s.heap m x u
  cell : ∀ x c, X.env.cells.lookup x = some c->∃ v, s.heap.IsCell c v
  free : H X.env.locals = none
  freeC : ∀ x c, X.env.cells.lookup x = some c->H c = none
  pin : ∀ p ∈ X.pn ++ pins, s.heap.get? p.1 = some p.2 /\ H p.1 = none /\ p.1 ≠ X.env.locals /\ p.1 ∉ X.fs /\ ∀ v, p.2.data ≠ .cell v
  hok : HOk X.prog X.w H s.heap
  len : σ.length = X.N.length
section
variable {X : Cx} {pins : List (Addr × Obj)} {σ : List (Option V)} {H H' : Hp} {s : Shared} {h' : Heap}
theorem Cx.Ok.nofr (ok : X.Ok) {b : Addr} {o : Obj} (e : X.base.get? b = some o) : b ∉ X.fs := fun hb => by
  have := (ok.funs.mem hb).1
  rw [e] at this; cases this
theorem Inv.bs (I : Inv X pins σ H s) : ∀ b o, X.base.get? b = some o->s.heap.get? b = some o /\ H b = none := fun b o e =>
  ⟨I.base.keep b o (I.ok.bs b o e).1 (I.ok.bs b o e).2 (I.ok.nofr e) (I.ok.noex b o e), I.base.free b o (I.ok.bs b o e).1 (I.ok.bs b o e).2 (I.ok.noex b o e)⟩
theorem Inv.bk (I : Inv X pins σ H s) : ∀ b o, X.base.get? b = some o->s.heap.get? b = some o := fun b o e => (I.bs b o e).1
theorem Inv.mod (I : Inv X pins σ H s) : Mod X.K X.mg X.base := I.ok.mod
theorem Inv.kIn (I : Inv X pins σ H s) : X.K.In s.heap := I.ok.mod.kin.keeps I.bk
theorem Inv.lt (I : Inv X pins σ H s) : X.env.locals < s.heap.objs.size := let ⟨_, hn, _⟩ := I.loc; hn.lt
theorem Inv.sz (I : Inv X pins σ H s) : X.s₀.heap.objs.size ≤ s.heap.objs.size := Nat.le_trans I.ok.above (Nat.le_of_lt I.lt)
theorem Inv.nofs (I : Inv X pins σ H s) {a : Addr} (h : s.heap.objs.size ≤ a) : a ∉ X.fs := fun hb => by
  obtain ⟨_, o, ho, _⟩ := I.ok.funs.mem hb
  exact absurd (Nat.lt_of_lt_of_le (Heap.lt_size ho) (Nat.le_trans I.sz h)) (Nat.lt_irrefl _)
theorem Inv.cne (I : Inv X pins σ H s) : ∀ x c, X.env.cells.lookup x = some c->c ≠ X.env.locals := fun x c e z => by
  obtain ⟨v, o, ho, hd⟩ := I.cell x c e
  obtain ⟨m, ⟨o', es, ep, ho', hd', _⟩, _⟩ := I.loc
  rw [z, ho'] at ho; cases ho; rw [hd'] at hd; cases hd
theorem Inv.funs (I : Inv X pins σ H s) : s.heap.FunFrames X.base X.outer := by
  have all : ∀ (l : List Env), (∀ b ∈ frs l, b ∈ X.fs)->X.s₀.heap.FunFrames X.base l->s.heap.FunFrames X.base l := by
    intro l
    induction l with
    | nil => intro _ _; trivial
    | cons env r ih =>
      intro hs hl
      obtain ⟨hk, ⟨L, o, hf, hn, ho, hd⟩, hr⟩ := hl
      have hL : L ∈ X.fs := hs L (by unfold frs; rw [List.filterMap_cons, hf]; exact List.mem_cons_self)
      obtain ⟨sl, e⟩ := I.base.slot L o ho (I.ok.frf L hL) hL fun z => I.ok.exfs L z hL
      exact ⟨hk, ⟨L, _, hf, hn, e, hd⟩, ih (fun b hb => hs b (by unfold frs; rw [List.filterMap_cons, hf]; exact List.mem_cons_of_mem _ hb)) hr⟩
  exact all X.outer (fun _ hb => hb) I.ok.funs
theorem Inv.stack (I : Inv X pins σ H s) : s.heap.FunFrames X.base X.stack := by
  rcases I.ok.stk with e | ⟨e, hf⟩
  · rw [e]; exact I.funs
  · rw [e]
    obtain ⟨m, hn, _⟩ := I.loc
    refine .cons (by rw [I.ok.kind]; decide) hf hn ?_ I.funs
    exact Heap.get?_none_of_le (Nat.le_trans I.ok.bsz I.ok.above)
theorem Inv.stkSub (I : Inv X pins σ H s) : ∀ b ∈ frs X.stack, b ∈ X.env.locals :: X.fs := fun b hb => by
  rcases I.ok.stk with e | ⟨e, hf⟩
  · rw [e] at hb; exact List.mem_cons_of_mem _ hb
  · rw [e] at hb
    unfold frs at hb
    rw [List.filterMap_cons, hf] at hb
    exact hb
theorem Inv.stkFree (I : Inv X pins σ H s) : ∀ b ∈ frs X.stack, H b = none := fun b hb => by
  rcases List.mem_cons.mp (I.stkSub b hb) with e | hb
  · rw [e]; exact I.free
  · obtain ⟨_, o, ho, _⟩ := I.ok.funs.mem hb
    exact I.base.free b o ho (I.ok.frf b hb) fun z => I.ok.exfs b z hb
theorem Inv.step {g' : Array GenState} {t' : Nat} {d' : Drawn} {ch : List Addr} (I : Inv X pins σ H s)
    (hch : ∀ b ∈ ch, (b ∈ X.ex ∨ X.s₀.heap.objs.size ≤ b) /\ b ≠ X.env.locals /\ (∀ x c, X.env.cells.lookup x = some c->c ≠ b) /\ ∀ p ∈ X.pn ++ pins, p.1 ≠ b)
    (keep : ∀ b o, b ≠ X.env.locals->b ∉ X.fs->b ∉ ch->s.heap.get? b = some o->H b = none->h'.get? b = some o)
    (slot : ∀ b o, b ≠ X.env.locals->b ∈ X.fs->b ∉ ch->s.heap.get? b = some o->H b = none->∃ sl, h'.get? b = some { o with slots := sl }) (free : ∀ b o, b ∉ ch->s.heap.get? b = some o->H b = none->H' b = none)
    (there : ∀ b o, b ∉ ch->s.heap.get? b = some o->∃ o', h'.get? b = some o')
    (tups : ∀ b xs, H b = some (.tup xs)->H' b = some (.tup xs)) (frzs : ∀ b o u, H b = some (.frz o u)->H' b = some (.frz o u)) (tbls : ∀ b ps, H b = some (.tbl ps)->∃ more, H' b = some (.tbl (ps ++ more)))
    (ns : ∀ m, s.heap.Ns X.env.locals m->h'.Ns X.env.locals m) (hok : HOk X.prog X.w H' h') (hg : AllBare g') :
    Inv X pins σ H' { s with heap := h', gens := g', drawn := d', toks := t' } := by
  have neL : ∀ b o, X.s₀.heap.get? b = some o->b ≠ X.env.locals := fun b o e => Nat.ne_of_lt (Nat.lt_of_lt_of_le (Heap.lt_size e) I.ok.above)
  have neC : ∀ b o, X.s₀.heap.get? b = some o->b ∉ X.ex->b ∉ ch := fun b o e hx hb => by
    rcases (hch b hb).1 with z | z
    · exact hx z
    · exact absurd (Nat.lt_of_lt_of_le (Heap.lt_size e) z) (Nat.lt_irrefl _)
  have cellK : ∀ x c, X.env.cells.lookup x = some c->∀ v, s.heap.IsCell c v->h'.IsCell c v := fun x c e v ⟨o, ho, hd⟩ => by
    have nch : c ∉ ch := fun z => (hch c z).2.2.1 x c e rfl
    by_cases hc : c ∈ X.fs
    · obtain ⟨sl, q⟩ := slot c o (I.cne x c e) hc nch ho (I.freeC x c e)
      exact ⟨_, q, hd⟩
    · exact ⟨o, keep c o (I.cne x c e) hc nch ho (I.freeC x c e), hd⟩
  refine ⟨I.ok, I.os, hg, ⟨fun b o e n hb hx => ?_, fun b o e n hb hx => ?_, fun b o e n hx => ?_, fun b o e hx => ?_, fun b xs e => tups b xs (I.base.tups b xs e), fun b o xs e => frzs b o xs (I.base.frzs b o xs e), fun b ps e => ?_⟩, ?_, fun x c e => ?_, ?_, fun x c e => ?_, fun p hp => ?_, hok, I.len⟩
  · exact keep b o (neL b o e) hb (neC b o e hx) (I.base.keep b o e n hb hx) (I.base.free b o e n hx)
  · obtain ⟨sl, e1⟩ := I.base.slot b o e n hb hx
    obtain ⟨sl', e2⟩ := slot b _ (neL b o e) hb (neC b o e hx) e1 (I.base.free b o e n hx)
    exact ⟨sl', e2⟩
  · obtain ⟨o', e1⟩ := I.base.there b o e hx
    exact free b o' (neC b o e hx) e1 (I.base.free b o e n hx)
  · obtain ⟨o', e1⟩ := I.base.there b o e hx
    exact there b o' (neC b o e hx) e1
  · obtain ⟨m1, e1⟩ := I.base.tbls b ps e
    obtain ⟨m2, e2⟩ := tbls b _ e1
    exact ⟨m1 ++ m2, by rw [e2, Array.append_assoc]⟩
  · obtain ⟨m, hn, hl⟩ := I.loc
    refine ⟨m, ns m hn, fun i x v e1 e2 e3 => ?_⟩
    obtain ⟨u, r, l⟩ := hl i x v e1 e2 e3
    refine ⟨u, r, ?_⟩
    rcases l with l | ⟨k, c, e, z⟩
    · exact .inl l
    · exact .inr ⟨k, c, e, cellK x c e _ z⟩
  · obtain ⟨v, z⟩ := I.cell x c e
    exact ⟨v, cellK x c e v z⟩
  · obtain ⟨m, ⟨o, _, _, ho, _⟩, _⟩ := I.loc
    exact free _ o (fun z => (hch _ z).2.1 rfl) ho I.free
  · obtain ⟨v, o, ho, hd⟩ := I.cell x c e
    exact free c o (fun z => (hch c z).2.2.1 x c e rfl) ho (I.freeC x c e)
  · obtain ⟨e, n, ne, nf, d⟩ := I.pin p hp
    have nch : p.1 ∉ ch := fun z => (hch p.1 z).2.2.2 p hp rfl
    exact ⟨keep p.1 p.2 ne nf nch e n, free p.1 p.2 nch e n, ne, nf, d⟩
theorem Inv.un {t' : Nat} (I : Inv X pins σ H s) (u : Un X.fs [] H H' s.heap h') (hok : HOk X.prog X.w H' h') : Inv X pins σ H' { s with heap := h', toks := t' } := by
  obtain ⟨m, ⟨o, es, ep, ho, r⟩, _⟩ := id I.loc
  obtain ⟨sl, hL⟩ := u.any ho I.free (by simp)
  exact I.step (g' := s.gens) (d' := s.drawn) (ch := []) (fun _ z => nomatch z) (fun b o _ hb _ e n => u.keep b o e n hb (by simp)) (fun b o _ hb _ e n => u.slot b o e n hb (by simp)) (fun b o _ e n => u.free b o e n (by simp)) (fun b o _ e => u.there b o e (by simp)) u.tups u.frzs u.tbls (fun m' hm => by
    obtain ⟨o', es', ep', ho', r'⟩ := hm
    rw [ho] at ho'; cases ho'
    exact ⟨_, es', ep', hL, r'⟩) hok I.bare
theorem Inv.call {g' : Array GenState} {t' : Nat} {d' : Drawn} {ch : List Addr} (I : Inv X pins σ H s) (u : Un (frs X.stack) ch H H' s.heap h') (hok : HOk X.prog X.w H' h') (hg : AllBare g')
    (hch : ∀ b ∈ ch, (b ∈ X.ex ∨ X.s₀.heap.objs.size ≤ b) /\ b ≠ X.env.locals /\ (∀ x c, X.env.cells.lookup x = some c->c ≠ b) /\ ∀ p ∈ X.pn ++ pins, p.1 ≠ b) :
    Inv X pins σ H' { s with heap := h', gens := g', drawn := d', toks := t' } := by
  obtain ⟨m, ⟨o, es, ep, ho, r⟩, _⟩ := id I.loc
  obtain ⟨sl, hL⟩ := u.any ho I.free fun z => (hch _ z).2.1 rfl
  exact I.step (ch := ch) hch (fun b o hL hb hc e n => u.keep b o e n (fun z => (List.mem_cons.mp (I.stkSub b z)).elim hL hb) hc) (fun b o _ _ hc e n => u.any e n hc) (fun b o hc e n => u.free b o e n hc) (fun b o hc e => u.there b o e hc) u.tups u.frzs u.tbls (fun m' hm => by
    obtain ⟨o', es', ep', ho', r'⟩ := hm
    rw [ho] at ho'; cases ho'
    exact ⟨_, es', ep', hL, r'⟩) hok hg
theorem Inv.turned {t' : Nat} {it : Addr} (I : Inv X pins σ H s) (k : ∀ b o, b ≠ it->s.heap.get? b = some o->h'.get? b = some o) (hn : H it = none) (hL : it ≠ X.env.locals)
    (h1 : it ∈ X.ex ∨ X.s₀.heap.objs.size ≤ it) (h2 : ∀ x c, X.env.cells.lookup x = some c->c ≠ it) (h3 : ∀ p ∈ X.pn ++ pins, p.1 ≠ it) : Inv X pins σ H { s with heap := h', toks := t' } := by
  have nit : ∀ b u, H b = some u->b ≠ it := fun b u e z => by rw [z, hn] at e; cases e
  refine I.step (g' := s.gens) (d' := s.drawn) (ch := [it]) (fun b hb => ?_) (fun b o _ _ hc e _ => k b o (fun z => hc (by simp [z])) e) (fun b o _ _ hc e _ => ⟨o.slots, k b o (fun z => hc (by simp [z])) e⟩) (fun _ _ _ _ n => n)
    (fun b o hc e => ⟨o, k b o (fun z => hc (by simp [z])) e⟩) (fun _ _ e => e) (fun _ _ _ e => e) (fun b ps e => ⟨#[], by rw [e]; simp⟩) (fun m hm => ?_) (fun b u e => ?_) I.bare
  · have e : b = it := by simpa using hb
    subst e
    exact ⟨h1, hL, h2, h3⟩
  · obtain ⟨o, es, ep, ho, r⟩ := hm
    exact ⟨o, es, ep, k _ o (Ne.symm hL) ho, r⟩
  · refine (I.hok b u e).stay (fun c v hc q => k c v ?_ q) (fun _ q => q) fun _ _ q => q
    rcases hc with z | z
    · rw [z]; exact nit b u e
    · exact nit c _ z
theorem Inv.tok (I : Inv X pins σ H s) (t : Nat) : Inv X pins σ H { s with toks := t } := I.un (h' := s.heap) (t' := t) Un.refl I.hok
theorem Inv.kept {t' : Nat} (I : Inv X pins σ H s) (k : ∀ b u, s.heap.get? b = some u->h'.get? b = some u) : Inv X pins σ H { s with heap := h', toks := t' } := I.un (Un.kept k) (I.hok.kept k)
theorem Inv.laid {a : Addr} {o : HO} {t' : Nat} (I : Inv X pins σ H s) (k : ∀ b u, s.heap.get? b = some u->h'.get? b = some u) (hp : s.heap.objs.size ≤ a) (new : ObjOk X.prog X.w (upd H a o) h' a o) :
    Inv X pins σ (upd H a o) { s with heap := h', toks := t' } := I.un (Un.laid k hp (I.hok.fresh hp)) (I.hok.laid k hp new)
theorem Inv.write {x e : Addr} {o : HO} {t' : Nat} (I : Inv X pins σ H s) (mu : Mut (H x)) (he : e = x ∨ H e = some (.own x)) (k : ∀ b u, b ≠ e->s.heap.get? b = some u->h'.get? b = some u) (heo : ∃ u, h'.get? e = some u)
    (new : ObjOk X.prog X.w (upd H x o) h' x o) : Inv X pins σ (upd H x o) { s with heap := h', toks := t' } := I.un (Un.write mu he k heo) (I.hok.write mu he k heo new)
theorem Inv.pins_of {pins' : List (Addr × Obj)} (I : Inv X pins σ H s) (h : ∀ p ∈ pins', s.heap.get? p.1 = some p.2 /\ H p.1 = none /\ p.1 ≠ X.env.locals /\ p.1 ∉ X.fs /\ ∀ v, p.2.data ≠ .cell v) : Inv X pins' σ H s :=
  ⟨I.ok, I.os, I.bare, I.base, I.loc, I.cell, I.free, I.freeC, fun p hp => (List.mem_append.mp hp).elim (fun z => I.pin p (List.mem_append_left _ z)) (h p), I.hok, I.len⟩
theorem nodup_ix {N : List Str} (hN : N.Nodup) {i j : Nat} {x : Str} (a : N[i]? = some x) (b : N[j]? = some x) : i = j := by
  obtain ⟨h1, e1⟩ := List.getElem?_eq_some_iff.mp a
  obtain ⟨h2, e2⟩ := List.getElem?_eq_some_iff.mp b
  exact (List.getElem_inj hN).mp (e1.trans e2.symm)
theorem store_ok2 {M : Model} {A : Around} {E : Value->Shared->Prop} {i : Nat} {x : Str} {v : V} {u : Value} {Q : Unit->Shared->Prop} (I : Inv X pins σ H s) (hN : X.N.Nodup) (hi : X.N[i]? = some x) (hx : Loc X.env.scope x) (r : RelV v u)
    (h : ∀ s', Inv X pins (σ.set i (some v)) H s'->(∃ a, Heap.SameBut a s.heap s'.heap /\ (a = X.env.locals ∨ X.env.cells.lookup x = some a))->Q () s') (hf : X.fn x = true ∨ X.env.scope.names.lookup x = some .local := by first | exact .inl rfl | exact .inr rfl | assumption) : wpAny M A (storeName X.env x u) Q E s := by
  obtain ⟨m, hn, hl⟩ := id I.loc
  have hcls : (X.env.scope.kind == .class || (X.env.scope.kind == .module && X.env.locals != X.env.globals)) = false := by rw [I.ok.kind]; rfl
  have hiσ : i < σ.length := by rw [I.len]; exact (List.getElem?_eq_some_iff.mp hi).1
  have cne := I.cne
  have tracked : ∀ {a : Addr} {h' : Heap}, (∃ o, s.heap.get? a = some o /\ H a = none)->Heap.SameBut a s.heap h'->HOk X.prog X.w H h' := fun {a h'} ha hs b ob e => by
    obtain ⟨_, _, hfree⟩ := ha
    refine (I.hok b ob e).stay (fun c w' hc q => (hs.2 c ?_).trans q) (fun _ q => q) fun _ _ q => q
    rintro rfl
    rcases hc with rfl | hc
    · rw [hfree] at e; cases e
    · rw [hfree] at hc; cases hc
  rcases hx with hk | hk
  · refine wpAny_storeName_local hk hn (fun h' hn' hs => ?_) hcls
    obtain ⟨oL, _, _, hoL, _⟩ := id hn
    refine h _ ⟨I.ok, I.os, I.bare, ⟨fun b o e n hb hx => ?_, fun b o e n hb hx => ?_, I.base.free, fun b o e hx => ?_, I.base.tups, I.base.frzs, I.base.tbls⟩, ⟨_, hn', fun j y v' e1 e2 e3 => ?_⟩, fun y c e => ?_, I.free, I.freeC, fun p hp => ?_, tracked ⟨oL, hoL, I.free⟩ hs, by simpa using I.len⟩ ⟨_, hs, .inl rfl⟩
    · exact (hs.2 b (Nat.ne_of_lt (Nat.lt_of_lt_of_le (Heap.lt_size e) I.ok.above))).trans (I.base.keep b o e n hb hx)
    · obtain ⟨sl, e1⟩ := I.base.slot b o e n hb hx
      exact ⟨sl, (hs.2 b (Nat.ne_of_lt (Nat.lt_of_lt_of_le (Heap.lt_size e) I.ok.above))).trans e1⟩
    · obtain ⟨o', e1⟩ := I.base.there b o e hx
      exact ⟨o', (hs.2 b (Nat.ne_of_lt (Nat.lt_of_lt_of_le (Heap.lt_size e) I.ok.above))).trans e1⟩
    · by_cases hj : j = i
      · subst hj
        rw [hi] at e1; cases e1
        rw [List.getElem?_set_self hiσ] at e2
        cases e2
        exact ⟨u, r, .inl ⟨hk, by simp⟩⟩
      · rw [List.getElem?_set_ne (Ne.symm hj)] at e2
        obtain ⟨u', r', q⟩ := hl j y v' e1 e2 e3
        refine ⟨u', r', ?_⟩
        rcases q with ⟨k, e⟩ | ⟨k, c, e, z⟩
        · refine .inl ⟨k, ?_⟩
          have : y ≠ x := fun e => hj (nodup_ix hN e1 (e ▸ hi))
          simp [this, e]
        · exact .inr ⟨k, c, e, z.sameBut hs (cne y c e)⟩
    · obtain ⟨w', z⟩ := I.cell y c e
      exact ⟨w', z.sameBut hs (cne y c e)⟩
    · obtain ⟨e, n, ne, nf, d⟩ := I.pin p hp
      exact ⟨(hs.2 p.1 ne).trans e, n, ne, nf, d⟩
  · have hfn : X.fn x = true := by
      rcases hf with z | z
      · exact z
      · rw [z] at hk; cases hk
    obtain ⟨c, hc⟩ := I.ok.has x (.inl hk)
    obtain ⟨w', z⟩ := I.cell x c hc
    refine wpAny_storeName_cell I.ok.kind hk hc z (fun h' hc' hs => ?_)
    obtain ⟨oc, hoc, hocd⟩ := id z
    refine h { s with heap := h' } ⟨I.ok, I.os, I.bare, ⟨fun b o e n hb hx => ?_, fun b o e n hb hx => ?_, I.base.free, fun b o e hx => ?_, I.base.tups, I.base.frzs, I.base.tbls⟩, ⟨m, hn.sameBut hs (Ne.symm (cne x c hc)), fun j y v' e1 e2 e3 => ?_⟩, fun y c' e => ?_, I.free, I.freeC, fun p hp => ?_, tracked ⟨oc, hoc, I.freeC x c hc⟩ hs, by simpa using I.len⟩ ⟨c, hs, .inr hc⟩
    · exact (hs.2 b (Nat.ne_of_lt (Nat.lt_of_lt_of_le (Heap.lt_size e) (I.ok.cab x c hfn hc)))).trans (I.base.keep b o e n hb hx)
    · obtain ⟨sl, e1⟩ := I.base.slot b o e n hb hx
      exact ⟨sl, (hs.2 b (Nat.ne_of_lt (Nat.lt_of_lt_of_le (Heap.lt_size e) (I.ok.cab x c hfn hc)))).trans e1⟩
    · obtain ⟨o', e1⟩ := I.base.there b o e hx
      exact ⟨o', (hs.2 b (Nat.ne_of_lt (Nat.lt_of_lt_of_le (Heap.lt_size e) (I.ok.cab x c hfn hc)))).trans e1⟩
    · by_cases hj : j = i
      · subst hj
        rw [hi] at e1; cases e1
        rw [List.getElem?_set_self hiσ] at e2
        cases e2
        exact ⟨u, r, .inr ⟨.inl hk, c, hc, hc'⟩⟩
      · rw [List.getElem?_set_ne (Ne.symm hj)] at e2
        obtain ⟨u', r', q⟩ := hl j y v' e1 e2 e3
        refine ⟨u', r', ?_⟩
        rcases q with q | ⟨k, c', e, z'⟩
        · exact .inl q
        · refine .inr ⟨k, c', e, z'.sameBut hs ?_⟩
          rintro rfl
          exact hj (nodup_ix hN e1 (I.ok.inj _ _ _ e hc ▸ hi))
    · by_cases hcc : c' = c
      · subst hcc; exact ⟨_, hc'⟩
      · obtain ⟨w2, z2⟩ := I.cell y c' e
        exact ⟨w2, z2.sameBut hs hcc⟩
    · obtain ⟨e, n, ne, nf, d⟩ := I.pin p hp
      refine ⟨(hs.2 p.1 ?_).trans e, n, ne, nf, d⟩
      intro q
      rw [q, hoc] at e
      have q' : oc = p.2 := Option.some.inj e
      exact d w' (by rw [← q']; exact hocd)
theorem store_ok {M : Model} {A : Around} {E : Value->Shared->Prop} {i : Nat} {x : Str} {v : V} {u : Value} {Q : Unit->Shared->Prop} (I : Inv X pins σ H s) (hN : X.N.Nodup) (hi : X.N[i]? = some x) (hx : Loc X.env.scope x) (r : RelV v u)
    (h : ∀ s', Inv X pins (σ.set i (some v)) H s'->Q () s') (hf : X.fn x = true ∨ X.env.scope.names.lookup x = some .local := by first | exact .inl rfl | exact .inr rfl | assumption) : wpAny M A (storeName X.env x u) Q E s :=
  store_ok2 I hN hi hx r (fun s' I' _ => h s' I') hf
theorem Inv.call' {s' : Shared} {ch : List Addr} (I : Inv X pins σ H s) (ho : s'.os = s.os) (u : Un (frs X.stack) ch H H' s.heap s'.heap) (hok : HOk X.prog X.w H' s'.heap) (hg : AllBare s'.gens)
    (hch : ∀ b ∈ ch, (b ∈ X.ex ∨ X.s₀.heap.objs.size ≤ b) /\ b ≠ X.env.locals /\ (∀ x c, X.env.cells.lookup x = some c->c ≠ b) /\ ∀ p ∈ X.pn ++ pins, p.1 ≠ b) : Inv X pins σ H' s' := by
  obtain ⟨h', g', d', t', o'⟩ := s'
  have e : o' = s.os := ho
  subst e
  exact I.call (g' := g') (t' := t') (d' := d') u hok hg hch
end
abbrev XK := Value->Option Addr->Hp->Prop
abbrev St := List (Option V)
abbrev VK := V->Hp->Prop
abbrev TE := St->Hp->VK->Prop
abbrev TT := St->Hp->(Bool->Hp->Prop)->Prop
abbrev TA := St->Hp->(List V->Hp->Prop)->Prop
structure Ends where
  nx : St->Hp->Prop
  rt : VK
  bk : St->Hp->Prop := fun _ _ => False
  ct : St->Hp->Prop := fun _ _ => False
abbrev TS := Ends->St->Hp->Prop
def EP (X : Cx) (pins : List (Addr × Obj)) (σ : St) (Q : VK) (u : Value) (s' : Shared) : Prop := ∃ v H', Inv X pins σ H' s' /\ RelV v u /\ Q v H'
def TP (X : Cx) (pins : List (Addr × Obj)) (σ : St) (Q : Bool->Hp->Prop) (b : Bool) (s' : Shared) : Prop := ∃ H', Inv X pins σ H' s' /\ Q b H'
def AP (X : Cx) (pins : List (Addr × Obj)) (σ : St) (Q : List V->Hp->Prop) (us : List Value) (s' : Shared) : Prop := ∃ vs H', Inv X pins σ H' s' /\ Vals vs us /\ Q vs H'
def SP (X : Cx) (pins : List (Addr × Obj)) (D : Ends) (f : Flow) (s' : Shared) : Prop :=
  match f with
  | .next => ∃ σ' H', Inv X pins σ' H' s' /\ D.nx σ' H'
  | .brk => ∃ σ' H', Inv X pins σ' H' s' /\ D.bk σ' H'
  | .cont => ∃ σ' H', Inv X pins σ' H' s' /\ D.ct σ' H'
  | .ret u => ∃ v σ' H', Inv X pins σ' H' s' /\ RelV v u /\ D.rt v H'
def PE (X : Cx) (e : Expr) (t : TE) : Prop :=
  ∀ (pins : List (Addr × Obj)) (s : Shared) (σ : St) (H : Hp) (Q : VK), Inv X pins σ H s->t σ H Q->wpAny (model X.prog X.w) X.A (eval e X.env) (EP X pins σ Q) X.xe s
def PT (X : Cx) (e : Expr) (t : TT) : Prop :=
  ∀ (pins : List (Addr × Obj)) (s : Shared) (σ : St) (H : Hp) (Q : Bool->Hp->Prop), Inv X pins σ H s->t σ H Q->wpAny (model X.prog X.w) X.A (isTrue e X.env (eval e X.env)) (TP X pins σ Q) X.xe s
def PW (X : Cx) (e : Expr) (t : TT) : Prop :=
  ∀ (whole : Sem Value) (pins : List (Addr × Obj)) (s : Shared) (σ : St) (H : Hp) (Q : Bool->Hp->Prop), Inv X pins σ H s->t σ H Q->wpAny (model X.prog X.w) X.A (isTrue e X.env whole) (TP X pins σ Q) X.xe s
theorem PW.pt {X : Cx} {e : Expr} {t : TT} (h : PW X e t) : PT X e t := h _
def PA (X : Cx) (es : List Expr) (t : TA) : Prop :=
  ∀ (pos : Pos) (pins : List (Addr × Obj)) (s : Shared) (σ : St) (H : Hp) (Q : List V->Hp->Prop), Inv X pins σ H s->t σ H Q->wpAny (model X.prog X.w) X.A (spliced (backTo pos (starEach es X.env))) (AP X pins σ Q) X.xe s
def PS (X : Cx) (st : Stmt) (t : TS) : Prop :=
  ∀ (pins : List (Addr × Obj)) (s : Shared) (σ : St) (H : Hp) (D : Ends), Inv X pins σ H s->t D σ H->wpAny (model X.prog X.w) X.A (exec st X.env) (SP X pins D) X.xe s
def PSs (X : Cx) (st : List Stmt) (t : TS) : Prop :=
  ∀ (pins : List (Addr × Obj)) (s : Shared) (σ : St) (H : Hp) (D : Ends), Inv X pins σ H s->t D σ H->wpAny (model X.prog X.w) X.A (execs st X.env) (SP X pins D) X.xe s
theorem thn {α : Type} {t : Sem α} {Q Q' : α->Shared->Prop} {M : Model} {A : Around} {E : Value->Shared->Prop} {s : Shared} (h : wpAny M A t Q E s) (hQ : ∀ a s, Q a s->Q' a s) : wpAny M A t Q' E s := wpAny_mono h hQ fun _ _ x => x
open PySem PySem.Spec PyProof.Rows
section
variable {X : Cx}
def tVar (i : Nat) : TE := fun σ H Q => ∃ v, σ[i]? = some (some v) /\ Q v H
def tC (v : V) : TE := fun _ H Q => Q v H
theorem pe_var {i : Nat} {x : Str} {pos : Pos} (hN : X.N[i]? = some x) (hv : Vis X.env.scope x) (hd : (x == ("__debug__" : Str)) = false := by decide) (hcd : (x == ("__classdict__" : Str)) = false := by decide) : PE X (.Name x pos) (tVar i) := by
  intro pins s σ H Q I h
  obtain ⟨v, e, h⟩ := h
  obtain ⟨m, hn, hl⟩ := I.loc
  obtain ⟨u, r, l⟩ := hl i x v hN e hv
  have fin : EP X pins σ Q u s := ⟨v, H, I, r, h⟩
  rcases l with ⟨hk, hm⟩ | ⟨hk, c, hc, hcell⟩
  · exact wpAny_Name (wpAny_loadName_local I.ok.kind hk hn hm fin) hd
  · rcases hk with hk | hk
    · exact wpAny_Name (wpAny_loadName_cell I.ok.kind hk hc hcell fin) hd
    · exact wpAny_Name (wpAny_loadName_free I.ok.kind hk hc hcell fin hcd) hd
theorem pe_int {i j pos} : PE X (.Constant (.int i) j pos) (tC (.int i)) := fun _ _ _ H _ I h => wpAny_Constant_int ⟨.int i, H, I.tok _, ⟨_, rfl⟩, h⟩
theorem pe_bl {b j pos} : PE X (.Constant (.bool b) j pos) (tC (.bl b)) := fun _ _ _ H _ I h => Constant_bool ⟨.bl b, H, I, rfl, h⟩
theorem pe_non {j pos} : PE X (.Constant .none j pos) (tC .non) := fun _ _ _ H _ I h => Constant_none ⟨.non, H, I, rfl, h⟩
theorem pe_str {x j pos} : PE X (.Constant (.str x) j pos) (tC (.str x)) := fun _ _ _ H _ I h => Calls.Constant_str ⟨.str x, H, I.tok _, ⟨_, rfl⟩, h⟩
def Gl (X : Cx) (x : Str) : Prop := X.env.kindOf x = some .globalImplicit
theorem ld_glob {E : Value->Shared->Prop} {pins : List (Addr × Obj)} {s : Shared} {σ : St} {H : Hp} {x : Str} {u : Value} {pos : Pos} {Q : Value->Shared->Prop} (I : Inv X pins σ H s) (hg : Gl X x) (hm : X.mg x = some u) (h : Q u s)
    (hd : (x == ("__debug__" : Str)) = false := by decide) : wpAny (model X.prog X.w) X.A (eval (.Name x pos) X.env) Q E s :=
  Calls.Name_function_global I.ok.kind hg (Calls.loadGlobal_global (by rw [I.ok.glob]; exact I.mod.glob.keeps I.bk) hm h) hd
theorem ld_blt {E : Value->Shared->Prop} {pins : List (Addr × Obj)} {s : Shared} {σ : St} {H : Hp} {x : Str} {u : Value} {pos : Pos} {Q : Value->Shared->Prop} (I : Inv X pins σ H s) (hg : Gl X x) (hm : X.mg x = none) (hv : bootBuiltins x = some u) (h : Q u s)
    (hn : x ≠ "__name__" := by decide) (hd : (x == ("__debug__" : Str)) = false := by decide) : wpAny (model X.prog X.w) X.A (eval (.Name x pos) X.env) Q E s := by
  obtain ⟨mb, h1, h2⟩ := I.mod.blt
  exact Calls.Name_function_global I.ok.kind hg (Calls.loadGlobal_builtin (by rw [I.ok.glob]; exact I.mod.glob.keeps I.bk) hm (by rw [I.ok.blt]; exact h1.keeps I.bk) ((h2 x hn).trans hv) h) hd
theorem pe_glob {x : Str} {v : V} {u : Value} {pos : Pos} (hg : Gl X x) (hm : X.mg x = some u) (r : RelV v u) (hd : (x == ("__debug__" : Str)) = false := by decide) : PE X (.Name x pos) (tC v) :=
  fun _ _ _ H _ I h => ld_glob I hg hm ⟨v, H, I, r, h⟩ hd
theorem pe_bltn {x : Str} {v : V} {u : Value} {pos : Pos} (hg : Gl X x) (hm : X.mg x = none) (hv : bootBuiltins x = some u) (r : RelV v u) (hn : x ≠ "__name__" := by decide) (hd : (x == ("__debug__" : Str)) = false := by decide) : PE X (.Name x pos) (tC v) :=
  fun _ _ _ H _ I h => ld_blt I hg hm hv ⟨v, H, I, r, h⟩ hn hd
variable {a b : Expr} {ta tb : TE} {pos : Pos}
def tB (t : TE) : TT := fun σ H Q => t σ H fun x H1 => ∃ c, x = .bl c /\ Q c H1
theorem pt_val {e : Expr} {t : TE} (h : PE X e t) (he : ∀ whole, isTrue e X.env whole = (do let v ← whole; standAt e.pos; holding [v] (truthy v)) := by intro _; rfl) : PT X e (tB t) := by
  intro pins s σ H Q I hw
  refine isTrue_plain (thn (h pins s σ H _ I hw) fun v s1 ⟨x, H1, I1, r1, q1⟩ => ?_) (he _)
  obtain ⟨d, rfl, q⟩ := q1
  cases r1
  exact wpAny_truthy_bool ⟨H1, I1, q⟩
variable {tA tB' : TT} {rest : List Expr}
def tAnd (t u : TT) : TT := fun σ H Q => t σ H fun c H1 => if c = true then u σ H1 Q else Q false H1
def tOr (t u : TT) : TT := fun σ H Q => t σ H fun c H1 => if c = true then Q true H1 else u σ H1 Q
def tNot (t : TT) : TT := fun σ H Q => t σ H fun c H1 => Q (!c) H1
theorem pw_and1 (ha : PT X a tA) : PW X (.BoolOp .And [a] pos) tA := by
  intro wh pins s σ H Q I h
  refine isTrue_and (thn (ha pins s σ H Q I h) fun c s1 e => ?_)
  cases c with
  | true => exact isTrue_and_nil e
  | false => exact e
theorem pw_or1 (ha : PT X a tA) : PW X (.BoolOp .Or [a] pos) tA := by
  intro wh pins s σ H Q I h
  refine isTrue_or (thn (ha pins s σ H Q I h) fun c s1 e => ?_)
  cases c with
  | false => exact isTrue_or_nil e
  | true => exact e
theorem pw_and (ha : PT X a tA) (hb : PW X (.BoolOp .And (b :: rest) pos) tB') : PW X (.BoolOp .And (a :: b :: rest) pos) (tAnd tA tB') := by
  intro wh pins s σ H Q I h
  refine isTrue_and (thn (ha pins s σ H _ I h) fun c s1 ⟨H1, I1, q1⟩ => ?_)
  cases c with
  | true => exact hb wh pins s1 σ H1 Q I1 q1
  | false => exact ⟨H1, I1, q1⟩
theorem pw_or (ha : PT X a tA) (hb : PW X (.BoolOp .Or (b :: rest) pos) tB') : PW X (.BoolOp .Or (a :: b :: rest) pos) (tOr tA tB') := by
  intro wh pins s σ H Q I h
  refine isTrue_or (thn (ha pins s σ H _ I h) fun c s1 ⟨H1, I1, q1⟩ => ?_)
  cases c with
  | true => exact ⟨H1, I1, q1⟩
  | false => exact hb wh pins s1 σ H1 Q I1 q1
theorem pt_not (ha : PT X a tA) : PT X (.UnaryOp .Not a pos) (tNot tA) := by
  intro pins s σ H Q I h
  exact isTrue_not (ha pins s σ H (fun c H1 => Q (!c) H1) I h)
def tAndV (ta tb : TE) : TE := fun σ H Q => ta σ H fun x H1 => ∃ c, x = .bl c /\ if c = true then tb σ H1 Q else Q (.bl false) H1
def tOrV (ta tb : TE) : TE := fun σ H Q => ta σ H fun x H1 => ∃ c, x = .bl c /\ if c = true then Q (.bl true) H1 else tb σ H1 Q
def tNotV (ta : TE) : TE := fun σ H Q => ta σ H fun x H1 => ∃ c, x = .bl c /\ Q (.bl (!c)) H1
theorem pe_one {op} {t : TE} (h : PE X a t) : PE X (.BoolOp op [a] pos) t := fun pins s σ H Q I hw => BoolOp_one (h pins s σ H Q I hw)
theorem pe_and (ha : PE X a ta) (hb : PE X (.BoolOp .And (b :: rest) pos) tb) : PE X (.BoolOp .And (a :: b :: rest) pos) (tAndV ta tb) := by
  intro pins s σ H Q I h
  refine BoolOp_and (thn (ha pins s σ H _ I h) fun v s1 ⟨x, H1, I1, r1, q1⟩ => ?_)
  obtain ⟨c, rfl, q1⟩ := q1
  cases r1
  refine wpAny_truthy_bool ?_
  cases c with
  | true => exact hb pins s1 σ H1 Q I1 q1
  | false => exact ⟨.bl false, H1, I1, rfl, q1⟩
theorem pe_or (ha : PE X a ta) (hb : PE X (.BoolOp .Or (b :: rest) pos) tb) : PE X (.BoolOp .Or (a :: b :: rest) pos) (tOrV ta tb) := by
  intro pins s σ H Q I h
  refine BoolOp_or (thn (ha pins s σ H _ I h) fun v s1 ⟨x, H1, I1, r1, q1⟩ => ?_)
  obtain ⟨c, rfl, q1⟩ := q1
  cases r1
  refine wpAny_truthy_bool ?_
  cases c with
  | false => exact hb pins s1 σ H1 Q I1 q1
  | true => exact ⟨.bl true, H1, I1, rfl, q1⟩
theorem pe_not (ha : PE X a ta) : PE X (.UnaryOp .Not a pos) (tNotV ta) := by
  intro pins s σ H Q I h
  refine UnaryOp_ (thn (ha pins s σ H _ I h) fun v s1 ⟨x, H1, I1, r1, q1⟩ => ?_)
  obtain ⟨c, rfl, q1⟩ := q1
  cases r1
  exact not_of (wpAny_truthy_bool ⟨.bl (!c), H1, I1, rfl, q1⟩)
end
open PySem PySem.Spec PyProof.Rows
def SqL (K : PySem.W.Frag) (H : Hp) (a : Addr) (xs : List V) : Prop :=
  Rd H a (.lst xs) ∨
    ∃ (o : Obj) (its : Array Value) (n : Nat), K.lookup a = some o /\ o.cls = .type "list" /\ o.dict = none /\ o.data = .seq its n /\ its.size ≤ sizeLine /\ Vals xs its.toList
def SqT (K : PySem.W.Frag) (H : Hp) (a : Addr) (xs : List V) : Prop :=
  Rd H a (.tup xs) ∨
    ∃ (o : Obj) (its : Array Value) (n : Nat), K.lookup a = some o /\ o.cls = .type "tuple" /\ o.data = .seq its n /\ its.size ≤ sizeLine /\ Vals xs its.toList
def absV : Value->Option V
  | .none => some .non
  | .bool b => some (.bl b)
  | .int i _ => some (.int i)
  | .str x _ => some (.str x)
  | .bytes b _ => some (.byt b)
  | .float b _ => some (.flt b)
  | .ref a => some (.ref a)
  | .type n => some (.ty n)
  | _ => none
theorem RelV.abs {x : V} {u : Value} (r : RelV x u) : absV u = some x := by
  cases x with
  | non => cases r; rfl
  | bl _ => cases r; rfl
  | int _ => obtain ⟨t, rfl⟩ := r; rfl
  | str _ => obtain ⟨t, rfl⟩ := r; rfl
  | byt _ => obtain ⟨t, rfl⟩ := r; rfl
  | flt _ => obtain ⟨t, rfl⟩ := r; rfl
  | ref _ => cases r; rfl
  | ty _ => cases r; rfl
theorem RelV.inj {x y : V} {u : Value} (r : RelV x u) (q : RelV y u) : x = y := Option.some.inj (r.abs.symm.trans q.abs)
theorem Vals.inj : ∀ {xs ys : List V} {us : List Value}, Vals xs us->Vals ys us->xs = ys
  | _, _, _, .nil, .nil => rfl
  | _, _, _, .cons r t, .cons r' t' => by rw [r.inj r', Vals.inj t t']
section
variable {X : Cx} {pins : List (Addr × Obj)} {σ : St} {H : Hp} {s : Shared} {a : Addr} {xs ys : List V}
theorem SqL.of {K : PySem.W.Frag} (h : H a = some (.lst xs)) : SqL K H a xs := .inl (.inl h)
theorem SqT.of {K : PySem.W.Frag} (h : H a = some (.tup xs)) : SqT K H a xs := .inl (.inl h)
theorem Inv.list (I : Inv X pins σ H s) (h : SqL X.K H a xs) : ∃ its : List Value, Vals xs its /\ PlainL s.heap a its.toArray /\ xs.length ≤ sizeLine := by
  rcases h with h | ⟨o, its, n, hk, hc, hd, hs, hz, r⟩
  · obtain ⟨z, its, n, r, e⟩ := h.ok I.hok
    exact ⟨its, r, ⟨_, n, e, rfl, rfl, rfl⟩, z⟩
  · refine ⟨its.toList, r, ⟨o, n, I.kIn a o hk, hc, hd, by simpa using hs⟩, ?_⟩
    have e := r.length
    simp only [Array.length_toList] at e
    omega
theorem Inv.tuple (I : Inv X pins σ H s) (h : SqT X.K H a xs) : ∃ its : List Value, Vals xs its /\ IsTup s.heap a its.toArray /\ xs.length ≤ sizeLine := by
  rcases h with h | ⟨o, its, n, hk, hc, hs, hz, r⟩
  · obtain ⟨z, its, r, p⟩ := h.ok I.hok
    exact ⟨its, r, p, z⟩
  · refine ⟨its.toList, r, ⟨o, I.kIn a o hk, hc, n, by simpa using hs⟩, ?_⟩
    have e := r.length
    simp only [Array.length_toList] at e
    omega
theorem Inv.list_inj (I : Inv X pins σ H s) (h : SqL X.K H a xs) (h' : SqL X.K H a ys) : xs = ys := by
  obtain ⟨its, r, ⟨o, n, e, _, _, d⟩, _⟩ := I.list h
  obtain ⟨its', r', ⟨o', n', e', _, _, d'⟩, _⟩ := I.list h'
  rw [e] at e'; cases e'
  rw [d] at d'
  injection d' with d1 _
  have : its = its' := by simpa using congrArg Array.toList d1
  subst this
  exact r.inj r'
end
abbrev Cx.wish (X : Cx) (E : Value->Shared->Prop) : Cx := { X with xe := E }
abbrev Cx.nox (X : Cx) : Cx := X.wish fun _ _ => False
theorem Cx.Ok.wish {X : Cx} (ok : X.Ok) (E : Value->Shared->Prop) : (X.wish E).Ok :=
  ⟨ok.mod, ok.kind, ok.glob, ok.blt, ok.above, ok.inj, ok.has, ok.cab, ok.hd, ok.frames, ok.stk, ok.exf, ok.bs, ok.bsz, ok.noex, ok.exfs, ok.funs, ok.frf⟩
theorem Cx.Ok.unwish {X : Cx} {E : Value->Shared->Prop} (ok : (X.wish E).Ok) : X.Ok :=
  ⟨ok.mod, ok.kind, ok.glob, ok.blt, ok.above, ok.inj, ok.has, ok.cab, ok.hd, ok.frames, ok.stk, ok.exf, ok.bs, ok.bsz, ok.noex, ok.exfs, ok.funs, ok.frf⟩
section
variable {X : Cx} {pins : List (Addr × Obj)} {σ : St} {H : Hp} {s : Shared} {E : Value->Shared->Prop}
theorem Inv.wish (I : Inv X pins σ H s) (E : Value->Shared->Prop) : Inv (X.wish E) pins σ H s := ⟨I.ok.wish E, I.os, I.bare, I.base, I.loc, I.cell, I.free, I.freeC, I.pin, I.hok, I.len⟩
theorem Inv.unwish (I : Inv (X.wish E) pins σ H s) : Inv X pins σ H s := ⟨I.ok.unwish, I.os, I.bare, I.base, I.loc, I.cell, I.free, I.freeC, I.pin, I.hok, I.len⟩
end
section
variable {X : Cx} {st : Stmt} {rest : List Stmt} {t u : TS} {e : Expr} {te : TE} {pos : Pos}
def tNext : TS := fun D σ H => D.nx σ H
def tSeq (t u : TS) : TS := fun D σ H => t { D with nx := u D } σ H
theorem pss_nil : PSs X [] tNext := fun _ _ σ H _ I h => wpAny_execs_nil ⟨σ, H, I, h⟩
theorem pss_cons (h1 : PS X st t) (h2 : PSs X rest u) : PSs X (st :: rest) (tSeq t u) := by
  intro pins s σ H D I h
  refine wpAny_execs_cons (thn (h1 pins s σ H { D with nx := u D } I h) fun f s1 q => ?_)
  cases f with
  | next =>
    obtain ⟨σ', H', I', q⟩ := q
    exact h2 pins s1 σ' H' D I' q
  | ret v => exact q
  | brk => exact q
  | cont => exact q
theorem pss_one (h1 : PS X st t) : PSs X [st] t := by
  intro pins s σ H D I h
  refine wpAny_execs_cons (thn (h1 pins s σ H D I h) fun f s1 q => ?_)
  cases f with
  | next => exact wpAny_execs_nil q
  | ret v => exact q
  | brk => exact q
  | cont => exact q
theorem Inv.quiet {pins : List (Addr × Obj)} {σ : St} {H : Hp} {s : Shared} (I : Inv X pins σ H s) : interactive X.env = false := by simp [interactive, I.ok.kind]
def tDrop (te : TE) : TS := fun D σ H => te σ H fun _ H1 => D.nx σ H1
theorem ps_expr (he : PE X e te) (hs : swapsWith e none pos.line X.env = pure false := by rfl) : PS X (.Expr e pos) (tDrop te) := by
  intro pins s σ H D I h
  exact wpAny_Expr_any (thn (he pins s σ H _ I h) fun v s1 ⟨x, H1, I1, r1, q1⟩ => ⟨σ, H1, I1, q1⟩) I.quiet hs
def tRet (te : TE) : TS := fun D σ H => te σ H D.rt
theorem ps_ret (he : PE X e te) : PS X (.Return (some e) pos) (tRet te) := by
  intro pins s σ H D I h
  exact wpAny_Return_some (thn (he pins s σ H _ I h) fun v s1 ⟨x, H1, I1, r1, q1⟩ => ⟨x, σ, H1, I1, r1, q1⟩)
def tIfS (c : TT) (t u : TS) : TS := fun D σ H => c σ H fun b H1 => if b = true then t D σ H1 else u D σ H1
theorem ps_if {c : Expr} {a b : List Stmt} {tc : TT} (hc : PT X c tc) (ha : PSs X a t) (hb : PSs X b u) : PS X (.If c a b pos) (tIfS tc t u) := by
  intro pins s σ H D I h
  refine wpAny_If (thn (hc pins s σ H _ I h) fun d s1 ⟨H1, I1, q1⟩ => ?_)
  cases d with
  | true => exact ha pins s1 σ H1 D I1 q1
  | false => exact hb pins s1 σ H1 D I1 q1
end
abbrev TG := V->St->Hp->(St->Hp->Prop)->Prop
abbrev TGs := List V->St->Hp->(St->Hp->Prop)->Prop
def PG (X : Cx) (target : Expr) (t : TG) : Prop :=
  ∀ (pins : List (Addr × Obj)) (s : Shared) (σ : St) (H : Hp) (v : V) (u : Value) (Q : St->Hp->Prop), Inv X pins σ H s->RelV v u->t v σ H Q →
    wpAny (model X.prog X.w) X.A (assign target X.env u) (fun _ s' => ∃ σ' H', Inv X pins σ' H' s' /\ Q σ' H') X.xe s
def PGs (X : Cx) (ts : List Expr) (t : TGs) : Prop :=
  ∀ (pins : List (Addr × Obj)) (s : Shared) (σ : St) (H : Hp) (vs : List V) (us : List Value) (Q : St->Hp->Prop), Inv X pins σ H s->Vals vs us->t vs σ H Q →
    wpAny (model X.prog X.w) X.A (assignInOrder ((assignEach ts X.env).map (·.2)) us) (fun _ s' => ∃ σ' H', Inv X pins σ' H' s' /\ Q σ' H') X.xe s
section
variable {X : Cx} {pos : Pos}
def gName (i : Nat) : TG := fun v σ H Q => Q (σ.set i (some v)) H
theorem pg_name {i : Nat} {x : Str} (hN : X.N.Nodup) (hi : X.N[i]? = some x) (hx : Loc X.env.scope x) (hf : X.fn x = true ∨ X.env.scope.names.lookup x = some .local := by first | exact .inl rfl | exact .inr rfl | assumption) : PG X (.Name x pos) (gName i) := by
  intro pins s σ H v u Q I r h
  exact wpAny_assign_Name (store_ok I hN hi hx r (fun s' I' => ⟨_, H, I', h⟩) hf)
def gNil : TGs := fun vs σ H Q => vs = [] /\ Q σ H
def gCons (t : TG) (u : TGs) : TGs := fun vs σ H Q => ∃ v r, vs = v :: r /\ t v σ H fun σ' H' => u r σ' H' Q
theorem pgs_nil : PGs X [] gNil := by
  intro pins s σ H vs us Q I r h
  obtain ⟨e, h⟩ := h
  subst e
  cases r
  exact assignInOrder_nil ⟨σ, H, I, h⟩
theorem pgs_cons {e : Expr} {es : List Expr} {t : TG} {u : TGs} (h1 : PG X e t) (h2 : PGs X es u)
    (hs : (assignEach (e :: es) X.env).map (·.2) = assign e X.env :: (assignEach es X.env).map (·.2) := by rfl) : PGs X (e :: es) (gCons t u) := by
  intro pins s σ H vs us Q I r h
  obtain ⟨v, vr, e1, h⟩ := h
  subst e1
  cases r with
  | cons r rr =>
    rw [hs]
    refine assignInOrder_cons (thn (h1 pins s σ H _ _ _ I r h) fun _ s1 ⟨σ1, H1, I1, q1⟩ => ?_)
    exact h2 pins s1 σ1 H1 _ _ Q I1 rr q1
def gTup (K : PySem.W.Frag) (n : Nat) (t : TGs) : TG := fun v σ H Q => ∃ a xs, v = .ref a /\ SqT K H a xs /\ xs.length = n /\ t xs σ H Q
theorem pg_tup {es : List Expr} {k : Nat} {t : TGs} {n : Nat} (hc : X.calm = true) (h : PGs X es t)
    (hn : (assignEach es X.env).length = n := by rfl) (hst : (assignEach es X.env).findIdx? (·.1) = none := by rfl) : PG X (.Tuple es k pos) (gTup X.K n t) := by
  intro pins s σ H v u Q I r hw
  obtain ⟨a, xs, e1, hq, hl, hw⟩ := hw
  subst e1
  cases r
  obtain ⟨its, rv, ht, hz⟩ := I.tuple hq
  refine assign_Tuple_tuple (I.ok.hd hc) ht (by simp [hn, ← hl, rv.length]) hst fun h' hx => ?_
  have I1 : Inv X pins σ H { s with heap := h' } := I.kept (t' := s.toks) fun b o e => hx b o (Nat.ne_of_lt (Heap.lt_size e)) e
  exact h pins _ σ H xs _ Q I1 (by simpa using rv) hw
def tAsg (te : TE) (g : TG) : TS := fun D σ H => te σ H fun x H1 => g x σ H1 D.nx
theorem ps_asg {tg e : Expr} {te : TE} {g : TG} (he : PE X e te) (hg : PG X tg g) (hs : swapsWithSole [tg] e pos.line X.env = pure false := by rfl) (hw : swappedStores [tg] e X.env = pure none := by rfl)
    (h1 : (assignEach [tg] X.env).map (·.2) = [assign tg X.env] := by rfl) : PS X (.Assign [tg] e pos) (tAsg te g) := by
  intro pins s σ H D I h
  refine wpAny_Assign_stores (thn (he pins s σ H _ I h) fun v s1 ⟨x, H1, I1, r1, q1⟩ => ?_) hs hw
  rw [h1]
  exact thn (hg pins s1 σ H1 x v _ I1 r1 q1) fun _ s2 q => q
theorem ps_set {i : Nat} {x : Str} {e : Expr} {te : TE} {pos' : Pos} (hN : X.N.Nodup) (hi : X.N[i]? = some x) (hx : Loc X.env.scope x) (he : PE X e te) (hs : swapsWith e (some (.Name x pos')) pos.line X.env = pure false := by rfl) (hf : X.fn x = true ∨ X.env.scope.names.lookup x = some .local := by first | exact .inl rfl | exact .inr rfl | assumption) :
    PS X (.Assign [.Name x pos'] e pos) (tAsg te (gName i)) := by
  intro pins s σ H D I h
  refine wpAny_Assign_Name (thn (he pins s σ H _ I h) fun v s1 ⟨y, H1, I1, r1, q1⟩ => ?_) hs
  exact store_ok I1 hN hi hx r1 (fun s2 I2 => ⟨_, H1, I2, q1⟩) hf
end
section
variable {X : Cx} {pos : Pos}
def tWhile (c : TT) (tb : TS) : TS := fun D σ H => ∃ W : Nat->St->Hp->Prop, (∃ m, W m σ H) /\ ∀ m σ H, W m σ H →
  c σ H fun b H1 => if b = true then ∃ N : St->Hp->Prop, (∀ σ' H', N σ' H'->∃ m', m' < m /\ W m' σ' H') /\ tb { D with nx := N, ct := N, bk := D.nx } σ H1 else D.nx σ H1
theorem ps_while {c : Expr} {body : List Stmt} {tc : TT} {tb : TS} (hp : PassesOwn (model X.prog X.w) X.A X.env X.xe) (hc : PT X c tc) (hb : PSs X body tb) : PS X (.While c body [] pos) (tWhile tc tb) := by
  intro pins s σ H D I h
  obtain ⟨W, ⟨m0, w0⟩, turn⟩ := h
  refine wpAny_While (codeAny_whileLoop (fun n s' => ∃ σ' H', Inv X pins σ' H' s' /\ W n σ' H') ?_ m0 ⟨σ, H, I, w0⟩)
  rintro n s1 ⟨σ1, H1, I1, w1⟩
  refine wpAny_passesOwn hp (thn (hc pins s1 σ1 H1 _ I1 (turn n σ1 H1 w1)) fun b s2 ⟨H2, I2, q2⟩ => ?_)
  cases b with
  | true =>
    obtain ⟨N, hN, q2⟩ := q2
    rw [if_pos rfl]
    refine wpAny_passesOwn hp (thn (hb pins s2 σ1 H2 _ I2 q2) fun f s3 q3 => ?_)
    cases f with
    | next =>
      obtain ⟨σ3, H3, I3, n3⟩ := q3
      obtain ⟨m', hm, w3⟩ := hN σ3 H3 n3
      exact ⟨m', hm, σ3, H3, I3, w3⟩
    | cont =>
      obtain ⟨σ3, H3, I3, n3⟩ := q3
      obtain ⟨m', hm, w3⟩ := hN σ3 H3 n3
      exact ⟨m', hm, σ3, H3, I3, w3⟩
    | brk => exact q3
    | ret v => exact q3
  | false =>
    rw [if_neg Bool.false_ne_true]
    exact wpAny_execs_nil ⟨σ1, H2, I2, q2⟩
end
structure It where
  go : Nat->Hp->Prop
  yld : Nat->Hp->V->Hp->Prop
  stop : Nat->Hp->Prop
def FpOk (X : Cx) (pins : List (Addr × Obj)) (H : Hp) (b : Addr) : Prop :=
  H b = none /\ b ≠ X.env.locals /\ b ∉ X.fs /\ (b ∈ X.ex ∨ X.s₀.heap.objs.size ≤ b) /\ (∀ x c, X.env.cells.lookup x = some c->c ≠ b) /\ ∀ p ∈ X.pn ++ pins, p.1 ≠ b
theorem Inv.fpOk {X : Cx} {pins : List (Addr × Obj)} {σ : St} {H H' : Hp} {s : Shared} {b : Addr} (I : Inv X pins σ H s) (hb : s.heap.objs.size ≤ b) (hn : H' b = none) : FpOk X pins H' b := by
  refine ⟨hn, Nat.ne_of_gt (Nat.lt_of_lt_of_le I.lt hb), I.nofs hb, .inr (Nat.le_trans I.sz hb), fun x c e z => ?_, fun p hp z => ?_⟩
  · obtain ⟨v, q⟩ := I.cell x c e
    exact absurd (Nat.lt_of_lt_of_le q.lt (by rw [z]; exact hb)) (Nat.lt_irrefl _)
  · exact absurd (Nat.lt_of_lt_of_le (Heap.lt_size (I.pin p hp).1) (by rw [z]; exact hb)) (Nat.lt_irrefl _)
structure Turn (P : Program) (w : World) (K : PySem.W.Frag) (tg : Expr) (J : It) (fp : List Addr) (it : Addr) (tn : Nat->Heap->Prop) : Prop where
  mem : it ∈ fp
  obj : ∀ i h, tn i h->∀ b ∈ fp, ∃ o, h.get? b = some o /\ ∀ v, o.data ≠ .cell v
  keep : ∀ i h h', tn i h->(∀ b ∈ fp, ∀ o, h.get? b = some o->h'.get? b = some o)->tn i h'
  item : ∀ (X : Cx), X.prog = P->X.w = w->X.K = K->X.calm = true->∀ (i : Nat) (pins : List (Addr × Obj)) (s : Shared) (σ : St) (H : Hp) (E : Value->Shared->Prop), Inv X pins σ H s->(∀ b ∈ fp, FpOk X pins H b)->tn i s.heap->J.go i H →
    wpAny (model P w) X.A (pyNext (.ref it)) (fun r s1 => ∃ u, r = some u ∧
      wpAny (model P w) X.A (letOwnedTupleGo tg (.ref it) u) (fun _ s2 => ∃ x H', Inv X pins σ H' s2 /\ RelV x u /\ J.yld i H x H' /\ tn (i + 1) s2.heap /\ ∀ b ∈ fp, H' b = none) E s1) E s
  done : ∀ (X : Cx), X.prog = P->X.w = w->X.K = K->X.calm = true->∀ (i : Nat) (pins : List (Addr × Obj)) (s : Shared) (σ : St) (H : Hp) (E : Value->Shared->Prop), Inv X pins σ H s->(∀ b ∈ fp, FpOk X pins H b)->tn i s.heap->J.stop i H →
    wpAny (model P w) X.A (pyNext (.ref it)) (fun r s1 => r = none /\ Inv X pins σ H s1) E s
  self : ∀ (A : Around) (i : Nat) (s : Shared) (Q : Value->Shared->Prop) (E : Value->Shared->Prop), tn i s.heap->Q (.ref it) s->wpAny (model P w) A (pyIter (.ref it)) Q E s
abbrev TI := St->Hp->(It->Hp->Prop)->Prop
def PIE (X : Cx) (pins : List (Addr × Obj)) (σ : St) (tg : Expr) (R : It->Hp->Prop) (itv : Value) (s2 : Shared) : Prop :=
  ∃ (it : Addr) (fp : List Addr) (tn : Nat->Heap->Prop) (J : It) (H' : Hp), itv = .ref it /\ Inv X pins σ H' s2 /\ Turn X.prog X.w X.K tg J fp it tn /\ tn 0 s2.heap /\ (∀ b ∈ fp, FpOk X pins H' b) /\ R J H'
def PI (X : Cx) (tg iter : Expr) (wi : TI) : Prop :=
  ∀ (pins : List (Addr × Obj)) (s : Shared) (σ : St) (H : Hp) (R : It->Hp->Prop), Inv X pins σ H s->wi σ H R →
    wpAny (model X.prog X.w) X.A (eval iter X.env) (fun v s1 => wpAny (model X.prog X.w) X.A (pyIter v) (PIE X pins σ tg R) X.xe s1) X.xe s
theorem go_of {M : Model} {A : Around} {E : Value->Shared->Prop} {s : Shared} {tg : Expr} {it : Addr} {u : Value} {o : Obj} {n : String} {vs : Array Value} {Q : Unit->Shared->Prop} (ho : s.heap.get? it = some o) (hc : o.cls = .type n) (hd : o.data = .fields vs)
    (hn : ["enumerate", "zip", "dict_itemiterator", "dict_reverseitemiterator", "odict_iterator", "itertools.zip_longest", "itertools.pairwise"].contains n = false) (hQ : Q () s) : wpAny M A (letOwnedTupleGo tg (.ref it) u) Q E s := by
  unfold letOwnedTupleGo
  cases tg <;> first
    | exact wpAny_pure hQ
    | (cases u <;> first
        | exact wpAny_pure hQ
        | (refine wpAny_bind (wpAny_load ho ?_)
           rw [hc, hd]
           show wpAny M A (if (["enumerate", "zip", "dict_itemiterator", "dict_reverseitemiterator", "odict_iterator", "itertools.zip_longest", "itertools.pairwise"].contains n && vs[0]? == some (rawInt _)) = true then _ else _) Q E s
           rw [if_neg (by intro h; rw [hn, Bool.false_and] at h; cases h)]
           exact wpAny_pure hQ))
def Itl (K : PySem.W.Frag) (a : Addr) : It :=
  ⟨fun i H => ∃ xs x, SqL K H a xs /\ xs[i]? = some x, fun i H x H' => H' = H /\ ∀ xs, SqL K H a xs->xs[i]? = some x, fun i H => ∃ xs, SqL K H a xs /\ xs.length ≤ i⟩
def Itr (lo : Int) (n : Nat) : It := ⟨fun i _ => i < n, fun i H x H' => H' = H /\ x = .int (lo + i), fun i _ => n ≤ i⟩
theorem turn_list {P : Program} {w : World} {K : PySem.W.Frag} {tg : Expr} (a it : Addr) : Turn P w K tg (Itl K a) [it] it (fun i h => h.IsListIter it a i) where
  mem := by simp
  obj := fun i h st b hb => by
    have e : b = it := by simpa using hb
    subst e
    obtain ⟨o, e, c, d⟩ := st
    exact ⟨o, e, fun v z => by rw [d] at z; cases z⟩
  keep := fun i h h' st k => st.at fun o e => k it (by simp) o e
  item := by
    intro X hP hw hK hc i pins s σ H E I hf st hg
    subst hP hw hK
    obtain ⟨xs, x, hq, hx⟩ := hg
    obtain ⟨its, rv, p, hz⟩ := I.list hq
    obtain ⟨u, hu, ru⟩ := rv.get hx
    obtain ⟨f0, f1, f2, f3, f4, f5⟩ := hf it (by simp)
    refine wpAny_pyNext_list_item st p.isList (x := u) (by simpa using hu) fun h' st' sb => ?_
    have I1 : Inv X pins σ H { s with heap := h' } := I.turned (t' := s.toks) (fun b o hb e => (sb.2 b hb).trans e) f0 f1 f3 f4 f5
    obtain ⟨o, e, c, d⟩ := id st'
    exact ⟨u, rfl, go_of (s := { s with heap := h' }) e c d (by decide) ⟨x, H, I1, ru, ⟨rfl, fun ys hy => by rw [I.list_inj hy hq]; exact hx⟩, st', fun b hb => (hf b hb).1⟩⟩
  done := by
    intro X hP hw hK hc i pins s σ H E I hf st hg
    subst hP hw hK
    obtain ⟨xs, hq, hx⟩ := hg
    obtain ⟨its, rv, p, hz⟩ := I.list hq
    obtain ⟨f0, f1, f2, f3, f4, f5⟩ := hf it (by simp)
    have hl := rv.length
    exact wpAny_pyNext_list_end (I.ok.hd hc) st p.isList (by simp; omega) fun h' eb => ⟨rfl, I.turned (t' := s.toks) (fun b o hb e => eb b o hb e) f0 f1 f3 f4 f5⟩
  self := fun _ _ _ _ _ st h => wpAny_pyIter_listiter st h
theorem turn_range {P : Program} {w : World} {K : PySem.W.Frag} {tg : Expr} (it : Addr) (lo : Int) (n : Nat) : Turn P w K tg (Itr lo n) [it] it (fun i h => IsRangeIter h it (lo + (i : Nat) * 1) ((n : Int) - (i : Nat)) 1) where
  mem := by simp
  obj := fun i h st b hb => by
    have e : b = it := by simpa using hb
    subst e
    exact ⟨_, st, fun v z => by
      have z' : Data.fields _ = Data.cell v := z
      cases z'⟩
  keep := fun i h h' st k => k it (by simp) _ st
  item := by
    intro X hP hw hK hc i pins s σ H E I hf st hg
    subst hP hw hK
    obtain ⟨f0, f1, f2, f3, f4, f5⟩ := hf it (by simp)
    have W := Walks.range (prog := X.prog) (w := X.w) (I.ok.hd hc) it lo 1 n
    refine W.item i s _ _ hg st fun v h' tk hv st' kk => ?_
    obtain ⟨t, rfl⟩ := hv
    have I1 : Inv X pins σ H { s with heap := h', toks := tk } := I.turned (fun b o hb e => kk b o (by simpa using hb) e) f0 f1 f3 f4 f5
    refine ⟨_, rfl, go_of (s := { s with heap := h', toks := tk }) (n := "range_iterator") st' rfl rfl (by decide) ⟨.int (lo + i), H, I1, ⟨t, ?_⟩, ⟨rfl, rfl⟩, st', fun b hb => (hf b hb).1⟩⟩
    rw [Int.mul_one]
  done := by
    intro X hP hw hK hc i pins s σ H E I hf st hg
    subst hP hw hK
    obtain ⟨f0, f1, f2, f3, f4, f5⟩ := hf it (by simp)
    exact wpAny_pyNext_range_end (I.ok.hd hc) st (by have : n ≤ i := hg; omega) fun h' eb => ⟨rfl, I.turned (t' := s.toks) (fun b o hb e => eb b o hb e) f0 f1 f3 f4 f5⟩
  self := fun _ _ _ _ _ st h => wpAny_pyIter_rangeiter st h
open PySem PySem.Spec PyProof.Rows
section
variable {X : Cx} {tg : Expr}
def iList (K : PySem.W.Frag) (tl : TE) : TI := fun σ H R => tl σ H fun x H1 => ∃ a, x = .ref a /\ (∃ xs, SqL K H1 a xs) /\ R (Itl K a) H1
theorem pi_list {l : Expr} {tl : TE} (hl : PE X l tl) : PI X tg l (iList X.K tl) := by
  intro pins s σ H R I h
  refine thn (hl pins s σ H _ I h) fun v s1 ⟨x, H1, I1, r1, q1⟩ => ?_
  obtain ⟨a, e, ⟨xs, hq⟩, q⟩ := q1
  subst e
  cases r1
  obtain ⟨its, rv, p, hz⟩ := I1.list hq
  refine wpAny_pyIter_list p.isList ?_
  refine ⟨s1.heap.objs.size, [s1.heap.objs.size], _, _, H1, rfl, I1.kept (t' := s1.toks) fun b o e => Heap.get?_push_of_some _ e, turn_list a _, ⟨_, Heap.get?_push_size _ rfl, rfl, rfl⟩, fun b hb => ?_, q⟩
  have e : b = s1.heap.objs.size := by simpa using hb
  subst e
  exact I1.fpOk (Nat.le_refl _) (I1.hok.fresh (Nat.le_refl _))
theorem range_it {pins : List (Addr × Obj)} {σ : St} {H : Hp} {s : Shared} {R : It->Hp->Prop} {E : Value->Shared->Prop} {lo hi : Int} {t u v : Tok} {tk : Nat} (I : Inv X pins σ H s) (h1 : -(2 ^ 62) ≤ lo) (h2 : lo < 2 ^ 62) (h3 : -(2 ^ 62) ≤ hi) (h4 : hi < 2 ^ 62)
    (q : R (Itr lo (hi - lo).toNat) H) : wpAny (model X.prog X.w) X.A (pyIter (.ref s.heap.objs.size)) (PIE X pins σ tg R) E { s with heap := s.heap.push { cls := .type "range", data := .fields #[.int lo t, .int hi u, .int 1 v] }, toks := tk } := by
  refine wpAny_pyIter_range (IsRange.new ..) (small_one h1 h2 h3 h4) ?_
  have I1 : Inv X pins σ H { s with heap := s.heap.push { cls := .type "range", data := .fields #[.int lo t, .int hi u, .int 1 v] }, toks := tk } := I.kept fun b o e => Heap.get?_push_of_some _ e
  refine ⟨(s.heap.push { cls := .type "range", data := .fields #[.int lo t, .int hi u, .int 1 v] }).objs.size, [(s.heap.push { cls := .type "range", data := .fields #[.int lo t, .int hi u, .int 1 v] }).objs.size], _, _, H, rfl,
    I1.kept (t' := tk) fun b o e => Heap.get?_push_of_some _ e, turn_range _ lo (hi - lo).toNat, ?_, fun b hb => ?_, q⟩
  · have e1 : lo + ((0 : Nat) : Int) * 1 = lo := by simp
    have e2 : (((hi - lo).toNat : Nat) : Int) - ((0 : Nat) : Int) = Builtin.Range.rangeSize lo hi 1 := by rw [rangeSize_one]; split <;> omega
    show IsRangeIter _ _ (lo + ((0 : Nat) : Int) * 1) ((((hi - lo).toNat : Nat) : Int) - ((0 : Nat) : Int)) 1
    rw [e1, e2]
    exact Heap.get?_push_size _ rfl
  · have e : b = (s.heap.push { cls := .type "range", data := .fields #[.int lo t, .int hi u, .int 1 v] }).objs.size := by simpa using hb
    subst e
    exact I1.fpOk (Nat.le_refl _) (I1.hok.fresh (Nat.le_refl _))
def iRng1 (ta : TA) : TI := fun σ H R => ta σ H fun vs H1 => ∃ j : Int, vs = [.int j] /\ -(2 ^ 62) ≤ j /\ j < 2 ^ 62 /\ R (Itr 0 j.toNat) H1
theorem pi_range1 {a : Expr} {ta : TA} {p pos : Pos} (hg : Gl X "range") (hm : X.mg "range" = none) (ha : PA X [a] ta) (hs : starEach [a] X.env = [(false, eval a X.env)] := by rfl) : PI X tg (.Call (.Name "range" p) [a] [] pos) (iRng1 ta) := by
  intro pins s σ H R I h
  refine Call_ (ld_blt I hg hm boot_range (PyProof.Rows.callWith_type1 (thn (ha pos pins s σ H _ I h) fun us s1 ⟨vs, H1, I1, r1, q1⟩ => ?_) hs rfl))
  obtain ⟨j, e, q1, q2, q⟩ := q1
  subst e
  cases r1 with
  | cons r rr =>
    cases rr
    obtain ⟨t, rfl⟩ := r
    exact call_range_1 (range_it I1 (by omega) (by omega) q1 q2 (by simpa using q))
def tFor (wi : TI) (g : TG) (tb : TS) : TS := fun D σ H => wi σ H fun J H1 => ∃ W : Nat->Nat->St->Hp->Prop, (∃ m, W 0 m σ H1) /\ ∀ i m σ H, W i m σ H →
  (J.stop i H /\ D.nx σ H) ∨ (J.go i H /\ ∃ N : St->Hp->Prop, (∀ σ' H', N σ' H'->∃ m', m' < m /\ W (i + 1) m' σ' H') /\ ∀ x H', J.yld i H x H'->g x σ H' fun σ2 H2 => tb { D with nx := N, ct := N, bk := D.nx } σ2 H2)
def pinsAt (fp : List Addr) (h : Heap) : List (Addr × Obj) := fp.filterMap fun b => (h.get? b).map fun o => (b, o)
theorem mem_pinsAt {fp : List Addr} {h : Heap} {b : Addr} {o : Obj} (hb : b ∈ fp) (e : h.get? b = some o) : (b, o) ∈ pinsAt fp h := List.mem_filterMap.mpr ⟨b, hb, by rw [e]; rfl⟩
theorem of_pinsAt {fp : List Addr} {h : Heap} {p : Addr × Obj} (hp : p ∈ pinsAt fp h) : p.1 ∈ fp /\ h.get? p.1 = some p.2 := by
  obtain ⟨b, hb, e⟩ := List.mem_filterMap.mp hp
  cases q : h.get? b with
  | none => rw [q] at e; cases e
  | some o =>
    rw [q] at e
    have e' : (b, o) = p := Option.some.inj e
    subst e'
    exact ⟨hb, q⟩
theorem Inv.pinned {pins : List (Addr × Obj)} {σ : St} {H : Hp} {s : Shared} {fp : List Addr} (I : Inv X pins σ H s) (hf : ∀ b ∈ fp, FpOk X pins H b) (ho : ∀ b ∈ fp, ∃ o, s.heap.get? b = some o /\ ∀ v, o.data ≠ .cell v) : Inv X (pins ++ pinsAt fp s.heap) σ H s :=
  I.pins_of fun p hp => (List.mem_append.mp hp).elim (fun z => I.pin p (List.mem_append_right _ z)) fun z => by
    obtain ⟨hb, e⟩ := of_pinsAt z
    obtain ⟨f0, f1, f2, _⟩ := hf p.1 hb
    obtain ⟨o, e', d⟩ := ho p.1 hb
    rw [e] at e'; cases e'
    exact ⟨e, f0, f1, f2, d⟩
theorem Inv.unpinned {pins pl : List (Addr × Obj)} {σ : St} {H : Hp} {s : Shared} (I : Inv X (pins ++ pl) σ H s) : Inv X pins σ H s := I.pins_of fun p hp => I.pin p (List.mem_append_right _ (List.mem_append_left _ hp))
theorem ps_for {iter : Expr} {body : List Stmt} {wi : TI} {g : TG} {tb : TS} {pos : Pos} (hp : PassesOwn (model X.prog X.w) X.A X.env X.xe) (hc : X.calm = true) (hi : PI X tg iter wi) (hg : PG X tg g) (hb : PSs X body tb)
    (hs : ∀ x, foldedSetIterable iter X.env x = pure x := by intro _; rfl) : PS X (.For tg iter body [] pos) (tFor wi g tb) := by
  intro pins s σ H D I h
  refine wpAny_For (thn (hi pins s σ H _ I h) fun v s1 h1 => thn h1 fun itv s2 h2 => ?_) hs
  obtain ⟨it, fp, tn, J, H2, e, I2, T, st2, f2, W, ⟨m0, w0⟩, turn⟩ := h2
  subst e
  have stat : ∀ {H' : Hp}, (∀ b ∈ fp, H' b = none)->∀ b ∈ fp, FpOk X pins H' b := fun hn b hb => ⟨hn b hb, (f2 b hb).2⟩
  refine codeAny_forLoop_any (fun n s' => ∃ i σ' H', Inv X pins σ' H' s' /\ tn i s'.heap /\ (∀ b ∈ fp, H' b = none) /\ W i n σ' H') ?_ m0 ⟨0, σ, H2, I2, st2, fun b hb => (f2 b hb).1, w0⟩
  rintro n s3 ⟨i, σ3, H3, I3, st3, fr3, w3⟩
  rcases turn i n σ3 H3 w3 with ⟨stop, qn⟩ | ⟨go, N, hN, step⟩
  · refine wpAny_passesOwn hp (thn (T.done X rfl rfl rfl hc i pins s3 σ3 H3 X.xe I3 (stat fr3) st3 stop) fun r s4 ⟨hr, I4⟩ => ?_)
    subst hr
    exact wpAny_execs_nil ⟨σ3, H3, I4, qn⟩
  · refine wpAny_passesOwn hp (thn (T.item X rfl rfl rfl hc i pins s3 σ3 H3 X.xe I3 (stat fr3) st3 go) fun r s4 ⟨u, hr, h4⟩ => ?_)
    subst hr
    refine wpAny_passesOwn hp (thn h4 fun _ s5 ⟨x, H5, I5, r5, y5, st5, fr5⟩ => ?_)
    have I5' := I5.pinned (stat fr5) (T.obj _ _ st5)
    refine wpAny_passesOwn hp (thn (hg _ s5 σ3 H5 x u _ I5' r5 (step x H5 y5)) fun _ s6 ⟨σ6, H6, I6, q6⟩ => ?_)
    refine wpAny_passesOwn hp (thn (hb _ s6 σ6 H6 _ I6 q6) fun f s7 q7 => ?_)
    have again : ∀ {σ7 : St} {H7 : Hp}, Inv X (pins ++ pinsAt fp s5.heap) σ7 H7 s7->N σ7 H7->∃ m, m < n /\ ∃ i σ' H', Inv X pins σ' H' s7 /\ tn i s7.heap /\ (∀ b ∈ fp, H' b = none) /\ W i m σ' H' := fun {σ7 H7} I7 n7 => by
      obtain ⟨m', hm, w7⟩ := hN σ7 H7 n7
      refine ⟨m', hm, i + 1, σ7, H7, I7.unpinned, T.keep _ _ _ st5 fun b hb o e => (I7.pin (b, o) (List.mem_append_right _ (List.mem_append_right _ (mem_pinsAt hb e)))).1, fun b hb => ?_, w7⟩
      obtain ⟨o, e, d⟩ := T.obj _ _ st5 b hb
      exact (I7.pin (b, o) (List.mem_append_right _ (List.mem_append_right _ (mem_pinsAt hb e)))).2.1
    cases f with
    | next => obtain ⟨σ7, H7, I7, n7⟩ := q7; exact again I7 n7
    | cont => obtain ⟨σ7, H7, I7, n7⟩ := q7; exact again I7 n7
    | brk => obtain ⟨σ7, H7, I7, q7⟩ := q7; exact ⟨σ7, H7, I7.unpinned, q7⟩
    | ret v => obtain ⟨x7, σ7, H7, I7, r7, q7⟩ := q7; exact ⟨x7, σ7, H7, I7.unpinned, r7, q7⟩
end
theorem for_list {K : PySem.W.Frag} {a : Addr} {xs : List V} {g : TG} {tb : TS} {D : Ends} {σ : St} {H : Hp} (Pv : Nat->St->Hp->Prop) (h0 : Pv 0 σ H) (hl : ∀ i σ H, i ≤ xs.length->Pv i σ H->SqL K H a xs)
    (hs : ∀ i x σ H, xs[i]? = some x->Pv i σ H->g x σ H fun σ2 H2 => tb { D with nx := Pv (i + 1), ct := Pv (i + 1), bk := D.nx } σ2 H2) (hd : ∀ σ H, Pv xs.length σ H->D.nx σ H) :
    ∃ W : Nat->Nat->St->Hp->Prop, (∃ m, W 0 m σ H) /\ ∀ i m σ H, W i m σ H →
      ((Itl K a).stop i H /\ D.nx σ H) ∨ ((Itl K a).go i H /\ ∃ N : St->Hp->Prop, (∀ σ' H', N σ' H'->∃ m', m' < m /\ W (i + 1) m' σ' H') /\ ∀ x H', (Itl K a).yld i H x H'->g x σ H' fun σ2 H2 => tb { D with nx := N, ct := N, bk := D.nx } σ2 H2) := by
  refine ⟨fun i m σ H => m = xs.length - i /\ i ≤ xs.length /\ Pv i σ H, ⟨xs.length, by simp, Nat.zero_le _, h0⟩, ?_⟩
  rintro i m σ H ⟨rfl, hi, p⟩
  have q := hl i σ H hi p
  by_cases hlt : i < xs.length
  · refine .inr ⟨⟨xs, xs[i], q, by simp [hlt]⟩, Pv (i + 1), fun σ' H' p' => ⟨xs.length - (i + 1), by omega, rfl, hlt, p'⟩, fun x H' y => ?_⟩
    obtain ⟨e, y⟩ := y
    subst e
    exact hs i x σ _ (y xs q) p
  · have e : i = xs.length := by omega
    subst e
    exact .inl ⟨⟨xs, q, Nat.le_refl _⟩, hd σ H p⟩
theorem for_range {lo : Int} {n : Nat} {g : TG} {tb : TS} {D : Ends} {σ : St} {H : Hp} (Pv : Nat->St->Hp->Prop) (h0 : Pv 0 σ H)
    (hs : ∀ i σ H, i < n->Pv i σ H->g (.int (lo + i)) σ H fun σ2 H2 => tb { D with nx := Pv (i + 1), ct := Pv (i + 1), bk := D.nx } σ2 H2) (hd : ∀ σ H, Pv n σ H->D.nx σ H) :
    ∃ W : Nat->Nat->St->Hp->Prop, (∃ m, W 0 m σ H) /\ ∀ i m σ H, W i m σ H →
      ((Itr lo n).stop i H /\ D.nx σ H) ∨ ((Itr lo n).go i H /\ ∃ N : St->Hp->Prop, (∀ σ' H', N σ' H'->∃ m', m' < m /\ W (i + 1) m' σ' H') /\ ∀ x H', (Itr lo n).yld i H x H'->g x σ H' fun σ2 H2 => tb { D with nx := N, ct := N, bk := D.nx } σ2 H2) := by
  refine ⟨fun i m σ H => m = n - i /\ i ≤ n /\ Pv i σ H, ⟨n, by simp, Nat.zero_le _, h0⟩, ?_⟩
  rintro i m σ H ⟨rfl, hi, p⟩
  by_cases hlt : i < n
  · refine .inr ⟨hlt, Pv (i + 1), fun σ' H' p' => ⟨n - (i + 1), by omega, rfl, hlt, p'⟩, fun x H' y => ?_⟩
    obtain ⟨e, y⟩ := y
    subst e y
    exact hs i σ _ hlt p
  · have e : i = n := by omega
    subst e
    exact .inl ⟨Nat.le_refl _, hd σ H p⟩
open PySem PySem.Spec PyProof.Rows
abbrev R2 := V->V->Hp->VK->Prop
def OpR (X : Cx) (f : Value->Value->Sem Value) (r : R2) : Prop :=
  ∀ (pins : List (Addr × Obj)) (s : Shared) (σ : St) (H : Hp) (x y : V) (v u : Value) (Q : VK), Inv X pins σ H s->RelV x v->RelV y u->r x y H Q →
    wpAny (model X.prog X.w) X.A (f v u) (EP X pins σ Q) X.xe s
def UnR (X : Cx) (f : Value->Sem Value) (r : V->Hp->VK->Prop) : Prop :=
  ∀ (pins : List (Addr × Obj)) (s : Shared) (σ : St) (H : Hp) (x : V) (v : Value) (Q : VK), Inv X pins σ H s->RelV x v->r x H Q →
    wpAny (model X.prog X.w) X.A (f v) (EP X pins σ Q) X.xe s
def CallR (X : Cx) (f : Value) (r : List V->Hp->VK->Prop) : Prop :=
  ∀ (pins : List (Addr × Obj)) (s : Shared) (σ : St) (H : Hp) (xs : List V) (us : List Value) (Q : VK), Inv X pins σ H s->Vals xs us->r xs H Q →
    wpAny (model X.prog X.w) X.A (call f us) (EP X pins σ Q) X.xe s
def tOp (r : R2) (ta tb : TE) : TE := fun σ H Q => ta σ H fun x H1 => tb σ H1 fun y H2 => r x y H2 Q
def tUn (r : V->Hp->VK->Prop) (ta : TE) : TE := fun σ H Q => ta σ H fun x H1 => r x H1 Q
def rI (C : Int->Int->Prop) (g : Int->Int->V) : R2 := fun x y H Q => ∃ i j, x = .int i /\ y = .int j /\ C i j /\ Q (g i j) H
def rI0 (g : Int->Int->V) : R2 := fun x y H Q => ∃ i j, x = .int i /\ y = .int j /\ Q (g i j) H
def rU (g : Int->V) : V->Hp->VK->Prop := fun x H Q => ∃ i, x = .int i /\ Q (g i) H
section
variable {X : Cx} {a b c : Expr} {ta tb tc : TE} {pos : Pos}
theorem binT (ha : PE X a ta) (hb : PE X b tb) {pins : List (Addr × Obj)} {s : Shared} {σ : St} {H : Hp} {R : V->V->Hp->Prop} (I : Inv X pins σ H s)
    (h : ta σ H fun x H1 => tb σ H1 fun y H2 => R x y H2) {Q : Value->Shared->Prop} {f : Value->Value->Sem Value}
    (hf : ∀ v u s2 x y H2, Inv X pins σ H2 s2->RelV x v->RelV y u->R x y H2->wpAny (model X.prog X.w) X.A (f v u) Q X.xe s2) :
    wpAny (model X.prog X.w) X.A (eval a X.env) (fun v s₁ => wpAny (model X.prog X.w) X.A (eval b X.env) (fun u s₂ => wpAny (model X.prog X.w) X.A (f v u) Q X.xe s₂) X.xe s₁) X.xe s := by
  refine thn (ha pins s σ H _ I h) fun v s1 ⟨x, H1, I1, r1, q1⟩ => ?_
  refine thn (hb pins s1 σ H1 _ I1 q1) fun u s2 ⟨y, H2, I2, r2, q2⟩ => ?_
  exact hf v u s2 x y H2 I2 r1 r2 q2
theorem pe_op {op : Operator} {r : R2} (ho : OpR X (binaryOp op) r) (ha : PE X a ta) (hb : PE X b tb) : PE X (.BinOp a op b pos) (tOp r ta tb) := by
  intro pins s σ H Q I h
  exact wpAny_BinOp (binT ha hb I h fun v u s2 x y H2 I2 rx ry q => ho pins s2 σ H2 x y v u Q I2 rx ry q)
theorem pe_un {op : UnaryOp} {r : V->Hp->VK->Prop} (ho : UnR X (unaryOp op) r) (ha : PE X a ta) : PE X (.UnaryOp op a pos) (tUn r ta) := by
  intro pins s σ H Q I h
  exact UnaryOp_ (thn (ha pins s σ H _ I h) fun v s1 ⟨x, H1, I1, r1, q1⟩ => ho pins s1 σ H1 x v Q I1 r1 q1)
theorem opI {f : Value->Value->Sem Value} {C : Int->Int->Prop} {g : Int->Int->Int}
    (rule : ∀ (i j : Int) (t u : Tok) (s : Shared) (Q : Value->Shared->Prop) (E : Value->Shared->Prop), C i j->Q (.int (g i j) s.toks) { s with toks := s.toks + 1 }->wpAny (model X.prog X.w) X.A (f (.int i t) (.int j u)) Q E s) :
    OpR X f (rI C fun i j => .int (g i j)) := by
  intro pins s σ H x y v u Q I rx ry h
  obtain ⟨i, j, rfl, rfl, hc, q⟩ := h
  obtain ⟨t, rfl⟩ := rx
  obtain ⟨t', rfl⟩ := ry
  exact rule i j t t' s _ _ hc ⟨.int (g i j), H, I.tok _, ⟨_, rfl⟩, q⟩
theorem opI0 {f : Value->Value->Sem Value} {g : Int->Int->Int}
    (rule : ∀ (i j : Int) (t u : Tok) (s : Shared) (Q : Value->Shared->Prop) (E : Value->Shared->Prop), Q (.int (g i j) s.toks) { s with toks := s.toks + 1 }->wpAny (model X.prog X.w) X.A (f (.int i t) (.int j u)) Q E s) :
    OpR X f (rI0 fun i j => .int (g i j)) := by
  intro pins s σ H x y v u Q I rx ry h
  obtain ⟨i, j, rfl, rfl, q⟩ := h
  obtain ⟨t, rfl⟩ := rx
  obtain ⟨t', rfl⟩ := ry
  exact rule i j t t' s _ _ ⟨.int (g i j), H, I.tok _, ⟨_, rfl⟩, q⟩
theorem opB0 {f : Value->Value->Sem Value} {g : Int->Int->Bool}
    (rule : ∀ (i j : Int) (t u : Tok) (s : Shared) (Q : Value->Shared->Prop) (E : Value->Shared->Prop), Q (.bool (g i j)) s->wpAny (model X.prog X.w) X.A (f (.int i t) (.int j u)) Q E s) :
    OpR X f (rI0 fun i j => .bl (g i j)) := by
  intro pins s σ H x y v u Q I rx ry h
  obtain ⟨i, j, rfl, rfl, q⟩ := h
  obtain ⟨t, rfl⟩ := rx
  obtain ⟨t', rfl⟩ := ry
  exact rule i j t t' s _ _ ⟨.bl (g i j), H, I, rfl, q⟩
def CPow (i j : Int) : Prop := 0 ≤ j /\ j ≤ 1000000 /\ i.natAbs < 2 ^ 64
def CMul (i j : Int) : Prop := (-(2 ^ 64) < i /\ i < 2 ^ 64) ∨ (-(2 ^ 64) < j /\ j < 2 ^ 64)
theorem CMul.ok {i j : Int} (h : CMul i j) : IntMulOk i j := by
  rcases h with ⟨h1, h2⟩ | ⟨h1, h2⟩
  · exact .of_left (intBits_le_64 h1 h2)
  · exact .of_right (intBits_le_64 h1 h2)
theorem op_add : OpR X (binaryOp .Add) (rI0 fun i j => .int (i + j)) := opI0 fun _ _ _ _ _ _ _ q => add_int q
theorem op_mul : OpR X (binaryOp .Mult) (rI CMul fun i j => .int (i * j)) := opI fun _ _ _ _ _ _ _ hc q => mul_int q hc.ok
theorem op_mod : OpR X (binaryOp .Mod) (rI (fun _ j => 0 < j) fun i j => .int (i % j)) := opI fun i j _ _ _ _ _ hc q => by
  have h1 : (0 : Int) < j := hc
  exact mod_int' (by omega) (by rw [Int.fmod_eq_emod_of_nonneg i (by omega)]; exact q)
theorem op_pow : OpR X (binaryOp .Pow) (rI CPow fun i j => .int (i ^ j.toNat)) := opI fun _ _ _ _ _ _ _ hc q => pow_int_small hc.1 hc.2.1 hc.2.2 q
theorem unI {f : Value->Sem Value} {g : Int->Int}
    (rule : ∀ (i : Int) (t : Tok) (s : Shared) (Q : Value->Shared->Prop) (E : Value->Shared->Prop), Q (.int (g i) s.toks) { s with toks := s.toks + 1 }->wpAny (model X.prog X.w) X.A (f (.int i t)) Q E s) :
    UnR X f (rU fun i => .int (g i)) := by
  intro pins s σ H x v Q I rx h
  obtain ⟨i, rfl, q⟩ := h
  obtain ⟨t, rfl⟩ := rx
  exact rule i t s _ _ ⟨.int (g i), H, I.tok _, ⟨_, rfl⟩, q⟩
theorem un_neg : UnR X (unaryOp .USub) (rU fun i => .int (-i)) := unI fun _ _ _ _ _ q => neg_int q
end
def scal : V->V->Bool
  | .non, .non => true | .non, .int _ => true | .int _, .non => true | .non, .bl _ => true | .bl _, .non => true | .non, .str _ => true | .str _, .non => true
  | .int _, .int _ => true | .bl _, .bl _ => true | .str _, .str _ => true | .byt _, .byt _ => true
  | .int _, .str _ => true | .str _, .int _ => true | .bl _, .str _ => true | .str _, .bl _ => true
  | _, _ => false
def rEq : R2 := fun x y H Q => scal x y = true /\ Q (.bl (decide (x = y))) H
theorem dec_int {i j : Int} : decide (V.int i = V.int j) = (i == j) := by
  rw [Bool.eq_iff_iff]
  simp
theorem dec_bl {i j : Bool} : decide (V.bl i = V.bl j) = (i == j) := by
  rw [Bool.eq_iff_iff]
  simp
theorem dec_str {i j : Str} : decide (V.str i = V.str j) = (i == j) := by
  rw [Bool.eq_iff_iff]
  simp
theorem dec_byt {i j : Array UInt8} : decide (V.byt i = V.byt j) = (i.toList == j.toList) := by
  rw [Bool.eq_iff_iff]
  cases i
  cases j
  simp
section
variable {X : Cx} {a b c : Expr} {ta tb tc : TE} {pos : Pos}
theorem fin_bl {pins : List (Addr × Obj)} {σ : St} {H : Hp} {s : Shared} {Q : VK} {k k' : Bool} (I : Inv X pins σ H s) (q : Q (.bl k) H) (e : k = k') : EP X pins σ Q (.bool k') s := by
  subst e
  exact ⟨.bl k, H, I, rfl, q⟩
theorem op_eq : OpR X (compareOp .Eq) rEq := by
  intro pins s σ H x y v u Q I rx ry h
  obtain ⟨hs, q⟩ := h
  cases x with
  | non =>
    cases rx
    cases y with
    | non => cases ry; exact PySem.EqNone.eq_none_none (fin_bl I q (by simp))
    | bl j => cases ry; exact PySem.EqNone.eq_none_bool (fin_bl I q (by simp))
    | int j => obtain ⟨t', rfl⟩ := ry; exact PySem.EqNone.eq_none_int (fin_bl I q (by simp))
    | str j => obtain ⟨t', rfl⟩ := ry; exact PySem.EqNone.eq_none_str (fin_bl I q (by simp))
    | _ => exact absurd (show false = true from hs) Bool.false_ne_true
  | bl i =>
    cases rx
    cases y with
    | non => cases ry; exact PySem.EqNone.eq_bool_none (fin_bl I q (by simp))
    | bl j => cases ry; exact eq_bool (fin_bl I q dec_bl)
    | str j => obtain ⟨t', rfl⟩ := ry; exact PySem.EqMixed.eq_bool_str (fin_bl I q (by simp))
    | _ => exact absurd (show false = true from hs) Bool.false_ne_true
  | int i =>
    obtain ⟨t, rfl⟩ := rx
    cases y with
    | non => cases ry; exact PySem.EqNone.eq_int_none (fin_bl I q (by simp))
    | int j => obtain ⟨t', rfl⟩ := ry; exact eq_int (fin_bl I q dec_int)
    | str j => obtain ⟨t', rfl⟩ := ry; exact PySem.EqMixed.eq_int_str (fin_bl I q (by simp))
    | _ => exact absurd (show false = true from hs) Bool.false_ne_true
  | str i =>
    obtain ⟨t, rfl⟩ := rx
    cases y with
    | non => cases ry; exact PySem.EqNone.eq_str_none (fin_bl I q (by simp))
    | bl j => cases ry; exact PySem.EqMixed.eq_str_bool (fin_bl I q (by simp))
    | int j => obtain ⟨t', rfl⟩ := ry; exact PySem.EqMixed.eq_str_int (fin_bl I q (by simp))
    | str j => obtain ⟨t', rfl⟩ := ry; exact eq_str (fin_bl I q dec_str)
    | _ => exact absurd (show false = true from hs) Bool.false_ne_true
  | byt i =>
    obtain ⟨t, rfl⟩ := rx
    cases y with
    | byt j => obtain ⟨t', rfl⟩ := ry; exact PySem.W.eq_bytes (fin_bl I q dec_byt)
    | _ => exact absurd (show false = true from hs) Bool.false_ne_true
  | _ => cases y <;> exact absurd (show false = true from hs) Bool.false_ne_true
theorem op_lt : OpR X (compareOp .Lt) (rI0 fun i j => .bl (decide (i < j))) := opB0 fun _ _ _ _ _ _ _ q => lt_int q
theorem op_gt : OpR X (compareOp .Gt) (rI0 fun i j => .bl (decide (j < i))) := opB0 fun _ _ _ _ _ _ _ q => gt_int q
theorem op_in_str : OpR X (compareOp .In) (fun x y H Q => ∃ i j, x = .str i /\ y = .str j /\ Q (.bl (!(Builtin.Str.occurrences j i 0 j.length 1).isEmpty)) H) := by
  intro pins s σ H x y v u Q I rx ry h
  obtain ⟨i, j, rfl, rfl, q⟩ := h
  obtain ⟨t, rfl⟩ := rx
  obtain ⟨t', rfl⟩ := ry
  exact in_str (fin_bl I q rfl)
theorem op_isN : OpR X (compareOp .Is) (fun x y H Q => y = .non /\ Q (.bl (decide (x = .non))) H) := by
  intro pins s σ H x y v u Q I rx ry h
  obtain ⟨rfl, q⟩ := h
  cases ry
  refine is_none_gen (fin_bl I q ?_)
  cases x <;> first
    | (cases rx; rfl)
    | (obtain ⟨t, rfl⟩ := rx; rfl)
theorem op_notN : OpR X (compareOp .IsNot) (fun x y H Q => y = .non /\ Q (.bl (!decide (x = .non))) H) := by
  intro pins s σ H x y v u Q I rx ry h
  obtain ⟨rfl, q⟩ := h
  cases ry
  refine isnot_none_gen (fin_bl I q ?_)
  cases x <;> first
    | (cases rx; rfl)
    | (obtain ⟨t, rfl⟩ := rx; rfl)
theorem op_notin_str : OpR X (compareOp .NotIn) (fun x y H Q => ∃ i j, x = .str i /\ y = .str j /\ Q (.bl (!(!(Builtin.Str.occurrences j i 0 j.length 1).isEmpty))) H) := by
  intro pins s σ H x y v u Q I rx ry h
  obtain ⟨i, j, rfl, rfl, q⟩ := h
  obtain ⟨t, rfl⟩ := rx
  obtain ⟨t', rfl⟩ := ry
  exact notIn_str (fin_bl I q rfl)
theorem nomark (b : Expr) {op : CmpOp} (h : op ≠ .In := by decide) (h2 : op ≠ .NotIn := by decide) : behindInMarks op b = false := by
  have e1 : (op == CmpOp.In) = false := by cases op <;> first | rfl | exact absurd rfl h
  have e2 : (op == CmpOp.NotIn) = false := by cases op <;> first | rfl | exact absurd rfl h2
  cases b <;> simp [behindInMarks, e1, e2]
theorem pe_cmpR {op : CmpOp} {r : R2} (ho : OpR X (compareOp op) r) (ha : PE X a ta) (hb : PE X b tb) (hm : behindInMarks op b = false) : PE X (.Compare a [op] [b] pos) (tOp r ta tb) := by
  intro pins s σ H Q I h
  exact wpAny_Compare1 (binT ha hb I h fun v u s2 x y H2 I2 rx ry q => ho pins s2 σ H2 x y v u Q I2 rx ry q) hm
def tTest (t : TE) : TT := fun σ H Q => t σ H fun x H' => ∃ k, x = .bl k /\ Q k H'
theorem pt_cmpR {op : CmpOp} {r : R2} (ho : OpR X (compareOp op) r) (ha : PE X a ta) (hb : PE X b tb) (hm : behindInMarks op b = false) : PT X (.Compare a [op] [b] pos) (tTest (tOp r ta tb)) := by
  intro pins s σ H Q I h
  refine wpAny_isTrue_Compare1 (thn (ha pins s σ H _ I h) fun v s1 ⟨x, H1, I1, r1, q1⟩ => thn (hb pins s1 σ H1 _ I1 q1) fun u s2 ⟨y, H2, I2, r2, q2⟩ =>
    thn (ho pins s2 σ H2 x y v u _ I2 r1 r2 q2) fun c s3 ⟨z, H3, I3, r3, k, e, q3⟩ => ?_) hm
  subst e
  cases r3
  exact wpAny_truthy_bool ⟨H3, I3, q3⟩
theorem line63 : (sizeLine : Nat) < 2 ^ 63 := by rw [sizeLine_eq]; decide
theorem op_add_str : OpR X (binaryOp .Add) (fun x y H Q => ∃ i j, x = .str i /\ y = .str j /\ i.length + j.length ≤ sizeLine /\ Q (.str (i ++ j)) H) := by
  intro pins s σ H x y v u Q I rx ry h
  obtain ⟨i, j, rfl, rfl, hz, q⟩ := h
  obtain ⟨t, rfl⟩ := rx
  obtain ⟨t', rfl⟩ := ry
  exact add_str (fun t' tk => ⟨.str (i ++ j), H, I.tok _, ⟨_, rfl⟩, q⟩) hz
theorem vals1 {x : V} {us : List Value} (r : Vals [x] us) : ∃ u, us = [u] /\ RelV x u := by
  cases r with
  | cons r1 r2 => cases r2; exact ⟨_, rfl, r1⟩
theorem vals2 {x y : V} {us : List Value} (r : Vals [x, y] us) : ∃ u w', us = [u, w'] /\ RelV x u /\ RelV y w' := by
  cases r with
  | cons r1 r2 =>
    cases r2 with
    | cons r3 r4 => cases r4; exact ⟨_, _, rfl, r1, r3⟩
theorem call_str_int : CallR X (.type "str") (fun xs H Q => ∃ i, xs = [.int i] /\ i.natAbs.log2 < 1920 /\ Q (.str (toString i)) H) := by
  intro pins s σ H xs us Q I r h
  obtain ⟨i, rfl, hz, q⟩ := h
  obtain ⟨u, rfl, t, rfl⟩ := vals1 r
  exact PySem.P.str_of_int hz ⟨.str _, H, I.tok _, ⟨_, rfl⟩, q⟩
end
open PySem PySem.Spec PyProof.Rows
structure ObjM (h : Heap) (x dx C : Addr) (mA : Str->Option Value) : Prop where
  obj : h.get? x = some (PySem.W.instObj C dx)
  ns : h.Ns1 dx mA
  ne : dx ≠ x
theorem lookIn_ns {h : Heap} {dx : Addr} {mA : Str->Option Value} (n : h.Ns1 dx mA) : ∃ od, h.get? dx = some od /\ ∀ name, PySem.W.lookIn name od = some (mA name) := by
  obtain ⟨o, es, ep, ho, hd, hk, _, hm⟩ := n
  refine ⟨o, ho, fun name => ?_⟩
  have e := hm name
  unfold nsFind findBy at e
  rw [← Array.find?_toList] at e
  unfold PySem.W.lookIn
  rw [hd]
  dsimp only
  split
  · rename_i y q
    rw [q] at e
    exact congrArg some e
  · rename_i q
    rw [q] at e
    have a : es.toList.any (·.refKey) = false := by
      rw [List.any_eq_false]
      intro y hy
      obtain ⟨z, t, hkey⟩ := hk y (Array.mem_toList_iff.mp hy)
      simp [DictEntry.refKey, hkey]
    have a' : ¬ es.toList.any (·.refKey) = true := by rw [a]; exact Bool.false_ne_true
    rw [if_neg a']
    exact congrArg some e
theorem ObjM.look {h : Heap} {x dx C : Addr} {mA : Str->Option Value} (I : ObjM h x dx C mA) : ∃ od, PySem.W.InstAt h x (PySem.W.instObj C dx) C (some od) /\ ∀ name, PySem.W.lookIn name od = some (mA name) :=
  let ⟨od, ho, hl⟩ := lookIn_ns I.ns
  ⟨od, ⟨I.obj, rfl, rfl, ho⟩, hl⟩
section
variable {prog : Program} {w : World} {A : Around} {E : Value->Shared->Prop} {s : Shared} {K : PySem.W.Frag} {x dx C f : Addr} {mA : Str->Option Value} {name : Str} {v : Value}
theorem set_map {ns : List Str} {Q : Unit->Shared->Prop} (X : K.In s.heap) (I : ObjM s.heap x dx C mA)
    (hs : PySem.W.findIn K (.ref C) "__setattr__" = some (some (.builtin "object.__setattr__"))) (hp : PySem.W.plainOver K C = true) (ht : PySem.W.takerIn K C name = some none) (hh : PySem.W.hasDictIn K C = true)
    (hw : PySem.Within mA ns) (hsz : ns.length ≤ sizeLine)
    (h : ∀ h', ObjM h' x dx C (fun y => if y = name then some v else mA y)->Heap.SameBut dx s.heap h'->Q () { s with heap := h', toks := s.toks + 2 }) :
    wpAny (model prog w) A (setAttr (.ref x) name v) Q E s := by
  obtain ⟨od, J, hl⟩ := I.look
  refine PySem.W.set_plain X J hs (PySem.W.osa_open (s := { s with toks := s.toks + 1 }) (r := none) X J hp ht fun b => ?_)
  obtain ⟨cd, hc, hd'⟩ := PySem.W.any_some hh
  have hx : s.heap.get? x = some ⟨.ref C, some dx, .plain, #[]⟩ := I.obj
  refine wpAny_bind (wpAny_pure (wpAny_bind (wpAny_bind (wpAny_loadPart hx (wpAny_bind (PySem.W.Looks.here (s := { s with toks := s.toks + 1 }) (PySem.W.looks_clsIn X hc) ?_))))))
  rw [hd']
  refine wpAny_pure (a := some dx) (wpAny_bind (wpAny_pure (wpAny_bind ?_)))
  refine wpAny_nsSet1 (s := { s with toks := s.toks + 1 }) I.ns fun h' hn2 hs2 => ?_
  obtain ⟨oD, esD, epD, hoD, hdD, hcD⟩ := hn2.count (PySem.Within.cons name v hw)
  refine wpAny_bind (wpAny_lookBehind hoD (by rw [hdD]; exact pastItsLine_dict (Nat.le_trans hcD (by rw [List.length_cons]; omega))) ?_)
  exact wpAny_pure (h _ ⟨(hs2.2 _ (Ne.symm I.ne)).trans I.obj, hn2, I.ne⟩ hs2)
theorem make_map {R : Result->Shared->Prop} {vs : List Value} {kw : List (Str × Value)} (X : K.In s.heap) (hm : PySem.W.makesIn K C = true)
    (hi : PySem.W.findIn K (.ref C) "__init__" = some (some (.ref f))) (hf : PySem.W.typeIn K (.ref f) = some (.type "function"))
    (h : codeAny (model prog w) (A.under (.builtin "type.__call__" ⟨.ref C :: vs, kw⟩)) (.call (.ref f) ⟨.ref (s.heap.objs.size + 1) :: vs, kw⟩) (PySem.W.InitBack (s.heap.objs.size + 1) R)
      { s with heap := (s.heap.push PySem.W.emptyDict).push (PySem.W.instObj C s.heap.objs.size) }) :
    codeAny (model prog w) A (.call (.ref C) ⟨vs, kw⟩) R s := by
  obtain ⟨hh, g, d, t, os⟩ := s
  exact PySem.W.make_core (PySem.W.makes_of X hm) (PySem.W.looks_findIn X hi) (fun self => PySem.W.bind_fn X self hf) (.inl rfl) h
end
def putF (f : Str) (v : V) : List (Str × V)->List (Str × V)
  | [] => [(f, v)]
  | (g, x) :: r => if g = f then (g, v) :: r else (g, x) :: putF f v r
theorem lookup_putF (f g : Str) (v : V) : ∀ fs : List (Str × V), (putF f v fs).lookup g = if g = f then some v else fs.lookup g
  | [] => by
    show List.lookup g [(f, v)] = _
    by_cases h : g = f
    · have hb : (g == f) = true := beq_iff_eq.mpr h
      simp only [List.lookup, hb, if_pos h]
    · have hb : (g == f) = false := beq_eq_false_iff_ne.mpr h
      simp only [List.lookup, hb, if_neg h]
  | (k, x) :: r => by
    have ih := lookup_putF f g v r
    rw [show putF f v ((k, x) :: r) = (if k = f then (k, v) :: r else (k, x) :: putF f v r) from rfl]
    by_cases hk : k = f
    · rw [if_pos hk]
      by_cases h : g = k
      · have hb : (g == k) = true := beq_iff_eq.mpr h
        simp only [List.lookup, hb, if_pos (h.trans hk)]
      · have hb : (g == k) = false := beq_eq_false_iff_ne.mpr h
        simp only [List.lookup, hb, if_neg (fun e : g = f => h (e.trans hk.symm))]
    · rw [if_neg hk]
      by_cases h : g = k
      · have hb : (g == k) = true := beq_iff_eq.mpr h
        simp only [List.lookup, hb, if_neg (fun e : g = f => hk (h.symm.trans e))]
      · have hb : (g == k) = false := beq_eq_false_iff_ne.mpr h
        simp only [List.lookup, hb]
        exact ih
theorem keys_putF (f : Str) (v : V) : ∀ fs : List (Str × V), f ∈ (putF f v fs).map (·.1) /\ ∀ g, g ∈ fs.map (·.1)->g ∈ (putF f v fs).map (·.1)
  | [] => ⟨by simp [putF], fun g h => by simp at h⟩
  | (k, x) :: r => by
    obtain ⟨i1, i2⟩ := keys_putF f v r
    rw [show putF f v ((k, x) :: r) = (if k = f then (k, v) :: r else (k, x) :: putF f v r) from rfl]
    by_cases hk : k = f
    · rw [if_pos hk]
      subst hk
      exact ⟨by simp, fun g h => by simpa using h⟩
    · rw [if_neg hk]
      refine ⟨?_, fun g h => ?_⟩
      · rw [List.map_cons]
        exact List.mem_cons_of_mem _ i1
      · rw [List.map_cons] at h ⊢
        rcases List.mem_cons.mp h with e | e
        · exact List.mem_cons.mpr (.inl e)
        · exact List.mem_cons_of_mem _ (i2 g e)
theorem length_putF (f : Str) (v : V) : ∀ fs : List (Str × V), (putF f v fs).length ≤ fs.length + 1
  | [] => by simp [putF]
  | (k, x) :: r => by
    have ih := length_putF f v r
    rw [show putF f v ((k, x) :: r) = (if k = f then (k, v) :: r else (k, x) :: putF f v r) from rfl]
    by_cases hk : k = f
    · rw [if_pos hk, List.length_cons, List.length_cons]; omega
    · rw [if_neg hk, List.length_cons, List.length_cons]; omega
theorem RelO.some_of {v : V} {o : Option Value} (r : RelO (some v) o) : ∃ u, o = some u /\ RelV v u := by
  cases o with
  | none => exact (show False from r).elim
  | some u => exact ⟨u, rfl, r⟩
theorem handed_of {v : V} {u : Value} (r : RelV v u) : PySem.W.handedIn u = true := by
  cases v with
  | non => cases (show u = Value.none from r); rfl
  | bl b => cases (show u = Value.bool b from r); rfl
  | int i => obtain ⟨t, e⟩ := (show ∃ t, u = Value.int i t from r); cases e; rfl
  | str x => obtain ⟨t, e⟩ := (show ∃ t, u = Value.str x t from r); cases e; rfl
  | byt b => obtain ⟨t, e⟩ := (show ∃ t, u = Value.bytes b t from r); cases e; rfl
  | flt b => obtain ⟨t, e⟩ := (show ∃ t, u = Value.float b t from r); cases e; rfl
  | ref a => cases (show u = Value.ref a from r); rfl
  | ty n => cases (show u = Value.type n from r); rfl
section
variable {P : Program} {w : World} {H H' : Hp} {h h' : Heap} {a C dx : Addr} {fs fs' : List (Str × V)}
theorem ins_get (hok : HOk P w H h) (e : H a = some (.ins C dx fs)) : ∃ mA, ObjM h a dx C mA /\ (∀ f, RelO (fs.lookup f) (mA f)) /\ PySem.Within mA (fs.map (·.1)) /\ fs.length ≤ 1000 /\ H dx = some (.own a) := by
  obtain ⟨d, z, ne, ob, mA, n, r, q⟩ := (show ObjOk P w H h a (.ins C dx fs) from hok a _ e)
  exact ⟨mA, ⟨ob, n, ne⟩, r, q, z, d⟩
end
structure Cls (K : PySem.W.Frag) (C : Addr) : Prop where
  pg : PySem.W.plainGet K C Str.empty = true
  hd : PySem.W.hasDictIn K C = true
  po : PySem.W.plainOver K C = true
  sa : PySem.W.findIn K (.ref C) "__setattr__" = some (some (.builtin "object.__setattr__"))
theorem Cls.get {K : PySem.W.Frag} {C : Addr} (c : Cls K C) (f : Str) : PySem.W.plainGet K C f = true := c.pg
def NoAttr (K : PySem.W.Frag) (C : Addr) (f : Str) : Prop := PySem.W.findIn K (.ref C) f = some none
theorem NoAttr.taker {K : PySem.W.Frag} {C : Addr} {f : Str} (n : NoAttr K C f) : PySem.W.takerIn K C f = some none := by
  unfold PySem.W.takerIn
  rw [show PySem.W.findIn K (.ref C) f = some none from n]
  rfl
section
variable {X : Cx} {pins : List (Addr × Obj)} {σ : St} {H : Hp} {s : Shared} {a C dx : Addr} {fs : List (Str × V)} {f : Str} {v : V} {A : Around} {E : Value->Shared->Prop}
theorem setattr_ok {y : V} {u : Value} {Q : Unit->Shared->Prop} (I : Inv X pins σ H s) (e : H a = some (.ins C dx fs)) (c : Cls X.K C) (n : NoAttr X.K C f) (hl : fs.length < 1000) (ry : RelV y u)
    (h : ∀ s', Inv X pins σ (upd H a (.ins C dx (putF f y fs))) s'->Q () s') : wpAny (model X.prog X.w) A (setAttr (.ref a) f u) Q E s := by
  obtain ⟨mA, O, r, wi, _, ho⟩ := ins_get I.hok e
  have hz : (fs.map (·.1)).length ≤ sizeLine := by rw [List.length_map, sizeLine_eq]; omega
  refine set_map I.kIn O c.sa c.po n.taker c.hd wi hz fun h' O' sb => h _ ?_
  have hd : ∃ o, h'.get? dx = some o := let ⟨o, _, _, e', _⟩ := O'.ns; ⟨o, e'⟩
  refine I.write (x := a) (e := dx) (by rw [e]; exact True.intro) (.inr ho) (fun b q hb z => (sb.2 b hb).trans z) hd ?_
  refine ⟨by rw [upd_ne O.ne]; exact ho, ?_, O.ne, O'.obj, _, O'.ns, fun g => ?_, fun g hg => ?_⟩
  · have := length_putF f y fs; omega
  · show RelO ((putF f y fs).lookup g) (if g = f then some u else mA g)
    rw [lookup_putF]
    by_cases q : g = f
    · rw [if_pos q, if_pos q]; exact ry
    · rw [if_neg q, if_neg q]; exact r g
  · by_cases q : g = f
    · rw [q]; exact (keys_putF f y fs).1
    · refine (keys_putF f y fs).2 g (wi g fun z => hg ?_)
      show (if g = f then some u else mA g) = none
      rw [if_neg q]; exact z
theorem Inv.made (I : Inv X pins σ H s) : Inv X pins σ (upd (upd H s.heap.objs.size (.own (s.heap.objs.size + 1))) (s.heap.objs.size + 1) (.ins C s.heap.objs.size []))
    { s with heap := (s.heap.push PySem.W.emptyDict).push (PySem.W.instObj C s.heap.objs.size) } := by
  have e1 : (s.heap.push PySem.W.emptyDict).get? s.heap.objs.size = some PySem.W.emptyDict := Heap.get?_push_size s.heap rfl
  have e2 : ((s.heap.push PySem.W.emptyDict).push (PySem.W.instObj C s.heap.objs.size)).get? (s.heap.objs.size + 1) = some (PySem.W.instObj C s.heap.objs.size) := by
    have := Heap.get?_push_size (s.heap.push PySem.W.emptyDict) (o := PySem.W.instObj C s.heap.objs.size) rfl
    rwa [Heap.size_push] at this
  have e3 : (s.heap.push PySem.W.emptyDict).Ns s.heap.objs.size (fun _ => none) := ⟨PySem.W.emptyDict, #[], _, e1, rfl, (fun e he => absurd he (by simp)), fun _ => rfl⟩
  have I1 := I.laid (a := s.heap.objs.size) (o := .own (s.heap.objs.size + 1)) (h' := s.heap.push PySem.W.emptyDict) (t' := s.toks) (fun b u q => Heap.get?_push_of_some _ q) (Nat.le_refl _) ⟨_, e1⟩
  refine I1.laid (a := s.heap.objs.size + 1) (o := .ins C s.heap.objs.size []) (t' := s.toks) (fun b u q => Heap.get?_push_of_some _ q) (Nat.le_of_eq (Heap.size_push _ _)) ?_
  have ne : s.heap.objs.size ≠ s.heap.objs.size + 1 := Nat.ne_of_lt (Nat.lt_succ_self _)
  refine ⟨by rw [upd_ne ne, upd_same], Nat.zero_le _, ne, e2, fun _ => none, (Heap.Ns1.of_empty e3).at fun o q => Heap.get?_push_of_some _ q, fun _ => True.intro, fun y hy => absurd rfl hy⟩
theorem attr_of {prog : Program} {w : World} {env : Env} {e : Expr} {f : Str} {pos : Pos} {s : Shared} {Q : Value->Shared->Prop} (hb : attributeBase e f env (eval e env) = eval e env)
    (h : wpAny (model prog w) A (eval e env) (fun o s₁ => wpAny (model prog w) A (getAttr o f true) Q E s₁) E s) : wpAny (model prog w) A (eval (.Attribute e f pos) env) Q E s :=
  Attribute_any_ h (by rw [arm_eval_Attribute, hb])
end
def sFld (K : PySem.W.Frag) (ta tv : TE) (f : Str) : TS := fun D σ H => tv σ H fun y H1 => ta σ H1 fun x H2 => ∃ a C dx fs, x = .ref a /\ H2 a = some (.ins C dx fs) /\ Cls K C /\ NoAttr K C f /\ fs.length < 1000 ∧
  D.nx σ (upd H2 a (.ins C dx (putF f y fs)))
section
variable {X : Cx} {o e value : Expr} {f : Str} {pos pos' tpos : Pos} {ta tv : TE}
theorem ps_fld (ha : PE X o ta) (hv : PE X value tv) (hs : swapsWith value (some (.Attribute o f pos')) pos.line X.env = pure false) : PS X (.Assign [.Attribute o f pos'] value pos) (sFld X.K ta tv f) := by
  intro pins s σ H D I h
  refine plainObj_wpAny_Assign_Attribute (thn (hv pins s σ H _ I h) fun u s1 ⟨y, H1, I1, ry, q⟩ => thn (ha pins s1 σ H1 _ I1 q) fun ov s2 ⟨x, H2, I2, rx, a, C, dx, fs, ex, ea, c, n, l, q2⟩ => ?_) hs
  subst ex
  obtain rfl : ov = Value.ref a := rx
  exact setattr_ok I2 ea c n l ry fun s3 I3 => ⟨σ, _, I3, q2⟩
end
section
variable {X : Cx} {pins : List (Addr × Obj)} {σ : St} {H : Hp} {s : Shared} {A : Around} {E : Value->Shared->Prop} {Q : Value->Shared->Prop} {c : Value} {b : Bool}
inductive TyOf (K : PySem.W.Frag) (H : Hp) : V->Value->Prop where
  | non : TyOf K H .non (.type "NoneType")
  | bl (x : Bool) : TyOf K H (.bl x) (.type "bool")
  | int (i : Int) : TyOf K H (.int i) (.type "int")
  | str (x : Str) : TyOf K H (.str x) (.type "str")
  | flt (x : UInt64) : TyOf K H (.flt x) (.type "float")
  | lst {a : Addr} {xs : List V} (e : H a = some (.lst xs)) : TyOf K H (.ref a) (.type "list")
  | frz {a : Addr} {o : Obj} {xs : List V} (e : H a = some (.frz o (.lst xs))) : TyOf K H (.ref a) (.type "list")
  | tup {a : Addr} {xs : List V} (e : H a = some (.tup xs)) : TyOf K H (.ref a) (.type "tuple")
  | dK {a : Addr} {kvs : List (Key × V)} (e : H a = some (.dK kvs)) : TyOf K H (.ref a) (.type "dict")
  | dT {a : Addr} {kvs : List (List Key × V)} (e : H a = some (.dT kvs)) : TyOf K H (.ref a) (.type "dict")
  | ins {a C dx : Addr} {fs : List (Str × V)} (e : H a = some (.ins C dx fs)) (cl : Cls K C) (ha : PySem.W.findIn K (.ref C) "__class__" = some (some (.builtin "object.__class__")))
      (hn : PySem.W.specialIn K (.builtin "object.__class__") "__get__" = some (some (.builtin "getset_descriptor.__get__"))) (htk : PySem.W.takesIn K (.builtin "object.__class__") = some true)
      (hm : PySem.W.mroIn K C (.type "object") = some true) : TyOf K H (.ref a) (.ref C)
theorem isinst_ok {x : V} {u t : Value} (I : Inv X pins σ H s) (rx : RelV x u) (ty : TyOf X.K H x t) (e : PySem.W.kitOne X.K t c = some b) (h : ∀ tk, Q (.bool b) { s with toks := tk }) :
    wpAny (model X.prog X.w) A (call (.builtin "isinstance") [u, c]) Q E s := by
  cases ty with
  | non => cases (show u = Value.none from rx); exact PySem.W.kia_one PySem.W.kitx_none I.kIn True.intro e (fun z => nomatch z) h
  | bl y => cases (show u = Value.bool y from rx); exact PySem.W.kia_one PySem.W.kitx_bool I.kIn True.intro e (fun z => nomatch z) h
  | int i => obtain ⟨t, q⟩ := (show ∃ t, u = Value.int i t from rx); cases q; exact PySem.W.kia_one PySem.W.kitx_int I.kIn True.intro e (fun z => nomatch z) h
  | str y => obtain ⟨t, q⟩ := (show ∃ t, u = Value.str y t from rx); cases q; exact PySem.W.kia_one PySem.W.kitx_str I.kIn True.intro e (fun z => nomatch z) h
  | flt y => obtain ⟨t, q⟩ := (show ∃ t, u = Value.float y t from rx); cases q; exact PySem.W.kia_one PySem.W.kitx_float I.kIn True.intro e (fun z => nomatch z) h
  | @lst a xs ea =>
    cases (show u = Value.ref a from rx)
    obtain ⟨_, _, n, _, h1⟩ := (show ObjOk X.prog X.w H s.heap a (.lst xs) from I.hok a _ ea)
    exact PySem.W.kia_one PySem.W.kitx_list I.kIn ⟨_, h1, rfl⟩ e (fun z => nomatch z) h
  | @frz a ob xs ea =>
    cases (show u = Value.ref a from rx)
    obtain ⟨_, _, _, n, _, h1⟩ := (show ObjOk X.prog X.w H s.heap a (.frz ob (.lst xs)) from I.hok a _ ea)
    exact PySem.W.kia_one PySem.W.kitx_list I.kIn ⟨_, h1, rfl⟩ e (fun z => nomatch z) h
  | @tup a xs ea =>
    cases (show u = Value.ref a from rx)
    obtain ⟨_, _, _, p⟩ := (show ObjOk X.prog X.w H s.heap a (.tup xs) from I.hok a _ ea)
    obtain ⟨o, h1, h2, _⟩ := p
    exact PySem.W.kia_one PySem.W.kitx_tuple I.kIn ⟨o, h1, h2⟩ e (fun z => nomatch z) h
  | @dK a kvs ea =>
    cases (show u = Value.ref a from rx)
    obtain ⟨_, _, vs, _, p⟩ := (show ObjOk X.prog X.w H s.heap a (.dK kvs) from I.hok a _ ea)
    obtain ⟨o, es, ep, h1, h2, _⟩ := p
    exact PySem.W.kia_one PySem.W.kitx_dict I.kIn ⟨o, h1, h2.1⟩ e (fun z => nomatch z) h
  | @dT a kvs ea =>
    cases (show u = Value.ref a from rx)
    obtain ⟨_, _, xs, _, o, es, ep, h1, h2, _⟩ := (show ObjOk X.prog X.w H s.heap a (.dT kvs) from I.hok a _ ea)
    exact PySem.W.kia_one PySem.W.kitx_dict I.kIn ⟨o, h1, h2.1⟩ e (fun z => nomatch z) h
  | @ins a C dx fs ea cl ha hn htk hm =>
    cases (show u = Value.ref a from rx)
    obtain ⟨mA, O, _⟩ := ins_get I.hok ea
    obtain ⟨od, J, _⟩ := O.look
    exact PySem.W.kia_one (PySem.W.kitx_own (cl.get _) cl.hd ha hn htk hm) I.kIn J e (fun z => nomatch z) h
end
open PySem PySem.Spec PyProof.Rows
structure Room (k : Nat) (A : Around) : Prop where
  hd : A.handled = none
  dp : A.depth + 3 * k + 5 < recursionLimit
  un : A.units + 16 * k + 200 < cLine
theorem Room.mono {j k : Nat} {A : Around} (r : Room k A) (h : j ≤ k) : Room j A := ⟨r.hd, by have := r.dp; omega, by have := r.un; omega⟩
theorem Room.deeper {k : Nat} {A : Around} (r : Room (k + 1) A) (env : Env) : Room k (A.deeper env) :=
  ⟨r.hd, by have := r.dp; show A.depth + 1 + 3 * k + 5 < _; omega, by have := r.un; show A.units + 3 + 16 * k + 200 < _; omega⟩
theorem make_depth {A : Around} {C : Addr} {us : List Value} {kw : List (Str × Value)} : (A.under (.builtin "type.__call__" ⟨.ref C :: us, kw⟩)).depth = A.depth + 1 := by
  first | rfl | simp [Around.under, Code.weight, Code.isCreation, Code.isGuard, Code.isCaller, Code.frames, Code.isFrame, guardIds]
theorem make_units {A : Around} {C : Addr} {us : List Value} {kw : List (Str × Value)} : (A.under (.builtin "type.__call__" ⟨.ref C :: us, kw⟩)).units = A.units + 1 := by
  first | rfl | simp [Around.under, Code.cUnits, Code.frames, Code.isFrame]
theorem Room.make {k : Nat} {A : Around} (r : Room (k + 1) A) (C : Addr) (us : List Value) (kw : List (Str × Value)) : Room k (A.under (.builtin "type.__call__" ⟨.ref C :: us, kw⟩)) :=
  ⟨r.hd, by have := r.dp; rw [make_depth]; omega, by have := r.un; rw [make_units]; omega⟩
theorem Room.depth {k : Nat} {A : Around} (r : Room k A) : A.depth < recursionLimit := by have := r.dp; omega
theorem Room.units {k : Nat} {A : Around} (r : Room k A) : A.units + 64 < cLine := by have := r.un; omega
def tNil : TA := fun _ H Q => Q [] H
def tCons (ta : TE) (tr : TA) : TA := fun σ H Q => ta σ H fun x H1 => tr σ H1 fun xs H2 => Q (x :: xs) H2
section
variable {X : Cx} {e : Expr} {es : List Expr} {te : TE} {t : TA} {pos : Pos}
theorem pa_nil : PA X [] tNil := fun _ _ _ _ H Q I h => Calls.spliced_nil ⟨[], H, I, .nil, h⟩
theorem pa_cons (ha : PE X e te) (hr : PA X es t) (hs : starEach (e :: es) X.env = (false, eval e X.env) :: starEach es X.env := by rfl) : PA X (e :: es) (tCons te t) := by
  intro pos pins s σ H Q I h
  rw [hs]
  show wpAny _ _ (spliced ((false, eval e X.env) :: backTo pos (starEach es X.env))) _ _ s
  refine Calls.spliced_cons (thn (ha pins s σ H _ I h) fun u s1 ⟨x, H1, I1, r1, q1⟩ => ?_)
  exact thn (hr pos pins s1 σ H1 _ I1 q1) fun us s2 ⟨xs, H2, I2, r2, q2⟩ => ⟨x :: xs, H2, I2, .cons r1 r2, q2⟩
def tTup (t : TA) : TE := fun σ H Q => t σ H fun xs H1 => xs.length ≤ sizeLine /\ ∀ p, H1 p = none->Q (.ref p) (upd H1 p (.tup xs))
def tLst (t : TA) : TE := fun σ H Q => t σ H fun xs H1 => xs.length ≤ sizeLine /\ ∀ p, H1 p = none->Q (.ref p) (upd H1 p (.lst xs))
theorem pe_tup {x1} (h : PA X es t) : PE X (.Tuple es x1 pos) (tTup t) := by
  intro pins s σ H Q I hq
  refine wpAny_Tuple_spliced (thn (h pos pins s σ H _ I hq) fun us s1 ⟨xs, H1, I1, r, z, q⟩ => ⟨by rw [← r.length]; exact z, ?_⟩)
  have hf : H1 s1.heap.objs.size = none := I1.hok.fresh (Nat.le_refl _)
  refine ⟨.ref s1.heap.objs.size, upd H1 s1.heap.objs.size (.tup xs), I1.laid (t' := s1.toks) (fun b u e => Heap.get?_push_of_some _ e) (Nat.le_refl _) ?_, rfl, q _ hf⟩
  exact ⟨z, us, r, ⟨_, Heap.get?_push_size _ rfl, rfl, _, rfl⟩⟩
theorem pe_lst (h : PA X es t) : PE X (.List es pos) (tLst t) := by
  intro pins s σ H Q I hq
  refine wpAny_List_spliced (thn (h pos pins s σ H _ I hq) fun us s1 ⟨xs, H1, I1, r, z, q⟩ => ⟨by rw [← r.length]; exact z, ?_⟩)
  have hf : H1 s1.heap.objs.size = none := I1.hok.fresh (Nat.le_refl _)
  refine ⟨.ref s1.heap.objs.size, upd H1 s1.heap.objs.size (.lst xs), I1.laid (t' := s1.toks) (fun b u e => Heap.get?_push_of_some _ e) (Nat.le_refl _) ?_, rfl, q _ hf⟩
  exact ⟨z, us, 0, r, Heap.get?_push_size _ rfl⟩
end
abbrev Sp := List V->Hp->VK->XK->Prop
abbrev CXT := List Env->Hp->Shared->XK->Value->Shared->Prop
structure Env0 (P : Program) (w : World) (K : PySem.W.Frag) (mg : Str->Option Value) (base : Heap) (A : Around) (outer : List Env) (s : Shared) (H : Hp) : Prop where
  frames : A.frames = some outer
  mod : Mod K mg base
  bs : ∀ b o, base.get? b = some o->s.heap.get? b = some o /\ H b = none
  bsz : base.objs.size ≤ s.heap.objs.size
  funs : s.heap.FunFrames base outer
  frf : ∀ b ∈ frs outer, H b = none
  hok : HOk P w H s.heap
  bare : AllBare s.gens
def CE (outer : List Env) (P : Program) (w : World) (H : Hp) (s : Shared) (Q : VK) (u : Value) (s' : Shared) : Prop :=
  ∃ v H', s'.os = s.os /\ AllBare s'.gens /\ Un (frs outer) [] H H' s.heap s'.heap /\ HOk P w H' s'.heap /\ RelV v u /\ Q v H'
def CR (CX : CXT) (outer : List Env) (P : Program) (w : World) (H : Hp) (s : Shared) (Q : VK) (E : XK) (r : Result) (s' : Shared) : Prop :=
  match r with
  | .ok (.ret u) => CE outer P w H s Q u s'
  | .ok _ => False
  | .error e => CX outer H s E e s'
structure FnOk (P : Program) (w : World) (K : PySem.W.Frag) (mg : Str->Option Value) (base : Heap) (CX : CXT) (k : Nat) (f : Addr) (fd : FuncData) (ps : List Str) (sp : Sp) : Prop where
  len : ∀ vs H Q E, sp vs H Q E->vs.length = ps.length
  run : ∀ (A : Around) (outer : List Env) (s : Shared) (H : Hp) (args : Args) (us : List Value) (vs : List V) (Q : VK) (E : XK), Room k A->Env0 P w K mg base A outer s H->BindsTo s fd args (ps.zip us)->Vals vs us->sp vs H Q E →
    codeAny (model P w) A (.call (.ref f) args) (CR CX outer P w H s Q E) s
theorem Env0.make {P : Program} {w : World} {K : PySem.W.Frag} {mg : Str->Option Value} {base : Heap} {A : Around} {outer : List Env} {s : Shared} {H : Hp} (e : Env0 P w K mg base A outer s H) (C : Addr) (us : List Value) (kw : List (Str × Value)) :
    Env0 P w K mg base (A.under (.builtin "type.__call__" ⟨.ref C :: us, kw⟩)) outer s H := ⟨by first | exact e.frames | (simpa [Around.under, Code.envs, Code.isFrame, pushEnvs] using e.frames), e.mod, e.bs, e.bsz, e.funs, e.frf, e.hok, e.bare⟩
section
variable {X : Cx} {pins : List (Addr × Obj)} {σ : St} {H : Hp} {s s' : Shared}
theorem Inv.env0 (I : Inv X pins σ H s) : Env0 X.prog X.w X.K X.mg X.base X.A X.stack s H :=
  ⟨I.ok.frames, I.ok.mod, I.bs, Nat.le_trans I.ok.bsz I.sz, I.stack, I.stkFree, I.hok, I.bare⟩
theorem Inv.after {Q : VK} {u : Value} (I : Inv X pins σ H s) (h : CE X.stack X.prog X.w H s Q u s') : EP X pins σ Q u s' := by
  obtain ⟨v, H', os, bare, un, hok, r, q⟩ := h
  obtain ⟨hh, g, d, t, os'⟩ := s'
  obtain rfl : os' = s.os := os
  exact ⟨v, H', I.call (h' := hh) (g' := g) (d' := d) (t' := t) (ch := []) un hok bare (fun b z => absurd z (by simp)), r, q⟩
end
def Binds (K : PySem.W.Frag) (fd : FuncData) (ps : List Str) (ds : List Value) : Prop :=
  ∀ (s : Shared) (us : List Value), K.In s.heap->(us ++ ds).length = ps.length->BindsTo s fd ⟨us, []⟩ (ps.zip (us ++ ds))
theorem Binds.all {K : PySem.W.Frag} {fd : FuncData} {ps : List Str} (h : ∀ us : List Value, us.length = ps.length->bindArgs fd ⟨us, []⟩ = pure (ps.zip us)) : Binds K fd ps [] := fun s us _ hl => by
  rw [List.append_nil] at hl ⊢
  exact .of_eq (h us hl)
section
variable {X : Cx} {CX : CXT} {k : Nat} {f C : Addr} {fd : FuncData} {ps : List Str} {sp : Sp} {dvs : List V} {ds : List Value} {E : XK} {x m : Str} {p pos apos : Pos} {e o : Expr} {es : List Expr} {ta : TE} {t : TA}
structure Mk (K : PySem.W.Frag) (C f : Addr) : Prop where
  makes : PySem.W.makesIn K C = true
  init : PySem.W.findIn K (.ref C) "__init__" = some (some (.ref f))
  fn : PySem.W.isFn K (.ref f) = true
  kp : PySem.W.keepIn K (.ref C) = true
end
structure FnScope (N P : List Str) (sc : Scope) : Prop where
  kind : sc.kind = .function
  co : sc.isCoroutine = false
  gen : sc.isGenerator = false
  nd : N.Nodup
  pre : N.take P.length = P
  par : ∀ x ∈ P, sc.names.lookup x = some .local ∨ sc.names.lookup x = some .cell
  nofree : ∀ y ∈ sc.names, y.2 ≠ .free
theorem bindL_out {kindOf : Str->Option NameKind} {x : Str} : ∀ {binds : List (Str × Value)} {m : Str->Option Value}, (∀ v, (x, v) ∉ binds)->bindL kindOf binds m x = m x
  | [], _, _ => rfl
  | (n, v) :: r, m, h => by
    unfold bindL
    rw [bindL_out fun w hw => h w (List.mem_cons_of_mem _ hw)]
    split
    · have : x ≠ n := by rintro rfl; exact h v List.mem_cons_self
      simp [this]
    · rfl
theorem bindC_out {kindOf : Str->Option NameKind} {x : Str} : ∀ {binds : List (Str × Value)} {m : Str->Option Value}, (∀ v, (x, v) ∉ binds)->bindC kindOf binds m x = m x
  | [], _, _ => rfl
  | (n, v) :: r, m, h => by
    unfold bindC
    rw [bindC_out fun w hw => h w (List.mem_cons_of_mem _ hw)]
    split
    · rfl
    · have : x ≠ n := by rintro rfl; exact h v List.mem_cons_self
      simp [this]
theorem bindL_get {kindOf : Str->Option NameKind} {x : Str} {v : Value} : ∀ {P : List Str} {vs : List Value} {i : Nat} {m : Str->Option Value}, P.Nodup->P[i]? = some x->vs[i]? = some v->kindOf x = some .local →
    bindL kindOf (P.zip vs) m x = some v
  | [], _, _, _, _, h, _, _ => by simp at h
  | _ :: _, [], _, _, _, _, h, _ => by simp at h
  | p :: P, w :: vs, 0, m, nd, h1, h2, hk => by
    simp at h1 h2; subst h1; subst h2
    show bindL kindOf ((p, w) :: P.zip vs) m p = _
    unfold bindL
    rw [bindL_out fun v hv => (List.nodup_cons.mp nd).1 (List.of_mem_zip hv).1, if_pos hk]
    simp
  | p :: P, w :: vs, i + 1, m, nd, h1, h2, hk => by
    show bindL kindOf ((p, w) :: P.zip vs) m x = _
    unfold bindL
    exact bindL_get (i := i) (List.nodup_cons.mp nd).2 (by simpa using h1) (by simpa using h2) hk
theorem bindC_get {kindOf : Str->Option NameKind} {x : Str} {v : Value} : ∀ {P : List Str} {vs : List Value} {i : Nat} {m : Str->Option Value}, P.Nodup->P[i]? = some x->vs[i]? = some v->kindOf x ≠ some .local →
    bindC kindOf (P.zip vs) m x = some v
  | [], _, _, _, _, h, _, _ => by simp at h
  | _ :: _, [], _, _, _, _, h, _ => by simp at h
  | p :: P, w :: vs, 0, m, nd, h1, h2, hk => by
    simp at h1 h2; subst h1; subst h2
    show bindC kindOf ((p, w) :: P.zip vs) m p = _
    unfold bindC
    rw [bindC_out fun v hv => (List.nodup_cons.mp nd).1 (List.of_mem_zip hv).1, if_neg hk]
    simp
  | p :: P, w :: vs, i + 1, m, nd, h1, h2, hk => by
    show bindC kindOf ((p, w) :: P.zip vs) m x = _
    unfold bindC
    exact bindC_get (i := i) (List.nodup_cons.mp nd).2 (by simpa using h1) (by simpa using h2) hk
def start (N : List Str) (vs : List V) : St := vs.map some ++ List.replicate (N.length - vs.length) none
def cxOf (CX : CXT) (P : Program) (w : World) (K : PySem.W.Frag) (mg : Str->Option Value) (base : Heap) (N : List Str) (qual : Str) (scope : Scope) (f : Addr) (cd : Value) (A : Around) (outer : List Env) (s : Shared) (H : Hp) (E : XK) : Cx where
  prog := P
  w := w
  K := K
  mg := mg
  base := base
  A := A.deeper (envOfC qual scope s.heap.objs.size f cd)
  N := N
  s₀ := s
  H₀ := H
  env := envOfC qual scope s.heap.objs.size f cd
  outer := outer
  stack := envOfC qual scope s.heap.objs.size f cd :: outer
  ex := []
  calm := true
  fn := fun _ => true
  pn := []
  xe := fun e s' => wpAny (model P w) (A.deeper (envOfC qual scope s.heap.objs.size f cd)) (leaving (envOfC qual scope s.heap.objs.size f cd) e) (fun _ s'' => CX outer H s E e s'') (fun e' s'' => CX outer H s E e' s'') s'
theorem cell_has {sc : Scope} {n : Nat} {x : Str} (h : sc.names.lookup x = some .cell) : ∃ c, (cellsFrom n sc.names []).lookup x = some c := by
  have q := PySem.W.cellsFrom_some sc.names n [] (.inl h)
  exact Option.isSome_iff_exists.mp q
theorem inv_start {CX : CXT} {P : Program} {w : World} {K : PySem.W.Frag} {mg : Str->Option Value} {base : Heap} {N ps : List Str} {qual : Str} {scope : Scope} {f : Addr} {cd : Value} {A : Around} {outer : List Env} {s s1 : Shared} {H : Hp} {E : XK} {us : List Value} {vs : List V}
    (S : FnScope N ps scope) (hd : A.handled = none) (e0 : Env0 P w K mg base A outer s H) (hl : vs.length = ps.length) (r : Vals vs us)
    (x : InCallC s s.heap.objs.size (bindL (envOfC qual scope s.heap.objs.size f cd).kindOf (ps.zip us) fun _ => none) (cellsFrom (s.heap.objs.size + 1) scope.names []) (bindC (envOfC qual scope s.heap.objs.size f cd).kindOf (ps.zip us) fun _ => none) s1) :
    Inv (cxOf CX P w K mg base N qual scope f cd A outer s H E) [] (start N vs) H s1 := by
  have hpl : ps.length ≤ N.length := by have := congrArg List.length S.pre; rw [List.length_take] at this; omega
  obtain ⟨h1, tk, rfl, hk⟩ := x.done
  have noA : ∀ b : Addr, b ∉ (cxOf CX P w K mg base N qual scope f cd A outer s H E).ex := fun b z => absurd (show b ∈ ([] : List Addr) from z) (by simp)
  refine ⟨⟨e0.mod, S.kind, rfl, rfl, Nat.le_refl _, fun y z c h1 h2 => ?_, fun y hy => ?_, fun y c _ h => ?_, fun _ => hd, Around.frames_deeper e0.frames, .inr ⟨rfl, rfl⟩, fun b z => absurd z (noA b), e0.bs, e0.bsz, fun b _ _ => noA b, fun b z => absurd z (noA b), e0.funs, e0.frf⟩,
    rfl, e0.bare, Un.kept hk, ⟨_, x.toInCall.ns, fun i y v h1 h2 h3 => ?_⟩, fun y c h => ⟨_, x.cell y c h⟩, e0.hok.fresh (Nat.le_refl _), fun y c h => ?_, fun p hp => absurd (show p ∈ ([] : List (Addr × Obj)) from hp) (by simp), e0.hok.kept hk, ?_⟩
  · exact name_of_addr x.apart (PySem.mem_of_lookup h1) (PySem.mem_of_lookup h2)
  · have hy : scope.names.lookup y = some .cell ∨ scope.names.lookup y = some .free := hy
    rcases hy with hy | hy
    · exact cell_has hy
    · exact absurd rfl (S.nofree _ (PySem.mem_of_lookup hy))
  · exact Nat.le_of_lt (x.above y c (PySem.mem_of_lookup h))
  · have hi : i < vs.length := by
      unfold start at h2
      by_cases hi : i < vs.length
      · exact hi
      · rw [List.getElem?_append_right (by simpa using hi)] at h2
        rw [List.getElem?_replicate] at h2
        split at h2 <;> cases h2
    have ha : vs[i]? = some v := by
      unfold start at h2
      rw [List.getElem?_append_left (by simpa using hi), List.getElem?_map] at h2
      cases e : vs[i]? with
      | none => rw [e] at h2; cases h2
      | some a => rw [e] at h2; cases h2; rfl
    obtain ⟨u, hu, rv⟩ := r.get ha
    have hp : ps[i]? = some y := by
      rw [← S.pre, List.getElem?_take_of_lt (by omega)]; exact h1
    have ndP : ps.Nodup := by rw [← S.pre]; exact S.nd.sublist (List.take_sublist _ _)
    refine ⟨u, rv, ?_⟩
    rcases S.par y (List.mem_of_getElem? hp) with k | k
    · exact .inl ⟨k, bindL_get ndP hp hu k⟩
    · obtain ⟨c, e⟩ := cell_has (n := s.heap.objs.size + 1) k
      refine .inr ⟨.inl k, c, e, ?_⟩
      have q := x.cell y c e
      rw [bindC_get ndP hp hu (by show scope.names.lookup y ≠ _; rw [k]; decide)] at q
      exact q
  · exact e0.hok.fresh (Nat.le_of_lt (x.above y c (PySem.mem_of_lookup h)))
  · unfold start
    show _ = N.length
    rw [List.length_append, List.length_map, List.length_replicate]
    omega
theorem fn_of {CX : CXT} {P : Program} {w : World} {K : PySem.W.Frag} {mg : Str->Option Value} {base : Heap} {k : Nat} {f : Addr} {name qual : Str} {params : Arguments} {body : List Stmt} {scope : Scope} {dV kV doc pm cdv ct oc : Value} {an od : Option Addr}
    {osl : Array (Option Value)} {N ps : List Str} {sp : Sp} (lk : K.lookup f = some ⟨oc, od, .func (PySem.W.fnOf name qual params body scope dV kV doc pm an cdv ct), osl⟩) (hcd : PySem.W.codeIn K cdv qual = true) (S : FnScope N ps scope)
    (len : ∀ vs H Q E, sp vs H Q E->vs.length = ps.length)
    (hbody : ∀ (A : Around) (outer : List Env) (s : Shared) (H : Hp) (vs : List V) (Q : VK) (E : XK), Room k (A.deeper (envOfC qual scope s.heap.objs.size f cdv))->sp vs H Q E →
      ∃ t, PSs (cxOf CX P w K mg base N qual scope f cdv A outer s H E) body t /\ t { nx := fun _ H' => Q .non H', rt := Q } (start N vs) H) :
    FnOk P w K mg base CX (k + 1) f (PySem.W.fnOf name qual params body scope dV kV doc pm an cdv ct) ps sp := by
  refine ⟨len, fun A outer s H args us vs Q E hr e0 hb r hsp => ?_⟩
  have hl := len _ _ _ _ hsp
  have KX : K.In s.heap := e0.mod.kin.keeps fun b o e => (e0.bs b o e).1
  have lim : s.heap.NoLimit := e0.mod.nolimit.keeps fun b o e => (e0.bs b o e).1
  have hkind : ∀ y ∈ ps.zip us, scope.names.lookup y.1 = some .local ∨ (scope.names.lookup y.1 = some .cell /\ ((cellsFrom (s.heap.objs.size + 1) scope.names []).lookup y.1).isSome = true) := fun ⟨n, v⟩ hy => by
    rcases S.par n (List.of_mem_zip hy).1 with q | q
    · exact .inl q
    · exact .inr ⟨q, PySem.W.cellsFrom_some _ _ _ (.inl q)⟩
  refine codeAny_call_function hr.depth (KX _ _ lk) rfl S.co S.gen rfl (PySem.W.codeRec_of KX hcd) (hb _ _ _ _ ?_)
  refine wpAny_newFunctionEnv_cells S.kind hkind fun env he s1 x => ?_
  subst he
  refine ⟨lim.keeps x.toInCall.keep, codeAny_func ?_⟩
  obtain ⟨t, ht, hq⟩ := hbody A outer s H vs Q E (hr.deeper _) hsp
  have I : Inv (cxOf CX P w K mg base N qual scope f cdv A outer s H E) [] (start N vs) H s1 := inv_start S hr.hd e0 hl r x
  refine wpAny_mono (ht [] s1 (start N vs) H _ I hq) (fun fl s' hs => ?_) fun e s' hs => hs
  have fin : ∀ {σ' : St} {H' : Hp} {v : V} {u : Value}, Inv (cxOf CX P w K mg base N qual scope f cdv A outer s H E) [] σ' H' s'->RelV v u->Q v H'->CE outer P w H s Q u s' :=
    fun {σ' H' v u} J rv q => ⟨v, H', J.os, J.bare, J.base, J.hok, rv, q⟩
  cases fl with
  | ret u =>
    obtain ⟨v, σ', H', J, rv, q⟩ := hs
    exact fin J rv q
  | next =>
    obtain ⟨σ', H', J, q⟩ := hs
    exact fin (v := V.non) (u := Value.none) J rfl q
  | brk =>
    obtain ⟨_, _, _, q⟩ := hs
    exact False.elim q
  | cont =>
    obtain ⟨_, _, _, q⟩ := hs
    exact False.elim q
open PySem PySem.Spec PyProof.Rows
section
variable {X : Cx} {x : Str} {p pos : Pos} {e : Expr} {es : List Expr} {t : TA} {id T : String} {r : List V->Hp->VK->Prop}
def tCB (r : List V->Hp->VK->Prop) (t : TA) : TE := fun σ H Q => t σ H fun vs H1 => r vs H1 Q
theorem pe_callB (hc : CallR X (.builtin id) r) (hg : Gl X x) (hm : X.mg x = none) (hv : bootBuiltins x = some (.builtin id)) (ha : PA X (e :: es) t) (hn : x ≠ "__name__" := by decide) (hdb : (x == ("__debug__" : Str)) = false := by decide)
    (he : starEach (e :: es) X.env = (false, eval e X.env) :: starEach es X.env := by rfl) (hpl : (backTo pos (starEach es X.env)).any (·.1) = false := by rfl) : PE X (.Call (.Name x p) (e :: es) [] pos) (tCB r t) := by
  intro pins s σ H Q I h
  refine wpAny_Call_Name_kw (ld_blt I hg hm hv ?_ hn hdb)
  exact PyProof.Rows.callWith_builtin1 (thn (ha pos pins s σ H _ I h) fun us s1 ⟨vs, H1, I1, r1, q1⟩ => hc pins s1 σ H1 vs us Q I1 r1 q1) he hpl
theorem pe_callTy (hc : CallR X (.type T) r) (hg : Gl X x) (hm : X.mg x = none) (hv : bootBuiltins x = some (.type T)) (ha : PA X (e :: es) t) (hn : x ≠ "__name__" := by decide) (hdb : (x == ("__debug__" : Str)) = false := by decide)
    (he : starEach (e :: es) X.env = (false, eval e X.env) :: starEach es X.env := by rfl) (hpl : (backTo pos (starEach es X.env)).any (·.1) = false := by rfl) : PE X (.Call (.Name x p) (e :: es) [] pos) (tCB r t) := by
  intro pins s σ H Q I h
  refine wpAny_Call_Name_kw (ld_blt I hg hm hv ?_ hn hdb)
  exact PyProof.Rows.callWith_type1 (thn (ha pos pins s σ H _ I h) fun us s1 ⟨vs, H1, I1, r1, q1⟩ => hc pins s1 σ H1 vs us Q I1 r1 q1) he hpl
end
end L2
namespace HT
open PySem PyProof.Rows
section
variable {prog : Program} {w : World} {A : Around} {E : Value->Shared->Prop} {s : Shared}
def sIx (n d : Nat) : Option Int->Nat
  | none => d
  | some v => if v < 0 then (v + (n : Int)).toNat else min v.toNat n
theorem sIx_nat (n d k : Nat) : sIx n d (some (k : Int)) = min k n := by
  show (if (k : Int) < 0 then ((k : Int) + (n : Int)).toNat else min (k : Int).toNat n) = min k n
  rw [if_neg (by omega), Int.toNat_natCast]
end
end HT
namespace L2
open PySem PySem.Spec PyProof.Rows
abbrev TO := St->Hp->(Option Int->Hp->Prop)->Prop
def PO (X : Cx) (e : Option Expr) (t : TO) : Prop :=
  ∀ (pins : List (Addr × Obj)) (s : Shared) (σ : St) (H : Hp) (Q : Option Int->Hp->Prop), Inv X pins σ H s->t σ H Q →
    wpAny (model X.prog X.w) X.A (evalPart e X.env) (fun u s' => ∃ o H', Inv X pins σ H' s' /\ IsPart u o /\ Q o H') X.xe s
def tNoPart : TO := fun _ H Q => Q none H
def tPart (t : TE) : TO := fun σ H Q => t σ H fun x H1 => ∃ i, x = .int i /\ Q (some i) H1
theorem intsAre_of {ns : List Int} : ∀ {us : List Value}, Vals (ns.map V.int) us->IntsAre us ns := by
  induction ns with
  | nil => intro us r; rw [List.map_nil] at r; cases r; exact .nil
  | cons n ns ih =>
    intro us r
    rw [List.map_cons] at r
    cases r with
    | cons r1 r2 =>
      obtain ⟨t, e⟩ := r1
      subst e
      exact .cons n t (ih r2)
section
variable {X : Cx} {e : Expr} {te : TE} {lo hi : Option Expr} {tl th : TO} {pos p2 : Pos}
theorem po_none : PO X none tNoPart := by
  intro pins s σ H Q I h
  rw [evalPart_none]
  exact wpAny_pure ⟨none, H, I, .none, h⟩
theorem po_some (h : PE X e te) : PO X (some e) (tPart te) := by
  intro pins s σ H Q I hw
  rw [evalPart_some]
  refine thn (h pins s σ H _ I hw) fun u s1 ⟨x, H1, I1, r1, q1⟩ => ?_
  obtain ⟨i, rfl, q⟩ := q1
  obtain ⟨t, rfl⟩ := r1
  exact ⟨some i, H1, I1, .int i t, q⟩
def SlR (X : Cx) (r : V->Option Int->Option Int->Hp->VK->Prop) : Prop :=
  ∀ (pins : List (Addr × Obj)) (s : Shared) (σ : St) (H : Hp) (x : V) (v vl vu : Value) (lo hi : Option Int) (sl : Addr) (Q : VK), Inv X pins σ H s->RelV x v->s.heap.IsSliceOf sl vl vu .none->IsPart vl lo->IsPart vu hi->r x lo hi H Q →
    ∃ T id, typeLookup (.type T) "__getitem__" = pure (some (.builtin id)) /\ s.TypeIs v T /\ wpAny (model X.prog X.w) X.A (getItem v (.ref sl)) (EP X pins σ Q) X.xe s
def tSl (r : V->Option Int->Option Int->Hp->VK->Prop) (te : TE) (tl th : TO) : TE := fun σ H Q => te σ H fun x H1 => tl σ H1 fun l H2 => th σ H2 fun u H3 => r x l u H3 Q
theorem pe_slice {r : V->Option Int->Option Int->Hp->VK->Prop} (hr : SlR X r) (he : PE X e te) (hl : PO X lo tl) (hu : PO X hi th) : PE X (.Subscript e (.Slice lo hi none p2) pos) (tSl r te tl th) := by
  intro pins s σ H Q I h
  refine Subscript_ (thn (he pins s σ H _ I h) fun v s1 ⟨x, H1, I1, r1, q1⟩ => ?_)
  refine wpAny_Slice (thn (hl pins s1 σ H1 _ I1 q1) fun vl s2 ⟨l, H2, I2, pl, q2⟩ => thn (hu pins s2 σ H2 _ I2 q2) fun vu s3 ⟨u, H3, I3, pu, q3⟩ => ?_)
  rw [evalPart_none]
  refine wpAny_pure ?_
  have I4 : Inv X pins σ H3 { s3 with heap := s3.heap.push { cls := .type "slice", data := .fields #[vl, vu, .none] } } := I3.kept (t' := s3.toks) fun b ob q => Heap.get?_push_of_some _ q
  obtain ⟨T, id, hT, ht, hg⟩ := hr pins { s3 with heap := s3.heap.push { cls := .type "slice", data := .fields #[vl, vu, .none] } } σ H3 x v vl vu l u s3.heap.objs.size Q I4 r1 (Heap.IsSliceOf.new ..) pl pu q3
  show wpAny (model X.prog X.w) X.A (subscriptTail e (.Slice lo hi none p2) v (.ref s3.heap.objs.size)) (EP X pins σ Q) X.xe { s3 with heap := s3.heap.push { cls := .type "slice", data := .fields #[vl, vu, .none] } }
  exact tail_any (ops := [.ref s3.heap.objs.size, v]) ht hT hg (by with_unfolding_all rfl)
def cutV (xs : List V) (lo hi : Option Int) : List V := (xs.drop (HT.sIx xs.length 0 lo)).take (HT.sIx xs.length xs.length hi - HT.sIx xs.length 0 lo)
theorem cutV_length (xs : List V) (lo hi : Option Int) : (cutV xs lo hi).length ≤ xs.length := by
  unfold cutV
  rw [List.length_take, List.length_drop]
  omega
end
open PySem PySem.Spec PyProof.Rows
def ixN (n : Nat) (i : Int) : Option Nat := if 0 ≤ i then (if i < n then some i.toNat else none) else if -(n : Int) ≤ i then some (i + n).toNat else none
def atI {α : Type} (xs : List α) (i : Int) : Option α := (ixN xs.length i).bind fun j => xs[j]?
theorem ixN_seq {n : Nat} {i : Int} {j : Nat} (h : ixN n i = some j) : seqIndex? i n = some j /\ j < n /\ -(n : Int) ≤ i /\ i < n := by
  unfold ixN at h
  by_cases h0 : 0 ≤ i
  · rw [if_pos h0] at h
    by_cases h1 : i < n
    · rw [if_pos h1] at h
      have e : i.toNat = j := Option.some.inj h
      exact ⟨by rw [seqIndex_of h0 h1, e], by omega, by omega, h1⟩
    · rw [if_neg h1] at h; cases h
  · rw [if_neg h0] at h
    by_cases h1 : -(n : Int) ≤ i
    · rw [if_pos h1] at h
      have e : (i + n).toNat = j := Option.some.inj h
      exact ⟨by rw [seqIndex_neg (by omega) h1, e], by omega, h1, by omega⟩
    · rw [if_neg h1] at h; cases h
theorem atI_get {α : Type} {xs : List α} {i : Int} {v : α} (h : atI xs i = some v) : ∃ j, seqIndex? i xs.length = some j /\ xs[j]? = some v /\ j < xs.length /\ -(xs.length : Int) ≤ i /\ i < xs.length := by
  unfold atI at h
  cases e : ixN xs.length i with
  | none => rw [e] at h; cases h
  | some j =>
    rw [e] at h
    obtain ⟨h1, h2, h3, h4⟩ := ixN_seq e
    exact ⟨j, h1, h, h2, h3, h4⟩
theorem atI_nat {α : Type} {xs : List α} {j : Nat} {v : α} (h : xs[j]? = some v) : atI xs (j : Int) = some v := by
  have hj : j < xs.length := (List.getElem?_eq_some_iff.mp h).1
  have e : ixN xs.length (j : Int) = some j := by
    unfold ixN
    rw [if_pos (by omega), if_pos (by omega)]; simp
  unfold atI; rw [e]; exact h
def PlainIx (b : Expr) : Prop := ∀ o i, subscripted b false o i = operate [o, i] (getItem o i)
def IxR (X : Cx) (r : R2) : Prop :=
  ∀ (value slice : Expr) (pins : List (Addr × Obj)) (s : Shared) (σ : St) (H : Hp) (x y : V) (v u : Value) (Q : VK), Inv X pins σ H s->RelV x v->RelV y u->r x y H Q →
    subscripted slice false v u = operate [v, u] (getItem v u)->wpAny (model X.prog X.w) X.A (subscriptTail value slice v u) (EP X pins σ Q) X.xe s
def MtR (X : Cx) (id : String) (r : V->List V->Hp->VK->Prop) : Prop :=
  ∀ (pins : List (Addr × Obj)) (s : Shared) (σ : St) (H : Hp) (x : V) (xs : List V) (v : Value) (us : List Value) (Q : VK), Inv X pins σ H s->RelV x v->Vals xs us->r x xs H Q →
    wpAny (model X.prog X.w) X.A (call (.builtin id) (v :: us)) (EP X pins σ Q) X.xe s
section
variable {X : Cx} {a b : Expr} {ta tb : TE} {pos : Pos}
theorem pe_ix {r : R2} (hr : IxR X r) (ha : PE X a ta) (hb : PE X b tb) (hs : PlainIx b) : PE X (.Subscript a b pos) (tOp r ta tb) := by
  intro pins s σ H Q I h
  exact Subscript_ (binT ha hb I h fun v u s2 x y H2 I2 rx ry q => hr a b pins s2 σ H2 x y v u Q I2 rx ry q (hs _ _))
def rIxL (K : PySem.W.Frag) : R2 := fun x y H Q => ∃ p xs i v, x = .ref p /\ y = .int i /\ SqL K H p xs /\ atI xs i = some v /\ Q v H
def rIxS : R2 := fun x y H Q => ∃ z i c, x = .str z /\ y = .int i /\ z.length ≤ sizeLine /\ atI z.cps.toList i = some c /\ Q (.str ⟨#[c]⟩) H
theorem ix_list : IxR X (rIxL X.K) := by
  intro value slice pins s σ H x y v u Q I rx ry h hs
  obtain ⟨p, xs, i, z, rfl, rfl, hq, he, q⟩ := h
  cases rx
  obtain ⟨t, rfl⟩ := ry
  obtain ⟨its, r, pl, hz⟩ := I.list hq
  obtain ⟨j, h1, h2, h3, h4, h5⟩ := atI_get he
  obtain ⟨w, ew, rw'⟩ := r.get h2
  have hl := r.length
  have hn := line63
  have fin : EP X pins σ Q w s := ⟨z, H, I, rw', q⟩
  by_cases h0 : 0 ≤ i
  · have hj : i.toNat = j := by
      rw [seqIndex_of h0 h5] at h1
      exact Option.some.inj h1
    exact item_listR pl.isList h0 (by omega) (by rw [hj]; simpa using ew) fin hs
  · have hj : (i + (its.toArray.size : Int)).toNat = j := by
      rw [seqIndex_neg (by omega) h4] at h1
      rw [List.size_toArray, ← hl]
      exact Option.some.inj h1
    exact subscriptTail_builtinR (x := w) pl.isList.typeIs slot_list_getitem.lookup
      (wpAny_getItem_list_neg (Q := fun r s' => r = w /\ EP X pins σ Q r s') pl.isList (by omega) (by rw [List.size_toArray] <;> omega) (by omega) (by rw [hj]; simpa using ew) ⟨rfl, fin⟩) hs
theorem ix_str : IxR X rIxS := by
  intro value slice pins s σ H x y v u Q I rx ry h hs
  obtain ⟨z, i, c, rfl, rfl, hz, he, q⟩ := h
  obtain ⟨t, rfl⟩ := rx
  obtain ⟨t', rfl⟩ := ry
  obtain ⟨j, h1, h2, h3, h4, h5⟩ := atI_get he
  have hl : z.cps.toList.length = z.length := by simp [Str.length]
  rw [hl] at h1 h4 h5
  have hn := line63
  exact tail_any (typeIs_str s z t) slot_str_getitem.lookup (getItem_str (c := c) (by
    have e1 : decide (i < -(2 ^ 63 : Int)) = false := decide_eq_false (by omega)
    have e2 : decide (i ≥ 2 ^ 63) = false := decide_eq_false (by omega)
    rw [e1, e2, Bool.or_false]) (by rw [h1]; simpa using h2) ⟨.str ⟨#[c]⟩, H, I.tok _, ⟨_, rfl⟩, q⟩) hs
theorem slice_bounds (lo hi : Option Int) (n : Nat) : (sliceBounds lo hi none n).1 = ((HT.sIx n 0 lo : Nat) : Int) /\ (sliceBounds lo hi none n).2.1 = ((HT.sIx n n hi : Nat) : Int) /\ (sliceBounds lo hi none n).2.2 = 1 := by
  refine ⟨?_, ?_, rfl⟩
  · cases lo with
    | none => simp [sliceBounds, HT.sIx]
    | some i =>
      simp only [sliceBounds, HT.sIx, Option.getD_none, show (1 : Int) > 0 by decide, if_true]
      by_cases h : i < 0
      · simp only [h, if_true] <;> omega
      · simp only [h, if_false] <;> omega
  · cases hi with
    | none => simp [sliceBounds, HT.sIx]
    | some i =>
      simp only [sliceBounds, HT.sIx, Option.getD_none, show (1 : Int) > 0 by decide, if_true]
      by_cases h : i < 0
      · simp only [h, if_true] <;> omega
      · simp only [h, if_false] <;> omega
theorem slicePick_cut (its : List Value) (lo hi : Option Int) : slicePick its.toArray lo hi none = ((its.drop (HT.sIx its.length 0 lo)).take (HT.sIx its.length its.length hi - HT.sIx its.length 0 lo)).toArray := by
  obtain ⟨h1, h2, h3⟩ := slice_bounds lo hi its.toArray.size
  unfold slicePick
  rw [h1, h2, h3]
  simp only [sliceRange_one, pick_run, List.size_toArray] <;> rfl
def rSlL (K : PySem.W.Frag) : V->Option Int->Option Int->Hp->VK->Prop := fun x lo hi H Q => ∃ a xs, x = .ref a /\ SqL K H a xs /\ ∀ p, H p = none->Q (.ref p) (upd H p (.lst (cutV xs lo hi)))
theorem sl_list : SlR X (rSlL X.K) := by
  intro pins s σ H x v vl vu lo hi sl Q I rx hs pl pu h
  obtain ⟨a, xs, rfl, hx, q⟩ := h
  cases rx
  obtain ⟨its, r, ht, hz⟩ := I.list hx
  have hlen := r.length
  refine ⟨"list", _, slot_list_getitem.lookup, ht.isList.typeIs, ?_⟩
  refine wpAny_getItem_list_slice ht.isList hs pl pu .none (by simp) ?_ (by rw [List.size_toArray] <;> omega)
  rw [slicePick_cut, ← hlen]
  refine ⟨.ref s.heap.objs.size, _, I.laid (t' := s.toks) (o := .lst (cutV xs lo hi)) (fun b ob q => Heap.get?_push_of_some _ q) (Nat.le_refl _) ?_, rfl, q _ (I.hok.fresh (Nat.le_refl _))⟩
  exact ⟨Nat.le_trans (cutV_length xs lo hi) hz, _, 0, (r.drop (HT.sIx xs.length 0 lo)).take (HT.sIx xs.length xs.length hi - HT.sIx xs.length 0 lo), Heap.get?_push_size _ rfl⟩
def flatV : V->Bool
  | .non => true
  | .bl _ => true
  | .int _ => true
  | .str _ => true
  | _ => false
def eqV : V->V->Bool
  | .non, .non => true
  | .bl a, .bl b => a == b
  | .bl a, .int b => (if a then 1 else 0) == b
  | .int a, .bl b => a == (if b then 1 else 0)
  | .int a, .int b => a == b
  | .str a, .str b => a == b
  | _, _ => false
theorem eqAt_V {A : Around} {s : Shared} {y x : V} {u v : Value} (ry : RelV y u) (rx : RelV x v) (fy : flatV y = true) (fx : flatV x = true) : SeqAt.EqAt A s u v (eqV y x) := by
  cases y with
  | non =>
    cases ry
    cases x with
    | non => cases rx; exact SeqAt.EqAt.same _
    | bl b => cases rx; exact SeqAt.EqAt.none_bool b
    | int b => obtain ⟨t, rfl⟩ := rx; exact SeqAt.EqAt.none_int b t
    | str b => obtain ⟨t, rfl⟩ := rx; exact SeqAt.EqAt.none_str b t
    | _ => exact absurd (show false = true from fx) Bool.false_ne_true
  | bl a =>
    cases ry
    cases x with
    | non => cases rx; exact SeqAt.EqAt.bool_none a
    | bl b => cases rx; exact SeqAt.EqAt.bool_bool a b
    | int b => obtain ⟨t, rfl⟩ := rx; exact SeqAt.EqAt.bool_int a b t
    | str b => obtain ⟨t, rfl⟩ := rx; exact SeqAt.EqAt.bool_str a b t
    | _ => exact absurd (show false = true from fx) Bool.false_ne_true
  | int a =>
    obtain ⟨t', rfl⟩ := ry
    cases x with
    | non => cases rx; exact SeqAt.EqAt.int_none a t'
    | bl b => cases rx; exact SeqAt.EqAt.int_bool a t' b
    | int b => obtain ⟨t, rfl⟩ := rx; exact SeqAt.EqAt.int_int a t' b t
    | str b => obtain ⟨t, rfl⟩ := rx; exact SeqAt.EqAt.int_str a t' b t
    | _ => exact absurd (show false = true from fx) Bool.false_ne_true
  | str a =>
    obtain ⟨t', rfl⟩ := ry
    cases x with
    | non => cases rx; exact SeqAt.EqAt.str_none a t'
    | bl b => cases rx; exact SeqAt.EqAt.str_bool a t' b
    | int b => obtain ⟨t, rfl⟩ := rx; exact SeqAt.EqAt.str_int a t' b t
    | str b => obtain ⟨t, rfl⟩ := rx; exact SeqAt.EqAt.str_str a t' b t
    | _ => exact absurd (show false = true from fx) Bool.false_ne_true
  | _ => exact absurd (show false = true from fy) Bool.false_ne_true
def eqU (x : V) (u : Value) : Bool := match u with
  | .none => eqV .non x
  | .bool b => eqV (.bl b) x
  | .int i _ => eqV (.int i) x
  | .str z _ => eqV (.str z) x
  | _ => false
theorem eqU_of {x y : V} {u : Value} (r : RelV y u) (f : flatV y = true) : eqU x u = eqV y x := by
  cases y with
  | non => cases r; rfl
  | bl b => cases r; rfl
  | int i => obtain ⟨t, rfl⟩ := r; rfl
  | str z => obtain ⟨t, rfl⟩ := r; rfl
  | _ => exact absurd (show false = true from f) Bool.false_ne_true
theorem any_eqU {x : V} : ∀ {xs : List V} {us : List Value}, Vals xs us->xs.all flatV = true->us.any (eqU x) = xs.any fun y => eqV y x
  | _, _, .nil, _ => rfl
  | y :: xs, u :: us, .cons r t, f => by
    rw [List.all_cons, Bool.and_eq_true] at f
    rw [List.any_cons, List.any_cons, eqU_of r f.1, any_eqU t f.2]
theorem mem_eqAt {A : Around} {s : Shared} {x : V} {v : Value} (rx : RelV x v) (fx : flatV x = true) : ∀ {xs : List V} {us : List Value}, Vals xs us->xs.all flatV = true->∀ u ∈ us, SeqAt.EqAt A s u v (eqU x u)
  | _, _, .nil, _ => fun u hu => by cases hu
  | y :: xs, u :: us, .cons r t, f => fun u' hu => by
    rw [List.all_cons, Bool.and_eq_true] at f
    rcases List.mem_cons.mp hu with rfl | hu
    · rw [eqU_of r f.1]; exact eqAt_V r rx f.1 fx
    · exact mem_eqAt rx fx t f.2 u' hu
def inV (x : V) (xs : List V) : Bool := xs.any fun y => eqV y x
def rIn (K : PySem.W.Frag) (neg : Bool) : R2 := fun x y H Q => ∃ p xs, y = .ref p /\ (SqL K H p xs ∨ SqT K H p xs) /\ flatV x = true /\ xs.all flatV = true /\ Q (.bl (if neg then !inV x xs else inV x xs)) H
theorem op_notIn_seq : OpR X (compareOp .NotIn) (rIn X.K true) := by
  intro pins s σ H x y v u Q I rx ry h
  obtain ⟨p, xs, rfl, hq, fx, fs, q⟩ := h
  cases ry
  rcases hq with hq | hq
  · obtain ⟨its, r, pl, hz⟩ := I.list hq
    refine SeqAt.notIn_listAt (eqU x) pl.isList (fun w hw => mem_eqAt rx fx r fs w (by simpa using hw)) ⟨.bl _, H, I, rfl, ?_⟩
    rw [show its.toArray.any (eqU x) = its.any (eqU x) by simp, any_eqU r fs]
    exact q
  · obtain ⟨its, r, pl, hz⟩ := I.tuple hq
    refine SeqAt.notIn_tupleAt (eqU x) pl (fun w hw => mem_eqAt rx fx r fs w (by simpa using hw)) ⟨.bl _, H, I, rfl, ?_⟩
    rw [show its.toArray.any (eqU x) = its.any (eqU x) by simp, any_eqU r fs]
    exact q
theorem call_len_seq : CallR X (.builtin "len") (fun xs H Q => ∃ p ys, xs = [.ref p] /\ (SqL X.K H p ys ∨ SqT X.K H p ys) /\ Q (.int ys.length) H) := by
  intro pins s σ H xs us Q I r h
  obtain ⟨p, ys, rfl, hq, q⟩ := h
  obtain ⟨u, rfl, rx⟩ := vals1 r
  cases rx
  have hn := line63
  rcases hq with hq | hq
  · obtain ⟨its, r', pl, hz⟩ := I.list hq
    have hlen := r'.length
    exact Calls.call_len_list pl.isList (by simp only [List.size_toArray] <;> omega) ⟨.int ys.length, H, I.tok _, ⟨s.toks + 1, by rw [List.size_toArray, hlen]⟩, q⟩
  · obtain ⟨its, r', pl, hz⟩ := I.tuple hq
    have hlen := r'.length
    exact len_tuple pl (by simp only [List.size_toArray] <;> omega) ⟨.int ys.length, H, I.tok _, ⟨s.toks + 1, by rw [List.size_toArray, hlen]⟩, q⟩
theorem call_len_str : CallR X (.builtin "len") (fun xs H Q => ∃ z, xs = [.str z] /\ z.length ≤ sizeLine /\ Q (.int z.length) H) := by
  intro pins s σ H xs us Q I r h
  obtain ⟨z, rfl, hz, q⟩ := h
  obtain ⟨u, rfl, t, rfl⟩ := vals1 r
  have hn := line63
  exact len_str (by omega) ⟨.int z.length, H, I.tok _, ⟨_, rfl⟩, q⟩
theorem call_tuple_of : CallR X (.type "tuple") (fun xs H Q => ∃ p ys, xs = [.ref p] /\ ((SqL X.K H p ys /\ ∀ l, H l = none->Q (.ref l) (upd H l (.tup ys))) ∨ (SqT X.K H p ys /\ Q (.ref p) H))) := by
  intro pins s σ H xs us Q I r h
  obtain ⟨p, ys, rfl, h⟩ := h
  obtain ⟨u, rfl, rx⟩ := vals1 r
  cases rx
  rcases h with ⟨hq, q⟩ | ⟨hq, q⟩
  · obtain ⟨its, r', pl, hz⟩ := I.list hq
    have hlen := r'.length
    refine call_tuple_list pl.isList (fun h' kp => ?_) (by simp only [List.size_toArray] <;> omega)
    have I1 : Inv X pins σ H { s with heap := h' } := I.kept (t' := s.toks) kp
    have I2 : Inv X pins σ (upd H h'.objs.size (.tup ys)) { s with heap := h'.push { cls := .type "tuple", data := .seq its.toArray } } :=
      I1.laid (t' := s.toks) (fun b o e => Heap.get?_push_of_some _ e) (Nat.le_refl _) (show ObjOk X.prog X.w _ _ _ (.tup ys) from ⟨hz, its, r', IsTup.new _ _⟩)
    exact ⟨.ref h'.objs.size, _, I2, rfl, q _ (I1.hok.fresh (Nat.le_refl _))⟩
  · obtain ⟨its, r', pl, hz⟩ := I.tuple hq
    exact call_tuple_same pl ⟨.ref p, H, I, rfl, q⟩
def tyV (K : PySem.W.Frag) (T : String) (x : V) (H : Hp) : Prop := match x with
  | .str _ => T = "str"
  | .int _ => T = "int"
  | .ref p => (T = "list" /\ ∃ xs, SqL K H p xs) ∨ (T = "tuple" /\ ∃ o, K.lookup p = some o /\ o.cls = .type "tuple" /\ o.dict = none) ∨
      (T = "dict" /\ ((∃ kvs, H p = some (.dK kvs)) ∨ ∃ kvs, H p = some (.dT kvs))) ∨ (T = "set" /\ ∃ S n, H p = some (.set S n))
  | _ => False
theorem tyV_is {pins : List (Addr × Obj)} {σ : St} {H : Hp} {s : Shared} {T : String} {x : V} {v : Value} (I : Inv X pins σ H s) (r : RelV x v) (ty : tyV X.K T x H) :
    s.TypeIs v T /\ ∀ a, v = .ref a->∃ ob, s.heap.get? a = some ob /\ ob.dict = none := by
  cases x with
  | str z =>
    obtain ⟨t, rfl⟩ := r
    cases (show T = "str" from ty)
    exact ⟨typeIs_str s z t, fun _ e => nomatch e⟩
  | int i =>
    obtain ⟨t, rfl⟩ := r
    cases (show T = "int" from ty)
    exact ⟨typeIs_int s i t, fun _ e => nomatch e⟩
  | ref p =>
    cases r
    rcases ty with ⟨rfl, xs, hq⟩ | ⟨rfl, o, hk, hc, hd⟩ | ⟨rfl, hk⟩ | ⟨rfl, S, n, hk⟩
    · obtain ⟨its, _, pl, _⟩ := I.list hq
      refine ⟨pl.isList.typeIs, fun a e => ?_⟩
      cases e
      obtain ⟨o, n, e, c, hd, _⟩ := pl
      exact ⟨o, e, hd⟩
    · refine ⟨⟨o, I.kIn p o hk, hc⟩, fun a e => ?_⟩
      cases e
      exact ⟨o, I.kIn _ o hk, hd⟩
    · have z : ∃ o, s.heap.get? p = some o /\ o.ExactDict := by
        rcases hk with ⟨kvs, hk⟩ | ⟨kvs, hk⟩
        · obtain ⟨_, _, _, _, o, _, _, e, ex, _⟩ := I.hok p _ hk
          exact ⟨o, e, ex⟩
        · obtain ⟨_, _, _, _, o, _, _, e, ex, _⟩ := I.hok p _ hk
          exact ⟨o, e, ex⟩
      obtain ⟨o, e, ex⟩ := z
      refine ⟨⟨o, e, ex.1⟩, fun a e2 => ?_⟩
      cases e2
      exact ⟨o, e, ex.2.1⟩
    · obtain ⟨o, _, _, _, e, ex, _⟩ := I.hok p _ hk
      refine ⟨⟨o, e, ex.1⟩, fun a e2 => ?_⟩
      cases e2
      exact ⟨o, e, ex.2.1⟩
  | _ => exact False.elim ty
def tBM (K : PySem.W.Frag) (T : String) (r : V->List V->Hp->VK->Prop) (to : TE) (t : TA) : TE := fun σ H Q => to σ H fun x H1 => tyV K T x H1 /\ t σ H1 fun xs H2 => r x xs H2 Q
variable {o e : Expr} {es : List Expr} {to : TE} {t : TA} {name : Str} {apos cpos : Pos} {T id : String} {r : V->List V->Hp->VK->Prop}
theorem pe_bm (pa : PlainAttrs T) (slot : Slot T name id) (hty : typeOf (.builtin id) = pure (.type "method_descriptor")) (hm : MtR X id r) (ho : PE X o to) (ha : PA X (e :: es) t)
    (hbase : attributeBase o name X.env (eval o X.env) = eval o X.env := by rfl)
    (hfew : ((backTo cpos (starEach (e :: es) X.env)).all (fun x => !x.1) && (backToKw cpos (keywordEach [] X.env)).all (fun x => x.1.isSome)
      && decide ((e :: es).length + ([] : List Keyword).length + (if ([] : List Keyword).isEmpty then 0 else 1) < 30)) = true := by rfl)
    (hline : (apos.endLine == cpos.line) = true := by rfl) (hs : starEach (e :: es) X.env = (false, eval e X.env) :: starEach es X.env := by rfl) (hplain : (backTo cpos (starEach es X.env)).any (·.1) = false := by rfl) :
    PE X (.Call (.Attribute o name apos) (e :: es) [] cpos) (tBM X.K T r to t) := by
  intro pins s σ H Q I h
  refine wpAny_Call_method_late hbase hfew hline rfl (thn (ho pins s σ H _ I h) fun v s1 ⟨x, H1, I1, r1, ty, q1⟩ => ?_)
  obtain ⟨h1, h2⟩ := tyV_is I1 r1 ty
  refine ⟨T, id, pa, slot, hty, h1, h2, ?_⟩
  have hA := ha cpos pins s1 σ H1 _ I1 q1
  rw [hs] at hA ⊢
  refine Calls.callWith_builtin (by show (false || (backTo cpos (starEach es X.env)).any (·.1)) = false; rw [hplain] <;> rfl) (Calls.evalArgs_plain ?_)
  exact thn hA fun us s2 ⟨vs, H2, I2, r2, q2⟩ => hm pins s2 σ H2 x vs v us Q I2 r1 r2 q2
/- xs.append(e), list.index on a module's tuple .. are MtR facts of 06m -/
end
open PySem PySem.Spec PyProof.Rows
def MtM (X : Cx) (id : String) (r : V->List V->Hp->VK->Prop) : Prop :=
  ∀ (pins : List (Addr × Obj)) (s : Shared) (σ : St) (H : Hp) (x : V) (xs : List V) (v : Value) (us : List Value) (Q : VK), Inv X pins σ H s->RelV x v->Vals xs us->r x xs H Q →
    wpAny (model X.prog X.w) X.A (call (.builtin id) (v :: us)) (EP X pins σ Q) X.xe s
theorem Vals.one : ∀ {x : V} {us : List Value}, Vals [x] us->∃ u, us = [u] /\ RelV x u
  | _, _, .cons r .nil => ⟨_, rfl, r⟩
section
variable {X : Cx} {pins : List (Addr × Obj)} {σ : St} {H : Hp} {s : Shared} {l b : Addr} {xs ys zs : List V}
theorem Inv.lset {its its' : List Value} {n : Nat} {f : Array Value->Array Value} {t' : Nat} (I : Inv X pins σ H s) (hH : H l = some (.lst xs))
    (e : s.heap.get? l = some { cls := .type "list", data := .seq its.toArray n }) (hf : f its.toArray = its'.toArray) (hv : Vals ys its') (hz : ys.length ≤ sizeLine) :
    Inv X pins σ (upd H l (.lst ys)) { s with heap := s.heap.update l (Obj.mapSeq f), toks := t' } := by
  have q := PySem.IsL.update e f
  rw [hf] at q
  refine I.write (x := l) (e := l) (by rw [hH]; exact trivial) (.inl rfl) (fun b' u hb hu => (Heap.get?_update_other s.heap (Obj.mapSeq f) (Ne.symm hb)).trans hu) ⟨_, q⟩ ?_
  exact ⟨hz, its', _, hv, q⟩
theorem Inv.lnew {its : List Value} {t' : Nat} (I : Inv X pins σ H s) (hv : Vals ys its) (hz : ys.length ≤ sizeLine) :
    Inv X pins σ (upd H s.heap.objs.size (.lst ys)) { s with heap := s.heap.push { cls := .type "list", data := .seq its.toArray }, toks := t' } :=
  I.laid (fun _ _ q => Heap.get?_push_of_some _ q) (Nat.le_refl _) ⟨hz, its, 0, hv, Heap.get?_push_size _ rfl⟩
theorem Inv.fresh (I : Inv X pins σ H s) : H s.heap.objs.size = none := I.hok.fresh (Nat.le_refl _)
theorem Inv.lstM (I : Inv X pins σ H s) (hH : H l = some (.lst xs)) : xs.length ≤ sizeLine /\ ∃ (its : List Value) (n : Nat), Vals xs its /\ xs.length = its.length /\ s.heap.get? l = some { cls := .type "list", data := .seq its.toArray n } := by
  obtain ⟨z, its, n, r, e⟩ := I.hok l _ hH
  exact ⟨z, its, n, r, r.length, e⟩
end
section
variable {X : Cx}
def rAppend : V->List V->Hp->VK->Prop := fun x vs H Q => ∃ l xs y, x = .ref l /\ vs = [y] /\ H l = some (.lst xs) /\ xs.length < sizeLine /\ Q .non (upd H l (.lst (xs ++ [y])))
theorem mt_append : MtM X "list.append" rAppend := by
  intro pins s σ H x vs v us Q I rx rv h
  obtain ⟨l, xs, y, rfl, rfl, hH, hz, q⟩ := h
  cases rx
  obtain ⟨u, rfl, ru⟩ := rv.one
  obtain ⟨z, its, n, r, hl, e⟩ := I.lstM hH
  refine call_meets F.slot_list_append ⟨_, e, rfl⟩ F.entry_list_append (F.args_list_append_2 _ _) (PySem.list_append l its.toArray n u (by rw [List.size_toArray]; omega)) ⟨e, ?_⟩
  refine ⟨.non, _, I.lset (its' := its ++ [u]) hH e (by simp) (r.append (.cons ru .nil)) ?_, rfl, q⟩
  rw [List.length_append, List.length_singleton]
  omega
def rCat : R2 := fun x y H Q => ∃ l b xs zs, x = .ref l /\ y = .ref b /\ H l = some (.lst xs) /\ H b = some (.lst zs) /\ xs.length + zs.length ≤ sizeLine /\ ∀ p, H p = none->Q (.ref p) (upd H p (.lst (xs ++ zs)))
theorem op_cat : OpR X (binaryOp .Add) rCat := by
  intro pins s σ H x y v u Q I rx ry h
  obtain ⟨l, b, xs, zs, rfl, rfl, hH, hB, hz, q⟩ := h
  cases rx
  cases ry
  obtain ⟨z, its, n, r, hl, e⟩ := I.lstM hH
  obtain ⟨z2, its2, n2, r2, hl2, e2⟩ := I.lstM hB
  refine PySem.P.add_list e e2 ?_ (by rw [List.size_toArray, List.size_toArray]; omega)
  have ea : its.toArray ++ its2.toArray = (its ++ its2).toArray := by simp
  rw [ea]
  exact ⟨.ref _, _, I.lnew (t' := s.toks) (r.append r2) (by rw [List.length_append]; omega), rfl, q _ I.fresh⟩
end
section
variable {prog : Program} {w : World} {A : Around} {E : Value->Shared->Prop} {s : Shared}
set_option maxRecDepth 100000 in
end
end L2
namespace Att
open PySem PySem.W PySem.Calls PyProof.Rows
theorem ints_of_wellAll {P : Params} {h : Heap} : ∀ (ns : List Int) (vs : List Value), WellAll P h vs (ns.map WData.int)->IntsAre vs ns := by
  intro ns
  induction ns with
  | nil =>
    intro vs w
    rw [List.map_nil] at w
    cases w
    exact .nil
  | cons n ns ih =>
    intro vs w
    rw [List.map_cons] at w
    cases w with
    | cons a b =>
      cases a
      exact .cons _ _ (ih _ b)
theorem script_of {l : OpenLaw} {n : Nat} (hn : l.most = some n) {P : Params} {h : Heap} {args : List WData} {vals : List Value}
    (hpre : l.row.toRowW.claim.pre args = true) (hwl : WellAll P h vals args) :
    ∃ a vs ns, vals = [Value.ref a] /\ args = [WData.list (ns.map WData.int)] /\ h.get? a = some { cls := .type "list", data := .seq vs.toArray } /\ IntsAre vs ns /\ ns.length ≤ n := by
  have hsh : WShape.hasAll [] args [.list .int] = true := (pre_splitW hpre).1
  have hc : l.pre.holds [] { args := args } = true := (pre_splitW hpre).2
  obtain ⟨d, r, rfl, h1, h2⟩ := hasAllW_cons hsh
  obtain rfl := hasAllW_nil h2
  obtain ⟨xs, rfl, h3⟩ := hasW_list h1
  obtain ⟨ns, rfl⟩ := items_int h3
  have hlen : ns.length ≤ n := by
    unfold OpenLaw.pre at hc
    have h4 : (WTm.not (.lt (.lit (.int (n : Int))) (.len (.arg 0)))).holds [] { args := [.list (ns.map .int)] } = true := by
      have h4 := (holds_andW hc).1
      rw [hn] at h4
      exact h4
    have h5 := condW_of h4 (w_not (w_lt w_lit (w_len_list (w_arg rfl))))
    rw [List.length_map] at h5
    refine Nat.le_of_not_lt fun q => ?_
    have q' : (n : Int) < ((ns.length : Nat) : Int) := by omega
    first
      | (rw [decide_eq_true q'] at h5; exact absurd h5 (by decide))
      | (simp at h5; omega)
  cases hwl with
  | cons w1 w2 =>
    cases w2
    cases w1 with
    | list ho hall => exact ⟨_, _, ns, rfl, rfl, ho, ints_of_wellAll ns _ hall, hlen⟩
theorem post_true (l : OpenLaw) (args : List WData) : l.row.toRowW.claim.post args (.bool true) args = true :=
  postW_of (r := l.row.toRowW) (X := (true == true))
    (show WShape.has [] (.bool true) .bool = true by first | rfl | decide | simp [WShape.has, WShape.arms, WShape.armsAll])
    (show (WTm.eq .res (.lit (.bool true))).value [] { args := args, res := some (.bool true), after := args } = some (.bool (true == true)) from w_eq_bool (w_res rfl) w_lit) rfl
theorem attach_call {l : OpenLaw} {n : Nat} {q : Program} {loose : List Str} {XP : (Str->Option Value)->Heap->Prop} {YP : World->Heap->Prop} {d : DefRec}
    (hn : l.most = some n) (hdf : d.params.defaults = [])
    (call : ∀ (w : World) (s₀ s₁ : Shared) (mg mb : Str->Option Value) (fa : Addr) (o : Obj) (pm cd doc : Value) (a : Addr) (vs : List Value) (ns : List Int),
      Ground q loose [] XP w s₀ mg mb s₁.heap->YP w s₁.heap →
      s₁.heap.get? fa = some o->o.data = .func (docDef d.name d.params d.body d.scope pm cd doc)->s₁.heap.CodeRec cd d.name->mg d.name = some (.ref fa) →
      s₁.heap.get? a = some { cls := .type "list", data := .seq vs.toArray }->IntsAre vs ns->ns.length ≤ n->s₁.gens = #[] →
      codeAny (model l.prog w) callerA (.call (.ref fa) ⟨[.ref a], []⟩) (fun r s' => r = .ok (.ret (.bool true)) /\ OldK s₁.heap s'.heap /\ s'.os = s₁.os /\ AllBare s'.gens) s₁) :
    WalkO q loose XP YP l.row.toRowW d [] (fun f vs => PySem.call f vs) := by
  intro w s₀ s₁ mg mb G Y fa o pm cd doc dV kV ho hd hcd hD hmg hg args vals as hpre hlay hrd hwl hlo
  obtain rfl : dV = .none := Dflts.none hD hdf
  obtain rfl : kV = .none := Dflts.noKw hD
  obtain ⟨a, vs, ns, rfl, rfl, hobj, hints, hlen⟩ := script_of hn hpre hwl
  refine enter_call (codeAny_mono (call w s₀ s₁ mg mb fa o pm cd doc a vs ns G Y ho (fd_plain hd) hcd hmg hobj hints hlen hg) fun r s' hq => ?_)
  obtain ⟨rfl, h2, h3, h4⟩ := hq
  exact ⟨.inl ⟨.bool true, .bool true, [], rfl, fun _ => rfl, .bool true, post_true l _, fun _ => ⟨List.Pairwise.nil, fun _ hm => (nomatch hm)⟩⟩, h2, h3, h4⟩
section
variable {prog : Program} {w : World} {A : Around} {E : Value->Shared->Prop} {s : Shared} {K : Frag}
def ledger (h : Heap) (L d : Addr) : List (Addr × Obj) := (List.range h.objs.size).filterMap fun a => if a = L ∨ a = d then none else (h.get? a).map fun o => (a, o)
end
end Att
namespace L2
open PySem PySem.Spec PyProof.Rows
theorem vals_ints : ∀ {vs : List Value} {ns : List Int}, IntsAre vs ns->Vals (ns.map V.int) vs
  | _, _, .nil => .nil
  | _, _, .cons n t h => .cons ⟨t, rfl⟩ (vals_ints h)
def Only (H : Hp) : Prop := ∀ b, H b = none ∨ ∃ o xs, H b = some (.frz o (.lst xs))
theorem law_call {P : Program} {w : World} {K : PySem.W.Frag} {mg mb : Str->Option Value} {CX : CXT} {k : Nat} {fa a : Addr} {fd : FuncData} {x : Str} {sp : Sp} {s₁ : Shared} {vs : List Value} {ns : List Int}
    (KX : K.In s₁.heap) (hns : s₁.heap.Ns mainGlobals mg) (hb : s₁.heap.Ns builtinsNs mb) (hbb : ∀ x : Str, x ≠ "__name__"->mb x = bootBuiltins x) (hlim : s₁.heap.NoLimit) (hg : s₁.gens = #[])
    (ha : s₁.heap.get? a = some { cls := .type "list", data := .seq vs.toArray }) (hi : IntsAre vs ns) (hl : ns.length ≤ sizeLine) (hr : Room k callerA)
    (F : ∀ base : Heap, K.In base->base.Ns mainGlobals mg->FnOk P w K mg base CX k fa fd [x] sp) (hbind : ∀ (s : Shared) (u : Value), BindsTo s fd ⟨[u], []⟩ [(x, u)])
    (hsp : ∀ H : Hp, Only H->SqL K H a (ns.map V.int)->sp [.ref a] H (fun v _ => v = .bl true) fun _ _ _ => False)
    (hCX : ∀ H e s', CX [] H s₁ (fun _ _ _ => False) e s'->False) :
    codeAny (model P w) callerA (.call (.ref fa) ⟨[.ref a], []⟩) (fun r s' => r = .ok (.ret (.bool true)) /\ OldK s₁.heap s'.heap /\ s'.os = s₁.os /\ AllBare s'.gens) s₁ := by
  have rv := vals_ints hi
  have lenV := hi.length
  have core : ∀ H : Hp, Only H->SqL K H a (ns.map V.int)->HOk P w H s₁.heap->(∀ b, H b ≠ none->b = a)->(H a ≠ none->K.lookup a = none) →
      codeAny (model P w) callerA (.call (.ref fa) ⟨[.ref a], []⟩) (fun r s' => r = .ok (.ret (.bool true)) /\ OldK s₁.heap s'.heap /\ s'.os = s₁.os /\ AllBare s'.gens) s₁ := by
    intro H hO hS hok hA hK
    have base_of : ∀ {b : Addr} {o : Obj}, s₁.heap.get? b = some o->H b = none->(hidT s₁.heap H).get? b = some o := fun e n => hidT_get e n
    have noA : ∀ {b : Addr} {o : Obj} {es : Array DictEntry} {ep : Nat}, s₁.heap.get? b = some o->o.data = .dict es ep->H b = none := fun {b o es ep} e d => by
      cases q : H b with
      | none => rfl
      | some u =>
        have e' : b = a := hA b (by rw [q]; simp)
        subst e'
        rw [ha] at e; cases e
        have d' : Data.seq vs.toArray _ = Data.dict es ep := d
        cases d'
    have nsK : ∀ {b : Addr} {m : Str->Option Value}, s₁.heap.Ns b m->(hidT s₁.heap H).Ns b m := fun {b m} ⟨o, es, ep, e, d, r⟩ => ⟨o, es, ep, base_of e (noA e d), d, r⟩
    have hKb : K.In (hidT s₁.heap H) := fun b o e => base_of (KX b o e) (by
      cases q : H b with
      | none => rfl
      | some u =>
        have e' : b = a := hA b (by rw [q]; simp)
        subst e'
        rw [hK (by rw [q]; simp)] at e; cases e)
    have hM : Mod K mg (hidT s₁.heap H) := ⟨hKb, nsK hns, ⟨mb, nsK hb, hbb⟩, let ⟨mc, h1, h2⟩ := hlim; ⟨mc, nsK h1, h2⟩⟩
    have e0 : Env0 P w K mg (hidT s₁.heap H) callerA [] s₁ H := ⟨rfl, hM, fun b o e => of_hidT e, Nat.le_of_eq (hidT_size _ _), trivial, fun b hb => absurd (show b ∈ ([] : List Addr) from hb) (by simp), hok, .of_eq hg⟩
    refine codeAny_mono ((F _ hKb (nsK hns)).run callerA [] s₁ H ⟨[.ref a], []⟩ [.ref a] [.ref a] _ _ hr e0 (hbind s₁ (.ref a)) (.cons rfl .nil) (hsp H hO hS)) fun r s' h => ?_
    cases r with
    | error e => exact (hCX H e s' h).elim
    | ok fl =>
      cases fl with
      | next => exact False.elim h
      | brk => exact False.elim h
      | cont => exact False.elim h
      | ret u =>
        obtain ⟨v, H', os, bare, un, hok', r', q⟩ := h
        have q' : v = .bl true := q
        subst q'
        obtain rfl : u = Value.bool true := r'
        refine ⟨rfl, OldK.of_keep fun b o e => ?_, os, bare⟩
        cases q : H b with
        | none => exact un.keep b o e q (by intro z; exact absurd (show b ∈ ([] : List Addr) from z) (by simp)) (by simp)
        | some u =>
          rcases hO b with z | ⟨ob, xs, z⟩
          · rw [q] at z; cases z
          · have z2 := un.frzs b ob _ z
            obtain ⟨e1, _⟩ := hok b _ z
            obtain ⟨e2, _⟩ := hok' b _ z2
            rw [e] at e1; cases e1
            exact e2
  cases hk : K.lookup a with
  | some o =>
    have e := KX a o hk
    rw [ha] at e
    cases e
    refine core (fun _ => none) (fun _ => .inl rfl) (.inr ⟨_, vs.toArray, _, hk, rfl, rfl, rfl, by rw [List.size_toArray, lenV]; exact hl, by simpa using rv⟩) (fun b u z => by have z' : (none : Option HO) = some u := z; cases z') (fun b z => absurd rfl z) fun z => absurd rfl z
  | none =>
    refine core (fun b => if b = a then some (.frz { cls := .type "list", data := .seq vs.toArray } (.lst (ns.map V.int))) else none) (fun b => ?_) (.inl (.inr ⟨{ cls := .type "list", data := .seq vs.toArray }, if_pos rfl⟩)) (fun b u z => ?_) (fun b z => ?_) fun _ => hk
    · by_cases hb : b = a
      · exact .inr ⟨_, _, if_pos hb⟩
      · exact .inl (if_neg hb)
    · by_cases hb : b = a
      · have z' := (if_pos hb).symm.trans z
        cases z'
        subst hb
        exact ⟨ha, by rw [List.length_map]; exact hl, vs, _, rv, ha⟩
      · have z' := (if_neg hb).symm.trans z
        cases z'
    · by_cases hb : b = a
      · exact hb
      · exact absurd (if_neg hb) z
open PySem PySem.Spec PyProof.Rows
abbrev KOf {K : PySem.W.Frag} {h : Heap} (_ : K.In h) : PySem.W.Frag := K
theorem walk_of {l : PySem.W.OpenLaw} {n k : Nat} {q : Program} {loose : List Str} {XP : (Str->Option Value)->Heap->Prop} {YP : World->Heap->Prop} {d : DefRec} {K : Params->PySem.W.Frag} {CX : World->CXT} {sp : World->Sp} {x : Str}
    (hn : l.most = some n) (hn2 : n ≤ sizeLine) (hdf : d.params.defaults = []) (hr : Room k callerA)
    (hY : ∀ (w : World) (h : Heap), YP w h->(K w.params).In h)
    (F : ∀ (w : World) (mg : Str->Option Value) (fa : Addr) (h : Heap), (K w.params).In h->h.Ns mainGlobals mg->mg d.name = some (.ref fa) →
      ∃ fd : FuncData, (∀ (s : Shared) (u : Value), BindsTo s fd ⟨[u], []⟩ [(x, u)]) ∧
        ∀ base : Heap, (K w.params).In base->base.Ns mainGlobals mg->FnOk l.prog w (K w.params) mg base (CX w) k fa fd [x] (sp w))
    (hsp : ∀ (w : World) (H : Hp) (a : Addr) (ns : List Int), ns.length ≤ n->Only H->SqL (K w.params) H a (ns.map V.int)->sp w [.ref a] H (fun v _ => v = .bl true) fun _ _ _ => False)
    (hCX : ∀ (w : World) (H : Hp) (s : Shared) (e : Value) (s' : Shared), CX w [] H s (fun _ _ _ => False) e s'->False) :
    PySem.W.WalkO q loose XP YP l.row.toRowW d [] (fun f vs => PySem.call f vs) := by
  refine Att.attach_call hn hdf fun w s₀ s₁ mg mb fa o pm cd doc a vs ns G Y ho hd hcd hmg hobj hints hlen hg => ?_
  have KX := hY w _ Y
  obtain ⟨fd, hb, hF⟩ := F w mg fa _ KX G.T.g hmg
  exact law_call KX G.T.g G.T.b G.T.builtins G.T.nolimit hg hobj hints (Nat.le_trans hlen hn2) hr hF hb (fun H hO hS => hsp w H a ns hlen hO hS) fun H e s' => hCX w H s₁ e s'
end L2
/- THE LAST THEOREM (shape; LID, My.* are yours):
   My.Adr: a structure of the addresses that your layer names (classes, functions); My.Txt K t: a structure (Prop) of the equations over K;
   My.txt_mk : {K} {implicit addresses ..} (e1 : nsIn K mainGlobals "law" = some (some (.ref f))) (e2 : K.lookup f = some ⟨oc, od, .func (fnOf "law" "law" params body scope dV kV doc pm an cdv ct), sl⟩) (e3 : codeIn K cdv "law" = true) .. : ∃ t, My.Txt K t
set_option maxRecDepth 100000 in
set_option maxHeartbeats 0 in
theorem PySem.Challenge.cw_LID_holds : PySem.Challenge.rw_LID.Holds := by
  w_on; o_law; k_head; (case hw => w_witness2)
  k_fill
  refine L2.walk_of (l := PySem.Challenge.rw_LID) (n := 63) (k := 40) (x := "script") (CX := fun w => ..) (sp := fun _ => My.sp_law) rfl (by decide) rfl ⟨rfl, by decide, by decide⟩ (fun w h Y => PySem.W.kIn_of Y) ?F ?S ?C
  case F =>
    intro w mg fa h KX G hmg
    have T : ∃ t, My.Txt (L2.KOf KX) t := by
      dsimp only [L2.KOf]                          -- K must stand as «<heap const> w.params» for k_is
      refine' My.txt_mk ?e1 ?e2 ?e3 ..
      (case e1 => PySem.W.k_is)                    -- in the order: a name -> its address -> its object -> its parts
      (case e2 => PySem.W.k_is)
      ..
    obtain ⟨t, T⟩ := T
    have e0 := hmg.symm.trans (PySem.W.mg_of KX G T.law)
    cases e0                                       -- fa is the law's own address
    exact ⟨_, fun s u => .of_eq rfl, fun base kb nb => My.law_fn T kb nb⟩     -- if «.of_eq rfl» comes too early: refine' ⟨_, ?b, fun base kb nb => My.law_fn T kb nb⟩; exact fun s u => .of_eq rfl
  case S => exact fun w H a ns hl hO hS => ..
  case C => exact ..
(the tactic k_is has no namespace: write k_is) -/
namespace L2
open PySem PySem.Spec PyProof.Rows
def inClass (s : Stmt) (j : Nat) : Stmt := match s with
  | .ClassDef _ _ _ body _ _ _ _ _ _ _ => body.getD j (.Pass ⟨0, 0, 0, 0⟩)
  | _ => .Pass ⟨0, 0, 0, 0⟩
def defArgs (s : Stmt) : Arguments := match s with
  | .FunctionDef _ a _ _ _ _ _ _ _ _ => a
  | _ => { posonlyargs := [], args := [], vararg := none, kwonlyargs := [], kw_defaults := [], kwarg := none, defaults := [] }
def defBody (s : Stmt) : List Stmt := match s with
  | .FunctionDef _ _ b _ _ _ _ _ _ _ => b
  | _ => []
def defScope (s : Stmt) : Scope := match s with
  | .FunctionDef _ _ _ _ _ _ sc _ _ _ => sc
  | _ => { kind := .function, names := [], isGenerator := false, isCoroutine := false }
abbrev E0 : XK := fun _ _ _ => False
structure Fun (K : PySem.W.Frag) (x qual : Str) (st : Stmt) (f : Addr) (fd : FuncData) : Prop where
  ex : ∃ (oc : Value) (od : Option Addr) (kV doc pm : Value) (an : Option Addr) (cdv ct : Value) (osl : Array (Option Value)),
    fd = PySem.W.fnOf x qual (defArgs st) (defBody st) (defScope st) .none kV doc pm an cdv ct /\ K.lookup f = some ⟨oc, od, .func fd, osl⟩ /\ PySem.W.codeIn K cdv qual = true
  kp : PySem.W.keepIn K (.ref f) = true
section
variable {P : Program} {w : World} {K : PySem.W.Frag} {mg : Str->Option Value} {base : Heap}
theorem Fun.binds {x qual : Str} {st : Stmt} {f : Addr} {fd : FuncData} {ps : List Str} (F : Fun K x qual st f fd)
    (h : ∀ (kV doc pm : Value) (an : Option Addr) (cdv ct : Value) (us : List Value), us.length = ps.length->bindArgs (PySem.W.fnOf x qual (defArgs st) (defBody st) (defScope st) .none kV doc pm an cdv ct) ⟨us, []⟩ = pure (ps.zip us)) : Binds K fd ps [] := by
  obtain ⟨oc, od, kV, doc, pm, an, cdv, ct, osl, rfl, lk, hcd⟩ := F.ex
  exact .all (h kV doc pm an cdv ct)
theorem fun_mk {x qual : Str} {st : Stmt} {f : Addr} {oc : Value} {od an : Option Addr} {osl : Array (Option Value)} {kV doc pm cdv ct : Value} (l : K.lookup f = some ⟨oc, od, .func (PySem.W.fnOf x qual (defArgs st) (defBody st) (defScope st) .none kV doc pm an cdv ct), osl⟩)
    (c : PySem.W.codeIn K cdv qual = true) (k : PySem.W.keepIn K (.ref f) = true) : Fun K x qual st f (PySem.W.fnOf x qual (defArgs st) (defBody st) (defScope st) .none kV doc pm an cdv ct) := ⟨⟨oc, od, kV, doc, pm, an, cdv, ct, osl, rfl, l, c⟩, k⟩
end
theorem hu_of {A : Around} {k : Nat} (hr : Room k A) : A.units + 1 < cLine := Nat.lt_of_le_of_lt (Nat.add_le_add_left (by decide : 1 ≤ 64) _) hr.units
theorem small1000 {n : Nat} (h : n ≤ 1000) : n < sizeLine := Nat.lt_of_le_of_lt h (by decide)
section
variable {X : Cx}
theorem pv (i : Nat) {x : Str} {pos : Pos} (hN : X.N[i]? = some x := by rfl) (hv : Vis X.env.scope x := by first | exact Or.inl rfl | exact Or.inr (Or.inl rfl) | exact Or.inr (Or.inr rfl)) (hd : (x == ("__debug__" : Str)) = false := by decide)
    (hcd : (x == ("__classdict__" : Str)) = false := by decide) : PE X (.Name x pos) (tVar i) := pe_var hN hv hd hcd
end
theorem iteF {A B : Prop} (h : B) : if false = true then A else B := by
  rw [if_neg Bool.false_ne_true]
  exact h
theorem iteT {A B : Prop} (h : A) : if true = true then A else B := by
  rw [if_pos rfl]
  exact h
theorem ite2 {c A B : Prop} [Decidable c] (h1 : c->A) (h2 : ¬ c->B) : if c then A else B := by
  by_cases h : c
  · rw [if_pos h]
    exact h1 h
  · rw [if_neg h]
    exact h2 h
theorem iteNS {c A B : Prop} [Decidable c] (hc : c) (h : B) : if (!decide c) = true then A else B := by
  rw [decide_eq_true hc]
  exact iteF h
def Same (H H' : Hp) : Prop := ∀ b o, H b = some o->H' b = some o
theorem Same.refl (H : Hp) : Same H H := fun _ _ h => h
theorem Same.trans {H H1 H2 : Hp} (a : Same H H1) (b : Same H1 H2) : Same H H2 := fun c o h => b c o (a c o h)
theorem Same.seq {K : PySem.W.Frag} {H H' : Hp} {a : Addr} {xs : List V} (e : Same H H') (h : SqL K H a xs) : SqL K H' a xs := by
  rcases h with (h | ⟨o, h⟩) | h
  · exact .inl (.inl (e _ _ h))
  · exact .inl (.inr ⟨o, e _ _ h⟩)
  · exact .inr h
end L2
set_option maxHeartbeats 4000000
namespace L2
open PySem PySem.Spec PyProof.Rows
section
variable {κ : Type} [DecidableEq κ]
def valV (kvs : List (κ × V)) (k : κ) : Option V := (kvs.find? fun kv => decide (kv.1 = k)).map (·.2)
def putK (kvs : List (κ × V)) (k : κ) (v : V) : List (κ × V) :=
  if (kvs.any fun kv => decide (kv.1 = k)) = true then kvs.map (fun kv => if kv.1 = k then (kv.1, v) else kv) else kvs ++ [(k, v)]
theorem valV_nil {k : κ} : valV ([] : List (κ × V)) k = none := rfl
theorem valV_pos {p : κ × V} {r : List (κ × V)} {k : κ} (e : p.1 = k) : valV (p :: r) k = some p.2 := by simp [valV, List.find?_cons, e]
theorem valV_neg {p : κ × V} {r : List (κ × V)} {k : κ} (e : ¬ p.1 = k) : valV (p :: r) k = valV r k := by simp [valV, List.find?_cons, e]
theorem valV_any (k : κ) : ∀ kvs : List (κ × V), (kvs.any fun kv => decide (kv.1 = k)) = (valV kvs k).isSome
  | [] => rfl
  | p :: r => by
    rw [List.any_cons]
    by_cases e : p.1 = k
    · simp only [valV_pos e, decide_eq_true e, Bool.true_or, Option.isSome_some]
    · rw [valV_neg e, decide_eq_false e, Bool.false_or]; exact valV_any k r
theorem valV_map (k j : κ) (y : V) : ∀ kvs : List (κ × V), valV (kvs.map fun kv => if kv.1 = k then (kv.1, y) else kv) j = (valV kvs j).map fun x => if j = k then y else x
  | [] => rfl
  | p :: r => by
    have ih := valV_map k j y r
    rw [List.map_cons]
    by_cases h : p.1 = k
    · rw [if_pos h]
      by_cases e : p.1 = j
      · rw [valV_pos (p := (p.1, y)) e, valV_pos e, Option.map_some, if_pos (e.symm.trans h)]
      · rw [valV_neg (p := (p.1, y)) e, valV_neg e, ih]
    · rw [if_neg h]
      by_cases e : p.1 = j
      · rw [valV_pos (p := p) e, valV_pos e, Option.map_some, if_neg (fun z => h (e.trans z))]
      · rw [valV_neg (p := p) e, valV_neg e, ih]
theorem valV_snoc (k j : κ) (y : V) : ∀ kvs : List (κ × V), valV kvs k = none->valV (kvs ++ [(k, y)]) j = if j = k then some y else valV kvs j
  | [], _ => by
    by_cases e : k = j
    · rw [if_pos e.symm]; exact valV_pos (p := (k, y)) e
    · rw [if_neg (fun z => e z.symm)]; exact valV_neg (p := (k, y)) e
  | p :: r, hn => by
    rw [List.cons_append]
    have hk : ¬ p.1 = k := fun z => by rw [valV_pos z] at hn; cases hn
    rw [valV_neg hk] at hn
    have ih := valV_snoc k j y r hn
    by_cases e : p.1 = j
    · rw [valV_pos e, valV_pos e, if_neg (fun z => hk (e.trans z))]
    · rw [valV_neg e, valV_neg e, ih]
theorem valV_put (kvs : List (κ × V)) (k j : κ) (y : V) : valV (putK kvs k y) j = if j = k then some y else valV kvs j := by
  unfold putK
  by_cases a : (kvs.any fun kv => decide (kv.1 = k)) = true
  · rw [if_pos a, valV_map]
    rw [valV_any] at a
    by_cases e : j = k
    · obtain ⟨x, hx⟩ := Option.isSome_iff_exists.mp a
      rw [if_pos e, e, hx, Option.map_some, if_pos rfl]
    · rw [if_neg e]
      cases valV kvs j with
      | none => rfl
      | some x => rw [Option.map_some, if_neg e]
  · rw [if_neg a]
    refine valV_snoc k j y kvs ?_
    rw [valV_any] at a
    cases q : valV kvs k with
    | none => rfl
    | some x => rw [q] at a; exact (a rfl).elim
theorem length_putK (kvs : List (κ × V)) (k : κ) (v : V) : (putK kvs k v).length ≤ kvs.length + 1 := by
  unfold putK
  split
  · rw [List.length_map]; omega
  · rw [List.length_append, List.length_cons, List.length_nil]; omega
theorem RelO.getD {o : Option V} {u : Option Value} {d : V} {d' : Value} (r : RelO o u) (rd : RelV d d') : RelV (o.getD d) (u.getD d') := by
  cases o with
  | none => cases u with
    | none => exact rd
    | some _ => exact (show False from r).elim
  | some _ => cases u with
    | none => exact (show False from r).elim
    | some _ => exact r
theorem KV.val {kvs : List (κ × V)} {vs : List (κ × Value)} (r : KV kvs vs) (k : κ) : RelO (valV kvs k) (valueAt vs k) := by
  unfold KV at r
  induction r with
  | nil => exact True.intro
  | @cons p q ps qs h t ih =>
    obtain ⟨h1, h2⟩ := h
    by_cases e : p.1 = k
    · have e' : q.1 = k := h1.symm.trans e
      have b : valueAt (q :: qs) k = some q.2 := by simp [valueAt, List.find?_cons, e']
      rw [valV_pos e, b]; exact h2
    · have e' : ¬ q.1 = k := fun z => e (h1.trans z)
      have b : valueAt (q :: qs) k = valueAt qs k := by simp [valueAt, List.find?_cons, e']
      rw [valV_neg e, b]; exact ih
theorem KV.any {kvs : List (κ × V)} {vs : List (κ × Value)} (r : KV kvs vs) (k : κ) : (kvs.any fun kv => decide (kv.1 = k)) = vs.any fun kv => decide (kv.1 = k) := by
  unfold KV at r
  induction r with
  | nil => rfl
  | cons h t ih => rw [List.any_cons, List.any_cons, ih, h.1]
theorem KV.repl {kvs : List (κ × V)} {vs : List (κ × Value)} (r : KV kvs vs) (k : κ) {y : V} {u : Value} (ry : RelV y u) :
    KV (kvs.map fun kv => if kv.1 = k then (kv.1, y) else kv) (vs.map fun kv => if kv.1 = k then (kv.1, u) else kv) := by
  unfold KV at r ⊢
  induction r with
  | nil => exact .nil
  | @cons p q ps qs h t ih =>
    rw [List.map_cons, List.map_cons]
    refine .cons ?_ ih
    obtain ⟨h1, h2⟩ := h
    by_cases e : p.1 = k
    · rw [if_pos e, if_pos (h1.symm.trans e)]; exact ⟨h1, ry⟩
    · rw [if_neg e, if_neg (fun z => e (h1.trans z))]; exact ⟨h1, h2⟩
theorem KV.put {kvs : List (κ × V)} {vs : List (κ × Value)} (r : KV kvs vs) (k : κ) {y : V} {u : Value} (ry : RelV y u) : KV (putK kvs k y) (stored vs k u) := by
  unfold putK stored
  rw [r.any k]
  by_cases e : (vs.any fun kv => decide (kv.1 = k)) = true
  · rw [if_pos e, if_pos e]; exact r.repl k ry
  · rw [if_neg e, if_neg e]; exact Paired.snoc r ⟨rfl, ry⟩
end
theorem kV_is {P : Program} {w : World} {k : Key} {u : Value} (r : RelV (kV k) u) : (mixKind P w).is k u = true := by
  cases k with
  | inl i => obtain ⟨t, e⟩ := (show ∃ t, u = Value.int i t from r); subst e; exact mixKind_int P w i t
  | inr x => obtain ⟨t, e⟩ := (show ∃ t, u = Value.str x t from r); subst e; exact mixKind_str P w x t
theorem items_are {P : Program} {w : World} : ∀ {ks : List Key} {us : List Value}, Vals (ks.map kV) us->ItemsAre (mixKind P w) ks us
  | [], _, r => by rw [List.map_nil] at r; cases r; exact .nil
  | k :: ks, _, r => by
    rw [List.map_cons] at r
    cases r with
    | cons h t => exact .cons (kV_is h) (items_are t)
abbrev KT (H : Hp) : List (List Key × V)->List (List Key × Addr × Value)->Prop := Paired fun p q => p.1 = q.1 /\ H q.2.1 = some (.tup (p.1.map kV)) /\ RelV p.2 q.2.2
theorem KT.val {H : Hp} {kvs : List (List Key × V)} {xs : List (List Key × Addr × Value)} (r : KT H kvs xs) (k : List Key) : RelO (valV kvs k) ((atKey xs k).map (·.2)) := by
  induction r with
  | nil => exact True.intro
  | @cons p q ps qs h t ih =>
    obtain ⟨h1, _, h2⟩ := h
    by_cases e : p.1 = k
    · have e' : q.1 = k := h1.symm.trans e
      have b : atKey (q :: qs) k = some q.2 := by simp [atKey, List.find?_cons, e']
      rw [valV_pos e, b]; exact h2
    · have e' : ¬ q.1 = k := fun z => e (h1.trans z)
      have b : atKey (q :: qs) k = atKey qs k := by simp [atKey, List.find?_cons, e']
      rw [valV_neg e, b]; exact ih
section
variable {P : Program} {w : World} {H : Hp} {h : Heap} {a : Addr}
theorem rd_of {u : HO} (ok : HOk P w H h) (e : Rd H a u) : ObjOk P w H h a u := e.ok ok
theorem dk_rd {kvs : List (Key × V)} (ok : HOk P w H h) (e : Rd H a (.dK kvs)) : kvs.length ≤ sizeLine /\ (a == sysModules) = false /\ ∃ vs, KV kvs vs /\ h.DictOf (mixKind P w) a vs :=
  show ObjOk P w H h a (.dK kvs) from rd_of ok e
theorem dk_of {kvs : List (Key × V)} (ok : HOk P w H h) (e : H a = some (.dK kvs)) : kvs.length ≤ sizeLine /\ (a == sysModules) = false /\ ∃ vs, KV kvs vs /\ h.DictOf (mixKind P w) a vs := dk_rd ok (.inl e)
theorem key_of {ks : List Key} (ok : HOk P w H h) (e : H a = some (.tup (ks.map kV))) : (tupleKind (mixKind P w)).is h ks a := by
  obtain ⟨_, its, r, o, h1, h2, n, h3⟩ := (show ObjOk P w H h a (.tup (ks.map kV)) from ok a _ e)
  exact ⟨o, its.toArray, n, h1, h2, h3, by simpa using items_are r⟩
theorem dt_rd {kvs : List (List Key × V)} (ok : HOk P w H h) (e : Rd H a (.dT kvs)) : kvs.length ≤ sizeLine /\ (a == sysModules) = false ∧
    ∃ xs, KT H kvs xs /\ h.DictOfH (tupleKind (mixKind P w)) a xs := by
  obtain ⟨z, y, xs, r, o, es, ep, h1, h2, h3, h4, h5⟩ := (show ObjOk P w H h a (.dT kvs) from rd_of ok e)
  refine ⟨z, y, xs, r, o, es, ep, h1, h2, h3, h4, fun x hx => ?_, h5⟩
  have all : ∀ {l : List (List Key × V)} {m : List (List Key × Addr × Value)}, KT H l m->∀ x ∈ m, (tupleKind (mixKind P w)).is h x.1 x.2.1 := by
    intro l m q
    induction q with
    | nil => intro x hx; exact nomatch hx
    | @cons p q ps qs hq t ih =>
      intro x hx
      rcases List.mem_cons.mp hx with e | hx
      · subst e
        exact key_of ok (by rw [← hq.1]; exact hq.2.1)
      · exact ih x hx
  exact all r x hx
end
def DGet (H : Hp) (a : Addr) (y : V) (r : Option V) : Prop :=
  (∃ kvs k, Rd H a (.dK kvs) /\ y = kV k /\ r = valV kvs k) ∨ ∃ kvs k b, Rd H a (.dT kvs) /\ y = .ref b /\ H b = some (.tup (k.map kV)) /\ r = valV kvs k
theorem DGet.k {H : Hp} {a : Addr} {kvs : List (Key × V)} {k : Key} (e : H a = some (.dK kvs)) : DGet H a (kV k) (valV kvs k) := .inl ⟨kvs, k, .inl e, rfl, rfl⟩
section
variable {X : Cx} {pins : List (Addr × Obj)} {σ : St} {H : Hp} {s : Shared} {a : Addr} {y v : V} {u r : Value} {o : Option V} {A : Around} {E : Value->Shared->Prop}
theorem Inv.big (I : Inv X pins σ H s) : sysModules < s.heap.objs.size := by
  have h : mainGlobals < s.heap.objs.size := (I.mod.glob.keeps I.bk).lt
  exact Nat.lt_trans (by decide) h
theorem d_write {h' : Heap} {t' : Nat} {ob : HO} (I : Inv X pins σ H s) (mu : Mut (H a)) (hs : Heap.SameBut a s.heap h') (he : ∃ q, h'.get? a = some q) (new : ObjOk X.prog X.w (upd H a ob) h' a ob) :
    Inv X pins σ (upd H a ob) { s with heap := h', toks := t' } :=
  I.write (x := a) (e := a) mu (.inl rfl) (fun b q hb z => (hs.2 b hb).trans z) he new
theorem dk_new {P : Program} {w : World} {H' : Hp} {h' : Heap} {kvs : List (Key × V)} {vs : List (Key × Value)} (z : kvs.length ≤ sizeLine) (hd : (a == sysModules) = false) (rel : KV kvs vs) (dd : h'.DictOf (mixKind P w) a vs) :
    ObjOk P w H' h' a (.dK kvs) := ⟨z, hd, vs, rel, dd⟩
end
theorem dk_empty {P : Program} {w : World} {H : Hp} (h : Heap) (hb : sysModules < h.objs.size) : ObjOk P w H (h.push { cls := .type "dict", data := .dict #[] }) h.objs.size (.dK []) :=
  ⟨Nat.zero_le _, beq_eq_false_iff_ne.mpr (Ne.symm (Nat.ne_of_lt hb)), [], .nil, Heap.DictOf.new h⟩
def tPairs : List (TE × TE)->St->Hp->(List (V × V)->Hp->Prop)->Prop
  | [], _, H, Q => Q [] H
  | (tk, tv) :: r, σ, H, Q => tk σ H fun x H1 => tv σ H1 fun y H2 => tPairs r σ H2 fun ps H3 => Q ((x, y) :: ps) H3
abbrev VV : List (V × V)->List (Value × Value)->Prop := Paired fun p q => RelV p.1 q.1 /\ RelV p.2 q.2
def PPs (X : Cx) (pos : Pos) (keys : List (Option Expr)) (values : List Expr) (trs : List (TE × TE)) : Prop :=
  ∀ (pins : List (Addr × Obj)) (s : Shared) (σ : St) (H : Hp) (Q : List (V × V)->Hp->Prop), Inv X pins σ H s->tPairs trs σ H Q →
    wpAny (model X.prog X.w) X.A (evalPairs (pairTrees keys values X.env pos)) (fun vs s' => ∃ ps H', Inv X pins σ H' s' /\ VV ps vs /\ Q ps H') X.xe s
theorem pps_nil {X : Cx} {pos : Pos} : PPs X pos [] [] [] := fun pins s σ H Q I h => pairTrees_nil_walk ⟨[], H, I, .nil, h⟩
theorem pps_cons {X : Cx} {pos : Pos} {k v : Expr} {ks : List (Option Expr)} {vs : List Expr} {tk tv : TE} {trs : List (TE × TE)} (hk : PE X k tk) (hv : PE X v tv) (hr : PPs X pos ks vs trs) :
    PPs X pos (some k :: ks) (v :: vs) ((tk, tv) :: trs) := fun pins s σ H Q I h =>
  pairTrees_cons_walk (thn (hk pins s σ H _ I h) fun u s1 ⟨x, H1, I1, rx, q1⟩ => thn (hv pins s1 σ H1 _ I1 q1) fun w2 s2 ⟨y, H2, I2, ry, q2⟩ =>
    thn (hr pins s2 σ H2 _ I2 q2) fun ws s3 ⟨ps, H3, I3, rel, q3⟩ => ⟨(x, y) :: ps, H3, I3, .cons ⟨rx, ry⟩ rel, q3⟩)
def mergeK (kvs more : List (Key × V)) : List (Key × V) := more.foldl (fun acc kv => putK acc kv.1 kv.2) kvs
theorem KV.merge : ∀ {more : List (Key × V)} {rs : List (Key × Value)} {kvs : List (Key × V)} {vs : List (Key × Value)}, KV more rs->KV kvs vs->KV (mergeK kvs more) (merged vs rs) := by
  intro more rs kvs vs r
  unfold KV at r
  induction r generalizing kvs vs with
  | nil => intro q; exact q
  | @cons p q ps qs h t ih =>
    intro r0
    have e : KV (putK kvs p.1 p.2) (stored vs q.1 q.2) := by
      have := r0.put p.1 h.2
      rw [← h.1]; exact this
    exact ih e
theorem length_mergeK : ∀ (more kvs : List (Key × V)), (mergeK kvs more).length ≤ kvs.length + more.length
  | [], kvs => by show kvs.length ≤ kvs.length + 0; omega
  | p :: r, kvs => by
    have h1 := length_mergeK r (putK kvs p.1 p.2)
    have h2 := length_putK kvs p.1 p.2
    show (mergeK (putK kvs p.1 p.2) r).length ≤ _
    rw [List.length_cons]; omega
theorem carries_of {P : Program} {w : World} : ∀ {kvs : List (Key × V)} {ws : List (Value × Value)}, VV (kvs.map fun kv => (kV kv.1, kv.2)) ws->∃ rs, Carries (mixKind P w) ws rs /\ KV kvs rs
  | [], _, r => by rw [List.map_nil] at r; cases r; exact ⟨[], True.intro, .nil⟩
  | p :: kvs, _, r => by
    rw [List.map_cons] at r
    cases r with
    | @cons a b as bs h t =>
      obtain ⟨rs, c, q⟩ := carries_of (P := P) (w := w) t
      obtain ⟨b1, b2⟩ := b
      exact ⟨(p.1, b2) :: rs, ⟨kV_is h.1, rfl, c⟩, .cons ⟨rfl, h.2⟩ q⟩
def tDisp (trs : List (TE × TE)) : TE := fun σ H Q => ∀ p, H p = none->tPairs trs σ (upd H p (.dK [])) fun ps H2 => H2 p = some (.dK []) /\ ∃ kvs : List (Key × V), ps = kvs.map (fun kv => (kV kv.1, kv.2)) /\ kvs.length ≤ 15 /\ Q (.ref p) (upd H2 p (.dK (mergeK [] kvs)))
theorem pe_disp {X : Cx} {pos : Pos} {keys : List (Option Expr)} {values : List Expr} {trs : List (TE × TE)} (h : PPs X pos keys values trs) (hall : keys.all (·.isSome) = true) (hl : keys.length = values.length) (h0 : keys ≠ [])
    (h15 : keys.length ≤ 15) : PE X (.Dict keys values pos) (tDisp trs) := by
  intro pins s σ H Q I q
  have hn := I.hok.fresh (Nat.le_refl s.heap.objs.size)
  have I1 := I.laid (a := s.heap.objs.size) (o := .dK []) (h' := s.heap.push { cls := .type "dict", data := .dict #[] }) (t' := s.toks) (fun _ _ q => Heap.get?_push_of_some _ q) (Nat.le_refl _) (dk_empty s.heap I.big)
  refine wpAny_Dict_walk (knd := mixKind X.prog X.w) hall hl h0 h15 (thn (h pins _ σ _ _ I1 (q _ hn)) fun ws s2 ⟨ps, H2, I2, rel, e, kvs, ep, lk, q2⟩ => ?_)
  subst ep
  obtain ⟨rs, c, rk⟩ := carries_of (P := X.prog) (w := X.w) rel
  obtain ⟨z, hd, vs0, r0, dd⟩ := dk_of I2.hok e
  cases r0
  refine ⟨rs, c, dd, fun h' dd' hs => ⟨.ref s.heap.objs.size, _, ?_, rfl, q2⟩⟩
  have hz : (mergeK [] kvs).length ≤ sizeLine := by
    have h1 := length_mergeK kvs []
    rw [List.length_nil] at h1
    rw [sizeLine_eq]; omega
  have he : ∃ q, h'.get? s.heap.objs.size = some q := let ⟨q, _, _, hq, _⟩ := dd'; ⟨q, hq⟩
  exact d_write I2 (by rw [e]; exact True.intro) hs he (dk_new hz hd (rk.merge .nil) dd')
structure M2 (X : Cx) (o : Expr) (m : Str) (apos : Pos) (e f : Expr) (cpos : Pos) : Prop where
  base : attributeBase o m X.env (eval o X.env) = eval o X.env
  few : ((backTo cpos (starEach [e, f] X.env)).all (fun x => !x.1) && (backToKw cpos (keywordEach [] X.env)).all (fun x => x.1.isSome)
    && decide (([e, f] : List Expr).length + ([] : List Keyword).length + (if ([] : List Keyword).isEmpty then 0 else 1) < 30)) = true
  line : (apos.endLine == cpos.line) = true
  trees : backTo cpos (starEach [e, f] X.env) = [(false, eval e X.env), (false, eval f X.env)]
def IsD (H : Hp) (a : Addr) : Prop := (∃ kvs, Rd H a (.dK kvs)) ∨ ∃ kvs, Rd H a (.dT kvs)
theorem isD_at {X : Cx} {pins : List (Addr × Obj)} {σ : St} {H : Hp} {s : Shared} {a : Addr} (I : Inv X pins σ H s) (d : IsD H a) :
    s.TypeIs (.ref a) "dict" /\ (∀ b, Value.ref a = .ref b->∃ ob, s.heap.get? b = some ob /\ ob.dict = none) /\ (a == sysModules) = false := by
  rcases d with ⟨kvs, e⟩ | ⟨kvs, e⟩
  · obtain ⟨_, hd, vs, _, dd⟩ := dk_rd I.hok e
    refine ⟨dd.typeIs, fun b q => ?_, hd⟩
    cases q
    obtain ⟨ob, _, _, h1, h2, _⟩ := dd
    exact ⟨ob, h1, h2.2.1⟩
  · obtain ⟨_, hd, xs, _, dd⟩ := dt_rd I.hok e
    refine ⟨dd.typeIs, fun b q => ?_, hd⟩
    cases q
    obtain ⟨ob, _, _, h1, h2, _⟩ := dd
    exact ⟨ob, h1, h2.2.1⟩
section
variable {X : Cx} {pins : List (Addr × Obj)} {σ : St} {H : Hp} {s : Shared} {a : Addr} {y d : V} {u r : Value} {o : Option V} {A : Around} {E : Value->Shared->Prop}
theorem d_get2 {Q : Value->Shared->Prop} (hu : A.units + 1 < cLine) (I : Inv X pins σ H s) (g : DGet H a y o) (ry : RelV y u) (rd : RelV d r) (h : ∀ w' s', Inv X pins σ H s'->RelV (o.getD d) w'->Q w' s') :
    wpAny (model X.prog X.w) A (call (.builtin "dict.get") [.ref a, u, r]) Q E s := by
  rcases g with ⟨kvs, k, e, ey, l⟩ | ⟨kvs, k, b, e, ey, eb, l⟩
  · subst ey
    obtain ⟨z, hd, vs, rel, dd⟩ := dk_rd I.hok e
    refine call_meetsIn PySem.F.slot_dict_get dd.typeIs PySem.F.entry_dict_get (PySem.F.args_dict_get_3 _ _ _) (meets_dict_get_default (mixKind X.prog X.w) a (kV_is ry) hd r) ⟨_, dd.mapOf, h _ _ (I.tok _) ?_⟩
    rw [l]
    exact (rel.val k).getD rd
  · subst ey
    cases (show u = Value.ref b from ry)
    obtain ⟨z, hd, xs, rel, dd⟩ := dt_rd I.hok e
    refine call_meetsIn PySem.F.slot_dict_get dd.typeIs PySem.F.entry_dict_get (PySem.F.args_dict_get_3 _ _ _) (meetsH_dict_get_default (tupleKind (mixKind X.prog X.w)) a b hd r) ⟨tupleKind_room_in1 hu, k, xs, key_of I.hok eb, dd, h _ _ (I.tok _) ?_⟩
    rw [l]
    exact (rel.val k).getD rd
end
def tDGet2 (td ty tx : TE) : TE := fun σ H Q => td σ H fun x H1 => ∃ a, x = .ref a /\ IsD H1 a /\ ty σ H1 fun y H2 => tx σ H2 fun z H3 => ∃ o, DGet H3 a y o /\ Q (o.getD z) H3
section
variable {X : Cx} {o e f : Expr} {apos cpos : Pos} {td ty tx : TE}
theorem pe_dget2 (hu : X.A.units + 1 < cLine) (ho : PE X o td) (he : PE X e ty) (hf : PE X f tx) (m : M2 X o "get" apos e f cpos) : PE X (.Call (.Attribute o "get" apos) [e, f] [] cpos) (tDGet2 td ty tx) := by
  intro pins s σ H Q I h
  refine wpAny_Call_method m.base m.few m.line PySem.F.plainAttrs_dict PySem.F.slot_dict_get PySem.F.type_dict_get (thn (ho pins s σ H _ I h) fun u s1 ⟨x, H1, I1, rx, a, ex, d, q1⟩ => ?_)
  subst ex
  obtain rfl : u = Value.ref a := rx
  obtain ⟨t1, t2, _⟩ := isD_at I1 d
  refine ⟨t1, t2, ?_⟩
  rw [m.trees]
  refine Calls.callWith_builtin rfl (Calls.evalArgs_plain (Calls.spliced_cons (thn (he pins s1 σ H1 _ I1 q1) fun iv s2 ⟨y, H2, I2, ry, q2⟩ =>
    Calls.spliced_cons (thn (hf pins s2 σ H2 _ I2 q2) fun fv s3 ⟨z, H3, I3, rz, ov, g, q3⟩ => Calls.spliced_nil ?_))))
  exact d_get2 hu I3 g ry rz fun w' s4 I4 rw' => ⟨_, H3, I4, rw', q3⟩
end
end L2
namespace Chk
def T (n : Nat) : Nat := n * 128 % 2 ^ 64 + n / 2 ^ 57
def D (n : Nat) : Nat := if n * 2 ≥ 2 ^ 64 then n * 2 - 2 ^ 64 + 1 else n * 2
end Chk
namespace L2
open PySem PySem.Spec PyProof.Rows
section
variable {X : Cx}
theorem pe_powc {a b n : Int} {j1 j2 p1 p2 pos} (h : 0 ≤ b /\ b ≤ 1000000 /\ a.natAbs < 2 ^ 64 := by decide) (e : a ^ b.toNat = n := by first | rfl | decide +kernel) :
    PE X (.BinOp (.Constant (.int a) j1 p1) .Pow (.Constant (.int b) j2 p2) pos) (tC (.int n)) := fun pins s σ H Q I hw =>
  pe_op op_pow pe_int pe_int pins s σ H Q I ⟨_, _, rfl, rfl, h, by subst e; exact hw⟩
def clsV : V->Option Value
  | .ty n => some (.type n)
  | .ref a => some (.ref a)
  | _ => none
theorem call_isinst : CallR X (.builtin "isinstance") (fun xs H Q => ∃ x c cv t b, xs = [x, c] /\ clsV c = some cv /\ TyOf X.K H x t /\ PySem.W.kitOne X.K t cv = some b /\ Q (.bl b) H) := by
  rintro pins s σ H xs us Q I r ⟨x, c, cv, t, b, rfl, hc, ty, e, q⟩
  obtain ⟨u, v, rfl, ru, rv⟩ := vals2 r
  have hv : v = cv := by
    cases c <;> simp [clsV] at hc <;> subst hc <;> exact rv
  subst hv
  exact isinst_ok I ru ty e fun tk => ⟨.bl b, H, I.tok tk, rfl, q⟩
end
theorem iteY {c A B : Prop} [Decidable c] (hc : c) (h : A) : if decide c = true then A else B := by
  rw [if_pos (decide_eq_true hc)]; exact h
theorem iteN {c A B : Prop} [Decidable c] (hc : ¬ c) (h : B) : if decide c = true then A else B := by
  rw [if_neg (by rw [decide_eq_false hc]; decide)]; exact h
open PySem
def clos (cells : List (Str × Addr)) : List (Str × NameKind)->List (Str × Addr)->List (Str × Addr)
  | [], acc => acc
  | (n, k) :: r, acc => clos cells r (if k == .free then (n, (cells.lookup n).getD 0) :: acc else acc)
theorem clos_loop {env : Env} : ∀ (l : List (Str × NameKind)) (acc : List (Str × Addr)), (∀ y ∈ l, y.2 = .free->∃ c, env.cells.lookup y.1 = some c) →
    (forIn l acc fun (x : Str × NameKind) (cs : List (Str × Addr)) => if (x.2 == NameKind.free) = true then do let a ← cellOf env x.1; pure (ForInStep.yield ((x.1, a) :: cs)) else pure (ForInStep.yield cs) : Sem (List (Str × Addr))) = pure (clos env.cells l acc)
  | [], acc, _ => by simp only [List.forIn_nil]; rfl
  | (n, k) :: r, acc, h => by
    simp only [List.forIn_cons]
    cases hk : (k == NameKind.free) with
    | false =>
      simp only [Bool.false_eq_true, if_false]
      have ih := clos_loop (env := env) r acc fun y hy => h y (List.mem_cons_of_mem _ hy)
      simp only [pure_bind, ih, clos, hk, Bool.false_eq_true, if_false]
    | true =>
      obtain ⟨c, hc⟩ := h (n, k) List.mem_cons_self (by simpa using hk)
      have e : cellOf env n = pure c := by
        unfold cellOf; rw [show env.cells.lookup n = some c from hc]
      simp only [if_true, e, pure_bind]
      have ih := clos_loop (env := env) r ((n, c) :: acc) fun y hy => h y (List.mem_cons_of_mem _ hy)
      rw [ih]
      simp only [clos, hk, if_true]
      rw [show env.cells.lookup n = some c from hc]; rfl
theorem closureFor_eq {scope : Scope} {env : Env} (h : ∀ y ∈ scope.names, y.2 = .free->∃ c, env.cells.lookup y.1 = some c) : closureFor scope env = pure (clos env.cells scope.names []) := by
  have := clos_loop (env := env) scope.names [] h
  unfold closureFor
  simp only [bind_pure]
  exact this
theorem clos_sub {cells : List (Str × Addr)} : ∀ {names : List (Str × NameKind)} {acc : List (Str × Addr)}, (∀ y ∈ names, y.2 = .free->∃ c, cells.lookup y.1 = some c)->(∀ x c, acc.lookup x = some c->cells.lookup x = some c) →
    ∀ x c, (clos cells names acc).lookup x = some c->cells.lookup x = some c
  | [], _, _, ha, x, c, h => ha x c h
  | (n, k) :: r, acc, hn, ha, x, c, h => by
    refine clos_sub (names := r) (fun y hy => hn y (List.mem_cons_of_mem _ hy)) ?_ x c h
    intro x c h
    split at h
    · rename_i hk
      obtain ⟨d, hd⟩ := hn (n, k) List.mem_cons_self (by simpa using hk)
      rw [show cells.lookup n = some d from hd, List.lookup_cons] at h
      split at h
      · rename_i e
        rw [eq_of_beq e, show cells.lookup n = some d from hd]; exact h
      · exact ha x c h
    · exact ha x c h
theorem clos_has {cells : List (Str × Addr)} : ∀ {names : List (Str × NameKind)} {acc : List (Str × Addr)} {x : Str}, ((x, NameKind.free) ∈ names ∨ ∃ c, acc.lookup x = some c)->∃ c, (clos cells names acc).lookup x = some c
  | [], acc, x, h => by
    rcases h with h | h
    · cases h
    · exact h
  | (n, k) :: r, acc, x, h => by
    refine clos_has (names := r) ?_
    rcases h with h | ⟨c, h⟩
    · rcases List.mem_cons.mp h with h | h
      · injection h with h1 h2
        subst h1; subst h2
        exact .inr ⟨(cells.lookup x).getD 0, by simp [List.lookup_cons]⟩
      · exact .inl h
    · right
      split
      · rw [List.lookup_cons]
        split
        · exact ⟨_, rfl⟩
        · exact ⟨c, h⟩
      · exact ⟨c, h⟩
theorem mem_of_lookup {α : Type} {x : Str} {a : α} : ∀ {l : List (Str × α)}, l.lookup x = some a->(x, a) ∈ l
  | [], h => by simp at h
  | (n, k) :: r, h => by
    rw [List.lookup_cons] at h
    split at h
    · rename_i e
      injection h with h
      rw [eq_of_beq e, h]; exact List.mem_cons_self
    · exact List.mem_cons_of_mem _ (mem_of_lookup h)
theorem lookup_relabel {env : Env} {x : Str} : ∀ (names : List (Str × NameKind)),
    (names.map fun (n, k) => if (k == NameKind.free && env.scope.kind == .function && env.kindOf n == some .cell) then (n, NameKind.cell) else (n, k)).lookup x =
      (names.lookup x).map fun k => if (k == NameKind.free && env.scope.kind == .function && env.kindOf x == some .cell) then NameKind.cell else k
  | [] => rfl
  | (n, k) :: r => by
    have ih := lookup_relabel (env := env) (x := x) r
    simp only [List.map_cons]
    by_cases e : x = n
    · subst e
      split <;> rename_i hc
      · simp only [List.lookup_cons, beq_self_eq_true, Option.map_some, hc, if_true]
      · simp only [List.lookup_cons, beq_self_eq_true, Option.map_some]
        rw [if_neg hc]
    · have e' : (x == n) = false := by simpa using e
      split <;> simp only [List.lookup_cons, e'] <;> exact ih
open PySem PySem.Spec PyProof.Rows
theorem anelt {a b n : Nat} (h1 : a < n) (h2 : n ≤ b) : a ≠ b := by omega
def Cx.comp (X : Cx) (scope : Scope) (N : List Str) (C : Addr) (s₀ : Shared) (H₀ : Hp) (ex : List Addr) : Cx :=
  { X with N := N, s₀ := s₀, H₀ := H₀, env := compEnvC scope (clos X.env.cells scope.names []) C X.env, outer := X.stack, stack := X.stack, ex := ex, fn := fun _ => false, pn := [] }
def st0 (k : Nat) (cap : List Nat) (σ : St) : St := List.replicate k none ++ cap.map fun j => (σ[j]?).getD none
def compOk (XN : List Str) (fs sc : Scope) (N : List Str) (k : Nat) (cap : List Nat) : Bool :=
  decide (sc.kind = .function) && sc.names.all (fun y => decide (y.2 ≠ .cell)) && sc.names.all (fun y => decide (y.2 ≠ .local) || decide (sc.names.lookup y.1 = some .local)) &&
  sc.names.all (fun y => decide (y.2 ≠ .free) || decide (fs.names.lookup y.1 = some .cell)) && decide (N.length = k + cap.length) &&
  (cap.zip (N.drop k)).all (fun p => decide (XN[p.1]? = some p.2) && decide (sc.names.lookup p.2 = some .free))
structure CompOk (XN : List Str) (fs sc : Scope) (N : List Str) (k : Nat) (cap : List Nat) : Prop where
  kind : sc.kind = .function
  nocell : ∀ y ∈ sc.names, y.2 ≠ .cell
  locs : ∀ y ∈ sc.names, y.2 = .local->sc.names.lookup y.1 = some .local
  frees : ∀ y ∈ sc.names, y.2 = .free->fs.names.lookup y.1 = some .cell
  len : N.length = k + cap.length
  caps : ∀ p ∈ cap.zip (N.drop k), XN[p.1]? = some p.2 /\ sc.names.lookup p.2 = some .free
theorem CompOk.of {XN : List Str} {fs sc : Scope} {N : List Str} {k : Nat} {cap : List Nat} (h : compOk XN fs sc N k cap = true) : CompOk XN fs sc N k cap := by
  unfold compOk at h
  simp only [Bool.and_eq_true, List.all_eq_true, decide_eq_true_eq, Bool.or_eq_true] at h
  obtain ⟨⟨⟨⟨⟨h1, h2⟩, h3⟩, h4⟩, h5⟩, h6⟩ := h
  exact ⟨h1, h2, fun y hy e => (h3 y hy).resolve_left fun z => z e, fun y hy e => (h4 y hy).resolve_left fun z => z e, h5, h6⟩
section
variable {X : Cx} {pins : List (Addr × Obj)} {σ : St} {H : Hp} {s : Shared} {scope : Scope} {N : List Str} {k : Nat} {cap : List Nat} {fp : List Addr}
theorem Cx.comp_kind {x : Str} {C : Addr} {s₀ : Shared} {H₀ : Hp} {ex : List Addr} (hk : X.env.scope.kind = .function) :
    (X.comp scope N C s₀ H₀ ex).env.kindOf x = (scope.names.lookup x).map fun k => if (k == NameKind.free && X.env.kindOf x == some .cell) then NameKind.cell else k := by
  show (relabel scope X.env).names.lookup x = _
  unfold relabel
  rw [lookup_relabel]
  congr 1
  funext k
  rw [hk]; simp
theorem Inv.freeCells (I : Inv X pins σ H s) (c : CompOk X.N X.env.scope scope N k cap) : ∀ y ∈ scope.names, y.2 = .free->∃ d, X.env.cells.lookup y.1 = some d :=
  fun y hy e => I.ok.has y.1 (.inl (c.frees y hy e))
theorem Inv.block (I : Inv X pins σ H s) (c : CompOk X.N X.env.scope scope N k cap) (hf : ∀ b ∈ fp, FpOk X pins H b) (ho : ∀ b ∈ fp, ∃ o, s.heap.get? b = some o) {D C : Addr} {s1 : Shared}
    (hD : s.heap.objs.size ≤ D) (hC : s.heap.objs.size ≤ C) (hDC : D ≠ C) (hos : s1.os = s.os) (hg : s1.gens = s.gens) (keep : ∀ b o, s.heap.get? b = some o->s1.heap.get? b = some o)
    (hl : s1.heap.get? D = some { cls := .type "list", data := .seq #[] }) (hn : s1.heap.Ns C fun _ => none) :
    Inv (X.comp scope N C s H fp) [] (st0 k cap σ) (upd H D (.lst [])) s1 := by
  have hfc := I.freeCells c
  have lt : ∀ b ∈ fp, b < s.heap.objs.size := fun b hb => let ⟨o, e⟩ := ho b hb; Heap.lt_size e
  have clt : ∀ x d, X.env.cells.lookup x = some d->d < s.heap.objs.size := fun x d e => let ⟨v, o, q, _⟩ := I.cell x d e; Heap.lt_size q
  have sub := clos_sub (cells := X.env.cells) (names := scope.names) (acc := []) hfc (fun x c h => by simp at h)
  have fresh : ∀ a, s.heap.objs.size ≤ a->H a = none := fun a h => I.hok.fresh h
  have kindf : ∀ x, ((X.comp scope N C s H fp).env.kindOf x = some .cell ∨ (X.comp scope N C s H fp).env.kindOf x = some .free)->(x, NameKind.free) ∈ scope.names := fun x h => by
    rw [Cx.comp_kind I.ok.kind] at h
    cases e : scope.names.lookup x with
    | none => rw [e] at h; simp at h
    | some kd =>
      have m := mem_of_lookup e
      rw [e] at h
      cases kd with
      | free => exact m
      | cell => exact absurd rfl (c.nocell _ m)
      | «local» => simp at h
      | globalExplicit => simp at h
      | globalImplicit => simp at h
  have ok : (X.comp scope N C s H fp).Ok :=
    { mod := I.ok.mod
      kind := c.kind
      glob := I.ok.glob
      blt := I.ok.blt
      above := hC
      inj := fun x y d hx hy => I.ok.inj x y d (sub x d hx) (sub y d hy)
      has := fun x h => clos_has (.inl (kindf x h))
      cab := fun x d h => by cases h
      hd := I.ok.hd
      frames := I.ok.frames
      stk := .inl rfl
      exf := fun b hb => ⟨fun z => anelt (lt b hb) hC z, fun x d hx => (hf b hb).2.2.2.2.1 x d (sub x d hx)⟩
      bs := I.bs
      bsz := Nat.le_trans I.ok.bsz I.sz
      noex := fun b o e hb => by
        rcases (hf b hb).2.2.2.1 with h | h
        · exact I.ok.noex b o e h
        · exact absurd (Heap.lt_size (I.ok.bs b o e).1) (Nat.not_lt.mpr h)
      exfs := fun b hb hm => by
        rcases List.mem_cons.mp (I.stkSub b hm) with h | h
        · exact (hf b hb).2.1 h
        · exact (hf b hb).2.2.1 h
      funs := I.stack
      frf := I.stkFree }
  have nD : H D = none := fresh D hD
  refine
    { ok := ok
      os := hos
      bare := by rw [hg]; exact I.bare
      base := Un.laid keep hD nD
      loc := ⟨_, hn, ?_⟩
      cell := fun x d h => let ⟨v, q⟩ := I.cell x d (sub x d h); ⟨v, q.keeps keep⟩
      free := by
        show upd H D _ C = none
        rw [upd_ne (Ne.symm hDC)]; exact fresh C hC
      freeC := fun x d h => by
        have h' := sub x d h
        rw [upd_ne (anelt (clt x d h') hD)]; exact I.freeC x d h'
      pin := fun p hp => by cases hp
      hok := I.hok.laid keep hD ⟨Nat.zero_le _, [], 0, .nil, hl⟩
      len := by
        show (st0 k cap σ).length = N.length
        unfold st0; rw [List.length_append, List.length_replicate, List.length_map, c.len] }
  intro i x v hi hv _
  have hi : N[i]? = some x := hi
  unfold st0 at hv
  by_cases hik : i < k
  · rw [List.getElem?_append_left (by rw [List.length_replicate]; exact hik), List.getElem?_replicate, if_pos hik] at hv
    cases hv
  · rw [List.getElem?_append_right (by rw [List.length_replicate]; omega), List.length_replicate, List.getElem?_map] at hv
    cases ej : cap[i - k]? with
    | none => rw [ej] at hv; cases hv
    | some j =>
      rw [ej] at hv
      have hv : (σ[j]?).getD none = some v := Option.some.inj hv
      have hσ : σ[j]? = some (some v) := by
        cases e : σ[j]? with
        | none => rw [e] at hv; cases hv
        | some z => rw [e] at hv; exact congrArg some hv
      have hm : (j, x) ∈ cap.zip (N.drop k) := by
        refine List.mem_iff_getElem?.mpr ⟨i - k, ?_⟩
        rw [List.getElem?_zip_eq_some]
        refine ⟨ej, ?_⟩
        rw [List.getElem?_drop, show k + (i - k) = i by omega]; exact hi
      obtain ⟨hX, hfree⟩ := c.caps _ hm
      have mf := mem_of_lookup hfree
      have hcell := c.frees _ mf rfl
      obtain ⟨m, _, q⟩ := I.loc
      obtain ⟨u, ru, lk⟩ := q j x v hX hσ (.inr (.inl hcell))
      refine ⟨u, ru, .inr ⟨.inl ?_, ?_⟩⟩
      · rw [Cx.comp_kind I.ok.kind, hfree]
        have : (X.env.kindOf x == some NameKind.cell) = true := by
          show (X.env.scope.names.lookup x == some NameKind.cell) = true
          rw [hcell]; rfl
        simp [this]
      · rcases lk with ⟨hloc, _⟩ | ⟨_, d, hd, hcv⟩
        · have hloc : X.env.scope.names.lookup x = some .local := hloc
          rw [hcell] at hloc; cases hloc
        · obtain ⟨d', hd'⟩ := clos_has (cells := X.env.cells) (acc := []) (.inl mf : (x, NameKind.free) ∈ scope.names ∨ _)
          have := sub x d' hd'
          rw [hd] at this; cases this
          exact ⟨d, hd', hcv.keeps keep⟩
theorem Inv.unblock {H' : Hp} {σ' : St} {s1 : Shared} {C : Addr} {ps : List (Addr × Obj)} (I : Inv X pins σ H s) (hf : ∀ b ∈ fp, FpOk X pins H b) (J : Inv (X.comp scope N C s H fp) ps σ' H' s1) : Inv X pins σ H' s1 :=
  I.call' (ch := fp) J.os J.base J.hok J.bare fun b hb => ⟨(hf b hb).2.2.2.1, (hf b hb).2.1, (hf b hb).2.2.2.2.1, (hf b hb).2.2.2.2.2⟩
end
def tComp (k : Nat) (cap : List Nat) (wi : TI) (g : TG) (tt : TT) (te : TE) : TE := fun σ H Q => wi σ H fun J H1 => ∀ D, H1 D = none->∃ W : Nat->Nat->St->Hp->List V->Prop,
  (∃ m, W 0 m (st0 k cap σ) (upd H1 D (.lst [])) []) /\ ∀ i m σ' H' ys, W i m σ' H' ys->(J.stop i H' /\ Q (.ref D) H') ∨
    (J.go i H' /\ ∃ N : St->Hp->List V->Prop, (∀ σ' H' ys', N σ' H' ys'->∃ m', m' < m /\ W (i + 1) m' σ' H' ys') /\ ∀ x H2, J.yld i H' x H2->g x σ' H2 fun σ3 H3 => tt σ3 H3 fun b H4 => if b = true then
      te σ3 H4 fun y H5 => H5 D = some (.lst ys) /\ ys.length < sizeLine /\ N σ3 (upd H5 D (.lst (ys ++ [y]))) (ys ++ [y])
      else N σ3 H4 ys)
def tYes : TT := fun _ H Q => Q true H
def PTs (X : Cx) (ifs : List Expr) (t : TT) : Prop :=
  ∀ (pins : List (Addr × Obj)) (s : Shared) (σ : St) (H : Hp) (Q : Bool->Hp->Prop), Inv X pins σ H s->t σ H Q →
    wpAny (model X.prog X.w) X.A (forIn ifs true fun c r => if r = true then do let ok ← isTrue c X.env (eval c X.env); pure (ForInStep.yield ok) else pure (ForInStep.yield r)) (TP X pins σ Q) X.xe s
theorem pts_nil {X : Cx} : PTs X [] tYes := fun _ _ _ H _ I h => wpAny_tests_nil ⟨H, I, h⟩
section
variable {prog : Program} {w : World} {A : Around} {R : Result->Shared->Prop} {s : Shared}
theorem codeAny_compLoop_go {elt target iter : Expr} {ifs : List Expr} {scope : Scope} {pos : Pos} {it acc : Value} {env : Env} (I : Nat->Shared->Prop)
    (turn : ∀ n s, I n s->wpAny (model prog w) A (pyNext it) (fun r s₁ => match r with
      | none => R (.ok .next) s₁
      | some v => wpAny (model prog w) A (letOwnedTupleGo target it v) (fun _ s₀ => wpAny (model prog w) A (assign target env v) (fun _ s₂ =>
          wpAny (model prog w) A (forIn ifs true fun c r => if r = true then do let ok ← isTrue c env (eval c env); pure (ForInStep.yield ok) else pure (ForInStep.yield r)) (fun ok s₃ =>
            if ok = true then wpAny (model prog w) A (eval elt env) (fun x s₄ =>
              wpAny (model prog w) A (call (.builtin "list.append") [acc, x]) (fun _ s₅ => ∃ m, m < n /\ I m s₅) (notedBy (model prog w) A env fun e s' => R (.error e) s') s₄) (notedBy (model prog w) A env fun e s' => R (.error e) s') s₃
            else ∃ m, m < n /\ I m s₃) (notedBy (model prog w) A env fun e s' => R (.error e) s') s₂) (notedBy (model prog w) A env fun e s' => R (.error e) s') s₀) (notedBy (model prog w) A env fun e s' => R (.error e) s') s₁) (notedBy (model prog w) A env fun e s' => R (.error e) s') s)
    (n : Nat) (h : I n s) :
    codeAny (model prog w) A (.compLoop (.ListComp elt [⟨target, iter, ifs, 0⟩] scope pos) 0 it acc env) R s := by
  refine codeAny_loop rfl I (fun n s hI => ?_) n h
  show wpAny _ A ((compTurn (.ListComp elt [⟨target, iter, ifs, 0⟩] scope pos) 0 it acc env).onRaise (fun x => do noteFrame x env; theTreesLotGoes x)) _ _ s
  refine wpAny_noted ?_
  rw [compTurn_list]
  refine wpAny_bind (wpAny_standAt (wpAny_bind (wpAny_mono (turn n s hI) (fun r s₁ h₁ => ?_) fun _ _ h' => h')))
  cases r with
  | none => exact wpAny_pure h₁
  | some v =>
    refine wpAny_bind (wpAny_mono h₁ (fun _ s₀ h₀ => ?_) fun _ _ h' => h')
    refine wpAny_bind (wpAny_mono h₀ (fun _ s₂ h₂ => wpAny_bind (wpAny_mono h₂ (fun ok s₃ h₃ => ?_) fun _ _ h' => h')) fun _ _ h' => h')
    cases ok with
    | false => exact wpAny_pure ⟨rfl, h₃⟩
    | true =>
      exact wpAny_bind (wpAny_bind (wpAny_mono h₃ (fun x s₄ h₄ => wpAny_bind (wpAny_mono h₄ (fun _ s₅ h₅ => wpAny_pure (wpAny_pure ⟨rfl, h₅⟩)) fun _ _ h' => h')) fun _ _ h' => h'))
end
section
variable {X : Cx} {scope : Scope} {N : List Str} {k : Nat} {cap : List Nat} {tg iter elt : Expr} {ifs : List Expr} {wi : TI} {g : TG} {tt : TT} {te : TE} {pos : Pos}
theorem comp_loop {E : Value->Shared->Prop} {use : Option (Value->Sem Unit)} {QQ : Value->Shared->Prop} {pins : List (Addr × Obj)} {s : Shared} {σ : St} {H : Hp} {it : Addr} {fp : List Addr} {tn : Nat->Heap->Prop} {J : It} {Q : VK}
    (hc : X.calm = true) (c : CompOk X.N X.env.scope scope N k cap)
    (hg : ∀ C s₀ H₀ ex, PG (X.comp scope N C s₀ H₀ ex).nox tg g) (ht : ∀ C s₀ H₀ ex, PTs (X.comp scope N C s₀ H₀ ex).nox ifs tt) (he : ∀ C s₀ H₀ ex, PE (X.comp scope N C s₀ H₀ ex).nox elt te)
    (I : Inv X pins σ H s) (T : Turn X.prog X.w X.K tg J fp it tn) (st : tn 0 s.heap) (hf : ∀ b ∈ fp, FpOk X pins H b)
    (h : ∀ D, H D = none->∃ W : Nat->Nat->St->Hp->List V->Prop, (∃ m, W 0 m (st0 k cap σ) (upd H D (.lst [])) []) /\ ∀ i m σ' H' ys, W i m σ' H' ys->(J.stop i H' /\ Q (.ref D) H') ∨
      (J.go i H' /\ ∃ N : St->Hp->List V->Prop, (∀ σ' H' ys', N σ' H' ys'->∃ m', m' < m /\ W (i + 1) m' σ' H' ys') /\ ∀ x H2, J.yld i H' x H2->g x σ' H2 fun σ3 H3 => tt σ3 H3 fun b H4 => if b = true then
        te σ3 H4 fun y H5 => H5 D = some (.lst ys) /\ ys.length < sizeLine /\ N σ3 (upd H5 D (.lst (ys ++ [y]))) (ys ++ [y])
        else N σ3 H4 ys))
    (hQ : ∀ D C s1 H', Inv X pins σ H' s1->Q (.ref D) H'->(∃ m, s1.heap.Ns C m)->H' C = none->X.s₀.heap.objs.size ≤ C->C ≠ X.env.locals->(∀ x c, X.env.cells.lookup x = some c->c ≠ C)->(∀ p ∈ X.pn ++ pins, p.1 ≠ C) →
      compPost (model X.prog X.w) X.A E use QQ (.ref D) C (.ok .next) s1) :
    wpAny (model X.prog X.w) X.A (newList []) (fun acc s₃ => wpAny (model X.prog X.w) X.A (newFunctionEnv scope X.env.globals (clos X.env.cells scope.names []) [] X.env.qual none .none (some X.env)) (fun cenv s₄ =>
      codeAny (model X.prog X.w) X.A (.compStart (.ListComp elt [⟨tg, iter, ifs, 0⟩] scope pos) 0 (.ref it) acc { cenv with scope := relabel scope X.env }) (compPost (model X.prog X.w) X.A E use QQ acc cenv.locals) s₄) E s₃) E s := by
  refine wpAny_newObj_type (wpAny_newFunctionEnv c.nocell (by intro y hy; simp at hy) (fun h₁ hns₁ hsb₁ => ?_) c.kind)
  dsimp only at hns₁ hsb₁ ⊢
  generalize hH2 : s.heap.push { cls := .type "list", dict := none, data := .seq ([] : List Value).toArray } = H2 at hns₁ hsb₁ ⊢
  have hC : H2.objs.size = s.heap.objs.size + 1 := by rw [← hH2, Heap.size_push]
  have hDC : s.heap.objs.size ≠ H2.objs.size := by rw [hC]; exact Nat.ne_of_lt (Nat.lt_succ_self _)
  have hle : s.heap.objs.size ≤ H2.objs.size := by rw [hC]; exact Nat.le_succ _
  have keep : ∀ b o, s.heap.get? b = some o->h₁.get? b = some o := fun b o e => by
    exact hsb₁.extBut b o (anelt (Heap.lt_size e) hle) (Heap.get?_push_of_some _ (hH2 ▸ Heap.get?_push_of_some _ e))
  have hl : h₁.get? s.heap.objs.size = some { cls := .type "list", data := .seq #[] } := hsb₁.extBut _ _ hDC (Heap.get?_push_of_some _ (hH2 ▸ Heap.get?_push_size _ rfl))
  have nD : H s.heap.objs.size = none := I.hok.fresh (Nat.le_refl _)
  obtain ⟨W, ⟨m0, w0⟩, turn⟩ := h _ nD
  have ho : ∀ b ∈ fp, ∃ o, s.heap.get? b = some o := fun b hb => let ⟨o, e, _⟩ := T.obj _ _ st b hb; ⟨o, e⟩
  have hCs : X.s₀.heap.objs.size ≤ H2.objs.size := Nat.le_trans I.sz hle
  have hCl : H2.objs.size ≠ X.env.locals := (anelt I.lt hle).symm
  have hCc : ∀ x d, X.env.cells.lookup x = some d->d ≠ H2.objs.size := fun x d e => by
    obtain ⟨v, o, q, _⟩ := I.cell x d e
    exact anelt (Heap.lt_size q) hle
  have hCp : ∀ p ∈ X.pn ++ pins, p.1 ≠ H2.objs.size := fun p hp => by
    exact anelt (Heap.lt_size (I.pin p hp).1) hle
  have loop : ∀ s₃ : Shared, s₃ = { s with heap := h₁, toks := s.toks + ([] : List (Str × Value)).length } →
      codeAny (model X.prog X.w) X.A (.compLoop (.ListComp elt [⟨tg, iter, ifs, 0⟩] scope pos) 0 (.ref it) (.ref s.heap.objs.size) (compEnvC scope (clos X.env.cells scope.names []) H2.objs.size X.env))
        (compPost (model X.prog X.w) X.A E use QQ (.ref s.heap.objs.size) H2.objs.size) s₃ := by
    rintro s₃ rfl
    have I0 : Inv (X.comp scope N H2.objs.size s H fp) [] (st0 k cap σ) (upd H s.heap.objs.size (.lst [])) { s with heap := h₁, toks := s.toks + ([] : List (Str × Value)).length } :=
      I.block c hf ho (Nat.le_refl _) hle hDC rfl rfl keep hl (by simpa using hns₁)
    have stat : ∀ {H' : Hp} {ps : List (Addr × Obj)}, (∀ b ∈ fp, H' b = none)->ps = []->∀ b ∈ fp, FpOk (X.comp scope N H2.objs.size s H fp).nox ps H' b := fun hn hp b hb => by
      subst hp
      exact ⟨hn b hb, (I0.ok.exf b hb).1, I0.ok.exfs b hb, .inl hb, (I0.ok.exf b hb).2, fun p hp => by cases hp⟩
    have nok : ∀ b ∈ fp, upd H s.heap.objs.size (.lst []) b = none := fun b hb => by
      obtain ⟨o, e⟩ := ho b hb
      rw [upd_ne (anelt (Heap.lt_size e) (Nat.le_refl _))]; exact (hf b hb).1
    refine codeAny_compLoop_go (fun n s' => ∃ i σ' H' ys, Inv (X.comp scope N H2.objs.size s H fp).nox [] σ' H' s' /\ tn i s'.heap /\ (∀ b ∈ fp, H' b = none) /\ W i n σ' H' ys) ?_ m0
      ⟨0, _, _, [], I0.wish _, T.keep _ _ _ st fun b _ o e => keep b o e, nok, w0⟩
    rintro n s' ⟨i, σ', H', ys, I', st', fr', w'⟩
    rcases turn i n σ' H' ys w' with ⟨stop, q⟩ | ⟨go, NN, hNN, step⟩
    · refine wpAny_mono (T.done (X.comp scope N H2.objs.size s H fp).nox rfl rfl rfl hc i [] s' σ' H' (fun _ _ => False) I' (stat fr' rfl) st' stop) (fun r s4 ⟨hr, I4⟩ => ?_) (fun _ _ x => x.elim)
      subst hr
      exact hQ _ _ s4 H' (I.unblock hf I4.unwish) q (let ⟨m, hn, _⟩ := I4.loc; ⟨m, hn⟩) I4.free hCs hCl hCc hCp
    · refine wpAny_mono (T.item (X.comp scope N H2.objs.size s H fp).nox rfl rfl rfl hc i [] s' σ' H' (fun _ _ => False) I' (stat fr' rfl) st' go) (fun r s4 ⟨u, hr, h4⟩ => ?_) (fun _ _ x => x.elim)
      subst hr
      refine wpAny_mono h4 (fun _ s5 ⟨x, H5, I5, r5, y5, st5, fr5⟩ => ?_) (fun _ _ x => x.elim)
      have I5' := I5.pinned (stat fr5 rfl) (T.obj _ _ st5)
      refine wpAny_mono (hg _ _ _ _ _ s5 σ' H5 x u _ I5' r5 (step x H5 y5)) (fun _ s6 ⟨σ6, H6, I6, q6⟩ => ?_) (fun _ _ x => x.elim)
      refine wpAny_mono (ht _ _ _ _ _ s6 σ6 H6 _ I6 q6) (fun ok s7 ⟨H7, I7, q7⟩ => ?_) (fun _ _ x => x.elim)
      have again : ∀ {H8 : Hp} {s8 : Shared} {ys8 : List V}, Inv (X.comp scope N H2.objs.size s H fp).nox ([] ++ pinsAt fp s5.heap) σ6 H8 s8->NN σ6 H8 ys8 →
          ∃ m, m < n /\ ∃ i σ' H' ys, Inv (X.comp scope N H2.objs.size s H fp).nox [] σ' H' s8 /\ tn i s8.heap /\ (∀ b ∈ fp, H' b = none) /\ W i m σ' H' ys := fun {H8 s8 ys8} I8 n8 => by
        obtain ⟨m', hm, w8⟩ := hNN _ _ _ n8
        refine ⟨m', hm, i + 1, σ6, H8, ys8, I8.unpinned, T.keep _ _ _ st5 fun b hb o e => (I8.pin (b, o) (List.mem_append_right _ (List.mem_append_right _ (mem_pinsAt hb e)))).1, fun b hb => ?_, w8⟩
        obtain ⟨o, e, d⟩ := T.obj _ _ st5 b hb
        exact (I8.pin (b, o) (List.mem_append_right _ (List.mem_append_right _ (mem_pinsAt hb e)))).2.1
      cases ok with
      | false => exact again I7 q7
      | true =>
        refine wpAny_mono (he _ _ _ _ _ s7 σ6 H7 _ I7 q7) (fun y s8 ⟨v, H8, I8, rv, hD, hlen, w8⟩ => ?_) (fun _ _ x => x.elim)
        refine wpAny_mono (mt_append (X := (X.comp scope N H2.objs.size s H fp).nox) _ s8 σ6 H8 (.ref s.heap.objs.size) [v] (.ref s.heap.objs.size) [y] (fun _ H9 => H9 = upd H8 s.heap.objs.size (.lst (ys ++ [v]))) I8 rfl (.cons rv .nil) ⟨_, ys, v, rfl, rfl, hD, hlen, rfl⟩) (fun _ s9 ⟨_, H9, I9, _, e9⟩ => ?_) (fun _ _ x => x.elim)
        subst e9
        exact again I9 w8
  exact codeAny_compStart_list (loop _ rfl) (T.self _ 0 _ _ _ (T.keep _ _ _ st fun b _ o e => keep b o e) (loop _ rfl))
theorem pe_comp (hc : X.calm = true) (hco : compOk X.N X.env.scope scope N k cap = true) (hi : PI X tg iter wi)
    (hg : ∀ C s₀ H₀ ex, PG (X.comp scope N C s₀ H₀ ex).nox tg g) (ht : ∀ C s₀ H₀ ex, PTs (X.comp scope N C s₀ H₀ ex).nox ifs tt) (he : ∀ C s₀ H₀ ex, PE (X.comp scope N C s₀ H₀ ex).nox elt te)
    (hs : ∀ x, foldedSetIterable iter X.env x = pure x := by intro _; rfl) : PE X (.ListComp elt [⟨tg, iter, ifs, 0⟩] scope pos) (tComp k cap wi g tt te) := by
  intro pins s σ H Q I h
  have c := CompOk.of hco
  rw [eval_ListComp]
  refine wpAny_comprehension_free (use := none) (cl := clos X.env.cells scope.names []) rfl hs (closureFor_eq (I.freeCells c)) c.kind c.locs (thn (hi pins s σ H _ I h) fun xv s₁ h₁ => thn h₁ fun itv s₂ h₂ => ?_)
  obtain ⟨it, fp, tn, J, H2, e, I2, T, st, hf, q⟩ := h₂
  subst e
  exact comp_loop (use := none) hc c hg ht he I2 T st hf q fun D C s1 H' I1 q1 ⟨m, hn⟩ hCn hCs hCl hCc hCp =>
    ⟨m, hn, fun h' hs' => ⟨.ref D, H', I1.turned (t' := s1.toks) (fun b o hb e => hs'.extBut b o hb e) hCn hCl (.inr hCs) hCc hCp, rfl, q1⟩⟩
theorem ps_setComp {i : Nat} {x : Str} {pos' spos : Pos} (hN : X.N.Nodup) (hi' : X.N[i]? = some x) (hx : Loc X.env.scope x) (hc : X.calm = true) (hco : compOk X.N X.env.scope scope N k cap = true) (hi : PI X tg iter wi)
    (hg : ∀ C s₀ H₀ ex, PG (X.comp scope N C s₀ H₀ ex).nox tg g) (ht : ∀ C s₀ H₀ ex, PTs (X.comp scope N C s₀ H₀ ex).nox ifs tt) (he : ∀ C s₀ H₀ ex, PE (X.comp scope N C s₀ H₀ ex).nox elt te)
    (hsw : swapsWith (.ListComp elt [⟨tg, iter, ifs, 0⟩] scope pos) (some (.Name x pos')) spos.line X.env = pure true := by rfl)
    (hs : ∀ x, foldedSetIterable iter X.env x = pure x := by intro _; rfl) (hf' : X.fn x = true ∨ X.env.scope.names.lookup x = some .local := by first | exact .inl rfl | exact .inr rfl | assumption) :
    PS X (.Assign [.Name x pos'] (.ListComp elt [⟨tg, iter, ifs, 0⟩] scope pos) spos) (tAsg (tComp k cap wi g tt te) (gName i)) := by
  intro pins s σ H D I h
  have c := CompOk.of hco
  rw [exec_Assign_Name_used _ _ _ _ hsw]
  refine wpAny_bind (wpAny_standAt (wpAny_bind ?_))
  show wpAny _ X.A (do let _ ← comprehension (.ListComp elt [⟨tg, iter, ifs, 0⟩] scope pos) scope X.env _ (newList []) false (eval iter X.env) (some (assign (.Name x pos') X.env))) _ _ s
  refine wpAny_bind (wpAny_mono (wpAny_comprehension_free (use := some (assign (.Name x pos') X.env)) (Q := fun _ s' => SP X pins D .next s') (cl := clos X.env.cells scope.names []) rfl hs (closureFor_eq (I.freeCells c)) c.kind c.locs
    (thn (hi pins s σ H _ I h) fun xv s₁ h₁ => thn h₁ fun itv s₂ h₂ => ?_)) (fun _ s' hq => wpAny_pure (wpAny_pure hq)) fun _ _ e => e)
  obtain ⟨it, fp, tn, J, H2, e, I2, T, st, hf, q⟩ := h₂
  subst e
  refine comp_loop (use := some (assign (.Name x pos') X.env)) (Q := fun v H1 => gName i v σ H1 D.nx) hc c hg ht he I2 T st hf q fun L C s1 H' I1 q1 ⟨m, hn⟩ hCn hCs hCl hCc hCp => ?_
  show wpAny _ X.A (assign (.Name x pos') X.env (.ref L)) _ _ s1
  refine wpAny_assign_Name (store_ok2 (v := .ref L) I1 hN hi' hx rfl (fun s2 I3 ⟨a, sb, ha⟩ => ⟨m, ?_, fun h' hs' => ?_⟩) hf')
  · refine hn.sameBut sb ?_
    rcases ha with z | z
    · rw [z]; exact hCl
    · exact (hCc _ _ z).symm
  · exact ⟨_, H', I3.turned (t' := s2.toks) (fun b o hb e => hs'.extBut b o hb e) hCn hCl (.inr hCs) hCc hCp, q1⟩
end
theorem comp_list {K : PySem.W.Frag} {a : Addr} (D : Addr) {xs : List V} {g : TG} {tt : TT} {te : TE} {σ : St} {H : Hp} {R : Hp->Prop} (Pv : Nat->St->Hp->List V->Prop) (h0 : Pv 0 σ H []) (hl : ∀ i σ H ys, i ≤ xs.length->Pv i σ H ys->SqL K H a xs)
    (hs : ∀ i x σ H ys, xs[i]? = some x->Pv i σ H ys->g x σ H fun σ3 H3 => tt σ3 H3 fun b H4 => if b = true then
      te σ3 H4 fun y H5 => H5 D = some (.lst ys) /\ ys.length < sizeLine /\ Pv (i + 1) σ3 (upd H5 D (.lst (ys ++ [y]))) (ys ++ [y]) else Pv (i + 1) σ3 H4 ys) (hd : ∀ σ H ys, Pv xs.length σ H ys->R H) :
    ∃ W : Nat->Nat->St->Hp->List V->Prop, (∃ m, W 0 m σ H []) /\ ∀ i m σ' H' ys, W i m σ' H' ys->((Itl K a).stop i H' /\ R H') ∨
      ((Itl K a).go i H' /\ ∃ N : St->Hp->List V->Prop, (∀ σ' H' ys', N σ' H' ys'->∃ m', m' < m /\ W (i + 1) m' σ' H' ys') /\ ∀ x H2, (Itl K a).yld i H' x H2->g x σ' H2 fun σ3 H3 => tt σ3 H3 fun b H4 => if b = true then
        te σ3 H4 fun y H5 => H5 D = some (.lst ys) /\ ys.length < sizeLine /\ N σ3 (upd H5 D (.lst (ys ++ [y]))) (ys ++ [y])
        else N σ3 H4 ys) := by
  refine ⟨fun i m σ H ys => m = xs.length - i /\ i ≤ xs.length /\ Pv i σ H ys, ⟨xs.length, by simp, Nat.zero_le _, h0⟩, ?_⟩
  rintro i m σ H ys ⟨rfl, hi, p⟩
  have q := hl i σ H ys hi p
  by_cases hlt : i < xs.length
  · refine .inr ⟨⟨xs, xs[i], q, by simp [hlt]⟩, Pv (i + 1), fun σ' H' ys' p' => ⟨xs.length - (i + 1), by omega, rfl, hlt, p'⟩, fun x H' y => ?_⟩
    obtain ⟨e, y⟩ := y
    subst e
    exact hs i x σ _ ys (y xs q) p
  · have e : i = xs.length := by omega
    subst e
    exact .inl ⟨⟨xs, q, Nat.le_refl _⟩, hd σ H ys p⟩
theorem comp_range {lo : Int} {n : Nat} (D : Addr) {g : TG} {tt : TT} {te : TE} {σ : St} {H : Hp} {R : Hp->Prop} (Pv : Nat->St->Hp->List V->Prop) (h0 : Pv 0 σ H [])
    (hs : ∀ i σ H ys, i < n->Pv i σ H ys->g (.int (lo + i)) σ H fun σ3 H3 => tt σ3 H3 fun b H4 => if b = true then
      te σ3 H4 fun y H5 => H5 D = some (.lst ys) /\ ys.length < sizeLine /\ Pv (i + 1) σ3 (upd H5 D (.lst (ys ++ [y]))) (ys ++ [y]) else Pv (i + 1) σ3 H4 ys) (hd : ∀ σ H ys, Pv n σ H ys->R H) :
    ∃ W : Nat->Nat->St->Hp->List V->Prop, (∃ m, W 0 m σ H []) /\ ∀ i m σ' H' ys, W i m σ' H' ys->((Itr lo n).stop i H' /\ R H') ∨
      ((Itr lo n).go i H' /\ ∃ N : St->Hp->List V->Prop, (∀ σ' H' ys', N σ' H' ys'->∃ m', m' < m /\ W (i + 1) m' σ' H' ys') /\ ∀ x H2, (Itr lo n).yld i H' x H2->g x σ' H2 fun σ3 H3 => tt σ3 H3 fun b H4 => if b = true then
        te σ3 H4 fun y H5 => H5 D = some (.lst ys) /\ ys.length < sizeLine /\ N σ3 (upd H5 D (.lst (ys ++ [y]))) (ys ++ [y])
        else N σ3 H4 ys) := by
  refine ⟨fun i m σ H ys => m = n - i /\ i ≤ n /\ Pv i σ H ys, ⟨n, by simp, Nat.zero_le _, h0⟩, ?_⟩
  rintro i m σ H ys ⟨rfl, hi, p⟩
  by_cases hlt : i < n
  · refine .inr ⟨hlt, Pv (i + 1), fun σ' H' ys' p' => ⟨n - (i + 1), by omega, rfl, hlt, p'⟩, fun x H' y => ?_⟩
    obtain ⟨e, y⟩ := y
    subst e y
    exact hs i σ _ ys hlt p
  · have e : i = n := by omega
    subst e
    exact .inl ⟨Nat.le_refl _, hd σ H ys p⟩
section
variable {X : Cx} {K : PySem.W.Frag}
theorem ix_listK (hK : X.K = K) : IxR X (rIxL K) := by subst hK; exact ix_list
end
open PySem PySem.Spec PyProof.Rows
theorem Same.new {H : Hp} {p : Addr} {o : HO} (h : H p = none) : Same H (upd H p o) := fun b u e => by rw [upd_ne (ne_of_none e h)]; exact e
open PySem PySem.Spec PyProof.Rows PySem.SeqAt
def SeqEq (K : PySem.W.Frag) (H : Hp) (R : V->V->Bool->Prop) (x y : V) (b : Bool) : Prop :=
  ∃ (a c : Addr) (xs ys : List V) (e : Nat->Bool), x = .ref a /\ y = .ref c ∧
    ((SqL K H a xs /\ SqL K H c ys /\ xs.length = ys.length /\ (∀ (j : Nat) x' y', xs[j]? = some x'->ys[j]? = some y'->R x' y' (e j)) /\ b = (List.range xs.length).all e) ∨
     (SqL K H a xs /\ SqL K H c ys /\ xs.length ≠ ys.length /\ b = false) ∨
     (SqT K H a xs /\ SqT K H c ys /\ (∀ (j : Nat) x' y', xs[j]? = some x'->ys[j]? = some y'->R x' y' (e j)) /\ b = ((List.range (min xs.length ys.length)).all e && xs.length == ys.length)))
def EqI (K : PySem.W.Frag) (H : Hp) : Nat->V->V->Bool->Prop
  | 0 => fun x y b => (flatV x = true /\ flatV y = true /\ b = eqV x y) ∨ ∃ a, x = .ref a /\ y = .ref a /\ b = true
  | n + 1 => fun x y b => EqI K H n x y b ∨ (x ≠ y /\ SeqEq K H (EqI K H n) x y b)
section
variable {X : Cx} {pins : List (Addr × Obj)} {σ : St} {H : Hp} {s : Shared} {A : Around}
theorem items_at {xs ys : List V} {us vs : List Value} {R : V->V->Bool->Prop} {e : Nat->Bool} (r : Vals xs us) (q : Vals ys vs) (he : ∀ (j : Nat) x' y', xs[j]? = some x'->ys[j]? = some y'->R x' y' (e j))
    (hR : ∀ x y b u v, R x y b->RelV x u->RelV y v->EqAt A s u v b) : ∀ j (h1 : j < us.toArray.size) (h2 : j < vs.toArray.size), EqAt A s us.toArray[j] vs.toArray[j] (e j) := fun j h1 h2 => by
  have h1' : j < us.length := by simpa using h1
  have h2' : j < vs.length := by simpa using h2
  have l1 := r.length
  have l2 := q.length
  have ex : xs[j]? = some (xs[j]'(by omega)) := List.getElem?_eq_getElem (by omega)
  have ey : ys[j]? = some (ys[j]'(by omega)) := List.getElem?_eq_getElem (by omega)
  obtain ⟨u, eu, ru⟩ := Vals.get r ex
  obtain ⟨v, ev, rv⟩ := Vals.get q ey
  have e1 : us.toArray[j] = u := by
    have := (List.getElem?_eq_some_iff.mp eu).2
    simpa using this
  have e2 : vs.toArray[j] = v := by
    have := (List.getElem?_eq_some_iff.mp ev).2
    simpa using this
  rw [e1, e2]
  exact hR _ _ _ _ _ (he j _ _ ex ey) ru rv
theorem SeqEq.rc {R : V->V->Bool->Prop} {x y : V} {b : Bool} {u v : Value} (I : Inv X pins σ H s) (hR : ∀ x y b u v, R x y b->RelV x u->RelV y v->EqAt A.in1 s u v b) (hu : A.units < cLine)
    (h : SeqEq X.K H R x y b) (rx : RelV x u) (ry : RelV y v) : RcAt A s u v b := by
  obtain ⟨a, c, xs, ys, e, rfl, rfl, h⟩ := h
  cases rx
  cases ry
  rcases h with ⟨h1, h2, hl, he, rfl⟩ | ⟨h1, h2, hl, rfl⟩ | ⟨h1, h2, he, rfl⟩
  · obtain ⟨us, r, p, _⟩ := I.list h1
    obtain ⟨vs, q, p2, _⟩ := I.list h2
    have l1 := r.length
    have l2 := q.length
    have z := RcAt.lists (A := A) (e := e) p.isList p2.isList (by simp; omega) hu (items_at r q he hR)
    rw [show us.toArray.size = xs.length by simp; omega] at z
    exact z
  · obtain ⟨us, r, p, _⟩ := I.list h1
    obtain ⟨vs, q, p2, _⟩ := I.list h2
    have l1 := r.length
    have l2 := q.length
    exact RcAt.lists_lengths p.isList p2.isList (by simp; omega) hu
  · obtain ⟨us, r, p, _⟩ := I.tuple h1
    obtain ⟨vs, q, p2, _⟩ := I.tuple h2
    have l1 := r.length
    have l2 := q.length
    have z := RcAt.tuples (A := A) (e := e) (show s.heap.IsTuple a us.toArray from p) (show s.heap.IsTuple c vs.toArray from p2) hu (items_at r q he hR)
    rw [show us.toArray.size = xs.length by simp; omega, show vs.toArray.size = ys.length by simp; omega] at z
    exact z
theorem EqI.at (I : Inv X pins σ H s) : ∀ (n : Nat) {A : Around} {x y : V} {b : Bool} {u v : Value}, A.units + n < cLine->EqI X.K H n x y b->RelV x u->RelV y v->EqAt A s u v b
  | 0, A, x, y, b, u, v, hu, h, rx, ry => by
    rcases h with ⟨fx, fy, rfl⟩ | ⟨a, rfl, rfl, rfl⟩
    · exact eqAt_V rx ry fx fy
    · cases rx
      cases ry
      exact EqAt.same _
  | n + 1, A, x, y, b, u, v, hu, h, rx, ry => by
    rcases h with h | ⟨hne, h⟩
    · exact EqI.at I n (by omega) h rx ry
    · have z := SeqEq.rc (A := A) I (fun x y b u v h rx ry => EqI.at I n (A := A.in1) (by show A.units + 1 + n < cLine; omega) h rx ry) (by omega) h rx ry
      obtain ⟨a, c, xs, ys, e, rfl, rfl, _⟩ := h
      cases rx
      cases ry
      exact EqAt.of_refs (fun e => hne (by rw [e])) z
def rEqR (K : PySem.W.Frag) : R2 := fun x y H Q => ∃ (n : Nat) (b : Bool), n ≤ 8 /\ SeqEq K H (EqI K H n) x y b /\ Q (.bl b) H
theorem op_eq_ref (hu : X.A.units + 64 < cLine) : OpR X (compareOp .Eq) (rEqR X.K) := by
  rintro pins s σ H x y v u Q I rx ry ⟨n, b, hn, h, q⟩
  exact SeqEq.rc (A := X.A) I (fun x y b u v h rx ry => EqI.at I n (A := X.A.in1) (by show X.A.units + 1 + n < cLine; omega) h rx ry) (by omega) h rx ry X.prog X.w X.xe _ ⟨.bl b, H, I, rfl, q⟩
end
theorem anelt' {a b n : Nat} (h1 : a < n) (h2 : n ≤ b) : a ≠ b := by omega
open PySem PySem.Spec PyProof.Rows
def veTail : List Value := [.type "ValueError", .type "Exception", .type "BaseException", .type "object"]
def isRefV : Value->Bool
  | .ref _ => true
  | _ => false
def excMro (l : List Value) : Bool := l.dropWhile isRefV == veTail
theorem excMro_at {l : List Value} (h : excMro l = true) : ∃ rs : List Addr, l = rs.map Value.ref ++ veTail := by
  induction l with
  | nil => exact absurd h (by decide)
  | cons x r ih =>
    unfold excMro at h
    by_cases hx : isRefV x = true
    · rw [List.dropWhile_cons, if_pos hx] at h
      obtain ⟨rs, e⟩ := ih h
      cases x <;> first | cases hx | skip
      rename_i a
      exact ⟨a :: rs, by rw [e]; rfl⟩
    · rw [List.dropWhile_cons, if_neg hx] at h
      exact ⟨[], by rw [beq_iff_eq.mp h]; rfl⟩
theorem excMro_has {T : String} (hT : veTail.contains (.type T) = true) {l : List Value} (h : excMro l = true) : l.contains (.type T) = true := by
  obtain ⟨rs, rfl⟩ := excMro_at h
  rw [List.contains_eq_mem]
  simp only [List.contains_eq_mem, decide_eq_true_eq] at hT ⊢
  exact List.mem_append_right _ hT
theorem excMro_ne {l : List Value} (h : excMro l = true) : l.isEmpty = false := by
  cases l with
  | nil => exact absurd h (by decide)
  | cons _ _ => rfl
theorem refuse_exc (self : Value) {l : List Value} (h : excMro l = true) : refuseLoop self "__setattr__" l = pure () := by
  obtain ⟨rs, rfl⟩ := excMro_at h
  induction rs with
  | nil => exact PySem.F.store_ValueError.passes self
  | cons a r ih =>
    show refuseLoop self "__setattr__" (.ref a :: (r.map Value.ref ++ veTail)) = _
    rw [refuseLoop_ref]
    refine ih ?_
    have : ∀ r : List Addr, excMro (r.map Value.ref ++ veTail) = true := fun r => by
      induction r with
      | nil => decide
      | cons b r ih => exact ih
    exact this r
def xobjIn (K : PySem.W.Frag) (C : Addr) : Bool := match K.lookup C with
  | some ⟨.type "type", _, .cls cd, sl⟩ => (match cd.mro, sl.toList with
    | .ref D :: bm, [_, _, _, _, some (.builtin n), _] => D == C && !cd.hasDel && excMro bm && n == "ValueError.__new__" && cd.hasDict
    | _, _ => false)
  | _ => false
structure XObj (h : Heap) (C : Addr) : Prop where
  ex : ∃ nm q N bs bm sn sub ab col dd k0 k1 k2 k3 k5, h.get? C = some (excClassObj nm q C N bs bm true sn sub ab col dd k0 k1 k2 k3 k5 "ValueError.__new__") /\ excMro bm = true
theorem xobj_of {K : PySem.W.Frag} {C : Addr} (q : xobjIn K C = true) : ∃ nm qn N bs bm sn sub ab col dd k0 k1 k2 k3 k5, K.lookup C = some (excClassObj nm qn C N bs bm true sn sub ab col dd k0 k1 k2 k3 k5 "ValueError.__new__") /\ excMro bm = true := by
  unfold xobjIn at q
  split at q
  · rename_i dd cd sl ho
    split at q
    · rename_i D bm k0 k1 k2 k3 n k5 hm hs
      simp only [Bool.and_eq_true, beq_iff_eq, Bool.not_eq_true'] at q
      obtain ⟨⟨⟨⟨rfl, hdel⟩, hb⟩, rfl⟩, hd⟩ := q
      obtain ⟨nm, bs, mro, ns, qn, hd', sn, sub, ab, col, del⟩ := cd
      dsimp only at hm hdel hd
      subst hm hdel hd
      have hsl : sl = #[k0, k1, k2, k3, some (.builtin "ValueError.__new__"), k5] := by
        obtain ⟨l⟩ := sl
        simp only at hs
        rw [hs]
      subst hsl
      exact ⟨nm, qn, ns, bs, bm, sn, sub, ab, col, dd, k0, k1, k2, k3, k5, ho, hb⟩
    · cases q
  · cases q
structure XCls (K : PySem.W.Frag) (C : Addr) : Prop where
  obj : xobjIn K C = true
  sa : PySem.W.findIn K (.ref C) "__setattr__" = some (some (.builtin "object.__setattr__"))
  ga : PySem.W.findIn K (.ref C) "__getattribute__" = some (some (.builtin "BaseException.__getattribute__"))
  gh : PySem.W.findIn K (.ref C) "__getattr__" = some none
  cl : PySem.W.findIn K (.ref C) "__class__" = some (some (.builtin "object.__class__"))
  clg : PySem.W.specialIn K (.builtin "object.__class__") "__get__" = some (some (.builtin "getset_descriptor.__get__"))
  clt : PySem.W.takesIn K (.builtin "object.__class__") = some true
theorem excMro_cons {C : Addr} {bm : List Value} (h : excMro bm = true) : excMro (.ref C :: bm) = true := h
theorem XCls.mro {K : PySem.W.Frag} {C : Addr} (c : XCls K C) : ∃ cd, PySem.W.clsIn K C = some cd /\ excMro cd.mro = true /\ cd.hasDict = true := by
  obtain ⟨nm, qn, N, bs, bm, sn, sub, ab, col, dd, k0, k1, k2, k3, k5, ho, hb⟩ := xobj_of c.obj
  refine ⟨{ name := nm, bases := bs, mro := .ref C :: bm, ns := N, qualname := qn, hasDict := true, slotNames := sn, subclasses := sub, abstract := ab, collection := col, hasDel := false }, ?_, excMro_cons (C := C) hb, rfl⟩
  unfold PySem.W.clsIn
  rw [ho]
theorem XCls.at {K : PySem.W.Frag} {C : Addr} {h : Heap} (c : XCls K C) (X : K.In h) : XObj h C := by
  obtain ⟨nm, qn, N, bs, bm, sn, sub, ab, col, dd, k0, k1, k2, k3, k5, ho, hb⟩ := xobj_of c.obj
  exact ⟨nm, qn, N, bs, bm, sn, sub, ab, col, dd, k0, k1, k2, k3, k5, X _ _ ho, hb⟩
theorem XCls.has {K : PySem.W.Frag} {C : Addr} (c : XCls K C) {T : String} (hT : veTail.contains (.type T) = true) : PySem.W.mroIn K C (.type T) = some true := by
  obtain ⟨cd, h1, h2, _⟩ := c.mro
  unfold PySem.W.mroIn
  rw [h1, Option.bind_some, if_neg (by rw [excMro_ne h2]; decide), excMro_has hT h2]
section
variable {prog : Program} {w : World} {A : Around} {E : Value->Shared->Prop} {s : Shared} {K : PySem.W.Frag} {x C : Addr} {ox : Obj} {od : Option Obj} {name : Str} {v : Value}
theorem xget_value {expr : Bool} {Q : Value->Shared->Prop} (X : K.In s.heap) (I : PySem.W.InstAt s.heap x ox C od) (c : XCls K C)
    (hf : PySem.W.findObj K C od name = some (.value v)) (hh : PySem.W.handedIn v = true) (h : Q v { s with toks := s.toks + 1 }) : wpAny (model prog w) A (getAttr (.ref x) name expr) Q E s := by
  obtain ⟨hp, g, d, t, os⟩ := s
  have L0 := I.type (M := model prog w)
  have L1 := PySem.W.looks_findIn (M := model prog w) X c.ga
  have L2 := PySem.W.looks_findIn (M := model prog w) X c.gh
  have L3 := PySem.W.looks_find (M := model prog w) X I hf
  have LB : PySem.W.Looks (model prog w) hp (isInstance (.ref x) (.type "BaseException")) true := L0.andThen (PySem.W.looks_mroIn X (c.has (by decide)))
  have hx1 : (onTheHeap (Value.ref C) && Value.builtin "BaseException.__getattribute__" == Value.builtin "object.__getattribute__") = false := by
    have : (Value.builtin "BaseException.__getattribute__" == Value.builtin "object.__getattribute__") = false := by decide +kernel
    rw [this, Bool.and_false]
  have hb := PySem.F.excAttr_ValueError.ga.bind (.ref x)
  unfold getAttr getAttrBy
  refine wpAny_bind (wpAny_mkText (wpAny_holding (wpAny_bind (L0.at (wpAny_bind (L1.at ?_))))))
  dsimp only
  rw [hx1, if_neg (by decide)]
  unfold getAttrByItsOwn
  refine wpAny_bind (m := hookBefore (.ref C)) ?_
  show wpAny _ _ (typeLookup (.ref C) "__getattr__") _ _ _
  refine L2.at ?_
  refine wpAny_bind (wpAny_attempt (wpAny_holding ?_))
  have e0 : (expr && onTheHeap (Value.builtin "BaseException.__getattribute__")) = false := by cases expr <;> rfl
  unfold callGetattribute
  rw [e0, if_neg (by decide)]
  unfold boundAndCalled
  rw [hb]
  refine wpAny_bind (wpAny_pure ?_)
  refine wpAny_call (codeAny_call_builtin PySem.F.excAttr_ValueError.ga.plain PySem.F.entry_bexc_ga (@PySem.W.check_slot (model prog w) _ _ _ "BaseException.__getattribute__" "BaseException" "__getattribute__" (.ref x) _ [] _ (by decide +kernel) (by decide +kernel) LB (PySem.F.args_bexc_ga _ _) ?_))
  unfold Builtin.«object.__getattribute__»
  refine wpAny_bind (wpAny_pure (wpAny_bind (wpAny_pure (wpAny_bind (L0.at (wpAny_bind (L3.at ?_)))))))
  refine wpAny_pure ?_
  show wpAny _ _ (handedOut v) _ _ _
  rw [PySem.W.handedOut_of hh]; exact wpAny_pure h
theorem xget_class {Q : Option Value->Shared->Prop} (X : K.In s.heap) (I : PySem.W.InstAt s.heap x ox C od) (c : XCls K C) (h : Q (some (.ref C)) { s with toks := s.toks + 1 }) :
    wpAny (model prog w) A (getAttr? (.ref x) "__class__") Q E s := by
  obtain ⟨cd, hcd, _⟩ := c.mro
  have hf : PySem.W.findObj K C od "__class__" = some (.bind (.builtin "getset_descriptor.__get__") (.builtin "object.__class__")) := by
    unfold PySem.W.findObj
    rw [hcd, Option.bind_some, c.cl, Option.bind_some]
    dsimp only
    rw [c.clg, Option.bind_some]
    dsimp only
    rw [c.clt, Option.bind_some]
  obtain ⟨hp, g, d, t, os⟩ := s
  have L0 := I.type (M := model prog w)
  have L1 := PySem.W.looks_findIn (M := model prog w) X c.ga
  have L2 := PySem.W.looks_findIn (M := model prog w) X c.gh
  have L3 := PySem.W.looks_find (M := model prog w) X I hf
  have LB : PySem.W.Looks (model prog w) hp (isInstance (.ref x) (.type "BaseException")) true := L0.andThen (PySem.W.looks_mroIn X (c.has (by decide)))
  have hx1 : (onTheHeap (Value.ref C) && Value.builtin "BaseException.__getattribute__" == Value.builtin "object.__getattribute__") = false := by
    have : (Value.builtin "BaseException.__getattribute__" == Value.builtin "object.__getattribute__") = false := by decide +kernel
    rw [this, Bool.and_false]
  have hb := PySem.F.excAttr_ValueError.ga.bind (.ref x)
  unfold getAttr? getAttrBy? getAttrBy
  refine wpAny_bind (wpAny_mkText (wpAny_bind (wpAny_attempt (wpAny_holding (wpAny_bind (L0.at (wpAny_bind (L1.at ?_))))))))
  dsimp only
  rw [hx1, if_neg (by decide)]
  unfold getAttrByItsOwn
  refine wpAny_bind (m := hookBefore (.ref C)) ?_
  show wpAny _ _ (typeLookup (.ref C) "__getattr__") _ _ _
  refine L2.at ?_
  refine wpAny_bind (wpAny_attempt (wpAny_holding ?_))
  unfold callGetattribute
  rw [if_neg (by decide)]
  unfold boundAndCalled
  rw [hb]
  refine wpAny_bind (wpAny_pure ?_)
  refine wpAny_call (codeAny_call_builtin PySem.F.excAttr_ValueError.ga.plain PySem.F.entry_bexc_ga (@PySem.W.check_slot (model prog w) _ _ _ "BaseException.__getattribute__" "BaseException" "__getattribute__" (.ref x) _ [] _ (by decide +kernel) (by decide +kernel) LB (PySem.F.args_bexc_ga _ _) ?_))
  unfold Builtin.«object.__getattribute__»
  refine wpAny_bind (wpAny_pure (wpAny_bind (wpAny_pure (wpAny_bind (L0.at (wpAny_bind (L3.at ?_)))))))
  show wpAny _ _ (Builtin.ObjectAttr.bindTo _ _ _ _) _ _ _
  unfold Builtin.ObjectAttr.bindTo
  refine wpAny_bind (wpAny_holding (wpAny_call (PySem.W.class_get (s := ⟨hp, g, d, t + 1, os⟩) X I (c.has (by decide)) ?_)))
  refine wpAny_pure ?_
  show wpAny _ _ (handedOut (.ref C)) _ _ _
  rw [PySem.W.handedOut_of rfl]
  exact wpAny_pure (wpAny_pure h)
theorem kitx_exc (c : XCls K C) {h₁ : Heap->Prop} (hI : ∀ h, h₁ h->∃ ox od, PySem.W.InstAt h x ox C od) : PySem.W.KitX K (.ref x) (.ref C) h₁ where
  ty := fun _ _ _ I => let ⟨_, _, J⟩ := hI _ I; J.type
  it := fun _ _ X _ => by
    obtain ⟨cdD, hcD, _⟩ := c.mro
    unfold PySem.W.clsIn at hcD
    split at hcD
    · rename_i c' d' cd' sl' ho
      intro A' Q' E' s' k q
      unfold isType loadHead
      exact wpAny_bind (wpAny_loadPart (k _ _ (X _ _ ho)) (wpAny_pure q))
    · cases hcD
  ne := fun h tp dd its n sl X htp => by
    obtain ⟨cdD, hcD, _⟩ := c.mro
    refine Bool.eq_false_iff.mpr fun q => ?_
    have e : C = tp := Value.ref.inj (beq_iff_eq.mp q)
    subst e
    unfold PySem.W.clsIn at hcD
    split at hcD
    · rename_i c' d' cd' sl' ho
      have z := (X _ _ ho).symm.trans htp
      cases z
    · cases hcD
  ca := fun X p k => let ⟨_, _, J⟩ := hI _ p; xget_class X J c k
end
open PySem PySem.Spec PyProof.Rows
section
variable {prog : Program} {w : World} {A : Around} {E : Value->Shared->Prop} {s : Shared} {K : PySem.W.Frag} {x C : Addr} {ox : Obj} {od : Option Obj} {name : Str} {v : Value}
theorem xset_open {Q : Unit->Shared->Prop} (X : K.In s.heap) (I : PySem.W.InstAt s.heap x ox C od) (c : XCls K C) (n : NoAttr K C name)
    (h : ∀ b, wpAny (model prog w) A.in1 (Builtin.ObjectAttr.storeInOwnDict (.ref x) (.ref C) (.str name s.toks) name v b)
      (fun fin s' => match fin with | .done (.ret _) => Q () s' | _ => False) (fun e s' => E e s') { s with toks := s.toks + 1 }) :
    wpAny (model prog w) A (setAttr (.ref x) name v) Q E s := by
  obtain ⟨hp, g, d, t, os⟩ := s
  have SF := PySem.F.store_ValueError
  obtain ⟨cd, hc, ho, _⟩ := c.mro
  refine PySem.W.set_plain X I c.sa ?_
  have sub : PySem.W.Looks (model prog w) hp (isInstance (.ref x) (.type "object")) true := I.type.andThen (PySem.W.looks_mroIn X (c.has (by decide)))
  refine codeAny_call_builtin SF.slot.plain SF.entry (@PySem.W.check_slot (model prog w) _ _ _ "object.__setattr__" "object" "__setattr__" (.ref x) [.str name t, v] [] _ SF.kind SF.split sub (SF.args (.ref x) (.str name t) v) ?_)
  have hm : PySem.W.Looks (model prog w) hp (mroOf (.ref C)) cd.mro := (PySem.W.looks_clsIn X hc).andThen .now
  have LN := PySem.W.looks_findIn (M := model prog w) X (show PySem.W.findIn K (.ref C) name = some none from n)
  rw [PySem.W.osa_eq, refuse_eq]
  refine wpAny_bind (wpAny_bind (I.type.at (wpAny_bind (hm.at ?_))))
  rw [refuse_exc _ ho]
  refine wpAny_pure (wpAny_bind (I.type.at (wpAny_bind (LN.at (wpAny_bind (wpAny_pure ?_))))))
  refine wpAny_mono (h false) (fun fin s' z => ?_) fun _ _ z => z
  rcases fin with (_ | _ | _ | _) | _ <;> first | exact z | exact z.elim
theorem xset_first {vs : Array Value} {sl : Array (Option Value)} {Q : Unit->Shared->Prop} (X : K.In s.heap) (hx : s.heap.get? x = some ⟨.ref C, none, .fields vs, sl⟩) (c : XCls K C) (n : NoAttr K C name)
    (h : ∀ h' tk', h'.get? x = some ⟨.ref C, some s.heap.objs.size, .fields vs, sl⟩->h'.Ns1 s.heap.objs.size (fun y => if y = name then some v else none)->(∀ b o, b ≠ x->s.heap.get? b = some o->h'.get? b = some o) →
      Q () { s with heap := h', toks := tk' }) :
    wpAny (model prog w) A (setAttr (.ref x) name v) Q E s := by
  have I : PySem.W.InstAt s.heap x ⟨.ref C, none, .fields vs, sl⟩ C none := ⟨hx, rfl, rfl, trivial⟩
  refine xset_open X I c n fun b => ?_
  obtain ⟨hp, g, d, t, os⟩ := s
  obtain ⟨cd, hc, ho, hd⟩ := c.mro
  have LC := PySem.W.looks_clsIn (M := model prog w) X hc
  unfold Builtin.ObjectAttr.storeInOwnDict
  refine wpAny_bind (wpAny_pure ?_)
  refine wpAny_bind (m := Builtin.ObjectAttr.ownDictForStores _) ?_
  show wpAny _ _ (instanceDict x true) _ _ _
  unfold instanceDict
  refine wpAny_bind (wpAny_loadPart hx ?_)
  dsimp only
  refine wpAny_bind (LC.at ?_)
  rw [hd]
  have hx1 : (hp.push { cls := .type "dict", data := .dict #[] }).get? x = some ⟨.ref C, none, .fields vs, sl⟩ := Heap.get?_push_of_some _ hx
  have hxs : x ≠ hp.objs.size := Nat.ne_of_lt (Heap.lt_size hx)
  show wpAny _ _ (do let dd ← alloc { cls := .type "dict", data := .dict #[] }; update x (fun o => { o with dict := some dd }); dictMade (.ref C) x dd) _ _ _
  refine wpAny_bind (wpAny_alloc' ?_)
  refine wpAny_bind (wpAny_update' hx1 ?_)
  refine wpAny_pure ?_
  have hgd : ((hp.push { cls := .type "dict", data := .dict #[] }).update x fun o => { o with dict := some hp.objs.size }).get? hp.objs.size = some { cls := .type "dict", data := .dict #[] } :=
    (Heap.get?_update_ne _ _ _ _ hxs.symm).trans (Heap.get?_push_at rfl rfl)
  have hnd : ((hp.push { cls := .type "dict", data := .dict #[] }).update x fun o => { o with dict := some hp.objs.size }).Ns hp.objs.size (fun _ => none) := ⟨_, #[], _, hgd, rfl, fun e he => absurd he (by simp), fun _ => rfl⟩
  show wpAny _ _ (Builtin.ObjectAttr.storeInDict hp.objs.size (.str name t) name v) _ _ _
  unfold Builtin.ObjectAttr.storeInDict Builtin.ObjectAttr.newKeyGuard
  refine wpAny_bind (wpAny_pure (wpAny_bind (wpAny_nsSet1 (Heap.Ns1.of_empty hnd) fun h' hn' hs => ?_)))
  obtain ⟨oD, esD, epD, hoD, hdD, hcD⟩ := hn'.count (Within.cons name v Within.nil)
  refine wpAny_bind (wpAny_lookBehind hoD (by rw [hdD]; exact pastItsLine_dict (Nat.le_trans hcD (by rw [List.length_cons, List.length_nil, sizeLine_eq]; omega))) ?_)
  refine wpAny_pure (h h' _ ?_ hn' fun b o hb e => ?_)
  · exact (hs.2 x hxs).trans (Heap.get?_update_self _ hx1 rfl)
  · exact (hs.2 b (Nat.ne_of_lt (Heap.lt_size e))).trans ((Heap.get?_update_ne _ _ _ _ hb).trans (Heap.get?_push_of_some _ e))
end
open PySem PySem.Spec PyProof.Rows
abbrev excNew (C t : Addr) : Obj := { cls := .ref C, data := .fields #[.ref t, .none, .none, .none, .bool false, .none] }
abbrev tupNew (rest : List Value) : Obj := { cls := .type "tuple", data := .seq rest.toArray }
theorem own_has {C : Addr} {bm : List Value} (hb : excMro bm = true) {T : String} (hT : veTail.contains (.type T) = true) : (Value.ref C :: bm).contains (.type T) = true := by
  rw [List.contains_cons, excMro_has hT hb, Bool.or_true]
theorem own_not {C : Addr} {bm : List Value} (hb : excMro bm = true) {T : String} (hT : veTail.contains (.type T) = false) : (Value.ref C :: bm).contains (.type T) = false := by
  obtain ⟨rs, rfl⟩ := excMro_at hb
  rw [List.contains_cons, List.contains_eq_mem, decide_eq_false, Bool.or_false]
  · rfl
  · intro hm
    rcases List.mem_append.mp hm with h | h
    · obtain ⟨a, _, e⟩ := List.mem_map.mp h
      cases e
    · rw [List.contains_eq_mem] at hT
      exact (of_decide_eq_false hT) h
section
variable {prog : Program} {w : World} {A : Around} {E : Value->Shared->Prop} {h : Heap} {g : Array GenState} {d : Drawn} {t : Nat} {os : OsState} {K : PySem.W.Frag} {C f : Addr}
variable {nm q : Str} {N : Addr} {bs bm : List Value} {sn : List Str} {sub : List Value} {ab : Bool} {col : Option Bool} {dd : Option Addr} {k0 k1 k2 k3 k5 : Option Value}
theorem xcheck_new {M : Model} {rest : List Value} {Q : Unit->Shared->Prop} (hb : excMro bm = true) (hC : h.get? C = some (excClassObj nm q C N bs bm true sn sub ab col dd k0 k1 k2 k3 k5 "ValueError.__new__")) (hq : Q () ⟨h, g, d, t, os⟩) :
    wpAny M A (checkBuiltinCall "ValueError.__new__" ⟨.ref C :: rest, []⟩) Q E ⟨h, g, d, t, os⟩ := by
  have F := PySem.F.excBase_ValueError
  have hcont := own_has (C := C) hb (T := "ValueError") (by decide)
  have hstar := F.noStar
  simp only [checkBuiltinCall, F.newKind, F.newSplit, F.newRow]
  repeat (first
    | refine wpAny_loadPart_at hC ?_
    | (refine wpAny_isSubtype_exc hC ?_; rw [hcont])
    | refine wpAny_staticBase_exc hC ?_
    | refine wpAny_madeBy_exc hC ?_
    | simp only [bne_self_eq_false, Bool.false_eq_true, if_false]
    | wp_step)
  exact hq
theorem xcode_new {R : Result->Shared->Prop} {rest : List Value} (hb : excMro bm = true) (hC : h.get? C = some (excClassObj nm q C N bs bm true sn sub ab col dd k0 k1 k2 k3 k5 "ValueError.__new__")) (hrest : rest.length ≤ sizeLine)
    (hq : R (.ok (.ret (.ref (h.objs.size + 1)))) ⟨(h.push (tupNew rest)).push (excNew C h.objs.size), g, d, t, os⟩) :
    codeAny (model prog w) A (.builtin "ValueError.__new__" ⟨.ref C :: rest, []⟩) R ⟨h, g, d, t, os⟩ := by
  have F := PySem.F.excBase_ValueError
  have hends := F.ends
  have hcB := own_has (C := C) hb (T := "ValueError") (by decide)
  have hcA := own_not (C := C) hb (T := "AttributeError") (by decide)
  have hcN := own_not (C := C) hb (T := "NameError") (by decide)
  refine codeAny_builtinAt F.entry ?_
  unfold Builtin.«BaseException.__new__»
  refine PySem.wpAt_bind ?_
  show PySem.wpAt _ _ _ (stack >>= _) _ _ _
  refine PySem.wpAt_bind (PySem.wpAt_stack fun p below => PySem.wpAt_of_wpAny ?_)
  wp_walk
  refine PySem.wpAt_of_wpAny ?_
  rw [F.owner]
  repeat (first
    | with_reducible refine wpAny_madeHere_exc F.canon hC ?_
    | with_reducible refine wpAny_loadPart_at hC ?_
    | (with_reducible refine wpAny_isSubtype_exc hC ?_; first | rw [hcB] | rw [hcA] | rw [hcN])
    | wp_step)
  show R _ _
  rw [Heap.size_push]
  exact hq
theorem xkeeps {rest : List Value} : ∀ b o, h.get? b = some o->((h.push (tupNew rest)).push (excNew C h.objs.size)).get? b = some o := fun b o e => Heap.get?_push_of_some _ (Heap.get?_push_of_some _ e)
theorem xnew_at {rest : List Value} : ((h.push (tupNew rest)).push (excNew C h.objs.size)).get? (h.objs.size + 1) = some (excNew C h.objs.size) := by
  have := Heap.get?_push_size (h.push (tupNew rest)) (o := excNew C h.objs.size) rfl
  rwa [Heap.size_push] at this
theorem xtype_call {rest : List Value} {Q : Fin->Shared->Prop} (hb : excMro bm = true) (hC : h.get? C = some (excClassObj nm q C N bs bm true sn sub ab col dd k0 k1 k2 k3 k5 "ValueError.__new__")) (hrest : rest.length ≤ sizeLine) (X : K.In h)
    (hi : PySem.W.findIn K (.ref C) "__init__" = some (some (.ref f))) (hf : PySem.W.typeIn K (.ref f) = some (.type "function"))
    (hq : wpAny (model prog w) A (call (.ref f) (.ref (h.objs.size + 1) :: rest)) (fun r s' => r = .none /\ Q (.done (.ret (.ref (h.objs.size + 1)))) s') E ⟨(h.push (tupNew rest)).push (excNew C h.objs.size), g, d, t, os⟩) :
    wpAny (model prog w) A (Builtin.«type.__call__» ⟨.ref C :: rest, []⟩) Q E ⟨h, g, d, t, os⟩ := by
  have F := PySem.F.excBase_ValueError
  repeat (first | with_reducible refine wpAny_loadPart_at hC ?_ | with_reducible refine wpAny_madeBy_exc hC ?_ | wp_step)
  refine codeAny_call_builtin_code (Code.quiet_builtin _ F.quiet) (xcheck_new hb hC ?_)
  refine xcode_new hb hC hrest ?_
  show wpAny _ _ _ _ _ _
  have X1 : K.In ((h.push (tupNew rest)).push (excNew C h.objs.size)) := X.keeps xkeeps
  have hC1 := xkeeps (C := C) (rest := rest) _ _ hC
  have hcC : (Value.ref C :: bm).contains (.ref C) = true := by simp
  have L1 := PySem.W.looks_findIn (M := model prog w) X1 hi
  have L2 := PySem.W.bind_fn (M := model prog w) X1 (.ref (h.objs.size + 1)) hf
  unfold isInstance
  repeat (first | with_reducible refine wpAny_loadPart_at xnew_at ?_ | (with_reducible refine wpAny_isSubtype_exc hC1 ?_; rw [hcC]) | wp_step)
  show wpAny _ _ (typeLookup (.ref C) _) _ _ _
  refine L1.at ?_
  refine wpAny_holding (wpAny_bind (L2.at ?_))
  refine wpAny_bind (wpAny_mono hq (fun r s' hr => ?_) fun _ _ x => x)
  obtain ⟨rfl, hQ⟩ := hr
  wp_walk
  exact hQ
theorem xcall_init {rest : List Value} {Q : Value->Shared->Prop} (X : K.In h) (c : XCls K C) (hrest : rest.length ≤ sizeLine)
    (hi : PySem.W.findIn K (.ref C) "__init__" = some (some (.ref f))) (hf : PySem.W.typeIn K (.ref f) = some (.type "function"))
    (hq : wpAny (model prog w) (A.under (.builtin "type.__call__" ⟨.ref C :: rest, []⟩)) (call (.ref f) (.ref (h.objs.size + 1) :: rest)) (fun r s' => r = .none /\ Q (.ref (h.objs.size + 1)) s') E ⟨(h.push (tupNew rest)).push (excNew C h.objs.size), g, d, t, os⟩) :
    wpAny (model prog w) A (call (.ref C) rest) Q E ⟨h, g, d, t, os⟩ := by
  obtain ⟨nm, qn, N, bs, bm, sn, sub, ab, col, dd, k0, k1, k2, k3, k5, hC, hb⟩ := (c.at X).ex
  have f1 := tc_lookup
  have f2 := tc_bind (.ref C)
  have hT : (⟨h, g, d, t, os⟩ : Shared).TypeIs (.ref C) "type" := ⟨_, hC, rfl⟩
  refine wpAny_call (codeAny_of_tree ?_)
  show wpAny _ _ (callAny (.ref C) _) _ _ _
  repeat (any_goals (first | assumption | with_reducible refine wpAny_loadPart_at hC ?_ | wp_step))
  refine ⟨rfl, ?_⟩
  exact codeAny_call_builtin_at (Code.quiet_builtin _ (by decide +kernel)) entry_typeCall (wpAny_check_type_call_sub hC (xtype_call hb hC hrest X hi hf hq))
end
open PySem PySem.Spec PyProof.Rows
def IsExc (raw ch : Bool) (e C : Addr) (od : Option Addr) (h : Heap) : Prop := ∃ vs sl, h.get? e = some ⟨.ref C, od, .fields vs, sl⟩ /\ vs.size = 6 /\ (raw = true->vs[1]? = some .none) /\ (ch = false->vs[2]? = some .none)
def IsXd (dx : Addr) (fs : List (Str × V)) (h : Heap) : Prop := ∃ mA, h.Ns1 dx mA /\ (∀ f, RelO (fs.lookup f) (mA f)) /\ PySem.Within mA (fs.map (·.1))
abbrev exO (raw ch : Bool) (e C : Addr) (od : Option Addr) : HO := .ext (IsExc raw ch e C od)
def Flown (H : Hp) (e C : Addr) (od : Option Addr) : Prop := ∃ ch, H e = some (exO false ch e C od)
abbrev xdO (dx : Addr) (fs : List (Str × V)) : HO := .ext (IsXd dx fs)
def ExcAt (H : Hp) (e C : Addr) (fs : List (Str × V)) : Prop := ∃ raw ch od, H e = some (exO raw ch e C od) /\ match od with
  | none => fs = []
  | some dx => H dx = some (xdO dx fs) /\ dx ≠ e
section
variable {P : Program} {w : World} {H : Hp} {h : Heap} {e C dx : Addr} {od : Option Addr} {raw ch : Bool} {fs : List (Str × V)}
theorem objOk_exc (x : IsExc raw ch e C od h) : ObjOk P w H h e (exO raw ch e C od) := by
  refine ⟨x, ?_, ?_⟩
  · obtain ⟨vs, sl, q, _⟩ := x
    exact ⟨_, q⟩
  · rintro h1 h2 ⟨vs, sl, q, r⟩ k
    exact ⟨vs, sl, k _ q, r⟩
theorem objOk_xd (x : IsXd dx fs h) : ObjOk P w H h dx (xdO dx fs) := by
  refine ⟨x, ?_, ?_⟩
  · obtain ⟨mA, ⟨o, es, ep, q, _⟩, _⟩ := x
    exact ⟨o, q⟩
  · rintro h1 h2 ⟨mA, ⟨o, es, ep, q, r⟩, z⟩ k
    exact ⟨mA, ⟨o, es, ep, k _ q, r⟩, z⟩
theorem exc_of (x : HOk P w H h) (q : H e = some (exO raw ch e C od)) : IsExc raw ch e C od h := (x e _ q).1
theorem xd_of (x : HOk P w H h) (q : H dx = some (xdO dx fs)) : IsXd dx fs h := (x dx _ q).1
end
section
variable {X : Cx} {pins : List (Addr × Obj)} {σ : St} {H : Hp} {s : Shared} {a C dx : Addr} {od : Option Addr} {raw ch : Bool} {fs : List (Str × V)} {f : Str} {v : V} {A : Around} {E : Value->Shared->Prop}
theorem ExcAt.inst (I : Inv X pins σ H s) (e : ExcAt H a C fs) : ∃ ox od, PySem.W.InstAt s.heap a ox C od /\ ∀ f v, fs.lookup f = some v->∃ o u, od = some o /\ PySem.W.lookIn f o = some (some u) /\ RelV v u := by
  obtain ⟨raw, ch, od, h1, h2⟩ := e
  obtain ⟨vs, sl, q, _⟩ := exc_of I.hok h1
  cases od with
  | none =>
    subst h2
    exact ⟨_, none, ⟨q, rfl, rfl, trivial⟩, fun f v h => by simp at h⟩
  | some dx =>
    obtain ⟨mA, n, r, _⟩ := xd_of I.hok h2.1
    obtain ⟨o, ho, hl⟩ := lookIn_ns n
    refine ⟨_, some o, ⟨q, rfl, rfl, ho⟩, fun f v h => ?_⟩
    obtain ⟨u, hu, ru⟩ := RelO.some_of (v := v) (o := mA f) (by rw [← h]; exact r f)
    exact ⟨o, u, rfl, by rw [hl, hu], ru⟩
theorem xgetattr_ok {b : Bool} {Q : Value->Shared->Prop} (I : Inv X pins σ H s) (e : ExcAt H a C fs) (c : XCls X.K C) (n : NoAttr X.K C f) (l : fs.lookup f = some v)
    (h : ∀ u s', Inv X pins σ H s'->RelV v u->Q u s') : wpAny (model X.prog X.w) A (getAttr (.ref a) f b) Q E s := by
  obtain ⟨ox, od, J, hl⟩ := e.inst I
  obtain ⟨o, u, rfl, lk, ru⟩ := hl f v l
  obtain ⟨cd, hc, _, hd⟩ := c.mro
  exact xget_value I.kIn J c (PySem.W.findObj_own (by unfold PySem.W.hasDictIn; rw [hc]; exact hd) n rfl lk) (handed_of ru) (h u _ (I.tok _) ru)
theorem xsetattr_first {y : V} {u : Value} {Q : Unit->Shared->Prop} (I : Inv X pins σ H s) (e : H a = some (exO raw ch a C none)) (c : XCls X.K C) (n : NoAttr X.K C f) (ry : RelV y u)
    (h : ∀ dx s', H dx = none->Inv X pins σ (upd (upd H dx (xdO dx [(f, y)])) a (exO raw ch a C (some dx))) s'->Q () s') : wpAny (model X.prog X.w) A (setAttr (.ref a) f u) Q E s := by
  obtain ⟨vs, sl, q, hv⟩ := exc_of I.hok e
  refine xset_first I.kIn q c n fun h' tk' h1 h2 h3 => ?_
  have hn : H s.heap.objs.size = none := I.hok.fresh (Nat.le_refl _)
  have hna : a ≠ s.heap.objs.size := Nat.ne_of_lt (Heap.lt_size q)
  refine h s.heap.objs.size _ hn ?_
  have hd2 : IsXd s.heap.objs.size [(f, y)] h' := by
    refine ⟨_, h2, fun g => ?_, fun g hg => ?_⟩
    · show RelO (List.lookup g [(f, y)]) (if g = f then some u else none)
      rw [List.lookup_cons]
      by_cases z : g = f
      · subst z; rw [if_pos rfl]; simp; exact ry
      · rw [if_neg z, show (g == f) = false by simpa using z]; exact True.intro
    · by_cases z : g = f
      · subst z; simp
      · exact absurd (if_neg z) hg
  have hE : IsExc raw ch a C (some s.heap.objs.size) h' := ⟨vs, sl, h1, hv⟩
  have hu : Un X.fs [] H (upd (upd H s.heap.objs.size (xdO s.heap.objs.size [(f, y)])) a (exO raw ch a C (some s.heap.objs.size))) s.heap h' := by
    have nn : ∀ b o, s.heap.get? b = some o->b ≠ s.heap.objs.size := fun b o e => Nat.ne_of_lt (Heap.lt_size e)
    refine ⟨fun b o e' n' _ _ => h3 b o (fun z => by rw [z, e] at n'; cases n') e', fun b o e' n' _ _ => ⟨o.slots, h3 b o (fun z => by rw [z, e] at n'; cases n') e'⟩, fun b o e' n' _ => ?_, fun b o e' _ => ?_, fun b xs e' => ?_, fun b o u' e' => ?_, fun b ps e' => ⟨#[], ?_⟩⟩
    · rw [upd_ne (fun z => by rw [z, e] at n'; cases n'), upd_ne (nn b o e')]; exact n'
    · by_cases z : b = a
      · subst z; exact ⟨_, h1⟩
      · exact ⟨o, h3 b o z e'⟩
    · rw [upd_ne (fun z => by rw [z, e] at e'; cases e'), upd_ne (ne_of_none e' hn)]; exact e'
    · rw [upd_ne (fun z => by rw [z, e] at e'; cases e'), upd_ne (ne_of_none e' hn)]; exact e'
    · rw [upd_ne (fun z => by rw [z, e] at e'; cases e'), upd_ne (ne_of_none e' hn), e']; simp
  refine I.un hu fun b o e' => ?_
  by_cases z : b = a
  · subst z; rw [upd_same] at e'; cases e'; exact objOk_exc hE
  · rw [upd_ne z] at e'
    by_cases z2 : b = s.heap.objs.size
    · subst z2; rw [upd_same] at e'; cases e'; exact objOk_xd hd2
    · rw [upd_ne z2] at e'
      refine (I.hok b o e').stay (fun c' v' hc q' => h3 c' v' ?_ q') (fun c' q' => ?_) fun c' xs q' => ?_
      · rcases hc with hc | hc
        · rw [hc]; exact z
        · intro z3; rw [z3, e] at hc; cases hc
      · rw [upd_ne (fun z3 => by rw [z3, e] at q'; cases q'), upd_ne (ne_of_none q' hn)]; exact q'
      · rw [upd_ne (fun z3 => by rw [z3, e] at q'; cases q'), upd_ne (ne_of_none q' hn)]; exact q'
end
def tXFld (K : PySem.W.Frag) (ta : TE) (f : Str) : TE := fun σ H Q => ta σ H fun x H1 => ∃ a C fs v, x = .ref a /\ ExcAt H1 a C fs /\ XCls K C /\ NoAttr K C f /\ fs.lookup f = some v /\ Q v H1
def sXFld1 (K : PySem.W.Frag) (ta tv : TE) (f : Str) : TS := fun D σ H => tv σ H fun y H1 => ta σ H1 fun x H2 => ∃ a C raw, x = .ref a /\ H2 a = some (exO raw false a C none) /\ XCls K C /\ NoAttr K C f ∧
  ∀ dx, H2 dx = none->D.nx σ (upd (upd H2 dx (xdO dx [(f, y)])) a (exO raw false a C (some dx)))
section
variable {X : Cx} {o e value : Expr} {f : Str} {pos pos' : Pos} {ta tv : TE}
theorem pe_xfld (he : PE X e ta) (hb : attributeBase e f X.env (eval e X.env) = eval e X.env) : PE X (.Attribute e f pos) (tXFld X.K ta f) := by
  intro pins s σ H Q I h
  refine attr_of hb (thn (he pins s σ H _ I h) fun u s1 ⟨x, H1, I1, rx, a, C, fs, v, ex, ea, c, n, l, q⟩ => ?_)
  subst ex
  obtain rfl : u = Value.ref a := rx
  exact xgetattr_ok I1 ea c n l fun u' s2 I2 ru => ⟨v, H1, I2, ru, q⟩
theorem ps_xfld1 (ha : PE X o ta) (hv : PE X value tv) (hs : swapsWith value (some (.Attribute o f pos')) pos.line X.env = pure false) : PS X (.Assign [.Attribute o f pos'] value pos) (sXFld1 X.K ta tv f) := by
  intro pins s σ H D I h
  refine plainObj_wpAny_Assign_Attribute (thn (hv pins s σ H _ I h) fun u s1 ⟨y, H1, I1, ry, q⟩ => thn (ha pins s1 σ H1 _ I1 q) fun ov s2 ⟨x, H2, I2, rx, a, C, raw, ex, ea, c, n, q2⟩ => ?_) hs
  subst ex
  obtain rfl : ov = Value.ref a := rx
  exact xsetattr_first I2 ea c n ry fun dx s3 hdx I3 => ⟨σ, _, I3, q2 dx hdx⟩
theorem call_isinstX : CallR X (.builtin "isinstance") (fun xs H Q => ∃ a C fs c cv b, xs = [.ref a, c] /\ clsV c = some cv /\ ExcAt H a C fs /\ XCls X.K C /\ PySem.W.kitOne X.K (.ref C) cv = some b /\ Q (.bl b) H) := by
  rintro pins s σ H xs us Q I r ⟨a, C, fs, c, cv, b, rfl, hc, ea, cl, e, q⟩
  obtain ⟨u, v, rfl, ru, rv⟩ := vals2 r
  have hv : v = cv := by
    cases c <;> simp [clsV] at hc <;> subst hc <;> exact rv
  subst hv
  cases (show u = Value.ref a from ru)
  exact PySem.W.kia_one (kitx_exc (h₁ := fun h => ∃ ox od, PySem.W.InstAt h a ox C od) cl fun _ z => z) I.kIn (let ⟨ox, od, J, _⟩ := ea.inst I; ⟨ox, od, J⟩) e (fun z => nomatch z) fun tk => ⟨.bl b, H, I.tok tk, rfl, q⟩
end
open PySem PySem.Spec PyProof.Rows
def Fly (h : Heap) (e T : Addr) (fl : Value) : Prop := ∃ oe vs oT ts, h.get? e = some oe /\ oe.data = .fields vs /\ vs[1]? = some (.ref T) /\ h.get? T = some oT /\ oT.data = .fields ts /\ ts[3]? = some fl /\ T ≠ e
structure Noted (fs ch : List Addr) (e T : Addr) (fl : Value) (h h' : Heap) : Prop where
  keep : ∀ b o, b ∉ fs->b ∉ ch->b ≠ e->h.get? b = some o->h'.get? b = some o
  slot : ∀ b o, b ∈ fs->b ∉ ch->b ≠ e->h.get? b = some o->∃ sl, h'.get? b = some { o with slots := sl }
  new : h.objs.size ≤ T
  exc : ∀ oe vs, h.get? e = some oe->oe.data = .fields vs->h'.get? e = some (oe.mapFields (·.setIfInBounds 1 (.ref T)))
  fly : Fly h' e T fl
section
variable {M : Model} {A : Around} {E : Value->Shared->Prop} {s : Shared} {base : Heap} {env : Env} {outer : List Env} {L e : Addr} {oe : Obj} {vs : Array Value} {Q : Unit->Shared->Prop}
theorem entry_ok {head : Value} {b : Bool} (hfr : A.frames = some (env :: outer)) (hl : s.heap.FunFrames base (env :: outer)) (hf : env.frame = some L) (he : s.heap.get? e = some oe) (hd : oe.data = .fields vs) (hsz : 1 < vs.size)
    (h : ∀ h' T, Noted (frs (env :: outer)) [] e T (rawInt L) s.heap h'->Q () { s with heap := h' }) :
    wpAny M A (do let a ← frameOf env; let pl ← entryPlaceOf L b; let x ← EntryCells.newEntry head a .none (rawInt L) .none pl; setField (.ref e) 1 x) Q E s := by
  have hene : e ∉ frs (env :: outer) := fun hm => by
    obtain ⟨_, o, ho, hnf⟩ := hl.mem hm
    rw [he] at ho
    cases ho
    exact hnf vs hd
  refine wpAny_bind (wpAny_frameOf_fun hfr hl hf fun h1 hs => ?_)
  refine wpAny_bind (wpAny_entryPlaceOf fun pl hpl => ?_)
  unfold EntryCells.newEntry newFields
  refine wpAny_bind (wpAny_newObj_type ?_ (hpl.sizeOk5 _ _ _ _ _))
  have he1 : h1.get? e = some oe := (hs.2.1 e hene).trans he
  generalize hT : ({ cls := .type "traceback", dict := none, data := .fields ([head, .ref L, .none, rawInt L, .none] ++ (if pl.isEmpty then List.replicate 6 Value.none else pl)).toArray } : Obj) = oT
  have he2 := Heap.get?_push_of_some (h := h1) oT he1
  refine wpAny_setField he2 hd hsz (h _ h1.objs.size ?_)
  have hTe : h1.objs.size ≠ e := Nat.ne_of_gt (Heap.lt_size he1)
  have hd3 := Obj.data_mapFields hd (·.setIfInBounds 1 (Value.ref h1.objs.size))
  have he3 := Heap.get?_update_self (Obj.mapFields (·.setIfInBounds 1 (Value.ref h1.objs.size))) he2 (Obj.isFreed_of_fields hd3)
  have hT3 : ((h1.push oT).update e (Obj.mapFields (·.setIfInBounds 1 (Value.ref h1.objs.size)))).get? h1.objs.size = some oT :=
    (Heap.get?_update_other _ _ (Ne.symm hTe)).trans (Heap.get?_push_size h1 (by rw [← hT]; rfl))
  have keep : ∀ b o, b ≠ e->h1.get? b = some o->((h1.push oT).update e (Obj.mapFields (·.setIfInBounds 1 (Value.ref h1.objs.size)))).get? b = some o := fun b o hb q => by
    rw [Heap.get?_update_other _ _ (Ne.symm hb)]
    exact Heap.get?_push_of_some _ q
  refine ⟨fun b o hb _ hbe q => keep b o hbe ((hs.2.1 b hb).trans q), fun b o hb _ hbe q => ?_, ?_, fun oe' vs' q' d' => ?_, ?_⟩
  · obtain ⟨sl, z⟩ := hs.2.2 b o q
    exact ⟨sl, keep b _ hbe z⟩
  · rw [hs.1]; exact Nat.le_refl _
  · rw [he] at q'; cases q'; exact he3
  · refine ⟨_, _, oT, _, he3, hd3, by simp [hsz], hT3, by rw [← hT], ?_, hTe⟩
    simp
theorem note_new (hfr : A.frames = some (env :: outer)) (hl : s.heap.FunFrames base (env :: outer)) (hf : env.frame = some L) (he : s.heap.get? e = some oe) (hd : oe.data = .fields vs) (h1 : vs[1]? = some .none)
    (h : ∀ h' T, Noted (frs (env :: outer)) [] e T (rawInt L) s.heap h'->Q () { s with heap := h' }) : wpAny M A (noteFrame (.ref e) env) Q E s := by
  unfold noteFrame
  simp only [hf]
  refine wpAny_bind (wpAny_field he hd h1 ?_)
  rw [if_neg (by decide)]
  exact entry_ok hfr hl hf he hd (Array.getElem?_eq_some_iff.mp h1).1 h
theorem note_next {T : Addr} (hfr : A.frames = some (env :: outer)) (hl : s.heap.FunFrames base (env :: outer)) (hf : env.frame = some L) (hF : Fly s.heap e T .none)
    (h : ∀ h' T', Noted (frs (env :: outer)) [T] e T' (rawInt L) s.heap h'->Q () { s with heap := h' }) : wpAny M A (noteFrame (.ref e) env) Q E s := by
  obtain ⟨oe, vs, oT, ts, he, hd, h1, hT, hdT, h3, hTe⟩ := hF
  unfold noteFrame
  simp only [hf]
  refine wpAny_bind (wpAny_field he hd h1 ?_)
  rw [if_pos (show (Value.ref T != Value.none) = true from by simp)]
  refine wpAny_bind (wpAny_field hT hdT h3 ?_)
  rw [if_neg (show ¬ ((Value.none == rawInt L) = true) from by simp [rawInt])]
  refine wpAny_bind (wpAny_setField hT hdT (Array.getElem?_eq_some_iff.mp h3).1 ?_)
  have other : ∀ b, b ≠ T->(s.heap.update T (Obj.mapFields (·.setIfInBounds 3 Value.none))).get? b = s.heap.get? b := fun b hb => Heap.get?_update_other _ _ (Ne.symm hb)
  have nrec : ∀ b o, s.heap.get? b = some o->(∀ vs, o.data ≠ .fields vs)->b ≠ T := fun b o hb hnf q => by
    rw [q, hT] at hb
    cases hb
    exact hnf ts hdT
  have sz : (s.heap.update T (Obj.mapFields (·.setIfInBounds 3 Value.none))).objs.size = s.heap.objs.size := Heap.size_after_update _ _ _
  refine entry_ok hfr (hl.of_keeps fun b o hb hnf => ⟨o, (other b (nrec b o hb hnf)).trans hb, rfl⟩) hf ((other e (Ne.symm hTe)).trans he) hd (Array.getElem?_eq_some_iff.mp h1).1 fun h' T' N => h h' T' ?_
  dsimp only at N
  refine ⟨fun b o hb hc hbe q => N.keep b o hb (by simp) hbe ((other b (by simpa using hc)).trans q), fun b o hb hc hbe q => N.slot b o hb (by simp) hbe ((other b (by simpa using hc)).trans q), ?_, fun oe' vs' q d => N.exc oe' vs' ((other e (Ne.symm hTe)).trans q) d, N.fly⟩
  rw [← sz]; exact N.new
theorem flight_none {T : Addr} {fl : Value} (hF : Fly s.heap e T fl) (h : ∀ h', (∀ b o, b ≠ T->s.heap.get? b = some o->h'.get? b = some o)->h'.objs.size = s.heap.objs.size->Fly h' e T .none->Q () { s with heap := h' }) : wpAny M A (setFlight (.ref e) none) Q E s := by
  obtain ⟨oe, vs, oT, ts, he, hd, h1, hT, hdT, h3, hTe⟩ := hF
  have hsz : 3 < ts.size := (Array.getElem?_eq_some_iff.mp h3).1
  have other : ∀ b, b ≠ T->(s.heap.update T (Obj.mapFields (·.setIfInBounds 3 ((none : Option Addr).elim Value.none fun f => rawInt f)))).get? b = s.heap.get? b := fun b hb => Heap.get?_update_other _ _ (Ne.symm hb)
  unfold setFlight
  refine wpAny_bind (wpAny_field he hd h1 ?_)
  rw [if_pos (show (Value.ref T != Value.none) = true from by simp)]
  refine wpAny_setField hT hdT hsz (h _ (fun b o hb q => (other b hb).trans q) (Heap.size_after_update _ _ _) ?_)
  exact ⟨oe, vs, _, _, (other e (Ne.symm hTe)).trans he, hd, h1, Heap.get?_update_self _ hT (Obj.isFreed_of_fields (Obj.data_mapFields hdT _)), Obj.data_mapFields hdT _, by simp [hsz], hTe⟩
theorem Noted.landed {fs ch : List Addr} {T : Addr} {fl : Value} {h h1 h2 : Heap} (N : Noted fs ch e T fl h h1) (k : ∀ b o, b ≠ T->h1.get? b = some o->h2.get? b = some o) (F : Fly h2 e T .none) : Noted fs ch e T .none h h2 := by
  have nT : ∀ b o, h.get? b = some o->b ≠ T := fun b o q => Nat.ne_of_lt (Nat.lt_of_lt_of_le (Heap.lt_size q) N.new)
  refine ⟨fun b o hb hc hbe q => k b o (nT b o q) (N.keep b o hb hc hbe q), fun b o hb hc hbe q => ?_, N.new, fun oe vs q d => k e _ (nT e oe q) (N.exc oe vs q d), F⟩
  obtain ⟨sl, z⟩ := N.slot b o hb hc hbe q
  exact ⟨sl, k b _ (nT b o q) z⟩
theorem leave_new (hfr : A.frames = some (env :: outer)) (hl : s.heap.FunFrames base (env :: outer)) (hf : env.frame = some L) (he : s.heap.get? e = some oe) (hd : oe.data = .fields vs) (h1 : vs[1]? = some .none)
    (h : ∀ h' T, Noted (frs (env :: outer)) [] e T .none s.heap h'->Q () { s with heap := h' }) : wpAny M A (leaving env (.ref e)) Q E s := by
  unfold leaving
  exact wpAny_bind (note_new hfr hl hf he hd h1 fun h' T N => flight_none (s := { s with heap := h' }) N.fly fun h2 k _ F => h h2 T (N.landed k F))
theorem leave_next {T : Addr} (hfr : A.frames = some (env :: outer)) (hl : s.heap.FunFrames base (env :: outer)) (hf : env.frame = some L) (hF : Fly s.heap e T .none)
    (h : ∀ h' T', Noted (frs (env :: outer)) [T] e T' .none s.heap h'->Q () { s with heap := h' }) : wpAny M A (leaving env (.ref e)) Q E s := by
  unfold leaving
  exact wpAny_bind (note_next hfr hl hf hF fun h' T' N => flight_none (s := { s with heap := h' }) N.fly fun h2 k _ F => h h2 T' (N.landed k F))
end
open PySem PySem.Spec PyProof.Rows
section
variable {X : Cx} {pins : List (Addr × Obj)} {σ : St} {H : Hp} {s : Shared} {e C T : Addr} {od : Option Addr} {raw ch' : Bool} {fl : Value} {h' : Heap} {ch : List Addr}
theorem upd_id {o : HO} (q : H e = some o) : upd H e o = H := by
  funext b
  unfold upd
  split
  · rename_i z; rw [z]; exact q.symm
  · rfl
theorem Inv.noted (I : Inv X pins σ H s) (q : H e = some (exO raw ch' e C od)) (N : Noted (frs X.stack) ch e T fl s.heap h') (hc : ∀ b ∈ ch, FpOk X pins H b) :
    Inv X pins σ (upd H e (exO false ch' e C od)) { s with heap := h' } := by
  obtain ⟨vs, sl, g, hz, _, hch⟩ := exc_of I.hok q
  have ne : ∀ b, H b = none->b ≠ e := fun b n z => by rw [z, q] at n; cases n
  have tfs : ∀ b o, H b = some o->b ∉ frs X.stack := fun b o z hm => by rw [I.stkFree b hm] at z; cases z
  have tch : ∀ b o, H b = some o->b ∉ ch := fun b o z hm => by rw [(hc b hm).1] at z; cases z
  have hE : IsExc false ch' e C od h' := by
    have := N.exc _ vs g rfl
    refine ⟨vs.setIfInBounds 1 (.ref T), sl, this, by simpa using hz, (fun z => by cases z), (fun z => by simpa using hch z)⟩
  refine I.call' (s' := { s with heap := h' }) (ch := ch) rfl ⟨fun b o e' n hf hx => N.keep b o hf hx (ne b n) e', fun b o e' n hf hx => N.slot b o hf hx (ne b n) e', fun b o e' n hx => ?_, fun b o e' hx => ?_, fun b xs e' => ?_, fun b o u e' => ?_, fun b ps e' => ⟨#[], ?_⟩⟩ (fun b o e' => ?_) I.bare fun b hb => ⟨(hc b hb).2.2.2.1, (hc b hb).2.1, (hc b hb).2.2.2.2.1, (hc b hb).2.2.2.2.2⟩
  · rw [upd_ne (ne b n)]; exact n
  · by_cases z : b = e
    · subst z; obtain ⟨vs', sl', g', _⟩ := hE; exact ⟨_, g'⟩
    · by_cases hf : b ∈ frs X.stack
      · obtain ⟨sl', g'⟩ := N.slot b o hf hx z e'; exact ⟨_, g'⟩
      · exact ⟨o, N.keep b o hf hx z e'⟩
  · rw [upd_ne (fun z => by rw [z, q] at e'; cases e')]; exact e'
  · rw [upd_ne (fun z => by rw [z, q] at e'; cases e')]; exact e'
  · rw [upd_ne (fun z => by rw [z, q] at e'; cases e'), e']; simp
  · by_cases z : b = e
    · subst z; rw [upd_same] at e'; cases e'; exact objOk_exc hE
    · rw [upd_ne z] at e'
      refine (I.hok b o e').stay (fun c v hcv g' => ?_) (fun c g' => ?_) fun c xs g' => ?_
      · have hcH : ∃ u, H c = some u := by
          rcases hcv with z | z
          · exact ⟨o, by rw [z]; exact e'⟩
          · exact ⟨_, z⟩
        obtain ⟨u, hu⟩ := hcH
        have hce : c ≠ e := by
          rcases hcv with z' | z'
          · rw [z']; exact z
          · intro z2; rw [z2, q] at z'; cases z'
        exact N.keep c v (tfs c u hu) (tch c u hu) hce g'
      · rw [upd_ne (fun z2 => by rw [z2, q] at g'; cases g')]; exact g'
      · rw [upd_ne (fun z2 => by rw [z2, q] at g'; cases g')]; exact g'
theorem Inv.notedF (I : Inv X pins σ H s) (q : Flown H e C od) (N : Noted (frs X.stack) ch e T fl s.heap h') (hc : ∀ b ∈ ch, FpOk X pins H b) : Inv X pins σ H { s with heap := h' } := by
  obtain ⟨ch', q⟩ := q
  have := I.noted q N hc
  rwa [upd_id q] at this
theorem Inv.landed {T : Addr} (I : Inv X pins σ H s) (f : FpOk X pins H T) (k : ∀ b o, b ≠ T->s.heap.get? b = some o->h'.get? b = some o) : Inv X pins σ H { s with heap := h' } :=
  I.turned (it := T) (t' := s.toks) k f.1 f.2.1 f.2.2.2.1 f.2.2.2.2.1 f.2.2.2.2.2
end
def CXx (P : Program) (w : World) : CXT := fun outer H s E v s' => ∃ e C od T H', v = .ref e /\ s'.os = s.os /\ AllBare s'.gens /\ Un (frs outer) [] H H' s.heap s'.heap /\ HOk P w H' s'.heap ∧
  Flown H' e C od /\ s.heap.objs.size ≤ T /\ H' T = none /\ Fly s'.heap e T .none /\ E (.ref C) (some e) H'
abbrev XS := St->XK
def PassesS (X : Cx) (E : XS) : Prop := ∀ (pins : List (Addr × Obj)) (σ : St) (H : Hp) (s : Shared) (v : Value) (s' : Shared), Inv X pins σ H s->CXx X.prog X.w X.stack H s (E σ) v s'->X.xe v s'
def RaisesS (X : Cx) (E : XS) : Prop := ∀ (pins : List (Addr × Obj)) (σ : St) (H : Hp) (s : Shared) (e C : Addr) (od : Option Addr) (ch : Bool), Inv X pins σ H s->H e = some (exO true ch e C od)->E σ (.ref C) (some e) (upd H e (exO false ch e C od))->X.xe (.ref e) s
theorem passesN {X : Cx} : PassesS X (fun _ => E0) := fun _ _ _ _ _ _ _ ⟨_, _, _, _, _, _, _, _, _, _, _, _, _, _, h⟩ => h.elim
section
variable {P : Program} {w : World} {K : PySem.W.Frag} {mg : Str->Option Value} {base : Heap} {N : List Str} {qual : Str} {scope : Scope} {f : Addr} {cd : Value} {A : Around} {outer : List Env} {s₀ : Shared} {H₀ : Hp} {E : XK}
theorem passesB : PassesS (cxOf (CXx P w) P w K mg base N qual scope f cd A outer s₀ H₀ E) (fun _ => E) := by
  rintro pins σ H s v s' I ⟨e, C, od, T, H', rfl, os, bare, un, hok, he, hT, nT, fly, hE⟩
  have I' := I.call' (ch := []) os un hok bare (fun b z => absurd z (by simp))
  have hTn : FpOk (cxOf (CXx P w) P w K mg base N qual scope f cd A outer s₀ H₀ E) pins H' T := I.fpOk hT nT
  show wpAny _ _ (leaving _ (.ref e)) _ _ _
  refine leave_next I.ok.frames I'.stack rfl fly fun h2 T2 Nd => ?_
  have J := I'.notedF (ch := [T]) he Nd (fun b hb => by have := List.mem_singleton.mp hb; subst this; exact hTn)
  exact ⟨e, C, od, T2, H', rfl, J.os, J.bare, J.base, J.hok, he, Nat.le_trans I'.sz Nd.new, I'.hok.fresh Nd.new, Nd.fly, hE⟩
theorem raisesB : RaisesS (cxOf (CXx P w) P w K mg base N qual scope f cd A outer s₀ H₀ E) (fun _ => E) := by
  rintro pins σ H s e C od ch I he hE
  obtain ⟨vs, sl, g, hz, hr⟩ := exc_of I.hok he
  show wpAny _ _ (leaving _ (.ref e)) _ _ _
  refine leave_new I.ok.frames I.stack rfl g rfl (hr.1 rfl) fun h2 T2 Nd => ?_
  have J := I.noted (ch := []) he Nd (fun b hb => by cases hb)
  exact ⟨e, C, od, T2, _, rfl, J.os, J.bare, J.base, J.hok, ⟨ch, upd_same⟩, Nat.le_trans I.sz Nd.new, by rw [upd_ne (fun z => by rw [← z] at g; exact absurd (Heap.lt_size g) (Nat.not_lt.mpr Nd.new))]; exact I.hok.fresh Nd.new, Nd.fly, hE⟩
theorem Fun.okX {x qual : Str} {st : Stmt} {f : Addr} {fd : FuncData} {N ps : List Str} {k : Nat} {sp : Sp} (F : Fun K x qual st f fd) (S : FnScope N ps (defScope st)) (len : ∀ vs H Q E, sp vs H Q E->vs.length = ps.length)
    (hbody : ∀ (cdv : Value) (A : Around) (outer : List Env) (s : Shared) (H : Hp) (vs : List V) (Q : VK) (E : XK), Room k (A.deeper (envOfC qual (defScope st) s.heap.objs.size f cdv))->sp vs H Q E →
      ∃ t, PSs (cxOf (CXx P w) P w K mg base N qual (defScope st) f cdv A outer s H E) (defBody st) t /\ t { nx := fun _ H' => Q .non H', rt := Q } (start N vs) H) : FnOk P w K mg base (CXx P w) (k + 1) f fd ps sp := by
  obtain ⟨oc, od, kV, doc, pm, an, cdv, ct, osl, rfl, lk, hcd⟩ := F.ex
  exact fn_of lk hcd S len fun A outer s H vs Q E hr hsp => hbody cdv A outer s H vs Q E hr hsp
end
open PySem PySem.Spec PyProof.Rows
section
variable (P : Program) (w : World) (K : PySem.W.Frag) (mg : Str->Option Value) (base : Heap)
structure DefX (x : Str) (k : Nat) (ps : List Str) (sp : Sp) : Prop where
  ex : ∃ (f : Addr) (fd : FuncData), mg x = some (.ref f) /\ FnOk P w K mg base (CXx P w) k f fd ps sp /\ PySem.W.keepIn K (.ref f) = true /\ Binds K fd ps []
structure MakeX (x : Str) (C : Addr) (k : Nat) (ps : List Str) (sp : Sp) : Prop where
  ex : ∃ (f : Addr) (fd : FuncData), mg x = some (.ref C) /\ Mk K C f /\ FnOk P w K mg base (CXx P w) k f fd ps sp /\ Binds K fd ps []
structure XMk (K : PySem.W.Frag) (C f : Addr) : Prop where
  cls : XCls K C
  init : PySem.W.findIn K (.ref C) "__init__" = some (some (.ref f))
  fn : PySem.W.isFn K (.ref f) = true
  kp : PySem.W.keepIn K (.ref C) = true
structure ExcX (x : Str) (C : Addr) (k : Nat) (ps : List Str) (sp : Sp) : Prop where
  ex : ∃ (f : Addr) (fd : FuncData), mg x = some (.ref C) /\ XMk K C f /\ FnOk P w K mg base (CXx P w) k f fd ps sp /\ Binds K fd ps []
end
def tCallS (sp : Sp) (E : XS) (t : TA) : TE := fun σ H Q => t σ H fun vs H1 => sp vs H1 Q (E σ)
def tMakeS (C : Addr) (sp : Sp) (E : XS) (t : TA) : TE := fun σ H Q => t σ H fun vs H1 => ∀ x dx, H1 x = none->H1 dx = none->dx ≠ x →
  sp (.ref x :: vs) (upd (upd H1 dx (.own x)) x (.ins C dx [])) (fun v H2 => v = .non /\ Q (.ref x) H2) (E σ)
def tExc (C : Addr) (sp : Sp) (t : TA) : TE := fun σ H Q => t σ H fun vs H1 => vs.length ≤ sizeLine /\ ∀ x, H1 x = none->sp (.ref x :: vs) (upd H1 x (exO true false x C none)) (fun v H2 => v = .non /\ Q (.ref x) H2) E0
section
variable {X : Cx} {k : Nat} {f C : Addr} {fd : FuncData} {ps : List Str} {sp : Sp} {E : XS} {x m : Str} {p pos apos : Pos} {e o : Expr} {es : List Expr} {ta : TE} {t : TA}
theorem run_fnS {pins : List (Addr × Obj)} {σ : St} {H : Hp} {s : Shared} {Q : VK} {us : List Value} {vs : List V} (F : FnOk X.prog X.w X.K X.mg X.base (CXx X.prog X.w) k f fd ps sp) (hr : Room k X.A) (hb : Binds X.K fd ps []) (hx : PassesS X E)
    (I : Inv X pins σ H s) (r : Vals vs us) (h : sp vs H Q (E σ)) : wpAny (model X.prog X.w) X.A (call (.ref f) us) (EP X pins σ Q) X.xe s := by
  have hl : us.length = ps.length := by rw [← r.length]; exact F.len _ _ _ _ h
  have hb' := hb s us I.kIn (by rw [List.append_nil]; exact hl)
  rw [List.append_nil] at hb'
  refine wpAny_call (codeAny_mono (F.run X.A X.stack s H ⟨us, []⟩ us vs Q (E σ) hr I.env0 hb' r h) fun r s' hq => ?_)
  cases r with
  | error e => exact hx pins σ H s e s' I hq
  | ok fl =>
    cases fl with
    | ret u => exact I.after hq
    | next => exact False.elim hq
    | brk => exact False.elim hq
    | cont => exact False.elim hq
theorem pe_callS (D : DefX X.prog X.w X.K X.mg X.base x k ps sp) (hx : PassesS X E) (hr : Room k X.A) (hg : Gl X x) (ha : PA X (e :: es) t)
    (hdb : (x == ("__debug__" : Str)) = false := by decide) (he : starEach (e :: es) X.env = (false, eval e X.env) :: starEach es X.env := by rfl) (hpl : (backTo pos (starEach es X.env)).any (·.1) = false := by rfl) :
    PE X (.Call (.Name x p) (e :: es) [] pos) (tCallS sp E t) := by
  obtain ⟨f, fd, m, F, kp, b⟩ := D.ex
  intro pins s σ H Q I h
  refine wpAny_Call_Name_kw (ld_glob I hg m ?_ hdb)
  refine PySem.W.callWith_K (h₀ := X.base) I.ok.mod.kin kp (thn (ha pos pins s σ H _ I h) fun us s1 ⟨vs, H1, I1, r, q⟩ => ⟨I1.kIn, ?_⟩) he hpl
  exact run_fnS F hr b hx I1 r q
theorem run_makeS {pins : List (Addr × Obj)} {σ : St} {H : Hp} {s : Shared} {Q : VK} {us : List Value} {vs : List V} (M : Mk X.K C f) (F : FnOk X.prog X.w X.K X.mg X.base (CXx X.prog X.w) k f fd ps sp) (hr : Room (k + 1) X.A) (hb : Binds X.K fd ps [])
    (hx : PassesS X E) (I : Inv X pins σ H s) (r : Vals vs us)
    (h : ∀ x dx, H x = none->H dx = none->dx ≠ x->sp (.ref x :: vs) (upd (upd H dx (.own x)) x (.ins C dx [])) (fun v H2 => v = .non /\ Q (.ref x) H2) (E σ)) :
    wpAny (model X.prog X.w) X.A (call (.ref C) us) (EP X pins σ Q) X.xe s := by
  have hq := h (s.heap.objs.size + 1) s.heap.objs.size (I.hok.fresh (Nat.le_succ _)) (I.hok.fresh (Nat.le_refl _)) (Nat.ne_of_lt (Nat.lt_succ_self _))
  have I2 := Inv.made (C := C) I
  have r2 : Vals (V.ref (s.heap.objs.size + 1) :: vs) (Value.ref (s.heap.objs.size + 1) :: us) := .cons rfl r
  have hl : (Value.ref (s.heap.objs.size + 1) :: us).length = ps.length := by
    have e := r2.length
    rw [F.len _ _ _ _ hq] at e
    exact e.symm
  have hb' := hb _ (Value.ref (s.heap.objs.size + 1) :: us) I2.kIn (by rw [List.append_nil]; exact hl)
  rw [List.append_nil] at hb'
  refine wpAny_call (make_map (f := f) I.kIn M.makes M.init (beq_iff_eq.mp M.fn) (codeAny_mono (F.run _ X.stack _ _ ⟨Value.ref (s.heap.objs.size + 1) :: us, []⟩ (Value.ref (s.heap.objs.size + 1) :: us) _ _ (E σ) (hr.make C us [])
    (I2.env0.make C us []) hb' r2 hq) fun r s' hq' => ?_))
  cases r with
  | error e => exact hx pins σ _ _ e s' I2 hq'
  | ok fl =>
    cases fl with
    | ret u =>
      obtain ⟨v, H', I3, rv, ev, q3⟩ := I2.after hq'
      subst ev
      exact ⟨rv, ⟨V.ref (s.heap.objs.size + 1), H', I3, rfl, q3⟩⟩
    | next => exact False.elim hq'
    | brk => exact False.elim hq'
    | cont => exact False.elim hq'
theorem pe_makeS (D : MakeX X.prog X.w X.K X.mg X.base x C k ps sp) (hx : PassesS X E) (hr : Room (k + 1) X.A) (hg : Gl X x) (ha : PA X (e :: es) t)
    (hdb : (x == ("__debug__" : Str)) = false := by decide) (he : starEach (e :: es) X.env = (false, eval e X.env) :: starEach es X.env := by rfl) (hpl : (backTo pos (starEach es X.env)).any (·.1) = false := by rfl) :
    PE X (.Call (.Name x p) (e :: es) [] pos) (tMakeS C sp E t) := by
  obtain ⟨f, fd, m, M, F, b⟩ := D.ex
  intro pins s σ H Q I h
  refine wpAny_Call_Name_kw (ld_glob I hg m ?_ hdb)
  refine PySem.W.callWith_K (h₀ := X.base) I.ok.mod.kin M.kp (thn (ha pos pins s σ H _ I h) fun us s1 ⟨vs, H1, I1, r, q⟩ => ⟨I1.kIn, ?_⟩) he hpl
  exact run_makeS M F hr b hx I1 r q
theorem Inv.xmade {pins : List (Addr × Obj)} {σ : St} {H : Hp} {s : Shared} {rest : List Value} (I : Inv X pins σ H s) :
    Inv X pins σ (upd H (s.heap.objs.size + 1) (exO true false (s.heap.objs.size + 1) C none)) { s with heap := (s.heap.push (tupNew rest)).push (excNew C s.heap.objs.size) } := by
  refine I.laid (a := s.heap.objs.size + 1) (t' := s.toks) (fun b u q => xkeeps b u q) (Nat.le_succ _) (objOk_exc ⟨_, _, xnew_at, rfl, (fun _ => rfl), (fun _ => rfl)⟩)
theorem run_exc {pins : List (Addr × Obj)} {σ : St} {H : Hp} {s : Shared} {Q : VK} {us : List Value} {vs : List V} (M : XMk X.K C f) (F : FnOk X.prog X.w X.K X.mg X.base (CXx X.prog X.w) k f fd ps sp) (hr : Room (k + 1) X.A) (hb : Binds X.K fd ps [])
    (I : Inv X pins σ H s) (r : Vals vs us) (hlen : vs.length ≤ sizeLine) (h : ∀ x, H x = none->sp (.ref x :: vs) (upd H x (exO true false x C none)) (fun v H2 => v = .non /\ Q (.ref x) H2) E0) :
    wpAny (model X.prog X.w) X.A (call (.ref C) us) (EP X pins σ Q) X.xe s := by
  have hq := h (s.heap.objs.size + 1) (I.hok.fresh (Nat.le_succ _))
  have I2 := Inv.xmade (C := C) (rest := us) I
  have r2 : Vals (V.ref (s.heap.objs.size + 1) :: vs) (Value.ref (s.heap.objs.size + 1) :: us) := .cons rfl r
  have hl : (Value.ref (s.heap.objs.size + 1) :: us).length = ps.length := by
    have e := r2.length
    rw [F.len _ _ _ _ hq] at e
    exact e.symm
  have hb' := hb _ (Value.ref (s.heap.objs.size + 1) :: us) I2.kIn (by rw [List.append_nil]; exact hl)
  rw [List.append_nil] at hb'
  have run := F.run _ X.stack _ _ ⟨Value.ref (s.heap.objs.size + 1) :: us, []⟩ (Value.ref (s.heap.objs.size + 1) :: us) _ _ E0 (hr.make C us []) (I2.env0.make C us []) hb' r2 hq
  obtain ⟨hp, g, d, t, os⟩ := s
  refine xcall_init I.kIn M.cls (by rw [← r.length]; exact hlen) M.init (beq_iff_eq.mp M.fn) (wpAny_call (codeAny_mono run fun r s' hq' => ?_))
  cases r with
  | error e =>
    obtain ⟨_, _, _, _, _, _, _, _, _, _, _, _, _, _, z⟩ := hq'
    exact z.elim
  | ok fl =>
    cases fl with
    | ret u =>
      obtain ⟨v, H', I3, rv, ev, q3⟩ := I2.after hq'
      subst ev
      exact ⟨rv, ⟨V.ref (hp.objs.size + 1), H', I3, rfl, q3⟩⟩
    | next => exact False.elim hq'
    | brk => exact False.elim hq'
    | cont => exact False.elim hq'
theorem pe_exc (D : ExcX X.prog X.w X.K X.mg X.base x C k ps sp) (hr : Room (k + 1) X.A) (hg : Gl X x) (ha : PA X (e :: es) t)
    (hdb : (x == ("__debug__" : Str)) = false := by decide) (he : starEach (e :: es) X.env = (false, eval e X.env) :: starEach es X.env := by rfl) (hpl : (backTo pos (starEach es X.env)).any (·.1) = false := by rfl) :
    PE X (.Call (.Name x p) (e :: es) [] pos) (tExc C sp t) := by
  obtain ⟨f, fd, m, M, F, b⟩ := D.ex
  intro pins s σ H Q I h
  refine wpAny_Call_Name_kw (ld_glob I hg m ?_ hdb)
  refine PySem.W.callWith_K (h₀ := X.base) I.ok.mod.kin M.kp (thn (ha pos pins s σ H _ I h) fun us s1 ⟨vs, H1, I1, r, hlen, q⟩ => ⟨I1.kIn, ?_⟩) he hpl
  exact run_exc M F hr b I1 r hlen q
end
def sRaise (K : PySem.W.Frag) (te : TE) (E : XS) : TS := fun _ σ H => te σ H fun v H1 => ∃ e C od, v = .ref e /\ H1 e = some (exO true false e C od) /\ XCls K C /\ E σ (.ref C) (some e) (upd H1 e (exO false false e C od))
section
variable {X : Cx} {x : Expr} {te : TE} {E : XS} {pos : Pos}
theorem raise_ok {M : Model} {A : Around} {E : Value->Shared->Prop} {env : Env} {s : Shared} {x : Sem Value} {Q : Flow->Shared->Prop} (hh : A.handled = none)
    (h : wpAny M A x (fun v s₁ => ∃ e vs sl C od, v = .ref e /\ s₁.heap.get? e = some ⟨.ref C, od, .fields vs, sl⟩ /\ vs[1]? = some .none /\ XObj s₁.heap C /\ E (.ref e) s₁) E s) :
    wpAny M A (raiseStmt env (some x) none) Q E s := by
  unfold raiseStmt
  refine wpAny_bind (wpAny_mono h (fun v s₁ h₁ => ?_) fun _ _ x => x)
  obtain ⟨e, vs, sl, C, od, rfl, he, h1, hC, hE⟩ := h₁
  obtain ⟨nm, qn, N, bs, bm, sn, sub, ab, col, dd, k0, k1, k2, k3, k5, hC, hb⟩ := hC.ex
  have hcB := own_has (C := C) hb (T := "BaseException") (by decide)
  obtain ⟨hp, g, d, tk, os⟩ := s₁
  repeat (first
    | with_reducible refine wpAny_loadPart_at he ?_
    | with_reducible refine wpAny_loadPart_at hC ?_
    | (with_reducible refine wpAny_isSubtype_exc hC ?_; rw [hcB])
    | with_reducible refine wpAny_field he rfl h1 ?_
    | wp_step)
  exact wpAny_raiseNew_none hh hE
theorem ps_raise (hc : X.calm = true) (hx : RaisesS X E) (he : PE X x te) : PS X (.Raise (some x) none pos) (sRaise X.K te E) := by
  intro pins s σ H D I h
  rw [arm_exec_Raise]
  have hh := I.ok.hd hc
  have key : wpAny (model X.prog X.w) X.A (eval x X.env) (fun v s₁ => ∃ e vs sl C od, v = .ref e /\ s₁.heap.get? e = some ⟨.ref C, od, .fields vs, sl⟩ /\ vs[1]? = some .none /\ XObj s₁.heap C /\ X.xe (.ref e) s₁) X.xe s := by
    refine thn (he pins s σ H _ I h) fun u s1 ⟨v, H1, I1, rv, e, C, od, ev, eo, hcl, hE⟩ => ?_
    subst ev
    cases (show u = Value.ref e from rv)
    obtain ⟨vs, sl, g, hz, hr⟩ := exc_of I1.hok eo
    exact ⟨e, vs, sl, C, od, rfl, g, hr.1 rfl, hcl.at I1.kIn, hx pins σ H1 s1 e C od false I1 eo hE⟩
  exact wpAny_bind (wpAny_standAt (raise_ok hh (wpAny_bind (wpAny_mono key (fun v s₁ h₁ => wpAny_bind (wpAny_standAt (wpAny_pure h₁))) fun _ _ x => x))))
end
open PySem PySem.Spec PyProof.Rows
section
variable {M : Model} {A : Around} {E : Value->Shared->Prop} {s : Shared} {K : PySem.W.Frag} {e C DC : Addr} {b : Bool}
theorem xmatch {ox : Obj} {Q : Bool->Shared->Prop} (X : K.In s.heap) (hx : s.heap.get? e = some ox) (hcl : ox.cls = .ref C) (cd : XCls K DC) (hm : PySem.W.mroIn K C (.ref DC) = some b) (h : Q b s) :
    wpAny M A (excMatches (.ref e) (.ref DC)) Q E s := by
  obtain ⟨hp, g, d, t, os⟩ := s
  obtain ⟨nm, qn, N, bs, bm, sn, sub, ab, col, dd, k0, k1, k2, k3, k5, hC, hb⟩ := (cd.at X).ex
  have hcB := own_has (C := DC) hb (T := "BaseException") (by decide)
  have f := tc_notTuple
  have L0 : PySem.W.Looks M hp (typeOf (.ref e)) (.ref C) := hcl ▸ (PySem.W.Looks.ld hx).andThen .now
  have L1 := PySem.W.looks_mroIn (M := M) X hm
  unfold excMatches
  repeat (first
    | with_reducible refine wpAny_loadPart_at hC ?_
    | (with_reducible refine wpAny_isSubtype_exc hC ?_; rw [hcB])
    | with_reducible refine L0.at ?_
    | with_reducible refine L1.at ?_
    | wp_step)
  cases b
  · wp_walk; exact h
  · wp_walk; exact h
end
abbrev Cx.held (X : Cx) (e : Addr) (pn : List (Addr × Obj)) : Cx := { X with A := X.A.mark (some (.ref e)), calm := false, pn := pn, xe := fun _ _ => False }
abbrev Cx.tried (X : Cx) (pn : List (Addr × Obj)) (xe : Value->Shared->Prop) : Cx := { X with pn := pn, xe := xe }
section
variable {X : Cx} {pins : List (Addr × Obj)} {σ : St} {H : Hp} {s : Shared} {e : Addr} {xe : Value->Shared->Prop}
theorem Inv.held (I : Inv X pins σ H s) (e : Addr) : Inv (X.held e (X.pn ++ pins)) [] σ H s :=
  ⟨⟨I.ok.mod, I.ok.kind, I.ok.glob, I.ok.blt, I.ok.above, I.ok.inj, I.ok.has, I.ok.cab, (fun z => by cases z), I.ok.frames, I.ok.stk, I.ok.exf, I.ok.bs, I.ok.bsz, I.ok.noex, I.ok.exfs, I.ok.funs, I.ok.frf⟩,
    I.os, I.bare, I.base, I.loc, I.cell, I.free, I.freeC, fun p hp => I.pin p (by simpa using hp), I.hok, I.len⟩
theorem Inv.unheld (ok : X.Ok) (I : Inv (X.held e (X.pn ++ pins)) [] σ H s) : Inv X pins σ H s :=
  ⟨ok, I.os, I.bare, I.base, I.loc, I.cell, I.free, I.freeC, fun p hp => I.pin p (by simpa using hp), I.hok, I.len⟩
theorem Inv.tried (I : Inv X pins σ H s) : Inv (X.tried (X.pn ++ pins) xe) [] σ H s :=
  ⟨⟨I.ok.mod, I.ok.kind, I.ok.glob, I.ok.blt, I.ok.above, I.ok.inj, I.ok.has, I.ok.cab, I.ok.hd, I.ok.frames, I.ok.stk, I.ok.exf, I.ok.bs, I.ok.bsz, I.ok.noex, I.ok.exfs, I.ok.funs, I.ok.frf⟩,
    I.os, I.bare, I.base, I.loc, I.cell, I.free, I.freeC, fun p hp => I.pin p (by simpa using hp), I.hok, I.len⟩
theorem Inv.untried {ps : List (Addr × Obj)} (ok : X.Ok) (I : Inv (X.tried (X.pn ++ pins) xe) ps σ H s) : Inv X pins σ H s :=
  ⟨ok, I.os, I.bare, I.base, I.loc, I.cell, I.free, I.freeC, fun p hp => I.pin p (List.mem_append_left _ hp), I.hok, I.len⟩
theorem unbind_ok {M : Model} {A : Around} {E : Value->Shared->Prop} {i : Nat} {n : Str} {pos : Pos} {Q : Unit->Shared->Prop} (I : Inv X pins σ H s) (hN : X.N.Nodup) (hi : X.N[i]? = some n) (hl : X.env.scope.names.lookup n = some .local)
    (h : ∀ s', Inv X pins (σ.set i none) H s'->Q () s') : wpAny M A (do bindName X.env n .none; unbindBehindTheSuite X.env n pos) Q E s := by
  refine wpAny_bind (wpAny_bindName (store_ok (v := .non) I hN hi (.inl hl) rfl (fun s' I' => ?_) (.inr hl)))
  unfold unbindBehindTheSuite
  obtain ⟨m, hn, hm⟩ := id I'.loc
  have hcls : (X.env.scope.kind == .class || (X.env.scope.kind == .module && X.env.locals != X.env.globals)) = false := by rw [I.ok.kind]; rfl
  have hiσ : i < σ.length := by rw [I.len]; exact (List.getElem?_eq_some_iff.mp hi).1
  obtain ⟨u, ru, lk⟩ := hm i n .non hi (by rw [List.getElem?_set_self hiσ]) (.inl hl)
  have hv : m n = some u := by
    rcases lk with ⟨_, z⟩ | ⟨k, _⟩
    · exact z
    · rcases k with k | k
      · have k : X.env.scope.names.lookup n = some .cell := k
        rw [hl] at k; cases k
      · have k : X.env.scope.names.lookup n = some .free := k
        rw [hl] at k; cases k
  refine wpAny_onRaise (wpAny_unbindName_local (env := X.env) hl hn hv hcls fun h' u' hn' hs => h _ ?_)
  obtain ⟨oL, _, _, hoL, _⟩ := id hn
  have cne := I'.cne
  refine ⟨I'.ok, I'.os, I'.bare, ⟨fun b o e n' hb hx => ?_, fun b o e n' hb hx => ?_, I'.base.free, fun b o e hx => ?_, I'.base.tups, I'.base.frzs, I'.base.tbls⟩, ⟨_, hn', fun j y v' e1 e2 e3 => ?_⟩, fun y c q => ?_, I'.free, I'.freeC, fun p hp => ?_, fun b ob q => ?_, by simpa using I.len⟩
  · exact (hs.2 b (Nat.ne_of_lt (Nat.lt_of_lt_of_le (Heap.lt_size e) I'.ok.above))).trans (I'.base.keep b o e n' hb hx)
  · obtain ⟨sl, e1⟩ := I'.base.slot b o e n' hb hx
    exact ⟨sl, (hs.2 b (Nat.ne_of_lt (Nat.lt_of_lt_of_le (Heap.lt_size e) I'.ok.above))).trans e1⟩
  · obtain ⟨o', e1⟩ := I'.base.there b o e hx
    exact ⟨o', (hs.2 b (Nat.ne_of_lt (Nat.lt_of_lt_of_le (Heap.lt_size e) I'.ok.above))).trans e1⟩
  · by_cases hj : j = i
    · subst hj
      rw [List.getElem?_set_self hiσ] at e2
      cases e2
    · rw [List.getElem?_set_ne (Ne.symm hj)] at e2
      obtain ⟨u2, r2, q⟩ := hm j y v' e1 (by rw [List.getElem?_set_ne (Ne.symm hj)]; exact e2) e3
      refine ⟨u2, r2, ?_⟩
      rcases q with ⟨k, e⟩ | ⟨k, c, e, z⟩
      · refine .inl ⟨k, ?_⟩
        have : y ≠ n := fun e => hj (nodup_ix hN e1 (e ▸ hi))
        simp [this, e]
      · exact .inr ⟨k, c, e, z.sameBut hs (cne y c e)⟩
  · obtain ⟨w', z⟩ := I'.cell y c q
    exact ⟨w', z.sameBut hs (cne y c q)⟩
  · obtain ⟨e, n', ne, nf, d⟩ := I'.pin p hp
    exact ⟨(hs.2 p.1 ne).trans e, n', ne, nf, d⟩
  · refine (I'.hok b ob q).stay (fun c w' hc q' => (hs.2 c ?_).trans q') (fun _ q' => q') fun _ _ q' => q'
    rintro rfl
    rcases hc with z | z
    · rw [← z, I'.free] at q; cases q
    · rw [I'.free] at z; cases z
end
abbrev TH := Addr->Addr->TS
def PH (X : Cx) (hs : List ExceptHandler) (th : TH) : Prop :=
  ∀ (pins : List (Addr × Obj)) (s : Shared) (σ : St) (H : Hp) (D : Ends) (e C : Addr) (od : Option Addr) (T : Addr), Inv X pins σ H s->Flown H e C od->Fly s.heap e T .none->FpOk X pins H T->th e C D σ H →
    wpAny (model X.prog X.w) X.A (handleBy (.ref e) X.env hs) (SP X pins D) X.xe s
def hNil : TH := fun _ _ _ _ _ => False
theorem ph_nil {X : Cx} : PH X [] hNil := fun _ _ _ _ _ _ _ _ _ _ _ _ _ h => h.elim
def hAs (K : PySem.W.Frag) (DC : Addr) (i : Nat) (ts : Addr->List (Addr × Obj)->TS) (tr : TH) : TH := fun e C D σ H => ∃ b, PySem.W.mroIn K C (.ref DC) = some b /\ if b = true then
  ∀ pn, ts e pn { nx := fun σ' H' => D.nx (σ'.set i none) H', rt := D.rt, bk := fun σ' H' => D.bk (σ'.set i none) H', ct := fun σ' H' => D.ct (σ'.set i none) H' } (σ.set i (some (.ref e))) H else tr e C D σ H
def hPl (K : PySem.W.Frag) (DC : Addr) (ts : Addr->List (Addr × Obj)->TS) (tr : TH) : TH := fun e C D σ H => ∃ b, PySem.W.mroIn K C (.ref DC) = some b /\ if b = true then (∀ pn, ts e pn D σ H) else tr e C D σ H
section
variable {X : Cx} {x n : Str} {i : Nat} {DC : Addr} {np pos : Pos} {b0 : Stmt} {suite : List Stmt} {rest : List ExceptHandler} {ts : Addr->List (Addr × Obj)->TS} {tr : TH}
theorem SP.untried {pins : List (Addr × Obj)} {D : Ends} {xe : Value->Shared->Prop} {fl : Flow} {s' : Shared} (ok : X.Ok) (h : SP (X.tried (X.pn ++ pins) xe) [] D fl s') : SP X pins D fl s' := by
  cases fl with
  | next => obtain ⟨σ', H', J, q⟩ := h; exact ⟨σ', H', J.untried ok, q⟩
  | brk => obtain ⟨σ', H', J, q⟩ := h; exact ⟨σ', H', J.untried ok, q⟩
  | cont => obtain ⟨σ', H', J, q⟩ := h; exact ⟨σ', H', J.untried ok, q⟩
  | ret u => obtain ⟨v, σ', H', J, r, q⟩ := h; exact ⟨v, σ', H', J.untried ok, r, q⟩
theorem ph_as (hg : Gl X x) (hm : X.mg x = some (.ref DC)) (c : XCls X.K DC) (hN : X.N.Nodup) (hi : X.N[i]? = some n) (hl : X.env.scope.names.lookup n = some .local)
    (hs : ∀ e pn, PSs (X.held e pn) (b0 :: suite) (ts e pn)) (hr : PH X rest tr) (hd : (x == ("__debug__" : Str)) = false := by decide) :
    PH X (.ExceptHandler (some (.Name x np)) (some n) (b0 :: suite) pos :: rest) (hAs X.K DC i ts tr) := by
  rintro pins s σ H D e C od T I q fly fp ⟨b, hb, h⟩
  obtain ⟨vs, sl, g, _⟩ := exc_of I.hok q.choose_spec
  have IH := I.held e
  refine wpAny_handleBy_cons (codeAny_handlers_test (ld_glob (X := X.held e (X.pn ++ pins)) IH hg hm ?_ hd)) (by intro z; cases z)
  refine xmatch I.kIn g rfl c hb ?_
  cases b with
  | false =>
    rw [if_neg (by decide)] at h
    exact hr pins s σ H D e C od T I q fly fp h
  | true =>
    rw [if_pos rfl] at h
    refine codeAny_handlers_suite_as (flight_none fly fun h2 k _ fly2 => ?_)
    have I2 := I.landed fp k
    refine store_ok (X := X.held e (X.pn ++ pins)) (I2.held e) hN hi (.inl hl) (v := .ref e) rfl (fun s3 I3 => ?_) (.inr hl)
    refine wpAny_mono (hs e _ [] s3 _ _ _ I3 (h _)) (fun fl s4 h4 => ?_) fun _ _ z => z.elim
    cases fl with
    | next => obtain ⟨σ', H', J, q'⟩ := h4; exact unbind_ok (J.unheld I.ok) hN hi hl fun s5 I5 => ⟨_, _, I5, q'⟩
    | brk => obtain ⟨σ', H', J, q'⟩ := h4; exact unbind_ok (J.unheld I.ok) hN hi hl fun s5 I5 => ⟨_, _, I5, q'⟩
    | cont => obtain ⟨σ', H', J, q'⟩ := h4; exact unbind_ok (J.unheld I.ok) hN hi hl fun s5 I5 => ⟨_, _, I5, q'⟩
    | ret u => obtain ⟨v, σ', H', J, r, q'⟩ := h4; exact unbind_ok (J.unheld I.ok) hN hi hl fun s5 I5 => ⟨v, _, _, I5, r, q'⟩
def tTry (tb : List (Addr × Obj)->(Value->Shared->Prop)->XS->TS) (th : TH) : TS := fun D σ H => ∀ pn xe, tb pn xe (fun σ' cls oe H' => ∃ e C, cls = .ref C /\ oe = some e /\ th e C D σ' H') D σ H
theorem ps_try {body : List Stmt} {h0 : ExceptHandler} {hs : List ExceptHandler} {tb : List (Addr × Obj)->(Value->Shared->Prop)->XS->TS} {th : TH} (hb : ∀ pn xe E, PassesS (X.tried pn xe) E->PSs (X.tried pn xe) body (tb pn xe E)) (hh : PH X (h0 :: hs) th) (hst : X.stack = X.env :: X.outer) (hfr : X.env.frame = some X.env.locals) :
    PS X (.Try body (h0 :: hs) [] [] pos) (tTry tb th) := by
  intro pins s σ H D I h
  refine wpAny_Try_except ?_
  refine wpAny_mono (hb (X.pn ++ pins) (fun v s₁ => wpAny (model X.prog X.w) X.A (noteFrame v X.env) (fun _ s₂ => wpAny (model X.prog X.w) X.A (setFlight v none) (fun _ s₃ => wpAny (model X.prog X.w) X.A (handleBy v X.env (h0 :: hs)) (SP X pins D) X.xe s₃) X.xe s₂) X.xe s₁)
    (fun σ' cls oe H' => ∃ e C, cls = .ref C /\ oe = some e /\ th e C D σ' H') ?_ [] s σ H D I.tried (h _ _)) (fun fl s1 h1 => ?_) fun v s1 h1 => h1
  · rintro ps σ' H1 s1 v s2 J ⟨e, C, od, T, H2, rfl, os, bare, un, hok, he, hT, nT, fly, e', C', ec, ee, hth⟩
    cases ec
    cases ee
    have J2 := J.call' (ch := []) os un hok bare (fun b z => absurd z (by simp))
    have K2 : Inv X pins σ' H2 s2 := J2.untried I.ok
    have fp : FpOk X pins H2 T := (J.untried I.ok).fpOk hT nT
    have fr : X.A.frames = some (X.env :: X.outer) := by rw [← hst]; exact I.ok.frames
    show wpAny _ _ (noteFrame (.ref e) X.env) _ _ _
    refine note_next fr (by rw [← hst]; exact K2.stack) hfr fly fun h3 T3 Nd => ?_
    rw [← hst] at Nd
    have K3 := K2.notedF (ch := [T]) he Nd (fun b hb => by have := List.mem_singleton.mp hb; subst this; exact fp)
    have fp3 : FpOk X pins H2 T3 := K2.fpOk Nd.new (K2.hok.fresh Nd.new)
    refine flight_none (s := { s2 with heap := h3 }) Nd.fly fun h4 k4 _ fly4 => ?_
    have K4 := K3.landed fp3 k4
    exact hh pins _ σ' H2 D e C od T3 K4 he fly4 fp3 hth
  · cases fl with
    | next => exact wpAny_execs_nil (SP.untried I.ok h1)
    | brk => exact SP.untried I.ok h1
    | cont => exact SP.untried I.ok h1
    | ret u => exact SP.untried I.ok h1
end
open PySem PySem.Spec PyProof.Rows
theorem cxx_no {P : Program} {w : World} {o : List Env} {H : Hp} {s s' : Shared} {e : Value} (h : CXx P w o H s (fun _ _ _ => False) e s') : False := by
  obtain ⟨_, _, _, _, _, _, _, _, _, _, _, _, _, _, z⟩ := h
  exact z
def sp_x1 (C : Addr) (f : Str) : Sp := fun vs H Q _ => ∃ p y, vs = [.ref p, y] /\ H p = some (exO true false p C none) /\ ∀ dx, H dx = none->Q .non (upd (upd H dx (xdO dx [(f, y)])) p (exO true false p C (some dx)))
section
variable {K : PySem.W.Frag} {C : Addr} {f g : Str} {y z : V} {H1 : Hp} {E : XK}
theorem excAt_made {H1 : Hp} {x dx C : Addr} {fs : List (Str × V)} (hx : H1 x = none) (hdx : upd H1 x (exO true false x C none) dx = none) :
    ExcAt (upd (upd (upd (upd H1 x (exO true false x C none)) dx (xdO dx fs)) x (exO true false x C (some dx))) x (exO false false x C (some dx))) x C fs /\ Same H1 (upd (upd (upd (upd H1 x (exO true false x C none)) dx (xdO dx fs)) x (exO true false x C (some dx))) x (exO false false x C (some dx))) := by
  have hne : dx ≠ x := fun e => by rw [e, upd_same] at hdx; cases hdx
  have hn : H1 dx = none := by rw [upd_ne hne] at hdx; exact hdx
  refine ⟨⟨false, false, some dx, upd_same, ?_, hne⟩, fun b o q => ?_⟩
  · rw [upd_ne hne, upd_ne hne, upd_same]
  · have h1 := ne_of_none q hx
    have h2 := ne_of_none q hn
    rw [upd_ne h1, upd_ne h1, upd_ne h2, upd_ne h1]; exact q
theorem raise1 (c : XCls K C) (h : ∀ e H', ExcAt H' e C [(f, y)]->Same H1 H'->E (.ref C) (some e) H') :
    [y].length ≤ sizeLine /\ ∀ x, H1 x = none->sp_x1 C f (.ref x :: [y]) (upd H1 x (exO true false x C none)) (fun v H2 => v = .non /\ ∃ e C' od, V.ref x = .ref e /\ H2 e = some (exO true false e C' od) /\ XCls K C' /\ E (.ref C') (some e) (upd H2 e (exO false false e C' od))) E0 :=
  ⟨by show 1 ≤ sizeLine; decide, fun x hx => ⟨x, y, rfl, upd_same, fun dx hdx => ⟨rfl, x, C, some dx, rfl, upd_same, c, let ⟨a, b⟩ := excAt_made hx hdx; h x _ a b⟩⟩⟩
end
open PySem
theorem look_eq {f : Str} {x : V} {r : List (Str × V)} : List.lookup f ((f, x) :: r) = some x := by
  rw [List.lookup_cons]; simp
def Keep (F : List Addr) (H H' : Hp) : Prop := ∀ b o, H b = some o->b ∉ F->H' b = some o
def fl (wd ls : Int) (ta sa : Addr) : List (Str × V) := [("wide", .int wd), ("last", .int ls), ("tables", .ref ta), ("set_places", .ref sa)]
theorem s1 : ¬ (("wide" : Str) = "last") := by decide +kernel
theorem s2 : ¬ (("wide" : Str) = "tables") := by decide +kernel
theorem s3 : ¬ (("wide" : Str) = "set_places") := by decide +kernel
theorem s4 : ¬ (("last" : Str) = "tables") := by decide +kernel
theorem s5 : ¬ (("last" : Str) = "set_places") := by decide +kernel
theorem s6 : ¬ (("tables" : Str) = "set_places") := by decide +kernel
open PySem PySem.Spec PyProof.Rows
def rSlS : V->Option Int->Option Int->Hp->VK->Prop := fun x lo hi H Q => ∃ z, x = .str z /\ z.length ≤ sizeLine /\ Q (.str (Txt.slice z lo hi)) H
section
variable {X : Cx}
theorem sl_str : SlR X rSlS := by
  rintro pins s σ H x v vl vu lo hi sl Q I rx hs pl pu ⟨z, rfl, hz, q⟩
  obtain ⟨t, rfl⟩ := (show ∃ t, v = Value.str z t from rx)
  have fin : ∀ t' k, EP X pins σ Q (.str (Txt.slice z lo hi) t') { s with toks := k } := fun t' k => ⟨.str _, H, I.tok k, ⟨t', rfl⟩, q⟩
  refine ⟨"str", _, F.slot_str_getitem.lookup, typeIs_str _ _ _, ?_⟩
  cases pl with
  | none => cases pu with
    | none => exact wpAny_getItem_str_slice (l := none) (u := none) (st := none) hs rfl (post_val_or_str ⟨Nat.le_trans (Txt.slice_le z _ _) hz, fun t' k => fin t' k⟩)
    | int j uj => exact wpAny_getItem_str_slice (l := none) (u := some (j, uj)) (st := none) hs rfl (post_val_or_str ⟨Nat.le_trans (Txt.slice_le z _ _) hz, fun t' k => fin t' k⟩)
  | int i ui => cases pu with
    | none => exact wpAny_getItem_str_slice (l := some (i, ui)) (u := none) (st := none) hs rfl (post_val_or_str ⟨Nat.le_trans (Txt.slice_le z _ _) hz, fun t' k => fin t' k⟩)
    | int j uj => exact wpAny_getItem_str_slice (l := some (i, ui)) (u := some (j, uj)) (st := none) hs rfl (post_val_or_str ⟨Nat.le_trans (Txt.slice_le z _ _) hz, fun t' k => fin t' k⟩)
theorem call_int_str : CallR X (.type "int") (fun xs H Q => ∃ z n, xs = [.str z] /\ intText? z = some n /\ z.length ≤ 640 /\ Q (.int n) H) := by
  rintro pins s σ H xs us Q I r ⟨z, n, rfl, hn, hl, q⟩
  obtain ⟨u, rfl, ru⟩ := vals1 r
  obtain ⟨t, rfl⟩ := (show ∃ t, u = Value.str z t from ru)
  exact PySem.W.KIN.call_text hn hl ⟨.int n, H, I.tok _, ⟨_, rfl⟩, q⟩
end
def Itx (x : Str) : It := ⟨fun i _ => i < x.cps.size, fun i H v H' => H' = H /\ ∃ c, x.cps[i]? = some c /\ v = .str ⟨#[c]⟩, fun i _ => x.cps.size ≤ i⟩
theorem turn_str {P : Program} {w : World} {K : PySem.W.Frag} {tg : Expr} (it : Addr) (x : Str) (t : Tok) (k : String) (hk : k = "str_ascii_iterator" ∨ k = "str_iterator") : Turn P w K tg (Itx x) [it] it (fun i h => h.IsStrIter it k x t i) where
  mem := by simp
  obj := fun i h st b hb => by
    have e : b = it := by simpa using hb
    subst e
    obtain ⟨o, e, c, d⟩ := st
    exact ⟨o, e, fun v z => by rw [d] at z; cases z⟩
  keep := fun i h h' st kk => let ⟨o, e, r⟩ := st; ⟨o, kk it (by simp) o e, r⟩
  item := by
    intro X hP hw hK hc i pins s σ H E I hf st hg
    subst hP hw hK
    have hg : i < x.cps.size := hg
    obtain ⟨f0, f1, f2, f3, f4, f5⟩ := hf it (by simp)
    have W : Walks X.prog X.w X.A it [it] [it] x.cps.size (SignAt x) (fun i h => h.IsStrIter it k x t i) := by
      rcases hk with rfl | rfl
      · exact Walks.strAscii (I.ok.hd hc) it x t
      · exact Walks.strWide (I.ok.hd hc) it x t
    refine W.item i s _ _ hg st fun v h' tk hv st' kk => ?_
    obtain ⟨c, u, hcx, rfl⟩ := hv
    have I1 : Inv X pins σ H { s with heap := h', toks := tk } := I.turned (fun b o hb e => kk b o (by simpa using hb) e) f0 f1 f3 f4 f5
    obtain ⟨o, e, c1, d1⟩ := id st'
    exact ⟨_, rfl, go_of (s := { s with heap := h', toks := tk }) e c1 d1 (by rcases hk with rfl | rfl <;> decide) ⟨.str ⟨#[c]⟩, H, I1, ⟨u, rfl⟩, ⟨rfl, c, hcx, rfl⟩, st', fun b hb => (hf b hb).1⟩⟩
  done := by
    intro X hP hw hK hc i pins s σ H E I hf st hg
    subst hP hw hK
    have hg : x.cps.size ≤ i := hg
    obtain ⟨f0, f1, f2, f3, f4, f5⟩ := hf it (by simp)
    have hn : x.cps[i]? = none := by simp; omega
    rcases hk with rfl | rfl
    · exact wpAny_pyNext_ascii_end (I.ok.hd hc) st hn fun h' eb => ⟨rfl, I.turned (t' := s.toks) (fun b o hb e => eb b o hb e) f0 f1 f3 f4 f5⟩
    · exact wpAny_pyNext_wide_end (I.ok.hd hc) st hn fun h' eb => ⟨rfl, I.turned (t' := s.toks) (fun b o hb e => eb b o hb e) f0 f1 f3 f4 f5⟩
  self := fun _ _ _ _ _ st h => by
    rcases hk with rfl | rfl
    · exact wpAny_pyIter_striter_ascii st h
    · exact wpAny_pyIter_striter_wide st h
def iStr (tl : TE) : TI := fun σ H R => tl σ H fun x H1 => ∃ z, x = .str z /\ R (Itx z) H1
theorem pi_str {X : Cx} {tg l : Expr} {tl : TE} (hl : PE X l tl) : PI X tg l (iStr tl) := by
  intro pins s σ H R I h
  refine thn (hl pins s σ H _ I h) fun v s1 ⟨x, H1, I1, r1, q1⟩ => ?_
  obtain ⟨z, e, q⟩ := q1
  subst e
  obtain ⟨t, rfl⟩ := (show ∃ t, v = Value.str z t from r1)
  have fin : ∀ k (hk : k = "str_ascii_iterator" ∨ k = "str_iterator"), PIE X pins σ tg R (.ref s1.heap.objs.size) { s1 with heap := s1.heap.push { cls := .type k, data := .fields #[.str z t, .int 0 0] } } := fun k hk => by
    refine ⟨s1.heap.objs.size, [s1.heap.objs.size], _, _, H1, rfl, I1.kept (t' := s1.toks) fun b o e => Heap.get?_push_of_some _ e, turn_str _ z t k hk, ⟨_, Heap.get?_push_size _ rfl, rfl, rfl⟩, fun b hb => ?_, q⟩
    have e : b = s1.heap.objs.size := by simpa using hb
    subst e
    exact I1.fpOk (Nat.le_refl _) (I1.hok.fresh (Nat.le_refl _))
  cases ha : z.cps.all (· < 128)
  · exact wpAny_pyIter_wide ha (fin _ (.inr rfl))
  · exact wpAny_pyIter_ascii ha (fin _ (.inl rfl))
theorem for_str {x : Str} {g : TG} {tb : TS} {D : Ends} {σ : St} {H : Hp} (Pv : Nat->St->Hp->Prop) (h0 : Pv 0 σ H)
    (hs : ∀ i c σ H, x.cps[i]? = some c->Pv i σ H->g (.str ⟨#[c]⟩) σ H fun σ2 H2 => tb { D with nx := Pv (i + 1), ct := Pv (i + 1), bk := D.nx } σ2 H2) (hd : ∀ σ H, Pv x.cps.size σ H->D.nx σ H) :
    ∃ W : Nat->Nat->St->Hp->Prop, (∃ m, W 0 m σ H) /\ ∀ i m σ H, W i m σ H →
      ((Itx x).stop i H /\ D.nx σ H) ∨ ((Itx x).go i H /\ ∃ N : St->Hp->Prop, (∀ σ' H', N σ' H'->∃ m', m' < m /\ W (i + 1) m' σ' H') /\ ∀ v H', (Itx x).yld i H v H'->g v σ H' fun σ2 H2 => tb { D with nx := N, ct := N, bk := D.nx } σ2 H2) := by
  refine ⟨fun i m σ H => m = x.cps.size - i /\ i ≤ x.cps.size /\ Pv i σ H, ⟨x.cps.size, by simp, Nat.zero_le _, h0⟩, ?_⟩
  rintro i m σ H ⟨rfl, hi, p⟩
  by_cases hlt : i < x.cps.size
  · refine .inr ⟨hlt, Pv (i + 1), fun σ' H' p' => ⟨x.cps.size - (i + 1), by omega, rfl, hlt, p'⟩, ?_⟩
    rintro v H' ⟨rfl, c, hc, rfl⟩
    exact hs i c σ _ hc p
  · have e : i = x.cps.size := by omega
    subst e
    exact .inl ⟨Nat.le_refl _, hd σ H p⟩
theorem comp_str {x : Str} (D : Addr) {g : TG} {tt : TT} {te : TE} {σ : St} {H : Hp} {R : Hp->Prop} (Pv : Nat->St->Hp->List V->Prop) (h0 : Pv 0 σ H [])
    (hs : ∀ i c σ H ys, x.cps[i]? = some c->Pv i σ H ys->g (.str ⟨#[c]⟩) σ H fun σ3 H3 => tt σ3 H3 fun b H4 => if b = true then
      te σ3 H4 fun y H5 => H5 D = some (.lst ys) /\ ys.length < sizeLine /\ Pv (i + 1) σ3 (upd H5 D (.lst (ys ++ [y]))) (ys ++ [y]) else Pv (i + 1) σ3 H4 ys) (hd : ∀ σ H ys, Pv x.cps.size σ H ys->R H) :
    ∃ W : Nat->Nat->St->Hp->List V->Prop, (∃ m, W 0 m σ H []) /\ ∀ i m σ' H' ys, W i m σ' H' ys->((Itx x).stop i H' /\ R H') ∨
      ((Itx x).go i H' /\ ∃ N : St->Hp->List V->Prop, (∀ σ' H' ys', N σ' H' ys'->∃ m', m' < m /\ W (i + 1) m' σ' H' ys') /\ ∀ v H2, (Itx x).yld i H' v H2->g v σ' H2 fun σ3 H3 => tt σ3 H3 fun b H4 => if b = true then
        te σ3 H4 fun y H5 => H5 D = some (.lst ys) /\ ys.length < sizeLine /\ N σ3 (upd H5 D (.lst (ys ++ [y]))) (ys ++ [y])
        else N σ3 H4 ys) := by
  refine ⟨fun i m σ H ys => m = x.cps.size - i /\ i ≤ x.cps.size /\ Pv i σ H ys, ⟨x.cps.size, by simp, Nat.zero_le _, h0⟩, ?_⟩
  rintro i m σ H ys ⟨rfl, hi, p⟩
  by_cases hlt : i < x.cps.size
  · refine .inr ⟨hlt, Pv (i + 1), fun σ' H' ys' p' => ⟨x.cps.size - (i + 1), by omega, rfl, hlt, p'⟩, ?_⟩
    rintro v H' ⟨rfl, c, hc, rfl⟩
    exact hs i c σ _ ys hc p
  · have e : i = x.cps.size := by omega
    subst e
    exact .inl ⟨Nat.le_refl _, hd σ H ys p⟩
theorem call_all_bl {X : Cx} (hc : X.calm = true) : CallR X (.builtin "all") (fun xs H Q => ∃ p, ∃ bs : List Bool, xs = [.ref p] /\ SqL X.K H p (bs.map V.bl) /\ Q (.bl (bs.all id)) H) := by
  rintro pins s σ H xs us Q I r ⟨p, bs, rfl, hS, q⟩
  obtain ⟨u, rfl, ru⟩ := vals1 r
  cases ru
  obtain ⟨its, rv, pl, _⟩ := I.list hS
  have hh : X.A.in1.handled = none := I.ok.hd hc
  have hlen := rv.length
  have hpl : p < s.heap.objs.size := by obtain ⟨o, e, _⟩ := pl.isList; exact Heap.lt_size e
  refine call_all_walk (wpAny_pyIter_list pl.isList ?_)
  refine ⟨s.heap.objs.size, _, _, _, _, _, fun i => bs.getD i false, rfl, Walks.list hh s.heap.objs.size p (Nat.ne_of_lt hpl) its.toArray, ⟨⟨_, Heap.get?_push_size _ rfl, rfl, rfl⟩, pl.isList.push _⟩, ?_, fun h' tk k => ?_⟩
  · intro i v s' Q' E' hv hQ
    have hv : its.toArray[i]? = some v := hv
    have hi : i < bs.length := by
      have := (Array.getElem?_eq_some_iff.mp hv).1
      simp at this; simp at hlen; omega
    obtain ⟨u, hu, ru⟩ := Vals.get rv (i := i) (x := V.bl (bs.getD i false)) (by simp [hi])
    have : v = u := by
      have h2 : its[i]? = some v := by simpa using hv
      rw [h2] at hu; exact Option.some.inj hu
    subst this
    cases (show v = Value.bool (bs.getD i false) from ru)
    exact wpAny_truthy_bool hQ
  · have I1 : Inv X pins σ H { s with heap := h', toks := tk } := I.kept fun b o e => k b o (fun hb => by
      have hb : b = s.heap.objs.size := by simpa using hb
      exact absurd (Heap.lt_size e) (by rw [hb]; exact Nat.lt_irrefl _)) (Heap.get?_push_of_some _ e)
    refine ⟨.bl (bs.all id), H, I1, ?_, q⟩
    show Value.bool _ = Value.bool _
    congr 1
    have hz : its.toArray.size = bs.length := by simp at hlen ⊢; omega
    rw [hz]
    clear hz hlen rv pl q hS
    have : ∀ bs : List Bool, (List.range bs.length).all (fun i => bs.getD i false) = bs.all id := fun bs => by
      rw [Bool.eq_iff_iff, List.all_eq_true, List.all_eq_true]
      constructor
      · intro h b hb
        obtain ⟨i, hi⟩ := List.mem_iff_getElem?.mp hb
        have hl := (List.getElem?_eq_some_iff.mp hi).1
        have := h i (List.mem_range.mpr hl)
        simp [hi] at this
        exact this
      · intro h i hi
        have hl := List.mem_range.mp hi
        have := h bs[i] (List.getElem_mem hl)
        simpa [hl] using this
    exact this bs
open PySem PySem.Spec PyProof.Rows
abbrev FIGS : Str := Str.ofString "0123456789"
def figB (c : Nat) : Bool := !(Builtin.Str.occurrences FIGS ⟨#[c]⟩ 0 FIGS.length 1).isEmpty
def isNum (z : Str) : Bool := z.cps.toList.all figB
def okW (z : Str) : Bool := decide (1 ≤ z.length) && decide (z.length ≤ 20) && (decide (z.length = 1) || !decide (z.cps.toList[0]? = some 48)) && isNum z
def intOf (z : Str) : Int := (intText? z).getD 0
theorem figB_digit {c : Nat} (h : figB c = true) : 48 ≤ c /\ c ≤ 57 := by
  unfold figB at h
  rw [PySem.StrLaws.found_one] at h
  have h := of_decide_eq_true h
  have e : FIGS.cps.toList = [48, 49, 50, 51, 52, 53, 54, 55, 56, 57] := by decide +kernel
  rw [e] at h
  simp at h
  omega
theorem intOf_ok {z : Str} (h : isNum z = true) (h1 : 1 ≤ z.length) (h2 : z.length ≤ 200) : intText? z = some (intOf z) := by
  have e := intText_digits (x := z) (fun c hc => figB_digit (List.all_eq_true.mp h c hc)) (by intro e; unfold Str.length at h1; rw [← Array.length_toList, e] at h1; simp at h1) (by omega)
  unfold intOf
  rw [e]; rfl
theorem okW_num {z : Str} (h : okW z = true) : intText? z = some (intOf z) := by
  simp only [okW, Bool.and_eq_true, decide_eq_true_eq] at h
  exact intOf_ok h.2 h.1.1.1 (by omega)
theorem boot_ValueError : bootBuiltins "ValueError" = some (.type "ValueError") := by decide +kernel
theorem okW_lo {z : Str} (h : ¬ 1 ≤ z.length) : okW z = false := by unfold okW; rw [decide_eq_false h]; rfl
theorem okW_hi {z : Str} (h : ¬ z.length ≤ 20) : okW z = false := by unfold okW; rw [decide_eq_false h, Bool.and_false]; rfl
theorem okW_zero {z : Str} (h : z.length ≠ 1) (h0 : z.cps.toList[0]? = some 48) : okW z = false := by unfold okW; rw [decide_eq_false h, decide_eq_true h0]; simp
theorem okW_all {z : Str} (h1 : 1 ≤ z.length) (h2 : z.length ≤ 20) (h3 : z.length = 1 ∨ ¬ z.cps.toList[0]? = some 48) : okW z = isNum z := by
  unfold okW
  rw [decide_eq_true h1, decide_eq_true h2]
  rcases h3 with h | h
  · rw [decide_eq_true h]; simp
  · rw [decide_eq_false h]; simp
theorem isNum_one {z : Str} {i c : Nat} (h : z.cps.toList[i]? = some c) (hf : figB c = false) : isNum z = false := by
  unfold isNum
  rw [List.all_eq_false]
  exact ⟨c, List.mem_of_getElem? h, by rw [hf]; decide⟩
theorem str_len (z : Str) : z.cps.toList.length = z.length := by simp [Str.length]
theorem str_first {z : Str} (h : 1 ≤ z.length) : ∃ c, z.cps.toList[0]? = some c := by
  rw [← str_len] at h
  exact ⟨_, List.getElem?_eq_getElem (by omega)⟩
theorem str_zero {z : Str} (h : z.length = 1) (h0 : z.cps.toList[0]? = some 48) : z = Str.ofString "0" := by
  rw [← str_len] at h
  obtain ⟨⟨l⟩⟩ := z
  match l, h, h0 with
  | [c], _, h0 =>
    have : c = 48 := by simpa using h0
    subst this
    decide +kernel
theorem one_eq {c d : Nat} : (V.str ⟨#[c]⟩ = V.str ⟨#[d]⟩) ↔ c = d := by simp
theorem args2 {a : Addr} {m k : Int} (h : m = k) : [V.ref a, V.int m] = [V.ref a, V.int k] := by rw [h]
theorem str_add_len (x y : Str) : (x ++ y).length = x.length + y.length := by
  show (x.cps ++ y.cps).size = _
  simp [Str.length]
theorem numtext_len {n : Int} (h0 : 0 ≤ n) (h : n < 10 ^ 22) : (Str.ofString (toString n)).length ≤ 22 := toString_length_le h0 (by decide) h
open PySem PySem.Spec PyProof.Rows Builtin Builtin.Str
theorem str_ext {x y : PySem.Str} (h : x.cps.toList = y.cps.toList) : x = y := by
  obtain ⟨⟨x⟩⟩ := x
  obtain ⟨⟨y⟩⟩ := y
  rw [show x = y from h]
theorem vals_strs : ∀ (tk : Nat) (xs : List PySem.Str), Vals (xs.map V.str) (strsFrom tk xs)
  | _, [] => .nil
  | tk, x :: r => .cons ⟨tk, rfl⟩ (vals_strs (tk + 1) r)
theorem strs_vals : ∀ {us : List Value} {xs : List PySem.Str}, Vals (xs.map V.str) us->StrsAre us xs
  | _, [], .nil => .nil
  | _, x :: r, .cons ⟨t, e⟩ h => by cases e; exact .cons x t (strs_vals h)
section
variable {X : Cx}
theorem mt_split : MtR X "str.split" (fun x xs H Q => ∃ z y : PySem.Str, x = .str z /\ xs = [.str y] /\ (y.length == 0) = false /\ z.length ≤ 100000 /\ ∀ p, H p = none->Q (.ref p) (upd H p (.lst ((Txt.split z y).map V.str)))) := by
  rintro pins s σ H x xs v us Q I rx r ⟨z, y, rfl, rfl, hy, hz, q⟩
  obtain ⟨t, rfl⟩ := (show ∃ t, v = Value.str z t from rx)
  obtain ⟨u, rfl, ru⟩ := Vals.one r
  obtain ⟨t2, rfl⟩ := (show ∃ t, u = Value.str y t from ru)
  have hzl : z.length ≤ sizeLine := Nat.le_trans hz (by decide)
  have hn : (partsBetween z (occurrences z y 0 z.length (z.length + 1)) y.length).length ≤ sizeLine := by
    rw [length_partsBetween]
    have := StrLaws.occ_length_le_len z y 0 z.length (z.length + 1)
    exact Nat.le_trans (show _ ≤ 100002 by omega) (by decide)
  have fin : ∀ (ys : List PySem.Str) (k : Nat) (us : List Value), ys = Txt.split z y->ys.length ≤ sizeLine->Vals (ys.map V.str) us->EP X pins σ Q (.ref s.heap.objs.size) { s with heap := s.heap.push { cls := .type "list", data := .seq us.toArray }, toks := k } := fun ys k us e hl hv =>
    ⟨.ref s.heap.objs.size, _, I.laid (t' := k) (o := .lst (ys.map V.str)) (fun b ob q => Heap.get?_push_of_some _ q) (Nat.le_refl _) ⟨by rw [List.length_map]; exact hl, _, 0, hv, Heap.get?_push_size _ rfl⟩, rfl, e ▸ q _ (I.hok.fresh (Nat.le_refl _))⟩
  cases h1 : (decide (z.length < y.length) || decide (strKind z < strKind y))
  · cases hf : (occurrences z y 0 z.length (z.length + 1)).isEmpty
    · refine call_meets F.slot_str_split (typeIs_str _ _ _) F.entry_str_split (F.args_str_split_2 _ _) (meets_str_split_sep z y t t2 h1 hy hf hzl hn) ?_
      exact fin _ _ _ ((if_neg (ne_true_of_eq_false h1)).trans (if_neg (ne_true_of_eq_false hf))).symm hn (vals_strs _ _)
    · refine call_meets F.slot_str_split (typeIs_str _ _ _) F.entry_str_split (F.args_str_split_2 _ _) (meets_str_split_not_found z y t t2 h1 hy hf) ?_
      exact fin [z] _ _ ((if_neg (ne_true_of_eq_false h1)).trans (if_pos hf)).symm (by show 1 ≤ sizeLine; decide) (.cons ⟨t, rfl⟩ .nil)
  · refine call_meets F.slot_str_split (typeIs_str _ _ _) F.entry_str_split (F.args_str_split_2 _ _) (meets_str_split_cannot_occur z y t t2 h1) ?_
    exact fin [z] _ _ (if_pos h1).symm (by show 1 ≤ sizeLine; decide) (.cons ⟨t, rfl⟩ .nil)
theorem mt_join : MtR X "str.join" (fun x xs H Q => ∃ (z : PySem.Str) (p : Addr) (ys : List PySem.Str), x = .str z /\ xs = [.ref p] /\ SqL X.K H p (ys.map V.str) /\ (ys.map (·.length)).sum + ys.length * z.length ≤ 16777216 /\ Q (.str (Str.join z ys)) H) := by
  rintro pins s σ H x xs v us Q I rx r ⟨z, p, ys, rfl, rfl, hS, hok, q⟩
  obtain ⟨t, rfl⟩ := (show ∃ t, v = Value.str z t from rx)
  obtain ⟨u, rfl, ru⟩ := Vals.one r
  cases ru
  obtain ⟨its, rv, pl, _⟩ := I.list hS
  refine join_list pl.isList (by simpa using strs_vals rv) hok fun t' k => ⟨.str _, H, I.tok k, ⟨t', rfl⟩, ?_⟩
  rw [show Txt.join z ys = Str.join z ys from StrLaws.glued_eq_join z ys]
  exact q
end
open PySem PySem.Spec PyProof.Rows
section
variable {M : Model} {A : Around} {E : Value->Shared->Prop} {s : Shared} {base : Heap} {env : Env} {outer : List Env} {L e : Addr} {Q : Unit->Shared->Prop}
theorem note_other {T : Addr} {fl : Value} (hfr : A.frames = some (env :: outer)) (hl : s.heap.FunFrames base (env :: outer)) (hf : env.frame = some L) (hF : Fly s.heap e T fl) (hne : (fl == rawInt L) = false)
    (h : ∀ h' T', Noted (frs (env :: outer)) [T] e T' (rawInt L) s.heap h'->Q () { s with heap := h' }) : wpAny M A (noteFrame (.ref e) env) Q E s := by
  obtain ⟨oe, vs, oT, ts, he, hd, h1, hT, hdT, h3, hTe⟩ := hF
  unfold noteFrame
  simp only [hf]
  refine wpAny_bind (wpAny_field he hd h1 ?_)
  rw [if_pos (show (Value.ref T != Value.none) = true from by simp)]
  refine wpAny_bind (wpAny_field hT hdT h3 ?_)
  rw [if_neg (show ¬ ((fl == rawInt L) = true) from by rw [hne]; decide)]
  refine wpAny_bind (wpAny_setField hT hdT (Array.getElem?_eq_some_iff.mp h3).1 ?_)
  have other : ∀ b, b ≠ T->(s.heap.update T (Obj.mapFields (·.setIfInBounds 3 Value.none))).get? b = s.heap.get? b := fun b hb => Heap.get?_update_other _ _ (Ne.symm hb)
  have nrec : ∀ b o, s.heap.get? b = some o->(∀ vs, o.data ≠ .fields vs)->b ≠ T := fun b o hb hnf q => by
    rw [q, hT] at hb
    cases hb
    exact hnf ts hdT
  have sz : (s.heap.update T (Obj.mapFields (·.setIfInBounds 3 Value.none))).objs.size = s.heap.objs.size := Heap.size_after_update _ _ _
  refine entry_ok hfr (hl.of_keeps fun b o hb hnf => ⟨o, (other b (nrec b o hb hnf)).trans hb, rfl⟩) hf ((other e (Ne.symm hTe)).trans he) hd (Array.getElem?_eq_some_iff.mp h1).1 fun h' T' N => h h' T' ?_
  dsimp only at N
  refine ⟨fun b o hb hc hbe q => N.keep b o hb (by simp) hbe ((other b (by simpa using hc)).trans q), fun b o hb hc hbe q => N.slot b o hb (by simp) hbe ((other b (by simpa using hc)).trans q), ?_, fun oe' vs' q d => N.exc oe' vs' ((other e (Ne.symm hTe)).trans q) d, N.fly⟩
  rw [← sz]; exact N.new
theorem note_same {T : Addr} (hf : env.frame = some L) (hF : Fly s.heap e T (rawInt L)) (h : Q () s) : wpAny M A (noteFrame (.ref e) env) Q E s := by
  obtain ⟨oe, vs, oT, ts, he, hd, h1, hT, hdT, h3, hTe⟩ := hF
  unfold noteFrame
  simp only [hf]
  refine wpAny_bind (wpAny_field he hd h1 ?_)
  rw [if_pos (show (Value.ref T != Value.none) = true from by simp)]
  refine wpAny_bind (wpAny_field hT hdT h3 ?_)
  rw [if_pos (show (rawInt L == rawInt L) = true from by simp)]
  exact wpAny_pure h
theorem passOn_ok {α : Type} {T : Addr} {fl : Value} {what : String} {Q' : α->Shared->Prop} (hF : Fly s.heap e T fl) (h : ∀ h' fl', (∀ b o, b ≠ T->s.heap.get? b = some o->h'.get? b = some o)->Fly h' e T fl'->E (.ref e) { s with heap := h' }) : wpAny M A (PySem.passOn what (.ref e) env : Sem α) Q' E s := by
  obtain ⟨oe, vs, oT, ts, he, hd, h1, hT, hdT, h3, hTe⟩ := hF
  have hsz : 3 < ts.size := (Array.getElem?_eq_some_iff.mp h3).1
  unfold PySem.passOn
  refine wpAny_bind (wpAny_field he hd h1 ?_)
  rw [if_neg (show ¬ ((Value.ref T == Value.none) = true) from by simp)]
  unfold setFlight
  refine wpAny_bind (wpAny_bind (wpAny_field he hd h1 ?_))
  rw [if_pos (show (Value.ref T != Value.none) = true from by simp)]
  refine wpAny_setField hT hdT hsz (wpAny_throw (h _ (env.frame.elim Value.none fun f => rawInt f) (fun b o hb q => (Heap.get?_update_other _ _ (Ne.symm hb)).trans q) ?_))
  exact ⟨oe, vs, _, _, (Heap.get?_update_other _ _ hTe).trans he, hd, h1, Heap.get?_update_self _ hT (Obj.isFreed_of_fields (Obj.data_mapFields hdT _)), Obj.data_mapFields hdT _, by simp [hsz], hTe⟩
end
def PassesAt (X : Cx) (σ : St) (EX : XK) : Prop := ∀ (pins : List (Addr × Obj)) (H : Hp) (s : Shared) (e C : Addr) (od : Option Addr) (T : Addr) (fl : Value), Inv X pins σ H s->Flown H e C od->FpOk X pins H T->Fly s.heap e T fl->EX (.ref C) (some e) H->X.xe (.ref e) s
def PassesI (X : Cx) (E : XS) : Prop := ∀ (pins : List (Addr × Obj)) (σ : St) (H : Hp) (s : Shared) (e C : Addr) (od : Option Addr) (T : Addr) (fl : Value), Inv X pins σ H s->Flown H e C od->FpOk X pins H T->Fly s.heap e T fl->E σ (.ref C) (some e) H->X.xe (.ref e) s
section
variable {P : Program} {w : World} {K : PySem.W.Frag} {mg : Str->Option Value} {base : Heap} {N : List Str} {qual : Str} {scope : Scope} {f : Addr} {cd : Value} {A : Around} {outer : List Env} {s₀ : Shared} {H₀ : Hp} {E : XK}
theorem passesI : PassesI (cxOf (CXx P w) P w K mg base N qual scope f cd A outer s₀ H₀ E) (fun _ => E) := by
  rintro pins σ H s e C od T fl I he fp fly hE
  show wpAny _ _ (leaving _ (.ref e)) _ _ _
  unfold leaving
  by_cases hq : (fl == rawInt s₀.heap.objs.size) = true
  · have hq := eq_of_beq hq
    subst hq
    refine wpAny_bind (note_same rfl fly ?_)
    refine flight_none fly fun h2 k _ fly2 => ?_
    have J := I.landed fp k
    exact ⟨e, C, od, T, H, rfl, J.os, J.bare, J.base, J.hok, he, fp.2.2.2.1.resolve_left (fun z => by cases z), fp.1, fly2, hE⟩
  · have hq : (fl == rawInt s₀.heap.objs.size) = false := by simpa using hq
    refine wpAny_bind (note_other I.ok.frames I.stack rfl fly hq fun h2 T2 Nd => flight_none (s := { s with heap := h2 }) Nd.fly fun h3 k _ F => ?_)
    have Nd' := Nd.landed k F
    have J := I.notedF (ch := [T]) he Nd' (fun b hb => by have := List.mem_singleton.mp hb; subst this; exact fp)
    exact ⟨e, C, od, T2, H, rfl, J.os, J.bare, J.base, J.hok, he, Nat.le_trans I.sz Nd'.new, I.hok.fresh Nd'.new, Nd'.fly, hE⟩
end
theorem Fly.but {h h' : Heap} {e T C : Addr} {fl : Value} (F : Fly h e T fl) (hs : Heap.SameBut C h h') (n1 : e ≠ C) (n2 : T ≠ C) : Fly h' e T fl := by
  obtain ⟨oe, vs, oT, ts, he, hd, h1, hT, hdT, h3, hTe⟩ := F
  exact ⟨oe, vs, oT, ts, hs.extBut _ _ n1 he, hd, h1, hs.extBut _ _ n2 hT, hdT, h3, hTe⟩
section
variable {X : Cx} {scope : Scope} {N : List Str} {k : Nat} {cap : List Nat} {tg iter elt : Expr} {ifs : List Expr} {wi : TI} {g : TG} {tt : TT} {te : TE} {pos : Pos}
theorem comp_passes {EX : XK} {use : Option (Value->Sem Unit)} {QQ : Value->Shared->Prop} {pins : List (Addr × Obj)} {s : Shared} {σ : St} {H : Hp} {fp : List Addr} {C : Addr} {acc : Value}
    (hpi : PassesAt X σ EX) (hst : X.stack = X.env :: X.outer) (hfr : X.env.frame = some X.env.locals) (I : Inv X pins σ H s) (hf : ∀ b ∈ fp, FpOk X pins H b)
    (hCs : X.s₀.heap.objs.size ≤ C) (hCl : C ≠ X.env.locals) (hCc : ∀ x c, X.env.cells.lookup x = some c->c ≠ C) (hCp : ∀ p ∈ X.pn ++ pins, p.1 ≠ C) :
    PassesS ((X.comp scope N C s H fp).wish (notedBy (model X.prog X.w) X.A (compEnvC scope (clos X.env.cells scope.names []) C X.env) fun e s' => compPost (model X.prog X.w) X.A X.xe use QQ acc C (.error e) s')) (fun _ => EX) := by
  rintro ps σ' H1 s1 v s2 J ⟨e, C', od, T, H2, rfl, os, bare, un, hok, he, hT, nT, fly, hE⟩
  have J := Inv.unwish J
  have J2 := J.call' (ch := []) os un hok bare (fun b z => absurd z (by simp))
  have fpT := J.fpOk hT nT
  have fr : X.A.frames = some (X.env :: X.outer) := by rw [← hst]; exact I.ok.frames
  show wpAny _ _ (noteFrame (.ref e) X.env) _ _ _
  refine note_next fr (by rw [← hst]; exact J2.stack) hfr fly fun h3 T3 Nd => ?_
  rw [← hst] at Nd
  have J3 := J2.notedF (ch := [T]) he Nd (fun b hb => by have := List.mem_singleton.mp hb; subst this; exact fpT)
  have hCn : H2 C = none := J3.free
  have hsz2 : s.heap.objs.size ≤ s2.heap.objs.size := J2.sz
  have nT3 : H2 T3 = none := J2.hok.fresh Nd.new
  have K3 : Inv X pins σ H2 { s2 with heap := h3 } := I.unblock hf J3
  have fp3 : FpOk X pins H2 T3 := I.fpOk (Nat.le_trans hsz2 Nd.new) nT3
  have n1 : e ≠ C := fun z => by obtain ⟨_, he⟩ := he; rw [z, hCn] at he; cases he
  have n2 : T3 ≠ C := by
    obtain ⟨m, hn, _⟩ := J2.loc
    obtain ⟨o, _, _, ho, _⟩ := hn
    exact Nat.ne_of_gt (Nat.lt_of_lt_of_le (Heap.lt_size ho) Nd.new)
  obtain ⟨m, hn, _⟩ := J3.loc
  have fin : ∀ h', Heap.SameBut C h3 h'->∀ cenv : Env, cenv.locals = C->wpAny (model X.prog X.w) X.A (PySem.passOn "comprehension.variables-let-go" (.ref e) cenv : Sem Value) (fun _ _ => False) X.xe { s2 with heap := h' } := fun h' hs' cenv _ => by
    have K4 : Inv X pins σ H2 { s2 with heap := h' } := K3.turned (t' := s2.toks) (fun b o hb e => hs'.extBut b o hb e) hCn hCl (.inr hCs) hCc hCp
    refine passOn_ok (s := { s2 with heap := h' }) (Nd.fly.but hs' n1 n2) fun h5 fl' k5 fly5 => ?_
    exact hpi pins H2 _ e C' od T3 fl' (K4.landed fp3 k5) he fp3 fly5 hE
  cases use with
  | none => exact ⟨m, hn, fin⟩
  | some u => exact ⟨m, hn, fin⟩
theorem comp_loopX {EX : XK} {use : Option (Value->Sem Unit)} {QQ : Value->Shared->Prop} {pins : List (Addr × Obj)} {s : Shared} {σ : St} {H : Hp} {it : Addr} {fp : List Addr} {tn : Nat->Heap->Prop} {J : It} {Q : VK}
    (hc : X.calm = true) (c : CompOk X.N X.env.scope scope N k cap)
    (hg : ∀ C s₀ H₀ ex, PG (X.comp scope N C s₀ H₀ ex).nox tg g) (ht : ∀ C s₀ H₀ ex, PTs (X.comp scope N C s₀ H₀ ex).nox ifs tt) (he : ∀ C s₀ H₀ ex xe, PassesS ((X.comp scope N C s₀ H₀ ex).wish xe) (fun _ => EX)->PE ((X.comp scope N C s₀ H₀ ex).wish xe) elt te)
    (hpi : PassesAt X σ EX) (hst : X.stack = X.env :: X.outer) (hfr : X.env.frame = some X.env.locals)
    (I : Inv X pins σ H s) (T : Turn X.prog X.w X.K tg J fp it tn) (st : tn 0 s.heap) (hf : ∀ b ∈ fp, FpOk X pins H b)
    (h : ∀ D, H D = none->∃ W : Nat->Nat->St->Hp->List V->Prop, (∃ m, W 0 m (st0 k cap σ) (upd H D (.lst [])) []) /\ ∀ i m σ' H' ys, W i m σ' H' ys->(J.stop i H' /\ Q (.ref D) H') ∨
      (J.go i H' /\ ∃ N : St->Hp->List V->Prop, (∀ σ' H' ys', N σ' H' ys'->∃ m', m' < m /\ W (i + 1) m' σ' H' ys') /\ ∀ x H2, J.yld i H' x H2->g x σ' H2 fun σ3 H3 => tt σ3 H3 fun b H4 => if b = true then
        te σ3 H4 fun y H5 => H5 D = some (.lst ys) /\ ys.length < sizeLine /\ N σ3 (upd H5 D (.lst (ys ++ [y]))) (ys ++ [y])
        else N σ3 H4 ys))
    (hQ : ∀ D C s1 H', Inv X pins σ H' s1->Q (.ref D) H'->(∃ m, s1.heap.Ns C m)->H' C = none->X.s₀.heap.objs.size ≤ C->C ≠ X.env.locals->(∀ x c, X.env.cells.lookup x = some c->c ≠ C)->(∀ p ∈ X.pn ++ pins, p.1 ≠ C) →
      compPost (model X.prog X.w) X.A X.xe use QQ (.ref D) C (.ok .next) s1) :
    wpAny (model X.prog X.w) X.A (newList []) (fun acc s₃ => wpAny (model X.prog X.w) X.A (newFunctionEnv scope X.env.globals (clos X.env.cells scope.names []) [] X.env.qual none .none (some X.env)) (fun cenv s₄ =>
      codeAny (model X.prog X.w) X.A (.compStart (.ListComp elt [⟨tg, iter, ifs, 0⟩] scope pos) 0 (.ref it) acc { cenv with scope := relabel scope X.env }) (compPost (model X.prog X.w) X.A X.xe use QQ acc cenv.locals) s₄) X.xe s₃) X.xe s := by
  refine wpAny_newObj_type (wpAny_newFunctionEnv c.nocell (by intro y hy; simp at hy) (fun h₁ hns₁ hsb₁ => ?_) c.kind)
  dsimp only at hns₁ hsb₁ ⊢
  generalize hH2 : s.heap.push { cls := .type "list", dict := none, data := .seq ([] : List Value).toArray } = H2 at hns₁ hsb₁ ⊢
  have hC : H2.objs.size = s.heap.objs.size + 1 := by rw [← hH2, Heap.size_push]
  have hDC : s.heap.objs.size ≠ H2.objs.size := by rw [hC]; exact Nat.ne_of_lt (Nat.lt_succ_self _)
  have hle : s.heap.objs.size ≤ H2.objs.size := by rw [hC]; exact Nat.le_succ _
  have keep : ∀ b o, s.heap.get? b = some o->h₁.get? b = some o := fun b o e => by
    exact hsb₁.extBut b o (anelt (Heap.lt_size e) hle) (Heap.get?_push_of_some _ (hH2 ▸ Heap.get?_push_of_some _ e))
  have hl : h₁.get? s.heap.objs.size = some { cls := .type "list", data := .seq #[] } := hsb₁.extBut _ _ hDC (Heap.get?_push_of_some _ (hH2 ▸ Heap.get?_push_size _ rfl))
  have nD : H s.heap.objs.size = none := I.hok.fresh (Nat.le_refl _)
  obtain ⟨W, ⟨m0, w0⟩, turn⟩ := h _ nD
  have ho : ∀ b ∈ fp, ∃ o, s.heap.get? b = some o := fun b hb => let ⟨o, e, _⟩ := T.obj _ _ st b hb; ⟨o, e⟩
  have hCs : X.s₀.heap.objs.size ≤ H2.objs.size := Nat.le_trans I.sz hle
  have hCl : H2.objs.size ≠ X.env.locals := (anelt I.lt hle).symm
  have hCc : ∀ x d, X.env.cells.lookup x = some d->d ≠ H2.objs.size := fun x d e => by
    obtain ⟨v, o, q, _⟩ := I.cell x d e
    exact anelt (Heap.lt_size q) hle
  have hCp : ∀ p ∈ X.pn ++ pins, p.1 ≠ H2.objs.size := fun p hp => by
    exact anelt (Heap.lt_size (I.pin p hp).1) hle
  have loop : ∀ s₃ : Shared, s₃ = { s with heap := h₁, toks := s.toks + ([] : List (Str × Value)).length } →
      codeAny (model X.prog X.w) X.A (.compLoop (.ListComp elt [⟨tg, iter, ifs, 0⟩] scope pos) 0 (.ref it) (.ref s.heap.objs.size) (compEnvC scope (clos X.env.cells scope.names []) H2.objs.size X.env))
        (compPost (model X.prog X.w) X.A X.xe use QQ (.ref s.heap.objs.size) H2.objs.size) s₃ := by
    rintro s₃ rfl
    have I0 : Inv (X.comp scope N H2.objs.size s H fp) [] (st0 k cap σ) (upd H s.heap.objs.size (.lst [])) { s with heap := h₁, toks := s.toks + ([] : List (Str × Value)).length } :=
      I.block c hf ho (Nat.le_refl _) hle hDC rfl rfl keep hl (by simpa using hns₁)
    have stat : ∀ {H' : Hp} {ps : List (Addr × Obj)}, (∀ b ∈ fp, H' b = none)->ps = []->∀ b ∈ fp, FpOk (X.comp scope N H2.objs.size s H fp).nox ps H' b := fun hn hp b hb => by
      subst hp
      exact ⟨hn b hb, (I0.ok.exf b hb).1, I0.ok.exfs b hb, .inl hb, (I0.ok.exf b hb).2, fun p hp => by cases hp⟩
    have nok : ∀ b ∈ fp, upd H s.heap.objs.size (.lst []) b = none := fun b hb => by
      obtain ⟨o, e⟩ := ho b hb
      rw [upd_ne (anelt (Heap.lt_size e) (Nat.le_refl _))]; exact (hf b hb).1
    refine codeAny_compLoop_go (fun n s' => ∃ i σ' H' ys, Inv (X.comp scope N H2.objs.size s H fp).nox [] σ' H' s' /\ tn i s'.heap /\ (∀ b ∈ fp, H' b = none) /\ W i n σ' H' ys) ?_ m0
      ⟨0, _, _, [], I0.wish _, T.keep _ _ _ st fun b _ o e => keep b o e, nok, w0⟩
    rintro n s' ⟨i, σ', H', ys, I', st', fr', w'⟩
    rcases turn i n σ' H' ys w' with ⟨stop, q⟩ | ⟨go, NN, hNN, step⟩
    · refine wpAny_mono (T.done (X.comp scope N H2.objs.size s H fp).nox rfl rfl rfl hc i [] s' σ' H' (fun _ _ => False) I' (stat fr' rfl) st' stop) (fun r s4 ⟨hr, I4⟩ => ?_) (fun _ _ x => x.elim)
      subst hr
      exact hQ _ _ s4 H' (I.unblock hf I4.unwish) q (let ⟨m, hn, _⟩ := I4.loc; ⟨m, hn⟩) I4.free hCs hCl hCc hCp
    · refine wpAny_mono (T.item (X.comp scope N H2.objs.size s H fp).nox rfl rfl rfl hc i [] s' σ' H' (fun _ _ => False) I' (stat fr' rfl) st' go) (fun r s4 ⟨u, hr, h4⟩ => ?_) (fun _ _ x => x.elim)
      subst hr
      refine wpAny_mono h4 (fun _ s5 ⟨x, H5, I5, r5, y5, st5, fr5⟩ => ?_) (fun _ _ x => x.elim)
      have I5' := I5.pinned (stat fr5 rfl) (T.obj _ _ st5)
      refine wpAny_mono (hg _ _ _ _ _ s5 σ' H5 x u _ I5' r5 (step x H5 y5)) (fun _ s6 ⟨σ6, H6, I6, q6⟩ => ?_) (fun _ _ x => x.elim)
      refine wpAny_mono (ht _ _ _ _ _ s6 σ6 H6 _ I6 q6) (fun ok s7 ⟨H7, I7, q7⟩ => ?_) (fun _ _ x => x.elim)
      have again : ∀ {H8 : Hp} {s8 : Shared} {ys8 : List V}, Inv (X.comp scope N H2.objs.size s H fp).nox ([] ++ pinsAt fp s5.heap) σ6 H8 s8->NN σ6 H8 ys8 →
          ∃ m, m < n /\ ∃ i σ' H' ys, Inv (X.comp scope N H2.objs.size s H fp).nox [] σ' H' s8 /\ tn i s8.heap /\ (∀ b ∈ fp, H' b = none) /\ W i m σ' H' ys := fun {H8 s8 ys8} I8 n8 => by
        obtain ⟨m', hm, w8⟩ := hNN _ _ _ n8
        refine ⟨m', hm, i + 1, σ6, H8, ys8, I8.unpinned, T.keep _ _ _ st5 fun b hb o e => (I8.pin (b, o) (List.mem_append_right _ (List.mem_append_right _ (mem_pinsAt hb e)))).1, fun b hb => ?_, w8⟩
        obtain ⟨o, e, d⟩ := T.obj _ _ st5 b hb
        exact (I8.pin (b, o) (List.mem_append_right _ (List.mem_append_right _ (mem_pinsAt hb e)))).2.1
      cases ok with
      | false => exact again I7 q7
      | true =>
        refine wpAny_mono (he H2.objs.size s H fp (notedBy (model X.prog X.w) X.A (compEnvC scope (clos X.env.cells scope.names []) H2.objs.size X.env) fun e s' => compPost (model X.prog X.w) X.A X.xe use QQ (.ref s.heap.objs.size) H2.objs.size (.error e) s')
          (comp_passes hpi hst hfr I hf hCs hCl hCc hCp) _ s7 σ6 H7 _ (I7.unwish.wish _) q7) (fun y s8 ⟨v, H8, I8, rv, hD, hlen, w8⟩ => ?_) (fun _ _ x => x)
        have I8 := (Inv.unwish I8).wish fun _ _ => False
        refine wpAny_mono (mt_append (X := (X.comp scope N H2.objs.size s H fp).nox) _ s8 σ6 H8 (.ref s.heap.objs.size) [v] (.ref s.heap.objs.size) [y] (fun _ H9 => H9 = upd H8 s.heap.objs.size (.lst (ys ++ [v]))) I8 rfl (.cons rv .nil) ⟨_, ys, v, rfl, rfl, hD, hlen, rfl⟩) (fun _ s9 ⟨_, H9, I9, _, e9⟩ => ?_) (fun _ _ x => x.elim)
        subst e9
        exact again I9 w8
  exact codeAny_compStart_list (loop _ rfl) (T.self _ 0 _ _ _ (T.keep _ _ _ st fun b _ o e => keep b o e) (loop _ rfl))
theorem pe_compX {EX : XK} (hpi : PassesI X (fun _ => EX)) (hst : X.stack = X.env :: X.outer) (hfr : X.env.frame = some X.env.locals) (hc : X.calm = true) (hco : compOk X.N X.env.scope scope N k cap = true) (hi : PI X tg iter wi)
    (hg : ∀ C s₀ H₀ ex, PG (X.comp scope N C s₀ H₀ ex).nox tg g) (ht : ∀ C s₀ H₀ ex, PTs (X.comp scope N C s₀ H₀ ex).nox ifs tt) (he : ∀ C s₀ H₀ ex xe, PassesS ((X.comp scope N C s₀ H₀ ex).wish xe) (fun _ => EX)->PE ((X.comp scope N C s₀ H₀ ex).wish xe) elt te)
    (hs : ∀ x, foldedSetIterable iter X.env x = pure x := by intro _; rfl) : PE X (.ListComp elt [⟨tg, iter, ifs, 0⟩] scope pos) (tComp k cap wi g tt te) := by
  intro pins s σ H Q I h
  have c := CompOk.of hco
  rw [eval_ListComp]
  refine wpAny_comprehension_free (use := none) (cl := clos X.env.cells scope.names []) rfl hs (closureFor_eq (I.freeCells c)) c.kind c.locs (thn (hi pins s σ H _ I h) fun xv s₁ h₁ => thn h₁ fun itv s₂ h₂ => ?_)
  obtain ⟨it, fp, tn, J, H2, e, I2, T, st, hf, q⟩ := h₂
  subst e
  exact comp_loopX (use := none) hc c hg ht he (fun ps => hpi ps σ) hst hfr I2 T st hf q fun D C s1 H' I1 q1 ⟨m, hn⟩ hCn hCs hCl hCc hCp =>
    ⟨m, hn, fun h' hs' => ⟨.ref D, H', I1.turned (t' := s1.toks) (fun b o hb e => hs'.extBut b o hb e) hCn hCl (.inr hCs) hCc hCp, rfl, q1⟩⟩
end
open PySem PySem.Spec PyProof.Rows
structure FunD (K : PySem.W.Frag) (x qual : Str) (st : Stmt) (f : Addr) (fd : FuncData) (dV : Value) : Prop where
  ex : ∃ (oc : Value) (od : Option Addr) (kV doc pm : Value) (an : Option Addr) (cdv ct : Value) (osl : Array (Option Value)),
    fd = PySem.W.fnOf x qual (defArgs st) (defBody st) (defScope st) dV kV doc pm an cdv ct /\ K.lookup f = some ⟨oc, od, .func fd, osl⟩ /\ PySem.W.codeIn K cdv qual = true
  kp : PySem.W.keepIn K (.ref f) = true
section
variable {P : Program} {w : World} {K : PySem.W.Frag} {mg : Str->Option Value} {base : Heap}
theorem FunD.okX {x qual : Str} {st : Stmt} {f : Addr} {fd : FuncData} {dV : Value} {N ps : List Str} {k : Nat} {sp : Sp} (F : FunD K x qual st f fd dV) (S : FnScope N ps (defScope st)) (len : ∀ vs H Q E, sp vs H Q E->vs.length = ps.length)
    (hbody : ∀ (cdv : Value) (A : Around) (outer : List Env) (s : Shared) (H : Hp) (vs : List V) (Q : VK) (E : XK), Room k (A.deeper (envOfC qual (defScope st) s.heap.objs.size f cdv))->sp vs H Q E →
      ∃ t, PSs (cxOf (CXx P w) P w K mg base N qual (defScope st) f cdv A outer s H E) (defBody st) t /\ t { nx := fun _ H' => Q .non H', rt := Q } (start N vs) H) : FnOk P w K mg base (CXx P w) (k + 1) f fd ps sp := by
  obtain ⟨oc, od, kV, doc, pm, an, cdv, ct, osl, rfl, lk, hcd⟩ := F.ex
  exact fn_of lk hcd S len fun A outer s H vs Q E hr hsp => hbody cdv A outer s H vs Q E hr hsp
theorem fund_mk {x qual : Str} {st : Stmt} {f : Addr} {oc dV : Value} {od an : Option Addr} {osl : Array (Option Value)} {kV doc pm cdv ct : Value} (l : K.lookup f = some ⟨oc, od, .func (PySem.W.fnOf x qual (defArgs st) (defBody st) (defScope st) dV kV doc pm an cdv ct), osl⟩)
    (c : PySem.W.codeIn K cdv qual = true) (k : PySem.W.keepIn K (.ref f) = true) : FunD K x qual st f (PySem.W.fnOf x qual (defArgs st) (defBody st) (defScope st) dV kV doc pm an cdv ct) dV := ⟨⟨oc, od, kV, doc, pm, an, cdv, ct, osl, rfl, l, c⟩, k⟩
theorem FunD.binds {x qual : Str} {st : Stmt} {f T : Addr} {fd : FuncData} {ps : List Str} {o : Obj} {its : Array Value} {n : Nat} {ds : List Value} (F : FunD K x qual st f fd (.ref T)) (ho : K.lookup T = some o) (hs : o.data = .seq its n)
    (h : ∀ (kV doc pm : Value) (an : Option Addr) (cdv ct : Value) (us : List Value), us.length + ds.length = ps.length->∃ k : Option (Array Value)->Sem (List (Str × Value)),
      bindArgs (PySem.W.fnOf x qual (defArgs st) (defBody st) (defScope st) (.ref T) kV doc pm an cdv ct) ⟨us, []⟩ = seqItems? (.ref T) >>= k /\ k (some its) = pure (ps.zip (us ++ ds))) : Binds K fd ps ds := by
  obtain ⟨oc, od, kV, doc, pm, an, cdv, ct, osl, rfl, lk, hcd⟩ := F.ex
  intro s us X hl
  obtain ⟨k, h1, h2⟩ := h kV doc pm an cdv ct us (by rw [← List.length_append]; exact hl)
  exact PySem.W.binds_K X rfl ho hs h1 h2
end
section
variable (P : Program) (w : World) (K : PySem.W.Frag) (mg : Str->Option Value) (base : Heap)
structure MakeXd (x : Str) (C : Addr) (k : Nat) (ps : List Str) (ds : List Value) (sp : Sp) : Prop where
  ex : ∃ (f : Addr) (fd : FuncData), mg x = some (.ref C) /\ Mk K C f /\ FnOk P w K mg base (CXx P w) k f fd ps sp /\ Binds K fd ps ds
end
def tMakeSd (C : Addr) (sp : Sp) (E : XS) (dvs : List V) (t : TA) : TE := fun σ H Q => t σ H fun vs H1 => ∀ x dx, H1 x = none->H1 dx = none->dx ≠ x →
  sp (.ref x :: (vs ++ dvs)) (upd (upd H1 dx (.own x)) x (.ins C dx [])) (fun v H2 => v = .non /\ Q (.ref x) H2) (E σ)
section
variable {X : Cx} {k : Nat} {f C : Addr} {fd : FuncData} {ps : List Str} {sp : Sp} {E : XS} {x m : Str} {p pos apos : Pos} {e o : Expr} {es : List Expr} {ta : TE} {t : TA} {ds : List Value} {dvs : List V}
theorem run_makeSd {pins : List (Addr × Obj)} {σ : St} {H : Hp} {s : Shared} {Q : VK} {us : List Value} {vs : List V} (M : Mk X.K C f) (F : FnOk X.prog X.w X.K X.mg X.base (CXx X.prog X.w) k f fd ps sp) (hr : Room (k + 1) X.A) (hb : Binds X.K fd ps ds) (rd : Vals dvs ds)
    (hx : PassesS X E) (I : Inv X pins σ H s) (r : Vals vs us)
    (h : ∀ x dx, H x = none->H dx = none->dx ≠ x->sp (.ref x :: (vs ++ dvs)) (upd (upd H dx (.own x)) x (.ins C dx [])) (fun v H2 => v = .non /\ Q (.ref x) H2) (E σ)) :
    wpAny (model X.prog X.w) X.A (call (.ref C) us) (EP X pins σ Q) X.xe s := by
  have hq := h (s.heap.objs.size + 1) s.heap.objs.size (I.hok.fresh (Nat.le_succ _)) (I.hok.fresh (Nat.le_refl _)) (Nat.ne_of_lt (Nat.lt_succ_self _))
  have I2 := Inv.made (C := C) I
  have r2 : Vals (V.ref (s.heap.objs.size + 1) :: (vs ++ dvs)) (Value.ref (s.heap.objs.size + 1) :: us ++ ds) := .cons rfl (Vals.append r rd)
  have hl : (Value.ref (s.heap.objs.size + 1) :: us ++ ds).length = ps.length := by
    have e := r2.length
    rw [F.len _ _ _ _ hq] at e
    exact e.symm
  have hb' := hb _ (Value.ref (s.heap.objs.size + 1) :: us) I2.kIn hl
  refine wpAny_call (make_map (f := f) I.kIn M.makes M.init (beq_iff_eq.mp M.fn) (codeAny_mono (F.run _ X.stack _ _ ⟨Value.ref (s.heap.objs.size + 1) :: us, []⟩ (Value.ref (s.heap.objs.size + 1) :: us ++ ds) _ _ (E σ) (hr.make C us [])
    (I2.env0.make C us []) hb' r2 hq) fun r s' hq' => ?_))
  cases r with
  | error e => exact hx pins σ _ _ e s' I2 hq'
  | ok fl =>
    cases fl with
    | ret u =>
      obtain ⟨v, H', I3, rv, ev, q3⟩ := I2.after hq'
      subst ev
      exact ⟨rv, ⟨V.ref (s.heap.objs.size + 1), H', I3, rfl, q3⟩⟩
    | next => exact False.elim hq'
    | brk => exact False.elim hq'
    | cont => exact False.elim hq'
theorem pe_makeSd (D : MakeXd X.prog X.w X.K X.mg X.base x C k ps ds sp) (rd : Vals dvs ds) (hx : PassesS X E) (hr : Room (k + 1) X.A) (hg : Gl X x) (ha : PA X (e :: es) t)
    (hdb : (x == ("__debug__" : Str)) = false := by decide) (he : starEach (e :: es) X.env = (false, eval e X.env) :: starEach es X.env := by rfl) (hpl : (backTo pos (starEach es X.env)).any (·.1) = false := by rfl) :
    PE X (.Call (.Name x p) (e :: es) [] pos) (tMakeSd C sp E dvs t) := by
  obtain ⟨f, fd, m, M, F, b⟩ := D.ex
  intro pins s σ H Q I h
  refine wpAny_Call_Name_kw (ld_glob I hg m ?_ hdb)
  refine PySem.W.callWith_K (h₀ := X.base) I.ok.mod.kin M.kp (thn (ha pos pins s σ H _ I h) fun us s1 ⟨vs, H1, I1, r, q⟩ => ⟨I1.kIn, ?_⟩) he hpl
  exact run_makeSd M F hr b rd hx I1 r q
end
open PySem PySem.Spec PyProof.Rows
def flat (rows : List (Nat × Nat)) : List Nat := rows.flatMap fun r => [r.1, r.2]
theorem made_same {H H' : Hp} {x dx : Addr} {o : HO} (hx : H x = none) (hd : H dx = none) (k : Keep [x] (upd (upd H dx (.own x)) x o) H') : Same H H' := fun b u e => by
  have n1 := ne_of_none e hx
  have n2 := ne_of_none e hd
  exact k b u (by rw [upd_ne n1, upd_ne n2]; exact e) (by simpa using n1)
open PySem PySem.Spec PyProof.Rows
theorem vals_of : ∀ {us : List Value} {ns : List Int}, IntsAre us ns->Vals (ns.map V.int) us
  | _, _, .nil => .nil
  | _, _, .cons _ t r => .cons ⟨t, rfl⟩ (vals_of r)
theorem ints_len {us : List Value} {ns : List Int} (h : IntsAre us ns) : us.length = ns.length := by
  have := (vals_of h).length
  rw [List.length_map] at this
  exact this.symm
open PySem PySem.Spec PyProof.Rows
def sfs (d : Addr) (fl : Int) : List (Str × V) := [("pieces", V.ref d), ("follows", V.int fl)]
def ShAt (C : Addr) (H : Hp) (p d : Addr) (fl : Int) (kvs : List (Key × V)) : Prop := ∃ dx, H p = some (.ins C dx (sfs d fl)) /\ H d = some (.dK kvs)
def sp_sinit (C : Addr) : Sp := fun vs H Q _ => ∃ (p dx : Addr), vs = [.ref p] /\ H p = some (.ins C dx []) /\ ∀ d H', ShAt C H' p d 0 []->H d = none->Keep [p] H H'->Q .non H'
open PySem PySem.Spec PyProof.Rows
theorem iteNN {c A B : Prop} [Decidable c] (hc : ¬ c) (h : A) : if (!decide c) = true then A else B := by
  rw [decide_eq_false hc, if_pos (by decide)]; exact h
theorem get_at {xs : List Int} {j : Nat} (h : j < xs.length) : ∃ x, (xs.map V.int)[j]? = some (V.int x) /\ x ∈ xs := ⟨xs[j], by simp [h], List.getElem_mem h⟩
theorem SeqEq.ints {K : PySem.W.Frag} {H : Hp} {a c : Addr} {xs ys : List Int} (h1 : SqL K H a (xs.map V.int)) (h2 : SqL K H c (ys.map V.int)) : SeqEq K H (EqI K H 0) (.ref a) (.ref c) (decide (xs = ys)) := by
  by_cases hl : xs.length = ys.length
  · refine ⟨a, c, _, _, fun j => decide (xs[j]? = ys[j]?), rfl, rfl, .inl ⟨h1, h2, by simpa using hl, fun j x' y' e1 e2 => ?_, ?_⟩⟩
    · rw [List.getElem?_map] at e1 e2
      obtain ⟨x, ex, rfl⟩ := Option.map_eq_some_iff.mp e1
      obtain ⟨y, ey, rfl⟩ := Option.map_eq_some_iff.mp e2
      refine .inl ⟨rfl, rfl, ?_⟩
      show decide (xs[j]? = ys[j]?) = eqV (.int x) (.int y)
      rw [ex, ey]
      show decide (some x = some y) = (x == y)
      rw [Bool.eq_iff_iff, decide_eq_true_iff, beq_iff_eq]
      exact ⟨fun h => Option.some.inj h, fun h => by rw [h]⟩
    · rw [List.length_map, Bool.eq_iff_iff, decide_eq_true_iff, List.all_eq_true]
      constructor
      · rintro rfl j _; simp
      · intro h
        refine List.ext_getElem? fun j => ?_
        by_cases hj : j < xs.length
        · exact of_decide_eq_true (h j (List.mem_range.mpr hj))
        · rw [List.getElem?_eq_none (by omega), List.getElem?_eq_none (by omega)]
  · refine ⟨a, c, _, _, fun _ => true, rfl, rfl, .inr (.inl ⟨h1, h2, by simpa using hl, ?_⟩)⟩
    exact decide_eq_false (fun e => hl (by rw [e]))
theorem int_at {xs : List Int} {j : Nat} {y : V} (h : (xs.map V.int)[j]? = some y) : ∃ n, xs[j]? = some n /\ V.int n = y := by
  rw [List.getElem?_map] at h
  obtain ⟨c, h1, h2⟩ := Option.map_eq_some_iff.mp h
  exact ⟨c, h1, h2⟩
open PySem PySem.Spec PyProof.Rows
theorem miss_keysL : typeLookup (.type "list") "keys" = pure none := by rw [typeLookup_type, builtinLookup_eq_fast]; kernel_rfl
section
variable {prog : Program} {w : World} {A : Around} {E : Value->Shared->Prop} {s : Shared} {a : Addr} {its : Array Value} {n : Nat} {sl : Array (Option Value)}
theorem keys_noneL {Q : Option Value->Shared->Prop} (hx : s.heap.get? a = some { cls := .type "list", dict := none, data := .seq its n, slots := sl }) (hA : A.handled = none)
    (h : ∀ h' tk, (∀ b ob, s.heap.get? b = some ob->h'.get? b = some ob)->Q none { s with heap := h', toks := tk }) : wpAny (model prog w) A (getAttr? (.ref a) "keys") Q E s := by
  obtain ⟨hp, g, dr, tk, os⟩ := s
  have hT : ∀ tk', (⟨hp, g, dr, tk', os⟩ : Shared).TypeIs (.ref a) "list" := fun _ => ⟨_, hx, rfl⟩
  have u1 := sub_AttributeError
  have u2 := F.slot_list_getattribute.lookup
  have u3 := F.slot_list_getattribute.bind (.ref a)
  have u4 := am_list_getattr_none
  unfold getAttr? getAttrBy? getAttrBy
  repeat (any_goals first | ((with_reducible show wpAny _ _ (call (Value.builtin "list.__getattribute__") _ _) _ _ _); refine call_meets F.slot_list_getattribute (hT _) am_entry_list_getattribute (F.args_list_getattribute_2 _ _) (meets_getattribute_miss_list a its n sl "keys" _ miss_keysL (by decide +kernel)) ⟨hx, hA, fun h' tk' e hx' => ?_⟩) | exact hT _ | wp_step | assumption)
  obtain ⟨t', u', he⟩ := hx'.there
  show wpAny _ _ (getattributeRaised _ _ _ _ _ _ _) _ _ _
  unfold getattributeRaised
  repeat (any_goals first | wp_step | assumption)
  exact h _ _ hx'.keeps
end
theorem entry_dul : entryFor table "dict.update.loop" = some Builtin.«dict.update.loop» := entryFor_of_tree (by kernel_rfl)
theorem plain_dul : plainId "dict.update.loop" = true := by decide +kernel
section
variable {prog : Program} {w : World} {κ : Type} [DecidableEq κ] {knd : KeyKind prog w κ} {A : Around} {R : Result->Shared->Prop} {I l d : Addr} {its : Array Value} {St : Nat->Heap->Prop}
def PairsIn (knd : KeyKind prog w κ) (its : Array Value) (ps : List (κ × Value)) (h : Heap) : Prop := ∀ (i : Nat) (v : Value), its[i]? = some v->∃ t key x n ob k, v = .ref t /\ h.get? t = some ob /\ ob.cls = .type "tuple" /\ ob.data = .seq #[key, x] n /\ ps[i]? = some (k, x) /\ knd.is k key = true
theorem dul_loop (W : Walks prog w A.in1 I [I, l] [I] its.size (fun i v => its[i]? = some v) St) (hI : ∀ i h, St i h->∃ o, h.get? I = some o /\ o.cls ≠ .type "tuple") (hdI : d ≠ I) (hdl : d ≠ l) {ps : List (κ × Value)} (hps : ps.length = its.size) :
    ∀ (k i : Nat) (s : Shared) (kvs : List (κ × Value)), its.size - i = k->i ≤ its.size->St i s.heap->s.heap.DictOf knd d kvs->PairsIn knd its ps s.heap->kvs.length + its.size ≤ sizeLine + i →
    (∀ h' tk, (∀ b o, b ≠ I->b ≠ d->s.heap.get? b = some o->h'.get? b = some o)->h'.DictOf knd d (merged kvs (ps.drop i))->R (.ok (.ret .none)) { s with heap := h', toks := tk }) →
    codeAny (model prog w) A (.builtin "dict.update.loop" ⟨[.ref d, .ref I, rawInt i, .none], []⟩) R s := by
  intro k
  induction k with
  | zero =>
    intro i s kvs hk hi hst hD hP hsz hR
    have e : i = its.size := by omega
    subst e
    refine codeAny_builtin entry_dul ?_
    rw [Around.under_plainId plain_dul _]
    show wpAny _ A.in1 (pyNext (.ref I) >>= _) _ _ s
    refine wpAny_bind (W.done s _ _ hst fun h' tk hk' => ?_)
    refine wpAny_bind (wpAny_pure ?_)
    refine wpAny_pure (hR h' tk (fun b o n1 _ e => hk' b o (by simpa using n1) e) ?_)
    rw [List.drop_of_length_le (by omega)]
    obtain ⟨o, es, ep, ho, r⟩ := hD
    exact ⟨o, es, ep, hk' _ _ (by simpa using hdI) ho, r⟩
  | succ k ih =>
    intro i s kvs hk hi hst hD hP hsz hR
    have hlt : i < its.size := by omega
    refine codeAny_builtin entry_dul ?_
    rw [Around.under_plainId plain_dul _]
    show wpAny _ A.in1 (pyNext (.ref I) >>= _) _ _ s
    refine wpAny_bind (W.item i s _ _ hlt hst fun v h' tk hv hst' hk' => ?_)
    obtain ⟨t, key, x, n, ob, kk, rfl, ht, hc, hdt, hpi, hkey⟩ := hP i v hv
    obtain ⟨oI, hoI, hcI⟩ := hI i _ hst
    have ntI : t ≠ I := fun z => by subst z; rw [ht] at hoI; cases hoI; exact hcI hc
    obtain ⟨od, es, ep, hod, hcd, hdd, r⟩ := id hD
    have hD' : h'.DictOf knd d kvs := ⟨od, es, ep, hk' _ _ (by simpa using hdI) hod, hcd, hdd, r⟩
    have ht' := hk' t _ (by simpa using ntI) ht
    refine wpAny_bind (wpAny_holding ?_)
    refine wpAny_bind (wpAny_tryCatch ?_)
    unfold Builtin.Dict.pairItems
    have hTt : ({ s with heap := h', toks := tk } : Shared).TypeIs (.ref t) "tuple" := ⟨ob, ht', hc⟩
    refine wpAny_bind (wpAny_typeOf hTt ?_)
    rw [if_pos (by decide)]
    refine wpAny_bind (wpAny_seqItems ht' hdt (wpAny_pure ?_))
    show wpAny _ A.in1 (holding [key, x] (dictSet d key x)) _ _ _
    refine wpAny_holding (wpAny_dictSet_pairs hkey hD' (fun h2 hD2 sb => ?_) (by omega))
    refine wpAny_pure ⟨plainId_quiet plain_dul _, ?_⟩
    have ndt : t ≠ d := fun z => by
      subst z
      rw [ht] at hod; cases hod
      rw [hdt] at hdd; cases hdd
    have up : ∀ b o, b ≠ I->b ≠ d->s.heap.get? b = some o->h2.get? b = some o := fun b o n1 n2 e => sb.extBut b o n2 (hk' b o (by simpa using n1) e)
    refine ih (i + 1) _ (stored kvs kk x) (by omega) (by omega) ?_ hD2 ?_ ?_ ?_
    · refine W.frame (i + 1) h' h2 hst' fun b hb o e => sb.extBut b o (fun z => ?_) e
      subst z
      simp only [List.mem_cons, List.not_mem_nil, or_false] at hb
      rcases hb with h | h
      · exact hdI h
      · exact hdl h
    · intro j v hj
      obtain ⟨t2, key2, x2, n2, ob2, k2, rfl, a1, a2, a3, a4, a5⟩ := hP j v hj
      refine ⟨t2, key2, x2, n2, ob2, k2, rfl, up t2 ob2 (fun z => ?_) (fun z => ?_) a1, a2, a3, a4, a5⟩
      · subst z; rw [a1] at hoI; cases hoI; exact hcI a2
      · subst z; rw [a1] at hod; cases hod; rw [a3] at hdd; cases hdd
    · have : (stored kvs kk x).length ≤ kvs.length + 1 := by unfold stored; split <;> simp
      omega
    · intro h3 tk3 hk3 hD3
      refine hR h3 tk3 (fun b o n1 n2 e => hk3 b o n1 n2 (up b o n1 n2 e)) ?_
      have e : ps.drop i = (kk, x) :: ps.drop (i + 1) := by
        have hil : i < ps.length := by omega
        rw [List.drop_eq_getElem_cons hil]
        rw [List.getElem?_eq_getElem hil] at hpi
        rw [Option.some.inj hpi]
      rw [e]
      exact hD3
end
theorem pairs_vals {P : Program} {w : World} {H : Hp} {h : Heap} (ok : HOk P w H h) : ∀ {L : List V} {its : List Value} {ps : List (Key × V)}, Vals L its->L.length = ps.length->(∀ (i : Nat) v, L[i]? = some v->∃ t k x, v = V.ref t /\ H t = some (.tup [kV k, x]) /\ ps[i]? = some (k, x))->∃ pv, KV ps pv /\ PairsIn (mixKind P w) its.toArray pv h
  | [], _, [], .nil, _, _ => ⟨[], .nil, fun i v e => by simp at e⟩
  | [], _, _ :: _, _, hl, _ => by simp at hl
  | _ :: _, _, [], _, hl, _ => by simp at hl
  | v :: L, u :: its, p :: ps, .cons r rr, hl, hp => by
    obtain ⟨t, k, x, rfl, ht, e0⟩ := hp 0 v rfl
    have e0 : p = (k, x) := by simpa using e0
    subst e0
    have r : u = Value.ref t := r
    subst r
    obtain ⟨pv, kv, pin⟩ := pairs_vals ok rr (by simpa using hl) (fun i v e => by
      obtain ⟨t, k, x, a, b, c⟩ := hp (i + 1) v (by simpa using e)
      exact ⟨t, k, x, a, b, by simpa using c⟩)
    obtain ⟨_, its2, r2, ob, h1, h2, n, h3⟩ := (show ObjOk P w H h t (.tup [kV k, x]) from ok t _ ht)
    cases r2 with
    | @cons _ ku _ _ ra rb =>
      cases rb with
      | @cons _ xu _ _ rx rn =>
        cases rn
        refine ⟨(k, xu) :: pv, .cons ⟨rfl, rx⟩ kv, fun i v e => ?_⟩
        cases i with
        | zero =>
          have e : Value.ref t = v := by simpa using e
          exact ⟨t, ku, xu, n, ob, k, e.symm, h1, h2, h3, rfl, kV_is ra⟩
        | succ i =>
          obtain ⟨t2, k2, x2, n2, o2, kk, a1, a2, a3, a4, a5, a6⟩ := pin i v (by simpa using e)
          exact ⟨t2, k2, x2, n2, o2, kk, a1, a2, a3, a4, by simpa using a5, a6⟩
open PySem PySem.Spec PyProof.Rows
theorem call_dictL {prog : Program} {w : World} {κ : Type} [DecidableEq κ] {knd : KeyKind prog w κ} {A : Around} {E : Value->Shared->Prop} {s : Shared} {a : Addr} {its : Array Value} {n : Nat} {sl : Array (Option Value)} {ps : List (κ × Value)} {Q : Value->Shared->Prop}
    (hx : s.heap.get? a = some { cls := .type "list", dict := none, data := .seq its n, slots := sl }) (hA : A.handled = none) (hP : PairsIn knd its ps s.heap) (hps : ps.length = its.size) (hsz : its.size ≤ sizeLine)
    (h : ∀ h' tk, (∀ b o, s.heap.get? b = some o->h'.get? b = some o)->h'.DictOf knd s.heap.objs.size (merged [] ps)->Q (.ref s.heap.objs.size) { s with heap := h', toks := tk }) :
    wpAny (model prog w) A (call (.type "dict") [.ref a]) Q E s := by
  refine callType_codes (Q₁ := fun obj s₁ => obj = .ref s.heap.objs.size /\ s₁ = { s with heap := s.heap.push { cls := .type "dict", data := .dict #[] } }) F.kt_called_dict (F.kt_typeCall_dict_1 _) F.entry_dict_init (kt_code_dict_new _ ⟨rfl, rfl⟩) ?_
  rintro obj s₁ ⟨rfl, rfl⟩
  have hnew : (s.heap.push { cls := .type "dict", data := .dict #[] }).DictOf knd s.heap.objs.size [] := Heap.DictOf.new s.heap
  have hx1 := Heap.get?_push_of_some { cls := .type "dict", data := .dict #[] } hx
  have hlt : a < s.heap.objs.size := Heap.lt_size hx
  refine ⟨hnew.typeIs, F.args_dict_init_2 _ _, ?_⟩
  unfold Builtin.«dict.__init__»
  refine wpAny_bind ?_
  unfold Builtin.Dict.selfAndRest
  refine wpAny_bind (wpAny_notOrdered_dict hnew.typeIs (wpAny_pure ?_))
  show wpAny _ _ (Builtin.Dict.updateFrom "dict.__init__" s.heap.objs.size (.ref a) [] .none) _ _ _
  unfold Builtin.Dict.updateFrom
  have hTl : ({ s with heap := s.heap.push { cls := .type "dict", data := .dict #[] } } : Shared).TypeIs (.ref a) "list" := ⟨_, hx1, rfl⟩
  refine wpAny_bind (wpAny_typeOf hTl ?_)
  rw [if_pos (by decide)]
  refine wpAny_bind (keys_noneL hx1 hA fun h2 tk2 hk2 => ?_)
  rw [if_pos (show (none : Option Value).isNone = true from rfl)]
  refine wpAny_bind (wpAny_rule ?_)
  have hx2 := hk2 _ _ hx1
  refine wpAny_bind (wpAny_pyIter_list (items := its) ⟨_, hx2, rfl, _, rfl⟩ ?_)
  have hnew2 : h2.DictOf knd s.heap.objs.size [] := by
    obtain ⟨o, es, ep, ho, r⟩ := hnew
    exact ⟨o, es, ep, hk2 _ _ ho, r⟩
  obtain ⟨od, es, ep, hod, hcd, hdd, r⟩ := id hnew2
  have hltd : s.heap.objs.size < h2.objs.size := Heap.lt_size hod
  have hlta : a < h2.objs.size := Heap.lt_size hx2
  refine wpAny_pure ⟨plainId_quiet plain_dul _, ?_⟩
  refine dul_loop (A := A.in1) (its := its) (knd := knd) (I := h2.objs.size) (l := a) (Walks.list (prog := prog) (w := w) (A := A.in1.in1) (show A.in1.in1.handled = none from hA) h2.objs.size a (Nat.ne_of_lt hlta) its) ?_ (Nat.ne_of_lt hltd) (fun z => by subst z; exact absurd hlt (Nat.lt_irrefl _)) hps its.size 0 _ [] (by omega) (by omega) ⟨?_, ?_⟩ ?_ ?_ (by simp; omega) ?_
  · rintro i h ⟨⟨o, ho, hc, _⟩, _⟩
    exact ⟨o, ho, by rw [hc]; decide⟩
  · exact ⟨_, Heap.get?_push_size _ rfl, rfl, rfl⟩
  · exact ⟨_, Heap.get?_push_of_some _ hx2, rfl, _, rfl⟩
  · exact ⟨od, es, ep, Heap.get?_push_of_some _ hod, hcd, hdd, r⟩
  · intro i v hv
    obtain ⟨t, key, x, n, ob, k, e1, e2, r⟩ := hP i v hv
    exact ⟨t, key, x, n, ob, k, e1, Heap.get?_push_of_some _ (hk2 _ _ (Heap.get?_push_of_some _ e2)), r⟩
  · intro h' tk hk hD
    refine ⟨rfl, h h' tk (fun b o e => hk b o (fun z => ?_) (fun z => ?_) (Heap.get?_push_of_some _ (hk2 _ _ (Heap.get?_push_of_some _ e)))) (by simpa using hD)⟩
    · subst z
      exact Nat.lt_asymm hltd (Heap.lt_size e)
    · subst z
      exact Nat.lt_irrefl _ (Heap.lt_size e)
theorem vals_len' : ∀ {L : List V} {its : List Value}, Vals L its->its.length = L.length
  | _, _, .nil => rfl
  | _, _, .cons _ r => by simp [vals_len' r]
theorem KV.len' : ∀ {ps : List (Key × V)} {pv : List (Key × Value)}, KV ps pv->pv.length = ps.length
  | _, _, .nil => rfl
  | _, _, .cons _ r => by simp [KV.len' r]
theorem call_dictP {X : Cx} (hc : X.calm = true) : CallR X (.type "dict") (fun xs H Q => ∃ (a : Addr) (L : List V) (ps : List (Key × V)), xs = [.ref a] /\ H a = some (.lst L) /\ L.length = ps.length /\ (∀ (i : Nat) v, L[i]? = some v->∃ t k x, v = V.ref t /\ H t = some (.tup [kV k, x]) /\ ps[i]? = some (k, x)) ∧
    ∀ d, H d = none->Q (.ref d) (upd H d (.dK (mergeK [] ps)))) := by
  rintro pins s σ H xs us Q I r ⟨a, L, ps, rfl, hL, hl, hp, q⟩
  obtain ⟨u, rfl, ru⟩ := vals1 r
  cases (show u = Value.ref a from ru)
  obtain ⟨hsz, its, n, rv, hx⟩ := (show ObjOk X.prog X.w H s.heap a (.lst L) from I.hok a _ hL)
  obtain ⟨pv, kv, pin⟩ := pairs_vals I.hok rv hl hp
  have e1 := vals_len' rv
  have e2 := KV.len' kv
  refine call_dictL (knd := mixKind X.prog X.w) (ps := pv) hx (I.ok.hd hc) pin (by simp; omega) (by simp; omega) fun h' tk keep hD => ?_
  have hno := I.hok.fresh (Nat.le_refl s.heap.objs.size)
  refine ⟨.ref s.heap.objs.size, _, I.laid (a := s.heap.objs.size) (o := .dK (mergeK [] ps)) (t' := tk) keep (Nat.le_refl _) (dk_new ?_ (beq_eq_false_iff_ne.mpr (Ne.symm (Nat.ne_of_lt I.big))) (KV.merge kv .nil) hD), rfl, q _ hno⟩
  have := length_mergeK ps []
  simp at this
  omega
open PySem PySem.Spec PyProof.Rows
theorem mem_merge : ∀ (ns : List Int) (kvs : List (Key × V)) (d : Int), (valV (mergeK kvs (ns.map fun n => (Sum.inl n, V.bl true))) (Sum.inl d)).isSome = ((valV kvs (Sum.inl d)).isSome || decide (d ∈ ns))
  | [], kvs, d => by simp [mergeK]
  | n :: ns, kvs, d => by
    show (valV (mergeK (putK kvs (Sum.inl n) (V.bl true)) (ns.map fun n => (Sum.inl n, V.bl true))) (Sum.inl d)).isSome = _
    rw [mem_merge ns, valV_put]
    by_cases h : d = n
    · subst h; simp
    · have h2 : ¬ ((Sum.inl d : Key) = Sum.inl n) := fun z => h (Sum.inl.inj z)
      rw [if_neg h2]; simp [h]
open PySem PySem.Spec PyProof.Rows Builtin Builtin.Str
abbrev CS : PySem.Str := ⟨#[44, 32]⟩
theorem csS : Str.ofString ", " = CS := by decide +kernel
theorem kind_cs (x : PySem.Str) : ¬ Builtin.Str.strKind x < Builtin.Str.strKind CS := by
  have e : Builtin.Str.strKind CS = 1 := by decide +kernel
  rw [e]
  unfold Builtin.Str.strKind
  split
  · omega
  · split <;> omega
abbrev wL : PySem.Str := Str.ofString "last"
abbrev wE : PySem.Str := Str.ofString "each"
abbrev wA : PySem.Str := Str.ofString "apart"
abbrev wS : PySem.Str := Str.ofString "sealed"
theorem lens_sumZ {n : Nat} : ∀ {ws : List PySem.Str}, (∀ w ∈ ws, w.length ≤ n)->(ws.map (·.length)).sum ≤ n * ws.length
  | [], _ => by simp
  | w :: r, h => by
    have h1 := h w (by simp)
    have h2 := lens_sumZ (n := n) (ws := r) fun c hc => h c (List.mem_cons_of_mem _ hc)
    simp only [List.map_cons, List.sum_cons, List.length_cons]
    rw [Nat.mul_add]
    omega
theorem join_lenZ {z : PySem.Str} {ws : List PySem.Str} {n : Nat} (h : ∀ w ∈ ws, w.length ≤ n) : (Str.join z ws).length ≤ n * ws.length + ws.length * z.length := by
  have h1 := lens_sumZ h
  rw [← StrLaws.glued_eq_join, size_glued]
  have : (ws.length - 1) * z.length ≤ ws.length * z.length := Nat.mul_le_mul_right _ (Nat.sub_le _ _)
  omega
open PySem PySem.Spec PyProof.Rows
structure RoomH (k : Nat) (A : Around) : Prop where
  dp : A.depth + 3 * k + 5 < recursionLimit
  un : A.units + 16 * k + 200 < cLine
theorem Room.toH {k : Nat} {A : Around} (r : Room k A) : RoomH k A := ⟨r.dp, r.un⟩
theorem RoomH.mark {k : Nat} {A : Around} {v : Option Value} (r : RoomH k A) : RoomH k (A.mark v) := ⟨r.dp, r.un⟩
theorem RoomH.make {k : Nat} {A : Around} (r : RoomH (k + 1) A) (C : Addr) (us : List Value) (kw : List (Str × Value)) : RoomH k (A.under (.builtin "type.__call__" ⟨.ref C :: us, kw⟩)) :=
  ⟨by have := r.dp; rw [make_depth]; omega, by have := r.un; rw [make_units]; omega⟩
structure FnOkH (P : Program) (w : World) (K : PySem.W.Frag) (mg : Str->Option Value) (base : Heap) (CX : CXT) (k : Nat) (f : Addr) (fd : FuncData) (ps : List Str) (sp : Sp) : Prop where
  len : ∀ vs H Q E, sp vs H Q E->vs.length = ps.length
  run : ∀ (A : Around) (outer : List Env) (s : Shared) (H : Hp) (args : Args) (us : List Value) (vs : List V) (Q : VK) (E : XK), RoomH k A->Env0 P w K mg base A outer s H->BindsTo s fd args (ps.zip us)->Vals vs us->sp vs H Q E →
    codeAny (model P w) A (.call (.ref f) args) (CR CX outer P w H s Q E) s
abbrev cxOfH (CX : CXT) (P : Program) (w : World) (K : PySem.W.Frag) (mg : Str->Option Value) (base : Heap) (N : List Str) (qual : Str) (scope : Scope) (f : Addr) (cd : Value) (A : Around) (outer : List Env) (s : Shared) (H : Hp) (E : XK) : Cx :=
  { cxOf CX P w K mg base N qual scope f cd A outer s H E with calm := false }
theorem fn_ofH {CX : CXT} {P : Program} {w : World} {K : PySem.W.Frag} {mg : Str->Option Value} {base : Heap} {k : Nat} {f : Addr} {name qual : Str} {params : Arguments} {body : List Stmt} {scope : Scope} {dV kV doc pm cdv ct oc : Value} {an od : Option Addr}
    {osl : Array (Option Value)} {N ps : List Str} {sp : Sp} (lk : K.lookup f = some ⟨oc, od, .func (PySem.W.fnOf name qual params body scope dV kV doc pm an cdv ct), osl⟩) (hcd : PySem.W.codeIn K cdv qual = true) (S : FnScope N ps scope)
    (len : ∀ vs H Q E, sp vs H Q E->vs.length = ps.length)
    (hbody : ∀ (A : Around) (outer : List Env) (s : Shared) (H : Hp) (vs : List V) (Q : VK) (E : XK), sp vs H Q E →
      ∃ t, PSs (cxOfH CX P w K mg base N qual scope f cdv A outer s H E) body t /\ t { nx := fun _ H' => Q .non H', rt := Q } (start N vs) H) :
    FnOkH P w K mg base CX (k + 1) f (PySem.W.fnOf name qual params body scope dV kV doc pm an cdv ct) ps sp := by
  refine ⟨len, fun A outer s H args us vs Q E hr e0 hb r hsp => ?_⟩
  have hl := len _ _ _ _ hsp
  have KX : K.In s.heap := e0.mod.kin.keeps fun b o e => (e0.bs b o e).1
  have lim : s.heap.NoLimit := e0.mod.nolimit.keeps fun b o e => (e0.bs b o e).1
  have hkind : ∀ y ∈ ps.zip us, scope.names.lookup y.1 = some .local ∨ (scope.names.lookup y.1 = some .cell /\ ((cellsFrom (s.heap.objs.size + 1) scope.names []).lookup y.1).isSome = true) := fun ⟨n, v⟩ hy => by
    rcases S.par n (List.of_mem_zip hy).1 with q | q
    · exact .inl q
    · exact .inr ⟨q, PySem.W.cellsFrom_some _ _ _ (.inl q)⟩
  refine codeAny_call_function (by have := hr.dp; omega) (KX _ _ lk) rfl S.co S.gen rfl (PySem.W.codeRec_of KX hcd) (hb _ _ _ _ ?_)
  refine wpAny_newFunctionEnv_cells S.kind hkind fun env he s1 x => ?_
  subst he
  refine ⟨lim.keeps x.toInCall.keep, codeAny_func ?_⟩
  obtain ⟨t, ht, hq⟩ := hbody A outer s H vs Q E hsp
  have e1 : Env0 P w K mg base { A with handled := none } outer s H := ⟨e0.frames, e0.mod, e0.bs, e0.bsz, e0.funs, e0.frf, e0.hok, e0.bare⟩
  have I1 : Inv (cxOf CX P w K mg base N qual scope f cdv { A with handled := none } outer s H E) [] (start N vs) H s1 := inv_start S rfl e1 hl r x
  have I : Inv (cxOfH CX P w K mg base N qual scope f cdv A outer s H E) [] (start N vs) H s1 :=
    ⟨⟨I1.ok.mod, I1.ok.kind, I1.ok.glob, I1.ok.blt, I1.ok.above, I1.ok.inj, I1.ok.has, I1.ok.cab, (fun z => by cases z), Around.frames_deeper e0.frames, I1.ok.stk, I1.ok.exf, I1.ok.bs, I1.ok.bsz, I1.ok.noex, I1.ok.exfs, I1.ok.funs, I1.ok.frf⟩,
      I1.os, I1.bare, I1.base, I1.loc, I1.cell, I1.free, I1.freeC, I1.pin, I1.hok, I1.len⟩
  refine wpAny_mono (ht [] s1 (start N vs) H _ I hq) (fun fl s' hs => ?_) fun e s' hs => hs
  have fin : ∀ {σ' : St} {H' : Hp} {v : V} {u : Value}, Inv (cxOfH CX P w K mg base N qual scope f cdv A outer s H E) [] σ' H' s'->RelV v u->Q v H'->CE outer P w H s Q u s' :=
    fun {σ' H' v u} J rv q => ⟨v, H', J.os, J.bare, J.base, J.hok, rv, q⟩
  cases fl with
  | ret u =>
    obtain ⟨v, σ', H', J, rv, q⟩ := hs
    exact fin J rv q
  | next =>
    obtain ⟨σ', H', J, q⟩ := hs
    exact fin (v := V.non) (u := Value.none) J rfl q
  | brk =>
    obtain ⟨_, _, _, q⟩ := hs
    exact False.elim q
  | cont =>
    obtain ⟨_, _, _, q⟩ := hs
    exact False.elim q
theorem Fun.okXH {P : Program} {w : World} {K : PySem.W.Frag} {mg : Str->Option Value} {base : Heap} {x qual : Str} {st : Stmt} {f : Addr} {fd : FuncData} {N ps : List Str} {k : Nat} {sp : Sp} (F : Fun K x qual st f fd) (S : FnScope N ps (defScope st)) (len : ∀ vs H Q E, sp vs H Q E->vs.length = ps.length)
    (hbody : ∀ (cdv : Value) (A : Around) (outer : List Env) (s : Shared) (H : Hp) (vs : List V) (Q : VK) (E : XK), sp vs H Q E →
      ∃ t, PSs (cxOfH (CXx P w) P w K mg base N qual (defScope st) f cdv A outer s H E) (defBody st) t /\ t { nx := fun _ H' => Q .non H', rt := Q } (start N vs) H) : FnOkH P w K mg base (CXx P w) (k + 1) f fd ps sp := by
  obtain ⟨oc, od, kV, doc, pm, an, cdv, ct, osl, rfl, lk, hcd⟩ := F.ex
  exact fn_ofH lk hcd S len fun A outer s H vs Q E hsp => hbody cdv A outer s H vs Q E hsp
structure ExcXH (P : Program) (w : World) (K : PySem.W.Frag) (mg : Str->Option Value) (base : Heap) (x : Str) (C : Addr) (k : Nat) (ps : List Str) (sp : Sp) : Prop where
  ex : ∃ (f : Addr) (fd : FuncData), mg x = some (.ref C) /\ XMk K C f /\ FnOkH P w K mg base (CXx P w) k f fd ps sp /\ Binds K fd ps []
section
variable {X : Cx} {k : Nat} {f C : Addr} {fd : FuncData} {ps : List Str} {sp : Sp} {x : Str} {p pos : Pos} {e : Expr} {es : List Expr} {t : TA}
theorem pe_excH (D : ExcXH X.prog X.w X.K X.mg X.base x C k ps sp) (hr : RoomH (k + 1) X.A) (hg : Gl X x) (ha : PA X (e :: es) t)
    (hdb : (x == ("__debug__" : Str)) = false := by decide) (he : starEach (e :: es) X.env = (false, eval e X.env) :: starEach es X.env := by rfl) (hpl : (backTo pos (starEach es X.env)).any (·.1) = false := by rfl) :
    PE X (.Call (.Name x p) (e :: es) [] pos) (tExc C sp t) := by
  obtain ⟨f, fd, m, M, F, b⟩ := D.ex
  intro pins s σ H Q I h
  refine wpAny_Call_Name_kw (ld_glob I hg m ?_ hdb)
  refine PySem.W.callWith_K (h₀ := X.base) I.ok.mod.kin M.kp (thn (ha pos pins s σ H _ I h) fun us s1 ⟨vs, H1, I1, r, hlen, h⟩ => ⟨I1.kIn, ?_⟩) he hpl
  have hq := h (s1.heap.objs.size + 1) (I1.hok.fresh (Nat.le_succ _))
  have I2 := Inv.xmade (C := C) (rest := us) I1
  have r2 : Vals (V.ref (s1.heap.objs.size + 1) :: vs) (Value.ref (s1.heap.objs.size + 1) :: us) := .cons rfl r
  have hl : (Value.ref (s1.heap.objs.size + 1) :: us).length = ps.length := by
    have e := r2.length
    rw [F.len _ _ _ _ hq] at e
    exact e.symm
  have hb' := b _ (Value.ref (s1.heap.objs.size + 1) :: us) I2.kIn (by rw [List.append_nil]; exact hl)
  rw [List.append_nil] at hb'
  have run := F.run _ X.stack _ _ ⟨Value.ref (s1.heap.objs.size + 1) :: us, []⟩ (Value.ref (s1.heap.objs.size + 1) :: us) _ _ E0 (hr.make C us []) (I2.env0.make C us []) hb' r2 hq
  obtain ⟨hp, g, d, t, os⟩ := s1
  show wpAny _ _ (call (.ref C) us) _ _ _
  refine xcall_init I1.kIn M.cls (by rw [← r.length]; exact hlen) M.init (beq_iff_eq.mp M.fn) (wpAny_call (codeAny_mono run fun r s' hq' => ?_))
  cases r with
  | error e =>
    obtain ⟨_, _, _, _, _, _, _, _, _, _, _, _, _, _, z⟩ := hq'
    exact z.elim
  | ok fl =>
    cases fl with
    | ret u =>
      obtain ⟨v, H', I3, rv, ev, q3⟩ := I2.after hq'
      subst ev
      exact ⟨rv, ⟨V.ref (hp.objs.size + 1), H', I3, rfl, q3⟩⟩
    | next => exact False.elim hq'
    | brk => exact False.elim hq'
    | cont => exact False.elim hq'
end
theorem entry_unchain : entryFor table "proto.unchain" = some Builtin.«proto.unchain» := entryFor_of_fast (by kernel_rfl)
section
variable {prog : Program} {w : World} {A : Around} {E : Value->Shared->Prop} {s : Shared}
theorem unchain_ok {e h : Addr} {oh : Obj} {vh : Array Value} {Q : Value->Shared->Prop} (he : s.heap.get? h = some oh) (hd : oh.data = .fields vh) (h2 : vh[2]? = some .none) (q : Q .none s) :
    wpAny (model prog w) A (runValue (.builtin "proto.unchain" ⟨[.ref e, .ref h, .ref h, .bool false], []⟩)) Q E s := by
  refine wpAny_runValue (codeAny_builtin entry_unchain ?_)
  unfold Builtin.«proto.unchain»
  refine wpAny_bind (wpAny_field he hd h2 ?_)
  rw [if_pos (by rfl)]
  exact wpAny_pure q
theorem raise_okH {env : Env} {x c : Sem Value} {h : Addr} {Q : Flow->Shared->Prop} (hh : A.handled = some (.ref h)) (hc : ∀ (s : Shared) (Q : Value->Shared->Prop), Q .none s->wpAny (model prog w) A c Q E s)
    (hx : wpAny (model prog w) A x (fun v s₁ => ∃ e vs sl C od oh vh, v = .ref e /\ h ≠ e /\ s₁.heap.get? e = some ⟨.ref C, od, .fields vs, sl⟩ /\ vs.size = 6 /\ vs[1]? = some .none /\ XObj s₁.heap C /\ s₁.heap.get? h = some oh /\ oh.data = .fields vh /\ vh[2]? = some .none ∧
      ∀ h', h'.get? e = some ⟨.ref C, od, .fields (((vs.setIfInBounds 3 .none).setIfInBounds 4 (.bool true)).setIfInBounds 2 (.ref h)), sl⟩->(∀ b o, b ≠ e->s₁.heap.get? b = some o->h'.get? b = some o)->E (.ref e) { s₁ with heap := h' }) E s) :
    wpAny (model prog w) A (raiseStmt env (some x) (some c)) Q E s := by
  unfold raiseStmt
  refine wpAny_bind (wpAny_mono hx (fun v s₁ h₁ => ?_) fun _ _ x => x)
  obtain ⟨e, vs, sl, C, od, oh, vh, rfl, hne, he, hz, h1, hC, hoh, hdh, hvh, hE⟩ := h₁
  obtain ⟨nm, qn, N, bs, bm, sn, sub, ab, col, dd, k0, k1, k2, k3, k5, hC, hb⟩ := hC.ex
  have hcB := own_has (C := C) hb (T := "BaseException") (by decide)
  refine wpAny_bind (wpAny_holding (hc _ _ (wpAny_bind (wpAny_pure ?_))))
  obtain ⟨hp, g, d, tk, os⟩ := s₁
  dsimp only
  repeat (first
    | with_reducible refine wpAny_loadPart_at he ?_
    | with_reducible refine wpAny_loadPart_at hC ?_
    | (with_reducible refine wpAny_isSubtype_exc hC ?_; rw [hcB])
    | with_reducible refine wpAny_field he rfl h1 ?_
    | wp_step)
  have hCe : C ≠ e := by rintro rfl; rw [he] at hC; cases hC
  have he1 := Heap.get?_update_self (Obj.mapFields (·.setIfInBounds 3 Value.none)) he (Obj.isFreed_of_fields (Obj.data_mapFields rfl _))
  have he2 := Heap.get?_update_self (Obj.mapFields (·.setIfInBounds 4 (Value.bool true))) he1 (Obj.isFreed_of_fields (Obj.data_mapFields rfl _))
  have hC2 := (Heap.get?_update_other (h := hp.update e (Obj.mapFields (·.setIfInBounds 3 Value.none))) (Obj.mapFields (·.setIfInBounds 4 (Value.bool true))) hCe.symm).trans ((Heap.get?_update_other (h := hp) (Obj.mapFields (·.setIfInBounds 3 Value.none)) hCe.symm).trans hC)
  have ho2 : ∀ b o, b ≠ e->hp.get? b = some o->((hp.update e (Obj.mapFields (·.setIfInBounds 3 Value.none))).update e (Obj.mapFields (·.setIfInBounds 4 (Value.bool true)))).get? b = some o := fun b o hb q =>
    (Heap.get?_update_other _ _ (Ne.symm hb)).trans ((Heap.get?_update_other _ _ (Ne.symm hb)).trans q)
  generalize (hp.update e (Obj.mapFields (·.setIfInBounds 3 Value.none))).update e (Obj.mapFields (·.setIfInBounds 4 (Value.bool true))) = h2 at he2 hC2 ho2 ⊢
  have h12 : ((vs.setIfInBounds 3 Value.none).setIfInBounds 4 (Value.bool true))[1]? = some Value.none := by simpa using h1
  have hd2 : (Obj.mapFields (·.setIfInBounds 4 (Value.bool true)) (Obj.mapFields (·.setIfInBounds 3 Value.none) { cls := Value.ref C, dict := od, data := Data.fields vs, slots := sl })) = { cls := Value.ref C, dict := od, data := Data.fields ((vs.setIfInBounds 3 Value.none).setIfInBounds 4 (Value.bool true)), slots := sl } := rfl
  rw [hd2] at he2
  repeat (first
    | with_reducible refine wpAny_loadPart_at hC2 ?_
    | with_reducible refine wpAny_field he2 rfl h12 ?_
    | wp_step)
  unfold raiseNew
  refine wpAny_bind (wpAny_handled ?_)
  rw [hh]
  dsimp only
  rw [if_pos (show ((Value.ref h != Value.ref e) = true) from by simpa using hne)]
  refine wpAny_bind (wpAny_holding (unchain_ok (s := ⟨h2, g, d, tk, os⟩) (ho2 h oh hne hoh) hdh hvh ?_))
  refine wpAny_bind (show wpAny _ _ (setField (.ref e) 2 (.ref h)) _ _ _ from wpAny_setField he2 rfl (by simp; omega) ?_)
  refine wpAny_throw (hE _ ?_ fun b o hb q => (Heap.get?_update_other _ _ (Ne.symm hb)).trans (ho2 b o hb q))
  exact Heap.get?_update_self _ he2 (Obj.isFreed_of_fields (Obj.data_mapFields rfl _))
end
def hRs (K : PySem.W.Frag) (DC : Addr) (te : Addr->List (Addr × Obj)->TE) (E : XS) (tr : TH) : TH := fun e C D σ H => ∃ b, PySem.W.mroIn K C (.ref DC) = some b /\ if b = true then
  (∀ pn, te e pn σ H fun v H1 => ∃ e2 C2 od od2, v = .ref e2 /\ e ≠ e2 /\ H1 e = some (exO false false e C od) /\ H1 e2 = some (exO true false e2 C2 od2) /\ XCls K C2 /\ E σ (.ref C2) (some e2) (upd H1 e2 (exO false true e2 C2 od2))) else tr e C D σ H
theorem cameBack_ok {M : Model} {A : Around} {E : Value->Shared->Prop} {s : Shared} {env : Env} {e T : Addr} {fl : Value} (hF : Fly s.heap e T fl) (h : ∀ h' fl', (∀ b o, b ≠ T->s.heap.get? b = some o->h'.get? b = some o)->Fly h' e T fl'->E (.ref e) { s with heap := h' }) : cameBackBy M A env E (.ref e) s := by
  obtain ⟨oe, vs, oT, ts, he, hd, h1, hT, hdT, h3, hTe⟩ := hF
  have hsz : 3 < ts.size := (Array.getElem?_eq_some_iff.mp h3).1
  unfold cameBackBy
  refine wpAny_bind (wpAny_field he hd h1 ?_)
  rw [if_neg (show ¬ ((Value.ref T == Value.none) = true) from by simp)]
  unfold setFlight
  refine wpAny_bind (wpAny_field he hd h1 ?_)
  rw [if_pos (show (Value.ref T != Value.none) = true from by simp)]
  refine wpAny_setField hT hdT hsz (h _ (env.frame.elim Value.none fun f => rawInt f) (fun b o hb q => (Heap.get?_update_other _ _ (Ne.symm hb)).trans q) ?_)
  exact ⟨oe, vs, _, _, (Heap.get?_update_other _ _ hTe).trans he, hd, h1, Heap.get?_update_self _ hT (Obj.isFreed_of_fields (Obj.data_mapFields hdT _)), Obj.data_mapFields hdT _, by simp [hsz], hTe⟩
section
variable {X : Cx} {x : Str} {DC : Addr} {np pos rp cp : Pos} {ex : Expr} {rest : List ExceptHandler} {te : Addr->List (Addr × Obj)->TE} {tr : TH} {E : XS} {ck : Const} {kt : Nat}
theorem ph_rs (hpi : PassesI X E) (hst : X.stack = X.env :: X.outer) (hfr : X.env.frame = some X.env.locals) (hg : Gl X x) (hm : X.mg x = some (.ref DC)) (c : XCls X.K DC) (he : ∀ e pn, PE (X.held e pn) ex (te e pn)) (hr : PH X rest tr) (hd : (x == ("__debug__" : Str)) = false := by decide) (hn : ck = .none := by rfl) :
    PH X (.ExceptHandler (some (.Name x np)) none [.Raise (some ex) (some (.Constant ck kt cp)) rp] pos :: rest) (hRs X.K DC te E tr) := by
  rintro pins s σ H D e C od T I q fly fp ⟨b, hb, h⟩
  obtain ⟨ch0, q0⟩ := q
  obtain ⟨vs, sl, g, _⟩ := exc_of I.hok q0
  have IH := I.held e
  refine wpAny_handleBy_cons (codeAny_handlers_test (ld_glob (X := X.held e (X.pn ++ pins)) IH hg hm ?_ hd)) (by intro z; cases z)
  refine xmatch I.kIn g rfl c hb ?_
  cases b with
  | false =>
    rw [if_neg (by decide)] at h
    exact hr pins s σ H D e C od T I ⟨ch0, q0⟩ fly fp h
  | true =>
    rw [if_pos rfl] at h
    refine codeAny_handlers_suite (flight_none fly fun h2 k _ fly2 => ?_)
    have I2 := I.landed fp k
    have hh : (X.A.mark (some (.ref e))).handled = some (.ref e) := rfl
    subst hn
    have fr : (X.A.mark (some (.ref e))).frames = some (X.env :: X.outer) := by rw [← hst]; exact I.ok.frames
    refine wpAny_execs_cons ?_
    rw [arm_exec_Raise]
    refine wpAny_bind (wpAny_standAt ?_)
    refine raise_okH hh (fun s Q q => ?_) ?_
    · exact wpAny_bind (Constant_none (wpAny_bind (wpAny_standAt (wpAny_pure q))))
    · refine wpAny_bind (wpAny_mono (he e _ [] _ σ H _ (I2.held e) (h _)) (fun u s1 h1 => wpAny_bind (wpAny_standAt (wpAny_pure ?_))) fun _ _ z => z.elim)
      obtain ⟨v, H1, I1, rv, e2, C2, od', od2, ev, hne, q1, q2, hcl, hE⟩ := h1
      subst ev
      cases (show u = Value.ref e2 from rv)
      obtain ⟨vs2, sl2, g2, hz2, hr2, hc2⟩ := exc_of I1.hok q2
      obtain ⟨vh, slh, gh, hzh, _, hch⟩ := exc_of I1.hok q1
      refine ⟨e2, vs2, sl2, C2, od2, _, vh, rfl, hne, g2, hz2, hr2 rfl, hcl.at I1.kIn, gh, rfl, hch rfl, fun h' e' k' => ?_⟩
      have J := Inv.unheld I.ok (I1.write (h' := h') (t' := s1.toks) (x := e2) (e := e2) (o := exO true true e2 C2 od2) (by rw [q2]; exact True.intro) (.inl rfl) k' ⟨_, e'⟩ (objOk_exc ⟨_, _, e', by simpa using hz2, (fun _ => by simpa using hr2 rfl), (fun z => by cases z)⟩))
      show wpAny _ _ (noteFrame (.ref e2) X.env) _ _ _
      refine note_new fr (by rw [← hst]; exact J.stack) hfr e' rfl (by simpa using hr2 rfl) fun h3 T Nd => ?_
      rw [← hst] at Nd
      have J2 := J.noted (ch := []) upd_same Nd (fun b hb => by cases hb)
      rw [upd_upd] at J2
      have fpT : FpOk X pins (upd H1 e2 (exO false true e2 C2 od2)) T := J.fpOk Nd.new (by have t1 := J.hok.fresh Nd.new; have ne : T ≠ e2 := (fun z => by rw [z, upd_same] at t1; cases t1); rw [upd_ne ne] at t1 ⊢; exact t1)
      exact cameBack_ok (s := { s1 with heap := h3 }) Nd.fly fun h4 fl' k4 fly4 => hpi pins σ _ _ e2 C2 od2 T fl' (J2.landed fpT k4) ⟨true, upd_same⟩ fpT fly4 hE
end
theorem ps_tryI {X : Cx} {pos : Pos} {body : List Stmt} {h0 : ExceptHandler} {hs : List ExceptHandler} {tb : List (Addr × Obj)->(Value->Shared->Prop)->XS->TS} {th : TH} (hb : ∀ pn xe E, PassesS (X.tried pn xe) E->PassesI (X.tried pn xe) E->PSs (X.tried pn xe) body (tb pn xe E)) (hh : PH X (h0 :: hs) th) (hst : X.stack = X.env :: X.outer) (hfr : X.env.frame = some X.env.locals) :
    PS X (.Try body (h0 :: hs) [] [] pos) (tTry tb th) := by
  intro pins s σ H D I h
  refine wpAny_Try_except ?_
  have fr : X.A.frames = some (X.env :: X.outer) := by rw [← hst]; exact I.ok.frames
  refine wpAny_mono (hb (X.pn ++ pins) (fun v s₁ => wpAny (model X.prog X.w) X.A (noteFrame v X.env) (fun _ s₂ => wpAny (model X.prog X.w) X.A (setFlight v none) (fun _ s₃ => wpAny (model X.prog X.w) X.A (handleBy v X.env (h0 :: hs)) (SP X pins D) X.xe s₃) X.xe s₂) X.xe s₁)
    (fun σ' cls oe H' => ∃ e C, cls = .ref C /\ oe = some e /\ th e C D σ' H') ?_ ?_ [] s σ H D I.tried (h _ _)) (fun fl s1 h1 => ?_) fun v s1 h1 => h1
  · rintro ps σ' H1 s1 v s2 J ⟨e, C, od, T, H2, rfl, os, bare, un, hok, he, hT, nT, fly, e', C', ec, ee, hth⟩
    cases ec
    cases ee
    have J2 := J.call' (ch := []) os un hok bare (fun b z => absurd z (by simp))
    have K2 : Inv X pins σ' H2 s2 := J2.untried I.ok
    have fp : FpOk X pins H2 T := (J.untried I.ok).fpOk hT nT
    show wpAny _ _ (noteFrame (.ref e) X.env) _ _ _
    refine note_next fr (by rw [← hst]; exact K2.stack) hfr fly fun h3 T3 Nd => ?_
    rw [← hst] at Nd
    have K3 := K2.notedF (ch := [T]) he Nd (fun b hb => by have := List.mem_singleton.mp hb; subst this; exact fp)
    have fp3 : FpOk X pins H2 T3 := K2.fpOk Nd.new (K2.hok.fresh Nd.new)
    refine flight_none (s := { s2 with heap := h3 }) Nd.fly fun h4 k4 _ fly4 => ?_
    have K4 := K3.landed fp3 k4
    exact hh pins _ σ' H2 D e C od T3 K4 he fly4 fp3 hth
  · rintro ps σ' H2 s2 e C od T fl J he fp0 fly ⟨e', C', ec, ee, hth⟩
    cases ec
    cases ee
    have K2 : Inv X pins σ' H2 s2 := J.untried I.ok
    have fp : FpOk X pins H2 T := ⟨fp0.1, fp0.2.1, fp0.2.2.1, fp0.2.2.2.1, fp0.2.2.2.2.1, fun p hp => fp0.2.2.2.2.2 p (List.mem_append_left _ hp)⟩
    show wpAny _ _ (noteFrame (.ref e) X.env) _ _ _
    by_cases hq : (fl == rawInt X.env.locals) = true
    · have hq := eq_of_beq hq
      subst hq
      refine note_same hfr fly ?_
      refine flight_none fly fun h4 k4 _ fly4 => ?_
      exact hh pins _ σ' H2 D e C od T (K2.landed fp k4) he fly4 fp hth
    · have hq : (fl == rawInt X.env.locals) = false := by simpa using hq
      refine note_other fr (by rw [← hst]; exact K2.stack) hfr fly hq fun h3 T3 Nd => ?_
      rw [← hst] at Nd
      have K3 := K2.notedF (ch := [T]) he Nd (fun b hb => by have := List.mem_singleton.mp hb; subst this; exact fp)
      have fp3 : FpOk X pins H2 T3 := K2.fpOk Nd.new (K2.hok.fresh Nd.new)
      refine flight_none (s := { s2 with heap := h3 }) Nd.fly fun h4 k4 _ fly4 => ?_
      exact hh pins _ σ' H2 D e C od T3 (K3.landed fp3 k4) he fly4 fp3 hth
  · cases fl with
    | next => exact wpAny_execs_nil (SP.untried I.ok h1)
    | brk => exact SP.untried I.ok h1
    | cont => exact SP.untried I.ok h1
    | ret u => exact SP.untried I.ok h1
section
variable {X : Cx} {scope : Scope} {N : List Str} {k : Nat} {cap : List Nat} {tg iter elt : Expr} {ifs : List Expr} {wi : TI} {g : TG} {tt : TT} {pos : Pos}
theorem ps_setCompE {E : XS} {te : XK->TE} (hpi : PassesI X E) (hst : X.stack = X.env :: X.outer) (hfr : X.env.frame = some X.env.locals) {i : Nat} {x : Str} {pos' spos : Pos} (hN : X.N.Nodup) (hi' : X.N[i]? = some x) (hx : Loc X.env.scope x) (hc : X.calm = true) (hco : compOk X.N X.env.scope scope N k cap = true) (hi : PI X tg iter wi)
    (hg : ∀ C s₀ H₀ ex, PG (X.comp scope N C s₀ H₀ ex).nox tg g) (ht : ∀ C s₀ H₀ ex, PTs (X.comp scope N C s₀ H₀ ex).nox ifs tt) (he : ∀ EX C s₀ H₀ ex xe, PassesS ((X.comp scope N C s₀ H₀ ex).wish xe) (fun _ => EX)->PE ((X.comp scope N C s₀ H₀ ex).wish xe) elt (te EX))
    (hsw : swapsWith (.ListComp elt [⟨tg, iter, ifs, 0⟩] scope pos) (some (.Name x pos')) spos.line X.env = pure true := by rfl)
    (hs : ∀ x, foldedSetIterable iter X.env x = pure x := by intro _; rfl) (hf' : X.fn x = true ∨ X.env.scope.names.lookup x = some .local := by first | exact .inl rfl | exact .inr rfl | assumption) :
    PS X (.Assign [.Name x pos'] (.ListComp elt [⟨tg, iter, ifs, 0⟩] scope pos) spos) (tAsg (fun σ H Q => tComp k cap wi g tt (te (E σ)) σ H Q) (gName i)) := by
  intro pins s σ H D I h
  have c := CompOk.of hco
  rw [exec_Assign_Name_used _ _ _ _ hsw]
  refine wpAny_bind (wpAny_standAt (wpAny_bind ?_))
  show wpAny _ X.A (do let _ ← comprehension (.ListComp elt [⟨tg, iter, ifs, 0⟩] scope pos) scope X.env _ (newList []) false (eval iter X.env) (some (assign (.Name x pos') X.env))) _ _ s
  refine wpAny_bind (wpAny_mono (wpAny_comprehension_free (use := some (assign (.Name x pos') X.env)) (Q := fun _ s' => SP X pins D .next s') (cl := clos X.env.cells scope.names []) rfl hs (closureFor_eq (I.freeCells c)) c.kind c.locs
    (thn (hi pins s σ H _ I h) fun xv s₁ h₁ => thn h₁ fun itv s₂ h₂ => ?_)) (fun _ s' hq => wpAny_pure (wpAny_pure hq)) fun _ _ e => e)
  obtain ⟨it, fp, tn, J, H2, e, I2, T, st, hf, q⟩ := h₂
  subst e
  refine comp_loopX (use := some (assign (.Name x pos') X.env)) (Q := fun v H1 => gName i v σ H1 D.nx) hc c hg ht (he (E σ)) (fun ps => hpi ps σ) hst hfr I2 T st hf q fun L C s1 H' I1 q1 ⟨m, hn⟩ hCn hCs hCl hCc hCp => ?_
  show wpAny _ X.A (assign (.Name x pos') X.env (.ref L)) _ _ s1
  refine wpAny_assign_Name (store_ok2 (v := .ref L) I1 hN hi' hx rfl (fun s2 I3 ⟨a, sb, ha⟩ => ⟨m, ?_, fun h' hs' => ?_⟩) hf')
  · refine hn.sameBut sb ?_
    rcases ha with z | z
    · rw [z]; exact hCl
    · exact (hCc _ _ z).symm
  · exact ⟨_, H', I3.turned (t' := s2.toks) (fun b o hb e => hs'.extBut b o hb e) hCn hCl (.inr hCs) hCc hCp, q1⟩
end
open PySem PySem.Spec PyProof.Rows
section
variable {X : Cx}
def tVals (vs : List V) : TA := fun _ H Q => Q vs H
def cVals : List Expr->Option (List V)
  | [] => some []
  | .Constant (.str x) _ _ :: es => (cVals es).map (V.str x :: ·)
  | .Constant (.int i) _ _ :: es => (cVals es).map (V.int i :: ·)
  | _ => none
theorem pa_vals : ∀ {es : List Expr} {vs : List V}, cVals es = some vs->PA X es (tVals vs)
  | [], vs, h => by
    have h : [] = vs := Option.some.inj h
    subst h
    exact pa_nil
  | .Constant (.str x) j p :: es, vs, h => by
    obtain ⟨ws, h1, rfl⟩ := Option.map_eq_some_iff.mp h
    exact fun pos pins s σ H Q I q => pa_cons pe_str (pa_vals h1) rfl pos pins s σ H Q I q
  | .Constant (.int x) j p :: es, vs, h => by
    obtain ⟨ws, h1, rfl⟩ := Option.map_eq_some_iff.mp h
    exact fun pos pins s σ H Q I q => pa_cons pe_int (pa_vals h1) rfl pos pins s σ H Q I q
theorem mt_partition : MtR X "str.partition" (fun x xs H Q => ∃ z y : PySem.Str, x = .str z /\ xs = [.str y] /\ (y.length == 0) = false /\ z.length ≤ 100000 /\ ∀ p, H p = none->Q (.ref p) (upd H p (.tup [.str (Txt.partition z y).1, .str (Txt.partition z y).2.1, .str (Txt.partition z y).2.2]))) := by
  rintro pins s σ H x xs v us Q I rx r ⟨z, y, rfl, rfl, hy, hz, q⟩
  obtain ⟨t, rfl⟩ := (show ∃ t, v = Value.str z t from rx)
  obtain ⟨u, rfl, ru⟩ := Vals.one r
  obtain ⟨t2, rfl⟩ := (show ∃ t, u = Value.str y t from ru)
  have hzl : z.length ≤ sizeLine := Nat.le_trans hz (by decide)
  have fin : ∀ (a b c : PySem.Str) (k : Nat) (t1 t2 t3 : Tok), (a, b, c) = Txt.partition z y->EP X pins σ Q (.ref s.heap.objs.size) { s with heap := s.heap.push { cls := .type "tuple", data := .seq [.str a t1, .str b t2, .str c t3].toArray }, toks := k } := fun a b c k t1 t2 t3 e => by
    have q' := q s.heap.objs.size (I.hok.fresh (Nat.le_refl _))
    rw [← e] at q'
    exact ⟨.ref s.heap.objs.size, _, I.laid (t' := k) (o := .tup [.str a, .str b, .str c]) (fun b ob q => Heap.get?_push_of_some _ q) (Nat.le_refl _) ⟨by show 3 ≤ sizeLine; decide, _, .cons ⟨t1, rfl⟩ (.cons ⟨t2, rfl⟩ (.cons ⟨t3, rfl⟩ .nil)), _, Heap.get?_push_size _ rfl, rfl, _, rfl⟩, rfl, q'⟩
  refine call_meets F.slot_str_partition (typeIs_str _ _ _) F.entry_str_partition (F.args_str_partition_2 _ _) (meets_str_partition z y t t2 hy hzl) ?_
  cases e : Builtin.Str.occurrences z y 0 z.length 1 with
  | nil => exact fin _ _ _ _ _ _ _ (by unfold Txt.partition; rw [e])
  | cons i l => exact fin _ _ _ _ _ _ _ (by unfold Txt.partition; rw [e])
theorem call_minL (hc : X.calm = true) : CallR X (.builtin "min") (fun xs H Q => ∃ (a : Addr) (ns : List Int), xs = [.ref a] /\ SqL X.K H a (ns.map V.int) /\ ns ≠ [] /\ ∀ m ∈ ns, (∀ x ∈ ns, m ≤ x)->Q (.int m) H) := by
  rintro pins s σ H xs us Q I r ⟨a, ns, rfl, hS, hne, q⟩
  obtain ⟨u, rfl, ru⟩ := vals1 r
  cases (show u = Value.ref a from ru)
  obtain ⟨its, rv, pt, _⟩ := I.list hS
  have hI := intsAre_of rv
  have hT : s.heap.IsList a its.toArray := pt.isList
  have hlt : a < s.heap.objs.size := by obtain ⟨o, e, _⟩ := hT; exact Heap.lt_size e
  have hil := ints_len hI
  have npos : 0 < ns.length := List.length_pos_iff.mpr hne
  have hval : ∀ i v, its.toArray[i]? = some v->∃ t, v = Value.int (ns.getD i 0) t := fun i v e => hI.int_at i v (by simpa using e)
  refine call_min_walk (wpAny_pyIter_list hT ⟨s.heap.objs.size, _, _, _, _, _, _, rfl, Walks.list (A := X.A.in1) (I.ok.hd hc) _ a (anelt' hlt (Nat.le_refl _)) its.toArray, ⟨⟨_, Heap.get?_push_size _ rfl, rfl, rfl⟩, let ⟨o, e, r⟩ := hT; ⟨o, Heap.get?_push_of_some _ e, r⟩⟩, fun b hb => ?_, by simp; omega, CmpOf.ints_lt (fun i => ns.getD i 0) hval, fun v h' tk hP hk => ?_⟩)
  · show b < (s.heap.push _).objs.size
    rw [Heap.size_push]
    simp only [List.mem_cons, List.not_mem_nil, or_false] at hb
    rcases hb with rfl | rfl
    · exact Nat.lt_succ_self _
    · exact Nat.lt_succ_of_lt hlt
  · obtain ⟨t, rfl⟩ := hval _ _ hP
    obtain ⟨b1, b2⟩ := argBest_lt (fun i => ns.getD i 0) (its.toArray.size - 1)
    have hsz : its.toArray.size = ns.length := by simp [hil]
    have hb : argBest (fun i j => decide (ns.getD i 0 < ns.getD j 0)) (its.toArray.size - 1) < ns.length := by omega
    refine ⟨.int _, H, I.kept fun b o e => hk b o (fun hm => ?_) (Heap.get?_push_of_some _ e), ⟨t, rfl⟩, q _ ?_ fun x hx => ?_⟩
    · have : b = s.heap.objs.size := by simpa using hm
      exact absurd (Heap.lt_size e) (by rw [this]; exact Nat.lt_irrefl _)
    · rw [List.getD_eq_getElem?_getD, List.getElem?_eq_getElem hb, Option.getD_some]
      exact List.getElem_mem hb
    · obtain ⟨j, hj⟩ := List.mem_iff_getElem?.mp hx
      have hjl : j < ns.length := (List.getElem?_eq_some_iff.mp hj).1
      have := b2 j (by omega)
      rw [show ns.getD j 0 = x by rw [List.getD_eq_getElem?_getD, hj]; rfl] at this
      exact this
end
section
open Builtin Builtin.Str
def Pts (x : PySem.Str) (a : Nat) (P : List PySem.Str) : Prop := ∃ cuts f, StrLaws.ChainG x CS x.length a cuts f /\ (∀ k, f ≤ k->¬ StrLaws.At x CS x.length k) /\ P = StrLaws.partsFrom x 2 a cuts /\ a ≤ x.length
theorem split_pts (x : PySem.Str) : Pts x 0 (Txt.split x CS) := by
  obtain ⟨f, hG, hn⟩ := StrLaws.occ_tight x CS (by decide)
  refine ⟨_, f, hG, hn, ?_, Nat.zero_le _⟩
  unfold Txt.split
  split
  · rename_i hc
    rw [Bool.or_eq_true, decide_eq_true_eq, decide_eq_true_eq] at hc
    have h : x.length < CS.length := hc.resolve_right (kind_cs x)
    have e0 : occurrences x CS 0 x.length (x.length + 1) = [] := by
      cases e : occurrences x CS 0 x.length (x.length + 1) with
      | nil => rfl
      | cons d r =>
        rw [e] at hG
        have h3 := hG.2.1.1
        omega
    rw [e0]
    show [x] = [strSub x 0 x.length]
    rw [StrLaws.sub_whole]
  · split
    · rename_i he
      rw [List.isEmpty_iff.mp he]
      show [x] = [strSub x 0 x.length]
      rw [StrLaws.sub_whole]
    · rw [StrLaws.partsBetween_eq]; rfl
theorem at_sub {x : PySem.Str} {a k : Nat} (ha : a ≤ x.length) : StrLaws.At (strSub x a x.length) CS (strSub x a x.length).length k ↔ StrLaws.At x CS x.length (a + k) := by
  have hl : x.cps.toList.length = x.length := by simp [Str.length]
  have e1 : (strSub x a x.length).cps.toList = x.cps.toList.drop a := by
    rw [StrLaws.strSub_toList]
    exact List.take_of_length_le (by rw [List.length_drop, hl]; exact Nat.le_refl _)
  have e2 : (strSub x a x.length).length = x.length - a := by
    have : (strSub x a x.length).cps.toList.length = (strSub x a x.length).length := by simp [Str.length]
    rw [← this, e1, List.length_drop, hl]
  unfold StrLaws.At
  rw [e2, StrLaws.subAt_eq, StrLaws.subAt_eq, e1, List.drop_drop, show CS.length = 2 from rfl]
  constructor
  · rintro ⟨h1, h2⟩; exact ⟨by omega, h2⟩
  · rintro ⟨h1, h2⟩; exact ⟨by omega, h2⟩
theorem ssub_len {x : PySem.Str} {a : Nat} : (strSub x a x.length).length = x.length - a := by
  have hl : x.cps.toList.length = x.length := by simp [Str.length]
  have : (strSub x a x.length).cps.toList.length = (strSub x a x.length).length := by simp [Str.length]
  rw [← this, StrLaws.strSub_toList, List.length_take, List.length_drop, hl]; omega
theorem part_end {x : PySem.Str} {a : Nat} {p : PySem.Str} (h : Pts x a [p]) : p = strSub x a x.length /\ Txt.partition (strSub x a x.length) CS = (p, Str.empty, Str.empty) := by
  obtain ⟨cuts, f, hG, hn, hP, ha⟩ := h
  cases cuts with
  | cons d r => cases r <;> simp [StrLaws.partsFrom] at hP
  | nil =>
    have e : f = a := hG
    subst e
    have hp : p = strSub x f x.length := by simpa [StrLaws.partsFrom] using hP
    refine ⟨hp, ?_⟩
    unfold Txt.partition
    rcases StrLaws.occ_head (strSub x f x.length) CS 1 (Nat.le_refl _) with ⟨h0, _⟩ | ⟨i, r, h0, hA, _⟩
    · rw [h0, hp]
    · exact absurd ((at_sub ha).mp hA) (hn _ (Nat.le_add_right _ _))
theorem part_more {x : PySem.Str} {a : Nat} {p q : PySem.Str} {P : List PySem.Str} (h : Pts x a (p :: q :: P)) : ∃ b, Txt.partition (strSub x a x.length) CS = (p, CS, strSub x b x.length) /\ Pts x b (q :: P) := by
  obtain ⟨cuts, f, hG, hn, hP, ha⟩ := h
  cases cuts with
  | nil => simp [StrLaws.partsFrom] at hP
  | cons d r =>
    obtain ⟨h1, h2, h3, h4⟩ := hG
    have e : p = strSub x a d /\ q :: P = StrLaws.partsFrom x 2 (d + 2) r := by
      simp only [StrLaws.partsFrom, List.cons.injEq] at hP; exact hP
    have hd : d + 2 ≤ x.length := h2.1
    refine ⟨d + 2, ?_, r, f, h4, hn, e.2, hd⟩
    have hl : x.cps.toList.length = x.length := by simp [Str.length]
    unfold Txt.partition
    rcases StrLaws.occ_head (strSub x a x.length) CS 1 (Nat.le_refl _) with ⟨_, h0⟩ | ⟨i, s, h0, hA, hf⟩
    · exact absurd ((at_sub (k := d - a) ha).mpr (by rw [show a + (d - a) = d by omega]; exact h2)) (h0 _)
    · have hi : a + i = d := by
        have g1 : ¬ a + i < d := fun z => h3 _ (Nat.le_add_right _ _) z ((at_sub ha).mp hA)
        have g2 : ¬ d - a < i := fun z => hf _ z ((at_sub (k := d - a) ha).mpr (by rw [show a + (d - a) = d by omega]; exact h2))
        omega
      rw [h0]
      dsimp only
      have e1 : (strSub x a x.length).cps.toList = x.cps.toList.drop a := by
        rw [StrLaws.strSub_toList]
        exact List.take_of_length_le (by rw [List.length_drop, hl]; exact Nat.le_refl _)
      rw [e.1]
      congr 1
      · refine str_ext ?_
        rw [StrLaws.strSub_toList, e1, StrLaws.strSub_toList, List.drop_zero, Nat.sub_zero, show i = d - a by omega]
      · congr 1
        refine str_ext ?_
        rw [StrLaws.strSub_toList, e1, StrLaws.strSub_toList, List.drop_drop, ssub_len, show CS.length = 2 from rfl, show a + (i + 2) = d + 2 by omega]
        congr 1; omega
end
end L2
namespace Mine
open PySem L2
seal PE PA PS PSs PT PTs PG PGs PI
def top (i : Nat) : Stmt := PySem.Challenge.pw_keepsakes_k46_texts_that_write_no_rule.main.body.getD i (.Pass ⟨0, 0, 0, 0⟩)
abbrev s_NoWord___init__ : Stmt := inClass (top 3) 0
abbrev s_NoRule___init__ : Stmt := inClass (top 4) 0
abbrev s_LastFew___init__ : Stmt := inClass (top 7) 0
abbrev s_OneOfEach___init__ : Stmt := inClass (top 8) 0
abbrev s_Apart___init__ : Stmt := inClass (top 9) 0
abbrev s_Sealed___init__ : Stmt := inClass (top 10) 0
abbrev s_AnyOf___init__ : Stmt := inClass (top 11) 0
abbrev s_writes_number : Stmt := top 15
abbrev s_number_of : Stmt := top 16
abbrev s_rule_of : Stmt := top 18
abbrev s_rule_of_part : Stmt := top 19
abbrev s__law_cell_at : Stmt := top 21
abbrev s__law_whole : Stmt := top 22
abbrev s__law_stream : Stmt := top 23
abbrev s__law_word : Stmt := top 24
abbrev s__law_part : Stmt := top 25
abbrev s__law_sign : Stmt := top 26
abbrev s__law_spoilt : Stmt := top 27
abbrev s__law_value : Stmt := top 28
abbrev s__law_fault : Stmt := top 29
abbrev s__law_due : Stmt := top 30
abbrev s__law_tried : Stmt := top 31
abbrev s_law : Stmt := top 32
theorem sc_NoWord___init__ : FnScope ["self", "word"] ["self", "word"] (defScope s_NoWord___init__) := ⟨rfl, rfl, rfl, by decide +kernel, rfl, by decide +kernel, by decide +kernel⟩
theorem sc_NoRule___init__ : FnScope ["self", "found"] ["self", "found"] (defScope s_NoRule___init__) := ⟨rfl, rfl, rfl, by decide +kernel, rfl, by decide +kernel, by decide +kernel⟩
theorem sc_LastFew___init__ : FnScope ["self", "many"] ["self", "many"] (defScope s_LastFew___init__) := ⟨rfl, rfl, rfl, by decide +kernel, rfl, by decide +kernel, by decide +kernel⟩
theorem sc_OneOfEach___init__ : FnScope ["self", "step", "many"] ["self", "step", "many"] (defScope s_OneOfEach___init__) := ⟨rfl, rfl, rfl, by decide +kernel, rfl, by decide +kernel, by decide +kernel⟩
theorem sc_Apart___init__ : FnScope ["self", "gap"] ["self", "gap"] (defScope s_Apart___init__) := ⟨rfl, rfl, rfl, by decide +kernel, rfl, by decide +kernel, by decide +kernel⟩
theorem sc_Sealed___init__ : FnScope ["self", "days"] ["self", "days"] (defScope s_Sealed___init__) := ⟨rfl, rfl, rfl, by decide +kernel, rfl, by decide +kernel, by decide +kernel⟩
theorem sc_AnyOf___init__ : FnScope ["self", "rules"] ["self", "rules"] (defScope s_AnyOf___init__) := ⟨rfl, rfl, rfl, by decide +kernel, rfl, by decide +kernel, by decide +kernel⟩
theorem sc_writes_number : FnScope ["word"] ["word"] (defScope s_writes_number) := ⟨rfl, rfl, rfl, by decide +kernel, rfl, by decide +kernel, by decide +kernel⟩
theorem sc_number_of : FnScope ["word"] ["word"] (defScope s_number_of) := ⟨rfl, rfl, rfl, by decide +kernel, rfl, by decide +kernel, by decide +kernel⟩
theorem sc_rule_of : FnScope ["text"] ["text"] (defScope s_rule_of) := ⟨rfl, rfl, rfl, by decide +kernel, rfl, by decide +kernel, by decide +kernel⟩
theorem sc_rule_of_part : FnScope ["part", "words", "numbers"] ["part"] (defScope s_rule_of_part) := ⟨rfl, rfl, rfl, by decide +kernel, rfl, by decide +kernel, by decide +kernel⟩
theorem sc__law_cell_at : FnScope ["_law_script", "_law_k"] ["_law_script", "_law_k"] (defScope s__law_cell_at) := ⟨rfl, rfl, rfl, by decide +kernel, rfl, by decide +kernel, by decide +kernel⟩
theorem sc__law_whole : FnScope ["_law_found"] ["_law_found"] (defScope s__law_whole) := ⟨rfl, rfl, rfl, by decide +kernel, rfl, by decide +kernel, by decide +kernel⟩
theorem sc__law_stream : FnScope ["_law_cell", "_law_many", "_law_found", "_law_number", "_law_k"] ["_law_cell", "_law_many"] (defScope s__law_stream) := ⟨rfl, rfl, rfl, by decide +kernel, rfl, by decide +kernel, by decide +kernel⟩
theorem sc__law_word : FnScope ["_law_cell", "_law_xs", "_law_great"] ["_law_cell"] (defScope s__law_word) := ⟨rfl, rfl, rfl, by decide +kernel, rfl, by decide +kernel, by decide +kernel⟩
theorem sc__law_part : FnScope ["_law_cell", "_law_xs", "_law_word_here", "_law_many"] ["_law_cell"] (defScope s__law_part) := ⟨rfl, rfl, rfl, by decide +kernel, rfl, by decide +kernel, by decide +kernel⟩
theorem sc__law_sign : FnScope ["_law_cell", "_law_some"] ["_law_cell"] (defScope s__law_sign) := ⟨rfl, rfl, rfl, by decide +kernel, rfl, by decide +kernel, by decide +kernel⟩
theorem sc__law_spoilt : FnScope ["_law_text", "_law_cell", "_law_xs", "_law_at"] ["_law_text", "_law_cell"] (defScope s__law_spoilt) := ⟨rfl, rfl, rfl, by decide +kernel, rfl, by decide +kernel, by decide +kernel⟩
theorem sc__law_value : FnScope ["_law_word_here", "_law_sign_here"] ["_law_word_here"] (defScope s__law_value) := ⟨rfl, rfl, rfl, by decide +kernel, rfl, by decide +kernel, by decide +kernel⟩
theorem sc__law_fault : FnScope ["_law_part_here", "_law_words", "_law_values", "_law_due_here"] ["_law_part_here"] (defScope s__law_fault) := ⟨rfl, rfl, rfl, by decide +kernel, rfl, by decide +kernel, by decide +kernel⟩
theorem sc__law_due : FnScope ["_law_text", "_law_rest", "_law_part_here", "_law_comma", "_law_fault_here"] ["_law_text"] (defScope s__law_due) := ⟨rfl, rfl, rfl, by decide +kernel, rfl, by decide +kernel, by decide +kernel⟩
theorem sc__law_tried : FnScope ["_law_text", "_law_told", "_law_others", "_law_rule", "e", "_law_due_here"] ["_law_text"] (defScope s__law_tried) := ⟨rfl, rfl, rfl, by decide +kernel, rfl, by decide +kernel, by decide +kernel⟩
theorem sc_law : FnScope ["_law_script", "_law_many", "_law_text", "_law_cell", "_law_once"] ["_law_script"] (defScope s_law) := ⟨rfl, rfl, rfl, by decide +kernel, rfl, by decide +kernel, by decide +kernel⟩
def cellI (ns : List Int) (k : Int) : Int := if k < (ns.length : Int) then ns.getD k.toNat 0 else 0
def MV (mv : V) (mo : Option Int) : Prop := (mv = .non /\ mo = none) ∨ ∃ m : Int, mv = .int m /\ mo = some m
def okO : Option Int->Prop
  | none => True
  | some m => 0 ≤ m
def sp_cell (K : PySem.W.Frag) : Sp := fun vs H Q _ => ∃ (a : Addr) (ns : List Int) (k : Nat), vs = [.ref a, .int (k : Int)] /\ SqL K H a (ns.map V.int) /\ Q (.int (cellI ns k)) H
def sp_stream : Sp := fun vs H Q _ => ∃ (c : Int) (m : Nat), vs = [.int c, .int (m : Int)] /\ m ≤ 20 /\ ∀ (l : Addr) (xs : List Int) H', H' l = some (.lst (xs.map V.int))->H l = none->xs.length = m->(∀ x ∈ xs, (0 : Int) ≤ x /\ x < 2147483647)->Same H H'->Q (.ref l) H'
def sp_linit (C CN : Addr) : Sp := fun vs H Q E => ∃ (p dx : Addr) (m : Int), vs = [.ref p, .int m] /\ H p = some (.ins C dx []) /\ (0 ≤ m->Q .non (upd H p (.ins C dx [("many", .int m)]))) /\ (m < 0->∀ e H', ExcAt H' e CN [("found", .int m)]->Same H H'->E (.ref CN) (some e) H')
def sp_ainit (C CN : Addr) : Sp := fun vs H Q E => ∃ (p dx : Addr) (m : Int), vs = [.ref p, .int m] /\ H p = some (.ins C dx []) /\ (1 ≤ m->Q .non (upd H p (.ins C dx [("gap", .int m)]))) /\ (m < 1->∀ e H', ExcAt H' e CN [("found", .int m)]->Same H H'->E (.ref CN) (some e) H')
def sp_oinit (C CN : Addr) : Sp := fun vs H Q E => ∃ (p dx : Addr) (s : Int) (mv : V) (mo : Option Int), vs = [.ref p, .int s, mv] /\ H p = some (.ins C dx []) /\ MV mv mo /\ (1 ≤ s->okO mo->Q .non (upd H p (.ins C dx [("step", .int s), ("many", mv)]))) /\ (s < 1->∀ e H', ExcAt H' e CN [("found", .int s)]->Same H H'->E (.ref CN) (some e) H') /\ (∀ m, 1 ≤ s->mo = some m->m < 0->∀ e H', ExcAt H' e CN [("found", .int m)]->Same H H'->E (.ref CN) (some e) H')
def sp_sinit (C : Addr) : Sp := fun vs H Q _ => ∃ (p dx l : Addr) (ns : List Int), vs = [.ref p, .ref l] /\ H p = some (.ins C dx []) /\ H l = some (.lst (ns.map V.int)) /\ ns.length ≤ 4901 /\ ∀ (d : Addr) (kvs : List (Key × V)) (H' : Hp), H' p = some (.ins C dx [("sealed_days", .ref d)])->H' d = some (.dK kvs)->(∀ n, (valV kvs (Sum.inl n)).isSome = decide (n ∈ ns))->Keep [p] H H'->Q .non H'
theorem cutV_mem {xs : List V} {lo hi : Option Int} : ∀ v ∈ cutV xs lo hi, v ∈ xs := fun v hv => by
  unfold cutV at hv
  exact List.mem_of_mem_drop (List.mem_of_mem_take hv)
theorem small5000 {n : Nat} (h : n ≤ 5000) : n < sizeLine := Nat.lt_of_le_of_lt h (by decide)
theorem neEL : ¬ wE = wL := by decide +kernel
theorem neAL : ¬ wA = wL := by decide +kernel
theorem neSL : ¬ wS = wL := by decide +kernel
theorem neLE : ¬ wL = wE := by decide +kernel
theorem neAE : ¬ wA = wE := by decide +kernel
theorem neSE : ¬ wS = wE := by decide +kernel
theorem neLA : ¬ wL = wA := by decide +kernel
theorem neEA : ¬ wE = wA := by decide +kernel
theorem neSA : ¬ wS = wA := by decide +kernel
theorem neLS : ¬ wL = wS := by decide +kernel
theorem neES : ¬ wE = wS := by decide +kernel
theorem neAS : ¬ wA = wS := by decide +kernel
theorem cut1 {α : Type} {f : α->V} {x : V} {r : List α} : cutV (x :: r.map f) (some 1) none = r.map f := by
  unfold cutV
  rw [show HT.sIx (x :: r.map f).length 0 (some 1) = min 1 (x :: r.map f).length from HT.sIx_nat _ _ 1, show HT.sIx (x :: r.map f).length (x :: r.map f).length none = (x :: r.map f).length from rfl]
  rw [List.length_cons, show min 1 ((r.map f).length + 1) = 1 by omega, List.drop_one, List.tail_cons]
  exact List.take_of_length_le (by omega)
def sp_whole : Sp := fun vs H Q _ => ∃ n : Int, vs = [.int n] /\ Q (.bl true) H
def sp_writes : Sp := fun vs H Q _ => ∃ z : Str, vs = [.str z] /\ z.length ≤ 4900 /\ ∀ H', Same H H'->Q (.bl (okW z)) H'
def ExcU (H : Hp) (e C : Addr) : Prop := ∃ od, H e = some (exO false false e C od)
def sp_number (C : Addr) : Sp := fun vs H Q E => ∃ z : Str, vs = [.str z] /\ z.length ≤ 4900 /\ (okW z = true->∀ H', Same H H'->Q (.int (intOf z)) H') /\ (okW z = false->∀ e H', ExcU H' e C->Same H H'->E (.ref C) (some e) H')
theorem raise1U {K : PySem.W.Frag} {C : Addr} {f : Str} {y : V} {H1 : Hp} {E : XK} (c : XCls K C) (h : ∀ e H', ExcU H' e C->Same H1 H'->E (.ref C) (some e) H') :
    [y].length ≤ sizeLine /\ ∀ x, H1 x = none->sp_x1 C f (.ref x :: [y]) (upd H1 x (exO true false x C none)) (fun v H2 => v = .non /\ ∃ e C' od, V.ref x = .ref e /\ H2 e = some (exO true false e C' od) /\ XCls K C' /\ E (.ref C') (some e) (upd H2 e (exO false false e C' od))) E0 :=
  ⟨by show 1 ≤ sizeLine; decide, fun x hx => ⟨x, y, rfl, upd_same, fun dx hdx => ⟨rfl, x, C, some dx, rfl, upd_same, c, let ⟨_, b⟩ := excAt_made hx hdx; h x _ ⟨some dx, upd_same⟩ b⟩⟩⟩
theorem rs1 {K : PySem.W.Frag} {C CH e : Addr} {odh : Option Addr} {f : Str} {y : V} {H1 : Hp} {E : XK} (c : XCls K C) (he : H1 e = some (exO false false e CH odh)) (h : ∀ e2 H', ExcAt H' e2 C [(f, y)]->Same H1 H'->E (.ref C) (some e2) H') :
    [y].length ≤ sizeLine /\ ∀ x, H1 x = none->sp_x1 C f (.ref x :: [y]) (upd H1 x (exO true false x C none)) (fun v H2 => v = .non /\ ∃ e2 C2 od od2, V.ref x = .ref e2 /\ e ≠ e2 /\ H2 e = some (exO false false e CH od) /\ H2 e2 = some (exO true false e2 C2 od2) /\ XCls K C2 /\ E (.ref C2) (some e2) (upd H2 e2 (exO false true e2 C2 od2))) E0 := by
  refine ⟨by show 1 ≤ sizeLine; decide, fun x hx => ⟨x, y, rfl, upd_same, fun dx hdx => ?_⟩⟩
  have hne : dx ≠ x := fun e => by rw [e, upd_same] at hdx; cases hdx
  have hn : H1 dx = none := by rw [upd_ne hne] at hdx; exact hdx
  have n1 := ne_of_none he hx
  have n2 := ne_of_none he hn
  refine ⟨rfl, x, C, odh, some dx, rfl, n1, by rw [upd_ne n1, upd_ne n2, upd_ne n1]; exact he, upd_same, c, h x _ ⟨false, true, some dx, upd_same, ?_, hne⟩ fun b o q => ?_⟩
  · rw [upd_ne hne, upd_ne hne, upd_same]
  · have h1 := ne_of_none q hx
    have h2 := ne_of_none q hn
    rw [upd_ne h1, upd_ne h1, upd_ne h2, upd_ne h1]; exact q
def shp (w : Str) (n : Nat) : Bool := (decide (w = wL) && decide (n = 1)) || (decide (w = wE) && (decide (n = 1) || decide (n = 2))) || (decide (w = wA) && decide (n = 1)) || (decide (w = wS) && decide (0 < n))
def fltW (z w : Str) (vs : List Str) : Option V := if (vs.all okW && shp w vs.length) = true then (if (w = wE ∨ w = wA) /\ intOf (vs.headD z) = 0 then some (.int 0) else none) else some (.str z)
def flt (z : Str) : Option V := fltW z ((Txt.split z (Str.ofString " ")).headD z) (Txt.split z (Str.ofString " ")).tail
def fst (z : Str) : Option V := if z = Str.ofString "" then none else (Txt.split z (Str.ofString ", ")).findSome? flt
def fltV : Option V->V
  | none => .non
  | some v => v
def valI (z : Str) : Int := if okW z = true then intOf z else -1
theorem split_leY {z p y : Str} (hp : p ∈ Txt.split z y) : p.length ≤ z.length := by
  have e := StrLaws.join_split z y
  have h := congrArg PySem.Str.length e
  rw [← StrLaws.glued_eq_join, size_glued] at h
  have : ∀ {l : List Nat} {n : Nat}, n ∈ l->n ≤ l.sum := by
    intro l
    induction l with
    | nil => intro n h; cases h
    | cons a l ih =>
      intro n h
      rw [List.sum_cons]
      rcases List.mem_cons.mp h with rfl | h
      · omega
      · have := ih h; omega
  have := this (List.mem_map_of_mem (f := (·.length)) hp)
  omega
theorem split_manyY {z y : Str} (hy : 1 ≤ y.length) : (Txt.split z y).length ≤ z.length + 1 := by
  have e := StrLaws.join_split z y
  have h := congrArg PySem.Str.length e
  rw [← StrLaws.glued_eq_join, size_glued] at h
  have : (Txt.split z y).length - 1 ≤ ((Txt.split z y).length - 1) * y.length := Nat.le_mul_of_pos_right _ hy
  omega
theorem split_ne {z y : Str} : Txt.split z y ≠ [] := fun h => by have := PyProof.Rows.split_pos z y; rw [h] at this; exact absurd this (by decide)
theorem intOf_pos {z : Str} (h : okW z = true) : 0 ≤ intOf z := by
  simp only [okW, Bool.and_eq_true, decide_eq_true_eq] at h
  have h1 := h.1.1.1
  have e := intText_digits (x := z) (fun c hc => figB_digit (List.all_eq_true.mp h.2 c hc)) (by intro e; unfold Str.length at h1; rw [← Array.length_toList, e] at h1; simp at h1) (by omega)
  unfold intOf
  rw [e]
  exact Int.natCast_nonneg _
def sp_anyinit (C : Addr) : Sp := fun vs H Q _ => ∃ (p dx l : Addr) (PL : List Addr), vs = [.ref p, .ref l] /\ H p = some (.ins C dx []) /\ H l = some (.lst (PL.map V.ref)) /\ ∀ (t : Addr) (H' : Hp), H' p = some (.ins C dx [("rules", .ref t)])->H' t = some (.tup (PL.map V.ref))->Keep [p] H H'->Q .non H'
def sp_part (CN : Addr) : Sp := fun as H Q E => ∃ z : Str, as = [.str z] /\ z.length ≤ 4900 /\ (flt z = none->∀ p H', Same H H'->Q (.ref p) H') /\ (∀ v, flt z = some v->∀ e H', ExcAt H' e CN [("found", v)]->Same H H'->E (.ref CN) (some e) H')
def sp_ruleof (CA CN : Addr) : Sp := fun as H Q E => ∃ z : Str, as = [.str z] /\ z.length ≤ 4900 /\ (fst z = none->∀ p H', (∃ dx fs, H' p = some (.ins CA dx fs))->Same H H'->Q (.ref p) H') /\ (∀ v, fst z = some v->∀ e H', ExcAt H' e CN [("found", v)]->Same H H'->E (.ref CN) (some e) H')
def sp_lword : Sp := fun vs H Q _ => ∃ c : Int, vs = [.int c] /\ ∀ (z : Str) H', z.length ≤ 30->Same H H'->Q (.str z) H'
def sp_lpart : Sp := fun vs H Q _ => ∃ c : Int, vs = [.int c] /\ ∀ (z : Str) H', z.length ≤ 130->Same H H'->Q (.str z) H'
def sp_sign : Sp := fun vs H Q _ => ∃ n : Int, vs = [.int n] /\ ∀ c, Q (.str ⟨#[c]⟩) H
def sp_spoilt : Sp := fun vs H Q _ => ∃ (z : Str) (n : Int), vs = [.str z, .int n] /\ z.length ≤ 1600 /\ ∀ (y : Str) H', y.length ≤ 3 * z.length + 2->Same H H'->Q (.str y) H'
def sp_value : Sp := fun vs H Q _ => ∃ z : Str, vs = [.str z] /\ z.length ≤ 4900 /\ Q (.int (valI z)) H
def sp_fault : Sp := fun vs H Q _ => ∃ z : Str, vs = [.str z] /\ z.length ≤ 4900 /\ ∀ H', Same H H'->Q (fltV (flt z)) H'
def sp_ldue : Sp := fun vs H Q _ => ∃ z : Str, vs = [.str z] /\ z.length ≤ 4900 /\ ∀ H', Same H H'->Q (fltV (fst z)) H'
def sp_tried : Sp := fun vs H Q _ => ∃ z : Str, vs = [.str z] /\ z.length ≤ 4900 /\ ∀ H', Same H H'->Q (.bl true) H'
def sp_law (K : PySem.W.Frag) : Sp := fun vs H Q _ => ∃ (a : Addr) (ns : List Int), vs = [.ref a] /\ SqL K H a (ns.map V.int) /\ ns.length ≤ 63 /\ ∀ H', Q (.bl true) H'
theorem fst_pts {z : Str} (h : ¬ z = Str.ofString "") : fst z = (Txt.split z (Str.ofString ", ")).findSome? flt := by unfold fst; rw [if_neg h]
theorem flt_cases {z : Str} {v : V} (h : flt z = some v) : v = .str z ∨ v = .int 0 := by
  unfold flt fltW at h
  split at h
  · split at h
    · exact .inr (Option.some.inj h).symm
    · cases h
  · exact .inl (Option.some.inj h).symm
theorem okW_short {z : Str} (h : okW z = true) : z.length ≤ 20 := by
  simp only [okW, Bool.and_eq_true, decide_eq_true_eq] at h; exact h.1.1.2
theorem big5 {n : Nat} (h : n ≤ 5000) : n ≤ sizeLine := Nat.le_of_lt (small5000 h)
theorem qcut {S1 R : TS} {D : Ends} {σ : St} {H : Hp} (Post : St->Hp->Prop) (h : ∀ N : St->Hp->Prop, (∀ σ' H', Post σ' H'->N σ' H')->S1 { D with nx := N } σ H) (hr : ∀ σ' H', Post σ' H'->R D σ' H') : tSeq S1 R D σ H := h (R D) hr
theorem pickS {ws : List Str} {m : Int} {n : Nat} (x : Int) (hm : m = (ws.length : Int)) (h0 : 0 < m) (hl : ws.all (fun w => decide (w.length ≤ n)) = true) : ∃ w, atI (ws.map V.str) (x % m) = some (V.str w) /\ w.length ≤ n := by
  have a0 := Int.emod_nonneg x (Int.ne_of_gt h0)
  have a1 := Int.emod_lt_of_pos x h0
  have hj : (x % m).toNat < ws.length := by omega
  refine ⟨ws[(x % m).toNat], ?_, ?_⟩
  · have e : x % m = (((x % m).toNat : Nat) : Int) := by omega
    exact (congrArg (atI (ws.map V.str)) e).trans (atI_nat (by rw [List.getElem?_map, List.getElem?_eq_getElem hj]; rfl))
  · have := List.all_eq_true.mp hl _ (List.getElem_mem hj)
    exact of_decide_eq_true this
theorem num_ok {n : Int} (h0 : 0 ≤ n) (h1 : n < 10 ^ 22) : n.natAbs.log2 < 1920 /\ (Str.ofString (toString n)).length ≤ 30 := by
  refine ⟨?_, Nat.le_trans (numtext_len h0 h1) (by decide)⟩
  by_cases h : n.natAbs = 0
  · rw [h]; decide
  · exact (Nat.log2_lt h).mpr (Nat.lt_of_lt_of_le (show n.natAbs < 10 ^ 22 by omega) (by decide))
theorem sl_le (z : Str) (a b : Option Int) : (Txt.slice z a b).length ≤ z.length := Txt.slice_le z a b
theorem fs_none {f : Str->Option V} : ∀ {P : List Str} {j : Nat} {p : Str}, (P.take j).findSome? f = none->P[j]? = some p->f p = none->(P.take (j + 1)).findSome? f = none := by
  intro P j p h1 h2 h3
  rw [List.take_add_one, h2, List.findSome?_append, h1]
  simp [h3]
theorem fs_some {f : Str->Option V} {v : V} {P : List Str} {j : Nat} {p : Str} (h1 : (P.take j).findSome? f = none) (h2 : P[j]? = some p) (h3 : f p = some v) : P.findSome? f = some v := by
  have e : P = P.take (j + 1) ++ P.drop (j + 1) := (List.take_append_drop _ _).symm
  rw [e, List.findSome?_append, List.take_add_one, h2, List.findSome?_append, h1]
  simp [h3]
theorem str_at {P : List Str} {i : Nat} {x : V} (h : (P.map V.str)[i]? = some x) : ∃ p, P[i]? = some p /\ V.str p = x := by
  rw [List.getElem?_map] at h
  obtain ⟨t, a, b⟩ := Option.map_eq_some_iff.mp h
  exact ⟨t, a, b⟩
theorem flt_eq {z w : Str} {vs : List Str} (h : Txt.split z (Str.ofString " ") = w :: vs) : flt z = fltW z w vs := by unfold flt; rw [h]; rfl
def due0 (w : Str) : List Int := if w = wL then [1] else if w = wE then [1, 2] else if w = wA then [1] else []
def due1 (w : Str) (n : Int) : List Int := if w = wS then [n] else due0 w
theorem dict3 {v1 v2 v3 : V} : mergeK [] [(Sum.inr wL, v1), (Sum.inr wE, v2), (Sum.inr wA, v3)] = [(Sum.inr wL, v1), (Sum.inr wE, v2), (Sum.inr wA, v3)] := by
  have h1 := neLE
  have h2 := neLA
  have h3 := neEA
  simp [mergeK, putK, h1, h2, h3]
theorem val3 {v1 v2 v3 : V} {w : Str} : valV [(Sum.inr wL, v1), (Sum.inr wE, v2), ((Sum.inr wA : Key), v3)] (Sum.inr w) = if w = wL then some v1 else if w = wE then some v2 else if w = wA then some v3 else none := by
  unfold valV
  by_cases h1 : w = wL
  · subst h1; simp
  · by_cases h2 : w = wE
    · subst h2; simp [neLE, neEL]
    · by_cases h3 : w = wA
      · subst h3; simp [neLA, neAL, neEA, neAE]
      · simp [h1, h2, h3, Ne.symm h1, Ne.symm h2, Ne.symm h3]
theorem in_due {n : Int} {L : List Int} : inV (V.int n) (L.map V.int) = decide (n ∈ L) := by
  unfold inV
  induction L with
  | nil => rfl
  | cons a L ih =>
    rw [List.map_cons, List.any_cons, ih]
    have : eqV (V.int a) (V.int n) = decide (a = n) := by simp [eqV]; rfl
    rw [this]
    by_cases h : a = n
    · simp [h]
    · simp [h, Ne.symm h]
theorem valI_neg {z : Str} : valI z < 0 ↔ okW z = false := by
  unfold valI
  cases h : okW z
  · simp
  · rw [if_pos rfl]
    have := intOf_pos h
    constructor
    · omega
    · intro z; cases z
theorem shp_due {w : Str} {n : Nat} (hn : 0 < n) : shp w n = decide ((n : Int) ∈ due1 w n) := by
  unfold shp due1 due0
  by_cases h1 : w = wS
  · subst h1; simp [neSL, neSE, neSA, hn]
  by_cases h2 : w = wL
  · subst h2; simp [neLS, neLE, neLA]; omega
  by_cases h3 : w = wE
  · subst h3
    have e1 : ((n : Int) = 1) = (n = 1) := propext (by omega)
    have e2 : ((n : Int) = 2) = (n = 2) := propext (by omega)
    simp [neES, neEL, neEA, e1, e2]
  by_cases h4 : w = wA
  · subst h4; simp [neAS, neAL, neAE]; omega
  simp [h1, h2, h3, h4]
theorem fst_cases {z : Str} {v : V} (h : fst z = some v) : (∃ u, v = .str u) ∨ v = .int 0 := by
  unfold fst at h
  split at h
  · cases h
  · obtain ⟨p, _, hp⟩ := List.exists_of_findSome?_eq_some h
    rcases flt_cases hp with h | h
    · exact .inl ⟨_, h⟩
    · exact .inr h
structure Txt (K : PySem.W.Frag) (mg : Str->Option Value) (t_MOST_FIGURES : Tok) (t_FIGURES : Tok) (C_KeepError : Addr) (C_NoWord : Addr) (C_NoRule : Addr) (C_Rule : Addr) (C_LastFew : Addr) (C_OneOfEach : Addr) (C_Apart : Addr) (C_Sealed : Addr) (C_AnyOf : Addr) : Prop where
  m_MOST_FIGURES : mg "MOST_FIGURES" = some (.int 20 t_MOST_FIGURES)
  m_FIGURES : mg "FIGURES" = some (.str (PySem.Str.ofString "0123456789") t_FIGURES)
  mg_KeepError : mg "KeepError" = some (.ref C_KeepError)
  x_KeepError : XCls K C_KeepError
  mg_NoWord : mg "NoWord" = some (.ref C_NoWord)
  x_NoWord : XCls K C_NoWord
  n_NoWord_word : NoAttr K C_NoWord "word"
  mg_NoRule : mg "NoRule" = some (.ref C_NoRule)
  x_NoRule : XCls K C_NoRule
  n_NoRule_found : NoAttr K C_NoRule "found"
  mg_Rule : mg "Rule" = some (.ref C_Rule)
  cl_Rule : Cls K C_Rule
  mg_LastFew : mg "LastFew" = some (.ref C_LastFew)
  cl_LastFew : Cls K C_LastFew
  n_LastFew_many : NoAttr K C_LastFew "many"
  mg_OneOfEach : mg "OneOfEach" = some (.ref C_OneOfEach)
  cl_OneOfEach : Cls K C_OneOfEach
  n_OneOfEach_step : NoAttr K C_OneOfEach "step"
  n_OneOfEach_many : NoAttr K C_OneOfEach "many"
  mg_Apart : mg "Apart" = some (.ref C_Apart)
  cl_Apart : Cls K C_Apart
  n_Apart_gap : NoAttr K C_Apart "gap"
  mg_Sealed : mg "Sealed" = some (.ref C_Sealed)
  cl_Sealed : Cls K C_Sealed
  n_Sealed_sealed_days : NoAttr K C_Sealed "sealed_days"
  mg_AnyOf : mg "AnyOf" = some (.ref C_AnyOf)
  cl_AnyOf : Cls K C_AnyOf
  n_AnyOf_rules : NoAttr K C_AnyOf "rules"
  b_len : mg "len" = none
  b_isinstance : mg "isinstance" = none
  b_int : mg "int" = none
  b_bool : mg "bool" = none
  b_str : mg "str" = none
  b_list : mg "list" = none
  b_tuple : mg "tuple" = none
  b_range : mg "range" = none
  b_min : mg "min" = none
  b_dict : mg "dict" = none
  b_all : mg "all" = none
  b_ValueError : mg "ValueError" = none
  clg2 : PySem.W.specialIn K (.builtin "object.__class__") "__get__" = some (some (.builtin "getset_descriptor.__get__"))
  clt2 : PySem.W.takesIn K (.builtin "object.__class__") = some true
  kw : PySem.W.mroIn K C_NoWord (.ref C_NoWord) = some true
  kr : PySem.W.mroIn K C_NoRule (.ref C_NoRule) = some true
  kt1 : PySem.W.kitOne K (.ref C_NoRule) (.ref C_NoWord) = some false
  kt2 : PySem.W.kitOne K (.ref C_NoRule) (.ref C_KeepError) = some true
  kt3 : PySem.W.kitOne K (.ref C_NoRule) (.type "ValueError") = some true
  ic_AnyOf : PySem.W.findIn K (.ref C_AnyOf) "__class__" = some (some (.builtin "object.__class__"))
  io_AnyOf : PySem.W.mroIn K C_AnyOf (.type "object") = some true
  k_AnyOf : PySem.W.kitOne K (.ref C_AnyOf) (.ref C_AnyOf) = some true
section
variable {P : Program} {w : World} {K : PySem.W.Frag} {mg : Str->Option Value} {base : Heap} {t_MOST_FIGURES : Tok} {t_FIGURES : Tok} {C_KeepError : Addr} {C_NoWord : Addr} {C_NoRule : Addr} {C_Rule : Addr} {C_LastFew : Addr} {C_OneOfEach : Addr} {C_Apart : Addr} {C_Sealed : Addr} {C_AnyOf : Addr}
theorem ok_NoWord___init__ {f : Addr} {fd : FuncData} (F : Fun K "__init__" "NoWord.__init__" s_NoWord___init__ f fd) (T : Txt K mg t_MOST_FIGURES t_FIGURES C_KeepError C_NoWord C_NoRule C_Rule C_LastFew C_OneOfEach C_Apart C_Sealed C_AnyOf) : FnOk P w K mg base (CXx P w) 1 f fd ["self", "word"] (sp_x1 C_NoWord "word") := by
  refine F.okX sc_NoWord___init__ (fun vs H Q E h => ?_) (fun cdv A outer s H vs Q E hr h => ?_)
  · obtain ⟨p, y0, rfl, hp, q⟩ := h; rfl
  · obtain ⟨p, y0, rfl, hp, q⟩ := h
    refine ⟨_, (pss_one (ps_xfld1 (pv 0) (pv 1) rfl)), ?_⟩
    exact ⟨_, rfl, _, rfl, p, C_NoWord, true, rfl, hp, T.x_NoWord, T.n_NoWord_word, fun dx hdx => q dx hdx⟩
theorem ok_NoRule___init__ {f : Addr} {fd : FuncData} (F : Fun K "__init__" "NoRule.__init__" s_NoRule___init__ f fd) (T : Txt K mg t_MOST_FIGURES t_FIGURES C_KeepError C_NoWord C_NoRule C_Rule C_LastFew C_OneOfEach C_Apart C_Sealed C_AnyOf) : FnOk P w K mg base (CXx P w) 1 f fd ["self", "found"] (sp_x1 C_NoRule "found") := by
  refine F.okX sc_NoRule___init__ (fun vs H Q E h => ?_) (fun cdv A outer s H vs Q E hr h => ?_)
  · obtain ⟨p, y0, rfl, hp, q⟩ := h; rfl
  · obtain ⟨p, y0, rfl, hp, q⟩ := h
    refine ⟨_, (pss_one (ps_xfld1 (pv 0) (pv 1) rfl)), ?_⟩
    exact ⟨_, rfl, _, rfl, p, C_NoRule, true, rfl, hp, T.x_NoRule, T.n_NoRule_found, fun dx hdx => q dx hdx⟩
theorem okH_NoRule___init__ {f : Addr} {fd : FuncData} (F : Fun K "__init__" "NoRule.__init__" s_NoRule___init__ f fd) (T : Txt K mg t_MOST_FIGURES t_FIGURES C_KeepError C_NoWord C_NoRule C_Rule C_LastFew C_OneOfEach C_Apart C_Sealed C_AnyOf) : FnOkH P w K mg base (CXx P w) 1 f fd ["self", "found"] (sp_x1 C_NoRule "found") := by
  refine F.okXH sc_NoRule___init__ (fun vs H Q E h => ?_) (fun cdv A outer s H vs Q E h => ?_)
  · obtain ⟨p, y0, rfl, hp, q⟩ := h; rfl
  · obtain ⟨p, y0, rfl, hp, q⟩ := h
    refine ⟨_, (pss_one (ps_xfld1 (pv 0) (pv 1) rfl)), ?_⟩
    exact ⟨_, rfl, _, rfl, p, C_NoRule, true, rfl, hp, T.x_NoRule, T.n_NoRule_found, fun dx hdx => q dx hdx⟩
theorem ok_LastFew___init__ {f : Addr} {fd : FuncData} (F : Fun K "__init__" "LastFew.__init__" s_LastFew___init__ f fd) (T : Txt K mg t_MOST_FIGURES t_FIGURES C_KeepError C_NoWord C_NoRule C_Rule C_LastFew C_OneOfEach C_Apart C_Sealed C_AnyOf) (D_NoRule : ExcX P w K mg base "NoRule" C_NoRule 1 ["self", "found"] (sp_x1 C_NoRule "found")) : FnOk P w K mg base (CXx P w) 3 f fd ["self", "many"] (sp_linit C_LastFew C_NoRule) := by
  refine F.okX sc_LastFew___init__ (fun vs H Q E h => ?_) (fun cdv A outer s H vs Q E hr h => ?_)
  · obtain ⟨p, dx, m, rfl, hp, q1, q2⟩ := h; rfl
  obtain ⟨p, dx, m, rfl, hp, q1, q2⟩ := h
  refine ⟨_, (pss_cons (ps_if (pt_cmpR op_lt (pv 1) pe_int (nomark _)) (pss_one (ps_raise rfl raisesB (pe_exc D_NoRule (hr.mono (by decide)) rfl (pa_cons (pv 1) pa_nil)))) pss_nil)
      (pss_one (ps_fld (pv 0) (pv 1) rfl))), ?_⟩
  refine ⟨_, rfl, _, _, rfl, rfl, _, rfl, ?_⟩
  by_cases hm : m < 0
  · refine iteY hm ?_
    exact ⟨_, rfl, raise1 (E := E) T.x_NoRule (q2 hm)⟩
  · refine iteN hm ?_
    exact ⟨_, rfl, _, rfl, p, C_LastFew, dx, [], rfl, hp, T.cl_LastFew, T.n_LastFew_many, (by show 0 < 1000; decide), q1 (by omega)⟩
theorem ok_OneOfEach___init__ {f : Addr} {fd : FuncData} {dV : Value} (F : FunD K "__init__" "OneOfEach.__init__" s_OneOfEach___init__ f fd dV) (T : Txt K mg t_MOST_FIGURES t_FIGURES C_KeepError C_NoWord C_NoRule C_Rule C_LastFew C_OneOfEach C_Apart C_Sealed C_AnyOf) (D_NoRule : ExcX P w K mg base "NoRule" C_NoRule 1 ["self", "found"] (sp_x1 C_NoRule "found")) : FnOk P w K mg base (CXx P w) 3 f fd ["self", "step", "many"] (sp_oinit C_OneOfEach C_NoRule) := by
  refine F.okX sc_OneOfEach___init__ (fun vs H Q E h => ?_) (fun cdv A outer s H vs Q E hr h => ?_)
  · obtain ⟨p, dx, s, mv, mo, rfl, hp, hM, q1, q2, q3⟩ := h; rfl
  obtain ⟨p, dx, s, mv, mo, rfl, hp, hM, q1, q2, q3⟩ := h
  refine ⟨_, (pss_cons (ps_if (pt_cmpR op_lt (pv 1) pe_int (nomark _)) (pss_one (ps_raise rfl raisesB (pe_exc D_NoRule (hr.mono (by decide)) rfl (pa_cons (pv 1) pa_nil)))) pss_nil)
      (pss_cons (ps_if (PW.pt (pw_and (pt_cmpR op_notN (pv 2) pe_non (nomark _)) (pw_and1 (pt_cmpR op_lt (pv 2) pe_int (nomark _))))) (pss_one (ps_raise rfl raisesB (pe_exc D_NoRule (hr.mono (by decide)) rfl (pa_cons (pv 2) pa_nil)))) pss_nil)
      (pss_cons (ps_fld (pv 0) (pv 1) rfl)
      (pss_one (ps_fld (pv 0) (pv 2) rfl))))), ?_⟩
  refine ⟨_, rfl, _, _, rfl, rfl, _, rfl, ?_⟩
  by_cases hs : s < 1
  · refine iteY hs ?_
    exact ⟨_, rfl, raise1 (E := E) T.x_NoRule (q2 hs)⟩
  refine iteN hs ?_
  refine ⟨_, rfl, rfl, _, rfl, ?_⟩
  rcases hM with ⟨rfl, rfl⟩ | ⟨m, rfl, rfl⟩
  · refine iteNS rfl ?_
    refine iteF ?_
    refine ⟨_, rfl, _, rfl, p, C_OneOfEach, dx, [], rfl, hp, T.cl_OneOfEach, T.n_OneOfEach_step, (by show 0 < 1000; decide), ?_⟩
    refine ⟨_, rfl, _, rfl, p, C_OneOfEach, dx, _, rfl, upd_same, T.cl_OneOfEach, T.n_OneOfEach_many, (by show 1 < 1000; decide), ?_⟩
    rw [upd_upd]
    exact q1 (by omega) trivial
  · refine iteNN (fun h => by cases h) ?_
    refine ⟨_, rfl, _, _, rfl, rfl, _, rfl, ?_⟩
    by_cases hm : m < 0
    · refine iteY hm ?_
      exact ⟨_, rfl, raise1 (E := E) T.x_NoRule (q3 m (by omega) rfl hm)⟩
    refine iteN hm ?_
    refine ⟨_, rfl, _, rfl, p, C_OneOfEach, dx, [], rfl, hp, T.cl_OneOfEach, T.n_OneOfEach_step, (by show 0 < 1000; decide), ?_⟩
    refine ⟨_, rfl, _, rfl, p, C_OneOfEach, dx, _, rfl, upd_same, T.cl_OneOfEach, T.n_OneOfEach_many, (by show 1 < 1000; decide), ?_⟩
    rw [upd_upd]
    exact q1 (by omega) (show 0 ≤ m by omega)
theorem ok_Apart___init__ {f : Addr} {fd : FuncData} (F : Fun K "__init__" "Apart.__init__" s_Apart___init__ f fd) (T : Txt K mg t_MOST_FIGURES t_FIGURES C_KeepError C_NoWord C_NoRule C_Rule C_LastFew C_OneOfEach C_Apart C_Sealed C_AnyOf) (D_NoRule : ExcX P w K mg base "NoRule" C_NoRule 1 ["self", "found"] (sp_x1 C_NoRule "found")) : FnOk P w K mg base (CXx P w) 3 f fd ["self", "gap"] (sp_ainit C_Apart C_NoRule) := by
  refine F.okX sc_Apart___init__ (fun vs H Q E h => ?_) (fun cdv A outer s H vs Q E hr h => ?_)
  · obtain ⟨p, dx, m, rfl, hp, q1, q2⟩ := h; rfl
  obtain ⟨p, dx, m, rfl, hp, q1, q2⟩ := h
  refine ⟨_, (pss_cons (ps_if (pt_cmpR op_lt (pv 1) pe_int (nomark _)) (pss_one (ps_raise rfl raisesB (pe_exc D_NoRule (hr.mono (by decide)) rfl (pa_cons (pv 1) pa_nil)))) pss_nil)
      (pss_one (ps_fld (pv 0) (pv 1) rfl))), ?_⟩
  refine ⟨_, rfl, _, _, rfl, rfl, _, rfl, ?_⟩
  by_cases hm : m < 1
  · refine iteY hm ?_
    exact ⟨_, rfl, raise1 (E := E) T.x_NoRule (q2 hm)⟩
  · refine iteN hm ?_
    exact ⟨_, rfl, _, rfl, p, C_Apart, dx, [], rfl, hp, T.cl_Apart, T.n_Apart_gap, (by show 0 < 1000; decide), q1 (by omega)⟩
theorem ok_Sealed___init__ {f : Addr} {fd : FuncData} (F : Fun K "__init__" "Sealed.__init__" s_Sealed___init__ f fd) (T : Txt K mg t_MOST_FIGURES t_FIGURES C_KeepError C_NoWord C_NoRule C_Rule C_LastFew C_OneOfEach C_Apart C_Sealed C_AnyOf)  : FnOk P w K mg base (CXx P w) 2 f fd ["self", "days"] (sp_sinit C_Sealed) := by
  refine F.okX sc_Sealed___init__ (fun vs H Q E h => ?_) (fun cdv A outer s H vs Q E hr h => ?_)
  · obtain ⟨p, dx, l, ns, rfl, hp, hl, hn, q⟩ := h; rfl
  obtain ⟨p, dx, l, ns, rfl, hp, hl, hn, q⟩ := h
  refine ⟨_, (pss_one (ps_fld (pv 0) (pe_callTy (call_dictP rfl) (by rfl) T.b_dict PyProof.Rows.boot_dict (pa_cons (pe_comp (N := ["day"]) (k := 1) (cap := []) rfl rfl (pi_list (pv 1)) (fun _ _ _ _ => (pg_name (i := 0) (show (["day"] : List Str).Nodup from by decide +kernel) rfl (Or.inl rfl) (.inr rfl))) (fun _ _ _ _ => pts_nil) (fun _ _ _ _ => (pe_tup (pa_cons (pv 0) (pa_cons pe_bl pa_nil))))) pa_nil)) rfl)), ?_⟩
  refine ⟨_, rfl, l, rfl, ⟨_, SqL.of hl⟩, fun D hD => ?_⟩
  refine comp_list D (K := K) (a := l) (xs := ns.map V.int) (fun j σ H5 ys => ∃ (v : Option V) (TL : List Addr), σ = [v] /\ Same H H5 /\ H5 D = some (.lst ys) /\ ys = TL.map V.ref /\ TL.length = j /\ ∀ (i : Nat) t, TL[i]? = some t->∃ n, ns[i]? = some n /\ H5 t = some (.tup [.int n, .bl true])) ⟨none, [], rfl, Same.new hD, upd_same, rfl, rfl, by simp⟩ (fun j σ H5 ys _ z0 => by obtain ⟨_, _, _, s5, _⟩ := z0; exact SqL.of (s5 l _ hl)) ?_ ?_
  · rintro j y σ H5 ys hj ⟨v, TL, rfl, s5, hD5, rfl, hTl, hT⟩
    obtain ⟨n, hnj, rfl⟩ := int_at hj
    have hjl : j < ns.length := (List.getElem?_eq_some_iff.mp hnj).1
    refine ⟨_, rfl, (by show 2 ≤ sizeLine; decide), fun t ht => ?_⟩
    have tD : t ≠ D := fun z => by rw [z, hD5] at ht; cases ht
    refine ⟨Same.new ht D _ hD5, (by rw [List.length_map]; exact small5000 (by omega)), _, TL ++ [t], rfl, fun b o e => ?_, upd_same, by simp, by simp [hTl], fun i t2 h2 => ?_⟩
    · rw [upd_ne (ne_of_none e hD), upd_ne (ne_of_none (s5 b _ e) ht)]; exact s5 b _ e
    · by_cases hi : i < TL.length
      · rw [List.getElem?_append_left hi] at h2
        obtain ⟨n2, a1, a2⟩ := hT i t2 h2
        refine ⟨n2, a1, ?_⟩
        rw [upd_ne (fun z => by rw [z, hD5] at a2; cases a2), upd_ne (ne_of_none a2 ht)]; exact a2
      · have hi2 : i = TL.length := by
          have := (List.getElem?_eq_some_iff.mp h2).1
          simp at this; omega
        subst hi2
        rw [List.getElem?_concat_length] at h2
        cases h2
        refine ⟨n, by rw [hTl]; exact hnj, ?_⟩
        rw [upd_ne tD, upd_same]
  · rintro σ H5 ys ⟨v, TL, rfl, s5, hD5, rfl, hTl, hT⟩
    rw [List.length_map] at hTl
    refine ⟨D, TL.map V.ref, ns.map (fun n => (Sum.inl n, V.bl true)), rfl, hD5, by simp [hTl], fun i v hv => ?_, fun d hd => ?_⟩
    · rw [List.getElem?_map] at hv
      obtain ⟨t, h1, rfl⟩ := Option.map_eq_some_iff.mp hv
      obtain ⟨n, a1, a2⟩ := hT i t h1
      exact ⟨t, Sum.inl n, V.bl true, rfl, a2, by rw [List.getElem?_map, a1]; rfl⟩
    · have hp5 := s5 p _ hp
      have ndp : d ≠ p := fun z => by rw [z, hp5] at hd; cases hd
      refine ⟨_, rfl, p, C_Sealed, dx, [], rfl, (by rw [upd_ne ndp.symm]; exact hp5), T.cl_Sealed, T.n_Sealed_sealed_days, (by show 0 < 1000; decide), ?_⟩
      refine q d _ _ upd_same (by rw [upd_ne ndp, upd_same]) (fun n => by rw [mem_merge]; simp [valV_nil]) (fun b o e hb => ?_)
      rw [upd_ne (fun z => hb (by simp [z])), upd_ne (ne_of_none (s5 b _ e) hd)]
      exact s5 b _ e
theorem ok_writes_number {f : Addr} {fd : FuncData} (F : Fun K "writes_number" "writes_number" s_writes_number f fd) (T : Txt K mg t_MOST_FIGURES t_FIGURES C_KeepError C_NoWord C_NoRule C_Rule C_LastFew C_OneOfEach C_Apart C_Sealed C_AnyOf)  : FnOk P w K mg base (CXx P w) 1 f fd ["word"] (sp_writes) := by
  refine F.okX sc_writes_number (fun vs H Q E h => ?_) (fun cdv A outer s H vs Q E hr h => ?_)
  · obtain ⟨z, rfl, hz, q⟩ := h; rfl
  obtain ⟨z, rfl, hz, q⟩ := h
  refine ⟨_, (pss_cons (ps_if (pt_cmpR op_eq (pv 0) pe_str (nomark _)) (pss_one (ps_ret pe_bl)) pss_nil)
      (pss_cons (ps_if (PW.pt (pw_or (pt_cmpR op_lt (pe_callB call_len_str (by rfl) T.b_len PySem.boot_len (pa_cons (pv 0) pa_nil)) pe_int (nomark _)) (pw_or (pt_cmpR op_gt (pe_callB call_len_str (by rfl) T.b_len PySem.boot_len (pa_cons (pv 0) pa_nil)) (pe_glob (v := .int 20) rfl T.m_MOST_FIGURES ⟨_, rfl⟩) (nomark _)) (pw_or1 (pt_cmpR op_eq (pe_ix ix_str (pv 0) pe_int (fun _ _ => rfl)) pe_str (nomark _)))))) (pss_one (ps_ret pe_bl)) pss_nil)
      (pss_one (ps_ret (pe_callB (call_all_bl rfl) (by rfl) T.b_all PyProof.Rows.boot_all (pa_cons (pe_comp (N := ["sign"]) (k := 1) (cap := []) rfl rfl (pi_str (pv 0)) (fun _ _ _ _ => (pg_name (i := 0) (show (["sign"] : List Str).Nodup from by decide +kernel) rfl (Or.inl rfl) (.inr rfl))) (fun _ _ _ _ => pts_nil) (fun _ _ _ _ => (pe_cmpR op_in_str (pv 0) (pe_glob (v := .str (PySem.Str.ofString "0123456789")) rfl T.m_FIGURES ⟨_, rfl⟩) (by with_unfolding_all rfl)))) pa_nil)))))), ?_⟩
  have hzl : z.length ≤ sizeLine := Nat.le_trans hz (by decide)
  refine ⟨_, rfl, rfl, _, rfl, ?_⟩
  by_cases h0 : z = Str.ofString "0"
  · subst h0
    refine iteY rfl ?_
    have e : okW (Str.ofString "0") = true := by decide +kernel
    rw [e] at q
    exact q H (Same.refl H)
  refine iteN (fun h => h0 (V.str.inj h)) ?_
  refine ⟨_, rfl, z, rfl, hzl, _, _, rfl, rfl, _, rfl, ?_⟩
  by_cases h1 : ¬ 1 ≤ z.length
  · refine iteY (by omega) ?_
    refine iteT ?_
    rw [okW_lo h1] at q
    exact q H (Same.refl H)
  have h1 := Classical.not_not.mp h1
  refine iteN (by omega) ?_
  refine ⟨_, rfl, z, rfl, hzl, _, _, rfl, rfl, _, rfl, ?_⟩
  by_cases h2 : ¬ z.length ≤ 20
  · refine iteY (by omega) ?_
    refine iteT ?_
    rw [okW_hi h2] at q
    exact q H (Same.refl H)
  have h2 := Classical.not_not.mp h2
  refine iteN (by omega) ?_
  obtain ⟨c0, hc0⟩ := str_first h1
  refine ⟨_, rfl, z, 0, c0, rfl, rfl, hzl, atI_nat (j := 0) hc0, rfl, _, rfl, ?_⟩
  by_cases h3 : c0 = 48
  · subst h3
    refine iteY rfl ?_
    rw [okW_zero (fun h => h0 (str_zero h hc0)) hc0] at q
    exact q H (Same.refl H)
  refine iteN (fun h => h3 (one_eq.mp h)) ?_
  rw [okW_all h1 h2 (.inr fun h => h3 (by rw [hc0] at h; exact Option.some.inj h))] at q
  refine ⟨_, rfl, z, rfl, fun D' hD' => ?_⟩
  refine comp_str D' (x := z) (fun i σ H5 ys => ∃ v : Option V, σ = [v] /\ H5 = upd H D' (.lst ys) /\ ys = ((z.cps.toList.take i).map figB).map V.bl) ⟨none, rfl, rfl, rfl⟩ ?_ ?_
  · rintro i c σ H5 ys hi ⟨v, rfl, rfl, hy⟩
    have hi2 : z.cps.toList[i]? = some c := by simpa using hi
    refine ⟨_, rfl, _, _, rfl, rfl, upd_same, ?_, _, rfl, by rw [upd_upd], ?_⟩
    · rw [hy, List.length_map, List.length_map, List.length_take, str_len]; exact small1000 (by omega)
    · rw [hy, List.take_add_one, hi2]; simp [figB]
  · rintro σ H5 ys ⟨v, rfl, rfl, hy⟩
    refine ⟨D', (z.cps.toList.map figB), rfl, SqL.of ?_, ?_⟩
    · rw [upd_same, hy, List.take_of_length_le (by simp)]
    · have e : (z.cps.toList.map figB).all id = isNum z := by unfold isNum; rw [List.all_map]; rfl
      rw [e]
      exact q _ (Same.new hD')
theorem ok_number_of {f : Addr} {fd : FuncData} (F : Fun K "number_of" "number_of" s_number_of f fd) (T : Txt K mg t_MOST_FIGURES t_FIGURES C_KeepError C_NoWord C_NoRule C_Rule C_LastFew C_OneOfEach C_Apart C_Sealed C_AnyOf) (D_writes_number : DefX P w K mg base "writes_number" 1 ["word"] sp_writes) (D_NoWord : ExcX P w K mg base "NoWord" C_NoWord 1 ["self", "word"] (sp_x1 C_NoWord "word")) : FnOk P w K mg base (CXx P w) 3 f fd ["word"] (sp_number C_NoWord) := by
  refine F.okX sc_number_of (fun vs H Q E h => ?_) (fun cdv A outer s H vs Q E hr h => ?_)
  · obtain ⟨z, rfl, hz, q1, q2⟩ := h; rfl
  obtain ⟨z, rfl, hz, q1, q2⟩ := h
  refine ⟨_, (pss_cons (ps_if (pt_not (pt_val (pe_callS D_writes_number passesN (hr.mono (by decide)) rfl (pa_cons (pv 0) pa_nil)))) (pss_one (ps_raise rfl raisesB (pe_exc D_NoWord (hr.mono (by decide)) rfl (pa_cons (pv 0) pa_nil)))) pss_nil)
      (pss_one (ps_ret (pe_callTy call_int_str (by rfl) T.b_int PyProof.Rows.boot_int (pa_cons (pv 0) pa_nil))))), ?_⟩
  refine ⟨_, rfl, z, rfl, hz, fun H1 s1 => ⟨_, rfl, ?_⟩⟩
  cases hw : okW z
  · refine iteT ?_
    exact ⟨_, rfl, raise1U (E := E) T.x_NoWord fun e H' he hs => q2 hw e H' he (s1.trans hs)⟩
  · refine iteF ?_
    exact ⟨_, rfl, z, intOf z, rfl, okW_num hw, (by have := okW_short hw; omega), q1 hw H1 s1⟩
theorem ok_AnyOf___init__ {f : Addr} {fd : FuncData} (F : Fun K "__init__" "AnyOf.__init__" s_AnyOf___init__ f fd) (T : Txt K mg t_MOST_FIGURES t_FIGURES C_KeepError C_NoWord C_NoRule C_Rule C_LastFew C_OneOfEach C_Apart C_Sealed C_AnyOf)  : FnOk P w K mg base (CXx P w) 2 f fd ["self", "rules"] (sp_anyinit C_AnyOf) := by
  refine F.okX sc_AnyOf___init__ (fun vs H Q E h => ?_) (fun cdv A outer s H vs Q E hr h => ?_)
  · obtain ⟨p, dx, l, PL, rfl, hp, hl, q⟩ := h; rfl
  obtain ⟨p, dx, l, PL, rfl, hp, hl, q⟩ := h
  refine ⟨_, (pss_one (ps_fld (pv 0) (pe_callTy call_tuple_of (by rfl) T.b_tuple PyProof.Rows.boot_tuple (pa_cons (pv 1) pa_nil)) rfl)), ?_⟩
  refine ⟨_, rfl, l, _, rfl, .inl ⟨SqL.of hl, fun t ht => ?_⟩⟩
  have ntp : t ≠ p := fun z => by rw [z, hp] at ht; cases ht
  refine ⟨_, rfl, p, C_AnyOf, dx, [], rfl, (by rw [upd_ne ntp.symm]; exact hp), T.cl_AnyOf, T.n_AnyOf_rules, (by show 0 < 1000; decide), ?_⟩
  refine q t _ upd_same (by rw [upd_ne ntp, upd_same]) (fun b o e hb => ?_)
  rw [upd_ne (fun z => hb (by simp [z])), upd_ne (ne_of_none e ht)]; exact e
theorem ok_rule_of_part {f : Addr} {fd : FuncData} (F : Fun K "rule_of_part" "rule_of_part" s_rule_of_part f fd) (T : Txt K mg t_MOST_FIGURES t_FIGURES C_KeepError C_NoWord C_NoRule C_Rule C_LastFew C_OneOfEach C_Apart C_Sealed C_AnyOf) (D_number_of : DefX P w K mg base "number_of" 3 ["word"] (sp_number C_NoWord)) (D_NoRuleH : ExcXH P w K mg base "NoRule" C_NoRule 1 ["self", "found"] (sp_x1 C_NoRule "found")) (D_LastFew : MakeX P w K mg base "LastFew" C_LastFew 3 ["self", "many"] (sp_linit C_LastFew C_NoRule)) (D_OneOfEach_d1 : MakeXd P w K mg base "OneOfEach" C_OneOfEach 3 ["self", "step", "many"] [Value.none] (sp_oinit C_OneOfEach C_NoRule)) (D_OneOfEach : MakeX P w K mg base "OneOfEach" C_OneOfEach 3 ["self", "step", "many"] (sp_oinit C_OneOfEach C_NoRule)) (D_Apart : MakeX P w K mg base "Apart" C_Apart 3 ["self", "gap"] (sp_ainit C_Apart C_NoRule)) (D_Sealed : MakeX P w K mg base "Sealed" C_Sealed 2 ["self", "days"] (sp_sinit C_Sealed)) (D_NoRule : ExcX P w K mg base "NoRule" C_NoRule 1 ["self", "found"] (sp_x1 C_NoRule "found")) : FnOk P w K mg base (CXx P w) 5 f fd ["part"] (sp_part C_NoRule) := by
  refine F.okX sc_rule_of_part (fun vs H Q E h => ?_) (fun cdv A outer s H vs Q E hr h => ?_)
  · obtain ⟨z, rfl, hz, q1, q2⟩ := h; rfl
  obtain ⟨z, rfl, hz, q1, q2⟩ := h
  refine ⟨_, (pss_cons (ps_set (i := 1) sc_rule_of_part.nd rfl (Or.inl rfl) (pe_bm PySem.F.plainAttrs_str PySem.F.slot_str_split PySem.F.type_str_split mt_split (pv 0) (pa_cons pe_str pa_nil)))
      (pss_cons (ps_tryI (fun pn xe E hx hxi => (pss_one (ps_setCompE (N := ["word"]) (k := 1) (cap := []) (i := 2) hxi rfl rfl sc_rule_of_part.nd rfl (Or.inl rfl) rfl rfl (pi_list (pe_slice sl_list (pv 1) (po_some pe_int) po_none)) (fun _ _ _ _ => (pg_name (i := 0) (show (["word"] : List Str).Nodup from by decide +kernel) rfl (Or.inl rfl) (.inr rfl))) (fun _ _ _ _ => pts_nil) (fun EX _ _ _ _ xe hx => (pe_callS D_number_of hx (hr.mono (by decide)) rfl (pa_cons (pv 0) pa_nil)))))) (ph_rs passesI rfl rfl rfl T.mg_NoWord T.x_NoWord (fun _ _ => (pe_excH D_NoRuleH (hr.mono (by decide)).toH.mark rfl (pa_cons (pv 0) pa_nil))) ph_nil) rfl rfl)
      (pss_cons (ps_if (PW.pt (pw_and (pt_cmpR op_eq (pe_ix ix_list (pv 1) pe_int (fun _ _ => rfl)) pe_str (nomark _)) (pw_and1 (pt_cmpR op_eq (pe_callB call_len_seq (by rfl) T.b_len PySem.boot_len (pa_cons (pv 2) pa_nil)) pe_int (nomark _))))) (pss_one (ps_ret (pe_makeS D_LastFew passesB (hr.mono (by decide)) rfl (pa_cons (pe_ix ix_list (pv 2) pe_int (fun _ _ => rfl)) pa_nil)))) pss_nil)
      (pss_cons (ps_if (PW.pt (pw_and (pt_cmpR op_eq (pe_ix ix_list (pv 1) pe_int (fun _ _ => rfl)) pe_str (nomark _)) (pw_and1 (pt_cmpR op_eq (pe_callB call_len_seq (by rfl) T.b_len PySem.boot_len (pa_cons (pv 2) pa_nil)) pe_int (nomark _))))) (pss_one (ps_ret (pe_makeSd (dvs := [V.non]) D_OneOfEach_d1 (Paired.cons rfl Paired.nil) passesB (hr.mono (by decide)) rfl (pa_cons (pe_ix ix_list (pv 2) pe_int (fun _ _ => rfl)) pa_nil)))) pss_nil)
      (pss_cons (ps_if (PW.pt (pw_and (pt_cmpR op_eq (pe_ix ix_list (pv 1) pe_int (fun _ _ => rfl)) pe_str (nomark _)) (pw_and1 (pt_cmpR op_eq (pe_callB call_len_seq (by rfl) T.b_len PySem.boot_len (pa_cons (pv 2) pa_nil)) pe_int (nomark _))))) (pss_one (ps_ret (pe_makeS D_OneOfEach passesB (hr.mono (by decide)) rfl (pa_cons (pe_ix ix_list (pv 2) pe_int (fun _ _ => rfl)) (pa_cons (pe_ix ix_list (pv 2) pe_int (fun _ _ => rfl)) pa_nil))))) pss_nil)
      (pss_cons (ps_if (PW.pt (pw_and (pt_cmpR op_eq (pe_ix ix_list (pv 1) pe_int (fun _ _ => rfl)) pe_str (nomark _)) (pw_and1 (pt_cmpR op_eq (pe_callB call_len_seq (by rfl) T.b_len PySem.boot_len (pa_cons (pv 2) pa_nil)) pe_int (nomark _))))) (pss_one (ps_ret (pe_makeS D_Apart passesB (hr.mono (by decide)) rfl (pa_cons (pe_ix ix_list (pv 2) pe_int (fun _ _ => rfl)) pa_nil)))) pss_nil)
      (pss_cons (ps_if (PW.pt (pw_and (pt_cmpR op_eq (pe_ix ix_list (pv 1) pe_int (fun _ _ => rfl)) pe_str (nomark _)) (pw_and1 (pt_cmpR op_gt (pe_callB call_len_seq (by rfl) T.b_len PySem.boot_len (pa_cons (pv 2) pa_nil)) pe_int (nomark _))))) (pss_one (ps_ret (pe_makeS D_Sealed passesN (hr.mono (by decide)) rfl (pa_cons (pv 2) pa_nil)))) pss_nil)
      (pss_one (ps_raise rfl raisesB (pe_exc D_NoRule (hr.mono (by decide)) rfl (pa_cons (pv 0) pa_nil))))))))))), ?_⟩
  refine ⟨_, rfl, rfl, z, Str.ofString " ", rfl, rfl, by decide +kernel, by omega, fun p hp => ?_⟩
  have hP1 := fun w hw => split_leY (z := z) (p := w) (y := Str.ofString " ") hw
  have hP2 := split_manyY (z := z) (y := Str.ofString " ") (by decide +kernel)
  obtain ⟨w, vs, hsp⟩ : ∃ w vs, Txt.split z (Str.ofString " ") = w :: vs := by
    cases e : Txt.split z (Str.ofString " ") with
    | nil => exact absurd e split_ne
    | cons w vs => exact ⟨w, vs, rfl⟩
  rw [flt_eq hsp] at q1 q2
  rw [hsp] at hP1 hP2 ⊢
  rw [List.length_cons] at hP2
  have hp0 : upd H p (.lst ((w :: vs).map V.str)) p = some (.lst (V.str w :: vs.map V.str)) := upd_same
  have s0 : Same H (upd H p (.lst ((w :: vs).map V.str))) := Same.new hp
  generalize upd H p (.lst ((w :: vs).map V.str)) = H0 at hp0 s0
  intro pn xe
  refine ⟨_, rfl, _, rfl, p, _, rfl, SqL.of hp0, fun c hc => ?_⟩
  rw [cut1]
  have s1 : Same H0 (upd H0 c (.lst (vs.map V.str))) := Same.new hc
  have hc1 : upd H0 c (.lst (vs.map V.str)) c = some (.lst (vs.map V.str)) := upd_same
  generalize upd H0 c (.lst (vs.map V.str)) = H1 at s1 hc1
  refine ⟨c, rfl, ⟨_, SqL.of hc1⟩, fun D hD => ?_⟩
  refine comp_list D (K := K) (a := c) (xs := vs.map V.str) (fun j σ H5 ys => ∃ (v : Option V), σ = [v] /\ Same H1 H5 /\ H5 D = some (.lst ys) /\ ys = ((vs.take j).map intOf).map V.int /\ (vs.take j).all okW = true) ⟨none, rfl, Same.new hD, upd_same, rfl, rfl⟩ (fun j σ H5 ys _ z0 => by obtain ⟨_, _, s5, _⟩ := z0; exact SqL.of (s5 c _ hc1)) ?_ ?_
  · rintro j y σ H5 ys hj ⟨v, rfl, s5, hD5, rfl, hok⟩
    obtain ⟨u, hu, rfl⟩ := str_at hj
    have hjl : j < vs.length := (List.getElem?_eq_some_iff.mp hu).1
    refine ⟨_, rfl, u, rfl, (by have := hP1 u (List.mem_cons_of_mem _ (List.mem_of_getElem? hu)); omega), fun hk H6 s6 => ?_, fun hk e H6 he s6 => ?_⟩
    · refine ⟨s6 D _ hD5, (by rw [List.length_map, List.length_map, List.length_take]; exact small5000 (by omega)), _, rfl, fun b o e => ?_, upd_same, by rw [List.take_add_one, hu]; simp, by rw [List.take_add_one, hu]; simp [hok, hk]⟩
      rw [upd_ne (ne_of_none e hD)]; exact s6 b _ (s5 b _ e)
    · obtain ⟨od, he⟩ := he
      refine ⟨e, C_NoWord, rfl, rfl, true, T.kw, ?_⟩
      rw [if_pos rfl]
      intro pn2
      refine ⟨_, rfl, rs1 (E := E) T.x_NoRule he fun e2 H7 he2 s7 => q2 (.str z) ?_ e2 H7 he2 (((s0.trans s1).trans s5).trans (s6.trans s7))⟩
      unfold fltW
      rw [if_neg ?_]
      rw [List.all_eq_false.mpr ⟨u, List.mem_of_getElem? hu, by rw [hk]; decide⟩, Bool.false_and]
      decide
  rintro σ H5 ys ⟨v, rfl, s5, hD5, rfl, hok⟩
  rw [List.length_map, List.take_length] at hD5 hok
  have s05 := (s0.trans s1).trans s5
  have hp5 := s5 p _ (s1 p _ hp0)
  have SN2 : ∀ {x dx C : Addr} {fs : List (Str × V)}, H5 x = none->H5 dx = none->Same H5 (upd (upd (upd H5 dx (.own x)) x (.ins C dx [])) x (.ins C dx fs)) := fun hx hdx b o e => by rw [upd_ne (ne_of_none e hx), upd_ne (ne_of_none e hx), upd_ne (ne_of_none e hdx)]; exact e
  clear hp hc1 hp0 s0 s1 s5 hD hc
  unfold fltW at q1 q2
  rw [hok, Bool.true_and] at q1 q2
  have okv : ∀ u ∈ vs, okW u = true := fun u hu => List.all_eq_true.mp hok u hu
  have hlen : (((vs.map intOf).map V.int).length : Int) = (vs.length : Int) := by rw [List.length_map, List.length_map]
  have sMk : ∀ {x dx C : Addr}, H5 x = none->H5 dx = none->dx ≠ x->Same H5 (upd (upd H5 dx (.own x)) x (.ins C dx [])) := fun hx hdx hne => (Same.new hdx).trans (Same.new (by rw [upd_ne hne.symm]; exact hx))
  dsimp only [gName]
  refine qcut (fun σ H' => σ = [some (.str z), some (.ref p), some (.ref D)] /\ H5 = H' /\ ¬ (w = wL /\ vs.length = 1)) (fun N hN => ?_) ?_
  · refine ⟨_, rfl, p, _, _, V.str w, rfl, rfl, SqL.of hp5, atI_nat (j := 0) rfl, rfl, _, rfl, ?_⟩
    by_cases h : w = wL
    · refine iteY (by rw [h]) ?_
      refine ⟨_, rfl, D, _, rfl, .inl (SqL.of hD5), rfl, _, rfl, ?_⟩
      by_cases h1 : vs.length = 1
      · refine iteY (by rw [hlen]; rw [h1]; rfl) ?_
        obtain ⟨u, rfl⟩ : ∃ u, vs = [u] := by
          match vs, h1 with
          | [u], _ => exact ⟨u, rfl⟩
        have hu := intOf_pos (okv u (by simp))
        refine ⟨_, rfl, D, _, _, V.int (intOf u), rfl, rfl, SqL.of hD5, atI_nat (j := 0) rfl, fun x dx hx hdx hne => ⟨x, dx, intOf u, rfl, upd_same, fun _ => ⟨rfl, ?_⟩, fun h => absurd h (by omega)⟩⟩
        exact q1 (by rw [h]; simp [shp, neLE, neLA]) x _ (s05.trans (SN2 hx hdx))
      · refine iteN (fun e => h1 (by rw [hlen] at e; have := V.int.inj e; omega)) ?_
        exact hN _ _ ⟨rfl, rfl, fun e => h1 e.2⟩
    · refine iteN (fun e => h (V.str.inj e)) ?_
      refine iteF ?_
      exact hN _ _ ⟨rfl, rfl, fun e => h e.1⟩
  rintro σ H' ⟨rfl, rfl, c1⟩
  refine qcut (fun σ H' => σ = [some (.str z), some (.ref p), some (.ref D)] /\ H5 = H' /\ ¬ (w = wE /\ vs.length = 1)) (fun N hN => ?_) ?_
  · refine ⟨_, rfl, p, _, _, V.str w, rfl, rfl, SqL.of hp5, atI_nat (j := 0) rfl, rfl, _, rfl, ?_⟩
    by_cases h : w = wE
    · refine iteY (by rw [h]) ?_
      refine ⟨_, rfl, D, _, rfl, .inl (SqL.of hD5), rfl, _, rfl, ?_⟩
      by_cases h1 : vs.length = 1
      · refine iteY (by rw [hlen]; rw [h1]; rfl) ?_
        obtain ⟨u, rfl⟩ : ∃ u, vs = [u] := by
          match vs, h1 with
          | [u], _ => exact ⟨u, rfl⟩
        have hu := intOf_pos (okv u (by simp))
        refine ⟨_, rfl, D, _, _, V.int (intOf u), rfl, rfl, SqL.of hD5, atI_nat (j := 0) rfl, fun x dx hx hdx hne => ⟨x, dx, intOf u, .non, none, rfl, upd_same, .inl ⟨rfl, rfl⟩, fun h2 _ => ⟨rfl, ?_⟩, fun h2 e H' he hs => ?_, fun m _ h => by cases h⟩⟩
        · exact q1 (by rw [h]; have : ¬ intOf u = 0 := by omega
                       simp [shp, this]) x _ (s05.trans (SN2 hx hdx))
        · have e0 : intOf u = 0 := by omega
          rw [e0] at he
          exact q2 (.int 0) (by rw [h]; simp [shp, e0]) e H' he (s05.trans (fun b o e => hs b o (sMk hx hdx hne b o e)))
      · refine iteN (fun e => h1 (by rw [hlen] at e; have := V.int.inj e; omega)) ?_
        exact hN _ _ ⟨rfl, rfl, fun e => h1 e.2⟩
    · refine iteN (fun e => h (V.str.inj e)) ?_
      refine iteF ?_
      exact hN _ _ ⟨rfl, rfl, fun e => h e.1⟩
  rintro σ H' ⟨rfl, rfl, c2⟩
  refine qcut (fun σ H' => σ = [some (.str z), some (.ref p), some (.ref D)] /\ H5 = H' /\ ¬ (w = wE /\ vs.length = 2)) (fun N hN => ?_) ?_
  · refine ⟨_, rfl, p, _, _, V.str w, rfl, rfl, SqL.of hp5, atI_nat (j := 0) rfl, rfl, _, rfl, ?_⟩
    by_cases h : w = wE
    · refine iteY (by rw [h]) ?_
      refine ⟨_, rfl, D, _, rfl, .inl (SqL.of hD5), rfl, _, rfl, ?_⟩
      by_cases h1 : vs.length = 2
      · refine iteY (by rw [hlen]; rw [h1]; rfl) ?_
        obtain ⟨u, u2, rfl⟩ : ∃ u u2, vs = [u, u2] := by
          match vs, h1 with
          | [u, u2], _ => exact ⟨u, u2, rfl⟩
        have hu := intOf_pos (okv u (by simp))
        have hu2 := intOf_pos (okv u2 (by simp))
        refine ⟨_, rfl, D, _, _, V.int (intOf u), rfl, rfl, SqL.of hD5, atI_nat (j := 0) rfl, _, rfl, D, _, _, V.int (intOf u2), rfl, rfl, SqL.of hD5, atI_nat (j := 1) rfl, fun x dx hx hdx hne => ⟨x, dx, intOf u, .int (intOf u2), some (intOf u2), rfl, upd_same, .inr ⟨_, rfl, rfl⟩, fun h2 _ => ⟨rfl, ?_⟩, fun h2 e H' he hs => ?_, fun m _ h hm => absurd hm (by cases h; omega)⟩⟩
        · exact q1 (by rw [h]; have : ¬ intOf u = 0 := by omega
                       simp [shp, this]) x _ (s05.trans (SN2 hx hdx))
        · have e0 : intOf u = 0 := by omega
          rw [e0] at he
          exact q2 (.int 0) (by rw [h]; simp [shp, e0]) e H' he (s05.trans (fun b o e => hs b o (sMk hx hdx hne b o e)))
      · refine iteN (fun e => h1 (by rw [hlen] at e; have := V.int.inj e; omega)) ?_
        exact hN _ _ ⟨rfl, rfl, fun e => h1 e.2⟩
    · refine iteN (fun e => h (V.str.inj e)) ?_
      refine iteF ?_
      exact hN _ _ ⟨rfl, rfl, fun e => h e.1⟩
  rintro σ H' ⟨rfl, rfl, c3⟩
  refine qcut (fun σ H' => σ = [some (.str z), some (.ref p), some (.ref D)] /\ H5 = H' /\ ¬ (w = wA /\ vs.length = 1)) (fun N hN => ?_) ?_
  · refine ⟨_, rfl, p, _, _, V.str w, rfl, rfl, SqL.of hp5, atI_nat (j := 0) rfl, rfl, _, rfl, ?_⟩
    by_cases h : w = wA
    · refine iteY (by rw [h]) ?_
      refine ⟨_, rfl, D, _, rfl, .inl (SqL.of hD5), rfl, _, rfl, ?_⟩
      by_cases h1 : vs.length = 1
      · refine iteY (by rw [hlen]; rw [h1]; rfl) ?_
        obtain ⟨u, rfl⟩ : ∃ u, vs = [u] := by
          match vs, h1 with
          | [u], _ => exact ⟨u, rfl⟩
        have hu := intOf_pos (okv u (by simp))
        refine ⟨_, rfl, D, _, _, V.int (intOf u), rfl, rfl, SqL.of hD5, atI_nat (j := 0) rfl, fun x dx hx hdx hne => ⟨x, dx, intOf u, rfl, upd_same, fun h2 => ⟨rfl, ?_⟩, fun h2 e H' he hs => ?_⟩⟩
        · exact q1 (by rw [h]; have : ¬ intOf u = 0 := by omega
                       simp [shp, this]) x _ (s05.trans (SN2 hx hdx))
        · have e0 : intOf u = 0 := by omega
          rw [e0] at he
          exact q2 (.int 0) (by rw [h]; simp [shp, e0]) e H' he (s05.trans (fun b o e => hs b o (sMk hx hdx hne b o e)))
      · refine iteN (fun e => h1 (by rw [hlen] at e; have := V.int.inj e; omega)) ?_
        exact hN _ _ ⟨rfl, rfl, fun e => h1 e.2⟩
    · refine iteN (fun e => h (V.str.inj e)) ?_
      refine iteF ?_
      exact hN _ _ ⟨rfl, rfl, fun e => h e.1⟩
  rintro σ H' ⟨rfl, rfl, c4⟩
  refine qcut (fun σ H' => σ = [some (.str z), some (.ref p), some (.ref D)] /\ H5 = H' /\ ¬ (w = wS /\ 0 < vs.length)) (fun N hN => ?_) ?_
  · refine ⟨_, rfl, p, _, _, V.str w, rfl, rfl, SqL.of hp5, atI_nat (j := 0) rfl, rfl, _, rfl, ?_⟩
    by_cases h : w = wS
    · refine iteY (by rw [h]) ?_
      refine ⟨_, rfl, D, _, rfl, .inl (SqL.of hD5), _, _, rfl, rfl, _, rfl, ?_⟩
      by_cases h1 : 0 < vs.length
      · refine iteY (by rw [hlen]; omega) ?_
        refine ⟨_, rfl, fun x dx hx hdx hne => ?_⟩
        refine ⟨x, dx, D, vs.map intOf, rfl, upd_same, sMk hx hdx hne D _ hD5, by rw [List.length_map]; omega, fun dd kvs H6 hp6 hd6 hv6 kp => ⟨rfl, ?_⟩⟩
        exact q1 (by rw [h]; simp [shp, h1, neSE, neSA, neSL]) x _ (s05.trans (made_same hx hdx kp))
      · refine iteN (fun e => h1 (by rw [hlen] at e; omega)) ?_
        exact hN _ _ ⟨rfl, rfl, fun e => h1 e.2⟩
    · refine iteN (fun e => h (V.str.inj e)) ?_
      refine iteF ?_
      exact hN _ _ ⟨rfl, rfl, fun e => h e.1⟩
  rintro σ H' ⟨rfl, rfl, c5⟩
  refine ⟨_, rfl, raise1 (E := E) T.x_NoRule fun e H' he hs => q2 (.str z) ?_ e H' he (s05.trans hs)⟩
  rw [if_neg]
  intro h
  simp only [shp, Bool.or_eq_true, Bool.and_eq_true, decide_eq_true_eq] at h
  rcases h with ((h | ⟨h1, h2 | h2⟩) | h) | h
  · exact c1 h
  · exact c2 ⟨h1, h2⟩
  · exact c3 ⟨h1, h2⟩
  · exact c4 h
  · exact c5 h
theorem ok_rule_of {f : Addr} {fd : FuncData} (F : Fun K "rule_of" "rule_of" s_rule_of f fd) (T : Txt K mg t_MOST_FIGURES t_FIGURES C_KeepError C_NoWord C_NoRule C_Rule C_LastFew C_OneOfEach C_Apart C_Sealed C_AnyOf) (D_AnyOf : MakeX P w K mg base "AnyOf" C_AnyOf 2 ["self", "rules"] (sp_anyinit C_AnyOf)) (D_rule_of_part : DefX P w K mg base "rule_of_part" 5 ["part"] (sp_part C_NoRule)) : FnOk P w K mg base (CXx P w) 6 f fd ["text"] (sp_ruleof C_AnyOf C_NoRule) := by
  refine F.okX sc_rule_of (fun vs H Q E h => ?_) (fun cdv A outer s H vs Q E hr h => ?_)
  · obtain ⟨z, rfl, hz, q1, q2⟩ := h; rfl
  obtain ⟨z, rfl, hz, q1, q2⟩ := h
  refine ⟨_, (pss_cons (ps_if (pt_cmpR op_eq (pv 0) pe_str (nomark _)) (pss_one (ps_ret (pe_makeS D_AnyOf passesN (hr.mono (by decide)) rfl (pa_cons (pe_lst pa_nil) pa_nil)))) pss_nil)
      (pss_one (ps_ret (pe_makeS D_AnyOf passesN (hr.mono (by decide)) rfl (pa_cons (pe_compX (N := ["part"]) (k := 1) (cap := []) passesI rfl rfl rfl rfl (pi_list (pe_bm PySem.F.plainAttrs_str PySem.F.slot_str_split PySem.F.type_str_split mt_split (pv 0) (pa_cons pe_str pa_nil))) (fun _ _ _ _ => (pg_name (i := 0) (show (["part"] : List Str).Nodup from by decide +kernel) rfl (Or.inl rfl) (.inr rfl))) (fun _ _ _ _ => pts_nil) (fun _ _ _ _ xe hx => (pe_callS D_rule_of_part hx (hr.mono (by decide)) rfl (pa_cons (pv 0) pa_nil)))) pa_nil))))), ?_⟩
  refine ⟨_, rfl, rfl, _, rfl, ?_⟩
  by_cases h0 : z = Str.ofString ""
  · subst h0
    refine iteY rfl ?_
    refine ⟨Nat.zero_le _, fun l hl x dx hx hdx hne => ?_⟩
    have sM : Same (upd H l (.lst [])) (upd (upd (upd H l (.lst [])) dx (.own x)) x (.ins C_AnyOf dx [])) := (Same.new hdx).trans (Same.new (by rw [upd_ne hne.symm]; exact hx))
    refine ⟨x, dx, l, [], rfl, upd_same, sM l _ upd_same, fun t H2 h2 ht kp => ⟨rfl, ?_⟩⟩
    exact q1 (if_pos rfl) x H2 ⟨dx, _, h2⟩ ((Same.new hl).trans (made_same hx hdx kp))
  refine iteN (fun h => h0 (V.str.inj h)) ?_
  rw [fst_pts h0] at q1 q2
  refine ⟨_, rfl, rfl, z, Str.ofString ", ", rfl, rfl, by decide +kernel, by omega, fun p hp => ?_⟩
  have hP1 := fun w hw => split_leY (z := z) (p := w) (y := Str.ofString ", ") hw
  have hP2 := split_manyY (z := z) (y := Str.ofString ", ") (by decide +kernel)
  generalize Txt.split z (Str.ofString ", ") = P at q1 q2 hP1 hP2
  have hp2 : upd H p (.lst (P.map V.str)) p = some (.lst (P.map V.str)) := upd_same
  have s0 : Same H (upd H p (.lst (P.map V.str))) := Same.new hp
  generalize upd H p (.lst (P.map V.str)) = H0 at hp2 s0
  refine ⟨p, rfl, ⟨_, SqL.of hp2⟩, fun D hD => ?_⟩
  refine comp_list D (K := K) (a := p) (xs := P.map V.str) (fun j σ H5 ys => ∃ (v : Option V) (PL : List Addr), σ = [v] /\ Same H0 H5 /\ H5 D = some (.lst ys) /\ ys = PL.map V.ref /\ PL.length = j /\ (P.take j).findSome? flt = none) ⟨none, [], rfl, Same.new hD, upd_same, rfl, rfl, rfl⟩ (fun j σ H5 ys _ z0 => by obtain ⟨_, _, _, s5, _⟩ := z0; exact SqL.of (s5 p _ hp2)) ?_ ?_
  · rintro j x σ H5 ys hj ⟨v, PL, rfl, s5, hD5, rfl, hPl, hn⟩
    obtain ⟨w, hw, rfl⟩ := str_at hj
    have hjl : j < P.length := (List.getElem?_eq_some_iff.mp hw).1
    refine ⟨_, rfl, w, rfl, (by have := hP1 w (List.mem_of_getElem? hw); omega), fun hf pr H6 s6 => ?_, fun v hv e H6 he s6 => ?_⟩
    · refine ⟨s6 D _ hD5, (by rw [List.length_map]; exact small5000 (by omega)), _, PL ++ [pr], rfl, fun b o e => ?_, upd_same, by simp, by simp [hPl], fs_none hn hw hf⟩
      rw [upd_ne (ne_of_none e hD)]; exact s6 b _ (s5 b _ e)
    · exact q2 v (fs_some hn hw hv) e H6 he ((s0.trans s5).trans s6)
  · rintro σ H5 ys ⟨v, PL, rfl, s5, hD5, rfl, hPl, hn⟩
    rw [List.take_of_length_le (by simp)] at hn
    intro x dx hx hdx hne
    have sM : Same H5 (upd (upd H5 dx (.own x)) x (.ins C_AnyOf dx [])) := (Same.new hdx).trans (Same.new (by rw [upd_ne hne.symm]; exact hx))
    refine ⟨x, dx, D, PL, rfl, upd_same, sM D _ hD5, fun t H2 h2 ht kp => ⟨rfl, ?_⟩⟩
    exact q1 hn x H2 ⟨dx, _, h2⟩ ((s0.trans s5).trans (made_same hx hdx kp))
theorem ok__law_cell_at {f : Addr} {fd : FuncData} (F : Fun K "_law_cell_at" "_law_cell_at" s__law_cell_at f fd) (T : Txt K mg t_MOST_FIGURES t_FIGURES C_KeepError C_NoWord C_NoRule C_Rule C_LastFew C_OneOfEach C_Apart C_Sealed C_AnyOf)  : FnOk P w K mg base (CXx P w) 1 f fd ["_law_script", "_law_k"] (sp_cell K) := by
  refine F.okX sc__law_cell_at (fun vs H Q E h => ?_) (fun cdv A outer s H vs Q E hr h => ?_)
  · obtain ⟨a, ns, k, rfl, hS, q⟩ := h; rfl
  obtain ⟨a, ns, k, rfl, hS, q⟩ := h
  refine ⟨_, (pss_cons (ps_if (pt_cmpR op_lt (pv 1) (pe_callB call_len_seq (by rfl) T.b_len PySem.boot_len (pa_cons (pv 0) pa_nil)) (nomark _)) (pss_one (ps_ret (pe_ix ix_list (pv 0) (pv 1) (fun _ _ => rfl)))) pss_nil)
      (pss_one (ps_ret pe_int))), ?_⟩
  refine ⟨_, rfl, _, rfl, a, _, rfl, .inl hS, _, _, rfl, rfl, _, rfl, ?_⟩
  refine ite2 (fun h => ?_) (fun h => ?_)
  · have h : k < ns.length := by simpa using h
    refine ⟨_, rfl, _, rfl, a, _, _, V.int (ns.getD k 0), rfl, rfl, hS, atI_nat ?_, ?_⟩
    · simp [h]
    · have e : cellI ns k = ns.getD k 0 := by unfold cellI; rw [if_pos (by omega)]; rfl
      rw [e] at q; exact q
  · have h : ¬ k < ns.length := by simpa using h
    have e : cellI ns k = 0 := by unfold cellI; rw [if_neg (by omega)]
    rw [e] at q; exact q
theorem ok__law_whole {f : Addr} {fd : FuncData} (F : Fun K "_law_whole" "_law_whole" s__law_whole f fd) (T : Txt K mg t_MOST_FIGURES t_FIGURES C_KeepError C_NoWord C_NoRule C_Rule C_LastFew C_OneOfEach C_Apart C_Sealed C_AnyOf)  : FnOk P w K mg base (CXx P w) 1 f fd ["_law_found"] (sp_whole) := by
  refine F.okX sc__law_whole (fun vs H Q E h => ?_) (fun cdv A outer s H vs Q E hr h => ?_)
  · obtain ⟨n, rfl, q⟩ := h; rfl
  obtain ⟨n, rfl, q⟩ := h
  refine ⟨_, (pss_one (ps_ret (pe_and (pe_callB call_isinst (by rfl) T.b_isinstance PyProof.Rows.boot_isinstance (pa_cons (pv 0) (pa_cons (pe_bltn (v := .ty "int") rfl T.b_int PyProof.Rows.boot_int rfl) pa_nil))) (pe_one (pe_not (pe_callB call_isinst (by rfl) T.b_isinstance PyProof.Rows.boot_isinstance (pa_cons (pv 0) (pa_cons (pe_bltn (v := .ty "bool") rfl T.b_bool PyProof.Rows.boot_bool rfl) pa_nil)))))))), ?_⟩
  refine ⟨_, rfl, _, _, _, _, true, rfl, rfl, .int _, rfl, _, rfl, ?_⟩
  refine iteT ?_
  refine ⟨_, rfl, _, _, _, _, false, rfl, rfl, .int _, (by with_unfolding_all rfl), _, rfl, ?_⟩
  exact q
theorem ok__law_stream {f : Addr} {fd : FuncData} (F : Fun K "_law_stream" "_law_stream" s__law_stream f fd) (T : Txt K mg t_MOST_FIGURES t_FIGURES C_KeepError C_NoWord C_NoRule C_Rule C_LastFew C_OneOfEach C_Apart C_Sealed C_AnyOf)  : FnOk P w K mg base (CXx P w) 1 f fd ["_law_cell", "_law_many"] (sp_stream) := by
  refine F.okX sc__law_stream (fun vs H Q E h => ?_) (fun cdv A outer s H vs Q E hr h => ?_)
  · obtain ⟨c, m, rfl, hm, q⟩ := h; rfl
  obtain ⟨c, m, rfl, hm, q⟩ := h
  refine ⟨_, (pss_cons (ps_set (i := 2) sc__law_stream.nd rfl (Or.inl rfl) (pe_lst pa_nil))
      (pss_cons (ps_set (i := 3) sc__law_stream.nd rfl (Or.inl rfl) (pe_op op_mod (pv 0) pe_int))
      (pss_cons (ps_for PassesOwn.leaving rfl (pi_range1 rfl T.b_range (pa_cons (pv 1) pa_nil)) (pg_name (i := 4) sc__law_stream.nd rfl (Or.inl rfl))
      (pss_cons (ps_set (i := 3) sc__law_stream.nd rfl (Or.inl rfl) (pe_op op_mod (pe_op op_add (pe_op op_add (pe_op op_add (pe_op op_mul (pv 3) (pv 3)) (pe_op op_mul pe_int (pv 3))) (pe_op op_mul pe_int (pv 4))) pe_int) pe_int))
      (pss_one (ps_expr (pe_bm PySem.F.plainAttrs_list PySem.F.slot_list_append PySem.F.type_list_append mt_append (pv 2) (pa_cons (pv 3) pa_nil))))))
      (pss_one (ps_ret (pv 2)))))), ?_⟩
  refine ⟨Nat.zero_le _, fun l hl => ?_⟩
  refine ⟨_, rfl, _, _, rfl, rfl, (by first | decide | (dsimp only; decide)), ?_⟩
  refine ⟨_, rfl, _, rfl, by omega, by omega, for_range (lo := 0) (n := (m : Int).toNat) (fun i σ H2 => ∃ (num : Int) (v4 : Option V) (xs : List Int), σ = [some (.int c), some (.int (m : Int)), some (.ref l), some (.int num), v4] /\ Same H H2 /\ H2 l = some (.lst (xs.map V.int)) /\ xs.length = i /\ (∀ x ∈ xs, 0 ≤ x /\ x < 2147483647) /\ 0 ≤ num /\ num < 2147483647)
    ⟨c % 2147483647, none, [], rfl, Same.new hl, upd_same, rfl, by simp, by omega, by omega⟩ ?_ ?_⟩
  · rintro i σ H2 hi ⟨num, v4, xs, rfl, s2, h2, hlx, hx, n0, n1⟩
    refine ⟨_, rfl, _, rfl, _, _, rfl, rfl, .inl ⟨by omega, by omega⟩, _, rfl, _, _, rfl, rfl, .inl ⟨by decide, by decide⟩, _, _, rfl, rfl, _, rfl, _, _, rfl, rfl, .inl ⟨by decide, by decide⟩, _, _, rfl, rfl, _, _, rfl, rfl, _, _, rfl, rfl, (by first | decide | (dsimp only; decide)), ?_⟩
    refine ⟨_, rfl, .inl ⟨rfl, _, SqL.of h2⟩, _, rfl, l, _, _, rfl, rfl, h2, (by rw [List.length_map]; exact small1000 (by omega)), ?_⟩
    refine ⟨_, _, xs ++ [(num * num + 48271 * num + 7919 * (0 + (i : Int)) + 11) % 2147483647], rfl, fun b o e => ?_, by rw [upd_same]; simp, by simp [hlx], ?_, ?_, ?_⟩
    · rw [upd_ne (ne_of_none e hl)]; exact s2 b _ e
    · intro x hx'
      rcases List.mem_append.mp hx' with h | h
      · exact hx x h
      · have : x = (num * num + 48271 * num + 7919 * (0 + (i : Int)) + 11) % 2147483647 := by simpa using h
        rw [this]; exact ⟨Int.emod_nonneg _ (by decide), Int.emod_lt_of_pos _ (by decide)⟩
    · exact Int.emod_nonneg _ (by decide)
    · exact Int.emod_lt_of_pos _ (by decide)
  · rintro σ H2 ⟨num, v4, xs, rfl, s2, h2, hlx, hx, n0, n1⟩
    exact ⟨_, rfl, q l xs H2 h2 hl (by omega) hx s2⟩
theorem ok__law_word {f : Addr} {fd : FuncData} (F : Fun K "_law_word" "_law_word" s__law_word f fd) (T : Txt K mg t_MOST_FIGURES t_FIGURES C_KeepError C_NoWord C_NoRule C_Rule C_LastFew C_OneOfEach C_Apart C_Sealed C_AnyOf) (D__law_stream : DefX P w K mg base "_law_stream" 1 ["_law_cell", "_law_many"] sp_stream) : FnOk P w K mg base (CXx P w) 2 f fd ["_law_cell"] (sp_lword) := by
  refine F.okX sc__law_word (fun vs H Q E h => ?_) (fun cdv A outer s H vs Q E hr h => ?_)
  · obtain ⟨c, rfl, q⟩ := h; rfl
  obtain ⟨c, rfl, q⟩ := h
  refine ⟨_, (pss_cons (ps_set (i := 1) sc__law_word.nd rfl (Or.inl rfl) (pe_callS D__law_stream passesN (hr.mono (by decide)) rfl (pa_cons (pv 0) (pa_cons pe_int pa_nil))))
      (pss_cons (ps_set (i := 2) sc__law_word.nd rfl (Or.inl rfl) (pe_op op_add (pe_op op_mul (pe_op op_mul (pe_ix ix_list (pv 1) pe_int (fun _ _ => rfl)) pe_int) pe_int) (pe_ix ix_list (pv 1) pe_int (fun _ _ => rfl))))
      (pss_cons (ps_if (pt_cmpR op_eq (pe_op op_mod (pe_ix ix_list (pv 1) pe_int (fun _ _ => rfl)) pe_int) pe_int (nomark _)) (pss_one (ps_ret (pe_ix ix_list (pe_lst (pa_vals (vs := [V.str (PySem.Str.ofString ""), V.str (PySem.Str.ofString "-1"), V.str (PySem.Str.ofString "+1"), V.str (PySem.Str.ofString "0x"), V.str (PySem.Str.ofString "1.0"), V.str (PySem.Str.ofString "00"), V.str (PySem.Str.ofString "01"), V.str (PySem.Str.ofString "1e3"), V.str (PySem.Str.ofString "last"), V.str (PySem.Str.ofString "all"), V.str (PySem.Str.ofString "None"), V.str (PySem.Str.ofString "O")]) (by kernel_rfl))) (pe_op op_mod (pe_ix ix_list (pv 1) pe_int (fun _ _ => rfl)) pe_int) (fun _ _ => rfl)))) pss_nil)
      (pss_cons (ps_if (pt_cmpR op_eq (pe_op op_mod (pe_ix ix_list (pv 1) pe_int (fun _ _ => rfl)) pe_int) pe_int (nomark _)) (pss_one (ps_ret pe_str)) pss_nil)
      (pss_cons (ps_if (pt_cmpR op_eq (pe_op op_mod (pe_ix ix_list (pv 1) pe_int (fun _ _ => rfl)) pe_int) pe_int (nomark _)) (pss_one (ps_ret (pe_callTy call_str_int (by rfl) T.b_str PyProof.Rows.boot_str (pa_cons (pe_op op_mod (pv 2) (pe_powc (n := 100000000000000000000))) pa_nil)))) pss_nil)
      (pss_cons (ps_if (pt_cmpR op_eq (pe_op op_mod (pe_ix ix_list (pv 1) pe_int (fun _ _ => rfl)) pe_int) pe_int (nomark _)) (pss_one (ps_ret (pe_callTy call_str_int (by rfl) T.b_str PyProof.Rows.boot_str (pa_cons (pe_op op_add (pe_powc (n := 10000000000000000000)) (pe_op op_mod (pv 2) (pe_op op_mul pe_int (pe_powc (n := 100000000000000000000))))) pa_nil)))) pss_nil)
      (pss_one (ps_ret (pe_callTy call_str_int (by rfl) T.b_str PyProof.Rows.boot_str (pa_cons (pe_op op_mod (pe_ix ix_list (pv 1) pe_int (fun _ _ => rfl)) (pe_ix ix_list (pe_lst (pa_cons pe_int (pa_cons pe_int pa_nil))) (pe_op op_mod (pe_ix ix_list (pv 1) pe_int (fun _ _ => rfl)) pe_int) (fun _ _ => rfl))) pa_nil)))))))))), ?_⟩
  refine ⟨_, rfl, c, 4, rfl, by omega, fun l xs H1 h1 hl1 hlen hx s1 => ?_⟩
  obtain ⟨x0, e0, m0⟩ := get_at (xs := xs) (j := 0) (by omega)
  obtain ⟨x1, e1, m1⟩ := get_at (xs := xs) (j := 1) (by omega)
  obtain ⟨x2, e2, m2⟩ := get_at (xs := xs) (j := 2) (by omega)
  obtain ⟨x3, e3, m3⟩ := get_at (xs := xs) (j := 3) (by omega)
  have b1 := hx x1 m1
  have b2 := hx x2 m2
  refine ⟨_, rfl, l, _, _, V.int x1, rfl, rfl, SqL.of h1, atI_nat (j := 1) e1, _, _, rfl, rfl, .inl ⟨by omega, by omega⟩, _, _, rfl, rfl, .inr ⟨by decide, by decide⟩, _, rfl, l, _, _, V.int x2, rfl, rfl, SqL.of h1, atI_nat (j := 2) e2, _, _, rfl, rfl, ?_⟩
  refine ⟨_, rfl, l, _, _, V.int x0, rfl, rfl, SqL.of h1, atI_nat (j := 0) e0, _, _, rfl, rfl, (by first | decide | (dsimp only; decide)), rfl, _, rfl, ?_⟩
  refine ite2 (fun h => ?_) (fun h => ?_)
  · obtain ⟨w, hw, hl⟩ := pickS (ws := [Str.ofString "", Str.ofString "-1", Str.ofString "+1", Str.ofString "0x", Str.ofString "1.0", Str.ofString "00", Str.ofString "01", Str.ofString "1e3", Str.ofString "last", Str.ofString "all", Str.ofString "None", Str.ofString "O"]) (m := 12) (n := 6) x1 rfl (by decide) (by decide +kernel)
    refine ⟨(by show 12 ≤ sizeLine; decide), fun m hm => ?_⟩
    exact ⟨_, rfl, l, _, _, V.int x1, rfl, rfl, SqL.of (Same.new hm l _ h1), atI_nat (j := 1) e1, _, _, rfl, rfl, (by first | decide | (dsimp only; decide)), m, _, _, V.str w, rfl, rfl, SqL.of upd_same, hw, q w _ (by omega) (s1.trans (Same.new hm))⟩
  refine ⟨_, rfl, l, _, _, V.int x0, rfl, rfl, SqL.of h1, atI_nat (j := 0) e0, _, _, rfl, rfl, (by first | decide | (dsimp only; decide)), rfl, _, rfl, ?_⟩
  refine ite2 (fun h => ?_) (fun h => ?_)
  · exact q _ H1 (by decide +kernel) s1
  refine ⟨_, rfl, l, _, _, V.int x0, rfl, rfl, SqL.of h1, atI_nat (j := 0) e0, _, _, rfl, rfl, (by first | decide | (dsimp only; decide)), rfl, _, rfl, ?_⟩
  refine ite2 (fun h => ?_) (fun h => ?_)
  · obtain ⟨k1, k2⟩ := num_ok (n := (x1 * 8589934592 * 8589934592 + x2) % 100000000000000000000) (Int.emod_nonneg _ (by decide)) (Int.lt_trans (Int.emod_lt_of_pos _ (by decide)) (by decide))
    exact ⟨_, rfl, _, _, rfl, rfl, (by first | decide | (dsimp only; decide)), (x1 * 8589934592 * 8589934592 + x2) % 100000000000000000000, rfl, k1, q _ H1 k2 s1⟩
  refine ⟨_, rfl, l, _, _, V.int x0, rfl, rfl, SqL.of h1, atI_nat (j := 0) e0, _, _, rfl, rfl, (by first | decide | (dsimp only; decide)), rfl, _, rfl, ?_⟩
  refine ite2 (fun h => ?_) (fun h => ?_)
  · have a0 : 0 ≤ (x1 * 8589934592 * 8589934592 + x2) % (2 * 100000000000000000000) := Int.emod_nonneg _ (by decide)
    have a1 : (x1 * 8589934592 * 8589934592 + x2) % (2 * 100000000000000000000) < 2 * 100000000000000000000 := Int.emod_lt_of_pos _ (by decide)
    obtain ⟨k1, k2⟩ := num_ok (n := 10000000000000000000 + (x1 * 8589934592 * 8589934592 + x2) % (2 * 100000000000000000000)) (by omega) (by omega)
    exact ⟨_, rfl, _, _, rfl, rfl, .inl ⟨by decide, by decide⟩, _, _, rfl, rfl, (by first | decide | (dsimp only; decide)), _, _, rfl, rfl, 10000000000000000000 + (x1 * 8589934592 * 8589934592 + x2) % (2 * 100000000000000000000), rfl, k1, q _ H1 k2 s1⟩
  refine ⟨_, rfl, l, _, _, V.int x2, rfl, rfl, SqL.of h1, atI_nat (j := 2) e2, (by show 2 ≤ sizeLine; decide), fun m hm => ?_⟩
  obtain ⟨v, hv, v0⟩ : ∃ v : Int, atI [V.int 12, V.int 1000] (x3 % 2) = some (V.int v) /\ 0 < v /\ v ≤ 1000 := by
    rcases (show x3 % 2 = 0 ∨ x3 % 2 = 1 by omega) with h | h <;> rw [h]
    · exact ⟨12, rfl, by decide, by decide⟩
    · exact ⟨1000, rfl, by decide, by decide⟩
  have a0 : 0 ≤ x2 % v := Int.emod_nonneg _ (by omega)
  have a1 : x2 % v < v := Int.emod_lt_of_pos _ v0.1
  obtain ⟨k1, k2⟩ := num_ok (n := x2 % v) a0 (by omega)
  exact ⟨_, rfl, l, _, _, V.int x3, rfl, rfl, SqL.of (Same.new hm l _ h1), atI_nat (j := 3) e3, _, _, rfl, rfl, (by first | decide | (dsimp only; decide)), m, _, _, V.int v, rfl, rfl, SqL.of upd_same, hv, _, _, rfl, rfl, v0.1, x2 % v, rfl, k1, q _ _ k2 (s1.trans (Same.new hm))⟩
theorem ok__law_part {f : Addr} {fd : FuncData} (F : Fun K "_law_part" "_law_part" s__law_part f fd) (T : Txt K mg t_MOST_FIGURES t_FIGURES C_KeepError C_NoWord C_NoRule C_Rule C_LastFew C_OneOfEach C_Apart C_Sealed C_AnyOf) (D__law_stream : DefX P w K mg base "_law_stream" 1 ["_law_cell", "_law_many"] sp_stream) (D__law_word : DefX P w K mg base "_law_word" 2 ["_law_cell"] sp_lword) : FnOk P w K mg base (CXx P w) 3 f fd ["_law_cell"] (sp_lpart) := by
  refine F.okX sc__law_part (fun vs H Q E h => ?_) (fun cdv A outer s H vs Q E hr h => ?_)
  · obtain ⟨c, rfl, q⟩ := h; rfl
  obtain ⟨c, rfl, q⟩ := h
  refine ⟨_, (pss_cons (ps_set (i := 1) sc__law_part.nd rfl (Or.inr rfl) (pe_callS D__law_stream passesN (hr.mono (by decide)) rfl (pa_cons (pv 0) (pa_cons pe_int pa_nil))))
      (pss_cons (ps_set (i := 2) sc__law_part.nd rfl (Or.inl rfl) (pe_ix ix_list (pe_lst (pa_vals (vs := [V.str (PySem.Str.ofString "last"), V.str (PySem.Str.ofString "each"), V.str (PySem.Str.ofString "apart"), V.str (PySem.Str.ofString "sealed")]) (by kernel_rfl))) (pe_op op_mod (pe_ix ix_list (pv 1) pe_int (fun _ _ => rfl)) pe_int) (fun _ _ => rfl)))
      (pss_cons (ps_if (pt_cmpR op_eq (pe_op op_mod (pe_ix ix_list (pv 1) pe_int (fun _ _ => rfl)) pe_int) pe_int (nomark _)) (pss_one (ps_set (i := 2) sc__law_part.nd rfl (Or.inl rfl) (pe_ix ix_list (pe_lst (pa_vals (vs := [V.str (PySem.Str.ofString "Last"), V.str (PySem.Str.ofString "EACH"), V.str (PySem.Str.ofString "seal"), V.str (PySem.Str.ofString ""), V.str (PySem.Str.ofString "apart "), V.str (PySem.Str.ofString "lasts"), V.str (PySem.Str.ofString "any"), V.str (PySem.Str.ofString "each,")]) (by kernel_rfl))) (pe_op op_mod (pe_ix ix_list (pv 1) pe_int (fun _ _ => rfl)) pe_int) (fun _ _ => rfl)))) pss_nil)
      (pss_cons (ps_set (i := 3) sc__law_part.nd rfl (Or.inl rfl) (pe_ix ix_list (pe_lst (pa_vals (vs := [V.int 1, V.int 1, V.int 2, V.int 0, V.int 3]) (by kernel_rfl))) (pe_op op_mod (pe_ix ix_list (pv 1) pe_int (fun _ _ => rfl)) pe_int) (fun _ _ => rfl)))
      (pss_one (ps_ret (pe_bm PySem.F.plainAttrs_str PySem.F.slot_str_join PySem.F.type_str_join mt_join pe_str (pa_cons (pe_op op_cat (pe_lst (pa_cons (pv 2) pa_nil)) (pe_comp (N := ["_law_k", "_law_xs"]) (k := 1) (cap := [1]) rfl rfl (pi_range1 rfl T.b_range (pa_cons (pv 3) pa_nil)) (fun _ _ _ _ => (pg_name (i := 0) (show (["_law_k", "_law_xs"] : List Str).Nodup from by decide +kernel) rfl (Or.inl rfl) (.inr rfl))) (fun _ _ _ _ => pts_nil) (fun _ _ _ _ => (pe_callS D__law_word passesN (hr.mono (by decide)) rfl (pa_cons (pe_ix (ix_listK (K := K) rfl) (pv 1) (pe_op op_add pe_int (pv 0)) (fun _ _ => rfl)) pa_nil))))) pa_nil)))))))), ?_⟩
  refine ⟨_, rfl, c, 8, rfl, by omega, fun l xs H1 h1 hl1 hlen hx s1 => ?_⟩
  obtain ⟨x0, e0, m0⟩ := get_at (xs := xs) (j := 0) (by omega)
  obtain ⟨x1, e1, m1⟩ := get_at (xs := xs) (j := 1) (by omega)
  obtain ⟨x2, e2, m2⟩ := get_at (xs := xs) (j := 2) (by omega)
  obtain ⟨x3, e3, m3⟩ := get_at (xs := xs) (j := 3) (by omega)
  obtain ⟨w, hw, hl⟩ := pickS (ws := [Str.ofString "last", Str.ofString "each", Str.ofString "apart", Str.ofString "sealed"]) (m := 4) (n := 6) x0 rfl (by decide) (by decide +kernel)
  refine ⟨(by show 4 ≤ sizeLine; decide), fun m hm => ?_⟩
  have s2 := Same.new (o := .lst [V.str (Str.ofString "last"), V.str (Str.ofString "each"), V.str (Str.ofString "apart"), V.str (Str.ofString "sealed")]) hm
  refine ⟨_, rfl, l, _, _, V.int x0, rfl, rfl, SqL.of (s2 l _ h1), atI_nat (j := 0) e0, _, _, rfl, rfl, (by first | decide | (dsimp only; decide)), m, _, _, V.str w, rfl, rfl, SqL.of upd_same, hw, ?_⟩
  dsimp only [gName]
  refine qcut (fun σ H3 => ∃ w : Str, w.length ≤ 6 /\ σ = [some (.int c), some (.ref l), some (.str w), none] /\ Same H1 H3) (fun N hN => ?_) ?_
  · refine ⟨_, rfl, l, _, _, V.int x1, rfl, rfl, SqL.of (s2 l _ h1), atI_nat (j := 1) e1, _, _, rfl, rfl, (by first | decide | (dsimp only; decide)), rfl, _, rfl, ?_⟩
    refine ite2 (fun h => ?_) (fun h => ?_)
    · obtain ⟨w2, hw2, hl2⟩ := pickS (ws := [Str.ofString "Last", Str.ofString "EACH", Str.ofString "seal", Str.ofString "", Str.ofString "apart ", Str.ofString "lasts", Str.ofString "any", Str.ofString "each,"]) (m := 8) (n := 6) x2 rfl (by decide) (by decide +kernel)
      refine ⟨(by show 8 ≤ sizeLine; decide), fun m2 hm2 => ?_⟩
      have s3 := s2.trans (Same.new (o := .lst [V.str (Str.ofString "Last"), V.str (Str.ofString "EACH"), V.str (Str.ofString "seal"), V.str (Str.ofString ""), V.str (Str.ofString "apart "), V.str (Str.ofString "lasts"), V.str (Str.ofString "any"), V.str (Str.ofString "each,")]) hm2)
      exact ⟨_, rfl, l, _, _, V.int x2, rfl, rfl, SqL.of (s3 l _ h1), atI_nat (j := 2) e2, _, _, rfl, rfl, (by first | decide | (dsimp only; decide)), m2, _, _, V.str w2, rfl, rfl, SqL.of upd_same, hw2, hN _ _ ⟨w2, hl2, rfl, s3⟩⟩
    · exact hN _ _ ⟨w, hl, rfl, s2⟩
  rintro σ H3 ⟨w, hl, rfl, s3⟩
  obtain ⟨k, hk, k3⟩ : ∃ k : Nat, atI [V.int 1, V.int 1, V.int 2, V.int 0, V.int 3] (x3 % 5) = some (V.int (k : Int)) /\ k ≤ 3 := by
    rcases (show x3 % 5 = 0 ∨ x3 % 5 = 1 ∨ x3 % 5 = 2 ∨ x3 % 5 = 3 ∨ x3 % 5 = 4 by omega) with h | h | h | h | h <;> rw [h]
    · exact ⟨1, rfl, by decide⟩
    · exact ⟨1, rfl, by decide⟩
    · exact ⟨2, rfl, by decide⟩
    · exact ⟨0, rfl, by decide⟩
    · exact ⟨3, rfl, by decide⟩
  refine ⟨(by show 5 ≤ sizeLine; decide), fun m2 hm2 => ?_⟩
  have s4 := s3.trans (Same.new (o := .lst [V.int 1, V.int 1, V.int 2, V.int 0, V.int 3]) hm2)
  refine ⟨_, rfl, l, _, _, V.int x3, rfl, rfl, SqL.of (s4 l _ h1), atI_nat (j := 3) e3, _, _, rfl, rfl, (by first | decide | (dsimp only; decide)), m2, _, _, V.int (k : Int), rfl, rfl, SqL.of upd_same, hk, ?_⟩
  generalize upd H3 m2 (.lst [V.int 1, V.int 1, V.int 2, V.int 0, V.int 3]) = H4 at s4
  refine ⟨rfl, _, rfl, (by show 1 ≤ sizeLine; decide), fun d hd => ?_⟩
  have s5 := s4.trans (Same.new (o := .lst [V.str w]) hd)
  have hd5 : upd H4 d (.lst [V.str w]) d = some (.lst [V.str w]) := upd_same
  generalize upd H4 d (.lst [V.str w]) = H5 at s5 hd5
  refine ⟨_, rfl, (k : Int), rfl, by omega, by omega, fun D hD => ?_⟩
  refine comp_range (lo := 0) (n := (k : Int).toNat) D (fun i σ H6 ys => ∃ (v : Option V) (ws : List Str), σ = [v, some (.ref l)] /\ Same H5 H6 /\ H6 D = some (.lst ys) /\ ys = ws.map V.str /\ ws.length = i /\ ∀ w ∈ ws, w.length ≤ 30) ⟨none, [], rfl, Same.new hD, upd_same, rfl, rfl, by simp⟩ ?_ ?_
  · rintro i σ H6 ys hi ⟨v, ws, rfl, s6, hD6, rfl, hwl, hw30⟩
    obtain ⟨y, ey, my⟩ := get_at (xs := xs) (j := 4 + i) (by omega)
    have ea : atI (xs.map V.int) (4 + (0 + (i : Int))) = some (V.int y) := (congrArg (atI (xs.map V.int)) (show 4 + (0 + (i : Int)) = ((4 + i : Nat) : Int) by omega)).trans (atI_nat ey)
    refine ⟨_, rfl, _, rfl, _, _, rfl, rfl, l, _, _, V.int y, rfl, rfl, SqL.of (s6 l _ (s5 l _ h1)), ea, y, rfl, fun u H7 hu s7 => ?_⟩
    refine ⟨s7 D _ hD6, (by rw [List.length_map]; exact small5000 (by omega)), _, ws ++ [u], rfl, fun b o e => ?_, upd_same, by simp, by simp [hwl], fun w hw => ?_⟩
    · rw [upd_ne (ne_of_none e hD)]; exact s7 b _ (s6 b _ e)
    · rcases List.mem_append.mp hw with h | h
      · exact hw30 w h
      · rw [List.mem_singleton.mp h]; exact hu
  · rintro σ H6 ys ⟨v, ws, rfl, s6, hD6, rfl, hwl, hw30⟩
    refine ⟨d, D, _, _, rfl, rfl, s6 d _ hd5, hD6, (by rw [List.length_map]; exact big5 (by simp; omega)), fun pj hpj => ?_⟩
    have all30 : ∀ u ∈ w :: ws, u.length ≤ 30 := fun u hu => by
      rcases List.mem_cons.mp hu with rfl | h
      · omega
      · exact hw30 u h
    have g1 := lens_sumZ all30
    have g2 := join_lenZ (z := Str.ofString " ") all30
    have g3 : (Str.ofString " ").length = 1 := by decide +kernel
    have g4 : (w :: ws).length ≤ 4 := by rw [List.length_cons]; omega
    refine ⟨_, pj, w :: ws, rfl, rfl, SqL.of upd_same, (by rw [g3]; omega), q _ _ (by rw [g3] at g2; omega) ((s1.trans s5).trans (s6.trans (Same.new hpj)))⟩
theorem ok__law_sign {f : Addr} {fd : FuncData} (F : Fun K "_law_sign" "_law_sign" s__law_sign f fd) (T : Txt K mg t_MOST_FIGURES t_FIGURES C_KeepError C_NoWord C_NoRule C_Rule C_LastFew C_OneOfEach C_Apart C_Sealed C_AnyOf)  : FnOk P w K mg base (CXx P w) 1 f fd ["_law_cell"] (sp_sign) := by
  refine F.okX sc__law_sign (fun vs H Q E h => ?_) (fun cdv A outer s H vs Q E hr h => ?_)
  · obtain ⟨n, rfl, q⟩ := h; rfl
  obtain ⟨n, rfl, q⟩ := h
  refine ⟨_, (pss_cons (ps_set (i := 1) sc__law_sign.nd rfl (Or.inl rfl) pe_str)
      (pss_cons (ps_set (i := 1) sc__law_sign.nd rfl (Or.inl rfl) (pe_op op_add_str (pv 1) pe_str))
      (pss_one (ps_ret (pe_ix ix_str (pv 1) (pe_op op_mod (pv 0) (pe_callB call_len_str (by rfl) T.b_len PySem.boot_len (pa_cons (pv 1) pa_nil))) (fun _ _ => rfl)))))), ?_⟩
  refine ⟨_, rfl, _, _, rfl, rfl, by decide +kernel, ?_⟩
  generalize hS : (Str.ofString " !\"#$&'()*+,-./0123456789:;<=>?@ABCDEFGHIJKLMNOPQRSTUVWXYZ[\\]^_`" ++ Str.ofString "abcdefghijklmnopqrstuvwxyz{|}~,,  00") = S
  have hl : S.length = 100 := by rw [← hS]; decide +kernel
  have h0 : 0 ≤ n % 100 := by omega
  have h1 : n % 100 < 100 := by omega
  have hj : (n % 100).toNat < S.cps.toList.length := by rw [str_len]; omega
  refine ⟨_, rfl, _, rfl, _, rfl, S, rfl, (by rw [hl]; decide), n, 100, rfl, (by show V.int (S.length : Int) = _; rw [hl]; rfl), (show (0 : Int) < 100 by decide), S, n % 100, S.cps.toList[(n % 100).toNat], rfl, rfl, by rw [hl]; decide, ?_, q _⟩
  · have e : n % 100 = (((n % 100).toNat : Nat) : Int) := by omega
    exact (congrArg (atI S.cps.toList) e).trans (atI_nat (List.getElem?_eq_getElem hj))
theorem ok__law_spoilt {f : Addr} {fd : FuncData} (F : Fun K "_law_spoilt" "_law_spoilt" s__law_spoilt f fd) (T : Txt K mg t_MOST_FIGURES t_FIGURES C_KeepError C_NoWord C_NoRule C_Rule C_LastFew C_OneOfEach C_Apart C_Sealed C_AnyOf) (D__law_stream : DefX P w K mg base "_law_stream" 1 ["_law_cell", "_law_many"] sp_stream) (D__law_sign : DefX P w K mg base "_law_sign" 1 ["_law_cell"] sp_sign) : FnOk P w K mg base (CXx P w) 2 f fd ["_law_text", "_law_cell"] (sp_spoilt) := by
  refine F.okX sc__law_spoilt (fun vs H Q E h => ?_) (fun cdv A outer s H vs Q E hr h => ?_)
  · obtain ⟨z, n, rfl, hz, q⟩ := h; rfl
  obtain ⟨z, n, rfl, hz, q⟩ := h
  refine ⟨_, (pss_cons (ps_set (i := 2) sc__law_spoilt.nd rfl (Or.inl rfl) (pe_callS D__law_stream passesN (hr.mono (by decide)) rfl (pa_cons (pv 1) (pa_cons pe_int pa_nil))))
      (pss_cons (ps_set (i := 3) sc__law_spoilt.nd rfl (Or.inl rfl) (pe_op op_mod (pe_ix ix_list (pv 2) pe_int (fun _ _ => rfl)) (pe_op op_add (pe_callB call_len_str (by rfl) T.b_len PySem.boot_len (pa_cons (pv 0) pa_nil)) pe_int)))
      (pss_cons (ps_if (pt_cmpR op_eq (pe_op op_mod (pe_ix ix_list (pv 2) pe_int (fun _ _ => rfl)) pe_int) pe_int (nomark _)) (pss_one (ps_ret (pe_op op_add_str (pe_op op_add_str (pe_slice sl_str (pv 0) po_none (po_some (pv 3))) (pe_callS D__law_sign passesN (hr.mono (by decide)) rfl (pa_cons (pe_ix ix_list (pv 2) pe_int (fun _ _ => rfl)) pa_nil))) (pe_slice sl_str (pv 0) (po_some (pv 3)) po_none)))) pss_nil)
      (pss_cons (ps_if (pt_cmpR op_eq (pe_op op_mod (pe_ix ix_list (pv 2) pe_int (fun _ _ => rfl)) pe_int) pe_int (nomark _)) (pss_one (ps_ret (pe_op op_add_str (pe_slice sl_str (pv 0) po_none (po_some (pv 3))) (pe_slice sl_str (pv 0) (po_some (pe_op op_add (pv 3) pe_int)) po_none)))) pss_nil)
      (pss_cons (ps_if (pt_cmpR op_eq (pe_op op_mod (pe_ix ix_list (pv 2) pe_int (fun _ _ => rfl)) pe_int) pe_int (nomark _)) (pss_one (ps_ret (pe_op op_add_str (pe_op op_add_str (pe_slice sl_str (pv 0) po_none (po_some (pv 3))) (pe_callS D__law_sign passesN (hr.mono (by decide)) rfl (pa_cons (pe_ix ix_list (pv 2) pe_int (fun _ _ => rfl)) pa_nil))) (pe_slice sl_str (pv 0) (po_some (pe_op op_add (pv 3) pe_int)) po_none)))) pss_nil)
      (pss_cons (ps_if (pt_cmpR op_eq (pe_op op_mod (pe_ix ix_list (pv 2) pe_int (fun _ _ => rfl)) pe_int) pe_int (nomark _)) (pss_one (ps_ret (pe_op op_add_str (pe_op op_add_str (pe_slice sl_str (pv 0) po_none (po_some (pv 3))) (pe_slice sl_str (pv 0) (po_some (pv 3)) (po_some (pe_op op_add (pv 3) pe_int)))) (pe_slice sl_str (pv 0) (po_some (pv 3)) po_none)))) pss_nil)
      (pss_cons (ps_if (PW.pt (pw_and (pt_cmpR op_eq (pe_op op_mod (pe_ix ix_list (pv 2) pe_int (fun _ _ => rfl)) pe_int) pe_int (nomark _)) (pw_and1 (pt_cmpR op_eq (pe_op op_mod (pe_ix ix_list (pv 2) pe_int (fun _ _ => rfl)) pe_int) pe_int (nomark _))))) (pss_one (ps_ret (pe_ix ix_list (pe_lst (pa_cons (pe_op op_add_str (pv 0) pe_str) (pa_cons (pe_op op_add_str pe_str (pv 0)) pa_nil))) (pe_op op_mod (pe_ix ix_list (pv 2) pe_int (fun _ _ => rfl)) pe_int) (fun _ _ => rfl)))) pss_nil)
      (pss_one (ps_ret (pv 0)))))))))), ?_⟩
  refine ⟨_, rfl, n, 4, rfl, by omega, fun l xs H1 h1 hl1 hlen hx s1 => ?_⟩
  obtain ⟨x0, e0, m0⟩ := get_at (xs := xs) (j := 0) (by omega)
  obtain ⟨x1, e1, m1⟩ := get_at (xs := xs) (j := 1) (by omega)
  obtain ⟨x2, e2, m2⟩ := get_at (xs := xs) (j := 2) (by omega)
  obtain ⟨x3, e3, m3⟩ := get_at (xs := xs) (j := 3) (by omega)
  have hzl : z.length ≤ sizeLine := big5 (by omega)
  refine ⟨_, rfl, l, _, _, V.int x1, rfl, rfl, SqL.of h1, atI_nat (j := 1) e1, _, rfl, z, rfl, hzl, _, _, rfl, rfl, _, _, rfl, rfl, (by show (0 : Int) < (z.length : Int) + 1; omega), ?_⟩
  have sl := fun a b => sl_le z a b
  have al : ∀ a b : Str, (a ++ b).length = a.length + b.length := str_add_len
  refine ⟨_, rfl, l, _, _, V.int x0, rfl, rfl, SqL.of h1, atI_nat (j := 0) e0, _, _, rfl, rfl, (by first | decide | (dsimp only; decide)), rfl, _, rfl, ?_⟩
  refine ite2 (fun h => ?_) (fun h => ?_)
  · have g1 := sl none (some (x1 % ((z.length : Int) + 1)))
    have g2 := sl (some (x1 % ((z.length : Int) + 1))) none
    refine ⟨_, rfl, _, rfl, (x1 % ((z.length : Int) + 1)), rfl, z, rfl, hzl, _, rfl, l, _, _, V.int x2, rfl, rfl, SqL.of h1, atI_nat (j := 2) e2, x2, rfl, fun sg => ?_⟩
    have g3 : (⟨#[sg]⟩ : Str).length = 1 := rfl
    refine ⟨_, _, rfl, rfl, big5 (by omega), _, rfl, _, rfl, (x1 % ((z.length : Int) + 1)), rfl, z, rfl, hzl, _, _, rfl, rfl, big5 (by rw [al]; omega), q _ H1 (by rw [al, al]; omega) s1⟩
  refine ⟨_, rfl, l, _, _, V.int x0, rfl, rfl, SqL.of h1, atI_nat (j := 0) e0, _, _, rfl, rfl, (by first | decide | (dsimp only; decide)), rfl, _, rfl, ?_⟩
  refine ite2 (fun h => ?_) (fun h => ?_)
  · have g1 := sl none (some (x1 % ((z.length : Int) + 1)))
    have g2 := sl (some ((x1 % ((z.length : Int) + 1)) + 1)) none
    exact ⟨_, rfl, _, rfl, (x1 % ((z.length : Int) + 1)), rfl, z, rfl, hzl, _, rfl, _, rfl, _, _, rfl, rfl, (x1 % ((z.length : Int) + 1)) + 1, rfl, z, rfl, hzl, _, _, rfl, rfl, big5 (by omega), q _ H1 (by rw [al]; omega) s1⟩
  refine ⟨_, rfl, l, _, _, V.int x0, rfl, rfl, SqL.of h1, atI_nat (j := 0) e0, _, _, rfl, rfl, (by first | decide | (dsimp only; decide)), rfl, _, rfl, ?_⟩
  refine ite2 (fun h => ?_) (fun h => ?_)
  · have g1 := sl none (some (x1 % ((z.length : Int) + 1)))
    have g2 := sl (some ((x1 % ((z.length : Int) + 1)) + 1)) none
    refine ⟨_, rfl, _, rfl, (x1 % ((z.length : Int) + 1)), rfl, z, rfl, hzl, _, rfl, l, _, _, V.int x2, rfl, rfl, SqL.of h1, atI_nat (j := 2) e2, x2, rfl, fun sg => ?_⟩
    have g3 : (⟨#[sg]⟩ : Str).length = 1 := rfl
    refine ⟨_, _, rfl, rfl, big5 (by omega), _, rfl, _, rfl, _, _, rfl, rfl, (x1 % ((z.length : Int) + 1)) + 1, rfl, z, rfl, hzl, _, _, rfl, rfl, big5 (by rw [al]; omega), q _ H1 (by rw [al, al]; omega) s1⟩
  refine ⟨_, rfl, l, _, _, V.int x0, rfl, rfl, SqL.of h1, atI_nat (j := 0) e0, _, _, rfl, rfl, (by first | decide | (dsimp only; decide)), rfl, _, rfl, ?_⟩
  refine ite2 (fun h => ?_) (fun h => ?_)
  · have g1 := sl none (some (x1 % ((z.length : Int) + 1)))
    have g2 := sl (some (x1 % ((z.length : Int) + 1))) (some ((x1 % ((z.length : Int) + 1)) + 1))
    have g3 := sl (some (x1 % ((z.length : Int) + 1))) none
    exact ⟨_, rfl, _, rfl, (x1 % ((z.length : Int) + 1)), rfl, z, rfl, hzl, _, rfl, _, rfl, (x1 % ((z.length : Int) + 1)), rfl, _, rfl, _, _, rfl, rfl, (x1 % ((z.length : Int) + 1)) + 1, rfl, z, rfl, hzl, _, _, rfl, rfl, big5 (by omega), _, rfl, _, rfl, (x1 % ((z.length : Int) + 1)), rfl, z, rfl, hzl, _, _, rfl, rfl, big5 (by rw [al]; omega), q _ H1 (by rw [al, al]; omega) s1⟩
  refine ⟨_, rfl, l, _, _, V.int x0, rfl, rfl, SqL.of h1, atI_nat (j := 0) e0, _, _, rfl, rfl, (by first | decide | (dsimp only; decide)), rfl, _, rfl, ?_⟩
  refine ite2 (fun h => ?_) (fun h => ?_)
  · refine ⟨_, rfl, l, _, _, V.int x3, rfl, rfl, SqL.of h1, atI_nat (j := 3) e3, _, _, rfl, rfl, (by first | decide | (dsimp only; decide)), rfl, _, rfl, ?_⟩
    refine ite2 (fun h => ?_) (fun h => ?_)
    · have g4 : (Str.ofString ", ").length = 2 := by decide +kernel
      refine ⟨_, rfl, _, _, rfl, rfl, big5 (by omega), _, rfl, _, _, rfl, rfl, big5 (by omega), (by show 2 ≤ sizeLine; decide), fun m hm => ?_⟩
      obtain ⟨y, hy, yl⟩ : ∃ y : Str, atI [V.str (z ++ Str.ofString ", "), V.str (Str.ofString ", " ++ z)] (x2 % 2) = some (V.str y) /\ y.length ≤ z.length + 2 := by
        rcases (show x2 % 2 = 0 ∨ x2 % 2 = 1 by omega) with h | h <;> rw [h]
        · exact ⟨_, rfl, by rw [al]; omega⟩
        · exact ⟨_, rfl, by rw [al]; omega⟩
      exact ⟨_, rfl, l, _, _, V.int x2, rfl, rfl, SqL.of (Same.new hm l _ h1), atI_nat (j := 2) e2, _, _, rfl, rfl, (by first | decide | (dsimp only; decide)), m, _, _, V.str y, rfl, rfl, SqL.of upd_same, hy, q _ _ (by omega) (s1.trans (Same.new hm))⟩
    · exact ⟨_, rfl, q z H1 (by omega) s1⟩
  refine iteF ?_
  exact ⟨_, rfl, q z H1 (by omega) s1⟩
theorem ok__law_value {f : Addr} {fd : FuncData} (F : Fun K "_law_value" "_law_value" s__law_value f fd) (T : Txt K mg t_MOST_FIGURES t_FIGURES C_KeepError C_NoWord C_NoRule C_Rule C_LastFew C_OneOfEach C_Apart C_Sealed C_AnyOf)  : FnOk P w K mg base (CXx P w) 1 f fd ["_law_word_here"] (sp_value) := by
  refine F.okX sc__law_value (fun vs H Q E h => ?_) (fun cdv A outer s H vs Q E hr h => ?_)
  · obtain ⟨z, rfl, hz, q⟩ := h; rfl
  obtain ⟨z, rfl, hz, q⟩ := h
  refine ⟨_, (pss_cons (ps_if (PW.pt (pw_or (pt_cmpR op_eq (pv 0) pe_str (nomark _)) (pw_or (pt_cmpR op_gt (pe_callB call_len_str (by rfl) T.b_len PySem.boot_len (pa_cons (pv 0) pa_nil)) pe_int (nomark _)) (pw_or1 (PW.pt (pw_and (pt_cmpR op_eq (pe_ix ix_str (pv 0) pe_int (fun _ _ => rfl)) pe_str (nomark _)) (pw_and1 (pt_cmpR op_gt (pe_callB call_len_str (by rfl) T.b_len PySem.boot_len (pa_cons (pv 0) pa_nil)) pe_int (nomark _))))))))) (pss_one (ps_ret (pe_un un_neg pe_int))) pss_nil)
      (pss_cons (ps_for PassesOwn.leaving rfl (pi_str (pv 0)) (pg_name (i := 1) sc__law_value.nd rfl (Or.inl rfl))
      (pss_one (ps_if (pt_cmpR op_notin_str (pv 1) pe_str (by with_unfolding_all rfl)) (pss_one (ps_ret (pe_un un_neg pe_int))) pss_nil)))
      (pss_one (ps_ret (pe_callTy call_int_str (by rfl) T.b_int PyProof.Rows.boot_int (pa_cons (pv 0) pa_nil)))))), ?_⟩
  have hzl : z.length ≤ sizeLine := big5 (by omega)
  refine ⟨_, rfl, rfl, _, rfl, ?_⟩
  by_cases h0 : z = Str.ofString ""
  · subst h0
    refine iteY rfl ?_
    refine iteT ?_
    exact ⟨1, rfl, q⟩
  have h1 : 1 ≤ z.length := by
    rcases Nat.eq_zero_or_pos z.length with h | h
    · have e : z.cps.toList = [] := List.eq_nil_of_length_eq_zero (by rw [str_len]; exact h)
      exact absurd (str_ext (e.trans (by decide +kernel : ([] : List Nat) = (Str.ofString "").cps.toList))) h0
    · exact h
  refine iteN (fun h => h0 (V.str.inj h)) ?_
  refine ⟨_, rfl, z, rfl, hzl, _, _, rfl, rfl, _, rfl, ?_⟩
  by_cases h2 : ¬ z.length ≤ 20
  · refine iteY (by omega) ?_
    refine iteT ?_
    unfold valI at q
    rw [okW_hi h2, if_neg (by decide)] at q
    exact ⟨1, rfl, q⟩
  have h2 := Classical.not_not.mp h2
  refine iteN (by omega) ?_
  obtain ⟨c0, hc0⟩ := str_first h1
  have body : okW z = isNum z->tSeq (tFor (iStr (tVar 0)) (gName 1) (tIfS (tTest (tOp (fun x y H Q => ∃ i j, x = V.str i /\ y = V.str j /\ Q (V.bl !!(Builtin.Str.occurrences j i 0 j.length 1).isEmpty) H) (tVar 1) (tC (V.str (Str.ofString "0123456789"))))) (tRet (tUn (rU fun i => V.int (-i)) (tC (V.int 1)))) tNext)) (tRet (tCB (fun xs H Q => ∃ z n, xs = [V.str z] /\ intText? z = some n /\ z.length ≤ 640 /\ Q (V.int n) H) (tCons (tVar 0) tNil))) { nx := fun x H' => Q V.non H', rt := Q } [some (V.str z), none] H := by
    intro eok
    unfold valI at q
    rw [eok] at q
    refine ⟨_, rfl, z, rfl, for_str (x := z) (fun i σ H2 => ∃ v : Option V, σ = [some (.str z), v] /\ H2 = H /\ ∀ j c, j < i->z.cps.toList[j]? = some c->figB c = true) ⟨none, rfl, rfl, fun j c hj => absurd hj (Nat.not_lt_zero _)⟩ ?_ ?_⟩
    · rintro i c σ H2 hi ⟨v, rfl, rfl, hp⟩
      have hi2 : z.cps.toList[i]? = some c := by simpa using hi
      refine ⟨_, rfl, _, _, rfl, rfl, _, rfl, ?_⟩
      show if (!figB c) = true then _ else _
      cases hf : figB c
      · refine iteT ?_
        rw [isNum_one hi2 hf, if_neg (by decide)] at q
        exact ⟨1, rfl, q⟩
      · refine iteF ?_
        refine ⟨_, rfl, rfl, fun j d hj hd => ?_⟩
        by_cases hji : j = i
        · rw [hji, hi2] at hd; cases hd; exact hf
        · exact hp j d (by omega) hd
    · rintro σ H2 ⟨v, rfl, rfl, hp⟩
      have hn : isNum z = true := by
        unfold isNum
        rw [List.all_eq_true]
        intro c hc
        obtain ⟨j, hj⟩ := List.mem_iff_getElem?.mp hc
        exact hp j c (by have := (List.getElem?_eq_some_iff.mp hj).1; simpa using this) hj
      rw [hn, if_pos rfl] at q
      exact ⟨_, rfl, z, intOf z, rfl, intOf_ok hn h1 (by omega), by omega, q⟩
  refine ⟨_, rfl, z, 0, c0, rfl, rfl, hzl, atI_nat (j := 0) hc0, rfl, _, rfl, ?_⟩
  by_cases h3 : c0 = 48
  · subst h3
    refine iteY rfl ?_
    refine ⟨_, rfl, z, rfl, hzl, _, _, rfl, rfl, _, rfl, ?_⟩
    by_cases h4 : z.length = 1
    · refine iteN (by omega) ?_
      exact body (okW_all h1 h2 (.inl h4))
    · refine iteY (by omega) ?_
      unfold valI at q
      rw [okW_zero h4 hc0, if_neg (by decide)] at q
      exact ⟨1, rfl, q⟩
  refine iteN (fun h => h3 (one_eq.mp h)) ?_
  refine iteF ?_
  exact body (okW_all h1 h2 (.inr fun h => h3 (by rw [hc0] at h; exact Option.some.inj h)))
theorem ok__law_fault {f : Addr} {fd : FuncData} (F : Fun K "_law_fault" "_law_fault" s__law_fault f fd) (T : Txt K mg t_MOST_FIGURES t_FIGURES C_KeepError C_NoWord C_NoRule C_Rule C_LastFew C_OneOfEach C_Apart C_Sealed C_AnyOf) (D__law_value : DefX P w K mg base "_law_value" 1 ["_law_word_here"] sp_value) : FnOk P w K mg base (CXx P w) 2 f fd ["_law_part_here"] (sp_fault) := by
  refine F.okX sc__law_fault (fun vs H Q E h => ?_) (fun cdv A outer s H vs Q E hr h => ?_)
  · obtain ⟨z, rfl, hz, q⟩ := h; rfl
  obtain ⟨z, rfl, hz, q⟩ := h
  refine ⟨_, (pss_cons (ps_set (i := 1) sc__law_fault.nd rfl (Or.inl rfl) (pe_bm PySem.F.plainAttrs_str PySem.F.slot_str_split PySem.F.type_str_split mt_split (pv 0) (pa_cons pe_str pa_nil)))
      (pss_cons (ps_setComp (i := 2) sc__law_fault.nd rfl (Or.inl rfl) (N := ["_law_word_here"]) (k := 1) (cap := []) rfl rfl (pi_list (pe_slice sl_list (pv 1) (po_some pe_int) po_none)) (fun _ _ _ _ => (pg_name (i := 0) (show (["_law_word_here"] : List Str).Nodup from by decide +kernel) rfl (Or.inl rfl) (.inr rfl))) (fun _ _ _ _ => pts_nil) (fun _ _ _ _ => (pe_callS D__law_value passesN (hr.mono (by decide)) rfl (pa_cons (pv 0) pa_nil))))
      (pss_cons (ps_set (i := 3) sc__law_fault.nd rfl (Or.inl rfl) (pe_dget2 (hu_of hr) (pe_disp (pps_cons pe_str (pe_lst (pa_cons pe_int pa_nil)) (pps_cons pe_str (pe_lst (pa_cons pe_int (pa_cons pe_int pa_nil))) (pps_cons pe_str (pe_lst (pa_cons pe_int pa_nil)) pps_nil))) rfl rfl (by decide) (by decide)) (pe_ix ix_list (pv 1) pe_int (fun _ _ => rfl)) (pe_lst pa_nil) ⟨rfl, rfl, rfl, rfl⟩))
      (pss_cons (ps_if (pt_cmpR op_eq (pe_ix ix_list (pv 1) pe_int (fun _ _ => rfl)) pe_str (nomark _)) (pss_one (ps_set (i := 3) sc__law_fault.nd rfl (Or.inl rfl) (pe_lst (pa_cons (pe_callB call_len_seq (by rfl) T.b_len PySem.boot_len (pa_cons (pv 2) pa_nil)) pa_nil)))) pss_nil)
      (pss_cons (ps_if (PW.pt (pw_or (pt_cmpR (op_eq_ref hr.units) (pv 2) (pe_lst pa_nil) (nomark _)) (pw_or (pt_cmpR op_lt (pe_callB (call_minL rfl) (by rfl) T.b_min PyProof.Rows.boot_min (pa_cons (pv 2) pa_nil)) pe_int (nomark _)) (pw_or1 (pt_cmpR op_notIn_seq (pe_callB call_len_seq (by rfl) T.b_len PySem.boot_len (pa_cons (pv 2) pa_nil)) (pv 3) (by with_unfolding_all rfl)))))) (pss_one (ps_ret (pv 0))) pss_nil)
      (pss_cons (ps_if (PW.pt (pw_and (pt_cmpR op_eq (pe_ix ix_list (pv 2) pe_int (fun _ _ => rfl)) pe_int (nomark _)) (pw_and1 (PW.pt (pw_or (pt_cmpR op_eq (pe_ix ix_list (pv 1) pe_int (fun _ _ => rfl)) pe_str (nomark _)) (pw_or1 (pt_cmpR op_eq (pe_ix ix_list (pv 1) pe_int (fun _ _ => rfl)) pe_str (nomark _)))))))) (pss_one (ps_ret pe_int)) pss_nil)
      (pss_one (ps_ret pe_non)))))))), ?_⟩
  refine ⟨_, rfl, rfl, z, Str.ofString " ", rfl, rfl, by decide +kernel, by omega, fun p hp => ?_⟩
  have hP1 := fun w hw => split_leY (z := z) (p := w) (y := Str.ofString " ") hw
  have hP2 := split_manyY (z := z) (y := Str.ofString " ") (by decide +kernel)
  obtain ⟨w, vs, hsp⟩ : ∃ w vs, Txt.split z (Str.ofString " ") = w :: vs := by
    cases e : Txt.split z (Str.ofString " ") with
    | nil => exact absurd e split_ne
    | cons w vs => exact ⟨w, vs, rfl⟩
  rw [flt_eq hsp] at q
  rw [hsp] at hP1 hP2 ⊢
  have hp0 : upd H p (.lst ((w :: vs).map V.str)) p = some (.lst (V.str w :: vs.map V.str)) := upd_same
  have s0 : Same H (upd H p (.lst ((w :: vs).map V.str))) := Same.new hp
  generalize upd H p (.lst ((w :: vs).map V.str)) = H0 at hp0 s0
  refine ⟨_, rfl, _, rfl, p, _, rfl, SqL.of hp0, fun c hc => ?_⟩
  rw [cut1]
  have s1 : Same H0 (upd H0 c (.lst (vs.map V.str))) := Same.new hc
  have hc1 : upd H0 c (.lst (vs.map V.str)) c = some (.lst (vs.map V.str)) := upd_same
  generalize upd H0 c (.lst (vs.map V.str)) = H1 at s1 hc1
  refine ⟨c, rfl, ⟨_, SqL.of hc1⟩, fun D hD => ?_⟩
  refine comp_list D (K := K) (a := c) (xs := vs.map V.str) (fun j σ H5 ys => ∃ (v : Option V), σ = [v] /\ Same H1 H5 /\ H5 D = some (.lst ys) /\ ys = ((vs.take j).map valI).map V.int) ⟨none, rfl, Same.new hD, upd_same, rfl⟩ (fun j σ H5 ys _ z0 => by obtain ⟨_, _, s5, _⟩ := z0; exact SqL.of (s5 c _ hc1)) ?_ ?_
  · rintro j y σ H5 ys hj ⟨v, rfl, s5, hD5, rfl⟩
    obtain ⟨u, hu, rfl⟩ := str_at hj
    have hjl : j < vs.length := (List.getElem?_eq_some_iff.mp hu).1
    refine ⟨_, rfl, u, rfl, (by have := hP1 u (List.mem_cons_of_mem _ (List.mem_of_getElem? hu)); omega), hD5, (by rw [List.length_map, List.length_map, List.length_take]; rw [List.length_cons] at hP2; exact small5000 (by omega)), _, rfl, fun b o e => ?_, upd_same, by rw [List.take_add_one, hu]; simp⟩
    rw [upd_ne (ne_of_none e hD)]; exact s5 b _ e
  rintro σ H5 ys ⟨v, rfl, s5, hD5, rfl⟩
  rw [List.length_map, List.take_length] at hD5
  have s05 := (s0.trans s1).trans s5
  have hp5 := s5 p _ (s1 p _ hp0)
  clear hp0 s0 s1 s5 hc1 hD hc
  dsimp only [gName]
  refine qcut (fun σ H6 => ∃ dl : Addr, σ = [some (.str z), some (.ref p), some (.ref D), some (.ref dl)] /\ Same H5 H6 /\ H6 dl = some (.lst ((due0 w).map V.int))) (fun N hN => ?_) ?_
  · intro d hd
    refine ⟨(by show 1 ≤ sizeLine; decide), fun l1 g1 => ⟨(by show 2 ≤ sizeLine; decide), fun l2 g2 => ⟨(by show 1 ≤ sizeLine; decide), fun l3 g3 => ?_⟩⟩⟩
    have k1 : upd H5 d (.dK []) d = some (.dK []) := upd_same
    have k2 := Same.new (o := .lst [V.int 1]) g1 d _ k1
    have k3 := Same.new (o := .lst [V.int 1, V.int 2]) g2 d _ k2
    have k4 := Same.new (o := .lst [V.int 1]) g3 d _ k3
    have n1 := (ne_of_none k1 g1).symm
    have n2 := (ne_of_none k2 g2).symm
    have n3 := (ne_of_none k3 g3).symm
    have a1 := Same.new (o := .lst [V.int 1]) g3 l1 _ (Same.new (o := .lst [V.int 1, V.int 2]) g2 l1 _ (upd_same (H := upd H5 d (.dK [])) (o := .lst [V.int 1])))
    have a2 := Same.new (o := .lst [V.int 1]) g3 l2 _ (upd_same (H := upd (upd H5 d (.dK [])) l1 (.lst [V.int 1])) (o := .lst [V.int 1, V.int 2]))
    have a3 : upd (upd (upd (upd H5 d (.dK [])) l1 (.lst [V.int 1])) l2 (.lst [V.int 1, V.int 2])) l3 (.lst [V.int 1]) l3 = some (.lst [V.int 1]) := upd_same
    have s6 : Same H5 (upd (upd (upd (upd H5 d (.dK [])) l1 (.lst [V.int 1])) l2 (.lst [V.int 1, V.int 2])) l3 (.lst [V.int 1])) := ((Same.new hd).trans (Same.new g1)).trans ((Same.new g2).trans (Same.new g3))
    generalize upd (upd (upd (upd H5 d (.dK [])) l1 (.lst [V.int 1])) l2 (.lst [V.int 1, V.int 2])) l3 (.lst [V.int 1]) = H6 at k4 a1 a2 a3 s6
    refine ⟨k4, [(Sum.inr wL, V.ref l1), (Sum.inr wE, V.ref l2), (Sum.inr wA, V.ref l3)], rfl, by show 3 ≤ 15; decide, ?_⟩
    rw [dict3]
    have k7 : upd H6 d (.dK [(Sum.inr wL, V.ref l1), (Sum.inr wE, V.ref l2), (Sum.inr wA, V.ref l3)]) d = some (.dK [(Sum.inr wL, V.ref l1), (Sum.inr wE, V.ref l2), (Sum.inr wA, V.ref l3)]) := upd_same
    have s7 : Same H5 (upd H6 d (.dK [(Sum.inr wL, V.ref l1), (Sum.inr wE, V.ref l2), (Sum.inr wA, V.ref l3)])) := fun b o e => by rw [upd_ne (ne_of_none e hd)]; exact s6 b o e
    have b1 : upd H6 d (.dK [(Sum.inr wL, V.ref l1), (Sum.inr wE, V.ref l2), (Sum.inr wA, V.ref l3)]) l1 = some (.lst [V.int 1]) := by rw [upd_ne n1]; exact a1
    have b2 : upd H6 d (.dK [(Sum.inr wL, V.ref l1), (Sum.inr wE, V.ref l2), (Sum.inr wA, V.ref l3)]) l2 = some (.lst [V.int 1, V.int 2]) := by rw [upd_ne n2]; exact a2
    have b3 : upd H6 d (.dK [(Sum.inr wL, V.ref l1), (Sum.inr wE, V.ref l2), (Sum.inr wA, V.ref l3)]) l3 = some (.lst [V.int 1]) := by rw [upd_ne n3]; exact a3
    generalize upd H6 d (.dK [(Sum.inr wL, V.ref l1), (Sum.inr wE, V.ref l2), (Sum.inr wA, V.ref l3)]) = H7 at k7 s7 b1 b2 b3
    refine ⟨d, rfl, .inl ⟨_, .inl k7⟩, _, rfl, p, _, _, V.str w, rfl, rfl, SqL.of (s7 p _ hp5), atI_nat (j := 0) rfl, Nat.zero_le _, fun l0 g0 => ?_⟩
    refine ⟨_, DGet.k (k := Sum.inr w) (Same.new g0 d _ k7), ?_⟩
    rw [val3]
    have fin : ∀ dl L, upd H7 l0 (.lst []) dl = some (.lst (L.map V.int))->due0 w = L->N [some (.str z), some (.ref p), some (.ref D), some (.ref dl)] (upd H7 l0 (.lst [])) := fun dl L h1 h2 => hN _ _ ⟨dl, rfl, s7.trans (Same.new g0), by rw [h2]; exact h1⟩
    by_cases h1 : w = wL
    · rw [if_pos h1]
      exact fin l1 [1] (Same.new g0 l1 _ b1) (by unfold due0; rw [if_pos h1])
    rw [if_neg h1]
    by_cases h2 : w = wE
    · rw [if_pos h2]
      exact fin l2 [1, 2] (Same.new g0 l2 _ b2) (by unfold due0; rw [if_neg h1, if_pos h2])
    rw [if_neg h2]
    by_cases h3 : w = wA
    · rw [if_pos h3]
      exact fin l3 [1] (Same.new g0 l3 _ b3) (by unfold due0; rw [if_neg h1, if_neg h2, if_pos h3])
    rw [if_neg h3]
    exact fin l0 [] upd_same (by unfold due0; rw [if_neg h1, if_neg h2, if_neg h3])
  rintro σ H6 ⟨dl, rfl, s6, hdl⟩
  refine qcut (fun σ H7 => ∃ dl : Addr, σ = [some (.str z), some (.ref p), some (.ref D), some (.ref dl)] /\ Same H5 H7 /\ H7 dl = some (.lst ((due1 w (vs.length : Int)).map V.int))) (fun N hN => ?_) ?_
  · refine ⟨_, rfl, p, _, _, V.str w, rfl, rfl, SqL.of (s6 p _ hp5), atI_nat (j := 0) rfl, rfl, _, rfl, ?_⟩
    by_cases h1 : w = wS
    · refine iteY (by rw [h1]) ?_
      refine ⟨_, rfl, D, _, rfl, .inl (SqL.of (s6 D _ hD5)), (by show 1 ≤ sizeLine; decide), fun l4 g4 => ?_⟩
      refine hN _ _ ⟨l4, rfl, s6.trans (Same.new g4), ?_⟩
      rw [upd_same]
      unfold due1
      rw [if_pos h1, List.length_map, List.length_map]; rfl
    · refine iteN (fun h => h1 (V.str.inj h)) ?_
      exact hN _ _ ⟨dl, rfl, s6, by unfold due1; rw [if_neg h1]; exact hdl⟩
  clear hdl s6 dl H6
  rintro σ H6 ⟨dl, rfl, s6, hdl⟩
  have hD6 := s6 D _ hD5
  refine ⟨_, rfl, Nat.zero_le _, fun l5 g5 => ?_⟩
  have s7 := s6.trans (Same.new (o := .lst []) g5)
  have hD7 := s7 D _ hD5
  have hdl7 := Same.new (o := .lst []) g5 dl _ hdl
  have hl5 : upd H6 l5 (.lst []) l5 = some (.lst (([] : List Int).map V.int)) := upd_same
  generalize upd H6 l5 (.lst []) = H7 at s7 hD7 hdl7 hl5
  refine ⟨0, decide (vs.map valI = []), by decide, SeqEq.ints (SqL.of hD7) (SqL.of hl5), _, rfl, ?_⟩
  have bad : (vs.all okW && shp w vs.length) = false->Q (V.str z) H7 := fun h => by
    unfold fltW at q
    rw [if_neg (by rw [h]; decide)] at q
    exact q H7 (s05.trans s7)
  by_cases h0 : vs = []
  · refine iteY (by rw [h0]; rfl) ?_
    refine iteT ?_
    refine ⟨_, rfl, bad ?_⟩
    rw [h0]
    show (true && shp w 0) = false
    unfold shp; simp
  have hpos : 0 < vs.length := List.length_pos_iff.mpr h0
  refine iteN (fun h => h0 (by simpa using h)) ?_
  refine ⟨_, rfl, D, _, rfl, SqL.of hD7, (by simpa using h0), fun m hm hmin => ?_⟩
  refine ⟨_, _, rfl, rfl, _, rfl, ?_⟩
  by_cases hneg : m < 0
  · refine iteY hneg ?_
    refine iteT ?_
    refine ⟨_, rfl, bad ?_⟩
    obtain ⟨u, hu, rfl⟩ := List.mem_map.mp hm
    have hu2 := valI_neg.mp hneg
    have : vs.all okW = false := List.all_eq_false.mpr ⟨u, hu, by rw [hu2]; decide⟩
    rw [this]; rfl
  refine iteN hneg ?_
  have hall : vs.all okW = true := List.all_eq_true.mpr fun u hu => by
    cases hk : okW u
    · have := hmin (valI u) (List.mem_map_of_mem hu)
      have := valI_neg.mpr hk
      omega
    · rfl
  refine ⟨_, rfl, D, _, rfl, .inl (SqL.of hD7), _, rfl, dl, _, rfl, .inl (SqL.of hdl7), rfl, (by simp [flatV]), _, rfl, ?_⟩
  rw [List.length_map, List.length_map, in_due, ← shp_due hpos]
  cases hs : shp w vs.length
  · refine iteT ?_
    exact ⟨_, rfl, bad (by rw [hs, Bool.and_false])⟩
  refine iteF ?_
  unfold fltW at q
  rw [if_pos (by rw [hall, hs]; rfl)] at q
  obtain ⟨u, vs, rfl⟩ : ∃ u us, vs = u :: us := by
    cases vs with
    | nil => exact absurd rfl h0
    | cons u us => exact ⟨u, us, rfl⟩
  have hok : okW u = true := List.all_eq_true.mp hall u (by simp)
  have hv : valI u = intOf u := by unfold valI; rw [if_pos hok]
  refine ⟨_, rfl, D, _, _, V.int (valI u), rfl, rfl, SqL.of hD7, atI_nat (j := 0) rfl, rfl, _, rfl, ?_⟩
  have hp7 := s7 p _ hp5
  by_cases hz0 : intOf u = 0
  · refine iteY (by rw [hv, hz0]) ?_
    refine ⟨_, rfl, p, _, _, V.str w, rfl, rfl, SqL.of hp7, atI_nat (j := 0) rfl, rfl, _, rfl, ?_⟩
    by_cases h1 : w = wE
    · refine iteY (by rw [h1]) ?_
      refine iteT ?_
      rw [if_pos ⟨.inl h1, hz0⟩] at q
      exact q H7 (s05.trans s7)
    refine iteN (fun h => h1 (V.str.inj h)) ?_
    refine ⟨_, rfl, p, _, _, V.str w, rfl, rfl, SqL.of hp7, atI_nat (j := 0) rfl, rfl, _, rfl, ?_⟩
    by_cases h2 : w = wA
    · refine iteY (by rw [h2]) ?_
      rw [if_pos ⟨.inr h2, hz0⟩] at q
      exact q H7 (s05.trans s7)
    refine iteN (fun h => h2 (V.str.inj h)) ?_
    rw [if_neg (fun h => h.1.elim h1 h2)] at q
    exact q H7 (s05.trans s7)
  · refine iteN (fun h => hz0 (by rw [← hv]; exact V.int.inj h)) ?_
    refine iteF ?_
    rw [if_neg (fun h => hz0 h.2)] at q
    exact q H7 (s05.trans s7)
theorem ok__law_due {f : Addr} {fd : FuncData} (F : Fun K "_law_due" "_law_due" s__law_due f fd) (T : Txt K mg t_MOST_FIGURES t_FIGURES C_KeepError C_NoWord C_NoRule C_Rule C_LastFew C_OneOfEach C_Apart C_Sealed C_AnyOf) (D__law_fault : DefX P w K mg base "_law_fault" 2 ["_law_part_here"] sp_fault) : FnOk P w K mg base (CXx P w) 3 f fd ["_law_text"] (sp_ldue) := by
  refine F.okX sc__law_due (fun vs H Q E h => ?_) (fun cdv A outer s H vs Q E hr h => ?_)
  · obtain ⟨z, rfl, hz, q⟩ := h; rfl
  obtain ⟨z, rfl, hz, q⟩ := h
  refine ⟨_, (pss_cons (ps_if (pt_cmpR op_eq (pv 0) pe_str (nomark _)) (pss_one (ps_ret pe_non)) pss_nil)
      (pss_cons (ps_set (i := 1) sc__law_due.nd rfl (Or.inl rfl) (pv 0))
      (pss_one (ps_while PassesOwn.leaving (pt_val pe_bl) (pss_cons (ps_asg (pe_bm PySem.F.plainAttrs_str PySem.F.slot_str_partition PySem.F.type_str_partition mt_partition (pv 1) (pa_cons pe_str pa_nil)) (pg_tup rfl (pgs_cons (pg_name (i := 2) sc__law_due.nd rfl (Or.inl rfl)) (pgs_cons (pg_name (i := 3) sc__law_due.nd rfl (Or.inl rfl)) (pgs_cons (pg_name (i := 1) sc__law_due.nd rfl (Or.inl rfl)) pgs_nil)))))
      (pss_cons (ps_set (i := 4) sc__law_due.nd rfl (Or.inl rfl) (pe_callS D__law_fault passesN (hr.mono (by decide)) rfl (pa_cons (pv 2) pa_nil)))
      (pss_one (ps_if (PW.pt (pw_or (pt_cmpR op_notN (pv 4) pe_non (nomark _)) (pw_or1 (pt_cmpR op_eq (pv 3) pe_str (nomark _))))) (pss_one (ps_ret (pv 4))) pss_nil)))))))), ?_⟩
  refine ⟨_, rfl, rfl, _, rfl, ?_⟩
  by_cases h0 : z = Str.ofString ""
  · subst h0
    refine iteY rfl ?_
    have e : fst (Str.ofString "") = none := if_pos rfl
    rw [e] at q
    exact q H (Same.refl H)
  refine iteN (fun h => h0 (V.str.inj h)) ?_
  rw [fst_pts h0, csS] at q
  refine ⟨_, rfl, fun m σ H2 => ∃ (a : Nat) (P : List Str) (v2 v3 v4 : Option V), σ = [some (.str z), some (.str (Builtin.Str.strSub z a z.length)), v2, v3, v4] /\ Same H H2 /\ Pts z a P /\ P ≠ [] /\ m = P.length /\ (∀ p ∈ P, p.length ≤ z.length) /\ (Txt.split z CS).findSome? flt = P.findSome? flt, ⟨_, 0, _, none, none, none, by rw [StrLaws.sub_whole]; rfl, Same.refl H, split_pts z, split_ne, rfl, fun p hp => split_leY hp, rfl⟩, ?_⟩
  rintro m σ H2 ⟨a, P, v2, v3, v4, rfl, s2, hP, hne, rfl, hl, hf⟩
  refine ⟨true, rfl, ?_⟩
  refine iteT ⟨_, fun σ' H' h => h, ?_⟩
  have hsl : (Builtin.Str.strSub z a z.length).length ≤ z.length := by rw [ssub_len]; omega
  cases P with
  | nil => exact absurd rfl hne
  | cons p P =>
    have hpl := hl p (by simp)
    refine ⟨_, rfl, rfl, _, Str.ofString ", ", rfl, rfl, by decide +kernel, by omega, fun t ht => ?_⟩
    rw [csS]
    have s3 : ∀ o, Same H (upd H2 t o) := fun o => s2.trans (Same.new ht)
    cases P with
    | nil =>
      rw [(part_end hP).2]
      refine ⟨t, _, rfl, SqT.of upd_same, rfl, _, _, rfl, _, _, rfl, _, _, rfl, rfl, ?_⟩
      refine ⟨_, rfl, p, rfl, by omega, fun H4 s4 => ?_⟩
      have hf1 : (Txt.split z CS).findSome? flt = flt p := by rw [hf]; simp [List.findSome?]; cases flt p <;> rfl
      rw [hf1] at q
      refine ⟨_, rfl, rfl, _, rfl, ?_⟩
      cases hv : flt p with
      | none =>
        refine iteNS rfl ?_
        refine ⟨_, rfl, rfl, _, rfl, ?_⟩
        refine iteY (show V.str Str.empty = V.str (Str.ofString "") by decide +kernel) ?_
        rw [hv] at q
        exact ⟨_, rfl, q H4 ((s3 _).trans s4)⟩
      | some v =>
        refine iteNN (fun h => by rcases flt_cases hv with rfl | rfl <;> cases h) ?_
        refine iteT ?_
        rw [hv] at q
        exact ⟨_, rfl, q H4 ((s3 _).trans s4)⟩
    | cons p2 P =>
      obtain ⟨b, hb, hP2⟩ := part_more hP
      rw [hb]
      refine ⟨t, _, rfl, SqT.of upd_same, rfl, _, _, rfl, _, _, rfl, _, _, rfl, rfl, ?_⟩
      refine ⟨_, rfl, p, rfl, by omega, fun H4 s4 => ?_⟩
      refine ⟨_, rfl, rfl, _, rfl, ?_⟩
      cases hv : flt p with
      | none =>
        refine iteNS rfl ?_
        refine ⟨_, rfl, rfl, _, rfl, ?_⟩
        refine iteN (show ¬ V.str CS = V.str (Str.ofString "") by decide +kernel) ?_
        refine ⟨_, by show (p2 :: P).length < (p :: p2 :: P).length; simp, b, p2 :: P, _, _, _, rfl, (s3 _).trans s4, hP2, by simp, rfl, fun p' hp' => hl p' (List.mem_cons_of_mem _ hp'), ?_⟩
        rw [hf, List.findSome?_cons, hv]
      | some v =>
        refine iteNN (fun h => by rcases flt_cases hv with rfl | rfl <;> cases h) ?_
        refine iteT ?_
        have e : (Txt.split z CS).findSome? flt = some v := by rw [hf, List.findSome?_cons, hv]
        rw [e] at q
        exact ⟨_, rfl, q H4 ((s3 _).trans s4)⟩
theorem ok__law_tried {f : Addr} {fd : FuncData} (F : Fun K "_law_tried" "_law_tried" s__law_tried f fd) (T : Txt K mg t_MOST_FIGURES t_FIGURES C_KeepError C_NoWord C_NoRule C_Rule C_LastFew C_OneOfEach C_Apart C_Sealed C_AnyOf) (D_rule_of : DefX P w K mg base "rule_of" 6 ["text"] (sp_ruleof C_AnyOf C_NoRule)) (D__law_due : DefX P w K mg base "_law_due" 3 ["_law_text"] sp_ldue) (D__law_whole : DefX P w K mg base "_law_whole" 1 ["_law_found"] sp_whole) : FnOk P w K mg base (CXx P w) 7 f fd ["_law_text"] (sp_tried) := by
  refine F.okX sc__law_tried (fun vs H Q E h => ?_) (fun cdv A outer s H vs Q E hr h => ?_)
  · obtain ⟨z, rfl, hz, q⟩ := h; rfl
  obtain ⟨z, rfl, hz, q⟩ := h
  refine ⟨_, (pss_cons (ps_set (i := 1) sc__law_tried.nd rfl (Or.inl rfl) pe_non)
      (pss_cons (ps_set (i := 2) sc__law_tried.nd rfl (Or.inl rfl) pe_bl)
      (pss_cons (ps_set (i := 3) sc__law_tried.nd rfl (Or.inl rfl) pe_non)
      (pss_cons (ps_try (fun pn xe E hx => (pss_one (ps_set (i := 3) sc__law_tried.nd rfl (Or.inl rfl) (pe_callS D_rule_of hx (hr.mono (by decide)) rfl (pa_cons (pv 0) pa_nil))))) (ph_as (i := 4) rfl T.mg_NoRule T.x_NoRule sc__law_tried.nd rfl rfl (fun _ _ => (pss_cons (ps_set (i := 1) sc__law_tried.nd rfl (Or.inl rfl) (pe_xfld (pv 4) rfl))
      (pss_one (ps_set (i := 2) sc__law_tried.nd rfl (Or.inl rfl) (pe_or (pe_callB call_isinstX (by rfl) T.b_isinstance PyProof.Rows.boot_isinstance (pa_cons (pv 4) (pa_cons (pe_glob (v := .ref C_NoWord) rfl T.mg_NoWord rfl) pa_nil))) (pe_or (pe_not (pe_callB call_isinstX (by rfl) T.b_isinstance PyProof.Rows.boot_isinstance (pa_cons (pv 4) (pa_cons (pe_glob (v := .ref C_KeepError) rfl T.mg_KeepError rfl) pa_nil)))) (pe_one (pe_not (pe_callB call_isinstX (by rfl) T.b_isinstance PyProof.Rows.boot_isinstance (pa_cons (pv 4) (pa_cons (pe_bltn (v := .ty "ValueError") rfl T.b_ValueError L2.boot_ValueError rfl) pa_nil))))))))))) ph_nil) rfl rfl)
      (pss_cons (ps_set (i := 5) sc__law_tried.nd rfl (Or.inl rfl) (pe_callS D__law_due passesN (hr.mono (by decide)) rfl (pa_cons (pv 0) pa_nil)))
      (pss_cons (ps_if (pt_cmpR op_isN (pv 5) pe_non (nomark _)) (pss_one (ps_ret (pe_and (pe_cmpR op_isN (pv 1) pe_non (nomark _)) (pe_one (pe_callB call_isinst (by rfl) T.b_isinstance PyProof.Rows.boot_isinstance (pa_cons (pv 3) (pa_cons (pe_glob (v := .ref C_AnyOf) rfl T.mg_AnyOf rfl) pa_nil))))))) pss_nil)
      (pss_cons (ps_if (pt_val (pe_callB call_isinst (by rfl) T.b_isinstance PyProof.Rows.boot_isinstance (pa_cons (pv 5) (pa_cons (pe_bltn (v := .ty "str") rfl T.b_str PyProof.Rows.boot_str rfl) pa_nil)))) (pss_one (ps_ret (pe_and (pe_cmpR op_isN (pv 3) pe_non (nomark _)) (pe_and (pe_callB call_isinst (by rfl) T.b_isinstance PyProof.Rows.boot_isinstance (pa_cons (pv 1) (pa_cons (pe_bltn (v := .ty "str") rfl T.b_str PyProof.Rows.boot_str rfl) pa_nil))) (pe_and (pe_cmpR op_eq (pv 1) (pv 5) (nomark _)) (pe_one (pe_not (pv 2)))))))) pss_nil)
      (pss_one (ps_ret (pe_and (pe_cmpR op_isN (pv 3) pe_non (nomark _)) (pe_and (pe_callS D__law_whole passesN (hr.mono (by decide)) rfl (pa_cons (pv 1) pa_nil)) (pe_and (pe_cmpR op_eq (pv 1) (pv 5) (nomark _)) (pe_one (pe_not (pv 2))))))))))))))), ?_⟩
  intro pn xe
  refine ⟨_, rfl, z, rfl, hz, fun hf pr H1 hpr s1 => ?_, fun v hv e H1 he s1 => ?_⟩
  · refine ⟨_, rfl, z, rfl, hz, fun H2 s2 => ?_⟩
    rw [hf]
    obtain ⟨dx, fs, hpr⟩ := hpr
    refine ⟨_, rfl, rfl, _, rfl, ?_⟩
    refine iteY rfl ?_
    refine ⟨_, rfl, rfl, _, rfl, ?_⟩
    refine iteY rfl ?_
    exact ⟨_, rfl, _, _, _, _, true, rfl, rfl, .ins (s2 pr _ hpr) T.cl_AnyOf T.ic_AnyOf T.clg2 T.clt2 T.io_AnyOf, T.k_AnyOf, q H2 (s1.trans s2)⟩
  · refine ⟨e, C_NoRule, rfl, rfl, true, T.kr, ?_⟩
    rw [if_pos rfl]
    intro pn2
    refine ⟨_, rfl, e, C_NoRule, _, _, rfl, he, T.x_NoRule, T.n_NoRule_found, look_eq, ?_⟩
    refine ⟨_, rfl, e, C_NoRule, _, _, _, false, rfl, rfl, he, T.x_NoRule, T.kt1, _, rfl, ?_⟩
    refine iteF ?_
    refine ⟨_, rfl, e, C_NoRule, _, _, _, true, rfl, rfl, he, T.x_NoRule, T.kt2, _, rfl, _, rfl, ?_⟩
    refine iteF ?_
    refine ⟨_, rfl, e, C_NoRule, _, _, _, true, rfl, rfl, he, T.x_NoRule, T.kt3, _, rfl, ?_⟩
    refine ⟨_, rfl, z, rfl, hz, fun H2 s2 => ?_⟩
    rw [hv]
    have sH := s1.trans s2
    refine ⟨_, rfl, rfl, _, rfl, ?_⟩
    rcases fst_cases hv with ⟨u, rfl⟩ | rfl
    · refine iteN (fun h => by cases h) ?_
      refine ⟨_, rfl, _, _, _, _, true, rfl, rfl, .str _, rfl, _, rfl, ?_⟩
      refine iteT ?_
      refine ⟨_, rfl, rfl, _, rfl, ?_⟩
      refine iteY rfl ?_
      refine ⟨_, rfl, _, _, _, _, true, rfl, rfl, .str _, rfl, _, rfl, ?_⟩
      refine iteT ?_
      refine ⟨_, rfl, _, rfl, rfl, _, rfl, ?_⟩
      refine iteY rfl ?_
      exact ⟨_, rfl, _, rfl, q H2 sH⟩
    · refine iteN (fun h => by cases h) ?_
      refine ⟨_, rfl, _, _, _, _, false, rfl, rfl, .int _, (by with_unfolding_all rfl), _, rfl, ?_⟩
      refine iteF ?_
      refine ⟨_, rfl, rfl, _, rfl, ?_⟩
      refine iteY rfl ?_
      refine ⟨_, rfl, 0, rfl, _, rfl, ?_⟩
      refine iteT ?_
      refine ⟨_, rfl, _, rfl, rfl, _, rfl, ?_⟩
      refine iteY rfl ?_
      exact ⟨_, rfl, _, rfl, q H2 sH⟩
theorem ok_law {f : Addr} {fd : FuncData} (F : Fun K "law" "law" s_law f fd) (T : Txt K mg t_MOST_FIGURES t_FIGURES C_KeepError C_NoWord C_NoRule C_Rule C_LastFew C_OneOfEach C_Apart C_Sealed C_AnyOf) (D__law_cell_at : DefX P w K mg base "_law_cell_at" 1 ["_law_script", "_law_k"] (sp_cell K)) (D__law_part : DefX P w K mg base "_law_part" 3 ["_law_cell"] sp_lpart) (D__law_tried : DefX P w K mg base "_law_tried" 7 ["_law_text"] sp_tried) (D__law_spoilt : DefX P w K mg base "_law_spoilt" 2 ["_law_text", "_law_cell"] sp_spoilt) : FnOk P w K mg base (CXx P w) 8 f fd ["_law_script"] (sp_law K) := by
  refine F.okX sc_law (fun vs H Q E h => ?_) (fun cdv A outer s H vs Q E hr h => ?_)
  · obtain ⟨a, ns, rfl, hS, hlen, q⟩ := h; rfl
  obtain ⟨a, ns, rfl, hS, hlen, q⟩ := h
  refine ⟨_, (pss_cons (ps_set (i := 1) sc_law.nd rfl (Or.inl rfl) (pe_op op_add pe_int (pe_op op_mod (pe_callS D__law_cell_at passesN (hr.mono (by decide)) rfl (pa_cons (pv 0) (pa_cons pe_int pa_nil))) pe_int)))
      (pss_cons (ps_set (i := 2) sc_law.nd rfl (Or.inl rfl) (pe_bm PySem.F.plainAttrs_str PySem.F.slot_str_join PySem.F.type_str_join mt_join pe_str (pa_cons (pe_comp (N := ["_law_k", "_law_script"]) (k := 1) (cap := [0]) rfl rfl (pi_range1 rfl T.b_range (pa_cons (pv 1) pa_nil)) (fun _ _ _ _ => (pg_name (i := 0) (show (["_law_k", "_law_script"] : List Str).Nodup from by decide +kernel) rfl (Or.inl rfl) (.inr rfl))) (fun _ _ _ _ => pts_nil) (fun _ _ _ _ => (pe_callS D__law_part passesN (hr.mono (by decide)) rfl (pa_cons (pe_callS D__law_cell_at passesN (hr.mono (by decide)) rfl (pa_cons (pv 1) (pa_cons (pe_op op_add pe_int (pv 0)) pa_nil))) pa_nil)))) pa_nil)))
      (pss_cons (ps_if (PW.pt (pw_or (pt_not (pt_val (pe_callS D__law_tried passesN (hr.mono (by decide)) rfl (pa_cons (pv 2) pa_nil)))) (pw_or1 (pt_not (pt_val (pe_callS D__law_tried passesN (hr.mono (by decide)) rfl (pa_cons pe_str pa_nil))))))) (pss_one (ps_ret pe_bl)) pss_nil)
      (pss_cons (ps_for PassesOwn.leaving rfl (pi_list (pe_slice sl_list (pv 0) (po_some pe_int) (po_some pe_int))) (pg_name (i := 3) sc_law.nd rfl (Or.inl rfl))
      (pss_one (ps_if (PW.pt (pw_or (pt_not (pt_val (pe_callS D__law_tried passesN (hr.mono (by decide)) rfl (pa_cons (pe_callS D__law_spoilt passesN (hr.mono (by decide)) rfl (pa_cons (pv 2) (pa_cons (pv 3) pa_nil))) pa_nil)))) (pw_or1 (pt_not (pt_val (pe_callS D__law_tried passesN (hr.mono (by decide)) rfl (pa_cons (pe_callS D__law_part passesN (hr.mono (by decide)) rfl (pa_cons (pv 3) pa_nil)) pa_nil))))))) (pss_one (ps_ret pe_bl)) pss_nil)))
      (pss_cons (ps_set (i := 4) sc_law.nd rfl (Or.inl rfl) (pe_callS D__law_spoilt passesN (hr.mono (by decide)) rfl (pa_cons (pv 2) (pa_cons (pe_op op_add (pe_callS D__law_cell_at passesN (hr.mono (by decide)) rfl (pa_cons (pv 0) (pa_cons pe_int pa_nil))) pe_int) pa_nil))))
      (pss_one (ps_ret (pe_and (pe_callS D__law_tried passesN (hr.mono (by decide)) rfl (pa_cons (pe_callS D__law_spoilt passesN (hr.mono (by decide)) rfl (pa_cons (pv 4) (pa_cons (pe_op op_add (pe_callS D__law_cell_at passesN (hr.mono (by decide)) rfl (pa_cons (pv 0) (pa_cons pe_int pa_nil))) pe_int) pa_nil))) pa_nil)) (pe_one (pe_callS D__law_tried passesN (hr.mono (by decide)) rfl (pa_cons (pv 2) pa_nil))))))))))), ?_⟩
  refine ⟨_, rfl, a, ns, 0, rfl, hS, _, _, rfl, rfl, (by first | decide | (dsimp only; decide)), _, _, rfl, rfl, ?_⟩
  have hm1 : 1 ≤ 1 + cellI ns ((0 : Nat) : Int) % 4 := by omega
  have hm2 : 1 + cellI ns ((0 : Nat) : Int) % 4 ≤ 4 := by omega
  refine ⟨rfl, _, rfl, 1 + cellI ns ((0 : Nat) : Int) % 4, rfl, by omega, by omega, fun D hD => ?_⟩
  generalize 1 + cellI ns ((0 : Nat) : Int) % 4 = mm at hm1 hm2
  refine comp_range (lo := 0) (n := mm.toNat) D (fun i σ H2 ys => ∃ (v : Option V) (ws : List Str), σ = [v, some (.ref a)] /\ Same H H2 /\ H2 D = some (.lst ys) /\ ys = ws.map V.str /\ ws.length = i /\ ∀ w ∈ ws, w.length ≤ 130) ⟨none, [], rfl, Same.new hD, upd_same, rfl, rfl, by simp⟩ ?_ ?_
  · rintro i σ H2 ys hi ⟨v, ws, rfl, s2, hD2, rfl, hwl, hw⟩
    refine ⟨_, rfl, _, rfl, _, _, rfl, rfl, a, ns, 1 + i, args2 (by omega), s2.seq hS, _, rfl, fun u H3 hu s3 => ?_⟩
    refine ⟨s3 D _ hD2, (by rw [List.length_map]; exact small5000 (by omega)), _, ws ++ [u], rfl, fun b o e => ?_, upd_same, by simp, by simp [hwl], fun w hw' => ?_⟩
    · rw [upd_ne (ne_of_none e hD)]; exact s3 b _ (s2 b _ e)
    · rcases List.mem_append.mp hw' with h | h
      · exact hw w h
      · rw [List.mem_singleton.mp h]; exact hu
  rintro σ H2 ys ⟨v, ws, rfl, s2, hD2, rfl, hwl, hw⟩
  have g1 := lens_sumZ hw
  have g2 := join_lenZ (z := Str.ofString ", ") hw
  have g3 : (Str.ofString ", ").length = 2 := by decide +kernel
  rw [g3] at g2
  refine ⟨_, D, ws, rfl, rfl, SqL.of hD2, (by rw [g3]; omega), ?_⟩
  have hT : (Str.join (Str.ofString ", ") ws).length ≤ 528 := by omega
  generalize Str.join (Str.ofString ", ") ws = t at hT
  refine ⟨_, rfl, t, rfl, by omega, fun H3 s3 => ⟨_, rfl, ?_⟩⟩
  refine iteF ?_
  refine ⟨Str.ofString "", rfl, by decide +kernel, fun H4 s4 => ⟨_, rfl, ?_⟩⟩
  refine iteF ?_
  have s24 := (s2.trans s3).trans s4
  refine ⟨_, rfl, _, rfl, _, rfl, a, _, rfl, s24.seq hS, fun c hc => ?_⟩
  have s5 := s24.trans (Same.new (o := .lst (cutV (ns.map V.int) (some 5) (some 45))) hc)
  have hc5 : upd H4 c (.lst (cutV (ns.map V.int) (some 5) (some 45))) c = some (.lst (cutV (ns.map V.int) (some 5) (some 45))) := upd_same
  generalize upd H4 c (.lst (cutV (ns.map V.int) (some 5) (some 45))) = H5 at s5 hc5
  refine ⟨c, rfl, ⟨_, SqL.of hc5⟩, for_list (K := K) (a := c) (xs := cutV (ns.map V.int) (some 5) (some 45)) (fun i σ H6 => ∃ v3 : Option V, σ = [some (.ref a), some (.int (1 + cellI ns ((0 : Nat) : Int) % 4)), some (.str t), v3, none] /\ Same H5 H6) ⟨none, rfl, Same.refl _⟩ (fun i σ H6 _ z0 => by obtain ⟨_, _, s6⟩ := z0; exact SqL.of (s6 c _ hc5)) ?_ ?_⟩
  · rintro i x σ H6 hi ⟨v3, rfl, s6⟩
    obtain ⟨n, rfl⟩ : ∃ n, x = V.int n := by
      have := cutV_mem x (List.mem_of_getElem? hi)
      obtain ⟨n, _, e⟩ := List.mem_map.mp this
      exact ⟨n, e.symm⟩
    refine ⟨_, rfl, _, rfl, t, n, rfl, by omega, fun y H7 hy s7 => ?_⟩
    refine ⟨y, rfl, by omega, fun H8 s8 => ⟨_, rfl, ?_⟩⟩
    refine iteF ?_
    refine ⟨_, rfl, n, rfl, fun y2 H9 hy2 s9 => ?_⟩
    refine ⟨y2, rfl, by omega, fun H10 s10 => ⟨_, rfl, ?_⟩⟩
    refine iteF ?_
    exact ⟨_, rfl, (s6.trans (s7.trans s8)).trans (s9.trans s10)⟩
  · rintro σ H6 ⟨v3, rfl, s6⟩
    have hS6 := (s5.trans s6).seq hS
    refine ⟨_, rfl, _, rfl, a, ns, 2, rfl, hS6, _, _, rfl, rfl, t, _, rfl, by omega, fun y H7 hy s7 => ?_⟩
    refine ⟨_, rfl, _, rfl, a, ns, 3, rfl, s7.seq hS6, _, _, rfl, rfl, y, _, rfl, by omega, fun y2 H8 hy2 s8 => ⟨y2, rfl, by omega, fun H9 s9 => ⟨_, rfl, ?_⟩⟩⟩
    refine iteT ?_
    exact ⟨_, rfl, t, rfl, by omega, fun H10 s10 => q H10⟩
end
@[elab_as_elim] theorem ln1 {P : List Value->Prop} (us : List Value) (hl : us.length = 1) (h : ∀ a, P [a]) : P us := match us, hl with
  | [a], _ => h a
@[elab_as_elim] theorem ln2 {P : List Value->Prop} (us : List Value) (hl : us.length = 2) (h : ∀ a b, P [a, b]) : P us := match us, hl with
  | [a, b], _ => h a b
@[elab_as_elim] theorem ln3 {P : List Value->Prop} (us : List Value) (hl : us.length = 3) (h : ∀ a b c, P [a, b, c]) : P us := match us, hl with
  | [a, b, c], _ => h a b c
theorem all_mk {l : PySem.W.OpenLaw} {w : World} {K : PySem.W.Frag} {h : Heap} {mg : Str->Option Value} {fa : Addr} (X : K.In h) (G : h.Ns mainGlobals mg) (hfa : mg "law" = some (.ref fa))
    {t_MOST_FIGURES : Tok} (g_MOST_FIGURES : PySem.W.nsIn K mainGlobals "MOST_FIGURES" = some (some (.int 20 t_MOST_FIGURES)))
    {t_FIGURES : Tok} (g_FIGURES : PySem.W.nsIn K mainGlobals "FIGURES" = some (some (.str (PySem.Str.ofString "0123456789") t_FIGURES)))
    {C_KeepError : Addr} (a_KeepError : PySem.W.nsIn K mainGlobals "KeepError" = some (some (.ref C_KeepError)))
    {C_NoWord : Addr} (a_NoWord : PySem.W.nsIn K mainGlobals "NoWord" = some (some (.ref C_NoWord)))
    {C_NoRule : Addr} (a_NoRule : PySem.W.nsIn K mainGlobals "NoRule" = some (some (.ref C_NoRule)))
    {C_Rule : Addr} (a_Rule : PySem.W.nsIn K mainGlobals "Rule" = some (some (.ref C_Rule)))
    {C_LastFew : Addr} (a_LastFew : PySem.W.nsIn K mainGlobals "LastFew" = some (some (.ref C_LastFew)))
    {C_OneOfEach : Addr} (a_OneOfEach : PySem.W.nsIn K mainGlobals "OneOfEach" = some (some (.ref C_OneOfEach)))
    {C_Apart : Addr} (a_Apart : PySem.W.nsIn K mainGlobals "Apart" = some (some (.ref C_Apart)))
    {C_Sealed : Addr} (a_Sealed : PySem.W.nsIn K mainGlobals "Sealed" = some (some (.ref C_Sealed)))
    {C_AnyOf : Addr} (a_AnyOf : PySem.W.nsIn K mainGlobals "AnyOf" = some (some (.ref C_AnyOf)))
    (clg : PySem.W.specialIn K (.builtin "object.__class__") "__get__" = some (some (.builtin "getset_descriptor.__get__"))) (clt : PySem.W.takesIn K (.builtin "object.__class__") = some true)
    (xo_KeepError : xobjIn K C_KeepError = true) (xs_KeepError : PySem.W.findIn K (.ref C_KeepError) "__setattr__" = some (some (.builtin "object.__setattr__"))) (xg_KeepError : PySem.W.findIn K (.ref C_KeepError) "__getattribute__" = some (some (.builtin "BaseException.__getattribute__"))) (xh_KeepError : PySem.W.findIn K (.ref C_KeepError) "__getattr__" = some none) (xc_KeepError : PySem.W.findIn K (.ref C_KeepError) "__class__" = some (some (.builtin "object.__class__"))) (kc_KeepError : PySem.W.keepIn K (.ref C_KeepError) = true)
    (xo_NoWord : xobjIn K C_NoWord = true) (xs_NoWord : PySem.W.findIn K (.ref C_NoWord) "__setattr__" = some (some (.builtin "object.__setattr__"))) (xg_NoWord : PySem.W.findIn K (.ref C_NoWord) "__getattribute__" = some (some (.builtin "BaseException.__getattribute__"))) (xh_NoWord : PySem.W.findIn K (.ref C_NoWord) "__getattr__" = some none) (xc_NoWord : PySem.W.findIn K (.ref C_NoWord) "__class__" = some (some (.builtin "object.__class__"))) (kc_NoWord : PySem.W.keepIn K (.ref C_NoWord) = true)
    (n_NoWord_word : PySem.W.findIn K (.ref C_NoWord) "word" = some none)
    (xo_NoRule : xobjIn K C_NoRule = true) (xs_NoRule : PySem.W.findIn K (.ref C_NoRule) "__setattr__" = some (some (.builtin "object.__setattr__"))) (xg_NoRule : PySem.W.findIn K (.ref C_NoRule) "__getattribute__" = some (some (.builtin "BaseException.__getattribute__"))) (xh_NoRule : PySem.W.findIn K (.ref C_NoRule) "__getattr__" = some none) (xc_NoRule : PySem.W.findIn K (.ref C_NoRule) "__class__" = some (some (.builtin "object.__class__"))) (kc_NoRule : PySem.W.keepIn K (.ref C_NoRule) = true)
    (n_NoRule_found : PySem.W.findIn K (.ref C_NoRule) "found" = some none)
    (pg_Rule : PySem.W.plainGet K C_Rule Str.empty = true) (hd_Rule : PySem.W.hasDictIn K C_Rule = true) (po_Rule : PySem.W.plainOver K C_Rule = true) (sa_Rule : PySem.W.findIn K (.ref C_Rule) "__setattr__" = some (some (.builtin "object.__setattr__"))) (mk_Rule : PySem.W.makesIn K C_Rule = true) (kc_Rule : PySem.W.keepIn K (.ref C_Rule) = true)
    (pg_LastFew : PySem.W.plainGet K C_LastFew Str.empty = true) (hd_LastFew : PySem.W.hasDictIn K C_LastFew = true) (po_LastFew : PySem.W.plainOver K C_LastFew = true) (sa_LastFew : PySem.W.findIn K (.ref C_LastFew) "__setattr__" = some (some (.builtin "object.__setattr__"))) (mk_LastFew : PySem.W.makesIn K C_LastFew = true) (kc_LastFew : PySem.W.keepIn K (.ref C_LastFew) = true)
    (n_LastFew_many : PySem.W.findIn K (.ref C_LastFew) "many" = some none)
    (pg_OneOfEach : PySem.W.plainGet K C_OneOfEach Str.empty = true) (hd_OneOfEach : PySem.W.hasDictIn K C_OneOfEach = true) (po_OneOfEach : PySem.W.plainOver K C_OneOfEach = true) (sa_OneOfEach : PySem.W.findIn K (.ref C_OneOfEach) "__setattr__" = some (some (.builtin "object.__setattr__"))) (mk_OneOfEach : PySem.W.makesIn K C_OneOfEach = true) (kc_OneOfEach : PySem.W.keepIn K (.ref C_OneOfEach) = true)
    (n_OneOfEach_step : PySem.W.findIn K (.ref C_OneOfEach) "step" = some none)
    (n_OneOfEach_many : PySem.W.findIn K (.ref C_OneOfEach) "many" = some none)
    (pg_Apart : PySem.W.plainGet K C_Apart Str.empty = true) (hd_Apart : PySem.W.hasDictIn K C_Apart = true) (po_Apart : PySem.W.plainOver K C_Apart = true) (sa_Apart : PySem.W.findIn K (.ref C_Apart) "__setattr__" = some (some (.builtin "object.__setattr__"))) (mk_Apart : PySem.W.makesIn K C_Apart = true) (kc_Apart : PySem.W.keepIn K (.ref C_Apart) = true)
    (n_Apart_gap : PySem.W.findIn K (.ref C_Apart) "gap" = some none)
    (pg_Sealed : PySem.W.plainGet K C_Sealed Str.empty = true) (hd_Sealed : PySem.W.hasDictIn K C_Sealed = true) (po_Sealed : PySem.W.plainOver K C_Sealed = true) (sa_Sealed : PySem.W.findIn K (.ref C_Sealed) "__setattr__" = some (some (.builtin "object.__setattr__"))) (mk_Sealed : PySem.W.makesIn K C_Sealed = true) (kc_Sealed : PySem.W.keepIn K (.ref C_Sealed) = true)
    (n_Sealed_sealed_days : PySem.W.findIn K (.ref C_Sealed) "sealed_days" = some none)
    (pg_AnyOf : PySem.W.plainGet K C_AnyOf Str.empty = true) (hd_AnyOf : PySem.W.hasDictIn K C_AnyOf = true) (po_AnyOf : PySem.W.plainOver K C_AnyOf = true) (sa_AnyOf : PySem.W.findIn K (.ref C_AnyOf) "__setattr__" = some (some (.builtin "object.__setattr__"))) (mk_AnyOf : PySem.W.makesIn K C_AnyOf = true) (kc_AnyOf : PySem.W.keepIn K (.ref C_AnyOf) = true)
    (n_AnyOf_rules : PySem.W.findIn K (.ref C_AnyOf) "rules" = some none)
    {f0 : Addr} {od0 an0 : Option Addr} {sl0 : Array (Option Value)} {oc0 kV0 dc0 pm0 cd0 ct0 : Value}
    (a0 : PySem.W.findIn K (.ref C_NoWord) "__init__" = some (some (.ref f0))) (i0 : PySem.W.isFn K (.ref f0) = true)
    (l0 : K.lookup f0 = some ⟨oc0, od0, .func (PySem.W.fnOf "__init__" "NoWord.__init__" (defArgs s_NoWord___init__) (defBody s_NoWord___init__) (defScope s_NoWord___init__) .none kV0 dc0 pm0 an0 cd0 ct0), sl0⟩) (c0 : PySem.W.codeIn K cd0 "NoWord.__init__" = true) (k0 : PySem.W.keepIn K (.ref f0) = true)
    {f1 : Addr} {od1 an1 : Option Addr} {sl1 : Array (Option Value)} {oc1 kV1 dc1 pm1 cd1 ct1 : Value}
    (a1 : PySem.W.findIn K (.ref C_NoRule) "__init__" = some (some (.ref f1))) (i1 : PySem.W.isFn K (.ref f1) = true)
    (l1 : K.lookup f1 = some ⟨oc1, od1, .func (PySem.W.fnOf "__init__" "NoRule.__init__" (defArgs s_NoRule___init__) (defBody s_NoRule___init__) (defScope s_NoRule___init__) .none kV1 dc1 pm1 an1 cd1 ct1), sl1⟩) (c1 : PySem.W.codeIn K cd1 "NoRule.__init__" = true) (k1 : PySem.W.keepIn K (.ref f1) = true)
    {f2 : Addr} {od2 an2 : Option Addr} {sl2 : Array (Option Value)} {oc2 kV2 dc2 pm2 cd2 ct2 : Value}
    (a2 : PySem.W.findIn K (.ref C_LastFew) "__init__" = some (some (.ref f2))) (i2 : PySem.W.isFn K (.ref f2) = true)
    (l2 : K.lookup f2 = some ⟨oc2, od2, .func (PySem.W.fnOf "__init__" "LastFew.__init__" (defArgs s_LastFew___init__) (defBody s_LastFew___init__) (defScope s_LastFew___init__) .none kV2 dc2 pm2 an2 cd2 ct2), sl2⟩) (c2 : PySem.W.codeIn K cd2 "LastFew.__init__" = true) (k2 : PySem.W.keepIn K (.ref f2) = true)
    {f3 : Addr} {od3 an3 : Option Addr} {sl3 : Array (Option Value)} {oc3 kV3 dc3 pm3 cd3 ct3 : Value}
    (a3 : PySem.W.findIn K (.ref C_OneOfEach) "__init__" = some (some (.ref f3))) (i3 : PySem.W.isFn K (.ref f3) = true)
    {td3 : Addr} {yc3 : Value} {yd3 : Option Addr} {yn3 : Nat} {yl3 : Array (Option Value)}
    (l3 : K.lookup f3 = some ⟨oc3, od3, .func (PySem.W.fnOf "__init__" "OneOfEach.__init__" (defArgs s_OneOfEach___init__) (defBody s_OneOfEach___init__) (defScope s_OneOfEach___init__) (.ref td3) kV3 dc3 pm3 an3 cd3 ct3), sl3⟩) (c3 : PySem.W.codeIn K cd3 "OneOfEach.__init__" = true) (k3 : PySem.W.keepIn K (.ref f3) = true)
    (y3 : K.lookup td3 = some ⟨yc3, yd3, .seq #[.none] yn3, yl3⟩)
    {f4 : Addr} {od4 an4 : Option Addr} {sl4 : Array (Option Value)} {oc4 kV4 dc4 pm4 cd4 ct4 : Value}
    (a4 : PySem.W.findIn K (.ref C_Apart) "__init__" = some (some (.ref f4))) (i4 : PySem.W.isFn K (.ref f4) = true)
    (l4 : K.lookup f4 = some ⟨oc4, od4, .func (PySem.W.fnOf "__init__" "Apart.__init__" (defArgs s_Apart___init__) (defBody s_Apart___init__) (defScope s_Apart___init__) .none kV4 dc4 pm4 an4 cd4 ct4), sl4⟩) (c4 : PySem.W.codeIn K cd4 "Apart.__init__" = true) (k4 : PySem.W.keepIn K (.ref f4) = true)
    {f5 : Addr} {od5 an5 : Option Addr} {sl5 : Array (Option Value)} {oc5 kV5 dc5 pm5 cd5 ct5 : Value}
    (a5 : PySem.W.findIn K (.ref C_Sealed) "__init__" = some (some (.ref f5))) (i5 : PySem.W.isFn K (.ref f5) = true)
    (l5 : K.lookup f5 = some ⟨oc5, od5, .func (PySem.W.fnOf "__init__" "Sealed.__init__" (defArgs s_Sealed___init__) (defBody s_Sealed___init__) (defScope s_Sealed___init__) .none kV5 dc5 pm5 an5 cd5 ct5), sl5⟩) (c5 : PySem.W.codeIn K cd5 "Sealed.__init__" = true) (k5 : PySem.W.keepIn K (.ref f5) = true)
    {f6 : Addr} {od6 an6 : Option Addr} {sl6 : Array (Option Value)} {oc6 kV6 dc6 pm6 cd6 ct6 : Value}
    (a6 : PySem.W.findIn K (.ref C_AnyOf) "__init__" = some (some (.ref f6))) (i6 : PySem.W.isFn K (.ref f6) = true)
    (l6 : K.lookup f6 = some ⟨oc6, od6, .func (PySem.W.fnOf "__init__" "AnyOf.__init__" (defArgs s_AnyOf___init__) (defBody s_AnyOf___init__) (defScope s_AnyOf___init__) .none kV6 dc6 pm6 an6 cd6 ct6), sl6⟩) (c6 : PySem.W.codeIn K cd6 "AnyOf.__init__" = true) (k6 : PySem.W.keepIn K (.ref f6) = true)
    {f7 : Addr} {od7 an7 : Option Addr} {sl7 : Array (Option Value)} {oc7 kV7 dc7 pm7 cd7 ct7 : Value}
    (a7 : PySem.W.nsIn K mainGlobals "writes_number" = some (some (.ref f7)))
    (l7 : K.lookup f7 = some ⟨oc7, od7, .func (PySem.W.fnOf "writes_number" "writes_number" (defArgs s_writes_number) (defBody s_writes_number) (defScope s_writes_number) .none kV7 dc7 pm7 an7 cd7 ct7), sl7⟩) (c7 : PySem.W.codeIn K cd7 "writes_number" = true) (k7 : PySem.W.keepIn K (.ref f7) = true)
    {f8 : Addr} {od8 an8 : Option Addr} {sl8 : Array (Option Value)} {oc8 kV8 dc8 pm8 cd8 ct8 : Value}
    (a8 : PySem.W.nsIn K mainGlobals "number_of" = some (some (.ref f8)))
    (l8 : K.lookup f8 = some ⟨oc8, od8, .func (PySem.W.fnOf "number_of" "number_of" (defArgs s_number_of) (defBody s_number_of) (defScope s_number_of) .none kV8 dc8 pm8 an8 cd8 ct8), sl8⟩) (c8 : PySem.W.codeIn K cd8 "number_of" = true) (k8 : PySem.W.keepIn K (.ref f8) = true)
    {f9 : Addr} {od9 an9 : Option Addr} {sl9 : Array (Option Value)} {oc9 kV9 dc9 pm9 cd9 ct9 : Value}
    (a9 : PySem.W.nsIn K mainGlobals "rule_of" = some (some (.ref f9)))
    (l9 : K.lookup f9 = some ⟨oc9, od9, .func (PySem.W.fnOf "rule_of" "rule_of" (defArgs s_rule_of) (defBody s_rule_of) (defScope s_rule_of) .none kV9 dc9 pm9 an9 cd9 ct9), sl9⟩) (c9 : PySem.W.codeIn K cd9 "rule_of" = true) (k9 : PySem.W.keepIn K (.ref f9) = true)
    {f10 : Addr} {od10 an10 : Option Addr} {sl10 : Array (Option Value)} {oc10 kV10 dc10 pm10 cd10 ct10 : Value}
    (a10 : PySem.W.nsIn K mainGlobals "rule_of_part" = some (some (.ref f10)))
    (l10 : K.lookup f10 = some ⟨oc10, od10, .func (PySem.W.fnOf "rule_of_part" "rule_of_part" (defArgs s_rule_of_part) (defBody s_rule_of_part) (defScope s_rule_of_part) .none kV10 dc10 pm10 an10 cd10 ct10), sl10⟩) (c10 : PySem.W.codeIn K cd10 "rule_of_part" = true) (k10 : PySem.W.keepIn K (.ref f10) = true)
    {f11 : Addr} {od11 an11 : Option Addr} {sl11 : Array (Option Value)} {oc11 kV11 dc11 pm11 cd11 ct11 : Value}
    (a11 : PySem.W.nsIn K mainGlobals "_law_cell_at" = some (some (.ref f11)))
    (l11 : K.lookup f11 = some ⟨oc11, od11, .func (PySem.W.fnOf "_law_cell_at" "_law_cell_at" (defArgs s__law_cell_at) (defBody s__law_cell_at) (defScope s__law_cell_at) .none kV11 dc11 pm11 an11 cd11 ct11), sl11⟩) (c11 : PySem.W.codeIn K cd11 "_law_cell_at" = true) (k11 : PySem.W.keepIn K (.ref f11) = true)
    {f12 : Addr} {od12 an12 : Option Addr} {sl12 : Array (Option Value)} {oc12 kV12 dc12 pm12 cd12 ct12 : Value}
    (a12 : PySem.W.nsIn K mainGlobals "_law_whole" = some (some (.ref f12)))
    (l12 : K.lookup f12 = some ⟨oc12, od12, .func (PySem.W.fnOf "_law_whole" "_law_whole" (defArgs s__law_whole) (defBody s__law_whole) (defScope s__law_whole) .none kV12 dc12 pm12 an12 cd12 ct12), sl12⟩) (c12 : PySem.W.codeIn K cd12 "_law_whole" = true) (k12 : PySem.W.keepIn K (.ref f12) = true)
    {f13 : Addr} {od13 an13 : Option Addr} {sl13 : Array (Option Value)} {oc13 kV13 dc13 pm13 cd13 ct13 : Value}
    (a13 : PySem.W.nsIn K mainGlobals "_law_stream" = some (some (.ref f13)))
    (l13 : K.lookup f13 = some ⟨oc13, od13, .func (PySem.W.fnOf "_law_stream" "_law_stream" (defArgs s__law_stream) (defBody s__law_stream) (defScope s__law_stream) .none kV13 dc13 pm13 an13 cd13 ct13), sl13⟩) (c13 : PySem.W.codeIn K cd13 "_law_stream" = true) (k13 : PySem.W.keepIn K (.ref f13) = true)
    {f14 : Addr} {od14 an14 : Option Addr} {sl14 : Array (Option Value)} {oc14 kV14 dc14 pm14 cd14 ct14 : Value}
    (a14 : PySem.W.nsIn K mainGlobals "_law_word" = some (some (.ref f14)))
    (l14 : K.lookup f14 = some ⟨oc14, od14, .func (PySem.W.fnOf "_law_word" "_law_word" (defArgs s__law_word) (defBody s__law_word) (defScope s__law_word) .none kV14 dc14 pm14 an14 cd14 ct14), sl14⟩) (c14 : PySem.W.codeIn K cd14 "_law_word" = true) (k14 : PySem.W.keepIn K (.ref f14) = true)
    {f15 : Addr} {od15 an15 : Option Addr} {sl15 : Array (Option Value)} {oc15 kV15 dc15 pm15 cd15 ct15 : Value}
    (a15 : PySem.W.nsIn K mainGlobals "_law_part" = some (some (.ref f15)))
    (l15 : K.lookup f15 = some ⟨oc15, od15, .func (PySem.W.fnOf "_law_part" "_law_part" (defArgs s__law_part) (defBody s__law_part) (defScope s__law_part) .none kV15 dc15 pm15 an15 cd15 ct15), sl15⟩) (c15 : PySem.W.codeIn K cd15 "_law_part" = true) (k15 : PySem.W.keepIn K (.ref f15) = true)
    {f16 : Addr} {od16 an16 : Option Addr} {sl16 : Array (Option Value)} {oc16 kV16 dc16 pm16 cd16 ct16 : Value}
    (a16 : PySem.W.nsIn K mainGlobals "_law_sign" = some (some (.ref f16)))
    (l16 : K.lookup f16 = some ⟨oc16, od16, .func (PySem.W.fnOf "_law_sign" "_law_sign" (defArgs s__law_sign) (defBody s__law_sign) (defScope s__law_sign) .none kV16 dc16 pm16 an16 cd16 ct16), sl16⟩) (c16 : PySem.W.codeIn K cd16 "_law_sign" = true) (k16 : PySem.W.keepIn K (.ref f16) = true)
    {f17 : Addr} {od17 an17 : Option Addr} {sl17 : Array (Option Value)} {oc17 kV17 dc17 pm17 cd17 ct17 : Value}
    (a17 : PySem.W.nsIn K mainGlobals "_law_spoilt" = some (some (.ref f17)))
    (l17 : K.lookup f17 = some ⟨oc17, od17, .func (PySem.W.fnOf "_law_spoilt" "_law_spoilt" (defArgs s__law_spoilt) (defBody s__law_spoilt) (defScope s__law_spoilt) .none kV17 dc17 pm17 an17 cd17 ct17), sl17⟩) (c17 : PySem.W.codeIn K cd17 "_law_spoilt" = true) (k17 : PySem.W.keepIn K (.ref f17) = true)
    {f18 : Addr} {od18 an18 : Option Addr} {sl18 : Array (Option Value)} {oc18 kV18 dc18 pm18 cd18 ct18 : Value}
    (a18 : PySem.W.nsIn K mainGlobals "_law_value" = some (some (.ref f18)))
    (l18 : K.lookup f18 = some ⟨oc18, od18, .func (PySem.W.fnOf "_law_value" "_law_value" (defArgs s__law_value) (defBody s__law_value) (defScope s__law_value) .none kV18 dc18 pm18 an18 cd18 ct18), sl18⟩) (c18 : PySem.W.codeIn K cd18 "_law_value" = true) (k18 : PySem.W.keepIn K (.ref f18) = true)
    {f19 : Addr} {od19 an19 : Option Addr} {sl19 : Array (Option Value)} {oc19 kV19 dc19 pm19 cd19 ct19 : Value}
    (a19 : PySem.W.nsIn K mainGlobals "_law_fault" = some (some (.ref f19)))
    (l19 : K.lookup f19 = some ⟨oc19, od19, .func (PySem.W.fnOf "_law_fault" "_law_fault" (defArgs s__law_fault) (defBody s__law_fault) (defScope s__law_fault) .none kV19 dc19 pm19 an19 cd19 ct19), sl19⟩) (c19 : PySem.W.codeIn K cd19 "_law_fault" = true) (k19 : PySem.W.keepIn K (.ref f19) = true)
    {f20 : Addr} {od20 an20 : Option Addr} {sl20 : Array (Option Value)} {oc20 kV20 dc20 pm20 cd20 ct20 : Value}
    (a20 : PySem.W.nsIn K mainGlobals "_law_due" = some (some (.ref f20)))
    (l20 : K.lookup f20 = some ⟨oc20, od20, .func (PySem.W.fnOf "_law_due" "_law_due" (defArgs s__law_due) (defBody s__law_due) (defScope s__law_due) .none kV20 dc20 pm20 an20 cd20 ct20), sl20⟩) (c20 : PySem.W.codeIn K cd20 "_law_due" = true) (k20 : PySem.W.keepIn K (.ref f20) = true)
    {f21 : Addr} {od21 an21 : Option Addr} {sl21 : Array (Option Value)} {oc21 kV21 dc21 pm21 cd21 ct21 : Value}
    (a21 : PySem.W.nsIn K mainGlobals "_law_tried" = some (some (.ref f21)))
    (l21 : K.lookup f21 = some ⟨oc21, od21, .func (PySem.W.fnOf "_law_tried" "_law_tried" (defArgs s__law_tried) (defBody s__law_tried) (defScope s__law_tried) .none kV21 dc21 pm21 an21 cd21 ct21), sl21⟩) (c21 : PySem.W.codeIn K cd21 "_law_tried" = true) (k21 : PySem.W.keepIn K (.ref f21) = true)
    {f22 : Addr} {od22 an22 : Option Addr} {sl22 : Array (Option Value)} {oc22 kV22 dc22 pm22 cd22 ct22 : Value}
    (a22 : PySem.W.nsIn K mainGlobals "law" = some (some (.ref f22)))
    (l22 : K.lookup f22 = some ⟨oc22, od22, .func (PySem.W.fnOf "law" "law" (defArgs s_law) (defBody s_law) (defScope s_law) .none kV22 dc22 pm22 an22 cd22 ct22), sl22⟩) (c22 : PySem.W.codeIn K cd22 "law" = true) (k22 : PySem.W.keepIn K (.ref f22) = true)
    (z_len : PySem.W.nsIn K mainGlobals "len" = some none)
    (z_isinstance : PySem.W.nsIn K mainGlobals "isinstance" = some none)
    (z_int : PySem.W.nsIn K mainGlobals "int" = some none)
    (z_bool : PySem.W.nsIn K mainGlobals "bool" = some none)
    (z_str : PySem.W.nsIn K mainGlobals "str" = some none)
    (z_list : PySem.W.nsIn K mainGlobals "list" = some none)
    (z_tuple : PySem.W.nsIn K mainGlobals "tuple" = some none)
    (z_range : PySem.W.nsIn K mainGlobals "range" = some none)
    (z_min : PySem.W.nsIn K mainGlobals "min" = some none)
    (z_dict : PySem.W.nsIn K mainGlobals "dict" = some none)
    (z_all : PySem.W.nsIn K mainGlobals "all" = some none)
    (z_ValueError : PySem.W.nsIn K mainGlobals "ValueError" = some none)
    (clg2 : PySem.W.specialIn K (.builtin "object.__class__") "__get__" = some (some (.builtin "getset_descriptor.__get__")))
    (clt2 : PySem.W.takesIn K (.builtin "object.__class__") = some true)
    (kw : PySem.W.mroIn K C_NoWord (.ref C_NoWord) = some true)
    (kr : PySem.W.mroIn K C_NoRule (.ref C_NoRule) = some true)
    (kt1 : PySem.W.kitOne K (.ref C_NoRule) (.ref C_NoWord) = some false)
    (kt2 : PySem.W.kitOne K (.ref C_NoRule) (.ref C_KeepError) = some true)
    (kt3 : PySem.W.kitOne K (.ref C_NoRule) (.type "ValueError") = some true)
    (ic_AnyOf : PySem.W.findIn K (.ref C_AnyOf) "__class__" = some (some (.builtin "object.__class__")))
    (io_AnyOf : PySem.W.mroIn K C_AnyOf (.type "object") = some true)
    (k_AnyOf : PySem.W.kitOne K (.ref C_AnyOf) (.ref C_AnyOf) = some true)
    : ∃ fd : FuncData, (∀ (s : Shared) (v : Value), BindsTo s fd ⟨[v], []⟩ [("_law_script", v)]) /\ ∀ base : Heap, K.In base->base.Ns mainGlobals mg->FnOk l.prog w K mg base (CXx l.prog w) 8 fa fd ["_law_script"] (sp_law K) := by
  have e := hfa.symm.trans (PySem.W.mg_of X G a22)
  cases e
  have T : Txt K mg t_MOST_FIGURES t_FIGURES C_KeepError C_NoWord C_NoRule C_Rule C_LastFew C_OneOfEach C_Apart C_Sealed C_AnyOf := ⟨PySem.W.mg_of X G g_MOST_FIGURES, PySem.W.mg_of X G g_FIGURES, PySem.W.mg_of X G a_KeepError, ⟨xo_KeepError, xs_KeepError, xg_KeepError, xh_KeepError, xc_KeepError, clg, clt⟩, PySem.W.mg_of X G a_NoWord, ⟨xo_NoWord, xs_NoWord, xg_NoWord, xh_NoWord, xc_NoWord, clg, clt⟩, n_NoWord_word, PySem.W.mg_of X G a_NoRule, ⟨xo_NoRule, xs_NoRule, xg_NoRule, xh_NoRule, xc_NoRule, clg, clt⟩, n_NoRule_found, PySem.W.mg_of X G a_Rule, ⟨pg_Rule, hd_Rule, po_Rule, sa_Rule⟩, PySem.W.mg_of X G a_LastFew, ⟨pg_LastFew, hd_LastFew, po_LastFew, sa_LastFew⟩, n_LastFew_many, PySem.W.mg_of X G a_OneOfEach, ⟨pg_OneOfEach, hd_OneOfEach, po_OneOfEach, sa_OneOfEach⟩, n_OneOfEach_step, n_OneOfEach_many, PySem.W.mg_of X G a_Apart, ⟨pg_Apart, hd_Apart, po_Apart, sa_Apart⟩, n_Apart_gap, PySem.W.mg_of X G a_Sealed, ⟨pg_Sealed, hd_Sealed, po_Sealed, sa_Sealed⟩, n_Sealed_sealed_days, PySem.W.mg_of X G a_AnyOf, ⟨pg_AnyOf, hd_AnyOf, po_AnyOf, sa_AnyOf⟩, n_AnyOf_rules, PySem.W.mg_none_of X G z_len, PySem.W.mg_none_of X G z_isinstance, PySem.W.mg_none_of X G z_int, PySem.W.mg_none_of X G z_bool, PySem.W.mg_none_of X G z_str, PySem.W.mg_none_of X G z_list, PySem.W.mg_none_of X G z_tuple, PySem.W.mg_none_of X G z_range, PySem.W.mg_none_of X G z_min, PySem.W.mg_none_of X G z_dict, PySem.W.mg_none_of X G z_all, PySem.W.mg_none_of X G z_ValueError, clg2, clt2, kw, kr, kt1, kt2, kt3, ic_AnyOf, io_AnyOf, k_AnyOf⟩
  have F0 := fun_mk (st := s_NoWord___init__) l0 c0 k0
  have b0 := F0.binds (ps := ["self", "word"]) fun _ _ _ _ _ _ us hl => ln2 us hl fun _ _ => rfl
  have F1 := fun_mk (st := s_NoRule___init__) l1 c1 k1
  have b1 := F1.binds (ps := ["self", "found"]) fun _ _ _ _ _ _ us hl => ln2 us hl fun _ _ => rfl
  have F2 := fun_mk (st := s_LastFew___init__) l2 c2 k2
  have b2 := F2.binds (ps := ["self", "many"]) fun _ _ _ _ _ _ us hl => ln2 us hl fun _ _ => rfl
  have F3 := fund_mk (st := s_OneOfEach___init__) l3 c3 k3
  have b3 := F3.binds (ps := ["self", "step", "many"]) (ds := []) y3 rfl fun _ _ _ _ _ _ us hl => ln3 us hl fun _ _ _ => ⟨_, rfl, rfl⟩
  have b_OneOfEach___init___d1 := F3.binds (ps := ["self", "step", "many"]) (ds := [Value.none]) y3 rfl fun _ _ _ _ _ _ us hl => ln2 us (by simpa using hl) fun _ _ => ⟨_, rfl, rfl⟩
  have F4 := fun_mk (st := s_Apart___init__) l4 c4 k4
  have b4 := F4.binds (ps := ["self", "gap"]) fun _ _ _ _ _ _ us hl => ln2 us hl fun _ _ => rfl
  have F5 := fun_mk (st := s_Sealed___init__) l5 c5 k5
  have b5 := F5.binds (ps := ["self", "days"]) fun _ _ _ _ _ _ us hl => ln2 us hl fun _ _ => rfl
  have F6 := fun_mk (st := s_AnyOf___init__) l6 c6 k6
  have b6 := F6.binds (ps := ["self", "rules"]) fun _ _ _ _ _ _ us hl => ln2 us hl fun _ _ => rfl
  have F7 := fun_mk (st := s_writes_number) l7 c7 k7
  have b7 := F7.binds (ps := ["word"]) fun _ _ _ _ _ _ us hl => ln1 us hl fun _ => rfl
  have F8 := fun_mk (st := s_number_of) l8 c8 k8
  have b8 := F8.binds (ps := ["word"]) fun _ _ _ _ _ _ us hl => ln1 us hl fun _ => rfl
  have F9 := fun_mk (st := s_rule_of) l9 c9 k9
  have b9 := F9.binds (ps := ["text"]) fun _ _ _ _ _ _ us hl => ln1 us hl fun _ => rfl
  have F10 := fun_mk (st := s_rule_of_part) l10 c10 k10
  have b10 := F10.binds (ps := ["part"]) fun _ _ _ _ _ _ us hl => ln1 us hl fun _ => rfl
  have F11 := fun_mk (st := s__law_cell_at) l11 c11 k11
  have b11 := F11.binds (ps := ["_law_script", "_law_k"]) fun _ _ _ _ _ _ us hl => ln2 us hl fun _ _ => rfl
  have F12 := fun_mk (st := s__law_whole) l12 c12 k12
  have b12 := F12.binds (ps := ["_law_found"]) fun _ _ _ _ _ _ us hl => ln1 us hl fun _ => rfl
  have F13 := fun_mk (st := s__law_stream) l13 c13 k13
  have b13 := F13.binds (ps := ["_law_cell", "_law_many"]) fun _ _ _ _ _ _ us hl => ln2 us hl fun _ _ => rfl
  have F14 := fun_mk (st := s__law_word) l14 c14 k14
  have b14 := F14.binds (ps := ["_law_cell"]) fun _ _ _ _ _ _ us hl => ln1 us hl fun _ => rfl
  have F15 := fun_mk (st := s__law_part) l15 c15 k15
  have b15 := F15.binds (ps := ["_law_cell"]) fun _ _ _ _ _ _ us hl => ln1 us hl fun _ => rfl
  have F16 := fun_mk (st := s__law_sign) l16 c16 k16
  have b16 := F16.binds (ps := ["_law_cell"]) fun _ _ _ _ _ _ us hl => ln1 us hl fun _ => rfl
  have F17 := fun_mk (st := s__law_spoilt) l17 c17 k17
  have b17 := F17.binds (ps := ["_law_text", "_law_cell"]) fun _ _ _ _ _ _ us hl => ln2 us hl fun _ _ => rfl
  have F18 := fun_mk (st := s__law_value) l18 c18 k18
  have b18 := F18.binds (ps := ["_law_word_here"]) fun _ _ _ _ _ _ us hl => ln1 us hl fun _ => rfl
  have F19 := fun_mk (st := s__law_fault) l19 c19 k19
  have b19 := F19.binds (ps := ["_law_part_here"]) fun _ _ _ _ _ _ us hl => ln1 us hl fun _ => rfl
  have F20 := fun_mk (st := s__law_due) l20 c20 k20
  have b20 := F20.binds (ps := ["_law_text"]) fun _ _ _ _ _ _ us hl => ln1 us hl fun _ => rfl
  have F21 := fun_mk (st := s__law_tried) l21 c21 k21
  have b21 := F21.binds (ps := ["_law_text"]) fun _ _ _ _ _ _ us hl => ln1 us hl fun _ => rfl
  have F22 := fun_mk (st := s_law) l22 c22 k22
  have b22 := F22.binds (ps := ["_law_script"]) fun _ _ _ _ _ _ us hl => ln1 us hl fun _ => rfl
  refine ⟨PySem.W.fnOf "law" "law" (defArgs s_law) (defBody s_law) (defScope s_law) .none kV22 dc22 pm22 an22 cd22 ct22, fun s v => .of_eq rfl, fun base _ _ => ?_⟩
  have D_NoWord : ExcX l.prog w K mg base "NoWord" C_NoWord 1 ["self", "word"] (sp_x1 C_NoWord "word") := ⟨_, _, PySem.W.mg_of X G a_NoWord, ⟨T.x_NoWord, a0, i0, kc_NoWord⟩, ok_NoWord___init__ F0 T , b0⟩
  have D_NoRule : ExcX l.prog w K mg base "NoRule" C_NoRule 1 ["self", "found"] (sp_x1 C_NoRule "found") := ⟨_, _, PySem.W.mg_of X G a_NoRule, ⟨T.x_NoRule, a1, i1, kc_NoRule⟩, ok_NoRule___init__ F1 T , b1⟩
  have D_NoRuleH : ExcXH l.prog w K mg base "NoRule" C_NoRule 1 ["self", "found"] (sp_x1 C_NoRule "found") := ⟨_, _, PySem.W.mg_of X G a_NoRule, ⟨T.x_NoRule, a1, i1, kc_NoRule⟩, okH_NoRule___init__ F1 T, b1⟩
  have D_LastFew : MakeX l.prog w K mg base "LastFew" C_LastFew 3 ["self", "many"] (sp_linit C_LastFew C_NoRule) := ⟨_, _, PySem.W.mg_of X G a_LastFew, ⟨mk_LastFew, a2, i2, kc_LastFew⟩, ok_LastFew___init__ F2 T D_NoRule, b2⟩
  have D_OneOfEach : MakeX l.prog w K mg base "OneOfEach" C_OneOfEach 3 ["self", "step", "many"] (sp_oinit C_OneOfEach C_NoRule) := ⟨_, _, PySem.W.mg_of X G a_OneOfEach, ⟨mk_OneOfEach, a3, i3, kc_OneOfEach⟩, ok_OneOfEach___init__ F3 T D_NoRule, b3⟩
  have D_OneOfEach_d1 : MakeXd l.prog w K mg base "OneOfEach" C_OneOfEach 3 ["self", "step", "many"] [Value.none] (sp_oinit C_OneOfEach C_NoRule) := ⟨_, _, PySem.W.mg_of X G a_OneOfEach, ⟨mk_OneOfEach, a3, i3, kc_OneOfEach⟩, ok_OneOfEach___init__ F3 T D_NoRule, b_OneOfEach___init___d1⟩
  have D_Apart : MakeX l.prog w K mg base "Apart" C_Apart 3 ["self", "gap"] (sp_ainit C_Apart C_NoRule) := ⟨_, _, PySem.W.mg_of X G a_Apart, ⟨mk_Apart, a4, i4, kc_Apart⟩, ok_Apart___init__ F4 T D_NoRule, b4⟩
  have D_Sealed : MakeX l.prog w K mg base "Sealed" C_Sealed 2 ["self", "days"] (sp_sinit C_Sealed) := ⟨_, _, PySem.W.mg_of X G a_Sealed, ⟨mk_Sealed, a5, i5, kc_Sealed⟩, ok_Sealed___init__ F5 T , b5⟩
  have D_AnyOf : MakeX l.prog w K mg base "AnyOf" C_AnyOf 2 ["self", "rules"] (sp_anyinit C_AnyOf) := ⟨_, _, PySem.W.mg_of X G a_AnyOf, ⟨mk_AnyOf, a6, i6, kc_AnyOf⟩, ok_AnyOf___init__ F6 T , b6⟩
  have D_writes_number : DefX l.prog w K mg base "writes_number" 1 ["word"] sp_writes := ⟨_, _, PySem.W.mg_of X G a7, ok_writes_number F7 T , k7, b7⟩
  have D_number_of : DefX l.prog w K mg base "number_of" 3 ["word"] (sp_number C_NoWord) := ⟨_, _, PySem.W.mg_of X G a8, ok_number_of F8 T D_writes_number D_NoWord, k8, b8⟩
  have D_rule_of_part : DefX l.prog w K mg base "rule_of_part" 5 ["part"] (sp_part C_NoRule) := ⟨_, _, PySem.W.mg_of X G a10, ok_rule_of_part F10 T D_number_of D_NoRuleH D_LastFew D_OneOfEach_d1 D_OneOfEach D_Apart D_Sealed D_NoRule, k10, b10⟩
  have D_rule_of : DefX l.prog w K mg base "rule_of" 6 ["text"] (sp_ruleof C_AnyOf C_NoRule) := ⟨_, _, PySem.W.mg_of X G a9, ok_rule_of F9 T D_AnyOf D_rule_of_part, k9, b9⟩
  have D__law_cell_at : DefX l.prog w K mg base "_law_cell_at" 1 ["_law_script", "_law_k"] (sp_cell K) := ⟨_, _, PySem.W.mg_of X G a11, ok__law_cell_at F11 T , k11, b11⟩
  have D__law_whole : DefX l.prog w K mg base "_law_whole" 1 ["_law_found"] sp_whole := ⟨_, _, PySem.W.mg_of X G a12, ok__law_whole F12 T , k12, b12⟩
  have D__law_stream : DefX l.prog w K mg base "_law_stream" 1 ["_law_cell", "_law_many"] sp_stream := ⟨_, _, PySem.W.mg_of X G a13, ok__law_stream F13 T , k13, b13⟩
  have D__law_word : DefX l.prog w K mg base "_law_word" 2 ["_law_cell"] sp_lword := ⟨_, _, PySem.W.mg_of X G a14, ok__law_word F14 T D__law_stream, k14, b14⟩
  have D__law_part : DefX l.prog w K mg base "_law_part" 3 ["_law_cell"] sp_lpart := ⟨_, _, PySem.W.mg_of X G a15, ok__law_part F15 T D__law_stream D__law_word, k15, b15⟩
  have D__law_sign : DefX l.prog w K mg base "_law_sign" 1 ["_law_cell"] sp_sign := ⟨_, _, PySem.W.mg_of X G a16, ok__law_sign F16 T , k16, b16⟩
  have D__law_spoilt : DefX l.prog w K mg base "_law_spoilt" 2 ["_law_text", "_law_cell"] sp_spoilt := ⟨_, _, PySem.W.mg_of X G a17, ok__law_spoilt F17 T D__law_stream D__law_sign, k17, b17⟩
  have D__law_value : DefX l.prog w K mg base "_law_value" 1 ["_law_word_here"] sp_value := ⟨_, _, PySem.W.mg_of X G a18, ok__law_value F18 T , k18, b18⟩
  have D__law_fault : DefX l.prog w K mg base "_law_fault" 2 ["_law_part_here"] sp_fault := ⟨_, _, PySem.W.mg_of X G a19, ok__law_fault F19 T D__law_value, k19, b19⟩
  have D__law_due : DefX l.prog w K mg base "_law_due" 3 ["_law_text"] sp_ldue := ⟨_, _, PySem.W.mg_of X G a20, ok__law_due F20 T D__law_fault, k20, b20⟩
  have D__law_tried : DefX l.prog w K mg base "_law_tried" 7 ["_law_text"] sp_tried := ⟨_, _, PySem.W.mg_of X G a21, ok__law_tried F21 T D_rule_of D__law_due D__law_whole, k21, b21⟩
  exact ok_law F22 T D__law_cell_at D__law_part D__law_tried D__law_spoilt
theorem walk {l : PySem.W.OpenLaw} {q : Program} {loose : List Str} {XP : (Str->Option Value)->Heap->Prop} {YP : World->Heap->Prop} {d : DefRec} {K : Params->PySem.W.Frag} (hn : l.most = some 63) (hdf : d.params.defaults = [])
    (hY : ∀ (w : World) (h : Heap), YP w h->(K w.params).In h)
    (F : ∀ (w : World) (mg : Str->Option Value) (fa : Addr) (h : Heap), (K w.params).In h->h.Ns mainGlobals mg->mg d.name = some (.ref fa) →
      ∃ fd : FuncData, (∀ (s : Shared) (u : Value), BindsTo s fd ⟨[u], []⟩ [("_law_script", u)]) /\ ∀ base : Heap, (K w.params).In base->base.Ns mainGlobals mg->FnOk l.prog w (K w.params) mg base (CXx l.prog w) 8 fa fd ["_law_script"] (sp_law (K w.params))) :
    PySem.W.WalkO q loose XP YP l.row.toRowW d [] (fun f vs => PySem.call f vs) :=
  L2.walk_of (n := 63) (k := 8) (x := "_law_script") (CX := fun w => CXx l.prog w) (sp := fun w => sp_law (K w.params)) hn (by decide) hdf ⟨rfl, by decide, by decide⟩ hY F (fun _ _ a ns hl _ hS => ⟨a, ns, rfl, hS, hl, fun _ => rfl⟩) fun _ _ _ _ _ z => L2.cxx_no z
end Mine
open PySem PySem.W PyProof.Rows
noncomputable def PySem.W.Fast.tw2824380546096122436 : PySem.Program := PySem.Challenge.pw_keepsakes_k46_texts_that_write_no_rule
theorem PySem.W.Fast.te2824380546096122436 : PySem.Challenge.pw_keepsakes_k46_texts_that_write_no_rule = PySem.W.Fast.tw2824380546096122436 := rfl
namespace Hd
noncomputable section
open PySem
structure Sc where
  (a b c d e f g h i j k l m n o p q r s t u v w x y : Str)
abbrev h0 : Sc := Sc.mk "<module>" "/claim/cut.py" "__main__" "__name__" "keepsakes.errors" "__doc__" "__package__" "__loader__" "__spec__" "__annotations__" "__builtins__" "__file__" "__cached__" "_wall" "KeepError" "k" "__module__" "__qualname__" "__firstlineno__" "__static_attributes__" "__weakref__" "NoWord" "__init__" "self" "word"
abbrev h1 : Sc := Sc.mk "NoWord.__init__" "keepsakes.rules" "NoRule" "found" "NoRule.__init__" "Rule" "picks" "days" "Rule.picks" "__dict__" "LastFew" "many" "LastFew.__init__" "LastFew.picks" "OneOfEach" "step" "OneOfEach.__init__" "OneOfEach.picks" "Apart" "gap" "Apart.__init__" "Apart.picks" "Sealed" "Sealed.__init__" "Sealed.picks"
abbrev h2 : Sc := Sc.mk "sealed_days" "keepsakes.ruletexts" "AnyOf" "MOST_FIGURES" "FIGURES" "0123456789" "writes_number" "number_of" "rule_of" "rules" "AnyOf.__init__" "AnyOf.picks" "keepsakes.words" "law_keepsakes_k46_texts_that_write_no_rule" "rule_of_part" "_law_cell_at" "_law_whole" "_law_stream" "_law_word" "_law_part" "_law_sign" "_law_spoilt" "_law_value" "_law_fault" "_law_due"
abbrev h3 : Sc := Sc.mk "_law_tried" "law" "_law_script" "_law_k" "_law_found" "_law_cell" "_law_many" "_law_number" "_law_xs" "_law_great" "_law_some" "_law_text" "_law_at" "_law_word_here" "_law_sign_here" "_law_rest" "_law_part_here" "_law_comma" "_law_fault_here" "_law_told" "_law_others" "_law_rule" "e" "_law_due_here" ""
abbrev h4 := ((((("tuple", "code"), "frame"), (("dict", "__main__.__loader__#opaque"), "function")), ((("ValueError", "builtin_function_or_method"), "type.__prepare__"), ("type", "Exception"))), (((("BaseException", "object"), "ValueError.__new__"), ("getset_descriptor", "ExceptionGroup.__weakref__")), ((("super", "object.__init_subclass__"), "object.__new__"), ("function.__dict__", "function.__dict__#set"))))
abbrev X : Type := (((Sc × Sc) × Sc) × ((Sc × (((((String × String) × String) × ((String × String) × String)) × (((String × String) × String) × (String × String))) × ((((String × String) × String) × (String × String)) × (((String × String) × String) × (String × String))))) × PySem.Program)) × PySem.Params
abbrev hs := (((h0, h1), h2), ((h3, h4), PySem.Challenge.pw_keepsakes_k46_texts_that_write_no_rule))
lay_quick h0 h1 h2 h3 h4 PySem.Challenge.pw_keepsakes_k46_texts_that_write_no_rule
lay_quick hs
abbrev l0 (x : X) := x.1.2.1.2.1.1.1.1.1
abbrev l1 (x : X) := x.1.2.1.2.1.1.1.1.2
abbrev l2 (x : X) := x.1.2.1.2.1.1.1.2
abbrev l3 (x : X) := x.1.2.1.2.1.1.2.1.1
abbrev l4 (x : X) := x.1.2.1.2.1.1.2.1.2
abbrev l5 (x : X) := x.1.2.1.2.1.1.2.2
abbrev l6 (x : X) := x.1.2.1.2.1.2.1.1.1
abbrev l7 (x : X) := x.1.2.1.2.1.2.1.1.2
abbrev l8 (x : X) := x.1.2.1.2.1.2.1.2
abbrev l9 (x : X) := x.1.2.1.2.1.2.2.1
abbrev l10 (x : X) := x.1.2.1.2.1.2.2.2
abbrev l11 (x : X) := x.1.2.1.2.2.1.1.1.1
abbrev l12 (x : X) := x.1.2.1.2.2.1.1.1.2
abbrev l13 (x : X) := x.1.2.1.2.2.1.1.2
abbrev l14 (x : X) := x.1.2.1.2.2.1.2.1
abbrev l15 (x : X) := x.1.2.1.2.2.1.2.2
abbrev l16 (x : X) := x.1.2.1.2.2.2.1.1.1
abbrev l17 (x : X) := x.1.2.1.2.2.2.1.1.2
abbrev l18 (x : X) := x.1.2.1.2.2.2.1.2
abbrev l19 (x : X) := x.1.2.1.2.2.2.2.1
abbrev l20 (x : X) := x.1.2.1.2.2.2.2.2
abbrev C0 (x : X) := x.1.1.1.1
abbrev C1 (x : X) := x.1.1.1.2
abbrev C2 (x : X) := x.1.1.2
abbrev C3 (x : X) := x.1.2.1.1
abbrev b0 (x : X) := PySem.W.boot_o_0 x.2
abbrev b1 (x : X) := PySem.W.boot_o_1 x.2
abbrev b2 (x : X) := PySem.W.boot_o_2 x.2
abbrev b3 (x : X) := PySem.W.boot_o_3 x.2
abbrev b4 (x : X) := PySem.W.boot_o_4 x.2
abbrev b5 (x : X) := PySem.W.boot_o_5 x.2
abbrev b6 (x : X) := PySem.W.boot_o_6 x.2
abbrev b7 (x : X) := PySem.W.boot_o_7 x.2
abbrev b8 (x : X) := PySem.W.boot_o_8 x.2
abbrev b9 (x : X) := PySem.W.boot_o_9 x.2
abbrev b10 (x : X) := PySem.W.boot_o_10 x.2
abbrev pg (x : X) : PySem.Program := x.1.2.2
def nth : List PySem.Stmt->Nat->PySem.Stmt := fun l => @List.rec PySem.Stmt (fun _ => Nat->PySem.Stmt) (fun _ => .Pass ⟨0, 0, 0, 0⟩) (fun a _ ih n => @Nat.rec (fun _ => PySem.Stmt) a (fun m _ => ih m) n) l
abbrev st (x : X) (k : Nat) : PySem.Stmt := nth (pg x).main.body k
def cb : PySem.Stmt->List PySem.Stmt | .ClassDef _ _ _ y _ _ _ _ _ _ _ => y | _ => []
abbrev sm (x : X) (k m : Nat) : PySem.Stmt := nth (cb (st x k)) m
def f0 : PySem.Stmt->Str | .FunctionDef y _ _ _ _ _ _ _ _ _ => y | _ => default
def f1 : PySem.Stmt->Arguments | .FunctionDef _ y _ _ _ _ _ _ _ _ => y | _ => default
def f2 : PySem.Stmt->List Stmt | .FunctionDef _ _ y _ _ _ _ _ _ _ => y | _ => []
def f6 : PySem.Stmt->Scope | .FunctionDef _ _ _ _ _ _ y _ _ _ => y | _ => default
abbrev u0 := @PySem.Obj.mk
abbrev u1 := @PySem.Value.type
abbrev u2 := @Option.none.{0} (@Nat)
abbrev u3 := @PySem.Data.seq
abbrev u4 := @List.toArray.{0} (@PySem.Value)
abbrev u5 := @List.nil.{0} (@PySem.Value)
abbrev u6 := @List.toArray.{0} (@Option.{0} (@PySem.Value))
abbrev u7 := @List.nil.{0} (@Option.{0} (@PySem.Value))
abbrev u8 := @PySem.Value.none
abbrev u9 := @PySem.Data.fields
abbrev u10 := @List.cons.{0} (@PySem.Value)
abbrev u11 := @PySem.Value.str
abbrev u12 := @PySem.Value.int
abbrev u13 := @PySem.Value.ref
abbrev u14 := @PySem.Value.bool
abbrev u15 := @Bool.false
abbrev u16 := @PySem.Data.plain
abbrev u17 := @List.cons.{0} (@Option.{0} (@PySem.Value))
abbrev u18 := @Option.some.{0} (@PySem.Value)
abbrev u19 := @Option.none.{0} (@PySem.Value)
abbrev u20 := @PySem.Data.dict
abbrev u21 := @List.toArray.{0} (@PySem.DictEntry)
abbrev u22 := @List.cons.{0} (@PySem.DictEntry)
abbrev u23 := @PySem.DictEntry.mk
abbrev u24 := @PySem.PyData.keyHash
abbrev u25 := @PySem.Value.builtin
abbrev u26 := @List.nil.{0} (@PySem.DictEntry)
abbrev u27 := @PySem.Data.func
abbrev u28 := @PySem.FuncData.mk
abbrev u29 := @PySem.FuncBody.stmts
abbrev u30 := @List.nil.{0} (@Prod.{0, 0} (@PySem.Str) (@Nat))
abbrev u31 := @Bool.true
abbrev u32 := @PySem.Data.cls
abbrev u33 := @PySem.ClassData.mk
abbrev u34 := @List.nil.{0} (@PySem.Str)
abbrev u35 := @Option.none.{0} (@Bool)
abbrev u36 := @List.cons.{0} (@Prod.{0, 0} (@Nat) (@PySem.Obj))
abbrev u37 := @Prod.mk.{0, 0} (@Nat) (@PySem.Obj)
abbrev u38 := @List.nil.{0} (@Prod.{0, 0} (@Nat) (@PySem.Obj))
abbrev u39 := @PySem.Heap.mk
abbrev u40 := @Array.mk.{0} (@PySem.Obj)
abbrev u41 := @List.cons.{0} (@PySem.Obj)
abbrev u42 := @List.nil.{0} (@PySem.Obj)
abbrev u43 := @PySem.Life.mk
abbrev u44 := @List.nil.{0} (@Nat)
abbrev u45 := @List.nil.{0} (@Prod.{0, 0} (@Nat) (@Nat))
abbrev u46 := @List.toArray.{0} (@Nat)
abbrev u47 := @List.cons.{0} (@Int)
abbrev u48 := @List.nil.{0} (@Int)
abbrev u49 := @PySem.W.BT.node
abbrev u50 := @PySem.W.BT.nil
abbrev M (c : PySem.Value) (d : PySem.Data) : PySem.Obj := PySem.Obj.mk c none d #[]
abbrev E (x : X) (s : PySem.Str) (n : Nat) (v : PySem.Value) : PySem.DictEntry := ⟨PySem.PyData.keyHash x.2 s, .str s n, v⟩
abbrev N (o : X->PySem.Obj) (l r : X->PySem.W.BT) : X->PySem.W.BT := fun x => .node (o x) (l x) (r x)
abbrev Z : X->PySem.W.BT := fun _ => .nil
abbrev Q (o : X->PySem.Obj) (l : X->List PySem.Obj) : X->List PySem.Obj := fun x => o x :: l x
abbrev R : X->List PySem.Obj := fun _ => []
abbrev J (k : Nat) (o : X->PySem.Obj) (l : X->List (Nat × PySem.Obj)) : X->List (Nat × PySem.Obj) := fun x => (k, o x) :: l x
abbrev I : X->List (Nat × PySem.Obj) := fun _ => []
def inz : PySem.W.BT->Nat->PySem.Obj->PySem.W.BT
  | .nil, _, o => .node o .nil .nil
  | .node v l r, i, o => if i = 0 then .node o l r else if i % 2 = 1 then .node v (inz l (i / 2) o) r else .node v l (inz r (i / 2 - 1) o)
def gi : List (X->PySem.Obj)->Nat->X->PySem.W.BT->PySem.W.BT
  | [], _, _, t => t
  | o :: l, k, x, t => gi l (k + 1) x (inz t k (o x))
def G (t : X->PySem.W.BT) (k : Nat) (l : List (X->PySem.Obj)) : X->PySem.W.BT := fun x => gi l k x (t x)
def ap {α : Type} : List α->List α->List α
  | [], l => l
  | a :: k, l => a :: ap k l
def sz {α : Type} : List α->Nat->α->List α
  | [], _, _ => []
  | _ :: l, 0, b => b :: l
  | a :: l, i + 1, b => a :: sz l i b
def mp (x : X) : List (X->PySem.Obj)->List PySem.Obj
  | [] => []
  | o :: l => o x :: mp x l
def il {α : Type} : List α->List α->List α
  | [], l => l
  | a :: k, [] => a :: k
  | a :: k, b :: m => a :: b :: il k m
def fl : PySem.W.BT->List PySem.Obj
  | .nil => []
  | .node o l r => o :: il (fl l) (fl r)
def pj : List PySem.Obj->Nat->List Nat->List (Nat × PySem.Obj)
  | o :: l, k, a :: m => if k = a then (a, o) :: pj l (k + 1) m else pj l (k + 1) (a :: m)
  | _, _, _ => []
structure Nf {α : Type} (e : α) where
  v : α
  h : v = e
abbrev nf {α : Type} (e : α) (t : Nf e := by refine' ⟨_, ?_⟩; rotate_left; dsimp [G, gi, inz, ap, sz, mp, il, fl, pj]; rfl) : α := t.v
def k0 (x : X) : PySem.Obj := (M (u1 (l0 x)) (u3 (u4 u5) 0))
def k1 (x : X) (a0 : PySem.Str) (a1 a2 a3 : Nat) (a4 : Int) (a5 a6 : Nat) (a7 : Int) (a8 : Nat) : PySem.Obj := (M (u1 (l1 x)) (u9 (u4 [(u11 a0 a1), (u11 a0 a2), (u11 (C0 x).b a3), (u12 a4 0), (u12 0 0), (u12 0 0), (u12 0 0), (u12 0 0), (u13 a5), (u14 u15), (u12 181 0), (u13 a6), u8, u8, u8, u8, (u12 a7 0), (u12 a4 0), (u11 (C0 x).b a8)])))
def k2 (x : X) (a0 a1 : Nat) (a2 : PySem.Str) (a3 : Nat) : PySem.Obj := (u0 (u1 (l2 x)) u2 u16 (u6 [(u18 (u13 a0)), (u18 (u13 3)), (u18 (u13 a1)), u19, (u18 (u11 a2 a3)), u19, (u18 (u13 0))]))
def k3 (x : X) (a0 a1 : Int) (a2 : Nat) (a3 : Int) (a4 : Nat) : PySem.Obj := (M u8 (u9 (u4 [(u12 a0 0), (u12 a1 0), (u13 a2), (u12 a3 0), (u12 a1 0), (u13 a4)])))
def k4 (x : X) (a0 : PySem.Str) (a1 : Nat) : PySem.Obj := (M (u1 (l0 x)) (u3 (u4 [(u11 a0 a1)]) 0))
def k5 (x : X) (a0 : PySem.Str) (a1 : PySem.Stmt) : PySem.Obj := (M u8 (u27 (u28 a0 a0 (f1 a1) (u29 (f2 a1)) (f6 a1) 0 u30 u8 u8 u8 u8 u2 u8 u8 0)))
def k6 (x : X) (a0 : PySem.Str) (a1 : Nat) (a2 : PySem.Str) (a3 a4 : Nat) (a5 a6 : Int) (a7 a8 a9 a10 a11 : Nat) (a12 : Int) (a13 : Nat) : PySem.Obj := (M (u1 (l1 x)) (u9 (u4 [(u11 a0 a1), (u11 a2 a3), (u11 (C0 x).b a4), (u12 a5 0), (u12 a6 0), (u12 0 0), (u12 0 0), (u12 3 0), (u13 a7), (u14 u31), (u12 181 0), (u13 a8), u8, (u13 a9), (u13 a10), (u13 a11), (u12 a12 0), (u12 a5 0), (u11 (C0 x).b a13)])))
def k7 (x : X) (a0 : PySem.Str) (a1 : PySem.Stmt) (a2 : PySem.Str) (a3 a4 : Nat) : PySem.Obj := (M (u1 (l5 x)) (u27 (u28 a0 a0 (f1 a1) (u29 (f2 a1)) (f6 a1) 3 u30 u8 u8 u8 (u11 a2 a3) u2 (u13 a4) u8 0)))
def k8 (x : X) : PySem.Obj := (M (u1 (l7 x)) (u9 (u4 [(u25 (l8 x)), (u1 (l9 x))])))
def k9 (x : X) (a0 a1 : Nat) (a2 : Int) (a3 : Nat) (a4 : PySem.Str) (a5 a6 : Nat) (a7 : PySem.Str) (a8 a9 a10 a11 : Nat) : PySem.Obj := (M (u1 (l3 x)) (u20 (u21 [(E x (C0 x).q a0 (u11 (C0 x).e 194)), (E x (C0 x).s a1 (u12 a2 a3)), (E x a4 a5 (u13 a6)), (E x a7 a8 (u13 a9)), (E x (C0 x).f a10 u8)]) a11))
def k10 (x : X) (a0 : Nat) : PySem.Obj := (M (u1 (l16 x)) (u9 (u4 [(u13 a0), (u13 a0), (u13 a0)])))
def k11 (x : X) (a0 : Nat) : PySem.Obj := (M (u1 (l7 x)) (u9 (u4 [(u25 (l17 x)), (u13 a0)])))
def k12 (x : X) (a0 : Nat) : PySem.Obj := (M (u1 (l0 x)) (u3 (u4 [(u13 a0)]) 0))
def k13 (x : X) (a0 : Nat) (a1 : PySem.Str) (a2 a3 : Nat) (a4 : PySem.Str) (a5 a6 : Nat) (a7 : Int) (a8 : Nat) (a9 : PySem.Str) (a10 a11 a12 a13 : Nat) : PySem.Obj := (M (u1 (l3 x)) (u20 (u21 [(E x (C0 x).q a0 (u11 a1 a2)), (E x (C0 x).r a3 (u11 a4 a5)), (E x (C0 x).s a6 (u12 a7 a8)), (E x a9 a10 (u13 a11)), (E x (C0 x).t a12 (u13 a13))]) 5))
def k14 (x : X) (a0 : Int) (a1 : Nat) : PySem.Obj := (M u8 (u9 (u4 [(u12 a0 0), (u12 4 0), (u13 a1)])))
def k15 (x : X) (a0 : PySem.Str) (a1 : Nat) (a2 : PySem.Str) (a3 : Nat) : PySem.Obj := (M (u1 (l0 x)) (u3 (u4 [(u11 a0 a1), (u11 a2 a3)]) 0))
def k16 (x : X) (a0 a1 : PySem.Str) (a2 a3 : PySem.Stmt) : PySem.Obj := (M u8 (u27 (u28 a0 a1 (f1 a2) (u29 (f2 a2)) (f6 a3) 0 u30 u8 u8 u8 u8 u2 u8 u8 0)))
def k17 (x : X) (a0 a1 : PySem.Str) (a2 a3 : PySem.Stmt) (a4 : PySem.Str) (a5 a6 : Nat) : PySem.Obj := (M (u1 (l5 x)) (u27 (u28 a0 a1 (f1 a2) (u29 (f2 a2)) (f6 a3) 3 u30 u8 u8 u8 (u11 a4 a5) u2 (u13 a6) u8 0)))
def k18 (x : X) (a0 a1 : Nat) (a2 : PySem.Str) (a3 a4 : Nat) (a5 : Int) (a6 a7 a8 a9 a10 a11 a12 : Nat) : PySem.Obj := (M (u1 (l3 x)) (u20 (u21 [(E x (C0 x).q a0 (u11 (C1 x).b 264)), (E x (C0 x).r a1 (u11 a2 a3)), (E x (C0 x).s a4 (u12 a5 a6)), (E x (C0 x).w a7 (u13 a8)), (E x (C1 x).g a9 (u13 a10)), (E x (C0 x).t a11 (u13 a12))]) 6))
def k19 (x : X) (a0 a1 : Nat) (a2 : Int) (a3 a4 a5 a6 a7 a8 a9 a10 : Nat) : PySem.Obj := (M (u1 (l3 x)) (u20 (u21 [(E x (C0 x).q a0 (u11 (C1 x).b 264)), (E x (C0 x).s a1 (u12 a2 a3)), (E x (C0 x).w a4 (u13 a5)), (E x (C1 x).g a6 (u13 a7)), (E x (C0 x).t a8 (u13 a9)), (E x (C0 x).f a10 u8)]) 2))
def k20 (x : X) (a0 : PySem.Str) (a1 a2 a3 a4 a5 : Nat) : PySem.Obj := (u0 (u1 (l9 x)) u2 (u32 (u33 a0 [(u13 89)] [(u13 a1), (u13 89), (u1 (l12 x))] a2 a0 u31 u34 u5 u15 u35 u15)) (u6 [(u18 (u13 a3)), u19, (u18 (u11 a0 a4)), (u18 (u11 a0 a5)), (u18 (u25 (l18 x))), (u18 (u14 u31))]))
def k21 (x : X) (a0 : PySem.Str) (a1 : Nat) (a2 : PySem.Str) (a3 a4 : Nat) (a5 a6 : Int) (a7 a8 a9 : Nat) (a10 : Int) (a11 : Nat) : PySem.Obj := (M (u1 (l1 x)) (u9 (u4 [(u11 a0 a1), (u11 a2 a3), (u11 (C0 x).b a4), (u12 a5 0), (u12 a6 0), (u12 0 0), (u12 0 0), (u12 3 0), (u13 a7), (u14 u31), (u12 181 0), (u13 a8), u8, u8, u8, (u13 a9), (u12 a10 0), (u12 a5 0), (u11 (C0 x).b a11)])))
def k22 (x : X) (a0 : PySem.Stmt) : PySem.Obj := (M u8 (u27 (u28 (f0 a0) (f0 a0) (f1 a0) (u29 (f2 a0)) (f6 a0) 0 u30 u8 u8 u8 u8 u2 u8 u8 0)))
def k23 (x : X) (a0 : PySem.Stmt) (a1 : PySem.Str) (a2 a3 : Nat) : PySem.Obj := (M (u1 (l5 x)) (u27 (u28 (f0 a0) (f0 a0) (f1 a0) (u29 (f2 a0)) (f6 a0) 3 u30 u8 u8 u8 (u11 a1 a2) u2 (u13 a3) u8 0)))
variable (x : X)
def o43 := k0 x 
def o44 (x : X) : Obj := (M u8 (u9 (u4 u5)))
def o45 := k1 x (C0 x).a 182 183 184 1 11 12 185 186
def o46 := k2 x 13 3 (C0 x).c 164
abbrev d0 (x : X) : List (@PySem.DictEntry) := [(E x (C0 x).d 165 (u11 (C0 x).e 194)), (E x (C0 x).f 166 u8), (E x (C0 x).g 167 u8), (E x (C0 x).h 168 (u25 (l4 x))), (E x (C0 x).i 169 u8), (E x (C0 x).j 170 (u13 6)), (E x (C0 x).k 171 (u13 4)), (E x (C0 x).l 173 (u11 (C0 x).b 172)), (E x (C0 x).m 174 u8), (E x (C0 x).n 193 (u13 21)), (E x (C0 x).o 213 (u13 31))]
def o49 := (M (u1 (l3 x)) (u20 (u21 (d0 x)) 11))
def o50 := k3 x 1 0 20 5 27
def o53 := k4 x (C0 x).p 190
def o55 := k5 x (C0 x).n (st x 0)
def o56 := k6 x (C0 x).n 187 (C0 x).n 188 189 1 1 15 16 17 18 19 191 192
def o57 := k7 x (C0 x).n (st x 0) (C0 x).c 164 20
def o58 := (M (u1 (l0 x)) (u3 (u4 [(u1 (l6 x))]) 0))
def o59 := k8 x 
def o60 := (M (u1 (l3 x)) (u20 (u21 [(E x (C0 x).q 203 (u11 (C0 x).e 194)), (E x (C0 x).r 205 (u11 (C0 x).o 204)), (E x (C0 x).s 207 (u12 5 206)), (E x (C0 x).t 208 (u13 29))]) 4))
def o63 := k1 x (C0 x).o 198 199 200 5 25 26 201 202
def o64 := k2 x 27 24 (C0 x).e 194
def o66 := k9 x 203 207 5 206 (C0 x).t 208 29 (C0 x).u 210 32 211 3
abbrev d2 (x : X) : List (@PySem.Value) := [(u13 31), (u1 (l6 x)), (u1 (l10 x)), (u1 (l11 x)), (u1 (l12 x))]
abbrev d3 (x : X) : List (@Option.{0} (@PySem.Value)) := [(u18 (u13 22)), u19, (u18 (u11 (C0 x).o 196)), (u18 (u11 (C0 x).o 204)), (u18 (u25 (l13 x))), (u18 (u14 u31))]
def o67 := (u0 (u1 (l9 x)) u2 (u32 (u33 (C0 x).o [(u1 (l6 x))] (d2 x) 30 (C0 x).o u31 u34 u5 u15 u35 u15)) (u6 (d3 x)))
def o68 := (M (u1 (l14 x)) (u9 (u4 [(u11 (C0 x).u 209), (u13 31), (u25 (l15 x)), u8])))
def o69 := k10 x 31
def o70 := k11 x 31
abbrev d5 (x : X) : List (@PySem.DictEntry) := (nf (ap (d0 x) [(E x (C0 x).v 238 (u13 51))]))
def o71 := (M (u1 (l3 x)) (u20 (u21 (d5 x)) 12))
abbrev d6 (x : X) : List (@PySem.Value) := [(u12 1 0), (u12 0 0), (u13 20), (u12 5 0), (u12 0 0), (u13 27), (u12 7 0), (u12 0 0), (u13 40)]
def o72 := (M u8 (u9 (u4 (d6 x))))
def o73 := (u0 (u1 (l9 x)) u2 (u32 (u33 (C0 x).o [(u1 (l6 x))] ((d2 x)) 30 (C0 x).o u31 u34 [(u13 51)] u15 u35 u15)) (u6 ((d3 x))))
def o74 := k12 x 31
def o76 := k13 x 221 (C0 x).e 194 223 (C0 x).v 222 225 7 224 (C0 x).w 233 48 235 49
def o78 := k14 x 9 47
def o79 := k1 x (C0 x).v 216 217 218 7 38 39 219 220
def o80 := k2 x 40 37 (C0 x).e 194
def o83 := k15 x (C0 x).x 229 (C0 x).y 230
def o85 := k16 x (C0 x).w (C1 x).a (sm x 3 0) (sm x 3 0)
def o86 := k6 x (C0 x).w 226 (C1 x).a 227 228 9 2 42 43 44 45 46 231 232
def o87 := k17 x (C0 x).w (C1 x).a (sm x 3 0) (sm x 3 0) (C0 x).e 194 47
def o88 := k4 x (C0 x).y 234
def o89 := k9 x 221 225 7 224 (C0 x).w 233 48 (C0 x).t 235 49 236 2
abbrev d9 (x : X) : List (@PySem.Value) := [(u13 51), (u13 31), (u1 (l6 x)), (u1 (l10 x)), (u1 (l11 x)), (u1 (l12 x))]
def o90 := (u0 (u1 (l9 x)) u2 (u32 (u33 (C0 x).v [(u13 31)] (d9 x) 50 (C0 x).v u31 u34 u5 u15 u35 u15)) (u6 [(u18 (u13 35)), u19, (u18 (u11 (C0 x).v 214)), (u18 (u11 (C0 x).v 222)), (u18 (u25 (l13 x))), (u18 (u14 u31))]))
def o91 := k10 x 51
def o92 := k11 x 51
abbrev d11 (x : X) : List (@PySem.DictEntry) := (nf (ap (sz (d5 x) 0 (E x (C0 x).d 165 (u11 (C1 x).b 264))) [(E x (C1 x).c 263 (u13 70))]))
def o93 := (M (u1 (l3 x)) (u20 (u21 (d11 x)) 13))
abbrev d12 (x : X) : List (@PySem.Value) := (nf (ap (d6 x) [(u12 11 0), (u12 0 0), (u13 59)]))
def o94 := (M u8 (u9 (u4 (d12 x))))
def o95 := (u0 (u1 (l9 x)) u2 (u32 (u33 (C0 x).o [(u1 (l6 x))] ((d2 x)) 30 (C0 x).o u31 u34 [(u13 51), (u13 70)] u15 u35 u15)) (u6 ((d3 x))))
def o98 := k13 x 246 (C0 x).e 194 248 (C1 x).c 247 250 11 249 (C0 x).w 258 67 260 68
def o100 := k14 x 13 66
def o101 := k1 x (C1 x).c 241 242 243 11 57 58 244 245
def o102 := k2 x 59 56 (C0 x).e 194
def o105 := k15 x (C0 x).x 254 (C1 x).d 255
def o107 := k16 x (C0 x).w (C1 x).e (sm x 4 0) (sm x 4 0)
def o108 := k6 x (C0 x).w 251 (C1 x).e 252 253 13 2 61 62 63 64 65 256 257
def o109 := k17 x (C0 x).w (C1 x).e (sm x 4 0) (sm x 4 0) (C0 x).e 194 66
def o110 := k4 x (C1 x).d 259
def o111 := k9 x 246 250 11 249 (C0 x).w 258 67 (C0 x).t 260 68 261 2
def o112 := (u0 (u1 (l9 x)) u2 (u32 (u33 (C1 x).c [(u13 31)] ((nf (sz (d9 x) 0 (u13 70)))) 69 (C1 x).c u31 u34 u5 u15 u35 u15)) (u6 [(u18 (u13 54)), u19, (u18 (u11 (C1 x).c 239)), (u18 (u11 (C1 x).c 247)), (u18 (u25 (l13 x))), (u18 (u14 u31))]))
def o113 := k10 x 70
def o114 := k11 x 70
abbrev d17 (x : X) : List (@PySem.DictEntry) := (nf (ap (d11 x) [(E x (C1 x).f 293 (u13 89))]))
def o115 := (M (u1 (l3 x)) (u20 (u21 (d17 x)) 14))
abbrev d18 (x : X) : List (@PySem.Value) := (nf (ap (d12 x) [(u12 16 0), (u12 0 0), (u13 78)]))
def o116 := (M u8 (u9 (u4 (d18 x))))
def o119 := k13 x 273 (C1 x).b 264 275 (C1 x).f 274 277 16 276 (C1 x).g 285 86 286 87
def o121 := k14 x 18 85
def o122 := k1 x (C1 x).f 268 269 270 16 76 77 271 272
def o123 := k2 x 78 75 (C1 x).b 264
def o126 := k15 x (C0 x).x 281 (C1 x).h 282
def o128 := k16 x (C1 x).g (C1 x).i (sm x 6 0) (sm x 6 0)
def o129 := k6 x (C1 x).g 278 (C1 x).i 279 280 18 2 80 81 82 83 84 283 284
def o130 := k17 x (C1 x).g (C1 x).i (sm x 6 0) (sm x 6 0) (C1 x).b 264 85
def o132 := (M (u1 (l3 x)) (u20 (u21 [(E x (C0 x).q 273 (u11 (C1 x).b 264)), (E x (C0 x).s 277 (u12 16 276)), (E x (C1 x).g 285 (u13 86)), (E x (C0 x).t 286 (u13 87)), (E x (C1 x).j 288 (u13 90)), (E x (C0 x).u 290 (u13 91)), (E x (C0 x).f 291 u8)]) 4))
abbrev d20 (x : X) : List (@Option.{0} (@PySem.Value)) := [u19, u19, (u18 (u11 (C1 x).f 266)), (u18 (u11 (C1 x).f 274)), (u18 (u25 (l18 x))), (u18 (u14 u31))]
def o133 := (u0 (u1 (l9 x)) u2 (u32 (u33 (C1 x).f [(u1 (l12 x))] [(u13 89), (u1 (l12 x))] 88 (C1 x).f u31 u34 u5 u15 u35 u15)) (u6 (d20 x)))
def o134 := (M (u1 (l14 x)) (u9 (u4 [(u11 (C1 x).j 287), (u13 89), (u25 (l19 x)), (u25 (l20 x))])))
def o135 := (M (u1 (l14 x)) (u9 (u4 [(u11 (C0 x).u 289), (u13 89), (u25 (l15 x)), u8])))
def o136 := k10 x 89
def o137 := k11 x 89
abbrev d23 (x : X) : List (@PySem.DictEntry) := (nf (ap (d17 x) [(E x (C1 x).k 326 (u13 117))]))
def o138 := (M (u1 (l3 x)) (u20 (u21 (d23 x)) 15))
abbrev d24 (x : X) : List (@PySem.Value) := (nf (ap (d18 x) [(u12 20 0), (u12 0 0), (u13 99)]))
def o139 := (M u8 (u9 (u4 (d24 x))))
def o140 := (u0 (u1 (l9 x)) u2 (u32 (u33 (C1 x).f [(u1 (l12 x))] [(u13 89), (u1 (l12 x))] 88 (C1 x).f u31 u34 [(u13 117)] u15 u35 u15)) (u6 ((d20 x))))
def o141 := k12 x 89
def o143 := k18 x 301 303 (C1 x).k 302 305 20 304 313 107 321 114 323 115
def o145 := k3 x 22 4 106 27 113
def o146 := k1 x (C1 x).k 296 297 298 20 97 98 299 300
def o147 := k2 x 99 96 (C1 x).b 264
def o150 := k15 x (C0 x).x 309 (C1 x).l 310
def o152 := k16 x (C0 x).w (C1 x).m (sm x 7 0) (sm x 7 0)
def o153 := k6 x (C0 x).w 306 (C1 x).m 307 308 22 2 101 102 103 104 105 311 312
def o154 := k17 x (C0 x).w (C1 x).m (sm x 7 0) (sm x 7 0) (C1 x).b 264 106
def o157 := k15 x (C0 x).x 317 (C1 x).h 318
def o159 := k16 x (C1 x).g (C1 x).n (sm x 7 1) (sm x 6 0)
def o160 := k6 x (C1 x).g 314 (C1 x).n 315 316 27 2 108 109 110 111 112 319 320
def o161 := k17 x (C1 x).g (C1 x).n (sm x 7 1) (sm x 6 0) (C1 x).b 264 113
def o162 := k4 x (C1 x).l 322
def o163 := k19 x 301 305 20 304 313 107 321 114 323 115 324
def o164 := k20 x (C1 x).k 117 116 94 294 302
def o165 := k10 x 117
def o166 := k11 x 117
abbrev d26 (x : X) : List (@PySem.DictEntry) := (nf (ap (d23 x) [(E x (C1 x).o 361 (u13 144))]))
def o167 := (M (u1 (l3 x)) (u20 (u21 (d26 x)) 16))
abbrev d27 (x : X) : List (@PySem.Value) := (nf (ap (d24 x) [(u12 29 0), (u12 0 0), (u13 125)]))
def o168 := (M u8 (u9 (u4 (d27 x))))
def o169 := (u0 (u1 (l9 x)) u2 (u32 (u33 (C1 x).f [(u1 (l12 x))] [(u13 89), (u1 (l12 x))] 88 (C1 x).f u31 u34 [(u13 117), (u13 144)] u15 u35 u15)) (u6 ((d20 x))))
def o172 := k18 x 334 336 (C1 x).o 335 338 29 337 347 134 355 141 358 142
def o174 := k3 x 31 4 133 39 140
def o175 := k1 x (C1 x).o 329 330 331 29 123 124 332 333
def o176 := k2 x 125 122 (C1 x).b 264
def o177 := (M (u1 (l0 x)) (u3 (u4 [u8]) 0))
def o180 := (M (u1 (l0 x)) (u3 (u4 [(u11 (C0 x).x 342), (u11 (C1 x).p 343), (u11 (C1 x).l 344)]) 0))
def o182 := k16 x (C0 x).w (C1 x).q (sm x 8 0) (sm x 8 0)
def o183 := k6 x (C0 x).w 339 (C1 x).q 340 341 31 3 128 129 130 131 132 345 346
def o184 := (M (u1 (l5 x)) (u27 (u28 (C0 x).w (C1 x).q (f1 (sm x 8 0)) (u29 (f2 (sm x 8 0))) (f6 (sm x 8 0)) 3 u30 (u13 127) u8 u8 (u11 (C1 x).b 264) u2 (u13 133) u8 0)))
def o187 := k15 x (C0 x).x 351 (C1 x).h 352
def o189 := k16 x (C1 x).g (C1 x).r (sm x 8 1) (sm x 6 0)
def o190 := k6 x (C1 x).g 348 (C1 x).r 349 350 39 2 135 136 137 138 139 353 354
def o191 := k17 x (C1 x).g (C1 x).r (sm x 8 1) (sm x 6 0) (C1 x).b 264 140
def o192 := k15 x (C1 x).l 356 (C1 x).p 357
def o193 := k19 x 334 338 29 337 347 134 355 141 358 142 359
def o194 := k20 x (C1 x).o 144 143 120 327 335
def o195 := k10 x 144
def o196 := k11 x 144
abbrev d29 (x : X) : List (@PySem.DictEntry) := (nf (ap (d26 x) [(E x (C1 x).s 394 (u13 170))]))
def o197 := (M (u1 (l3 x)) (u20 (u21 (d29 x)) 17))
abbrev d30 (x : X) : List (@PySem.Value) := (nf (ap (d27 x) [(u12 41 0), (u12 0 0), (u13 152)]))
def o198 := (M u8 (u9 (u4 (d30 x))))
def o199 := (u0 (u1 (l9 x)) u2 (u32 (u33 (C1 x).f [(u1 (l12 x))] [(u13 89), (u1 (l12 x))] 88 (C1 x).f u31 u34 [(u13 117), (u13 144), (u13 170)] u15 u35 u15)) (u6 ((d20 x))))
def o202 := k18 x 369 371 (C1 x).s 370 373 41 372 381 160 389 167 391 168
def o204 := k3 x 43 4 159 48 166
def o205 := k1 x (C1 x).s 364 365 366 41 150 151 367 368
def o206 := k2 x 152 149 (C1 x).b 264
def o209 := k15 x (C0 x).x 377 (C1 x).t 378
def o211 := k16 x (C0 x).w (C1 x).u (sm x 9 0) (sm x 9 0)
def o212 := k6 x (C0 x).w 374 (C1 x).u 375 376 43 2 154 155 156 157 158 379 380
def o213 := k17 x (C0 x).w (C1 x).u (sm x 9 0) (sm x 9 0) (C1 x).b 264 159
def o216 := k15 x (C0 x).x 385 (C1 x).h 386
def o218 := k16 x (C1 x).g (C1 x).v (sm x 9 1) (sm x 6 0)
def o219 := k6 x (C1 x).g 382 (C1 x).v 383 384 48 2 161 162 163 164 165 387 388
def o220 := k17 x (C1 x).g (C1 x).v (sm x 9 1) (sm x 6 0) (C1 x).b 264 166
def o221 := k4 x (C1 x).t 390
def o222 := k19 x 369 373 41 372 381 160 389 167 391 168 392
def o223 := k20 x (C1 x).s 170 169 147 362 370
def o224 := k10 x 170
def o225 := k11 x 170
abbrev d32 (x : X) : List (@PySem.DictEntry) := (nf (ap (d29 x) [(E x (C1 x).w 425 (u13 194))]))
def o226 := (M (u1 (l3 x)) (u20 (u21 (d32 x)) 18))
abbrev d33 (x : X) : List (@PySem.Value) := (nf (ap (d30 x) [(u12 50 0), (u12 0 0), (u13 178)]))
def o227 := (M u8 (u9 (u4 (d33 x))))
abbrev d34 (x : X) : List (@PySem.Value) := [(u13 117), (u13 144), (u13 170), (u13 194)]
def o228 := (u0 (u1 (l9 x)) u2 (u32 (u33 (C1 x).f [(u1 (l12 x))] [(u13 89), (u1 (l12 x))] 88 (C1 x).f u31 u34 (d34 x) u15 u35 u15)) (u6 ((d20 x))))
def o231 := k18 x 402 404 (C1 x).w 403 406 50 405 412 184 420 191 422 192
def o233 := k3 x 52 4 183 55 190
def o234 := k1 x (C1 x).w 397 398 399 50 176 177 400 401
def o235 := k2 x 178 175 (C1 x).b 264
def o238 := k16 x (C0 x).w (C1 x).x (sm x 10 0) (sm x 10 0)
def o239 := k21 x (C0 x).w 407 (C1 x).x 408 409 52 2 180 181 182 410 411
def o240 := k17 x (C0 x).w (C1 x).x (sm x 10 0) (sm x 10 0) (C1 x).b 264 183
def o243 := k15 x (C0 x).x 416 (C1 x).h 417
def o245 := k16 x (C1 x).g (C1 x).y (sm x 10 1) (sm x 6 0)
def o246 := k6 x (C1 x).g 413 (C1 x).y 414 415 55 2 185 186 187 188 189 418 419
def o247 := k17 x (C1 x).g (C1 x).y (sm x 10 1) (sm x 6 0) (C1 x).b 264 190
def o248 := k4 x (C2 x).a 421
def o249 := k19 x 402 406 50 405 412 184 420 191 422 192 423
def o250 := k20 x (C1 x).w 194 193 173 395 403
def o251 := k10 x 194
def o252 := k11 x 194
abbrev d36 (x : X) : List (@PySem.DictEntry) := (nf (ap (sz (d32 x) 0 (E x (C0 x).d 165 (u11 (C2 x).b 478))) [(E x (C2 x).c 458 (u13 220)), (E x (C2 x).d 460 (u12 20 459)), (E x (C2 x).e 464 (u11 (C2 x).f 463)), (E x (C2 x).g 470 (u13 227)), (E x (C2 x).h 477 (u13 234)), (E x (C2 x).i 485 (u13 239))]))
def o253 := (M (u1 (l3 x)) (u20 (u21 (d36 x)) 24))
abbrev d37 (x : X) : List (@PySem.Value) := (nf (ap (d33 x) [(u12 57 0), (u12 0 0), (u13 202), (u12 67 0), (u12 0 0), (u13 226), (u12 73 0), (u12 0 0), (u13 233), (u12 78 0), (u12 0 0), (u13 238)]))
def o254 := (M u8 (u9 (u4 (d37 x))))
def o255 := (u0 (u1 (l9 x)) u2 (u32 (u33 (C1 x).f [(u1 (l12 x))] [(u13 89), (u1 (l12 x))] 88 (C1 x).f u31 u34 ((nf (ap (d34 x) [(u13 220)]))) u15 u35 u15)) (u6 ((d20 x))))
def o258 := k18 x 433 435 (C2 x).c 434 437 57 436 445 210 453 217 455 218
def o260 := k3 x 59 4 209 62 216
def o261 := k1 x (C2 x).c 428 429 430 57 200 201 431 432
def o262 := k2 x 202 199 (C1 x).b 264
def o265 := k15 x (C0 x).x 441 (C2 x).j 442
def o267 := k16 x (C0 x).w (C2 x).k (sm x 11 0) (sm x 11 0)
def o268 := k6 x (C0 x).w 438 (C2 x).k 439 440 59 2 204 205 206 207 208 443 444
def o269 := k17 x (C0 x).w (C2 x).k (sm x 11 0) (sm x 11 0) (C1 x).b 264 209
def o272 := k15 x (C0 x).x 449 (C1 x).h 450
def o274 := k16 x (C1 x).g (C2 x).l (sm x 11 1) (sm x 6 0)
def o275 := k6 x (C1 x).g 446 (C2 x).l 447 448 62 2 211 212 213 214 215 451 452
def o276 := k17 x (C1 x).g (C2 x).l (sm x 11 1) (sm x 6 0) (C1 x).b 264 216
def o277 := k4 x (C2 x).j 454
def o278 := k19 x 433 437 57 436 445 210 453 217 455 218 456
def o279 := k20 x (C2 x).c 220 219 197 426 434
def o280 := k10 x 220
def o281 := k11 x 220
def o284 := k22 x (st x 15)
def o285 := k21 x (C2 x).g 465 (C2 x).g 466 467 67 1 223 224 225 468 469
def o286 := k23 x (st x 15) (C2 x).m 461 226
def o289 := k4 x (C0 x).y 474
def o291 := k5 x (C2 x).h (st x 16)
def o292 := k6 x (C2 x).h 471 (C2 x).h 472 473 73 1 228 229 230 231 232 475 476
def o293 := k7 x (C2 x).h (st x 16) (C2 x).m 461 233
def o296 := k5 x (C2 x).i (st x 18)
def o297 := k21 x (C2 x).i 480 (C2 x).i 481 482 78 1 235 236 237 483 484
def o298 := k7 x (C2 x).i (st x 18) (C2 x).b 478 238
def o299 := (M (u1 (l3 x)) (u20 (u21 ((nf (ap (sz (d36 x) 0 (E x (C0 x).d 165 (u11 (C2 x).n 492))) [(E x (C2 x).o 491 (u13 244)), (E x (C2 x).p 501 (u13 251)), (E x (C2 x).q 508 (u13 258)), (E x (C2 x).r 519 (u13 265)), (E x (C2 x).s 528 (u13 272)), (E x (C2 x).t 534 (u13 277)), (E x (C2 x).u 542 (u13 284)), (E x (C2 x).v 552 (u13 291)), (E x (C2 x).w 560 (u13 298)), (E x (C2 x).x 566 (u13 303)), (E x (C2 x).y 577 (u13 310)), (E x (C3 x).a 589 (u13 317)), (E x (C3 x).b 595 (u13 322))])))) 37))
def o300 := (M u8 (u9 (u4 ((nf (ap (d37 x) [(u12 82 0), (u12 0 0), (u13 243), (u12 100 0), (u12 0 0), (u13 250), (u12 104 0), (u12 0 0), (u13 257), (u12 106 0), (u12 0 0), (u13 264), (u12 113 0), (u12 0 0), (u13 271), (u12 125 0), (u12 0 0), (u13 276), (u12 132 0), (u12 0 0), (u13 283), (u12 136 0), (u12 0 0), (u13 290), (u12 150 0), (u12 0 0), (u13 297), (u12 157 0), (u12 0 0), (u13 302), (u12 168 0), (u12 0 0), (u13 309), (u12 177 0), (u12 0 0), (u13 316), (u12 192 0), (u12 0 0), (u13 321)]))))))
def o303 := k22 x (st x 19)
def o304 := k21 x (C2 x).o 486 (C2 x).o 487 488 82 1 240 241 242 489 490
def o305 := k23 x (st x 19) (C2 x).b 478 243
def o308 := k15 x (C3 x).c 497 (C3 x).d 498
def o310 := k22 x (st x 21)
def o311 := k6 x (C2 x).p 494 (C2 x).p 495 496 100 2 245 246 247 248 249 499 500
def o312 := k23 x (st x 21) (C2 x).n 492 250
def o315 := k4 x (C3 x).e 505
def o317 := k5 x (C2 x).q (st x 22)
def o318 := k6 x (C2 x).q 502 (C2 x).q 503 504 104 1 252 253 254 255 256 506 507
def o319 := k7 x (C2 x).q (st x 22) (C2 x).n 492 257
def o322 := (M (u1 (l0 x)) (u3 (u4 [(u11 (C3 x).f 512), (u11 (C3 x).g 513), (u11 (C3 x).e 514), (u11 (C3 x).h 515), (u11 (C3 x).d 516)]) 0))
def o324 := k22 x (st x 23)
def o325 := k6 x (C2 x).r 509 (C2 x).r 510 511 106 2 259 260 261 262 263 517 518
def o326 := k23 x (st x 23) (C2 x).n 492 264
def o329 := (M (u1 (l0 x)) (u3 (u4 [(u11 (C3 x).f 523), (u11 (C3 x).i 524), (u11 (C3 x).j 525)]) 0))
def o331 := k5 x (C2 x).s (st x 24)
def o332 := k6 x (C2 x).s 520 (C2 x).s 521 522 113 1 266 267 268 269 270 526 527
def o333 := k7 x (C2 x).s (st x 24) (C2 x).n 492 271
def o336 := k5 x (C2 x).t (st x 25)
def o337 := k21 x (C2 x).t 529 (C2 x).t 530 531 125 1 273 274 275 532 533
def o338 := k7 x (C2 x).t (st x 25) (C2 x).n 492 276
def o341 := k15 x (C3 x).f 538 (C3 x).k 539
def o343 := k5 x (C2 x).u (st x 26)
def o344 := k6 x (C2 x).u 535 (C2 x).u 536 537 132 1 278 279 280 281 282 540 541
def o345 := k7 x (C2 x).u (st x 26) (C2 x).n 492 283
def o348 := (M (u1 (l0 x)) (u3 (u4 [(u11 (C3 x).l 546), (u11 (C3 x).f 547), (u11 (C3 x).i 548), (u11 (C3 x).m 549)]) 0))
def o350 := k22 x (st x 27)
def o351 := k6 x (C2 x).v 543 (C2 x).v 544 545 136 2 285 286 287 288 289 550 551
def o352 := k23 x (st x 27) (C2 x).n 492 290
def o355 := k15 x (C3 x).n 556 (C3 x).o 557
def o357 := k5 x (C2 x).w (st x 28)
def o358 := k6 x (C2 x).w 553 (C2 x).w 554 555 150 1 292 293 294 295 296 558 559
def o359 := k7 x (C2 x).w (st x 28) (C2 x).n 492 297
def o362 := k5 x (C2 x).x (st x 29)
def o363 := k21 x (C2 x).x 561 (C2 x).x 562 563 157 1 299 300 301 564 565
def o364 := k7 x (C2 x).x (st x 29) (C2 x).n 492 302
def o367 := (M (u1 (l0 x)) (u3 (u4 [(u11 (C3 x).l 570), (u11 (C3 x).p 571), (u11 (C3 x).q 572), (u11 (C3 x).r 573), (u11 (C3 x).s 574)]) 0))
def o369 := k5 x (C2 x).y (st x 30)
def o370 := k6 x (C2 x).y 567 (C2 x).y 568 569 168 1 304 305 306 307 308 575 576
def o371 := k7 x (C2 x).y (st x 30) (C2 x).n 492 309
def o374 := (M (u1 (l0 x)) (u3 (u4 [(u11 (C3 x).l 581), (u11 (C3 x).t 582), (u11 (C3 x).u 583), (u11 (C3 x).v 584), (u11 (C3 x).w 585), (u11 (C3 x).x 586)]) 0))
def o376 := k5 x (C3 x).a (st x 31)
def o377 := k6 x (C3 x).a 578 (C3 x).a 579 580 177 1 311 312 313 314 315 587 588
def o378 := k7 x (C3 x).a (st x 31) (C2 x).n 492 316
def o381 := k5 x (C3 x).b (st x 32)
def o382 := k21 x (C3 x).b 590 (C3 x).b 591 592 192 1 318 319 320 593 594
def o383 := k7 x (C3 x).b (st x 32) (C2 x).n 492 321
def q1 (x : X) : PySem.Obj := (M u8 (u20 (u21 u26) 0))
abbrev tree47 : X->PySem.W.BT := fun x => nf (G Z 0 [b0, b1, b2, b3, b4, b5, b6, b7, b8, b9, b10, o43, o44, o45, o46] x)
abbrev tree70 : X->PySem.W.BT := fun x => nf (G (G (G tree47 3 [o49]) 12 [o50]) 15 [o43, o44, o53, o43, o55, o56, o57, o58, o59, o60, o43, o44, o63, o64, o43, o66, o67, o68, o69, o70] x)
abbrev tree92 : X->PySem.W.BT := fun x => nf (G (G (G (G tree70 3 [o71]) 12 [o72]) 31 [o73]) 35 [o74, o59, o76, o43, o78, o79, o80, o43, o44, o83, o43, o85, o86, o87, o88, o89, o90, o91, o92] x)
abbrev tree114 : X->PySem.W.BT := fun x => nf (G (G (G (G tree92 3 [o93]) 12 [o94]) 31 [o95]) 54 [o74, o59, o98, o43, o100, o101, o102, o43, o44, o105, o43, o107, o108, o109, o110, o111, o112, o113, o114] x)
abbrev tree137 : X->PySem.W.BT := fun x => nf (G (G (G tree114 3 [o115]) 12 [o116]) 73 [o43, o59, o119, o43, o121, o122, o123, o43, o44, o126, o43, o128, o129, o130, o43, o132, o133, o134, o135, o136, o137] x)
abbrev tree166 : X->PySem.W.BT := fun x => nf (G (G (G (G tree137 3 [o138]) 12 [o139]) 89 [o140]) 94 [o141, o59, o143, o43, o145, o146, o147, o43, o44, o150, o43, o152, o153, o154, o43, o44, o157, o43, o159, o160, o161, o162, o163, o164, o165, o166] x)
abbrev tree196 : X->PySem.W.BT := fun x => nf (G (G (G (G tree166 3 [o167]) 12 [o168]) 89 [o169]) 120 [o141, o59, o172, o43, o174, o175, o176, o177, o43, o44, o180, o43, o182, o183, o184, o43, o44, o187, o43, o189, o190, o191, o192, o193, o194, o195, o196] x)
abbrev tree225 : X->PySem.W.BT := fun x => nf (G (G (G (G tree196 3 [o197]) 12 [o198]) 89 [o199]) 147 [o141, o59, o202, o43, o204, o205, o206, o43, o44, o209, o43, o211, o212, o213, o43, o44, o216, o43, o218, o219, o220, o221, o222, o223, o224, o225] x)
abbrev tree252 : X->PySem.W.BT := fun x => nf (G (G (G (G tree225 3 [o226]) 12 [o227]) 89 [o228]) 173 [o141, o59, o231, o43, o233, o234, o235, o43, o44, o238, o239, o240, o43, o44, o243, o43, o245, o246, o247, o248, o249, o250, o251, o252] x)
abbrev tree298 : X->PySem.W.BT := fun x => nf (G (G (G (G tree252 3 [o253]) 12 [o254]) 89 [o255]) 197 [o141, o59, o258, o43, o260, o261, o262, o43, o44, o265, o43, o267, o268, o269, o43, o44, o272, o43, o274, o275, o276, o277, o278, o279, o280, o281, o43, o44, o284, o285, o286, o43, o44, o289, o43, o291, o292, o293, o43, o44, o296, o297, o298] x)
abbrev tree383 : X->PySem.W.BT := fun x => nf (G (G (G tree298 3 [o299]) 12 [o300]) 240 [o43, o44, o303, o304, o305, o43, o44, o308, o43, o310, o311, o312, o43, o44, o315, o43, o317, o318, o319, o43, o44, o322, o43, o324, o325, o326, o43, o44, o329, o43, o331, o332, o333, o43, o44, o336, o337, o338, o43, o44, o341, o43, o343, o344, o345, o43, o44, o348, o43, o350, o351, o352, o43, o44, o355, o43, o357, o358, o359, o43, o44, o362, o363, o364, o43, o44, o367, o43, o369, o370, o371, o43, o44, o374, o43, o376, o377, o378, o43, o44, o381, o382, o383] x)
def heap39 : X->PySem.W.Frag := fun x => nf (pj (fl ((G tree383 2 [q1]) x)) 0 [2, 3, 15, 17, 18, 20, 21, 22, 29, 30, 31, 32, 35, 42, 44, 45, 47, 48, 49, 50, 51, 54, 61, 63, 64, 66, 67, 68, 69, 70, 80, 82, 83, 85, 86, 87, 88, 89, 90, 91, 94, 101, 103, 104, 106, 107, 108, 110, 111, 113, 114, 115, 116, 117, 120, 127, 128, 130, 131, 133, 134, 135, 137, 138, 140, 141, 142, 143, 144, 147, 154, 156, 157, 159, 160, 161, 163, 164, 166, 167, 168, 169, 170, 173, 180, 183, 184, 185, 187, 188, 190, 191, 192, 193, 194, 197, 204, 206, 207, 209, 210, 211, 213, 214, 216, 217, 218, 219, 220, 223, 226, 227, 228, 230, 231, 233, 234, 235, 238, 239, 240, 243, 244, 245, 247, 248, 250, 251, 252, 254, 255, 257, 258, 259, 261, 262, 264, 265, 266, 268, 269, 271, 272, 273, 276, 277, 278, 280, 281, 283, 284, 285, 287, 288, 290, 291, 292, 294, 295, 297, 298, 299, 302, 303, 304, 306, 307, 309, 310, 311, 313, 314, 316, 317, 318, 321, 322])
def heap46 : X->PySem.Heap := fun x => u39 (u40 (nf (fl (tree47 x)))) (u43 u44 u44 u44 0 u45 u44 u15 (u46 u44) u44 0 u15 u15 u15 0 [2000, 10, 10] u15 0 u31 u44 u44 0 u15)
def heap384 : X->PySem.Heap := fun x => u39 (u40 (nf (fl (tree383 x)))) (u43 u44 u44 u44 0 u45 u44 u15 (u46 u44) u44 0 u15 u15 u15 0 [2000, 10, 10] u15 0 u31 u44 u44 0 u15)
end
end Hd
namespace PySem.W.Fast
noncomputable abbrev hdq {α : Type} (f : Hd.X->α) : PySem.Params->α := fun P => f (PySem.W.Fast.tw13745409909519247493, P)
theorem hdp {α : Type} (f : Hd.X->α) : (fun P => f (Hd.hs, P)) = hdq f := congrArg (fun σ P => f (σ, P)) PySem.W.Fast.te13745409909519247493
noncomputable def tw11723930749607955273 := hdq Hd.heap39
theorem te11723930749607955273 : (fun P => Hd.heap39 (Hd.hs, P)) = tw11723930749607955273 := hdp Hd.heap39
noncomputable def tw8876757138950621697 := hdq Hd.heap46
theorem te8876757138950621697 : (fun P => Hd.heap46 (Hd.hs, P)) = tw8876757138950621697 := hdp Hd.heap46
noncomputable def tw10302067967312377875 := hdq Hd.tree47
theorem te10302067967312377875 : (fun P => Hd.tree47 (Hd.hs, P)) = tw10302067967312377875 := hdp Hd.tree47
noncomputable def tw15473477229470638421 := hdq Hd.tree70
theorem te15473477229470638421 : (fun P => Hd.tree70 (Hd.hs, P)) = tw15473477229470638421 := hdp Hd.tree70
noncomputable def tw15199140799762313275 := hdq Hd.tree92
theorem te15199140799762313275 : (fun P => Hd.tree92 (Hd.hs, P)) = tw15199140799762313275 := hdp Hd.tree92
noncomputable def tw10873678748248297888 := hdq Hd.tree114
theorem te10873678748248297888 : (fun P => Hd.tree114 (Hd.hs, P)) = tw10873678748248297888 := hdp Hd.tree114
noncomputable def tw15491728348066026281 := hdq Hd.tree137
theorem te15491728348066026281 : (fun P => Hd.tree137 (Hd.hs, P)) = tw15491728348066026281 := hdp Hd.tree137
noncomputable def tw16982939684091532241 := hdq Hd.tree166
theorem te16982939684091532241 : (fun P => Hd.tree166 (Hd.hs, P)) = tw16982939684091532241 := hdp Hd.tree166
noncomputable def tw838897533851973145 := hdq Hd.tree196
theorem te838897533851973145 : (fun P => Hd.tree196 (Hd.hs, P)) = tw838897533851973145 := hdp Hd.tree196
noncomputable def tw14434492703740926240 := hdq Hd.tree225
theorem te14434492703740926240 : (fun P => Hd.tree225 (Hd.hs, P)) = tw14434492703740926240 := hdp Hd.tree225
noncomputable def tw17813352055782840865 := hdq Hd.tree252
theorem te17813352055782840865 : (fun P => Hd.tree252 (Hd.hs, P)) = tw17813352055782840865 := hdp Hd.tree252
noncomputable def tw1231655463831975021 := hdq Hd.tree298
theorem te1231655463831975021 : (fun P => Hd.tree298 (Hd.hs, P)) = tw1231655463831975021 := hdp Hd.tree298
noncomputable def tw12684982070397198528 := hdq Hd.tree383
theorem te12684982070397198528 : (fun P => Hd.tree383 (Hd.hs, P)) = tw12684982070397198528 := hdp Hd.tree383
noncomputable def tw6495601176969394417 := hdq Hd.heap384
theorem te6495601176969394417 : (fun P => Hd.heap384 (Hd.hs, P)) = tw6495601176969394417 := hdp Hd.heap384
end PySem.W.Fast
namespace Hd
noncomputable section
abbrev pw := PySem.Challenge.pw_keepsakes_k46_texts_that_write_no_rule
def pick (p : PySem.Program) (l : List Nat) : List PySem.Stmt := l.map fun i => p.main.body.getD i (.Pass ⟨0, 0, 0, 0⟩)
def vw (p : PySem.Program) (l : List Nat) : PySem.Program := { p with main := { p.main with body := pick p l } }
end
end Hd
noncomputable def PySem.W.Fast.tw12122899541403236118 : List PySem.Stmt := Hd.pick Hd.pw [9]
theorem PySem.W.Fast.te12122899541403236118 : Hd.pick Hd.pw [9] = PySem.W.Fast.tw12122899541403236118 := rfl
noncomputable def PySem.W.Fast.tw11633068322391575330 : List PySem.Stmt := Hd.pick Hd.pw [7]
theorem PySem.W.Fast.te11633068322391575330 : Hd.pick Hd.pw [7] = PySem.W.Fast.tw11633068322391575330 := rfl
noncomputable def PySem.W.Fast.tw7315528676356970187 : List PySem.Stmt := Hd.pick Hd.pw [4, 5]
theorem PySem.W.Fast.te7315528676356970187 : Hd.pick Hd.pw [4, 5] = PySem.W.Fast.tw7315528676356970187 := rfl
noncomputable def PySem.W.Fast.tw16445457021465770592 : List PySem.Stmt := Hd.pick Hd.pw [0, 1, 2]
theorem PySem.W.Fast.te16445457021465770592 : Hd.pick Hd.pw [0, 1, 2] = PySem.W.Fast.tw16445457021465770592 := rfl
noncomputable def PySem.W.Fast.tw1195775097261629348 : List PySem.Stmt := Hd.pick Hd.pw [11, 12, 13, 14, 15, 16, 17, 18]
theorem PySem.W.Fast.te1195775097261629348 : Hd.pick Hd.pw [11, 12, 13, 14, 15, 16, 17, 18] = PySem.W.Fast.tw1195775097261629348 := rfl
noncomputable def PySem.W.Fast.tw8738211794384806232 : List PySem.Stmt := Hd.pick Hd.pw [3]
theorem PySem.W.Fast.te8738211794384806232 : Hd.pick Hd.pw [3] = PySem.W.Fast.tw8738211794384806232 := rfl
noncomputable def PySem.W.Fast.tw17382184202702846791 : List PySem.Stmt := Hd.pick Hd.pw [8]
theorem PySem.W.Fast.te17382184202702846791 : Hd.pick Hd.pw [8] = PySem.W.Fast.tw17382184202702846791 := rfl
noncomputable def PySem.W.Fast.tw11093154304327621728 : List PySem.Stmt := Hd.pick Hd.pw [6]
theorem PySem.W.Fast.te11093154304327621728 : Hd.pick Hd.pw [6] = PySem.W.Fast.tw11093154304327621728 := rfl
noncomputable def PySem.W.Fast.tw7351508638217907648 : List PySem.Stmt := Hd.pick Hd.pw [19, 20, 21, 22, 23, 24, 25, 26, 27, 28, 29, 30, 31, 32]
theorem PySem.W.Fast.te7351508638217907648 : Hd.pick Hd.pw [19, 20, 21, 22, 23, 24, 25, 26, 27, 28, 29, 30, 31, 32] = PySem.W.Fast.tw7351508638217907648 := rfl
noncomputable def PySem.W.Fast.tw8271507908050068210 : List PySem.Stmt := Hd.pick Hd.pw [10]
theorem PySem.W.Fast.te8271507908050068210 : Hd.pick Hd.pw [10] = PySem.W.Fast.tw8271507908050068210 := rfl
noncomputable def PySem.W.Fast.tw475653804921252196 : PySem.Program := Hd.vw Hd.pw [0, 2, 3, 4, 6, 7, 8, 9, 10, 11, 12, 14, 15, 16, 18, 19, 21, 22, 23, 24, 25, 26, 27, 28, 29, 30, 31, 32]
theorem PySem.W.Fast.te475653804921252196 : Hd.vw Hd.pw [0, 2, 3, 4, 6, 7, 8, 9, 10, 11, 12, 14, 15, 16, 18, 19, 21, 22, 23, 24, 25, 26, 27, 28, 29, 30, 31, 32] = PySem.W.Fast.tw475653804921252196 := rfl
set_option maxRecDepth 100000 in
set_option maxHeartbeats 0 in
theorem PySem.Challenge.cw_keepsakes_k46_texts_that_write_no_rule_holds : PySem.Challenge.rw_keepsakes_k46_texts_that_write_no_rule.Holds := by
  w_on; o_law; k_head; (case hw => w_witness2)
  k_fill
  refine Mine.walk (l := PySem.Challenge.rw_keepsakes_k46_texts_that_write_no_rule) rfl rfl (fun w h Y => PySem.W.kIn_of Y) ?F
  case F =>
    intro w mg fa h KX G hmg
    refine' Mine.all_mk KX G hmg ?g_MOST_FIGURES ?g_FIGURES ?a_KeepError ?a_NoWord ?a_NoRule ?a_Rule ?a_LastFew ?a_OneOfEach ?a_Apart ?a_Sealed ?a_AnyOf ?clg ?clt ?xo_KeepError ?xs_KeepError ?xg_KeepError ?xh_KeepError ?xc_KeepError ?kc_KeepError ?xo_NoWord ?xs_NoWord ?xg_NoWord ?xh_NoWord ?xc_NoWord ?kc_NoWord ?n_NoWord_word ?xo_NoRule ?xs_NoRule ?xg_NoRule ?xh_NoRule ?xc_NoRule ?kc_NoRule ?n_NoRule_found ?pg_Rule ?hd_Rule ?po_Rule ?sa_Rule ?mk_Rule ?kc_Rule ?pg_LastFew ?hd_LastFew ?po_LastFew ?sa_LastFew ?mk_LastFew ?kc_LastFew ?n_LastFew_many ?pg_OneOfEach ?hd_OneOfEach ?po_OneOfEach ?sa_OneOfEach ?mk_OneOfEach ?kc_OneOfEach ?n_OneOfEach_step ?n_OneOfEach_many ?pg_Apart ?hd_Apart ?po_Apart ?sa_Apart ?mk_Apart ?kc_Apart ?n_Apart_gap ?pg_Sealed ?hd_Sealed ?po_Sealed ?sa_Sealed ?mk_Sealed ?kc_Sealed ?n_Sealed_sealed_days ?pg_AnyOf ?hd_AnyOf ?po_AnyOf ?sa_AnyOf ?mk_AnyOf ?kc_AnyOf ?n_AnyOf_rules ?a0 ?i0 ?l0 ?c0 ?k0 ?a1 ?i1 ?l1 ?c1 ?k1 ?a2 ?i2 ?l2 ?c2 ?k2 ?a3 ?i3 ?l3 ?c3 ?k3 ?y3 ?a4 ?i4 ?l4 ?c4 ?k4 ?a5 ?i5 ?l5 ?c5 ?k5 ?a6 ?i6 ?l6 ?c6 ?k6 ?a7 ?l7 ?c7 ?k7 ?a8 ?l8 ?c8 ?k8 ?a9 ?l9 ?c9 ?k9 ?a10 ?l10 ?c10 ?k10 ?a11 ?l11 ?c11 ?k11 ?a12 ?l12 ?c12 ?k12 ?a13 ?l13 ?c13 ?k13 ?a14 ?l14 ?c14 ?k14 ?a15 ?l15 ?c15 ?k15 ?a16 ?l16 ?c16 ?k16 ?a17 ?l17 ?c17 ?k17 ?a18 ?l18 ?c18 ?k18 ?a19 ?l19 ?c19 ?k19 ?a20 ?l20 ?c20 ?k20 ?a21 ?l21 ?c21 ?k21 ?a22 ?l22 ?c22 ?k22 ?z_len ?z_isinstance ?z_int ?z_bool ?z_str ?z_list ?z_tuple ?z_range ?z_min ?z_dict ?z_all ?z_ValueError ?clg2 ?clt2 ?kw ?kr ?kt1 ?kt2 ?kt3 ?ic_AnyOf ?io_AnyOf ?k_AnyOf
    case g_MOST_FIGURES | g_FIGURES | a_KeepError | a_NoWord | a_NoRule | a_Rule | a_LastFew | a_OneOfEach | a_Apart | a_Sealed | a_AnyOf | clg | clt | xo_KeepError | xs_KeepError | xg_KeepError | xh_KeepError | xc_KeepError | kc_KeepError | xo_NoWord | xs_NoWord | xg_NoWord | xh_NoWord | xc_NoWord | kc_NoWord | n_NoWord_word | xo_NoRule | xs_NoRule | xg_NoRule | xh_NoRule | xc_NoRule | kc_NoRule | n_NoRule_found | pg_Rule | hd_Rule | po_Rule | sa_Rule | mk_Rule | kc_Rule | pg_LastFew | hd_LastFew | po_LastFew | sa_LastFew | mk_LastFew | kc_LastFew | n_LastFew_many | pg_OneOfEach | hd_OneOfEach | po_OneOfEach | sa_OneOfEach | mk_OneOfEach | kc_OneOfEach | n_OneOfEach_step | n_OneOfEach_many | pg_Apart | hd_Apart | po_Apart | sa_Apart | mk_Apart | kc_Apart | n_Apart_gap | pg_Sealed | hd_Sealed | po_Sealed | sa_Sealed | mk_Sealed | kc_Sealed | n_Sealed_sealed_days | pg_AnyOf | hd_AnyOf | po_AnyOf | sa_AnyOf | mk_AnyOf | kc_AnyOf | n_AnyOf_rules | a0 | i0 | l0 | c0 | k0 | a1 | i1 | l1 | c1 | k1 | a2 | i2 | l2 | c2 | k2 | a3 | i3 | l3 | c3 | k3 | y3 | a4 | i4 | l4 | c4 | k4 | a5 | i5 | l5 | c5 | k5 | a6 | i6 | l6 | c6 | k6 | a7 | l7 | c7 | k7 | a8 | l8 | c8 | k8 | a9 | l9 | c9 | k9 | a10 | l10 | c10 | k10 | a11 | l11 | c11 | k11 | a12 | l12 | c12 | k12 | a13 | l13 | c13 | k13 | a14 | l14 | c14 | k14 | a15 | l15 | c15 | k15 | a16 | l16 | c16 | k16 | a17 | l17 | c17 | k17 | a18 | l18 | c18 | k18 | a19 | l19 | c19 | k19 | a20 | l20 | c20 | k20 | a21 | l21 | c21 | k21 | a22 | l22 | c22 | k22 | z_len | z_isinstance | z_int | z_bool | z_str | z_list | z_tuple | z_range | z_min | z_dict | z_all | z_ValueError | clg2 | clt2 | kw | kr | kt1 | kt2 | kt3 | ic_AnyOf | io_AnyOf | k_AnyOf => first | k_is | kit_is | kernel_rfl | decide
