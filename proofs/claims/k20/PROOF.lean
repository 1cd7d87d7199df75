import PyProof.Rows.All
import Wide.All
import OpenK.AllK
import Wide.FinOn
import Lean
import PyProof.EqAt
import PyProof.EqKinds
import PyProof.TupleCall
import PyProof.AttrMissHeap
import PyProof.DictWalks
import KE.KDictObj
import KE.KEqDict
import KE.KUnpack
import PyProof.Rows.SetFrom
import KE.KRevIter
import KE.KDictSum
import KE.KFmtOwn
import PyProof.FactsAll.set_1
import PyProof.FactsAll.set_2
import PyProof.FactsAll.tuple_1
import PyProof.FactsAll.tuple_2
import KE.KSortTup
import PyProof.SetRoads
import PyProof.DictValues
import PyProof.FactsAll.dict_4
import PyProof.Rows.CallKwBuiltin
import PyProof.DictCopy
import KE.KDictList
import KE.KPairComp
import PyProof.DictItems
import PyProof.MinMaxWalk
import PyProof.WalkInts
import PyProof.RulesTry
import PyProof.ListRange
import PyProof.RangeFor
import PyProof.Rows.StrNews2
import PyProof.Rows.CatFin
import PyProof.Rows.StrPartPair
import KE.IntTextText
import PyProof.Rows.StrLawsPart
import PySem.Challenge.RW_keepsakes_k20_lines_refused
set_option Elab.async false
set_option linter.all false
set_option maxRecDepth 100000
namespace L2
open PySem PySem.Spec PyProof.Rows
abbrev Key:=Sum Int Str
def keyIs:Key->Value->Bool
  | .inl k,v=>Value.isInt k v
  | .inr x,v=>Value.isStrOf x v
def keyH (w:World):Key->Int
  | .inl k=>hashInt k
  | .inr x=>hashStr w x
theorem keyIs_shape:∀ {k:Key} {v:Value},keyIs k v = true->(∃ i t,k = Sum.inl i /\ v = Value.int i t) ∨ (∃ x t,k = Sum.inr x /\ v = Value.str x t)
  | .inl i,v,h=>by
    obtain ⟨t,e⟩:=Value.isInt_shape (k:=i) (v:=v) h
    exact .inl ⟨i,t,rfl,e⟩
  | .inr x,v,h=>by
    obtain ⟨t,e⟩:=Value.isStrOf_shape (x:=x) (v:=v) h
    exact .inr ⟨x,t,rfl,e⟩
theorem keyIs_int (i:Int) (t:Tok):keyIs (.inl i) (.int i t) = true:=by simp [keyIs,Value.isInt]
theorem keyIs_str (x:Str) (t:Tok):keyIs (.inr x) (.str x t) = true:=by simp [keyIs,Value.isStrOf]
theorem key_ll (a b:Int):decide ((Sum.inl a:Key) = Sum.inl b) = (a == b):=by
  by_cases e:a = b
  · subst e; simp
  · have h:¬ (Sum.inl a:Key) = Sum.inl b:=fun q=>e (Sum.inl.inj q)
    rw [decide_eq_false h]
    exact (beq_eq_false_iff_ne.mpr e).symm
theorem key_rr (a b:Str):decide ((Sum.inr a:Key) = Sum.inr b) = decide (a = b):=by
  by_cases e:a = b
  · subst e; simp
  · have h:¬ (Sum.inr a:Key) = Sum.inr b:=fun q=>e (Sum.inr.inj q)
    rw [decide_eq_false h,decide_eq_false e]
theorem key_lr (a:Int) (b:Str):decide ((Sum.inl a:Key) = Sum.inr b) = false:=decide_eq_false (fun q=>nomatch q)
theorem key_rl (a:Str) (b:Int):decide ((Sum.inr a:Key) = Sum.inl b) = false:=decide_eq_false (fun q=>nomatch q)
def mixKind (prog:Program) (w:World):PySem.KeyKind prog w Key where
  is:=keyIs
  hash:=keyH w
  inj:=fun v a b ha hb=>by
    rcases keyIs_shape ha with ⟨i,t,rfl,rfl⟩ | ⟨x,t,rfl,rfl⟩
    · rcases keyIs_shape hb with ⟨j,u,rfl,e⟩ | ⟨y,u,rfl,e⟩
      · injection e with e1 _; rw [e1]
      · exact nomatch e
    · rcases keyIs_shape hb with ⟨j,u,rfl,e⟩ | ⟨y,u,rfl,e⟩
      · exact nomatch e
      · injection e with e1 _; rw [e1]
  byValue:=fun k v h=>by
    rcases keyIs_shape h with ⟨i,t,rfl,rfl⟩ | ⟨x,t,rfl,rfl⟩ <;> rfl
  pyHash:=fun hv h=>by
    rcases keyIs_shape hv with ⟨i,t,rfl,rfl⟩ | ⟨x,t,rfl,rfl⟩
    · exact wpAny_pyHash_int h
    · exact wpAny_pyHash_str h
  eqBool:=fun hu hv h=>by
    rcases keyIs_shape hu with ⟨i,t,rfl,rfl⟩ | ⟨x,t,rfl,rfl⟩
    · rcases keyIs_shape hv with ⟨j,u,rfl,rfl⟩ | ⟨y,u,rfl,rfl⟩
      · rw [key_ll] at h; exact wpAny_eqBool_int h
      · rw [key_lr] at h; exact SeqAt.EqAt.int_str i t y u _ _ _ _ h
    · rcases keyIs_shape hv with ⟨j,u,rfl,rfl⟩ | ⟨y,u,rfl,rfl⟩
      · rw [key_rl] at h; exact SeqAt.EqAt.str_int x t j u _ _ _ _ h
      · rw [key_rr] at h; exact wpAny_eqBool_str h
  «strs»:=fun k x t v h=>by
    rcases keyIs_shape h with ⟨i,u,rfl,e⟩ | ⟨y,u,rfl,e⟩
    · exact nomatch e
    · injection e with e1 _
      subst e1
      cases v <;> rfl
theorem mixKind_int (prog:Program) (w:World) (i:Int) (t:Tok):(mixKind prog w).is (.inl i) (.int i t) = true:=keyIs_int i t
theorem mixKind_str (prog:Program) (w:World) (x:Str) (t:Tok):(mixKind prog w).is (.inr x) (.str x t) = true:=keyIs_str x t
open PySem PySem.Spec PyProof.Rows
inductive V where
  | non | bl (b:Bool) | int (i:Int) | str (x:Str) | byt (b:Array UInt8) | flt (b:UInt64) | ref (a:Addr) | ty (n:String)
  deriving DecidableEq
def RelV:V->Value->Prop
  | .non,u=>u = Value.none
  | .bl b,u=>u = Value.bool b
  | .int i,u=>∃ t,u = Value.int i t
  | .str x,u=>∃ t,u = Value.str x t
  | .byt b,u=>∃ t,u = Value.bytes b t
  | .flt b,u=>∃ t,u = Value.float b t
  | .ref a,u=>u = Value.ref a
  | .ty n,u=>u = Value.type n
abbrev Vals:List V->List Value->Prop:=Paired RelV
theorem Vals.length {xs:List V} {us:List Value} (r:Vals xs us):xs.length = us.length:=Paired.length r
theorem Vals.get:∀ {xs:List V} {us:List Value} {i:Nat} {x:V},Vals xs us->xs[i]? = some x->∃ u,us[i]? = some u /\ RelV x u
  | _,_,_,_,.nil,e=>by simp at e
  | _,_,0,_,.cons r _,e=>by simp at e; subst e; exact ⟨_,rfl,r⟩
  | _,_,i + 1,x,.cons _ t,e=>by
    obtain ⟨u,h1,h2⟩:=Vals.get (i:=i) (x:=x) t (by simpa using e)
    exact ⟨u,by simpa using h1,h2⟩
theorem Vals.set {x:V} {u:Value} (r:RelV x u):∀ {xs:List V} {us:List Value} (i:Nat),Vals xs us->Vals (xs.set i x) (us.set i u)
  | _,_,_,.nil=>.nil
  | _,_,0,.cons _ t=>.cons r t
  | _,_,i + 1,.cons q t=>.cons q (Vals.set r i t)
theorem Vals.append:∀ {xs ys:List V} {us ws:List Value},Vals xs us->Vals ys ws->Vals (xs ++ ys) (us ++ ws)
  | _,_,_,_,.nil,s=>s
  | _,_,_,_,.cons r t,s=>.cons r (Vals.append t s)
theorem Vals.take:∀ {xs:List V} {us:List Value} (n:Nat),Vals xs us->Vals (xs.take n) (us.take n)
  | _,_,0,_=>.nil
  | _,_,_ + 1,.nil=>.nil
  | _,_,n + 1,.cons r t=>.cons r (Vals.take n t)
theorem Vals.drop:∀ {xs:List V} {us:List Value} (n:Nat),Vals xs us->Vals (xs.drop n) (us.drop n)
  | _,_,0,r=>r
  | _,_,_ + 1,.nil=>.nil
  | _,_,n + 1,.cons _ t=>Vals.drop n t
def RelO:Option V->Option Value->Prop
  | some v,some u=>RelV v u
  | none,none=>True
  | _,_=>False
def KV {κ:Type}:List (κ × V)->List (κ × Value)->Prop:=Paired fun (p:κ × V) (q:κ × Value)=>p.1 = q.1 /\ RelV p.2 q.2
def kV:Key->V
  | .inl i=>.int i
  | .inr x=>.str x
inductive HO where
    | lst (xs:List V)
    | tup (xs:List V)
    | dK (kvs:List (Key × V)) | dT (kvs:List (List Key × V))
    | set (S:Int->Bool) (n:Nat)
    | ins (C dx:Addr) (fs:List (Str × V))
    | own (x:Addr)
    | xd (fs:List (Str × V))
    | met (f x:Addr)
    | rng (lo hi:Int)
    | frz (o:Obj) (u:HO)
    | tbl (ps:Array Value)
    | ext (φ:Heap->Prop)
abbrev Hp:=Addr->Option HO
def upd (H:Hp) (a:Addr) (o:HO):Hp:=fun b=>if b = a then some o else H b
theorem upd_same {H:Hp} {a:Addr} {o:HO}:upd H a o a = some o:=by unfold upd; rw [if_pos rfl]
theorem upd_ne {H:Hp} {a b:Addr} {o:HO} (h:b ≠ a):upd H a o b = H b:=by unfold upd; rw [if_neg h]
theorem upd_upd {H:Hp} {a:Addr} {o u:HO}:upd (upd H a o) a u = upd H a u:=by
  funext b; unfold upd; split <;> rfl
theorem ne_of {H:Hp} {a b:Addr} {o u:HO} (h:H a = some o) (h':H b = some u) (d:o ≠ u):a ≠ b:=by
  intro e; subst e; rw [h] at h'; exact d (Option.some.inj h')
theorem ne_of_none {H:Hp} {a b:Addr} {o:HO} (h:H a = some o) (h':H b = none):a ≠ b:=by
  intro e; subst e; rw [h] at h'; cases h'
section
variable (P:Program) (w:World)
def ObjOk (H:Hp) (h:Heap) (a:Addr):HO->Prop
  | .lst xs=>xs.length ≤ sizeLine /\ ∃ (its:List Value) (n:Nat),Vals xs its /\ h.get? a = some { cls:=.type "list",data:=.seq its.toArray n }
  | .tup xs=>xs.length ≤ sizeLine /\ ∃ its:List Value,Vals xs its /\ IsTup h a its.toArray
  | .dK kvs=>kvs.length ≤ sizeLine /\ (a == sysModules) = false /\ ∃ vs,KV kvs vs /\ h.DictOf (mixKind P w) a vs
  | .dT kvs=>kvs.length ≤ sizeLine /\ (a == sysModules) = false /\ ∃ xs:List (List Key × Addr × Value),
      Paired (fun (p:List Key × V) (q:List Key × Addr × Value)=>p.1 = q.1 /\ H q.2.1 = some (.tup (p.1.map kV)) /\ RelV p.2 q.2.2) kvs xs ∧
      ∃ o es ep,h.get? a = some o /\ o.ExactDict /\ o.data = .dict es ep /\ es.toList = xs.map (entryOfKey (tupleKind (mixKind P w))) /\ (xs.map (·.1)).Nodup
  | .set S n=>h.SetOf (intKind P w) a S n
  | .ins C dx fs=>H dx = some (.own a) /\ fs.length ≤ 1000 /\ dx ≠ a /\ h.get? a = some (PySem.W.instObj C dx) ∧
      ∃ mA,h.Ns1 dx mA /\ (∀ f,RelO (fs.lookup f) (mA f)) /\ PySem.Within mA (fs.map (·.1))
  | .own _=>∃ o,h.get? a = some o
  | .xd fs=>∃ mA,h.Ns1 a mA /\ ∀ f,RelO (fs.lookup f) (mA f)
  | .rng lo hi=>∃ t u v,h.get? a = some { cls:=.type "range",data:=.fields #[.int lo t,.int hi u,.int 1 v] }
  | .frz o u=>h.get? a = some o /\ ObjOk H h a u
  | .tbl ps=>h.get? a = some { cls:=.none,data:=.fields ps }
  | .met f x=>h.get? a = some (PySem.W.methodObj (.ref f) (.ref x))
  | .ext φ=>φ h /\ (∃ o,h.get? a = some o) /\ ∀ h1 h2:Heap,φ h1->(∀ o,h1.get? a = some o->h2.get? a = some o)->φ h2
def HOk (H:Hp) (h:Heap):Prop:=∀ a o,H a = some o->ObjOk P w H h a o
end
section
variable {P:Program} {w:World} {H H':Hp} {h h':Heap} {a:Addr} {o:HO}
theorem ObjOk.lt (x:ObjOk P w H h a o):a < h.objs.size:=by
  cases o with
  | lst xs=>obtain ⟨_,_,_,_,e⟩:=x; exact Heap.lt_size e
  | tup xs=>obtain ⟨_,_,_,p⟩:=x; exact p.lt
  | dK kvs=>obtain ⟨_,_,_,_,o,_,_,e,_⟩:=x; exact Heap.lt_size e
  | dT kvs=>obtain ⟨_,_,_,_,o,_,_,e,_⟩:=x; exact Heap.lt_size e
  | set S n=>obtain ⟨o,_,_,_,e,_⟩:=x; exact Heap.lt_size e
  | ins C dx fs=>obtain ⟨_,_,_,e,_⟩:=x; exact Heap.lt_size e
  | own y=>obtain ⟨_,e⟩:=x; exact Heap.lt_size e
  | xd fs=>obtain ⟨_,⟨_,_,_,e,_⟩,_⟩:=x; exact Heap.lt_size e
  | rng lo hi=>obtain ⟨_,_,_,e⟩:=x; exact Heap.lt_size e
  | frz ob u=>obtain ⟨e,_⟩:=x; exact Heap.lt_size e
  | tbl ps=>exact Heap.lt_size (show h.get? a = some _ from x)
  | met f y=>exact Heap.lt_size (show h.get? a = some _ from x)
  | ext φ=>obtain ⟨_,⟨_,e⟩,_⟩:=x; exact Heap.lt_size e
theorem Paired.mapP {α β:Type} {F G:α->β->Prop}:∀ {l₁:List α} {l₂:List β},Paired F l₁ l₂->(∀ a b,F a b->G a b)->Paired G l₁ l₂
  | _,_,.nil,_=>.nil
  | _,_,.cons r t,f=>.cons (f _ _ r) (Paired.mapP t f)
theorem ObjOk.stay (x:ObjOk P w H h a o) (k:∀ b u,(b = a ∨ H b = some (.own a))->h.get? b = some u->h'.get? b = some u)
    (ho:∀ b,H b = some (.own a)->H' b = some (.own a)) (ht:∀ b xs,H b = some (.tup xs)->H' b = some (.tup xs)):ObjOk P w H' h' a o:=by
  induction o with
  | lst xs=>obtain ⟨z,its,n,r,e⟩:=x; exact ⟨z,its,n,r,k _ _ (.inl rfl) e⟩
  | tup xs=>obtain ⟨z,its,r,ob,e,c⟩:=x; exact ⟨z,its,r,ob,k _ _ (.inl rfl) e,c⟩
  | dK kvs=>obtain ⟨z,y,vs,r,ob,es,ep,e,c⟩:=x; exact ⟨z,y,vs,r,ob,es,ep,k _ _ (.inl rfl) e,c⟩
  | dT kvs =>
    obtain ⟨z,y,xs,r,ob,es,ep,e,c⟩:=x
    exact ⟨z,y,xs,Paired.mapP r fun p q z=>⟨z.1,ht _ _ z.2.1,z.2.2⟩,ob,es,ep,k _ _ (.inl rfl) e,c⟩
  | set S n=>obtain ⟨ob,es,ep,t,e,c⟩:=x; exact ⟨ob,es,ep,t,k _ _ (.inl rfl) e,c⟩
  | ins C dx fs =>
    obtain ⟨d,z,ne,e,mA,⟨od,es,ep,e2,c⟩,r⟩:=x
    exact ⟨ho _ d,z,ne,k _ _ (.inl rfl) e,mA,⟨od,es,ep,k _ _ (.inr d) e2,c⟩,r⟩
  | own y=>obtain ⟨ob,e⟩:=x; exact ⟨ob,k _ _ (.inl rfl) e⟩
  | xd fs=>obtain ⟨mA,⟨od,es,ep,e,c⟩,r⟩:=x; exact ⟨mA,⟨od,es,ep,k _ _ (.inl rfl) e,c⟩,r⟩
  | rng lo hi=>obtain ⟨t,u,v,e⟩:=x; exact ⟨t,u,v,k _ _ (.inl rfl) e⟩
  | frz ob u ih=>obtain ⟨e,q⟩:=x; exact ⟨k _ _ (.inl rfl) e,ih q⟩
  | tbl ps =>
    have e:h.get? a = some { cls:=.none,data:=.fields ps }:=x
    show h'.get? a = some { cls:=.none,data:=.fields ps }
    exact k a _ (.inl rfl) e
  | met f y =>
    have e:h.get? a = some (PySem.W.methodObj (.ref f) (.ref y)):=x
    show h'.get? a = some (PySem.W.methodObj (.ref f) (.ref y))
    exact k a _ (.inl rfl) e
  | ext φ=>obtain ⟨p,⟨o,e⟩,st⟩:=x; exact ⟨st _ _ p fun o q=>k _ _ (.inl rfl) q,⟨o,k _ _ (.inl rfl) e⟩,st⟩
theorem HOk.lt (x:HOk P w H h) (e:H a = some o):a < h.objs.size:=(x a o e).lt
theorem HOk.fresh (x:HOk P w H h) (e:h.objs.size ≤ a):H a = none:=by
  cases q:H a with
  | none=>rfl
  | some u=>exact absurd (Nat.lt_of_lt_of_le (x.lt q) e) (Nat.lt_irrefl _)
theorem HOk.kept (x:HOk P w H h) (k:∀ b u,h.get? b = some u->h'.get? b = some u):HOk P w H h':=fun a o e =>
  (x a o e).stay (fun b u _ q=>k b u q) (fun _ q=>q) fun _ _ q=>q
theorem HOk.laid (x:HOk P w H h) (k:∀ b u,h.get? b = some u->h'.get? b = some u) (hp:h.objs.size ≤ a) (new:ObjOk P w (upd H a o) h' a o):HOk P w (upd H a o) h':=fun b u e=>by
  have hn:=x.fresh hp
  by_cases hb:b = a
  · subst hb; rw [upd_same] at e; cases e; exact new
  · rw [upd_ne hb] at e
    exact (x b u e).stay (fun c v _ q=>k c v q) (fun c q=>by rw [upd_ne (ne_of_none q hn)]; exact q) fun c xs q=>by rw [upd_ne (ne_of_none q hn)]; exact q
end
def Rd (H:Hp) (a:Addr) (u:HO):Prop:=H a = some u ∨ ∃ o,H a = some (.frz o u)
theorem Rd.ok {P:Program} {w:World} {H:Hp} {h:Heap} {a:Addr} {u:HO} (r:Rd H a u) (x:HOk P w H h):ObjOk P w H h a u:=by
  rcases r with r | ⟨o,r⟩
  · exact x a u r
  · obtain ⟨_,q⟩:=x a _ r
    exact q
def Mut:Option HO->Prop
  | some (.lst _)=>True
  | some (.dK _)=>True
  | some (.dT _)=>True
  | some (.set _ _)=>True
  | some (.ins _ _ _)=>True
  | some (.ext _)=>True
  | _=>False
section
variable {P:Program} {w:World} {H:Hp} {h h':Heap} {x e:Addr} {o':HO}
theorem HOk.write (ok:HOk P w H h) (mu:Mut (H x)) (he:e = x ∨ H e = some (.own x)) (k:∀ b u,b ≠ e->h.get? b = some u->h'.get? b = some u) (heo:∃ u,h'.get? e = some u)
    (new:ObjOk P w (upd H x o') h' x o'):HOk P w (upd H x o') h':=fun b u q=>by
  have nown:∀ c y,H c = some (.own y)->c ≠ x:=fun c y r z=>by subst z; rw [r] at mu; exact mu
  have ntup:∀ c xs,H c = some (.tup xs)->c ≠ x:=fun c xs r z=>by subst z; rw [r] at mu; exact mu
  by_cases hb:b = x
  · subst hb; rw [upd_same] at q; cases q; exact new
  · rw [upd_ne hb] at q
    by_cases hbe:b = e
    · have q':H b = some (.own x):=by
        rcases he with z | z
        · exact absurd (hbe.trans z) hb
        · rw [hbe]; exact z
      rw [q] at q'; cases q'
      obtain ⟨v,hv⟩:=heo
      exact ⟨v,by rw [hbe]; exact hv⟩
    · refine (ok b u q).stay (fun c v hc r=>k c v ?_ r) (fun c r=>by rw [upd_ne (nown c b r)]; exact r) fun c xs r=>by rw [upd_ne (ntup c xs r)]; exact r
      rcases hc with rfl | hc
      · exact hbe
      · rintro rfl
        rcases he with z | z
        · exact nown c b hc z
        · rw [hc] at z; cases z; exact hb rfl
end
structure Un (fs ex:List Addr) (H H':Hp) (h h':Heap):Prop where
  keep:∀ b o,h.get? b = some o->H b = none->b ∉ fs->b ∉ ex->h'.get? b = some o
  slot:∀ b o,h.get? b = some o->H b = none->b ∈ fs->b ∉ ex->∃ sl,h'.get? b = some { o with slots:=sl }
  free:∀ b o,h.get? b = some o->H b = none->b ∉ ex->H' b = none
  there:∀ b o,h.get? b = some o->b ∉ ex->∃ o',h'.get? b = some o'
  tups:∀ b xs,H b = some (.tup xs)->H' b = some (.tup xs)
  frzs:∀ b o u,H b = some (.frz o u)->H' b = some (.frz o u)
  tbls:∀ b ps,H b = some (.tbl ps)->∃ more,H' b = some (.tbl (ps ++ more))
section
variable {fs fs' ex ex':List Addr} {H H1 H2:Hp} {h h1 h2 h':Heap} {a x e:Addr} {o:HO}
theorem Un.any (u:Un fs ex H H1 h h1) {b:Addr} {ob:Obj} (q:h.get? b = some ob) (n:H b = none) (hx:b ∉ ex):∃ sl,h1.get? b = some { ob with slots:=sl }:=by
  by_cases hb:b ∈ fs
  · exact u.slot b ob q n hb hx
  · exact ⟨ob.slots,u.keep b ob q n hb hx⟩
theorem Un.kept (k:∀ b u,h.get? b = some u->h'.get? b = some u):Un fs ex H H h h' :=
  ⟨fun b ob q _ _ _=>k b ob q,fun b ob q _ _ _=>⟨ob.slots,k b ob q⟩,fun _ _ _ n _=>n,fun b ob q _=>⟨ob,k b ob q⟩,fun _ _ q=>q,fun _ _ _ q=>q,fun _ ps q=>⟨#[],by rw [q]; simp⟩⟩
theorem Un.refl:Un fs ex H H h h:=Un.kept fun _ _ q=>q
theorem Un.laid (k:∀ b u,h.get? b = some u->h'.get? b = some u) (hp:h.objs.size ≤ a) (hn:H a = none):Un fs ex H (upd H a o) h h' where
  keep:=fun b u q _ _ _=>k b u q
  slot:=fun b u q _ _ _=>⟨u.slots,k b u q⟩
  free:=fun b u q n _=>by rw [upd_ne (Nat.ne_of_lt (Nat.lt_of_lt_of_le (Heap.lt_size q) hp))]; exact n
  there:=fun b u q _=>⟨u,k b u q⟩
  tups:=fun b xs q=>by rw [upd_ne (ne_of_none q hn)]; exact q
  frzs:=fun b u xs q=>by rw [upd_ne (ne_of_none q hn)]; exact q
  tbls:=fun b ps q=>⟨#[],by rw [upd_ne (ne_of_none q hn),q]; simp⟩
theorem Un.write (mu:Mut (H x)) (he:e = x ∨ H e = some (.own x)) (k:∀ b u,b ≠ e->h.get? b = some u->h'.get? b = some u) (heo:∃ u,h'.get? e = some u):Un fs ex H (upd H x o) h h':=by
  have hx:∀ b,H b = none->b ≠ x:=fun b n z=>by subst z; rw [n] at mu; exact mu
  have hb:∀ b,H b = none->b ≠ e:=fun b n z=>by
    subst z
    rcases he with r | r
    · exact hx b n r
    · rw [n] at r; cases r
  have hm:∀ b u,H b = some u->¬ Mut (some u)->b ≠ x:=fun b u q nm z=>by subst z; rw [q] at mu; exact nm mu
  refine ⟨fun b u q n _ _=>k b u (hb b n) q,fun b u q n _ _=>⟨u.slots,k b u (hb b n) q⟩,fun b u q n _=>by rw [upd_ne (hx b n)]; exact n,fun b u q _=>?_,
    fun b xs q=>by rw [upd_ne (hm b _ q fun z=>z)]; exact q,fun b u xs q=>by rw [upd_ne (hm b _ q fun z=>z)]; exact q,fun b ps q=>⟨#[],by rw [upd_ne (hm b _ q fun z=>z),q]; simp⟩⟩
  by_cases hbe:b = e
  · subst hbe; exact heo
  · exact ⟨u,k b u hbe q⟩
end
def trk (h:Heap) (H:Hp):List Addr:=(List.range h.objs.size).filter fun a=>(H a).isSome
def hidT (h:Heap) (H:Hp):Heap:=PySem.W.hideAll h (trk h H)
theorem hidT_size (h:Heap) (H:Hp):(hidT h H).objs.size = h.objs.size:=PySem.W.hideAll_size _ _
theorem hidT_get {h:Heap} {H:Hp} {b:Addr} {o:Obj} (e:h.get? b = some o) (n:H b = none):(hidT h H).get? b = some o :=
  PySem.W.hideAll_get _ e fun hm=>by
    have q:(H b).isSome = true:=(List.mem_filter.mp hm).2
    rw [n] at q; simp at q
theorem of_hidT {h:Heap} {H:Hp} {b:Addr} {o:Obj} (e:(hidT h H).get? b = some o):h.get? b = some o /\ H b = none:=by
  have e':h.get? b = some o:=PySem.W.of_hideAll (trk h H) e
  refine ⟨e',?_⟩
  cases q:H b with
  | none=>rfl
  | some x =>
    have hm:b ∈ trk h H:=List.mem_filter.mpr ⟨List.mem_range.mpr (Heap.lt_size e'),by simp [q]⟩
    have z:(hidT h H).get? b = none:=PySem.W.hideAll_none (trk h H) hm
    rw [z] at e; cases e
def allNews (g h:Heap) (L:Addr):List (Addr × Obj):=(List.range h.objs.size).filterMap fun a=>if a = L ∨ (g.get? a).isSome = true then none else (h.get? a).map fun o=>(a,o)
def rest (g h:Heap) (L d:Addr):List (Addr × Obj):=(allNews g h L).filter fun p=>decide (p.1 ≠ d)
open PySem PySem.Spec PyProof.Rows
structure Mod (K:PySem.W.Frag) (mg:Str->Option Value) (base:Heap):Prop where
  kin:K.In base
  glob:base.Ns mainGlobals mg
  blt:∃ mb,base.Ns builtinsNs mb /\ ∀ x:Str,x ≠ "__name__"->mb x = bootBuiltins x
  nolimit:base.NoLimit
structure Cx where
  prog:Program
  w:World
  K:PySem.W.Frag
  mg:Str->Option Value
  base:Heap
  A:Around
  N:List Str
  s₀:Shared
  H₀:Hp
  env:Env
  outer:List Env
  stack:List Env
  ex:List Addr
  fn:Str->Bool
  calm:Bool
  pn:List (Addr × Obj)
  xe:Value->Shared->Prop
def frs (l:List Env):List Addr:=l.filterMap (·.frame)
abbrev Cx.fs (X:Cx):List Addr:=frs X.outer
def Vis (sc:Scope) (x:Str):Prop:=sc.names.lookup x = some .local ∨ sc.names.lookup x = some .cell ∨ sc.names.lookup x = some .free
def Loc (sc:Scope) (x:Str):Prop:=sc.names.lookup x = some .local ∨ sc.names.lookup x = some .cell
def Look (env:Env) (h:Heap) (m:Str->Option Value) (x:Str) (u:Value):Prop :=
  (env.kindOf x = some .local /\ m x = some u) ∨ ((env.kindOf x = some .cell ∨ env.kindOf x = some .free) /\ ∃ c,env.cells.lookup x = some c /\ h.IsCell c (some u))
structure Cx.Ok (X:Cx):Prop where
  mod:Mod X.K X.mg X.base
  kind:X.env.scope.kind = .function
  glob:X.env.globals = mainGlobals
  blt:X.env.builtins = builtinsNs
  above:X.s₀.heap.objs.size ≤ X.env.locals
  inj:∀ x y c,X.env.cells.lookup x = some c->X.env.cells.lookup y = some c->x = y
  has:∀ x,(X.env.kindOf x = some .cell ∨ X.env.kindOf x = some .free)->∃ c,X.env.cells.lookup x = some c
  cab:∀ x c,X.fn x = true->X.env.cells.lookup x = some c->X.s₀.heap.objs.size ≤ c
  hd:X.calm = true->X.A.handled = none
  frames:X.A.frames = some X.stack
  stk:X.stack = X.outer ∨ (X.stack = X.env :: X.outer /\ X.env.frame = some X.env.locals)
  exf:∀ b ∈ X.ex,b ≠ X.env.locals /\ ∀ x c,X.env.cells.lookup x = some c->c ≠ b
  bs:∀ b o,X.base.get? b = some o->X.s₀.heap.get? b = some o /\ X.H₀ b = none
  bsz:X.base.objs.size ≤ X.s₀.heap.objs.size
  noex:∀ b o,X.base.get? b = some o->b ∉ X.ex
  exfs:∀ b ∈ X.ex,b ∉ X.fs
  funs:X.s₀.heap.FunFrames X.base X.outer
  frf:∀ b ∈ X.fs,X.H₀ b = none
structure Inv (X:Cx) (pins:List (Addr × Obj)) (σ:List (Option V)) (H:Hp) (s:Shared):Prop where
  ok:X.Ok
  os:s.os = X.s₀.os
  bare:AllBare s.gens
  base:Un X.fs X.ex X.H₀ H X.s₀.heap s.heap
  loc:∃ m,s.heap.Ns X.env.locals m /\ ∀ (i:Nat) (x:Str) (v:V),X.N[i]? = some x->σ[i]? = some (some v)->Vis X.env.scope x->∃ u,RelV v u /\ Look X.env s.heap m x u
  cell:∀ x c,X.env.cells.lookup x = some c->∃ v,s.heap.IsCell c v
  free:H X.env.locals = none
  freeC:∀ x c,X.env.cells.lookup x = some c->H c = none
  pin:∀ p ∈ X.pn ++ pins,s.heap.get? p.1 = some p.2 /\ H p.1 = none /\ p.1 ≠ X.env.locals /\ p.1 ∉ X.fs /\ ∀ v,p.2.data ≠ .cell v
  hok:HOk X.prog X.w H s.heap
  len:σ.length = X.N.length
section
variable {X:Cx} {pins:List (Addr × Obj)} {σ:List (Option V)} {H H':Hp} {s:Shared} {h':Heap}
theorem Cx.Ok.nofr (ok:X.Ok) {b:Addr} {o:Obj} (e:X.base.get? b = some o):b ∉ X.fs:=fun hb=>by
  have:=(ok.funs.mem hb).1
  rw [e] at this; cases this
theorem Inv.bs (I:Inv X pins σ H s):∀ b o,X.base.get? b = some o->s.heap.get? b = some o /\ H b = none:=fun b o e =>
  ⟨I.base.keep b o (I.ok.bs b o e).1 (I.ok.bs b o e).2 (I.ok.nofr e) (I.ok.noex b o e),I.base.free b o (I.ok.bs b o e).1 (I.ok.bs b o e).2 (I.ok.noex b o e)⟩
theorem Inv.bk (I:Inv X pins σ H s):∀ b o,X.base.get? b = some o->s.heap.get? b = some o:=fun b o e=>(I.bs b o e).1
theorem Inv.mod (I:Inv X pins σ H s):Mod X.K X.mg X.base:=I.ok.mod
theorem Inv.kIn (I:Inv X pins σ H s):X.K.In s.heap:=I.ok.mod.kin.keeps I.bk
theorem Inv.lt (I:Inv X pins σ H s):X.env.locals < s.heap.objs.size:=let ⟨_,hn,_⟩:=I.loc; hn.lt
theorem Inv.sz (I:Inv X pins σ H s):X.s₀.heap.objs.size ≤ s.heap.objs.size:=Nat.le_trans I.ok.above (Nat.le_of_lt I.lt)
theorem Inv.nofs (I:Inv X pins σ H s) {a:Addr} (h:s.heap.objs.size ≤ a):a ∉ X.fs:=fun hb=>by
  obtain ⟨_,o,ho,_⟩:=I.ok.funs.mem hb
  exact absurd (Nat.lt_of_lt_of_le (Heap.lt_size ho) (Nat.le_trans I.sz h)) (Nat.lt_irrefl _)
theorem Inv.cne (I:Inv X pins σ H s):∀ x c,X.env.cells.lookup x = some c->c ≠ X.env.locals:=fun x c e z=>by
  obtain ⟨v,o,ho,hd⟩:=I.cell x c e
  obtain ⟨m,⟨o',es,ep,ho',hd',_⟩,_⟩:=I.loc
  rw [z,ho'] at ho; cases ho; rw [hd'] at hd; cases hd
theorem Inv.funs (I:Inv X pins σ H s):s.heap.FunFrames X.base X.outer:=by
  have all:∀ (l:List Env),(∀ b ∈ frs l,b ∈ X.fs)->X.s₀.heap.FunFrames X.base l->s.heap.FunFrames X.base l:=by
    intro l
    induction l with
    | nil=>intro _ _; trivial
    | cons env r ih =>
      intro hs hl
      obtain ⟨hk,⟨L,o,hf,hn,ho,hd⟩,hr⟩:=hl
      have hL:L ∈ X.fs:=hs L (by unfold frs; rw [List.filterMap_cons,hf]; exact List.mem_cons_self)
      obtain ⟨sl,e⟩:=I.base.slot L o ho (I.ok.frf L hL) hL fun z=>I.ok.exfs L z hL
      exact ⟨hk,⟨L,_,hf,hn,e,hd⟩,ih (fun b hb=>hs b (by unfold frs; rw [List.filterMap_cons,hf]; exact List.mem_cons_of_mem _ hb)) hr⟩
  exact all X.outer (fun _ hb=>hb) I.ok.funs
theorem Inv.stack (I:Inv X pins σ H s):s.heap.FunFrames X.base X.stack:=by
  rcases I.ok.stk with e | ⟨e,hf⟩
  · rw [e]; exact I.funs
  · rw [e]
    obtain ⟨m,hn,_⟩:=I.loc
    refine .cons (by rw [I.ok.kind]; decide) hf hn ?_ I.funs
    exact Heap.get?_none_of_le (Nat.le_trans I.ok.bsz I.ok.above)
theorem Inv.stkSub (I:Inv X pins σ H s):∀ b ∈ frs X.stack,b ∈ X.env.locals :: X.fs:=fun b hb=>by
  rcases I.ok.stk with e | ⟨e,hf⟩
  · rw [e] at hb; exact List.mem_cons_of_mem _ hb
  · rw [e] at hb
    unfold frs at hb
    rw [List.filterMap_cons,hf] at hb
    exact hb
theorem Inv.stkFree (I:Inv X pins σ H s):∀ b ∈ frs X.stack,H b = none:=fun b hb=>by
  rcases List.mem_cons.mp (I.stkSub b hb) with e | hb
  · rw [e]; exact I.free
  · obtain ⟨_,o,ho,_⟩:=I.ok.funs.mem hb
    exact I.base.free b o ho (I.ok.frf b hb) fun z=>I.ok.exfs b z hb
theorem Inv.step {g':Array GenState} {t':Nat} {d':Drawn} {ch:List Addr} (I:Inv X pins σ H s)
    (hch:∀ b ∈ ch,(b ∈ X.ex ∨ X.s₀.heap.objs.size ≤ b) /\ b ≠ X.env.locals /\ (∀ x c,X.env.cells.lookup x = some c->c ≠ b) /\ ∀ p ∈ X.pn ++ pins,p.1 ≠ b)
    (keep:∀ b o,b ≠ X.env.locals->b ∉ X.fs->b ∉ ch->s.heap.get? b = some o->H b = none->h'.get? b = some o)
    (slot:∀ b o,b ≠ X.env.locals->b ∈ X.fs->b ∉ ch->s.heap.get? b = some o->H b = none->∃ sl,h'.get? b = some { o with slots:=sl }) (free:∀ b o,b ∉ ch->s.heap.get? b = some o->H b = none->H' b = none)
    (there:∀ b o,b ∉ ch->s.heap.get? b = some o->∃ o',h'.get? b = some o')
    (tups:∀ b xs,H b = some (.tup xs)->H' b = some (.tup xs)) (frzs:∀ b o u,H b = some (.frz o u)->H' b = some (.frz o u)) (tbls:∀ b ps,H b = some (.tbl ps)->∃ more,H' b = some (.tbl (ps ++ more)))
    (ns:∀ m,s.heap.Ns X.env.locals m->h'.Ns X.env.locals m) (hok:HOk X.prog X.w H' h') (hg:AllBare g') :
    Inv X pins σ H' { s with heap:=h',gens:=g',drawn:=d',toks:=t' }:=by
  have neL:∀ b o,X.s₀.heap.get? b = some o->b ≠ X.env.locals:=fun b o e=>Nat.ne_of_lt (Nat.lt_of_lt_of_le (Heap.lt_size e) I.ok.above)
  have neC:∀ b o,X.s₀.heap.get? b = some o->b ∉ X.ex->b ∉ ch:=fun b o e hx hb=>by
    rcases (hch b hb).1 with z | z
    · exact hx z
    · exact absurd (Nat.lt_of_lt_of_le (Heap.lt_size e) z) (Nat.lt_irrefl _)
  have cellK:∀ x c,X.env.cells.lookup x = some c->∀ v,s.heap.IsCell c v->h'.IsCell c v:=fun x c e v ⟨o,ho,hd⟩=>by
    have nch:c ∉ ch:=fun z=>(hch c z).2.2.1 x c e rfl
    by_cases hc:c ∈ X.fs
    · obtain ⟨sl,q⟩:=slot c o (I.cne x c e) hc nch ho (I.freeC x c e)
      exact ⟨_,q,hd⟩
    · exact ⟨o,keep c o (I.cne x c e) hc nch ho (I.freeC x c e),hd⟩
  refine ⟨I.ok,I.os,hg,⟨fun b o e n hb hx=>?_,fun b o e n hb hx=>?_,fun b o e n hx=>?_,fun b o e hx=>?_,fun b xs e=>tups b xs (I.base.tups b xs e),fun b o xs e=>frzs b o xs (I.base.frzs b o xs e),fun b ps e=>?_⟩,?_,fun x c e=>?_,?_,fun x c e=>?_,fun p hp=>?_,hok,I.len⟩
  · exact keep b o (neL b o e) hb (neC b o e hx) (I.base.keep b o e n hb hx) (I.base.free b o e n hx)
  · obtain ⟨sl,e1⟩:=I.base.slot b o e n hb hx
    obtain ⟨sl',e2⟩:=slot b _ (neL b o e) hb (neC b o e hx) e1 (I.base.free b o e n hx)
    exact ⟨sl',e2⟩
  · obtain ⟨o',e1⟩:=I.base.there b o e hx
    exact free b o' (neC b o e hx) e1 (I.base.free b o e n hx)
  · obtain ⟨o',e1⟩:=I.base.there b o e hx
    exact there b o' (neC b o e hx) e1
  · obtain ⟨m1,e1⟩:=I.base.tbls b ps e
    obtain ⟨m2,e2⟩:=tbls b _ e1
    exact ⟨m1 ++ m2,by rw [e2,Array.append_assoc]⟩
  · obtain ⟨m,hn,hl⟩:=I.loc
    refine ⟨m,ns m hn,fun i x v e1 e2 e3=>?_⟩
    obtain ⟨u,r,l⟩:=hl i x v e1 e2 e3
    refine ⟨u,r,?_⟩
    rcases l with l | ⟨k,c,e,z⟩
    · exact .inl l
    · exact .inr ⟨k,c,e,cellK x c e _ z⟩
  · obtain ⟨v,z⟩:=I.cell x c e
    exact ⟨v,cellK x c e v z⟩
  · obtain ⟨m,⟨o,_,_,ho,_⟩,_⟩:=I.loc
    exact free _ o (fun z=>(hch _ z).2.1 rfl) ho I.free
  · obtain ⟨v,o,ho,hd⟩:=I.cell x c e
    exact free c o (fun z=>(hch c z).2.2.1 x c e rfl) ho (I.freeC x c e)
  · obtain ⟨e,n,ne,nf,d⟩:=I.pin p hp
    have nch:p.1 ∉ ch:=fun z=>(hch p.1 z).2.2.2 p hp rfl
    exact ⟨keep p.1 p.2 ne nf nch e n,free p.1 p.2 nch e n,ne,nf,d⟩
theorem Inv.un {t':Nat} (I:Inv X pins σ H s) (u:Un X.fs [] H H' s.heap h') (hok:HOk X.prog X.w H' h'):Inv X pins σ H' { s with heap:=h',toks:=t' }:=by
  obtain ⟨m,⟨o,es,ep,ho,r⟩,_⟩:=id I.loc
  obtain ⟨sl,hL⟩:=u.any ho I.free (by simp)
  exact I.step (g':=s.gens) (d':=s.drawn) (ch:=[]) (fun _ z=>nomatch z) (fun b o _ hb _ e n=>u.keep b o e n hb (by simp)) (fun b o _ hb _ e n=>u.slot b o e n hb (by simp)) (fun b o _ e n=>u.free b o e n (by simp)) (fun b o _ e=>u.there b o e (by simp)) u.tups u.frzs u.tbls (fun m' hm=>by
    obtain ⟨o',es',ep',ho',r'⟩:=hm
    rw [ho] at ho'; cases ho'
    exact ⟨_,es',ep',hL,r'⟩) hok I.bare
theorem Inv.call {g':Array GenState} {t':Nat} {d':Drawn} {ch:List Addr} (I:Inv X pins σ H s) (u:Un (frs X.stack) ch H H' s.heap h') (hok:HOk X.prog X.w H' h') (hg:AllBare g')
    (hch:∀ b ∈ ch,(b ∈ X.ex ∨ X.s₀.heap.objs.size ≤ b) /\ b ≠ X.env.locals /\ (∀ x c,X.env.cells.lookup x = some c->c ≠ b) /\ ∀ p ∈ X.pn ++ pins,p.1 ≠ b) :
    Inv X pins σ H' { s with heap:=h',gens:=g',drawn:=d',toks:=t' }:=by
  obtain ⟨m,⟨o,es,ep,ho,r⟩,_⟩:=id I.loc
  obtain ⟨sl,hL⟩:=u.any ho I.free fun z=>(hch _ z).2.1 rfl
  exact I.step (ch:=ch) hch (fun b o hL hb hc e n=>u.keep b o e n (fun z=>(List.mem_cons.mp (I.stkSub b z)).elim hL hb) hc) (fun b o _ _ hc e n=>u.any e n hc) (fun b o hc e n=>u.free b o e n hc) (fun b o hc e=>u.there b o e hc) u.tups u.frzs u.tbls (fun m' hm=>by
    obtain ⟨o',es',ep',ho',r'⟩:=hm
    rw [ho] at ho'; cases ho'
    exact ⟨_,es',ep',hL,r'⟩) hok hg
theorem Inv.turned {t':Nat} {it:Addr} (I:Inv X pins σ H s) (k:∀ b o,b ≠ it->s.heap.get? b = some o->h'.get? b = some o) (hn:H it = none) (hL:it ≠ X.env.locals)
    (h1:it ∈ X.ex ∨ X.s₀.heap.objs.size ≤ it) (h2:∀ x c,X.env.cells.lookup x = some c->c ≠ it) (h3:∀ p ∈ X.pn ++ pins,p.1 ≠ it):Inv X pins σ H { s with heap:=h',toks:=t' }:=by
  have nit:∀ b u,H b = some u->b ≠ it:=fun b u e z=>by rw [z,hn] at e; cases e
  refine I.step (g':=s.gens) (d':=s.drawn) (ch:=[it]) (fun b hb=>?_) (fun b o _ _ hc e _=>k b o (fun z=>hc (by simp [z])) e) (fun b o _ _ hc e _=>⟨o.slots,k b o (fun z=>hc (by simp [z])) e⟩) (fun _ _ _ _ n=>n)
    (fun b o hc e=>⟨o,k b o (fun z=>hc (by simp [z])) e⟩) (fun _ _ e=>e) (fun _ _ _ e=>e) (fun b ps e=>⟨#[],by rw [e]; simp⟩) (fun m hm=>?_) (fun b u e=>?_) I.bare
  · have e:b = it:=by simpa using hb
    subst e
    exact ⟨h1,hL,h2,h3⟩
  · obtain ⟨o,es,ep,ho,r⟩:=hm
    exact ⟨o,es,ep,k _ o (Ne.symm hL) ho,r⟩
  · refine (I.hok b u e).stay (fun c v hc q=>k c v ?_ q) (fun _ q=>q) fun _ _ q=>q
    rcases hc with z | z
    · rw [z]; exact nit b u e
    · exact nit c _ z
theorem Inv.tok (I:Inv X pins σ H s) (t:Nat):Inv X pins σ H { s with toks:=t }:=I.un (h':=s.heap) (t':=t) Un.refl I.hok
theorem Inv.kept {t':Nat} (I:Inv X pins σ H s) (k:∀ b u,s.heap.get? b = some u->h'.get? b = some u):Inv X pins σ H { s with heap:=h',toks:=t' }:=I.un (Un.kept k) (I.hok.kept k)
theorem Inv.laid {a:Addr} {o:HO} {t':Nat} (I:Inv X pins σ H s) (k:∀ b u,s.heap.get? b = some u->h'.get? b = some u) (hp:s.heap.objs.size ≤ a) (new:ObjOk X.prog X.w (upd H a o) h' a o) :
    Inv X pins σ (upd H a o) { s with heap:=h',toks:=t' }:=I.un (Un.laid k hp (I.hok.fresh hp)) (I.hok.laid k hp new)
theorem Inv.write {x e:Addr} {o:HO} {t':Nat} (I:Inv X pins σ H s) (mu:Mut (H x)) (he:e = x ∨ H e = some (.own x)) (k:∀ b u,b ≠ e->s.heap.get? b = some u->h'.get? b = some u) (heo:∃ u,h'.get? e = some u)
    (new:ObjOk X.prog X.w (upd H x o) h' x o):Inv X pins σ (upd H x o) { s with heap:=h',toks:=t' }:=I.un (Un.write mu he k heo) (I.hok.write mu he k heo new)
theorem Inv.pins_of {pins':List (Addr × Obj)} (I:Inv X pins σ H s) (h:∀ p ∈ pins',s.heap.get? p.1 = some p.2 /\ H p.1 = none /\ p.1 ≠ X.env.locals /\ p.1 ∉ X.fs /\ ∀ v,p.2.data ≠ .cell v):Inv X pins' σ H s :=
  ⟨I.ok,I.os,I.bare,I.base,I.loc,I.cell,I.free,I.freeC,fun p hp=>(List.mem_append.mp hp).elim (fun z=>I.pin p (List.mem_append_left _ z)) (h p),I.hok,I.len⟩
theorem nodup_ix {N:List Str} (hN:N.Nodup) {i j:Nat} {x:Str} (a:N[i]? = some x) (b:N[j]? = some x):i = j:=by
  obtain ⟨h1,e1⟩:=List.getElem?_eq_some_iff.mp a
  obtain ⟨h2,e2⟩:=List.getElem?_eq_some_iff.mp b
  exact (List.getElem_inj hN).mp (e1.trans e2.symm)
theorem store_ok2 {M:Model} {A:Around} {E:Value->Shared->Prop} {i:Nat} {x:Str} {v:V} {u:Value} {Q:Unit->Shared->Prop} (I:Inv X pins σ H s) (hN:X.N.Nodup) (hi:X.N[i]? = some x) (hx:Loc X.env.scope x) (r:RelV v u)
    (h:∀ s',Inv X pins (σ.set i (some v)) H s'->(∃ a,Heap.SameBut a s.heap s'.heap /\ (a = X.env.locals ∨ X.env.cells.lookup x = some a))->Q () s') (hf:X.fn x = true ∨ X.env.scope.names.lookup x = some .local:=by first | exact .inl rfl | exact .inr rfl | assumption):wpAny M A (storeName X.env x u) Q E s:=by
  obtain ⟨m,hn,hl⟩:=id I.loc
  have hcls:(X.env.scope.kind == .class || (X.env.scope.kind == .module && X.env.locals != X.env.globals)) = false:=by rw [I.ok.kind]; rfl
  have hiσ:i < σ.length:=by rw [I.len]; exact (List.getElem?_eq_some_iff.mp hi).1
  have cne:=I.cne
  have tracked:∀ {a:Addr} {h':Heap},(∃ o,s.heap.get? a = some o /\ H a = none)->Heap.SameBut a s.heap h'->HOk X.prog X.w H h':=fun {a h'} ha hs b ob e=>by
    obtain ⟨_,_,hfree⟩:=ha
    refine (I.hok b ob e).stay (fun c w' hc q=>(hs.2 c ?_).trans q) (fun _ q=>q) fun _ _ q=>q
    rintro rfl
    rcases hc with rfl | hc
    · rw [hfree] at e; cases e
    · rw [hfree] at hc; cases hc
  rcases hx with hk | hk
  · refine wpAny_storeName_local hk hn (fun h' hn' hs=>?_) hcls
    obtain ⟨oL,_,_,hoL,_⟩:=id hn
    refine h _ ⟨I.ok,I.os,I.bare,⟨fun b o e n hb hx=>?_,fun b o e n hb hx=>?_,I.base.free,fun b o e hx=>?_,I.base.tups,I.base.frzs,I.base.tbls⟩,⟨_,hn',fun j y v' e1 e2 e3=>?_⟩,fun y c e=>?_,I.free,I.freeC,fun p hp=>?_,tracked ⟨oL,hoL,I.free⟩ hs,by simpa using I.len⟩ ⟨_,hs,.inl rfl⟩
    · exact (hs.2 b (Nat.ne_of_lt (Nat.lt_of_lt_of_le (Heap.lt_size e) I.ok.above))).trans (I.base.keep b o e n hb hx)
    · obtain ⟨sl,e1⟩:=I.base.slot b o e n hb hx
      exact ⟨sl,(hs.2 b (Nat.ne_of_lt (Nat.lt_of_lt_of_le (Heap.lt_size e) I.ok.above))).trans e1⟩
    · obtain ⟨o',e1⟩:=I.base.there b o e hx
      exact ⟨o',(hs.2 b (Nat.ne_of_lt (Nat.lt_of_lt_of_le (Heap.lt_size e) I.ok.above))).trans e1⟩
    · by_cases hj:j = i
      · subst hj
        rw [hi] at e1; cases e1
        rw [List.getElem?_set_self hiσ] at e2
        cases e2
        exact ⟨u,r,.inl ⟨hk,by simp⟩⟩
      · rw [List.getElem?_set_ne (Ne.symm hj)] at e2
        obtain ⟨u',r',q⟩:=hl j y v' e1 e2 e3
        refine ⟨u',r',?_⟩
        rcases q with ⟨k,e⟩ | ⟨k,c,e,z⟩
        · refine .inl ⟨k,?_⟩
          have:y ≠ x:=fun e=>hj (nodup_ix hN e1 (e ▸ hi))
          simp [this,e]
        · exact .inr ⟨k,c,e,z.sameBut hs (cne y c e)⟩
    · obtain ⟨w',z⟩:=I.cell y c e
      exact ⟨w',z.sameBut hs (cne y c e)⟩
    · obtain ⟨e,n,ne,nf,d⟩:=I.pin p hp
      exact ⟨(hs.2 p.1 ne).trans e,n,ne,nf,d⟩
  · have hfn:X.fn x = true:=by
      rcases hf with z | z
      · exact z
      · rw [z] at hk; cases hk
    obtain ⟨c,hc⟩:=I.ok.has x (.inl hk)
    obtain ⟨w',z⟩:=I.cell x c hc
    refine wpAny_storeName_cell I.ok.kind hk hc z (fun h' hc' hs=>?_)
    obtain ⟨oc,hoc,hocd⟩:=id z
    refine h { s with heap:=h' } ⟨I.ok,I.os,I.bare,⟨fun b o e n hb hx=>?_,fun b o e n hb hx=>?_,I.base.free,fun b o e hx=>?_,I.base.tups,I.base.frzs,I.base.tbls⟩,⟨m,hn.sameBut hs (Ne.symm (cne x c hc)),fun j y v' e1 e2 e3=>?_⟩,fun y c' e=>?_,I.free,I.freeC,fun p hp=>?_,tracked ⟨oc,hoc,I.freeC x c hc⟩ hs,by simpa using I.len⟩ ⟨c,hs,.inr hc⟩
    · exact (hs.2 b (Nat.ne_of_lt (Nat.lt_of_lt_of_le (Heap.lt_size e) (I.ok.cab x c hfn hc)))).trans (I.base.keep b o e n hb hx)
    · obtain ⟨sl,e1⟩:=I.base.slot b o e n hb hx
      exact ⟨sl,(hs.2 b (Nat.ne_of_lt (Nat.lt_of_lt_of_le (Heap.lt_size e) (I.ok.cab x c hfn hc)))).trans e1⟩
    · obtain ⟨o',e1⟩:=I.base.there b o e hx
      exact ⟨o',(hs.2 b (Nat.ne_of_lt (Nat.lt_of_lt_of_le (Heap.lt_size e) (I.ok.cab x c hfn hc)))).trans e1⟩
    · by_cases hj:j = i
      · subst hj
        rw [hi] at e1; cases e1
        rw [List.getElem?_set_self hiσ] at e2
        cases e2
        exact ⟨u,r,.inr ⟨.inl hk,c,hc,hc'⟩⟩
      · rw [List.getElem?_set_ne (Ne.symm hj)] at e2
        obtain ⟨u',r',q⟩:=hl j y v' e1 e2 e3
        refine ⟨u',r',?_⟩
        rcases q with q | ⟨k,c',e,z'⟩
        · exact .inl q
        · refine .inr ⟨k,c',e,z'.sameBut hs ?_⟩
          rintro rfl
          exact hj (nodup_ix hN e1 (I.ok.inj _ _ _ e hc ▸ hi))
    · by_cases hcc:c' = c
      · subst hcc; exact ⟨_,hc'⟩
      · obtain ⟨w2,z2⟩:=I.cell y c' e
        exact ⟨w2,z2.sameBut hs hcc⟩
    · obtain ⟨e,n,ne,nf,d⟩:=I.pin p hp
      refine ⟨(hs.2 p.1 ?_).trans e,n,ne,nf,d⟩
      intro q
      rw [q,hoc] at e
      have q':oc = p.2:=Option.some.inj e
      exact d w' (by rw [← q']; exact hocd)
theorem store_ok {M:Model} {A:Around} {E:Value->Shared->Prop} {i:Nat} {x:Str} {v:V} {u:Value} {Q:Unit->Shared->Prop} (I:Inv X pins σ H s) (hN:X.N.Nodup) (hi:X.N[i]? = some x) (hx:Loc X.env.scope x) (r:RelV v u)
    (h:∀ s',Inv X pins (σ.set i (some v)) H s'->Q () s') (hf:X.fn x = true ∨ X.env.scope.names.lookup x = some .local:=by first | exact .inl rfl | exact .inr rfl | assumption):wpAny M A (storeName X.env x u) Q E s :=
  store_ok2 I hN hi hx r (fun s' I' _=>h s' I') hf
theorem Inv.call' {s':Shared} {ch:List Addr} (I:Inv X pins σ H s) (ho:s'.os = s.os) (u:Un (frs X.stack) ch H H' s.heap s'.heap) (hok:HOk X.prog X.w H' s'.heap) (hg:AllBare s'.gens)
    (hch:∀ b ∈ ch,(b ∈ X.ex ∨ X.s₀.heap.objs.size ≤ b) /\ b ≠ X.env.locals /\ (∀ x c,X.env.cells.lookup x = some c->c ≠ b) /\ ∀ p ∈ X.pn ++ pins,p.1 ≠ b):Inv X pins σ H' s':=by
  obtain ⟨h',g',d',t',o'⟩:=s'
  have e:o' = s.os:=ho
  subst e
  exact I.call (g':=g') (t':=t') (d':=d') u hok hg hch
end
abbrev XK:=Value->Option Addr->Hp->Prop
abbrev St:=List (Option V)
abbrev VK:=V->Hp->Prop
abbrev TE:=St->Hp->VK->Prop
abbrev TT:=St->Hp->(Bool->Hp->Prop)->Prop
abbrev TA:=St->Hp->(List V->Hp->Prop)->Prop
structure Ends where
  nx:St->Hp->Prop
  rt:VK
  bk:St->Hp->Prop:=fun _ _=>False
  ct:St->Hp->Prop:=fun _ _=>False
abbrev TS:=Ends->St->Hp->Prop
def EP (X:Cx) (pins:List (Addr × Obj)) (σ:St) (Q:VK) (u:Value) (s':Shared):Prop:=∃ v H',Inv X pins σ H' s' /\ RelV v u /\ Q v H'
def TP (X:Cx) (pins:List (Addr × Obj)) (σ:St) (Q:Bool->Hp->Prop) (b:Bool) (s':Shared):Prop:=∃ H',Inv X pins σ H' s' /\ Q b H'
def AP (X:Cx) (pins:List (Addr × Obj)) (σ:St) (Q:List V->Hp->Prop) (us:List Value) (s':Shared):Prop:=∃ vs H',Inv X pins σ H' s' /\ Vals vs us /\ Q vs H'
def SP (X:Cx) (pins:List (Addr × Obj)) (D:Ends) (f:Flow) (s':Shared):Prop :=
  match f with
  | .next=>∃ σ' H',Inv X pins σ' H' s' /\ D.nx σ' H'
  | .brk=>∃ σ' H',Inv X pins σ' H' s' /\ D.bk σ' H'
  | .cont=>∃ σ' H',Inv X pins σ' H' s' /\ D.ct σ' H'
  | .ret u=>∃ v σ' H',Inv X pins σ' H' s' /\ RelV v u /\ D.rt v H'
def PE (X:Cx) (e:Expr) (t:TE):Prop :=
  ∀ (pins:List (Addr × Obj)) (s:Shared) (σ:St) (H:Hp) (Q:VK),Inv X pins σ H s->t σ H Q->wpAny (model X.prog X.w) X.A (eval e X.env) (EP X pins σ Q) X.xe s
def PT (X:Cx) (e:Expr) (t:TT):Prop :=
  ∀ (pins:List (Addr × Obj)) (s:Shared) (σ:St) (H:Hp) (Q:Bool->Hp->Prop),Inv X pins σ H s->t σ H Q->wpAny (model X.prog X.w) X.A (isTrue e X.env (eval e X.env)) (TP X pins σ Q) X.xe s
def PW (X:Cx) (e:Expr) (t:TT):Prop :=
  ∀ (whole:Sem Value) (pins:List (Addr × Obj)) (s:Shared) (σ:St) (H:Hp) (Q:Bool->Hp->Prop),Inv X pins σ H s->t σ H Q->wpAny (model X.prog X.w) X.A (isTrue e X.env whole) (TP X pins σ Q) X.xe s
theorem PW.pt {X:Cx} {e:Expr} {t:TT} (h:PW X e t):PT X e t:=h _
def PA (X:Cx) (es:List Expr) (t:TA):Prop :=
  ∀ (pos:Pos) (pins:List (Addr × Obj)) (s:Shared) (σ:St) (H:Hp) (Q:List V->Hp->Prop),Inv X pins σ H s->t σ H Q->wpAny (model X.prog X.w) X.A (spliced (backTo pos (starEach es X.env))) (AP X pins σ Q) X.xe s
def PS (X:Cx) (st:Stmt) (t:TS):Prop :=
  ∀ (pins:List (Addr × Obj)) (s:Shared) (σ:St) (H:Hp) (D:Ends),Inv X pins σ H s->t D σ H->wpAny (model X.prog X.w) X.A (exec st X.env) (SP X pins D) X.xe s
def PSs (X:Cx) (st:List Stmt) (t:TS):Prop :=
  ∀ (pins:List (Addr × Obj)) (s:Shared) (σ:St) (H:Hp) (D:Ends),Inv X pins σ H s->t D σ H->wpAny (model X.prog X.w) X.A (execs st X.env) (SP X pins D) X.xe s
theorem thn {α:Type} {t:Sem α} {Q Q':α->Shared->Prop} {M:Model} {A:Around} {E:Value->Shared->Prop} {s:Shared} (h:wpAny M A t Q E s) (hQ:∀ a s,Q a s->Q' a s):wpAny M A t Q' E s:=wpAny_mono h hQ fun _ _ x=>x
open PySem PySem.Spec PyProof.Rows
section
variable {X:Cx}
def tVar (i:Nat):TE:=fun σ H Q=>∃ v,σ[i]? = some (some v) /\ Q v H
def tC (v:V):TE:=fun _ H Q=>Q v H
theorem pe_var {i:Nat} {x:Str} {pos:Pos} (hN:X.N[i]? = some x) (hv:Vis X.env.scope x) (hd:(x == ("__debug__":Str)) = false:=by decide) (hcd:(x == ("__classdict__":Str)) = false:=by decide):PE X (.Name x pos) (tVar i):=by
  intro pins s σ H Q I h
  obtain ⟨v,e,h⟩:=h
  obtain ⟨m,hn,hl⟩:=I.loc
  obtain ⟨u,r,l⟩:=hl i x v hN e hv
  have fin:EP X pins σ Q u s:=⟨v,H,I,r,h⟩
  rcases l with ⟨hk,hm⟩ | ⟨hk,c,hc,hcell⟩
  · exact wpAny_Name (wpAny_loadName_local I.ok.kind hk hn hm fin) hd
  · rcases hk with hk | hk
    · exact wpAny_Name (wpAny_loadName_cell I.ok.kind hk hc hcell fin) hd
    · exact wpAny_Name (wpAny_loadName_free I.ok.kind hk hc hcell fin hcd) hd
theorem pe_int {i j pos}:PE X (.Constant (.int i) j pos) (tC (.int i)):=fun _ _ _ H _ I h=>wpAny_Constant_int ⟨.int i,H,I.tok _,⟨_,rfl⟩,h⟩
theorem pe_bl {b j pos}:PE X (.Constant (.bool b) j pos) (tC (.bl b)):=fun _ _ _ H _ I h=>Constant_bool ⟨.bl b,H,I,rfl,h⟩
theorem pe_non {j pos}:PE X (.Constant .none j pos) (tC .non):=fun _ _ _ H _ I h=>Constant_none ⟨.non,H,I,rfl,h⟩
theorem pe_str {x j pos}:PE X (.Constant (.str x) j pos) (tC (.str x)):=fun _ _ _ H _ I h=>Calls.Constant_str ⟨.str x,H,I.tok _,⟨_,rfl⟩,h⟩
def Gl (X:Cx) (x:Str):Prop:=X.env.kindOf x = some .globalImplicit
theorem ld_glob {E:Value->Shared->Prop} {pins:List (Addr × Obj)} {s:Shared} {σ:St} {H:Hp} {x:Str} {u:Value} {pos:Pos} {Q:Value->Shared->Prop} (I:Inv X pins σ H s) (hg:Gl X x) (hm:X.mg x = some u) (h:Q u s)
    (hd:(x == ("__debug__":Str)) = false:=by decide):wpAny (model X.prog X.w) X.A (eval (.Name x pos) X.env) Q E s :=
  Calls.Name_function_global I.ok.kind hg (Calls.loadGlobal_global (by rw [I.ok.glob]; exact I.mod.glob.keeps I.bk) hm h) hd
theorem ld_blt {E:Value->Shared->Prop} {pins:List (Addr × Obj)} {s:Shared} {σ:St} {H:Hp} {x:Str} {u:Value} {pos:Pos} {Q:Value->Shared->Prop} (I:Inv X pins σ H s) (hg:Gl X x) (hm:X.mg x = none) (hv:bootBuiltins x = some u) (h:Q u s)
    (hn:x ≠ "__name__":=by decide) (hd:(x == ("__debug__":Str)) = false:=by decide):wpAny (model X.prog X.w) X.A (eval (.Name x pos) X.env) Q E s:=by
  obtain ⟨mb,h1,h2⟩:=I.mod.blt
  exact Calls.Name_function_global I.ok.kind hg (Calls.loadGlobal_builtin (by rw [I.ok.glob]; exact I.mod.glob.keeps I.bk) hm (by rw [I.ok.blt]; exact h1.keeps I.bk) ((h2 x hn).trans hv) h) hd
theorem pe_glob {x:Str} {v:V} {u:Value} {pos:Pos} (hg:Gl X x) (hm:X.mg x = some u) (r:RelV v u) (hd:(x == ("__debug__":Str)) = false:=by decide):PE X (.Name x pos) (tC v) :=
  fun _ _ _ H _ I h=>ld_glob I hg hm ⟨v,H,I,r,h⟩ hd
theorem pe_bltn {x:Str} {v:V} {u:Value} {pos:Pos} (hg:Gl X x) (hm:X.mg x = none) (hv:bootBuiltins x = some u) (r:RelV v u) (hn:x ≠ "__name__":=by decide) (hd:(x == ("__debug__":Str)) = false:=by decide):PE X (.Name x pos) (tC v) :=
  fun _ _ _ H _ I h=>ld_blt I hg hm hv ⟨v,H,I,r,h⟩ hn hd
variable {a b:Expr} {ta tb:TE} {pos:Pos}
def PC (X:Cx) (op:CmpOp) (a b:Expr) (t:TE):Prop :=
  ∀ (pins:List (Addr × Obj)) (s:Shared) (σ:St) (H:Hp) (Q:VK),Inv X pins σ H s->t σ H Q →
    wpAny (model X.prog X.w) X.A (eval a X.env) (fun v s₁=>wpAny (model X.prog X.w) X.A (eval b X.env) (fun u s₂=>wpAny (model X.prog X.w) X.A (compareOp op v u) (EP X pins σ Q) X.xe s₂) X.xe s₁) X.xe s
theorem nobehind (b:Expr) {op:CmpOp} (h:op ≠ .In) (h2:op ≠ .NotIn):behindInMarks op b = false:=by
  have e1:(op == CmpOp.In) = false:=by cases op <;> first | rfl | exact absurd rfl h
  have e2:(op == CmpOp.NotIn) = false:=by cases op <;> first | rfl | exact absurd rfl h2
  cases b <;> simp [behindInMarks,e1,e2]
def tB (t:TE):TT:=fun σ H Q=>t σ H fun x H1=>∃ c,x = .bl c /\ Q c H1
theorem pt_cmp {op:CmpOp} {t:TE} (h:PC X op a b t) (h1:behindInMarks op b = false:=by first | exact nobehind _ (by decide) (by decide) | rfl):PT X (.Compare a [op] [b] pos) (tB t):=by
  intro pins s σ H Q I hw
  refine wpAny_isTrue_Compare1 (thn (h pins s σ H _ I hw) fun v s1 h1=>thn h1 fun u s2 h2=>thn h2 fun c s3 ⟨x,H1,I1,r1,q1⟩=>?_) h1
  obtain ⟨d,rfl,q⟩:=q1
  cases r1
  exact wpAny_truthy_bool ⟨H1,I1,q⟩
theorem pt_val {e:Expr} {t:TE} (h:PE X e t) (he:∀ whole,isTrue e X.env whole = (do let v ← whole; standAt e.pos; holding [v] (truthy v)):=by intro _; rfl):PT X e (tB t):=by
  intro pins s σ H Q I hw
  refine isTrue_plain (thn (h pins s σ H _ I hw) fun v s1 ⟨x,H1,I1,r1,q1⟩=>?_) (he _)
  obtain ⟨d,rfl,q⟩:=q1
  cases r1
  exact wpAny_truthy_bool ⟨H1,I1,q⟩
variable {tA tB':TT} {rest:List Expr}
def tAnd (t u:TT):TT:=fun σ H Q=>t σ H fun c H1=>if c = true then u σ H1 Q else Q false H1
def tOr (t u:TT):TT:=fun σ H Q=>t σ H fun c H1=>if c = true then Q true H1 else u σ H1 Q
def tNot (t:TT):TT:=fun σ H Q=>t σ H fun c H1=>Q (!c) H1
theorem pw_and1 (ha:PT X a tA):PW X (.BoolOp .And [a] pos) tA:=by
  intro wh pins s σ H Q I h
  refine isTrue_and (thn (ha pins s σ H Q I h) fun c s1 e=>?_)
  cases c with
  | true=>exact isTrue_and_nil e
  | false=>exact e
theorem pw_or1 (ha:PT X a tA):PW X (.BoolOp .Or [a] pos) tA:=by
  intro wh pins s σ H Q I h
  refine isTrue_or (thn (ha pins s σ H Q I h) fun c s1 e=>?_)
  cases c with
  | false=>exact isTrue_or_nil e
  | true=>exact e
theorem pw_and (ha:PT X a tA) (hb:PW X (.BoolOp .And (b :: rest) pos) tB'):PW X (.BoolOp .And (a :: b :: rest) pos) (tAnd tA tB'):=by
  intro wh pins s σ H Q I h
  refine isTrue_and (thn (ha pins s σ H _ I h) fun c s1 ⟨H1,I1,q1⟩=>?_)
  cases c with
  | true=>exact hb wh pins s1 σ H1 Q I1 q1
  | false=>exact ⟨H1,I1,q1⟩
theorem pw_or (ha:PT X a tA) (hb:PW X (.BoolOp .Or (b :: rest) pos) tB'):PW X (.BoolOp .Or (a :: b :: rest) pos) (tOr tA tB'):=by
  intro wh pins s σ H Q I h
  refine isTrue_or (thn (ha pins s σ H _ I h) fun c s1 ⟨H1,I1,q1⟩=>?_)
  cases c with
  | true=>exact ⟨H1,I1,q1⟩
  | false=>exact hb wh pins s1 σ H1 Q I1 q1
theorem pt_not (ha:PT X a tA):PT X (.UnaryOp .Not a pos) (tNot tA):=by
  intro pins s σ H Q I h
  exact isTrue_not (ha pins s σ H (fun c H1=>Q (!c) H1) I h)
def tAndV (ta tb:TE):TE:=fun σ H Q=>ta σ H fun x H1=>∃ c,x = .bl c /\ if c = true then tb σ H1 Q else Q (.bl false) H1
def tNotV (ta:TE):TE:=fun σ H Q=>ta σ H fun x H1=>∃ c,x = .bl c /\ Q (.bl (!c)) H1
theorem pe_one {op} {t:TE} (h:PE X a t):PE X (.BoolOp op [a] pos) t:=fun pins s σ H Q I hw=>BoolOp_one (h pins s σ H Q I hw)
theorem pe_and (ha:PE X a ta) (hb:PE X (.BoolOp .And (b :: rest) pos) tb):PE X (.BoolOp .And (a :: b :: rest) pos) (tAndV ta tb):=by
  intro pins s σ H Q I h
  refine BoolOp_and (thn (ha pins s σ H _ I h) fun v s1 ⟨x,H1,I1,r1,q1⟩=>?_)
  obtain ⟨c,rfl,q1⟩:=q1
  cases r1
  refine wpAny_truthy_bool ?_
  cases c with
  | true=>exact hb pins s1 σ H1 Q I1 q1
  | false=>exact ⟨.bl false,H1,I1,rfl,q1⟩
theorem pe_not (ha:PE X a ta):PE X (.UnaryOp .Not a pos) (tNotV ta):=by
  intro pins s σ H Q I h
  refine UnaryOp_ (thn (ha pins s σ H _ I h) fun v s1 ⟨x,H1,I1,r1,q1⟩=>?_)
  obtain ⟨c,rfl,q1⟩:=q1
  cases r1
  exact not_of (wpAny_truthy_bool ⟨.bl (!c),H1,I1,rfl,q1⟩)
def tIf (t:TT) (ta tb:TE):TE:=fun σ H Q=>t σ H fun c H1=>if c = true then ta σ H1 Q else tb σ H1 Q
theorem pe_ifExp {c:Expr} (hc:PT X c tA) (ha:PE X a ta) (hb:PE X b tb):PE X (.IfExp c a b pos) (tIf tA ta tb):=by
  intro pins s σ H Q I h
  refine wpAny_IfExp (thn (hc pins s σ H _ I h) fun d s1 ⟨H1,I1,q1⟩=>?_)
  cases d with
  | true=>exact ha pins s1 σ H1 Q I1 q1
  | false=>exact hb pins s1 σ H1 Q I1 q1
end
open PySem PySem.Spec PyProof.Rows
def SqL (K:PySem.W.Frag) (H:Hp) (a:Addr) (xs:List V):Prop :=
  Rd H a (.lst xs) ∨
    ∃ (o:Obj) (its:Array Value) (n:Nat),K.lookup a = some o /\ o.cls = .type "list" /\ o.dict = none /\ o.data = .seq its n /\ its.size ≤ sizeLine /\ Vals xs its.toList
def SqT (K:PySem.W.Frag) (H:Hp) (a:Addr) (xs:List V):Prop :=
  Rd H a (.tup xs) ∨
    ∃ (o:Obj) (its:Array Value) (n:Nat),K.lookup a = some o /\ o.cls = .type "tuple" /\ o.data = .seq its n /\ its.size ≤ sizeLine /\ Vals xs its.toList
def absV:Value->Option V
  | .none=>some .non
  | .bool b=>some (.bl b)
  | .int i _=>some (.int i)
  | .str x _=>some (.str x)
  | .bytes b _=>some (.byt b)
  | .float b _=>some (.flt b)
  | .ref a=>some (.ref a)
  | .type n=>some (.ty n)
  | _=>none
theorem RelV.abs {x:V} {u:Value} (r:RelV x u):absV u = some x:=by
  cases x with
  | non=>cases r; rfl
  | bl _=>cases r; rfl
  | int _=>obtain ⟨t,rfl⟩:=r; rfl
  | str _=>obtain ⟨t,rfl⟩:=r; rfl
  | byt _=>obtain ⟨t,rfl⟩:=r; rfl
  | flt _=>obtain ⟨t,rfl⟩:=r; rfl
  | ref _=>cases r; rfl
  | ty _=>cases r; rfl
theorem RelV.inj {x y:V} {u:Value} (r:RelV x u) (q:RelV y u):x = y:=Option.some.inj (r.abs.symm.trans q.abs)
theorem Vals.inj:∀ {xs ys:List V} {us:List Value},Vals xs us->Vals ys us->xs = ys
  | _,_,_,.nil,.nil=>rfl
  | _,_,_,.cons r t,.cons r' t'=>by rw [r.inj r',Vals.inj t t']
section
variable {X:Cx} {pins:List (Addr × Obj)} {σ:St} {H:Hp} {s:Shared} {a:Addr} {xs ys:List V}
theorem SqL.of {K:PySem.W.Frag} (h:H a = some (.lst xs)):SqL K H a xs:=.inl (.inl h)
theorem SqT.of {K:PySem.W.Frag} (h:H a = some (.tup xs)):SqT K H a xs:=.inl (.inl h)
theorem Inv.list (I:Inv X pins σ H s) (h:SqL X.K H a xs):∃ its:List Value,Vals xs its /\ PlainL s.heap a its.toArray /\ xs.length ≤ sizeLine:=by
  rcases h with h | ⟨o,its,n,hk,hc,hd,hs,hz,r⟩
  · obtain ⟨z,its,n,r,e⟩:=h.ok I.hok
    exact ⟨its,r,⟨_,n,e,rfl,rfl,rfl⟩,z⟩
  · refine ⟨its.toList,r,⟨o,n,I.kIn a o hk,hc,hd,by simpa using hs⟩,?_⟩
    have e:=r.length
    simp only [Array.length_toList] at e
    omega
theorem Inv.tuple (I:Inv X pins σ H s) (h:SqT X.K H a xs):∃ its:List Value,Vals xs its /\ IsTup s.heap a its.toArray /\ xs.length ≤ sizeLine:=by
  rcases h with h | ⟨o,its,n,hk,hc,hs,hz,r⟩
  · obtain ⟨z,its,r,p⟩:=h.ok I.hok
    exact ⟨its,r,p,z⟩
  · refine ⟨its.toList,r,⟨o,I.kIn a o hk,hc,n,by simpa using hs⟩,?_⟩
    have e:=r.length
    simp only [Array.length_toList] at e
    omega
theorem Inv.list_inj (I:Inv X pins σ H s) (h:SqL X.K H a xs) (h':SqL X.K H a ys):xs = ys:=by
  obtain ⟨its,r,⟨o,n,e,_,_,d⟩,_⟩:=I.list h
  obtain ⟨its',r',⟨o',n',e',_,_,d'⟩,_⟩:=I.list h'
  rw [e] at e'; cases e'
  rw [d] at d'
  injection d' with d1 _
  have:its = its':=by simpa using congrArg Array.toList d1
  subst this
  exact r.inj r'
theorem Inv.tuple_inj (I:Inv X pins σ H s) (h:SqT X.K H a xs) (h':SqT X.K H a ys):xs = ys:=by
  obtain ⟨its,r,⟨o,e,_,n,d⟩,_⟩:=I.tuple h
  obtain ⟨its',r',⟨o',e',_,n',d'⟩,_⟩:=I.tuple h'
  rw [e] at e'; cases e'
  rw [d] at d'
  injection d' with d1 _
  have:its = its':=by simpa using congrArg Array.toList d1
  subst this
  exact r.inj r'
end
abbrev Cx.wish (X:Cx) (E:Value->Shared->Prop):Cx:={ X with xe:=E }
abbrev Cx.nox (X:Cx):Cx:=X.wish fun _ _=>False
theorem Cx.Ok.wish {X:Cx} (ok:X.Ok) (E:Value->Shared->Prop):(X.wish E).Ok :=
  ⟨ok.mod,ok.kind,ok.glob,ok.blt,ok.above,ok.inj,ok.has,ok.cab,ok.hd,ok.frames,ok.stk,ok.exf,ok.bs,ok.bsz,ok.noex,ok.exfs,ok.funs,ok.frf⟩
theorem Cx.Ok.unwish {X:Cx} {E:Value->Shared->Prop} (ok:(X.wish E).Ok):X.Ok :=
  ⟨ok.mod,ok.kind,ok.glob,ok.blt,ok.above,ok.inj,ok.has,ok.cab,ok.hd,ok.frames,ok.stk,ok.exf,ok.bs,ok.bsz,ok.noex,ok.exfs,ok.funs,ok.frf⟩
section
variable {X:Cx} {pins:List (Addr × Obj)} {σ:St} {H:Hp} {s:Shared} {E:Value->Shared->Prop}
theorem Inv.wish (I:Inv X pins σ H s) (E:Value->Shared->Prop):Inv (X.wish E) pins σ H s:=⟨I.ok.wish E,I.os,I.bare,I.base,I.loc,I.cell,I.free,I.freeC,I.pin,I.hok,I.len⟩
theorem Inv.unwish (I:Inv (X.wish E) pins σ H s):Inv X pins σ H s:=⟨I.ok.unwish,I.os,I.bare,I.base,I.loc,I.cell,I.free,I.freeC,I.pin,I.hok,I.len⟩
end
section
variable {X:Cx} {st:Stmt} {rest:List Stmt} {t u:TS} {e:Expr} {te:TE} {pos:Pos}
def tNext:TS:=fun D σ H=>D.nx σ H
def tSeq (t u:TS):TS:=fun D σ H=>t { D with nx:=u D } σ H
theorem pss_nil:PSs X [] tNext:=fun _ _ σ H _ I h=>wpAny_execs_nil ⟨σ,H,I,h⟩
theorem pss_cons (h1:PS X st t) (h2:PSs X rest u):PSs X (st :: rest) (tSeq t u):=by
  intro pins s σ H D I h
  refine wpAny_execs_cons (thn (h1 pins s σ H { D with nx:=u D } I h) fun f s1 q=>?_)
  cases f with
  | next =>
    obtain ⟨σ',H',I',q⟩:=q
    exact h2 pins s1 σ' H' D I' q
  | ret v=>exact q
  | brk=>exact q
  | cont=>exact q
theorem pss_one (h1:PS X st t):PSs X [st] t:=by
  intro pins s σ H D I h
  refine wpAny_execs_cons (thn (h1 pins s σ H D I h) fun f s1 q=>?_)
  cases f with
  | next=>exact wpAny_execs_nil q
  | ret v=>exact q
  | brk=>exact q
  | cont=>exact q
theorem Inv.quiet {pins:List (Addr × Obj)} {σ:St} {H:Hp} {s:Shared} (I:Inv X pins σ H s):interactive X.env = false:=by simp [interactive,I.ok.kind]
def tDrop (te:TE):TS:=fun D σ H=>te σ H fun _ H1=>D.nx σ H1
theorem ps_expr (he:PE X e te) (hs:swapsWith e none pos.line X.env = pure false:=by rfl):PS X (.Expr e pos) (tDrop te):=by
  intro pins s σ H D I h
  exact wpAny_Expr_any (thn (he pins s σ H _ I h) fun v s1 ⟨x,H1,I1,r1,q1⟩=>⟨σ,H1,I1,q1⟩) I.quiet hs
def tRet (te:TE):TS:=fun D σ H=>te σ H D.rt
theorem ps_ret (he:PE X e te):PS X (.Return (some e) pos) (tRet te):=by
  intro pins s σ H D I h
  exact wpAny_Return_some (thn (he pins s σ H _ I h) fun v s1 ⟨x,H1,I1,r1,q1⟩=>⟨x,σ,H1,I1,r1,q1⟩)
def tIfS (c:TT) (t u:TS):TS:=fun D σ H=>c σ H fun b H1=>if b = true then t D σ H1 else u D σ H1
theorem ps_if {c:Expr} {a b:List Stmt} {tc:TT} (hc:PT X c tc) (ha:PSs X a t) (hb:PSs X b u):PS X (.If c a b pos) (tIfS tc t u):=by
  intro pins s σ H D I h
  refine wpAny_If (thn (hc pins s σ H _ I h) fun d s1 ⟨H1,I1,q1⟩=>?_)
  cases d with
  | true=>exact ha pins s1 σ H1 D I1 q1
  | false=>exact hb pins s1 σ H1 D I1 q1
end
abbrev TG:=V->St->Hp->(St->Hp->Prop)->Prop
abbrev TGs:=List V->St->Hp->(St->Hp->Prop)->Prop
def PG (X:Cx) (target:Expr) (t:TG):Prop :=
  ∀ (pins:List (Addr × Obj)) (s:Shared) (σ:St) (H:Hp) (v:V) (u:Value) (Q:St->Hp->Prop),Inv X pins σ H s->RelV v u->t v σ H Q →
    wpAny (model X.prog X.w) X.A (assign target X.env u) (fun _ s'=>∃ σ' H',Inv X pins σ' H' s' /\ Q σ' H') X.xe s
def PGs (X:Cx) (ts:List Expr) (t:TGs):Prop :=
  ∀ (pins:List (Addr × Obj)) (s:Shared) (σ:St) (H:Hp) (vs:List V) (us:List Value) (Q:St->Hp->Prop),Inv X pins σ H s->Vals vs us->t vs σ H Q →
    wpAny (model X.prog X.w) X.A (assignInOrder ((assignEach ts X.env).map (·.2)) us) (fun _ s'=>∃ σ' H',Inv X pins σ' H' s' /\ Q σ' H') X.xe s
abbrev TSet:=V->V->V->Hp->(Hp->Prop)->Prop
def PSet (X:Cx) (t:TSet):Prop :=
  ∀ (pins:List (Addr × Obj)) (s:Shared) (σ:St) (H:Hp) (o i v:V) (ov iv u:Value) (Q:Hp->Prop),Inv X pins σ H s->RelV o ov->RelV i iv->RelV v u->t o i v H Q →
    wpAny (model X.prog X.w) X.A (setItem ov iv u) (fun _ s'=>∃ H',Inv X pins σ H' s' /\ Q H') X.xe s
section
variable {X:Cx} {pos:Pos}
def gName (i:Nat):TG:=fun v σ H Q=>Q (σ.set i (some v)) H
theorem pg_name {i:Nat} {x:Str} (hN:X.N.Nodup) (hi:X.N[i]? = some x) (hx:Loc X.env.scope x) (hf:X.fn x = true ∨ X.env.scope.names.lookup x = some .local:=by first | exact .inl rfl | exact .inr rfl | assumption):PG X (.Name x pos) (gName i):=by
  intro pins s σ H v u Q I r h
  exact wpAny_assign_Name (store_ok I hN hi hx r (fun s' I'=>⟨_,H,I',h⟩) hf)
def gNil:TGs:=fun vs σ H Q=>vs = [] /\ Q σ H
def gCons (t:TG) (u:TGs):TGs:=fun vs σ H Q=>∃ v r,vs = v :: r /\ t v σ H fun σ' H'=>u r σ' H' Q
theorem pgs_nil:PGs X [] gNil:=by
  intro pins s σ H vs us Q I r h
  obtain ⟨e,h⟩:=h
  subst e
  cases r
  exact assignInOrder_nil ⟨σ,H,I,h⟩
theorem pgs_cons {e:Expr} {es:List Expr} {t:TG} {u:TGs} (h1:PG X e t) (h2:PGs X es u)
    (hs:(assignEach (e :: es) X.env).map (·.2) = assign e X.env :: (assignEach es X.env).map (·.2):=by rfl):PGs X (e :: es) (gCons t u):=by
  intro pins s σ H vs us Q I r h
  obtain ⟨v,vr,e1,h⟩:=h
  subst e1
  cases r with
  | cons r rr =>
    rw [hs]
    refine assignInOrder_cons (thn (h1 pins s σ H _ _ _ I r h) fun _ s1 ⟨σ1,H1,I1,q1⟩=>?_)
    exact h2 pins s1 σ1 H1 _ _ Q I1 rr q1
def gTup (K:PySem.W.Frag) (n:Nat) (t:TGs):TG:=fun v σ H Q=>∃ a xs,v = .ref a /\ SqT K H a xs /\ xs.length = n /\ t xs σ H Q
theorem pg_tup {es:List Expr} {k:Nat} {t:TGs} {n:Nat} (hc:X.calm = true) (h:PGs X es t)
    (hn:(assignEach es X.env).length = n:=by rfl) (hst:(assignEach es X.env).findIdx? (·.1) = none:=by rfl):PG X (.Tuple es k pos) (gTup X.K n t):=by
  intro pins s σ H v u Q I r hw
  obtain ⟨a,xs,e1,hq,hl,hw⟩:=hw
  subst e1
  cases r
  obtain ⟨its,rv,ht,hz⟩:=I.tuple hq
  refine assign_Tuple_tuple (I.ok.hd hc) ht (by simp [hn,← hl,rv.length]) hst fun h' hx=>?_
  have I1:Inv X pins σ H { s with heap:=h' }:=I.kept (t':=s.toks) fun b o e=>hx b o (Nat.ne_of_lt (Heap.lt_size e)) e
  exact h pins _ σ H xs _ Q I1 (by simpa using rv) hw
def gSub (to ti:TE) (t:TSet):TG:=fun v σ H Q=>to σ H fun o H1=>ti σ H1 fun i H2=>t o i v H2 fun H3=>Q σ H3
theorem pg_sub {o i:Expr} {to ti:TE} {t:TSet} (ho:PE X o to) (hi:PE X i ti) (hs:PSet X t)
    (ha:∀ v,assign (.Subscript o i pos) X.env v = (do
      let ov ← holding [v] (eval o X.env)
      let iv ← holding [v,ov] (eval i X.env)
      standAt pos
      holding [v,ov,iv] (setItem ov iv v)
      release [v,ov,iv] []):=by intro _; rfl):PG X (.Subscript o i pos) (gSub to ti t):=by
  intro pins s σ H v u Q I r h
  rw [ha]
  refine wpAny_bind (wpAny_holding (thn (ho pins s σ H _ I h) fun ov s1 ⟨x,H1,I1,r1,q1⟩=>?_))
  refine wpAny_bind (wpAny_holding (thn (hi pins s1 σ H1 _ I1 q1) fun iv s2 ⟨y,H2,I2,r2,q2⟩=>?_))
  refine wpAny_bind (wpAny_standAt (wpAny_bind (wpAny_holding (thn (hs pins s2 σ H2 x y v ov iv u _ I2 r1 r2 r q2) fun _ s3 ⟨H3,I3,q3⟩=>?_))))
  exact wpAny_release ⟨σ,H3,I3,q3⟩
def tAsg (te:TE) (g:TG):TS:=fun D σ H=>te σ H fun x H1=>g x σ H1 D.nx
theorem ps_asg {tg e:Expr} {te:TE} {g:TG} (he:PE X e te) (hg:PG X tg g) (hs:swapsWithSole [tg] e pos.line X.env = pure false:=by rfl) (hw:swappedStores [tg] e X.env = pure none:=by rfl)
    (h1:(assignEach [tg] X.env).map (·.2) = [assign tg X.env]:=by rfl):PS X (.Assign [tg] e pos) (tAsg te g):=by
  intro pins s σ H D I h
  refine wpAny_Assign_stores (thn (he pins s σ H _ I h) fun v s1 ⟨x,H1,I1,r1,q1⟩=>?_) hs hw
  rw [h1]
  exact thn (hg pins s1 σ H1 x v _ I1 r1 q1) fun _ s2 q=>q
theorem ps_set {i:Nat} {x:Str} {e:Expr} {te:TE} {pos':Pos} (hN:X.N.Nodup) (hi:X.N[i]? = some x) (hx:Loc X.env.scope x) (he:PE X e te) (hs:swapsWith e (some (.Name x pos')) pos.line X.env = pure false:=by rfl) (hf:X.fn x = true ∨ X.env.scope.names.lookup x = some .local:=by first | exact .inl rfl | exact .inr rfl | assumption) :
    PS X (.Assign [.Name x pos'] e pos) (tAsg te (gName i)):=by
  intro pins s σ H D I h
  refine wpAny_Assign_Name (thn (he pins s σ H _ I h) fun v s1 ⟨y,H1,I1,r1,q1⟩=>?_) hs
  exact store_ok I1 hN hi hx r1 (fun s2 I2=>⟨_,H1,I2,q1⟩) hf
end
structure It where
  go:Nat->Hp->Prop
  yld:Nat->Hp->V->Hp->Prop
  stop:Nat->Hp->Prop
def FpOk (X:Cx) (pins:List (Addr × Obj)) (H:Hp) (b:Addr):Prop :=
  H b = none /\ b ≠ X.env.locals /\ b ∉ X.fs /\ (b ∈ X.ex ∨ X.s₀.heap.objs.size ≤ b) /\ (∀ x c,X.env.cells.lookup x = some c->c ≠ b) /\ ∀ p ∈ X.pn ++ pins,p.1 ≠ b
theorem Inv.fpOk {X:Cx} {pins:List (Addr × Obj)} {σ:St} {H H':Hp} {s:Shared} {b:Addr} (I:Inv X pins σ H s) (hb:s.heap.objs.size ≤ b) (hn:H' b = none):FpOk X pins H' b:=by
  refine ⟨hn,Nat.ne_of_gt (Nat.lt_of_lt_of_le I.lt hb),I.nofs hb,.inr (Nat.le_trans I.sz hb),fun x c e z=>?_,fun p hp z=>?_⟩
  · obtain ⟨v,q⟩:=I.cell x c e
    exact absurd (Nat.lt_of_lt_of_le q.lt (by rw [z]; exact hb)) (Nat.lt_irrefl _)
  · exact absurd (Nat.lt_of_lt_of_le (Heap.lt_size (I.pin p hp).1) (by rw [z]; exact hb)) (Nat.lt_irrefl _)
structure Turn (P:Program) (w:World) (K:PySem.W.Frag) (tg:Expr) (J:It) (fp:List Addr) (it:Addr) (tn:Nat->Heap->Prop):Prop where
  mem:it ∈ fp
  obj:∀ i h,tn i h->∀ b ∈ fp,∃ o,h.get? b = some o /\ ∀ v,o.data ≠ .cell v
  keep:∀ i h h',tn i h->(∀ b ∈ fp,∀ o,h.get? b = some o->h'.get? b = some o)->tn i h'
  item:∀ (X:Cx),X.prog = P->X.w = w->X.K = K->X.calm = true->∀ (i:Nat) (pins:List (Addr × Obj)) (s:Shared) (σ:St) (H:Hp) (E:Value->Shared->Prop),Inv X pins σ H s->(∀ b ∈ fp,FpOk X pins H b)->tn i s.heap->J.go i H →
    wpAny (model P w) X.A (pyNext (.ref it)) (fun r s1=>∃ u,r = some u ∧
      wpAny (model P w) X.A (letOwnedTupleGo tg (.ref it) u) (fun _ s2=>∃ x H',Inv X pins σ H' s2 /\ RelV x u /\ J.yld i H x H' /\ tn (i + 1) s2.heap /\ ∀ b ∈ fp,H' b = none) E s1) E s
  done:∀ (X:Cx),X.prog = P->X.w = w->X.K = K->X.calm = true->∀ (i:Nat) (pins:List (Addr × Obj)) (s:Shared) (σ:St) (H:Hp) (E:Value->Shared->Prop),Inv X pins σ H s->(∀ b ∈ fp,FpOk X pins H b)->tn i s.heap->J.stop i H →
    wpAny (model P w) X.A (pyNext (.ref it)) (fun r s1=>r = none /\ Inv X pins σ H s1) E s
  self:∀ (A:Around) (i:Nat) (s:Shared) (Q:Value->Shared->Prop) (E:Value->Shared->Prop),tn i s.heap->Q (.ref it) s->wpAny (model P w) A (pyIter (.ref it)) Q E s
abbrev TI:=St->Hp->(It->Hp->Prop)->Prop
def PIE (X:Cx) (pins:List (Addr × Obj)) (σ:St) (tg:Expr) (R:It->Hp->Prop) (itv:Value) (s2:Shared):Prop :=
  ∃ (it:Addr) (fp:List Addr) (tn:Nat->Heap->Prop) (J:It) (H':Hp),itv = .ref it /\ Inv X pins σ H' s2 /\ Turn X.prog X.w X.K tg J fp it tn /\ tn 0 s2.heap /\ (∀ b ∈ fp,FpOk X pins H' b) /\ R J H'
def PI (X:Cx) (tg iter:Expr) (wi:TI):Prop :=
  ∀ (pins:List (Addr × Obj)) (s:Shared) (σ:St) (H:Hp) (R:It->Hp->Prop),Inv X pins σ H s->wi σ H R →
    wpAny (model X.prog X.w) X.A (eval iter X.env) (fun v s1=>wpAny (model X.prog X.w) X.A (pyIter v) (PIE X pins σ tg R) X.xe s1) X.xe s
theorem go_of {M:Model} {A:Around} {E:Value->Shared->Prop} {s:Shared} {tg:Expr} {it:Addr} {u:Value} {o:Obj} {n:String} {vs:Array Value} {Q:Unit->Shared->Prop} (ho:s.heap.get? it = some o) (hc:o.cls = .type n) (hd:o.data = .fields vs)
    (hn:["enumerate","zip","dict_itemiterator","dict_reverseitemiterator","odict_iterator","itertools.zip_longest","itertools.pairwise"].contains n = false) (hQ:Q () s):wpAny M A (letOwnedTupleGo tg (.ref it) u) Q E s:=by
  unfold letOwnedTupleGo
  cases tg <;> first
    | exact wpAny_pure hQ
    | (cases u <;> first
        | exact wpAny_pure hQ
        | (refine wpAny_bind (wpAny_load ho ?_)
           rw [hc,hd]
           show wpAny M A (if (["enumerate","zip","dict_itemiterator","dict_reverseitemiterator","odict_iterator","itertools.zip_longest","itertools.pairwise"].contains n && vs[0]? == some (rawInt _)) = true then _ else _) Q E s
           rw [if_neg (by intro h; rw [hn,Bool.false_and] at h; cases h)]
           exact wpAny_pure hQ))
def Itl (K:PySem.W.Frag) (a:Addr):It :=
  ⟨fun i H=>∃ xs x,SqL K H a xs /\ xs[i]? = some x,fun i H x H'=>H' = H /\ ∀ xs,SqL K H a xs->xs[i]? = some x,fun i H=>∃ xs,SqL K H a xs /\ xs.length ≤ i⟩
def Itt (K:PySem.W.Frag) (a:Addr):It :=
  ⟨fun i H=>∃ xs x,SqT K H a xs /\ xs[i]? = some x,fun i H x H'=>H' = H /\ ∀ xs,SqT K H a xs->xs[i]? = some x,fun i H=>∃ xs,SqT K H a xs /\ xs.length ≤ i⟩
def Itr (lo:Int) (n:Nat):It:=⟨fun i _=>i < n,fun i H x H'=>H' = H /\ x = .int (lo + i),fun i _=>n ≤ i⟩
theorem turn_list {P:Program} {w:World} {K:PySem.W.Frag} {tg:Expr} (a it:Addr):Turn P w K tg (Itl K a) [it] it (fun i h=>h.IsListIter it a i) where
  mem:=by simp
  obj:=fun i h st b hb=>by
    have e:b = it:=by simpa using hb
    subst e
    obtain ⟨o,e,c,d⟩:=st
    exact ⟨o,e,fun v z=>by rw [d] at z; cases z⟩
  keep:=fun i h h' st k=>st.at fun o e=>k it (by simp) o e
  item:=by
    intro X hP hw hK hc i pins s σ H E I hf st hg
    subst hP hw hK
    obtain ⟨xs,x,hq,hx⟩:=hg
    obtain ⟨its,rv,p,hz⟩:=I.list hq
    obtain ⟨u,hu,ru⟩:=rv.get hx
    obtain ⟨f0,f1,f2,f3,f4,f5⟩:=hf it (by simp)
    refine wpAny_pyNext_list_item st p.isList (x:=u) (by simpa using hu) fun h' st' sb=>?_
    have I1:Inv X pins σ H { s with heap:=h' }:=I.turned (t':=s.toks) (fun b o hb e=>(sb.2 b hb).trans e) f0 f1 f3 f4 f5
    obtain ⟨o,e,c,d⟩:=id st'
    exact ⟨u,rfl,go_of (s:={ s with heap:=h' }) e c d (by decide) ⟨x,H,I1,ru,⟨rfl,fun ys hy=>by rw [I.list_inj hy hq]; exact hx⟩,st',fun b hb=>(hf b hb).1⟩⟩
  done:=by
    intro X hP hw hK hc i pins s σ H E I hf st hg
    subst hP hw hK
    obtain ⟨xs,hq,hx⟩:=hg
    obtain ⟨its,rv,p,hz⟩:=I.list hq
    obtain ⟨f0,f1,f2,f3,f4,f5⟩:=hf it (by simp)
    have hl:=rv.length
    exact wpAny_pyNext_list_end (I.ok.hd hc) st p.isList (by simp; omega) fun h' eb=>⟨rfl,I.turned (t':=s.toks) (fun b o hb e=>eb b o hb e) f0 f1 f3 f4 f5⟩
  self:=fun _ _ _ _ _ st h=>wpAny_pyIter_listiter st h
theorem turn_tuple {P:Program} {w:World} {K:PySem.W.Frag} {tg:Expr} (a it:Addr):Turn P w K tg (Itt K a) [it] it (fun i h=>h.IsTupleIter it a i) where
  mem:=by simp
  obj:=fun i h st b hb=>by
    have e:b = it:=by simpa using hb
    subst e
    obtain ⟨o,e,c,d⟩:=st
    exact ⟨o,e,fun v z=>by rw [d] at z; cases z⟩
  keep:=fun i h h' st k=>st.at fun o e=>k it (by simp) o e
  item:=by
    intro X hP hw hK hc i pins s σ H E I hf st hg
    subst hP hw hK
    obtain ⟨xs,x,hq,hx⟩:=hg
    obtain ⟨its,rv,p,hz⟩:=I.tuple hq
    obtain ⟨u,hu,ru⟩:=rv.get hx
    obtain ⟨f0,f1,f2,f3,f4,f5⟩:=hf it (by simp)
    refine wpAny_pyNext_tuple_item st (show s.heap.IsTuple a its.toArray from p) (x:=u) (by simpa using hu) fun h' st' sb=>?_
    have I1:Inv X pins σ H { s with heap:=h' }:=I.turned (t':=s.toks) (fun b o hb e=>(sb.2 b hb).trans e) f0 f1 f3 f4 f5
    obtain ⟨o,e,c,d⟩:=id st'
    exact ⟨u,rfl,go_of (s:={ s with heap:=h' }) e c d (by decide) ⟨x,H,I1,ru,⟨rfl,fun ys hy=>by rw [I.tuple_inj hy hq]; exact hx⟩,st',fun b hb=>(hf b hb).1⟩⟩
  done:=by
    intro X hP hw hK hc i pins s σ H E I hf st hg
    subst hP hw hK
    obtain ⟨xs,hq,hx⟩:=hg
    obtain ⟨its,rv,p,hz⟩:=I.tuple hq
    obtain ⟨f0,f1,f2,f3,f4,f5⟩:=hf it (by simp)
    have hl:=rv.length
    exact wpAny_pyNext_tuple_end (I.ok.hd hc) st (show s.heap.IsTuple a its.toArray from p) (by simp; omega) fun h' eb=>⟨rfl,I.turned (t':=s.toks) (fun b o hb e=>eb b o hb e) f0 f1 f3 f4 f5⟩
  self:=fun _ _ _ _ _ st h=>wpAny_pyIter_tupleiter st h
theorem turn_range {P:Program} {w:World} {K:PySem.W.Frag} {tg:Expr} (it:Addr) (lo:Int) (n:Nat):Turn P w K tg (Itr lo n) [it] it (fun i h=>IsRangeIter h it (lo + (i:Nat) * 1) ((n:Int) - (i:Nat)) 1) where
  mem:=by simp
  obj:=fun i h st b hb=>by
    have e:b = it:=by simpa using hb
    subst e
    exact ⟨_,st,fun v z=>by
      have z':Data.fields _ = Data.cell v:=z
      cases z'⟩
  keep:=fun i h h' st k=>k it (by simp) _ st
  item:=by
    intro X hP hw hK hc i pins s σ H E I hf st hg
    subst hP hw hK
    obtain ⟨f0,f1,f2,f3,f4,f5⟩:=hf it (by simp)
    have W:=Walks.range (prog:=X.prog) (w:=X.w) (I.ok.hd hc) it lo 1 n
    refine W.item i s _ _ hg st fun v h' tk hv st' kk=>?_
    obtain ⟨t,rfl⟩:=hv
    have I1:Inv X pins σ H { s with heap:=h',toks:=tk }:=I.turned (fun b o hb e=>kk b o (by simpa using hb) e) f0 f1 f3 f4 f5
    refine ⟨_,rfl,go_of (s:={ s with heap:=h',toks:=tk }) (n:="range_iterator") st' rfl rfl (by decide) ⟨.int (lo + i),H,I1,⟨t,?_⟩,⟨rfl,rfl⟩,st',fun b hb=>(hf b hb).1⟩⟩
    rw [Int.mul_one]
  done:=by
    intro X hP hw hK hc i pins s σ H E I hf st hg
    subst hP hw hK
    obtain ⟨f0,f1,f2,f3,f4,f5⟩:=hf it (by simp)
    exact wpAny_pyNext_range_end (I.ok.hd hc) st (by have:n ≤ i:=hg; omega) fun h' eb=>⟨rfl,I.turned (t':=s.toks) (fun b o hb e=>eb b o hb e) f0 f1 f3 f4 f5⟩
  self:=fun _ _ _ _ _ st h=>wpAny_pyIter_rangeiter st h
open PySem PySem.Spec PyProof.Rows
section
variable {X:Cx} {tg:Expr}
def iList (K:PySem.W.Frag) (tl:TE):TI:=fun σ H R=>tl σ H fun x H1=>∃ a,x = .ref a /\ (∃ xs,SqL K H1 a xs) /\ R (Itl K a) H1
def iTup (K:PySem.W.Frag) (tl:TE):TI:=fun σ H R=>tl σ H fun x H1=>∃ a,x = .ref a /\ (∃ xs,SqT K H1 a xs) /\ R (Itt K a) H1
theorem pi_list {l:Expr} {tl:TE} (hl:PE X l tl):PI X tg l (iList X.K tl):=by
  intro pins s σ H R I h
  refine thn (hl pins s σ H _ I h) fun v s1 ⟨x,H1,I1,r1,q1⟩=>?_
  obtain ⟨a,e,⟨xs,hq⟩,q⟩:=q1
  subst e
  cases r1
  obtain ⟨its,rv,p,hz⟩:=I1.list hq
  refine wpAny_pyIter_list p.isList ?_
  refine ⟨s1.heap.objs.size,[s1.heap.objs.size],_,_,H1,rfl,I1.kept (t':=s1.toks) fun b o e=>Heap.get?_push_of_some _ e,turn_list a _,⟨_,Heap.get?_push_size _ rfl,rfl,rfl⟩,fun b hb=>?_,q⟩
  have e:b = s1.heap.objs.size:=by simpa using hb
  subst e
  exact I1.fpOk (Nat.le_refl _) (I1.hok.fresh (Nat.le_refl _))
theorem pi_tup {l:Expr} {tl:TE} (hl:PE X l tl):PI X tg l (iTup X.K tl):=by
  intro pins s σ H R I h
  refine thn (hl pins s σ H _ I h) fun v s1 ⟨x,H1,I1,r1,q1⟩=>?_
  obtain ⟨a,e,⟨xs,hq⟩,q⟩:=q1
  subst e
  cases r1
  obtain ⟨its,rv,p,hz⟩:=I1.tuple hq
  refine wpAny_pyIter_tuple (show s1.heap.IsTuple a its.toArray from p) ?_
  refine ⟨s1.heap.objs.size,[s1.heap.objs.size],_,_,H1,rfl,I1.kept (t':=s1.toks) fun b o e=>Heap.get?_push_of_some _ e,turn_tuple a _,⟨_,Heap.get?_push_size _ rfl,rfl,rfl⟩,fun b hb=>?_,q⟩
  have e:b = s1.heap.objs.size:=by simpa using hb
  subst e
  exact I1.fpOk (Nat.le_refl _) (I1.hok.fresh (Nat.le_refl _))
theorem range_it {pins:List (Addr × Obj)} {σ:St} {H:Hp} {s:Shared} {R:It->Hp->Prop} {E:Value->Shared->Prop} {lo hi:Int} {t u v:Tok} {tk:Nat} (I:Inv X pins σ H s) (h1:-(2 ^ 62) ≤ lo) (h2:lo < 2 ^ 62) (h3:-(2 ^ 62) ≤ hi) (h4:hi < 2 ^ 62)
    (q:R (Itr lo (hi - lo).toNat) H):wpAny (model X.prog X.w) X.A (pyIter (.ref s.heap.objs.size)) (PIE X pins σ tg R) E { s with heap:=s.heap.push { cls:=.type "range",data:=.fields #[.int lo t,.int hi u,.int 1 v] },toks:=tk }:=by
  refine wpAny_pyIter_range (IsRange.new ..) (small_one h1 h2 h3 h4) ?_
  have I1:Inv X pins σ H { s with heap:=s.heap.push { cls:=.type "range",data:=.fields #[.int lo t,.int hi u,.int 1 v] },toks:=tk }:=I.kept fun b o e=>Heap.get?_push_of_some _ e
  refine ⟨(s.heap.push { cls:=.type "range",data:=.fields #[.int lo t,.int hi u,.int 1 v] }).objs.size,[(s.heap.push { cls:=.type "range",data:=.fields #[.int lo t,.int hi u,.int 1 v] }).objs.size],_,_,H,rfl,
    I1.kept (t':=tk) fun b o e=>Heap.get?_push_of_some _ e,turn_range _ lo (hi - lo).toNat,?_,fun b hb=>?_,q⟩
  · have e1:lo + ((0:Nat):Int) * 1 = lo:=by simp
    have e2:(((hi - lo).toNat:Nat):Int) - ((0:Nat):Int) = Builtin.Range.rangeSize lo hi 1:=by rw [rangeSize_one]; split <;> omega
    show IsRangeIter _ _ (lo + ((0:Nat):Int) * 1) ((((hi - lo).toNat:Nat):Int) - ((0:Nat):Int)) 1
    rw [e1,e2]
    exact Heap.get?_push_size _ rfl
  · have e:b = (s.heap.push { cls:=.type "range",data:=.fields #[.int lo t,.int hi u,.int 1 v] }).objs.size:=by simpa using hb
    subst e
    exact I1.fpOk (Nat.le_refl _) (I1.hok.fresh (Nat.le_refl _))
def iRng1 (ta:TA):TI:=fun σ H R=>ta σ H fun vs H1=>∃ j:Int,vs = [.int j] /\ -(2 ^ 62) ≤ j /\ j < 2 ^ 62 /\ R (Itr 0 j.toNat) H1
theorem pi_range1 {a:Expr} {ta:TA} {p pos:Pos} (hg:Gl X "range") (hm:X.mg "range" = none) (ha:PA X [a] ta) (hs:starEach [a] X.env = [(false,eval a X.env)]:=by rfl):PI X tg (.Call (.Name "range" p) [a] [] pos) (iRng1 ta):=by
  intro pins s σ H R I h
  refine Call_ (ld_blt I hg hm boot_range (PyProof.Rows.callWith_type1 (thn (ha pos pins s σ H _ I h) fun us s1 ⟨vs,H1,I1,r1,q1⟩=>?_) hs rfl))
  obtain ⟨j,e,q1,q2,q⟩:=q1
  subst e
  cases r1 with
  | cons r rr =>
    cases rr
    obtain ⟨t,rfl⟩:=r
    exact call_range_1 (range_it I1 (by omega) (by omega) q1 q2 (by simpa using q))
def tFor (wi:TI) (g:TG) (tb:TS):TS:=fun D σ H=>wi σ H fun J H1=>∃ W:Nat->Nat->St->Hp->Prop,(∃ m,W 0 m σ H1) /\ ∀ i m σ H,W i m σ H →
  (J.stop i H /\ D.nx σ H) ∨ (J.go i H /\ ∃ N:St->Hp->Prop,(∀ σ' H',N σ' H'->∃ m',m' < m /\ W (i + 1) m' σ' H') /\ ∀ x H',J.yld i H x H'->g x σ H' fun σ2 H2=>tb { D with nx:=N,ct:=N,bk:=D.nx } σ2 H2)
def pinsAt (fp:List Addr) (h:Heap):List (Addr × Obj):=fp.filterMap fun b=>(h.get? b).map fun o=>(b,o)
theorem mem_pinsAt {fp:List Addr} {h:Heap} {b:Addr} {o:Obj} (hb:b ∈ fp) (e:h.get? b = some o):(b,o) ∈ pinsAt fp h:=List.mem_filterMap.mpr ⟨b,hb,by rw [e]; rfl⟩
theorem of_pinsAt {fp:List Addr} {h:Heap} {p:Addr × Obj} (hp:p ∈ pinsAt fp h):p.1 ∈ fp /\ h.get? p.1 = some p.2:=by
  obtain ⟨b,hb,e⟩:=List.mem_filterMap.mp hp
  cases q:h.get? b with
  | none=>rw [q] at e; cases e
  | some o =>
    rw [q] at e
    have e':(b,o) = p:=Option.some.inj e
    subst e'
    exact ⟨hb,q⟩
theorem Inv.pinned {pins:List (Addr × Obj)} {σ:St} {H:Hp} {s:Shared} {fp:List Addr} (I:Inv X pins σ H s) (hf:∀ b ∈ fp,FpOk X pins H b) (ho:∀ b ∈ fp,∃ o,s.heap.get? b = some o /\ ∀ v,o.data ≠ .cell v):Inv X (pins ++ pinsAt fp s.heap) σ H s :=
  I.pins_of fun p hp=>(List.mem_append.mp hp).elim (fun z=>I.pin p (List.mem_append_right _ z)) fun z=>by
    obtain ⟨hb,e⟩:=of_pinsAt z
    obtain ⟨f0,f1,f2,_⟩:=hf p.1 hb
    obtain ⟨o,e',d⟩:=ho p.1 hb
    rw [e] at e'; cases e'
    exact ⟨e,f0,f1,f2,d⟩
theorem Inv.unpinned {pins pl:List (Addr × Obj)} {σ:St} {H:Hp} {s:Shared} (I:Inv X (pins ++ pl) σ H s):Inv X pins σ H s:=I.pins_of fun p hp=>I.pin p (List.mem_append_right _ (List.mem_append_left _ hp))
theorem ps_for {iter:Expr} {body:List Stmt} {wi:TI} {g:TG} {tb:TS} {pos:Pos} (hp:PassesOwn (model X.prog X.w) X.A X.env X.xe) (hc:X.calm = true) (hi:PI X tg iter wi) (hg:PG X tg g) (hb:PSs X body tb)
    (hs:∀ x,foldedSetIterable iter X.env x = pure x:=by intro _; rfl):PS X (.For tg iter body [] pos) (tFor wi g tb):=by
  intro pins s σ H D I h
  refine wpAny_For (thn (hi pins s σ H _ I h) fun v s1 h1=>thn h1 fun itv s2 h2=>?_) hs
  obtain ⟨it,fp,tn,J,H2,e,I2,T,st2,f2,W,⟨m0,w0⟩,turn⟩:=h2
  subst e
  have stat:∀ {H':Hp},(∀ b ∈ fp,H' b = none)->∀ b ∈ fp,FpOk X pins H' b:=fun hn b hb=>⟨hn b hb,(f2 b hb).2⟩
  refine codeAny_forLoop_any (fun n s'=>∃ i σ' H',Inv X pins σ' H' s' /\ tn i s'.heap /\ (∀ b ∈ fp,H' b = none) /\ W i n σ' H') ?_ m0 ⟨0,σ,H2,I2,st2,fun b hb=>(f2 b hb).1,w0⟩
  rintro n s3 ⟨i,σ3,H3,I3,st3,fr3,w3⟩
  rcases turn i n σ3 H3 w3 with ⟨stop,qn⟩ | ⟨go,N,hN,step⟩
  · refine wpAny_passesOwn hp (thn (T.done X rfl rfl rfl hc i pins s3 σ3 H3 X.xe I3 (stat fr3) st3 stop) fun r s4 ⟨hr,I4⟩=>?_)
    subst hr
    exact wpAny_execs_nil ⟨σ3,H3,I4,qn⟩
  · refine wpAny_passesOwn hp (thn (T.item X rfl rfl rfl hc i pins s3 σ3 H3 X.xe I3 (stat fr3) st3 go) fun r s4 ⟨u,hr,h4⟩=>?_)
    subst hr
    refine wpAny_passesOwn hp (thn h4 fun _ s5 ⟨x,H5,I5,r5,y5,st5,fr5⟩=>?_)
    have I5':=I5.pinned (stat fr5) (T.obj _ _ st5)
    refine wpAny_passesOwn hp (thn (hg _ s5 σ3 H5 x u _ I5' r5 (step x H5 y5)) fun _ s6 ⟨σ6,H6,I6,q6⟩=>?_)
    refine wpAny_passesOwn hp (thn (hb _ s6 σ6 H6 _ I6 q6) fun f s7 q7=>?_)
    have again:∀ {σ7:St} {H7:Hp},Inv X (pins ++ pinsAt fp s5.heap) σ7 H7 s7->N σ7 H7->∃ m,m < n /\ ∃ i σ' H',Inv X pins σ' H' s7 /\ tn i s7.heap /\ (∀ b ∈ fp,H' b = none) /\ W i m σ' H':=fun {σ7 H7} I7 n7=>by
      obtain ⟨m',hm,w7⟩:=hN σ7 H7 n7
      refine ⟨m',hm,i + 1,σ7,H7,I7.unpinned,T.keep _ _ _ st5 fun b hb o e=>(I7.pin (b,o) (List.mem_append_right _ (List.mem_append_right _ (mem_pinsAt hb e)))).1,fun b hb=>?_,w7⟩
      obtain ⟨o,e,d⟩:=T.obj _ _ st5 b hb
      exact (I7.pin (b,o) (List.mem_append_right _ (List.mem_append_right _ (mem_pinsAt hb e)))).2.1
    cases f with
    | next=>obtain ⟨σ7,H7,I7,n7⟩:=q7; exact again I7 n7
    | cont=>obtain ⟨σ7,H7,I7,n7⟩:=q7; exact again I7 n7
    | brk=>obtain ⟨σ7,H7,I7,q7⟩:=q7; exact ⟨σ7,H7,I7.unpinned,q7⟩
    | ret v=>obtain ⟨x7,σ7,H7,I7,r7,q7⟩:=q7; exact ⟨x7,σ7,H7,I7.unpinned,r7,q7⟩
end
theorem for_list {K:PySem.W.Frag} {a:Addr} {xs:List V} {g:TG} {tb:TS} {D:Ends} {σ:St} {H:Hp} (Pv:Nat->St->Hp->Prop) (h0:Pv 0 σ H) (hl:∀ i σ H,i ≤ xs.length->Pv i σ H->SqL K H a xs)
    (hs:∀ i x σ H,xs[i]? = some x->Pv i σ H->g x σ H fun σ2 H2=>tb { D with nx:=Pv (i + 1),ct:=Pv (i + 1),bk:=D.nx } σ2 H2) (hd:∀ σ H,Pv xs.length σ H->D.nx σ H) :
    ∃ W:Nat->Nat->St->Hp->Prop,(∃ m,W 0 m σ H) /\ ∀ i m σ H,W i m σ H →
      ((Itl K a).stop i H /\ D.nx σ H) ∨ ((Itl K a).go i H /\ ∃ N:St->Hp->Prop,(∀ σ' H',N σ' H'->∃ m',m' < m /\ W (i + 1) m' σ' H') /\ ∀ x H',(Itl K a).yld i H x H'->g x σ H' fun σ2 H2=>tb { D with nx:=N,ct:=N,bk:=D.nx } σ2 H2):=by
  refine ⟨fun i m σ H=>m = xs.length - i /\ i ≤ xs.length /\ Pv i σ H,⟨xs.length,by simp,Nat.zero_le _,h0⟩,?_⟩
  rintro i m σ H ⟨rfl,hi,p⟩
  have q:=hl i σ H hi p
  by_cases hlt:i < xs.length
  · refine .inr ⟨⟨xs,xs[i],q,by simp [hlt]⟩,Pv (i + 1),fun σ' H' p'=>⟨xs.length - (i + 1),by omega,rfl,hlt,p'⟩,fun x H' y=>?_⟩
    obtain ⟨e,y⟩:=y
    subst e
    exact hs i x σ _ (y xs q) p
  · have e:i = xs.length:=by omega
    subst e
    exact .inl ⟨⟨xs,q,Nat.le_refl _⟩,hd σ H p⟩
theorem for_tup {K:PySem.W.Frag} {a:Addr} {xs:List V} {g:TG} {tb:TS} {D:Ends} {σ:St} {H:Hp} (Pv:Nat->St->Hp->Prop) (h0:Pv 0 σ H) (hl:∀ i σ H,i ≤ xs.length->Pv i σ H->SqT K H a xs)
    (hs:∀ i x σ H,xs[i]? = some x->Pv i σ H->g x σ H fun σ2 H2=>tb { D with nx:=Pv (i + 1),ct:=Pv (i + 1),bk:=D.nx } σ2 H2) (hd:∀ σ H,Pv xs.length σ H->D.nx σ H) :
    ∃ W:Nat->Nat->St->Hp->Prop,(∃ m,W 0 m σ H) /\ ∀ i m σ H,W i m σ H →
      ((Itt K a).stop i H /\ D.nx σ H) ∨ ((Itt K a).go i H /\ ∃ N:St->Hp->Prop,(∀ σ' H',N σ' H'->∃ m',m' < m /\ W (i + 1) m' σ' H') /\ ∀ x H',(Itt K a).yld i H x H'->g x σ H' fun σ2 H2=>tb { D with nx:=N,ct:=N,bk:=D.nx } σ2 H2):=by
  refine ⟨fun i m σ H=>m = xs.length - i /\ i ≤ xs.length /\ Pv i σ H,⟨xs.length,by simp,Nat.zero_le _,h0⟩,?_⟩
  rintro i m σ H ⟨rfl,hi,p⟩
  have q:=hl i σ H hi p
  by_cases hlt:i < xs.length
  · refine .inr ⟨⟨xs,xs[i],q,by simp [hlt]⟩,Pv (i + 1),fun σ' H' p'=>⟨xs.length - (i + 1),by omega,rfl,hlt,p'⟩,fun x H' y=>?_⟩
    obtain ⟨e,y⟩:=y
    subst e
    exact hs i x σ _ (y xs q) p
  · have e:i = xs.length:=by omega
    subst e
    exact .inl ⟨⟨xs,q,Nat.le_refl _⟩,hd σ H p⟩
theorem for_range {lo:Int} {n:Nat} {g:TG} {tb:TS} {D:Ends} {σ:St} {H:Hp} (Pv:Nat->St->Hp->Prop) (h0:Pv 0 σ H)
    (hs:∀ i σ H,i < n->Pv i σ H->g (.int (lo + i)) σ H fun σ2 H2=>tb { D with nx:=Pv (i + 1),ct:=Pv (i + 1),bk:=D.nx } σ2 H2) (hd:∀ σ H,Pv n σ H->D.nx σ H) :
    ∃ W:Nat->Nat->St->Hp->Prop,(∃ m,W 0 m σ H) /\ ∀ i m σ H,W i m σ H →
      ((Itr lo n).stop i H /\ D.nx σ H) ∨ ((Itr lo n).go i H /\ ∃ N:St->Hp->Prop,(∀ σ' H',N σ' H'->∃ m',m' < m /\ W (i + 1) m' σ' H') /\ ∀ x H',(Itr lo n).yld i H x H'->g x σ H' fun σ2 H2=>tb { D with nx:=N,ct:=N,bk:=D.nx } σ2 H2):=by
  refine ⟨fun i m σ H=>m = n - i /\ i ≤ n /\ Pv i σ H,⟨n,by simp,Nat.zero_le _,h0⟩,?_⟩
  rintro i m σ H ⟨rfl,hi,p⟩
  by_cases hlt:i < n
  · refine .inr ⟨hlt,Pv (i + 1),fun σ' H' p'=>⟨n - (i + 1),by omega,rfl,hlt,p'⟩,fun x H' y=>?_⟩
    obtain ⟨e,y⟩:=y
    subst e y
    exact hs i σ _ hlt p
  · have e:i = n:=by omega
    subst e
    exact .inl ⟨Nat.le_refl _,hd σ H p⟩
open PySem PySem.Spec PyProof.Rows
abbrev R2:=V->V->Hp->VK->Prop
def OpR (X:Cx) (f:Value->Value->Sem Value) (r:R2):Prop :=
  ∀ (pins:List (Addr × Obj)) (s:Shared) (σ:St) (H:Hp) (x y:V) (v u:Value) (Q:VK),Inv X pins σ H s->RelV x v->RelV y u->r x y H Q →
    wpAny (model X.prog X.w) X.A (f v u) (EP X pins σ Q) X.xe s
def UnR (X:Cx) (f:Value->Sem Value) (r:V->Hp->VK->Prop):Prop :=
  ∀ (pins:List (Addr × Obj)) (s:Shared) (σ:St) (H:Hp) (x:V) (v:Value) (Q:VK),Inv X pins σ H s->RelV x v->r x H Q →
    wpAny (model X.prog X.w) X.A (f v) (EP X pins σ Q) X.xe s
def CallR (X:Cx) (f:Value) (r:List V->Hp->VK->Prop):Prop :=
  ∀ (pins:List (Addr × Obj)) (s:Shared) (σ:St) (H:Hp) (xs:List V) (us:List Value) (Q:VK),Inv X pins σ H s->Vals xs us->r xs H Q →
    wpAny (model X.prog X.w) X.A (call f us) (EP X pins σ Q) X.xe s
def tOp (r:R2) (ta tb:TE):TE:=fun σ H Q=>ta σ H fun x H1=>tb σ H1 fun y H2=>r x y H2 Q
def tUn (r:V->Hp->VK->Prop) (ta:TE):TE:=fun σ H Q=>ta σ H fun x H1=>r x H1 Q
def rI (C:Int->Int->Prop) (g:Int->Int->V):R2:=fun x y H Q=>∃ i j,x = .int i /\ y = .int j /\ C i j /\ Q (g i j) H
def rI0 (g:Int->Int->V):R2:=fun x y H Q=>∃ i j,x = .int i /\ y = .int j /\ Q (g i j) H
def rU (g:Int->V):V->Hp->VK->Prop:=fun x H Q=>∃ i,x = .int i /\ Q (g i) H
section
variable {X:Cx} {a b c:Expr} {ta tb tc:TE} {pos:Pos}
theorem binT (ha:PE X a ta) (hb:PE X b tb) {pins:List (Addr × Obj)} {s:Shared} {σ:St} {H:Hp} {R:V->V->Hp->Prop} (I:Inv X pins σ H s)
    (h:ta σ H fun x H1=>tb σ H1 fun y H2=>R x y H2) {Q:Value->Shared->Prop} {f:Value->Value->Sem Value}
    (hf:∀ v u s2 x y H2,Inv X pins σ H2 s2->RelV x v->RelV y u->R x y H2->wpAny (model X.prog X.w) X.A (f v u) Q X.xe s2) :
    wpAny (model X.prog X.w) X.A (eval a X.env) (fun v s₁=>wpAny (model X.prog X.w) X.A (eval b X.env) (fun u s₂=>wpAny (model X.prog X.w) X.A (f v u) Q X.xe s₂) X.xe s₁) X.xe s:=by
  refine thn (ha pins s σ H _ I h) fun v s1 ⟨x,H1,I1,r1,q1⟩=>?_
  refine thn (hb pins s1 σ H1 _ I1 q1) fun u s2 ⟨y,H2,I2,r2,q2⟩=>?_
  exact hf v u s2 x y H2 I2 r1 r2 q2
theorem pe_op {op:Operator} {r:R2} (ho:OpR X (binaryOp op) r) (ha:PE X a ta) (hb:PE X b tb):PE X (.BinOp a op b pos) (tOp r ta tb):=by
  intro pins s σ H Q I h
  exact wpAny_BinOp (binT ha hb I h fun v u s2 x y H2 I2 rx ry q=>ho pins s2 σ H2 x y v u Q I2 rx ry q)
theorem pe_un {op:UnaryOp} {r:V->Hp->VK->Prop} (ho:UnR X (unaryOp op) r) (ha:PE X a ta):PE X (.UnaryOp op a pos) (tUn r ta):=by
  intro pins s σ H Q I h
  exact UnaryOp_ (thn (ha pins s σ H _ I h) fun v s1 ⟨x,H1,I1,r1,q1⟩=>ho pins s1 σ H1 x v Q I1 r1 q1)
theorem opI {f:Value->Value->Sem Value} {C:Int->Int->Prop} {g:Int->Int->Int}
    (rule:∀ (i j:Int) (t u:Tok) (s:Shared) (Q:Value->Shared->Prop) (E:Value->Shared->Prop),C i j->Q (.int (g i j) s.toks) { s with toks:=s.toks + 1 }->wpAny (model X.prog X.w) X.A (f (.int i t) (.int j u)) Q E s) :
    OpR X f (rI C fun i j=>.int (g i j)):=by
  intro pins s σ H x y v u Q I rx ry h
  obtain ⟨i,j,rfl,rfl,hc,q⟩:=h
  obtain ⟨t,rfl⟩:=rx
  obtain ⟨t',rfl⟩:=ry
  exact rule i j t t' s _ _ hc ⟨.int (g i j),H,I.tok _,⟨_,rfl⟩,q⟩
theorem opI0 {f:Value->Value->Sem Value} {g:Int->Int->Int}
    (rule:∀ (i j:Int) (t u:Tok) (s:Shared) (Q:Value->Shared->Prop) (E:Value->Shared->Prop),Q (.int (g i j) s.toks) { s with toks:=s.toks + 1 }->wpAny (model X.prog X.w) X.A (f (.int i t) (.int j u)) Q E s) :
    OpR X f (rI0 fun i j=>.int (g i j)):=by
  intro pins s σ H x y v u Q I rx ry h
  obtain ⟨i,j,rfl,rfl,q⟩:=h
  obtain ⟨t,rfl⟩:=rx
  obtain ⟨t',rfl⟩:=ry
  exact rule i j t t' s _ _ ⟨.int (g i j),H,I.tok _,⟨_,rfl⟩,q⟩
theorem opB0 {f:Value->Value->Sem Value} {g:Int->Int->Bool}
    (rule:∀ (i j:Int) (t u:Tok) (s:Shared) (Q:Value->Shared->Prop) (E:Value->Shared->Prop),Q (.bool (g i j)) s->wpAny (model X.prog X.w) X.A (f (.int i t) (.int j u)) Q E s) :
    OpR X f (rI0 fun i j=>.bl (g i j)):=by
  intro pins s σ H x y v u Q I rx ry h
  obtain ⟨i,j,rfl,rfl,q⟩:=h
  obtain ⟨t,rfl⟩:=rx
  obtain ⟨t',rfl⟩:=ry
  exact rule i j t t' s _ _ ⟨.bl (g i j),H,I,rfl,q⟩
def CPow (i j:Int):Prop:=0 ≤ j /\ j ≤ 1000000 /\ i.natAbs < 2 ^ 64
def CMul (i j:Int):Prop:=(-(2 ^ 64) < i /\ i < 2 ^ 64) ∨ (-(2 ^ 64) < j /\ j < 2 ^ 64)
theorem CMul.ok {i j:Int} (h:CMul i j):IntMulOk i j:=by
  rcases h with ⟨h1,h2⟩ | ⟨h1,h2⟩
  · exact .of_left (intBits_le_64 h1 h2)
  · exact .of_right (intBits_le_64 h1 h2)
theorem op_add:OpR X (binaryOp .Add) (rI0 fun i j=>.int (i + j)):=opI0 fun _ _ _ _ _ _ _ q=>add_int q
theorem op_sub:OpR X (binaryOp .Sub) (rI0 fun i j=>.int (i - j)):=opI0 fun _ _ _ _ _ _ _ q=>sub_int q
theorem op_mul:OpR X (binaryOp .Mult) (rI CMul fun i j=>.int (i * j)):=opI fun _ _ _ _ _ _ _ hc q=>mul_int q hc.ok
theorem op_mod:OpR X (binaryOp .Mod) (rI (fun _ j=>0 < j) fun i j=>.int (i % j)):=opI fun i j _ _ _ _ _ hc q=>by
  have h1:(0:Int) < j:=hc
  exact mod_int' (by omega) (by rw [Int.fmod_eq_emod_of_nonneg i (by omega)]; exact q)
theorem op_pow:OpR X (binaryOp .Pow) (rI CPow fun i j=>.int (i ^ j.toNat)):=opI fun _ _ _ _ _ _ _ hc q=>pow_int_small hc.1 hc.2.1 hc.2.2 q
theorem op_xor:OpR X (binaryOp .BitXor) (rI0 fun i j=>.int (Builtin.bitXor i j)):=opI0 fun _ _ _ _ _ _ _ q=>xor_int q
theorem unI {f:Value->Sem Value} {g:Int->Int}
    (rule:∀ (i:Int) (t:Tok) (s:Shared) (Q:Value->Shared->Prop) (E:Value->Shared->Prop),Q (.int (g i) s.toks) { s with toks:=s.toks + 1 }->wpAny (model X.prog X.w) X.A (f (.int i t)) Q E s) :
    UnR X f (rU fun i=>.int (g i)):=by
  intro pins s σ H x v Q I rx h
  obtain ⟨i,rfl,q⟩:=h
  obtain ⟨t,rfl⟩:=rx
  exact rule i t s _ _ ⟨.int (g i),H,I.tok _,⟨_,rfl⟩,q⟩
theorem un_neg:UnR X (unaryOp .USub) (rU fun i=>.int (-i)):=unI fun _ _ _ _ _ q=>neg_int q
end
def scal:V->V->Bool
  | .non,.non=>true | .non,.int _=>true | .int _,.non=>true | .non,.bl _=>true | .bl _,.non=>true | .non,.str _=>true | .str _,.non=>true
  | .int _,.int _=>true | .bl _,.bl _=>true | .str _,.str _=>true | .byt _,.byt _=>true
  | .int _,.str _=>true | .str _,.int _=>true | .bl _,.str _=>true | .str _,.bl _=>true
  | _,_=>false
def rEq:R2:=fun x y H Q=>scal x y = true /\ Q (.bl (decide (x = y))) H
def rNe:R2:=fun x y H Q=>scal x y = true /\ Q (.bl (!decide (x = y))) H
theorem dec_int {i j:Int}:decide (V.int i = V.int j) = (i == j):=by
  rw [Bool.eq_iff_iff]
  simp
theorem dec_bl {i j:Bool}:decide (V.bl i = V.bl j) = (i == j):=by
  rw [Bool.eq_iff_iff]
  simp
theorem dec_str {i j:Str}:decide (V.str i = V.str j) = (i == j):=by
  rw [Bool.eq_iff_iff]
  simp
theorem dec_byt {i j:Array UInt8}:decide (V.byt i = V.byt j) = (i.toList == j.toList):=by
  rw [Bool.eq_iff_iff]
  cases i
  cases j
  simp
section
variable {X:Cx} {a b c:Expr} {ta tb tc:TE} {pos:Pos}
theorem fin_bl {pins:List (Addr × Obj)} {σ:St} {H:Hp} {s:Shared} {Q:VK} {k k':Bool} (I:Inv X pins σ H s) (q:Q (.bl k) H) (e:k = k'):EP X pins σ Q (.bool k') s:=by
  subst e
  exact ⟨.bl k,H,I,rfl,q⟩
theorem op_eq:OpR X (compareOp .Eq) rEq:=by
  intro pins s σ H x y v u Q I rx ry h
  obtain ⟨hs,q⟩:=h
  cases x with
  | non =>
    cases rx
    cases y with
    | non=>cases ry; exact PySem.EqNone.eq_none_none (fin_bl I q (by simp))
    | bl j=>cases ry; exact PySem.EqNone.eq_none_bool (fin_bl I q (by simp))
    | int j=>obtain ⟨t',rfl⟩:=ry; exact PySem.EqNone.eq_none_int (fin_bl I q (by simp))
    | str j=>obtain ⟨t',rfl⟩:=ry; exact PySem.EqNone.eq_none_str (fin_bl I q (by simp))
    | _=>exact absurd (show false = true from hs) Bool.false_ne_true
  | bl i =>
    cases rx
    cases y with
    | non=>cases ry; exact PySem.EqNone.eq_bool_none (fin_bl I q (by simp))
    | bl j=>cases ry; exact eq_bool (fin_bl I q dec_bl)
    | str j=>obtain ⟨t',rfl⟩:=ry; exact PySem.EqMixed.eq_bool_str (fin_bl I q (by simp))
    | _=>exact absurd (show false = true from hs) Bool.false_ne_true
  | int i =>
    obtain ⟨t,rfl⟩:=rx
    cases y with
    | non=>cases ry; exact PySem.EqNone.eq_int_none (fin_bl I q (by simp))
    | int j=>obtain ⟨t',rfl⟩:=ry; exact eq_int (fin_bl I q dec_int)
    | str j=>obtain ⟨t',rfl⟩:=ry; exact PySem.EqMixed.eq_int_str (fin_bl I q (by simp))
    | _=>exact absurd (show false = true from hs) Bool.false_ne_true
  | str i =>
    obtain ⟨t,rfl⟩:=rx
    cases y with
    | non=>cases ry; exact PySem.EqNone.eq_str_none (fin_bl I q (by simp))
    | bl j=>cases ry; exact PySem.EqMixed.eq_str_bool (fin_bl I q (by simp))
    | int j=>obtain ⟨t',rfl⟩:=ry; exact PySem.EqMixed.eq_str_int (fin_bl I q (by simp))
    | str j=>obtain ⟨t',rfl⟩:=ry; exact eq_str (fin_bl I q dec_str)
    | _=>exact absurd (show false = true from hs) Bool.false_ne_true
  | byt i =>
    obtain ⟨t,rfl⟩:=rx
    cases y with
    | byt j=>obtain ⟨t',rfl⟩:=ry; exact PySem.W.eq_bytes (fin_bl I q dec_byt)
    | _=>exact absurd (show false = true from hs) Bool.false_ne_true
  | _=>cases y <;> exact absurd (show false = true from hs) Bool.false_ne_true
theorem op_ne:OpR X (compareOp .NotEq) rNe:=by
  intro pins s σ H x y v u Q I rx ry h
  obtain ⟨hs,q⟩:=h
  cases x with
  | non =>
    cases rx
    cases y with
    | non=>cases ry; exact PySem.EqNone.ne_none_none (fin_bl I q (by simp))
    | bl j=>cases ry; exact PySem.EqNone.ne_none_bool (fin_bl I q (by simp))
    | int j=>obtain ⟨t',rfl⟩:=ry; exact PySem.EqNone.ne_none_int (fin_bl I q (by simp))
    | str j=>obtain ⟨t',rfl⟩:=ry; exact PySem.EqNone.ne_none_str (fin_bl I q (by simp))
    | _=>exact absurd (show false = true from hs) Bool.false_ne_true
  | bl i =>
    cases rx
    cases y with
    | non=>cases ry; exact PySem.EqNone.ne_bool_none (fin_bl I q (by simp))
    | bl j=>cases ry; exact ne_bool (fin_bl I q (congrArg not dec_bl))
    | str j=>obtain ⟨t',rfl⟩:=ry; exact PySem.EqMixed.ne_bool_str (fin_bl I q (by simp))
    | _=>exact absurd (show false = true from hs) Bool.false_ne_true
  | int i =>
    obtain ⟨t,rfl⟩:=rx
    cases y with
    | non=>cases ry; exact PySem.EqNone.ne_int_none (fin_bl I q (by simp))
    | int j=>obtain ⟨t',rfl⟩:=ry; exact ne_int (fin_bl I q (congrArg not dec_int))
    | str j=>obtain ⟨t',rfl⟩:=ry; exact PySem.EqMixed.ne_int_str (fin_bl I q (by simp))
    | _=>exact absurd (show false = true from hs) Bool.false_ne_true
  | str i =>
    obtain ⟨t,rfl⟩:=rx
    cases y with
    | non=>cases ry; exact PySem.EqNone.ne_str_none (fin_bl I q (by simp))
    | bl j=>cases ry; exact PySem.EqMixed.ne_str_bool (fin_bl I q (by simp))
    | int j=>obtain ⟨t',rfl⟩:=ry; exact PySem.EqMixed.ne_str_int (fin_bl I q (by simp))
    | str j=>obtain ⟨t',rfl⟩:=ry; exact ne_str (fin_bl I q (congrArg not dec_str))
    | _=>exact absurd (show false = true from hs) Bool.false_ne_true
  | byt i =>
    obtain ⟨t,rfl⟩:=rx
    cases y with
    | byt j=>obtain ⟨t',rfl⟩:=ry; exact PySem.W.ne_bytes (fin_bl I q (congrArg not dec_byt))
    | _=>exact absurd (show false = true from hs) Bool.false_ne_true
  | _=>cases y <;> exact absurd (show false = true from hs) Bool.false_ne_true
theorem op_lt:OpR X (compareOp .Lt) (rI0 fun i j=>.bl (decide (i < j))):=opB0 fun _ _ _ _ _ _ _ q=>lt_int q
theorem op_le:OpR X (compareOp .LtE) (rI0 fun i j=>.bl (decide (i ≤ j))):=opB0 fun _ _ _ _ _ _ _ q=>le_int q
theorem op_gt:OpR X (compareOp .Gt) (rI0 fun i j=>.bl (decide (j < i))):=opB0 fun _ _ _ _ _ _ _ q=>gt_int q
theorem op_ge:OpR X (compareOp .GtE) (rI0 fun i j=>.bl (decide (j ≤ i))):=opB0 fun _ _ _ _ _ _ _ q=>ge_int q
theorem op_in_str:OpR X (compareOp .In) (fun x y H Q=>∃ i j,x = .str i /\ y = .str j /\ Q (.bl (!(Builtin.Str.occurrences j i 0 j.length 1).isEmpty)) H):=by
  intro pins s σ H x y v u Q I rx ry h
  obtain ⟨i,j,rfl,rfl,q⟩:=h
  obtain ⟨t,rfl⟩:=rx
  obtain ⟨t',rfl⟩:=ry
  exact in_str (fin_bl I q rfl)
theorem op_isN:OpR X (compareOp .Is) (fun x y H Q=>y = .non /\ Q (.bl (decide (x = .non))) H):=by
  intro pins s σ H x y v u Q I rx ry h
  obtain ⟨rfl,q⟩:=h
  cases ry
  refine is_none_gen (fin_bl I q ?_)
  cases x <;> first
    | (cases rx; rfl)
    | (obtain ⟨t,rfl⟩:=rx; rfl)
theorem op_notin_str:OpR X (compareOp .NotIn) (fun x y H Q=>∃ i j,x = .str i /\ y = .str j /\ Q (.bl (!(!(Builtin.Str.occurrences j i 0 j.length 1).isEmpty))) H):=by
  intro pins s σ H x y v u Q I rx ry h
  obtain ⟨i,j,rfl,rfl,q⟩:=h
  obtain ⟨t,rfl⟩:=rx
  obtain ⟨t',rfl⟩:=ry
  exact notIn_str (fin_bl I q rfl)
theorem nomark (b:Expr) {op:CmpOp} (h:op ≠ .In:=by decide) (h2:op ≠ .NotIn:=by decide):behindInMarks op b = false:=by
  have e1:(op == CmpOp.In) = false:=by cases op <;> first | rfl | exact absurd rfl h
  have e2:(op == CmpOp.NotIn) = false:=by cases op <;> first | rfl | exact absurd rfl h2
  cases b <;> simp [behindInMarks,e1,e2]
theorem pe_cmpR {op:CmpOp} {r:R2} (ho:OpR X (compareOp op) r) (ha:PE X a ta) (hb:PE X b tb) (hm:behindInMarks op b = false):PE X (.Compare a [op] [b] pos) (tOp r ta tb):=by
  intro pins s σ H Q I h
  exact wpAny_Compare1 (binT ha hb I h fun v u s2 x y H2 I2 rx ry q=>ho pins s2 σ H2 x y v u Q I2 rx ry q) hm
def tTest (t:TE):TT:=fun σ H Q=>t σ H fun x H'=>∃ k,x = .bl k /\ Q k H'
theorem pt_cmpR {op:CmpOp} {r:R2} (ho:OpR X (compareOp op) r) (ha:PE X a ta) (hb:PE X b tb) (hm:behindInMarks op b = false):PT X (.Compare a [op] [b] pos) (tTest (tOp r ta tb)):=by
  intro pins s σ H Q I h
  refine wpAny_isTrue_Compare1 (thn (ha pins s σ H _ I h) fun v s1 ⟨x,H1,I1,r1,q1⟩=>thn (hb pins s1 σ H1 _ I1 q1) fun u s2 ⟨y,H2,I2,r2,q2⟩ =>
    thn (ho pins s2 σ H2 x y v u _ I2 r1 r2 q2) fun c s3 ⟨z,H3,I3,r3,k,e,q3⟩=>?_) hm
  subst e
  cases r3
  exact wpAny_truthy_bool ⟨H3,I3,q3⟩
def tChain (r r':R2) (ta tb tc:TE):TE:=fun σ H Q=>ta σ H fun x H1=>tb σ H1 fun y H2=>r x y H2 fun z H3=>∃ k,z = .bl k ∧
  (if k = true then tc σ H3 fun w' H4=>r' y w' H4 Q else Q (.bl false) H3)
theorem pt_chain {op op':CmpOp} {r r':R2} (ho:OpR X (compareOp op) r) (ho':OpR X (compareOp op') r') (ha:PE X a ta) (hb:PE X b tb) (hc:PE X c tc)
    (hm:lastMarks [op,op'] [b,c] = false:=by with_unfolding_all rfl):PT X (.Compare a [op,op'] [b,c] pos) (tTest (tChain r r' ta tb tc)):=by
  intro pins s σ H Q I h
  refine isTrue_chain (thn (ha pins s σ H _ I h) fun v s1 ⟨x,H1,I1,r1,q1⟩=>test_link (thn (hb pins s1 σ H1 _ I1 q1) fun u s2 ⟨y,H2,I2,r2,q2⟩ =>
    thn (ho pins s2 σ H2 x y v u _ I2 r1 r2 q2) fun d s3 ⟨z,H3,I3,r3,k,e,q3⟩=>?_)) hm
  subst e
  cases r3
  refine wpAny_truthy_bool ?_
  cases k with
  | false =>
    obtain ⟨k',e',q'⟩:=q3
    cases e'
    exact ite_ff ⟨H3,I3,q'⟩
  | true =>
    refine ite_tt (test_last (thn (hc pins s3 σ H3 _ I3 q3) fun w' s4 ⟨z',H4,I4,r4,q4⟩=>thn (ho' pins s4 σ H4 y z' u w' _ I4 r2 r4 q4) fun d' s5 ⟨z2,H5,I5,r5,k2,e2,q5⟩=>?_))
    subst e2
    cases r5
    exact wpAny_truthy_bool ⟨H5,I5,q5⟩
theorem line63:(sizeLine:Nat) < 2 ^ 63:=by rw [sizeLine_eq]; decide
theorem op_add_str:OpR X (binaryOp .Add) (fun x y H Q=>∃ i j,x = .str i /\ y = .str j /\ i.length + j.length ≤ sizeLine /\ Q (.str (i ++ j)) H):=by
  intro pins s σ H x y v u Q I rx ry h
  obtain ⟨i,j,rfl,rfl,hz,q⟩:=h
  obtain ⟨t,rfl⟩:=rx
  obtain ⟨t',rfl⟩:=ry
  exact add_str (fun t' tk=>⟨.str (i ++ j),H,I.tok _,⟨_,rfl⟩,q⟩) hz
theorem vals1 {x:V} {us:List Value} (r:Vals [x] us):∃ u,us = [u] /\ RelV x u:=by
  cases r with
  | cons r1 r2=>cases r2; exact ⟨_,rfl,r1⟩
theorem vals2 {x y:V} {us:List Value} (r:Vals [x,y] us):∃ u w',us = [u,w'] /\ RelV x u /\ RelV y w':=by
  cases r with
  | cons r1 r2 =>
    cases r2 with
    | cons r3 r4=>cases r4; exact ⟨_,_,rfl,r1,r3⟩
theorem call_min2 (hc:X.calm = true):CallR X (.builtin "min") (fun xs H Q=>∃ i j,xs = [.int i,.int j] /\ Q (.int (if j < i then j else i)) H):=by
  intro pins s σ H xs us Q I r h
  obtain ⟨i,j,rfl,q⟩:=h
  obtain ⟨u,w',rfl,⟨t,rfl⟩,⟨t',rfl⟩⟩:=vals2 r
  refine min_two_ints (I.ok.hd hc) fun h' tk k=>⟨_,H,I.kept k,?_,q⟩
  by_cases hj:j < i
  · rw [if_pos hj,if_pos hj]; exact ⟨_,rfl⟩
  · rw [if_neg hj,if_neg hj]; exact ⟨_,rfl⟩
theorem call_str_int:CallR X (.type "str") (fun xs H Q=>∃ i,xs = [.int i] /\ i.natAbs.log2 < 1920 /\ Q (.str (toString i)) H):=by
  intro pins s σ H xs us Q I r h
  obtain ⟨i,rfl,hz,q⟩:=h
  obtain ⟨u,rfl,t,rfl⟩:=vals1 r
  exact PySem.P.str_of_int hz ⟨.str _,H,I.tok _,⟨_,rfl⟩,q⟩
end
open PySem PySem.Spec PyProof.Rows
structure ObjM (h:Heap) (x dx C:Addr) (mA:Str->Option Value):Prop where
  obj:h.get? x = some (PySem.W.instObj C dx)
  ns:h.Ns1 dx mA
  ne:dx ≠ x
theorem lookIn_ns {h:Heap} {dx:Addr} {mA:Str->Option Value} (n:h.Ns1 dx mA):∃ od,h.get? dx = some od /\ ∀ name,PySem.W.lookIn name od = some (mA name):=by
  obtain ⟨o,es,ep,ho,hd,hk,_,hm⟩:=n
  refine ⟨o,ho,fun name=>?_⟩
  have e:=hm name
  unfold nsFind findBy at e
  rw [← Array.find?_toList] at e
  unfold PySem.W.lookIn
  rw [hd]
  dsimp only
  split
  · rename_i y q
    rw [q] at e
    exact congrArg some e
  · rename_i q
    rw [q] at e
    have a:es.toList.any (·.refKey) = false:=by
      rw [List.any_eq_false]
      intro y hy
      obtain ⟨z,t,hkey⟩:=hk y (Array.mem_toList_iff.mp hy)
      simp [DictEntry.refKey,hkey]
    have a':¬ es.toList.any (·.refKey) = true:=by rw [a]; exact Bool.false_ne_true
    rw [if_neg a']
    exact congrArg some e
theorem ObjM.look {h:Heap} {x dx C:Addr} {mA:Str->Option Value} (I:ObjM h x dx C mA):∃ od,PySem.W.InstAt h x (PySem.W.instObj C dx) C (some od) /\ ∀ name,PySem.W.lookIn name od = some (mA name) :=
  let ⟨od,ho,hl⟩:=lookIn_ns I.ns
  ⟨od,⟨I.obj,rfl,rfl,ho⟩,hl⟩
section
variable {prog:Program} {w:World} {A:Around} {E:Value->Shared->Prop} {s:Shared} {K:PySem.W.Frag} {x dx C f:Addr} {mA:Str->Option Value} {name:Str} {v:Value}
theorem get_map {expr:Bool} {Q:Value->Shared->Prop} (X:K.In s.heap) (I:ObjM s.heap x dx C mA) (hg:PySem.W.plainGet K C name = true) (hh:PySem.W.hasDictIn K C = true)
    (ha:PySem.W.findIn K (.ref C) name = some none) (hv:mA name = some v) (hv':PySem.W.handedIn v = true) (h:Q v { s with toks:=s.toks + 1 }) :
    wpAny (model prog w) A (getAttr (.ref x) name expr) Q E s:=by
  obtain ⟨od,J,hl⟩:=I.look
  exact PySem.W.get_value X J (PySem.W.plainGet_of hg).1 (PySem.W.findObj_own hh ha rfl (by rw [hl,hv])) hv' h
theorem get_meth {pl:Sem Bool} {Q:Value × List Value->Shared->Prop} (X:K.In s.heap) (I:ObjM s.heap x dx C mA) (hg:PySem.W.plainGet K C name = true)
    (hf:PySem.W.findIn K (.ref C) name = some (some (.ref f))) (ht:PySem.W.isFn K (.ref f) = true) (hv:mA name = none) (h:Q (.ref f,[.ref x]) s) :
    wpAny (model prog w) A (getMethod (.ref x) name pl) Q E s:=by
  obtain ⟨od,J,hl⟩:=I.look
  exact PySem.W.method_fn X J (PySem.W.plainGet_of hg).1 (PySem.W.plainGet_of hg).2 hf (beq_iff_eq.mp ht) (by show (PySem.W.lookIn name od).map (·.isSome) = some false; rw [hl,hv]; rfl) h
theorem set_map {ns:List Str} {Q:Unit->Shared->Prop} (X:K.In s.heap) (I:ObjM s.heap x dx C mA)
    (hs:PySem.W.findIn K (.ref C) "__setattr__" = some (some (.builtin "object.__setattr__"))) (hp:PySem.W.plainOver K C = true) (ht:PySem.W.takerIn K C name = some none) (hh:PySem.W.hasDictIn K C = true)
    (hw:PySem.Within mA ns) (hsz:ns.length ≤ sizeLine)
    (h:∀ h',ObjM h' x dx C (fun y=>if y = name then some v else mA y)->Heap.SameBut dx s.heap h'->Q () { s with heap:=h',toks:=s.toks + 2 }) :
    wpAny (model prog w) A (setAttr (.ref x) name v) Q E s:=by
  obtain ⟨od,J,hl⟩:=I.look
  refine PySem.W.set_plain X J hs (PySem.W.osa_open (s:={ s with toks:=s.toks + 1 }) (r:=none) X J hp ht fun b=>?_)
  obtain ⟨cd,hc,hd'⟩:=PySem.W.any_some hh
  have hx:s.heap.get? x = some ⟨.ref C,some dx,.plain,#[]⟩:=I.obj
  refine wpAny_bind (wpAny_pure (wpAny_bind (wpAny_bind (wpAny_loadPart hx (wpAny_bind (PySem.W.Looks.here (s:={ s with toks:=s.toks + 1 }) (PySem.W.looks_clsIn X hc) ?_))))))
  rw [hd']
  refine wpAny_pure (a:=some dx) (wpAny_bind (wpAny_pure (wpAny_bind ?_)))
  refine wpAny_nsSet1 (s:={ s with toks:=s.toks + 1 }) I.ns fun h' hn2 hs2=>?_
  obtain ⟨oD,esD,epD,hoD,hdD,hcD⟩:=hn2.count (PySem.Within.cons name v hw)
  refine wpAny_bind (wpAny_lookBehind hoD (by rw [hdD]; exact pastItsLine_dict (Nat.le_trans hcD (by rw [List.length_cons]; omega))) ?_)
  exact wpAny_pure (h _ ⟨(hs2.2 _ (Ne.symm I.ne)).trans I.obj,hn2,I.ne⟩ hs2)
theorem make_map {R:Result->Shared->Prop} {vs:List Value} {kw:List (Str × Value)} (X:K.In s.heap) (hm:PySem.W.makesIn K C = true)
    (hi:PySem.W.findIn K (.ref C) "__init__" = some (some (.ref f))) (hf:PySem.W.typeIn K (.ref f) = some (.type "function"))
    (h:codeAny (model prog w) (A.under (.builtin "type.__call__" ⟨.ref C :: vs,kw⟩)) (.call (.ref f) ⟨.ref (s.heap.objs.size + 1) :: vs,kw⟩) (PySem.W.InitBack (s.heap.objs.size + 1) R)
      { s with heap:=(s.heap.push PySem.W.emptyDict).push (PySem.W.instObj C s.heap.objs.size) }) :
    codeAny (model prog w) A (.call (.ref C) ⟨vs,kw⟩) R s:=by
  obtain ⟨hh,g,d,t,os⟩:=s
  exact PySem.W.make_core (PySem.W.makes_of X hm) (PySem.W.looks_findIn X hi) (fun self=>PySem.W.bind_fn X self hf) (.inl rfl) h
end
def putF (f:Str) (v:V):List (Str × V)->List (Str × V)
  | []=>[(f,v)]
  | (g,x) :: r=>if g = f then (g,v) :: r else (g,x) :: putF f v r
theorem lookup_putF (f g:Str) (v:V):∀ fs:List (Str × V),(putF f v fs).lookup g = if g = f then some v else fs.lookup g
  | []=>by
    show List.lookup g [(f,v)] = _
    by_cases h:g = f
    · have hb:(g == f) = true:=beq_iff_eq.mpr h
      simp only [List.lookup,hb,if_pos h]
    · have hb:(g == f) = false:=beq_eq_false_iff_ne.mpr h
      simp only [List.lookup,hb,if_neg h]
  | (k,x) :: r=>by
    have ih:=lookup_putF f g v r
    rw [show putF f v ((k,x) :: r) = (if k = f then (k,v) :: r else (k,x) :: putF f v r) from rfl]
    by_cases hk:k = f
    · rw [if_pos hk]
      by_cases h:g = k
      · have hb:(g == k) = true:=beq_iff_eq.mpr h
        simp only [List.lookup,hb,if_pos (h.trans hk)]
      · have hb:(g == k) = false:=beq_eq_false_iff_ne.mpr h
        simp only [List.lookup,hb,if_neg (fun e:g = f=>h (e.trans hk.symm))]
    · rw [if_neg hk]
      by_cases h:g = k
      · have hb:(g == k) = true:=beq_iff_eq.mpr h
        simp only [List.lookup,hb,if_neg (fun e:g = f=>hk (h.symm.trans e))]
      · have hb:(g == k) = false:=beq_eq_false_iff_ne.mpr h
        simp only [List.lookup,hb]
        exact ih
theorem keys_putF (f:Str) (v:V):∀ fs:List (Str × V),f ∈ (putF f v fs).map (·.1) /\ ∀ g,g ∈ fs.map (·.1)->g ∈ (putF f v fs).map (·.1)
  | []=>⟨by simp [putF],fun g h=>by simp at h⟩
  | (k,x) :: r=>by
    obtain ⟨i1,i2⟩:=keys_putF f v r
    rw [show putF f v ((k,x) :: r) = (if k = f then (k,v) :: r else (k,x) :: putF f v r) from rfl]
    by_cases hk:k = f
    · rw [if_pos hk]
      subst hk
      exact ⟨by simp,fun g h=>by simpa using h⟩
    · rw [if_neg hk]
      refine ⟨?_,fun g h=>?_⟩
      · rw [List.map_cons]
        exact List.mem_cons_of_mem _ i1
      · rw [List.map_cons] at h ⊢
        rcases List.mem_cons.mp h with e | e
        · exact List.mem_cons.mpr (.inl e)
        · exact List.mem_cons_of_mem _ (i2 g e)
theorem length_putF (f:Str) (v:V):∀ fs:List (Str × V),(putF f v fs).length ≤ fs.length + 1
  | []=>by simp [putF]
  | (k,x) :: r=>by
    have ih:=length_putF f v r
    rw [show putF f v ((k,x) :: r) = (if k = f then (k,v) :: r else (k,x) :: putF f v r) from rfl]
    by_cases hk:k = f
    · rw [if_pos hk,List.length_cons,List.length_cons]; omega
    · rw [if_neg hk,List.length_cons,List.length_cons]; omega
theorem RelO.some_of {v:V} {o:Option Value} (r:RelO (some v) o):∃ u,o = some u /\ RelV v u:=by
  cases o with
  | none=>exact (show False from r).elim
  | some u=>exact ⟨u,rfl,r⟩
theorem RelO.none_of {o:Option Value} (r:RelO none o):o = none:=by
  cases o with
  | none=>rfl
  | some u=>exact (show False from r).elim
theorem handed_of {v:V} {u:Value} (r:RelV v u):PySem.W.handedIn u = true:=by
  cases v with
  | non=>cases (show u = Value.none from r); rfl
  | bl b=>cases (show u = Value.bool b from r); rfl
  | int i=>obtain ⟨t,e⟩:=(show ∃ t,u = Value.int i t from r); cases e; rfl
  | str x=>obtain ⟨t,e⟩:=(show ∃ t,u = Value.str x t from r); cases e; rfl
  | byt b=>obtain ⟨t,e⟩:=(show ∃ t,u = Value.bytes b t from r); cases e; rfl
  | flt b=>obtain ⟨t,e⟩:=(show ∃ t,u = Value.float b t from r); cases e; rfl
  | ref a=>cases (show u = Value.ref a from r); rfl
  | ty n=>cases (show u = Value.type n from r); rfl
section
variable {P:Program} {w:World} {H H':Hp} {h h':Heap} {a C dx:Addr} {fs fs':List (Str × V)}
theorem ins_get (hok:HOk P w H h) (e:H a = some (.ins C dx fs)):∃ mA,ObjM h a dx C mA /\ (∀ f,RelO (fs.lookup f) (mA f)) /\ PySem.Within mA (fs.map (·.1)) /\ fs.length ≤ 1000 /\ H dx = some (.own a):=by
  obtain ⟨d,z,ne,ob,mA,n,r,q⟩:=(show ObjOk P w H h a (.ins C dx fs) from hok a _ e)
  exact ⟨mA,⟨ob,n,ne⟩,r,q,z,d⟩
end
structure Cls (K:PySem.W.Frag) (C:Addr):Prop where
  pg:PySem.W.plainGet K C Str.empty = true
  hd:PySem.W.hasDictIn K C = true
  po:PySem.W.plainOver K C = true
  sa:PySem.W.findIn K (.ref C) "__setattr__" = some (some (.builtin "object.__setattr__"))
theorem Cls.get {K:PySem.W.Frag} {C:Addr} (c:Cls K C) (f:Str):PySem.W.plainGet K C f = true:=c.pg
def NoAttr (K:PySem.W.Frag) (C:Addr) (f:Str):Prop:=PySem.W.findIn K (.ref C) f = some none
theorem NoAttr.taker {K:PySem.W.Frag} {C:Addr} {f:Str} (n:NoAttr K C f):PySem.W.takerIn K C f = some none:=by
  unfold PySem.W.takerIn
  rw [show PySem.W.findIn K (.ref C) f = some none from n]
  rfl
structure Meth (K:PySem.W.Frag) (C:Addr) (m:Str) (f:Addr):Prop where
  at_:PySem.W.findIn K (.ref C) m = some (some (.ref f))
  fn:PySem.W.isFn K (.ref f) = true
  kp:PySem.W.keepIn K (.ref f) = true
section
variable {X:Cx} {pins:List (Addr × Obj)} {σ:St} {H:Hp} {s:Shared} {a C dx:Addr} {fs:List (Str × V)} {f:Str} {v:V} {A:Around} {E:Value->Shared->Prop}
theorem getattr_ok {b:Bool} {Q:Value->Shared->Prop} (I:Inv X pins σ H s) (e:H a = some (.ins C dx fs)) (c:Cls X.K C) (n:NoAttr X.K C f) (l:fs.lookup f = some v)
    (h:∀ u s',Inv X pins σ H s'->RelV v u->Q u s'):wpAny (model X.prog X.w) A (getAttr (.ref a) f b) Q E s:=by
  obtain ⟨mA,O,r,_,_,_⟩:=ins_get I.hok e
  obtain ⟨u,hu,ru⟩:=RelO.some_of (v:=v) (o:=mA f) (by rw [← l]; exact r f)
  exact get_map I.kIn O (c.get f) c.hd n hu (handed_of ru) (h u _ (I.tok _) ru)
theorem getmeth_ok {m:Str} {g:Addr} {pl:Sem Bool} {Q:Value × List Value->Shared->Prop} (I:Inv X pins σ H s) (e:H a = some (.ins C dx fs)) (c:Cls X.K C) (k:Meth X.K C m g) (l:fs.lookup m = none)
    (h:Q (.ref g,[.ref a]) s):wpAny (model X.prog X.w) A (getMethod (.ref a) m pl) Q E s:=by
  obtain ⟨mA,O,r,_,_,_⟩:=ins_get I.hok e
  have hn:mA m = none:=RelO.none_of (by rw [← l]; exact r m)
  exact get_meth I.kIn O (c.get m) k.at_ k.fn hn h
theorem setattr_ok {y:V} {u:Value} {Q:Unit->Shared->Prop} (I:Inv X pins σ H s) (e:H a = some (.ins C dx fs)) (c:Cls X.K C) (n:NoAttr X.K C f) (hl:fs.length < 1000) (ry:RelV y u)
    (h:∀ s',Inv X pins σ (upd H a (.ins C dx (putF f y fs))) s'->Q () s'):wpAny (model X.prog X.w) A (setAttr (.ref a) f u) Q E s:=by
  obtain ⟨mA,O,r,wi,_,ho⟩:=ins_get I.hok e
  have hz:(fs.map (·.1)).length ≤ sizeLine:=by rw [List.length_map,sizeLine_eq]; omega
  refine set_map I.kIn O c.sa c.po n.taker c.hd wi hz fun h' O' sb=>h _ ?_
  have hd:∃ o,h'.get? dx = some o:=let ⟨o,_,_,e',_⟩:=O'.ns; ⟨o,e'⟩
  refine I.write (x:=a) (e:=dx) (by rw [e]; exact True.intro) (.inr ho) (fun b q hb z=>(sb.2 b hb).trans z) hd ?_
  refine ⟨by rw [upd_ne O.ne]; exact ho,?_,O.ne,O'.obj,_,O'.ns,fun g=>?_,fun g hg=>?_⟩
  · have:=length_putF f y fs; omega
  · show RelO ((putF f y fs).lookup g) (if g = f then some u else mA g)
    rw [lookup_putF]
    by_cases q:g = f
    · rw [if_pos q,if_pos q]; exact ry
    · rw [if_neg q,if_neg q]; exact r g
  · by_cases q:g = f
    · rw [q]; exact (keys_putF f y fs).1
    · refine (keys_putF f y fs).2 g (wi g fun z=>hg ?_)
      show (if g = f then some u else mA g) = none
      rw [if_neg q]; exact z
theorem Inv.made (I:Inv X pins σ H s):Inv X pins σ (upd (upd H s.heap.objs.size (.own (s.heap.objs.size + 1))) (s.heap.objs.size + 1) (.ins C s.heap.objs.size []))
    { s with heap:=(s.heap.push PySem.W.emptyDict).push (PySem.W.instObj C s.heap.objs.size) }:=by
  have e1:(s.heap.push PySem.W.emptyDict).get? s.heap.objs.size = some PySem.W.emptyDict:=Heap.get?_push_size s.heap rfl
  have e2:((s.heap.push PySem.W.emptyDict).push (PySem.W.instObj C s.heap.objs.size)).get? (s.heap.objs.size + 1) = some (PySem.W.instObj C s.heap.objs.size):=by
    have:=Heap.get?_push_size (s.heap.push PySem.W.emptyDict) (o:=PySem.W.instObj C s.heap.objs.size) rfl
    rwa [Heap.size_push] at this
  have e3:(s.heap.push PySem.W.emptyDict).Ns s.heap.objs.size (fun _=>none):=⟨PySem.W.emptyDict,#[],_,e1,rfl,(fun e he=>absurd he (by simp)),fun _=>rfl⟩
  have I1:=I.laid (a:=s.heap.objs.size) (o:=.own (s.heap.objs.size + 1)) (h':=s.heap.push PySem.W.emptyDict) (t':=s.toks) (fun b u q=>Heap.get?_push_of_some _ q) (Nat.le_refl _) ⟨_,e1⟩
  refine I1.laid (a:=s.heap.objs.size + 1) (o:=.ins C s.heap.objs.size []) (t':=s.toks) (fun b u q=>Heap.get?_push_of_some _ q) (Nat.le_of_eq (Heap.size_push _ _)) ?_
  have ne:s.heap.objs.size ≠ s.heap.objs.size + 1:=Nat.ne_of_lt (Nat.lt_succ_self _)
  refine ⟨by rw [upd_ne ne,upd_same],Nat.zero_le _,ne,e2,fun _=>none,(Heap.Ns1.of_empty e3).at fun o q=>Heap.get?_push_of_some _ q,fun _=>True.intro,fun y hy=>absurd rfl hy⟩
theorem attr_of {prog:Program} {w:World} {env:Env} {e:Expr} {f:Str} {pos:Pos} {s:Shared} {Q:Value->Shared->Prop} (hb:attributeBase e f env (eval e env) = eval e env)
    (h:wpAny (model prog w) A (eval e env) (fun o s₁=>wpAny (model prog w) A (getAttr o f true) Q E s₁) E s):wpAny (model prog w) A (eval (.Attribute e f pos) env) Q E s :=
  Attribute_any_ h (by rw [arm_eval_Attribute,hb])
end
def tFld (K:PySem.W.Frag) (ta:TE) (f:Str):TE:=fun σ H Q=>ta σ H fun x H1=>∃ a C dx fs v,x = .ref a /\ H1 a = some (.ins C dx fs) /\ Cls K C /\ NoAttr K C f /\ fs.lookup f = some v /\ Q v H1
def sFld (K:PySem.W.Frag) (ta tv:TE) (f:Str):TS:=fun D σ H=>tv σ H fun y H1=>ta σ H1 fun x H2=>∃ a C dx fs,x = .ref a /\ H2 a = some (.ins C dx fs) /\ Cls K C /\ NoAttr K C f /\ fs.length < 1000 ∧
  D.nx σ (upd H2 a (.ins C dx (putF f y fs)))
section
variable {X:Cx} {o e value:Expr} {f:Str} {pos pos' tpos:Pos} {ta tv:TE}
theorem pe_fld (he:PE X e ta) (hb:attributeBase e f X.env (eval e X.env) = eval e X.env):PE X (.Attribute e f pos) (tFld X.K ta f):=by
  intro pins s σ H Q I h
  refine attr_of hb (thn (he pins s σ H _ I h) fun u s1 ⟨x,H1,I1,rx,a,C,dx,fs,v,ex,ea,c,n,l,q⟩=>?_)
  subst ex
  obtain rfl:u = Value.ref a:=rx
  exact getattr_ok I1 ea c n l fun u' s2 I2 ru=>⟨v,H1,I2,ru,q⟩
theorem ps_fld (ha:PE X o ta) (hv:PE X value tv) (hs:swapsWith value (some (.Attribute o f pos')) pos.line X.env = pure false):PS X (.Assign [.Attribute o f pos'] value pos) (sFld X.K ta tv f):=by
  intro pins s σ H D I h
  refine plainObj_wpAny_Assign_Attribute (thn (hv pins s σ H _ I h) fun u s1 ⟨y,H1,I1,ry,q⟩=>thn (ha pins s1 σ H1 _ I1 q) fun ov s2 ⟨x,H2,I2,rx,a,C,dx,fs,ex,ea,c,n,l,q2⟩=>?_) hs
  subst ex
  obtain rfl:ov = Value.ref a:=rx
  exact setattr_ok I2 ea c n l ry fun s3 I3=>⟨σ,_,I3,q2⟩
end
section
variable {X:Cx} {pins:List (Addr × Obj)} {σ:St} {H:Hp} {s:Shared} {A:Around} {E:Value->Shared->Prop} {Q:Value->Shared->Prop} {c:Value} {b:Bool}
inductive TyOf (K:PySem.W.Frag) (H:Hp):V->Value->Prop where
  | non:TyOf K H .non (.type "NoneType")
  | bl (x:Bool):TyOf K H (.bl x) (.type "bool")
  | int (i:Int):TyOf K H (.int i) (.type "int")
  | str (x:Str):TyOf K H (.str x) (.type "str")
  | flt (x:UInt64):TyOf K H (.flt x) (.type "float")
  | lst {a:Addr} {xs:List V} (e:H a = some (.lst xs)):TyOf K H (.ref a) (.type "list")
  | frz {a:Addr} {o:Obj} {xs:List V} (e:H a = some (.frz o (.lst xs))):TyOf K H (.ref a) (.type "list")
  | tup {a:Addr} {xs:List V} (e:H a = some (.tup xs)):TyOf K H (.ref a) (.type "tuple")
  | dK {a:Addr} {kvs:List (Key × V)} (e:H a = some (.dK kvs)):TyOf K H (.ref a) (.type "dict")
  | dT {a:Addr} {kvs:List (List Key × V)} (e:H a = some (.dT kvs)):TyOf K H (.ref a) (.type "dict")
  | ins {a C dx:Addr} {fs:List (Str × V)} (e:H a = some (.ins C dx fs)) (cl:Cls K C) (ha:PySem.W.findIn K (.ref C) "__class__" = some (some (.builtin "object.__class__")))
      (hn:PySem.W.specialIn K (.builtin "object.__class__") "__get__" = some (some (.builtin "getset_descriptor.__get__"))) (htk:PySem.W.takesIn K (.builtin "object.__class__") = some true)
      (hm:PySem.W.mroIn K C (.type "object") = some true):TyOf K H (.ref a) (.ref C)
theorem isinst_ok {x:V} {u t:Value} (I:Inv X pins σ H s) (rx:RelV x u) (ty:TyOf X.K H x t) (e:PySem.W.kitOne X.K t c = some b) (h:∀ tk,Q (.bool b) { s with toks:=tk }) :
    wpAny (model X.prog X.w) A (call (.builtin "isinstance") [u,c]) Q E s:=by
  cases ty with
  | non=>cases (show u = Value.none from rx); exact PySem.W.kia_one PySem.W.kitx_none I.kIn True.intro e (fun z=>nomatch z) h
  | bl y=>cases (show u = Value.bool y from rx); exact PySem.W.kia_one PySem.W.kitx_bool I.kIn True.intro e (fun z=>nomatch z) h
  | int i=>obtain ⟨t,q⟩:=(show ∃ t,u = Value.int i t from rx); cases q; exact PySem.W.kia_one PySem.W.kitx_int I.kIn True.intro e (fun z=>nomatch z) h
  | str y=>obtain ⟨t,q⟩:=(show ∃ t,u = Value.str y t from rx); cases q; exact PySem.W.kia_one PySem.W.kitx_str I.kIn True.intro e (fun z=>nomatch z) h
  | flt y=>obtain ⟨t,q⟩:=(show ∃ t,u = Value.float y t from rx); cases q; exact PySem.W.kia_one PySem.W.kitx_float I.kIn True.intro e (fun z=>nomatch z) h
  | @lst a xs ea =>
    cases (show u = Value.ref a from rx)
    obtain ⟨_,_,n,_,h1⟩:=(show ObjOk X.prog X.w H s.heap a (.lst xs) from I.hok a _ ea)
    exact PySem.W.kia_one PySem.W.kitx_list I.kIn ⟨_,h1,rfl⟩ e (fun z=>nomatch z) h
  | @frz a ob xs ea =>
    cases (show u = Value.ref a from rx)
    obtain ⟨_,_,_,n,_,h1⟩:=(show ObjOk X.prog X.w H s.heap a (.frz ob (.lst xs)) from I.hok a _ ea)
    exact PySem.W.kia_one PySem.W.kitx_list I.kIn ⟨_,h1,rfl⟩ e (fun z=>nomatch z) h
  | @tup a xs ea =>
    cases (show u = Value.ref a from rx)
    obtain ⟨_,_,_,p⟩:=(show ObjOk X.prog X.w H s.heap a (.tup xs) from I.hok a _ ea)
    obtain ⟨o,h1,h2,_⟩:=p
    exact PySem.W.kia_one PySem.W.kitx_tuple I.kIn ⟨o,h1,h2⟩ e (fun z=>nomatch z) h
  | @dK a kvs ea =>
    cases (show u = Value.ref a from rx)
    obtain ⟨_,_,vs,_,p⟩:=(show ObjOk X.prog X.w H s.heap a (.dK kvs) from I.hok a _ ea)
    obtain ⟨o,es,ep,h1,h2,_⟩:=p
    exact PySem.W.kia_one PySem.W.kitx_dict I.kIn ⟨o,h1,h2.1⟩ e (fun z=>nomatch z) h
  | @dT a kvs ea =>
    cases (show u = Value.ref a from rx)
    obtain ⟨_,_,xs,_,o,es,ep,h1,h2,_⟩:=(show ObjOk X.prog X.w H s.heap a (.dT kvs) from I.hok a _ ea)
    exact PySem.W.kia_one PySem.W.kitx_dict I.kIn ⟨o,h1,h2.1⟩ e (fun z=>nomatch z) h
  | @ins a C dx fs ea cl ha hn htk hm =>
    cases (show u = Value.ref a from rx)
    obtain ⟨mA,O,_⟩:=ins_get I.hok ea
    obtain ⟨od,J,_⟩:=O.look
    exact PySem.W.kia_one (PySem.W.kitx_own (cl.get _) cl.hd ha hn htk hm) I.kIn J e (fun z=>nomatch z) h
end
open PySem PySem.Spec PyProof.Rows
structure Room (k:Nat) (A:Around):Prop where
  hd:A.handled = none
  dp:A.depth + 3 * k + 5 < recursionLimit
  un:A.units + 16 * k + 200 < cLine
theorem Room.mono {j k:Nat} {A:Around} (r:Room k A) (h:j ≤ k):Room j A:=⟨r.hd,by have:=r.dp; omega,by have:=r.un; omega⟩
theorem Room.deeper {k:Nat} {A:Around} (r:Room (k + 1) A) (env:Env):Room k (A.deeper env) :=
  ⟨r.hd,by have:=r.dp; show A.depth + 1 + 3 * k + 5 < _; omega,by have:=r.un; show A.units + 3 + 16 * k + 200 < _; omega⟩
theorem make_depth {A:Around} {C:Addr} {us:List Value} {kw:List (Str × Value)}:(A.under (.builtin "type.__call__" ⟨.ref C :: us,kw⟩)).depth = A.depth + 1:=by
  first | rfl | simp [Around.under,Code.weight,Code.isCreation,Code.isGuard,Code.isCaller,Code.frames,Code.isFrame,guardIds]
theorem make_units {A:Around} {C:Addr} {us:List Value} {kw:List (Str × Value)}:(A.under (.builtin "type.__call__" ⟨.ref C :: us,kw⟩)).units = A.units + 1:=by
  first | rfl | simp [Around.under,Code.cUnits,Code.frames,Code.isFrame]
theorem Room.make {k:Nat} {A:Around} (r:Room (k + 1) A) (C:Addr) (us:List Value) (kw:List (Str × Value)):Room k (A.under (.builtin "type.__call__" ⟨.ref C :: us,kw⟩)) :=
  ⟨r.hd,by have:=r.dp; rw [make_depth]; omega,by have:=r.un; rw [make_units]; omega⟩
theorem Room.depth {k:Nat} {A:Around} (r:Room k A):A.depth < recursionLimit:=by have:=r.dp; omega
theorem Room.units {k:Nat} {A:Around} (r:Room k A):A.units + 64 < cLine:=by have:=r.un; omega
def tNil:TA:=fun _ H Q=>Q [] H
def tCons (ta:TE) (tr:TA):TA:=fun σ H Q=>ta σ H fun x H1=>tr σ H1 fun xs H2=>Q (x :: xs) H2
section
variable {X:Cx} {e:Expr} {es:List Expr} {te:TE} {t:TA} {pos:Pos}
theorem pa_nil:PA X [] tNil:=fun _ _ _ _ H Q I h=>Calls.spliced_nil ⟨[],H,I,.nil,h⟩
theorem pa_cons (ha:PE X e te) (hr:PA X es t) (hs:starEach (e :: es) X.env = (false,eval e X.env) :: starEach es X.env:=by rfl):PA X (e :: es) (tCons te t):=by
  intro pos pins s σ H Q I h
  rw [hs]
  show wpAny _ _ (spliced ((false,eval e X.env) :: backTo pos (starEach es X.env))) _ _ s
  refine Calls.spliced_cons (thn (ha pins s σ H _ I h) fun u s1 ⟨x,H1,I1,r1,q1⟩=>?_)
  exact thn (hr pos pins s1 σ H1 _ I1 q1) fun us s2 ⟨xs,H2,I2,r2,q2⟩=>⟨x :: xs,H2,I2,.cons r1 r2,q2⟩
def tTup (t:TA):TE:=fun σ H Q=>t σ H fun xs H1=>xs.length ≤ sizeLine /\ ∀ p,H1 p = none->Q (.ref p) (upd H1 p (.tup xs))
def tLst (t:TA):TE:=fun σ H Q=>t σ H fun xs H1=>xs.length ≤ sizeLine /\ ∀ p,H1 p = none->Q (.ref p) (upd H1 p (.lst xs))
theorem pe_tup {x1} (h:PA X es t):PE X (.Tuple es x1 pos) (tTup t):=by
  intro pins s σ H Q I hq
  refine wpAny_Tuple_spliced (thn (h pos pins s σ H _ I hq) fun us s1 ⟨xs,H1,I1,r,z,q⟩=>⟨by rw [← r.length]; exact z,?_⟩)
  have hf:H1 s1.heap.objs.size = none:=I1.hok.fresh (Nat.le_refl _)
  refine ⟨.ref s1.heap.objs.size,upd H1 s1.heap.objs.size (.tup xs),I1.laid (t':=s1.toks) (fun b u e=>Heap.get?_push_of_some _ e) (Nat.le_refl _) ?_,rfl,q _ hf⟩
  exact ⟨z,us,r,⟨_,Heap.get?_push_size _ rfl,rfl,_,rfl⟩⟩
theorem pe_lst (h:PA X es t):PE X (.List es pos) (tLst t):=by
  intro pins s σ H Q I hq
  refine wpAny_List_spliced (thn (h pos pins s σ H _ I hq) fun us s1 ⟨xs,H1,I1,r,z,q⟩=>⟨by rw [← r.length]; exact z,?_⟩)
  have hf:H1 s1.heap.objs.size = none:=I1.hok.fresh (Nat.le_refl _)
  refine ⟨.ref s1.heap.objs.size,upd H1 s1.heap.objs.size (.lst xs),I1.laid (t':=s1.toks) (fun b u e=>Heap.get?_push_of_some _ e) (Nat.le_refl _) ?_,rfl,q _ hf⟩
  exact ⟨z,us,0,r,Heap.get?_push_size _ rfl⟩
end
abbrev Sp:=List V->Hp->VK->XK->Prop
abbrev CXT:=List Env->Hp->Shared->XK->Value->Shared->Prop
structure Env0 (P:Program) (w:World) (K:PySem.W.Frag) (mg:Str->Option Value) (base:Heap) (A:Around) (outer:List Env) (s:Shared) (H:Hp):Prop where
  frames:A.frames = some outer
  mod:Mod K mg base
  bs:∀ b o,base.get? b = some o->s.heap.get? b = some o /\ H b = none
  bsz:base.objs.size ≤ s.heap.objs.size
  funs:s.heap.FunFrames base outer
  frf:∀ b ∈ frs outer,H b = none
  hok:HOk P w H s.heap
  bare:AllBare s.gens
def CE (outer:List Env) (P:Program) (w:World) (H:Hp) (s:Shared) (Q:VK) (u:Value) (s':Shared):Prop :=
  ∃ v H',s'.os = s.os /\ AllBare s'.gens /\ Un (frs outer) [] H H' s.heap s'.heap /\ HOk P w H' s'.heap /\ RelV v u /\ Q v H'
def CR (CX:CXT) (outer:List Env) (P:Program) (w:World) (H:Hp) (s:Shared) (Q:VK) (E:XK) (r:Result) (s':Shared):Prop :=
  match r with
  | .ok (.ret u)=>CE outer P w H s Q u s'
  | .ok _=>False
  | .error e=>CX outer H s E e s'
structure FnOk (P:Program) (w:World) (K:PySem.W.Frag) (mg:Str->Option Value) (base:Heap) (CX:CXT) (k:Nat) (f:Addr) (fd:FuncData) (ps:List Str) (sp:Sp):Prop where
  len:∀ vs H Q E,sp vs H Q E->vs.length = ps.length
  run:∀ (A:Around) (outer:List Env) (s:Shared) (H:Hp) (args:Args) (us:List Value) (vs:List V) (Q:VK) (E:XK),Room k A->Env0 P w K mg base A outer s H->BindsTo s fd args (ps.zip us)->Vals vs us->sp vs H Q E →
    codeAny (model P w) A (.call (.ref f) args) (CR CX outer P w H s Q E) s
theorem Env0.make {P:Program} {w:World} {K:PySem.W.Frag} {mg:Str->Option Value} {base:Heap} {A:Around} {outer:List Env} {s:Shared} {H:Hp} (e:Env0 P w K mg base A outer s H) (C:Addr) (us:List Value) (kw:List (Str × Value)) :
    Env0 P w K mg base (A.under (.builtin "type.__call__" ⟨.ref C :: us,kw⟩)) outer s H:=⟨by first | exact e.frames | (simpa [Around.under,Code.envs,Code.isFrame,pushEnvs] using e.frames),e.mod,e.bs,e.bsz,e.funs,e.frf,e.hok,e.bare⟩
section
variable {X:Cx} {pins:List (Addr × Obj)} {σ:St} {H:Hp} {s s':Shared}
theorem Inv.env0 (I:Inv X pins σ H s):Env0 X.prog X.w X.K X.mg X.base X.A X.stack s H :=
  ⟨I.ok.frames,I.ok.mod,I.bs,Nat.le_trans I.ok.bsz I.sz,I.stack,I.stkFree,I.hok,I.bare⟩
theorem Inv.after {Q:VK} {u:Value} (I:Inv X pins σ H s) (h:CE X.stack X.prog X.w H s Q u s'):EP X pins σ Q u s':=by
  obtain ⟨v,H',os,bare,un,hok,r,q⟩:=h
  obtain ⟨hh,g,d,t,os'⟩:=s'
  obtain rfl:os' = s.os:=os
  exact ⟨v,H',I.call (h':=hh) (g':=g) (d':=d) (t':=t) (ch:=[]) un hok bare (fun b z=>absurd z (by simp)),r,q⟩
end
def Binds (K:PySem.W.Frag) (fd:FuncData) (ps:List Str) (ds:List Value):Prop :=
  ∀ (s:Shared) (us:List Value),K.In s.heap->(us ++ ds).length = ps.length->BindsTo s fd ⟨us,[]⟩ (ps.zip (us ++ ds))
theorem Binds.all {K:PySem.W.Frag} {fd:FuncData} {ps:List Str} (h:∀ us:List Value,us.length = ps.length->bindArgs fd ⟨us,[]⟩ = pure (ps.zip us)):Binds K fd ps []:=fun s us _ hl=>by
  rw [List.append_nil] at hl ⊢
  exact .of_eq (h us hl)
section
variable {X:Cx} {CX:CXT} {k:Nat} {f C:Addr} {fd:FuncData} {ps:List Str} {sp:Sp} {dvs:List V} {ds:List Value} {E:XK} {x m:Str} {p pos apos:Pos} {e o:Expr} {es:List Expr} {ta:TE} {t:TA}
structure Mk (K:PySem.W.Frag) (C f:Addr):Prop where
  makes:PySem.W.makesIn K C = true
  init:PySem.W.findIn K (.ref C) "__init__" = some (some (.ref f))
  fn:PySem.W.isFn K (.ref f) = true
  kp:PySem.W.keepIn K (.ref C) = true
end
structure FnScope (N P:List Str) (sc:Scope):Prop where
  kind:sc.kind = .function
  co:sc.isCoroutine = false
  gen:sc.isGenerator = false
  nd:N.Nodup
  pre:N.take P.length = P
  par:∀ x ∈ P,sc.names.lookup x = some .local ∨ sc.names.lookup x = some .cell
  nofree:∀ y ∈ sc.names,y.2 ≠ .free
theorem bindL_out {kindOf:Str->Option NameKind} {x:Str}:∀ {binds:List (Str × Value)} {m:Str->Option Value},(∀ v,(x,v) ∉ binds)->bindL kindOf binds m x = m x
  | [],_,_=>rfl
  | (n,v) :: r,m,h=>by
    unfold bindL
    rw [bindL_out fun w hw=>h w (List.mem_cons_of_mem _ hw)]
    split
    · have:x ≠ n:=by rintro rfl; exact h v List.mem_cons_self
      simp [this]
    · rfl
theorem bindC_out {kindOf:Str->Option NameKind} {x:Str}:∀ {binds:List (Str × Value)} {m:Str->Option Value},(∀ v,(x,v) ∉ binds)->bindC kindOf binds m x = m x
  | [],_,_=>rfl
  | (n,v) :: r,m,h=>by
    unfold bindC
    rw [bindC_out fun w hw=>h w (List.mem_cons_of_mem _ hw)]
    split
    · rfl
    · have:x ≠ n:=by rintro rfl; exact h v List.mem_cons_self
      simp [this]
theorem bindL_get {kindOf:Str->Option NameKind} {x:Str} {v:Value}:∀ {P:List Str} {vs:List Value} {i:Nat} {m:Str->Option Value},P.Nodup->P[i]? = some x->vs[i]? = some v->kindOf x = some .local →
    bindL kindOf (P.zip vs) m x = some v
  | [],_,_,_,_,h,_,_=>by simp at h
  | _ :: _,[],_,_,_,_,h,_=>by simp at h
  | p :: P,w :: vs,0,m,nd,h1,h2,hk=>by
    simp at h1 h2; subst h1; subst h2
    show bindL kindOf ((p,w) :: P.zip vs) m p = _
    unfold bindL
    rw [bindL_out fun v hv=>(List.nodup_cons.mp nd).1 (List.of_mem_zip hv).1,if_pos hk]
    simp
  | p :: P,w :: vs,i + 1,m,nd,h1,h2,hk=>by
    show bindL kindOf ((p,w) :: P.zip vs) m x = _
    unfold bindL
    exact bindL_get (i:=i) (List.nodup_cons.mp nd).2 (by simpa using h1) (by simpa using h2) hk
theorem bindC_get {kindOf:Str->Option NameKind} {x:Str} {v:Value}:∀ {P:List Str} {vs:List Value} {i:Nat} {m:Str->Option Value},P.Nodup->P[i]? = some x->vs[i]? = some v->kindOf x ≠ some .local →
    bindC kindOf (P.zip vs) m x = some v
  | [],_,_,_,_,h,_,_=>by simp at h
  | _ :: _,[],_,_,_,_,h,_=>by simp at h
  | p :: P,w :: vs,0,m,nd,h1,h2,hk=>by
    simp at h1 h2; subst h1; subst h2
    show bindC kindOf ((p,w) :: P.zip vs) m p = _
    unfold bindC
    rw [bindC_out fun v hv=>(List.nodup_cons.mp nd).1 (List.of_mem_zip hv).1,if_neg hk]
    simp
  | p :: P,w :: vs,i + 1,m,nd,h1,h2,hk=>by
    show bindC kindOf ((p,w) :: P.zip vs) m x = _
    unfold bindC
    exact bindC_get (i:=i) (List.nodup_cons.mp nd).2 (by simpa using h1) (by simpa using h2) hk
def start (N:List Str) (vs:List V):St:=vs.map some ++ List.replicate (N.length - vs.length) none
def cxOf (CX:CXT) (P:Program) (w:World) (K:PySem.W.Frag) (mg:Str->Option Value) (base:Heap) (N:List Str) (qual:Str) (scope:Scope) (f:Addr) (cd:Value) (A:Around) (outer:List Env) (s:Shared) (H:Hp) (E:XK):Cx where
  prog:=P
  w:=w
  K:=K
  mg:=mg
  base:=base
  A:=A.deeper (envOfC qual scope s.heap.objs.size f cd)
  N:=N
  s₀:=s
  H₀:=H
  env:=envOfC qual scope s.heap.objs.size f cd
  outer:=outer
  stack:=envOfC qual scope s.heap.objs.size f cd :: outer
  ex:=[]
  calm:=true
  fn:=fun _=>true
  pn:=[]
  xe:=fun e s'=>wpAny (model P w) (A.deeper (envOfC qual scope s.heap.objs.size f cd)) (leaving (envOfC qual scope s.heap.objs.size f cd) e) (fun _ s''=>CX outer H s E e s'') (fun e' s''=>CX outer H s E e' s'') s'
theorem cell_has {sc:Scope} {n:Nat} {x:Str} (h:sc.names.lookup x = some .cell):∃ c,(cellsFrom n sc.names []).lookup x = some c:=by
  have q:=PySem.W.cellsFrom_some sc.names n [] (.inl h)
  exact Option.isSome_iff_exists.mp q
theorem inv_start {CX:CXT} {P:Program} {w:World} {K:PySem.W.Frag} {mg:Str->Option Value} {base:Heap} {N ps:List Str} {qual:Str} {scope:Scope} {f:Addr} {cd:Value} {A:Around} {outer:List Env} {s s1:Shared} {H:Hp} {E:XK} {us:List Value} {vs:List V}
    (S:FnScope N ps scope) (hd:A.handled = none) (e0:Env0 P w K mg base A outer s H) (hl:vs.length = ps.length) (r:Vals vs us)
    (x:InCallC s s.heap.objs.size (bindL (envOfC qual scope s.heap.objs.size f cd).kindOf (ps.zip us) fun _=>none) (cellsFrom (s.heap.objs.size + 1) scope.names []) (bindC (envOfC qual scope s.heap.objs.size f cd).kindOf (ps.zip us) fun _=>none) s1) :
    Inv (cxOf CX P w K mg base N qual scope f cd A outer s H E) [] (start N vs) H s1:=by
  have hpl:ps.length ≤ N.length:=by have:=congrArg List.length S.pre; rw [List.length_take] at this; omega
  obtain ⟨h1,tk,rfl,hk⟩:=x.done
  have noA:∀ b:Addr,b ∉ (cxOf CX P w K mg base N qual scope f cd A outer s H E).ex:=fun b z=>absurd (show b ∈ ([]:List Addr) from z) (by simp)
  refine ⟨⟨e0.mod,S.kind,rfl,rfl,Nat.le_refl _,fun y z c h1 h2=>?_,fun y hy=>?_,fun y c _ h=>?_,fun _=>hd,Around.frames_deeper e0.frames,.inr ⟨rfl,rfl⟩,fun b z=>absurd z (noA b),e0.bs,e0.bsz,fun b _ _=>noA b,fun b z=>absurd z (noA b),e0.funs,e0.frf⟩,
    rfl,e0.bare,Un.kept hk,⟨_,x.toInCall.ns,fun i y v h1 h2 h3=>?_⟩,fun y c h=>⟨_,x.cell y c h⟩,e0.hok.fresh (Nat.le_refl _),fun y c h=>?_,fun p hp=>absurd (show p ∈ ([]:List (Addr × Obj)) from hp) (by simp),e0.hok.kept hk,?_⟩
  · exact name_of_addr x.apart (PySem.mem_of_lookup h1) (PySem.mem_of_lookup h2)
  · have hy:scope.names.lookup y = some .cell ∨ scope.names.lookup y = some .free:=hy
    rcases hy with hy | hy
    · exact cell_has hy
    · exact absurd rfl (S.nofree _ (PySem.mem_of_lookup hy))
  · exact Nat.le_of_lt (x.above y c (PySem.mem_of_lookup h))
  · have hi:i < vs.length:=by
      unfold start at h2
      by_cases hi:i < vs.length
      · exact hi
      · rw [List.getElem?_append_right (by simpa using hi)] at h2
        rw [List.getElem?_replicate] at h2
        split at h2 <;> cases h2
    have ha:vs[i]? = some v:=by
      unfold start at h2
      rw [List.getElem?_append_left (by simpa using hi),List.getElem?_map] at h2
      cases e:vs[i]? with
      | none=>rw [e] at h2; cases h2
      | some a=>rw [e] at h2; cases h2; rfl
    obtain ⟨u,hu,rv⟩:=r.get ha
    have hp:ps[i]? = some y:=by
      rw [← S.pre,List.getElem?_take_of_lt (by omega)]; exact h1
    have ndP:ps.Nodup:=by rw [← S.pre]; exact S.nd.sublist (List.take_sublist _ _)
    refine ⟨u,rv,?_⟩
    rcases S.par y (List.mem_of_getElem? hp) with k | k
    · exact .inl ⟨k,bindL_get ndP hp hu k⟩
    · obtain ⟨c,e⟩:=cell_has (n:=s.heap.objs.size + 1) k
      refine .inr ⟨.inl k,c,e,?_⟩
      have q:=x.cell y c e
      rw [bindC_get ndP hp hu (by show scope.names.lookup y ≠ _; rw [k]; decide)] at q
      exact q
  · exact e0.hok.fresh (Nat.le_of_lt (x.above y c (PySem.mem_of_lookup h)))
  · unfold start
    show _ = N.length
    rw [List.length_append,List.length_map,List.length_replicate]
    omega
theorem fn_of {CX:CXT} {P:Program} {w:World} {K:PySem.W.Frag} {mg:Str->Option Value} {base:Heap} {k:Nat} {f:Addr} {name qual:Str} {params:Arguments} {body:List Stmt} {scope:Scope} {dV kV doc pm cdv ct oc:Value} {an od:Option Addr}
    {osl:Array (Option Value)} {N ps:List Str} {sp:Sp} (lk:K.lookup f = some ⟨oc,od,.func (PySem.W.fnOf name qual params body scope dV kV doc pm an cdv ct),osl⟩) (hcd:PySem.W.codeIn K cdv qual = true) (S:FnScope N ps scope)
    (len:∀ vs H Q E,sp vs H Q E->vs.length = ps.length)
    (hbody:∀ (A:Around) (outer:List Env) (s:Shared) (H:Hp) (vs:List V) (Q:VK) (E:XK),Room k (A.deeper (envOfC qual scope s.heap.objs.size f cdv))->sp vs H Q E →
      ∃ t,PSs (cxOf CX P w K mg base N qual scope f cdv A outer s H E) body t /\ t { nx:=fun _ H'=>Q .non H',rt:=Q } (start N vs) H) :
    FnOk P w K mg base CX (k + 1) f (PySem.W.fnOf name qual params body scope dV kV doc pm an cdv ct) ps sp:=by
  refine ⟨len,fun A outer s H args us vs Q E hr e0 hb r hsp=>?_⟩
  have hl:=len _ _ _ _ hsp
  have KX:K.In s.heap:=e0.mod.kin.keeps fun b o e=>(e0.bs b o e).1
  have lim:s.heap.NoLimit:=e0.mod.nolimit.keeps fun b o e=>(e0.bs b o e).1
  have hkind:∀ y ∈ ps.zip us,scope.names.lookup y.1 = some .local ∨ (scope.names.lookup y.1 = some .cell /\ ((cellsFrom (s.heap.objs.size + 1) scope.names []).lookup y.1).isSome = true):=fun ⟨n,v⟩ hy=>by
    rcases S.par n (List.of_mem_zip hy).1 with q | q
    · exact .inl q
    · exact .inr ⟨q,PySem.W.cellsFrom_some _ _ _ (.inl q)⟩
  refine codeAny_call_function hr.depth (KX _ _ lk) rfl S.co S.gen rfl (PySem.W.codeRec_of KX hcd) (hb _ _ _ _ ?_)
  refine wpAny_newFunctionEnv_cells S.kind hkind fun env he s1 x=>?_
  subst he
  refine ⟨lim.keeps x.toInCall.keep,codeAny_func ?_⟩
  obtain ⟨t,ht,hq⟩:=hbody A outer s H vs Q E (hr.deeper _) hsp
  have I:Inv (cxOf CX P w K mg base N qual scope f cdv A outer s H E) [] (start N vs) H s1:=inv_start S hr.hd e0 hl r x
  refine wpAny_mono (ht [] s1 (start N vs) H _ I hq) (fun fl s' hs=>?_) fun e s' hs=>hs
  have fin:∀ {σ':St} {H':Hp} {v:V} {u:Value},Inv (cxOf CX P w K mg base N qual scope f cdv A outer s H E) [] σ' H' s'->RelV v u->Q v H'->CE outer P w H s Q u s' :=
    fun {σ' H' v u} J rv q=>⟨v,H',J.os,J.bare,J.base,J.hok,rv,q⟩
  cases fl with
  | ret u =>
    obtain ⟨v,σ',H',J,rv,q⟩:=hs
    exact fin J rv q
  | next =>
    obtain ⟨σ',H',J,q⟩:=hs
    exact fin (v:=V.non) (u:=Value.none) J rfl q
  | brk =>
    obtain ⟨_,_,_,q⟩:=hs
    exact False.elim q
  | cont =>
    obtain ⟨_,_,_,q⟩:=hs
    exact False.elim q
open PySem PySem.Spec PyProof.Rows
section
variable {X:Cx} {x:Str} {p pos:Pos} {e:Expr} {es:List Expr} {t:TA} {id T:String} {r:List V->Hp->VK->Prop}
def tCB (r:List V->Hp->VK->Prop) (t:TA):TE:=fun σ H Q=>t σ H fun vs H1=>r vs H1 Q
theorem pe_callB (hc:CallR X (.builtin id) r) (hg:Gl X x) (hm:X.mg x = none) (hv:bootBuiltins x = some (.builtin id)) (ha:PA X (e :: es) t) (hn:x ≠ "__name__":=by decide) (hdb:(x == ("__debug__":Str)) = false:=by decide)
    (he:starEach (e :: es) X.env = (false,eval e X.env) :: starEach es X.env:=by rfl) (hpl:(backTo pos (starEach es X.env)).any (·.1) = false:=by rfl):PE X (.Call (.Name x p) (e :: es) [] pos) (tCB r t):=by
  intro pins s σ H Q I h
  refine wpAny_Call_Name_kw (ld_blt I hg hm hv ?_ hn hdb)
  exact PyProof.Rows.callWith_builtin1 (thn (ha pos pins s σ H _ I h) fun us s1 ⟨vs,H1,I1,r1,q1⟩=>hc pins s1 σ H1 vs us Q I1 r1 q1) he hpl
theorem pe_callTy (hc:CallR X (.type T) r) (hg:Gl X x) (hm:X.mg x = none) (hv:bootBuiltins x = some (.type T)) (ha:PA X (e :: es) t) (hn:x ≠ "__name__":=by decide) (hdb:(x == ("__debug__":Str)) = false:=by decide)
    (he:starEach (e :: es) X.env = (false,eval e X.env) :: starEach es X.env:=by rfl) (hpl:(backTo pos (starEach es X.env)).any (·.1) = false:=by rfl):PE X (.Call (.Name x p) (e :: es) [] pos) (tCB r t):=by
  intro pins s σ H Q I h
  refine wpAny_Call_Name_kw (ld_blt I hg hm hv ?_ hn hdb)
  exact PyProof.Rows.callWith_type1 (thn (ha pos pins s σ H _ I h) fun us s1 ⟨vs,H1,I1,r1,q1⟩=>hc pins s1 σ H1 vs us Q I1 r1 q1) he hpl
end
end L2
namespace HT
open PySem PyProof.Rows
section
variable {prog:Program} {w:World} {A:Around} {E:Value->Shared->Prop} {s:Shared}
def sIx (n d:Nat):Option Int->Nat
  | none=>d
  | some v=>if v < 0 then (v + (n:Int)).toNat else min v.toNat n
theorem sIx_none (n d:Nat):sIx n d none = d:=rfl
theorem sIx_nat (n d k:Nat):sIx n d (some (k:Int)) = min k n:=by
  show (if (k:Int) < 0 then ((k:Int) + (n:Int)).toNat else min (k:Int).toNat n) = min k n
  rw [if_neg (by omega),Int.toNat_natCast]
end
end HT
namespace L2
open PySem PySem.Spec PyProof.Rows
abbrev TO:=St->Hp->(Option Int->Hp->Prop)->Prop
def PO (X:Cx) (e:Option Expr) (t:TO):Prop :=
  ∀ (pins:List (Addr × Obj)) (s:Shared) (σ:St) (H:Hp) (Q:Option Int->Hp->Prop),Inv X pins σ H s->t σ H Q →
    wpAny (model X.prog X.w) X.A (evalPart e X.env) (fun u s'=>∃ o H',Inv X pins σ H' s' /\ IsPart u o /\ Q o H') X.xe s
def tNoPart:TO:=fun _ H Q=>Q none H
def tPart (t:TE):TO:=fun σ H Q=>t σ H fun x H1=>∃ i,x = .int i /\ Q (some i) H1
theorem intsAre_of {ns:List Int}:∀ {us:List Value},Vals (ns.map V.int) us->IntsAre us ns:=by
  induction ns with
  | nil=>intro us r; rw [List.map_nil] at r; cases r; exact .nil
  | cons n ns ih =>
    intro us r
    rw [List.map_cons] at r
    cases r with
    | cons r1 r2 =>
      obtain ⟨t,e⟩:=r1
      subst e
      exact .cons n t (ih r2)
section
variable {X:Cx} {e:Expr} {te:TE} {lo hi:Option Expr} {tl th:TO} {pos p2:Pos}
theorem po_none:PO X none tNoPart:=by
  intro pins s σ H Q I h
  rw [evalPart_none]
  exact wpAny_pure ⟨none,H,I,.none,h⟩
theorem po_some (h:PE X e te):PO X (some e) (tPart te):=by
  intro pins s σ H Q I hw
  rw [evalPart_some]
  refine thn (h pins s σ H _ I hw) fun u s1 ⟨x,H1,I1,r1,q1⟩=>?_
  obtain ⟨i,rfl,q⟩:=q1
  obtain ⟨t,rfl⟩:=r1
  exact ⟨some i,H1,I1,.int i t,q⟩
def SlR (X:Cx) (r:V->Option Int->Option Int->Hp->VK->Prop):Prop :=
  ∀ (pins:List (Addr × Obj)) (s:Shared) (σ:St) (H:Hp) (x:V) (v vl vu:Value) (lo hi:Option Int) (sl:Addr) (Q:VK),Inv X pins σ H s->RelV x v->s.heap.IsSliceOf sl vl vu .none->IsPart vl lo->IsPart vu hi->r x lo hi H Q →
    ∃ T id,typeLookup (.type T) "__getitem__" = pure (some (.builtin id)) /\ s.TypeIs v T /\ wpAny (model X.prog X.w) X.A (getItem v (.ref sl)) (EP X pins σ Q) X.xe s
def tSl (r:V->Option Int->Option Int->Hp->VK->Prop) (te:TE) (tl th:TO):TE:=fun σ H Q=>te σ H fun x H1=>tl σ H1 fun l H2=>th σ H2 fun u H3=>r x l u H3 Q
theorem pe_slice {r:V->Option Int->Option Int->Hp->VK->Prop} (hr:SlR X r) (he:PE X e te) (hl:PO X lo tl) (hu:PO X hi th):PE X (.Subscript e (.Slice lo hi none p2) pos) (tSl r te tl th):=by
  intro pins s σ H Q I h
  refine Subscript_ (thn (he pins s σ H _ I h) fun v s1 ⟨x,H1,I1,r1,q1⟩=>?_)
  refine wpAny_Slice (thn (hl pins s1 σ H1 _ I1 q1) fun vl s2 ⟨l,H2,I2,pl,q2⟩=>thn (hu pins s2 σ H2 _ I2 q2) fun vu s3 ⟨u,H3,I3,pu,q3⟩=>?_)
  rw [evalPart_none]
  refine wpAny_pure ?_
  have I4:Inv X pins σ H3 { s3 with heap:=s3.heap.push { cls:=.type "slice",data:=.fields #[vl,vu,.none] } }:=I3.kept (t':=s3.toks) fun b ob q=>Heap.get?_push_of_some _ q
  obtain ⟨T,id,hT,ht,hg⟩:=hr pins { s3 with heap:=s3.heap.push { cls:=.type "slice",data:=.fields #[vl,vu,.none] } } σ H3 x v vl vu l u s3.heap.objs.size Q I4 r1 (Heap.IsSliceOf.new ..) pl pu q3
  show wpAny (model X.prog X.w) X.A (subscriptTail e (.Slice lo hi none p2) v (.ref s3.heap.objs.size)) (EP X pins σ Q) X.xe { s3 with heap:=s3.heap.push { cls:=.type "slice",data:=.fields #[vl,vu,.none] } }
  exact tail_any (ops:=[.ref s3.heap.objs.size,v]) ht hT hg (by with_unfolding_all rfl)
def cutV (xs:List V) (lo hi:Option Int):List V:=(xs.drop (HT.sIx xs.length 0 lo)).take (HT.sIx xs.length xs.length hi - HT.sIx xs.length 0 lo)
theorem cutV_length (xs:List V) (lo hi:Option Int):(cutV xs lo hi).length ≤ xs.length:=by
  unfold cutV
  rw [List.length_take,List.length_drop]
  omega
end
open PySem PySem.Spec PyProof.Rows
def ixN (n:Nat) (i:Int):Option Nat:=if 0 ≤ i then (if i < n then some i.toNat else none) else if -(n:Int) ≤ i then some (i + n).toNat else none
def atI {α:Type} (xs:List α) (i:Int):Option α:=(ixN xs.length i).bind fun j=>xs[j]?
theorem ixN_seq {n:Nat} {i:Int} {j:Nat} (h:ixN n i = some j):seqIndex? i n = some j /\ j < n /\ -(n:Int) ≤ i /\ i < n:=by
  unfold ixN at h
  by_cases h0:0 ≤ i
  · rw [if_pos h0] at h
    by_cases h1:i < n
    · rw [if_pos h1] at h
      have e:i.toNat = j:=Option.some.inj h
      exact ⟨by rw [seqIndex_of h0 h1,e],by omega,by omega,h1⟩
    · rw [if_neg h1] at h; cases h
  · rw [if_neg h0] at h
    by_cases h1:-(n:Int) ≤ i
    · rw [if_pos h1] at h
      have e:(i + n).toNat = j:=Option.some.inj h
      exact ⟨by rw [seqIndex_neg (by omega) h1,e],by omega,h1,by omega⟩
    · rw [if_neg h1] at h; cases h
theorem atI_get {α:Type} {xs:List α} {i:Int} {v:α} (h:atI xs i = some v):∃ j,seqIndex? i xs.length = some j /\ xs[j]? = some v /\ j < xs.length /\ -(xs.length:Int) ≤ i /\ i < xs.length:=by
  unfold atI at h
  cases e:ixN xs.length i with
  | none=>rw [e] at h; cases h
  | some j =>
    rw [e] at h
    obtain ⟨h1,h2,h3,h4⟩:=ixN_seq e
    exact ⟨j,h1,h,h2,h3,h4⟩
theorem atI_nat {α:Type} {xs:List α} {j:Nat} {v:α} (h:xs[j]? = some v):atI xs (j:Int) = some v:=by
  have hj:j < xs.length:=(List.getElem?_eq_some_iff.mp h).1
  have e:ixN xs.length (j:Int) = some j:=by
    unfold ixN
    rw [if_pos (by omega),if_pos (by omega)]; simp
  unfold atI; rw [e]; exact h
def PlainIx (b:Expr):Prop:=∀ o i,subscripted b false o i = operate [o,i] (getItem o i)
def IxR (X:Cx) (r:R2):Prop :=
  ∀ (value slice:Expr) (pins:List (Addr × Obj)) (s:Shared) (σ:St) (H:Hp) (x y:V) (v u:Value) (Q:VK),Inv X pins σ H s->RelV x v->RelV y u->r x y H Q →
    subscripted slice false v u = operate [v,u] (getItem v u)->wpAny (model X.prog X.w) X.A (subscriptTail value slice v u) (EP X pins σ Q) X.xe s
def MtR (X:Cx) (id:String) (r:V->List V->Hp->VK->Prop):Prop :=
  ∀ (pins:List (Addr × Obj)) (s:Shared) (σ:St) (H:Hp) (x:V) (xs:List V) (v:Value) (us:List Value) (Q:VK),Inv X pins σ H s->RelV x v->Vals xs us->r x xs H Q →
    wpAny (model X.prog X.w) X.A (call (.builtin id) (v :: us)) (EP X pins σ Q) X.xe s
section
variable {X:Cx} {a b:Expr} {ta tb:TE} {pos:Pos}
theorem pe_ix {r:R2} (hr:IxR X r) (ha:PE X a ta) (hb:PE X b tb) (hs:PlainIx b):PE X (.Subscript a b pos) (tOp r ta tb):=by
  intro pins s σ H Q I h
  exact Subscript_ (binT ha hb I h fun v u s2 x y H2 I2 rx ry q=>hr a b pins s2 σ H2 x y v u Q I2 rx ry q (hs _ _))
def rIxL (K:PySem.W.Frag):R2:=fun x y H Q=>∃ p xs i v,x = .ref p /\ y = .int i /\ SqL K H p xs /\ atI xs i = some v /\ Q v H
def rIxT (K:PySem.W.Frag):R2:=fun x y H Q=>∃ p xs i v,x = .ref p /\ y = .int i /\ SqT K H p xs /\ atI xs i = some v /\ Q v H
def rIxS:R2:=fun x y H Q=>∃ z i c,x = .str z /\ y = .int i /\ z.length ≤ sizeLine /\ atI z.cps.toList i = some c /\ Q (.str ⟨#[c]⟩) H
theorem ix_list:IxR X (rIxL X.K):=by
  intro value slice pins s σ H x y v u Q I rx ry h hs
  obtain ⟨p,xs,i,z,rfl,rfl,hq,he,q⟩:=h
  cases rx
  obtain ⟨t,rfl⟩:=ry
  obtain ⟨its,r,pl,hz⟩:=I.list hq
  obtain ⟨j,h1,h2,h3,h4,h5⟩:=atI_get he
  obtain ⟨w,ew,rw'⟩:=r.get h2
  have hl:=r.length
  have hn:=line63
  have fin:EP X pins σ Q w s:=⟨z,H,I,rw',q⟩
  by_cases h0:0 ≤ i
  · have hj:i.toNat = j:=by
      rw [seqIndex_of h0 h5] at h1
      exact Option.some.inj h1
    exact item_listR pl.isList h0 (by omega) (by rw [hj]; simpa using ew) fin hs
  · have hj:(i + (its.toArray.size:Int)).toNat = j:=by
      rw [seqIndex_neg (by omega) h4] at h1
      rw [List.size_toArray,← hl]
      exact Option.some.inj h1
    exact subscriptTail_builtinR (x:=w) pl.isList.typeIs slot_list_getitem.lookup
      (wpAny_getItem_list_neg (Q:=fun r s'=>r = w /\ EP X pins σ Q r s') pl.isList (by omega) (by rw [List.size_toArray] <;> omega) (by omega) (by rw [hj]; simpa using ew) ⟨rfl,fin⟩) hs
theorem ix_tup:IxR X (rIxT X.K):=by
  intro value slice pins s σ H x y v u Q I rx ry h hs
  obtain ⟨p,xs,i,z,rfl,rfl,hq,he,q⟩:=h
  cases rx
  obtain ⟨t,rfl⟩:=ry
  obtain ⟨its,r,pl,hz⟩:=I.tuple hq
  obtain ⟨j,h1,h2,h3,h4,h5⟩:=atI_get he
  obtain ⟨w,ew,rw'⟩:=r.get h2
  have hl:=r.length
  have hn:=line63
  have fin:EP X pins σ Q w s:=⟨z,H,I,rw',q⟩
  exact subscriptTail_builtinR (x:=w) pl.typeIs slot_tuple_getitem.lookup
    (getItem_tuple (j:=j) (Q:=fun r s'=>r = w /\ EP X pins σ Q r s') pl (by omega) (by omega) (by rw [List.size_toArray,← hl]; exact h1) (by simpa using ew) ⟨rfl,fin⟩) hs
theorem ix_str:IxR X rIxS:=by
  intro value slice pins s σ H x y v u Q I rx ry h hs
  obtain ⟨z,i,c,rfl,rfl,hz,he,q⟩:=h
  obtain ⟨t,rfl⟩:=rx
  obtain ⟨t',rfl⟩:=ry
  obtain ⟨j,h1,h2,h3,h4,h5⟩:=atI_get he
  have hl:z.cps.toList.length = z.length:=by simp [Str.length]
  rw [hl] at h1 h4 h5
  have hn:=line63
  exact tail_any (typeIs_str s z t) slot_str_getitem.lookup (getItem_str (c:=c) (by
    have e1:decide (i < -(2 ^ 63:Int)) = false:=decide_eq_false (by omega)
    have e2:decide (i ≥ 2 ^ 63) = false:=decide_eq_false (by omega)
    rw [e1,e2,Bool.or_false]) (by rw [h1]; simpa using h2) ⟨.str ⟨#[c]⟩,H,I.tok _,⟨_,rfl⟩,q⟩) hs
theorem mapSeq_set (its:List Value) (n j:Nat) (u:Value):Obj.mapSeq (·.setIfInBounds j u) { cls:=.type "list",data:=.seq its.toArray n } = { cls:=.type "list",data:=.seq (its.set j u).toArray n }:=by
  simp [Obj.mapSeq]
theorem Inv.lst {pins:List (Addr × Obj)} {σ:St} {H:Hp} {s:Shared} {p:Addr} {xs:List V} (I:Inv X pins σ H s) (h:H p = some (.lst xs)) :
    ∃ (its:List Value) (n:Nat),Vals xs its /\ s.heap.get? p = some { cls:=.type "list",data:=.seq its.toArray n } /\ xs.length ≤ sizeLine:=by
  obtain ⟨z,its,n,r,e⟩:=I.hok p _ h
  exact ⟨its,n,r,e,z⟩
theorem Inv.lstUpd {pins:List (Addr × Obj)} {σ:St} {H:Hp} {s:Shared} {p:Addr} {xs ys:List V} {its its':List Value} {n n':Nat} {f:Obj->Obj} (I:Inv X pins σ H s) (h:H p = some (.lst xs))
    (ho:s.heap.get? p = some { cls:=.type "list",data:=.seq its.toArray n }) (hf:f { cls:=.type "list",data:=.seq its.toArray n } = { cls:=.type "list",data:=.seq its'.toArray n' }) (r:Vals ys its') (hz:ys.length ≤ sizeLine) (t:Nat) :
    Inv X pins σ (upd H p (.lst ys)) { s with heap:=s.heap.update p f,toks:=t }:=by
  have e:(s.heap.update p f).get? p = some { cls:=.type "list",data:=.seq its'.toArray n' }:=by
    rw [Heap.get?_update_self f ho (by rw [hf] <;> rfl),hf]
  refine I.write (x:=p) (e:=p) (by rw [h]; trivial) (.inl rfl) (fun b u hb q=>(Heap.get?_update_other _ _ (Ne.symm hb)).trans q) ⟨_,e⟩ ?_
  exact ⟨hz,its',n',r,e⟩
def rSetL:V->V->V->Hp->(Hp->Prop)->Prop:=fun o i v H Q=>∃ p xs k j,o = .ref p /\ i = .int k /\ H p = some (.lst xs) /\ ixN xs.length k = some j /\ Q (upd H p (.lst (xs.set j v)))
theorem set_list:PSet X rSetL:=by
  intro pins s σ H o i v ov iv u Q I ro ri rv h
  obtain ⟨p,xs,k,j,rfl,rfl,hp,hj,q⟩:=h
  cases ro
  obtain ⟨t,rfl⟩:=ri
  obtain ⟨its,n,r,ho,hz⟩:=I.lst hp
  obtain ⟨h1,h2,h3,h4⟩:=ixN_seq hj
  have hl:=r.length
  have hn:=line63
  have I':Inv X pins σ (upd H p (.lst (xs.set j v))) { s with heap:=s.heap.update p (Obj.mapSeq (·.setIfInBounds j u)) } :=
    I.lstUpd hp ho (mapSeq_set its n j u) (r.set rv j) (by rw [List.length_set]; exact hz) s.toks
  by_cases h0:0 ≤ k
  · have hk:k.toNat = j:=by
      rw [seqIndex_of h0 h4] at h1
      exact Option.some.inj h1
    exact PySem.W.ki_setAt ho h0 (by omega) (by rw [List.size_toArray,← hl]; exact h4) (by rw [hk]; exact ⟨_,I',q⟩)
  · have hk:(k + (its.toArray.size:Int)).toNat = j:=by
      rw [seqIndex_neg (by omega) h3] at h1
      rw [List.size_toArray,← hl]
      exact Option.some.inj h1
    exact PySem.W.ki_setBack ho (by omega) (by rw [List.size_toArray,← hl]; exact h3) (by omega) (by rw [hk]; exact ⟨_,I',q⟩)
theorem slice_bounds (lo hi:Option Int) (n:Nat):(sliceBounds lo hi none n).1 = ((HT.sIx n 0 lo:Nat):Int) /\ (sliceBounds lo hi none n).2.1 = ((HT.sIx n n hi:Nat):Int) /\ (sliceBounds lo hi none n).2.2 = 1:=by
  refine ⟨?_,?_,rfl⟩
  · cases lo with
    | none=>simp [sliceBounds,HT.sIx]
    | some i =>
      simp only [sliceBounds,HT.sIx,Option.getD_none,show (1:Int) > 0 by decide,if_true]
      by_cases h:i < 0
      · simp only [h,if_true] <;> omega
      · simp only [h,if_false] <;> omega
  · cases hi with
    | none=>simp [sliceBounds,HT.sIx]
    | some i =>
      simp only [sliceBounds,HT.sIx,Option.getD_none,show (1:Int) > 0 by decide,if_true]
      by_cases h:i < 0
      · simp only [h,if_true] <;> omega
      · simp only [h,if_false] <;> omega
theorem slicePick_cut (its:List Value) (lo hi:Option Int):slicePick its.toArray lo hi none = ((its.drop (HT.sIx its.length 0 lo)).take (HT.sIx its.length its.length hi - HT.sIx its.length 0 lo)).toArray:=by
  obtain ⟨h1,h2,h3⟩:=slice_bounds lo hi its.toArray.size
  unfold slicePick
  rw [h1,h2,h3]
  simp only [sliceRange_one,pick_run,List.size_toArray] <;> rfl
def rSlL (K:PySem.W.Frag):V->Option Int->Option Int->Hp->VK->Prop:=fun x lo hi H Q=>∃ a xs,x = .ref a /\ SqL K H a xs /\ ∀ p,H p = none->Q (.ref p) (upd H p (.lst (cutV xs lo hi)))
theorem sl_list:SlR X (rSlL X.K):=by
  intro pins s σ H x v vl vu lo hi sl Q I rx hs pl pu h
  obtain ⟨a,xs,rfl,hx,q⟩:=h
  cases rx
  obtain ⟨its,r,ht,hz⟩:=I.list hx
  have hlen:=r.length
  refine ⟨"list",_,slot_list_getitem.lookup,ht.isList.typeIs,?_⟩
  refine wpAny_getItem_list_slice ht.isList hs pl pu .none (by simp) ?_ (by rw [List.size_toArray] <;> omega)
  rw [slicePick_cut,← hlen]
  refine ⟨.ref s.heap.objs.size,_,I.laid (t':=s.toks) (o:=.lst (cutV xs lo hi)) (fun b ob q=>Heap.get?_push_of_some _ q) (Nat.le_refl _) ?_,rfl,q _ (I.hok.fresh (Nat.le_refl _))⟩
  exact ⟨Nat.le_trans (cutV_length xs lo hi) hz,_,0,(r.drop (HT.sIx xs.length 0 lo)).take (HT.sIx xs.length xs.length hi - HT.sIx xs.length 0 lo),Heap.get?_push_size _ rfl⟩
def flatV:V->Bool
  | .non=>true
  | .bl _=>true
  | .int _=>true
  | .str _=>true
  | _=>false
def eqV:V->V->Bool
  | .non,.non=>true
  | .bl a,.bl b=>a == b
  | .bl a,.int b=>(if a then 1 else 0) == b
  | .int a,.bl b=>a == (if b then 1 else 0)
  | .int a,.int b=>a == b
  | .str a,.str b=>a == b
  | _,_=>false
theorem eqAt_V {A:Around} {s:Shared} {y x:V} {u v:Value} (ry:RelV y u) (rx:RelV x v) (fy:flatV y = true) (fx:flatV x = true):SeqAt.EqAt A s u v (eqV y x):=by
  cases y with
  | non =>
    cases ry
    cases x with
    | non=>cases rx; exact SeqAt.EqAt.same _
    | bl b=>cases rx; exact SeqAt.EqAt.none_bool b
    | int b=>obtain ⟨t,rfl⟩:=rx; exact SeqAt.EqAt.none_int b t
    | str b=>obtain ⟨t,rfl⟩:=rx; exact SeqAt.EqAt.none_str b t
    | _=>exact absurd (show false = true from fx) Bool.false_ne_true
  | bl a =>
    cases ry
    cases x with
    | non=>cases rx; exact SeqAt.EqAt.bool_none a
    | bl b=>cases rx; exact SeqAt.EqAt.bool_bool a b
    | int b=>obtain ⟨t,rfl⟩:=rx; exact SeqAt.EqAt.bool_int a b t
    | str b=>obtain ⟨t,rfl⟩:=rx; exact SeqAt.EqAt.bool_str a b t
    | _=>exact absurd (show false = true from fx) Bool.false_ne_true
  | int a =>
    obtain ⟨t',rfl⟩:=ry
    cases x with
    | non=>cases rx; exact SeqAt.EqAt.int_none a t'
    | bl b=>cases rx; exact SeqAt.EqAt.int_bool a t' b
    | int b=>obtain ⟨t,rfl⟩:=rx; exact SeqAt.EqAt.int_int a t' b t
    | str b=>obtain ⟨t,rfl⟩:=rx; exact SeqAt.EqAt.int_str a t' b t
    | _=>exact absurd (show false = true from fx) Bool.false_ne_true
  | str a =>
    obtain ⟨t',rfl⟩:=ry
    cases x with
    | non=>cases rx; exact SeqAt.EqAt.str_none a t'
    | bl b=>cases rx; exact SeqAt.EqAt.str_bool a t' b
    | int b=>obtain ⟨t,rfl⟩:=rx; exact SeqAt.EqAt.str_int a t' b t
    | str b=>obtain ⟨t,rfl⟩:=rx; exact SeqAt.EqAt.str_str a t' b t
    | _=>exact absurd (show false = true from fx) Bool.false_ne_true
  | _=>exact absurd (show false = true from fy) Bool.false_ne_true
def eqU (x:V) (u:Value):Bool:=match u with
  | .none=>eqV .non x
  | .bool b=>eqV (.bl b) x
  | .int i _=>eqV (.int i) x
  | .str z _=>eqV (.str z) x
  | _=>false
theorem eqU_of {x y:V} {u:Value} (r:RelV y u) (f:flatV y = true):eqU x u = eqV y x:=by
  cases y with
  | non=>cases r; rfl
  | bl b=>cases r; rfl
  | int i=>obtain ⟨t,rfl⟩:=r; rfl
  | str z=>obtain ⟨t,rfl⟩:=r; rfl
  | _=>exact absurd (show false = true from f) Bool.false_ne_true
theorem any_eqU {x:V}:∀ {xs:List V} {us:List Value},Vals xs us->xs.all flatV = true->us.any (eqU x) = xs.any fun y=>eqV y x
  | _,_,.nil,_=>rfl
  | y :: xs,u :: us,.cons r t,f=>by
    rw [List.all_cons,Bool.and_eq_true] at f
    rw [List.any_cons,List.any_cons,eqU_of r f.1,any_eqU t f.2]
theorem mem_eqAt {A:Around} {s:Shared} {x:V} {v:Value} (rx:RelV x v) (fx:flatV x = true):∀ {xs:List V} {us:List Value},Vals xs us->xs.all flatV = true->∀ u ∈ us,SeqAt.EqAt A s u v (eqU x u)
  | _,_,.nil,_=>fun u hu=>by cases hu
  | y :: xs,u :: us,.cons r t,f=>fun u' hu=>by
    rw [List.all_cons,Bool.and_eq_true] at f
    rcases List.mem_cons.mp hu with rfl | hu
    · rw [eqU_of r f.1]; exact eqAt_V r rx f.1 fx
    · exact mem_eqAt rx fx t f.2 u' hu
def inV (x:V) (xs:List V):Bool:=xs.any fun y=>eqV y x
def rIn (K:PySem.W.Frag) (neg:Bool):R2:=fun x y H Q=>∃ p xs,y = .ref p /\ (SqL K H p xs ∨ SqT K H p xs) /\ flatV x = true /\ xs.all flatV = true /\ Q (.bl (if neg then !inV x xs else inV x xs)) H
theorem op_notIn_seq:OpR X (compareOp .NotIn) (rIn X.K true):=by
  intro pins s σ H x y v u Q I rx ry h
  obtain ⟨p,xs,rfl,hq,fx,fs,q⟩:=h
  cases ry
  rcases hq with hq | hq
  · obtain ⟨its,r,pl,hz⟩:=I.list hq
    refine SeqAt.notIn_listAt (eqU x) pl.isList (fun w hw=>mem_eqAt rx fx r fs w (by simpa using hw)) ⟨.bl _,H,I,rfl,?_⟩
    rw [show its.toArray.any (eqU x) = its.any (eqU x) by simp,any_eqU r fs]
    exact q
  · obtain ⟨its,r,pl,hz⟩:=I.tuple hq
    refine SeqAt.notIn_tupleAt (eqU x) pl (fun w hw=>mem_eqAt rx fx r fs w (by simpa using hw)) ⟨.bl _,H,I,rfl,?_⟩
    rw [show its.toArray.any (eqU x) = its.any (eqU x) by simp,any_eqU r fs]
    exact q
theorem call_len_seq:CallR X (.builtin "len") (fun xs H Q=>∃ p ys,xs = [.ref p] /\ (SqL X.K H p ys ∨ SqT X.K H p ys) /\ Q (.int ys.length) H):=by
  intro pins s σ H xs us Q I r h
  obtain ⟨p,ys,rfl,hq,q⟩:=h
  obtain ⟨u,rfl,rx⟩:=vals1 r
  cases rx
  have hn:=line63
  rcases hq with hq | hq
  · obtain ⟨its,r',pl,hz⟩:=I.list hq
    have hlen:=r'.length
    exact Calls.call_len_list pl.isList (by simp only [List.size_toArray] <;> omega) ⟨.int ys.length,H,I.tok _,⟨s.toks + 1,by rw [List.size_toArray,hlen]⟩,q⟩
  · obtain ⟨its,r',pl,hz⟩:=I.tuple hq
    have hlen:=r'.length
    exact len_tuple pl (by simp only [List.size_toArray] <;> omega) ⟨.int ys.length,H,I.tok _,⟨s.toks + 1,by rw [List.size_toArray,hlen]⟩,q⟩
theorem call_len_str:CallR X (.builtin "len") (fun xs H Q=>∃ z,xs = [.str z] /\ z.length ≤ sizeLine /\ Q (.int z.length) H):=by
  intro pins s σ H xs us Q I r h
  obtain ⟨z,rfl,hz,q⟩:=h
  obtain ⟨u,rfl,t,rfl⟩:=vals1 r
  have hn:=line63
  exact len_str (by omega) ⟨.int z.length,H,I.tok _,⟨_,rfl⟩,q⟩
theorem call_tuple_of:CallR X (.type "tuple") (fun xs H Q=>∃ p ys,xs = [.ref p] /\ ((SqL X.K H p ys /\ ∀ l,H l = none->Q (.ref l) (upd H l (.tup ys))) ∨ (SqT X.K H p ys /\ Q (.ref p) H))):=by
  intro pins s σ H xs us Q I r h
  obtain ⟨p,ys,rfl,h⟩:=h
  obtain ⟨u,rfl,rx⟩:=vals1 r
  cases rx
  rcases h with ⟨hq,q⟩ | ⟨hq,q⟩
  · obtain ⟨its,r',pl,hz⟩:=I.list hq
    have hlen:=r'.length
    refine call_tuple_list pl.isList (fun h' kp=>?_) (by simp only [List.size_toArray] <;> omega)
    have I1:Inv X pins σ H { s with heap:=h' }:=I.kept (t':=s.toks) kp
    have I2:Inv X pins σ (upd H h'.objs.size (.tup ys)) { s with heap:=h'.push { cls:=.type "tuple",data:=.seq its.toArray } } :=
      I1.laid (t':=s.toks) (fun b o e=>Heap.get?_push_of_some _ e) (Nat.le_refl _) (show ObjOk X.prog X.w _ _ _ (.tup ys) from ⟨hz,its,r',IsTup.new _ _⟩)
    exact ⟨.ref h'.objs.size,_,I2,rfl,q _ (I1.hok.fresh (Nat.le_refl _))⟩
  · obtain ⟨its,r',pl,hz⟩:=I.tuple hq
    exact call_tuple_same pl ⟨.ref p,H,I,rfl,q⟩
def tyV (K:PySem.W.Frag) (T:String) (x:V) (H:Hp):Prop:=match x with
  | .str _=>T = "str"
  | .int _=>T = "int"
  | .ref p=>(T = "list" /\ ∃ xs,SqL K H p xs) ∨ (T = "tuple" /\ ∃ o,K.lookup p = some o /\ o.cls = .type "tuple" /\ o.dict = none) ∨
      (T = "dict" /\ ((∃ kvs,H p = some (.dK kvs)) ∨ ∃ kvs,H p = some (.dT kvs))) ∨ (T = "set" /\ ∃ S n,H p = some (.set S n))
  | _=>False
theorem tyV_is {pins:List (Addr × Obj)} {σ:St} {H:Hp} {s:Shared} {T:String} {x:V} {v:Value} (I:Inv X pins σ H s) (r:RelV x v) (ty:tyV X.K T x H) :
    s.TypeIs v T /\ ∀ a,v = .ref a->∃ ob,s.heap.get? a = some ob /\ ob.dict = none:=by
  cases x with
  | str z =>
    obtain ⟨t,rfl⟩:=r
    cases (show T = "str" from ty)
    exact ⟨typeIs_str s z t,fun _ e=>nomatch e⟩
  | int i =>
    obtain ⟨t,rfl⟩:=r
    cases (show T = "int" from ty)
    exact ⟨typeIs_int s i t,fun _ e=>nomatch e⟩
  | ref p =>
    cases r
    rcases ty with ⟨rfl,xs,hq⟩ | ⟨rfl,o,hk,hc,hd⟩ | ⟨rfl,hk⟩ | ⟨rfl,S,n,hk⟩
    · obtain ⟨its,_,pl,_⟩:=I.list hq
      refine ⟨pl.isList.typeIs,fun a e=>?_⟩
      cases e
      obtain ⟨o,n,e,c,hd,_⟩:=pl
      exact ⟨o,e,hd⟩
    · refine ⟨⟨o,I.kIn p o hk,hc⟩,fun a e=>?_⟩
      cases e
      exact ⟨o,I.kIn _ o hk,hd⟩
    · have z:∃ o,s.heap.get? p = some o /\ o.ExactDict:=by
        rcases hk with ⟨kvs,hk⟩ | ⟨kvs,hk⟩
        · obtain ⟨_,_,_,_,o,_,_,e,ex,_⟩:=I.hok p _ hk
          exact ⟨o,e,ex⟩
        · obtain ⟨_,_,_,_,o,_,_,e,ex,_⟩:=I.hok p _ hk
          exact ⟨o,e,ex⟩
      obtain ⟨o,e,ex⟩:=z
      refine ⟨⟨o,e,ex.1⟩,fun a e2=>?_⟩
      cases e2
      exact ⟨o,e,ex.2.1⟩
    · obtain ⟨o,_,_,_,e,ex,_⟩:=I.hok p _ hk
      refine ⟨⟨o,e,ex.1⟩,fun a e2=>?_⟩
      cases e2
      exact ⟨o,e,ex.2.1⟩
  | _=>exact False.elim ty
def tBM (K:PySem.W.Frag) (T:String) (r:V->List V->Hp->VK->Prop) (to:TE) (t:TA):TE:=fun σ H Q=>to σ H fun x H1=>tyV K T x H1 /\ t σ H1 fun xs H2=>r x xs H2 Q
variable {o e:Expr} {es:List Expr} {to:TE} {t:TA} {name:Str} {apos cpos:Pos} {T id:String} {r:V->List V->Hp->VK->Prop}
theorem pe_bm (pa:PlainAttrs T) (slot:Slot T name id) (hty:typeOf (.builtin id) = pure (.type "method_descriptor")) (hm:MtR X id r) (ho:PE X o to) (ha:PA X (e :: es) t)
    (hbase:attributeBase o name X.env (eval o X.env) = eval o X.env:=by rfl)
    (hfew:((backTo cpos (starEach (e :: es) X.env)).all (fun x=>!x.1) && (backToKw cpos (keywordEach [] X.env)).all (fun x=>x.1.isSome)
      && decide ((e :: es).length + ([]:List Keyword).length + (if ([]:List Keyword).isEmpty then 0 else 1) < 30)) = true:=by rfl)
    (hline:(apos.endLine == cpos.line) = true:=by rfl) (hs:starEach (e :: es) X.env = (false,eval e X.env) :: starEach es X.env:=by rfl) (hplain:(backTo cpos (starEach es X.env)).any (·.1) = false:=by rfl) :
    PE X (.Call (.Attribute o name apos) (e :: es) [] cpos) (tBM X.K T r to t):=by
  intro pins s σ H Q I h
  refine wpAny_Call_method_late hbase hfew hline rfl (thn (ho pins s σ H _ I h) fun v s1 ⟨x,H1,I1,r1,ty,q1⟩=>?_)
  obtain ⟨h1,h2⟩:=tyV_is I1 r1 ty
  refine ⟨T,id,pa,slot,hty,h1,h2,?_⟩
  have hA:=ha cpos pins s1 σ H1 _ I1 q1
  rw [hs] at hA ⊢
  refine Calls.callWith_builtin (by show (false || (backTo cpos (starEach es X.env)).any (·.1)) = false; rw [hplain] <;> rfl) (Calls.evalArgs_plain ?_)
  exact thn hA fun us s2 ⟨vs,H2,I2,r2,q2⟩=>hm pins s2 σ H2 x vs v us Q I2 r1 r2 q2
/- xs.append(e),list.index on a module's tuple .. are MtR facts of 06m -/
end
open PySem PySem.Spec PyProof.Rows
def MtM (X:Cx) (id:String) (r:V->List V->Hp->VK->Prop):Prop :=
  ∀ (pins:List (Addr × Obj)) (s:Shared) (σ:St) (H:Hp) (x:V) (xs:List V) (v:Value) (us:List Value) (Q:VK),Inv X pins σ H s->RelV x v->Vals xs us->r x xs H Q →
    wpAny (model X.prog X.w) X.A (call (.builtin id) (v :: us)) (EP X pins σ Q) X.xe s
theorem Vals.one:∀ {x:V} {us:List Value},Vals [x] us->∃ u,us = [u] /\ RelV x u
  | _,_,.cons r .nil=>⟨_,rfl,r⟩
section
variable {X:Cx} {pins:List (Addr × Obj)} {σ:St} {H:Hp} {s:Shared} {l b:Addr} {xs ys zs:List V}
theorem Inv.lset {its its':List Value} {n:Nat} {f:Array Value->Array Value} {t':Nat} (I:Inv X pins σ H s) (hH:H l = some (.lst xs))
    (e:s.heap.get? l = some { cls:=.type "list",data:=.seq its.toArray n }) (hf:f its.toArray = its'.toArray) (hv:Vals ys its') (hz:ys.length ≤ sizeLine) :
    Inv X pins σ (upd H l (.lst ys)) { s with heap:=s.heap.update l (Obj.mapSeq f),toks:=t' }:=by
  have q:=PySem.IsL.update e f
  rw [hf] at q
  refine I.write (x:=l) (e:=l) (by rw [hH]; exact trivial) (.inl rfl) (fun b' u hb hu=>(Heap.get?_update_other s.heap (Obj.mapSeq f) (Ne.symm hb)).trans hu) ⟨_,q⟩ ?_
  exact ⟨hz,its',_,hv,q⟩
theorem Inv.lnew {its:List Value} {t':Nat} (I:Inv X pins σ H s) (hv:Vals ys its) (hz:ys.length ≤ sizeLine) :
    Inv X pins σ (upd H s.heap.objs.size (.lst ys)) { s with heap:=s.heap.push { cls:=.type "list",data:=.seq its.toArray },toks:=t' } :=
  I.laid (fun _ _ q=>Heap.get?_push_of_some _ q) (Nat.le_refl _) ⟨hz,its,0,hv,Heap.get?_push_size _ rfl⟩
theorem Inv.fresh (I:Inv X pins σ H s):H s.heap.objs.size = none:=I.hok.fresh (Nat.le_refl _)
theorem Inv.lstM (I:Inv X pins σ H s) (hH:H l = some (.lst xs)):xs.length ≤ sizeLine /\ ∃ (its:List Value) (n:Nat),Vals xs its /\ xs.length = its.length /\ s.heap.get? l = some { cls:=.type "list",data:=.seq its.toArray n }:=by
  obtain ⟨z,its,n,r,e⟩:=I.hok l _ hH
  exact ⟨z,its,n,r,r.length,e⟩
theorem notLongL {n:Nat} (h:n ≤ sizeLine):Builtin.List.listTooLong n = false:=by
  unfold Builtin.List.listTooLong
  exact decide_eq_false (by omega)
end
section
variable {X:Cx}
def rAppend:V->List V->Hp->VK->Prop:=fun x vs H Q=>∃ l xs y,x = .ref l /\ vs = [y] /\ H l = some (.lst xs) /\ xs.length < sizeLine /\ Q .non (upd H l (.lst (xs ++ [y])))
theorem mt_append:MtM X "list.append" rAppend:=by
  intro pins s σ H x vs v us Q I rx rv h
  obtain ⟨l,xs,y,rfl,rfl,hH,hz,q⟩:=h
  cases rx
  obtain ⟨u,rfl,ru⟩:=rv.one
  obtain ⟨z,its,n,r,hl,e⟩:=I.lstM hH
  refine call_meets F.slot_list_append ⟨_,e,rfl⟩ F.entry_list_append (F.args_list_append_2 _ _) (PySem.list_append l its.toArray n u (by rw [List.size_toArray]; omega)) ⟨e,?_⟩
  refine ⟨.non,_,I.lset (its':=its ++ [u]) hH e (by simp) (r.append (.cons ru .nil)) ?_,rfl,q⟩
  rw [List.length_append,List.length_singleton]
  omega
def rExtend:V->List V->Hp->VK->Prop:=fun x vs H Q=>∃ l b xs zs,x = .ref l /\ vs = [.ref b] /\ H l = some (.lst xs) /\ H b = some (.lst zs) /\ xs.length + zs.length ≤ sizeLine /\ Q .non (upd H l (.lst (xs ++ zs)))
theorem mt_extend:MtM X "list.extend" rExtend:=by
  intro pins s σ H x vs v us Q I rx rv h
  obtain ⟨l,b,xs,zs,rfl,rfl,hH,hB,hz,q⟩:=h
  cases rx
  obtain ⟨u,rfl,ru⟩:=rv.one
  cases ru
  obtain ⟨z,its,n,r,hl,e⟩:=I.lstM hH
  obtain ⟨z2,its2,n2,r2,hl2,e2⟩:=I.lstM hB
  have hsz:its.toArray.size + its2.toArray.size ≤ sizeLine:=by rw [List.size_toArray,List.size_toArray]; omega
  have hlong:¬ (!its.toArray.isEmpty && Builtin.List.listTooLong (its.toArray.size + its2.toArray.size)) = true:=by
    rw [notLongL hsz,Bool.and_false]
    exact Bool.false_ne_true
  refine call_meets F.slot_list_extend ⟨_,e,rfl⟩ F.entry_list_extend (F.args_list_extend_2 _ _)
    (AutoSeq1.list_extend_list_list_0 l its.toArray n b its2.toArray n2 hlong (by rw [List.size_toArray]; omega) (by omega)) ⟨e,e2,?_⟩
  refine ⟨.non,_,I.lset (its':=its ++ its2) hH e (by simp) (r.append r2) ?_,rfl,q⟩
  rw [List.length_append]
  omega
def rCat:R2:=fun x y H Q=>∃ l b xs zs,x = .ref l /\ y = .ref b /\ H l = some (.lst xs) /\ H b = some (.lst zs) /\ xs.length + zs.length ≤ sizeLine /\ ∀ p,H p = none->Q (.ref p) (upd H p (.lst (xs ++ zs)))
theorem op_cat:OpR X (binaryOp .Add) rCat:=by
  intro pins s σ H x y v u Q I rx ry h
  obtain ⟨l,b,xs,zs,rfl,rfl,hH,hB,hz,q⟩:=h
  cases rx
  cases ry
  obtain ⟨z,its,n,r,hl,e⟩:=I.lstM hH
  obtain ⟨z2,its2,n2,r2,hl2,e2⟩:=I.lstM hB
  refine PySem.P.add_list e e2 ?_ (by rw [List.size_toArray,List.size_toArray]; omega)
  have ea:its.toArray ++ its2.toArray = (its ++ its2).toArray:=by simp
  rw [ea]
  exact ⟨.ref _,_,I.lnew (t':=s.toks) (r.append r2) (by rw [List.length_append]; omega),rfl,q _ I.fresh⟩
end
section
variable {prog:Program} {w:World} {A:Around} {E:Value->Shared->Prop} {s:Shared}
set_option maxRecDepth 100000 in
end
end L2
namespace Att
open PySem PySem.W PySem.Calls PyProof.Rows
theorem ints_of_wellAll {P:Params} {h:Heap}:∀ (ns:List Int) (vs:List Value),WellAll P h vs (ns.map WData.int)->IntsAre vs ns:=by
  intro ns
  induction ns with
  | nil =>
    intro vs w
    rw [List.map_nil] at w
    cases w
    exact .nil
  | cons n ns ih =>
    intro vs w
    rw [List.map_cons] at w
    cases w with
    | cons a b =>
      cases a
      exact .cons _ _ (ih _ b)
theorem script_of {l:OpenLaw} {n:Nat} (hn:l.most = some n) {P:Params} {h:Heap} {args:List WData} {vals:List Value}
    (hpre:l.row.toRowW.claim.pre args = true) (hwl:WellAll P h vals args) :
    ∃ a vs ns,vals = [Value.ref a] /\ args = [WData.list (ns.map WData.int)] /\ h.get? a = some { cls:=.type "list",data:=.seq vs.toArray } /\ IntsAre vs ns /\ ns.length ≤ n:=by
  have hsh:WShape.hasAll [] args [.list .int] = true:=(pre_splitW hpre).1
  have hc:l.pre.holds [] { args:=args } = true:=(pre_splitW hpre).2
  obtain ⟨d,r,rfl,h1,h2⟩:=hasAllW_cons hsh
  obtain rfl:=hasAllW_nil h2
  obtain ⟨xs,rfl,h3⟩:=hasW_list h1
  obtain ⟨ns,rfl⟩:=items_int h3
  have hlen:ns.length ≤ n:=by
    unfold OpenLaw.pre at hc
    have h4:(WTm.not (.lt (.lit (.int (n:Int))) (.len (.arg 0)))).holds [] { args:=[.list (ns.map .int)] } = true:=by
      have h4:=(holds_andW hc).1
      rw [hn] at h4
      exact h4
    have h5:=condW_of h4 (w_not (w_lt w_lit (w_len_list (w_arg rfl))))
    rw [List.length_map] at h5
    refine Nat.le_of_not_lt fun q=>?_
    have q':(n:Int) < ((ns.length:Nat):Int):=by omega
    first
      | (rw [decide_eq_true q'] at h5; exact absurd h5 (by decide))
      | (simp at h5; omega)
  cases hwl with
  | cons w1 w2 =>
    cases w2
    cases w1 with
    | list ho hall=>exact ⟨_,_,ns,rfl,rfl,ho,ints_of_wellAll ns _ hall,hlen⟩
theorem post_true (l:OpenLaw) (args:List WData):l.row.toRowW.claim.post args (.bool true) args = true :=
  postW_of (r:=l.row.toRowW) (X:=(true == true))
    (show WShape.has [] (.bool true) .bool = true by first | rfl | decide | simp [WShape.has,WShape.arms,WShape.armsAll])
    (show (WTm.eq .res (.lit (.bool true))).value [] { args:=args,res:=some (.bool true),after:=args } = some (.bool (true == true)) from w_eq_bool (w_res rfl) w_lit) rfl
theorem attach_call {l:OpenLaw} {n:Nat} {q:Program} {loose:List Str} {XP:(Str->Option Value)->Heap->Prop} {YP:World->Heap->Prop} {d:DefRec}
    (hn:l.most = some n) (hdf:d.params.defaults = [])
    (call:∀ (w:World) (s₀ s₁:Shared) (mg mb:Str->Option Value) (fa:Addr) (o:Obj) (pm cd doc:Value) (a:Addr) (vs:List Value) (ns:List Int),
      Ground q loose [] XP w s₀ mg mb s₁.heap->YP w s₁.heap →
      s₁.heap.get? fa = some o->o.data = .func (docDef d.name d.params d.body d.scope pm cd doc)->s₁.heap.CodeRec cd d.name->mg d.name = some (.ref fa) →
      s₁.heap.get? a = some { cls:=.type "list",data:=.seq vs.toArray }->IntsAre vs ns->ns.length ≤ n->s₁.gens = #[] →
      codeAny (model l.prog w) callerA (.call (.ref fa) ⟨[.ref a],[]⟩) (fun r s'=>r = .ok (.ret (.bool true)) /\ OldK s₁.heap s'.heap /\ s'.os = s₁.os /\ AllBare s'.gens) s₁) :
    WalkO q loose XP YP l.row.toRowW d [] (fun f vs=>PySem.call f vs):=by
  intro w s₀ s₁ mg mb G Y fa o pm cd doc dV kV ho hd hcd hD hmg hg args vals as hpre hlay hrd hwl hlo
  obtain rfl:dV = .none:=Dflts.none hD hdf
  obtain rfl:kV = .none:=Dflts.noKw hD
  obtain ⟨a,vs,ns,rfl,rfl,hobj,hints,hlen⟩:=script_of hn hpre hwl
  refine enter_call (codeAny_mono (call w s₀ s₁ mg mb fa o pm cd doc a vs ns G Y ho (fd_plain hd) hcd hmg hobj hints hlen hg) fun r s' hq=>?_)
  obtain ⟨rfl,h2,h3,h4⟩:=hq
  exact ⟨.inl ⟨.bool true,.bool true,[],rfl,fun _=>rfl,.bool true,post_true l _,fun _=>⟨List.Pairwise.nil,fun _ hm=>(nomatch hm)⟩⟩,h2,h3,h4⟩
section
variable {prog:Program} {w:World} {A:Around} {E:Value->Shared->Prop} {s:Shared} {K:Frag}
def ledger (h:Heap) (L d:Addr):List (Addr × Obj):=(List.range h.objs.size).filterMap fun a=>if a = L ∨ a = d then none else (h.get? a).map fun o=>(a,o)
end
end Att
namespace L2
open PySem PySem.Spec PyProof.Rows
theorem vals_ints:∀ {vs:List Value} {ns:List Int},IntsAre vs ns->Vals (ns.map V.int) vs
  | _,_,.nil=>.nil
  | _,_,.cons n t h=>.cons ⟨t,rfl⟩ (vals_ints h)
def Only (H:Hp):Prop:=∀ b,H b = none ∨ ∃ o xs,H b = some (.frz o (.lst xs))
theorem law_call {P:Program} {w:World} {K:PySem.W.Frag} {mg mb:Str->Option Value} {CX:CXT} {k:Nat} {fa a:Addr} {fd:FuncData} {x:Str} {sp:Sp} {s₁:Shared} {vs:List Value} {ns:List Int}
    (KX:K.In s₁.heap) (hns:s₁.heap.Ns mainGlobals mg) (hb:s₁.heap.Ns builtinsNs mb) (hbb:∀ x:Str,x ≠ "__name__"->mb x = bootBuiltins x) (hlim:s₁.heap.NoLimit) (hg:s₁.gens = #[])
    (ha:s₁.heap.get? a = some { cls:=.type "list",data:=.seq vs.toArray }) (hi:IntsAre vs ns) (hl:ns.length ≤ sizeLine) (hr:Room k callerA)
    (F:∀ base:Heap,K.In base->base.Ns mainGlobals mg->FnOk P w K mg base CX k fa fd [x] sp) (hbind:∀ (s:Shared) (u:Value),BindsTo s fd ⟨[u],[]⟩ [(x,u)])
    (hsp:∀ H:Hp,Only H->SqL K H a (ns.map V.int)->sp [.ref a] H (fun v _=>v = .bl true) fun _ _ _=>False)
    (hCX:∀ H e s',CX [] H s₁ (fun _ _ _=>False) e s'->False) :
    codeAny (model P w) callerA (.call (.ref fa) ⟨[.ref a],[]⟩) (fun r s'=>r = .ok (.ret (.bool true)) /\ OldK s₁.heap s'.heap /\ s'.os = s₁.os /\ AllBare s'.gens) s₁:=by
  have rv:=vals_ints hi
  have lenV:=hi.length
  have core:∀ H:Hp,Only H->SqL K H a (ns.map V.int)->HOk P w H s₁.heap->(∀ b,H b ≠ none->b = a)->(H a ≠ none->K.lookup a = none) →
      codeAny (model P w) callerA (.call (.ref fa) ⟨[.ref a],[]⟩) (fun r s'=>r = .ok (.ret (.bool true)) /\ OldK s₁.heap s'.heap /\ s'.os = s₁.os /\ AllBare s'.gens) s₁:=by
    intro H hO hS hok hA hK
    have base_of:∀ {b:Addr} {o:Obj},s₁.heap.get? b = some o->H b = none->(hidT s₁.heap H).get? b = some o:=fun e n=>hidT_get e n
    have noA:∀ {b:Addr} {o:Obj} {es:Array DictEntry} {ep:Nat},s₁.heap.get? b = some o->o.data = .dict es ep->H b = none:=fun {b o es ep} e d=>by
      cases q:H b with
      | none=>rfl
      | some u =>
        have e':b = a:=hA b (by rw [q]; simp)
        subst e'
        rw [ha] at e; cases e
        have d':Data.seq vs.toArray _ = Data.dict es ep:=d
        cases d'
    have nsK:∀ {b:Addr} {m:Str->Option Value},s₁.heap.Ns b m->(hidT s₁.heap H).Ns b m:=fun {b m} ⟨o,es,ep,e,d,r⟩=>⟨o,es,ep,base_of e (noA e d),d,r⟩
    have hKb:K.In (hidT s₁.heap H):=fun b o e=>base_of (KX b o e) (by
      cases q:H b with
      | none=>rfl
      | some u =>
        have e':b = a:=hA b (by rw [q]; simp)
        subst e'
        rw [hK (by rw [q]; simp)] at e; cases e)
    have hM:Mod K mg (hidT s₁.heap H):=⟨hKb,nsK hns,⟨mb,nsK hb,hbb⟩,let ⟨mc,h1,h2⟩:=hlim; ⟨mc,nsK h1,h2⟩⟩
    have e0:Env0 P w K mg (hidT s₁.heap H) callerA [] s₁ H:=⟨rfl,hM,fun b o e=>of_hidT e,Nat.le_of_eq (hidT_size _ _),trivial,fun b hb=>absurd (show b ∈ ([]:List Addr) from hb) (by simp),hok,.of_eq hg⟩
    refine codeAny_mono ((F _ hKb (nsK hns)).run callerA [] s₁ H ⟨[.ref a],[]⟩ [.ref a] [.ref a] _ _ hr e0 (hbind s₁ (.ref a)) (.cons rfl .nil) (hsp H hO hS)) fun r s' h=>?_
    cases r with
    | error e=>exact (hCX H e s' h).elim
    | ok fl =>
      cases fl with
      | next=>exact False.elim h
      | brk=>exact False.elim h
      | cont=>exact False.elim h
      | ret u =>
        obtain ⟨v,H',os,bare,un,hok',r',q⟩:=h
        have q':v = .bl true:=q
        subst q'
        obtain rfl:u = Value.bool true:=r'
        refine ⟨rfl,OldK.of_keep fun b o e=>?_,os,bare⟩
        cases q:H b with
        | none=>exact un.keep b o e q (by intro z; exact absurd (show b ∈ ([]:List Addr) from z) (by simp)) (by simp)
        | some u =>
          rcases hO b with z | ⟨ob,xs,z⟩
          · rw [q] at z; cases z
          · have z2:=un.frzs b ob _ z
            obtain ⟨e1,_⟩:=hok b _ z
            obtain ⟨e2,_⟩:=hok' b _ z2
            rw [e] at e1; cases e1
            exact e2
  cases hk:K.lookup a with
  | some o =>
    have e:=KX a o hk
    rw [ha] at e
    cases e
    refine core (fun _=>none) (fun _=>.inl rfl) (.inr ⟨_,vs.toArray,_,hk,rfl,rfl,rfl,by rw [List.size_toArray,lenV]; exact hl,by simpa using rv⟩) (fun b u z=>by have z':(none:Option HO) = some u:=z; cases z') (fun b z=>absurd rfl z) fun z=>absurd rfl z
  | none =>
    refine core (fun b=>if b = a then some (.frz { cls:=.type "list",data:=.seq vs.toArray } (.lst (ns.map V.int))) else none) (fun b=>?_) (.inl (.inr ⟨{ cls:=.type "list",data:=.seq vs.toArray },if_pos rfl⟩)) (fun b u z=>?_) (fun b z=>?_) fun _=>hk
    · by_cases hb:b = a
      · exact .inr ⟨_,_,if_pos hb⟩
      · exact .inl (if_neg hb)
    · by_cases hb:b = a
      · have z':=(if_pos hb).symm.trans z
        cases z'
        subst hb
        exact ⟨ha,by rw [List.length_map]; exact hl,vs,_,rv,ha⟩
      · have z':=(if_neg hb).symm.trans z
        cases z'
    · by_cases hb:b = a
      · exact hb
      · exact absurd (if_neg hb) z
open PySem PySem.Spec PyProof.Rows
abbrev KOf {K:PySem.W.Frag} {h:Heap} (_:K.In h):PySem.W.Frag:=K
theorem walk_of {l:PySem.W.OpenLaw} {n k:Nat} {q:Program} {loose:List Str} {XP:(Str->Option Value)->Heap->Prop} {YP:World->Heap->Prop} {d:DefRec} {K:Params->PySem.W.Frag} {CX:World->CXT} {sp:World->Sp} {x:Str}
    (hn:l.most = some n) (hn2:n ≤ sizeLine) (hdf:d.params.defaults = []) (hr:Room k callerA)
    (hY:∀ (w:World) (h:Heap),YP w h->(K w.params).In h)
    (F:∀ (w:World) (mg:Str->Option Value) (fa:Addr) (h:Heap),(K w.params).In h->h.Ns mainGlobals mg->mg d.name = some (.ref fa) →
      ∃ fd:FuncData,(∀ (s:Shared) (u:Value),BindsTo s fd ⟨[u],[]⟩ [(x,u)]) ∧
        ∀ base:Heap,(K w.params).In base->base.Ns mainGlobals mg->FnOk l.prog w (K w.params) mg base (CX w) k fa fd [x] (sp w))
    (hsp:∀ (w:World) (H:Hp) (a:Addr) (ns:List Int),ns.length ≤ n->Only H->SqL (K w.params) H a (ns.map V.int)->sp w [.ref a] H (fun v _=>v = .bl true) fun _ _ _=>False)
    (hCX:∀ (w:World) (H:Hp) (s:Shared) (e:Value) (s':Shared),CX w [] H s (fun _ _ _=>False) e s'->False) :
    PySem.W.WalkO q loose XP YP l.row.toRowW d [] (fun f vs=>PySem.call f vs):=by
  refine Att.attach_call hn hdf fun w s₀ s₁ mg mb fa o pm cd doc a vs ns G Y ho hd hcd hmg hobj hints hlen hg=>?_
  have KX:=hY w _ Y
  obtain ⟨fd,hb,hF⟩:=F w mg fa _ KX G.T.g hmg
  exact law_call KX G.T.g G.T.b G.T.builtins G.T.nolimit hg hobj hints (Nat.le_trans hlen hn2) hr hF hb (fun H hO hS=>hsp w H a ns hlen hO hS) fun H e s'=>hCX w H s₁ e s'
end L2
/- THE LAST THEOREM (shape; LID,My.* are yours):
   My.Adr: a structure of the addresses that your layer names (classes,functions); My.Txt K t: a structure (Prop) of the equations over K;
   My.txt_mk:{K} {implicit addresses ..} (e1:nsIn K mainGlobals "law" = some (some (.ref f))) (e2:K.lookup f = some ⟨oc,od,.func (fnOf "law" "law" params body scope dV kV doc pm an cdv ct),sl⟩) (e3:codeIn K cdv "law" = true) ..:∃ t,My.Txt K t
set_option maxRecDepth 100000 in
set_option maxHeartbeats 0 in
theorem PySem.Challenge.cw_LID_holds : PySem.Challenge.rw_LID.Holds := by
  w_on; o_law; k_head; (case hw=>w_witness2)
  k_fill
  refine L2.walk_of (l:=PySem.Challenge.rw_LID) (n:=63) (k:=40) (x:="script") (CX:=fun w=>..) (sp:=fun _=>My.sp_law) rfl (by decide) rfl ⟨rfl,by decide,by decide⟩ (fun w h Y=>PySem.W.kIn_of Y) ?F ?S ?C
  case F =>
    intro w mg fa h KX G hmg
    have T:∃ t,My.Txt (L2.KOf KX) t:=by
      dsimp only [L2.KOf]                          -- K must stand as «<heap const> w.params» for k_is
      refine' My.txt_mk ?e1 ?e2 ?e3 ..
      (case e1=>PySem.W.k_is)                    -- in the order: a name -> its address -> its object -> its parts
      (case e2=>PySem.W.k_is)
      ..
    obtain ⟨t,T⟩:=T
    have e0:=hmg.symm.trans (PySem.W.mg_of KX G T.law)
    cases e0                                       -- fa is the law's own address
    exact ⟨_,fun s u=>.of_eq rfl,fun base kb nb=>My.law_fn T kb nb⟩     -- if «.of_eq rfl» comes too early: refine' ⟨_,?b,fun base kb nb=>My.law_fn T kb nb⟩; exact fun s u=>.of_eq rfl
  case S=>exact fun w H a ns hl hO hS=>..
  case C=>exact ..
(the tactic k_is has no namespace: write k_is) -/
namespace L2
open PySem PySem.Spec PyProof.Rows
def inClass (s:Stmt) (j:Nat):Stmt:=match s with
  | .ClassDef _ _ _ body _ _ _ _ _ _ _=>body.getD j (.Pass ⟨0,0,0,0⟩)
  | _=>.Pass ⟨0,0,0,0⟩
def defArgs (s:Stmt):Arguments:=match s with
  | .FunctionDef _ a _ _ _ _ _ _ _ _=>a
  | _=>{ posonlyargs:=[],args:=[],vararg:=none,kwonlyargs:=[],kw_defaults:=[],kwarg:=none,defaults:=[] }
def defBody (s:Stmt):List Stmt:=match s with
  | .FunctionDef _ _ b _ _ _ _ _ _ _=>b
  | _=>[]
def defScope (s:Stmt):Scope:=match s with
  | .FunctionDef _ _ _ _ _ _ sc _ _ _=>sc
  | _=>{ kind:=.function,names:=[],isGenerator:=false,isCoroutine:=false }
abbrev E0:XK:=fun _ _ _=>False
structure Fun (K:PySem.W.Frag) (x qual:Str) (st:Stmt) (f:Addr) (fd:FuncData):Prop where
  ex:∃ (oc:Value) (od:Option Addr) (kV doc pm:Value) (an:Option Addr) (cdv ct:Value) (osl:Array (Option Value)),
    fd = PySem.W.fnOf x qual (defArgs st) (defBody st) (defScope st) .none kV doc pm an cdv ct /\ K.lookup f = some ⟨oc,od,.func fd,osl⟩ /\ PySem.W.codeIn K cdv qual = true
  kp:PySem.W.keepIn K (.ref f) = true
section
variable {P:Program} {w:World} {K:PySem.W.Frag} {mg:Str->Option Value} {base:Heap}
theorem Fun.binds {x qual:Str} {st:Stmt} {f:Addr} {fd:FuncData} {ps:List Str} (F:Fun K x qual st f fd)
    (h:∀ (kV doc pm:Value) (an:Option Addr) (cdv ct:Value) (us:List Value),us.length = ps.length->bindArgs (PySem.W.fnOf x qual (defArgs st) (defBody st) (defScope st) .none kV doc pm an cdv ct) ⟨us,[]⟩ = pure (ps.zip us)):Binds K fd ps []:=by
  obtain ⟨oc,od,kV,doc,pm,an,cdv,ct,osl,rfl,lk,hcd⟩:=F.ex
  exact .all (h kV doc pm an cdv ct)
theorem fun_mk {x qual:Str} {st:Stmt} {f:Addr} {oc:Value} {od an:Option Addr} {osl:Array (Option Value)} {kV doc pm cdv ct:Value} (l:K.lookup f = some ⟨oc,od,.func (PySem.W.fnOf x qual (defArgs st) (defBody st) (defScope st) .none kV doc pm an cdv ct),osl⟩)
    (c:PySem.W.codeIn K cdv qual = true) (k:PySem.W.keepIn K (.ref f) = true):Fun K x qual st f (PySem.W.fnOf x qual (defArgs st) (defBody st) (defScope st) .none kV doc pm an cdv ct):=⟨⟨oc,od,kV,doc,pm,an,cdv,ct,osl,rfl,l,c⟩,k⟩
end
theorem small1000 {n:Nat} (h:n ≤ 1000):n < sizeLine:=Nat.lt_of_le_of_lt h (by decide)
section
variable {X:Cx}
theorem pv (i:Nat) {x:Str} {pos:Pos} (hN:X.N[i]? = some x:=by rfl) (hv:Vis X.env.scope x:=by first | exact Or.inl rfl | exact Or.inr (Or.inl rfl) | exact Or.inr (Or.inr rfl)) (hd:(x == ("__debug__":Str)) = false:=by decide)
    (hcd:(x == ("__classdict__":Str)) = false:=by decide):PE X (.Name x pos) (tVar i):=pe_var hN hv hd hcd
end
theorem iteF {A B:Prop} (h:B):if false = true then A else B:=by
  rw [if_neg Bool.false_ne_true]
  exact h
theorem iteT {A B:Prop} (h:A):if true = true then A else B:=by
  rw [if_pos rfl]
  exact h
theorem ite2 {c A B:Prop} [Decidable c] (h1:c->A) (h2:¬ c->B):if c then A else B:=by
  by_cases h:c
  · rw [if_pos h]
    exact h1 h
  · rw [if_neg h]
    exact h2 h
theorem iteNS {c A B:Prop} [Decidable c] (hc:c) (h:B):if (!decide c) = true then A else B:=by
  rw [decide_eq_true hc]
  exact iteF h
def Same (H H':Hp):Prop:=∀ b o,H b = some o->H' b = some o
theorem Same.refl (H:Hp):Same H H:=fun _ _ h=>h
theorem Same.trans {H H1 H2:Hp} (a:Same H H1) (b:Same H1 H2):Same H H2:=fun c o h=>b c o (a c o h)
theorem Same.free {H H':Hp} (e:Same H H') {l:Addr} (h:H' l = Option.none):H l = Option.none:=by
  cases q:H l with
  | none=>rfl
  | some o =>
    rw [e l o q] at h
    cases h
theorem Same.seq {K:PySem.W.Frag} {H H':Hp} {a:Addr} {xs:List V} (e:Same H H') (h:SqL K H a xs):SqL K H' a xs:=by
  rcases h with (h | ⟨o,h⟩) | h
  · exact .inl (.inl (e _ _ h))
  · exact .inl (.inr ⟨o,e _ _ h⟩)
  · exact .inr h
end L2
set_option maxHeartbeats 4000000
namespace L2
open PySem PySem.Spec PyProof.Rows
section
variable {κ:Type} [DecidableEq κ]
def valV (kvs:List (κ × V)) (k:κ):Option V:=(kvs.find? fun kv=>decide (kv.1 = k)).map (·.2)
theorem valV_pos {p:κ × V} {r:List (κ × V)} {k:κ} (e:p.1 = k):valV (p :: r) k = some p.2:=by simp [valV,List.find?_cons,e]
theorem valV_neg {p:κ × V} {r:List (κ × V)} {k:κ} (e:¬ p.1 = k):valV (p :: r) k = valV r k:=by simp [valV,List.find?_cons,e]
theorem RelO.isSome_eq {o:Option V} {u:Option Value} (r:RelO o u):o.isSome = u.isSome:=by
  cases o with
  | none=>cases u with
    | none=>rfl
    | some _=>exact (show False from r).elim
  | some _=>cases u with
    | none=>exact (show False from r).elim
    | some _=>rfl
theorem KV.val {kvs:List (κ × V)} {vs:List (κ × Value)} (r:KV kvs vs) (k:κ):RelO (valV kvs k) (valueAt vs k):=by
  unfold KV at r
  induction r with
  | nil=>exact True.intro
  | @cons p q ps qs h t ih =>
    obtain ⟨h1,h2⟩:=h
    by_cases e:p.1 = k
    · have e':q.1 = k:=h1.symm.trans e
      have b:valueAt (q :: qs) k = some q.2:=by simp [valueAt,List.find?_cons,e']
      rw [valV_pos e,b]; exact h2
    · have e':¬ q.1 = k:=fun z=>e (h1.trans z)
      have b:valueAt (q :: qs) k = valueAt qs k:=by simp [valueAt,List.find?_cons,e']
      rw [valV_neg e,b]; exact ih
end
theorem kV_is {P:Program} {w:World} {k:Key} {u:Value} (r:RelV (kV k) u):(mixKind P w).is k u = true:=by
  cases k with
  | inl i=>obtain ⟨t,e⟩:=(show ∃ t,u = Value.int i t from r); subst e; exact mixKind_int P w i t
  | inr x=>obtain ⟨t,e⟩:=(show ∃ t,u = Value.str x t from r); subst e; exact mixKind_str P w x t
section
variable {P:Program} {w:World} {H:Hp} {h:Heap} {a:Addr}
theorem rd_of {u:HO} (ok:HOk P w H h) (e:Rd H a u):ObjOk P w H h a u:=e.ok ok
end
def NoSl (i:Expr):Prop:=∀ ov iv,subscripted i false ov iv = operate [ov,iv] (getItem ov iv)
theorem subD_of {prog:Program} {w:World} {A:Around} {E:Value->Shared->Prop} {s:Shared} {env:Env} {value slice:Expr} {pos:Pos} {T id:String} {Q:Value->Shared->Prop}
    (hl:typeLookup (.type T) "__getitem__" = pure (some (.builtin id))) (hs:NoSl slice)
    (h:wpAny (model prog w) A (eval value env) (fun o s₁=>wpAny (model prog w) A (eval slice env) (fun i s₂=>s₂.TypeIs o T /\ wpAny (model prog w) A (getItem o i) Q E s₂) E s₁) E s) :
    wpAny (model prog w) A (eval (.Subscript value slice pos) env) Q E s:=by
  refine Subscript_ (wpAny_mono h (fun o s₁ h₁=>wpAny_mono h₁ (fun i s₂ h₂=>?_) fun _ _ x=>x) fun _ _ x=>x)
  obtain ⟨hT,h₂⟩:=h₂
  unfold subscriptTail
  refine wpAny_bind ?_
  rw [getitemInPython_of_ne hT.not_modules]
  refine wpAny_bind (wpAny_specialOf hT hl ?_)
  have fin:wpAny (model prog w) A (subscripted slice false o i) (fun r s₃=>wpAny (model prog w) A (letTemporaryGo value o r >>= fun _=>pure r) Q E s₃) E s₂:=by
    rw [hs o i]
    exact wpAny_operating (wpAny_mono h₂ (fun r s₃ h₃=>wpAny_bind (wpAny_letTemporaryGo (wpAny_pure h₃))) fun _ _ x=>x)
  first
    | exact wpAny_pure (wpAny_bind fin)
    | exact wpAny_bind (wpAny_pure (wpAny_bind fin))
    | exact wpAny_bind fin
end L2
namespace Chk
def T (n:Nat):Nat:=n * 128 % 2 ^ 64 + n / 2 ^ 57
def D (n:Nat):Nat:=if n * 2 ≥ 2 ^ 64 then n * 2 - 2 ^ 64 + 1 else n * 2
theorem xor_add:∀ a b:Nat,(a ^^^ b) + 2 * (a &&& b) = a + b:=by
  intro a
  induction a using Nat.strongRecOn with
  | ind a ih =>
    intro b
    by_cases ha:a = 0
    · subst ha; simp
    · have h:=ih (a / 2) (by omega) (b / 2)
      have e1:(a ^^^ b) / 2 = a / 2 ^^^ b / 2:=Nat.xor_div_two
      have e2:(a &&& b) / 2 = a / 2 &&& b / 2:=Nat.and_div_two
      have m0:(a ^^^ b) % 2 = (a % 2) ^^^ (b % 2):=by
        have:=Nat.xor_mod_two_pow (a:=a) (b:=b) (n:=1)
        simpa using this
      have m1:(a ^^^ b) % 2 = (a + b) % 2:=by
        rw [m0]
        rcases Nat.mod_two_eq_zero_or_one a with h1 | h1 <;> rcases Nat.mod_two_eq_zero_or_one b with h2 | h2 <;> rw [h1,h2,Nat.add_mod,h1,h2] <;> rfl
      have m2:(a &&& b) % 2 = (a % 2) &&& (b % 2):=by
        have:=Nat.and_mod_two_pow (a:=a) (b:=b) (n:=1)
        simpa using this
      have m3:(a % 2) &&& (b % 2) = if a % 2 = 1 /\ b % 2 = 1 then 1 else 0:=by
        rcases Nat.mod_two_eq_zero_or_one a with h1 | h1 <;> rcases Nat.mod_two_eq_zero_or_one b with h2 | h2 <;> rw [h1,h2] <;> rfl
      rw [m3] at m2
      rw [← e1,← e2] at h
      split at m2 <;> omega
def stp (c n:Nat):Nat:=T c ^^^ n
def chk (l:List Nat):Nat:=l.foldl stp 0
end Chk
namespace L2
open PySem PySem.Spec PyProof.Rows
section
variable {X:Cx}
theorem op_fdivB:OpR X (binaryOp .FloorDiv) (rI (fun _ j=>0 < j /\ j.natAbs.log2 < 9000) fun i j=>.int (i / j)):=opI fun i j _ _ _ _ _ hc q=>by
  have h1:(0:Int) < j:=hc.1
  exact floordiv_int (by omega) (by rw [Int.fdiv_eq_ediv_of_nonneg i (by omega)]; exact q) (.inl (PyProof.noPylong_of_log2 hc.2))
theorem pe_powc {a b n:Int} {j1 j2 p1 p2 pos} (h:0 ≤ b /\ b ≤ 1000000 /\ a.natAbs < 2 ^ 64:=by decide) (e:a ^ b.toNat = n:=by first | rfl | decide +kernel) :
    PE X (.BinOp (.Constant (.int a) j1 p1) .Pow (.Constant (.int b) j2 p2) pos) (tC (.int n)):=fun pins s σ H Q I hw =>
  pe_op op_pow pe_int pe_int pins s σ H Q I ⟨_,_,rfl,rfl,h,by subst e; exact hw⟩
def clsV:V->Option Value
  | .ty n=>some (.type n)
  | .ref a=>some (.ref a)
  | _=>none
theorem call_isinst:CallR X (.builtin "isinstance") (fun xs H Q=>∃ x c cv t b,xs = [x,c] /\ clsV c = some cv /\ TyOf X.K H x t /\ PySem.W.kitOne X.K t cv = some b /\ Q (.bl b) H):=by
  rintro pins s σ H xs us Q I r ⟨x,c,cv,t,b,rfl,hc,ty,e,q⟩
  obtain ⟨u,v,rfl,ru,rv⟩:=vals2 r
  have hv:v = cv:=by
    cases c <;> simp [clsV] at hc <;> subst hc <;> exact rv
  subst hv
  exact isinst_ok I ru ty e fun tk=>⟨.bl b,H,I.tok tk,rfl,q⟩
end
theorem iteY {c A B:Prop} [Decidable c] (hc:c) (h:A):if decide c = true then A else B:=by
  rw [if_pos (decide_eq_true hc)]; exact h
theorem iteN {c A B:Prop} [Decidable c] (hc:¬ c) (h:B):if decide c = true then A else B:=by
  rw [if_neg (by rw [decide_eq_false hc]; decide)]; exact h
open PySem
def clos (cells:List (Str × Addr)):List (Str × NameKind)->List (Str × Addr)->List (Str × Addr)
  | [],acc=>acc
  | (n,k) :: r,acc=>clos cells r (if k == .free then (n,(cells.lookup n).getD 0) :: acc else acc)
theorem clos_loop {env:Env}:∀ (l:List (Str × NameKind)) (acc:List (Str × Addr)),(∀ y ∈ l,y.2 = .free->∃ c,env.cells.lookup y.1 = some c) →
    (forIn l acc fun (x:Str × NameKind) (cs:List (Str × Addr))=>if (x.2 == NameKind.free) = true then do let a ← cellOf env x.1; pure (ForInStep.yield ((x.1,a) :: cs)) else pure (ForInStep.yield cs):Sem (List (Str × Addr))) = pure (clos env.cells l acc)
  | [],acc,_=>by simp only [List.forIn_nil]; rfl
  | (n,k) :: r,acc,h=>by
    simp only [List.forIn_cons]
    cases hk:(k == NameKind.free) with
    | false =>
      simp only [Bool.false_eq_true,if_false]
      have ih:=clos_loop (env:=env) r acc fun y hy=>h y (List.mem_cons_of_mem _ hy)
      simp only [pure_bind,ih,clos,hk,Bool.false_eq_true,if_false]
    | true =>
      obtain ⟨c,hc⟩:=h (n,k) List.mem_cons_self (by simpa using hk)
      have e:cellOf env n = pure c:=by
        unfold cellOf; rw [show env.cells.lookup n = some c from hc]
      simp only [if_true,e,pure_bind]
      have ih:=clos_loop (env:=env) r ((n,c) :: acc) fun y hy=>h y (List.mem_cons_of_mem _ hy)
      rw [ih]
      simp only [clos,hk,if_true]
      rw [show env.cells.lookup n = some c from hc]; rfl
theorem closureFor_eq {scope:Scope} {env:Env} (h:∀ y ∈ scope.names,y.2 = .free->∃ c,env.cells.lookup y.1 = some c):closureFor scope env = pure (clos env.cells scope.names []):=by
  have:=clos_loop (env:=env) scope.names [] h
  unfold closureFor
  simp only [bind_pure]
  exact this
theorem clos_sub {cells:List (Str × Addr)}:∀ {names:List (Str × NameKind)} {acc:List (Str × Addr)},(∀ y ∈ names,y.2 = .free->∃ c,cells.lookup y.1 = some c)->(∀ x c,acc.lookup x = some c->cells.lookup x = some c) →
    ∀ x c,(clos cells names acc).lookup x = some c->cells.lookup x = some c
  | [],_,_,ha,x,c,h=>ha x c h
  | (n,k) :: r,acc,hn,ha,x,c,h=>by
    refine clos_sub (names:=r) (fun y hy=>hn y (List.mem_cons_of_mem _ hy)) ?_ x c h
    intro x c h
    split at h
    · rename_i hk
      obtain ⟨d,hd⟩:=hn (n,k) List.mem_cons_self (by simpa using hk)
      rw [show cells.lookup n = some d from hd,List.lookup_cons] at h
      split at h
      · rename_i e
        rw [eq_of_beq e,show cells.lookup n = some d from hd]; exact h
      · exact ha x c h
    · exact ha x c h
theorem clos_has {cells:List (Str × Addr)}:∀ {names:List (Str × NameKind)} {acc:List (Str × Addr)} {x:Str},((x,NameKind.free) ∈ names ∨ ∃ c,acc.lookup x = some c)->∃ c,(clos cells names acc).lookup x = some c
  | [],acc,x,h=>by
    rcases h with h | h
    · cases h
    · exact h
  | (n,k) :: r,acc,x,h=>by
    refine clos_has (names:=r) ?_
    rcases h with h | ⟨c,h⟩
    · rcases List.mem_cons.mp h with h | h
      · injection h with h1 h2
        subst h1; subst h2
        exact .inr ⟨(cells.lookup x).getD 0,by simp [List.lookup_cons]⟩
      · exact .inl h
    · right
      split
      · rw [List.lookup_cons]
        split
        · exact ⟨_,rfl⟩
        · exact ⟨c,h⟩
      · exact ⟨c,h⟩
theorem mem_of_lookup {α:Type} {x:Str} {a:α}:∀ {l:List (Str × α)},l.lookup x = some a->(x,a) ∈ l
  | [],h=>by simp at h
  | (n,k) :: r,h=>by
    rw [List.lookup_cons] at h
    split at h
    · rename_i e
      injection h with h
      rw [eq_of_beq e,h]; exact List.mem_cons_self
    · exact List.mem_cons_of_mem _ (mem_of_lookup h)
theorem lookup_relabel {env:Env} {x:Str}:∀ (names:List (Str × NameKind)),
    (names.map fun (n,k)=>if (k == NameKind.free && env.scope.kind == .function && env.kindOf n == some .cell) then (n,NameKind.cell) else (n,k)).lookup x =
      (names.lookup x).map fun k=>if (k == NameKind.free && env.scope.kind == .function && env.kindOf x == some .cell) then NameKind.cell else k
  | []=>rfl
  | (n,k) :: r=>by
    have ih:=lookup_relabel (env:=env) (x:=x) r
    simp only [List.map_cons]
    by_cases e:x = n
    · subst e
      split <;> rename_i hc
      · simp only [List.lookup_cons,beq_self_eq_true,Option.map_some,hc,if_true]
      · simp only [List.lookup_cons,beq_self_eq_true,Option.map_some]
        rw [if_neg hc]
    · have e':(x == n) = false:=by simpa using e
      split <;> simp only [List.lookup_cons,e'] <;> exact ih
open PySem PySem.Spec PyProof.Rows
theorem anelt {a b n:Nat} (h1:a < n) (h2:n ≤ b):a ≠ b:=by omega
def Cx.comp (X:Cx) (scope:Scope) (N:List Str) (C:Addr) (s₀:Shared) (H₀:Hp) (ex:List Addr):Cx :=
  { X with N:=N,s₀:=s₀,H₀:=H₀,env:=compEnvC scope (clos X.env.cells scope.names []) C X.env,outer:=X.stack,stack:=X.stack,ex:=ex,fn:=fun _=>false,pn:=[] }
def st0 (k:Nat) (cap:List Nat) (σ:St):St:=List.replicate k none ++ cap.map fun j=>(σ[j]?).getD none
def compOk (XN:List Str) (fs sc:Scope) (N:List Str) (k:Nat) (cap:List Nat):Bool :=
  decide (sc.kind = .function) && sc.names.all (fun y=>decide (y.2 ≠ .cell)) && sc.names.all (fun y=>decide (y.2 ≠ .local) || decide (sc.names.lookup y.1 = some .local)) &&
  sc.names.all (fun y=>decide (y.2 ≠ .free) || decide (fs.names.lookup y.1 = some .cell)) && decide (N.length = k + cap.length) &&
  (cap.zip (N.drop k)).all (fun p=>decide (XN[p.1]? = some p.2) && decide (sc.names.lookup p.2 = some .free))
structure CompOk (XN:List Str) (fs sc:Scope) (N:List Str) (k:Nat) (cap:List Nat):Prop where
  kind:sc.kind = .function
  nocell:∀ y ∈ sc.names,y.2 ≠ .cell
  locs:∀ y ∈ sc.names,y.2 = .local->sc.names.lookup y.1 = some .local
  frees:∀ y ∈ sc.names,y.2 = .free->fs.names.lookup y.1 = some .cell
  len:N.length = k + cap.length
  caps:∀ p ∈ cap.zip (N.drop k),XN[p.1]? = some p.2 /\ sc.names.lookup p.2 = some .free
theorem CompOk.of {XN:List Str} {fs sc:Scope} {N:List Str} {k:Nat} {cap:List Nat} (h:compOk XN fs sc N k cap = true):CompOk XN fs sc N k cap:=by
  unfold compOk at h
  simp only [Bool.and_eq_true,List.all_eq_true,decide_eq_true_eq,Bool.or_eq_true] at h
  obtain ⟨⟨⟨⟨⟨h1,h2⟩,h3⟩,h4⟩,h5⟩,h6⟩:=h
  exact ⟨h1,h2,fun y hy e=>(h3 y hy).resolve_left fun z=>z e,fun y hy e=>(h4 y hy).resolve_left fun z=>z e,h5,h6⟩
section
variable {X:Cx} {pins:List (Addr × Obj)} {σ:St} {H:Hp} {s:Shared} {scope:Scope} {N:List Str} {k:Nat} {cap:List Nat} {fp:List Addr}
theorem Cx.comp_kind {x:Str} {C:Addr} {s₀:Shared} {H₀:Hp} {ex:List Addr} (hk:X.env.scope.kind = .function) :
    (X.comp scope N C s₀ H₀ ex).env.kindOf x = (scope.names.lookup x).map fun k=>if (k == NameKind.free && X.env.kindOf x == some .cell) then NameKind.cell else k:=by
  show (relabel scope X.env).names.lookup x = _
  unfold relabel
  rw [lookup_relabel]
  congr 1
  funext k
  rw [hk]; simp
theorem Inv.freeCells (I:Inv X pins σ H s) (c:CompOk X.N X.env.scope scope N k cap):∀ y ∈ scope.names,y.2 = .free->∃ d,X.env.cells.lookup y.1 = some d :=
  fun y hy e=>I.ok.has y.1 (.inl (c.frees y hy e))
theorem Inv.block (I:Inv X pins σ H s) (c:CompOk X.N X.env.scope scope N k cap) (hf:∀ b ∈ fp,FpOk X pins H b) (ho:∀ b ∈ fp,∃ o,s.heap.get? b = some o) {D C:Addr} {s1:Shared}
    (hD:s.heap.objs.size ≤ D) (hC:s.heap.objs.size ≤ C) (hDC:D ≠ C) (hos:s1.os = s.os) (hg:s1.gens = s.gens) (keep:∀ b o,s.heap.get? b = some o->s1.heap.get? b = some o)
    (hl:s1.heap.get? D = some { cls:=.type "list",data:=.seq #[] }) (hn:s1.heap.Ns C fun _=>none) :
    Inv (X.comp scope N C s H fp) [] (st0 k cap σ) (upd H D (.lst [])) s1:=by
  have hfc:=I.freeCells c
  have lt:∀ b ∈ fp,b < s.heap.objs.size:=fun b hb=>let ⟨o,e⟩:=ho b hb; Heap.lt_size e
  have clt:∀ x d,X.env.cells.lookup x = some d->d < s.heap.objs.size:=fun x d e=>let ⟨v,o,q,_⟩:=I.cell x d e; Heap.lt_size q
  have sub:=clos_sub (cells:=X.env.cells) (names:=scope.names) (acc:=[]) hfc (fun x c h=>by simp at h)
  have fresh:∀ a,s.heap.objs.size ≤ a->H a = none:=fun a h=>I.hok.fresh h
  have kindf:∀ x,((X.comp scope N C s H fp).env.kindOf x = some .cell ∨ (X.comp scope N C s H fp).env.kindOf x = some .free)->(x,NameKind.free) ∈ scope.names:=fun x h=>by
    rw [Cx.comp_kind I.ok.kind] at h
    cases e:scope.names.lookup x with
    | none=>rw [e] at h; simp at h
    | some kd =>
      have m:=mem_of_lookup e
      rw [e] at h
      cases kd with
      | free=>exact m
      | cell=>exact absurd rfl (c.nocell _ m)
      | «local»=>simp at h
      | globalExplicit=>simp at h
      | globalImplicit=>simp at h
  have ok:(X.comp scope N C s H fp).Ok :=
    { mod:=I.ok.mod
      kind:=c.kind
      glob:=I.ok.glob
      blt:=I.ok.blt
      above:=hC
      inj:=fun x y d hx hy=>I.ok.inj x y d (sub x d hx) (sub y d hy)
      has:=fun x h=>clos_has (.inl (kindf x h))
      cab:=fun x d h=>by cases h
      hd:=I.ok.hd
      frames:=I.ok.frames
      stk:=.inl rfl
      exf:=fun b hb=>⟨fun z=>anelt (lt b hb) hC z,fun x d hx=>(hf b hb).2.2.2.2.1 x d (sub x d hx)⟩
      bs:=I.bs
      bsz:=Nat.le_trans I.ok.bsz I.sz
      noex:=fun b o e hb=>by
        rcases (hf b hb).2.2.2.1 with h | h
        · exact I.ok.noex b o e h
        · exact absurd (Heap.lt_size (I.ok.bs b o e).1) (Nat.not_lt.mpr h)
      exfs:=fun b hb hm=>by
        rcases List.mem_cons.mp (I.stkSub b hm) with h | h
        · exact (hf b hb).2.1 h
        · exact (hf b hb).2.2.1 h
      funs:=I.stack
      frf:=I.stkFree }
  have nD:H D = none:=fresh D hD
  refine
    { ok:=ok
      os:=hos
      bare:=by rw [hg]; exact I.bare
      base:=Un.laid keep hD nD
      loc:=⟨_,hn,?_⟩
      cell:=fun x d h=>let ⟨v,q⟩:=I.cell x d (sub x d h); ⟨v,q.keeps keep⟩
      free:=by
        show upd H D _ C = none
        rw [upd_ne (Ne.symm hDC)]; exact fresh C hC
      freeC:=fun x d h=>by
        have h':=sub x d h
        rw [upd_ne (anelt (clt x d h') hD)]; exact I.freeC x d h'
      pin:=fun p hp=>by cases hp
      hok:=I.hok.laid keep hD ⟨Nat.zero_le _,[],0,.nil,hl⟩
      len:=by
        show (st0 k cap σ).length = N.length
        unfold st0; rw [List.length_append,List.length_replicate,List.length_map,c.len] }
  intro i x v hi hv _
  have hi:N[i]? = some x:=hi
  unfold st0 at hv
  by_cases hik:i < k
  · rw [List.getElem?_append_left (by rw [List.length_replicate]; exact hik),List.getElem?_replicate,if_pos hik] at hv
    cases hv
  · rw [List.getElem?_append_right (by rw [List.length_replicate]; omega),List.length_replicate,List.getElem?_map] at hv
    cases ej:cap[i - k]? with
    | none=>rw [ej] at hv; cases hv
    | some j =>
      rw [ej] at hv
      have hv:(σ[j]?).getD none = some v:=Option.some.inj hv
      have hσ:σ[j]? = some (some v):=by
        cases e:σ[j]? with
        | none=>rw [e] at hv; cases hv
        | some z=>rw [e] at hv; exact congrArg some hv
      have hm:(j,x) ∈ cap.zip (N.drop k):=by
        refine List.mem_iff_getElem?.mpr ⟨i - k,?_⟩
        rw [List.getElem?_zip_eq_some]
        refine ⟨ej,?_⟩
        rw [List.getElem?_drop,show k + (i - k) = i by omega]; exact hi
      obtain ⟨hX,hfree⟩:=c.caps _ hm
      have mf:=mem_of_lookup hfree
      have hcell:=c.frees _ mf rfl
      obtain ⟨m,_,q⟩:=I.loc
      obtain ⟨u,ru,lk⟩:=q j x v hX hσ (.inr (.inl hcell))
      refine ⟨u,ru,.inr ⟨.inl ?_,?_⟩⟩
      · rw [Cx.comp_kind I.ok.kind,hfree]
        have:(X.env.kindOf x == some NameKind.cell) = true:=by
          show (X.env.scope.names.lookup x == some NameKind.cell) = true
          rw [hcell]; rfl
        simp [this]
      · rcases lk with ⟨hloc,_⟩ | ⟨_,d,hd,hcv⟩
        · have hloc:X.env.scope.names.lookup x = some .local:=hloc
          rw [hcell] at hloc; cases hloc
        · obtain ⟨d',hd'⟩:=clos_has (cells:=X.env.cells) (acc:=[]) (.inl mf:(x,NameKind.free) ∈ scope.names ∨ _)
          have:=sub x d' hd'
          rw [hd] at this; cases this
          exact ⟨d,hd',hcv.keeps keep⟩
theorem Inv.unblock {H':Hp} {σ':St} {s1:Shared} {C:Addr} {ps:List (Addr × Obj)} (I:Inv X pins σ H s) (hf:∀ b ∈ fp,FpOk X pins H b) (J:Inv (X.comp scope N C s H fp) ps σ' H' s1):Inv X pins σ H' s1 :=
  I.call' (ch:=fp) J.os J.base J.hok J.bare fun b hb=>⟨(hf b hb).2.2.2.1,(hf b hb).2.1,(hf b hb).2.2.2.2.1,(hf b hb).2.2.2.2.2⟩
end
def tComp (k:Nat) (cap:List Nat) (wi:TI) (g:TG) (tt:TT) (te:TE):TE:=fun σ H Q=>wi σ H fun J H1=>∀ D,H1 D = none->∃ W:Nat->Nat->St->Hp->List V->Prop,
  (∃ m,W 0 m (st0 k cap σ) (upd H1 D (.lst [])) []) /\ ∀ i m σ' H' ys,W i m σ' H' ys->(J.stop i H' /\ Q (.ref D) H') ∨
    (J.go i H' /\ ∃ N:St->Hp->List V->Prop,(∀ σ' H' ys',N σ' H' ys'->∃ m',m' < m /\ W (i + 1) m' σ' H' ys') /\ ∀ x H2,J.yld i H' x H2->g x σ' H2 fun σ3 H3=>tt σ3 H3 fun b H4=>if b = true then
      te σ3 H4 fun y H5=>H5 D = some (.lst ys) /\ ys.length < sizeLine /\ N σ3 (upd H5 D (.lst (ys ++ [y]))) (ys ++ [y])
      else N σ3 H4 ys)
def tYes:TT:=fun _ H Q=>Q true H
def PTs (X:Cx) (ifs:List Expr) (t:TT):Prop :=
  ∀ (pins:List (Addr × Obj)) (s:Shared) (σ:St) (H:Hp) (Q:Bool->Hp->Prop),Inv X pins σ H s->t σ H Q →
    wpAny (model X.prog X.w) X.A (forIn ifs true fun c r=>if r = true then do let ok ← isTrue c X.env (eval c X.env); pure (ForInStep.yield ok) else pure (ForInStep.yield r)) (TP X pins σ Q) X.xe s
theorem pts_nil {X:Cx}:PTs X [] tYes:=fun _ _ _ H _ I h=>wpAny_tests_nil ⟨H,I,h⟩
section
variable {prog:Program} {w:World} {A:Around} {R:Result->Shared->Prop} {s:Shared}
theorem codeAny_compLoop_go {elt target iter:Expr} {ifs:List Expr} {scope:Scope} {pos:Pos} {it acc:Value} {env:Env} (I:Nat->Shared->Prop)
    (turn:∀ n s,I n s->wpAny (model prog w) A (pyNext it) (fun r s₁=>match r with
      | none=>R (.ok .next) s₁
      | some v=>wpAny (model prog w) A (letOwnedTupleGo target it v) (fun _ s₀=>wpAny (model prog w) A (assign target env v) (fun _ s₂ =>
          wpAny (model prog w) A (forIn ifs true fun c r=>if r = true then do let ok ← isTrue c env (eval c env); pure (ForInStep.yield ok) else pure (ForInStep.yield r)) (fun ok s₃ =>
            if ok = true then wpAny (model prog w) A (eval elt env) (fun x s₄ =>
              wpAny (model prog w) A (call (.builtin "list.append") [acc,x]) (fun _ s₅=>∃ m,m < n /\ I m s₅) (notedBy (model prog w) A env fun e s'=>R (.error e) s') s₄) (notedBy (model prog w) A env fun e s'=>R (.error e) s') s₃
            else ∃ m,m < n /\ I m s₃) (notedBy (model prog w) A env fun e s'=>R (.error e) s') s₂) (notedBy (model prog w) A env fun e s'=>R (.error e) s') s₀) (notedBy (model prog w) A env fun e s'=>R (.error e) s') s₁) (notedBy (model prog w) A env fun e s'=>R (.error e) s') s)
    (n:Nat) (h:I n s) :
    codeAny (model prog w) A (.compLoop (.ListComp elt [⟨target,iter,ifs,0⟩] scope pos) 0 it acc env) R s:=by
  refine codeAny_loop rfl I (fun n s hI=>?_) n h
  show wpAny _ A ((compTurn (.ListComp elt [⟨target,iter,ifs,0⟩] scope pos) 0 it acc env).onRaise (fun x=>do noteFrame x env; theTreesLotGoes x)) _ _ s
  refine wpAny_noted ?_
  rw [compTurn_list]
  refine wpAny_bind (wpAny_standAt (wpAny_bind (wpAny_mono (turn n s hI) (fun r s₁ h₁=>?_) fun _ _ h'=>h')))
  cases r with
  | none=>exact wpAny_pure h₁
  | some v =>
    refine wpAny_bind (wpAny_mono h₁ (fun _ s₀ h₀=>?_) fun _ _ h'=>h')
    refine wpAny_bind (wpAny_mono h₀ (fun _ s₂ h₂=>wpAny_bind (wpAny_mono h₂ (fun ok s₃ h₃=>?_) fun _ _ h'=>h')) fun _ _ h'=>h')
    cases ok with
    | false=>exact wpAny_pure ⟨rfl,h₃⟩
    | true =>
      exact wpAny_bind (wpAny_bind (wpAny_mono h₃ (fun x s₄ h₄=>wpAny_bind (wpAny_mono h₄ (fun _ s₅ h₅=>wpAny_pure (wpAny_pure ⟨rfl,h₅⟩)) fun _ _ h'=>h')) fun _ _ h'=>h'))
end
section
variable {X:Cx} {scope:Scope} {N:List Str} {k:Nat} {cap:List Nat} {tg iter elt:Expr} {ifs:List Expr} {wi:TI} {g:TG} {tt:TT} {te:TE} {pos:Pos}
theorem comp_loop {E:Value->Shared->Prop} {use:Option (Value->Sem Unit)} {QQ:Value->Shared->Prop} {pins:List (Addr × Obj)} {s:Shared} {σ:St} {H:Hp} {it:Addr} {fp:List Addr} {tn:Nat->Heap->Prop} {J:It} {Q:VK}
    (hc:X.calm = true) (c:CompOk X.N X.env.scope scope N k cap)
    (hg:∀ C s₀ H₀ ex,PG (X.comp scope N C s₀ H₀ ex).nox tg g) (ht:∀ C s₀ H₀ ex,PTs (X.comp scope N C s₀ H₀ ex).nox ifs tt) (he:∀ C s₀ H₀ ex,PE (X.comp scope N C s₀ H₀ ex).nox elt te)
    (I:Inv X pins σ H s) (T:Turn X.prog X.w X.K tg J fp it tn) (st:tn 0 s.heap) (hf:∀ b ∈ fp,FpOk X pins H b)
    (h:∀ D,H D = none->∃ W:Nat->Nat->St->Hp->List V->Prop,(∃ m,W 0 m (st0 k cap σ) (upd H D (.lst [])) []) /\ ∀ i m σ' H' ys,W i m σ' H' ys->(J.stop i H' /\ Q (.ref D) H') ∨
      (J.go i H' /\ ∃ N:St->Hp->List V->Prop,(∀ σ' H' ys',N σ' H' ys'->∃ m',m' < m /\ W (i + 1) m' σ' H' ys') /\ ∀ x H2,J.yld i H' x H2->g x σ' H2 fun σ3 H3=>tt σ3 H3 fun b H4=>if b = true then
        te σ3 H4 fun y H5=>H5 D = some (.lst ys) /\ ys.length < sizeLine /\ N σ3 (upd H5 D (.lst (ys ++ [y]))) (ys ++ [y])
        else N σ3 H4 ys))
    (hQ:∀ D C s1 H',Inv X pins σ H' s1->Q (.ref D) H'->(∃ m,s1.heap.Ns C m)->H' C = none->X.s₀.heap.objs.size ≤ C->C ≠ X.env.locals->(∀ x c,X.env.cells.lookup x = some c->c ≠ C)->(∀ p ∈ X.pn ++ pins,p.1 ≠ C) →
      compPost (model X.prog X.w) X.A E use QQ (.ref D) C (.ok .next) s1) :
    wpAny (model X.prog X.w) X.A (newList []) (fun acc s₃=>wpAny (model X.prog X.w) X.A (newFunctionEnv scope X.env.globals (clos X.env.cells scope.names []) [] X.env.qual none .none (some X.env)) (fun cenv s₄ =>
      codeAny (model X.prog X.w) X.A (.compStart (.ListComp elt [⟨tg,iter,ifs,0⟩] scope pos) 0 (.ref it) acc { cenv with scope:=relabel scope X.env }) (compPost (model X.prog X.w) X.A E use QQ acc cenv.locals) s₄) E s₃) E s:=by
  refine wpAny_newObj_type (wpAny_newFunctionEnv c.nocell (by intro y hy; simp at hy) (fun h₁ hns₁ hsb₁=>?_) c.kind)
  dsimp only at hns₁ hsb₁ ⊢
  generalize hH2:s.heap.push { cls:=.type "list",dict:=none,data:=.seq ([]:List Value).toArray } = H2 at hns₁ hsb₁ ⊢
  have hC:H2.objs.size = s.heap.objs.size + 1:=by rw [← hH2,Heap.size_push]
  have hDC:s.heap.objs.size ≠ H2.objs.size:=by rw [hC]; exact Nat.ne_of_lt (Nat.lt_succ_self _)
  have hle:s.heap.objs.size ≤ H2.objs.size:=by rw [hC]; exact Nat.le_succ _
  have keep:∀ b o,s.heap.get? b = some o->h₁.get? b = some o:=fun b o e=>by
    exact hsb₁.extBut b o (anelt (Heap.lt_size e) hle) (Heap.get?_push_of_some _ (hH2 ▸ Heap.get?_push_of_some _ e))
  have hl:h₁.get? s.heap.objs.size = some { cls:=.type "list",data:=.seq #[] }:=hsb₁.extBut _ _ hDC (Heap.get?_push_of_some _ (hH2 ▸ Heap.get?_push_size _ rfl))
  have nD:H s.heap.objs.size = none:=I.hok.fresh (Nat.le_refl _)
  obtain ⟨W,⟨m0,w0⟩,turn⟩:=h _ nD
  have ho:∀ b ∈ fp,∃ o,s.heap.get? b = some o:=fun b hb=>let ⟨o,e,_⟩:=T.obj _ _ st b hb; ⟨o,e⟩
  have hCs:X.s₀.heap.objs.size ≤ H2.objs.size:=Nat.le_trans I.sz hle
  have hCl:H2.objs.size ≠ X.env.locals:=(anelt I.lt hle).symm
  have hCc:∀ x d,X.env.cells.lookup x = some d->d ≠ H2.objs.size:=fun x d e=>by
    obtain ⟨v,o,q,_⟩:=I.cell x d e
    exact anelt (Heap.lt_size q) hle
  have hCp:∀ p ∈ X.pn ++ pins,p.1 ≠ H2.objs.size:=fun p hp=>by
    exact anelt (Heap.lt_size (I.pin p hp).1) hle
  have loop:∀ s₃:Shared,s₃ = { s with heap:=h₁,toks:=s.toks + ([]:List (Str × Value)).length } →
      codeAny (model X.prog X.w) X.A (.compLoop (.ListComp elt [⟨tg,iter,ifs,0⟩] scope pos) 0 (.ref it) (.ref s.heap.objs.size) (compEnvC scope (clos X.env.cells scope.names []) H2.objs.size X.env))
        (compPost (model X.prog X.w) X.A E use QQ (.ref s.heap.objs.size) H2.objs.size) s₃:=by
    rintro s₃ rfl
    have I0:Inv (X.comp scope N H2.objs.size s H fp) [] (st0 k cap σ) (upd H s.heap.objs.size (.lst [])) { s with heap:=h₁,toks:=s.toks + ([]:List (Str × Value)).length } :=
      I.block c hf ho (Nat.le_refl _) hle hDC rfl rfl keep hl (by simpa using hns₁)
    have stat:∀ {H':Hp} {ps:List (Addr × Obj)},(∀ b ∈ fp,H' b = none)->ps = []->∀ b ∈ fp,FpOk (X.comp scope N H2.objs.size s H fp).nox ps H' b:=fun hn hp b hb=>by
      subst hp
      exact ⟨hn b hb,(I0.ok.exf b hb).1,I0.ok.exfs b hb,.inl hb,(I0.ok.exf b hb).2,fun p hp=>by cases hp⟩
    have nok:∀ b ∈ fp,upd H s.heap.objs.size (.lst []) b = none:=fun b hb=>by
      obtain ⟨o,e⟩:=ho b hb
      rw [upd_ne (anelt (Heap.lt_size e) (Nat.le_refl _))]; exact (hf b hb).1
    refine codeAny_compLoop_go (fun n s'=>∃ i σ' H' ys,Inv (X.comp scope N H2.objs.size s H fp).nox [] σ' H' s' /\ tn i s'.heap /\ (∀ b ∈ fp,H' b = none) /\ W i n σ' H' ys) ?_ m0
      ⟨0,_,_,[],I0.wish _,T.keep _ _ _ st fun b _ o e=>keep b o e,nok,w0⟩
    rintro n s' ⟨i,σ',H',ys,I',st',fr',w'⟩
    rcases turn i n σ' H' ys w' with ⟨stop,q⟩ | ⟨go,NN,hNN,step⟩
    · refine wpAny_mono (T.done (X.comp scope N H2.objs.size s H fp).nox rfl rfl rfl hc i [] s' σ' H' (fun _ _=>False) I' (stat fr' rfl) st' stop) (fun r s4 ⟨hr,I4⟩=>?_) (fun _ _ x=>x.elim)
      subst hr
      exact hQ _ _ s4 H' (I.unblock hf I4.unwish) q (let ⟨m,hn,_⟩:=I4.loc; ⟨m,hn⟩) I4.free hCs hCl hCc hCp
    · refine wpAny_mono (T.item (X.comp scope N H2.objs.size s H fp).nox rfl rfl rfl hc i [] s' σ' H' (fun _ _=>False) I' (stat fr' rfl) st' go) (fun r s4 ⟨u,hr,h4⟩=>?_) (fun _ _ x=>x.elim)
      subst hr
      refine wpAny_mono h4 (fun _ s5 ⟨x,H5,I5,r5,y5,st5,fr5⟩=>?_) (fun _ _ x=>x.elim)
      have I5':=I5.pinned (stat fr5 rfl) (T.obj _ _ st5)
      refine wpAny_mono (hg _ _ _ _ _ s5 σ' H5 x u _ I5' r5 (step x H5 y5)) (fun _ s6 ⟨σ6,H6,I6,q6⟩=>?_) (fun _ _ x=>x.elim)
      refine wpAny_mono (ht _ _ _ _ _ s6 σ6 H6 _ I6 q6) (fun ok s7 ⟨H7,I7,q7⟩=>?_) (fun _ _ x=>x.elim)
      have again:∀ {H8:Hp} {s8:Shared} {ys8:List V},Inv (X.comp scope N H2.objs.size s H fp).nox ([] ++ pinsAt fp s5.heap) σ6 H8 s8->NN σ6 H8 ys8 →
          ∃ m,m < n /\ ∃ i σ' H' ys,Inv (X.comp scope N H2.objs.size s H fp).nox [] σ' H' s8 /\ tn i s8.heap /\ (∀ b ∈ fp,H' b = none) /\ W i m σ' H' ys:=fun {H8 s8 ys8} I8 n8=>by
        obtain ⟨m',hm,w8⟩:=hNN _ _ _ n8
        refine ⟨m',hm,i + 1,σ6,H8,ys8,I8.unpinned,T.keep _ _ _ st5 fun b hb o e=>(I8.pin (b,o) (List.mem_append_right _ (List.mem_append_right _ (mem_pinsAt hb e)))).1,fun b hb=>?_,w8⟩
        obtain ⟨o,e,d⟩:=T.obj _ _ st5 b hb
        exact (I8.pin (b,o) (List.mem_append_right _ (List.mem_append_right _ (mem_pinsAt hb e)))).2.1
      cases ok with
      | false=>exact again I7 q7
      | true =>
        refine wpAny_mono (he _ _ _ _ _ s7 σ6 H7 _ I7 q7) (fun y s8 ⟨v,H8,I8,rv,hD,hlen,w8⟩=>?_) (fun _ _ x=>x.elim)
        refine wpAny_mono (mt_append (X:=(X.comp scope N H2.objs.size s H fp).nox) _ s8 σ6 H8 (.ref s.heap.objs.size) [v] (.ref s.heap.objs.size) [y] (fun _ H9=>H9 = upd H8 s.heap.objs.size (.lst (ys ++ [v]))) I8 rfl (.cons rv .nil) ⟨_,ys,v,rfl,rfl,hD,hlen,rfl⟩) (fun _ s9 ⟨_,H9,I9,_,e9⟩=>?_) (fun _ _ x=>x.elim)
        subst e9
        exact again I9 w8
  exact codeAny_compStart_list (loop _ rfl) (T.self _ 0 _ _ _ (T.keep _ _ _ st fun b _ o e=>keep b o e) (loop _ rfl))
theorem pe_comp (hc:X.calm = true) (hco:compOk X.N X.env.scope scope N k cap = true) (hi:PI X tg iter wi)
    (hg:∀ C s₀ H₀ ex,PG (X.comp scope N C s₀ H₀ ex).nox tg g) (ht:∀ C s₀ H₀ ex,PTs (X.comp scope N C s₀ H₀ ex).nox ifs tt) (he:∀ C s₀ H₀ ex,PE (X.comp scope N C s₀ H₀ ex).nox elt te)
    (hs:∀ x,foldedSetIterable iter X.env x = pure x:=by intro _; rfl):PE X (.ListComp elt [⟨tg,iter,ifs,0⟩] scope pos) (tComp k cap wi g tt te):=by
  intro pins s σ H Q I h
  have c:=CompOk.of hco
  rw [eval_ListComp]
  refine wpAny_comprehension_free (use:=none) (cl:=clos X.env.cells scope.names []) rfl hs (closureFor_eq (I.freeCells c)) c.kind c.locs (thn (hi pins s σ H _ I h) fun xv s₁ h₁=>thn h₁ fun itv s₂ h₂=>?_)
  obtain ⟨it,fp,tn,J,H2,e,I2,T,st,hf,q⟩:=h₂
  subst e
  exact comp_loop (use:=none) hc c hg ht he I2 T st hf q fun D C s1 H' I1 q1 ⟨m,hn⟩ hCn hCs hCl hCc hCp =>
    ⟨m,hn,fun h' hs'=>⟨.ref D,H',I1.turned (t':=s1.toks) (fun b o hb e=>hs'.extBut b o hb e) hCn hCl (.inr hCs) hCc hCp,rfl,q1⟩⟩
theorem ps_setComp {i:Nat} {x:Str} {pos' spos:Pos} (hN:X.N.Nodup) (hi':X.N[i]? = some x) (hx:Loc X.env.scope x) (hc:X.calm = true) (hco:compOk X.N X.env.scope scope N k cap = true) (hi:PI X tg iter wi)
    (hg:∀ C s₀ H₀ ex,PG (X.comp scope N C s₀ H₀ ex).nox tg g) (ht:∀ C s₀ H₀ ex,PTs (X.comp scope N C s₀ H₀ ex).nox ifs tt) (he:∀ C s₀ H₀ ex,PE (X.comp scope N C s₀ H₀ ex).nox elt te)
    (hsw:swapsWith (.ListComp elt [⟨tg,iter,ifs,0⟩] scope pos) (some (.Name x pos')) spos.line X.env = pure true:=by rfl)
    (hs:∀ x,foldedSetIterable iter X.env x = pure x:=by intro _; rfl) (hf':X.fn x = true ∨ X.env.scope.names.lookup x = some .local:=by first | exact .inl rfl | exact .inr rfl | assumption) :
    PS X (.Assign [.Name x pos'] (.ListComp elt [⟨tg,iter,ifs,0⟩] scope pos) spos) (tAsg (tComp k cap wi g tt te) (gName i)):=by
  intro pins s σ H D I h
  have c:=CompOk.of hco
  rw [exec_Assign_Name_used _ _ _ _ hsw]
  refine wpAny_bind (wpAny_standAt (wpAny_bind ?_))
  show wpAny _ X.A (do let _ ← comprehension (.ListComp elt [⟨tg,iter,ifs,0⟩] scope pos) scope X.env _ (newList []) false (eval iter X.env) (some (assign (.Name x pos') X.env))) _ _ s
  refine wpAny_bind (wpAny_mono (wpAny_comprehension_free (use:=some (assign (.Name x pos') X.env)) (Q:=fun _ s'=>SP X pins D .next s') (cl:=clos X.env.cells scope.names []) rfl hs (closureFor_eq (I.freeCells c)) c.kind c.locs
    (thn (hi pins s σ H _ I h) fun xv s₁ h₁=>thn h₁ fun itv s₂ h₂=>?_)) (fun _ s' hq=>wpAny_pure (wpAny_pure hq)) fun _ _ e=>e)
  obtain ⟨it,fp,tn,J,H2,e,I2,T,st,hf,q⟩:=h₂
  subst e
  refine comp_loop (use:=some (assign (.Name x pos') X.env)) (Q:=fun v H1=>gName i v σ H1 D.nx) hc c hg ht he I2 T st hf q fun L C s1 H' I1 q1 ⟨m,hn⟩ hCn hCs hCl hCc hCp=>?_
  show wpAny _ X.A (assign (.Name x pos') X.env (.ref L)) _ _ s1
  refine wpAny_assign_Name (store_ok2 (v:=.ref L) I1 hN hi' hx rfl (fun s2 I3 ⟨a,sb,ha⟩=>⟨m,?_,fun h' hs'=>?_⟩) hf')
  · refine hn.sameBut sb ?_
    rcases ha with z | z
    · rw [z]; exact hCl
    · exact (hCc _ _ z).symm
  · exact ⟨_,H',I3.turned (t':=s2.toks) (fun b o hb e=>hs'.extBut b o hb e) hCn hCl (.inr hCs) hCc hCp,q1⟩
end
theorem comp_list {K:PySem.W.Frag} {a:Addr} (D:Addr) {xs:List V} {g:TG} {tt:TT} {te:TE} {σ:St} {H:Hp} {R:Hp->Prop} (Pv:Nat->St->Hp->List V->Prop) (h0:Pv 0 σ H []) (hl:∀ i σ H ys,i ≤ xs.length->Pv i σ H ys->SqL K H a xs)
    (hs:∀ i x σ H ys,xs[i]? = some x->Pv i σ H ys->g x σ H fun σ3 H3=>tt σ3 H3 fun b H4=>if b = true then
      te σ3 H4 fun y H5=>H5 D = some (.lst ys) /\ ys.length < sizeLine /\ Pv (i + 1) σ3 (upd H5 D (.lst (ys ++ [y]))) (ys ++ [y]) else Pv (i + 1) σ3 H4 ys) (hd:∀ σ H ys,Pv xs.length σ H ys->R H) :
    ∃ W:Nat->Nat->St->Hp->List V->Prop,(∃ m,W 0 m σ H []) /\ ∀ i m σ' H' ys,W i m σ' H' ys->((Itl K a).stop i H' /\ R H') ∨
      ((Itl K a).go i H' /\ ∃ N:St->Hp->List V->Prop,(∀ σ' H' ys',N σ' H' ys'->∃ m',m' < m /\ W (i + 1) m' σ' H' ys') /\ ∀ x H2,(Itl K a).yld i H' x H2->g x σ' H2 fun σ3 H3=>tt σ3 H3 fun b H4=>if b = true then
        te σ3 H4 fun y H5=>H5 D = some (.lst ys) /\ ys.length < sizeLine /\ N σ3 (upd H5 D (.lst (ys ++ [y]))) (ys ++ [y])
        else N σ3 H4 ys):=by
  refine ⟨fun i m σ H ys=>m = xs.length - i /\ i ≤ xs.length /\ Pv i σ H ys,⟨xs.length,by simp,Nat.zero_le _,h0⟩,?_⟩
  rintro i m σ H ys ⟨rfl,hi,p⟩
  have q:=hl i σ H ys hi p
  by_cases hlt:i < xs.length
  · refine .inr ⟨⟨xs,xs[i],q,by simp [hlt]⟩,Pv (i + 1),fun σ' H' ys' p'=>⟨xs.length - (i + 1),by omega,rfl,hlt,p'⟩,fun x H' y=>?_⟩
    obtain ⟨e,y⟩:=y
    subst e
    exact hs i x σ _ ys (y xs q) p
  · have e:i = xs.length:=by omega
    subst e
    exact .inl ⟨⟨xs,q,Nat.le_refl _⟩,hd σ H ys p⟩
section
variable {X:Cx} {K:PySem.W.Frag}
theorem pg_tupK {es:List Expr} {k:Nat} {t:TGs} {n:Nat} {pos:Pos} (hK:X.K = K) (hc:X.calm = true) (h:PGs X es t) (hn:(assignEach es X.env).length = n:=by rfl) (hst:(assignEach es X.env).findIdx? (·.1) = none:=by rfl) :
    PG X (.Tuple es k pos) (gTup K n t):=by subst hK; exact pg_tup hc h hn hst
theorem ix_tupK (hK:X.K = K):IxR X (rIxT K):=by subst hK; exact ix_tup
end
open PySem PySem.Spec PyProof.Rows
theorem Same.new {H:Hp} {p:Addr} {o:HO} (h:H p = none):Same H (upd H p o):=fun b u e=>by rw [upd_ne (ne_of_none e h)]; exact e
open PySem PySem.Spec PyProof.Rows PySem.SeqAt
def SeqEq (K:PySem.W.Frag) (H:Hp) (R:V->V->Bool->Prop) (x y:V) (b:Bool):Prop :=
  ∃ (a c:Addr) (xs ys:List V) (e:Nat->Bool),x = .ref a /\ y = .ref c ∧
    ((SqL K H a xs /\ SqL K H c ys /\ xs.length = ys.length /\ (∀ (j:Nat) x' y',xs[j]? = some x'->ys[j]? = some y'->R x' y' (e j)) /\ b = (List.range xs.length).all e) ∨
     (SqL K H a xs /\ SqL K H c ys /\ xs.length ≠ ys.length /\ b = false) ∨
     (SqT K H a xs /\ SqT K H c ys /\ (∀ (j:Nat) x' y',xs[j]? = some x'->ys[j]? = some y'->R x' y' (e j)) /\ b = ((List.range (min xs.length ys.length)).all e && xs.length == ys.length)))
def EqI (K:PySem.W.Frag) (H:Hp):Nat->V->V->Bool->Prop
  | 0=>fun x y b=>(flatV x = true /\ flatV y = true /\ b = eqV x y) ∨ ∃ a,x = .ref a /\ y = .ref a /\ b = true
  | n + 1=>fun x y b=>EqI K H n x y b ∨ (x ≠ y /\ SeqEq K H (EqI K H n) x y b)
section
variable {X:Cx} {pins:List (Addr × Obj)} {σ:St} {H:Hp} {s:Shared} {A:Around}
theorem items_at {xs ys:List V} {us vs:List Value} {R:V->V->Bool->Prop} {e:Nat->Bool} (r:Vals xs us) (q:Vals ys vs) (he:∀ (j:Nat) x' y',xs[j]? = some x'->ys[j]? = some y'->R x' y' (e j))
    (hR:∀ x y b u v,R x y b->RelV x u->RelV y v->EqAt A s u v b):∀ j (h1:j < us.toArray.size) (h2:j < vs.toArray.size),EqAt A s us.toArray[j] vs.toArray[j] (e j):=fun j h1 h2=>by
  have h1':j < us.length:=by simpa using h1
  have h2':j < vs.length:=by simpa using h2
  have l1:=r.length
  have l2:=q.length
  have ex:xs[j]? = some (xs[j]'(by omega)):=List.getElem?_eq_getElem (by omega)
  have ey:ys[j]? = some (ys[j]'(by omega)):=List.getElem?_eq_getElem (by omega)
  obtain ⟨u,eu,ru⟩:=Vals.get r ex
  obtain ⟨v,ev,rv⟩:=Vals.get q ey
  have e1:us.toArray[j] = u:=by
    have:=(List.getElem?_eq_some_iff.mp eu).2
    simpa using this
  have e2:vs.toArray[j] = v:=by
    have:=(List.getElem?_eq_some_iff.mp ev).2
    simpa using this
  rw [e1,e2]
  exact hR _ _ _ _ _ (he j _ _ ex ey) ru rv
theorem SeqEq.rc {R:V->V->Bool->Prop} {x y:V} {b:Bool} {u v:Value} (I:Inv X pins σ H s) (hR:∀ x y b u v,R x y b->RelV x u->RelV y v->EqAt A.in1 s u v b) (hu:A.units < cLine)
    (h:SeqEq X.K H R x y b) (rx:RelV x u) (ry:RelV y v):RcAt A s u v b:=by
  obtain ⟨a,c,xs,ys,e,rfl,rfl,h⟩:=h
  cases rx
  cases ry
  rcases h with ⟨h1,h2,hl,he,rfl⟩ | ⟨h1,h2,hl,rfl⟩ | ⟨h1,h2,he,rfl⟩
  · obtain ⟨us,r,p,_⟩:=I.list h1
    obtain ⟨vs,q,p2,_⟩:=I.list h2
    have l1:=r.length
    have l2:=q.length
    have z:=RcAt.lists (A:=A) (e:=e) p.isList p2.isList (by simp; omega) hu (items_at r q he hR)
    rw [show us.toArray.size = xs.length by simp; omega] at z
    exact z
  · obtain ⟨us,r,p,_⟩:=I.list h1
    obtain ⟨vs,q,p2,_⟩:=I.list h2
    have l1:=r.length
    have l2:=q.length
    exact RcAt.lists_lengths p.isList p2.isList (by simp; omega) hu
  · obtain ⟨us,r,p,_⟩:=I.tuple h1
    obtain ⟨vs,q,p2,_⟩:=I.tuple h2
    have l1:=r.length
    have l2:=q.length
    have z:=RcAt.tuples (A:=A) (e:=e) (show s.heap.IsTuple a us.toArray from p) (show s.heap.IsTuple c vs.toArray from p2) hu (items_at r q he hR)
    rw [show us.toArray.size = xs.length by simp; omega,show vs.toArray.size = ys.length by simp; omega] at z
    exact z
theorem SeqEq.rcNe {R:V->V->Bool->Prop} {x y:V} {b:Bool} {u v:Value} (I:Inv X pins σ H s) (hR:∀ x y b u v,R x y b->RelV x u->RelV y v->EqAt A.in1 s u v b) (hu:A.units < cLine)
    (h:SeqEq X.K H R x y b) (rx:RelV x u) (ry:RelV y v):RcNeAt A s u v (!b):=by
  obtain ⟨a,c,xs,ys,e,rfl,rfl,h⟩:=h
  cases rx
  cases ry
  rcases h with ⟨h1,h2,hl,he,rfl⟩ | ⟨h1,h2,hl,rfl⟩ | ⟨h1,h2,he,rfl⟩
  · obtain ⟨us,r,p,_⟩:=I.list h1
    obtain ⟨vs,q,p2,_⟩:=I.list h2
    have l1:=r.length
    have l2:=q.length
    have z:=RcNeAt.lists (A:=A) (e:=e) p.isList p2.isList (by simp; omega) hu (items_at r q he hR)
    rw [show us.toArray.size = xs.length by simp; omega] at z
    exact z
  · obtain ⟨us,r,p,_⟩:=I.list h1
    obtain ⟨vs,q,p2,_⟩:=I.list h2
    have l1:=r.length
    have l2:=q.length
    exact RcNeAt.lists_lengths p.isList p2.isList (by simp; omega) hu
  · obtain ⟨us,r,p,_⟩:=I.tuple h1
    obtain ⟨vs,q,p2,_⟩:=I.tuple h2
    have l1:=r.length
    have l2:=q.length
    have z:=RcNeAt.tuples (A:=A) (e:=e) (show s.heap.IsTuple a us.toArray from p) (show s.heap.IsTuple c vs.toArray from p2) hu (items_at r q he hR)
    rw [show us.toArray.size = xs.length by simp; omega,show vs.toArray.size = ys.length by simp; omega] at z
    exact z
theorem EqI.at (I:Inv X pins σ H s):∀ (n:Nat) {A:Around} {x y:V} {b:Bool} {u v:Value},A.units + n < cLine->EqI X.K H n x y b->RelV x u->RelV y v->EqAt A s u v b
  | 0,A,x,y,b,u,v,hu,h,rx,ry=>by
    rcases h with ⟨fx,fy,rfl⟩ | ⟨a,rfl,rfl,rfl⟩
    · exact eqAt_V rx ry fx fy
    · cases rx
      cases ry
      exact EqAt.same _
  | n + 1,A,x,y,b,u,v,hu,h,rx,ry=>by
    rcases h with h | ⟨hne,h⟩
    · exact EqI.at I n (by omega) h rx ry
    · have z:=SeqEq.rc (A:=A) I (fun x y b u v h rx ry=>EqI.at I n (A:=A.in1) (by show A.units + 1 + n < cLine; omega) h rx ry) (by omega) h rx ry
      obtain ⟨a,c,xs,ys,e,rfl,rfl,_⟩:=h
      cases rx
      cases ry
      exact EqAt.of_refs (fun e=>hne (by rw [e])) z
def rEqR (K:PySem.W.Frag):R2:=fun x y H Q=>∃ (n:Nat) (b:Bool),n ≤ 8 /\ SeqEq K H (EqI K H n) x y b /\ Q (.bl b) H
def rNeR (K:PySem.W.Frag):R2:=fun x y H Q=>∃ (n:Nat) (b:Bool),n ≤ 8 /\ SeqEq K H (EqI K H n) x y b /\ Q (.bl (!b)) H
theorem op_eq_ref (hu:X.A.units + 64 < cLine):OpR X (compareOp .Eq) (rEqR X.K):=by
  rintro pins s σ H x y v u Q I rx ry ⟨n,b,hn,h,q⟩
  exact SeqEq.rc (A:=X.A) I (fun x y b u v h rx ry=>EqI.at I n (A:=X.A.in1) (by show X.A.units + 1 + n < cLine; omega) h rx ry) (by omega) h rx ry X.prog X.w X.xe _ ⟨.bl b,H,I,rfl,q⟩
theorem op_ne_ref (hu:X.A.units + 64 < cLine):OpR X (compareOp .NotEq) (rNeR X.K):=by
  rintro pins s σ H x y v u Q I rx ry ⟨n,b,hn,h,q⟩
  exact SeqEq.rcNe (A:=X.A) I (fun x y b u v h rx ry=>EqI.at I n (A:=X.A.in1) (by show X.A.units + 1 + n < cLine; omega) h rx ry) (by omega) h rx ry X.prog X.w X.xe _ ⟨.bl (!b),H,I,rfl,q⟩
end
theorem SeqEq.sameT {K:PySem.W.Frag} {H:Hp} {a c:Addr} {xs:List V} (h1:SqT K H a xs) (h2:SqT K H c xs) (hx:∀ x ∈ xs,EqI K H n x x true):SeqEq K H (EqI K H n) (.ref a) (.ref c) true :=
  ⟨a,c,xs,xs,fun _=>true,rfl,rfl,.inr (.inr ⟨h1,h2,fun j x y e1 e2=>by
    rw [e1] at e2; cases e2
    exact hx x (List.mem_of_getElem? e1),by simp⟩)⟩
theorem eqI_int {K:PySem.W.Frag} {H:Hp} (i:Int):EqI K H 0 (.int i) (.int i) true:=.inl ⟨rfl,rfl,by simp [eqV]⟩
theorem pi_or {X:Cx} {tg it:Expr} {w1 w2:TI} (h1:PI X tg it w1) (h2:PI X tg it w2):PI X tg it (fun σ H R=>w1 σ H R ∨ w2 σ H R):=fun pins s σ H R I h=>h.elim (h1 pins s σ H R I) (h2 pins s σ H R I)
theorem anelt' {a b n:Nat} (h1:a < n) (h2:n ≤ b):a ≠ b:=by omega
open PySem PySem.Spec PyProof.Rows
theorem Inv.turnedMany {X:Cx} {pins:List (Addr × Obj)} {σ:St} {H:Hp} {s:Shared} {h':Heap} {t':Nat} {ch:List Addr} (I:Inv X pins σ H s) (k:∀ b o,b ∉ ch->s.heap.get? b = some o->h'.get? b = some o) (hf:∀ b ∈ ch,FpOk X pins H b) :
    Inv X pins σ H { s with heap:=h',toks:=t' }:=by
  have nit:∀ b u,H b = some u->b ∉ ch:=fun b u e z=>by rw [(hf b z).1] at e; cases e
  refine I.step (g':=s.gens) (d':=s.drawn) (ch:=ch) (fun b hb=>⟨(hf b hb).2.2.2.1,(hf b hb).2.1,(hf b hb).2.2.2.2.1,(hf b hb).2.2.2.2.2⟩) (fun b o _ _ hc e _=>k b o hc e) (fun b o _ _ hc e _=>⟨o.slots,k b o hc e⟩) (fun _ _ _ _ n=>n)
    (fun b o hc e=>⟨o,k b o hc e⟩) (fun _ _ e=>e) (fun _ _ _ e=>e) (fun b ps e=>⟨#[],by rw [e]; simp⟩) (fun m hm=>?_) (fun b u e=>?_) I.bare
  · obtain ⟨o,es,ep,ho,r⟩:=hm
    exact ⟨o,es,ep,k _ o (fun z=>(hf _ z).2.1 rfl) ho,r⟩
  · refine (I.hok b u e).stay (fun c v hc q=>k c v ?_ q) (fun _ q=>q) fun _ _ q=>q
    rcases hc with z | z
    · rw [z]; exact nit b u e
    · exact nit c _ z
theorem Inv.turnedLaid {X:Cx} {pins:List (Addr × Obj)} {σ:St} {H:Hp} {s:Shared} {h':Heap} {t':Nat} {ch:List Addr} {T:Addr} {u:HO} (I:Inv X pins σ H s) (k:∀ b o,b ∉ ch->s.heap.get? b = some o->h'.get? b = some o) (hf:∀ b ∈ ch,FpOk X pins H b)
    (hT:s.heap.objs.size ≤ T) (new:ObjOk X.prog X.w (upd H T u) h' T u):Inv X pins σ (upd H T u) { s with heap:=h',toks:=t' }:=by
  have hn:H T = none:=I.hok.fresh hT
  have nit:∀ b u,H b = some u->b ∉ ch:=fun b u e z=>by rw [(hf b z).1] at e; cases e
  have nT:∀ b o,s.heap.get? b = some o->b ≠ T:=fun b o e=>anelt' (Heap.lt_size e) hT
  refine I.step (g':=s.gens) (d':=s.drawn) (ch:=ch) (fun b hb=>⟨(hf b hb).2.2.2.1,(hf b hb).2.1,(hf b hb).2.2.2.2.1,(hf b hb).2.2.2.2.2⟩) (fun b o _ _ hc e _=>k b o hc e) (fun b o _ _ hc e _=>⟨o.slots,k b o hc e⟩) (fun b o _ e n=>by rw [upd_ne (nT b o e)]; exact n)
    (fun b o hc e=>⟨o,k b o hc e⟩) (fun b xs e=>by rw [upd_ne (ne_of_none e hn)]; exact e) (fun b o xs e=>by rw [upd_ne (ne_of_none e hn)]; exact e) (fun b ps e=>⟨#[],by rw [upd_ne (ne_of_none e hn),e]; simp⟩) (fun m hm=>?_) (fun b v e=>?_) I.bare
  · obtain ⟨o,es,ep,ho,r⟩:=hm
    exact ⟨o,es,ep,k _ o (fun z=>(hf _ z).2.1 rfl) ho,r⟩
  · by_cases hb:b = T
    · subst hb; rw [upd_same] at e; cases e; exact new
    · rw [upd_ne hb] at e
      refine (I.hok b v e).stay (fun c v hc q=>k c v ?_ q) (fun c q=>by rw [upd_ne (ne_of_none q hn)]; exact q) fun c xs q=>by rw [upd_ne (ne_of_none q hn)]; exact q
      rcases hc with z | z
      · rw [z]; exact nit b _ e
      · exact nit c _ z
theorem zip_apart {n l1 l2:Nat} (h1:l1 < n) (h2:l2 < n):ZipApart (n + 4) (n + 2) (n + 3) n (n + 1) l1 l2:=by
  constructor <;> (show ¬ (_:Nat) = _) <;> omega
open PySem PySem.Spec PyProof.Rows
def veTail:List Value:=[.type "ValueError",.type "Exception",.type "BaseException",.type "object"]
def isRefV:Value->Bool
  | .ref _=>true
  | _=>false
def excMro (l:List Value):Bool:=l.dropWhile isRefV == veTail
theorem excMro_at {l:List Value} (h:excMro l = true):∃ rs:List Addr,l = rs.map Value.ref ++ veTail:=by
  induction l with
  | nil=>exact absurd h (by decide)
  | cons x r ih =>
    unfold excMro at h
    by_cases hx:isRefV x = true
    · rw [List.dropWhile_cons,if_pos hx] at h
      obtain ⟨rs,e⟩:=ih h
      cases x <;> first | cases hx | skip
      rename_i a
      exact ⟨a :: rs,by rw [e]; rfl⟩
    · rw [List.dropWhile_cons,if_neg hx] at h
      exact ⟨[],by rw [beq_iff_eq.mp h]; rfl⟩
theorem excMro_has {T:String} (hT:veTail.contains (.type T) = true) {l:List Value} (h:excMro l = true):l.contains (.type T) = true:=by
  obtain ⟨rs,rfl⟩:=excMro_at h
  rw [List.contains_eq_mem]
  simp only [List.contains_eq_mem,decide_eq_true_eq] at hT ⊢
  exact List.mem_append_right _ hT
theorem excMro_ne {l:List Value} (h:excMro l = true):l.isEmpty = false:=by
  cases l with
  | nil=>exact absurd h (by decide)
  | cons _ _=>rfl
theorem refuse_exc (self:Value) {l:List Value} (h:excMro l = true):refuseLoop self "__setattr__" l = pure ():=by
  obtain ⟨rs,rfl⟩:=excMro_at h
  induction rs with
  | nil=>exact PySem.F.store_ValueError.passes self
  | cons a r ih =>
    show refuseLoop self "__setattr__" (.ref a :: (r.map Value.ref ++ veTail)) = _
    rw [refuseLoop_ref]
    refine ih ?_
    have:∀ r:List Addr,excMro (r.map Value.ref ++ veTail) = true:=fun r=>by
      induction r with
      | nil=>decide
      | cons b r ih=>exact ih
    exact this r
def xobjIn (K:PySem.W.Frag) (C:Addr):Bool:=match K.lookup C with
  | some ⟨.type "type",_,.cls cd,sl⟩=>(match cd.mro,sl.toList with
    | .ref D :: bm,[_,_,_,_,some (.builtin n),_]=>D == C && !cd.hasDel && excMro bm && n == "ValueError.__new__" && cd.hasDict
    | _,_=>false)
  | _=>false
structure XObj (h:Heap) (C:Addr):Prop where
  ex:∃ nm q N bs bm sn sub ab col dd k0 k1 k2 k3 k5,h.get? C = some (excClassObj nm q C N bs bm true sn sub ab col dd k0 k1 k2 k3 k5 "ValueError.__new__") /\ excMro bm = true
theorem xobj_of {K:PySem.W.Frag} {C:Addr} (q:xobjIn K C = true):∃ nm qn N bs bm sn sub ab col dd k0 k1 k2 k3 k5,K.lookup C = some (excClassObj nm qn C N bs bm true sn sub ab col dd k0 k1 k2 k3 k5 "ValueError.__new__") /\ excMro bm = true:=by
  unfold xobjIn at q
  split at q
  · rename_i dd cd sl ho
    split at q
    · rename_i D bm k0 k1 k2 k3 n k5 hm hs
      simp only [Bool.and_eq_true,beq_iff_eq,Bool.not_eq_true'] at q
      obtain ⟨⟨⟨⟨rfl,hdel⟩,hb⟩,rfl⟩,hd⟩:=q
      obtain ⟨nm,bs,mro,ns,qn,hd',sn,sub,ab,col,del⟩:=cd
      dsimp only at hm hdel hd
      subst hm hdel hd
      have hsl:sl = #[k0,k1,k2,k3,some (.builtin "ValueError.__new__"),k5]:=by
        obtain ⟨l⟩:=sl
        simp only at hs
        rw [hs]
      subst hsl
      exact ⟨nm,qn,ns,bs,bm,sn,sub,ab,col,dd,k0,k1,k2,k3,k5,ho,hb⟩
    · cases q
  · cases q
structure XCls (K:PySem.W.Frag) (C:Addr):Prop where
  obj:xobjIn K C = true
  sa:PySem.W.findIn K (.ref C) "__setattr__" = some (some (.builtin "object.__setattr__"))
  ga:PySem.W.findIn K (.ref C) "__getattribute__" = some (some (.builtin "BaseException.__getattribute__"))
  gh:PySem.W.findIn K (.ref C) "__getattr__" = some none
  cl:PySem.W.findIn K (.ref C) "__class__" = some (some (.builtin "object.__class__"))
  clg:PySem.W.specialIn K (.builtin "object.__class__") "__get__" = some (some (.builtin "getset_descriptor.__get__"))
  clt:PySem.W.takesIn K (.builtin "object.__class__") = some true
theorem excMro_cons {C:Addr} {bm:List Value} (h:excMro bm = true):excMro (.ref C :: bm) = true:=h
theorem XCls.mro {K:PySem.W.Frag} {C:Addr} (c:XCls K C):∃ cd,PySem.W.clsIn K C = some cd /\ excMro cd.mro = true /\ cd.hasDict = true:=by
  obtain ⟨nm,qn,N,bs,bm,sn,sub,ab,col,dd,k0,k1,k2,k3,k5,ho,hb⟩:=xobj_of c.obj
  refine ⟨{ name:=nm,bases:=bs,mro:=.ref C :: bm,ns:=N,qualname:=qn,hasDict:=true,slotNames:=sn,subclasses:=sub,abstract:=ab,collection:=col,hasDel:=false },?_,excMro_cons (C:=C) hb,rfl⟩
  unfold PySem.W.clsIn
  rw [ho]
theorem XCls.at {K:PySem.W.Frag} {C:Addr} {h:Heap} (c:XCls K C) (X:K.In h):XObj h C:=by
  obtain ⟨nm,qn,N,bs,bm,sn,sub,ab,col,dd,k0,k1,k2,k3,k5,ho,hb⟩:=xobj_of c.obj
  exact ⟨nm,qn,N,bs,bm,sn,sub,ab,col,dd,k0,k1,k2,k3,k5,X _ _ ho,hb⟩
theorem XCls.has {K:PySem.W.Frag} {C:Addr} (c:XCls K C) {T:String} (hT:veTail.contains (.type T) = true):PySem.W.mroIn K C (.type T) = some true:=by
  obtain ⟨cd,h1,h2,_⟩:=c.mro
  unfold PySem.W.mroIn
  rw [h1,Option.bind_some,if_neg (by rw [excMro_ne h2]; decide),excMro_has hT h2]
section
variable {prog:Program} {w:World} {A:Around} {E:Value->Shared->Prop} {s:Shared} {K:PySem.W.Frag} {x C:Addr} {ox:Obj} {od:Option Obj} {name:Str} {v:Value}
theorem xget_value {expr:Bool} {Q:Value->Shared->Prop} (X:K.In s.heap) (I:PySem.W.InstAt s.heap x ox C od) (c:XCls K C)
    (hf:PySem.W.findObj K C od name = some (.value v)) (hh:PySem.W.handedIn v = true) (h:Q v { s with toks:=s.toks + 1 }):wpAny (model prog w) A (getAttr (.ref x) name expr) Q E s:=by
  obtain ⟨hp,g,d,t,os⟩:=s
  have L0:=I.type (M:=model prog w)
  have L1:=PySem.W.looks_findIn (M:=model prog w) X c.ga
  have L2:=PySem.W.looks_findIn (M:=model prog w) X c.gh
  have L3:=PySem.W.looks_find (M:=model prog w) X I hf
  have LB:PySem.W.Looks (model prog w) hp (isInstance (.ref x) (.type "BaseException")) true:=L0.andThen (PySem.W.looks_mroIn X (c.has (by decide)))
  have hx1:(onTheHeap (Value.ref C) && Value.builtin "BaseException.__getattribute__" == Value.builtin "object.__getattribute__") = false:=by
    have:(Value.builtin "BaseException.__getattribute__" == Value.builtin "object.__getattribute__") = false:=by decide +kernel
    rw [this,Bool.and_false]
  have hb:=PySem.F.excAttr_ValueError.ga.bind (.ref x)
  unfold getAttr getAttrBy
  refine wpAny_bind (wpAny_mkText (wpAny_holding (wpAny_bind (L0.at (wpAny_bind (L1.at ?_))))))
  dsimp only
  rw [hx1,if_neg (by decide)]
  unfold getAttrByItsOwn
  refine wpAny_bind (m:=hookBefore (.ref C)) ?_
  show wpAny _ _ (typeLookup (.ref C) "__getattr__") _ _ _
  refine L2.at ?_
  refine wpAny_bind (wpAny_attempt (wpAny_holding ?_))
  have e0:(expr && onTheHeap (Value.builtin "BaseException.__getattribute__")) = false:=by cases expr <;> rfl
  unfold callGetattribute
  rw [e0,if_neg (by decide)]
  unfold boundAndCalled
  rw [hb]
  refine wpAny_bind (wpAny_pure ?_)
  refine wpAny_call (codeAny_call_builtin PySem.F.excAttr_ValueError.ga.plain PySem.F.entry_bexc_ga (@PySem.W.check_slot (model prog w) _ _ _ "BaseException.__getattribute__" "BaseException" "__getattribute__" (.ref x) _ [] _ (by decide +kernel) (by decide +kernel) LB (PySem.F.args_bexc_ga _ _) ?_))
  unfold Builtin.«object.__getattribute__»
  refine wpAny_bind (wpAny_pure (wpAny_bind (wpAny_pure (wpAny_bind (L0.at (wpAny_bind (L3.at ?_)))))))
  refine wpAny_pure ?_
  show wpAny _ _ (handedOut v) _ _ _
  rw [PySem.W.handedOut_of hh]; exact wpAny_pure h
theorem xget_class {Q:Option Value->Shared->Prop} (X:K.In s.heap) (I:PySem.W.InstAt s.heap x ox C od) (c:XCls K C) (h:Q (some (.ref C)) { s with toks:=s.toks + 1 }) :
    wpAny (model prog w) A (getAttr? (.ref x) "__class__") Q E s:=by
  obtain ⟨cd,hcd,_⟩:=c.mro
  have hf:PySem.W.findObj K C od "__class__" = some (.bind (.builtin "getset_descriptor.__get__") (.builtin "object.__class__")):=by
    unfold PySem.W.findObj
    rw [hcd,Option.bind_some,c.cl,Option.bind_some]
    dsimp only
    rw [c.clg,Option.bind_some]
    dsimp only
    rw [c.clt,Option.bind_some]
  obtain ⟨hp,g,d,t,os⟩:=s
  have L0:=I.type (M:=model prog w)
  have L1:=PySem.W.looks_findIn (M:=model prog w) X c.ga
  have L2:=PySem.W.looks_findIn (M:=model prog w) X c.gh
  have L3:=PySem.W.looks_find (M:=model prog w) X I hf
  have LB:PySem.W.Looks (model prog w) hp (isInstance (.ref x) (.type "BaseException")) true:=L0.andThen (PySem.W.looks_mroIn X (c.has (by decide)))
  have hx1:(onTheHeap (Value.ref C) && Value.builtin "BaseException.__getattribute__" == Value.builtin "object.__getattribute__") = false:=by
    have:(Value.builtin "BaseException.__getattribute__" == Value.builtin "object.__getattribute__") = false:=by decide +kernel
    rw [this,Bool.and_false]
  have hb:=PySem.F.excAttr_ValueError.ga.bind (.ref x)
  unfold getAttr? getAttrBy? getAttrBy
  refine wpAny_bind (wpAny_mkText (wpAny_bind (wpAny_attempt (wpAny_holding (wpAny_bind (L0.at (wpAny_bind (L1.at ?_))))))))
  dsimp only
  rw [hx1,if_neg (by decide)]
  unfold getAttrByItsOwn
  refine wpAny_bind (m:=hookBefore (.ref C)) ?_
  show wpAny _ _ (typeLookup (.ref C) "__getattr__") _ _ _
  refine L2.at ?_
  refine wpAny_bind (wpAny_attempt (wpAny_holding ?_))
  unfold callGetattribute
  rw [if_neg (by decide)]
  unfold boundAndCalled
  rw [hb]
  refine wpAny_bind (wpAny_pure ?_)
  refine wpAny_call (codeAny_call_builtin PySem.F.excAttr_ValueError.ga.plain PySem.F.entry_bexc_ga (@PySem.W.check_slot (model prog w) _ _ _ "BaseException.__getattribute__" "BaseException" "__getattribute__" (.ref x) _ [] _ (by decide +kernel) (by decide +kernel) LB (PySem.F.args_bexc_ga _ _) ?_))
  unfold Builtin.«object.__getattribute__»
  refine wpAny_bind (wpAny_pure (wpAny_bind (wpAny_pure (wpAny_bind (L0.at (wpAny_bind (L3.at ?_)))))))
  show wpAny _ _ (Builtin.ObjectAttr.bindTo _ _ _ _) _ _ _
  unfold Builtin.ObjectAttr.bindTo
  refine wpAny_bind (wpAny_holding (wpAny_call (PySem.W.class_get (s:=⟨hp,g,d,t + 1,os⟩) X I (c.has (by decide)) ?_)))
  refine wpAny_pure ?_
  show wpAny _ _ (handedOut (.ref C)) _ _ _
  rw [PySem.W.handedOut_of rfl]
  exact wpAny_pure (wpAny_pure h)
theorem kitx_exc (c:XCls K C) {h₁:Heap->Prop} (hI:∀ h,h₁ h->∃ ox od,PySem.W.InstAt h x ox C od):PySem.W.KitX K (.ref x) (.ref C) h₁ where
  ty:=fun _ _ _ I=>let ⟨_,_,J⟩:=hI _ I; J.type
  it:=fun _ _ X _=>by
    obtain ⟨cdD,hcD,_⟩:=c.mro
    unfold PySem.W.clsIn at hcD
    split at hcD
    · rename_i c' d' cd' sl' ho
      intro A' Q' E' s' k q
      unfold isType loadHead
      exact wpAny_bind (wpAny_loadPart (k _ _ (X _ _ ho)) (wpAny_pure q))
    · cases hcD
  ne:=fun h tp dd its n sl X htp=>by
    obtain ⟨cdD,hcD,_⟩:=c.mro
    refine Bool.eq_false_iff.mpr fun q=>?_
    have e:C = tp:=Value.ref.inj (beq_iff_eq.mp q)
    subst e
    unfold PySem.W.clsIn at hcD
    split at hcD
    · rename_i c' d' cd' sl' ho
      have z:=(X _ _ ho).symm.trans htp
      cases z
    · cases hcD
  ca:=fun X p k=>let ⟨_,_,J⟩:=hI _ p; xget_class X J c k
end
open PySem PySem.Spec PyProof.Rows
section
variable {prog:Program} {w:World} {A:Around} {E:Value->Shared->Prop} {s:Shared} {K:PySem.W.Frag} {x C:Addr} {ox:Obj} {od:Option Obj} {name:Str} {v:Value}
theorem xset_open {Q:Unit->Shared->Prop} (X:K.In s.heap) (I:PySem.W.InstAt s.heap x ox C od) (c:XCls K C) (n:NoAttr K C name)
    (h:∀ b,wpAny (model prog w) A.in1 (Builtin.ObjectAttr.storeInOwnDict (.ref x) (.ref C) (.str name s.toks) name v b)
      (fun fin s'=>match fin with | .done (.ret _)=>Q () s' | _=>False) (fun e s'=>E e s') { s with toks:=s.toks + 1 }) :
    wpAny (model prog w) A (setAttr (.ref x) name v) Q E s:=by
  obtain ⟨hp,g,d,t,os⟩:=s
  have SF:=PySem.F.store_ValueError
  obtain ⟨cd,hc,ho,_⟩:=c.mro
  refine PySem.W.set_plain X I c.sa ?_
  have sub:PySem.W.Looks (model prog w) hp (isInstance (.ref x) (.type "object")) true:=I.type.andThen (PySem.W.looks_mroIn X (c.has (by decide)))
  refine codeAny_call_builtin SF.slot.plain SF.entry (@PySem.W.check_slot (model prog w) _ _ _ "object.__setattr__" "object" "__setattr__" (.ref x) [.str name t,v] [] _ SF.kind SF.split sub (SF.args (.ref x) (.str name t) v) ?_)
  have hm:PySem.W.Looks (model prog w) hp (mroOf (.ref C)) cd.mro:=(PySem.W.looks_clsIn X hc).andThen .now
  have LN:=PySem.W.looks_findIn (M:=model prog w) X (show PySem.W.findIn K (.ref C) name = some none from n)
  rw [PySem.W.osa_eq,refuse_eq]
  refine wpAny_bind (wpAny_bind (I.type.at (wpAny_bind (hm.at ?_))))
  rw [refuse_exc _ ho]
  refine wpAny_pure (wpAny_bind (I.type.at (wpAny_bind (LN.at (wpAny_bind (wpAny_pure ?_))))))
  refine wpAny_mono (h false) (fun fin s' z=>?_) fun _ _ z=>z
  rcases fin with (_ | _ | _ | _) | _ <;> first | exact z | exact z.elim
theorem xset_first {vs:Array Value} {sl:Array (Option Value)} {Q:Unit->Shared->Prop} (X:K.In s.heap) (hx:s.heap.get? x = some ⟨.ref C,none,.fields vs,sl⟩) (c:XCls K C) (n:NoAttr K C name)
    (h:∀ h' tk',h'.get? x = some ⟨.ref C,some s.heap.objs.size,.fields vs,sl⟩->h'.Ns1 s.heap.objs.size (fun y=>if y = name then some v else none)->(∀ b o,b ≠ x->s.heap.get? b = some o->h'.get? b = some o) →
      Q () { s with heap:=h',toks:=tk' }) :
    wpAny (model prog w) A (setAttr (.ref x) name v) Q E s:=by
  have I:PySem.W.InstAt s.heap x ⟨.ref C,none,.fields vs,sl⟩ C none:=⟨hx,rfl,rfl,trivial⟩
  refine xset_open X I c n fun b=>?_
  obtain ⟨hp,g,d,t,os⟩:=s
  obtain ⟨cd,hc,ho,hd⟩:=c.mro
  have LC:=PySem.W.looks_clsIn (M:=model prog w) X hc
  unfold Builtin.ObjectAttr.storeInOwnDict
  refine wpAny_bind (wpAny_pure ?_)
  refine wpAny_bind (m:=Builtin.ObjectAttr.ownDictForStores _) ?_
  show wpAny _ _ (instanceDict x true) _ _ _
  unfold instanceDict
  refine wpAny_bind (wpAny_loadPart hx ?_)
  dsimp only
  refine wpAny_bind (LC.at ?_)
  rw [hd]
  have hx1:(hp.push { cls:=.type "dict",data:=.dict #[] }).get? x = some ⟨.ref C,none,.fields vs,sl⟩:=Heap.get?_push_of_some _ hx
  have hxs:x ≠ hp.objs.size:=Nat.ne_of_lt (Heap.lt_size hx)
  show wpAny _ _ (do let dd ← alloc { cls:=.type "dict",data:=.dict #[] }; update x (fun o=>{ o with dict:=some dd }); dictMade (.ref C) x dd) _ _ _
  refine wpAny_bind (wpAny_alloc' ?_)
  refine wpAny_bind (wpAny_update' hx1 ?_)
  refine wpAny_pure ?_
  have hgd:((hp.push { cls:=.type "dict",data:=.dict #[] }).update x fun o=>{ o with dict:=some hp.objs.size }).get? hp.objs.size = some { cls:=.type "dict",data:=.dict #[] } :=
    (Heap.get?_update_ne _ _ _ _ hxs.symm).trans (Heap.get?_push_at rfl rfl)
  have hnd:((hp.push { cls:=.type "dict",data:=.dict #[] }).update x fun o=>{ o with dict:=some hp.objs.size }).Ns hp.objs.size (fun _=>none):=⟨_,#[],_,hgd,rfl,fun e he=>absurd he (by simp),fun _=>rfl⟩
  show wpAny _ _ (Builtin.ObjectAttr.storeInDict hp.objs.size (.str name t) name v) _ _ _
  unfold Builtin.ObjectAttr.storeInDict Builtin.ObjectAttr.newKeyGuard
  refine wpAny_bind (wpAny_pure (wpAny_bind (wpAny_nsSet1 (Heap.Ns1.of_empty hnd) fun h' hn' hs=>?_)))
  obtain ⟨oD,esD,epD,hoD,hdD,hcD⟩:=hn'.count (Within.cons name v Within.nil)
  refine wpAny_bind (wpAny_lookBehind hoD (by rw [hdD]; exact pastItsLine_dict (Nat.le_trans hcD (by rw [List.length_cons,List.length_nil,sizeLine_eq]; omega))) ?_)
  refine wpAny_pure (h h' _ ?_ hn' fun b o hb e=>?_)
  · exact (hs.2 x hxs).trans (Heap.get?_update_self _ hx1 rfl)
  · exact (hs.2 b (Nat.ne_of_lt (Heap.lt_size e))).trans ((Heap.get?_update_ne _ _ _ _ hb).trans (Heap.get?_push_of_some _ e))
end
open PySem PySem.Spec PyProof.Rows
abbrev excNew (C t:Addr):Obj:={ cls:=.ref C,data:=.fields #[.ref t,.none,.none,.none,.bool false,.none] }
abbrev tupNew (rest:List Value):Obj:={ cls:=.type "tuple",data:=.seq rest.toArray }
theorem own_has {C:Addr} {bm:List Value} (hb:excMro bm = true) {T:String} (hT:veTail.contains (.type T) = true):(Value.ref C :: bm).contains (.type T) = true:=by
  rw [List.contains_cons,excMro_has hT hb,Bool.or_true]
theorem own_not {C:Addr} {bm:List Value} (hb:excMro bm = true) {T:String} (hT:veTail.contains (.type T) = false):(Value.ref C :: bm).contains (.type T) = false:=by
  obtain ⟨rs,rfl⟩:=excMro_at hb
  rw [List.contains_cons,List.contains_eq_mem,decide_eq_false,Bool.or_false]
  · rfl
  · intro hm
    rcases List.mem_append.mp hm with h | h
    · obtain ⟨a,_,e⟩:=List.mem_map.mp h
      cases e
    · rw [List.contains_eq_mem] at hT
      exact (of_decide_eq_false hT) h
section
variable {prog:Program} {w:World} {A:Around} {E:Value->Shared->Prop} {h:Heap} {g:Array GenState} {d:Drawn} {t:Nat} {os:OsState} {K:PySem.W.Frag} {C f:Addr}
variable {nm q:Str} {N:Addr} {bs bm:List Value} {sn:List Str} {sub:List Value} {ab:Bool} {col:Option Bool} {dd:Option Addr} {k0 k1 k2 k3 k5:Option Value}
theorem xcheck_new {M:Model} {rest:List Value} {Q:Unit->Shared->Prop} (hb:excMro bm = true) (hC:h.get? C = some (excClassObj nm q C N bs bm true sn sub ab col dd k0 k1 k2 k3 k5 "ValueError.__new__")) (hq:Q () ⟨h,g,d,t,os⟩) :
    wpAny M A (checkBuiltinCall "ValueError.__new__" ⟨.ref C :: rest,[]⟩) Q E ⟨h,g,d,t,os⟩:=by
  have F:=PySem.F.excBase_ValueError
  have hcont:=own_has (C:=C) hb (T:="ValueError") (by decide)
  have hstar:=F.noStar
  simp only [checkBuiltinCall,F.newKind,F.newSplit,F.newRow]
  repeat (first
    | refine wpAny_loadPart_at hC ?_
    | (refine wpAny_isSubtype_exc hC ?_; rw [hcont])
    | refine wpAny_staticBase_exc hC ?_
    | refine wpAny_madeBy_exc hC ?_
    | simp only [bne_self_eq_false,Bool.false_eq_true,if_false]
    | wp_step)
  exact hq
theorem xcode_new {R:Result->Shared->Prop} {rest:List Value} (hb:excMro bm = true) (hC:h.get? C = some (excClassObj nm q C N bs bm true sn sub ab col dd k0 k1 k2 k3 k5 "ValueError.__new__")) (hrest:rest.length ≤ sizeLine)
    (hq:R (.ok (.ret (.ref (h.objs.size + 1)))) ⟨(h.push (tupNew rest)).push (excNew C h.objs.size),g,d,t,os⟩) :
    codeAny (model prog w) A (.builtin "ValueError.__new__" ⟨.ref C :: rest,[]⟩) R ⟨h,g,d,t,os⟩:=by
  have F:=PySem.F.excBase_ValueError
  have hends:=F.ends
  have hcB:=own_has (C:=C) hb (T:="ValueError") (by decide)
  have hcA:=own_not (C:=C) hb (T:="AttributeError") (by decide)
  have hcN:=own_not (C:=C) hb (T:="NameError") (by decide)
  refine codeAny_builtinAt F.entry ?_
  unfold Builtin.«BaseException.__new__»
  refine PySem.wpAt_bind ?_
  show PySem.wpAt _ _ _ (stack >>= _) _ _ _
  refine PySem.wpAt_bind (PySem.wpAt_stack fun p below=>PySem.wpAt_of_wpAny ?_)
  wp_walk
  refine PySem.wpAt_of_wpAny ?_
  rw [F.owner]
  repeat (first
    | with_reducible refine wpAny_madeHere_exc F.canon hC ?_
    | with_reducible refine wpAny_loadPart_at hC ?_
    | (with_reducible refine wpAny_isSubtype_exc hC ?_; first | rw [hcB] | rw [hcA] | rw [hcN])
    | wp_step)
  show R _ _
  rw [Heap.size_push]
  exact hq
theorem xkeeps {rest:List Value}:∀ b o,h.get? b = some o->((h.push (tupNew rest)).push (excNew C h.objs.size)).get? b = some o:=fun b o e=>Heap.get?_push_of_some _ (Heap.get?_push_of_some _ e)
theorem xnew_at {rest:List Value}:((h.push (tupNew rest)).push (excNew C h.objs.size)).get? (h.objs.size + 1) = some (excNew C h.objs.size):=by
  have:=Heap.get?_push_size (h.push (tupNew rest)) (o:=excNew C h.objs.size) rfl
  rwa [Heap.size_push] at this
theorem xtype_call {rest:List Value} {Q:Fin->Shared->Prop} (hb:excMro bm = true) (hC:h.get? C = some (excClassObj nm q C N bs bm true sn sub ab col dd k0 k1 k2 k3 k5 "ValueError.__new__")) (hrest:rest.length ≤ sizeLine) (X:K.In h)
    (hi:PySem.W.findIn K (.ref C) "__init__" = some (some (.ref f))) (hf:PySem.W.typeIn K (.ref f) = some (.type "function"))
    (hq:wpAny (model prog w) A (call (.ref f) (.ref (h.objs.size + 1) :: rest)) (fun r s'=>r = .none /\ Q (.done (.ret (.ref (h.objs.size + 1)))) s') E ⟨(h.push (tupNew rest)).push (excNew C h.objs.size),g,d,t,os⟩) :
    wpAny (model prog w) A (Builtin.«type.__call__» ⟨.ref C :: rest,[]⟩) Q E ⟨h,g,d,t,os⟩:=by
  have F:=PySem.F.excBase_ValueError
  repeat (first | with_reducible refine wpAny_loadPart_at hC ?_ | with_reducible refine wpAny_madeBy_exc hC ?_ | wp_step)
  refine codeAny_call_builtin_code (Code.quiet_builtin _ F.quiet) (xcheck_new hb hC ?_)
  refine xcode_new hb hC hrest ?_
  show wpAny _ _ _ _ _ _
  have X1:K.In ((h.push (tupNew rest)).push (excNew C h.objs.size)):=X.keeps xkeeps
  have hC1:=xkeeps (C:=C) (rest:=rest) _ _ hC
  have hcC:(Value.ref C :: bm).contains (.ref C) = true:=by simp
  have L1:=PySem.W.looks_findIn (M:=model prog w) X1 hi
  have L2:=PySem.W.bind_fn (M:=model prog w) X1 (.ref (h.objs.size + 1)) hf
  unfold isInstance
  repeat (first | with_reducible refine wpAny_loadPart_at xnew_at ?_ | (with_reducible refine wpAny_isSubtype_exc hC1 ?_; rw [hcC]) | wp_step)
  show wpAny _ _ (typeLookup (.ref C) _) _ _ _
  refine L1.at ?_
  refine wpAny_holding (wpAny_bind (L2.at ?_))
  refine wpAny_bind (wpAny_mono hq (fun r s' hr=>?_) fun _ _ x=>x)
  obtain ⟨rfl,hQ⟩:=hr
  wp_walk
  exact hQ
theorem xcall_init {rest:List Value} {Q:Value->Shared->Prop} (X:K.In h) (c:XCls K C) (hrest:rest.length ≤ sizeLine)
    (hi:PySem.W.findIn K (.ref C) "__init__" = some (some (.ref f))) (hf:PySem.W.typeIn K (.ref f) = some (.type "function"))
    (hq:wpAny (model prog w) (A.under (.builtin "type.__call__" ⟨.ref C :: rest,[]⟩)) (call (.ref f) (.ref (h.objs.size + 1) :: rest)) (fun r s'=>r = .none /\ Q (.ref (h.objs.size + 1)) s') E ⟨(h.push (tupNew rest)).push (excNew C h.objs.size),g,d,t,os⟩) :
    wpAny (model prog w) A (call (.ref C) rest) Q E ⟨h,g,d,t,os⟩:=by
  obtain ⟨nm,qn,N,bs,bm,sn,sub,ab,col,dd,k0,k1,k2,k3,k5,hC,hb⟩:=(c.at X).ex
  have f1:=tc_lookup
  have f2:=tc_bind (.ref C)
  have hT:(⟨h,g,d,t,os⟩:Shared).TypeIs (.ref C) "type":=⟨_,hC,rfl⟩
  refine wpAny_call (codeAny_of_tree ?_)
  show wpAny _ _ (callAny (.ref C) _) _ _ _
  repeat (any_goals (first | assumption | with_reducible refine wpAny_loadPart_at hC ?_ | wp_step))
  refine ⟨rfl,?_⟩
  exact codeAny_call_builtin_at (Code.quiet_builtin _ (by decide +kernel)) entry_typeCall (wpAny_check_type_call_sub hC (xtype_call hb hC hrest X hi hf hq))
end
open PySem PySem.Spec PyProof.Rows
def IsExc (raw ch:Bool) (e C:Addr) (od:Option Addr) (h:Heap):Prop:=∃ vs sl,h.get? e = some ⟨.ref C,od,.fields vs,sl⟩ /\ vs.size = 6 /\ (raw = true->vs[1]? = some .none) /\ (ch = false->vs[2]? = some .none)
def IsXd (dx:Addr) (fs:List (Str × V)) (h:Heap):Prop:=∃ mA,h.Ns1 dx mA /\ (∀ f,RelO (fs.lookup f) (mA f)) /\ PySem.Within mA (fs.map (·.1))
abbrev exO (raw ch:Bool) (e C:Addr) (od:Option Addr):HO:=.ext (IsExc raw ch e C od)
def Flown (H:Hp) (e C:Addr) (od:Option Addr):Prop:=∃ ch,H e = some (exO false ch e C od)
abbrev xdO (dx:Addr) (fs:List (Str × V)):HO:=.ext (IsXd dx fs)
def ExcAt (H:Hp) (e C:Addr) (fs:List (Str × V)):Prop:=∃ raw ch od,H e = some (exO raw ch e C od) /\ match od with
  | none=>fs = []
  | some dx=>H dx = some (xdO dx fs) /\ dx ≠ e
section
variable {P:Program} {w:World} {H:Hp} {h:Heap} {e C dx:Addr} {od:Option Addr} {raw ch:Bool} {fs:List (Str × V)}
theorem objOk_exc (x:IsExc raw ch e C od h):ObjOk P w H h e (exO raw ch e C od):=by
  refine ⟨x,?_,?_⟩
  · obtain ⟨vs,sl,q,_⟩:=x
    exact ⟨_,q⟩
  · rintro h1 h2 ⟨vs,sl,q,r⟩ k
    exact ⟨vs,sl,k _ q,r⟩
theorem objOk_xd (x:IsXd dx fs h):ObjOk P w H h dx (xdO dx fs):=by
  refine ⟨x,?_,?_⟩
  · obtain ⟨mA,⟨o,es,ep,q,_⟩,_⟩:=x
    exact ⟨o,q⟩
  · rintro h1 h2 ⟨mA,⟨o,es,ep,q,r⟩,z⟩ k
    exact ⟨mA,⟨o,es,ep,k _ q,r⟩,z⟩
theorem exc_of (x:HOk P w H h) (q:H e = some (exO raw ch e C od)):IsExc raw ch e C od h:=(x e _ q).1
theorem xd_of (x:HOk P w H h) (q:H dx = some (xdO dx fs)):IsXd dx fs h:=(x dx _ q).1
end
section
variable {X:Cx} {pins:List (Addr × Obj)} {σ:St} {H:Hp} {s:Shared} {a C dx:Addr} {od:Option Addr} {raw ch:Bool} {fs:List (Str × V)} {f:Str} {v:V} {A:Around} {E:Value->Shared->Prop}
theorem ExcAt.inst (I:Inv X pins σ H s) (e:ExcAt H a C fs):∃ ox od,PySem.W.InstAt s.heap a ox C od /\ ∀ f v,fs.lookup f = some v->∃ o u,od = some o /\ PySem.W.lookIn f o = some (some u) /\ RelV v u:=by
  obtain ⟨raw,ch,od,h1,h2⟩:=e
  obtain ⟨vs,sl,q,_⟩:=exc_of I.hok h1
  cases od with
  | none =>
    subst h2
    exact ⟨_,none,⟨q,rfl,rfl,trivial⟩,fun f v h=>by simp at h⟩
  | some dx =>
    obtain ⟨mA,n,r,_⟩:=xd_of I.hok h2.1
    obtain ⟨o,ho,hl⟩:=lookIn_ns n
    refine ⟨_,some o,⟨q,rfl,rfl,ho⟩,fun f v h=>?_⟩
    obtain ⟨u,hu,ru⟩:=RelO.some_of (v:=v) (o:=mA f) (by rw [← h]; exact r f)
    exact ⟨o,u,rfl,by rw [hl,hu],ru⟩
theorem xgetattr_ok {b:Bool} {Q:Value->Shared->Prop} (I:Inv X pins σ H s) (e:ExcAt H a C fs) (c:XCls X.K C) (n:NoAttr X.K C f) (l:fs.lookup f = some v)
    (h:∀ u s',Inv X pins σ H s'->RelV v u->Q u s'):wpAny (model X.prog X.w) A (getAttr (.ref a) f b) Q E s:=by
  obtain ⟨ox,od,J,hl⟩:=e.inst I
  obtain ⟨o,u,rfl,lk,ru⟩:=hl f v l
  obtain ⟨cd,hc,_,hd⟩:=c.mro
  exact xget_value I.kIn J c (PySem.W.findObj_own (by unfold PySem.W.hasDictIn; rw [hc]; exact hd) n rfl lk) (handed_of ru) (h u _ (I.tok _) ru)
theorem xsetattr_first {y:V} {u:Value} {Q:Unit->Shared->Prop} (I:Inv X pins σ H s) (e:H a = some (exO raw ch a C none)) (c:XCls X.K C) (n:NoAttr X.K C f) (ry:RelV y u)
    (h:∀ dx s',H dx = none->Inv X pins σ (upd (upd H dx (xdO dx [(f,y)])) a (exO raw ch a C (some dx))) s'->Q () s'):wpAny (model X.prog X.w) A (setAttr (.ref a) f u) Q E s:=by
  obtain ⟨vs,sl,q,hv⟩:=exc_of I.hok e
  refine xset_first I.kIn q c n fun h' tk' h1 h2 h3=>?_
  have hn:H s.heap.objs.size = none:=I.hok.fresh (Nat.le_refl _)
  have hna:a ≠ s.heap.objs.size:=Nat.ne_of_lt (Heap.lt_size q)
  refine h s.heap.objs.size _ hn ?_
  have hd2:IsXd s.heap.objs.size [(f,y)] h':=by
    refine ⟨_,h2,fun g=>?_,fun g hg=>?_⟩
    · show RelO (List.lookup g [(f,y)]) (if g = f then some u else none)
      rw [List.lookup_cons]
      by_cases z:g = f
      · subst z; rw [if_pos rfl]; simp; exact ry
      · rw [if_neg z,show (g == f) = false by simpa using z]; exact True.intro
    · by_cases z:g = f
      · subst z; simp
      · exact absurd (if_neg z) hg
  have hE:IsExc raw ch a C (some s.heap.objs.size) h':=⟨vs,sl,h1,hv⟩
  have hu:Un X.fs [] H (upd (upd H s.heap.objs.size (xdO s.heap.objs.size [(f,y)])) a (exO raw ch a C (some s.heap.objs.size))) s.heap h':=by
    have nn:∀ b o,s.heap.get? b = some o->b ≠ s.heap.objs.size:=fun b o e=>Nat.ne_of_lt (Heap.lt_size e)
    refine ⟨fun b o e' n' _ _=>h3 b o (fun z=>by rw [z,e] at n'; cases n') e',fun b o e' n' _ _=>⟨o.slots,h3 b o (fun z=>by rw [z,e] at n'; cases n') e'⟩,fun b o e' n' _=>?_,fun b o e' _=>?_,fun b xs e'=>?_,fun b o u' e'=>?_,fun b ps e'=>⟨#[],?_⟩⟩
    · rw [upd_ne (fun z=>by rw [z,e] at n'; cases n'),upd_ne (nn b o e')]; exact n'
    · by_cases z:b = a
      · subst z; exact ⟨_,h1⟩
      · exact ⟨o,h3 b o z e'⟩
    · rw [upd_ne (fun z=>by rw [z,e] at e'; cases e'),upd_ne (ne_of_none e' hn)]; exact e'
    · rw [upd_ne (fun z=>by rw [z,e] at e'; cases e'),upd_ne (ne_of_none e' hn)]; exact e'
    · rw [upd_ne (fun z=>by rw [z,e] at e'; cases e'),upd_ne (ne_of_none e' hn),e']; simp
  refine I.un hu fun b o e'=>?_
  by_cases z:b = a
  · subst z; rw [upd_same] at e'; cases e'; exact objOk_exc hE
  · rw [upd_ne z] at e'
    by_cases z2:b = s.heap.objs.size
    · subst z2; rw [upd_same] at e'; cases e'; exact objOk_xd hd2
    · rw [upd_ne z2] at e'
      refine (I.hok b o e').stay (fun c' v' hc q'=>h3 c' v' ?_ q') (fun c' q'=>?_) fun c' xs q'=>?_
      · rcases hc with hc | hc
        · rw [hc]; exact z
        · intro z3; rw [z3,e] at hc; cases hc
      · rw [upd_ne (fun z3=>by rw [z3,e] at q'; cases q'),upd_ne (ne_of_none q' hn)]; exact q'
      · rw [upd_ne (fun z3=>by rw [z3,e] at q'; cases q'),upd_ne (ne_of_none q' hn)]; exact q'
end
def tXFld (K:PySem.W.Frag) (ta:TE) (f:Str):TE:=fun σ H Q=>ta σ H fun x H1=>∃ a C fs v,x = .ref a /\ ExcAt H1 a C fs /\ XCls K C /\ NoAttr K C f /\ fs.lookup f = some v /\ Q v H1
def sXFld1 (K:PySem.W.Frag) (ta tv:TE) (f:Str):TS:=fun D σ H=>tv σ H fun y H1=>ta σ H1 fun x H2=>∃ a C raw,x = .ref a /\ H2 a = some (exO raw false a C none) /\ XCls K C /\ NoAttr K C f ∧
  ∀ dx,H2 dx = none->D.nx σ (upd (upd H2 dx (xdO dx [(f,y)])) a (exO raw false a C (some dx)))
section
variable {X:Cx} {o e value:Expr} {f:Str} {pos pos':Pos} {ta tv:TE}
theorem pe_xfld (he:PE X e ta) (hb:attributeBase e f X.env (eval e X.env) = eval e X.env):PE X (.Attribute e f pos) (tXFld X.K ta f):=by
  intro pins s σ H Q I h
  refine attr_of hb (thn (he pins s σ H _ I h) fun u s1 ⟨x,H1,I1,rx,a,C,fs,v,ex,ea,c,n,l,q⟩=>?_)
  subst ex
  obtain rfl:u = Value.ref a:=rx
  exact xgetattr_ok I1 ea c n l fun u' s2 I2 ru=>⟨v,H1,I2,ru,q⟩
theorem ps_xfld1 (ha:PE X o ta) (hv:PE X value tv) (hs:swapsWith value (some (.Attribute o f pos')) pos.line X.env = pure false):PS X (.Assign [.Attribute o f pos'] value pos) (sXFld1 X.K ta tv f):=by
  intro pins s σ H D I h
  refine plainObj_wpAny_Assign_Attribute (thn (hv pins s σ H _ I h) fun u s1 ⟨y,H1,I1,ry,q⟩=>thn (ha pins s1 σ H1 _ I1 q) fun ov s2 ⟨x,H2,I2,rx,a,C,raw,ex,ea,c,n,q2⟩=>?_) hs
  subst ex
  obtain rfl:ov = Value.ref a:=rx
  exact xsetattr_first I2 ea c n ry fun dx s3 hdx I3=>⟨σ,_,I3,q2 dx hdx⟩
theorem call_isinstX:CallR X (.builtin "isinstance") (fun xs H Q=>∃ a C fs c cv b,xs = [.ref a,c] /\ clsV c = some cv /\ ExcAt H a C fs /\ XCls X.K C /\ PySem.W.kitOne X.K (.ref C) cv = some b /\ Q (.bl b) H):=by
  rintro pins s σ H xs us Q I r ⟨a,C,fs,c,cv,b,rfl,hc,ea,cl,e,q⟩
  obtain ⟨u,v,rfl,ru,rv⟩:=vals2 r
  have hv:v = cv:=by
    cases c <;> simp [clsV] at hc <;> subst hc <;> exact rv
  subst hv
  cases (show u = Value.ref a from ru)
  exact PySem.W.kia_one (kitx_exc (h₁:=fun h=>∃ ox od,PySem.W.InstAt h a ox C od) cl fun _ z=>z) I.kIn (let ⟨ox,od,J,_⟩:=ea.inst I; ⟨ox,od,J⟩) e (fun z=>nomatch z) fun tk=>⟨.bl b,H,I.tok tk,rfl,q⟩
end
open PySem PySem.Spec PyProof.Rows
def Fly (h:Heap) (e T:Addr) (fl:Value):Prop:=∃ oe vs oT ts,h.get? e = some oe /\ oe.data = .fields vs /\ vs[1]? = some (.ref T) /\ h.get? T = some oT /\ oT.data = .fields ts /\ ts[3]? = some fl /\ T ≠ e
structure Noted (fs ch:List Addr) (e T:Addr) (fl:Value) (h h':Heap):Prop where
  keep:∀ b o,b ∉ fs->b ∉ ch->b ≠ e->h.get? b = some o->h'.get? b = some o
  slot:∀ b o,b ∈ fs->b ∉ ch->b ≠ e->h.get? b = some o->∃ sl,h'.get? b = some { o with slots:=sl }
  new:h.objs.size ≤ T
  exc:∀ oe vs,h.get? e = some oe->oe.data = .fields vs->h'.get? e = some (oe.mapFields (·.setIfInBounds 1 (.ref T)))
  fly:Fly h' e T fl
section
variable {M:Model} {A:Around} {E:Value->Shared->Prop} {s:Shared} {base:Heap} {env:Env} {outer:List Env} {L e:Addr} {oe:Obj} {vs:Array Value} {Q:Unit->Shared->Prop}
theorem entry_ok {head:Value} {b:Bool} (hfr:A.frames = some (env :: outer)) (hl:s.heap.FunFrames base (env :: outer)) (hf:env.frame = some L) (he:s.heap.get? e = some oe) (hd:oe.data = .fields vs) (hsz:1 < vs.size)
    (h:∀ h' T,Noted (frs (env :: outer)) [] e T (rawInt L) s.heap h'->Q () { s with heap:=h' }) :
    wpAny M A (do let a ← frameOf env; let pl ← entryPlaceOf L b; let x ← EntryCells.newEntry head a .none (rawInt L) .none pl; setField (.ref e) 1 x) Q E s:=by
  have hene:e ∉ frs (env :: outer):=fun hm=>by
    obtain ⟨_,o,ho,hnf⟩:=hl.mem hm
    rw [he] at ho
    cases ho
    exact hnf vs hd
  refine wpAny_bind (wpAny_frameOf_fun hfr hl hf fun h1 hs=>?_)
  refine wpAny_bind (wpAny_entryPlaceOf fun pl hpl=>?_)
  unfold EntryCells.newEntry newFields
  refine wpAny_bind (wpAny_newObj_type ?_ (hpl.sizeOk5 _ _ _ _ _))
  have he1:h1.get? e = some oe:=(hs.2.1 e hene).trans he
  generalize hT:({ cls:=.type "traceback",dict:=none,data:=.fields ([head,.ref L,.none,rawInt L,.none] ++ (if pl.isEmpty then List.replicate 6 Value.none else pl)).toArray }:Obj) = oT
  have he2:=Heap.get?_push_of_some (h:=h1) oT he1
  refine wpAny_setField he2 hd hsz (h _ h1.objs.size ?_)
  have hTe:h1.objs.size ≠ e:=Nat.ne_of_gt (Heap.lt_size he1)
  have hd3:=Obj.data_mapFields hd (·.setIfInBounds 1 (Value.ref h1.objs.size))
  have he3:=Heap.get?_update_self (Obj.mapFields (·.setIfInBounds 1 (Value.ref h1.objs.size))) he2 (Obj.isFreed_of_fields hd3)
  have hT3:((h1.push oT).update e (Obj.mapFields (·.setIfInBounds 1 (Value.ref h1.objs.size)))).get? h1.objs.size = some oT :=
    (Heap.get?_update_other _ _ (Ne.symm hTe)).trans (Heap.get?_push_size h1 (by rw [← hT]; rfl))
  have keep:∀ b o,b ≠ e->h1.get? b = some o->((h1.push oT).update e (Obj.mapFields (·.setIfInBounds 1 (Value.ref h1.objs.size)))).get? b = some o:=fun b o hb q=>by
    rw [Heap.get?_update_other _ _ (Ne.symm hb)]
    exact Heap.get?_push_of_some _ q
  refine ⟨fun b o hb _ hbe q=>keep b o hbe ((hs.2.1 b hb).trans q),fun b o hb _ hbe q=>?_,?_,fun oe' vs' q' d'=>?_,?_⟩
  · obtain ⟨sl,z⟩:=hs.2.2 b o q
    exact ⟨sl,keep b _ hbe z⟩
  · rw [hs.1]; exact Nat.le_refl _
  · rw [he] at q'; cases q'; exact he3
  · refine ⟨_,_,oT,_,he3,hd3,by simp [hsz],hT3,by rw [← hT],?_,hTe⟩
    simp
theorem note_new (hfr:A.frames = some (env :: outer)) (hl:s.heap.FunFrames base (env :: outer)) (hf:env.frame = some L) (he:s.heap.get? e = some oe) (hd:oe.data = .fields vs) (h1:vs[1]? = some .none)
    (h:∀ h' T,Noted (frs (env :: outer)) [] e T (rawInt L) s.heap h'->Q () { s with heap:=h' }):wpAny M A (noteFrame (.ref e) env) Q E s:=by
  unfold noteFrame
  simp only [hf]
  refine wpAny_bind (wpAny_field he hd h1 ?_)
  rw [if_neg (by decide)]
  exact entry_ok hfr hl hf he hd (Array.getElem?_eq_some_iff.mp h1).1 h
theorem note_next {T:Addr} (hfr:A.frames = some (env :: outer)) (hl:s.heap.FunFrames base (env :: outer)) (hf:env.frame = some L) (hF:Fly s.heap e T .none)
    (h:∀ h' T',Noted (frs (env :: outer)) [T] e T' (rawInt L) s.heap h'->Q () { s with heap:=h' }):wpAny M A (noteFrame (.ref e) env) Q E s:=by
  obtain ⟨oe,vs,oT,ts,he,hd,h1,hT,hdT,h3,hTe⟩:=hF
  unfold noteFrame
  simp only [hf]
  refine wpAny_bind (wpAny_field he hd h1 ?_)
  rw [if_pos (show (Value.ref T != Value.none) = true from by simp)]
  refine wpAny_bind (wpAny_field hT hdT h3 ?_)
  rw [if_neg (show ¬ ((Value.none == rawInt L) = true) from by simp [rawInt])]
  refine wpAny_bind (wpAny_setField hT hdT (Array.getElem?_eq_some_iff.mp h3).1 ?_)
  have other:∀ b,b ≠ T->(s.heap.update T (Obj.mapFields (·.setIfInBounds 3 Value.none))).get? b = s.heap.get? b:=fun b hb=>Heap.get?_update_other _ _ (Ne.symm hb)
  have nrec:∀ b o,s.heap.get? b = some o->(∀ vs,o.data ≠ .fields vs)->b ≠ T:=fun b o hb hnf q=>by
    rw [q,hT] at hb
    cases hb
    exact hnf ts hdT
  have sz:(s.heap.update T (Obj.mapFields (·.setIfInBounds 3 Value.none))).objs.size = s.heap.objs.size:=Heap.size_after_update _ _ _
  refine entry_ok hfr (hl.of_keeps fun b o hb hnf=>⟨o,(other b (nrec b o hb hnf)).trans hb,rfl⟩) hf ((other e (Ne.symm hTe)).trans he) hd (Array.getElem?_eq_some_iff.mp h1).1 fun h' T' N=>h h' T' ?_
  dsimp only at N
  refine ⟨fun b o hb hc hbe q=>N.keep b o hb (by simp) hbe ((other b (by simpa using hc)).trans q),fun b o hb hc hbe q=>N.slot b o hb (by simp) hbe ((other b (by simpa using hc)).trans q),?_,fun oe' vs' q d=>N.exc oe' vs' ((other e (Ne.symm hTe)).trans q) d,N.fly⟩
  rw [← sz]; exact N.new
theorem flight_none {T:Addr} {fl:Value} (hF:Fly s.heap e T fl) (h:∀ h',(∀ b o,b ≠ T->s.heap.get? b = some o->h'.get? b = some o)->h'.objs.size = s.heap.objs.size->Fly h' e T .none->Q () { s with heap:=h' }):wpAny M A (setFlight (.ref e) none) Q E s:=by
  obtain ⟨oe,vs,oT,ts,he,hd,h1,hT,hdT,h3,hTe⟩:=hF
  have hsz:3 < ts.size:=(Array.getElem?_eq_some_iff.mp h3).1
  have other:∀ b,b ≠ T->(s.heap.update T (Obj.mapFields (·.setIfInBounds 3 ((none:Option Addr).elim Value.none fun f=>rawInt f)))).get? b = s.heap.get? b:=fun b hb=>Heap.get?_update_other _ _ (Ne.symm hb)
  unfold setFlight
  refine wpAny_bind (wpAny_field he hd h1 ?_)
  rw [if_pos (show (Value.ref T != Value.none) = true from by simp)]
  refine wpAny_setField hT hdT hsz (h _ (fun b o hb q=>(other b hb).trans q) (Heap.size_after_update _ _ _) ?_)
  exact ⟨oe,vs,_,_,(other e (Ne.symm hTe)).trans he,hd,h1,Heap.get?_update_self _ hT (Obj.isFreed_of_fields (Obj.data_mapFields hdT _)),Obj.data_mapFields hdT _,by simp [hsz],hTe⟩
theorem Noted.landed {fs ch:List Addr} {T:Addr} {fl:Value} {h h1 h2:Heap} (N:Noted fs ch e T fl h h1) (k:∀ b o,b ≠ T->h1.get? b = some o->h2.get? b = some o) (F:Fly h2 e T .none):Noted fs ch e T .none h h2:=by
  have nT:∀ b o,h.get? b = some o->b ≠ T:=fun b o q=>Nat.ne_of_lt (Nat.lt_of_lt_of_le (Heap.lt_size q) N.new)
  refine ⟨fun b o hb hc hbe q=>k b o (nT b o q) (N.keep b o hb hc hbe q),fun b o hb hc hbe q=>?_,N.new,fun oe vs q d=>k e _ (nT e oe q) (N.exc oe vs q d),F⟩
  obtain ⟨sl,z⟩:=N.slot b o hb hc hbe q
  exact ⟨sl,k b _ (nT b o q) z⟩
theorem leave_new (hfr:A.frames = some (env :: outer)) (hl:s.heap.FunFrames base (env :: outer)) (hf:env.frame = some L) (he:s.heap.get? e = some oe) (hd:oe.data = .fields vs) (h1:vs[1]? = some .none)
    (h:∀ h' T,Noted (frs (env :: outer)) [] e T .none s.heap h'->Q () { s with heap:=h' }):wpAny M A (leaving env (.ref e)) Q E s:=by
  unfold leaving
  exact wpAny_bind (note_new hfr hl hf he hd h1 fun h' T N=>flight_none (s:={ s with heap:=h' }) N.fly fun h2 k _ F=>h h2 T (N.landed k F))
theorem leave_next {T:Addr} (hfr:A.frames = some (env :: outer)) (hl:s.heap.FunFrames base (env :: outer)) (hf:env.frame = some L) (hF:Fly s.heap e T .none)
    (h:∀ h' T',Noted (frs (env :: outer)) [T] e T' .none s.heap h'->Q () { s with heap:=h' }):wpAny M A (leaving env (.ref e)) Q E s:=by
  unfold leaving
  exact wpAny_bind (note_next hfr hl hf hF fun h' T' N=>flight_none (s:={ s with heap:=h' }) N.fly fun h2 k _ F=>h h2 T' (N.landed k F))
end
open PySem PySem.Spec PyProof.Rows
section
variable {X:Cx} {pins:List (Addr × Obj)} {σ:St} {H:Hp} {s:Shared} {e C T:Addr} {od:Option Addr} {raw ch':Bool} {fl:Value} {h':Heap} {ch:List Addr}
theorem upd_id {o:HO} (q:H e = some o):upd H e o = H:=by
  funext b
  unfold upd
  split
  · rename_i z; rw [z]; exact q.symm
  · rfl
theorem Inv.noted (I:Inv X pins σ H s) (q:H e = some (exO raw ch' e C od)) (N:Noted (frs X.stack) ch e T fl s.heap h') (hc:∀ b ∈ ch,FpOk X pins H b) :
    Inv X pins σ (upd H e (exO false ch' e C od)) { s with heap:=h' }:=by
  obtain ⟨vs,sl,g,hz,_,hch⟩:=exc_of I.hok q
  have ne:∀ b,H b = none->b ≠ e:=fun b n z=>by rw [z,q] at n; cases n
  have tfs:∀ b o,H b = some o->b ∉ frs X.stack:=fun b o z hm=>by rw [I.stkFree b hm] at z; cases z
  have tch:∀ b o,H b = some o->b ∉ ch:=fun b o z hm=>by rw [(hc b hm).1] at z; cases z
  have hE:IsExc false ch' e C od h':=by
    have:=N.exc _ vs g rfl
    refine ⟨vs.setIfInBounds 1 (.ref T),sl,this,by simpa using hz,(fun z=>by cases z),(fun z=>by simpa using hch z)⟩
  refine I.call' (s':={ s with heap:=h' }) (ch:=ch) rfl ⟨fun b o e' n hf hx=>N.keep b o hf hx (ne b n) e',fun b o e' n hf hx=>N.slot b o hf hx (ne b n) e',fun b o e' n hx=>?_,fun b o e' hx=>?_,fun b xs e'=>?_,fun b o u e'=>?_,fun b ps e'=>⟨#[],?_⟩⟩ (fun b o e'=>?_) I.bare fun b hb=>⟨(hc b hb).2.2.2.1,(hc b hb).2.1,(hc b hb).2.2.2.2.1,(hc b hb).2.2.2.2.2⟩
  · rw [upd_ne (ne b n)]; exact n
  · by_cases z:b = e
    · subst z; obtain ⟨vs',sl',g',_⟩:=hE; exact ⟨_,g'⟩
    · by_cases hf:b ∈ frs X.stack
      · obtain ⟨sl',g'⟩:=N.slot b o hf hx z e'; exact ⟨_,g'⟩
      · exact ⟨o,N.keep b o hf hx z e'⟩
  · rw [upd_ne (fun z=>by rw [z,q] at e'; cases e')]; exact e'
  · rw [upd_ne (fun z=>by rw [z,q] at e'; cases e')]; exact e'
  · rw [upd_ne (fun z=>by rw [z,q] at e'; cases e'),e']; simp
  · by_cases z:b = e
    · subst z; rw [upd_same] at e'; cases e'; exact objOk_exc hE
    · rw [upd_ne z] at e'
      refine (I.hok b o e').stay (fun c v hcv g'=>?_) (fun c g'=>?_) fun c xs g'=>?_
      · have hcH:∃ u,H c = some u:=by
          rcases hcv with z | z
          · exact ⟨o,by rw [z]; exact e'⟩
          · exact ⟨_,z⟩
        obtain ⟨u,hu⟩:=hcH
        have hce:c ≠ e:=by
          rcases hcv with z' | z'
          · rw [z']; exact z
          · intro z2; rw [z2,q] at z'; cases z'
        exact N.keep c v (tfs c u hu) (tch c u hu) hce g'
      · rw [upd_ne (fun z2=>by rw [z2,q] at g'; cases g')]; exact g'
      · rw [upd_ne (fun z2=>by rw [z2,q] at g'; cases g')]; exact g'
theorem Inv.notedF (I:Inv X pins σ H s) (q:Flown H e C od) (N:Noted (frs X.stack) ch e T fl s.heap h') (hc:∀ b ∈ ch,FpOk X pins H b):Inv X pins σ H { s with heap:=h' }:=by
  obtain ⟨ch',q⟩:=q
  have:=I.noted q N hc
  rwa [upd_id q] at this
theorem Inv.landed {T:Addr} (I:Inv X pins σ H s) (f:FpOk X pins H T) (k:∀ b o,b ≠ T->s.heap.get? b = some o->h'.get? b = some o):Inv X pins σ H { s with heap:=h' } :=
  I.turned (it:=T) (t':=s.toks) k f.1 f.2.1 f.2.2.2.1 f.2.2.2.2.1 f.2.2.2.2.2
end
def CXx (P:Program) (w:World):CXT:=fun outer H s E v s'=>∃ e C od T H',v = .ref e /\ s'.os = s.os /\ AllBare s'.gens /\ Un (frs outer) [] H H' s.heap s'.heap /\ HOk P w H' s'.heap ∧
  Flown H' e C od /\ s.heap.objs.size ≤ T /\ H' T = none /\ Fly s'.heap e T .none /\ E (.ref C) (some e) H'
abbrev XS:=St->XK
def PassesS (X:Cx) (E:XS):Prop:=∀ (pins:List (Addr × Obj)) (σ:St) (H:Hp) (s:Shared) (v:Value) (s':Shared),Inv X pins σ H s->CXx X.prog X.w X.stack H s (E σ) v s'->X.xe v s'
def RaisesS (X:Cx) (E:XS):Prop:=∀ (pins:List (Addr × Obj)) (σ:St) (H:Hp) (s:Shared) (e C:Addr) (od:Option Addr) (ch:Bool),Inv X pins σ H s->H e = some (exO true ch e C od)->E σ (.ref C) (some e) (upd H e (exO false ch e C od))->X.xe (.ref e) s
theorem passesN {X:Cx}:PassesS X (fun _=>E0):=fun _ _ _ _ _ _ _ ⟨_,_,_,_,_,_,_,_,_,_,_,_,_,_,h⟩=>h.elim
section
variable {P:Program} {w:World} {K:PySem.W.Frag} {mg:Str->Option Value} {base:Heap} {N:List Str} {qual:Str} {scope:Scope} {f:Addr} {cd:Value} {A:Around} {outer:List Env} {s₀:Shared} {H₀:Hp} {E:XK}
theorem passesB:PassesS (cxOf (CXx P w) P w K mg base N qual scope f cd A outer s₀ H₀ E) (fun _=>E):=by
  rintro pins σ H s v s' I ⟨e,C,od,T,H',rfl,os,bare,un,hok,he,hT,nT,fly,hE⟩
  have I':=I.call' (ch:=[]) os un hok bare (fun b z=>absurd z (by simp))
  have hTn:FpOk (cxOf (CXx P w) P w K mg base N qual scope f cd A outer s₀ H₀ E) pins H' T:=I.fpOk hT nT
  show wpAny _ _ (leaving _ (.ref e)) _ _ _
  refine leave_next I.ok.frames I'.stack rfl fly fun h2 T2 Nd=>?_
  have J:=I'.notedF (ch:=[T]) he Nd (fun b hb=>by have:=List.mem_singleton.mp hb; subst this; exact hTn)
  exact ⟨e,C,od,T2,H',rfl,J.os,J.bare,J.base,J.hok,he,Nat.le_trans I'.sz Nd.new,I'.hok.fresh Nd.new,Nd.fly,hE⟩
theorem raisesB:RaisesS (cxOf (CXx P w) P w K mg base N qual scope f cd A outer s₀ H₀ E) (fun _=>E):=by
  rintro pins σ H s e C od ch I he hE
  obtain ⟨vs,sl,g,hz,hr⟩:=exc_of I.hok he
  show wpAny _ _ (leaving _ (.ref e)) _ _ _
  refine leave_new I.ok.frames I.stack rfl g rfl (hr.1 rfl) fun h2 T2 Nd=>?_
  have J:=I.noted (ch:=[]) he Nd (fun b hb=>by cases hb)
  exact ⟨e,C,od,T2,_,rfl,J.os,J.bare,J.base,J.hok,⟨ch,upd_same⟩,Nat.le_trans I.sz Nd.new,by rw [upd_ne (fun z=>by rw [← z] at g; exact absurd (Heap.lt_size g) (Nat.not_lt.mpr Nd.new))]; exact I.hok.fresh Nd.new,Nd.fly,hE⟩
theorem Fun.okX {x qual:Str} {st:Stmt} {f:Addr} {fd:FuncData} {N ps:List Str} {k:Nat} {sp:Sp} (F:Fun K x qual st f fd) (S:FnScope N ps (defScope st)) (len:∀ vs H Q E,sp vs H Q E->vs.length = ps.length)
    (hbody:∀ (cdv:Value) (A:Around) (outer:List Env) (s:Shared) (H:Hp) (vs:List V) (Q:VK) (E:XK),Room k (A.deeper (envOfC qual (defScope st) s.heap.objs.size f cdv))->sp vs H Q E →
      ∃ t,PSs (cxOf (CXx P w) P w K mg base N qual (defScope st) f cdv A outer s H E) (defBody st) t /\ t { nx:=fun _ H'=>Q .non H',rt:=Q } (start N vs) H):FnOk P w K mg base (CXx P w) (k + 1) f fd ps sp:=by
  obtain ⟨oc,od,kV,doc,pm,an,cdv,ct,osl,rfl,lk,hcd⟩:=F.ex
  exact fn_of lk hcd S len fun A outer s H vs Q E hr hsp=>hbody cdv A outer s H vs Q E hr hsp
end
open PySem PySem.Spec PyProof.Rows
section
variable (P:Program) (w:World) (K:PySem.W.Frag) (mg:Str->Option Value) (base:Heap)
structure DefX (x:Str) (k:Nat) (ps:List Str) (sp:Sp):Prop where
  ex:∃ (f:Addr) (fd:FuncData),mg x = some (.ref f) /\ FnOk P w K mg base (CXx P w) k f fd ps sp /\ PySem.W.keepIn K (.ref f) = true /\ Binds K fd ps []
structure MethX (C:Addr) (m:Str) (k:Nat) (ps:List Str) (sp:Sp):Prop where
  ex:∃ (f:Addr) (fd:FuncData),Meth K C m f /\ FnOk P w K mg base (CXx P w) k f fd ps sp /\ Binds K fd ps []
structure MakeX (x:Str) (C:Addr) (k:Nat) (ps:List Str) (sp:Sp):Prop where
  ex:∃ (f:Addr) (fd:FuncData),mg x = some (.ref C) /\ Mk K C f /\ FnOk P w K mg base (CXx P w) k f fd ps sp /\ Binds K fd ps []
structure XMk (K:PySem.W.Frag) (C f:Addr):Prop where
  cls:XCls K C
  init:PySem.W.findIn K (.ref C) "__init__" = some (some (.ref f))
  fn:PySem.W.isFn K (.ref f) = true
  kp:PySem.W.keepIn K (.ref C) = true
structure ExcX (x:Str) (C:Addr) (k:Nat) (ps:List Str) (sp:Sp):Prop where
  ex:∃ (f:Addr) (fd:FuncData),mg x = some (.ref C) /\ XMk K C f /\ FnOk P w K mg base (CXx P w) k f fd ps sp /\ Binds K fd ps []
end
def tCallS (sp:Sp) (E:XS) (t:TA):TE:=fun σ H Q=>t σ H fun vs H1=>sp vs H1 Q (E σ)
def tMethS (C:Addr) (m:Str) (sp:Sp) (E:XS) (ta:TE) (t:TA):TE:=fun σ H Q=>ta σ H fun x H1=>∃ a dx fs,x = .ref a /\ H1 a = some (.ins C dx fs) /\ fs.lookup m = none /\ t σ H1 fun vs H2=>sp (x :: vs) H2 Q (E σ)
def tMakeS (C:Addr) (sp:Sp) (E:XS) (t:TA):TE:=fun σ H Q=>t σ H fun vs H1=>∀ x dx,H1 x = none->H1 dx = none->dx ≠ x →
  sp (.ref x :: vs) (upd (upd H1 dx (.own x)) x (.ins C dx [])) (fun v H2=>v = .non /\ Q (.ref x) H2) (E σ)
def tExc (C:Addr) (sp:Sp) (t:TA):TE:=fun σ H Q=>t σ H fun vs H1=>vs.length ≤ sizeLine /\ ∀ x,H1 x = none->sp (.ref x :: vs) (upd H1 x (exO true false x C none)) (fun v H2=>v = .non /\ Q (.ref x) H2) E0
section
variable {X:Cx} {k:Nat} {f C:Addr} {fd:FuncData} {ps:List Str} {sp:Sp} {E:XS} {x m:Str} {p pos apos:Pos} {e o:Expr} {es:List Expr} {ta:TE} {t:TA}
theorem run_fnS {pins:List (Addr × Obj)} {σ:St} {H:Hp} {s:Shared} {Q:VK} {us:List Value} {vs:List V} (F:FnOk X.prog X.w X.K X.mg X.base (CXx X.prog X.w) k f fd ps sp) (hr:Room k X.A) (hb:Binds X.K fd ps []) (hx:PassesS X E)
    (I:Inv X pins σ H s) (r:Vals vs us) (h:sp vs H Q (E σ)):wpAny (model X.prog X.w) X.A (call (.ref f) us) (EP X pins σ Q) X.xe s:=by
  have hl:us.length = ps.length:=by rw [← r.length]; exact F.len _ _ _ _ h
  have hb':=hb s us I.kIn (by rw [List.append_nil]; exact hl)
  rw [List.append_nil] at hb'
  refine wpAny_call (codeAny_mono (F.run X.A X.stack s H ⟨us,[]⟩ us vs Q (E σ) hr I.env0 hb' r h) fun r s' hq=>?_)
  cases r with
  | error e=>exact hx pins σ H s e s' I hq
  | ok fl =>
    cases fl with
    | ret u=>exact I.after hq
    | next=>exact False.elim hq
    | brk=>exact False.elim hq
    | cont=>exact False.elim hq
theorem pe_callS (D:DefX X.prog X.w X.K X.mg X.base x k ps sp) (hx:PassesS X E) (hr:Room k X.A) (hg:Gl X x) (ha:PA X (e :: es) t)
    (hdb:(x == ("__debug__":Str)) = false:=by decide) (he:starEach (e :: es) X.env = (false,eval e X.env) :: starEach es X.env:=by rfl) (hpl:(backTo pos (starEach es X.env)).any (·.1) = false:=by rfl) :
    PE X (.Call (.Name x p) (e :: es) [] pos) (tCallS sp E t):=by
  obtain ⟨f,fd,m,F,kp,b⟩:=D.ex
  intro pins s σ H Q I h
  refine wpAny_Call_Name_kw (ld_glob I hg m ?_ hdb)
  refine PySem.W.callWith_K (h₀:=X.base) I.ok.mod.kin kp (thn (ha pos pins s σ H _ I h) fun us s1 ⟨vs,H1,I1,r,q⟩=>⟨I1.kIn,?_⟩) he hpl
  exact run_fnS F hr b hx I1 r q
theorem pe_methS0 {pl:Sem Bool} (he:PE X o ta) (c:Cls X.K C) (D:MethX X.prog X.w X.K X.mg X.base C m k ps sp) (hx:PassesS X E) (hr:Room k X.A)
    (ht:eval (.Call (.Attribute o m apos) [] [] pos) X.env = (do
      let ov ← eval o X.env
      standAt apos.atName
      let (f,first) ← holding [ov] (getMethod ov m pl)
      callWith pos f first (backTo pos (starEach [] X.env)) (backToKw pos (keywordEach [] X.env))):=by rfl) :
    PE X (.Call (.Attribute o m apos) [] [] pos) (tMethS C m sp E ta tNil):=by
  obtain ⟨f,fd,hm,F,b⟩:=D.ex
  intro pins s σ H Q I h
  refine PySem.W.methodCall_KW (pl:=pl) (thn (he pins s σ H _ I h) fun u s1 ⟨x,H1,I1,rx,a,dx,fs,ex,ea,l,q⟩=>?_) ht
  subst ex
  obtain rfl:u = Value.ref a:=rx
  refine getmeth_ok I1 ea c hm l ?_
  exact PySem.W.callWith_K0 (first:=[.ref a]) I1.kIn hm.kp (run_fnS (us:=[.ref a]) (vs:=[.ref a]) F hr b hx I1 (.cons rfl .nil) q)
theorem run_makeS {pins:List (Addr × Obj)} {σ:St} {H:Hp} {s:Shared} {Q:VK} {us:List Value} {vs:List V} (M:Mk X.K C f) (F:FnOk X.prog X.w X.K X.mg X.base (CXx X.prog X.w) k f fd ps sp) (hr:Room (k + 1) X.A) (hb:Binds X.K fd ps [])
    (hx:PassesS X E) (I:Inv X pins σ H s) (r:Vals vs us)
    (h:∀ x dx,H x = none->H dx = none->dx ≠ x->sp (.ref x :: vs) (upd (upd H dx (.own x)) x (.ins C dx [])) (fun v H2=>v = .non /\ Q (.ref x) H2) (E σ)) :
    wpAny (model X.prog X.w) X.A (call (.ref C) us) (EP X pins σ Q) X.xe s:=by
  have hq:=h (s.heap.objs.size + 1) s.heap.objs.size (I.hok.fresh (Nat.le_succ _)) (I.hok.fresh (Nat.le_refl _)) (Nat.ne_of_lt (Nat.lt_succ_self _))
  have I2:=Inv.made (C:=C) I
  have r2:Vals (V.ref (s.heap.objs.size + 1) :: vs) (Value.ref (s.heap.objs.size + 1) :: us):=.cons rfl r
  have hl:(Value.ref (s.heap.objs.size + 1) :: us).length = ps.length:=by
    have e:=r2.length
    rw [F.len _ _ _ _ hq] at e
    exact e.symm
  have hb':=hb _ (Value.ref (s.heap.objs.size + 1) :: us) I2.kIn (by rw [List.append_nil]; exact hl)
  rw [List.append_nil] at hb'
  refine wpAny_call (make_map (f:=f) I.kIn M.makes M.init (beq_iff_eq.mp M.fn) (codeAny_mono (F.run _ X.stack _ _ ⟨Value.ref (s.heap.objs.size + 1) :: us,[]⟩ (Value.ref (s.heap.objs.size + 1) :: us) _ _ (E σ) (hr.make C us [])
    (I2.env0.make C us []) hb' r2 hq) fun r s' hq'=>?_))
  cases r with
  | error e=>exact hx pins σ _ _ e s' I2 hq'
  | ok fl =>
    cases fl with
    | ret u =>
      obtain ⟨v,H',I3,rv,ev,q3⟩:=I2.after hq'
      subst ev
      exact ⟨rv,⟨V.ref (s.heap.objs.size + 1),H',I3,rfl,q3⟩⟩
    | next=>exact False.elim hq'
    | brk=>exact False.elim hq'
    | cont=>exact False.elim hq'
theorem pe_makeS (D:MakeX X.prog X.w X.K X.mg X.base x C k ps sp) (hx:PassesS X E) (hr:Room (k + 1) X.A) (hg:Gl X x) (ha:PA X (e :: es) t)
    (hdb:(x == ("__debug__":Str)) = false:=by decide) (he:starEach (e :: es) X.env = (false,eval e X.env) :: starEach es X.env:=by rfl) (hpl:(backTo pos (starEach es X.env)).any (·.1) = false:=by rfl) :
    PE X (.Call (.Name x p) (e :: es) [] pos) (tMakeS C sp E t):=by
  obtain ⟨f,fd,m,M,F,b⟩:=D.ex
  intro pins s σ H Q I h
  refine wpAny_Call_Name_kw (ld_glob I hg m ?_ hdb)
  refine PySem.W.callWith_K (h₀:=X.base) I.ok.mod.kin M.kp (thn (ha pos pins s σ H _ I h) fun us s1 ⟨vs,H1,I1,r,q⟩=>⟨I1.kIn,?_⟩) he hpl
  exact run_makeS M F hr b hx I1 r q
theorem Inv.xmade {pins:List (Addr × Obj)} {σ:St} {H:Hp} {s:Shared} {rest:List Value} (I:Inv X pins σ H s) :
    Inv X pins σ (upd H (s.heap.objs.size + 1) (exO true false (s.heap.objs.size + 1) C none)) { s with heap:=(s.heap.push (tupNew rest)).push (excNew C s.heap.objs.size) }:=by
  refine I.laid (a:=s.heap.objs.size + 1) (t':=s.toks) (fun b u q=>xkeeps b u q) (Nat.le_succ _) (objOk_exc ⟨_,_,xnew_at,rfl,(fun _=>rfl),(fun _=>rfl)⟩)
theorem run_exc {pins:List (Addr × Obj)} {σ:St} {H:Hp} {s:Shared} {Q:VK} {us:List Value} {vs:List V} (M:XMk X.K C f) (F:FnOk X.prog X.w X.K X.mg X.base (CXx X.prog X.w) k f fd ps sp) (hr:Room (k + 1) X.A) (hb:Binds X.K fd ps [])
    (I:Inv X pins σ H s) (r:Vals vs us) (hlen:vs.length ≤ sizeLine) (h:∀ x,H x = none->sp (.ref x :: vs) (upd H x (exO true false x C none)) (fun v H2=>v = .non /\ Q (.ref x) H2) E0) :
    wpAny (model X.prog X.w) X.A (call (.ref C) us) (EP X pins σ Q) X.xe s:=by
  have hq:=h (s.heap.objs.size + 1) (I.hok.fresh (Nat.le_succ _))
  have I2:=Inv.xmade (C:=C) (rest:=us) I
  have r2:Vals (V.ref (s.heap.objs.size + 1) :: vs) (Value.ref (s.heap.objs.size + 1) :: us):=.cons rfl r
  have hl:(Value.ref (s.heap.objs.size + 1) :: us).length = ps.length:=by
    have e:=r2.length
    rw [F.len _ _ _ _ hq] at e
    exact e.symm
  have hb':=hb _ (Value.ref (s.heap.objs.size + 1) :: us) I2.kIn (by rw [List.append_nil]; exact hl)
  rw [List.append_nil] at hb'
  have run:=F.run _ X.stack _ _ ⟨Value.ref (s.heap.objs.size + 1) :: us,[]⟩ (Value.ref (s.heap.objs.size + 1) :: us) _ _ E0 (hr.make C us []) (I2.env0.make C us []) hb' r2 hq
  obtain ⟨hp,g,d,t,os⟩:=s
  refine xcall_init I.kIn M.cls (by rw [← r.length]; exact hlen) M.init (beq_iff_eq.mp M.fn) (wpAny_call (codeAny_mono run fun r s' hq'=>?_))
  cases r with
  | error e =>
    obtain ⟨_,_,_,_,_,_,_,_,_,_,_,_,_,_,z⟩:=hq'
    exact z.elim
  | ok fl =>
    cases fl with
    | ret u =>
      obtain ⟨v,H',I3,rv,ev,q3⟩:=I2.after hq'
      subst ev
      exact ⟨rv,⟨V.ref (hp.objs.size + 1),H',I3,rfl,q3⟩⟩
    | next=>exact False.elim hq'
    | brk=>exact False.elim hq'
    | cont=>exact False.elim hq'
theorem pe_exc (D:ExcX X.prog X.w X.K X.mg X.base x C k ps sp) (hr:Room (k + 1) X.A) (hg:Gl X x) (ha:PA X (e :: es) t)
    (hdb:(x == ("__debug__":Str)) = false:=by decide) (he:starEach (e :: es) X.env = (false,eval e X.env) :: starEach es X.env:=by rfl) (hpl:(backTo pos (starEach es X.env)).any (·.1) = false:=by rfl) :
    PE X (.Call (.Name x p) (e :: es) [] pos) (tExc C sp t):=by
  obtain ⟨f,fd,m,M,F,b⟩:=D.ex
  intro pins s σ H Q I h
  refine wpAny_Call_Name_kw (ld_glob I hg m ?_ hdb)
  refine PySem.W.callWith_K (h₀:=X.base) I.ok.mod.kin M.kp (thn (ha pos pins s σ H _ I h) fun us s1 ⟨vs,H1,I1,r,hlen,q⟩=>⟨I1.kIn,?_⟩) he hpl
  exact run_exc M F hr b I1 r hlen q
end
def sRaise (K:PySem.W.Frag) (te:TE) (E:XS):TS:=fun _ σ H=>te σ H fun v H1=>∃ e C od,v = .ref e /\ H1 e = some (exO true false e C od) /\ XCls K C /\ E σ (.ref C) (some e) (upd H1 e (exO false false e C od))
section
variable {X:Cx} {x:Expr} {te:TE} {E:XS} {pos:Pos}
theorem raise_ok {M:Model} {A:Around} {E:Value->Shared->Prop} {env:Env} {s:Shared} {x:Sem Value} {Q:Flow->Shared->Prop} (hh:A.handled = none)
    (h:wpAny M A x (fun v s₁=>∃ e vs sl C od,v = .ref e /\ s₁.heap.get? e = some ⟨.ref C,od,.fields vs,sl⟩ /\ vs[1]? = some .none /\ XObj s₁.heap C /\ E (.ref e) s₁) E s) :
    wpAny M A (raiseStmt env (some x) none) Q E s:=by
  unfold raiseStmt
  refine wpAny_bind (wpAny_mono h (fun v s₁ h₁=>?_) fun _ _ x=>x)
  obtain ⟨e,vs,sl,C,od,rfl,he,h1,hC,hE⟩:=h₁
  obtain ⟨nm,qn,N,bs,bm,sn,sub,ab,col,dd,k0,k1,k2,k3,k5,hC,hb⟩:=hC.ex
  have hcB:=own_has (C:=C) hb (T:="BaseException") (by decide)
  obtain ⟨hp,g,d,tk,os⟩:=s₁
  repeat (first
    | with_reducible refine wpAny_loadPart_at he ?_
    | with_reducible refine wpAny_loadPart_at hC ?_
    | (with_reducible refine wpAny_isSubtype_exc hC ?_; rw [hcB])
    | with_reducible refine wpAny_field he rfl h1 ?_
    | wp_step)
  exact wpAny_raiseNew_none hh hE
theorem ps_raise (hc:X.calm = true) (hx:RaisesS X E) (he:PE X x te):PS X (.Raise (some x) none pos) (sRaise X.K te E):=by
  intro pins s σ H D I h
  rw [arm_exec_Raise]
  have hh:=I.ok.hd hc
  have key:wpAny (model X.prog X.w) X.A (eval x X.env) (fun v s₁=>∃ e vs sl C od,v = .ref e /\ s₁.heap.get? e = some ⟨.ref C,od,.fields vs,sl⟩ /\ vs[1]? = some .none /\ XObj s₁.heap C /\ X.xe (.ref e) s₁) X.xe s:=by
    refine thn (he pins s σ H _ I h) fun u s1 ⟨v,H1,I1,rv,e,C,od,ev,eo,hcl,hE⟩=>?_
    subst ev
    cases (show u = Value.ref e from rv)
    obtain ⟨vs,sl,g,hz,hr⟩:=exc_of I1.hok eo
    exact ⟨e,vs,sl,C,od,rfl,g,hr.1 rfl,hcl.at I1.kIn,hx pins σ H1 s1 e C od false I1 eo hE⟩
  exact wpAny_bind (wpAny_standAt (raise_ok hh (wpAny_bind (wpAny_mono key (fun v s₁ h₁=>wpAny_bind (wpAny_standAt (wpAny_pure h₁))) fun _ _ x=>x))))
end
open PySem PySem.Spec PyProof.Rows
section
variable {M:Model} {A:Around} {E:Value->Shared->Prop} {s:Shared} {K:PySem.W.Frag} {e C DC:Addr} {b:Bool}
theorem xmatch {ox:Obj} {Q:Bool->Shared->Prop} (X:K.In s.heap) (hx:s.heap.get? e = some ox) (hcl:ox.cls = .ref C) (cd:XCls K DC) (hm:PySem.W.mroIn K C (.ref DC) = some b) (h:Q b s) :
    wpAny M A (excMatches (.ref e) (.ref DC)) Q E s:=by
  obtain ⟨hp,g,d,t,os⟩:=s
  obtain ⟨nm,qn,N,bs,bm,sn,sub,ab,col,dd,k0,k1,k2,k3,k5,hC,hb⟩:=(cd.at X).ex
  have hcB:=own_has (C:=DC) hb (T:="BaseException") (by decide)
  have f:=tc_notTuple
  have L0:PySem.W.Looks M hp (typeOf (.ref e)) (.ref C):=hcl ▸ (PySem.W.Looks.ld hx).andThen .now
  have L1:=PySem.W.looks_mroIn (M:=M) X hm
  unfold excMatches
  repeat (first
    | with_reducible refine wpAny_loadPart_at hC ?_
    | (with_reducible refine wpAny_isSubtype_exc hC ?_; rw [hcB])
    | with_reducible refine L0.at ?_
    | with_reducible refine L1.at ?_
    | wp_step)
  cases b
  · wp_walk; exact h
  · wp_walk; exact h
end
abbrev Cx.held (X:Cx) (e:Addr) (pn:List (Addr × Obj)):Cx:={ X with A:=X.A.mark (some (.ref e)),calm:=false,pn:=pn,xe:=fun _ _=>False }
abbrev Cx.tried (X:Cx) (pn:List (Addr × Obj)) (xe:Value->Shared->Prop):Cx:={ X with pn:=pn,xe:=xe }
section
variable {X:Cx} {pins:List (Addr × Obj)} {σ:St} {H:Hp} {s:Shared} {e:Addr} {xe:Value->Shared->Prop}
theorem Inv.held (I:Inv X pins σ H s) (e:Addr):Inv (X.held e (X.pn ++ pins)) [] σ H s :=
  ⟨⟨I.ok.mod,I.ok.kind,I.ok.glob,I.ok.blt,I.ok.above,I.ok.inj,I.ok.has,I.ok.cab,(fun z=>by cases z),I.ok.frames,I.ok.stk,I.ok.exf,I.ok.bs,I.ok.bsz,I.ok.noex,I.ok.exfs,I.ok.funs,I.ok.frf⟩,
    I.os,I.bare,I.base,I.loc,I.cell,I.free,I.freeC,fun p hp=>I.pin p (by simpa using hp),I.hok,I.len⟩
theorem Inv.unheld (ok:X.Ok) (I:Inv (X.held e (X.pn ++ pins)) [] σ H s):Inv X pins σ H s :=
  ⟨ok,I.os,I.bare,I.base,I.loc,I.cell,I.free,I.freeC,fun p hp=>I.pin p (by simpa using hp),I.hok,I.len⟩
theorem Inv.tried (I:Inv X pins σ H s):Inv (X.tried (X.pn ++ pins) xe) [] σ H s :=
  ⟨⟨I.ok.mod,I.ok.kind,I.ok.glob,I.ok.blt,I.ok.above,I.ok.inj,I.ok.has,I.ok.cab,I.ok.hd,I.ok.frames,I.ok.stk,I.ok.exf,I.ok.bs,I.ok.bsz,I.ok.noex,I.ok.exfs,I.ok.funs,I.ok.frf⟩,
    I.os,I.bare,I.base,I.loc,I.cell,I.free,I.freeC,fun p hp=>I.pin p (by simpa using hp),I.hok,I.len⟩
theorem Inv.untried {ps:List (Addr × Obj)} (ok:X.Ok) (I:Inv (X.tried (X.pn ++ pins) xe) ps σ H s):Inv X pins σ H s :=
  ⟨ok,I.os,I.bare,I.base,I.loc,I.cell,I.free,I.freeC,fun p hp=>I.pin p (List.mem_append_left _ hp),I.hok,I.len⟩
theorem unbind_ok {M:Model} {A:Around} {E:Value->Shared->Prop} {i:Nat} {n:Str} {pos:Pos} {Q:Unit->Shared->Prop} (I:Inv X pins σ H s) (hN:X.N.Nodup) (hi:X.N[i]? = some n) (hl:X.env.scope.names.lookup n = some .local)
    (h:∀ s',Inv X pins (σ.set i none) H s'->Q () s'):wpAny M A (do bindName X.env n .none; unbindBehindTheSuite X.env n pos) Q E s:=by
  refine wpAny_bind (wpAny_bindName (store_ok (v:=.non) I hN hi (.inl hl) rfl (fun s' I'=>?_) (.inr hl)))
  unfold unbindBehindTheSuite
  obtain ⟨m,hn,hm⟩:=id I'.loc
  have hcls:(X.env.scope.kind == .class || (X.env.scope.kind == .module && X.env.locals != X.env.globals)) = false:=by rw [I.ok.kind]; rfl
  have hiσ:i < σ.length:=by rw [I.len]; exact (List.getElem?_eq_some_iff.mp hi).1
  obtain ⟨u,ru,lk⟩:=hm i n .non hi (by rw [List.getElem?_set_self hiσ]) (.inl hl)
  have hv:m n = some u:=by
    rcases lk with ⟨_,z⟩ | ⟨k,_⟩
    · exact z
    · rcases k with k | k
      · have k:X.env.scope.names.lookup n = some .cell:=k
        rw [hl] at k; cases k
      · have k:X.env.scope.names.lookup n = some .free:=k
        rw [hl] at k; cases k
  refine wpAny_onRaise (wpAny_unbindName_local (env:=X.env) hl hn hv hcls fun h' u' hn' hs=>h _ ?_)
  obtain ⟨oL,_,_,hoL,_⟩:=id hn
  have cne:=I'.cne
  refine ⟨I'.ok,I'.os,I'.bare,⟨fun b o e n' hb hx=>?_,fun b o e n' hb hx=>?_,I'.base.free,fun b o e hx=>?_,I'.base.tups,I'.base.frzs,I'.base.tbls⟩,⟨_,hn',fun j y v' e1 e2 e3=>?_⟩,fun y c q=>?_,I'.free,I'.freeC,fun p hp=>?_,fun b ob q=>?_,by simpa using I.len⟩
  · exact (hs.2 b (Nat.ne_of_lt (Nat.lt_of_lt_of_le (Heap.lt_size e) I'.ok.above))).trans (I'.base.keep b o e n' hb hx)
  · obtain ⟨sl,e1⟩:=I'.base.slot b o e n' hb hx
    exact ⟨sl,(hs.2 b (Nat.ne_of_lt (Nat.lt_of_lt_of_le (Heap.lt_size e) I'.ok.above))).trans e1⟩
  · obtain ⟨o',e1⟩:=I'.base.there b o e hx
    exact ⟨o',(hs.2 b (Nat.ne_of_lt (Nat.lt_of_lt_of_le (Heap.lt_size e) I'.ok.above))).trans e1⟩
  · by_cases hj:j = i
    · subst hj
      rw [List.getElem?_set_self hiσ] at e2
      cases e2
    · rw [List.getElem?_set_ne (Ne.symm hj)] at e2
      obtain ⟨u2,r2,q⟩:=hm j y v' e1 (by rw [List.getElem?_set_ne (Ne.symm hj)]; exact e2) e3
      refine ⟨u2,r2,?_⟩
      rcases q with ⟨k,e⟩ | ⟨k,c,e,z⟩
      · refine .inl ⟨k,?_⟩
        have:y ≠ n:=fun e=>hj (nodup_ix hN e1 (e ▸ hi))
        simp [this,e]
      · exact .inr ⟨k,c,e,z.sameBut hs (cne y c e)⟩
  · obtain ⟨w',z⟩:=I'.cell y c q
    exact ⟨w',z.sameBut hs (cne y c q)⟩
  · obtain ⟨e,n',ne,nf,d⟩:=I'.pin p hp
    exact ⟨(hs.2 p.1 ne).trans e,n',ne,nf,d⟩
  · refine (I'.hok b ob q).stay (fun c w' hc q'=>(hs.2 c ?_).trans q') (fun _ q'=>q') fun _ _ q'=>q'
    rintro rfl
    rcases hc with z | z
    · rw [← z,I'.free] at q; cases q
    · rw [I'.free] at z; cases z
end
abbrev TH:=Addr->Addr->TS
def PH (X:Cx) (hs:List ExceptHandler) (th:TH):Prop :=
  ∀ (pins:List (Addr × Obj)) (s:Shared) (σ:St) (H:Hp) (D:Ends) (e C:Addr) (od:Option Addr) (T:Addr),Inv X pins σ H s->Flown H e C od->Fly s.heap e T .none->FpOk X pins H T->th e C D σ H →
    wpAny (model X.prog X.w) X.A (handleBy (.ref e) X.env hs) (SP X pins D) X.xe s
def hNil:TH:=fun _ _ _ _ _=>False
theorem ph_nil {X:Cx}:PH X [] hNil:=fun _ _ _ _ _ _ _ _ _ _ _ _ _ h=>h.elim
def hAs (K:PySem.W.Frag) (DC:Addr) (i:Nat) (ts:Addr->List (Addr × Obj)->TS) (tr:TH):TH:=fun e C D σ H=>∃ b,PySem.W.mroIn K C (.ref DC) = some b /\ if b = true then
  ∀ pn,ts e pn { nx:=fun σ' H'=>D.nx (σ'.set i none) H',rt:=D.rt,bk:=fun σ' H'=>D.bk (σ'.set i none) H',ct:=fun σ' H'=>D.ct (σ'.set i none) H' } (σ.set i (some (.ref e))) H else tr e C D σ H
section
variable {X:Cx} {x n:Str} {i:Nat} {DC:Addr} {np pos:Pos} {b0:Stmt} {suite:List Stmt} {rest:List ExceptHandler} {ts:Addr->List (Addr × Obj)->TS} {tr:TH}
theorem SP.untried {pins:List (Addr × Obj)} {D:Ends} {xe:Value->Shared->Prop} {fl:Flow} {s':Shared} (ok:X.Ok) (h:SP (X.tried (X.pn ++ pins) xe) [] D fl s'):SP X pins D fl s':=by
  cases fl with
  | next=>obtain ⟨σ',H',J,q⟩:=h; exact ⟨σ',H',J.untried ok,q⟩
  | brk=>obtain ⟨σ',H',J,q⟩:=h; exact ⟨σ',H',J.untried ok,q⟩
  | cont=>obtain ⟨σ',H',J,q⟩:=h; exact ⟨σ',H',J.untried ok,q⟩
  | ret u=>obtain ⟨v,σ',H',J,r,q⟩:=h; exact ⟨v,σ',H',J.untried ok,r,q⟩
theorem ph_as (hg:Gl X x) (hm:X.mg x = some (.ref DC)) (c:XCls X.K DC) (hN:X.N.Nodup) (hi:X.N[i]? = some n) (hl:X.env.scope.names.lookup n = some .local)
    (hs:∀ e pn,PSs (X.held e pn) (b0 :: suite) (ts e pn)) (hr:PH X rest tr) (hd:(x == ("__debug__":Str)) = false:=by decide) :
    PH X (.ExceptHandler (some (.Name x np)) (some n) (b0 :: suite) pos :: rest) (hAs X.K DC i ts tr):=by
  rintro pins s σ H D e C od T I q fly fp ⟨b,hb,h⟩
  obtain ⟨vs,sl,g,_⟩:=exc_of I.hok q.choose_spec
  have IH:=I.held e
  refine wpAny_handleBy_cons (codeAny_handlers_test (ld_glob (X:=X.held e (X.pn ++ pins)) IH hg hm ?_ hd)) (by intro z; cases z)
  refine xmatch I.kIn g rfl c hb ?_
  cases b with
  | false =>
    rw [if_neg (by decide)] at h
    exact hr pins s σ H D e C od T I q fly fp h
  | true =>
    rw [if_pos rfl] at h
    refine codeAny_handlers_suite_as (flight_none fly fun h2 k _ fly2=>?_)
    have I2:=I.landed fp k
    refine store_ok (X:=X.held e (X.pn ++ pins)) (I2.held e) hN hi (.inl hl) (v:=.ref e) rfl (fun s3 I3=>?_) (.inr hl)
    refine wpAny_mono (hs e _ [] s3 _ _ _ I3 (h _)) (fun fl s4 h4=>?_) fun _ _ z=>z.elim
    cases fl with
    | next=>obtain ⟨σ',H',J,q'⟩:=h4; exact unbind_ok (J.unheld I.ok) hN hi hl fun s5 I5=>⟨_,_,I5,q'⟩
    | brk=>obtain ⟨σ',H',J,q'⟩:=h4; exact unbind_ok (J.unheld I.ok) hN hi hl fun s5 I5=>⟨_,_,I5,q'⟩
    | cont=>obtain ⟨σ',H',J,q'⟩:=h4; exact unbind_ok (J.unheld I.ok) hN hi hl fun s5 I5=>⟨_,_,I5,q'⟩
    | ret u=>obtain ⟨v,σ',H',J,r,q'⟩:=h4; exact unbind_ok (J.unheld I.ok) hN hi hl fun s5 I5=>⟨v,_,_,I5,r,q'⟩
def tTry (tb:List (Addr × Obj)->(Value->Shared->Prop)->XS->TS) (th:TH):TS:=fun D σ H=>∀ pn xe,tb pn xe (fun σ' cls oe H'=>∃ e C,cls = .ref C /\ oe = some e /\ th e C D σ' H') D σ H
theorem ps_try {body:List Stmt} {h0:ExceptHandler} {hs:List ExceptHandler} {tb:List (Addr × Obj)->(Value->Shared->Prop)->XS->TS} {th:TH} (hb:∀ pn xe E,PassesS (X.tried pn xe) E->PSs (X.tried pn xe) body (tb pn xe E)) (hh:PH X (h0 :: hs) th) (hst:X.stack = X.env :: X.outer) (hfr:X.env.frame = some X.env.locals) :
    PS X (.Try body (h0 :: hs) [] [] pos) (tTry tb th):=by
  intro pins s σ H D I h
  refine wpAny_Try_except ?_
  refine wpAny_mono (hb (X.pn ++ pins) (fun v s₁=>wpAny (model X.prog X.w) X.A (noteFrame v X.env) (fun _ s₂=>wpAny (model X.prog X.w) X.A (setFlight v none) (fun _ s₃=>wpAny (model X.prog X.w) X.A (handleBy v X.env (h0 :: hs)) (SP X pins D) X.xe s₃) X.xe s₂) X.xe s₁)
    (fun σ' cls oe H'=>∃ e C,cls = .ref C /\ oe = some e /\ th e C D σ' H') ?_ [] s σ H D I.tried (h _ _)) (fun fl s1 h1=>?_) fun v s1 h1=>h1
  · rintro ps σ' H1 s1 v s2 J ⟨e,C,od,T,H2,rfl,os,bare,un,hok,he,hT,nT,fly,e',C',ec,ee,hth⟩
    cases ec
    cases ee
    have J2:=J.call' (ch:=[]) os un hok bare (fun b z=>absurd z (by simp))
    have K2:Inv X pins σ' H2 s2:=J2.untried I.ok
    have fp:FpOk X pins H2 T:=(J.untried I.ok).fpOk hT nT
    have fr:X.A.frames = some (X.env :: X.outer):=by rw [← hst]; exact I.ok.frames
    show wpAny _ _ (noteFrame (.ref e) X.env) _ _ _
    refine note_next fr (by rw [← hst]; exact K2.stack) hfr fly fun h3 T3 Nd=>?_
    rw [← hst] at Nd
    have K3:=K2.notedF (ch:=[T]) he Nd (fun b hb=>by have:=List.mem_singleton.mp hb; subst this; exact fp)
    have fp3:FpOk X pins H2 T3:=K2.fpOk Nd.new (K2.hok.fresh Nd.new)
    refine flight_none (s:={ s2 with heap:=h3 }) Nd.fly fun h4 k4 _ fly4=>?_
    have K4:=K3.landed fp3 k4
    exact hh pins _ σ' H2 D e C od T3 K4 he fly4 fp3 hth
  · cases fl with
    | next=>exact wpAny_execs_nil (SP.untried I.ok h1)
    | brk=>exact SP.untried I.ok h1
    | cont=>exact SP.untried I.ok h1
    | ret u=>exact SP.untried I.ok h1
end
open PySem PySem.Spec PyProof.Rows
theorem cxx_no {P:Program} {w:World} {o:List Env} {H:Hp} {s s':Shared} {e:Value} (h:CXx P w o H s (fun _ _ _=>False) e s'):False:=by
  obtain ⟨_,_,_,_,_,_,_,_,_,_,_,_,_,_,z⟩:=h
  exact z
def sp_x1 (C:Addr) (f:Str):Sp:=fun vs H Q _=>∃ p y,vs = [.ref p,y] /\ H p = some (exO true false p C none) /\ ∀ dx,H dx = none->Q .non (upd (upd H dx (xdO dx [(f,y)])) p (exO true false p C (some dx)))
section
variable {K:PySem.W.Frag} {C:Addr} {f g:Str} {y z:V} {H1:Hp} {E:XK}
theorem excAt_made {H1:Hp} {x dx C:Addr} {fs:List (Str × V)} (hx:H1 x = none) (hdx:upd H1 x (exO true false x C none) dx = none) :
    ExcAt (upd (upd (upd (upd H1 x (exO true false x C none)) dx (xdO dx fs)) x (exO true false x C (some dx))) x (exO false false x C (some dx))) x C fs /\ Same H1 (upd (upd (upd (upd H1 x (exO true false x C none)) dx (xdO dx fs)) x (exO true false x C (some dx))) x (exO false false x C (some dx))):=by
  have hne:dx ≠ x:=fun e=>by rw [e,upd_same] at hdx; cases hdx
  have hn:H1 dx = none:=by rw [upd_ne hne] at hdx; exact hdx
  refine ⟨⟨false,false,some dx,upd_same,?_,hne⟩,fun b o q=>?_⟩
  · rw [upd_ne hne,upd_ne hne,upd_same]
  · have h1:=ne_of_none q hx
    have h2:=ne_of_none q hn
    rw [upd_ne h1,upd_ne h1,upd_ne h2,upd_ne h1]; exact q
theorem raise1 (c:XCls K C) (h:∀ e H',ExcAt H' e C [(f,y)]->Same H1 H'->E (.ref C) (some e) H') :
    [y].length ≤ sizeLine /\ ∀ x,H1 x = none->sp_x1 C f (.ref x :: [y]) (upd H1 x (exO true false x C none)) (fun v H2=>v = .non /\ ∃ e C' od,V.ref x = .ref e /\ H2 e = some (exO true false e C' od) /\ XCls K C' /\ E (.ref C') (some e) (upd H2 e (exO false false e C' od))) E0 :=
  ⟨by show 1 ≤ sizeLine; decide,fun x hx=>⟨x,y,rfl,upd_same,fun dx hdx=>⟨rfl,x,C,some dx,rfl,upd_same,c,let ⟨a,b⟩:=excAt_made hx hdx; h x _ a b⟩⟩⟩
end
open PySem
theorem decV {i j:Int} (h:decide (V.int i = V.int j) = true):i = j:=V.int.inj (of_decide_eq_true h)
theorem decVn {i j:Int} (h:¬ decide (V.int i = V.int j) = true):¬ i = j:=fun e=>h (decide_eq_true (congrArg V.int e))
theorem putF_ne {f g:Str} {v x:V} {r:List (Str × V)} (h:¬ g = f):putF f v ((g,x) :: r) = (g,x) :: putF f v r:=by
  show (if g = f then _ else _) = _
  rw [if_neg h]
theorem look_eq {f:Str} {x:V} {r:List (Str × V)}:List.lookup f ((f,x) :: r) = some x:=by
  rw [List.lookup_cons]; simp
def Keep (F:List Addr) (H H':Hp):Prop:=∀ b o,H b = some o->b ∉ F->H' b = some o
theorem Keep.of_same {F:List Addr} {H H':Hp} (h:Same H H'):Keep F H H':=fun b o e _=>h b o e
theorem keep_upd {F:List Addr} {H H':Hp} {p:Addr} {o:HO} (s:Keep F H H') (h:p ∈ F ∨ H p = none):Keep F H (upd H' p o):=fun b u e hb=>by
  rw [upd_ne]
  · exact s b u e hb
  · rintro rfl
    rcases h with h | h
    · exact hb h
    · rw [h] at e; cases e
theorem Keep.refl {F:List Addr} {H:Hp}:Keep F H H:=fun _ _ e _=>e
structure ChAt (H:Hp) (L:List V) (chs:List (Int × Int)):Prop where
  len:L.length = chs.length
  get:∀ (i:Nat) v,L[i]? = some v->∃ t r,v = V.ref t /\ chs[i]? = some r /\ H t = some (.tup [.int r.1,.int r.2])
theorem ChAt.nil {H:Hp}:ChAt H [] []:=⟨rfl,fun i v e=>by simp at e⟩
theorem ChAt.mono {H H':Hp} {L:List V} {chs:List (Int × Int)} (R:ChAt H L chs) (h:∀ t xs,H t = some (.tup xs)->H' t = some (.tup xs)):ChAt H' L chs :=
  ⟨R.len,fun i v e=>let ⟨t,r,a,b,c⟩:=R.get i v e; ⟨t,r,a,b,h t _ c⟩⟩
theorem ChAt.snoc {H:Hp} {L:List V} {chs:List (Int × Int)} (R:ChAt H L chs) {t:Addr} {r:Int × Int} (h:H t = some (.tup [.int r.1,.int r.2])):ChAt H (L ++ [.ref t]) (chs ++ [r]) :=
  ⟨by simp [R.len],fun i v e=>by
    by_cases hi:i < L.length
    · rw [List.getElem?_append_left hi] at e
      obtain ⟨t,r,a,b,c⟩:=R.get i v e
      exact ⟨t,r,a,by rw [List.getElem?_append_left (by rw [← R.len]; exact hi)]; exact b,c⟩
    · rw [List.getElem?_append_right (by omega)] at e
      have hi2:i - L.length = 0:=by
        have:=(List.getElem?_eq_some_iff.mp e).1
        simp at this; omega
      rw [hi2] at e
      have e:V.ref t = v:=by simpa using e
      refine ⟨t,r,e.symm,?_,h⟩
      rw [List.getElem?_append_right (by rw [← R.len]; omega),← R.len,hi2]; rfl⟩
def fl (wd ls:Int) (ta sa:Addr):List (Str × V):=[("wide",.int wd),("last",.int ls),("tables",.ref ta),("set_places",.ref sa)]
theorem s1:¬ (("wide":Str) = "last"):=by decide +kernel
theorem s2:¬ (("wide":Str) = "tables"):=by decide +kernel
theorem s3:¬ (("wide":Str) = "set_places"):=by decide +kernel
theorem s4:¬ (("last":Str) = "tables"):=by decide +kernel
theorem s5:¬ (("last":Str) = "set_places"):=by decide +kernel
theorem s6:¬ (("tables":Str) = "set_places"):=by decide +kernel
open PySem PySem.Spec PyProof.Rows
def rSlS:V->Option Int->Option Int->Hp->VK->Prop:=fun x lo hi H Q=>∃ z,x = .str z /\ z.length ≤ sizeLine /\ Q (.str (Txt.slice z lo hi)) H
section
variable {X:Cx}
theorem sl_str:SlR X rSlS:=by
  rintro pins s σ H x v vl vu lo hi sl Q I rx hs pl pu ⟨z,rfl,hz,q⟩
  obtain ⟨t,rfl⟩:=(show ∃ t,v = Value.str z t from rx)
  have fin:∀ t' k,EP X pins σ Q (.str (Txt.slice z lo hi) t') { s with toks:=k }:=fun t' k=>⟨.str _,H,I.tok k,⟨t',rfl⟩,q⟩
  refine ⟨"str",_,F.slot_str_getitem.lookup,typeIs_str _ _ _,?_⟩
  cases pl with
  | none=>cases pu with
    | none=>exact wpAny_getItem_str_slice (l:=none) (u:=none) (st:=none) hs rfl (post_val_or_str ⟨Nat.le_trans (Txt.slice_le z _ _) hz,fun t' k=>fin t' k⟩)
    | int j uj=>exact wpAny_getItem_str_slice (l:=none) (u:=some (j,uj)) (st:=none) hs rfl (post_val_or_str ⟨Nat.le_trans (Txt.slice_le z _ _) hz,fun t' k=>fin t' k⟩)
  | int i ui=>cases pu with
    | none=>exact wpAny_getItem_str_slice (l:=some (i,ui)) (u:=none) (st:=none) hs rfl (post_val_or_str ⟨Nat.le_trans (Txt.slice_le z _ _) hz,fun t' k=>fin t' k⟩)
    | int j uj=>exact wpAny_getItem_str_slice (l:=some (i,ui)) (u:=some (j,uj)) (st:=none) hs rfl (post_val_or_str ⟨Nat.le_trans (Txt.slice_le z _ _) hz,fun t' k=>fin t' k⟩)
theorem call_int_str:CallR X (.type "int") (fun xs H Q=>∃ z n,xs = [.str z] /\ intText? z = some n /\ z.length ≤ 640 /\ Q (.int n) H):=by
  rintro pins s σ H xs us Q I r ⟨z,n,rfl,hn,hl,q⟩
  obtain ⟨u,rfl,ru⟩:=vals1 r
  obtain ⟨t,rfl⟩:=(show ∃ t,u = Value.str z t from ru)
  exact PySem.W.KIN.call_text hn hl ⟨.int n,H,I.tok _,⟨_,rfl⟩,q⟩
end
def Itx (x:Str):It:=⟨fun i _=>i < x.cps.size,fun i H v H'=>H' = H /\ ∃ c,x.cps[i]? = some c /\ v = .str ⟨#[c]⟩,fun i _=>x.cps.size ≤ i⟩
theorem turn_str {P:Program} {w:World} {K:PySem.W.Frag} {tg:Expr} (it:Addr) (x:Str) (t:Tok) (k:String) (hk:k = "str_ascii_iterator" ∨ k = "str_iterator"):Turn P w K tg (Itx x) [it] it (fun i h=>h.IsStrIter it k x t i) where
  mem:=by simp
  obj:=fun i h st b hb=>by
    have e:b = it:=by simpa using hb
    subst e
    obtain ⟨o,e,c,d⟩:=st
    exact ⟨o,e,fun v z=>by rw [d] at z; cases z⟩
  keep:=fun i h h' st kk=>let ⟨o,e,r⟩:=st; ⟨o,kk it (by simp) o e,r⟩
  item:=by
    intro X hP hw hK hc i pins s σ H E I hf st hg
    subst hP hw hK
    have hg:i < x.cps.size:=hg
    obtain ⟨f0,f1,f2,f3,f4,f5⟩:=hf it (by simp)
    have W:Walks X.prog X.w X.A it [it] [it] x.cps.size (SignAt x) (fun i h=>h.IsStrIter it k x t i):=by
      rcases hk with rfl | rfl
      · exact Walks.strAscii (I.ok.hd hc) it x t
      · exact Walks.strWide (I.ok.hd hc) it x t
    refine W.item i s _ _ hg st fun v h' tk hv st' kk=>?_
    obtain ⟨c,u,hcx,rfl⟩:=hv
    have I1:Inv X pins σ H { s with heap:=h',toks:=tk }:=I.turned (fun b o hb e=>kk b o (by simpa using hb) e) f0 f1 f3 f4 f5
    obtain ⟨o,e,c1,d1⟩:=id st'
    exact ⟨_,rfl,go_of (s:={ s with heap:=h',toks:=tk }) e c1 d1 (by rcases hk with rfl | rfl <;> decide) ⟨.str ⟨#[c]⟩,H,I1,⟨u,rfl⟩,⟨rfl,c,hcx,rfl⟩,st',fun b hb=>(hf b hb).1⟩⟩
  done:=by
    intro X hP hw hK hc i pins s σ H E I hf st hg
    subst hP hw hK
    have hg:x.cps.size ≤ i:=hg
    obtain ⟨f0,f1,f2,f3,f4,f5⟩:=hf it (by simp)
    have hn:x.cps[i]? = none:=by simp; omega
    rcases hk with rfl | rfl
    · exact wpAny_pyNext_ascii_end (I.ok.hd hc) st hn fun h' eb=>⟨rfl,I.turned (t':=s.toks) (fun b o hb e=>eb b o hb e) f0 f1 f3 f4 f5⟩
    · exact wpAny_pyNext_wide_end (I.ok.hd hc) st hn fun h' eb=>⟨rfl,I.turned (t':=s.toks) (fun b o hb e=>eb b o hb e) f0 f1 f3 f4 f5⟩
  self:=fun _ _ _ _ _ st h=>by
    rcases hk with rfl | rfl
    · exact wpAny_pyIter_striter_ascii st h
    · exact wpAny_pyIter_striter_wide st h
def iStr (tl:TE):TI:=fun σ H R=>tl σ H fun x H1=>∃ z,x = .str z /\ R (Itx z) H1
theorem pi_str {X:Cx} {tg l:Expr} {tl:TE} (hl:PE X l tl):PI X tg l (iStr tl):=by
  intro pins s σ H R I h
  refine thn (hl pins s σ H _ I h) fun v s1 ⟨x,H1,I1,r1,q1⟩=>?_
  obtain ⟨z,e,q⟩:=q1
  subst e
  obtain ⟨t,rfl⟩:=(show ∃ t,v = Value.str z t from r1)
  have fin:∀ k (hk:k = "str_ascii_iterator" ∨ k = "str_iterator"),PIE X pins σ tg R (.ref s1.heap.objs.size) { s1 with heap:=s1.heap.push { cls:=.type k,data:=.fields #[.str z t,.int 0 0] } }:=fun k hk=>by
    refine ⟨s1.heap.objs.size,[s1.heap.objs.size],_,_,H1,rfl,I1.kept (t':=s1.toks) fun b o e=>Heap.get?_push_of_some _ e,turn_str _ z t k hk,⟨_,Heap.get?_push_size _ rfl,rfl,rfl⟩,fun b hb=>?_,q⟩
    have e:b = s1.heap.objs.size:=by simpa using hb
    subst e
    exact I1.fpOk (Nat.le_refl _) (I1.hok.fresh (Nat.le_refl _))
  cases ha:z.cps.all (· < 128)
  · exact wpAny_pyIter_wide ha (fin _ (.inr rfl))
  · exact wpAny_pyIter_ascii ha (fin _ (.inl rfl))
theorem for_str {x:Str} {g:TG} {tb:TS} {D:Ends} {σ:St} {H:Hp} (Pv:Nat->St->Hp->Prop) (h0:Pv 0 σ H)
    (hs:∀ i c σ H,x.cps[i]? = some c->Pv i σ H->g (.str ⟨#[c]⟩) σ H fun σ2 H2=>tb { D with nx:=Pv (i + 1),ct:=Pv (i + 1),bk:=D.nx } σ2 H2) (hd:∀ σ H,Pv x.cps.size σ H->D.nx σ H) :
    ∃ W:Nat->Nat->St->Hp->Prop,(∃ m,W 0 m σ H) /\ ∀ i m σ H,W i m σ H →
      ((Itx x).stop i H /\ D.nx σ H) ∨ ((Itx x).go i H /\ ∃ N:St->Hp->Prop,(∀ σ' H',N σ' H'->∃ m',m' < m /\ W (i + 1) m' σ' H') /\ ∀ v H',(Itx x).yld i H v H'->g v σ H' fun σ2 H2=>tb { D with nx:=N,ct:=N,bk:=D.nx } σ2 H2):=by
  refine ⟨fun i m σ H=>m = x.cps.size - i /\ i ≤ x.cps.size /\ Pv i σ H,⟨x.cps.size,by simp,Nat.zero_le _,h0⟩,?_⟩
  rintro i m σ H ⟨rfl,hi,p⟩
  by_cases hlt:i < x.cps.size
  · refine .inr ⟨hlt,Pv (i + 1),fun σ' H' p'=>⟨x.cps.size - (i + 1),by omega,rfl,hlt,p'⟩,?_⟩
    rintro v H' ⟨rfl,c,hc,rfl⟩
    exact hs i c σ _ hc p
  · have e:i = x.cps.size:=by omega
    subst e
    exact .inl ⟨Nat.le_refl _,hd σ H p⟩
theorem comp_str {x:Str} (D:Addr) {g:TG} {tt:TT} {te:TE} {σ:St} {H:Hp} {R:Hp->Prop} (Pv:Nat->St->Hp->List V->Prop) (h0:Pv 0 σ H [])
    (hs:∀ i c σ H ys,x.cps[i]? = some c->Pv i σ H ys->g (.str ⟨#[c]⟩) σ H fun σ3 H3=>tt σ3 H3 fun b H4=>if b = true then
      te σ3 H4 fun y H5=>H5 D = some (.lst ys) /\ ys.length < sizeLine /\ Pv (i + 1) σ3 (upd H5 D (.lst (ys ++ [y]))) (ys ++ [y]) else Pv (i + 1) σ3 H4 ys) (hd:∀ σ H ys,Pv x.cps.size σ H ys->R H) :
    ∃ W:Nat->Nat->St->Hp->List V->Prop,(∃ m,W 0 m σ H []) /\ ∀ i m σ' H' ys,W i m σ' H' ys->((Itx x).stop i H' /\ R H') ∨
      ((Itx x).go i H' /\ ∃ N:St->Hp->List V->Prop,(∀ σ' H' ys',N σ' H' ys'->∃ m',m' < m /\ W (i + 1) m' σ' H' ys') /\ ∀ v H2,(Itx x).yld i H' v H2->g v σ' H2 fun σ3 H3=>tt σ3 H3 fun b H4=>if b = true then
        te σ3 H4 fun y H5=>H5 D = some (.lst ys) /\ ys.length < sizeLine /\ N σ3 (upd H5 D (.lst (ys ++ [y]))) (ys ++ [y])
        else N σ3 H4 ys):=by
  refine ⟨fun i m σ H ys=>m = x.cps.size - i /\ i ≤ x.cps.size /\ Pv i σ H ys,⟨x.cps.size,by simp,Nat.zero_le _,h0⟩,?_⟩
  rintro i m σ H ys ⟨rfl,hi,p⟩
  by_cases hlt:i < x.cps.size
  · refine .inr ⟨hlt,Pv (i + 1),fun σ' H' ys' p'=>⟨x.cps.size - (i + 1),by omega,rfl,hlt,p'⟩,?_⟩
    rintro v H' ⟨rfl,c,hc,rfl⟩
    exact hs i c σ _ ys hc p
  · have e:i = x.cps.size:=by omega
    subst e
    exact .inl ⟨Nat.le_refl _,hd σ H ys p⟩
theorem call_all_bl {X:Cx} (hc:X.calm = true):CallR X (.builtin "all") (fun xs H Q=>∃ p,∃ bs:List Bool,xs = [.ref p] /\ SqL X.K H p (bs.map V.bl) /\ Q (.bl (bs.all id)) H):=by
  rintro pins s σ H xs us Q I r ⟨p,bs,rfl,hS,q⟩
  obtain ⟨u,rfl,ru⟩:=vals1 r
  cases ru
  obtain ⟨its,rv,pl,_⟩:=I.list hS
  have hh:X.A.in1.handled = none:=I.ok.hd hc
  have hlen:=rv.length
  have hpl:p < s.heap.objs.size:=by obtain ⟨o,e,_⟩:=pl.isList; exact Heap.lt_size e
  refine call_all_walk (wpAny_pyIter_list pl.isList ?_)
  refine ⟨s.heap.objs.size,_,_,_,_,_,fun i=>bs.getD i false,rfl,Walks.list hh s.heap.objs.size p (Nat.ne_of_lt hpl) its.toArray,⟨⟨_,Heap.get?_push_size _ rfl,rfl,rfl⟩,pl.isList.push _⟩,?_,fun h' tk k=>?_⟩
  · intro i v s' Q' E' hv hQ
    have hv:its.toArray[i]? = some v:=hv
    have hi:i < bs.length:=by
      have:=(Array.getElem?_eq_some_iff.mp hv).1
      simp at this; simp at hlen; omega
    obtain ⟨u,hu,ru⟩:=Vals.get rv (i:=i) (x:=V.bl (bs.getD i false)) (by simp [hi])
    have:v = u:=by
      have h2:its[i]? = some v:=by simpa using hv
      rw [h2] at hu; exact Option.some.inj hu
    subst this
    cases (show v = Value.bool (bs.getD i false) from ru)
    exact wpAny_truthy_bool hQ
  · have I1:Inv X pins σ H { s with heap:=h',toks:=tk }:=I.kept fun b o e=>k b o (fun hb=>by
      have hb:b = s.heap.objs.size:=by simpa using hb
      exact absurd (Heap.lt_size e) (by rw [hb]; exact Nat.lt_irrefl _)) (Heap.get?_push_of_some _ e)
    refine ⟨.bl (bs.all id),H,I1,?_,q⟩
    show Value.bool _ = Value.bool _
    congr 1
    have hz:its.toArray.size = bs.length:=by simp at hlen ⊢; omega
    rw [hz]
    clear hz hlen rv pl q hS
    have:∀ bs:List Bool,(List.range bs.length).all (fun i=>bs.getD i false) = bs.all id:=fun bs=>by
      rw [Bool.eq_iff_iff,List.all_eq_true,List.all_eq_true]
      constructor
      · intro h b hb
        obtain ⟨i,hi⟩:=List.mem_iff_getElem?.mp hb
        have hl:=(List.getElem?_eq_some_iff.mp hi).1
        have:=h i (List.mem_range.mpr hl)
        simp [hi] at this
        exact this
      · intro h i hi
        have hl:=List.mem_range.mp hi
        have:=h bs[i] (List.getElem_mem hl)
        simpa [hl] using this
    exact this bs
open PySem PySem.Spec PyProof.Rows
abbrev FIGS:Str:=Str.ofString "0123456789"
def figB (c:Nat):Bool:=!(Builtin.Str.occurrences FIGS ⟨#[c]⟩ 0 FIGS.length 1).isEmpty
def isNum (z:Str):Bool:=z.cps.toList.all figB
def okW (z:Str):Bool:=decide (1 ≤ z.length) && decide (z.length ≤ 20) && (decide (z.length = 1) || !decide (z.cps.toList[0]? = some 48)) && isNum z
def intOf (z:Str):Int:=(intText? z).getD 0
theorem figB_digit {c:Nat} (h:figB c = true):48 ≤ c /\ c ≤ 57:=by
  unfold figB at h
  rw [PySem.StrLaws.found_one] at h
  have h:=of_decide_eq_true h
  have e:FIGS.cps.toList = [48,49,50,51,52,53,54,55,56,57]:=by decide +kernel
  rw [e] at h
  simp at h
  omega
theorem intOf_ok {z:Str} (h:isNum z = true) (h1:1 ≤ z.length) (h2:z.length ≤ 200):intText? z = some (intOf z):=by
  have e:=intText_digits (x:=z) (fun c hc=>figB_digit (List.all_eq_true.mp h c hc)) (by intro e; unfold Str.length at h1; rw [← Array.length_toList,e] at h1; simp at h1) (by omega)
  unfold intOf
  rw [e]; rfl
theorem okW_num {z:Str} (h:okW z = true):intText? z = some (intOf z):=by
  simp only [okW,Bool.and_eq_true,decide_eq_true_eq] at h
  exact intOf_ok h.2 h.1.1.1 (by omega)
theorem boot_ValueError:bootBuiltins "ValueError" = some (.type "ValueError"):=by decide +kernel
theorem okW_lo {z:Str} (h:¬ 1 ≤ z.length):okW z = false:=by unfold okW; rw [decide_eq_false h]; rfl
theorem okW_hi {z:Str} (h:¬ z.length ≤ 20):okW z = false:=by unfold okW; rw [decide_eq_false h,Bool.and_false]; rfl
theorem okW_zero {z:Str} (h:z.length ≠ 1) (h0:z.cps.toList[0]? = some 48):okW z = false:=by unfold okW; rw [decide_eq_false h,decide_eq_true h0]; simp
theorem okW_all {z:Str} (h1:1 ≤ z.length) (h2:z.length ≤ 20) (h3:z.length = 1 ∨ ¬ z.cps.toList[0]? = some 48):okW z = isNum z:=by
  unfold okW
  rw [decide_eq_true h1,decide_eq_true h2]
  rcases h3 with h | h
  · rw [decide_eq_true h]; simp
  · rw [decide_eq_false h]; simp
theorem isNum_one {z:Str} {i c:Nat} (h:z.cps.toList[i]? = some c) (hf:figB c = false):isNum z = false:=by
  unfold isNum
  rw [List.all_eq_false]
  exact ⟨c,List.mem_of_getElem? h,by rw [hf]; decide⟩
theorem str_len (z:Str):z.cps.toList.length = z.length:=by simp [Str.length]
theorem str_first {z:Str} (h:1 ≤ z.length):∃ c,z.cps.toList[0]? = some c:=by
  rw [← str_len] at h
  exact ⟨_,List.getElem?_eq_getElem (by omega)⟩
theorem str_zero {z:Str} (h:z.length = 1) (h0:z.cps.toList[0]? = some 48):z = Str.ofString "0":=by
  rw [← str_len] at h
  obtain ⟨⟨l⟩⟩:=z
  match l,h,h0 with
  | [c],_,h0 =>
    have:c = 48:=by simpa using h0
    subst this
    decide +kernel
theorem one_eq {c d:Nat}:(V.str ⟨#[c]⟩ = V.str ⟨#[d]⟩) ↔ c = d:=by simp
theorem args2 {a:Addr} {m k:Int} (h:m = k):[V.ref a,V.int m] = [V.ref a,V.int k]:=by rw [h]
theorem str_add_len (x y:Str):(x ++ y).length = x.length + y.length:=by
  show (x.cps ++ y.cps).size = _
  simp [Str.length]
open PySem PySem.Spec PyProof.Rows
section
variable {M:Model} {A:Around} {E:Value->Shared->Prop} {s:Shared} {base:Heap} {env:Env} {outer:List Env} {L e:Addr} {Q:Unit->Shared->Prop}
theorem note_other {T:Addr} {fl:Value} (hfr:A.frames = some (env :: outer)) (hl:s.heap.FunFrames base (env :: outer)) (hf:env.frame = some L) (hF:Fly s.heap e T fl) (hne:(fl == rawInt L) = false)
    (h:∀ h' T',Noted (frs (env :: outer)) [T] e T' (rawInt L) s.heap h'->Q () { s with heap:=h' }):wpAny M A (noteFrame (.ref e) env) Q E s:=by
  obtain ⟨oe,vs,oT,ts,he,hd,h1,hT,hdT,h3,hTe⟩:=hF
  unfold noteFrame
  simp only [hf]
  refine wpAny_bind (wpAny_field he hd h1 ?_)
  rw [if_pos (show (Value.ref T != Value.none) = true from by simp)]
  refine wpAny_bind (wpAny_field hT hdT h3 ?_)
  rw [if_neg (show ¬ ((fl == rawInt L) = true) from by rw [hne]; decide)]
  refine wpAny_bind (wpAny_setField hT hdT (Array.getElem?_eq_some_iff.mp h3).1 ?_)
  have other:∀ b,b ≠ T->(s.heap.update T (Obj.mapFields (·.setIfInBounds 3 Value.none))).get? b = s.heap.get? b:=fun b hb=>Heap.get?_update_other _ _ (Ne.symm hb)
  have nrec:∀ b o,s.heap.get? b = some o->(∀ vs,o.data ≠ .fields vs)->b ≠ T:=fun b o hb hnf q=>by
    rw [q,hT] at hb
    cases hb
    exact hnf ts hdT
  have sz:(s.heap.update T (Obj.mapFields (·.setIfInBounds 3 Value.none))).objs.size = s.heap.objs.size:=Heap.size_after_update _ _ _
  refine entry_ok hfr (hl.of_keeps fun b o hb hnf=>⟨o,(other b (nrec b o hb hnf)).trans hb,rfl⟩) hf ((other e (Ne.symm hTe)).trans he) hd (Array.getElem?_eq_some_iff.mp h1).1 fun h' T' N=>h h' T' ?_
  dsimp only at N
  refine ⟨fun b o hb hc hbe q=>N.keep b o hb (by simp) hbe ((other b (by simpa using hc)).trans q),fun b o hb hc hbe q=>N.slot b o hb (by simp) hbe ((other b (by simpa using hc)).trans q),?_,fun oe' vs' q d=>N.exc oe' vs' ((other e (Ne.symm hTe)).trans q) d,N.fly⟩
  rw [← sz]; exact N.new
theorem note_same {T:Addr} (hf:env.frame = some L) (hF:Fly s.heap e T (rawInt L)) (h:Q () s):wpAny M A (noteFrame (.ref e) env) Q E s:=by
  obtain ⟨oe,vs,oT,ts,he,hd,h1,hT,hdT,h3,hTe⟩:=hF
  unfold noteFrame
  simp only [hf]
  refine wpAny_bind (wpAny_field he hd h1 ?_)
  rw [if_pos (show (Value.ref T != Value.none) = true from by simp)]
  refine wpAny_bind (wpAny_field hT hdT h3 ?_)
  rw [if_pos (show (rawInt L == rawInt L) = true from by simp)]
  exact wpAny_pure h
theorem passOn_ok {α:Type} {T:Addr} {fl:Value} {what:String} {Q':α->Shared->Prop} (hF:Fly s.heap e T fl) (h:∀ h' fl',(∀ b o,b ≠ T->s.heap.get? b = some o->h'.get? b = some o)->Fly h' e T fl'->E (.ref e) { s with heap:=h' }):wpAny M A (PySem.passOn what (.ref e) env:Sem α) Q' E s:=by
  obtain ⟨oe,vs,oT,ts,he,hd,h1,hT,hdT,h3,hTe⟩:=hF
  have hsz:3 < ts.size:=(Array.getElem?_eq_some_iff.mp h3).1
  unfold PySem.passOn
  refine wpAny_bind (wpAny_field he hd h1 ?_)
  rw [if_neg (show ¬ ((Value.ref T == Value.none) = true) from by simp)]
  unfold setFlight
  refine wpAny_bind (wpAny_bind (wpAny_field he hd h1 ?_))
  rw [if_pos (show (Value.ref T != Value.none) = true from by simp)]
  refine wpAny_setField hT hdT hsz (wpAny_throw (h _ (env.frame.elim Value.none fun f=>rawInt f) (fun b o hb q=>(Heap.get?_update_other _ _ (Ne.symm hb)).trans q) ?_))
  exact ⟨oe,vs,_,_,(Heap.get?_update_other _ _ hTe).trans he,hd,h1,Heap.get?_update_self _ hT (Obj.isFreed_of_fields (Obj.data_mapFields hdT _)),Obj.data_mapFields hdT _,by simp [hsz],hTe⟩
end
def PassesAt (X:Cx) (σ:St) (EX:XK):Prop:=∀ (pins:List (Addr × Obj)) (H:Hp) (s:Shared) (e C:Addr) (od:Option Addr) (T:Addr) (fl:Value),Inv X pins σ H s->Flown H e C od->FpOk X pins H T->Fly s.heap e T fl->EX (.ref C) (some e) H->X.xe (.ref e) s
def PassesI (X:Cx) (E:XS):Prop:=∀ (pins:List (Addr × Obj)) (σ:St) (H:Hp) (s:Shared) (e C:Addr) (od:Option Addr) (T:Addr) (fl:Value),Inv X pins σ H s->Flown H e C od->FpOk X pins H T->Fly s.heap e T fl->E σ (.ref C) (some e) H->X.xe (.ref e) s
section
variable {P:Program} {w:World} {K:PySem.W.Frag} {mg:Str->Option Value} {base:Heap} {N:List Str} {qual:Str} {scope:Scope} {f:Addr} {cd:Value} {A:Around} {outer:List Env} {s₀:Shared} {H₀:Hp} {E:XK}
theorem passesI:PassesI (cxOf (CXx P w) P w K mg base N qual scope f cd A outer s₀ H₀ E) (fun _=>E):=by
  rintro pins σ H s e C od T fl I he fp fly hE
  show wpAny _ _ (leaving _ (.ref e)) _ _ _
  unfold leaving
  by_cases hq:(fl == rawInt s₀.heap.objs.size) = true
  · have hq:=eq_of_beq hq
    subst hq
    refine wpAny_bind (note_same rfl fly ?_)
    refine flight_none fly fun h2 k _ fly2=>?_
    have J:=I.landed fp k
    exact ⟨e,C,od,T,H,rfl,J.os,J.bare,J.base,J.hok,he,fp.2.2.2.1.resolve_left (fun z=>by cases z),fp.1,fly2,hE⟩
  · have hq:(fl == rawInt s₀.heap.objs.size) = false:=by simpa using hq
    refine wpAny_bind (note_other I.ok.frames I.stack rfl fly hq fun h2 T2 Nd=>flight_none (s:={ s with heap:=h2 }) Nd.fly fun h3 k _ F=>?_)
    have Nd':=Nd.landed k F
    have J:=I.notedF (ch:=[T]) he Nd' (fun b hb=>by have:=List.mem_singleton.mp hb; subst this; exact fp)
    exact ⟨e,C,od,T2,H,rfl,J.os,J.bare,J.base,J.hok,he,Nat.le_trans I.sz Nd'.new,I.hok.fresh Nd'.new,Nd'.fly,hE⟩
end
theorem Fly.but {h h':Heap} {e T C:Addr} {fl:Value} (F:Fly h e T fl) (hs:Heap.SameBut C h h') (n1:e ≠ C) (n2:T ≠ C):Fly h' e T fl:=by
  obtain ⟨oe,vs,oT,ts,he,hd,h1,hT,hdT,h3,hTe⟩:=F
  exact ⟨oe,vs,oT,ts,hs.extBut _ _ n1 he,hd,h1,hs.extBut _ _ n2 hT,hdT,h3,hTe⟩
section
variable {X:Cx} {scope:Scope} {N:List Str} {k:Nat} {cap:List Nat} {tg iter elt:Expr} {ifs:List Expr} {wi:TI} {g:TG} {tt:TT} {te:TE} {pos:Pos}
theorem comp_passes {EX:XK} {use:Option (Value->Sem Unit)} {QQ:Value->Shared->Prop} {pins:List (Addr × Obj)} {s:Shared} {σ:St} {H:Hp} {fp:List Addr} {C:Addr} {acc:Value}
    (hpi:PassesAt X σ EX) (hst:X.stack = X.env :: X.outer) (hfr:X.env.frame = some X.env.locals) (I:Inv X pins σ H s) (hf:∀ b ∈ fp,FpOk X pins H b)
    (hCs:X.s₀.heap.objs.size ≤ C) (hCl:C ≠ X.env.locals) (hCc:∀ x c,X.env.cells.lookup x = some c->c ≠ C) (hCp:∀ p ∈ X.pn ++ pins,p.1 ≠ C) :
    PassesS ((X.comp scope N C s H fp).wish (notedBy (model X.prog X.w) X.A (compEnvC scope (clos X.env.cells scope.names []) C X.env) fun e s'=>compPost (model X.prog X.w) X.A X.xe use QQ acc C (.error e) s')) (fun _=>EX):=by
  rintro ps σ' H1 s1 v s2 J ⟨e,C',od,T,H2,rfl,os,bare,un,hok,he,hT,nT,fly,hE⟩
  have J:=Inv.unwish J
  have J2:=J.call' (ch:=[]) os un hok bare (fun b z=>absurd z (by simp))
  have fpT:=J.fpOk hT nT
  have fr:X.A.frames = some (X.env :: X.outer):=by rw [← hst]; exact I.ok.frames
  show wpAny _ _ (noteFrame (.ref e) X.env) _ _ _
  refine note_next fr (by rw [← hst]; exact J2.stack) hfr fly fun h3 T3 Nd=>?_
  rw [← hst] at Nd
  have J3:=J2.notedF (ch:=[T]) he Nd (fun b hb=>by have:=List.mem_singleton.mp hb; subst this; exact fpT)
  have hCn:H2 C = none:=J3.free
  have hsz2:s.heap.objs.size ≤ s2.heap.objs.size:=J2.sz
  have nT3:H2 T3 = none:=J2.hok.fresh Nd.new
  have K3:Inv X pins σ H2 { s2 with heap:=h3 }:=I.unblock hf J3
  have fp3:FpOk X pins H2 T3:=I.fpOk (Nat.le_trans hsz2 Nd.new) nT3
  have n1:e ≠ C:=fun z=>by obtain ⟨_,he⟩:=he; rw [z,hCn] at he; cases he
  have n2:T3 ≠ C:=by
    obtain ⟨m,hn,_⟩:=J2.loc
    obtain ⟨o,_,_,ho,_⟩:=hn
    exact Nat.ne_of_gt (Nat.lt_of_lt_of_le (Heap.lt_size ho) Nd.new)
  obtain ⟨m,hn,_⟩:=J3.loc
  have fin:∀ h',Heap.SameBut C h3 h'->∀ cenv:Env,cenv.locals = C->wpAny (model X.prog X.w) X.A (PySem.passOn "comprehension.variables-let-go" (.ref e) cenv:Sem Value) (fun _ _=>False) X.xe { s2 with heap:=h' }:=fun h' hs' cenv _=>by
    have K4:Inv X pins σ H2 { s2 with heap:=h' }:=K3.turned (t':=s2.toks) (fun b o hb e=>hs'.extBut b o hb e) hCn hCl (.inr hCs) hCc hCp
    refine passOn_ok (s:={ s2 with heap:=h' }) (Nd.fly.but hs' n1 n2) fun h5 fl' k5 fly5=>?_
    exact hpi pins H2 _ e C' od T3 fl' (K4.landed fp3 k5) he fp3 fly5 hE
  cases use with
  | none=>exact ⟨m,hn,fin⟩
  | some u=>exact ⟨m,hn,fin⟩
theorem comp_loopX {EX:XK} {use:Option (Value->Sem Unit)} {QQ:Value->Shared->Prop} {pins:List (Addr × Obj)} {s:Shared} {σ:St} {H:Hp} {it:Addr} {fp:List Addr} {tn:Nat->Heap->Prop} {J:It} {Q:VK}
    (hc:X.calm = true) (c:CompOk X.N X.env.scope scope N k cap)
    (hg:∀ C s₀ H₀ ex,PG (X.comp scope N C s₀ H₀ ex).nox tg g) (ht:∀ C s₀ H₀ ex,PTs (X.comp scope N C s₀ H₀ ex).nox ifs tt) (he:∀ C s₀ H₀ ex xe,PassesS ((X.comp scope N C s₀ H₀ ex).wish xe) (fun _=>EX)->PE ((X.comp scope N C s₀ H₀ ex).wish xe) elt te)
    (hpi:PassesAt X σ EX) (hst:X.stack = X.env :: X.outer) (hfr:X.env.frame = some X.env.locals)
    (I:Inv X pins σ H s) (T:Turn X.prog X.w X.K tg J fp it tn) (st:tn 0 s.heap) (hf:∀ b ∈ fp,FpOk X pins H b)
    (h:∀ D,H D = none->∃ W:Nat->Nat->St->Hp->List V->Prop,(∃ m,W 0 m (st0 k cap σ) (upd H D (.lst [])) []) /\ ∀ i m σ' H' ys,W i m σ' H' ys->(J.stop i H' /\ Q (.ref D) H') ∨
      (J.go i H' /\ ∃ N:St->Hp->List V->Prop,(∀ σ' H' ys',N σ' H' ys'->∃ m',m' < m /\ W (i + 1) m' σ' H' ys') /\ ∀ x H2,J.yld i H' x H2->g x σ' H2 fun σ3 H3=>tt σ3 H3 fun b H4=>if b = true then
        te σ3 H4 fun y H5=>H5 D = some (.lst ys) /\ ys.length < sizeLine /\ N σ3 (upd H5 D (.lst (ys ++ [y]))) (ys ++ [y])
        else N σ3 H4 ys))
    (hQ:∀ D C s1 H',Inv X pins σ H' s1->Q (.ref D) H'->(∃ m,s1.heap.Ns C m)->H' C = none->X.s₀.heap.objs.size ≤ C->C ≠ X.env.locals->(∀ x c,X.env.cells.lookup x = some c->c ≠ C)->(∀ p ∈ X.pn ++ pins,p.1 ≠ C) →
      compPost (model X.prog X.w) X.A X.xe use QQ (.ref D) C (.ok .next) s1) :
    wpAny (model X.prog X.w) X.A (newList []) (fun acc s₃=>wpAny (model X.prog X.w) X.A (newFunctionEnv scope X.env.globals (clos X.env.cells scope.names []) [] X.env.qual none .none (some X.env)) (fun cenv s₄ =>
      codeAny (model X.prog X.w) X.A (.compStart (.ListComp elt [⟨tg,iter,ifs,0⟩] scope pos) 0 (.ref it) acc { cenv with scope:=relabel scope X.env }) (compPost (model X.prog X.w) X.A X.xe use QQ acc cenv.locals) s₄) X.xe s₃) X.xe s:=by
  refine wpAny_newObj_type (wpAny_newFunctionEnv c.nocell (by intro y hy; simp at hy) (fun h₁ hns₁ hsb₁=>?_) c.kind)
  dsimp only at hns₁ hsb₁ ⊢
  generalize hH2:s.heap.push { cls:=.type "list",dict:=none,data:=.seq ([]:List Value).toArray } = H2 at hns₁ hsb₁ ⊢
  have hC:H2.objs.size = s.heap.objs.size + 1:=by rw [← hH2,Heap.size_push]
  have hDC:s.heap.objs.size ≠ H2.objs.size:=by rw [hC]; exact Nat.ne_of_lt (Nat.lt_succ_self _)
  have hle:s.heap.objs.size ≤ H2.objs.size:=by rw [hC]; exact Nat.le_succ _
  have keep:∀ b o,s.heap.get? b = some o->h₁.get? b = some o:=fun b o e=>by
    exact hsb₁.extBut b o (anelt (Heap.lt_size e) hle) (Heap.get?_push_of_some _ (hH2 ▸ Heap.get?_push_of_some _ e))
  have hl:h₁.get? s.heap.objs.size = some { cls:=.type "list",data:=.seq #[] }:=hsb₁.extBut _ _ hDC (Heap.get?_push_of_some _ (hH2 ▸ Heap.get?_push_size _ rfl))
  have nD:H s.heap.objs.size = none:=I.hok.fresh (Nat.le_refl _)
  obtain ⟨W,⟨m0,w0⟩,turn⟩:=h _ nD
  have ho:∀ b ∈ fp,∃ o,s.heap.get? b = some o:=fun b hb=>let ⟨o,e,_⟩:=T.obj _ _ st b hb; ⟨o,e⟩
  have hCs:X.s₀.heap.objs.size ≤ H2.objs.size:=Nat.le_trans I.sz hle
  have hCl:H2.objs.size ≠ X.env.locals:=(anelt I.lt hle).symm
  have hCc:∀ x d,X.env.cells.lookup x = some d->d ≠ H2.objs.size:=fun x d e=>by
    obtain ⟨v,o,q,_⟩:=I.cell x d e
    exact anelt (Heap.lt_size q) hle
  have hCp:∀ p ∈ X.pn ++ pins,p.1 ≠ H2.objs.size:=fun p hp=>by
    exact anelt (Heap.lt_size (I.pin p hp).1) hle
  have loop:∀ s₃:Shared,s₃ = { s with heap:=h₁,toks:=s.toks + ([]:List (Str × Value)).length } →
      codeAny (model X.prog X.w) X.A (.compLoop (.ListComp elt [⟨tg,iter,ifs,0⟩] scope pos) 0 (.ref it) (.ref s.heap.objs.size) (compEnvC scope (clos X.env.cells scope.names []) H2.objs.size X.env))
        (compPost (model X.prog X.w) X.A X.xe use QQ (.ref s.heap.objs.size) H2.objs.size) s₃:=by
    rintro s₃ rfl
    have I0:Inv (X.comp scope N H2.objs.size s H fp) [] (st0 k cap σ) (upd H s.heap.objs.size (.lst [])) { s with heap:=h₁,toks:=s.toks + ([]:List (Str × Value)).length } :=
      I.block c hf ho (Nat.le_refl _) hle hDC rfl rfl keep hl (by simpa using hns₁)
    have stat:∀ {H':Hp} {ps:List (Addr × Obj)},(∀ b ∈ fp,H' b = none)->ps = []->∀ b ∈ fp,FpOk (X.comp scope N H2.objs.size s H fp).nox ps H' b:=fun hn hp b hb=>by
      subst hp
      exact ⟨hn b hb,(I0.ok.exf b hb).1,I0.ok.exfs b hb,.inl hb,(I0.ok.exf b hb).2,fun p hp=>by cases hp⟩
    have nok:∀ b ∈ fp,upd H s.heap.objs.size (.lst []) b = none:=fun b hb=>by
      obtain ⟨o,e⟩:=ho b hb
      rw [upd_ne (anelt (Heap.lt_size e) (Nat.le_refl _))]; exact (hf b hb).1
    refine codeAny_compLoop_go (fun n s'=>∃ i σ' H' ys,Inv (X.comp scope N H2.objs.size s H fp).nox [] σ' H' s' /\ tn i s'.heap /\ (∀ b ∈ fp,H' b = none) /\ W i n σ' H' ys) ?_ m0
      ⟨0,_,_,[],I0.wish _,T.keep _ _ _ st fun b _ o e=>keep b o e,nok,w0⟩
    rintro n s' ⟨i,σ',H',ys,I',st',fr',w'⟩
    rcases turn i n σ' H' ys w' with ⟨stop,q⟩ | ⟨go,NN,hNN,step⟩
    · refine wpAny_mono (T.done (X.comp scope N H2.objs.size s H fp).nox rfl rfl rfl hc i [] s' σ' H' (fun _ _=>False) I' (stat fr' rfl) st' stop) (fun r s4 ⟨hr,I4⟩=>?_) (fun _ _ x=>x.elim)
      subst hr
      exact hQ _ _ s4 H' (I.unblock hf I4.unwish) q (let ⟨m,hn,_⟩:=I4.loc; ⟨m,hn⟩) I4.free hCs hCl hCc hCp
    · refine wpAny_mono (T.item (X.comp scope N H2.objs.size s H fp).nox rfl rfl rfl hc i [] s' σ' H' (fun _ _=>False) I' (stat fr' rfl) st' go) (fun r s4 ⟨u,hr,h4⟩=>?_) (fun _ _ x=>x.elim)
      subst hr
      refine wpAny_mono h4 (fun _ s5 ⟨x,H5,I5,r5,y5,st5,fr5⟩=>?_) (fun _ _ x=>x.elim)
      have I5':=I5.pinned (stat fr5 rfl) (T.obj _ _ st5)
      refine wpAny_mono (hg _ _ _ _ _ s5 σ' H5 x u _ I5' r5 (step x H5 y5)) (fun _ s6 ⟨σ6,H6,I6,q6⟩=>?_) (fun _ _ x=>x.elim)
      refine wpAny_mono (ht _ _ _ _ _ s6 σ6 H6 _ I6 q6) (fun ok s7 ⟨H7,I7,q7⟩=>?_) (fun _ _ x=>x.elim)
      have again:∀ {H8:Hp} {s8:Shared} {ys8:List V},Inv (X.comp scope N H2.objs.size s H fp).nox ([] ++ pinsAt fp s5.heap) σ6 H8 s8->NN σ6 H8 ys8 →
          ∃ m,m < n /\ ∃ i σ' H' ys,Inv (X.comp scope N H2.objs.size s H fp).nox [] σ' H' s8 /\ tn i s8.heap /\ (∀ b ∈ fp,H' b = none) /\ W i m σ' H' ys:=fun {H8 s8 ys8} I8 n8=>by
        obtain ⟨m',hm,w8⟩:=hNN _ _ _ n8
        refine ⟨m',hm,i + 1,σ6,H8,ys8,I8.unpinned,T.keep _ _ _ st5 fun b hb o e=>(I8.pin (b,o) (List.mem_append_right _ (List.mem_append_right _ (mem_pinsAt hb e)))).1,fun b hb=>?_,w8⟩
        obtain ⟨o,e,d⟩:=T.obj _ _ st5 b hb
        exact (I8.pin (b,o) (List.mem_append_right _ (List.mem_append_right _ (mem_pinsAt hb e)))).2.1
      cases ok with
      | false=>exact again I7 q7
      | true =>
        refine wpAny_mono (he H2.objs.size s H fp (notedBy (model X.prog X.w) X.A (compEnvC scope (clos X.env.cells scope.names []) H2.objs.size X.env) fun e s'=>compPost (model X.prog X.w) X.A X.xe use QQ (.ref s.heap.objs.size) H2.objs.size (.error e) s')
          (comp_passes hpi hst hfr I hf hCs hCl hCc hCp) _ s7 σ6 H7 _ (I7.unwish.wish _) q7) (fun y s8 ⟨v,H8,I8,rv,hD,hlen,w8⟩=>?_) (fun _ _ x=>x)
        have I8:=(Inv.unwish I8).wish fun _ _=>False
        refine wpAny_mono (mt_append (X:=(X.comp scope N H2.objs.size s H fp).nox) _ s8 σ6 H8 (.ref s.heap.objs.size) [v] (.ref s.heap.objs.size) [y] (fun _ H9=>H9 = upd H8 s.heap.objs.size (.lst (ys ++ [v]))) I8 rfl (.cons rv .nil) ⟨_,ys,v,rfl,rfl,hD,hlen,rfl⟩) (fun _ s9 ⟨_,H9,I9,_,e9⟩=>?_) (fun _ _ x=>x.elim)
        subst e9
        exact again I9 w8
  exact codeAny_compStart_list (loop _ rfl) (T.self _ 0 _ _ _ (T.keep _ _ _ st fun b _ o e=>keep b o e) (loop _ rfl))
end
open PySem PySem.Spec PyProof.Rows
structure FunD (K:PySem.W.Frag) (x qual:Str) (st:Stmt) (f:Addr) (fd:FuncData) (dV:Value):Prop where
  ex:∃ (oc:Value) (od:Option Addr) (kV doc pm:Value) (an:Option Addr) (cdv ct:Value) (osl:Array (Option Value)),
    fd = PySem.W.fnOf x qual (defArgs st) (defBody st) (defScope st) dV kV doc pm an cdv ct /\ K.lookup f = some ⟨oc,od,.func fd,osl⟩ /\ PySem.W.codeIn K cdv qual = true
  kp:PySem.W.keepIn K (.ref f) = true
section
variable {P:Program} {w:World} {K:PySem.W.Frag} {mg:Str->Option Value} {base:Heap}
theorem FunD.okX {x qual:Str} {st:Stmt} {f:Addr} {fd:FuncData} {dV:Value} {N ps:List Str} {k:Nat} {sp:Sp} (F:FunD K x qual st f fd dV) (S:FnScope N ps (defScope st)) (len:∀ vs H Q E,sp vs H Q E->vs.length = ps.length)
    (hbody:∀ (cdv:Value) (A:Around) (outer:List Env) (s:Shared) (H:Hp) (vs:List V) (Q:VK) (E:XK),Room k (A.deeper (envOfC qual (defScope st) s.heap.objs.size f cdv))->sp vs H Q E →
      ∃ t,PSs (cxOf (CXx P w) P w K mg base N qual (defScope st) f cdv A outer s H E) (defBody st) t /\ t { nx:=fun _ H'=>Q .non H',rt:=Q } (start N vs) H):FnOk P w K mg base (CXx P w) (k + 1) f fd ps sp:=by
  obtain ⟨oc,od,kV,doc,pm,an,cdv,ct,osl,rfl,lk,hcd⟩:=F.ex
  exact fn_of lk hcd S len fun A outer s H vs Q E hr hsp=>hbody cdv A outer s H vs Q E hr hsp
theorem fund_mk {x qual:Str} {st:Stmt} {f:Addr} {oc dV:Value} {od an:Option Addr} {osl:Array (Option Value)} {kV doc pm cdv ct:Value} (l:K.lookup f = some ⟨oc,od,.func (PySem.W.fnOf x qual (defArgs st) (defBody st) (defScope st) dV kV doc pm an cdv ct),osl⟩)
    (c:PySem.W.codeIn K cdv qual = true) (k:PySem.W.keepIn K (.ref f) = true):FunD K x qual st f (PySem.W.fnOf x qual (defArgs st) (defBody st) (defScope st) dV kV doc pm an cdv ct) dV:=⟨⟨oc,od,kV,doc,pm,an,cdv,ct,osl,rfl,l,c⟩,k⟩
theorem FunD.binds {x qual:Str} {st:Stmt} {f T:Addr} {fd:FuncData} {ps:List Str} {o:Obj} {its:Array Value} {n:Nat} {ds:List Value} (F:FunD K x qual st f fd (.ref T)) (ho:K.lookup T = some o) (hs:o.data = .seq its n)
    (h:∀ (kV doc pm:Value) (an:Option Addr) (cdv ct:Value) (us:List Value),us.length + ds.length = ps.length->∃ k:Option (Array Value)->Sem (List (Str × Value)),
      bindArgs (PySem.W.fnOf x qual (defArgs st) (defBody st) (defScope st) (.ref T) kV doc pm an cdv ct) ⟨us,[]⟩ = seqItems? (.ref T) >>= k /\ k (some its) = pure (ps.zip (us ++ ds))):Binds K fd ps ds:=by
  obtain ⟨oc,od,kV,doc,pm,an,cdv,ct,osl,rfl,lk,hcd⟩:=F.ex
  intro s us X hl
  obtain ⟨k,h1,h2⟩:=h kV doc pm an cdv ct us (by rw [← List.length_append]; exact hl)
  exact PySem.W.binds_K X rfl ho hs h1 h2
end
section
variable (P:Program) (w:World) (K:PySem.W.Frag) (mg:Str->Option Value) (base:Heap)
structure ClsFn (C:Addr) (m:Str) (f:Addr):Prop where
  ga:PySem.W.specialIn K (.ref C) "__getattribute__" = some (some (.builtin "type.__getattribute__"))
  rd:PySem.W.readsIn K C (.type "type") = true
  fc:PySem.W.findCls K (.ref C) (.type "type") m = some (.val (.ref f))
  kp:PySem.W.keepIn K (.ref f) = true
structure ClsX (x:Str) (C:Addr) (m:Str) (k:Nat) (ps:List Str) (sp:Sp):Prop where
  ex:∃ (f:Addr) (fd:FuncData),mg x = some (.ref C) /\ ClsFn K C m f /\ FnOk P w K mg base (CXx P w) k f fd ps sp /\ Binds K fd ps []
end
def tEither (t1 t2:TE):TE:=fun σ H Q=>t1 σ H Q ∨ t2 σ H Q
section
variable {X:Cx} {k:Nat} {f C:Addr} {fd:FuncData} {ps:List Str} {sp:Sp} {E:XS} {x m:Str} {p pos apos:Pos} {e o:Expr} {es:List Expr} {ta:TE} {t:TA} {ds:List Value} {dvs:List V}
theorem pe_or2 {t1 t2:TE} (h1:PE X e t1) (h2:PE X e t2):PE X e (tEither t1 t2):=fun pins s σ H Q I h=>h.elim (h1 pins s σ H Q I) (h2 pins s σ H Q I)
theorem call_int_bl:CallR X (.type "int") (fun xs H Q=>∃ b:Bool,xs = [.bl b] /\ Q (.int (if b then 1 else 0)) H):=by
  rintro pins s σ H xs us Q I r ⟨b,rfl,q⟩
  obtain ⟨u,rfl,ru⟩:=vals1 r
  cases (show u = Value.bool b from ru)
  exact call_int_bool ⟨.int _,H,I.tok _,⟨_,rfl⟩,q⟩
theorem pe_clsS {pl:Sem Bool} (he:PE X o (tC (.ref C))) (D:ClsX X.prog X.w X.K X.mg X.base x C m k ps sp) (hx:PassesS X E) (hr:Room k X.A) (ha:PA X (e :: es) t)
    (hst:starEach (e :: es) X.env = (false,eval e X.env) :: starEach es X.env:=by rfl) (hpl:(backTo pos (starEach es X.env)).any (·.1) = false:=by rfl)
    (ht:eval (.Call (.Attribute o m apos) (e :: es) [] pos) X.env = (do
      let ov ← eval o X.env
      standAt apos.atName
      let (f,first) ← holding [ov] (getMethod ov m pl)
      callWith pos f first (backTo pos (starEach (e :: es) X.env)) (backToKw pos (keywordEach [] X.env))):=by rfl) :
    PE X (.Call (.Attribute o m apos) (e :: es) [] pos) (tCallS sp E t):=by
  obtain ⟨f,fd,_,c,F,b⟩:=D.ex
  intro pins s σ H Q I h
  refine PySem.W.methodCall_KW (pl:=pl) (thn (he pins s σ H (fun v H'=>v = .ref C /\ H' = H) I ⟨rfl,rfl⟩) fun u s1 ⟨x,H1,I1,rx,ex,eH⟩=>?_) ht
  subst ex eH
  obtain rfl:u = Value.ref C:=rx
  refine PySem.W.method_cls I1.kIn c.ga (PySem.W.cls_value I1.kIn c.rd c.fc rfl ?_)
  refine PySem.W.callWith_K (first:=[]) (h₀:=X.base) I.ok.mod.kin c.kp (thn (ha pos pins _ σ H1 _ (I1.tok _) h) fun us s2 ⟨vs,H2,I2,r,q2⟩=>⟨I2.kIn,?_⟩) hst hpl
  exact run_fnS F hr b hx I2 r q2
end
open PySem PySem.Spec PyProof.Rows
def Src (i l:Addr) (its:Array Value) (k:Nat) (h:Heap):Prop:=(h.IsListIter i l k /\ h.IsList l its) ∨ (h.IsTupleIter i l k /\ h.IsTuple l its)
theorem Src.mv {i l:Addr} {its:Array Value} {k:Nat} {h h':Heap} (x:Src i l its k h) (e1:∀ o,h.get? i = some o->h'.get? i = some o) (e2:∀ o,h.get? l = some o->h'.get? l = some o):Src i l its k h':=by
  rcases x with ⟨⟨o,a,b⟩,⟨p,c,d⟩⟩ | ⟨⟨o,a,b⟩,⟨p,c,d⟩⟩
  · exact .inl ⟨⟨o,e1 o a,b⟩,⟨p,e2 p c,d⟩⟩
  · exact .inr ⟨⟨o,e1 o a,b⟩,⟨p,e2 p c,d⟩⟩
section
variable {prog:Program} {w:World} {A:Around} {E:Value->Shared->Prop} {s:Shared} {i l:Addr} {its:Array Value} {k:Nat}
theorem tup_next {x:Value} {Q:Value->Shared->Prop} (h1:s.heap.IsTupleIter i l k) (h2:s.heap.IsTuple l its) (hx:its[k]? = some x) (hQ:∀ h',h'.IsTupleIter i l (k + 1)->Heap.SameBut i s.heap h'->Q x { s with heap:=h' }) :
    wpAny (model prog w) A (Builtin.SmallTypes.nextOf (.ref i)) Q E s:=by
  obtain ⟨o,ho,hc,hd⟩:=id h1
  obtain ⟨ot,hot,_,nt,hdt⟩:=h2
  have S:=PySem.F.slot_tuple_iterator_next
  unfold Builtin.SmallTypes.nextOf
  refine wpAny_bind (wpAny_callSpecial?_slot (name:=Str.ofString "__next__") h1.typeIs S (wpAny_call_entry S h1.typeIs PySem.F.entry_tuple_iterator_next ?_ (PySem.F.args_tuple_iterator_next_1 _)))
  show wpAny _ _ (field (Value.ref i) 0 >>= _) _ _ s
  refine wpAny_bind (wpAny_field ho hd (x:=Value.ref l) rfl ?_)
  show wpAny _ _ (if (Value.ref l == .none) = true then _ else _) _ _ s
  rw [if_neg (by simp)]
  show wpAny _ _ (field (Value.ref i) 1 >>= _) _ _ s
  refine wpAny_bind (wpAny_field ho hd (x:=Value.int k 0) rfl ?_)
  show wpAny _ _ (seqItems? (Value.ref l) >>= _) _ _ s
  refine wpAny_bind (wpAny_seqItems hot hdt ?_)
  simp only [Int.toNat_natCast,hx]
  refine wpAny_bind (wpAny_setField ho hd (by simp) (wpAny_pure ⟨x,rfl,wpAny_pure (hQ _ ⟨_,Heap.get?_update_self _ ho (Obj.isFreed_of_fields (Obj.data_mapFields hd _)),(Obj.cls_mapFields ..).trans hc,?_⟩ (Heap.SameBut.update ..))⟩))
  rw [Obj.data_mapFields hd]
  simp [rawInt]
theorem tup_end {Q:Value->Shared->Prop} (hh:A.handled = none) (h1:s.heap.IsTupleIter i l k) (h2:s.heap.IsTuple l its) (hx:its[k]? = none) (hE:∀ h' e,Heap.ExtBut i s.heap h'->(∃ o,h'.get? e = some o /\ o.cls = .type "StopIteration")->E (.ref e) { s with heap:=h' }) :
    wpAny (model prog w) A (Builtin.SmallTypes.nextOf (.ref i)) Q E s:=by
  obtain ⟨o,ho,hc,hd⟩:=id h1
  obtain ⟨ot,hot,_,nt,hdt⟩:=h2
  have S:=PySem.F.slot_tuple_iterator_next
  unfold Builtin.SmallTypes.nextOf
  refine wpAny_bind (wpAny_callSpecial?_slot (name:=Str.ofString "__next__") h1.typeIs S (wpAny_call_entry S h1.typeIs PySem.F.entry_tuple_iterator_next ?_ (PySem.F.args_tuple_iterator_next_1 _)))
  show wpAny _ _ (field (Value.ref i) 0 >>= _) _ _ s
  refine wpAny_bind (wpAny_field ho hd (x:=Value.ref l) rfl ?_)
  show wpAny _ _ (if (Value.ref l == .none) = true then _ else _) _ _ s
  rw [if_neg (by simp)]
  show wpAny _ _ (field (Value.ref i) 1 >>= _) _ _ s
  refine wpAny_bind (wpAny_field ho hd (x:=Value.int k 0) rfl ?_)
  show wpAny _ _ (seqItems? (Value.ref l) >>= _) _ _ s
  refine wpAny_bind (wpAny_seqItems hot hdt ?_)
  simp only [Int.toNat_natCast,hx]
  refine wpAny_bind (wpAny_rule (wpAny_bind (wpAny_setField ho hd (by simp) ?_)))
  show wpAny _ _ (newExc (Value.type "StopIteration") [] >>= _) _ _ _
  refine wpAny_bind ?_
  simp only [newExc,newTuple]
  refine wpAny_bind (wpAny_newObj_type ?_ (by size_fits))
  refine wpAny_bind (m:=firstArgMember _ _) (wpAny_of_eq (a:=Value.none) (by simp only [firstArgMember]; rfl) (wpAny_newObj_type ?_ (by size_fits)))
  simp only [raiseNew]
  refine wpAny_bind (wpAny_handled ?_)
  rw [show A.in1.handled = none from hh]
  exact wpAny_bind (wpAny_pure (wpAny_throw (hE _ _ (((Heap.SameBut.update ..).extBut.push _).push _) ⟨_,Heap.get?_push_size _ rfl,rfl⟩)))
theorem Src.item {x:Value} {Q:Value->Shared->Prop} (S:Src i l its k s.heap) (ne:l ≠ i) (hx:its[k]? = some x) (hQ:∀ h',Src i l its (k + 1) h'->Heap.SameBut i s.heap h'->Q x { s with heap:=h' }) :
    wpAny (model prog w) A (Builtin.SmallTypes.nextOf (.ref i)) Q E s:=by
  rcases S with ⟨a,b⟩ | ⟨a,b⟩
  · exact wpAny_nextOf_list_item a b hx fun h' a' sb=>hQ h' (.inl ⟨a',let ⟨p,c,d⟩:=b; ⟨p,sb.extBut _ _ ne c,d⟩⟩) sb
  · exact tup_next a b hx fun h' a' sb=>hQ h' (.inr ⟨a',let ⟨p,c,d⟩:=b; ⟨p,sb.extBut _ _ ne c,d⟩⟩) sb
theorem Src.fin {Q:Value->Shared->Prop} (hh:A.handled = none) (S:Src i l its k s.heap) (hx:its[k]? = none) (hE:∀ h' e,Heap.ExtBut i s.heap h'->(∃ o,h'.get? e = some o /\ o.cls = .type "StopIteration")->E (.ref e) { s with heap:=h' }) :
    wpAny (model prog w) A (Builtin.SmallTypes.nextOf (.ref i)) Q E s:=by
  rcases S with ⟨a,b⟩ | ⟨a,b⟩
  · exact wpAny_nextOf_list_end hh a b hx hE
  · exact tup_end hh a b hx hE
end
section
variable {prog:Program} {w:World} {A:Around} {E:Value->Shared->Prop} {s:Shared} {z TI TO i1 i2 l1 l2:Addr} {k1 k2:Nat} {xs ys:Array Value} {x y a b:Value}
theorem zipS_item {Q:Value->Shared->Prop} (D:ZipApart z TI TO i1 i2 l1 l2) (hz:IsZip s.heap z TI TO .none) (hI:IsPair s.heap TI (.ref i1) (.ref i2)) (hO:IsPair s.heap TO a b) (S1:Src i1 l1 xs k1 s.heap) (S2:Src i2 l2 ys k2 s.heap) (hx:xs[k1]? = some x) (hy:ys[k2]? = some y)
    (hQ:∀ h',IsZip h' z TI TO (rawInt s.heap.objs.size)->IsPair h' TO x y->Src i1 l1 xs (k1 + 1) h'->Src i2 l2 ys (k2 + 1) h'->IsPair h' s.heap.objs.size x y->h'.objs.size = s.heap.objs.size + 1->(∀ c o,c ≠ z->c ≠ TO->c ≠ i1->c ≠ i2->s.heap.get? c = some o->h'.get? c = some o)->Q (.ref s.heap.objs.size) { s with heap:=h' }) :
    wpAny (model prog w) A (Builtin.«zip.__next__» ⟨[.ref z],[]⟩) (fun fin s'=>∃ v,fin = .done (.ret v) /\ Q v s') E s:=by
  show wpAny _ _ (field (Value.ref z) 2 >>= _) _ _ s
  refine wpAny_bind (wpAny_field hz rfl (x:=Value.bool false) rfl ?_)
  show wpAny _ _ (field (Value.ref z) 3 >>= _) _ _ s
  refine wpAny_bind (wpAny_field hz rfl (x:=Value.ref TI) rfl (wpAny_bind (wpAny_seqItems hI rfl ?_)))
  show wpAny _ _ (Builtin.SmallTypes.ownedTupleIsFree (Value.ref z) >>= _) _ _ s
  unfold Builtin.SmallTypes.ownedTupleIsFree
  refine wpAny_bind (wpAny_bind (wpAny_field hz rfl (x:=Value.none) rfl (wpAny_pure ?_)))
  simp only [if_true]
  refine wpAny_bind (wpAny_rule (wpAny_bind (wpAny_field hz rfl (x:=Value.ref TO) rfl (wpAny_bind (wpAny_setField_rec hz (by simp) fun h1 hz1 b1=>?_)))))
  replace hz1:IsZip h1 z TI TO Value.ellipsis:=hz1
  refine wpAny_bind ?_
  simp only [List.zipIdx_cons,List.zipIdx_nil,List.forIn_cons,List.forIn_nil]
  refine wpAny_bind (wpAny_bind (wpAny_onRaise ?_))
  show wpAny _ _ (Builtin.SmallTypes.nextOf (Value.ref i1) >>= _) _ _ _
  refine wpAny_bind (Src.item (S1.mv (fun o e=>b1.extBut _ _ D.i1z e) fun o e=>b1.extBut _ _ D.l1z e) D.l1i1 hx fun h2 S12 b2=>wpAny_pure ?_)
  have hO2:IsPair h2 TO a b:=b2.extBut _ _ D.TOi1 (b1.extBut _ _ D.TOz hO)
  refine wpAny_bind (wpAny_seqItems hO2 rfl (wpAny_bind (wpAny_updateSeq_pair hO2 fun h3 hO3 b3=>?_)))
  replace hO3:IsPair h3 TO x b:=hO3
  refine wpAny_bind (wpAny_letGo (wpAny_pure (wpAny_bind (wpAny_bind (wpAny_onRaise ?_)))))
  show wpAny _ _ (Builtin.SmallTypes.nextOf (Value.ref i2) >>= _) _ _ _
  refine wpAny_bind (Src.item (S2.mv (fun o e=>b3.extBut _ _ D.TOi2.symm (b2.extBut _ _ D.i12.symm (b1.extBut _ _ D.i2z e))) fun o e=>b3.extBut _ _ D.l2TO (b2.extBut _ _ D.l2i1 (b1.extBut _ _ D.l2z e))) D.l2i2 hy fun h4 S24 b4=>wpAny_pure ?_)
  have hO4:IsPair h4 TO x b:=b4.extBut _ _ D.TOi2 hO3
  refine wpAny_bind (wpAny_seqItems hO4 rfl (wpAny_bind (wpAny_updateSeq_pair hO4 fun h5 hO5 b5=>?_)))
  replace hO5:IsPair h5 TO x y:=hO5
  refine wpAny_bind (wpAny_letGo (wpAny_pure (wpAny_pure (wpAny_bind (wpAny_seqItems hO5 rfl (wpAny_bind (wpAny_newTuple ?_)))))))
  have sz:h5.objs.size = s.heap.objs.size:=by rw [b5.1,b4.1,b3.1,b2.1,b1.1]
  have hz5:IsZip h5 z TI TO Value.ellipsis:=b5.extBut _ _ D.TOz.symm (b4.extBut _ _ D.i2z.symm (b3.extBut _ _ D.TOz.symm (b2.extBut _ _ D.i1z.symm hz1)))
  have k5:∀ c o,c ≠ z->c ≠ TO->c ≠ i1->c ≠ i2->s.heap.get? c = some o->h5.get? c = some o:=fun c o n1 n2 n3 n4 e=>b5.extBut _ _ n2 (b4.extBut _ _ n4 (b3.extBut _ _ n2 (b2.extBut _ _ n3 (b1.extBut _ _ n1 e))))
  have S15:Src i1 l1 xs (k1 + 1) h5:=S12.mv (fun o e=>b5.extBut _ _ D.TOi1.symm (b4.extBut _ _ D.i12 (b3.extBut _ _ D.TOi1.symm e))) fun o e=>b5.extBut _ _ D.l1TO (b4.extBut _ _ D.l1i2 (b3.extBut _ _ D.l1TO e))
  have S25:Src i2 l2 ys (k2 + 1) h5:=S24.mv (fun o e=>b5.extBut _ _ D.TOi2.symm e) fun o e=>b5.extBut _ _ D.l2TO e
  have zlt:=Heap.lt_size hz5
  show wpAny _ _ (Builtin.SmallTypes.ownedTupleHandOut (Value.ref z) (Value.ref h5.objs.size) >>= _) _ _ _
  unfold Builtin.SmallTypes.ownedTupleHandOut
  have hz6:IsZip (h5.push { cls:=.type "tuple",data:=.seq #[x,y] }) z TI TO Value.ellipsis:=Heap.get?_push_of_some _ hz5
  refine wpAny_bind (wpAny_bind (wpAny_setField_rec hz6 (by simp) fun h7 hz7 b7=>?_))
  replace hz7:IsZip h7 z TI TO (rawInt h5.objs.size):=hz7
  refine wpAny_setField_rec hz7 (by simp) fun h8 hz8 b8=>?_
  replace hz8:IsZip h8 z TI TO (rawInt h5.objs.size):=hz8
  have up:∀ c o,c ≠ z->h5.get? c = some o->h8.get? c = some o:=fun c o n1 e=>b8.extBut _ _ n1 (b7.extBut _ _ n1 (Heap.get?_push_of_some _ e))
  have hT8:IsPair h8 h5.objs.size x y:=b8.extBut _ _ (Nat.ne_of_gt zlt) (b7.extBut _ _ (Nat.ne_of_gt zlt) (Heap.get?_push_size _ rfl))
  have sz8:h8.objs.size = h5.objs.size + 1:=by rw [b8.1,b7.1,Heap.size_push]
  rw [sz] at hz8 hT8 sz8
  refine wpAny_pure ⟨_,rfl,?_⟩
  show Q (Value.ref h5.objs.size) _
  rw [sz]
  exact hQ h8 hz8 (up _ _ D.TOz hO5) (S15.mv (fun o e=>up _ o D.i1z e) fun o e=>up _ o D.l1z e) (S25.mv (fun o e=>up _ o D.i2z e) fun o e=>up _ o D.l2z e) hT8 sz8 fun c o n1 n2 n3 n4 e=>up c o n1 (k5 c o n1 n2 n3 n4 e)
theorem zipS_end {Q:Fin->Shared->Prop} (hh:A.handled = none) (D:ZipApart z TI TO i1 i2 l1 l2) (hz:IsZip s.heap z TI TO .none) (hI:IsPair s.heap TI (.ref i1) (.ref i2)) (hO:IsPair s.heap TO a b) (S1:Src i1 l1 xs k1 s.heap) (S2:Src i2 l2 ys k2 s.heap) (hend:xs[k1]? = none ∨ ys[k2]? = none)
    (hE:∀ h' e,(∀ c o,c ≠ z->c ≠ TO->c ≠ i1->c ≠ i2->s.heap.get? c = some o->h'.get? c = some o)->(∃ o,h'.get? e = some o /\ o.cls = .type "StopIteration")->E (.ref e) { s with heap:=h' }) :
    wpAny (model prog w) A (Builtin.«zip.__next__» ⟨[.ref z],[]⟩) Q E s:=by
  show wpAny _ _ (field (Value.ref z) 2 >>= _) _ _ s
  refine wpAny_bind (wpAny_field hz rfl (x:=Value.bool false) rfl ?_)
  show wpAny _ _ (field (Value.ref z) 3 >>= _) _ _ s
  refine wpAny_bind (wpAny_field hz rfl (x:=Value.ref TI) rfl (wpAny_bind (wpAny_seqItems hI rfl ?_)))
  show wpAny _ _ (Builtin.SmallTypes.ownedTupleIsFree (Value.ref z) >>= _) _ _ s
  unfold Builtin.SmallTypes.ownedTupleIsFree
  refine wpAny_bind (wpAny_bind (wpAny_field hz rfl (x:=Value.none) rfl (wpAny_pure ?_)))
  simp only [if_true]
  refine wpAny_bind (wpAny_rule (wpAny_bind (wpAny_field hz rfl (x:=Value.ref TO) rfl (wpAny_bind (wpAny_setField_rec hz (by simp) fun h1 hz1 b1=>?_)))))
  replace hz1:IsZip h1 z TI TO Value.ellipsis:=hz1
  refine wpAny_bind ?_
  simp only [List.zipIdx_cons,List.zipIdx_nil,List.forIn_cons,List.forIn_nil]
  refine wpAny_bind (wpAny_bind (wpAny_onRaise ?_))
  show wpAny _ _ (Builtin.SmallTypes.nextOf (Value.ref i1) >>= _) _ _ _
  have S1':=S1.mv (h':=h1) (fun o e=>b1.extBut _ _ D.i1z e) fun o e=>b1.extBut _ _ D.l1z e
  cases hx:xs[k1]? with
  | none =>
    refine wpAny_bind (Src.fin hh S1' hx fun h2 e b2 he=>?_)
    obtain ⟨oe,hoe,hce⟩:=he
    have hz2:IsZip h2 z TI TO Value.ellipsis:=b2 _ _ D.i1z.symm hz1
    have hez:e ≠ z:=fun q=>by rw [q,hz2] at hoe; cases hoe; simp at hce
    exact wpAny_setField_rec hz2 (by simp) fun h3 _ b3=>hE h3 e (fun c o n1 _ n3 _ q=>b3.extBut _ _ n1 (b2 _ _ n3 (b1.extBut _ _ n1 q))) ⟨oe,b3.extBut _ _ hez hoe,hce⟩
  | some x =>
    have hy:ys[k2]? = none:=hend.resolve_left fun h=>by rw [hx] at h; cases h
    refine wpAny_bind (Src.item S1' D.l1i1 hx fun h2 S12 b2=>wpAny_pure ?_)
    have hO2:IsPair h2 TO a b:=b2.extBut _ _ D.TOi1 (b1.extBut _ _ D.TOz hO)
    refine wpAny_bind (wpAny_seqItems hO2 rfl (wpAny_bind (wpAny_updateSeq_pair hO2 fun h3 hO3 b3=>?_)))
    refine wpAny_bind (wpAny_letGo (wpAny_pure (wpAny_bind (wpAny_bind (wpAny_onRaise ?_)))))
    show wpAny _ _ (Builtin.SmallTypes.nextOf (Value.ref i2) >>= _) _ _ _
    refine wpAny_bind (Src.fin hh (S2.mv (fun o e=>b3.extBut _ _ D.TOi2.symm (b2.extBut _ _ D.i12.symm (b1.extBut _ _ D.i2z e))) fun o e=>b3.extBut _ _ D.l2TO (b2.extBut _ _ D.l2i1 (b1.extBut _ _ D.l2z e))) hy fun h4 e b4 he=>?_)
    obtain ⟨oe,hoe,hce⟩:=he
    have hz4:IsZip h4 z TI TO Value.ellipsis:=b4 _ _ D.i2z.symm (b3.extBut _ _ D.TOz.symm (b2.extBut _ _ D.i1z.symm hz1))
    have hez:e ≠ z:=fun q=>by rw [q,hz4] at hoe; cases hoe; simp at hce
    exact wpAny_setField_rec hz4 (by simp) fun h5 _ b5=>hE h5 e (fun c o n1 n2 n3 n4 q=>b5.extBut _ _ n1 (b4 _ _ n4 (b3.extBut _ _ n2 (b2.extBut _ _ n3 (b1.extBut _ _ n1 q))))) ⟨oe,b5.extBut _ _ hez hoe,hce⟩
theorem nextS_item {Q:Option Value->Shared->Prop} (D:ZipApart z TI TO i1 i2 l1 l2) (hz:IsZip s.heap z TI TO .none) (hI:IsPair s.heap TI (.ref i1) (.ref i2)) (hO:IsPair s.heap TO a b) (S1:Src i1 l1 xs k1 s.heap) (S2:Src i2 l2 ys k2 s.heap) (hx:xs[k1]? = some x) (hy:ys[k2]? = some y)
    (hQ:∀ h',IsZip h' z TI TO (rawInt s.heap.objs.size)->IsPair h' TO x y->Src i1 l1 xs (k1 + 1) h'->Src i2 l2 ys (k2 + 1) h'->IsPair h' s.heap.objs.size x y->h'.objs.size = s.heap.objs.size + 1->(∀ c o,c ≠ z->c ≠ TO->c ≠ i1->c ≠ i2->s.heap.get? c = some o->h'.get? c = some o)->Q (some (.ref s.heap.objs.size)) { s with heap:=h' }) :
    wpAny (model prog w) A (pyNext (.ref z)) Q E s:=by
  have T:s.TypeIs (.ref z) "zip":=⟨_,hz,rfl⟩
  have S:=PySem.F.slot_zip_next
  unfold pyNext
  exact wpAny_bind (wpAny_attempt (wpAny_callSpecial?_slot (name:=Str.ofString "__next__") T S (wpAny_call_entry S T PySem.F.entry_zip_next (zipS_item D hz hI hO S1 S2 hx hy fun h' a1 a2 a3 a4 a5 a6 a7=>wpAny_pure (hQ h' a1 a2 a3 a4 a5 a6 a7)) (PySem.F.args_zip_next_1 _))))
theorem nextS_end {Q:Option Value->Shared->Prop} (hh:A.handled = none) (D:ZipApart z TI TO i1 i2 l1 l2) (hz:IsZip s.heap z TI TO .none) (hI:IsPair s.heap TI (.ref i1) (.ref i2)) (hO:IsPair s.heap TO a b) (S1:Src i1 l1 xs k1 s.heap) (S2:Src i2 l2 ys k2 s.heap) (hend:xs[k1]? = none ∨ ys[k2]? = none)
    (hQ:∀ h',(∀ c o,c ≠ z->c ≠ TO->c ≠ i1->c ≠ i2->s.heap.get? c = some o->h'.get? c = some o)->Q none { s with heap:=h' }):wpAny (model prog w) A (pyNext (.ref z)) Q E s:=by
  have T:s.TypeIs (.ref z) "zip":=⟨_,hz,rfl⟩
  have S:=PySem.F.slot_zip_next
  unfold pyNext
  refine wpAny_bind (wpAny_attempt (wpAny_callSpecial?_slot (name:=Str.ofString "__next__") T S (wpAny_call_entry S T PySem.F.entry_zip_next (zipS_end hh D hz hI hO S1 S2 hend fun h' e hk he=>?_) (PySem.F.args_zip_next_1 _))))
  obtain ⟨o,ho,hc⟩:=he
  exact wpAny_bind (wpAny_isInstance (T:="StopIteration") (b:=true) ⟨o,ho,hc⟩ isSubtype_stop (wpAny_pure (hQ _ hk)))
end
abbrev zS1 (h:Heap) (t:Addr):Heap:=h.push { cls:=.type "tuple_iterator",data:=.fields #[.ref t,.int 0 0] }
abbrev zS2 (h:Heap) (t l:Addr):Heap:=(zS1 h t).push { cls:=.type "list_iterator",data:=.fields #[.ref l,.int 0 0] }
abbrev zS3 (h:Heap) (t l:Addr):Heap:=(zS2 h t l).push { cls:=.type "tuple",data:=.seq #[.ref h.objs.size,.ref (zS1 h t).objs.size] }
abbrev zS4 (h:Heap) (t l:Addr):Heap:=(zS3 h t l).push { cls:=.type "tuple",data:=.seq #[.none,.none] }
abbrev zS5 (h:Heap) (t l:Addr):Heap:=(zS4 h t l).push { cls:=.type "zip",data:=.fields #[.none,.bool false,.bool false,.ref (zS2 h t l).objs.size,.ref (zS3 h t l).objs.size] }
theorem zipS_new (t l:Addr) (xs ys:Array Value):Meets (Builtin.«zip.__new__» ⟨[.type "zip",.ref t,.ref l],[]⟩) (fun _ R s=>s.heap.IsTuple t xs /\ s.heap.IsList l ys /\ R (.ok (.ret (.ref (zS4 s.heap t l).objs.size))) { s with heap:=zS5 s.heap t l }) :=
  .of_wp fun prog w A R s hyp=>by
    obtain ⟨hp,g,d,tk,os⟩:=s
    obtain ⟨ht,hl,q⟩:=hyp
    have hsub:=sub_zip
    have hT:Heap.IsTuple (Shared.heap ⟨hp,g,d,tk,os⟩) t xs:=ht
    have hL:Heap.IsList (Shared.heap ⟨hp.push { cls:=.type "tuple_iterator",data:=.fields #[.ref t,.int 0 0] },g,d,tk,os⟩) l ys:=Heap.IsList.push hl _
    wp_walk using wpAny_pyIter_tuple hT,wpAny_pyIter_list hL
    exact ⟨_,rfl,q⟩
theorem call_zipS {prog:Program} {w:World} {A:Around} {E:Value->Shared->Prop} {s:Shared} {t l:Addr} {xs ys:Array Value} {Q:Value->Shared->Prop} (ht:s.heap.IsTuple t xs) (hl:s.heap.IsList l ys)
    (h:∀ h',IsZip h' (s.heap.objs.size + 4) (s.heap.objs.size + 2) (s.heap.objs.size + 3) .none->IsPair h' (s.heap.objs.size + 2) (.ref s.heap.objs.size) (.ref (s.heap.objs.size + 1))->IsPair h' (s.heap.objs.size + 3) .none .none->Src s.heap.objs.size t xs 0 h'->Src (s.heap.objs.size + 1) l ys 0 h' →
      (∀ c o,s.heap.get? c = some o->h'.get? c = some o)->Q (.ref (s.heap.objs.size + 4)) { s with heap:=h' }):wpAny (model prog w) A (call (.type "zip") [.ref t,.ref l]) Q E s:=by
  refine callType_new PySem.F.called_zip (by decide) (PySem.F.typeCall_zip_2 _ _) (PySem.F.newCall_zip_2 _ _) (fun obj=>PySem.F.args_object_init_3 obj _ _) PySem.F.entry_zip_new (zipS_new t l xs ys) ⟨ht,hl,?_⟩
  have n1:(zS1 s.heap t).objs.size = s.heap.objs.size + 1:=Heap.size_push ..
  have n2:(zS2 s.heap t l).objs.size = s.heap.objs.size + 2:=by rw [Heap.size_push,n1]
  have n3:(zS3 s.heap t l).objs.size = s.heap.objs.size + 3:=by rw [Heap.size_push,n2]
  have n4:(zS4 s.heap t l).objs.size = s.heap.objs.size + 4:=by rw [Heap.size_push,n3]
  have up:∀ c o,s.heap.get? c = some o->(zS5 s.heap t l).get? c = some o:=fun c o e=>Heap.get?_push_of_some _ (Heap.get?_push_of_some _ (Heap.get?_push_of_some _ (Heap.get?_push_of_some _ (Heap.get?_push_of_some _ e))))
  have g5:(zS5 s.heap t l).get? (zS4 s.heap t l).objs.size = some _:=Heap.get?_push_size _ rfl
  have g4:(zS5 s.heap t l).get? (zS3 s.heap t l).objs.size = some _:=Heap.get?_push_of_some _ (Heap.get?_push_size _ rfl)
  have g3:(zS5 s.heap t l).get? (zS2 s.heap t l).objs.size = some _:=Heap.get?_push_of_some _ (Heap.get?_push_of_some _ (Heap.get?_push_size _ rfl))
  have g2:(zS5 s.heap t l).get? (zS1 s.heap t).objs.size = some _:=Heap.get?_push_of_some _ (Heap.get?_push_of_some _ (Heap.get?_push_of_some _ (Heap.get?_push_size _ rfl)))
  have g1:(zS5 s.heap t l).get? s.heap.objs.size = some _:=Heap.get?_push_of_some _ (Heap.get?_push_of_some _ (Heap.get?_push_of_some _ (Heap.get?_push_of_some _ (Heap.get?_push_size _ rfl))))
  rw [n2,n3,n4] at g5
  rw [n1,n2] at g3
  rw [n3] at g4
  rw [n1] at g2
  obtain ⟨ot,het,rt⟩:=ht
  obtain ⟨ol,hel,rl⟩:=hl
  show _ /\ _
  rw [n4]
  exact ⟨⟨_,g5,rfl⟩,h _ g5 g3 g4 (.inr ⟨⟨_,g1,rfl,rfl⟩,⟨ot,up _ _ het,rt⟩⟩) (.inl ⟨⟨_,g2,rfl,rfl⟩,⟨ol,up _ _ hel,rl⟩⟩) up⟩
theorem Src.tup {i l:Addr} {its us:Array Value} {k:Nat} {h:Heap} (x:Src i l its k h) (t:h.IsTuple l us):h.IsTupleIter i l k:=by
  rcases x with ⟨_,⟨p,c,d,_⟩⟩ | ⟨a,_⟩
  · obtain ⟨q,e,f,_⟩:=t
    rw [c] at e; cases e; rw [d] at f; simp at f
  · exact a
theorem Src.lst {i l:Addr} {its us:Array Value} {k:Nat} {h:Heap} (x:Src i l its k h) (t:h.IsList l us):h.IsListIter i l k:=by
  rcases x with ⟨a,_⟩ | ⟨_,⟨p,c,d,_⟩⟩
  · exact a
  · obtain ⟨q,e,f,_⟩:=t
    rw [c] at e; cases e; rw [d] at f; simp at f
def ItzS (K:PySem.W.Frag) (l1 l2:Addr):It :=
  ⟨fun i H=>∃ xs ys x y,SqT K H l1 xs /\ SqL K H l2 ys /\ xs[i]? = some x /\ ys[i]? = some y,
   fun i H v H'=>∃ T x y,H T = none /\ v = .ref T /\ H' = upd H T (.tup [x,y]) /\ (∀ xs,SqT K H l1 xs->xs[i]? = some x) /\ ∀ ys,SqL K H l2 ys->ys[i]? = some y,
   fun i H=>∃ xs ys,SqT K H l1 xs /\ SqL K H l2 ys /\ (xs.length ≤ i ∨ ys.length ≤ i)⟩
def ZipStS (z TI TO i1 i2 l1 l2:Addr) (i:Nat) (h:Heap):Prop :=
  IsZip h z TI TO .none /\ IsPair h TI (.ref i1) (.ref i2) /\ (∃ a b,IsPair h TO a b) /\ h.IsTupleIter i1 l1 i /\ h.IsListIter i2 l2 i
theorem turn_zipS {P:Program} {w:World} {K:PySem.W.Frag} {es:List Expr} {x1} {tp:Pos} (z TI TO i1 i2 l1 l2:Addr) (D:ZipApart z TI TO i1 i2 l1 l2) :
    Turn P w K (.Tuple es x1 tp) (ItzS K l1 l2) [z,TI,TO,i1,i2] z (ZipStS z TI TO i1 i2 l1 l2) where
  mem:=by simp
  obj:=fun i h st b hb=>by
    obtain ⟨h1,h2,⟨_,_,h3⟩,h4,h5⟩:=st
    simp only [List.mem_cons,List.not_mem_nil,or_false] at hb
    rcases hb with rfl | rfl | rfl | rfl | rfl
    · exact ⟨_,h1,fun v q=>nomatch q⟩
    · exact ⟨_,h2,fun v q=>nomatch q⟩
    · exact ⟨_,h3,fun v q=>nomatch q⟩
    · obtain ⟨o,e,_,d⟩:=h4
      exact ⟨o,e,fun v q=>by rw [d] at q; cases q⟩
    · obtain ⟨o,e,_,d⟩:=h5
      exact ⟨o,e,fun v q=>by rw [d] at q; cases q⟩
  keep:=fun i h h' st k=>by
    obtain ⟨h1,h2,⟨a,b,h3⟩,⟨o4,e4,r4⟩,⟨o5,e5,r5⟩⟩:=st
    exact ⟨k z (by simp) _ h1,k TI (by simp) _ h2,⟨a,b,k TO (by simp) _ h3⟩,⟨o4,k i1 (by simp) _ e4,r4⟩,⟨o5,k i2 (by simp) _ e5,r5⟩⟩
  item:=by
    intro X hP hw hK hc i pins s σ H E I hf st hg
    subst hP hw hK
    obtain ⟨h1,h2,⟨a,b,h3⟩,h4,h5⟩:=st
    obtain ⟨xs,ys,x,y,hx,hy,ex,ey⟩:=hg
    obtain ⟨us,rx,px,_⟩:=I.tuple hx
    obtain ⟨vs,ry,py,_⟩:=I.list hy
    obtain ⟨u,eu,ru⟩:=Vals.get rx ex
    obtain ⟨v,ev,rv⟩:=Vals.get ry ey
    have px':s.heap.IsTuple l1 us.toArray:=px
    refine nextS_item D h1 h2 h3 (.inr ⟨h4,px'⟩) (.inl ⟨h5,py.isList⟩) (by simpa using eu) (by simpa using ev) fun h' z1 z2 z3 z4 z5 z6 kk=>?_
    have px2:h'.IsTuple l1 us.toArray:=let ⟨o,e,r⟩:=px'; ⟨o,kk _ o D.l1z D.l1TO D.l1i1 D.l1i2 e,r⟩
    have py2:h'.IsList l2 vs.toArray:=let ⟨o,e,r⟩:=py.isList; ⟨o,kk _ o D.l2z D.l2TO D.l2i1 D.l2i2 e,r⟩
    replace z3:=z3.tup px2
    replace z4:=z4.lst py2
    refine ⟨_,rfl,wpAny_letOwnedTupleGo_zip z1 fun h'' y1 sb=>?_⟩
    have lt:∀ b ∈ [z,TI,TO,i1,i2],b < s.heap.objs.size:=fun b hb=>by
      simp only [List.mem_cons,List.not_mem_nil,or_false] at hb
      rcases hb with rfl | rfl | rfl | rfl | rfl
      · exact Heap.lt_size h1
      · exact Heap.lt_size h2
      · exact Heap.lt_size h3
      · obtain ⟨o,e,_⟩:=h4; exact Heap.lt_size e
      · obtain ⟨o,e,_⟩:=h5; exact Heap.lt_size e
    have nz:s.heap.objs.size ≠ z:=(anelt' (lt z (by simp)) (Nat.le_refl _)).symm
    have keep:∀ c o,c ∉ [z,TI,TO,i1,i2]->s.heap.get? c = some o->h''.get? c = some o:=fun c o hc e=>by
      simp only [List.mem_cons,List.not_mem_nil,or_false,not_or] at hc
      exact sb.extBut c o hc.1 (kk c o hc.1 hc.2.2.1 hc.2.2.2.1 hc.2.2.2.2 e)
    have nT:H s.heap.objs.size = none:=I.hok.fresh (Nat.le_refl _)
    have hT:h''.get? s.heap.objs.size = some { cls:=.type "tuple",data:=.seq #[u,v] }:=sb.extBut _ _ nz z5
    have I2:Inv X pins σ (upd H s.heap.objs.size (.tup [x,y])) { s with heap:=h'',toks:=s.toks } :=
      I.turnedLaid (ch:=[z,TI,TO,i1,i2]) keep hf (Nat.le_refl _) ⟨by show 2 ≤ sizeLine; decide,[u,v],.cons ru (.cons rv .nil),⟨_,hT,rfl,0,rfl⟩⟩
    refine ⟨.ref s.heap.objs.size,_,I2,rfl,⟨_,x,y,nT,rfl,rfl,fun xs' h=>?_,fun ys' h=>?_⟩,⟨y1,?_,⟨u,v,?_⟩,?_,?_⟩,fun b hb=>?_⟩
    · rw [I.tuple_inj h hx]; exact ex
    · rw [I.list_inj h hy]; exact ey
    · exact sb.extBut _ _ D.TIz (kk _ _ D.TIz D.TITO D.TIi1 D.TIi2 h2)
    · exact sb.extBut _ _ D.TOz z2
    · obtain ⟨o,e,r⟩:=z3; exact ⟨o,sb.extBut _ _ D.i1z e,r⟩
    · obtain ⟨o,e,r⟩:=z4; exact ⟨o,sb.extBut _ _ D.i2z e,r⟩
    · rw [upd_ne (anelt' (lt b hb) (Nat.le_refl _))]; exact (hf b hb).1
  done:=by
    intro X hP hw hK hc i pins s σ H E I hf st hg
    subst hP hw hK
    obtain ⟨h1,h2,⟨a,b,h3⟩,h4,h5⟩:=st
    obtain ⟨xs,ys,hx,hy,hl⟩:=hg
    obtain ⟨us,rx,px,_⟩:=I.tuple hx
    obtain ⟨vs,ry,py,_⟩:=I.list hy
    have le1:=rx.length
    have le2:=ry.length
    have px':s.heap.IsTuple l1 us.toArray:=px
    refine nextS_end (I.ok.hd hc) D h1 h2 h3 (.inr ⟨h4,px'⟩) (.inl ⟨h5,py.isList⟩) (by simp; omega) fun h' kk=>⟨rfl,?_⟩
    exact I.turnedMany (t':=s.toks) (ch:=[z,TI,TO,i1,i2]) (fun c o hc e=>by
      simp only [List.mem_cons,List.not_mem_nil,or_false,not_or] at hc
      exact kk c o hc.1 hc.2.2.1 hc.2.2.2.1 hc.2.2.2.2 e) hf
  self:=fun _ _ _ _ _ st h=>wpAny_pyIter_zip st.1 h
def iZipS (K:PySem.W.Frag) (ta:TA):TI:=fun σ H R=>ta σ H fun vs H1=>∃ l1 l2,vs = [.ref l1,.ref l2] /\ (∃ xs,SqT K H1 l1 xs) /\ (∃ ys,SqL K H1 l2 ys) /\ R (ItzS K l1 l2) H1
theorem pi_zipS {X:Cx} {a b:Expr} {ta:TA} {p pos:Pos} {es:List Expr} {x1} {tp:Pos} (hg:Gl X "zip") (hm:X.mg "zip" = none) (ha:PA X [a,b] ta) (hs:starEach [a,b] X.env = (false,eval a X.env) :: starEach [b] X.env:=by rfl) (hs2:(backTo pos (starEach [b] X.env)).any (·.1) = false:=by rfl) :
    PI X (.Tuple es x1 tp) (.Call (.Name "zip" p) [a,b] [] pos) (iZipS X.K ta):=by
  intro pins s σ H R I h
  refine Call_ (ld_blt I hg hm boot_zip (PyProof.Rows.callWith_type1 (thn (ha pos pins s σ H _ I h) fun us s1 ⟨vs,H1,I1,r1,q1⟩=>?_) hs hs2))
  obtain ⟨l1,l2,e,⟨xs,hx⟩,⟨ys,hy⟩,q⟩:=q1
  subst e
  obtain ⟨u,v,rfl,ru,rv⟩:=vals2 r1
  cases ru
  cases rv
  obtain ⟨us1,rx,px,_⟩:=I1.tuple hx
  have px':s1.heap.IsTuple l1 us1.toArray:=px
  obtain ⟨vs1,ry,py,_⟩:=I1.list hy
  have ll1:l1 < s1.heap.objs.size:=by obtain ⟨o,e,_⟩:=px'; exact Heap.lt_size e
  have ll2:l2 < s1.heap.objs.size:=by obtain ⟨o,e,_⟩:=py.isList; exact Heap.lt_size e
  refine call_zipS px' py.isList fun h' z1 z2 z3 z4 z5 kk=>?_
  replace z4:=z4.tup (let ⟨o,e,r⟩:=px'; ⟨o,kk _ o e,r⟩)
  replace z5:=z5.lst (let ⟨o,e,r⟩:=py.isList; ⟨o,kk _ o e,r⟩)
  refine wpAny_pyIter_zip z1 ?_
  have I2:Inv X pins σ H1 { s1 with heap:=h',toks:=s1.toks }:=I1.kept kk
  refine ⟨s1.heap.objs.size + 4,_,_,_,H1,rfl,I2,turn_zipS (s1.heap.objs.size + 4) (s1.heap.objs.size + 2) (s1.heap.objs.size + 3) s1.heap.objs.size (s1.heap.objs.size + 1) l1 l2 (zip_apart ll1 ll2),⟨z1,z2,⟨_,_,z3⟩,z4,z5⟩,fun b hb=>?_,q⟩
  have hbs:s1.heap.objs.size ≤ b:=by
    simp only [List.mem_cons,List.not_mem_nil,or_false] at hb
    rcases hb with h | h | h | h | h <;> rw [h] <;> first | exact Nat.le_refl _ | exact Nat.le_add_right _ _
  exact I1.fpOk hbs (I1.hok.fresh hbs)
theorem for_zipS {K:PySem.W.Frag} {l1 l2:Addr} {xs ys:List V} {g:TG} {tb:TS} {D:Ends} {σ:St} {H:Hp} (Pv:Nat->St->Hp->Prop) (h0:Pv 0 σ H) (hl:∀ i σ H,Pv i σ H->SqT K H l1 xs /\ SqL K H l2 ys) (hlen:xs.length = ys.length)
    (hs:∀ i x y σ H T,xs[i]? = some x->ys[i]? = some y->Pv i σ H->H T = none->g (.ref T) σ (upd H T (.tup [x,y])) fun σ2 H2=>tb { D with nx:=Pv (i + 1),ct:=Pv (i + 1),bk:=D.nx } σ2 H2) (hd:∀ σ H,Pv xs.length σ H->D.nx σ H) :
    ∃ W:Nat->Nat->St->Hp->Prop,(∃ m,W 0 m σ H) /\ ∀ i m σ H,W i m σ H →
      ((ItzS K l1 l2).stop i H /\ D.nx σ H) ∨ ((ItzS K l1 l2).go i H /\ ∃ N:St->Hp->Prop,(∀ σ' H',N σ' H'->∃ m',m' < m /\ W (i + 1) m' σ' H') /\ ∀ x H',(ItzS K l1 l2).yld i H x H'->g x σ H' fun σ2 H2=>tb { D with nx:=N,ct:=N,bk:=D.nx } σ2 H2):=by
  refine ⟨fun i m σ H=>m = xs.length - i /\ i ≤ xs.length /\ Pv i σ H,⟨xs.length,by simp,Nat.zero_le _,h0⟩,?_⟩
  rintro i m σ H ⟨rfl,hi,p⟩
  obtain ⟨q1,q2⟩:=hl i σ H p
  by_cases hlt:i < xs.length
  · have ex:xs[i]? = some xs[i]:=List.getElem?_eq_getElem hlt
    have ey:ys[i]? = some (ys[i]'(by omega)):=List.getElem?_eq_getElem (by omega)
    refine .inr ⟨⟨xs,ys,_,_,q1,q2,ex,ey⟩,Pv (i + 1),fun σ' H' p'=>⟨xs.length - (i + 1),by omega,rfl,hlt,p'⟩,?_⟩
    rintro v H' ⟨T,x,y,nT,rfl,rfl,hx,hy⟩
    exact hs i x y σ H T (hx xs q1) (hy ys q2) p nT
  · have e:i = xs.length:=by omega
    subst e
    exact .inl ⟨⟨xs,ys,q1,q2,.inl (Nat.le_refl _)⟩,hd σ H p⟩
open PySem PySem.Spec PyProof.Rows
theorem vals_of:∀ {us:List Value} {ns:List Int},IntsAre us ns->Vals (ns.map V.int) us
  | _,_,.nil=>.nil
  | _,_,.cons _ t r=>.cons ⟨t,rfl⟩ (vals_of r)
theorem ints_len {us:List Value} {ns:List Int} (h:IntsAre us ns):us.length = ns.length:=by
  have:=(vals_of h).length
  rw [List.length_map] at this
  exact this.symm
theorem objOk_there {P:Program} {w:World} {H:Hp} {h:Heap} {a:Addr} {o:HO} (x:ObjOk P w H h a o):∃ ob,h.get? a = some ob:=by
  cases o with
  | lst xs=>obtain ⟨_,_,_,_,e⟩:=x; exact ⟨_,e⟩
  | tup xs=>obtain ⟨_,_,_,ob,e,_⟩:=x; exact ⟨_,e⟩
  | dK kvs=>obtain ⟨_,_,_,_,o,_,_,e,_⟩:=x; exact ⟨_,e⟩
  | dT kvs=>obtain ⟨_,_,_,_,o,_,_,e,_⟩:=x; exact ⟨_,e⟩
  | set S n=>obtain ⟨o,_,_,_,e,_⟩:=x; exact ⟨_,e⟩
  | ins C dx fs=>obtain ⟨_,_,_,e,_⟩:=x; exact ⟨_,e⟩
  | own y=>exact x
  | xd fs=>obtain ⟨_,⟨_,_,_,e,_⟩,_⟩:=x; exact ⟨_,e⟩
  | rng lo hi=>obtain ⟨_,_,_,e⟩:=x; exact ⟨_,e⟩
  | frz ob u=>exact ⟨_,x.1⟩
  | tbl ps=>exact ⟨_,x⟩
  | met f y=>exact ⟨_,x⟩
  | ext φ=>exact x.2.1
section
variable {X:Cx} {pins:List (Addr × Obj)} {σ:St} {H:Hp} {s:Shared}
theorem Inv.laidAt {a:Addr} {h':Heap} {t':Nat} {vs:List V} (I:Inv X pins σ H s) (hn:s.heap.get? a = none) (k:∀ b o,s.heap.get? b = some o->h'.get? b = some o) (new:ObjOk X.prog X.w (upd H a (.lst vs)) h' a (.lst vs)) :
    ∃ _:H a = none,Inv X pins σ (upd H a (.lst vs)) { s with heap:=h',toks:=t' } /\ True:=by
  have hHn:H a = none:=by
    cases z:H a with
    | none=>rfl
    | some o =>
      obtain ⟨ob,hob⟩:=objOk_there (I.hok a o z)
      rw [hn] at hob; cases hob
  refine ⟨hHn,?_,trivial⟩
  have na:∀ b o,s.heap.get? b = some o->b ≠ a:=fun b o e z=>by rw [z,hn] at e; cases e
  have hu:Un X.fs [] H (upd H a (.lst vs)) s.heap h':=by
    refine ⟨fun b o e _ _ _=>k b o e,fun b o e _ _ _=>⟨o.slots,k b o e⟩,fun b o e n _=>?_,fun b o e _=>⟨o,k b o e⟩,fun b xs e=>?_,fun b o u e=>?_,fun b ps e=>⟨#[],?_⟩⟩
    · rw [upd_ne (na b o e)]; exact n
    · rw [upd_ne (ne_of_none e hHn)]; exact e
    · rw [upd_ne (ne_of_none e hHn)]; exact e
    · rw [upd_ne (ne_of_none e hHn),e]; simp
  refine I.un hu fun b o e=>?_
  by_cases z:b = a
  · subst z; rw [upd_same] at e; cases e; exact new
  · rw [upd_ne z] at e
    exact (I.hok b o e).stay (fun c v _ q=>k c v q) (fun c q=>by rw [upd_ne (ne_of_none q hHn)]; exact q) fun c xs q=>by rw [upd_ne (ne_of_none q hHn)]; exact q
end
open PySem PySem.Spec PyProof.Rows
theorem comp_tup {K:PySem.W.Frag} {a:Addr} (D:Addr) {xs:List V} {g:TG} {tt:TT} {te:TE} {σ:St} {H:Hp} {R:Hp->Prop} (Pv:Nat->St->Hp->List V->Prop) (h0:Pv 0 σ H []) (hl:∀ i σ H ys,i ≤ xs.length->Pv i σ H ys->SqT K H a xs)
    (hs:∀ i x σ H ys,xs[i]? = some x->Pv i σ H ys->g x σ H fun σ3 H3=>tt σ3 H3 fun b H4=>if b = true then
      te σ3 H4 fun y H5=>H5 D = some (.lst ys) /\ ys.length < sizeLine /\ Pv (i + 1) σ3 (upd H5 D (.lst (ys ++ [y]))) (ys ++ [y]) else Pv (i + 1) σ3 H4 ys) (hd:∀ σ H ys,Pv xs.length σ H ys->R H) :
    ∃ W:Nat->Nat->St->Hp->List V->Prop,(∃ m,W 0 m σ H []) /\ ∀ i m σ' H' ys,W i m σ' H' ys->((Itt K a).stop i H' /\ R H') ∨
      ((Itt K a).go i H' /\ ∃ N:St->Hp->List V->Prop,(∀ σ' H' ys',N σ' H' ys'->∃ m',m' < m /\ W (i + 1) m' σ' H' ys') /\ ∀ x H2,(Itt K a).yld i H' x H2->g x σ' H2 fun σ3 H3=>tt σ3 H3 fun b H4=>if b = true then
        te σ3 H4 fun y H5=>H5 D = some (.lst ys) /\ ys.length < sizeLine /\ N σ3 (upd H5 D (.lst (ys ++ [y]))) (ys ++ [y])
        else N σ3 H4 ys):=by
  refine ⟨fun i m σ H ys=>m = xs.length - i /\ i ≤ xs.length /\ Pv i σ H ys,⟨xs.length,by simp,Nat.zero_le _,h0⟩,?_⟩
  rintro i m σ H ys ⟨rfl,hi,p⟩
  have q:=hl i σ H ys hi p
  by_cases hlt:i < xs.length
  · refine .inr ⟨⟨xs,xs[i],q,by simp [hlt]⟩,Pv (i + 1),fun σ' H' ys' p'=>⟨xs.length - (i + 1),by omega,rfl,hlt,p'⟩,fun x H' y=>?_⟩
    obtain ⟨e,y⟩:=y
    subst e
    exact hs i x σ _ ys (y xs q) p
  · have e:i = xs.length:=by omega
    subst e
    exact .inl ⟨⟨xs,q,Nat.le_refl _⟩,hd σ H ys p⟩
def tI (n:Int):Int:=n * 128 % 18446744073709551616 + n / 144115188075855872
theorem tI_nat (n:Nat):tI (n:Int) = (Chk.T n:Nat):=by
  unfold tI Chk.T; omega
theorem xor_nat (a b:Nat):Builtin.bitXor (a:Int) (b:Int) = ((a ^^^ b:Nat):Int):=by
  rw [PyProof.Rows.bitXor_and]
  have e:Builtin.bitAnd (a:Int) (b:Int) = ((a &&& b:Nat):Int):=by
    unfold Builtin.bitAnd
    simp
  rw [e]
  have:=Chk.xor_add a b
  omega
def flat (rows:List (Nat × Nat)):List Nat:=rows.flatMap fun r=>[r.1,r.2]
theorem flat_snoc (rows:List (Nat × Nat)) (r:Nat × Nat):flat (rows ++ [r]) = flat rows ++ [r.1,r.2]:=by simp [flat]
structure RowsAt (H:Hp) (L:List V) (rows:List (Nat × Nat)):Prop where
  len:L.length = rows.length
  get:∀ (i:Nat) v,L[i]? = some v->∃ t r,v = V.ref t /\ rows[i]? = some r /\ H t = some (.tup [.int (r.1:Int),.int (r.2:Int)])
theorem RowsAt.mono {H H':Hp} {L:List V} {rows:List (Nat × Nat)} (R:RowsAt H L rows) (h:∀ t xs,H t = some (.tup xs)->H' t = some (.tup xs)):RowsAt H' L rows :=
  ⟨R.len,fun i v e=>let ⟨t,r,a,b,c⟩:=R.get i v e; ⟨t,r,a,b,h t _ c⟩⟩
theorem RowsAt.snoc {H:Hp} {L:List V} {rows:List (Nat × Nat)} (R:RowsAt H L rows) {t:Addr} {r:Nat × Nat} (h:H t = some (.tup [.int (r.1:Int),.int (r.2:Int)])):RowsAt H (L ++ [.ref t]) (rows ++ [r]) :=
  ⟨by simp [R.len],fun i v e=>by
    by_cases hi:i < L.length
    · rw [List.getElem?_append_left hi] at e
      obtain ⟨t,r,a,b,c⟩:=R.get i v e
      exact ⟨t,r,a,by rw [List.getElem?_append_left (by rw [← R.len]; exact hi)]; exact b,c⟩
    · rw [List.getElem?_append_right (by omega)] at e
      have hi2:i - L.length = 0:=by
        have:=(List.getElem?_eq_some_iff.mp e).1
        simp at this; omega
      rw [hi2] at e
      have e:V.ref t = v:=by simpa using e
      refine ⟨t,r,e.symm,?_,h⟩
      rw [List.getElem?_append_right (by rw [← R.len]; omega),← R.len,hi2]; rfl⟩
theorem flat_len (l:List (Nat × Nat)):(flat l).length = 2 * l.length:=by
  induction l with
  | nil=>rfl
  | cons r l ih =>
    have:flat (r :: l) = r.1 :: r.2 :: flat l:=rfl
    rw [this]; simp only [List.length_cons,ih]; omega
theorem put_rows {x v:V}:putF "rows" v [("day",x)] = ([("day",x),("rows",v)]:List (Str × V)):=by
  rw [putF_ne (by decide +kernel)]; rfl
theorem put_check {x y v:V}:putF "check" v [("day",x),("rows",y)] = ([("day",x),("rows",y),("check",v)]:List (Str × V)):=by
  rw [putF_ne (by decide +kernel),putF_ne (by decide +kernel)]; rfl
theorem put_fits {x y z v:V}:putF "fits" v [("day",x),("rows",y),("check",z)] = ([("day",x),("rows",y),("check",z),("fits",v)]:List (Str × V)):=by
  rw [putF_ne (by decide +kernel),putF_ne (by decide +kernel),putF_ne (by decide +kernel)]; rfl
theorem put_base {x y z f v:V}:putF "base" v [("day",x),("rows",y),("check",z),("fits",f)] = ([("day",x),("rows",y),("check",z),("fits",f),("base",v)]:List (Str × V)):=by
  rw [putF_ne (by decide +kernel),putF_ne (by decide +kernel),putF_ne (by decide +kernel),putF_ne (by decide +kernel)]; rfl
theorem lk_day {x:V} {r:List (Str × V)}:List.lookup ("day":Str) (("day",x) :: r) = some x:=by rw [List.lookup_cons]; simp
theorem lk_rows {x y:V} {r:List (Str × V)}:List.lookup ("rows":Str) (("day",x) :: ("rows",y) :: r) = some y:=by
  rw [List.lookup_cons,show (("rows":Str) == "day") = false by decide +kernel,List.lookup_cons]; simp
theorem lk_check {x y z:V} {r:List (Str × V)}:List.lookup ("check":Str) (("day",x) :: ("rows",y) :: ("check",z) :: r) = some z:=by
  rw [List.lookup_cons,show (("check":Str) == "day") = false by decide +kernel,List.lookup_cons,show (("check":Str) == "rows") = false by decide +kernel,List.lookup_cons]; simp
theorem lk_base {x y z f v:V} {r:List (Str × V)}:List.lookup ("base":Str) (("day",x) :: ("rows",y) :: ("check",z) :: ("fits",f) :: ("base",v) :: r) = some v:=by
  rw [List.lookup_cons,show (("base":Str) == "day") = false by decide +kernel,List.lookup_cons,show (("base":Str) == "rows") = false by decide +kernel,List.lookup_cons,show (("base":Str) == "check") = false by decide +kernel,List.lookup_cons,show (("base":Str) == "fits") = false by decide +kernel,List.lookup_cons]; simp
def pfs (wh:Bool) (b d:Nat) (r:Addr) (c:Int) (f:Bool):List (Str × V):=match wh with
  | true=>[("day",V.int (d:Int)),("rows",V.ref r),("check",V.int c),("fits",V.bl f)]
  | false=>[("day",V.int (d:Int)),("rows",V.ref r),("check",V.int c),("fits",V.bl f),("base",V.int (b:Int))]
theorem lk_no {m:Str} {wh:Bool} {b d:Nat} {r:Addr} {c:Int} {f:Bool} (h1:(m == "day") = false) (h2:(m == "rows") = false) (h3:(m == "check") = false) (h4:(m == "base") = false) (h5:(m == "fits") = false:=by decide +kernel):List.lookup m (pfs wh b d r c f) = none:=by
  cases wh
  · show List.lookup m [_,_,_,_,_] = none
    rw [List.lookup_cons,h1,List.lookup_cons,h2,List.lookup_cons,h3,List.lookup_cons,h5,List.lookup_cons,h4]; rfl
  · show List.lookup m [_,_,_,_] = none
    rw [List.lookup_cons,h1,List.lookup_cons,h2,List.lookup_cons,h3,List.lookup_cons,h5]; rfl
def stN (wh:Bool) (b:Nat):Nat:=cond wh 0 (b + 1)
def ckOf (wh:Bool) (b d:Nat) (rows:List (Nat × Nat)):Nat:=Chk.chk (stN wh b :: d :: flat rows)
def PAt (CW CG:Addr) (H:Hp) (p:Addr) (wh:Bool) (b d:Nat) (rows:List (Nat × Nat)) (c:Int):Prop :=
  ∃ dx r R,H p = some (.ins (cond wh CW CG) dx (pfs wh b d r c (decide (c = (ckOf wh b d rows:Nat))))) /\ H r = some (.tup R) /\ RowsAt H R rows
theorem PAt.keep {CW CG:Addr} {H H':Hp} {p:Addr} {wh:Bool} {b d:Nat} {rows:List (Nat × Nat)} {c:Int} (h:PAt CW CG H p wh b d rows c) (s:Same H H'):PAt CW CG H' p wh b d rows c:=by
  obtain ⟨dx,r,R,h1,h2,h3⟩:=h
  exact ⟨dx,r,R,s _ _ h1,s _ _ h2,h3.mono fun t xs e=>s _ _ e⟩
theorem made_same {H H':Hp} {x dx:Addr} {o:HO} (hx:H x = none) (hd:H dx = none) (k:Keep [x] (upd (upd H dx (.own x)) x o) H'):Same H H':=fun b u e=>by
  have n1:=ne_of_none e hx
  have n2:=ne_of_none e hd
  exact k b u (by rw [upd_ne n1,upd_ne n2]; exact e) (by simpa using n1)
theorem decI {i j:Int}:decide (V.int i = V.int j) = decide (i = j):=decide_eq_decide.mpr ⟨V.int.inj,fun e=>by rw [e]⟩
def sp_turned:Sp:=fun vs H Q _=>∃ n:Int,vs = [.int n] /\ Q (.int (tI n)) H
def sp_check:Sp:=fun vs H Q _=>∃ (s d:Nat) (a:Addr) (L:List V) (rows:List (Nat × Nat)),vs = [.int ((s:Int) - 1),.int (d:Int),.ref a] /\ (H a = some (.lst L) ∨ H a = some (.tup L)) /\ RowsAt H L rows /\ rows.length ≤ 100 /\ ∀ H',Same H H'->Q (.int (Chk.chk (s :: d :: flat rows):Nat)) H'
def sp_pinit (K:PySem.W.Frag):Sp:=fun vs H Q _=>∃ (p C dx a:Addr) (s d:Nat) (L:List V) (rows:List (Nat × Nat)) (cv:V) (c:Int),vs = [.ref p,.int ((s:Int) - 1),.int (d:Int),.ref a,cv] /\ H p = some (.ins C dx []) /\ Cls K C /\ NoAttr K C "day" /\ NoAttr K C "rows" /\ NoAttr K C "check" /\ NoAttr K C "fits" ∧
  (H a = some (.lst L) ∨ H a = some (.tup L)) /\ RowsAt H L rows /\ rows.length ≤ 100 /\ ((cv = .non /\ c = (Chk.chk (s :: d :: flat rows):Nat)) ∨ cv = .int c) ∧
  ∀ r R H',H' p = some (.ins C dx [("day",V.int (d:Int)),("rows",V.ref r),("check",V.int c),("fits",V.bl (decide (c = (Chk.chk (s :: d :: flat rows):Nat))))])->H' r = some (.tup R)->RowsAt H' R rows->Keep [p] H H'->Q .non H'
def sp_winit (CW CG:Addr):Sp:=fun vs H Q _=>∃ (p dx a:Addr) (d:Nat) (L:List V) (rows:List (Nat × Nat)) (cv:V) (c:Int),vs = [.ref p,.int (d:Int),.ref a,cv] /\ H p = some (.ins CW dx []) ∧
  (H a = some (.lst L) ∨ H a = some (.tup L)) /\ RowsAt H L rows /\ rows.length ≤ 100 /\ ((cv = .non /\ c = (ckOf true 0 d rows:Nat)) ∨ cv = .int c) /\ ∀ H',PAt CW CG H' p true 0 d rows c->Keep [p] H H'->Q .non H'
def sp_ginit (CW CG:Addr):Sp:=fun vs H Q _=>∃ (p dx a:Addr) (b d:Nat) (L:List V) (rows:List (Nat × Nat)) (cv:V) (c:Int),vs = [.ref p,.int (b:Int),.int (d:Int),.ref a,cv] /\ H p = some (.ins CG dx []) ∧
  (H a = some (.lst L) ∨ H a = some (.tup L)) /\ RowsAt H L rows /\ rows.length ≤ 100 /\ ((cv = .non /\ c = (ckOf false b d rows:Nat)) ∨ cv = .int c) /\ ∀ H',PAt CW CG H' p false b d rows c->Keep [p] H H'->Q .non H'
def sp_wkind:Sp:=fun vs H Q _=>∃ p:Addr,vs = [.ref p] /\ Q (.str (Str.ofString "whole")) H
def sp_gkind:Sp:=fun vs H Q _=>∃ p:Addr,vs = [.ref p] /\ Q (.str (Str.ofString "gain")) H
open PySem PySem.Spec PyProof.Rows
theorem iteNN {c A B:Prop} [Decidable c] (hc:¬ c) (h:A):if (!decide c) = true then A else B:=by
  rw [decide_eq_false hc,if_pos (by decide)]; exact h
theorem SeqEq.ints {K:PySem.W.Frag} {H:Hp} {a c:Addr} {xs ys:List Int} (h1:SqL K H a (xs.map V.int)) (h2:SqL K H c (ys.map V.int)):SeqEq K H (EqI K H 0) (.ref a) (.ref c) (decide (xs = ys)):=by
  by_cases hl:xs.length = ys.length
  · refine ⟨a,c,_,_,fun j=>decide (xs[j]? = ys[j]?),rfl,rfl,.inl ⟨h1,h2,by simpa using hl,fun j x' y' e1 e2=>?_,?_⟩⟩
    · rw [List.getElem?_map] at e1 e2
      obtain ⟨x,ex,rfl⟩:=Option.map_eq_some_iff.mp e1
      obtain ⟨y,ey,rfl⟩:=Option.map_eq_some_iff.mp e2
      refine .inl ⟨rfl,rfl,?_⟩
      show decide (xs[j]? = ys[j]?) = eqV (.int x) (.int y)
      rw [ex,ey]
      show decide (some x = some y) = (x == y)
      rw [Bool.eq_iff_iff,decide_eq_true_iff,beq_iff_eq]
      exact ⟨fun h=>Option.some.inj h,fun h=>by rw [h]⟩
    · rw [List.length_map,Bool.eq_iff_iff,decide_eq_true_iff,List.all_eq_true]
      constructor
      · rintro rfl j _; simp
      · intro h
        refine List.ext_getElem? fun j=>?_
        by_cases hj:j < xs.length
        · exact of_decide_eq_true (h j (List.mem_range.mpr hj))
        · rw [List.getElem?_eq_none (by omega),List.getElem?_eq_none (by omega)]
  · refine ⟨a,c,_,_,fun _=>true,rfl,rfl,.inr (.inl ⟨h1,h2,by simpa using hl,?_⟩)⟩
    exact decide_eq_false (fun e=>hl (by rw [e]))
open PySem
structure Leg where
  num:Int
  start:Int
  to:Int
  bad:Int
  cost:Int
def ahead (legs:List Leg) (P:Int->Option (List Int)):Nat:=(legs.filter fun g=>(P g.start).isNone).length
open PySem PySem.Spec PyProof.Rows
def tfs (a b c:Addr):List (Str × V):=[("sizes",V.ref a),("weights",V.ref b),("rates",V.ref c)]
theorem upK {H4:Hp} {x dx:Addr} {o:HO} (hx:H4 x = none) (hd:H4 dx = none) (t:Addr) (o':HO) (e:H4 t = some o'):upd (upd H4 dx (.own x)) x o t = some o':=by
  rw [upd_ne (ne_of_none e hx),upd_ne (ne_of_none e hd)]; exact e
theorem str_at {xs:List PySem.Str} {j:Nat} {y:V} (h:(xs.map V.str)[j]? = some y):∃ n,xs[j]? = some n /\ V.str n = y:=by
  rw [List.getElem?_map] at h
  obtain ⟨c,h1,h2⟩:=Option.map_eq_some_iff.mp h
  exact ⟨c,h1,h2⟩
open PySem
def Rise (xs:Array Nat):Prop:=∀ (i j a b:Nat),xs[i]? = some a->xs[j]? = some b->i < j->a < b
theorem below_go {xs:Array Nat} {j:Nat} (hr:Rise xs):∀ (fuel lo hi:Nat),hi ≤ xs.size->hi - lo ≤ fuel->lo ≤ hi->(∀ i a,i < lo->xs[i]? = some a->a < j)->(∀ i a,hi ≤ i->xs[i]? = some a->j ≤ a) →
    ∃ p,SetTable.below.go xs j fuel lo hi = p /\ p ≤ xs.size /\ (∀ i a,i < p->xs[i]? = some a->a < j) /\ (∀ i a,p ≤ i->xs[i]? = some a->j ≤ a)
  | 0,lo,hi,h1,h2,h3,h4,h5=>⟨lo,rfl,by omega,h4,fun i a hi' e=>h5 i a (by omega) e⟩
  | fuel + 1,lo,hi,h1,h2,h3,h4,h5=>by
    unfold SetTable.below.go
    by_cases hl:lo < hi
    · rw [if_pos hl]
      dsimp only
      have hm:(lo + hi) / 2 < xs.size:=by omega
      have em:xs[(lo + hi) / 2]? = some xs[(lo + hi) / 2]:=Array.getElem?_eq_getElem hm
      have eg:xs.getD ((lo + hi) / 2) j = xs[(lo + hi) / 2]:=by simp [Array.getD,hm]
      rw [eg]
      by_cases hc:xs[(lo + hi) / 2] < j
      · rw [if_pos hc]
        refine below_go hr fuel _ hi h1 (by omega) (by omega) (fun i a hi' e=>?_) h5
        by_cases he:i = (lo + hi) / 2
        · subst he; rw [em] at e; cases e; exact hc
        · have:=hr i _ a _ e em (by omega); omega
      · rw [if_neg hc]
        refine below_go hr fuel lo _ (by omega) (by omega) (by omega) h4 (fun i a hi' e=>?_)
        by_cases he:i = (lo + hi) / 2
        · subst he; rw [em] at e; cases e; omega
        · have:=hr _ i _ a em e (by omega); omega
    · rw [if_neg hl]
      exact ⟨lo,rfl,by omega,h4,fun i a hi' e=>h5 i a (by omega) e⟩
theorem below_ok {xs:Array Nat} (hr:Rise xs) (j:Nat):SetTable.below xs j ≤ xs.size /\ (∀ i a,i < SetTable.below xs j->xs[i]? = some a->a < j) /\ (∀ i a,SetTable.below xs j ≤ i->xs[i]? = some a->j ≤ a):=by
  obtain ⟨p,e,h⟩:=below_go (j:=j) hr xs.size 0 xs.size (Nat.le_refl _) (by omega) (by omega) (fun i a h=>by omega) (fun i a h e=>by rw [Array.getElem?_eq_none h] at e; cases e)
  have:SetTable.below xs j = p:=e
  rw [this]; exact h
theorem below_next {xs:Array Nat} (hr:Rise xs) {i a:Nat} (h:xs[i]? = some a):SetTable.below xs (a + 1) = i + 1:=by
  obtain ⟨h1,h2,h3⟩:=below_ok hr (a + 1)
  have hi:i < xs.size:=(Array.getElem?_eq_some_iff.mp h).1
  rcases Nat.lt_trichotomy (SetTable.below xs (a + 1)) (i + 1) with z | z | z
  · have:=h3 i a (by omega) h; omega
  · exact z
  · have e:xs[i + 1]? = some (xs[i + 1]'(by omega)):=Array.getElem?_eq_getElem (by omega)
    have u1:=h2 (i + 1) _ z e
    have u2:=hr i (i + 1) _ _ h e (by omega)
    omega
theorem below_zero {xs:Array Nat} (hr:Rise xs):SetTable.below xs 0 = 0:=by
  obtain ⟨h1,h2,_⟩:=below_ok hr 0
  rcases Nat.eq_zero_or_pos (SetTable.below xs 0) with z | z
  · exact z
  · have e:xs[0]? = some (xs[0]'(by omega)):=Array.getElem?_eq_getElem (by omega)
    have:=h2 0 _ z e; omega
theorem insertAt_get {α:Type} (xs:Array α) {p:Nat} (hp:p ≤ xs.size) (x:α) (i:Nat):(SetTable.insertAt xs p x)[i]? = if i < p then xs[i]? else if i = p then some x else xs[i - 1]?:=by
  rw [← Array.getElem?_toList,SetTable.toList_insertAt]
  have hl:(xs.toList.take p).length = p:=by rw [List.length_take]; simp; omega
  by_cases h1:i < p
  · rw [if_pos h1,List.getElem?_append_left (by omega),List.getElem?_take_of_lt h1]; simp
  · rw [if_neg h1,List.getElem?_append_right (by omega),hl]
    by_cases h2:i = p
    · rw [if_pos h2,h2,Nat.sub_self]; rfl
    · rw [if_neg h2,show i - p = (i - p - 1) + 1 by omega,List.getElem?_cons_succ,List.getElem?_drop,show p + (i - p - 1) = i - 1 by omega]; simp
theorem rise_insert {xs:Array Nat} (hr:Rise xs) {j:Nat} (hj:xs[SetTable.below xs j]? ≠ some j):Rise (SetTable.insertAt xs (SetTable.below xs j) j):=by
  obtain ⟨hp,h1,h2⟩:=below_ok hr j
  have h3:∀ i a,SetTable.below xs j ≤ i->xs[i]? = some a->j < a:=fun i a hi e=>by
    have:=h2 i a hi e
    rcases Nat.lt_or_eq_of_le this with z | z
    · exact z
    · subst z
      rcases Nat.lt_or_eq_of_le hi with y | y
      · have e2:xs[SetTable.below xs j]? = some (xs[SetTable.below xs j]'(by have:=(Array.getElem?_eq_some_iff.mp e).1; omega)):=Array.getElem?_eq_getElem _
        have u1:=h2 _ _ (Nat.le_refl _) e2
        have u2:=hr _ _ _ _ e2 e y
        omega
      · rw [y] at hj; exact absurd e hj
  intro i k a b ha hb hik
  rw [insertAt_get xs hp] at ha hb
  by_cases i1:i < SetTable.below xs j
  · rw [if_pos i1] at ha
    by_cases k1:k < SetTable.below xs j
    · rw [if_pos k1] at hb; exact hr i k a b ha hb hik
    · rw [if_neg k1] at hb
      by_cases k2:k = SetTable.below xs j
      · rw [if_pos k2] at hb; cases hb; exact h1 i a i1 ha
      · rw [if_neg k2] at hb; exact hr i (k - 1) a b ha hb (by omega)
  · rw [if_neg i1] at ha
    by_cases i2:i = SetTable.below xs j
    · rw [if_pos i2] at ha; cases ha
      rw [if_neg (by omega),if_neg (by omega)] at hb
      exact h3 (k - 1) b (by omega) hb
    · rw [if_neg i2] at ha
      rw [if_neg (by omega),if_neg (by omega)] at hb
      exact hr (i - 1) (k - 1) a b ha hb (by omega)
theorem rise_mem {xs:Array Nat} (hr:Rise xs) {j:Nat} (h:xs[SetTable.below xs j]? = some j):j ∈ xs.toList:=by
  rw [← Array.getElem?_toList] at h; exact List.mem_of_getElem? h
theorem len_of_all:∀ (m:Nat) (l:List Nat),(∀ j,j < m->j ∈ l)->m ≤ l.length
  | 0,l,_=>Nat.zero_le _
  | m + 1,l,h=>by
    have hm:=h m (by omega)
    have ih:=len_of_all m (l.erase m) fun j hj=>(List.mem_erase_of_ne (by omega)).mpr (h j (by omega))
    rw [List.length_erase_of_mem hm] at ih
    have:=List.length_pos_of_mem hm
    omega
def hop (N i:Nat):Nat:=(i * 5 + 1) % N
def hops (N:Nat):Nat->Nat->Nat
  | 0,i=>i
  | m + 1,i=>hops N m (hop N i)
def orbM (N:Nat):Nat->Nat->Nat
  | 0,_=>0
  | m + 1,i=>(1 <<< i) ||| orbM N m (hop N i)
theorem orbM_mem {N j:Nat}:∀ (m i:Nat),(orbM N m i).testBit j = true->∃ k,k < m /\ hops N k i = j
  | 0,i,h=>by simp [orbM] at h
  | m + 1,i,h=>by
    unfold orbM at h
    rw [Nat.testBit_or,Bool.or_eq_true] at h
    rcases h with h | h
    · refine ⟨0,by omega,?_⟩
      rw [Nat.testBit_shiftLeft] at h
      simp only [Bool.and_eq_true,decide_eq_true_eq] at h
      obtain ⟨h1,h2⟩:=h
      have:j - i = 0:=by
        rcases Nat.eq_zero_or_pos (j - i) with z | z
        · exact z
        · rw [Nat.testBit_one_eq_true_iff_self_eq_zero] at h2; exact h2
      show i = j
      omega
    · obtain ⟨k,hk,e⟩:=orbM_mem m (hop N i) h
      exact ⟨k + 1,by omega,e⟩
def coverM (N:Nat):Bool:=(List.range N).all fun i=>orbM N N i == 2 ^ N - 1
theorem cover8:coverM 8 = true:=by decide +kernel
theorem cover32:coverM 32 = true:=by decide +kernel
theorem cover128:coverM 128 = true:=by decide +kernel
theorem cover_hop {N:Nat} (h:coverM N = true) {i j:Nat} (hi:i < N) (hj:j < N):∃ k,k < N /\ hops N k i = j:=by
  unfold coverM at h
  rw [List.all_eq_true] at h
  have:=h i (List.mem_range.mpr hi)
  rw [beq_iff_eq] at this
  refine orbM_mem N i ?_
  rw [this,Nat.testBit_two_pow_sub_one]
  exact decide_eq_true hj
def adv (t:SetTable):Nat->SetTable.Probe->SetTable.Probe
  | 0,p=>p
  | k + 1,p=>adv t k (t.advance p)
theorem adv_add (t:SetTable):∀ (a b:Nat) (p:SetTable.Probe),adv t (a + b) p = adv t b (adv t a p)
  | 0,b,p=>by rw [Nat.zero_add]; rfl
  | a + 1,b,p=>by rw [show a + 1 + b = (a + b) + 1 by omega]; exact adv_add t a b (t.advance p)
def blockAt (t:SetTable) (q:Nat × Nat) (d:Option Nat):SetTable.Probe:={ j:=q.1,more:=SetTable.runEnd t.mask q.1 - q.1,i:=q.1,perturb:=q.2,dummy:=d }
theorem adv_run (t:SetTable):∀ (m:Nat) (p:SetTable.Probe),p.more = m->adv t (m + 1) p = blockAt t (SetTable.leap t.mask p.i p.perturb) p.dummy
  | 0,p,h=>by
    show t.advance p = _
    unfold SetTable.advance
    rw [if_neg (by omega)]
    rfl
  | m + 1,p,h=>by
    show adv t (m + 1) (t.advance p) = _
    have e:t.advance p = { p with j:=p.j + 1,more:=p.more - 1 }:=by unfold SetTable.advance; rw [if_pos (by omega)]
    rw [e,adv_run t m _ (by show p.more - 1 = m; omega)]
def leaps (mask:Nat):Nat->Nat × Nat->Nat × Nat
  | 0,q=>q
  | m + 1,q=>leaps mask m (SetTable.leap mask q.1 q.2)
theorem run9 (mask i:Nat):SetTable.runEnd mask i - i ≤ 9:=by unfold SetTable.runEnd; split <;> omega
theorem adv_leaps (t:SetTable) (d:Option Nat):∀ (m:Nat) (q:Nat × Nat),∃ k,k ≤ 10 * m /\ adv t k (blockAt t q d) = blockAt t (leaps t.mask m q) d
  | 0,q=>⟨0,by omega,rfl⟩
  | m + 1,q=>by
    obtain ⟨k,hk,e⟩:=adv_leaps t d m (SetTable.leap t.mask q.1 q.2)
    refine ⟨(SetTable.runEnd t.mask q.1 - q.1 + 1) + k,by have:=run9 t.mask q.1; omega,?_⟩
    rw [adv_add,adv_run t (SetTable.runEnd t.mask q.1 - q.1) (blockAt t q d) rfl]
    exact e
theorem leaps_add (mask:Nat):∀ (a b:Nat) (q:Nat × Nat),leaps mask (a + b) q = leaps mask b (leaps mask a q)
  | 0,b,q=>by rw [Nat.zero_add]; rfl
  | a + 1,b,q=>by rw [show a + 1 + b = (a + b) + 1 by omega]; exact leaps_add mask a b _
theorem leaps_snd (mask:Nat):∀ (m:Nat) (q:Nat × Nat),(leaps mask m q).2 = q.2 / 32 ^ m
  | 0,q=>by simp [leaps]
  | m + 1,q=>by
    show (leaps mask m (SetTable.leap mask q.1 q.2)).2 = _
    rw [leaps_snd mask m]
    show q.2 / 32 / 32 ^ m = _
    rw [Nat.div_div_eq_div_mul,Nat.pow_succ,Nat.mul_comm]
theorem leaps_hops (mask:Nat):∀ (m i:Nat),leaps mask m (i,0) = (hops (mask + 1) m i,0)
  | 0,i=>rfl
  | m + 1,i=>by
    show leaps mask m (SetTable.leap mask i 0) = _
    have e:SetTable.leap mask i 0 = (hop (mask + 1) i,0):=by unfold SetTable.leap hop; simp
    rw [e,leaps_hops mask m]; rfl
theorem bits_lt (h:Int):SetTable.bits h < 2 ^ 64:=by
  unfold SetTable.bits
  have h1:=Int.emod_nonneg h (show (2 ^ 64:Int) ≠ 0 by decide)
  have h2:=Int.emod_lt_of_pos h (show (0:Int) < 2 ^ 64 by decide)
  omega
theorem leaps_all {mask:Nat} (hc:coverM (mask + 1) = true) {q:Nat × Nat} (hq:q.2 < 2 ^ 64) {j:Nat} (hj:j < mask + 1):∃ m,m < mask + 15 /\ (leaps mask m q).1 = j:=by
  have e0:(leaps mask 13 q).2 = 0:=by
    rw [leaps_snd]
    exact Nat.div_eq_of_lt (Nat.lt_trans hq (by decide))
  have l0:(leaps mask 13 q).1 < mask + 1:=by
    rw [show (13:Nat) = 12 + 1 from rfl,leaps_add]
    show (_ % (mask + 1)) < _
    exact Nat.mod_lt _ (by omega)
  obtain ⟨k,hk,e⟩:=cover_hop hc l0 hj
  refine ⟨13 + k,by omega,?_⟩
  rw [leaps_add,show leaps mask 13 q = ((leaps mask 13 q).1,0) from by rw [← e0],leaps_hops]
  exact e
theorem slot_two {t:SetTable} (hd:t.dummies = #[]) (j:Nat):(t.slot j = .empty /\ t.place[SetTable.below t.place j]? ≠ some j) ∨ (∃ i,t.slot j = .live i) /\ t.place[SetTable.below t.place j]? = some j:=by
  unfold SetTable.slot
  by_cases h:t.place[SetTable.below t.place j]? = some j
  · right
    simp only [h]
    exact ⟨⟨_,if_pos (by simp)⟩,trivial⟩
  · left
    have h2:SetTable.has t.dummies j = false:=by rw [hd]; simp [SetTable.has]
    have h1:(t.place[SetTable.below t.place j]? == some j) = false:=by simpa using h
    simp only [h1,h2]
    exact ⟨rfl,h⟩
theorem go_two {t:SetTable} (hd:t.dummies = #[]) (h:Int):∀ (fuel:Nat) (p:SetTable.Probe),p.dummy = none →
    (∃ j,SetTable.probe.go t (fun _=>h + 1) h fuel p = some (.empty j none) /\ t.place[SetTable.below t.place j]? ≠ some j) ∨ ∀ k,k < fuel->t.place[SetTable.below t.place (adv t k p).j]? = some (adv t k p).j
  | 0,p,_=>.inr fun k hk=>by omega
  | fuel + 1,p,hp=>by
    unfold SetTable.probe.go
    rcases slot_two hd p.j with ⟨e,hn⟩ | ⟨⟨i,e⟩,hy⟩
    · left
      rw [e]
      dsimp only
      exact ⟨p.j,by rw [hp],hn⟩
    · rw [e]
      dsimp only
      have hne:((h + 1:Int) == h) = false:=by simp; omega
      rw [hne]
      simp only [Bool.false_eq_true,↓reduceIte]
      have hp':(t.advance p).dummy = none:=by unfold SetTable.advance; split <;> exact hp
      rcases go_two hd h fuel (t.advance p) hp' with z | z
      · exact .inl z
      · refine .inr fun k hk=>?_
        cases k with
        | zero=>exact hy
        | succ k=>exact z k (by omega)
theorem free_some {t:SetTable} (hd:t.dummies = #[]) (hr:Rise t.place) (hc:coverM (t.mask + 1) = true) (hs:t.place.size ≤ t.mask) (h:Int):∃ j,t.freeSlot h = some (j,false) /\ t.place[SetTable.below t.place j]? ≠ some j:=by
  have key:=go_two hd h (10 * SetTable.turns t.mask) (t.probeStart h) rfl
  rcases key with ⟨j,e,hn⟩ | hall
  · refine ⟨j,?_,hn⟩
    unfold SetTable.freeSlot SetTable.probe
    rw [e]
    rfl
  · exfalso
    have hm:=len_of_all (t.mask + 1) t.place.toList fun j hj=>by
      obtain ⟨m,hm,e⟩:=leaps_all hc (q:=(SetTable.bits h % (t.mask + 1),SetTable.bits h)) (bits_lt h) hj
      obtain ⟨k,hk,ek⟩:=adv_leaps t none m (SetTable.bits h % (t.mask + 1),SetTable.bits h)
      have hst:t.probeStart h = blockAt t (SetTable.bits h % (t.mask + 1),SetTable.bits h) none:=rfl
      have:=hall k (by unfold SetTable.turns; omega)
      rw [hst,ek] at this
      have this:t.place[SetTable.below t.place (leaps t.mask m (SetTable.bits h % (t.mask + 1),SetTable.bits h)).1]? = some (leaps t.mask m (SetTable.bits h % (t.mask + 1),SetTable.bits h)).1:=this
      rw [e] at this
      exact rise_mem hr this
    simp at hm
    omega
theorem free_two {mask:Nat} {owner:Array (Option Nat)}:∀ (fuel:Nat) (q:Nat × Nat),
    (∃ j,SetTable.layClean.free mask owner fuel q.1 q.2 = some j /\ owner[j]? = some none) ∨ ∀ m,m < fuel->owner[(leaps mask m q).1]? ≠ some none
  | 0,q=>.inr fun m hm=>by omega
  | fuel + 1,q=>by
    unfold SetTable.layClean.free
    cases e:(List.range (SetTable.runEnd mask q.1 + 1 - q.1)).find? fun k=>(owner.getD (q.1 + k) (some 0)).isNone with
    | some k =>
      left
      have hk:=List.find?_some e
      refine ⟨q.1 + k,rfl,?_⟩
      by_cases hlt:q.1 + k < owner.size
      · rw [Array.getElem?_eq_getElem hlt]
        simp [Array.getD,hlt] at hk
        rw [hk]
      · simp [Array.getD,hlt] at hk
    | none =>
      dsimp only
      rcases free_two fuel (SetTable.leap mask q.1 q.2) with z | z
      · exact .inl z
      · refine .inr fun m hm=>?_
        cases m with
        | succ m=>exact z m (by omega)
        | zero =>
          intro h0
          have:=List.find?_eq_none.mp e 0 (List.mem_range.mpr (by unfold SetTable.runEnd; split <;> omega))
          have h0:owner[q.1]? = some none:=h0
          have hlt:q.1 < owner.size:=(Array.getElem?_eq_some_iff.mp h0).1
          have he:=(Array.getElem?_eq_some_iff.mp h0).2
          simp [Array.getD,hlt,he] at this
def usedOf (owner:Array (Option Nat)):List Nat:=owner.toList.filterMap id
theorem all_used {l:List (Option Nat)} (h:∀ j,j < l.length->l[j]? ≠ some none):(l.filterMap id).length = l.length:=by
  induction l with
  | nil=>rfl
  | cons x r ih =>
    have hx:=h 0 (by simp)
    cases x with
    | none=>exact absurd rfl hx
    | some a =>
      rw [show (some a :: r).filterMap id = a :: r.filterMap id from rfl,List.length_cons,List.length_cons,ih fun j hj=>by have:=h (j + 1) (by simp; omega); simpa using this]
theorem free_ok {mask:Nat} {owner:Array (Option Nat)} (hc:coverM (mask + 1) = true) (hs:owner.size = mask + 1) (hu:(usedOf owner).length < mask + 1) {i p:Nat} (hp:p < 2 ^ 64):∃ j,SetTable.layClean.free mask owner (SetTable.turns mask) i p = some j /\ owner[j]? = some none:=by
  rcases free_two (mask:=mask) (owner:=owner) (SetTable.turns mask) (i,p) with z | z
  · exact z
  · exfalso
    have hl:=all_used (l:=owner.toList) fun j hj=>by
      obtain ⟨m,hm,e⟩:=leaps_all hc (q:=(i,p)) hp (j:=j) (by simpa [hs] using hj)
      have:=z m (by unfold SetTable.turns; omega)
      rw [e] at this
      rw [Array.getElem?_toList]; exact this
    unfold usedOf at hu
    rw [hl] at hu
    simp [hs] at hu
theorem set_used {l:List (Option Nat)} {j k:Nat} (h:l[j]? = some none):((l.set j (some k)).filterMap id).Perm (l.filterMap id ++ [k]):=by
  have hj:j < l.length:=(List.getElem?_eq_some_iff.mp h).1
  have e:l = l.take j ++ none :: l.drop (j + 1):=by
    have e0:l[j] = none:=(List.getElem?_eq_some_iff.mp h).2
    have:=List.take_append_drop j l
    rw [List.drop_eq_getElem_cons hj,e0] at this
    exact this.symm
  have e1:l.set j (some k) = l.take j ++ some k :: l.drop (j + 1):=by
    conv=>lhs; rw [e]
    rw [List.set_append_right _ _ (by rw [List.length_take]; omega)]
    simp [List.length_take,Nat.min_eq_left (Nat.le_of_lt hj)]
  rw [e1]
  conv=>rhs; rw [e]
  simp only [List.filterMap_append]
  rw [show (some k :: l.drop (j + 1)).filterMap id = k :: (l.drop (j + 1)).filterMap id from rfl,show (none :: l.drop (j + 1)).filterMap id = (l.drop (j + 1)).filterMap id from rfl,List.append_assoc]
  exact (List.perm_append_left_iff _).mpr (List.perm_append_singleton _ _).symm
theorem lay_fold {mask:Nat} (hc:coverM (mask + 1) = true):∀ (hs:List Int) (owner:Array (Option Nat)) (k:Nat),owner.size = mask + 1->(usedOf owner).Perm (List.range k)->k + hs.length ≤ mask + 1 →
    ∃ o,hs.foldl (fun acc h=>do
      let (owner,k) ← acc
      let j ← SetTable.layClean.free mask owner (SetTable.turns mask) (SetTable.bits h % (mask + 1)) (SetTable.bits h)
      pure (owner.setIfInBounds j (some k),k + 1)) (some (owner,k)) = some (o,k + hs.length) /\ o.size = mask + 1 /\ (usedOf o).Perm (List.range (k + hs.length))
  | [],owner,k,h1,h2,h3=>⟨owner,rfl,h1,h2⟩
  | h :: r,owner,k,h1,h2,h3=>by
    have hl:(usedOf owner).length < mask + 1:=by rw [h2.length_eq,List.length_range]; simp at h3; omega
    obtain ⟨j,ej,hj⟩:=free_ok hc h1 hl (i:=SetTable.bits h % (mask + 1)) (bits_lt h)
    have hu:(usedOf (owner.setIfInBounds j (some k))).Perm (List.range (k + 1)):=by
      unfold usedOf
      rw [Array.toList_setIfInBounds,List.range_succ]
      exact (set_used (by rw [Array.getElem?_toList]; exact hj)).trans (h2.append_right _)
    obtain ⟨o,eo,s1,p1⟩:=lay_fold hc r (owner.setIfInBounds j (some k)) (k + 1) (by simpa using h1) hu (by simp at h3; omega)
    refine ⟨o,?_,s1,by rw [List.length_cons,show k + (r.length + 1) = k + 1 + r.length by omega]; exact p1⟩
    rw [List.foldl_cons]
    simp only [Option.bind_eq_bind,Option.bind_some,ej]
    rw [List.length_cons,show k + (r.length + 1) = k + 1 + r.length by omega]
    exact eo
theorem layClean_ok {mask:Nat} (hc:coverM (mask + 1) = true) (hashes:Array Int) (hn:hashes.size ≤ mask):∃ o,SetTable.layClean mask hashes = some o /\ o.size = mask + 1 /\ (usedOf o).Perm (List.range hashes.size):=by
  have h0:usedOf (Array.replicate (mask + 1) none) = []:=by unfold usedOf; simp
  obtain ⟨o,e,h1,h2⟩:=lay_fold hc hashes.toList (Array.replicate (mask + 1) none) 0 (by simp) (by rw [h0]; exact .nil) (by simp; omega)
  rw [Nat.zero_add,Array.length_toList] at h2
  refine ⟨o,?_,h1,h2⟩
  unfold SetTable.layClean
  rw [← Array.foldl_toList]
  rw [e]
  rfl
theorem pick_filter {α:Type} (f:α->Bool) (g:α->Option Nat) (hg:∀ x,f x = (g x).isSome):∀ l:List α,l.filterMap (fun j=>(g j).map fun _=>j) = l.filter f
  | []=>rfl
  | x :: r=>by
    cases e:g x with
    | none=>rw [List.filterMap_cons_none (by rw [e]; rfl),List.filter_cons_of_neg (by rw [hg,e]; simp),pick_filter f g hg r]
    | some y=>rw [List.filterMap_cons_some (b:=x) (by rw [e]; rfl),List.filter_cons_of_pos (by rw [hg,e]; rfl),pick_filter f g hg r]
theorem rise_of {l:List Nat} (h:l.Pairwise (· < ·)):Rise l.toArray:=by
  intro i j a b ha hb hij
  simp only [List.getElem?_toArray] at ha hb
  obtain ⟨hi,ea⟩:=List.getElem?_eq_some_iff.mp ha
  obtain ⟨hj,eb⟩:=List.getElem?_eq_some_iff.mp hb
  have:=List.pairwise_iff_getElem.mp h i j hi hj hij
  omega
theorem laid_ok {mask:Nat} (hc:coverM (mask + 1) = true) (hashes:Array Int) (hn:hashes.size ≤ mask) (finger moves:Nat) (led plain:Bool) :
    ∃ place order,SetTable.laid mask finger moves led plain hashes = some ({ mask,place,dummies:=#[],finger,led,moves,plain },order) /\ Rise place /\ place.size = hashes.size /\ order.toList.Perm (List.range hashes.size):=by
  obtain ⟨o,e,hs,hp⟩:=layClean_ok hc hashes hn
  refine ⟨_,_,by unfold SetTable.laid; rw [e]; rfl,?_,?_,?_⟩
  · rw [List.map_filterMap]
    have e1:(fun j=>Option.map (fun x:Nat × Nat=>x.1) (Option.map (fun y=>(j,y)) (o.getD j none))) = fun j=>(o.getD j none).map fun _=>j:=by
      funext j; cases o.getD j none <;> rfl
    rw [e1,pick_filter (fun j=>(o.getD j none).isSome) _ (fun _=>rfl)]
    exact rise_of (List.pairwise_lt_range.filter _)
  · have e2:((List.range (mask + 1)).filterMap fun j=>(o.getD j none).map fun y=>(j,y)).length = (usedOf o).length:=by
      rw [← List.length_map (f:=fun x:Nat × Nat=>x.2)]
      rw [List.map_filterMap]
      unfold usedOf
      have e3:o.toList = (List.range (mask + 1)).map fun j=>o.getD j none:=by
        refine List.ext_getElem? fun j=>?_
        rw [Array.getElem?_toList,List.getElem?_map]
        by_cases hj:j < mask + 1
        · rw [List.getElem?_range hj,Array.getElem?_eq_getElem (by omega)]
          simp [Array.getD,show j < o.size by omega]
        · rw [List.getElem?_eq_none (by simp; omega),Array.getElem?_eq_none (by omega)]; rfl
      rw [e3,List.filterMap_map]
      congr 2
      funext j
      simp only [Function.comp_apply,_root_.id]
      cases o.getD j none <;> rfl
    simp only [List.size_toArray,List.length_map]
    rw [e2,hp.length_eq,List.length_range]
  · have e4:((List.range (mask + 1)).filterMap fun j=>(o.getD j none).map fun y=>(j,y)).map (fun x:Nat × Nat=>x.2) = usedOf o:=by
      rw [List.map_filterMap]
      unfold usedOf
      have e3:o.toList = (List.range (mask + 1)).map fun j=>o.getD j none:=by
        refine List.ext_getElem? fun j=>?_
        rw [Array.getElem?_toList,List.getElem?_map]
        by_cases hj:j < mask + 1
        · rw [List.getElem?_range hj,Array.getElem?_eq_getElem (by omega)]
          simp [Array.getD,show j < o.size by omega]
        · rw [List.getElem?_eq_none (by simp; omega),Array.getElem?_eq_none (by omega)]; rfl
      rw [e3,List.filterMap_map]
      congr 1
      funext j
      simp only [Function.comp_apply,_root_.id]
      cases o.getD j none <;> rfl
    show (((List.range (mask + 1)).filterMap fun j=>(o.getD j none).map fun y=>(j,y)).map (fun x:Nat × Nat=>x.2)).Perm _
    rw [e4]
    exact hp
structure TabI (t:SetTable) (n:Nat) (L:Bool):Prop where
  sz:t.place.size = n
  dm:t.dummies = #[]
  ri:Rise t.place
  pl:t.plain = true
  ld:t.led = L
  ms:(t.mask = 7 /\ n ≤ 4) ∨ (t.mask = 31 /\ n ≤ 18) ∨ (t.mask = 127 /\ n ≤ 63)
theorem TabI.fits {t:SetTable} {n:Nat} {L:Bool} (h:TabI t n L):t.fits n = true:=by
  unfold SetTable.fits SetTable.fill
  rw [h.sz,h.dm]
  have:=h.ms
  simp
  omega
theorem TabI.fresh (L:Bool):TabI (.fresh 0 0 L) 0 L:=⟨rfl,rfl,fun i j a b h=>by simp [SetTable.fresh] at h,rfl,rfl,.inl ⟨rfl,by omega⟩⟩
theorem TabI.cov {t:SetTable} {n:Nat} {L:Bool} (h:TabI t n L):coverM (t.mask + 1) = true:=by
  rcases h.ms with ⟨e,_⟩ | ⟨e,_⟩ | ⟨e,_⟩ <;> rw [e]
  · exact cover8
  · exact cover32
  · exact cover128
theorem insertAt_size {α:Type} (xs:Array α) (p:Nat) (x:α):(SetTable.insertAt xs p x).size = xs.size + 1:=by
  rw [← Array.length_toList,(SetTable.insertAt_perm xs p x).length_eq]; simp
theorem layNew_ok {t:SetTable} {es:Array (Int × Value)} {L:Bool} (T:TabI t es.size L) (hn:es.size < 63) (h:Int) (x:Value) :
    ∃ es' t',layNew t es h x = (es',t',false,false) /\ es'.size = es.size + 1 /\ t'.place.size = es.size + 1 /\ t'.dummies = #[] /\ Rise t'.place /\ t'.plain = true /\ t'.led = L /\ t'.mask = t.mask:=by
  obtain ⟨j,ej,hj⟩:=free_some T.dm T.ri T.cov (by have:=T.ms; have:=T.sz; omega) h
  have hsz:=T.sz
  have e1:(SetTable.insertAt es (SetTable.below t.place j) (h,x)).size = es.size + 1:=insertAt_size ..
  have hd:SetTable.has t.dummies j = false:=by rw [T.dm]; simp [SetTable.has]
  have e2:t.put j = ({ t with place:=SetTable.insertAt t.place (SetTable.below t.place j) j },SetTable.below t.place j):=by
    unfold SetTable.put
    simp only [hd]
    rfl
  have hf:({ t with place:=SetTable.insertAt t.place (SetTable.below t.place j) j }:SetTable).fits (es.size + 1) = true:=by
    unfold SetTable.fits SetTable.fill
    simp only [insertAt_size,T.dm,hsz]
    have:=T.ms
    simp
    omega
  refine ⟨SetTable.insertAt es (SetTable.below t.place j) (h,x),{ t with place:=SetTable.insertAt t.place (SetTable.below t.place j) j },?_,e1,by show (SetTable.insertAt _ _ _).size = _; rw [insertAt_size,hsz],T.dm,rise_insert T.ri hj,T.pl,T.ld,rfl⟩
  unfold layNew
  rw [ej]
  dsimp only
  rw [e2]
  dsimp only
  unfold SetTable.orStandIn
  rw [e1,hf]
  rfl
theorem relay_ok {t:SetTable} {es:Array (Int × Value)} {wanted mask:Nat} (hm:SetTable.sizeAbove wanted - 1 = mask) (hc:coverM (mask + 1) = true) (hn:es.size ≤ mask) :
    ∃ es' t',relayAll t es wanted = (es',t',false) /\ es'.size = es.size /\ t'.place.size = es.size /\ t'.dummies = #[] /\ Rise t'.place /\ t'.plain = t.plain /\ t'.led = t.led /\ t'.mask = mask:=by
  obtain ⟨place,order,e,hr,hp,ho⟩:=laid_ok hc (es.map (·.1)) (by simpa using hn) t.finger (t.movedTo mask) t.led t.plain
  rw [Array.size_map] at hp ho
  have e1:t.relaid (es.map (·.1)) wanted = some ({ mask,place,dummies:=#[],finger:=t.finger,led:=t.led,moves:=t.movedTo mask,plain:=t.plain },order):=by
    unfold SetTable.relaid
    rw [hm]; exact e
  have e2:(order.filterMap (es[·]?)).size = es.size:=by
    rw [← Array.length_toList,Array.toList_filterMap,((ho.filterMap _).trans (by rw [filterMap_getElem?_range])).length_eq]; simp
  have e3:coversAll order es.size = true:=List.isPerm_iff.mpr ho
  have e4:({ mask,place,dummies:=#[],finger:=t.finger,led:=t.led,moves:=t.movedTo mask,plain:=t.plain }:SetTable).fits es.size = true:=by
    unfold SetTable.fits SetTable.fill
    simp [hp]
    omega
  refine ⟨order.filterMap (es[·]?),{ mask,place,dummies:=#[],finger:=t.finger,led:=t.led,moves:=t.movedTo mask,plain:=t.plain },?_,e2,hp,rfl,hr,rfl,rfl,rfl⟩
  unfold relayAll
  rw [e1]
  dsimp only
  rw [e2,e3,e4]
  rfl
open PySem PySem.Spec PyProof.Rows
def keyI:Value->Int
  | .int n _=>n
  | _=>0
def keysI (es:Array (Int × Value)):List Int:=es.toList.map fun e=>keyI e.2
def ISet (prog:Program) (w:World) (h:Heap) (a:Addr) (fm:List Int) (L:Bool):Prop :=
  ∃ es ep t,h.get? a = some { cls:=.type "set",dict:=none,data:=.set es ep t,slots:=#[] } /\ ElemsOf (intKind prog w) es.toList /\ (keysI es).Perm fm /\ TabI t es.size L /\ es.size ≤ 63
theorem keys_mem {prog:Program} {w:World} {es:Array (Int × Value)} (hel:ElemsOf (intKind prog w) es.toList) {k:Int}:k ∈ keysI es ↔ ∃ e ∈ es.toList,(intKind prog w).is k e.2 = true:=by
  unfold keysI
  rw [List.mem_map]
  constructor
  · rintro ⟨e,he,rfl⟩
    obtain ⟨⟨k',hk,_⟩,_⟩:=hel e he
    obtain ⟨t,et⟩:=Value.isInt_shape (show Value.isInt k' e.2 = true from hk)
    exact ⟨e,he,by rw [et]; exact intKind_is prog w _ t⟩
  · rintro ⟨e,he,hk⟩
    obtain ⟨t,et⟩:=Value.isInt_shape (show Value.isInt k e.2 = true from hk)
    exact ⟨e,he,by rw [et]; rfl⟩
theorem keys_len (es:Array (Int × Value)):(keysI es).length = es.size:=by unfold keysI; simp
section
variable {prog:Program} {w:World} {A:Around} {E:Value->Shared->Prop} {s:Shared}
theorem iset_store {a:Addr} {es:Array (Int × Value)} {ep:Nat} {t:SetTable} {es':Array (Int × Value)} {t':SetTable} {Q:Unit->Shared->Prop} {s:Shared}
    (ho:s.heap.get? a = some { cls:=.type "set",dict:=none,data:=.set es ep t,slots:=#[] }) (hz:es'.size ≤ 64)
    (h:∀ h',Heap.SameBut a s.heap h'->h'.get? a = some { cls:=.type "set",dict:=none,data:=.set es' (ep + 1) t',slots:=#[] }->Q () { s with heap:=h' }):wpAny (model prog w) A (storeSet a es' t') Q E s:=by
  refine wpAny_storeSet_of ho rfl (h _ (Heap.SameBut.update s.heap a _) ?_) (Nat.le_of_lt (small1000 (by omega)))
  have:=Heap.get?_update_self (Obj.putSet es' t') ho (by rw [putSet_of es' t' rfl]; rfl)
  rw [putSet_of es' t' rfl] at this
  exact this
theorem iset_add {a:Addr} {fm:List Int} {L:Bool} {k:Int} {tk:Tok} {Q:Bool->Shared->Prop} (hS:ISet prog w s.heap a fm L) (hroom:(step_dedup fm k).length ≤ 63)
    (h:∀ b h',Heap.SameBut a s.heap h'->ISet prog w h' a (step_dedup fm k) L->Q b { s with heap:=h' }) :
    wpAny (model prog w) A (setAddHashed a (.int k tk) (hashInt k)) Q E s:=by
  obtain ⟨es,ep,t,ho,hel,hpm,hT,hsz⟩:=hS
  have hf:=hT.fits
  have hsc:(Value.int k tk).scannable = true:=rfl
  have hkey:(intKind prog w).is k (.int k tk) = true:=intKind_is prog w k tk
  unfold setAddHashed setAddHashedIn
  refine wpAny_holding (wpAny_bind (wpAny_setState_of ho rfl hf ?_))
  dsimp only
  rw [byScan_of (knd:=intKind prog w) hsc (by unfold scanBound; omega) hel]
  simp only [↓reduceIte]
  unfold setAddByScan
  refine wpAny_bind ?_
  refine wpAny_bind (wpAny_rule ?_)
  refine wpAny_bind (wpAny_setScan_of (knd:=intKind prog w) hkey ho rfl hf hel ?_)
  cases hr:List.findIdx? (fun e=>(intKind prog w).is k e.2) es.toList with
  | some j =>
    dsimp only
    obtain ⟨hj,hpj,_⟩:=List.findIdx?_eq_some_iff_getElem.mp hr
    have hin:k ∈ fm:=hpm.mem_iff.mp ((keys_mem hel).mpr ⟨_,List.getElem_mem hj,hpj⟩)
    have hst:step_dedup fm k = fm:=by unfold step_dedup; rw [if_pos (List.any_eq_true.mpr ⟨k,hin,by simp⟩)]
    rw [hst] at h
    refine wpAny_pure (wpAny_pure ?_)
    have e:s = { s with heap:=s.heap }:=by cases s; rfl
    rw [e]
    exact h _ s.heap (Heap.SameBut.refl a s.heap) ⟨es,ep,t,ho,hel,hpm,hT,hsz⟩
  | none =>
    dsimp only
    have hout:k ∉ fm:=fun z=>by
      obtain ⟨e,he,hp⟩:=(keys_mem hel).mp (hpm.mem_iff.mpr z)
      have:=List.findIdx?_eq_none_iff.mp hr e he
      rw [hp] at this; exact Bool.noConfusion this
    have hst:step_dedup fm k = fm ++ [k]:=by
      unfold step_dedup
      rw [if_neg (fun z=>by
        obtain ⟨y,hy,e⟩:=List.any_eq_true.mp z
        have:y = k:=by simpa using e
        exact hout (this ▸ hy))]
    rw [hst] at h hroom
    have hfl:fm.length = es.size:=by rw [← hpm.length_eq,keys_len]
    have hn63:es.size < 63:=by rw [List.length_append,hfl] at hroom; simp at hroom; omega
    have hperm:=layNew_perm t es (hashInt k) (.int k tk)
    obtain ⟨es1,t1,e1,z1,z2,z3,z4,z5,z6,z7⟩:=layNew_ok hT hn63 (hashInt k) (.int k tk)
    have e1':layNew t es ((intKind prog w).hash k) (.int k tk) = (es1,t1,false,false):=e1
    rw [e1] at hperm
    dsimp only at hperm
    rw [Array.toList_push] at hperm
    have hel1:ElemsOf (intKind prog w) es1.toList:=(hel.push hkey hsc).perm hperm
    have hpm1:(keysI es1).Perm (fm ++ [k]):=by
      unfold keysI
      refine (hperm.map _).trans ?_
      rw [List.map_append]
      exact hpm.append_right _
    have e1'':layNew t es (hashInt k) (.int k tk) = (es1,t1,false,false):=e1
    rw [e1'']
    dsimp only
    refine wpAny_bind (wpAny_pure ?_)
    rw [z5]
    simp only [↓reduceIte]
    rw [hashByValue_scannable 8 hsc]
    refine wpAny_bind (wpAny_pure ?_)
    simp only [plainKind,↓reduceIte]
    refine wpAny_bind (iset_store ho (by omega) fun h1 sb1 ho1=>?_)
    by_cases hfull:t1.tooFull = true
    · rw [hfull]
      simp only [Bool.not_false,Bool.and_self,↓reduceIte]
      obtain ⟨mask,hm,hc,hnm,hms⟩:∃ mask,SetTable.sizeAbove (SetTable.grown es1.size) - 1 = mask /\ coverM (mask + 1) = true /\ es1.size ≤ mask /\ ((mask = 7 /\ es1.size ≤ 4) ∨ (mask = 31 /\ es1.size ≤ 18) ∨ (mask = 127 /\ es1.size ≤ 63)):=by
        unfold SetTable.tooFull SetTable.fill at hfull
        rw [z2,z3,z7] at hfull
        have hfull:(es.size + 1 + 0) * 5 ≥ t.mask * 3:=of_decide_eq_true hfull
        rcases hT.ms with ⟨m1,m2⟩ | ⟨m1,m2⟩ | ⟨m1,m2⟩
        · rw [m1] at hfull
          have:es1.size = 5:=by omega
          rw [this]
          exact ⟨31,by decide +kernel,cover32,by omega,by omega⟩
        · rw [m1] at hfull
          have:es1.size = 19:=by omega
          rw [this]
          exact ⟨127,by decide +kernel,cover128,by omega,by omega⟩
        · rw [m1] at hfull; omega
      have hp2:=relayAll_perm t1 es1 (SetTable.grown es1.size)
      obtain ⟨es2,t2,e2,y1,y2,y3,y4,y5,y6,y7⟩:=relay_ok (t:=t1) (es:=es1) hm hc hnm
      rw [e2] at hp2 ⊢
      dsimp only at hp2 ⊢
      refine wpAny_bind (wpAny_pure ?_)
      refine wpAny_bind (iset_store ho1 (by omega) fun h2 sb2 ho2=>?_)
      refine wpAny_pure (wpAny_pure ?_)
      refine h _ h2 (sb1.trans sb2) ⟨es2,_,t2,ho2,hel1.perm hp2,(hp2.map _).trans hpm1,⟨y2.trans y1.symm,y3,y4,y5.trans z5,y6.trans z6,by rw [y7,y1]; exact hms⟩,by omega⟩
    · have hfull:t1.tooFull = false:=by simpa using hfull
      rw [hfull]
      simp only [Bool.and_false,Bool.false_eq_true,↓reduceIte]
      refine wpAny_pure (wpAny_pure ?_)
      refine h _ h1 sb1 ⟨es1,_,t1,ho1,hel1,hpm1,⟨z2.trans z1.symm,z3,z4,z5,z6,?_⟩,by omega⟩
      unfold SetTable.tooFull SetTable.fill at hfull
      rw [z2,z3,z7] at hfull
      have hfull:¬ (es.size + 1 + 0) * 5 ≥ t.mask * 3:=of_decide_eq_false hfull
      rw [z7,z1]
      rcases hT.ms with ⟨m1,m2⟩ | ⟨m1,m2⟩ | ⟨m1,m2⟩
      · rw [m1] at hfull; left; omega
      · rw [m1] at hfull; right; left; omega
      · right; right; omega
theorem ISet.at {h h':Heap} {a:Addr} {fm:List Int} {L:Bool} (S:ISet prog w h a fm L) (e:∀ o,h.get? a = some o->h'.get? a = some o):ISet prog w h' a fm L:=by
  obtain ⟨es,ep,t,ho,r⟩:=S
  exact ⟨es,ep,t,e _ ho,r⟩
theorem firstMet_le (val:Nat->Int):∀ {i n:Nat},i ≤ n->(firstMet val i).length ≤ (firstMet val n).length
  | i,0,h=>by rw [show i = 0 by omega]; exact Nat.le_refl _
  | i,n + 1,h=>by
    by_cases e:i = n + 1
    · rw [e]; exact Nat.le_refl _
    · refine Nat.le_trans (firstMet_le val (show i ≤ n by omega)) ?_
      rw [firstMet_succ,step_length]
      split <;> omega
theorem iset_loop {R:Result->Shared->Prop} {I:Addr} {fp wr:List Addr} {G:Array GenState->Array GenState->Prop} {n:Nat} {P:Nat->Value->Prop} {St:Nat->Shared->Prop} (W:WalksS prog w A.in1 I fp wr G n P St) (S:Addr) (hSf:S ∉ fp) {L:Bool}
    (val:Nat->Int) (hval:∀ i v,P i v->∃ t,v = .int (val i) t) (hb:(firstMet val n).length ≤ 63):∀ (k i:Nat) (s:Shared),n - i = k->i ≤ n->St i s->ISet prog w s.heap S (firstMet val i) L →
      (∀ s',Moved (S :: wr) G s s'->ISet prog w s'.heap S (firstMet val n) L->R (.ok (.ret .none)) s')->codeAny (model prog w) A (.builtin "set.update.loop" ⟨[.ref S,.ref I],[]⟩) R s:=by
  have hSw:S ∉ wr:=fun h=>hSf (W.sub _ h)
  have hsub:∀ b ∈ wr,b ∈ S :: wr:=fun b hb=>List.mem_cons_of_mem _ hb
  intro k
  induction k with
  | zero =>
    intro i s hk hi hst hS hR
    have hin:i = n:=by omega
    subst hin
    refine codeAny_builtin PyProof.Rows.F.entry_set_update_loop ?_
    rw [Around.under_plainId PyProof.Rows.F.plain_set_update_loop _]
    show wpAny _ A.in1 (pyNext (.ref I) >>= _) _ _ s
    refine wpAny_bind (W.done s _ _ hst fun s' hm=>?_)
    show wpAny _ A.in1 (ret Value.none) _ _ s'
    exact wpAny_pure (hR s' (hm.mono hsub) (hS.at fun o e=>hm.heap S o hSw e))
  | succ k ih =>
    intro i s hk hi hst hS hR
    have hlt:i < n:=by omega
    refine codeAny_builtin PyProof.Rows.F.entry_set_update_loop ?_
    rw [Around.under_plainId PyProof.Rows.F.plain_set_update_loop _]
    show wpAny _ A.in1 (pyNext (.ref I) >>= _) _ _ s
    refine wpAny_bind (W.item i s _ _ hlt hst fun v s' hP hst' hm=>?_)
    obtain ⟨t,rfl⟩:=hval i v hP
    have hS':ISet prog w s'.heap S (firstMet val i) L:=hS.at fun o e=>hm.heap S o hSw e
    show wpAny _ A.in1 (holding [Value.int (val i) t] (setAdd S (.int (val i) t)) >>= _) _ _ s'
    refine wpAny_bind (wpAny_holding ?_)
    unfold setAdd
    refine wpAny_holding ?_
    refine wpAny_bind ((intKind prog w).pyHash (k:=val i) (intKind_is _ _ _ _) ?_)
    have hfs:=firstMet_succ val i
    refine iset_add (s:={ s' with toks:=s'.toks + 1 }) hS' (by rw [← hfs]; exact Nat.le_trans (firstMet_le val hlt) hb) fun b h' hsb hS2=>?_
    rw [← hfs] at hS2
    refine wpAny_pure ⟨plainId_quiet PyProof.Rows.F.plain_set_update_loop _,ih (i + 1) _ (by omega) hlt (W.frame _ s' _ _ hst' (Nat.le_succ _) fun b hb o e=>?_) hS2 fun s'' hm'' hS''=>?_⟩
    · rw [hsb.2 b (fun h:b = S=>hSf (by rw [← h]; exact hb))]; exact e
    · refine hR s'' (Moved.trans W.gtrans ((hm.mono hsub).then_heap (Nat.le_succ _) fun b o hb e=>?_) hm'') hS''
      rw [hsb.2 b (fun h:b = S=>hb (by rw [h]; exact List.mem_cons_self))]; exact e
theorem iset_new (a:Value) {Q₁:Value->Shared->Prop}
    (h:Q₁ (.ref s.heap.objs.size) { s with heap:=s.heap.push { cls:=.type "set",dict:=none,data:=.set #[] 0 (.fresh 0 0 (!w.params.followText "set-order")) } }) :
    codeAny (model prog w) A (.call (.builtin "set.__new__") ⟨[.type "set",a],[]⟩) (wants Q₁ E) s:=by
  refine codeAny_of_tree ?_
  show wpAny _ A.in1 (do checkBuiltinCall "set.__new__" ⟨[.type "set",a],[]⟩; again (.builtin "set.__new__" ⟨[.type "set",a],[]⟩)) _ _ s
  refine wpAny_bind (wpAny_of_eq (PySem.F.newCall_set_1 a) (wpAny_pure ⟨plainId_quiet PySem.F.plain_set_new _,codeAny_builtin PySem.F.entry_set_new ?_⟩))
  rw [Around.under_plainId PySem.F.plain_set_new _]
  unfold Builtin.«set.__new__» Builtin.Frozenset.newClass
  have hsub:=sub_set_self
  obtain ⟨hp,g,d,tk,os⟩:=s
  dsimp only
  wp_walk
  refine wpAny_askSetting (wpAny_pure ?_)
  dsimp only
  simp only [newObj]
  refine wpAny_bind (wpAny_alloc (wpAny_pure ?_))
  exact wpAny_pure h
set_option maxHeartbeats 6400000 in
theorem iset_call {l:Addr} {items:Array Value} {ns:List Int} {Q:Value->Shared->Prop} (hh:A.handled = none) (hl:s.heap.IsList l items) (hi:IntsAre items.toList ns) (hb:(firstMet (fun i=>ns.getD i 0) items.size).length ≤ 63)
    (h:∀ (h':Heap) (tk:Nat),ISet prog w h' s.heap.objs.size (firstMet (fun i=>ns.getD i 0) items.size) (!w.params.followText "set-order")->(∀ b o,b < s.heap.objs.size->s.heap.get? b = some o->h'.get? b = some o)->Q (.ref s.heap.objs.size) { s with heap:=h',toks:=tk }) :
    wpAny (model prog w) A (call (.type "set") [.ref l]) Q E s:=by
  obtain ⟨c,tl,hmro⟩:=PySem.F.called_set.mro
  have hmade:=PySem.F.called_set.made
  have hsub:=PySem.F.called_set.sub
  refine wpAny_call (codeAny_of_tree ?_)
  show wpAny _ _ (callAny (.type "set") _) _ _ _
  refine wpAny_pure ⟨Code.quiet_builtin _ (by decide +kernel),codeAny_builtin PySem.F.entry_type_call ?_⟩
  rw [Around.under_plain (weight_type_call_type "set" [.ref l] []) rfl]
  have h1:=PySem.F.called_set.notType
  have h2:=PySem.F.called_set.canCreate
  have hct:=PySem.F.typeCall_set_1 (.ref l)
  repeat (any_goals (first | assumption | wp_step))
  obtain ⟨led,hled⟩:∃ led:Bool,led = !w.params.followText "set-order":=⟨_,rfl⟩
  refine codeAny_mono (iset_new (.ref l) (E:=E) (Q₁:=fun obj s₁=>obj = .ref s.heap.objs.size /\ s₁ = { s with heap:=s.heap.push { cls:=.type "set",dict:=none,data:=.set #[] 0 (.fresh 0 0 led) } }) ⟨rfl,by rw [hled]⟩) fun r s₁ hr=>?_
  cases r with
  | error e=>exact hr
  | ok fl =>
    cases fl with
    | ret obj =>
      obtain ⟨rfl,rfl⟩:=hr
      have hS:(s.heap.push { cls:=.type "set",dict:=none,data:=.set #[] 0 (.fresh 0 0 led) }).get? s.heap.objs.size = some { cls:=.type "set",dict:=none,data:=.set #[] 0 (.fresh 0 0 led) }:=Heap.get?_push_size _ rfl
      have hT:Shared.TypeIs { s with heap:=s.heap.push { cls:=.type "set",dict:=none,data:=.set #[] 0 (.fresh 0 0 led) } } (.ref s.heap.objs.size) "set":=⟨_,hS,rfl⟩
      have hli:=PySem.F.called_set.init.lookup
      have hbi:=PySem.F.called_set.init.bind (.ref s.heap.objs.size)
      repeat (any_goals (first | assumption | wp_step))
      refine codeAny_mono (codeAny_call_builtin (R:=wants (fun r s₂=>r = .none /\ ∃ h' tk,s₂ = { s with heap:=h',toks:=tk } /\ ISet prog w h' s.heap.objs.size (firstMet (fun i=>ns.getD i 0) items.size) (!w.params.followText "set-order") /\ (∀ b o,b < s.heap.objs.size->s.heap.get? b = some o->h'.get? b = some o)) E) PySem.F.called_set.init.plain PySem.F.entry_set_init (check_set_init_1 hT ?_)) fun r₂ s₂ hr₂=>?_
      · obtain ⟨ol,hol,hcl,nl,hdl⟩:=hl
        obtain ⟨ocls,odict,odata,oslots⟩:=ol
        simp only at hcl hdl
        subst hcl; subst hdl
        have hol':(s.heap.push { cls:=.type "set",dict:=none,data:=.set #[] 0 (.fresh 0 0 led) }).get? l = some { cls:=.type "list",dict:=odict,data:=.seq items nl,slots:=oslots }:=Heap.get?_push_of_some _ hol
        have hsls:=PySem.F.sub_list_set
        have hslf:=PySem.F.sub_list_frozenset
        have hne:(Value.type "list" == Value.type "dict") = false:=by decide
        have hl1:(s.heap.push { cls:=.type "set",dict:=none,data:=.set #[] 0 (.fresh 0 0 led) }).IsList l items:=⟨_,hol',rfl,nl,rfl⟩
        unfold Builtin.«set.__init__» noKeywords Builtin.Frozenset.updateFrom
        generalize hPI:pyIter = PI
        wp_walk
        subst hPI
        refine wpAny_pyIter_list hl1 ?_
        refine wpAny_bind (wpAny_runValue ?_)
        have hlS:l < s.heap.objs.size:=Heap.lt_size hol
        have hh3:A.in1.in1.in1.handled = none:=by simp [hh]
        have hneI:l ≠ (s.heap.push { cls:=.type "set",dict:=none,data:=.set #[] 0 (.fresh 0 0 led) }).objs.size:=by rw [Heap.size_push]; exact Nat.ne_of_lt (Nat.lt_succ_of_lt hlS)
        have hSf:s.heap.objs.size ∉ [(s.heap.push { cls:=.type "set",dict:=none,data:=.set #[] 0 (.fresh 0 0 led) }).objs.size,l]:=by
          rw [Heap.size_push]; simp only [List.mem_cons,List.mem_singleton,List.not_mem_nil,or_false,not_or]
          exact ⟨Nat.ne_of_lt (Nat.lt_succ_self _),Nat.ne_of_gt hlS⟩
        have hval:∀ (i:Nat) (v:Value),items[i]? = some v->∃ t,v = .int ((fun i=>ns.getD i 0) i) t:=fun i v hv=>IntsAre.int_at hi i v (by rw [Array.getElem?_toList]; exact hv)
        refine iset_loop (L:=!w.params.followText "set-order") ((Walks.list hh3 _ l hneI items).toS) s.heap.objs.size hSf (fun i=>ns.getD i 0) hval hb (items.size - 0) 0 _ (by omega) (Nat.zero_le _) ⟨⟨_,Heap.get?_push_size _ rfl,rfl,rfl⟩,(hl1.push _)⟩ ?hS0 ?hR
        case hS0 =>
          exact ⟨#[],0,_,Heap.get?_push_of_some _ hS,fun e he=>by simp at he,.nil,by rw [← hled]; exact TabI.fresh _,by simp⟩
        case hR =>
          intro s' hm hS'
          obtain ⟨h',g',d',tk',os'⟩:=s'
          have eg:g' = s.gens:=hm.gens
          have ed:d' = s.drawn:=hm.drawn
          have eo:os' = s.os:=hm.os
          subst eg; subst ed; subst eo
          show wpAny _ _ _ _ _ _
          refine wpAny_pure ?_
          show wpAny _ _ (ret Value.none) _ _ _
          refine wpAny_pure ⟨rfl,h',tk',rfl,hS',fun b o hb e=>?_⟩
          have hb1:b ≠ s.heap.objs.size:=Nat.ne_of_lt hb
          have hb2:b ≠ (s.heap.push { cls:=.type "set",dict:=none,data:=.set #[] 0 (.fresh 0 0 led) }).objs.size:=by rw [Heap.size_push]; exact Nat.ne_of_lt (Nat.lt_succ_of_lt hb)
          exact hm.heap b o (by simp only [List.mem_cons,List.mem_singleton,List.not_mem_nil,or_false,not_or]; exact ⟨hb1,hb2⟩) (Heap.get?_push_of_some _ (Heap.get?_push_of_some _ e))
      · cases r₂ with
        | error e=>exact hr₂
        | ok fl₂ =>
          cases fl₂ with
          | ret r =>
            obtain ⟨rfl,h',tk,rfl,hS',hk'⟩:=hr₂
            repeat (any_goals (first | assumption | wp_step))
            exact h _ _ hS' hk'
          | _=>exact hr₂.elim
    | _=>exact hr.elim
end
open PySem PySem.Spec PyProof.Rows
theorem pick_go {α:Type} (next:Nat->Nat):∀ (fuel k:Nat) (left:List α) (out:Array α),left.length = fuel->(pickOrder.go next fuel k left out).toList.Perm (out.toList ++ left)
  | 0,k,left,out,h=>by
    have:left = []:=List.length_eq_zero_iff.mp h
    subst this
    unfold pickOrder.go
    simp
  | fuel + 1,k,left,out,h=>by
    unfold pickOrder.go
    have hlt:next k % left.length < left.length:=Nat.mod_lt _ (by omega)
    rw [List.getElem?_eq_getElem hlt]
    dsimp only
    refine (pick_go next fuel (k + 1) _ _ (by rw [List.length_eraseIdx_of_lt hlt]; omega)).trans ?_
    rw [Array.toList_push,List.append_assoc]
    refine (List.perm_append_left_iff _).mpr ?_
    rw [List.eraseIdx_eq_take_drop_succ]
    have e:left = left.take (next k % left.length) ++ left[next k % left.length] :: left.drop (next k % left.length + 1):=by
      conv=>lhs; rw [← List.take_append_drop (next k % left.length) left,List.drop_eq_getElem_cons hlt]
    conv=>rhs; rw [e]
    show (left[next k % left.length] :: (left.take (next k % left.length) ++ left.drop (next k % left.length + 1))).Perm _
    exact List.perm_middle.symm
theorem pick_perm {α:Type} (next:Nat->Nat) (xs:Array α):(pickOrder next xs).toList.Perm xs.toList:=by
  unfold pickOrder
  have:=pick_go next xs.size 0 xs.toList #[] (by simp)
  simpa using this
def setOrd (w:World) (d:Addr) (ep:Nat) (es:Array (Int × Value)):Array (Int × Value):=if w.params.followText "set-order" = true then pickOrder (w.params.setOrder d ep) es else es
theorem setOrd_perm (w:World) (d:Addr) (ep:Nat) (es:Array (Int × Value)):(setOrd w d ep es).toList.Perm es.toList:=by
  unfold setOrd
  split
  · exact pick_perm _ _
  · exact .rfl
theorem setOrd_size (w:World) (d:Addr) (ep:Nat) (es:Array (Int × Value)):(setOrd w d ep es).size = es.size:=by
  rw [← Array.length_toList,(setOrd_perm w d ep es).length_eq,Array.length_toList]
def slotAt (w:World) (t:SetTable) (i:Nat):Nat:=if w.params.followText "set-order" = true then 0 else match i with
  | 0=>0
  | k + 1=>t.place.getD k 0 + 1
def SIter (h:Heap) (I d:Addr) (first i n ep:Nat):Prop:=∃ o,h.get? I = some o /\ o.cls = .type "set_iterator" /\ o.data = .fields #[rawInt first,rawInt i,.ref d,rawInt n,rawInt ep]
def SObj (h:Heap) (d:Addr) (es:Array (Int × Value)) (ep:Nat) (t:SetTable):Prop:=h.get? d = some { cls:=.type "set",dict:=none,data:=.set es ep t,slots:=#[] }
section
variable {prog:Program} {w:World} {A:Around} {E:Value->Shared->Prop} {s:Shared}
theorem set_next_at {d:Addr} {es:Array (Int × Value)} {ep:Nat} {t:SetTable} (hd:SObj s.heap d es ep t) (hT:TabI t es.size (!w.params.followText "set-order")) {i:Nat} {Q:Option (Value × Nat)->Shared->Prop}
    (h:∀ r,(match (setOrd w d ep es)[i]? with | some e=>r = some (e.2,slotAt w t (i + 1)) | none=>r = none)->Q r s) (hi:i ≤ es.size) :
    wpAny (model prog w) A (setNext d (slotAt w t i) i ep) Q E s:=by
  have hf:=hT.fits
  unfold setNext
  refine wpAny_bind (wpAny_setState_of hd rfl hf ?_)
  dsimp only
  unfold setsByText
  refine wpAny_bind (wpAny_bind (wpAny_askSetting (wpAny_pure ?_)))
  by_cases hb:w.params.followText "set-order" = true
  · have hb':(model prog w).w.params.followText "set-order" = true:=hb
    simp only [hb',↓reduceIte]
    simp only [bne_self_eq_false,Bool.false_eq_true,↓reduceIte]
    refine wpAny_bind ?_
    unfold setWalk
    refine wpAny_bind (wpAny_setState_of hd rfl hf ?_)
    dsimp only
    unfold setsByText
    refine wpAny_bind (wpAny_bind (wpAny_askSetting (wpAny_pure ?_)))
    simp only [hb',↓reduceIte]
    refine wpAny_bind (wpAny_askSetting (wpAny_pure ?_))
    refine wpAny_pure (h _ ?_)
    unfold setOrd slotAt
    simp only [hb,↓reduceIte]
    show match (pickOrder (w.params.setOrder d ep) es)[i]? with | some e=>_ | none=>_
    cases e:(pickOrder (w.params.setOrder d ep) es)[i]? with
    | none =>
      have e':(pickOrder ((model prog w).w.params.setOrder d ep) es)[i]? = none:=e
      show Option.map _ _ = none
      rw [e']; rfl
    | some x =>
      have e':(pickOrder ((model prog w).w.params.setOrder d ep) es)[i]? = some x:=e
      show Option.map _ _ = some (x.2,0)
      rw [e']; rfl
  · have hb:w.params.followText "set-order" = false:=by simpa using hb
    have hb':(model prog w).w.params.followText "set-order" = false:=hb
    simp only [hb',Bool.false_eq_true,↓reduceIte]
    have hpl:=hT.pl
    have hld:t.led = true:=by rw [hT.ld,hb]; rfl
    show wpAny _ _ (if (!t.plain && decide (es.size > 1)) = true then _ else _) _ _ _
    rw [hpl]
    simp only [Bool.not_true,Bool.false_and,Bool.false_eq_true,↓reduceIte]
    show wpAny _ _ ((if (!t.led && !es.isEmpty) = true then _ else _) >>= _) _ _ _
    rw [hld]
    simp only [Bool.not_true,Bool.false_and,Bool.false_eq_true,↓reduceIte]
    refine wpAny_bind (wpAny_pure ?_)
    refine wpAny_pure (h _ ?_)
    have eo:setOrd w d ep es = es:=by unfold setOrd; rw [if_neg (by rw [hb]; simp)]
    have es1:∀ j,slotAt w t j = match j with | 0=>0 | k + 1=>t.place.getD k 0 + 1:=fun j=>by unfold slotAt; rw [if_neg (by rw [hb]; simp)]
    have hsz:=hT.sz
    have ebl:SetTable.below t.place (slotAt w t i) = i:=by
      rw [es1]
      cases i with
      | zero=>exact below_zero hT.ri
      | succ k =>
        have hk:k < t.place.size:=by omega
        have e1:t.place[k]? = some t.place[k]:=Array.getElem?_eq_getElem hk
        show SetTable.below t.place (t.place.getD k 0 + 1) = k + 1
        rw [show t.place.getD k 0 = t.place[k] by simp [Array.getD,hk]]
        exact below_next hT.ri e1
    rw [eo,ebl,es1]
    by_cases hlt:i < es.size
    · have hlt2:i < t.place.size:=by omega
      rw [Array.getElem?_eq_getElem hlt,Array.getElem?_eq_getElem hlt2]
      simp [Array.getD,hlt2]
    · rw [Array.getElem?_eq_none (by omega)]
namespace FS
theorem owner_si:Manifest.owners.lookup (String.ofList ['r','o','t','a','r','e','t','i','_','t','e','s'].reverse) = some Manifest.sig_set_iterator:=by kernel_rfl
theorem slot_si_next:Slot "set_iterator" "__next__" "set_iterator.__next__" :=
  .of (owner:="set_iterator") (n:="__next__") (by rw [typeLookup_type,builtinLookup_eq_fast]; kernel_rfl) (by decide +kernel) (by decide +kernel) (by decide +kernel)
    (by first | exact .inl (by decide +kernel) | exact .inr (by decide +kernel)) (by rw [isSubtype_type]; kernel_rfl)
theorem entry_si_next:entryFor table "set_iterator.__next__" = some Builtin.«set_iterator.__next__»:=entryFor_of_tree (by kernel_rfl)
theorem args_si_next (a:Value):argsOk "set_iterator.__next__" ⟨[a],[]⟩:=by
  unfold argsOk; rw [signature?_of (id:="set_iterator.__next__") (n:=['_','_','t','x','e','n','_','_']) (o:=['r','o','t','a','r','e','t','i','_','t','e','s']) (by kernel_rfl) owner_si]; kernel_rfl
theorem slot_si_iter:Slot "set_iterator" "__iter__" "set_iterator.__iter__" :=
  .of (owner:="set_iterator") (n:="__iter__") (by rw [typeLookup_type,builtinLookup_eq_fast]; kernel_rfl) (by decide +kernel) (by decide +kernel) (by decide +kernel)
    (by first | exact .inl (by decide +kernel) | exact .inr (by decide +kernel)) (by rw [isSubtype_type]; kernel_rfl)
theorem args_si_iter (a:Value):argsOk "set_iterator.__iter__" ⟨[a],[]⟩:=by
  unfold argsOk; rw [signature?_of (id:="set_iterator.__iter__") (n:=['_','_','r','e','t','i','_','_']) (o:=['r','o','t','a','r','e','t','i','_','t','e','s']) (by kernel_rfl) owner_si]; kernel_rfl
theorem entry_si_iter:entryFor table "set_iterator.__iter__" = some Builtin.«dict_keyiterator.__iter__» :=
  entryFor_alias (id':="dict_keyiterator.__iter__") (by kernel_rfl) (by first | rfl | decide +kernel | (unfold String.splitOn; simp +decide [String.splitOnAux])) (by decide +kernel) (by kernel_rfl)
theorem entry_set_iter:entryFor table "set.__iter__" = some Builtin.«frozenset.__iter__» :=
  entryFor_alias (id':="frozenset.__iter__") (by kernel_rfl) rfl (by decide +kernel) (by kernel_rfl)
end FS
theorem SIter.typeIs {I d:Addr} {a b c e:Nat} (x:SIter s.heap I d a b c e):s.TypeIs (.ref I) "set_iterator":=let ⟨o,ho,hc,_⟩:=x; ⟨o,ho,hc⟩
theorem SIter.at {h h':Heap} {I d:Addr} {a b c e:Nat} (x:SIter h I d a b c e) (k:∀ o,h.get? I = some o->h'.get? I = some o):SIter h' I d a b c e:=let ⟨o,ho,r⟩:=x; ⟨o,k _ ho,r⟩
theorem SObj.typeIs {d:Addr} {es:Array (Int × Value)} {ep:Nat} {t:SetTable} (x:SObj s.heap d es ep t):s.TypeIs (.ref d) "set":=⟨_,x,rfl⟩
theorem set_next_item {I d:Addr} {es:Array (Int × Value)} {ep:Nat} {t:SetTable} {i:Nat} {Q:Option Value->Shared->Prop} (hit:SIter s.heap I d (slotAt w t i) i es.size ep) (hd:SObj s.heap d es ep t) (hT:TabI t es.size (!w.params.followText "set-order")) (hi:i < es.size)
    (hQ:∀ h' x,(setOrd w d ep es)[i]? = some x->SIter h' I d (slotAt w t (i + 1)) (i + 1) es.size ep->Heap.SameBut I s.heap h'->Q (some x.2) { s with heap:=h' }):wpAny (model prog w) A (pyNext (.ref I)) Q E s:=by
  obtain ⟨o,ho,hc,hdt⟩:=id hit
  have hex:∃ x,(setOrd w d ep es)[i]? = some x:=⟨_,Array.getElem?_eq_getElem (by rw [setOrd_size]; exact hi)⟩
  obtain ⟨x,hx⟩:=hex
  unfold pyNext
  refine wpAny_bind (wpAny_attempt (wpAny_callSpecial?_slot (name:=Str.ofString "__next__") hit.typeIs FS.slot_si_next (wpAny_call_entry FS.slot_si_next hit.typeIs FS.entry_si_next ?_ (FS.args_si_next _))))
  unfold Builtin.«set_iterator.__next__»
  refine wpAny_bind (wpAny_of_eq (a:=(Value.ref I,[])) rfl ?_)
  try dsimp only
  refine wpAny_bind (wpAny_fieldsOf ho hdt ?_)
  dsimp only [rawInt]
  refine wpAny_bind (wpAny_setEntries_of hd rfl hT.fits ?_)
  simp only [bne_self_eq_false,Bool.false_eq_true,↓reduceIte,Int.toNat_natCast]
  refine wpAny_bind (set_next_at hd hT (fun r hr=>?_) (Nat.le_of_lt hi))
  rw [hx] at hr
  subst hr
  dsimp only
  refine wpAny_bind (wpAny_setField ho hdt (by simp) ?_)
  have g1:=Heap.get?_update_self (Obj.mapFields (·.setIfInBounds 0 (Value.int (slotAt w t (i + 1):Int) 0))) ho (Obj.isFreed_of_fields (Obj.data_mapFields hdt _))
  have c1:=(Obj.cls_mapFields (o:=o) (f:=(·.setIfInBounds 0 (Value.int (slotAt w t (i + 1):Int) 0)))).trans hc
  have d1:(Obj.mapFields (·.setIfInBounds 0 (Value.int (slotAt w t (i + 1):Int) 0)) o).data = .fields #[rawInt (slotAt w t (i + 1)),rawInt i,.ref d,rawInt es.size,rawInt ep]:=by rw [Obj.data_mapFields hdt]; simp [rawInt]
  generalize Obj.mapFields (·.setIfInBounds 0 (Value.int (slotAt w t (i + 1):Int) 0)) o = o1 at g1 c1 d1
  refine wpAny_bind (wpAny_setField g1 d1 (by simp) ?_)
  refine wpAny_pure ⟨x.2,rfl,wpAny_pure (hQ _ x hx ?_ ((Heap.SameBut.update ..).trans (Heap.SameBut.update ..)))⟩
  exact ⟨_,Heap.get?_update_self _ g1 (Obj.isFreed_of_fields (Obj.data_mapFields d1 _)),(Obj.cls_mapFields ..).trans c1,by rw [Obj.data_mapFields d1]; simp [rawInt]⟩
theorem set_next_end {I d:Addr} {es:Array (Int × Value)} {ep:Nat} {t:SetTable} {Q:Option Value->Shared->Prop} (hh:A.handled = none) (hit:SIter s.heap I d (slotAt w t es.size) es.size es.size ep) (hd:SObj s.heap d es ep t) (hT:TabI t es.size (!w.params.followText "set-order"))
    (hQ:∀ h',Heap.ExtBut I s.heap h'->Q none { s with heap:=h' }):wpAny (model prog w) A (pyNext (.ref I)) Q E s:=by
  obtain ⟨o,ho,hc,hdt⟩:=id hit
  have hx:(setOrd w d ep es)[es.size]? = none:=Array.getElem?_eq_none (by rw [setOrd_size]; exact Nat.le_refl _)
  unfold pyNext
  refine wpAny_bind (wpAny_attempt (wpAny_callSpecial?_slot (name:=Str.ofString "__next__") hit.typeIs FS.slot_si_next (wpAny_call_entry FS.slot_si_next hit.typeIs FS.entry_si_next ?_ (FS.args_si_next _))))
  unfold Builtin.«set_iterator.__next__»
  refine wpAny_bind (wpAny_of_eq (a:=(Value.ref I,[])) rfl ?_)
  try dsimp only
  refine wpAny_bind (wpAny_fieldsOf ho hdt ?_)
  dsimp only [rawInt]
  refine wpAny_bind (wpAny_setEntries_of hd rfl hT.fits ?_)
  simp only [bne_self_eq_false,Bool.false_eq_true,↓reduceIte,Int.toNat_natCast]
  refine wpAny_bind (set_next_at hd hT (fun r hr=>?_) (Nat.le_refl _))
  rw [hx] at hr
  subst hr
  dsimp only
  refine wpAny_bind (wpAny_setField ho hdt (by simp) ?_)
  refine wpAny_bind ?_
  simp only [newExc,newTuple]
  refine wpAny_bind (wpAny_newObj_type ?_ (by size_fits))
  refine wpAny_bind (m:=firstArgMember _ _) (wpAny_of_eq (a:=Value.none) (by first | rfl | (simp only [firstArgMember]; rfl)) ?_)
  refine wpAny_newObj_type ?_ (by size_fits)
  simp only [raiseNew]
  refine wpAny_bind (wpAny_handled ?_)
  first | rw [show A.in1.handled = none from hh] | rw [hh]
  refine wpAny_bind (wpAny_pure (wpAny_throw ?_))
  refine wpAny_bind (wpAny_isInstance (T:="StopIteration") (b:=true) ⟨_,Heap.get?_push_size _ rfl,rfl⟩ isSubtype_stop ?_)
  exact wpAny_pure (hQ _ (((Heap.SameBut.extBut (Heap.SameBut.update ..)).push _).push _))
theorem set_iter_self {I d:Addr} {a b c e:Nat} {Q:Value->Shared->Prop} (hit:SIter s.heap I d a b c e) (h:Q (.ref I) s):wpAny (model prog w) A (pyIter (.ref I)) Q E s:=by
  refine wpAny_pyIter_slot hit.typeIs FS.slot_si_iter (wpAny_call_entry FS.slot_si_iter hit.typeIs FS.entry_si_iter ?_ (FS.args_si_iter _))
  show wpAny _ _ (ret (.ref I)) _ _ s
  exact wpAny_pure ⟨_,rfl,"set_iterator",_,hit.typeIs,FS.slot_si_next.lookup,h⟩
def sIterObj (d:Addr) (n ep:Nat):Obj:={ cls:=.type "set_iterator",data:=.fields #[rawInt (0:Nat),rawInt (0:Nat),.ref d,rawInt n,rawInt ep] }
theorem set_iter {d:Addr} {es:Array (Int × Value)} {ep:Nat} {t:SetTable} {Q:Value->Shared->Prop} (hd:SObj s.heap d es ep t) (hT:TabI t es.size (!w.params.followText "set-order"))
    (h:Q (.ref s.heap.objs.size) { s with heap:=s.heap.push (sIterObj d es.size ep) }):wpAny (model prog w) A (pyIter (.ref d)) Q E s:=by
  have hf:=hT.fits
  refine wpAny_pyIter_slot hd.typeIs PySem.F.slot_set_iter (wpAny_call_entry PySem.F.slot_set_iter hd.typeIs FS.entry_set_iter ?_ (PySem.F.args_set_iter_1 _))
  unfold Builtin.«frozenset.__iter__»
  refine wpAny_bind (wpAny_of_eq (a:=d) rfl ?_)
  unfold Builtin.Frozenset.sizeOf
  refine wpAny_bind (wpAny_bind (wpAny_setEntries_of hd rfl hf (wpAny_pure ?_)))
  unfold setDrawn
  refine wpAny_bind (wpAny_bind (wpAny_setState_of hd rfl hf ?_))
  dsimp only
  unfold setsByText
  refine wpAny_bind (wpAny_bind (wpAny_askSetting (wpAny_pure ?_)))
  refine wpAny_pure ?_
  have hdr:∀ b:Bool,(b && (!t.plain && decide (es.size > 1))) = false:=fun b=>by rw [hT.pl]; simp
  show wpAny _ _ (if (!w.params.followText "set-order" && (!t.plain && decide (es.size > 1))) = true then _ else _) _ _ _
  rw [hdr]
  simp only [Bool.false_eq_true,↓reduceIte]
  refine wpAny_bind (wpAny_pure ?_)
  refine wpAny_bind (wpAny_setEpoch_of hd rfl hf ?_)
  simp only [newFields]
  refine wpAny_bind (wpAny_newObj_type ?_)
  refine wpAny_pure ⟨_,rfl,"set_iterator",_,⟨_,Heap.get?_push_size _ rfl,rfl⟩,FS.slot_si_next.lookup,?_⟩
  exact h
theorem set_hint {r:Addr} {Q:Bool->Shared->Prop} (hT:s.TypeIs (.ref r) "set") (h:Q false s):wpAny (model prog w) A (Builtin.List.listLengthHint (.ref r)) Q E s:=by
  unfold Builtin.List.listLengthHint
  refine wpAny_bind (wpAny_specialOf hT PySem.F.slot_set_len.lookup ?_)
  generalize hid:("set.__len__":String) = id0
  wp_delta
  rw [show splitId id0 = some ("set","__len__") from by subst hid; decide +kernel]
  subst hid
  refine wpAny_bind (wpAny_isInstance (T:="set") (b:=true) hT (by rw [isSubtype_type]; kernel_rfl) ?_)
  refine wpAny_ite_split (fun hab=>absurd hab (by decide)) (fun _=>?_)
  refine wpAny_ite_split (fun _=>?_) (fun hab=>absurd (by decide +kernel) hab)
  refine wpAny_bind (wpAny_typeOf hT ?_)
  exact wpAny_pure h
theorem set_walks (hh:A.handled = none) (I d:Addr) (hne:d ≠ I) {es:Array (Int × Value)} {ep:Nat} {t:SetTable} (hT:TabI t es.size (!w.params.followText "set-order")) :
    Walks prog w A I [I,d] [I] es.size (fun i v=>∃ e,(setOrd w d ep es)[i]? = some e /\ v = e.2) (fun i h=>SIter h I d (slotAt w t i) i es.size ep /\ SObj h d es ep t) where
  sub:=fun b hb=>by simp at hb; simp [hb]
  frame:=fun _ _ _ st hk=>⟨st.1.at fun o e=>hk I (by simp) o e,hk d (by simp) _ st.2⟩
  item:=fun i s Q E hi st hQ=>set_next_item st.1 st.2 hT hi fun h' x hx st' sb=>hQ _ h' s.toks ⟨x,hx,rfl⟩ ⟨st',(sb.2 d hne).trans st.2⟩ fun b o hb eo=>sb.extBut b o (fun h=>hb (by simp [h])) eo
  done:=fun s Q E st hQ=>set_next_end hh st.1 st.2 hT fun h' he=>hQ h' s.toks fun b o hb eo=>he b o (fun h=>hb (by simp [h])) eo
  self:=fun _ _ _ _ st h=>set_iter_self st.1 h
theorem slotAt_zero (w:World) (t:SetTable):slotAt w t 0 = 0:=by unfold slotAt; split <;> rfl
theorem set_src {d:Addr} {es:Array (Int × Value)} {ep:Nat} {t:SetTable} (hT:TabI t es.size (!w.params.followText "set-order")):PySem.W.KdlSrc prog w "set" d d es.size (fun i v=>∃ e,(setOrd w d ep es)[i]? = some e /\ v = e.2) (fun h=>SObj h d es ep t) where
  type:=fun _ hm=>hm.typeIs
  there:=fun _ hm=>⟨Heap.lt_size hm,Heap.lt_size hm⟩
  keep:=fun _ _ hm hk=>hk d (.inl rfl) _ hm
  notList:=by decide
  notTuple:=by decide
  hint:=fun _ _ _ _ hm hq=>set_hint hm.typeIs hq
  iter:=fun A s hh hm=>⟨sIterObj d es.size ep,_,(fun _ _ hq=>set_iter hm hT hq),set_walks hh _ d (Nat.ne_of_lt (Heap.lt_size hm)) hT,⟨⟨_,Heap.get?_push_size _ rfl,rfl,by rw [slotAt_zero]; rfl⟩,Heap.get?_push_of_some _ hm⟩⟩
end
section
variable {X:Cx}
theorem vals_at:∀ {us:List Value} {ns:List Int},us.length = ns.length->(∀ (j:Nat) v,us[j]? = some v->∃ n t,ns[j]? = some n /\ v = Value.int n t)->Vals (ns.map V.int) us
  | [],[],_,_=>.nil
  | [],_ :: _,h,_=>by simp at h
  | _ :: _,[],h,_=>by simp at h
  | u :: us,n :: ns,h,key=>by
    obtain ⟨m,t,e1,e2⟩:=key 0 u rfl
    have e1:n = m:=by simpa using e1
    subst e1
    exact .cons ⟨t,e2⟩ (vals_at (by simpa using h) fun j v e=>by
      obtain ⟨m,t,a1,a2⟩:=key (j + 1) v (by simpa using e)
      exact ⟨m,t,by simpa using a1,a2⟩)
theorem sorted_set (hc:X.calm = true) {pins:List (Addr × Obj)} {σ:St} {H:Hp} {s:Shared} {d:Addr} {fm:List Int} {Q:VK} (I:Inv X pins σ H s) (hS:ISet X.prog X.w s.heap d fm (!X.w.params.followText "set-order"))
    (q:∀ (l:Addr) (ns':List Int),H l = none->ns'.Perm fm->ns'.Pairwise (· ≤ ·)->Q (.ref l) (upd H l (.lst (ns'.map V.int)))):wpAny (model X.prog X.w) X.A (call (.builtin "sorted") [.ref d]) (EP X pins σ Q) X.xe s:=by
  obtain ⟨es,ep,t,ho,hel,hpm,hT,hsz⟩:=hS
  have ho:SObj s.heap d es ep t:=ho
  obtain ⟨ns,hns⟩:∃ ns,ns = keysI (setOrd X.w d ep es):=⟨_,rfl⟩
  have hpn:ns.Perm fm:=by rw [hns]; exact ((setOrd_perm X.w d ep es).map _).trans hpm
  have hnl:ns.length = es.size:=by rw [hns,keys_len,setOrd_size]
  have h64:ns.length < 64:=by omega
  refine Calls.call_function_entry kind_sorted plain_sorted entry_sorted (args_sorted1 _) ?_
  unfold Builtin.«sorted»
  refine wpAny_bind (m:=checkCount "sorted" 1 1 _) (wpAny_pure ?_)
  refine wpAny_bind (PySem.W.kdu_collect (A:=X.A.in1) (set_src (prog:=X.prog) (w:=X.w) (d:=d) (ep:=ep) hT) (I.ok.hd hc) ho (Nat.le_of_lt (small1000 (by omega))) fun h' tk acc keep hacc=>?_)
  have hI:IntsAre acc.toList ns:=by
    refine intsAre_of (vals_at (by rw [Array.length_toList,hacc.1,hnl]) fun j v e=>?_)
    obtain ⟨x,h1,h2⟩:=hacc.2 j v (by rw [← Array.getElem?_toList]; exact e)
    have hx:x ∈ (setOrd X.w d ep es).toList:=by rw [← Array.getElem?_toList] at h1; exact List.mem_of_getElem? h1
    obtain ⟨⟨k,hk,_⟩,_⟩:=hel x ((setOrd_perm X.w d ep es).mem_iff.mp hx)
    obtain ⟨t',et⟩:=Value.isInt_shape (show Value.isInt k x.2 = true from hk)
    refine ⟨k,t',?_,by rw [h2,et]⟩
    rw [hns]
    unfold keysI
    rw [List.getElem?_map,Array.getElem?_toList,h1]
    show some (keyI x.2) = some k
    rw [et]; rfl
  have hal:acc.toList.length < 64:=by rw [ints_len hI]; exact h64
  refine wpAny_bind (wpAny_newList ?_ (Nat.le_of_lt (small1000 (by omega))))
  have hoL:(h'.push (seqObj "list" acc.toList.toArray 0)).get? h'.objs.size = some (seqObj "list" acc.toList.toArray 0):=Heap.get?_push_size _ rfl
  refine wpAny_bind (wpAny_holding (wpAny_call_entry slot_list_sort ⟨_,hoL,rfl⟩ entry_list_sort (list_sort_tree hoL hI hal fun out ns' b1 b2 b3=>⟨_,rfl,?_⟩) (args_list_sort _)))
  refine wpAny_pure ⟨_,rfl,?_⟩
  obtain ⟨e,hat2⟩:=sortedHeap_at (out:=out) hoL
  have hno:s.heap.get? h'.objs.size = none:=by
    cases z:s.heap.get? h'.objs.size with
    | none=>rfl
    | some o=>exact absurd (Heap.lt_size (keep _ _ z)) (Nat.lt_irrefl _)
  have hlen:ns'.length ≤ sizeLine:=by rw [b2.length_eq]; exact Nat.le_of_lt (small1000 (by omega))
  have keep2:∀ b o,s.heap.get? b = some o->(sortedHeap (h'.push (seqObj "list" acc.toList.toArray 0)) h'.objs.size acc.toList out).get? b = some o:=fun b o z=>by
    have hb:=keep b o z
    have hlt:=Heap.lt_size hb
    rw [sortedHeap_old (Nat.ne_of_lt hlt) (by rw [size_push']; exact Nat.lt_succ_of_lt hlt)]
    exact Heap.get?_push_of_some _ hb
  obtain ⟨H',I',_⟩:=I.laidAt (t':=tk) (vs:=ns'.map V.int) hno keep2 ⟨by rw [List.length_map]; exact hlen,out.toList,e,vals_of b1,by simpa using hat2⟩
  exact ⟨.ref h'.objs.size,_,I',rfl,q _ ns' H' (b2.trans hpn) b3⟩
theorem dedup_mem (val:Nat->Int) (i:Nat) (k:Int):k ∈ firstMet val i ↔ ∃ j,j < i /\ val j = k:=by
  have h:=firstMet_any val i k
  rw [Bool.eq_iff_iff,List.any_eq_true,List.any_eq_true] at h
  constructor
  · intro hk
    obtain ⟨y,hy,e⟩:=h.mp ⟨k,hk,by simp⟩
    obtain ⟨j,hj,ej⟩:=List.mem_map.mp hy
    exact ⟨j,List.mem_range.mp hj,by rw [ej]; simpa using e⟩
  · rintro ⟨j,hj,e⟩
    obtain ⟨y,hy,e2⟩:=h.mpr ⟨val j,List.mem_map.mpr ⟨j,List.mem_range.mpr hj,rfl⟩,by simp [e]⟩
    have:y = k:=by simpa using e2
    exact this ▸ hy
theorem dedup_nodup (val:Nat->Int):∀ i,(firstMet val i).Nodup
  | 0=>.nil
  | i + 1=>by
    rw [firstMet_succ]
    unfold step_dedup
    have ih:=dedup_nodup val i
    split
    · exact ih
    · rename_i hn
      rw [List.nodup_append]
      refine ⟨ih,by simp,fun a ha b hb=>?_⟩
      have:b = val i:=by simpa using hb
      subst this
      intro e
      exact hn (List.any_eq_true.mpr ⟨a,ha,by simp [e]⟩)
def dd (ns:List Int):List Int:=firstMet (fun i=>ns.getD i 0) ns.length
theorem dd_mem {ns:List Int} {k:Int}:k ∈ dd ns ↔ k ∈ ns:=by
  unfold dd
  rw [dedup_mem]
  constructor
  · rintro ⟨j,hj,e⟩
    rw [List.getD_eq_getElem?_getD,List.getElem?_eq_getElem hj] at e
    have e:ns[j] = k:=e
    exact e ▸ List.getElem_mem hj
  · intro hk
    obtain ⟨j,hj,e⟩:=List.getElem_of_mem hk
    exact ⟨j,hj,by rw [List.getD_eq_getElem?_getD,List.getElem?_eq_getElem hj,e]; rfl⟩
theorem dd_lt {ns' ns:List Int} (hp:ns'.Perm (dd ns)) (hs:ns'.Pairwise (· ≤ ·)):ns'.Pairwise (· < ·) /\ ∀ k,k ∈ ns' ↔ k ∈ ns:=by
  refine ⟨?_,fun k=>hp.mem_iff.trans dd_mem⟩
  have hnd:ns'.Nodup:=hp.nodup_iff.mpr (dedup_nodup _ _)
  have:=hs.and hnd
  exact this.imp fun {a b} h=>by have:=h.1; have:=h.2; omega
def tSSet (K:PySem.W.Frag) (te:TE):TE:=fun σ H Q=>te σ H fun v H1=>∃ (l:Addr) (ns:List Int),v = .ref l /\ SqL K H1 l (ns.map V.int) /\ (dd ns).length ≤ 63 ∧
  ∀ (r:Addr) (ns':List Int),H1 r = none->ns'.Pairwise (· < ·)->(∀ k,k ∈ ns' ↔ k ∈ ns)->Q (.ref r) (upd H1 r (.lst (ns'.map V.int)))
theorem pe_sset {e:Expr} {te:TE} {p1 p2 pos1 pos2:Pos} (hc:X.calm = true) (hg1:Gl X "sorted") (hm1:X.mg "sorted" = none) (hg2:Gl X "set") (hm2:X.mg "set" = none) (he:PE X e te)
    (hs1:starEach [Expr.Call (.Name "set" p2) [e] [] pos2] X.env = [(false,eval (Expr.Call (.Name "set" p2) [e] [] pos2) X.env)]:=by rfl) (hs2:starEach [e] X.env = [(false,eval e X.env)]:=by rfl) :
    PE X (.Call (.Name "sorted" p1) [.Call (.Name "set" p2) [e] [] pos2] [] pos1) (tSSet X.K te):=by
  intro pins s σ H Q I h
  refine wpAny_Call_Name_kw (ld_blt I hg1 hm1 boot_sorted ?_)
  refine PyProof.Rows.callWith_builtin1 ?_ hs1 rfl
  rw [hs1]
  show wpAny _ _ (spliced ((false,eval (Expr.Call (.Name "set" p2) [e] [] pos2) X.env) :: backTo pos1 [])) _ _ s
  refine Calls.spliced_cons ?_
  refine wpAny_Call_Name_kw (ld_blt I hg2 hm2 boot_set ?_)
  refine PyProof.Rows.callWith_type1 ?_ hs2 rfl
  rw [hs2]
  show wpAny _ _ (spliced ((false,eval e X.env) :: backTo pos2 [])) _ _ s
  refine Calls.spliced_cons (thn (he pins s σ H _ I h) fun u s1 ⟨x,H1,I1,r1,q1⟩=>?_)
  obtain ⟨l,ns,rfl,hl,h63,q⟩:=q1
  cases r1
  refine Calls.spliced_nil ?_
  obtain ⟨its,rv,p,hz⟩:=I1.list hl
  have hI:=intsAre_of rv
  have hlen:its.length = ns.length:=by have:=rv.length; simpa using this.symm
  refine iset_call (I1.ok.hd hc) p.isList (by simpa using hI) (by rw [List.size_toArray,hlen]; exact h63) fun h' tk hS keep=>?_
  refine Calls.spliced_nil ?_
  have I2:Inv X pins σ H1 { s1 with heap:=h',toks:=tk }:=I1.kept fun b o e=>keep b o (Heap.lt_size e) e
  rw [show its.toArray.size = ns.length by rw [List.size_toArray,hlen]] at hS
  exact sorted_set hc I2 hS fun r ns' hr hp hso=>q r ns' hr (dd_lt hp hso).1 (dd_lt hp hso).2
end
open PySem PySem.Spec PyProof.Rows
theorem rise_ext:∀ {l m:List Int},l.Pairwise (· < ·)->m.Pairwise (· < ·)->(∀ a,a ∈ l ↔ a ∈ m)->l = m
  | [],[],_,_,_=>rfl
  | [],b :: m,_,_,h=>absurd ((h b).mpr (by simp)) (by simp)
  | a :: l,[],_,_,h=>absurd ((h a).mp (by simp)) (by simp)
  | a :: l,b :: m,hl,hm,h=>by
    rw [List.pairwise_cons] at hl hm
    have e:a = b:=by
      rcases List.mem_cons.mp ((h a).mp (by simp)) with e | h1
      · exact e
      · rcases List.mem_cons.mp ((h b).mpr (by simp)) with e | h2
        · exact e.symm
        · have:=hm.1 a h1; have:=hl.1 b h2; omega
    subst e
    rw [rise_ext hl.2 hm.2 fun c=>⟨fun hc=>?_,fun hc=>?_⟩]
    · rcases List.mem_cons.mp ((h c).mp (by simp [hc])) with e | h1
      · subst e; have:=hl.1 c hc; omega
      · exact h1
    · rcases List.mem_cons.mp ((h c).mpr (by simp [hc])) with e | h1
      · subst e; have:=hm.1 c hc; omega
      · exact h1
open PySem PySem.Spec PyProof.Rows
abbrev LiesG:=Int->Option (Int × Int × Bool)
def okG (gd g:Bool):Prop:=g = true ∨ gd = false
instance (gd g:Bool):Decidable (okG gd g):=inferInstanceAs (Decidable (_ ∨ _))
open PySem PySem.Spec PyProof.Rows
structure PDue where
  wh:Bool
  b:Nat
  d:Nat
  rows:List (Nat × Nat)
  bits:Nat
open PySem PySem.Spec PyProof.Rows
structure PcU where
  wh:Bool
  b:Nat
  d:Nat
  rows:List (Nat × Nat)
  c:Int
open PySem PySem.Spec PyProof.Rows
theorem argBest_max {f:Nat->Int}:∀ k i,i ≤ k->f i ≤ f (argBest (fun i j=>decide (f i > f j)) k)
  | 0,i,h=>by rw [show i = 0 by omega]; exact Int.le_refl _
  | k + 1,i,h=>by
    have e:argBest (fun i j=>decide (f i > f j)) (k + 1) = if decide (f (k + 1) > f (argBest (fun i j=>decide (f i > f j)) k)) then k + 1 else argBest (fun i j=>decide (f i > f j)) k:=rfl
    rw [e]
    by_cases hg:f (k + 1) > f (argBest (fun i j=>decide (f i > f j)) k)
    · rw [if_pos (decide_eq_true hg)]
      by_cases hi:i = k + 1
      · rw [hi]; exact Int.le_refl _
      · have:=argBest_max (f:=f) k i (by omega); omega
    · rw [if_neg (by simpa using hg)]
      by_cases hi:i = k + 1
      · rw [hi]; omega
      · exact argBest_max k i (by omega)
theorem argBest_le {bt:Nat->Nat->Bool}:∀ k,argBest bt k ≤ k
  | 0=>Nat.le_refl _
  | k + 1=>by
    have e:argBest bt (k + 1) = if bt (k + 1) (argBest bt k) then k + 1 else argBest bt k:=rfl
    rw [e]
    have:=argBest_le (bt:=bt) k
    split <;> omega
open PySem PySem.Spec PyProof.Rows Builtin Builtin.Str
theorem str_ext {x y:PySem.Str} (h:x.cps.toList = y.cps.toList):x = y:=by
  obtain ⟨⟨x⟩⟩:=x
  obtain ⟨⟨y⟩⟩:=y
  rw [show x = y from h]
theorem vals_strs:∀ (tk:Nat) (xs:List PySem.Str),Vals (xs.map V.str) (strsFrom tk xs)
  | _,[]=>.nil
  | tk,x :: r=>.cons ⟨tk,rfl⟩ (vals_strs (tk + 1) r)
theorem strs_vals:∀ {us:List Value} {xs:List PySem.Str},Vals (xs.map V.str) us->StrsAre us xs
  | _,[],.nil=>.nil
  | _,x :: r,.cons ⟨t,e⟩ h=>by cases e; exact .cons x t (strs_vals h)
section
variable {X:Cx}
theorem mt_split:MtR X "str.split" (fun x xs H Q=>∃ z y:PySem.Str,x = .str z /\ xs = [.str y] /\ (y.length == 0) = false /\ z.length ≤ 100000 /\ ∀ p,H p = none->Q (.ref p) (upd H p (.lst ((Txt.split z y).map V.str)))):=by
  rintro pins s σ H x xs v us Q I rx r ⟨z,y,rfl,rfl,hy,hz,q⟩
  obtain ⟨t,rfl⟩:=(show ∃ t,v = Value.str z t from rx)
  obtain ⟨u,rfl,ru⟩:=Vals.one r
  obtain ⟨t2,rfl⟩:=(show ∃ t,u = Value.str y t from ru)
  have hzl:z.length ≤ sizeLine:=Nat.le_trans hz (by decide)
  have hn:(partsBetween z (occurrences z y 0 z.length (z.length + 1)) y.length).length ≤ sizeLine:=by
    rw [length_partsBetween]
    have:=StrLaws.occ_length_le_len z y 0 z.length (z.length + 1)
    exact Nat.le_trans (show _ ≤ 100002 by omega) (by decide)
  have fin:∀ (ys:List PySem.Str) (k:Nat) (us:List Value),ys = Txt.split z y->ys.length ≤ sizeLine->Vals (ys.map V.str) us->EP X pins σ Q (.ref s.heap.objs.size) { s with heap:=s.heap.push { cls:=.type "list",data:=.seq us.toArray },toks:=k }:=fun ys k us e hl hv =>
    ⟨.ref s.heap.objs.size,_,I.laid (t':=k) (o:=.lst (ys.map V.str)) (fun b ob q=>Heap.get?_push_of_some _ q) (Nat.le_refl _) ⟨by rw [List.length_map]; exact hl,_,0,hv,Heap.get?_push_size _ rfl⟩,rfl,e ▸ q _ (I.hok.fresh (Nat.le_refl _))⟩
  cases h1:(decide (z.length < y.length) || decide (strKind z < strKind y))
  · cases hf:(occurrences z y 0 z.length (z.length + 1)).isEmpty
    · refine call_meets F.slot_str_split (typeIs_str _ _ _) F.entry_str_split (F.args_str_split_2 _ _) (meets_str_split_sep z y t t2 h1 hy hf hzl hn) ?_
      exact fin _ _ _ ((if_neg (ne_true_of_eq_false h1)).trans (if_neg (ne_true_of_eq_false hf))).symm hn (vals_strs _ _)
    · refine call_meets F.slot_str_split (typeIs_str _ _ _) F.entry_str_split (F.args_str_split_2 _ _) (meets_str_split_not_found z y t t2 h1 hy hf) ?_
      exact fin [z] _ _ ((if_neg (ne_true_of_eq_false h1)).trans (if_pos hf)).symm (by show 1 ≤ sizeLine; decide) (.cons ⟨t,rfl⟩ .nil)
  · refine call_meets F.slot_str_split (typeIs_str _ _ _) F.entry_str_split (F.args_str_split_2 _ _) (meets_str_split_cannot_occur z y t t2 h1) ?_
    exact fin [z] _ _ (if_pos h1).symm (by show 1 ≤ sizeLine; decide) (.cons ⟨t,rfl⟩ .nil)
theorem mt_join:MtR X "str.join" (fun x xs H Q=>∃ (z:PySem.Str) (p:Addr) (ys:List PySem.Str),x = .str z /\ xs = [.ref p] /\ SqL X.K H p (ys.map V.str) /\ (ys.map (·.length)).sum + ys.length * z.length ≤ 16777216 /\ Q (.str (Str.join z ys)) H):=by
  rintro pins s σ H x xs v us Q I rx r ⟨z,p,ys,rfl,rfl,hS,hok,q⟩
  obtain ⟨t,rfl⟩:=(show ∃ t,v = Value.str z t from rx)
  obtain ⟨u,rfl,ru⟩:=Vals.one r
  cases ru
  obtain ⟨its,rv,pl,_⟩:=I.list hS
  refine join_list pl.isList (by simpa using strs_vals rv) hok fun t' k=>⟨.str _,H,I.tok k,⟨t',rfl⟩,?_⟩
  rw [show Txt.join z ys = Str.join z ys from StrLaws.glued_eq_join z ys]
  exact q
end
theorem take_free {c:Nat}:∀ {p q r t:List Nat},c ∉ p->c ∉ q->p ++ c :: r = q ++ c :: t->p = q /\ r = t
  | [],[],_,_,_,_,h=>⟨rfl,by simpa using h⟩
  | [],y :: q,_,_,_,hq,h=>by simp at h hq; exact absurd h.1 hq.1
  | x :: p,[],_,_,hp,_,h=>by simp at h hp; exact absurd h.1.symm hp.1
  | x :: p,y :: q,_,_,hp,hq,h=>by
    simp at h hp hq
    obtain ⟨e1,e2⟩:=take_free (p:=p) (q:=q) hp.2 hq.2 h.2
    exact ⟨by rw [h.1,e1],e2⟩
theorem take_free1 {c:Nat} {p q r:List Nat} (hp:c ∉ p) (h:p = q ++ c :: r):False:=hp (by rw [h]; simp)
theorem join_cons {z x y:PySem.Str} {r:List PySem.Str}:(Str.join z (x :: y :: r)) = x ++ z ++ Str.join z (y :: r):=rfl
theorem cat3 {x y:PySem.Str} {c:Nat}:(x ++ (⟨#[c]⟩:PySem.Str) ++ y).cps.toList = x.cps.toList ++ c :: y.cps.toList:=by
  show (x.cps ++ #[c] ++ y.cps).toList = _
  simp
theorem join_inj {c:Nat}:∀ {ps ws:List PySem.Str},ps ≠ []->ws ≠ []->(∀ p ∈ ps,c ∉ p.cps.toList)->(∀ p ∈ ws,c ∉ p.cps.toList)->Str.join ⟨#[c]⟩ ps = Str.join ⟨#[c]⟩ ws->ps = ws
  | [p],[w],_,_,_,_,h=>by
    have:p = w:=h
    rw [this]
  | [p],w :: w' :: ws,_,_,hp,_,h=>by
    rw [join_cons] at h
    have h:p = _:=h
    exfalso
    have hp:=hp p (by simp)
    have h:=congrArg (fun z:PySem.Str=>z.cps.toList) h
    rw [cat3] at h
    exact take_free1 hp h
  | p :: p' :: ps,[w],_,_,_,hw,h=>by
    rw [join_cons] at h
    have h:_ = w:=h
    exfalso
    have hw:=hw w (by simp)
    have h:=congrArg (fun z:PySem.Str=>z.cps.toList) h
    rw [cat3] at h
    exact take_free1 hw h.symm
  | p :: p' :: ps,w :: w' :: ws,_,_,hp,hw,h=>by
    rw [join_cons,join_cons] at h
    have h:=congrArg (fun z:PySem.Str=>z.cps.toList) h
    rw [cat3,cat3] at h
    obtain ⟨e1,e2⟩:=take_free (hp p (by simp)) (hw w (by simp)) h
    have e1:p = w:=str_ext e1
    rw [e1,join_inj (c:=c) (by simp) (by simp) (fun p h=>hp p (List.mem_cons_of_mem _ h)) (fun p h=>hw p (List.mem_cons_of_mem _ h)) (str_ext e2)]
theorem split_join {c:Nat} {ws:List PySem.Str} (h0:ws ≠ []) (h:∀ p ∈ ws,c ∉ p.cps.toList):Txt.split (Str.join ⟨#[c]⟩ ws) ⟨#[c]⟩ = ws:=by
  refine join_inj ?_ h0 (fun p hp=>StrLaws.split_free _ c p hp) h (StrLaws.join_split _ _)
  intro e
  have:=split_pos (Str.join ⟨#[c]⟩ ws) ⟨#[c]⟩
  rw [e] at this
  simp at this
open PySem PySem.Spec PyProof.Rows
def numT (n:Int):PySem.Str:=Str.ofString (toString n)
theorem digits_len (m:Nat):1 ≤ (Nat.toDigits 10 m).length:=by
  by_cases h:m < 10
  · rw [Nat.toDigits_of_lt_base h]; simp
  · have hm:m % 10 < 10:=Nat.mod_lt m (by decide)
    have t:Nat.toDigits 10 (m / 10) ++ Nat.toDigits 10 (m % 10) = Nat.toDigits 10 (10 * (m / 10) + m % 10):=Nat.toDigits_append_toDigits (by decide) (by omega) hm
    rw [Nat.div_add_mod] at t
    rw [← t,List.length_append,Nat.toDigits_of_lt_base hm]
    simp
theorem digits_pos (m:Nat):Nat.toDigits 10 m ≠ []:=by
  intro e
  have:=digits_len m
  rw [e] at this
  exact absurd this (by decide)
theorem head_ne (m:Nat) (h0:0 < m):∀ ch,(Nat.toDigits 10 m)[0]? = some ch->ch.toNat ≠ 48:=by
  induction m using Nat.strongRecOn with
  | _ m ih =>
    by_cases h:m < 10
    · rw [Nat.toDigits_of_lt_base h]
      intro ch e
      have e:Nat.digitChar m = ch:=by simpa using e
      subst e
      have:∀ m:Nat,m < 10->0 < m->(Nat.digitChar m).toNat ≠ 48:=by decide
      exact this m h h0
    · have hm:m % 10 < 10:=Nat.mod_lt m (by decide)
      have t:Nat.toDigits 10 (m / 10) ++ Nat.toDigits 10 (m % 10) = Nat.toDigits 10 (10 * (m / 10) + m % 10):=Nat.toDigits_append_toDigits (by decide) (by omega) hm
      rw [Nat.div_add_mod] at t
      intro ch e
      rw [← t,List.getElem?_append_left (Nat.pos_of_ne_zero fun e=>digits_pos (m / 10) (List.length_eq_zero_iff.mp e))] at e
      exact ih (m / 10) (by omega) (by omega) ch e
theorem numT_digit {n:Int} (h0:0 ≤ n):∀ c ∈ (numT n).cps.toList,48 ≤ c /\ c ≤ 57:=by
  obtain ⟨m,rfl⟩:=Int.eq_ofNat_of_zero_le h0
  intro c hc
  unfold numT at hc
  rw [PySem.W.KIN.signs_num] at hc
  obtain ⟨ch,hch,e⟩:=List.mem_map.mp hc
  have r:=digit_range (Nat.isDigit_of_mem_toDigits (by decide) (by decide) hch)
  rw [← e]
  exact r
theorem figB_of {c:Nat} (h:48 ≤ c /\ c ≤ 57):figB c = true:=by
  unfold figB
  rw [PySem.StrLaws.found_one]
  have e:FIGS.cps.toList = [48,49,50,51,52,53,54,55,56,57]:=by decide +kernel
  rw [e]
  apply decide_eq_true
  simp
  omega
theorem numT_len {n:Int} (h0:0 ≤ n) (h:n < 10 ^ 20):(numT n).length ≤ 20:=toString_length_le h0 (by decide) h
theorem numT_pos {n:Int} (h0:0 ≤ n):1 ≤ (numT n).length:=by
  obtain ⟨m,rfl⟩:=Int.eq_ofNat_of_zero_le h0
  rw [← str_len]
  unfold numT
  rw [PySem.W.KIN.signs_num,List.length_map]
  exact Nat.pos_of_ne_zero fun e=>digits_pos m (List.length_eq_zero_iff.mp e)
theorem numT_num {n:Int} (h0:0 ≤ n):isNum (numT n) = true:=List.all_eq_true.mpr fun c hc=>figB_of (numT_digit h0 c hc)
theorem numT_int {n:Int} (h0:0 ≤ n) (h:n < 10 ^ 20):intText? (numT n) = some n:=by
  have e:=intText_digits (x:=numT n) (numT_digit h0) (by intro e; have:=numT_pos h0; rw [← str_len,e] at this; exact absurd this (by decide)) (Nat.le_trans (numT_len h0 h) (by decide))
  obtain ⟨m,rfl⟩:=Int.eq_ofNat_of_zero_le h0
  unfold numT at e ⊢
  rw [PySem.W.KIN.signs_num,PySem.W.KIN.val_back] at e
  exact e
theorem numT_ok {n:Int} (h0:0 ≤ n) (h:n < 10 ^ 20):okW (numT n) = true:=by
  rw [okW_all (numT_pos h0) (numT_len h0 h) ?_]
  · exact numT_num h0
  · obtain ⟨m,rfl⟩:=Int.eq_ofNat_of_zero_le h0
    by_cases hm:m = 0
    · subst hm; left; decide +kernel
    · right
      unfold numT
      rw [PySem.W.KIN.signs_num,List.getElem?_map]
      intro e
      obtain ⟨ch,h1,h2⟩:=Option.map_eq_some_iff.mp e
      exact head_ne m (by omega) ch h1 h2
theorem numT_free {n:Int} (h0:0 ≤ n) {c:Nat} (hc:c < 48 ∨ 57 < c):c ∉ (numT n).cps.toList:=fun h=>by have:=numT_digit h0 c h; omega
def goodC (c:Int × Int):Prop:=(0 ≤ c.1 /\ c.1 < 10 ^ 20) /\ 0 ≤ c.2 /\ c.2 < 10 ^ 20
def wordOf (c:Int × Int):PySem.Str:=numT c.1 ++ (⟨#[61]⟩:PySem.Str) ++ numT c.2
theorem wordOf_split {c:Int × Int} (h:goodC c):Txt.split (wordOf c) ⟨#[61]⟩ = [numT c.1,numT c.2] :=
  split_join (c:=61) (ws:=[numT c.1,numT c.2]) (by simp) (fun p hp=>by
    simp only [List.mem_cons,List.not_mem_nil,or_false] at hp
    rcases hp with rfl | rfl
    · exact numT_free h.1.1 (by decide)
    · exact numT_free h.2.1 (by decide))
theorem wordOf_len {c:Int × Int} (h:goodC c):(wordOf c).length ≤ 41:=by
  unfold wordOf
  rw [str_add_len,str_add_len]
  have h1:=numT_len h.1.1 h.1.2
  have h2:=numT_len h.2.1 h.2.2
  have:(⟨#[61]⟩:PySem.Str).length = 1:=rfl
  omega
theorem wordOf_free {c:Int × Int} (h:goodC c):32 ∉ (wordOf c).cps.toList:=by
  unfold wordOf
  rw [cat3]
  intro hm
  rcases List.mem_append.mp hm with h' | h'
  · exact numT_free h.1.1 (.inl (by decide)) h'
  · rcases List.mem_cons.mp h' with h' | h'
    · exact absurd h' (by decide)
    · exact numT_free h.2.1 (.inl (by decide)) h'
open PySem PySem.Spec PyProof.Rows
theorem eqSg:Str.ofString "=" = (⟨#[61]⟩:PySem.Str):=by decide +kernel
theorem spS:Str.ofString " " = (⟨#[32]⟩:PySem.Str):=by decide +kernel
theorem wordS (c:Int × Int):Str.ofString (toString c.1) ++ Str.ofString "=" ++ Str.ofString (toString c.2) = wordOf c:=by unfold wordOf numT; rw [eqSg]
theorem wordSplitS {c:Int × Int} (h:goodC c):Txt.split (wordOf c) (Str.ofString "=") = [numT c.1,numT c.2]:=by rw [eqSg]; exact wordOf_split h
theorem log20 {n:Int} (h0:0 ≤ n) (h:n < 10 ^ 20):n.natAbs.log2 < 1920:=by
  by_cases hz:n.natAbs = 0
  · rw [hz]; decide
  · exact (Nat.log2_lt hz).mpr (Nat.lt_of_lt_of_le (show n.natAbs < 10 ^ 20 by omega) (by decide +kernel))
open PySem PySem.Spec PyProof.Rows Builtin Builtin.Str
section
variable {X:Cx}
theorem op_rep_strN:OpR X (binaryOp .Mult) (fun x y H Q=>∃ z i,x = .str z /\ y = .int i /\ -1000 ≤ i /\ i ≤ 1000 /\ z.length ≤ 1000 /\ Q (.str (Txt.mul z i)) H):=by
  rintro pins s σ H x y v u Q I rx ry ⟨z,i,rfl,rfl,h0,h1,hz,q⟩
  obtain ⟨t,rfl⟩:=(show ∃ t,v = Value.str z t from rx)
  obtain ⟨t',rfl⟩:=(show ∃ t,u = Value.int i t from ry)
  refine SB.mul ⟨?_,fun h2 _=>?_,fun h2 _=>?_⟩ fun t' k=>⟨.str _,H,I.tok k,⟨t',rfl⟩,q⟩
  · rw [decide_eq_false (by omega),decide_eq_false (by omega)]; rfl
  · have:(1000:Int) ≤ (2 ^ 63 - 1) / i:=by
      refine Int.le_ediv_of_mul_le (by omega) ?_
      have:(1000:Int) * i ≤ 1000 * 1000:=Int.mul_le_mul_of_nonneg_left h1 (by decide)
      omega
    omega
  · unfold Builtin.Str.tooLong
    have:z.length * i.toNat ≤ 1000 * 1000:=Nat.mul_le_mul hz (by omega)
    simp; exact Nat.le_trans this (by decide)
end
abbrev sZ:PySem.Str:=PySem.Str.ofString "0"
theorem cps_app (x y:PySem.Str):(x ++ y).cps.toList = x.cps.toList ++ y.cps.toList:=by
  show (x.cps ++ y.cps).toList = _; simp
theorem len_cps (x:PySem.Str):x.cps.toList.length = x.length:=by simp [Str.length]
theorem fold_rep (a:Array Nat) (k:Nat) (x:Nat):((List.replicate k (#[x]:Array Nat)).foldl (· ++ ·) a).toList = a.toList ++ List.replicate k x:=by
  induction k generalizing a with
  | zero=>simp
  | succ k ih =>
    rw [List.replicate_succ,List.foldl_cons,ih]
    simp [List.replicate_succ]
open PySem PySem.Spec PyProof.Rows
def GD (P:Program) (w:World) (K:PySem.W.Frag) (a:Addr) (kvs:List (Key × V)):Prop:=(a == sysModules) = false /\ ∀ h:Heap,K.In h->∃ vs,KV kvs vs /\ h.DictOf (mixKind P w) a vs
def tGNotIn (kvs:List (Key × V)) (ty:TE):TE:=fun σ H Q=>ty σ H fun y H1=>∃ k,y = kV k /\ Q (.bl (!(valV kvs k).isSome)) H1
def tGGet (kvs:List (Key × V)) (ty:TE):TE:=fun σ H Q=>ty σ H fun y H1=>∃ k v,y = kV k /\ valV kvs k = some v /\ Q v H1
section
variable {X:Cx} {i o:Expr} {pos:Pos} {ty:TE} {d:Addr} {kvs:List (Key × V)}
theorem pc_gnotin (g:GD X.prog X.w X.K d kvs) (hi:PE X i ty) (ho:PE X o (tC (.ref d))):PC X .NotIn i o (tGNotIn kvs ty):=by
  intro pins s σ H Q I h
  refine thn (hi pins s σ H _ I h) fun iv s1 ⟨y,H1,I1,ry,k,ey,q1⟩=>thn (ho pins s1 σ H1 (fun v H'=>v = .ref d /\ H' = H1) I1 ⟨rfl,rfl⟩) fun u s2 ⟨x,H2,I2,rx,ex,eH⟩=>?_
  subst ex eH ey
  obtain rfl:u = Value.ref d:=rx
  obtain ⟨vs,rel,dd⟩:=g.2 s2.heap I2.kIn
  refine wpAny_notIn_of (kV_is ry) g.1 dd.mapOf ?_
  rw [← (rel.val k).isSome_eq]
  exact ⟨.bl _,_,I2.tok _,rfl,q1⟩
theorem pe_gget (g:GD X.prog X.w X.K d kvs) (ho:PE X o (tC (.ref d))) (hi:PE X i ty) (hs:NoSl i):PE X (.Subscript o i pos) (tGGet kvs ty):=by
  intro pins s σ H Q I h
  refine subD_of PySem.F.slot_dict_getitem.lookup hs (thn (ho pins s σ H (fun v H'=>v = .ref d /\ H' = H) I ⟨rfl,rfl⟩) fun u s1 ⟨x,H1,I1,rx,ex,eH⟩=>?_)
  subst ex eH
  obtain rfl:u = Value.ref d:=rx
  refine thn (hi pins s1 σ _ _ I1 h) fun iv s2 ⟨y,H2,I2,ry,k,v,ey,l,q2⟩=>?_
  subst ey
  obtain ⟨vs,rel,dd⟩:=g.2 s2.heap I2.kIn
  refine ⟨dd.typeIs,?_⟩
  obtain ⟨w',hw,rw'⟩:=RelO.some_of (v:=v) (o:=valueAt vs k) (by rw [← l]; exact rel.val k)
  exact wpAny_getItem_of (kV_is ry) dd.mapOf hw ⟨v,_,I2.tok _,rw',q2⟩
end
def ckT (c:Int):PySem.Str:=Txt.zfill (numT c) 20
open PySem PySem.Spec PyProof.Rows Builtin Builtin.Str
theorem zf_cps {x:PySem.Str} (hx:∀ c ∈ x.cps.toList,48 ≤ c /\ c ≤ 57) (hl:x.length ≤ 20):(Txt.zfill x 20).cps.toList = List.replicate (20 - x.length) 48 ++ x.cps.toList:=by
  unfold Txt.zfill
  by_cases hc:(20:Int) ≤ x.length
  · rw [if_pos hc,show 20 - x.length = 0 by omega]; rfl
  · rw [if_neg hc]
    have e:zfilled x (Int.toNat 20 - x.length) = padded x (Int.toNat 20 - x.length) 0 48:=by
      unfold zfilled
      split
      · rename_i h
        have:=hx 43 (by rw [← Array.getElem?_toList] at h; exact List.mem_of_getElem? h)
        omega
      · rename_i h
        have:=hx 45 (by rw [← Array.getElem?_toList] at h; exact List.mem_of_getElem? h)
        omega
      · rfl
    rw [e]
    unfold padded
    simp
theorem mul_zero (i:Int):(Txt.mul sZ i).cps.toList = List.replicate i.toNat 48:=by
  rw [show sZ = (⟨#[48]⟩:PySem.Str) by decide +kernel]
  unfold Txt.mul
  by_cases h:i < 1
  · rw [if_pos h,show i.toNat = 0 by omega]; rfl
  · rw [if_neg h]
    by_cases h1:i = 1
    · subst h1; rfl
    · have e:(i == 1 || (⟨#[48]⟩:PySem.Str).length == 0) = false:=by
        have:(i == 1) = false:=by simpa using h1
        rw [this]; rfl
      rw [e]
      show ((List.replicate i.toNat (#[48]:Array Nat)).foldl (· ++ ·) #[]).toList = _
      rw [fold_rep]; simp
section
variable {c:Int} (h0:0 ≤ c) (h1:c < 10 ^ 20)
include h0 h1
theorem ckT_cps:(ckT c).cps.toList = List.replicate (20 - (numT c).length) 48 ++ (numT c).cps.toList:=zf_cps (numT_digit h0) (numT_len h0 h1)
theorem ckT_eq:ckT c = Txt.mul sZ (20 - ((numT c).length:Int)) ++ numT c:=by
  refine str_ext ?_
  have:=numT_len h0 h1
  rw [ckT_cps h0 h1,cps_app,mul_zero,show (20 - ((numT c).length:Int)).toNat = 20 - (numT c).length by omega]
theorem ckT_len:(ckT c).length = 20:=by
  rw [← len_cps,ckT_cps h0 h1,List.length_append,List.length_replicate,len_cps]
  have:=numT_len h0 h1
  omega
theorem ckT_digit:∀ k ∈ (ckT c).cps.toList,48 ≤ k /\ k ≤ 57:=fun k hk=>by
  rw [ckT_cps h0 h1] at hk
  rcases List.mem_append.mp hk with h | h
  · rw [(List.mem_replicate.mp h).2]; omega
  · exact numT_digit h0 k h
theorem ckT_num:isNum (ckT c) = true:=List.all_eq_true.mpr fun k hk=>figB_of (ckT_digit h0 h1 k hk)
theorem ckT_int:intText? (ckT c) = some c:=by
  have e:=intText_digits (x:=ckT c) (ckT_digit h0 h1) (by intro e; have:=ckT_len h0 h1; rw [← len_cps,e] at this; exact absurd this (by decide)) (by rw [ckT_len h0 h1]; decide)
  rw [e,ckT_cps h0 h1]
  have z:∀ (k:Nat) (l:List Nat),NumText.digitsVal (List.replicate k 48 ++ l) = NumText.digitsVal l:=by
    intro k l
    induction k with
    | zero=>rfl
    | succ k ih=>rw [List.replicate_succ,List.cons_append,← ih]; rfl
  rw [z]
  obtain ⟨m,rfl⟩:=Int.eq_ofNat_of_zero_le h0
  unfold numT
  rw [PySem.W.KIN.signs_num,PySem.W.KIN.val_back]
theorem ckT_free {k:Nat} (hk:k < 48 ∨ 57 < k):k ∉ (ckT c).cps.toList:=fun h=>by have:=ckT_digit h0 h1 k h; omega
end
open PySem PySem.Spec PyProof.Rows
theorem gd2 {P:Program} {w:World} {K:PySem.W.Frag} {a:Addr} {k1 k2:PySem.Str} {n1 n2:Int} {t1 t2 t3 t4:Tok} {ep:Nat} (hk:k1 ≠ k2) (hs:(a == sysModules) = false)
    (h:K.lookup a = some ⟨.type "dict",none,.dict #[⟨hashStr w k1,.str k1 t1,.int n1 t2⟩,⟨hashStr w k2,.str k2 t3,.int n2 t4⟩] ep,#[]⟩):GD P w K a [(Sum.inr k1,.int n1),(Sum.inr k2,.int n2)]:=by
  refine ⟨hs,fun hp X=>⟨[(Sum.inr k1,.int n1 t2),(Sum.inr k2,.int n2 t4)],.cons ⟨rfl,⟨t2,rfl⟩⟩ (.cons ⟨rfl,⟨t4,rfl⟩⟩ .nil),_,_,_,X a _ h,⟨rfl,rfl,rfl⟩,rfl,?_,?_,?_⟩⟩
  · intro e he
    simp only [List.mem_toArray,List.mem_cons,List.not_mem_nil,or_false] at he
    rcases he with rfl | rfl
    · exact ⟨Sum.inr k1,keyIs_str k1 t1,rfl⟩
    · exact ⟨Sum.inr k2,keyIs_str k2 t3,rfl⟩
  · exact .cons (keyIs_str k1 t1) rfl (.cons (keyIs_str k2 t3) rfl .nil)
  · simp [hk]
open PySem PySem.Spec PyProof.Rows
theorem vals_pt:∀ {xs:List V} {us:List Value},us.length = xs.length->(∀ (j:Nat) x u,xs[j]? = some x->us[j]? = some u->RelV x u)->Vals xs us
  | [],[],_,_=>.nil
  | [],_ :: _,h,_=>by simp at h
  | _ :: _,[],h,_=>by simp at h
  | x :: xs,u :: us,h,k=>.cons (k 0 x u rfl rfl) (vals_pt (by simpa using h) fun j x u e1 e2=>k (j + 1) x u (by simpa using e1) (by simpa using e2))
section
variable {X:Cx}
def tLRng (te:TE):TE:=fun σ H Q=>te σ H fun v H1=>∃ n:Nat,v = .int (n:Int) /\ n ≤ 1000 /\ ∀ r,H1 r = none->Q (.ref r) (upd H1 r (.lst (((List.range n).map fun k:Nat=>(k:Int)).map V.int)))
theorem pe_listrng {e:Expr} {te:TE} {p1 p2 pos1 pos2:Pos} (hc:X.calm = true) (hg1:Gl X "list") (hm1:X.mg "list" = none) (hg2:Gl X "range") (hm2:X.mg "range" = none) (he:PE X e te)
    (hs1:starEach [Expr.Call (.Name "range" p2) [e] [] pos2] X.env = [(false,eval (Expr.Call (.Name "range" p2) [e] [] pos2) X.env)]:=by rfl) (hs2:starEach [e] X.env = [(false,eval e X.env)]:=by rfl) :
    PE X (.Call (.Name "list" p1) [.Call (.Name "range" p2) [e] [] pos2] [] pos1) (tLRng te):=by
  intro pins s σ H Q I h
  refine wpAny_Call_Name_kw (ld_blt I hg1 hm1 boot_list ?_)
  refine PyProof.Rows.callWith_type1 ?_ hs1 rfl
  rw [hs1]
  show wpAny _ _ (spliced ((false,eval (Expr.Call (.Name "range" p2) [e] [] pos2) X.env) :: backTo pos1 [])) _ _ s
  refine Calls.spliced_cons ?_
  refine wpAny_Call_Name_kw (ld_blt I hg2 hm2 boot_range ?_)
  refine PyProof.Rows.callWith_type1 ?_ hs2 rfl
  rw [hs2]
  show wpAny _ _ (spliced ((false,eval e X.env) :: backTo pos2 [])) _ _ s
  refine Calls.spliced_cons (thn (he pins s σ H _ I h) fun u s1 ⟨x,H1,I1,r1,q1⟩=>?_)
  obtain ⟨n,rfl,hn,q⟩:=q1
  obtain ⟨t,rfl⟩:=r1
  refine Calls.spliced_nil ?_
  refine call_range_1 ?_
  refine Calls.spliced_nil ?_
  have hsz:Builtin.Range.rangeSize 0 (n:Int) 1 = (n:Int):=by rw [rangeSize_one]; split <;> omega
  refine call_list_range (n:=n) (I1.ok.hd hc) (IsRange.new ..) (small_one (by omega) (by omega) (by omega) (by omega)) hsz (by omega) fun h' tk acc c' kp hS hacc=>?_
  have I2:Inv X pins σ H1 { s1 with heap:=s1.heap.push { cls:=.type "range",data:=.fields #[.int 0 s1.toks,.int (n:Int) t,.int 1 (s1.toks + 1)] },toks:=s1.toks + 1 + 1 }:=I1.kept fun b o e=>Heap.get?_push_of_some _ e
  have hv:Vals (((List.range n).map fun k:Nat=>(k:Int)).map V.int) acc.toList:=by
    refine vals_pt (by rw [Array.length_toList,hacc.1]; simp) fun j x u e1 e2=>?_
    obtain ⟨t',rfl⟩:=hacc.2 j u (by rw [← Array.getElem?_toList]; exact e2)
    rw [List.map_map,List.getElem?_map] at e1
    obtain ⟨k,h1,h2⟩:=Option.map_eq_some_iff.mp e1
    have hj:=(List.getElem?_eq_some_iff.mp h1).1
    rw [List.getElem?_range (by simpa using hj)] at h1
    cases h1
    rw [← h2]
    exact ⟨t',by simp⟩
  refine ⟨.ref _,_,I2.laid (t':=tk) kp (Nat.le_refl _) (show ObjOk X.prog X.w _ h' _ (.lst (((List.range n).map fun k:Nat=>(k:Int)).map V.int)) from ⟨by simp; exact Nat.le_of_lt (small1000 (by omega)),acc.toList,c',hv,by simpa using hS⟩),rfl,q _ (I2.hok.fresh (Nat.le_refl _))⟩
end
open PySem PySem.Spec PyProof.Rows
structure RoomH (k:Nat) (A:Around):Prop where
  dp:A.depth + 3 * k + 5 < recursionLimit
  un:A.units + 16 * k + 200 < cLine
theorem Room.toH {k:Nat} {A:Around} (r:Room k A):RoomH k A:=⟨r.dp,r.un⟩
theorem RoomH.mark {k:Nat} {A:Around} {v:Option Value} (r:RoomH k A):RoomH k (A.mark v):=⟨r.dp,r.un⟩
theorem RoomH.make {k:Nat} {A:Around} (r:RoomH (k + 1) A) (C:Addr) (us:List Value) (kw:List (Str × Value)):RoomH k (A.under (.builtin "type.__call__" ⟨.ref C :: us,kw⟩)) :=
  ⟨by have:=r.dp; rw [make_depth]; omega,by have:=r.un; rw [make_units]; omega⟩
structure FnOkH (P:Program) (w:World) (K:PySem.W.Frag) (mg:Str->Option Value) (base:Heap) (CX:CXT) (k:Nat) (f:Addr) (fd:FuncData) (ps:List Str) (sp:Sp):Prop where
  len:∀ vs H Q E,sp vs H Q E->vs.length = ps.length
  run:∀ (A:Around) (outer:List Env) (s:Shared) (H:Hp) (args:Args) (us:List Value) (vs:List V) (Q:VK) (E:XK),RoomH k A->Env0 P w K mg base A outer s H->BindsTo s fd args (ps.zip us)->Vals vs us->sp vs H Q E →
    codeAny (model P w) A (.call (.ref f) args) (CR CX outer P w H s Q E) s
abbrev cxOfH (CX:CXT) (P:Program) (w:World) (K:PySem.W.Frag) (mg:Str->Option Value) (base:Heap) (N:List Str) (qual:Str) (scope:Scope) (f:Addr) (cd:Value) (A:Around) (outer:List Env) (s:Shared) (H:Hp) (E:XK):Cx :=
  { cxOf CX P w K mg base N qual scope f cd A outer s H E with calm:=false }
theorem fn_ofH {CX:CXT} {P:Program} {w:World} {K:PySem.W.Frag} {mg:Str->Option Value} {base:Heap} {k:Nat} {f:Addr} {name qual:Str} {params:Arguments} {body:List Stmt} {scope:Scope} {dV kV doc pm cdv ct oc:Value} {an od:Option Addr}
    {osl:Array (Option Value)} {N ps:List Str} {sp:Sp} (lk:K.lookup f = some ⟨oc,od,.func (PySem.W.fnOf name qual params body scope dV kV doc pm an cdv ct),osl⟩) (hcd:PySem.W.codeIn K cdv qual = true) (S:FnScope N ps scope)
    (len:∀ vs H Q E,sp vs H Q E->vs.length = ps.length)
    (hbody:∀ (A:Around) (outer:List Env) (s:Shared) (H:Hp) (vs:List V) (Q:VK) (E:XK),sp vs H Q E →
      ∃ t,PSs (cxOfH CX P w K mg base N qual scope f cdv A outer s H E) body t /\ t { nx:=fun _ H'=>Q .non H',rt:=Q } (start N vs) H) :
    FnOkH P w K mg base CX (k + 1) f (PySem.W.fnOf name qual params body scope dV kV doc pm an cdv ct) ps sp:=by
  refine ⟨len,fun A outer s H args us vs Q E hr e0 hb r hsp=>?_⟩
  have hl:=len _ _ _ _ hsp
  have KX:K.In s.heap:=e0.mod.kin.keeps fun b o e=>(e0.bs b o e).1
  have lim:s.heap.NoLimit:=e0.mod.nolimit.keeps fun b o e=>(e0.bs b o e).1
  have hkind:∀ y ∈ ps.zip us,scope.names.lookup y.1 = some .local ∨ (scope.names.lookup y.1 = some .cell /\ ((cellsFrom (s.heap.objs.size + 1) scope.names []).lookup y.1).isSome = true):=fun ⟨n,v⟩ hy=>by
    rcases S.par n (List.of_mem_zip hy).1 with q | q
    · exact .inl q
    · exact .inr ⟨q,PySem.W.cellsFrom_some _ _ _ (.inl q)⟩
  refine codeAny_call_function (by have:=hr.dp; omega) (KX _ _ lk) rfl S.co S.gen rfl (PySem.W.codeRec_of KX hcd) (hb _ _ _ _ ?_)
  refine wpAny_newFunctionEnv_cells S.kind hkind fun env he s1 x=>?_
  subst he
  refine ⟨lim.keeps x.toInCall.keep,codeAny_func ?_⟩
  obtain ⟨t,ht,hq⟩:=hbody A outer s H vs Q E hsp
  have e1:Env0 P w K mg base { A with handled:=none } outer s H:=⟨e0.frames,e0.mod,e0.bs,e0.bsz,e0.funs,e0.frf,e0.hok,e0.bare⟩
  have I1:Inv (cxOf CX P w K mg base N qual scope f cdv { A with handled:=none } outer s H E) [] (start N vs) H s1:=inv_start S rfl e1 hl r x
  have I:Inv (cxOfH CX P w K mg base N qual scope f cdv A outer s H E) [] (start N vs) H s1 :=
    ⟨⟨I1.ok.mod,I1.ok.kind,I1.ok.glob,I1.ok.blt,I1.ok.above,I1.ok.inj,I1.ok.has,I1.ok.cab,(fun z=>by cases z),Around.frames_deeper e0.frames,I1.ok.stk,I1.ok.exf,I1.ok.bs,I1.ok.bsz,I1.ok.noex,I1.ok.exfs,I1.ok.funs,I1.ok.frf⟩,
      I1.os,I1.bare,I1.base,I1.loc,I1.cell,I1.free,I1.freeC,I1.pin,I1.hok,I1.len⟩
  refine wpAny_mono (ht [] s1 (start N vs) H _ I hq) (fun fl s' hs=>?_) fun e s' hs=>hs
  have fin:∀ {σ':St} {H':Hp} {v:V} {u:Value},Inv (cxOfH CX P w K mg base N qual scope f cdv A outer s H E) [] σ' H' s'->RelV v u->Q v H'->CE outer P w H s Q u s' :=
    fun {σ' H' v u} J rv q=>⟨v,H',J.os,J.bare,J.base,J.hok,rv,q⟩
  cases fl with
  | ret u =>
    obtain ⟨v,σ',H',J,rv,q⟩:=hs
    exact fin J rv q
  | next =>
    obtain ⟨σ',H',J,q⟩:=hs
    exact fin (v:=V.non) (u:=Value.none) J rfl q
  | brk =>
    obtain ⟨_,_,_,q⟩:=hs
    exact False.elim q
  | cont =>
    obtain ⟨_,_,_,q⟩:=hs
    exact False.elim q
theorem Fun.okXH {P:Program} {w:World} {K:PySem.W.Frag} {mg:Str->Option Value} {base:Heap} {x qual:Str} {st:Stmt} {f:Addr} {fd:FuncData} {N ps:List Str} {k:Nat} {sp:Sp} (F:Fun K x qual st f fd) (S:FnScope N ps (defScope st)) (len:∀ vs H Q E,sp vs H Q E->vs.length = ps.length)
    (hbody:∀ (cdv:Value) (A:Around) (outer:List Env) (s:Shared) (H:Hp) (vs:List V) (Q:VK) (E:XK),sp vs H Q E →
      ∃ t,PSs (cxOfH (CXx P w) P w K mg base N qual (defScope st) f cdv A outer s H E) (defBody st) t /\ t { nx:=fun _ H'=>Q .non H',rt:=Q } (start N vs) H):FnOkH P w K mg base (CXx P w) (k + 1) f fd ps sp:=by
  obtain ⟨oc,od,kV,doc,pm,an,cdv,ct,osl,rfl,lk,hcd⟩:=F.ex
  exact fn_ofH lk hcd S len fun A outer s H vs Q E hsp=>hbody cdv A outer s H vs Q E hsp
structure ExcXH (P:Program) (w:World) (K:PySem.W.Frag) (mg:Str->Option Value) (base:Heap) (x:Str) (C:Addr) (k:Nat) (ps:List Str) (sp:Sp):Prop where
  ex:∃ (f:Addr) (fd:FuncData),mg x = some (.ref C) /\ XMk K C f /\ FnOkH P w K mg base (CXx P w) k f fd ps sp /\ Binds K fd ps []
section
variable {X:Cx} {k:Nat} {f C:Addr} {fd:FuncData} {ps:List Str} {sp:Sp} {x:Str} {p pos:Pos} {e:Expr} {es:List Expr} {t:TA}
theorem pe_excH (D:ExcXH X.prog X.w X.K X.mg X.base x C k ps sp) (hr:RoomH (k + 1) X.A) (hg:Gl X x) (ha:PA X (e :: es) t)
    (hdb:(x == ("__debug__":Str)) = false:=by decide) (he:starEach (e :: es) X.env = (false,eval e X.env) :: starEach es X.env:=by rfl) (hpl:(backTo pos (starEach es X.env)).any (·.1) = false:=by rfl) :
    PE X (.Call (.Name x p) (e :: es) [] pos) (tExc C sp t):=by
  obtain ⟨f,fd,m,M,F,b⟩:=D.ex
  intro pins s σ H Q I h
  refine wpAny_Call_Name_kw (ld_glob I hg m ?_ hdb)
  refine PySem.W.callWith_K (h₀:=X.base) I.ok.mod.kin M.kp (thn (ha pos pins s σ H _ I h) fun us s1 ⟨vs,H1,I1,r,hlen,h⟩=>⟨I1.kIn,?_⟩) he hpl
  have hq:=h (s1.heap.objs.size + 1) (I1.hok.fresh (Nat.le_succ _))
  have I2:=Inv.xmade (C:=C) (rest:=us) I1
  have r2:Vals (V.ref (s1.heap.objs.size + 1) :: vs) (Value.ref (s1.heap.objs.size + 1) :: us):=.cons rfl r
  have hl:(Value.ref (s1.heap.objs.size + 1) :: us).length = ps.length:=by
    have e:=r2.length
    rw [F.len _ _ _ _ hq] at e
    exact e.symm
  have hb':=b _ (Value.ref (s1.heap.objs.size + 1) :: us) I2.kIn (by rw [List.append_nil]; exact hl)
  rw [List.append_nil] at hb'
  have run:=F.run _ X.stack _ _ ⟨Value.ref (s1.heap.objs.size + 1) :: us,[]⟩ (Value.ref (s1.heap.objs.size + 1) :: us) _ _ E0 (hr.make C us []) (I2.env0.make C us []) hb' r2 hq
  obtain ⟨hp,g,d,t,os⟩:=s1
  show wpAny _ _ (call (.ref C) us) _ _ _
  refine xcall_init I1.kIn M.cls (by rw [← r.length]; exact hlen) M.init (beq_iff_eq.mp M.fn) (wpAny_call (codeAny_mono run fun r s' hq'=>?_))
  cases r with
  | error e =>
    obtain ⟨_,_,_,_,_,_,_,_,_,_,_,_,_,_,z⟩:=hq'
    exact z.elim
  | ok fl =>
    cases fl with
    | ret u =>
      obtain ⟨v,H',I3,rv,ev,q3⟩:=I2.after hq'
      subst ev
      exact ⟨rv,⟨V.ref (hp.objs.size + 1),H',I3,rfl,q3⟩⟩
    | next=>exact False.elim hq'
    | brk=>exact False.elim hq'
    | cont=>exact False.elim hq'
end
theorem entry_unchain:entryFor table "proto.unchain" = some Builtin.«proto.unchain»:=entryFor_of_fast (by kernel_rfl)
section
variable {prog:Program} {w:World} {A:Around} {E:Value->Shared->Prop} {s:Shared}
theorem unchain_ok {e h:Addr} {oh:Obj} {vh:Array Value} {Q:Value->Shared->Prop} (he:s.heap.get? h = some oh) (hd:oh.data = .fields vh) (h2:vh[2]? = some .none) (q:Q .none s) :
    wpAny (model prog w) A (runValue (.builtin "proto.unchain" ⟨[.ref e,.ref h,.ref h,.bool false],[]⟩)) Q E s:=by
  refine wpAny_runValue (codeAny_builtin entry_unchain ?_)
  unfold Builtin.«proto.unchain»
  refine wpAny_bind (wpAny_field he hd h2 ?_)
  rw [if_pos (by rfl)]
  exact wpAny_pure q
theorem raise_okH {env:Env} {x c:Sem Value} {h:Addr} {Q:Flow->Shared->Prop} (hh:A.handled = some (.ref h)) (hc:∀ (s:Shared) (Q:Value->Shared->Prop),Q .none s->wpAny (model prog w) A c Q E s)
    (hx:wpAny (model prog w) A x (fun v s₁=>∃ e vs sl C od oh vh,v = .ref e /\ h ≠ e /\ s₁.heap.get? e = some ⟨.ref C,od,.fields vs,sl⟩ /\ vs.size = 6 /\ vs[1]? = some .none /\ XObj s₁.heap C /\ s₁.heap.get? h = some oh /\ oh.data = .fields vh /\ vh[2]? = some .none ∧
      ∀ h',h'.get? e = some ⟨.ref C,od,.fields (((vs.setIfInBounds 3 .none).setIfInBounds 4 (.bool true)).setIfInBounds 2 (.ref h)),sl⟩->(∀ b o,b ≠ e->s₁.heap.get? b = some o->h'.get? b = some o)->E (.ref e) { s₁ with heap:=h' }) E s) :
    wpAny (model prog w) A (raiseStmt env (some x) (some c)) Q E s:=by
  unfold raiseStmt
  refine wpAny_bind (wpAny_mono hx (fun v s₁ h₁=>?_) fun _ _ x=>x)
  obtain ⟨e,vs,sl,C,od,oh,vh,rfl,hne,he,hz,h1,hC,hoh,hdh,hvh,hE⟩:=h₁
  obtain ⟨nm,qn,N,bs,bm,sn,sub,ab,col,dd,k0,k1,k2,k3,k5,hC,hb⟩:=hC.ex
  have hcB:=own_has (C:=C) hb (T:="BaseException") (by decide)
  refine wpAny_bind (wpAny_holding (hc _ _ (wpAny_bind (wpAny_pure ?_))))
  obtain ⟨hp,g,d,tk,os⟩:=s₁
  dsimp only
  repeat (first
    | with_reducible refine wpAny_loadPart_at he ?_
    | with_reducible refine wpAny_loadPart_at hC ?_
    | (with_reducible refine wpAny_isSubtype_exc hC ?_; rw [hcB])
    | with_reducible refine wpAny_field he rfl h1 ?_
    | wp_step)
  have hCe:C ≠ e:=by rintro rfl; rw [he] at hC; cases hC
  have he1:=Heap.get?_update_self (Obj.mapFields (·.setIfInBounds 3 Value.none)) he (Obj.isFreed_of_fields (Obj.data_mapFields rfl _))
  have he2:=Heap.get?_update_self (Obj.mapFields (·.setIfInBounds 4 (Value.bool true))) he1 (Obj.isFreed_of_fields (Obj.data_mapFields rfl _))
  have hC2:=(Heap.get?_update_other (h:=hp.update e (Obj.mapFields (·.setIfInBounds 3 Value.none))) (Obj.mapFields (·.setIfInBounds 4 (Value.bool true))) hCe.symm).trans ((Heap.get?_update_other (h:=hp) (Obj.mapFields (·.setIfInBounds 3 Value.none)) hCe.symm).trans hC)
  have ho2:∀ b o,b ≠ e->hp.get? b = some o->((hp.update e (Obj.mapFields (·.setIfInBounds 3 Value.none))).update e (Obj.mapFields (·.setIfInBounds 4 (Value.bool true)))).get? b = some o:=fun b o hb q =>
    (Heap.get?_update_other _ _ (Ne.symm hb)).trans ((Heap.get?_update_other _ _ (Ne.symm hb)).trans q)
  generalize (hp.update e (Obj.mapFields (·.setIfInBounds 3 Value.none))).update e (Obj.mapFields (·.setIfInBounds 4 (Value.bool true))) = h2 at he2 hC2 ho2 ⊢
  have h12:((vs.setIfInBounds 3 Value.none).setIfInBounds 4 (Value.bool true))[1]? = some Value.none:=by simpa using h1
  have hd2:(Obj.mapFields (·.setIfInBounds 4 (Value.bool true)) (Obj.mapFields (·.setIfInBounds 3 Value.none) { cls:=Value.ref C,dict:=od,data:=Data.fields vs,slots:=sl })) = { cls:=Value.ref C,dict:=od,data:=Data.fields ((vs.setIfInBounds 3 Value.none).setIfInBounds 4 (Value.bool true)),slots:=sl }:=rfl
  rw [hd2] at he2
  repeat (first
    | with_reducible refine wpAny_loadPart_at hC2 ?_
    | with_reducible refine wpAny_field he2 rfl h12 ?_
    | wp_step)
  unfold raiseNew
  refine wpAny_bind (wpAny_handled ?_)
  rw [hh]
  dsimp only
  rw [if_pos (show ((Value.ref h != Value.ref e) = true) from by simpa using hne)]
  refine wpAny_bind (wpAny_holding (unchain_ok (s:=⟨h2,g,d,tk,os⟩) (ho2 h oh hne hoh) hdh hvh ?_))
  refine wpAny_bind (show wpAny _ _ (setField (.ref e) 2 (.ref h)) _ _ _ from wpAny_setField he2 rfl (by simp; omega) ?_)
  refine wpAny_throw (hE _ ?_ fun b o hb q=>(Heap.get?_update_other _ _ (Ne.symm hb)).trans (ho2 b o hb q))
  exact Heap.get?_update_self _ he2 (Obj.isFreed_of_fields (Obj.data_mapFields rfl _))
end
def hRs (K:PySem.W.Frag) (DC:Addr) (te:Addr->List (Addr × Obj)->TE) (E:XS) (tr:TH):TH:=fun e C D σ H=>∃ b,PySem.W.mroIn K C (.ref DC) = some b /\ if b = true then
  (∀ pn,te e pn σ H fun v H1=>∃ e2 C2 od od2,v = .ref e2 /\ e ≠ e2 /\ H1 e = some (exO false false e C od) /\ H1 e2 = some (exO true false e2 C2 od2) /\ XCls K C2 /\ E σ (.ref C2) (some e2) (upd H1 e2 (exO false true e2 C2 od2))) else tr e C D σ H
theorem cameBack_ok {M:Model} {A:Around} {E:Value->Shared->Prop} {s:Shared} {env:Env} {e T:Addr} {fl:Value} (hF:Fly s.heap e T fl) (h:∀ h' fl',(∀ b o,b ≠ T->s.heap.get? b = some o->h'.get? b = some o)->Fly h' e T fl'->E (.ref e) { s with heap:=h' }):cameBackBy M A env E (.ref e) s:=by
  obtain ⟨oe,vs,oT,ts,he,hd,h1,hT,hdT,h3,hTe⟩:=hF
  have hsz:3 < ts.size:=(Array.getElem?_eq_some_iff.mp h3).1
  unfold cameBackBy
  refine wpAny_bind (wpAny_field he hd h1 ?_)
  rw [if_neg (show ¬ ((Value.ref T == Value.none) = true) from by simp)]
  unfold setFlight
  refine wpAny_bind (wpAny_field he hd h1 ?_)
  rw [if_pos (show (Value.ref T != Value.none) = true from by simp)]
  refine wpAny_setField hT hdT hsz (h _ (env.frame.elim Value.none fun f=>rawInt f) (fun b o hb q=>(Heap.get?_update_other _ _ (Ne.symm hb)).trans q) ?_)
  exact ⟨oe,vs,_,_,(Heap.get?_update_other _ _ hTe).trans he,hd,h1,Heap.get?_update_self _ hT (Obj.isFreed_of_fields (Obj.data_mapFields hdT _)),Obj.data_mapFields hdT _,by simp [hsz],hTe⟩
section
variable {X:Cx} {x:Str} {DC:Addr} {np pos rp cp:Pos} {ex:Expr} {rest:List ExceptHandler} {te:Addr->List (Addr × Obj)->TE} {tr:TH} {E:XS} {ck:Const} {kt:Nat}
theorem ph_rs (hpi:PassesI X E) (hst:X.stack = X.env :: X.outer) (hfr:X.env.frame = some X.env.locals) (hg:Gl X x) (hm:X.mg x = some (.ref DC)) (c:XCls X.K DC) (he:∀ e pn,PE (X.held e pn) ex (te e pn)) (hr:PH X rest tr) (hd:(x == ("__debug__":Str)) = false:=by decide) (hn:ck = .none:=by rfl) :
    PH X (.ExceptHandler (some (.Name x np)) none [.Raise (some ex) (some (.Constant ck kt cp)) rp] pos :: rest) (hRs X.K DC te E tr):=by
  rintro pins s σ H D e C od T I q fly fp ⟨b,hb,h⟩
  obtain ⟨ch0,q0⟩:=q
  obtain ⟨vs,sl,g,_⟩:=exc_of I.hok q0
  have IH:=I.held e
  refine wpAny_handleBy_cons (codeAny_handlers_test (ld_glob (X:=X.held e (X.pn ++ pins)) IH hg hm ?_ hd)) (by intro z; cases z)
  refine xmatch I.kIn g rfl c hb ?_
  cases b with
  | false =>
    rw [if_neg (by decide)] at h
    exact hr pins s σ H D e C od T I ⟨ch0,q0⟩ fly fp h
  | true =>
    rw [if_pos rfl] at h
    refine codeAny_handlers_suite (flight_none fly fun h2 k _ fly2=>?_)
    have I2:=I.landed fp k
    have hh:(X.A.mark (some (.ref e))).handled = some (.ref e):=rfl
    subst hn
    have fr:(X.A.mark (some (.ref e))).frames = some (X.env :: X.outer):=by rw [← hst]; exact I.ok.frames
    refine wpAny_execs_cons ?_
    rw [arm_exec_Raise]
    refine wpAny_bind (wpAny_standAt ?_)
    refine raise_okH hh (fun s Q q=>?_) ?_
    · exact wpAny_bind (Constant_none (wpAny_bind (wpAny_standAt (wpAny_pure q))))
    · refine wpAny_bind (wpAny_mono (he e _ [] _ σ H _ (I2.held e) (h _)) (fun u s1 h1=>wpAny_bind (wpAny_standAt (wpAny_pure ?_))) fun _ _ z=>z.elim)
      obtain ⟨v,H1,I1,rv,e2,C2,od',od2,ev,hne,q1,q2,hcl,hE⟩:=h1
      subst ev
      cases (show u = Value.ref e2 from rv)
      obtain ⟨vs2,sl2,g2,hz2,hr2,hc2⟩:=exc_of I1.hok q2
      obtain ⟨vh,slh,gh,hzh,_,hch⟩:=exc_of I1.hok q1
      refine ⟨e2,vs2,sl2,C2,od2,_,vh,rfl,hne,g2,hz2,hr2 rfl,hcl.at I1.kIn,gh,rfl,hch rfl,fun h' e' k'=>?_⟩
      have J:=Inv.unheld I.ok (I1.write (h':=h') (t':=s1.toks) (x:=e2) (e:=e2) (o:=exO true true e2 C2 od2) (by rw [q2]; exact True.intro) (.inl rfl) k' ⟨_,e'⟩ (objOk_exc ⟨_,_,e',by simpa using hz2,(fun _=>by simpa using hr2 rfl),(fun z=>by cases z)⟩))
      show wpAny _ _ (noteFrame (.ref e2) X.env) _ _ _
      refine note_new fr (by rw [← hst]; exact J.stack) hfr e' rfl (by simpa using hr2 rfl) fun h3 T Nd=>?_
      rw [← hst] at Nd
      have J2:=J.noted (ch:=[]) upd_same Nd (fun b hb=>by cases hb)
      rw [upd_upd] at J2
      have fpT:FpOk X pins (upd H1 e2 (exO false true e2 C2 od2)) T:=J.fpOk Nd.new (by have t1:=J.hok.fresh Nd.new; have ne:T ≠ e2:=(fun z=>by rw [z,upd_same] at t1; cases t1); rw [upd_ne ne] at t1 ⊢; exact t1)
      exact cameBack_ok (s:={ s1 with heap:=h3 }) Nd.fly fun h4 fl' k4 fly4=>hpi pins σ _ _ e2 C2 od2 T fl' (J2.landed fpT k4) ⟨true,upd_same⟩ fpT fly4 hE
end
section
variable {X:Cx} {scope:Scope} {N:List Str} {k:Nat} {cap:List Nat} {tg iter elt:Expr} {ifs:List Expr} {wi:TI} {g:TG} {tt:TT} {pos:Pos}
theorem ps_setCompE {E:XS} {te:XK->TE} (hpi:PassesI X E) (hst:X.stack = X.env :: X.outer) (hfr:X.env.frame = some X.env.locals) {i:Nat} {x:Str} {pos' spos:Pos} (hN:X.N.Nodup) (hi':X.N[i]? = some x) (hx:Loc X.env.scope x) (hc:X.calm = true) (hco:compOk X.N X.env.scope scope N k cap = true) (hi:PI X tg iter wi)
    (hg:∀ C s₀ H₀ ex,PG (X.comp scope N C s₀ H₀ ex).nox tg g) (ht:∀ C s₀ H₀ ex,PTs (X.comp scope N C s₀ H₀ ex).nox ifs tt) (he:∀ EX C s₀ H₀ ex xe,PassesS ((X.comp scope N C s₀ H₀ ex).wish xe) (fun _=>EX)->PE ((X.comp scope N C s₀ H₀ ex).wish xe) elt (te EX))
    (hsw:swapsWith (.ListComp elt [⟨tg,iter,ifs,0⟩] scope pos) (some (.Name x pos')) spos.line X.env = pure true:=by rfl)
    (hs:∀ x,foldedSetIterable iter X.env x = pure x:=by intro _; rfl) (hf':X.fn x = true ∨ X.env.scope.names.lookup x = some .local:=by first | exact .inl rfl | exact .inr rfl | assumption) :
    PS X (.Assign [.Name x pos'] (.ListComp elt [⟨tg,iter,ifs,0⟩] scope pos) spos) (tAsg (fun σ H Q=>tComp k cap wi g tt (te (E σ)) σ H Q) (gName i)):=by
  intro pins s σ H D I h
  have c:=CompOk.of hco
  rw [exec_Assign_Name_used _ _ _ _ hsw]
  refine wpAny_bind (wpAny_standAt (wpAny_bind ?_))
  show wpAny _ X.A (do let _ ← comprehension (.ListComp elt [⟨tg,iter,ifs,0⟩] scope pos) scope X.env _ (newList []) false (eval iter X.env) (some (assign (.Name x pos') X.env))) _ _ s
  refine wpAny_bind (wpAny_mono (wpAny_comprehension_free (use:=some (assign (.Name x pos') X.env)) (Q:=fun _ s'=>SP X pins D .next s') (cl:=clos X.env.cells scope.names []) rfl hs (closureFor_eq (I.freeCells c)) c.kind c.locs
    (thn (hi pins s σ H _ I h) fun xv s₁ h₁=>thn h₁ fun itv s₂ h₂=>?_)) (fun _ s' hq=>wpAny_pure (wpAny_pure hq)) fun _ _ e=>e)
  obtain ⟨it,fp,tn,J,H2,e,I2,T,st,hf,q⟩:=h₂
  subst e
  refine comp_loopX (use:=some (assign (.Name x pos') X.env)) (Q:=fun v H1=>gName i v σ H1 D.nx) hc c hg ht (he (E σ)) (fun ps=>hpi ps σ) hst hfr I2 T st hf q fun L C s1 H' I1 q1 ⟨m,hn⟩ hCn hCs hCl hCc hCp=>?_
  show wpAny _ X.A (assign (.Name x pos') X.env (.ref L)) _ _ s1
  refine wpAny_assign_Name (store_ok2 (v:=.ref L) I1 hN hi' hx rfl (fun s2 I3 ⟨a,sb,ha⟩=>⟨m,?_,fun h' hs'=>?_⟩) hf')
  · refine hn.sameBut sb ?_
    rcases ha with z | z
    · rw [z]; exact hCl
    · exact (hCc _ _ z).symm
  · exact ⟨_,H',I3.turned (t':=s2.toks) (fun b o hb e=>hs'.extBut b o hb e) hCn hCl (.inr hCs) hCc hCp,q1⟩
end
open PySem PySem.Spec PyProof.Rows
section
variable {X:Cx}
def tVals (vs:List V):TA:=fun _ H Q=>Q vs H
def cVals:List Expr->Option (List V)
  | []=>some []
  | .Constant (.str x) _ _ :: es=>(cVals es).map (V.str x :: ·)
  | .Constant (.int i) _ _ :: es=>(cVals es).map (V.int i :: ·)
  | _=>none
theorem pa_vals:∀ {es:List Expr} {vs:List V},cVals es = some vs->PA X es (tVals vs)
  | [],vs,h=>by
    have h:[] = vs:=Option.some.inj h
    subst h
    exact pa_nil
  | .Constant (.str x) j p :: es,vs,h=>by
    obtain ⟨ws,h1,rfl⟩:=Option.map_eq_some_iff.mp h
    exact fun pos pins s σ H Q I q=>pa_cons pe_str (pa_vals h1) rfl pos pins s σ H Q I q
  | .Constant (.int x) j p :: es,vs,h=>by
    obtain ⟨ws,h1,rfl⟩:=Option.map_eq_some_iff.mp h
    exact fun pos pins s σ H Q I q=>pa_cons pe_int (pa_vals h1) rfl pos pins s σ H Q I q
theorem mt_partition:MtR X "str.partition" (fun x xs H Q=>∃ z y:PySem.Str,x = .str z /\ xs = [.str y] /\ (y.length == 0) = false /\ z.length ≤ 100000 /\ ∀ p,H p = none->Q (.ref p) (upd H p (.tup [.str (Txt.partition z y).1,.str (Txt.partition z y).2.1,.str (Txt.partition z y).2.2]))):=by
  rintro pins s σ H x xs v us Q I rx r ⟨z,y,rfl,rfl,hy,hz,q⟩
  obtain ⟨t,rfl⟩:=(show ∃ t,v = Value.str z t from rx)
  obtain ⟨u,rfl,ru⟩:=Vals.one r
  obtain ⟨t2,rfl⟩:=(show ∃ t,u = Value.str y t from ru)
  have hzl:z.length ≤ sizeLine:=Nat.le_trans hz (by decide)
  have fin:∀ (a b c:PySem.Str) (k:Nat) (t1 t2 t3:Tok),(a,b,c) = Txt.partition z y->EP X pins σ Q (.ref s.heap.objs.size) { s with heap:=s.heap.push { cls:=.type "tuple",data:=.seq [.str a t1,.str b t2,.str c t3].toArray },toks:=k }:=fun a b c k t1 t2 t3 e=>by
    have q':=q s.heap.objs.size (I.hok.fresh (Nat.le_refl _))
    rw [← e] at q'
    exact ⟨.ref s.heap.objs.size,_,I.laid (t':=k) (o:=.tup [.str a,.str b,.str c]) (fun b ob q=>Heap.get?_push_of_some _ q) (Nat.le_refl _) ⟨by show 3 ≤ sizeLine; decide,_,.cons ⟨t1,rfl⟩ (.cons ⟨t2,rfl⟩ (.cons ⟨t3,rfl⟩ .nil)),_,Heap.get?_push_size _ rfl,rfl,_,rfl⟩,rfl,q'⟩
  refine call_meets F.slot_str_partition (typeIs_str _ _ _) F.entry_str_partition (F.args_str_partition_2 _ _) (meets_str_partition z y t t2 hy hzl) ?_
  cases e:Builtin.Str.occurrences z y 0 z.length 1 with
  | nil=>exact fin _ _ _ _ _ _ _ (by unfold Txt.partition; rw [e])
  | cons i l=>exact fin _ _ _ _ _ _ _ (by unfold Txt.partition; rw [e])
theorem call_minL (hc:X.calm = true):CallR X (.builtin "min") (fun xs H Q=>∃ (a:Addr) (ns:List Int),xs = [.ref a] /\ SqL X.K H a (ns.map V.int) /\ ns ≠ [] /\ ∀ m ∈ ns,(∀ x ∈ ns,m ≤ x)->Q (.int m) H):=by
  rintro pins s σ H xs us Q I r ⟨a,ns,rfl,hS,hne,q⟩
  obtain ⟨u,rfl,ru⟩:=vals1 r
  cases (show u = Value.ref a from ru)
  obtain ⟨its,rv,pt,_⟩:=I.list hS
  have hI:=intsAre_of rv
  have hT:s.heap.IsList a its.toArray:=pt.isList
  have hlt:a < s.heap.objs.size:=by obtain ⟨o,e,_⟩:=hT; exact Heap.lt_size e
  have hil:=ints_len hI
  have npos:0 < ns.length:=List.length_pos_iff.mpr hne
  have hval:∀ i v,its.toArray[i]? = some v->∃ t,v = Value.int (ns.getD i 0) t:=fun i v e=>hI.int_at i v (by simpa using e)
  refine call_min_walk (wpAny_pyIter_list hT ⟨s.heap.objs.size,_,_,_,_,_,_,rfl,Walks.list (A:=X.A.in1) (I.ok.hd hc) _ a (anelt' hlt (Nat.le_refl _)) its.toArray,⟨⟨_,Heap.get?_push_size _ rfl,rfl,rfl⟩,let ⟨o,e,r⟩:=hT; ⟨o,Heap.get?_push_of_some _ e,r⟩⟩,fun b hb=>?_,by simp; omega,CmpOf.ints_lt (fun i=>ns.getD i 0) hval,fun v h' tk hP hk=>?_⟩)
  · show b < (s.heap.push _).objs.size
    rw [Heap.size_push]
    simp only [List.mem_cons,List.not_mem_nil,or_false] at hb
    rcases hb with rfl | rfl
    · exact Nat.lt_succ_self _
    · exact Nat.lt_succ_of_lt hlt
  · obtain ⟨t,rfl⟩:=hval _ _ hP
    obtain ⟨b1,b2⟩:=argBest_lt (fun i=>ns.getD i 0) (its.toArray.size - 1)
    have hsz:its.toArray.size = ns.length:=by simp [hil]
    have hb:argBest (fun i j=>decide (ns.getD i 0 < ns.getD j 0)) (its.toArray.size - 1) < ns.length:=by omega
    refine ⟨.int _,H,I.kept fun b o e=>hk b o (fun hm=>?_) (Heap.get?_push_of_some _ e),⟨t,rfl⟩,q _ ?_ fun x hx=>?_⟩
    · have:b = s.heap.objs.size:=by simpa using hm
      exact absurd (Heap.lt_size e) (by rw [this]; exact Nat.lt_irrefl _)
    · rw [List.getD_eq_getElem?_getD,List.getElem?_eq_getElem hb,Option.getD_some]
      exact List.getElem_mem hb
    · obtain ⟨j,hj⟩:=List.mem_iff_getElem?.mp hx
      have hjl:j < ns.length:=(List.getElem?_eq_some_iff.mp hj).1
      have:=b2 j (by omega)
      rw [show ns.getD j 0 = x by rw [List.getD_eq_getElem?_getD,hj]; rfl] at this
      exact this
end
open PySem PySem.Spec PyProof.Rows
section
variable {X:Cx}
theorem call_maxL (hc:X.calm = true):CallR X (.builtin "max") (fun xs H Q=>∃ (a:Addr) (ns:List Int),xs = [.ref a] /\ SqL X.K H a (ns.map V.int) /\ ns ≠ [] /\ ∀ m ∈ ns,(∀ x ∈ ns,x ≤ m)->Q (.int m) H):=by
  rintro pins s σ H xs us Q I r ⟨a,ns,rfl,hS,hne,q⟩
  obtain ⟨u,rfl,ru⟩:=vals1 r
  cases (show u = Value.ref a from ru)
  obtain ⟨its,rv,pt,_⟩:=I.list hS
  have hI:=intsAre_of rv
  have hT:s.heap.IsList a its.toArray:=pt.isList
  have hlt:a < s.heap.objs.size:=by obtain ⟨o,e,_⟩:=hT; exact Heap.lt_size e
  have hil:=ints_len hI
  have npos:0 < ns.length:=List.length_pos_iff.mpr hne
  have hval:∀ i v,its.toArray[i]? = some v->∃ t,v = Value.int (ns.getD i 0) t:=fun i v e=>hI.int_at i v (by simpa using e)
  refine call_max_walk (wpAny_pyIter_list hT ⟨s.heap.objs.size,_,_,_,_,_,_,rfl,Walks.list (A:=X.A.in1) (I.ok.hd hc) _ a (anelt' hlt (Nat.le_refl _)) its.toArray,⟨⟨_,Heap.get?_push_size _ rfl,rfl,rfl⟩,let ⟨o,e,r⟩:=hT; ⟨o,Heap.get?_push_of_some _ e,r⟩⟩,fun b hb=>?_,by simp; omega,CmpOf.ints_gt (fun i=>ns.getD i 0) hval,fun v h' tk hP hk=>?_⟩)
  · show b < (s.heap.push _).objs.size
    rw [Heap.size_push]
    simp only [List.mem_cons,List.not_mem_nil,or_false] at hb
    rcases hb with rfl | rfl
    · exact Nat.lt_succ_self _
    · exact Nat.lt_succ_of_lt hlt
  · obtain ⟨t,rfl⟩:=hval _ _ hP
    have b1:=argBest_le (bt:=fun i j=>decide (ns.getD i 0 > ns.getD j 0)) (its.toArray.size - 1)
    have hsz:its.toArray.size = ns.length:=by simp [hil]
    have hb:argBest (fun i j=>decide (ns.getD i 0 > ns.getD j 0)) (its.toArray.size - 1) < ns.length:=by omega
    refine ⟨.int _,H,I.kept fun b o e=>hk b o (fun hm=>?_) (Heap.get?_push_of_some _ e),⟨t,rfl⟩,q _ ?_ fun x hx=>?_⟩
    · have:b = s.heap.objs.size:=by simpa using hm
      exact absurd (Heap.lt_size e) (by rw [this]; exact Nat.lt_irrefl _)
    · rw [List.getD_eq_getElem?_getD,List.getElem?_eq_getElem hb,Option.getD_some]
      exact List.getElem_mem hb
    · obtain ⟨j,hj⟩:=List.mem_iff_getElem?.mp hx
      have hjl:j < ns.length:=(List.getElem?_eq_some_iff.mp hj).1
      have:=argBest_max (f:=fun i=>ns.getD i 0) (its.toArray.size - 1) j (by omega)
      rw [show ns.getD j 0 = x by rw [List.getD_eq_getElem?_getD,hj]; rfl] at this
      exact this
end
open PySem PySem.Spec PyProof.Rows Builtin Builtin.Str
def cnt (z:PySem.Str):Nat:=z.cps.toList.count 32
theorem cnt_app (x y:PySem.Str):cnt (x ++ y) = cnt x + cnt y:=by unfold cnt; rw [cps_app,List.count_append]
theorem cnt_sign (c:Nat):cnt ⟨#[c]⟩ ≤ 1:=Nat.le_trans List.count_le_length (by simp)
theorem slice_to {z:PySem.Str} {a:Int} (h0:0 ≤ a) (h1:a ≤ z.length):(Txt.slice z none (some a)).cps.toList = z.cps.toList.take a.toNat:=by
  have:=beq_iff_eq.mp (slice_closes_to (x:=z) (j:=a) ⟨h0,by rw [len_cps]; exact h1⟩)
  rw [this]
  simp
theorem slice_from {z:PySem.Str} {a:Int} (h0:0 ≤ a):(Txt.slice z (some a) none).cps.toList = z.cps.toList.drop a.toNat:=by
  by_cases h:a ≤ z.length
  · rw [slice_from_eq (b:=(z.length:Int)) h0 h rfl]
    simp only [List.toList_toArray]
    rw [List.take_of_length_le]
    rw [List.length_drop,len_cps]
    omega
  · rw [slice_beyond (by omega),List.drop_of_length_le (by rw [len_cps]; omega)]
    simp [Str.empty]
theorem cnt_cut {z:PySem.Str} {a b:Int} (h0:0 ≤ a) (h1:a ≤ z.length) (hab:a ≤ b):cnt (Txt.slice z none (some a)) + cnt (Txt.slice z (some b) none) ≤ cnt z:=by
  unfold cnt
  rw [slice_to h0 h1,slice_from (by omega)]
  have e:z.cps.toList = z.cps.toList.take a.toNat ++ ((z.cps.toList.drop a.toNat).take (b.toNat - a.toNat) ++ z.cps.toList.drop b.toNat):=by
    rw [show z.cps.toList.drop b.toNat = (z.cps.toList.drop a.toNat).drop (b.toNat - a.toNat) by rw [List.drop_drop]; congr 1; omega,List.take_append_drop,List.take_append_drop]
  have:=congrArg (List.count 32) e
  rw [List.count_append,List.count_append] at this
  omega
theorem len_cut {z:PySem.Str} {a b:Int} (h0:0 ≤ a) (h1:a ≤ z.length) (hab:a ≤ b):(Txt.slice z none (some a)).length + (Txt.slice z (some b) none).length ≤ z.length:=by
  rw [← len_cps,← len_cps,← len_cps z,slice_to h0 h1,slice_from (by omega),List.length_take,List.length_drop]
  have:=len_cps z
  omega
theorem cnt_join:∀ {ws:List PySem.Str},ws ≠ []->cnt (Str.join ⟨#[32]⟩ ws) + 1 = (ws.map cnt).sum + ws.length
  | [w],_=>by show cnt w + 1 = _; simp
  | w :: w' :: ws,_=>by
    have ih:=cnt_join (ws:=w' :: ws) (by simp)
    rw [join_cons,cnt_app,cnt_app]
    have:cnt (⟨#[32]⟩:PySem.Str) = 1:=by decide
    simp only [List.map_cons,List.sum_cons,List.length_cons] at ih ⊢
    omega
theorem split_cnt (z:PySem.Str):(Txt.split z ⟨#[32]⟩).length ≤ cnt z + 1:=by
  have hp:=split_pos z ⟨#[32]⟩
  have h:=cnt_join (ws:=Txt.split z ⟨#[32]⟩) (by intro e; rw [e] at hp; exact absurd hp (by decide))
  rw [StrLaws.join_split] at h
  omega
theorem strAt_first {x y:PySem.Str} {c:Nat} (hx:c ∉ x.cps.toList):Txt.partition (x ++ (⟨#[c]⟩:PySem.Str) ++ y) ⟨#[c]⟩ = (x,⟨#[c]⟩,y):=by
  have hcat:(x ++ (⟨#[c]⟩:PySem.Str) ++ y).cps.toList = x.cps.toList ++ c :: y.cps.toList:=cat3
  rcases partition_whole (x ++ (⟨#[c]⟩:PySem.Str) ++ y) ⟨#[c]⟩ with ⟨_,hn⟩ | ⟨i,hp,hi,hn⟩
  · exfalso
    have:c ∈ (x ++ (⟨#[c]⟩:PySem.Str) ++ y).cps.toList:=by rw [hcat]; simp
    obtain ⟨i,hi⟩:=(mem_iff_at _ c).mp this
    exact hn i hi
  · have s:=StrLaws.partition_sum (x ++ (⟨#[c]⟩:PySem.Str) ++ y) ⟨#[c]⟩
    have hf:c ∉ (Txt.partition (x ++ (⟨#[c]⟩:PySem.Str) ++ y) ⟨#[c]⟩).1.cps.toList:=by
      rw [hp]
      intro hm
      obtain ⟨k,hk⟩:=List.mem_iff_getElem?.mp hm
      have hk2:(strSub (x ++ (⟨#[c]⟩:PySem.Str) ++ y) 0 i).cps.toList = (x ++ (⟨#[c]⟩:PySem.Str) ++ y).cps.toList.take i:=by
        unfold strSub; simp
      rw [hk2] at hk
      have hki:k < i:=by
        have:=(List.getElem?_eq_some_iff.mp hk).1
        rw [List.length_take] at this; omega
      rw [List.getElem?_take_of_lt hki] at hk
      exact hn k hki ((StrLaws.subAt_one _ c k).mpr hk)
    have e2:(Txt.partition (x ++ (⟨#[c]⟩:PySem.Str) ++ y) ⟨#[c]⟩).2.1 = ⟨#[c]⟩:=by rw [hp]
    rw [e2] at s
    have h:=congrArg (fun z:PySem.Str=>z.cps.toList) s
    simp only [cat3] at h
    obtain ⟨a,b⟩:=take_free hf hx h
    refine Prod.ext (str_ext a) (Prod.ext e2 (str_ext b))
open NumText in
theorem val_lt:∀ (cs:List Nat) (a:Nat),(∀ c ∈ cs,48 ≤ c /\ c ≤ 57)->cs.foldl (fun acc c=>acc * 10 + (c - 48)) a < (a + 1) * 10 ^ cs.length
  | [],a,_=>by simp
  | c :: cs,a,h=>by
    have hc:=h c (by simp)
    have ih:=val_lt cs (a * 10 + (c - 48)) fun d hd=>h d (List.mem_cons_of_mem _ hd)
    show cs.foldl _ (a * 10 + (c - 48)) < _
    refine Nat.lt_of_lt_of_le ih ?_
    rw [List.length_cons,Nat.pow_succ,Nat.mul_comm (10 ^ cs.length) 10,← Nat.mul_assoc]
    exact Nat.mul_le_mul_right _ (by omega)
theorem digits_inj:∀ (n:Nat) (cs ds:List Nat),cs.length = n->ds.length = n->(∀ c ∈ cs,48 ≤ c /\ c ≤ 57)->(∀ c ∈ ds,48 ≤ c /\ c ≤ 57)->NumText.digitsVal cs = NumText.digitsVal ds->cs = ds
  | 0,cs,ds,h1,h2,_,_,_=>by rw [List.length_eq_zero_iff.mp h1,List.length_eq_zero_iff.mp h2]
  | n + 1,cs,ds,h1,h2,g1,g2,e=>by
    have n1:cs ≠ []:=by intro e; rw [e] at h1; simp at h1
    have n2:ds ≠ []:=by intro e; rw [e] at h2; simp at h2
    have e1:=List.dropLast_concat_getLast n1
    have e2:=List.dropLast_concat_getLast n2
    generalize cs.dropLast = a at e1
    generalize ds.dropLast = b at e2
    generalize cs.getLast n1 = c at e1
    generalize ds.getLast n2 = d at e2
    subst e1
    subst e2
    rw [NumText.digitsVal_snoc,NumText.digitsVal_snoc] at e
    have gc:=g1 c (by simp)
    have gd:=g2 d (by simp)
    rw [List.length_append,List.length_singleton] at h1 h2
    rw [digits_inj n a b (by omega) (by omega) (fun x hx=>g1 x (List.mem_append_left _ hx)) (fun x hx=>g2 x (List.mem_append_left _ hx)) (by omega),show c = d by omega]
theorem num_val {z:PySem.Str} (h:isNum z = true) (h1:1 ≤ z.length) (h2:z.length ≤ 20):intOf z = ((NumText.digitsVal z.cps.toList:Nat):Int) /\ intOf z < 10 ^ 20:=by
  have hd:∀ c ∈ z.cps.toList,48 ≤ c /\ c ≤ 57:=fun c hc=>figB_digit (List.all_eq_true.mp h c hc)
  have e:=intText_digits (x:=z) hd (by intro e; rw [← len_cps,e] at h1; simp at h1) (by omega)
  have e2:intOf z = ((NumText.digitsVal z.cps.toList:Nat):Int):=by unfold intOf; rw [e]; rfl
  refine ⟨e2,?_⟩
  have:=val_lt z.cps.toList 0 hd
  rw [e2]
  have h3:NumText.digitsVal z.cps.toList < 10 ^ 20:=Nat.lt_of_lt_of_le this (by rw [Nat.zero_add,Nat.one_mul,len_cps]; exact Nat.pow_le_pow_right (by decide) h2)
  omega
theorem ck_back {z:PySem.Str} (h:isNum z = true) (hl:z.length = 20):ckT (intOf z) = z:=by
  obtain ⟨e,hb⟩:=num_val h (by omega) (by omega)
  have h0:0 ≤ intOf z:=by rw [e]; omega
  have hd:∀ c ∈ z.cps.toList,48 ≤ c /\ c ≤ 57:=fun c hc=>figB_digit (List.all_eq_true.mp h c hc)
  have i1:=ckT_int h0 hb
  have e1:=intText_digits (x:=ckT (intOf z)) (ckT_digit h0 hb) (by intro e; have:=ckT_len h0 hb; rw [← len_cps,e] at this; exact absurd this (by decide)) (by rw [ckT_len h0 hb]; decide)
  rw [i1] at e1
  have e3:=Option.some.inj e1
  refine str_ext (digits_inj 20 _ _ (by rw [len_cps,ckT_len h0 hb]) (by rw [len_cps,hl]) (ckT_digit h0 hb) hd ?_)
  omega
theorem num_back {z:PySem.Str} (h:okW z = true):numT (intOf z) = z:=by
  have hk:=h
  simp only [okW,Bool.and_eq_true,decide_eq_true_eq,Bool.or_eq_true,Bool.not_eq_true',decide_eq_false_iff_not] at hk
  obtain ⟨⟨⟨h1,h2⟩,hz⟩,hn⟩:=hk
  have hd:∀ c ∈ z.cps.toList,48 ≤ c /\ c ≤ 57:=fun c hc=>figB_digit (List.all_eq_true.mp hn c hc)
  obtain ⟨e,_⟩:=num_val hn h1 h2
  refine str_ext ?_
  rw [e]
  unfold numT
  rw [PySem.W.KIN.signs_num]
  have hl:=len_cps z
  have e2:=NumText.toDigits_digitsVal (z.length - 1) z.cps.toList (by rw [hl]; omega) hd (by
    rcases hz with hz | hz
    · left; omega
    · right
      cases hc:z.cps.toList with
      | nil=>rw [hc] at hl; simp at hl; omega
      | cons c r =>
        rw [hc] at hz hd
        refine ⟨c,r,rfl,?_⟩
        have:=hd c (by simp)
        have:c ≠ 48:=fun e=>hz (by rw [e]; rfl)
        omega)
  rw [e2,List.map_map]
  refine (List.map_congr_left fun c hc=>?_).trans (List.map_id _)
  have:=hd c hc
  show (Char.ofNat c).toNat = c
  have g:∀ c:Nat,c < 58->(Char.ofNat c).toNat = c:=by decide
  exact g c (by omega)
theorem rise_len:∀ {l:List Nat} {lo hi:Nat},l.Pairwise (· < ·)->lo ≤ hi->(∀ x ∈ l,lo ≤ x /\ x < hi)->l.length + lo ≤ hi
  | [],_,_,_,h,_=>by simpa using h
  | x :: l,lo,hi,hp,_,hb=>by
    have hx:=hb x (by simp)
    rw [List.pairwise_cons] at hp
    have:=rise_len (lo:=x + 1) (hi:=hi) hp.2 (by omega) fun y hy=>⟨by have:=hp.1 y hy; omega,(hb y (List.mem_cons_of_mem _ hy)).2⟩
    rw [List.length_cons]
    omega
end L2
namespace Mine
open PySem L2
seal PE PA PS PSs PT PTs PG PGs PI
def top (i:Nat):Stmt:=PySem.Challenge.pw_keepsakes_k20_lines_refused.main.body.getD i (.Pass ⟨0,0,0,0⟩)
abbrev s_NoWord___init__:Stmt:=inClass (top 7) 0
abbrev s_NoLine___init__:Stmt:=inClass (top 8) 0
abbrev s_turned:Stmt:=top 10
abbrev s_check_of:Stmt:=top 11
abbrev s_Piece___init__:Stmt:=inClass (top 13) 0
abbrev s_Whole___init__:Stmt:=inClass (top 14) 0
abbrev s_Whole_kind:Stmt:=inClass (top 14) 2
abbrev s_Gain___init__:Stmt:=inClass (top 15) 0
abbrev s_Gain_kind:Stmt:=inClass (top 15) 2
abbrev s_writes_number:Stmt:=top 18
abbrev s_number_of:Stmt:=top 19
abbrev s_change_of:Stmt:=top 20
abbrev s_piece_of:Stmt:=top 24
abbrev s_piece_by_words:Stmt:=top 25
abbrev s_check_by_word:Stmt:=top 26
abbrev s_is_within:Stmt:=top 27
abbrev s_is_formed:Stmt:=top 28
abbrev s__law_cell:Stmt:=top 30
abbrev s__law_whole:Stmt:=top 31
abbrev s__law_stir:Stmt:=top 32
abbrev s__law_block:Stmt:=top 33
abbrev s__law_base:Stmt:=top 34
abbrev s__law_after:Stmt:=top 35
abbrev s__law_rows:Stmt:=top 36
abbrev s__law_same_rows:Stmt:=top 37
abbrev s__law_line:Stmt:=top 38
abbrev s__law_sign:Stmt:=top 39
abbrev s__law_odd_word:Stmt:=top 40
abbrev s__law_short:Stmt:=top 41
abbrev s__law_spoilt_sign:Stmt:=top 42
abbrev s__law_spoilt_word:Stmt:=top 43
abbrev s__law_number:Stmt:=top 44
abbrev s__law_row:Stmt:=top 45
abbrev s__law_read:Stmt:=top 46
abbrev s__law_refused:Stmt:=top 47
abbrev s_law:Stmt:=top 48
theorem sc_NoWord___init__:FnScope ["self","word"] ["self","word"] (defScope s_NoWord___init__):=⟨rfl,rfl,rfl,by decide +kernel,rfl,by decide +kernel,by decide +kernel⟩
theorem sc_NoLine___init__:FnScope ["self","line"] ["self","line"] (defScope s_NoLine___init__):=⟨rfl,rfl,rfl,by decide +kernel,rfl,by decide +kernel,by decide +kernel⟩
theorem sc_turned:FnScope ["number"] ["number"] (defScope s_turned):=⟨rfl,rfl,rfl,by decide +kernel,rfl,by decide +kernel,by decide +kernel⟩
theorem sc_check_of:FnScope ["start","day","rows","numbers","place","block","check","number"] ["start","day","rows"] (defScope s_check_of):=⟨rfl,rfl,rfl,by decide +kernel,rfl,by decide +kernel,by decide +kernel⟩
theorem sc_Piece___init__:FnScope ["self","start","day","rows","check","fitting"] ["self","start","day","rows","check"] (defScope s_Piece___init__):=⟨rfl,rfl,rfl,by decide +kernel,rfl,by decide +kernel,by decide +kernel⟩
theorem sc_Whole___init__:FnScope ["self","day","rows","check"] ["self","day","rows","check"] (defScope s_Whole___init__):=⟨rfl,rfl,rfl,by decide +kernel,rfl,by decide +kernel,by decide +kernel⟩
theorem sc_Whole_kind:FnScope ["self"] ["self"] (defScope s_Whole_kind):=⟨rfl,rfl,rfl,by decide +kernel,rfl,by decide +kernel,by decide +kernel⟩
theorem sc_Gain___init__:FnScope ["self","base","day","rows","check"] ["self","base","day","rows","check"] (defScope s_Gain___init__):=⟨rfl,rfl,rfl,by decide +kernel,rfl,by decide +kernel,by decide +kernel⟩
theorem sc_Gain_kind:FnScope ["self"] ["self"] (defScope s_Gain_kind):=⟨rfl,rfl,rfl,by decide +kernel,rfl,by decide +kernel,by decide +kernel⟩
theorem sc_writes_number:FnScope ["word"] ["word"] (defScope s_writes_number):=⟨rfl,rfl,rfl,by decide +kernel,rfl,by decide +kernel,by decide +kernel⟩
theorem sc_number_of:FnScope ["word"] ["word"] (defScope s_number_of):=⟨rfl,rfl,rfl,by decide +kernel,rfl,by decide +kernel,by decide +kernel⟩
theorem sc_change_of:FnScope ["word","parts"] ["word"] (defScope s_change_of):=⟨rfl,rfl,rfl,by decide +kernel,rfl,by decide +kernel,by decide +kernel⟩
theorem sc_piece_of:FnScope ["line","words","piece"] ["line"] (defScope s_piece_of):=⟨rfl,rfl,rfl,by decide +kernel,rfl,by decide +kernel,by decide +kernel⟩
theorem sc_piece_by_words:FnScope ["words","many","days","rows","check"] ["words","many"] (defScope s_piece_by_words):=⟨rfl,rfl,rfl,by decide +kernel,rfl,by decide +kernel,by decide +kernel⟩
theorem sc_check_by_word:FnScope ["word"] ["word"] (defScope s_check_by_word):=⟨rfl,rfl,rfl,by decide +kernel,rfl,by decide +kernel,by decide +kernel⟩
theorem sc_is_within:FnScope ["piece"] ["piece"] (defScope s_is_within):=⟨rfl,rfl,rfl,by decide +kernel,rfl,by decide +kernel,by decide +kernel⟩
theorem sc_is_formed:FnScope ["piece","places"] ["piece"] (defScope s_is_formed):=⟨rfl,rfl,rfl,by decide +kernel,rfl,by decide +kernel,by decide +kernel⟩
theorem sc__law_cell:FnScope ["_law_script","_law_k"] ["_law_script","_law_k"] (defScope s__law_cell):=⟨rfl,rfl,rfl,by decide +kernel,rfl,by decide +kernel,by decide +kernel⟩
theorem sc__law_whole:FnScope ["_law_found"] ["_law_found"] (defScope s__law_whole):=⟨rfl,rfl,rfl,by decide +kernel,rfl,by decide +kernel,by decide +kernel⟩
theorem sc__law_stir:FnScope ["_law_cell_here","_law_k","_law_number_here"] ["_law_cell_here","_law_k"] (defScope s__law_stir):=⟨rfl,rfl,rfl,by decide +kernel,rfl,by decide +kernel,by decide +kernel⟩
theorem sc__law_block:FnScope ["_law_cell_here","_law_k"] ["_law_cell_here","_law_k"] (defScope s__law_block):=⟨rfl,rfl,rfl,by decide +kernel,rfl,by decide +kernel,by decide +kernel⟩
theorem sc__law_base:FnScope ["_law_cell_here"] ["_law_cell_here"] (defScope s__law_base):=⟨rfl,rfl,rfl,by decide +kernel,rfl,by decide +kernel,by decide +kernel⟩
theorem sc__law_after:FnScope ["_law_base_here","_law_cell_here"] ["_law_base_here","_law_cell_here"] (defScope s__law_after):=⟨rfl,rfl,rfl,by decide +kernel,rfl,by decide +kernel,by decide +kernel⟩
theorem sc__law_rows:FnScope ["_law_script","_law_begin","_law_wide","_law_whole_here","_law_rows_here","_law_k","_law_cell_here"] ["_law_script","_law_begin","_law_wide","_law_whole_here"] (defScope s__law_rows):=⟨rfl,rfl,rfl,by decide +kernel,rfl,by decide +kernel,by decide +kernel⟩
theorem sc__law_same_rows:FnScope ["_law_found","_law_rows_here","_law_one","_law_row_here"] ["_law_found","_law_rows_here"] (defScope s__law_same_rows):=⟨rfl,rfl,rfl,by decide +kernel,rfl,by decide +kernel,by decide +kernel⟩
theorem sc__law_line:FnScope ["_law_whole_here","_law_base_here","_law_day","_law_rows_here","_law_check","_law_words","_law_figures"] ["_law_whole_here","_law_base_here","_law_day","_law_rows_here","_law_check"] (defScope s__law_line):=⟨rfl,rfl,rfl,by decide +kernel,rfl,by decide +kernel,by decide +kernel⟩
theorem sc__law_sign:FnScope ["_law_cell_here","_law_some"] ["_law_cell_here"] (defScope s__law_sign):=⟨rfl,rfl,rfl,by decide +kernel,rfl,by decide +kernel,by decide +kernel⟩
theorem sc__law_odd_word:FnScope ["_law_cell_here","_law_some"] ["_law_cell_here"] (defScope s__law_odd_word):=⟨rfl,rfl,rfl,by decide +kernel,rfl,by decide +kernel,by decide +kernel⟩
theorem sc__law_short:FnScope ["_law_cell_here","_law_some"] ["_law_cell_here"] (defScope s__law_short):=⟨rfl,rfl,rfl,by decide +kernel,rfl,by decide +kernel,by decide +kernel⟩
theorem sc__law_spoilt_sign:FnScope ["_law_line_here","_law_way","_law_cell_here","_law_other","_law_at"] ["_law_line_here","_law_way","_law_cell_here","_law_other"] (defScope s__law_spoilt_sign):=⟨rfl,rfl,rfl,by decide +kernel,rfl,by decide +kernel,by decide +kernel⟩
theorem sc__law_spoilt_word:FnScope ["_law_line_here","_law_way","_law_cell_here","_law_other","_law_words","_law_at","_law_to","_law_kept","_law_number_here"] ["_law_line_here","_law_way","_law_cell_here","_law_other"] (defScope s__law_spoilt_word):=⟨rfl,rfl,rfl,by decide +kernel,rfl,by decide +kernel,by decide +kernel⟩
theorem sc__law_number:FnScope ["_law_word","_law_sign_here"] ["_law_word"] (defScope s__law_number):=⟨rfl,rfl,rfl,by decide +kernel,rfl,by decide +kernel,by decide +kernel⟩
theorem sc__law_row:FnScope ["_law_word","_law_place","_law_middle","_law_block_here"] ["_law_word"] (defScope s__law_row):=⟨rfl,rfl,rfl,by decide +kernel,rfl,by decide +kernel,by decide +kernel⟩
theorem sc__law_read:FnScope ["_law_line_here","_law_words","_law_many","_law_numbers","_law_rows_here","_law_check","_law_places","_law_k"] ["_law_line_here"] (defScope s__law_read):=⟨rfl,rfl,rfl,by decide +kernel,rfl,by decide +kernel,by decide +kernel⟩
theorem sc__law_refused:FnScope ["_law_line_here","_law_told","e"] ["_law_line_here"] (defScope s__law_refused):=⟨rfl,rfl,rfl,by decide +kernel,rfl,by decide +kernel,by decide +kernel⟩
theorem sc_law:FnScope ["_law_script","_law_first","_law_whole_here","_law_base_here","_law_day","_law_wide","_law_rows_here","_law_check","_law_line_here","_law_way","_law_due","_law_found"] ["_law_script"] (defScope s_law):=⟨rfl,rfl,rfl,by decide +kernel,rfl,by decide +kernel,by decide +kernel⟩
theorem gNameA {k:Nat} {x:V} {σ:St} (σ':St) {H:Hp} {N:St->Hp->Prop} (h:N σ' H) (e:σ.set k (some x) = σ':=by rfl):gName k x σ H N:=by subst e; exact h
theorem cutA {S1 R:TS} {D:Ends} {σ:St} {H:Hp} (Post:St->Hp->Prop) (h:∀ N:St->Hp->Prop,(∀ σ' H',Post σ' H'->N σ' H')->S1 { D with nx:=N } σ H) (hr:∀ σ' H',Post σ' H'->R D σ' H'):tSeq S1 R D σ H:=h (R D) hr
theorem if_yes {c:TT} {t u:TS} {D:Ends} {σ:St} {H:Hp} (hc:∀ Q:Bool->Hp->Prop,Q true H->c σ H Q) (h:t D σ H):tIfS c t u D σ H:=hc _ (iteT h)
theorem if_no {c:TT} {t u:TS} {D:Ends} {σ:St} {H:Hp} (hc:∀ Q:Bool->Hp->Prop,Q false H->c σ H Q) (h:u D σ H):tIfS c t u D σ H:=hc _ (iteF h)
theorem if_B {c:TT} {t u:TS} {D:Ends} {σ:St} {H:Hp} (b:Bool) (P:Hp->Prop) (hc:∀ Q:Bool->Hp->Prop,(∀ H',P H'->Q b H')->c σ H Q) (ht:b = true->∀ H',P H'->t D σ H') (hu:b = false->∀ H',P H'->u D σ H'):tIfS c t u D σ H:=hc _ fun H' p=>by
  cases b with
  | true=>exact iteT (ht rfl H' p)
  | false=>exact iteF (hu rfl H' p)
def sp_whole:Sp:=fun vs H Q _=>∃ n:Int,vs = [.int n] /\ Q (.bl true) H
theorem lk_rows2 {wh:Bool} {b d:Nat} {r:Addr} {c:Int} {f:Bool}:List.lookup ("rows":Str) (pfs wh b d r c f) = some (V.ref r):=by
  cases wh <;> (show List.lookup _ (_ :: _ :: _) = _; rw [List.lookup_cons,show (("rows":Str) == "day") = false by decide +kernel,List.lookup_cons]; simp)
theorem nodup_few:∀ (m:Nat) (l:List Int),l.Nodup->(∀ x ∈ l,0 ≤ x /\ x < (m:Int))->l.length ≤ m
  | 0,l,_,h=>by
    cases l with
    | nil=>exact Nat.le_refl _
    | cons x r=>have:=h x (by simp); omega
  | m + 1,l,hn,h=>by
    have ih:=nodup_few m (l.erase (m:Int)) (hn.erase _) fun x hx=>by
      have h1:=h x (List.mem_of_mem_erase hx)
      have h2:x ≠ (m:Int):=fun z=>by rw [z] at hx; exact (List.Nodup.not_mem_erase hn) hx
      omega
    by_cases hm:(m:Int) ∈ l
    · rw [List.length_erase_of_mem hm] at ih; omega
    · rw [List.erase_of_not_mem hm] at ih; omega
theorem few63 {wd:Nat} (h:wd ≤ 40) {ns:List Int} (hx:∀ x ∈ ns,0 ≤ x /\ x < (wd:Int)):(dd ns).length ≤ 63:=by
  have:=nodup_few wd (dd ns) (dedup_nodup _ _) fun x h=>hx x (dd_mem.mp h)
  omega
def cellI (ns:List Int) (k:Int):Int:=if k < (ns.length:Int) then ns.getD k.toNat 0 else 37 * k + 11
def stirI (c k:Int):Int:=(c + 7919 * k) * 48271 % 2147483647 * ((c + 7919 * k) * 48271 % 2147483647) % 2147483629
def blockI (c k:Int):Int:=if (c + k) % 4 = 0 then (c / 4 + k) % 3 else if (c + k) % 4 = 1 then 18446744073709551616 - 1 - (c / 4 + k) % 3 else if (c + k) % 4 = 2 then c % 18446744073709551616 else
  (stirI c k * 8589934592 + stirI c (k + 50)) % 18446744073709551616
theorem block_bd (c k:Int):0 ≤ blockI c k /\ blockI c k < 2 ^ 64:=by
  unfold blockI
  split
  · omega
  · split
    · omega
    · split
      · omega
      · exact ⟨Int.emod_nonneg _ (by first | decide | (dsimp only; decide)),Int.emod_lt_of_pos _ (by first | decide | (dsimp only; decide))⟩
def sp_cell (K:PySem.W.Frag):Sp:=fun vs H Q _=>∃ (a:Addr) (ns:List Int) (k:Nat),vs = [.ref a,.int (k:Int)] /\ SqL K H a (ns.map V.int) /\ Q (.int (cellI ns k)) H
def sp_stir:Sp:=fun vs H Q _=>∃ c k:Int,vs = [.int c,.int k] /\ Q (.int (stirI c k)) H
def sp_block:Sp:=fun vs H Q _=>∃ c k:Int,vs = [.int c,.int k] /\ Q (.int (blockI c k)) H
def sp_writes:Sp:=fun vs H Q _=>∃ z:Str,vs = [.str z] /\ z.length ≤ 4900 /\ ∀ H',Same H H'->Q (.bl (okW z)) H'
def gN (n:Int):Prop:=0 ≤ n /\ n < 10 ^ 20
structure LinOk (u:PcU):Prop where
  d9:u.d ≤ 1000000000
  b9:u.b ≤ 1000000000
  rows:∀ r ∈ u.rows,r.1 < 40 /\ r.2 < 2 ^ 64
  len:u.rows.length ≤ 40
  c0:0 ≤ u.c /\ u.c < 2 ^ 64
  wh_:u.wh = true->u.b = 0 /\ 0 < u.rows.length /\ u.rows.map Prod.fst = List.range u.rows.length
  gn_:u.wh = false->u.b < u.d /\ (u.rows.map Prod.fst).Pairwise (· < ·)
def rowC (r:Nat × Nat):Int × Int:=((r.1:Int),(r.2:Int))
def headU (u:PcU):List Str:=if u.wh = true then [Str.ofString "whole",numT (u.d:Int)] else [Str.ofString "gain",numT (u.b:Int),numT (u.d:Int)]
def wordsU (u:PcU):List Str:=headU u ++ u.rows.map (fun r=>wordOf (rowC r)) ++ [ckT u.c]
def lineU (u:PcU):Str:=Str.join (Str.ofString " ") (wordsU u)
section
variable {u:PcU} (h:LinOk u)
include h
theorem LinOk.good:∀ r ∈ u.rows,goodC (rowC r):=fun r hr=>by
  have:=h.rows r hr
  unfold goodC rowC
  refine ⟨⟨by show 0 ≤ ((r.1:Nat):Int); omega,by show ((r.1:Nat):Int) < 10 ^ 20; omega⟩,by show 0 ≤ ((r.2:Nat):Int); omega,by show ((r.2:Nat):Int) < 10 ^ 20; omega⟩
theorem LinOk.gd:gN (u.d:Int):=⟨by omega,by have:=h.d9; omega⟩
theorem LinOk.gb:gN (u.b:Int):=⟨by omega,by have:=h.b9; omega⟩
theorem LinOk.gc:0 ≤ u.c /\ u.c < 10 ^ 20:=⟨h.c0.1,by have:=h.c0.2; omega⟩
theorem words_free:∀ p ∈ wordsU u,32 ∉ p.cps.toList /\ p.length ≤ 41:=fun p hp=>by
  unfold wordsU headU at hp
  rcases List.mem_append.mp hp with hp | hp
  · rcases List.mem_append.mp hp with hp | hp
    · have hd:=h.gd
      have hb:=h.gb
      have num:∀ {n:Int},gN n->32 ∉ (numT n).cps.toList /\ (numT n).length ≤ 41:=fun hn=>⟨numT_free hn.1 (by decide),by have:=numT_len hn.1 hn.2; omega⟩
      split at hp
      · simp only [List.mem_cons,List.not_mem_nil,or_false] at hp
        rcases hp with rfl | rfl
        · exact ⟨by decide +kernel,by decide +kernel⟩
        · exact num hd
      · simp only [List.mem_cons,List.not_mem_nil,or_false] at hp
        rcases hp with rfl | rfl | rfl
        · exact ⟨by decide +kernel,by decide +kernel⟩
        · exact num hb
        · exact num hd
    · obtain ⟨r,hr,rfl⟩:=List.mem_map.mp hp
      exact ⟨wordOf_free (h.good r hr),wordOf_len (h.good r hr)⟩
  · rw [List.mem_singleton.mp hp]
    exact ⟨ckT_free h.gc.1 h.gc.2 (by decide),by rw [ckT_len h.gc.1 h.gc.2]; decide⟩
omit h in
theorem words_ne:wordsU u ≠ []:=by unfold wordsU; simp
theorem line_split:Txt.split (lineU u) (Str.ofString " ") = wordsU u:=by
  unfold lineU
  rw [spS]
  exact split_join words_ne fun p hp=>(words_free h p hp).1
omit h in
theorem sum_len:∀ {l:List Str},(∀ p ∈ l,p.length ≤ 41)->(l.map (·.length)).sum ≤ 41 * l.length
  | [],_=>by simp
  | x :: r,hx=>by
    have h1:=hx x (by simp)
    have h2:=sum_len (l:=r) fun p hp=>hx p (List.mem_cons_of_mem _ hp)
    simp only [List.map_cons,List.sum_cons,List.length_cons]
    omega
end
theorem cut_mid {A B C:List V}:cutV (A ++ (B ++ C)) (some (A.length:Int)) (some ((A.length + B.length:Nat):Int)) = B:=by
  unfold cutV
  rw [HT.sIx_nat,HT.sIx_nat,List.length_append,List.length_append]
  rw [show min A.length (A.length + (B.length + C.length)) = A.length by omega,show min (A.length + B.length) (A.length + (B.length + C.length)) = A.length + B.length by omega]
  rw [List.drop_left,show A.length + B.length - A.length = B.length by omega,List.take_left]
theorem cut_m1 {A B:List V} {c:V}:cutV (A ++ (B ++ [c])) (some (A.length:Int)) (some (-1)) = B:=by
  unfold cutV
  have e:HT.sIx (A ++ (B ++ [c])).length (A ++ (B ++ [c])).length (some (-1)) = A.length + B.length:=by
    unfold HT.sIx
    simp only []
    rw [if_pos (by decide),List.length_append,List.length_append,List.length_singleton]
    omega
  rw [HT.sIx_nat,e,List.length_append,List.length_append]
  rw [show min A.length (A.length + (B.length + [c].length)) = A.length by omega]
  rw [List.drop_left,show A.length + B.length - A.length = B.length by omega,List.take_left]
def kindU (u:PcU):Str:=if u.wh = true then Str.ofString "whole" else Str.ofString "gain"
def daysU (u:PcU):List Int:=if u.wh = true then [(u.d:Int)] else [(u.b:Int),(u.d:Int)]
theorem headU_eq (u:PcU):headU u = kindU u :: (daysU u).map numT:=by
  unfold headU kindU daysU
  split <;> rfl
theorem rows_of_ch {H:Hp} {L:List V} {rows:List (Nat × Nat)} (h:ChAt H L (rows.map rowC)):RowsAt H L rows :=
  ⟨by rw [h.len,List.length_map],fun i v e=>by
    obtain ⟨t,r,h1,h2,h3⟩:=h.get i v e
    rw [List.getElem?_map] at h2
    obtain ⟨r0,h4,rfl⟩:=Option.map_eq_some_iff.mp h2
    exact ⟨t,r0,h1,h4,h3⟩⟩
def sp_base:Sp:=fun vs H Q _=>∃ c:Int,vs = [.int c] /\ ∀ (b:Nat) H',b < 1000000000->Same H H'->Q (.int (b:Int)) H'
def sp_after:Sp:=fun vs H Q _=>∃ (b:Nat) (c:Int),vs = [.int (b:Int),.int c] /\ b < 1000000000 /\ ∀ d:Nat,b < d->d ≤ 1000000000->Q (.int (d:Int)) H
def sp_srows:Sp:=fun vs H Q _=>∃ (f l:Addr) (R L:List V) (rows:List (Nat × Nat)),vs = [.ref f,.ref l] /\ H f = some (.tup R) /\ H l = some (.lst L) /\ RowsAt H R rows /\ RowsAt H L rows /\ ∀ H',Same H H'->Q (.bl true) H'
def sp_law (K:PySem.W.Frag):Sp:=fun vs H Q _=>∃ (a:Addr) (ns:List Int),vs = [.ref a] /\ SqL K H a (ns.map V.int) /\ ns.length ≤ 63 /\ ∀ H',Q (.bl true) H'
def ExcU (H:Hp) (e C:Addr):Prop:=∃ od,H e = some (exO false false e C od)
def sp_number (C:Addr):Sp:=fun vs H Q E=>∃ z:Str,vs = [.str z] /\ z.length ≤ 4900 /\ (okW z = true->∀ H',Same H H'->Q (.int (intOf z)) H') /\ (okW z = false->∀ e H',ExcU H' e C->Same H H'->E (.ref C) (some e) H')
theorem raise1U {K:PySem.W.Frag} {C:Addr} {f:Str} {y:V} {H1:Hp} {E:XK} (c:XCls K C) (h:∀ e H',ExcU H' e C->Same H1 H'->E (.ref C) (some e) H') :
    [y].length ≤ sizeLine /\ ∀ x,H1 x = none->sp_x1 C f (.ref x :: [y]) (upd H1 x (exO true false x C none)) (fun v H2=>v = .non /\ ∃ e C' od,V.ref x = .ref e /\ H2 e = some (exO true false e C' od) /\ XCls K C' /\ E (.ref C') (some e) (upd H2 e (exO false false e C' od))) E0 :=
  ⟨by show 1 ≤ sizeLine; decide,fun x hx=>⟨x,y,rfl,upd_same,fun dx hdx=>⟨rfl,x,C,some dx,rfl,upd_same,c,let ⟨_,b⟩:=excAt_made hx hdx; h x _ ⟨some dx,upd_same⟩ b⟩⟩⟩
theorem rs1 {K:PySem.W.Frag} {C CH e:Addr} {odh:Option Addr} {f:Str} {y:V} {H1:Hp} {E:XK} (c:XCls K C) (he:H1 e = some (exO false false e CH odh)) (h:∀ e2 H',ExcAt H' e2 C [(f,y)]->Same H1 H'->E (.ref C) (some e2) H') :
    [y].length ≤ sizeLine /\ ∀ x,H1 x = none->sp_x1 C f (.ref x :: [y]) (upd H1 x (exO true false x C none)) (fun v H2=>v = .non /\ ∃ e2 C2 od od2,V.ref x = .ref e2 /\ e ≠ e2 /\ H2 e = some (exO false false e CH od) /\ H2 e2 = some (exO true false e2 C2 od2) /\ XCls K C2 /\ E (.ref C2) (some e2) (upd H2 e2 (exO false true e2 C2 od2))) E0:=by
  refine ⟨by show 1 ≤ sizeLine; decide,fun x hx=>⟨x,y,rfl,upd_same,fun dx hdx=>?_⟩⟩
  have hne:dx ≠ x:=fun e=>by rw [e,upd_same] at hdx; cases hdx
  have hn:H1 dx = none:=by rw [upd_ne hne] at hdx; exact hdx
  have n1:=ne_of_none he hx
  have n2:=ne_of_none he hn
  refine ⟨rfl,x,C,odh,some dx,rfl,n1,by rw [upd_ne n1,upd_ne n2,upd_ne n1]; exact he,upd_same,c,h x _ ⟨false,true,some dx,upd_same,?_,hne⟩ fun b o q=>?_⟩
  · rw [upd_ne hne,upd_ne hne,upd_same]
  · have h1:=ne_of_none q hx
    have h2:=ne_of_none q hn
    rw [upd_ne h1,upd_ne h1,upd_ne h2,upd_ne h1]; exact q
theorem split_leY {z p y:Str} (hp:p ∈ Txt.split z y):p.length ≤ z.length:=by
  have e:=StrLaws.join_split z y
  have h:=congrArg PySem.Str.length e
  rw [← StrLaws.glued_eq_join,size_glued] at h
  have:∀ {l:List Nat} {n:Nat},n ∈ l->n ≤ l.sum:=by
    intro l
    induction l with
    | nil=>intro n h; cases h
    | cons a l ih =>
      intro n h
      rw [List.sum_cons]
      rcases List.mem_cons.mp h with rfl | h
      · omega
      · have:=ih h; omega
  have:=this (List.mem_map_of_mem (f:=(·.length)) hp)
  omega
theorem split_manyY {z y:Str} (hy:1 ≤ y.length):(Txt.split z y).length ≤ z.length + 1:=by
  have e:=StrLaws.join_split z y
  have h:=congrArg PySem.Str.length e
  rw [← StrLaws.glued_eq_join,size_glued] at h
  have:(Txt.split z y).length - 1 ≤ ((Txt.split z y).length - 1) * y.length:=Nat.le_mul_of_pos_right _ hy
  omega
theorem split_ne {z y:Str}:Txt.split z y ≠ []:=fun h=>by have:=PyProof.Rows.split_pos z y; rw [h] at this; exact absurd this (by decide)
theorem intOf_pos {z:Str} (h:okW z = true):0 ≤ intOf z:=by
  simp only [okW,Bool.and_eq_true,decide_eq_true_eq] at h
  have h1:=h.1.1.1
  have e:=intText_digits (x:=z) (fun c hc=>figB_digit (List.all_eq_true.mp h.2 c hc)) (by intro e; unfold Str.length at h1; rw [← Array.length_toList,e] at h1; simp at h1) (by omega)
  unfold intOf
  rw [e]
  exact Int.natCast_nonneg _
theorem okW_short {z:Str} (h:okW z = true):z.length ≤ 20:=by
  simp only [okW,Bool.and_eq_true,decide_eq_true_eq] at h; exact h.1.1.2
theorem str_at {P:List Str} {i:Nat} {x:V} (h:(P.map V.str)[i]? = some x):∃ p,P[i]? = some p /\ V.str p = x:=by
  rw [List.getElem?_map] at h
  obtain ⟨t,a,b⟩:=Option.map_eq_some_iff.mp h
  exact ⟨t,a,b⟩
theorem small5000 {n:Nat} (h:n ≤ 5000):n < sizeLine:=Nat.lt_of_le_of_lt h (by decide)
theorem big5 {n:Nat} (h:n ≤ 5000):n ≤ sizeLine:=Nat.le_of_lt (small5000 h)
def chg (z:Str):Option (Int × Int):=match Txt.split z (Str.ofString "=") with
  | [a,b]=>if okW a = true /\ okW b = true then some (intOf a,intOf b) else none
  | _=>none
def ckB (z:Str):Bool:=decide (z.length = 20) && isNum z
def rowN (c:Int × Int):Nat × Nat:=(c.1.toNat,c.2.toNat)
def uOf (dws rws:List Str) (cw:Str):PcU:=⟨decide (dws.length = 1),cond (decide (dws.length = 1)) 0 (intOf (dws.headD cw)).toNat,(intOf (dws.getLastD cw)).toNat,(rws.filterMap chg).map rowN,intOf cw⟩
def okL (dws rws:List Str) (cw:Str):Bool:=dws.all okW && rws.all (fun r=>(chg r).isSome) && ckB cw
def within (u:PcU):Bool:=decide (u.d ≤ 1000000000) && decide (u.c ≤ 18446744073709551615) && u.rows.all fun r=>decide (r.1 < 40) && decide (r.2 ≤ 18446744073709551615)
def formed (u:PcU):Bool:=if u.wh = true then decide (0 < u.rows.length) && decide (u.rows.map Prod.fst = List.range u.rows.length) else decide (u.b < u.d) && decide ((u.rows.map Prod.fst).Pairwise (· < ·))
def sp_changeG (C:Addr):Sp:=fun vs H Q E=>∃ z:Str,vs = [.str z] /\ z.length ≤ 4900 /\ (∀ c,chg z = some c->∀ t H',H' t = some (.tup [.int c.1,.int c.2])->Same H H'->Q (.ref t) H') /\ (chg z = none->∀ e H',ExcU H' e C->Same H H'->E (.ref C) (some e) H')
def sp_bywordG (C:Addr):Sp:=fun vs H Q E=>∃ z:Str,vs = [.str z] /\ z.length ≤ 4900 /\ (ckB z = true->∀ H',Same H H'->Q (.int (intOf z)) H') /\ (ckB z = false->∀ e H',ExcU H' e C->Same H H'->E (.ref C) (some e) H')
def kindW (n:Nat) (w0:Str):Prop:=(n = 1 /\ w0 = Str.ofString "whole") ∨ (n = 2 /\ w0 = Str.ofString "gain")
def sp_bywordsG (CW CG CN:Addr):Sp:=fun vs H Q E=>∃ (l:Addr) (w0:Str) (dws rws:List Str) (cw:Str),vs = [.ref l,.int (dws.length:Int)] /\ H l = some (.lst ((w0 :: (dws ++ (rws ++ [cw]))).map V.str)) /\ kindW dws.length w0 /\ rws.length ≤ 90 /\ (∀ x ∈ dws ++ (rws ++ [cw]),x.length ≤ 4900) ∧
  (okL dws rws cw = true->∀ p H',PAt CW CG H' p (uOf dws rws cw).wh (uOf dws rws cw).b (uOf dws rws cw).d (uOf dws rws cw).rows (uOf dws rws cw).c->Same H H'->Q (.ref p) H') ∧
  (okL dws rws cw = false->∀ e H',ExcU H' e CN->Same H H'->E (.ref CN) (some e) H')
def sp_withinG (CW CG:Addr):Sp:=fun vs H Q _=>∃ (p:Addr) (u:PcU),vs = [.ref p] /\ PAt CW CG H p u.wh u.b u.d u.rows u.c /\ u.rows.length ≤ 90 /\ ∀ H',Same H H'->Q (.bl (within u)) H'
def sp_formedG (CW CG:Addr):Sp:=fun vs H Q _=>∃ (p:Addr) (u:PcU),vs = [.ref p] /\ PAt CW CG H p u.wh u.b u.d u.rows u.c /\ u.rows.length ≤ 90 /\ within u = true /\ ∀ H',Same H H'->Q (.bl (formed u)) H'
section
variable {w0 cw:Str} {dws rws:List Str}
theorem wordsG:(w0 :: (dws ++ (rws ++ [cw]))).map V.str = [V.str w0] ++ (dws.map V.str ++ (rws.map V.str ++ [V.str cw])):=by simp
theorem cutD:cutV ((w0 :: (dws ++ (rws ++ [cw]))).map V.str) (some 1) (some ((dws.length:Int) + 1)) = dws.map V.str:=by
  have:=cut_mid (A:=[V.str w0]) (B:=dws.map V.str) (C:=rws.map V.str ++ [V.str cw])
  rw [wordsG]
  rw [show (([V.str w0].length + (dws.map V.str).length:Nat):Int) = (dws.length:Int) + 1 by simp; omega] at this
  exact this
theorem cutR:cutV ((w0 :: (dws ++ (rws ++ [cw]))).map V.str) (some ((dws.length:Int) + 1)) (some (-1)) = rws.map V.str:=by
  have:=cut_m1 (A:=[V.str w0] ++ dws.map V.str) (B:=rws.map V.str) (c:=V.str cw)
  rw [wordsG]
  rw [show ((([V.str w0] ++ dws.map V.str).length:Nat):Int) = (dws.length:Int) + 1 by simp,List.append_assoc] at this
  exact this
theorem lastW:atI ((w0 :: (dws ++ (rws ++ [cw]))).map V.str) (-1) = some (V.str cw):=by
  rw [wordsG]
  have hl:∀ (A:List V) (c:V),atI (A ++ [c]) (-1) = some c:=fun A c=>by
    unfold atI ixN
    rw [if_neg (by omega),if_pos (by rw [List.length_append,List.length_singleton]; omega),List.length_append,List.length_singleton,show ((-1:Int) + ((A.length + 1:Nat):Int)).toNat = A.length by omega]
    simp
  rw [← List.append_assoc,← List.append_assoc]
  exact hl _ _
end
theorem chg_pos {z:Str} {c:Int × Int} (h:chg z = some c):0 ≤ c.1 /\ 0 ≤ c.2:=by
  unfold chg at h
  split at h
  · split at h
    · rename_i hk
      cases h
      exact ⟨intOf_pos hk.1,intOf_pos hk.2⟩
    · cases h
  · cases h
theorem chg_back {rws:List Str} (_:rws.all (fun r=>(chg r).isSome) = true):((rws.filterMap chg).map rowN).map rowC = rws.filterMap chg:=by
  rw [List.map_map]
  refine (List.map_congr_left fun c hc=>?_).trans (List.map_id _)
  obtain ⟨z,_,hz⟩:=List.mem_filterMap.mp hc
  have:=chg_pos hz
  show rowC (rowN c) = c
  unfold rowC rowN
  rw [Int.toNat_of_nonneg this.1,Int.toNat_of_nonneg this.2]
def good (z:Str) (u:PcU):Prop:=∃ w0 dws rws cw,Txt.split z (Str.ofString " ") = w0 :: (dws ++ (rws ++ [cw])) /\ kindW dws.length w0 /\ okL dws rws cw = true /\ u = uOf dws rws cw /\ within u = true /\ formed u = true
def sp_pieceofG (CW CG CN:Addr):Sp:=fun vs H Q E=>∃ z:Str,vs = [.str z] /\ z.length ≤ 4900 /\ (Txt.split z (Str.ofString " ")).length ≤ 80 /\ (∀ u,good z u->∀ p H',PAt CW CG H' p u.wh u.b u.d u.rows u.c->Same H H'->Q (.ref p) H') /\ ((¬ ∃ u,good z u)->∀ e H',ExcAt H' e CN [("line",.str z)]->Same H H'->E (.ref CN) (some e) H')
theorem kind_uniq {n m:Nat} {w:Str} (h:kindW n w) (h2:kindW m w):n = m:=by
  have hne:Str.ofString "whole" ≠ Str.ofString "gain":=by decide +kernel
  rcases h with ⟨a,b⟩ | ⟨a,b⟩ <;> rcases h2 with ⟨c,d⟩ | ⟨c,d⟩
  · omega
  · exact absurd (b.symm.trans d) hne
  · exact absurd (d.symm.trans b) hne
  · omega
theorem good_iff {z w0 cw:Str} {dws rws:List Str} {u:PcU} (hs:Txt.split z (Str.ofString " ") = w0 :: (dws ++ (rws ++ [cw]))) (hk:kindW dws.length w0):good z u ↔ okL dws rws cw = true /\ u = uOf dws rws cw /\ within u = true /\ formed u = true:=by
  constructor
  · rintro ⟨w0',dws',rws',cw',h1,h2,h3,h4,h5,h6⟩
    rw [hs] at h1
    obtain ⟨rfl,e⟩:=List.cons.inj h1
    have ed:=(List.append_inj e (kind_uniq hk h2)).1
    cases ed
    have e:=List.append_cancel_left e
    obtain ⟨er,e⟩:=List.append_inj' (t₁:=[cw]) (t₂:=[cw']) e rfl
    cases e
    cases er
    exact ⟨h3,h4,h5,h6⟩
  · rintro ⟨h3,h4,h5,h6⟩
    exact ⟨w0,dws,rws,cw,hs,hk,h3,h4,h5,h6⟩
theorem good_no {z w0:Str} {us:List Str} (hs:Txt.split z (Str.ofString " ") = w0 :: us) (h:∀ n,kindW n w0->us.length < n + 1):¬ ∃ u,good z u:=by
  rintro ⟨u,w0',dws',rws',cw',h1,h2,-⟩
  rw [hs] at h1
  obtain ⟨rfl,rfl⟩:=List.cons.inj h1
  have:=h _ h2
  simp only [List.length_append,List.length_singleton] at this
  omega
theorem told_no {w:Str} (h:∀ n,¬ kindW n w):valV [((Sum.inr (Str.ofString "whole"):Key),V.int 1),((Sum.inr (Str.ofString "gain"):Key),V.int 2)] (Sum.inr w) = none:=by
  have h1:Str.ofString "whole" ≠ w:=fun e=>h 1 (.inl ⟨rfl,e.symm⟩)
  have h2:Str.ofString "gain" ≠ w:=fun e=>h 2 (.inr ⟨rfl,e.symm⟩)
  unfold valV
  rw [List.find?_cons_of_neg (by simpa using fun e=>h1 e),List.find?_cons_of_neg (by simpa using fun e=>h2 e)]
  rfl
theorem told_yes {w:Str} {n:Nat} (h:kindW n w):valV [((Sum.inr (Str.ofString "whole"):Key),V.int 1),((Sum.inr (Str.ofString "gain"):Key),V.int 2)] (Sum.inr w) = some (V.int (n:Int)):=by
  rcases h with ⟨rfl,rfl⟩ | ⟨rfl,rfl⟩ <;> decide +kernel
theorem cut_words {us:List Str} {n:Nat} (h:n + 1 ≤ us.length):∃ dws rws cw,us = dws ++ (rws ++ [cw]) /\ dws.length = n:=by
  have hd:us.drop n ≠ []:=by intro e; have:=congrArg List.length e; simp at this; omega
  refine ⟨us.take n,(us.drop n).dropLast,(us.drop n).getLast hd,?_,by rw [List.length_take]; omega⟩
  rw [List.dropLast_concat_getLast hd,List.take_append_drop]
theorem ofNat_map {a b:List Nat} (h:a.map (fun k:Nat=>(k:Int)) = b.map fun k:Nat=>(k:Int)):a = b:=by
  have:=congrArg (List.map Int.toNat) h
  simpa [List.map_map,Function.comp_def] using this
structure LinW (u:PcU):Prop where
  d9:u.d ≤ 1000000000
  b9:u.b ≤ 1000000000
  rows:∀ r ∈ u.rows,r.1 < 50 /\ r.2 < 2 ^ 64
  len:u.rows.length ≤ 42
  c0:0 ≤ u.c /\ u.c < 2 ^ 64
theorem LinOk.wide {u:PcU} (h:LinOk u):LinW u:=⟨h.d9,h.b9,fun r hr=>⟨by have:=(h.rows r hr).1; omega,(h.rows r hr).2⟩,by have:=h.len; omega,h.c0⟩
def digB (z:Str):Bool:=decide (1 ≤ z.length) && decide (z.length ≤ 20) && isNum z
def numL (z:Str):Int:=if digB z = true then intOf z else -1
def rowL (z:Str):Int × Int:=(numL (Txt.partition z (Str.ofString "=")).1,numL (Txt.partition z (Str.ofString "=")).2.2)
def sp_llineW:Sp:=fun vs H Q _=>∃ (u:PcU) (b:Nat) (l:Addr) (L:List V),vs = [.bl u.wh,.int (b:Int),.int (u.d:Int),.ref l,.int u.c] /\ (u.wh = false->u.b = b) /\ b ≤ 1000000000 /\ H l = some (.lst L) /\ RowsAt H L u.rows /\ LinW u /\ ∀ H',Same H H'->Q (.str (lineU u)) H'
def sp_sign:Sp:=fun vs H Q _=>∃ n:Int,vs = [.int n] /\ ∀ c,Q (.str ⟨#[c]⟩) H
def sp_odd:Sp:=fun vs H Q _=>∃ n:Int,vs = [.int n] /\ ∀ z H',cnt z = 0->z.length ≤ 41->Same H H'->Q (.str z) H'
def sp_short:Sp:=fun vs H Q _=>∃ n:Int,vs = [.int n] /\ ∀ z H',z.length ≤ 60->Same H H'->Q (.str z) H'
def sp_spsign:Sp:=fun vs H Q _=>∃ (z:Str) (w a b:Int),vs = [.str z,.int w,.int a,.int b] /\ z.length ≤ 4000 /\ ∀ z' H',z'.length ≤ z.length + 1->cnt z' ≤ cnt z + 1->Same H H'->Q (.str z') H'
def sp_spword:Sp:=fun vs H Q _=>∃ (u:PcU) (w a b:Int),vs = [.str (lineU u),.int w,.int a,.int b] /\ LinW u /\ ∀ z' H',z'.length ≤ 4900->cnt z' ≤ 60->Same H H'->Q (.str z') H'
def sp_lnum:Sp:=fun vs H Q _=>∃ z:Str,vs = [.str z] /\ z.length ≤ 4900 /\ Q (.int (numL z)) H
def sp_lrow:Sp:=fun vs H Q _=>∃ z:Str,vs = [.str z] /\ z.length ≤ 4900 /\ ∀ t H',H' t = some (.tup [.int (rowL z).1,.int (rowL z).2])->Same H H'->Q (.ref t) H'
def sp_read:Sp:=fun vs H Q _=>∃ z:Str,vs = [.str z] /\ z.length ≤ 4900 /\ (Txt.split z (Str.ofString " ")).length ≤ 80 /\ (∀ u,LinOk u->z = lineU u->∀ (t l:Addr) (L:List V) (b:Nat) (H':Hp),H' t = some (.tup [.bl u.wh,.int (b:Int),.int (u.d:Int),.ref l,.int u.c])->(u.wh = false->b = u.b)->H' l = some (.lst L)->RowsAt H' L u.rows->Same H H'->Q (.ref t) H') /\ ((¬ ∃ u,LinOk u /\ z = lineU u)->∀ H',Same H H'->Q .non H')
def sp_refused:Sp:=fun vs H Q _=>∃ z:Str,vs = [.str z] /\ z.length ≤ 4900 /\ (Txt.split z (Str.ofString " ")).length ≤ 80 /\ (¬ ∃ u,good z u) /\ ∀ H',Same H H'->Q (.bl true) H'
theorem chg_word {r:Str} {c:Int × Int} (h:chg r = some c):wordOf c = r /\ goodC c:=by
  unfold chg at h
  split at h
  · rename_i a b e
    split at h
    · rename_i hk
      cases h
      have j:=StrLaws.join_split r (Str.ofString "=")
      rw [e] at j
      have g:∀ {z:Str},okW z = true->0 ≤ intOf z /\ intOf z < 10 ^ 20:=fun {z} hz=>by
        refine ⟨intOf_pos hz,?_⟩
        have hk:=hz
        simp only [okW,Bool.and_eq_true,decide_eq_true_eq] at hk
        exact (num_val hk.2 hk.1.1.1 hk.1.1.2).2
      refine ⟨?_,g hk.1,g hk.2⟩
      unfold wordOf
      rw [num_back hk.1,num_back hk.2,← j,eqSg]
      rfl
    · cases h
  · cases h
theorem chg_of {c:Int × Int} (h:goodC c):chg (wordOf c) = some c:=by
  unfold chg
  rw [wordSplitS h]
  simp only []
  rw [if_pos ⟨numT_ok h.1.1 h.1.2,numT_ok h.2.1 h.2.2⟩]
  unfold intOf
  rw [numT_int h.1.1 h.1.2,numT_int h.2.1 h.2.2]
  rfl
theorem words_back:∀ {rws:List Str},rws.all (fun r=>(chg r).isSome) = true->(rws.filterMap chg).map wordOf = rws
  | [],_=>rfl
  | r :: rws,h=>by
    rw [List.all_cons,Bool.and_eq_true] at h
    obtain ⟨c,hc⟩:=Option.isSome_iff_exists.mp h.1
    rw [List.filterMap_cons_some hc,List.map_cons,(chg_word hc).1,words_back h.2]
theorem good_lin {z:Str} {u:PcU} (h:good z u):LinOk u /\ z = lineU u:=by
  obtain ⟨w0,dws,rws,cw,hs,hk,ho,hu,hwi,hfo⟩:=h
  unfold okL at ho
  simp only [Bool.and_eq_true] at ho
  obtain ⟨⟨hd,hr⟩,hc⟩:=ho
  unfold ckB at hc
  simp only [Bool.and_eq_true,decide_eq_true_eq] at hc
  have okd:∀ d ∈ dws,okW d = true:=List.all_eq_true.mp hd
  have ec:=ck_back hc.2 hc.1
  have vc:=num_val hc.2 (by omega) (by omega)
  have erows:u.rows.map (fun r=>wordOf (rowC r)) = rws:=by
    rw [hu]
    show ((rws.filterMap chg).map rowN).map (fun r=>wordOf (rowC r)) = rws
    have:=chg_back hr
    rw [show (((rws.filterMap chg).map rowN).map fun r=>wordOf (rowC r)) = (((rws.filterMap chg).map rowN).map rowC).map wordOf by rw [List.map_map (f:=rowC)]; rfl,this,words_back hr]
  have ecw:ckT u.c = cw:=by rw [hu]; exact ec
  have hh:headU u = w0 :: dws:=by
    have dp:∀ d ∈ dws,numT (((intOf d).toNat:Nat):Int) = d:=fun d hm=>by
      rw [Int.toNat_of_nonneg (intOf_pos (okd d hm))]; exact num_back (okd d hm)
    rw [hu]
    rcases hk with ⟨hn,rfl⟩ | ⟨hn,rfl⟩
    · match dws,hn with
      | [d],_=>show [_,numT _] = _; rw [show numT (((uOf [d] rws cw).d:Nat):Int) = d from dp d (by simp)]
    · match dws,hn with
      | [d,d2],_=>show [_,numT _,numT _] = _; rw [show numT (((uOf [d,d2] rws cw).d:Nat):Int) = d2 from dp d2 (by simp),show numT (((uOf [d,d2] rws cw).b:Nat):Int) = d from dp d (by simp)]
  unfold within at hwi
  simp only [Bool.and_eq_true,decide_eq_true_eq,List.all_eq_true] at hwi
  obtain ⟨⟨w1,w2⟩,w3⟩:=hwi
  have hfst:∀ x ∈ u.rows.map Prod.fst,0 ≤ x /\ x < 40:=fun x hx=>by
    obtain ⟨r,hr,rfl⟩:=List.mem_map.mp hx
    exact ⟨Nat.zero_le _,(w3 r hr).1⟩
  unfold formed at hfo
  have hcase:(u.wh = true->u.b = 0 /\ 0 < u.rows.length /\ u.rows.map Prod.fst = List.range u.rows.length) /\ (u.wh = false->u.b < u.d /\ (u.rows.map Prod.fst).Pairwise (· < ·)):=by
    refine ⟨fun h=>?_,fun h=>?_⟩
    · rw [if_pos h] at hfo
      simp only [Bool.and_eq_true,decide_eq_true_eq] at hfo
      refine ⟨?_,hfo.1,hfo.2⟩
      rw [hu] at h ⊢
      show cond (decide (dws.length = 1)) 0 _ = 0
      rw [show decide (dws.length = 1) = true from h]; rfl
    · rw [if_neg (by rw [h]; decide)] at hfo
      simpa only [Bool.and_eq_true,decide_eq_true_eq] using hfo
  have hpw:(u.rows.map Prod.fst).Pairwise (· < ·):=by
    cases hw:u.wh
    · exact (hcase.2 hw).2
    · rw [(hcase.1 hw).2.2]; exact List.pairwise_lt_range
  have hlen:=rise_len hpw (Nat.zero_le 40) hfst
  rw [List.length_map] at hlen
  refine ⟨⟨w1,?_,fun r hr=>⟨(w3 r hr).1,by have:=(w3 r hr).2; omega⟩,by omega,⟨?_,by omega⟩,hcase.1,hcase.2⟩,?_⟩
  · cases hw:u.wh
    · have:=(hcase.2 hw).1; omega
    · rw [(hcase.1 hw).1]; omega
  · rw [hu]; show 0 ≤ intOf cw; rw [vc.1]; omega
  · have j:=StrLaws.join_split z (Str.ofString " ")
    rw [hs] at j
    rw [← j]
    unfold lineU wordsU
    rw [hh,erows,ecw]
    simp
theorem lin_good {u:PcU} (h:LinOk u):good (lineU u) u:=by
  have gc:=h.gc
  have hcc:intOf (ckT u.c) = u.c:=by unfold intOf; rw [ckT_int gc.1 gc.2]; rfl
  have hnn:∀ {n:Int},gN n->intOf (numT n) = n:=fun {n} hn=>by unfold intOf; rw [numT_int hn.1 hn.2]; rfl
  have hrow:(u.rows.map fun r=>wordOf (rowC r)).filterMap chg = u.rows.map rowC:=by
    have:∀ l:List (Nat × Nat),(∀ r ∈ l,goodC (rowC r))->(l.map fun r=>wordOf (rowC r)).filterMap chg = l.map rowC:=by
      intro l
      induction l with
      | nil=>intro _; rfl
      | cons r l ih=>intro hg; rw [List.map_cons,List.filterMap_cons_some (chg_of (hg r (by simp))),ih fun x hx=>hg x (List.mem_cons_of_mem _ hx)]; rfl
    exact this _ h.good
  have hrr:(u.rows.map rowC).map rowN = u.rows:=by
    rw [List.map_map]
    exact (List.map_congr_left fun r _=>rfl).trans (List.map_id _)
  refine ⟨kindU u,(daysU u).map numT,u.rows.map (fun r=>wordOf (rowC r)),ckT u.c,?_,?_,?_,?_,?_,?_⟩
  · rw [line_split h]
    unfold wordsU
    rw [headU_eq]
    simp
  · unfold kindW kindU daysU
    cases u.wh
    · right; exact ⟨rfl,rfl⟩
    · left; exact ⟨rfl,rfl⟩
  · unfold okL ckB
    have a1:((daysU u).map numT).all okW = true:=by
      unfold daysU
      split <;> simp [numT_ok h.gd.1 h.gd.2,numT_ok h.gb.1 h.gb.2]
    have a2:(u.rows.map fun r=>wordOf (rowC r)).all (fun r=>(chg r).isSome) = true:=by
      rw [List.all_eq_true]
      intro x hx
      obtain ⟨r,hr,rfl⟩:=List.mem_map.mp hx
      rw [chg_of (h.good r hr)]; rfl
    rw [a1,a2,ckT_num gc.1 gc.2,ckT_len gc.1 gc.2]; rfl
  · unfold uOf
    rw [hrow,hrr,hcc]
    obtain ⟨wh,b,d,rows,c⟩:=u
    cases wh
    · show _ = PcU.mk false (intOf (numT (b:Int))).toNat (intOf (numT (d:Int))).toNat rows c
      rw [hnn h.gb,hnn h.gd]; rfl
    · show _ = PcU.mk true 0 (intOf (numT (d:Int))).toNat rows c
      rw [hnn h.gd]
      have:b = 0:=(h.wh_ rfl).1
      rw [this]; rfl
  · unfold within
    simp only [Bool.and_eq_true,decide_eq_true_eq,List.all_eq_true]
    have:=h.c0
    exact ⟨⟨h.d9,by omega⟩,fun r hr=>⟨(h.rows r hr).1,by have:=(h.rows r hr).2; omega⟩⟩
  · unfold formed
    cases hw:u.wh
    · rw [if_neg (by decide)]
      simpa only [Bool.and_eq_true,decide_eq_true_eq] using h.gn_ hw
    · rw [if_pos rfl]
      simpa only [Bool.and_eq_true,decide_eq_true_eq] using (h.wh_ hw).2
theorem good_iffL {z:Str} {u:PcU}:good z u ↔ LinOk u /\ z = lineU u:=⟨good_lin,fun ⟨h,e⟩=>by rw [e]; exact lin_good h⟩
def odd1:List Str:=[Str.ofString "40=1",Str.ofString "39=1",Str.ofString "3=18446744073709551616",Str.ofString "3=18446744073709551615",Str.ofString "3=01",Str.ofString "03=1",Str.ofString "=",Str.ofString "3=",Str.ofString "=3"]
def odd2:List Str:=[Str.ofString "1000000000",Str.ofString "1000000001",Str.ofString "100000000000000000000",Str.ofString "00",Str.ofString "01",Str.ofString "18446744073709551616"]
def odd3:List Str:=[Str.ofString "18446744073709551615",Str.ofString "00000000000000000000",Str.ofString "000000000000000000000",Str.ofString "0000000000000000000"]
def odd4:List Str:=[Str.ofString "99999999999999999999",Str.ofString "3=1=1",Str.ofString "+1",Str.ofString "-1",Str.ofString "3=-1",Str.ofString "0x000000000000000000",Str.ofString "",Str.ofString "whole",Str.ofString "gain"]
def sho1:List Str:=[Str.ofString "",Str.ofString " ",Str.ofString "whole",Str.ofString "gain",Str.ofString "whole 1",Str.ofString "gain 1 2",Str.ofString "whole 1 00000000000000000007",Str.ofString "Whole 1 0=1"]
def sho2:List Str:=[Str.ofString "gain 1 2 00000000000000000007",Str.ofString "gain 2 2 00000000000000000007",Str.ofString "gain 2 00000000000000000007"]
def sho3:List Str:=[Str.ofString "whole 0 0=5 00000000000000000007",Str.ofString "gain 2 1 00000000000000000007"]
def sho4:List Str:=[Str.ofString "piece -1 2 00000000000000000007"]
theorem pickB {ws:List Str} {p:Str->Bool} (x:Int) (h0:ws ≠ []) (hl:ws.all p = true):∃ w,atI (ws.map V.str) (x % (((ws.map V.str).length:Nat):Int)) = some (V.str w) /\ p w = true:=by
  have hp:0 < ws.length:=List.length_pos_iff.mpr h0
  rw [List.length_map]
  have a0:=Int.emod_nonneg x (show (ws.length:Int) ≠ 0 by omega)
  have a1:=Int.emod_lt_of_pos x (show (0:Int) < (ws.length:Int) by omega)
  have hj:(x % (ws.length:Int)).toNat < ws.length:=by omega
  refine ⟨ws[(x % (ws.length:Int)).toNat],?_,List.all_eq_true.mp hl _ (List.getElem_mem hj)⟩
  have e:x % (ws.length:Int) = (((x % (ws.length:Int)).toNat:Nat):Int):=by omega
  exact (congrArg (atI (ws.map V.str)) e).trans (atI_nat (by rw [List.getElem?_map,List.getElem?_eq_getElem hj]; rfl))
theorem part_le (z y:Str):(Txt.partition z y).1.length ≤ z.length /\ (Txt.partition z y).2.2.length ≤ z.length:=by
  have:=congrArg PySem.Str.length (StrLaws.partition_sum z y)
  rw [str_add_len,str_add_len] at this
  omega
section
variable {u:PcU} (h:LinW u)
include h
theorem LinW.good:∀ r ∈ u.rows,goodC (rowC r):=fun r hr=>by
  have:=h.rows r hr
  unfold goodC rowC
  refine ⟨⟨by show 0 ≤ ((r.1:Nat):Int); omega,by show ((r.1:Nat):Int) < 10 ^ 20; omega⟩,by show 0 ≤ ((r.2:Nat):Int); omega,by show ((r.2:Nat):Int) < 10 ^ 20; omega⟩
theorem LinW.gd:gN (u.d:Int):=⟨by omega,by have:=h.d9; omega⟩
theorem LinW.gb:gN (u.b:Int):=⟨by omega,by have:=h.b9; omega⟩
theorem LinW.gc:0 ≤ u.c /\ u.c < 10 ^ 20:=⟨h.c0.1,by have:=h.c0.2; omega⟩
theorem words_freeW:∀ p ∈ wordsU u,32 ∉ p.cps.toList /\ p.length ≤ 41:=fun p hp=>by
  unfold wordsU headU at hp
  rcases List.mem_append.mp hp with hp | hp
  · rcases List.mem_append.mp hp with hp | hp
    · have hd:=h.gd
      have hb:=h.gb
      have num:∀ {n:Int},gN n->32 ∉ (numT n).cps.toList /\ (numT n).length ≤ 41:=fun hn=>⟨numT_free hn.1 (by decide),by have:=numT_len hn.1 hn.2; omega⟩
      split at hp
      · simp only [List.mem_cons,List.not_mem_nil,or_false] at hp
        rcases hp with rfl | rfl
        · exact ⟨by decide +kernel,by decide +kernel⟩
        · exact num hd
      · simp only [List.mem_cons,List.not_mem_nil,or_false] at hp
        rcases hp with rfl | rfl | rfl
        · exact ⟨by decide +kernel,by decide +kernel⟩
        · exact num hb
        · exact num hd
    · obtain ⟨r,hr,rfl⟩:=List.mem_map.mp hp
      exact ⟨wordOf_free (h.good r hr),wordOf_len (h.good r hr)⟩
  · rw [List.mem_singleton.mp hp]
    exact ⟨ckT_free h.gc.1 h.gc.2 (by decide),by rw [ckT_len h.gc.1 h.gc.2]; decide⟩
theorem line_splitW:Txt.split (lineU u) (Str.ofString " ") = wordsU u:=by
  unfold lineU
  rw [spS]
  exact split_join words_ne fun p hp=>(words_freeW h p hp).1
theorem words_countW:(wordsU u).length ≤ 46:=by
  have:=h.len
  unfold wordsU headU
  split <;> simp <;> omega
theorem line_fitsW:((wordsU u).map (·.length)).sum + (wordsU u).length * (Str.ofString " ").length ≤ 16777216:=by
  have h1:=sum_len fun p hp=>(words_freeW h p hp).2
  have h2:=words_countW h
  have:(Str.ofString " ").length = 1:=by decide +kernel
  rw [this]; omega
theorem line_lenW:(lineU u).length ≤ 4000:=by
  have h1:=sum_len fun p hp=>(words_freeW h p hp).2
  have h2:=words_countW h
  unfold lineU
  rw [← StrLaws.glued_eq_join,size_glued]
  have:(Str.ofString " ").length = 1:=by decide +kernel
  rw [this]
  omega
end
theorem three_words (u:PcU):3 ≤ (wordsU u).length:=by unfold wordsU headU; split <;> simp <;> omega
theorem cnt_free {z:Str} (h:32 ∉ z.cps.toList):cnt z = 0:=List.count_eq_zero.mpr h
theorem cutT {ws:List Str} {k:Nat} (h:k ≤ ws.length):cutV (ws.map V.str) none (some (k:Int)) = (ws.take k).map V.str:=by
  unfold cutV
  rw [HT.sIx_nat,HT.sIx_none,List.length_map,List.map_take]
  simp
theorem cutF {ws:List Str} {k:Nat}:cutV (ws.map V.str) (some (k:Int)) none = (ws.drop k).map V.str:=by
  unfold cutV
  rw [HT.sIx_nat,HT.sIx_none,List.length_map,List.map_drop]
  by_cases h:k ≤ ws.length
  · rw [Nat.min_eq_left h,List.take_of_length_le (by simp)]
  · rw [Nat.min_eq_right (by omega),List.drop_of_length_le (by simp),List.drop_of_length_le (by simp; omega)]; simp
def wsOk (ws:List Str):Prop:=ws ≠ [] /\ ws.length ≤ 50 /\ ∀ w ∈ ws,cnt w = 0 /\ w.length ≤ 41
theorem wsOk.line {ws:List Str} (h:wsOk ws):(Str.join (Str.ofString " ") ws).length ≤ 4900 /\ cnt (Str.join (Str.ofString " ") ws) ≤ 60:=by
  obtain ⟨h1,h2,h3⟩:=h
  have a:=sum_len fun p hp=>(h3 p hp).2
  refine ⟨?_,?_⟩
  · rw [← StrLaws.glued_eq_join,size_glued]
    have:(Str.ofString " ").length = 1:=by decide +kernel
    rw [this]
    omega
  · have b:=cnt_join h1
    rw [spS]
    have c:(ws.map cnt).sum = 0:=by
      have:∀ l:List Str,(∀ w ∈ l,cnt w = 0)->(l.map cnt).sum = 0:=by
        intro l
        induction l with
        | nil=>intro _; rfl
        | cons x l ih=>intro h; rw [List.map_cons,List.sum_cons,h x (by simp),ih fun w hw=>h w (List.mem_cons_of_mem _ hw)]
      exact this ws fun w hw=>(h3 w hw).1
    omega
theorem wsOk.fits {ws:List Str} (h:wsOk ws):(ws.map (·.length)).sum + ws.length * (Str.ofString " ").length ≤ 16777216:=by
  have a:=sum_len fun p hp=>(h.2.2 p hp).2
  have:(Str.ofString " ").length = 1:=by decide +kernel
  have:=h.2.1
  rw [‹(Str.ofString " ").length = 1›]; omega
theorem wsOk.of {u:PcU} (h:LinW u):wsOk (wordsU u):=⟨words_ne,by have:=words_countW h; omega,fun w hw=>⟨cnt_free (words_freeW h w hw).1,(words_freeW h w hw).2⟩⟩
def sp_lrows20 (K:PySem.W.Frag):Sp:=fun vs H Q _=>∃ (a:Addr) (ns:List Int) (g wd:Nat) (wh:Bool),vs = [.ref a,.int (g:Int),.int (wd:Int),.bl wh] /\ SqL K H a (ns.map V.int) /\ wd ≤ 42 /\ ∀ l L rows H',H' l = some (.lst L)->H l = none->RowsAt H' L rows->rows.length ≤ wd->(∀ r ∈ rows,r.1 < wd /\ r.2 < 2 ^ 64)->(wh = true->rows.map Prod.fst = List.range wd)->(rows.map Prod.fst).Pairwise (· < ·)->Same H H'->Q (.ref l) H'
theorem ok3 {ws m:List Str} {i k:Nat} (h:wsOk ws) (hm:∀ w ∈ m,cnt w = 0 /\ w.length ≤ 41) (hl:m.length ≤ 1) (hik:i ≤ k) (hn:ws.length ≤ 46) (h0:0 < min i ws.length + m.length + (ws.length - k)):wsOk (ws.take i ++ m ++ ws.drop k):=by
  refine ⟨?_,?_,?_⟩
  · intro e
    have:=congrArg List.length e
    simp only [List.length_append,List.length_take,List.length_drop,List.length_nil] at this
    omega
  · simp only [List.length_append,List.length_take,List.length_drop]; omega
  · intro w hw
    rcases List.mem_append.mp hw with hw | hw
    · rcases List.mem_append.mp hw with hw | hw
      · exact h.2.2 w (List.mem_of_mem_take hw)
      · exact hm w hw
    · exact h.2.2 w (List.mem_of_mem_drop hw)
theorem okSet {ws:List Str} {i:Nat} {x:Str} (h:wsOk ws) (hx:cnt x = 0 /\ x.length ≤ 41):wsOk (ws.set i x):=by
  refine ⟨?_,by rw [List.length_set]; exact h.2.1,fun w hw=>?_⟩
  · intro e; have:=congrArg List.length e; rw [List.length_set] at this; exact h.1 (List.length_eq_zero_iff.mp this)
  · rcases List.mem_or_eq_of_mem_set hw with hw | rfl
    · exact h.2.2 w hw
    · exact hx
theorem setS {ws:List Str} {i:Nat} {x:Str}:(ws.map V.str).set i (V.str x) = (ws.set i x).map V.str:=List.map_set.symm
theorem atS {ws:List Str} {i:Nat} (h:i < ws.length):atI (ws.map V.str) (i:Int) = some (V.str ws[i]):=atI_nat (by rw [List.getElem?_map,List.getElem?_eq_getElem h]; rfl)
theorem ixS {ws:List Str} {i:Nat} (h:i < ws.length):ixN (ws.map V.str).length (i:Int) = some i:=by
  unfold ixN
  rw [List.length_map,if_pos (by omega)]
  simp
  exact h
def uL (dws rws:List Str) (cw:Str):PcU:=⟨decide (dws.length = 1),cond (decide (dws.length = 1)) 0 (numL (dws.headD cw)).toNat,(numL (dws.getLastD cw)).toNat,(rws.map rowL).map rowN,numL cw⟩
theorem numL_ok {z:Str} (h:okW z = true):numL z = intOf z:=by
  have hk:=h
  simp only [okW,Bool.and_eq_true,decide_eq_true_eq] at hk
  unfold numL digB
  rw [decide_eq_true hk.1.1.1,decide_eq_true hk.1.1.2,hk.2]; rfl
theorem numL_ck {z:Str} (h:ckB z = true):numL z = intOf z:=by
  unfold ckB at h
  simp only [Bool.and_eq_true,decide_eq_true_eq] at h
  unfold numL digB
  rw [decide_eq_true (by omega),decide_eq_true (by omega),h.2]; rfl
theorem rowL_ok {r:Str} {c:Int × Int} (h:chg r = some c):rowL r = c:=by
  obtain ⟨e,g⟩:=chg_word h
  have hf:61 ∉ (numT c.1).cps.toList:=numT_free g.1.1 (by decide)
  have hp:=strAt_first (y:=numT c.2) hf
  unfold rowL
  rw [eqSg,← e]
  show (numL (Txt.partition (numT c.1 ++ (⟨#[61]⟩:Str) ++ numT c.2) ⟨#[61]⟩).1,numL (Txt.partition (numT c.1 ++ (⟨#[61]⟩:Str) ++ numT c.2) ⟨#[61]⟩).2.2) = c
  rw [hp]
  show (numL (numT c.1),numL (numT c.2)) = c
  rw [numL_ok (numT_ok g.1.1 g.1.2),numL_ok (numT_ok g.2.1 g.2.2)]
  unfold intOf
  rw [numT_int g.1.1 g.1.2,numT_int g.2.1 g.2.2]
  rfl
theorem read_fact {z w0 cw:Str} {dws rws:List Str} {u:PcU} (hs:Txt.split z (Str.ofString " ") = w0 :: (dws ++ (rws ++ [cw]))) (hk:kindW dws.length w0) (hL:LinOk u) (hz:z = lineU u):u = uL dws rws cw /\ (∀ d ∈ dws,0 ≤ numL d) /\ (∀ r ∈ rws,0 ≤ (rowL r).1 /\ 0 ≤ (rowL r).2) /\ 0 ≤ numL cw:=by
  obtain ⟨ho,hu,-,-⟩:=(good_iff hs hk).mp (good_iffL.mpr ⟨hL,hz⟩)
  unfold okL at ho
  simp only [Bool.and_eq_true] at ho
  obtain ⟨⟨hd,hr⟩,hc⟩:=ho
  have okd:∀ d ∈ dws,okW d = true:=List.all_eq_true.mp hd
  have okr:∀ r ∈ rws,∃ c,chg r = some c:=fun r h=>Option.isSome_iff_exists.mp (List.all_eq_true.mp hr r h)
  have er:rws.filterMap chg = rws.map rowL:=by
    have:∀ l:List Str,(∀ r ∈ l,∃ c,chg r = some c)->l.filterMap chg = l.map rowL:=by
      intro l
      induction l with
      | nil=>intro _; rfl
      | cons r l ih =>
        intro h
        obtain ⟨c,hc⟩:=h r (by simp)
        rw [List.filterMap_cons_some hc,List.map_cons,rowL_ok hc,ih fun x hx=>h x (List.mem_cons_of_mem _ hx)]
    exact this rws okr
  refine ⟨?_,fun d h=>by rw [numL_ok (okd d h)]; exact intOf_pos (okd d h),fun r h=>?_,?_⟩
  · rw [hu]
    unfold uOf uL
    rw [er,numL_ck hc]
    have e1:intOf (dws.headD cw) = numL (dws.headD cw):=by
      cases dws with
      | nil=>exact (numL_ck hc).symm
      | cons d ds=>exact (numL_ok (okd d (by simp))).symm
    have e2:intOf (dws.getLastD cw) = numL (dws.getLastD cw):=by
      rcases List.eq_nil_or_concat dws with e | ⟨l,d,e⟩
      · rw [e]; exact (numL_ck hc).symm
      · rw [e,List.concat_eq_append,List.getLastD_concat]
        exact (numL_ok (okd d (by rw [e]; simp))).symm
    rw [e1,e2]
  · obtain ⟨c,hc⟩:=okr r h
    rw [rowL_ok hc]
    exact chg_pos hc
  · rw [numL_ck hc]
    unfold ckB at hc
    simp only [Bool.and_eq_true,decide_eq_true_eq] at hc
    rw [(num_val hc.2 (by omega) (by omega)).1]
    omega
theorem in_yes {w:Str} {n:Nat} (h:kindW n w):inV (V.str w) [V.str (Str.ofString "whole"),V.str (Str.ofString "gain")] = true:=by
  rcases h with ⟨_,rfl⟩ | ⟨_,rfl⟩ <;> decide +kernel
theorem in_no {w:Str} (h:∀ n,¬ kindW n w):inV (V.str w) [V.str (Str.ofString "whole"),V.str (Str.ofString "gain")] = false:=by
  have h1:w ≠ Str.ofString "whole":=fun e=>h 1 (.inl ⟨rfl,e⟩)
  have h2:w ≠ Str.ofString "gain":=fun e=>h 2 (.inr ⟨rfl,e⟩)
  simp [inV,eqV,h1,h2,h1.symm,h2.symm]
theorem many_is {w:Str} {n:Nat} (h:kindW n w):(1 + if decide (V.str w = V.str (Str.ofString "gain")) = true then 1 else 0:Int) = (n:Int):=by
  rcases h with ⟨rfl,rfl⟩ | ⟨rfl,rfl⟩
  · rw [if_neg (by rw [decide_eq_false (fun h=>absurd (V.str.inj h) (by decide +kernel))]; decide)]; rfl
  · rw [if_pos (decide_eq_true rfl)]; rfl
structure RdOk (dws:List Str) (rs:List (Int × Int)) (c:Int):Prop where
  c1:(∀ x ∈ dws.map numL,0 ≤ x /\ x ≤ 1000000000) /\ 0 ≤ c /\ c < 18446744073709551616
  c2:dws.length = 1->rs ≠ [] /\ rs.map Prod.fst = (List.range rs.length).map fun k:Nat=>(k:Int)
  c3:∀ d d2,dws = [d,d2]->numL d < numL d2
  c4:∀ (i:Nat) r,rs[i]? = some r->(0 ≤ r.1 /\ r.1 ≤ 39) /\ (0 ≤ r.2 /\ r.2 < 18446744073709551616) /\ (0 < i->∀ r',rs[i - 1]? = some r'->r'.1 < r.1)
theorem rows_back {rs:List (Int × Int)} (h:∀ r ∈ rs,0 ≤ r.1 /\ 0 ≤ r.2):(rs.map rowN).map rowC = rs:=by
  rw [List.map_map]
  refine (List.map_congr_left fun c hc=>?_).trans (List.map_id _)
  show rowC (rowN c) = c
  unfold rowC rowN
  rw [Int.toNat_of_nonneg (h c hc).1,Int.toNat_of_nonneg (h c hc).2]
theorem fst_back {rs:List (Int × Int)} (h:∀ r ∈ rs,0 ≤ r.1 /\ 0 ≤ r.2):((rs.map rowN).map Prod.fst).map (fun k:Nat=>(k:Int)) = rs.map Prod.fst:=by
  rw [List.map_map,List.map_map]
  exact List.map_congr_left fun r hr=>Int.toNat_of_nonneg (h r hr).1
theorem two_days {w0:Str} {dws:List Str} (hk:kindW dws.length w0):(∃ d,dws = [d]) ∨ ∃ d d2,dws = [d,d2]:=by
  rcases hk with ⟨h,_⟩ | ⟨h,_⟩
  · match dws,h with
    | [d],_=>exact .inl ⟨d,rfl⟩
  · match dws,h with
    | [d,d2],_=>exact .inr ⟨d,d2,rfl⟩
theorem rd_of {w0 cw:Str} {dws rws:List Str} (hk:kindW dws.length w0) (hL:LinOk (uL dws rws cw)) (h1:∀ d ∈ dws,0 ≤ numL d) (h2:∀ r ∈ rws,0 ≤ (rowL r).1 /\ 0 ≤ (rowL r).2) (h3:0 ≤ numL cw):RdOk dws (rws.map rowL) (numL cw):=by
  have hnn:∀ r ∈ rws.map rowL,0 ≤ r.1 /\ 0 ≤ r.2:=fun r hr=>by
    obtain ⟨x,hx,rfl⟩:=List.mem_map.mp hr
    exact h2 x hx
  have hb:=rows_back hnn
  have hrows:(uL dws rws cw).rows = (rws.map rowL).map rowN:=rfl
  have hfst:(rws.map rowL).map Prod.fst = ((uL dws rws cw).rows.map Prod.fst).map fun k:Nat=>(k:Int):=by
    rw [hrows,fst_back hnn]
  have hpw:((uL dws rws cw).rows.map Prod.fst).Pairwise (· < ·):=by
    cases hw:(uL dws rws cw).wh
    · exact (hL.gn_ hw).2
    · rw [(hL.wh_ hw).2.2]; exact List.pairwise_lt_range
  refine ⟨⟨fun x hx=>?_,h3,by have t:numL cw < 2 ^ 64:=hL.c0.2; omega⟩,fun h=>?_,fun d d2 e=>?_,fun i r hi=>?_⟩
  · obtain ⟨d,hd,rfl⟩:=List.mem_map.mp hx
    refine ⟨h1 d hd,?_⟩
    have d9:=hL.d9
    have b9:=hL.b9
    have h0:=h1 d hd
    rcases two_days hk with ⟨a,rfl⟩ | ⟨a,a2,rfl⟩
    · rw [List.mem_singleton.mp hd] at h0 ⊢
      have:(numL a).toNat ≤ 1000000000:=d9
      omega
    · rcases List.mem_cons.mp hd with rfl | hd
      · have:(numL d).toNat ≤ 1000000000:=b9
        omega
      · rw [List.mem_singleton.mp hd] at h0 ⊢
        have:(numL a2).toNat ≤ 1000000000:=d9
        omega
  · have hw:(uL dws rws cw).wh = true:=decide_eq_true h
    obtain ⟨_,g1,g2⟩:=hL.wh_ hw
    rw [hrows,List.length_map] at g1
    refine ⟨fun e=>by rw [e] at g1; exact absurd g1 (by decide),?_⟩
    rw [hfst,g2,hrows,List.length_map]
  · subst e
    have g:=(hL.gn_ (show (uL [d,d2] rws cw).wh = false from rfl)).1
    have g:(numL d).toNat < (numL d2).toNat:=g
    have a1:=h1 d (by simp)
    have a2:=h1 d2 (by simp)
    omega
  · have hm:=List.mem_of_getElem? hi
    have h0:=hnn r hm
    have hb2:=hL.rows (rowN r) (by rw [hrows]; exact List.mem_map_of_mem hm)
    have e1:(r.1.toNat:Nat) < 40:=hb2.1
    have e2:(r.2.toNat:Nat) < 2 ^ 64:=hb2.2
    refine ⟨⟨h0.1,by omega⟩,⟨h0.2,by omega⟩,fun hi0 r' hi'=>?_⟩
    have h0':=hnn r' (List.mem_of_getElem? hi')
    have p:=List.pairwise_iff_getElem.mp hpw (i - 1) i
    have l1:=(List.getElem?_eq_some_iff.mp hi).1
    have l2:=(List.getElem?_eq_some_iff.mp hi').1
    rw [List.length_map] at l1 l2
    have q:=p (by rw [hrows]; simp; omega) (by rw [hrows]; simp; omega) (by omega)
    have g1:=(List.getElem?_eq_some_iff.mp hi).2
    have g2:=(List.getElem?_eq_some_iff.mp hi').2
    simp only [hrows,List.getElem_map,rowN] at q g1 g2
    rw [g1,g2] at q
    omega
theorem rd_lin {w0 cw:Str} {dws rws:List Str} (hk:kindW dws.length w0) (h:RdOk dws (rws.map rowL) (numL cw)):LinOk (uL dws rws cw) /\ ((uL dws rws cw).rows.map rowC = rws.map rowL) /\ (∀ d ∈ dws,0 ≤ numL d):=by
  have hnn:∀ r ∈ rws.map rowL,0 ≤ r.1 /\ 0 ≤ r.2:=fun r hr=>by
    obtain ⟨i,hi⟩:=List.mem_iff_getElem?.mp hr
    have:=h.c4 i r hi
    exact ⟨this.1.1,this.2.1.1⟩
  have hb:=rows_back hnn
  have hrows:(uL dws rws cw).rows = (rws.map rowL).map rowN:=rfl
  have hin:∀ r ∈ (uL dws rws cw).rows,r.1 < 40 /\ r.2 < 2 ^ 64:=fun r hr=>by
    rw [hrows] at hr
    obtain ⟨x,hx,rfl⟩:=List.mem_map.mp hr
    obtain ⟨i,hi⟩:=List.mem_iff_getElem?.mp hx
    have:=h.c4 i x hi
    exact ⟨by show x.1.toNat < 40; omega,by show x.2.toNat < 2 ^ 64; omega⟩
  have adj:∀ (l:List Nat),(∀ i (h1:i + 1 < l.length),l[i] < l[i + 1])->l.Pairwise (· < ·):=by
    intro l hl
    rw [List.pairwise_iff_getElem]
    intro i j hi hj hij
    obtain ⟨k,rfl⟩:∃ k,j = i + 1 + k:=⟨j - i - 1,by omega⟩
    clear hij
    induction k with
    | zero=>exact hl i hj
    | succ k ih=>exact Nat.lt_trans (ih (by omega)) (hl (i + 1 + k) hj)
  have hpw:((uL dws rws cw).rows.map Prod.fst).Pairwise (· < ·):=by
    refine adj _ fun i h1=>?_
    have hl:i + 1 < (rws.map rowL).length:=by simpa [hrows] using h1
    have g1:=h.c4 (i + 1) _ (List.getElem?_eq_getElem hl)
    have g2:=h.c4 i _ (List.getElem?_eq_getElem (by omega))
    have g3:=g1.2.2 (by omega) _ (List.getElem?_eq_getElem (show i + 1 - 1 < _ by omega))
    simp only [Nat.add_sub_cancel] at g3
    simp only [hrows,List.getElem_map,rowN]
    simp only [List.getElem_map] at g1 g2 g3
    omega
  have hlen:=rise_len hpw (Nat.zero_le 40) fun x hx=>by
    obtain ⟨r,hr,rfl⟩:=List.mem_map.mp hx
    exact ⟨Nat.zero_le _,(hin r hr).1⟩
  rw [List.length_map] at hlen
  have hd:∀ d ∈ dws,0 ≤ numL d /\ numL d ≤ 1000000000:=fun d hd=>h.c1.1 _ (List.mem_map_of_mem hd)
  refine ⟨⟨?_,?_,hin,by omega,⟨h.c1.2.1,by show numL cw < 2 ^ 64; have:=h.c1.2.2; omega⟩,fun hw=>?_,fun hw=>?_⟩,hb,fun d h=>(hd d h).1⟩
  · rcases two_days hk with ⟨a,rfl⟩ | ⟨a,a2,rfl⟩
    · have:=hd a (by simp); show (numL a).toNat ≤ _; omega
    · have:=hd a2 (by simp); show (numL a2).toNat ≤ _; omega
  · rcases two_days hk with ⟨a,rfl⟩ | ⟨a,a2,rfl⟩
    · exact Nat.zero_le _
    · have:=hd a (by simp); show (numL a).toNat ≤ _; omega
  · have hn:dws.length = 1:=of_decide_eq_true hw
    obtain ⟨g1,g2⟩:=h.c2 hn
    refine ⟨?_,?_,?_⟩
    · show cond (decide (dws.length = 1)) 0 _ = 0
      rw [decide_eq_true hn]; rfl
    · rw [hrows,List.length_map]; exact List.length_pos_iff.mpr g1
    · rw [hrows,List.length_map]
      exact ofNat_map ((fst_back hnn).trans g2)
  · refine ⟨?_,hpw⟩
    rcases two_days hk with ⟨a,rfl⟩ | ⟨a,a2,rfl⟩
    · cases hw
    · have:=h.c3 a a2 rfl
      have b1:=hd a (by simp)
      have b2:=hd a2 (by simp)
      show (numL a).toNat < (numL a2).toNat
      omega
theorem eq_nilL {K:PySem.W.Frag} {H:Hp} {R:V->V->Bool->Prop} {a c:Addr} {L:List V} (h1:SqL K H a L) (h2:SqL K H c []):SeqEq K H R (.ref a) (.ref c) (decide (L = [])):=by
  cases L with
  | nil=>exact ⟨a,c,[],[],fun _=>true,rfl,rfl,.inl ⟨h1,h2,rfl,fun j x' y' e=>by simp at e,rfl⟩⟩
  | cons x l=>exact ⟨a,c,x :: l,[],fun _=>true,rfl,rfl,.inr (.inl ⟨h1,h2,by simp,rfl⟩)⟩
theorem good_uniq {z:Str} {u v:PcU} (h:good z u) (h2:good z v):v = u:=by
  obtain ⟨w0,dws,rws,cw,hs,hk,ho,hu,-⟩:=h
  rw [hu]
  exact ((good_iff hs hk).mp h2).2.1
theorem split80 {z:Str} (h:cnt z ≤ 61):(Txt.split z (Str.ofString " ")).length ≤ 80:=by
  rw [spS]
  have:=split_cnt z
  omega
structure Txt (K:PySem.W.Frag) (mg:Str->Option Value) (t_W:Tok) (t_MOST_BLOCKS:Tok) (t_MOST_FIGURES:Tok) (t_MOST_DAY:Tok) (t_FIGURES:Tok) (t_CHECK_FIGURES:Tok) (C_KeepError:Addr) (C_NoWord:Addr) (C_NoLine:Addr) (C_Piece:Addr) (C_Whole:Addr) (C_Gain:Addr) (C_DAYS_TOLD:Addr):Prop where
  m_W:mg "W" = some (.int 18446744073709551615 t_W)
  m_MOST_BLOCKS:mg "MOST_BLOCKS" = some (.int 40 t_MOST_BLOCKS)
  m_MOST_FIGURES:mg "MOST_FIGURES" = some (.int 20 t_MOST_FIGURES)
  m_MOST_DAY:mg "MOST_DAY" = some (.int 1000000000 t_MOST_DAY)
  m_FIGURES:mg "FIGURES" = some (.str (PySem.Str.ofString "0123456789") t_FIGURES)
  m_CHECK_FIGURES:mg "CHECK_FIGURES" = some (.int 20 t_CHECK_FIGURES)
  mg_KeepError:mg "KeepError" = some (.ref C_KeepError)
  x_KeepError:XCls K C_KeepError
  mg_NoWord:mg "NoWord" = some (.ref C_NoWord)
  x_NoWord:XCls K C_NoWord
  n_NoWord_word:NoAttr K C_NoWord "word"
  mg_NoLine:mg "NoLine" = some (.ref C_NoLine)
  x_NoLine:XCls K C_NoLine
  n_NoLine_line:NoAttr K C_NoLine "line"
  mg_Piece:mg "Piece" = some (.ref C_Piece)
  mg_Whole:mg "Whole" = some (.ref C_Whole)
  cl_Whole:Cls K C_Whole
  n_Whole_day:NoAttr K C_Whole "day"
  n_Whole_rows:NoAttr K C_Whole "rows"
  n_Whole_check:NoAttr K C_Whole "check"
  n_Whole_fits:NoAttr K C_Whole "fits"
  mg_Gain:mg "Gain" = some (.ref C_Gain)
  cl_Gain:Cls K C_Gain
  n_Gain_day:NoAttr K C_Gain "day"
  n_Gain_rows:NoAttr K C_Gain "rows"
  n_Gain_check:NoAttr K C_Gain "check"
  n_Gain_fits:NoAttr K C_Gain "fits"
  n_Gain_base:NoAttr K C_Gain "base"
  mg_DAYS_TOLD:mg "DAYS_TOLD" = some (.ref C_DAYS_TOLD)
  b_len:mg "len" = none
  b_isinstance:mg "isinstance" = none
  b_int:mg "int" = none
  b_bool:mg "bool" = none
  b_str:mg "str" = none
  b_list:mg "list" = none
  b_tuple:mg "tuple" = none
  b_range:mg "range" = none
  b_min:mg "min" = none
  b_max:mg "max" = none
  b_sorted:mg "sorted" = none
  b_set:mg "set" = none
  b_zip:mg "zip" = none
  b_all:mg "all" = none
  b_ValueError:mg "ValueError" = none
  kw:PySem.W.mroIn K C_NoWord (.ref C_NoWord) = some true
  kl:PySem.W.mroIn K C_NoLine (.ref C_NoLine) = some true
  kt1:PySem.W.kitOne K (.ref C_NoLine) (.ref C_NoWord) = some false
  kt2:PySem.W.kitOne K (.ref C_NoLine) (.ref C_KeepError) = some true
  kt3:PySem.W.kitOne K (.ref C_NoLine) (.type "ValueError") = some true
  clgX:PySem.W.specialIn K (.builtin "object.__class__") "__get__" = some (some (.builtin "getset_descriptor.__get__"))
  cltX:PySem.W.takesIn K (.builtin "object.__class__") = some true
  ic_Whole:PySem.W.findIn K (.ref C_Whole) "__class__" = some (some (.builtin "object.__class__"))
  io_Whole:PySem.W.mroIn K C_Whole (.type "object") = some true
  k_Whole_Whole:PySem.W.kitOne K (.ref C_Whole) (.ref C_Whole) = some true
  k_Whole_Gain:PySem.W.kitOne K (.ref C_Whole) (.ref C_Gain) = some false
  ic_Gain:PySem.W.findIn K (.ref C_Gain) "__class__" = some (some (.builtin "object.__class__"))
  io_Gain:PySem.W.mroIn K C_Gain (.type "object") = some true
  k_Gain_Whole:PySem.W.kitOne K (.ref C_Gain) (.ref C_Whole) = some false
  k_Gain_Gain:PySem.W.kitOne K (.ref C_Gain) (.ref C_Gain) = some true
section
variable {P:Program} {w:World} {K:PySem.W.Frag} {mg:Str->Option Value} {base:Heap} {t_W:Tok} {t_MOST_BLOCKS:Tok} {t_MOST_FIGURES:Tok} {t_MOST_DAY:Tok} {t_FIGURES:Tok} {t_CHECK_FIGURES:Tok} {C_KeepError:Addr} {C_NoWord:Addr} {C_NoLine:Addr} {C_Piece:Addr} {C_Whole:Addr} {C_Gain:Addr} {C_DAYS_TOLD:Addr}
theorem ok_NoWord___init__ {f:Addr} {fd:FuncData} (F:Fun K "__init__" "NoWord.__init__" s_NoWord___init__ f fd) (T:Txt K mg t_W t_MOST_BLOCKS t_MOST_FIGURES t_MOST_DAY t_FIGURES t_CHECK_FIGURES C_KeepError C_NoWord C_NoLine C_Piece C_Whole C_Gain C_DAYS_TOLD):FnOk P w K mg base (CXx P w) 1 f fd ["self","word"] (sp_x1 C_NoWord "word"):=by
  refine F.okX sc_NoWord___init__ (fun vs H Q E h=>?_) (fun cdv A outer s H vs Q E hr h=>?_)
  · obtain ⟨p,y0,rfl,hp,q⟩:=h; rfl
  · obtain ⟨p,y0,rfl,hp,q⟩:=h
    refine ⟨_,(pss_one (ps_xfld1 (pv 0) (pv 1) rfl)),?_⟩
    exact ⟨_,rfl,_,rfl,p,C_NoWord,true,rfl,hp,T.x_NoWord,T.n_NoWord_word,fun dx hdx=>q dx hdx⟩
theorem ok_NoLine___init__ {f:Addr} {fd:FuncData} (F:Fun K "__init__" "NoLine.__init__" s_NoLine___init__ f fd) (T:Txt K mg t_W t_MOST_BLOCKS t_MOST_FIGURES t_MOST_DAY t_FIGURES t_CHECK_FIGURES C_KeepError C_NoWord C_NoLine C_Piece C_Whole C_Gain C_DAYS_TOLD):FnOk P w K mg base (CXx P w) 1 f fd ["self","line"] (sp_x1 C_NoLine "line"):=by
  refine F.okX sc_NoLine___init__ (fun vs H Q E h=>?_) (fun cdv A outer s H vs Q E hr h=>?_)
  · obtain ⟨p,y0,rfl,hp,q⟩:=h; rfl
  · obtain ⟨p,y0,rfl,hp,q⟩:=h
    refine ⟨_,(pss_one (ps_xfld1 (pv 0) (pv 1) rfl)),?_⟩
    exact ⟨_,rfl,_,rfl,p,C_NoLine,true,rfl,hp,T.x_NoLine,T.n_NoLine_line,fun dx hdx=>q dx hdx⟩
theorem okH_NoLine___init__ {f:Addr} {fd:FuncData} (F:Fun K "__init__" "NoLine.__init__" s_NoLine___init__ f fd) (T:Txt K mg t_W t_MOST_BLOCKS t_MOST_FIGURES t_MOST_DAY t_FIGURES t_CHECK_FIGURES C_KeepError C_NoWord C_NoLine C_Piece C_Whole C_Gain C_DAYS_TOLD):FnOkH P w K mg base (CXx P w) 1 f fd ["self","line"] (sp_x1 C_NoLine "line"):=by
  refine F.okXH sc_NoLine___init__ (fun vs H Q E h=>?_) (fun cdv A outer s H vs Q E h=>?_)
  · obtain ⟨p,y0,rfl,hp,q⟩:=h; rfl
  · obtain ⟨p,y0,rfl,hp,q⟩:=h
    refine ⟨_,(pss_one (ps_xfld1 (pv 0) (pv 1) rfl)),?_⟩
    exact ⟨_,rfl,_,rfl,p,C_NoLine,true,rfl,hp,T.x_NoLine,T.n_NoLine_line,fun dx hdx=>q dx hdx⟩
theorem ok_turned {f:Addr} {fd:FuncData} (F:Fun K "turned" "turned" s_turned f fd) (T:Txt K mg t_W t_MOST_BLOCKS t_MOST_FIGURES t_MOST_DAY t_FIGURES t_CHECK_FIGURES C_KeepError C_NoWord C_NoLine C_Piece C_Whole C_Gain C_DAYS_TOLD) :FnOk P w K mg base (CXx P w) 1 f fd ["number"] (sp_turned):=by
  refine F.okX sc_turned (fun vs H Q E h=>?_) (fun cdv A outer s H vs Q E hr h=>?_)
  · obtain ⟨n,rfl,q⟩:=h; rfl
  obtain ⟨n,rfl,q⟩:=h
  refine ⟨_,(pss_one (ps_ret (pe_op op_add (pe_op op_mod (pe_op op_mul (pv 0) pe_int) (pe_op op_add (pe_glob (v:=.int 18446744073709551615) rfl T.m_W ⟨_,rfl⟩) pe_int)) (pe_op op_fdivB (pv 0) (pe_powc (n:=144115188075855872)))))),?_⟩
  refine ⟨_,rfl,_,_,rfl,rfl,.inr ⟨by first | decide | (dsimp only; decide),by first | decide | (dsimp only; decide)⟩,_,_,rfl,rfl,_,_,rfl,rfl,(by first | decide | (dsimp only; decide)),_,rfl,_,_,rfl,rfl,⟨by first | decide | (dsimp only; decide),by first | decide | (dsimp only; decide)⟩,_,_,rfl,rfl,?_⟩
  exact q
theorem ok_check_of {f:Addr} {fd:FuncData} (F:Fun K "check_of" "check_of" s_check_of f fd) (T:Txt K mg t_W t_MOST_BLOCKS t_MOST_FIGURES t_MOST_DAY t_FIGURES t_CHECK_FIGURES C_KeepError C_NoWord C_NoLine C_Piece C_Whole C_Gain C_DAYS_TOLD) (D_turned:DefX P w K mg base "turned" 1 ["number"] sp_turned):FnOk P w K mg base (CXx P w) 2 f fd ["start","day","rows"] (sp_check):=by
  refine F.okX sc_check_of (fun vs H Q E h=>?_) (fun cdv A outer s H vs Q E hr h=>?_)
  · obtain ⟨s1,d,a,L,rows,rfl,hA,R,hlen,q⟩:=h; rfl
  obtain ⟨s1,d,a,L,rows,rfl,hA,R,hlen,q⟩:=h
  refine ⟨_,(pss_cons (ps_set (i:=3) sc_check_of.nd rfl (Or.inl rfl) (pe_lst (pa_cons (pe_op op_add (pv 0) pe_int) (pa_cons (pv 1) pa_nil))))
      (pss_cons (ps_for PassesOwn.leaving rfl (pi_or (pi_list (pv 2)) (pi_tup (pv 2))) (pg_tup rfl (pgs_cons (pg_name (i:=4) sc_check_of.nd rfl (Or.inl rfl)) (pgs_cons (pg_name (i:=5) sc_check_of.nd rfl (Or.inl rfl)) pgs_nil)))
      (pss_one (ps_expr (pe_bm PySem.F.plainAttrs_list PySem.F.slot_list_extend PySem.F.type_list_extend mt_extend (pv 3) (pa_cons (pe_lst (pa_cons (pv 4) (pa_cons (pv 5) pa_nil))) pa_nil)))))
      (pss_cons (ps_set (i:=6) sc_check_of.nd rfl (Or.inl rfl) pe_int)
      (pss_cons (ps_for PassesOwn.leaving rfl (pi_list (pv 3)) (pg_name (i:=7) sc_check_of.nd rfl (Or.inl rfl))
      (pss_one (ps_set (i:=6) sc_check_of.nd rfl (Or.inl rfl) (pe_op op_xor (pe_callS D_turned passesN (hr.mono (by decide)) rfl (pa_cons (pv 6) pa_nil)) (pv 7)))))
      (pss_one (ps_ret (pv 6))))))),?_⟩
  refine ⟨_,rfl,_,_,rfl,rfl,_,rfl,(by show 2 ≤ sizeLine; decide),fun m hm=>?_⟩
  have nam:a ≠ m:=hA.elim (fun h=>ne_of_none h hm) (fun h=>ne_of_none h hm)
  rcases hA with hA | hA
  · refine .inl ⟨_,rfl,a,rfl,⟨_,SqL.of (by rw [upd_ne nam]; exact hA)⟩,for_list (K:=K) (a:=a) (xs:=L) (fun i σ H2=>∃ v4 v5:Option V,σ = [some (.int ((s1:Int) - 1)),some (.int (d:Int)),some (.ref a),some (.ref m),v4,v5,none,none] /\ Same H H2 ∧
      H2 m = some (.lst ((s1 :: d :: flat (rows.take i)).map fun z:Nat=>V.int (z:Int))))
    ⟨none,none,rfl,Same.new hm,by rw [upd_same]; show some (HO.lst [V.int ((s1:Int) - 1 + 1),V.int (d:Int)]) = _; rw [Int.sub_add_cancel]; rfl⟩ (fun i σ H2 _ z0=>by obtain ⟨_,_,_,s2,_⟩:=z0; exact SqL.of (s2 a _ hA)) ?_ ?_⟩
    · rintro i v σ H2 hi ⟨v4,v5,rfl,s2,h2⟩
      obtain ⟨t,r,rfl,hr2,ht⟩:=R.get i v hi
      have hil:i < rows.length:=(List.getElem?_eq_some_iff.mp hr2).1
      refine ⟨t,_,rfl,SqT.of (s2 t _ ht),rfl,_,_,rfl,_,_,rfl,rfl,?_⟩
      refine ⟨_,rfl,.inl ⟨rfl,_,SqL.of h2⟩,_,rfl,_,rfl,(by show 2 ≤ sizeLine; decide),fun l hl=>?_⟩
      have nml:m ≠ l:=ne_of_none h2 hl
      have hml:H l = none:=s2.free hl
      refine ⟨m,l,_,_,rfl,rfl,(by rw [upd_ne nml]; exact h2),upd_same,?_,?_⟩
      · have e1:(flat (rows.take i)).length = 2 * i:=by rw [flat_len,List.length_take]; omega
        show _ ≤ sizeLine
        simp only [List.length_map,List.length_cons,e1,List.length_nil]
        exact Nat.le_of_lt (small1000 (by omega))
      · refine ⟨_,_,rfl,fun b o e=>?_,?_⟩
        · rw [upd_ne (ne_of_none e hm),upd_ne (ne_of_none e hml)]; exact s2 b o e
        · rw [upd_same]
          have e:rows.take (i + 1) = rows.take i ++ [r]:=by rw [List.take_add_one,hr2]; rfl
          rw [e,flat_snoc]; simp
    · rintro σ H2 ⟨v4,v5,rfl,s2,h2⟩
      have h2:H2 m = some (.lst ((s1 :: d :: flat rows).map fun z:Nat=>V.int (z:Int))):=by
        rw [h2,R.len,List.take_length]
      refine ⟨_,rfl,m,rfl,⟨_,SqL.of h2⟩,for_list (K:=K) (a:=m) (xs:=(s1 :: d :: flat rows).map fun z:Nat=>V.int (z:Int)) (fun i σ H3=>∃ v7:Option V,σ = [some (.int ((s1:Int) - 1)),some (.int (d:Int)),some (.ref a),some (.ref m),v4,v5,some (.int ((((s1 :: d :: flat rows).take i).foldl Chk.stp 0:Nat):Int)),v7] /\ H3 = H2)
        ⟨none,rfl,rfl⟩ (fun i σ H3 _ z0=>by obtain ⟨_,_,e⟩:=z0; exact by rw [e]; exact SqL.of h2) ?_ ?_⟩
      · rintro i v σ H3 hi ⟨v7,rfl,rfl⟩
        rw [List.getElem?_map] at hi
        cases ez:(s1 :: d :: flat rows)[i]? with
        | none=>rw [ez] at hi; cases hi
        | some z =>
          rw [ez] at hi
          have hi:V.int (z:Int) = v:=Option.some.inj hi
          subst hi
          refine ⟨_,rfl,_,rfl,_,rfl,_,_,rfl,rfl,?_⟩
          have e:Builtin.bitXor (tI ((((s1 :: d :: flat rows).take i).foldl Chk.stp 0:Nat):Int)) (z:Int) = ((((s1 :: d :: flat rows).take (i + 1)).foldl Chk.stp 0:Nat):Int):=by
            rw [tI_nat,xor_nat,List.take_add_one,ez]
            simp only [Option.toList,List.foldl_append,List.foldl_cons,List.foldl_nil]
            rfl
          exact ⟨some (V.int (z:Int)),by rw [← e]; rfl,rfl⟩
      · rintro σ H3 ⟨v7,rfl,rfl⟩
        refine ⟨_,rfl,?_⟩
        rw [List.length_map,List.take_length]
        exact q H3 s2
  · refine .inr ⟨_,rfl,a,rfl,⟨_,SqT.of (by rw [upd_ne nam]; exact hA)⟩,for_tup (K:=K) (a:=a) (xs:=L) (fun i σ H2=>∃ v4 v5:Option V,σ = [some (.int ((s1:Int) - 1)),some (.int (d:Int)),some (.ref a),some (.ref m),v4,v5,none,none] /\ Same H H2 ∧
      H2 m = some (.lst ((s1 :: d :: flat (rows.take i)).map fun z:Nat=>V.int (z:Int))))
    ⟨none,none,rfl,Same.new hm,by rw [upd_same]; show some (HO.lst [V.int ((s1:Int) - 1 + 1),V.int (d:Int)]) = _; rw [Int.sub_add_cancel]; rfl⟩ (fun i σ H2 _ z0=>by obtain ⟨_,_,_,s2,_⟩:=z0; exact SqT.of (s2 a _ hA)) ?_ ?_⟩
    · rintro i v σ H2 hi ⟨v4,v5,rfl,s2,h2⟩
      obtain ⟨t,r,rfl,hr2,ht⟩:=R.get i v hi
      have hil:i < rows.length:=(List.getElem?_eq_some_iff.mp hr2).1
      refine ⟨t,_,rfl,SqT.of (s2 t _ ht),rfl,_,_,rfl,_,_,rfl,rfl,?_⟩
      refine ⟨_,rfl,.inl ⟨rfl,_,SqL.of h2⟩,_,rfl,_,rfl,(by show 2 ≤ sizeLine; decide),fun l hl=>?_⟩
      have nml:m ≠ l:=ne_of_none h2 hl
      have hml:H l = none:=s2.free hl
      refine ⟨m,l,_,_,rfl,rfl,(by rw [upd_ne nml]; exact h2),upd_same,?_,?_⟩
      · have e1:(flat (rows.take i)).length = 2 * i:=by rw [flat_len,List.length_take]; omega
        show _ ≤ sizeLine
        simp only [List.length_map,List.length_cons,e1,List.length_nil]
        exact Nat.le_of_lt (small1000 (by omega))
      · refine ⟨_,_,rfl,fun b o e=>?_,?_⟩
        · rw [upd_ne (ne_of_none e hm),upd_ne (ne_of_none e hml)]; exact s2 b o e
        · rw [upd_same]
          have e:rows.take (i + 1) = rows.take i ++ [r]:=by rw [List.take_add_one,hr2]; rfl
          rw [e,flat_snoc]; simp
    · rintro σ H2 ⟨v4,v5,rfl,s2,h2⟩
      have h2:H2 m = some (.lst ((s1 :: d :: flat rows).map fun z:Nat=>V.int (z:Int))):=by
        rw [h2,R.len,List.take_length]
      refine ⟨_,rfl,m,rfl,⟨_,SqL.of h2⟩,for_list (K:=K) (a:=m) (xs:=(s1 :: d :: flat rows).map fun z:Nat=>V.int (z:Int)) (fun i σ H3=>∃ v7:Option V,σ = [some (.int ((s1:Int) - 1)),some (.int (d:Int)),some (.ref a),some (.ref m),v4,v5,some (.int ((((s1 :: d :: flat rows).take i).foldl Chk.stp 0:Nat):Int)),v7] /\ H3 = H2)
        ⟨none,rfl,rfl⟩ (fun i σ H3 _ z0=>by obtain ⟨_,_,e⟩:=z0; exact by rw [e]; exact SqL.of h2) ?_ ?_⟩
      · rintro i v σ H3 hi ⟨v7,rfl,rfl⟩
        rw [List.getElem?_map] at hi
        cases ez:(s1 :: d :: flat rows)[i]? with
        | none=>rw [ez] at hi; cases hi
        | some z =>
          rw [ez] at hi
          have hi:V.int (z:Int) = v:=Option.some.inj hi
          subst hi
          refine ⟨_,rfl,_,rfl,_,rfl,_,_,rfl,rfl,?_⟩
          have e:Builtin.bitXor (tI ((((s1 :: d :: flat rows).take i).foldl Chk.stp 0:Nat):Int)) (z:Int) = ((((s1 :: d :: flat rows).take (i + 1)).foldl Chk.stp 0:Nat):Int):=by
            rw [tI_nat,xor_nat,List.take_add_one,ez]
            simp only [Option.toList,List.foldl_append,List.foldl_cons,List.foldl_nil]
            rfl
          exact ⟨some (V.int (z:Int)),by rw [← e]; rfl,rfl⟩
      · rintro σ H3 ⟨v7,rfl,rfl⟩
        refine ⟨_,rfl,?_⟩
        rw [List.length_map,List.take_length]
        exact q H3 s2
theorem ok_Piece___init__ {f:Addr} {fd:FuncData} (F:Fun K "__init__" "Piece.__init__" s_Piece___init__ f fd) (T:Txt K mg t_W t_MOST_BLOCKS t_MOST_FIGURES t_MOST_DAY t_FIGURES t_CHECK_FIGURES C_KeepError C_NoWord C_NoLine C_Piece C_Whole C_Gain C_DAYS_TOLD) (D_check_of:DefX P w K mg base "check_of" 2 ["start","day","rows"] sp_check):FnOk P w K mg base (CXx P w) 3 f fd ["self","start","day","rows","check"] (sp_pinit K):=by
  refine F.okX sc_Piece___init__ (fun vs H Q E h=>?_) (fun cdv A outer s H vs Q E hr h=>?_)
  · obtain ⟨p,C,dx,a,s1,d,L,rows,cv,c,rfl,hp,cl,n1,n2,n3,n4,hA,R,hlen,hcv,q⟩:=h; rfl
  obtain ⟨p,C,dx,a,s1,d,L,rows,cv,c,rfl,hp,cl,n1,n2,n3,n4,hA,R,hlen,hcv,q⟩:=h
  refine ⟨_,(pss_cons (ps_fld (pv 0) (pv 2) rfl)
      (pss_cons (ps_fld (pv 0) (pe_callTy call_tuple_of (by rfl) T.b_tuple PyProof.Rows.boot_tuple (pa_cons (pe_comp (N:=["place","block"]) (k:=2) (cap:=[]) rfl rfl (pi_or (pi_list (pv 3)) (pi_tup (pv 3))) (fun _ _ _ _=>(pg_tupK (K:=K) (n:=2) rfl rfl (pgs_cons (pg_name (i:=0) (show (["place","block"]:List Str).Nodup from by decide +kernel) rfl (Or.inl rfl) (.inr rfl)) (pgs_cons (pg_name (i:=1) (show (["place","block"]:List Str).Nodup from by decide +kernel) rfl (Or.inl rfl) (.inr rfl)) pgs_nil)))) (fun _ _ _ _=>pts_nil) (fun _ _ _ _=>(pe_tup (pa_cons (pv 0) (pa_cons (pv 1) pa_nil))))) pa_nil)) rfl)
      (pss_cons (ps_set (i:=5) sc_Piece___init__.nd rfl (Or.inl rfl) (pe_callS D_check_of passesN (hr.mono (by decide)) rfl (pa_cons (pv 1) (pa_cons (pv 2) (pa_cons (pe_fld (pv 0) rfl) pa_nil)))))
      (pss_cons (ps_fld (pv 0) (pe_ifExp (pt_cmpR op_isN (pv 4) pe_non (nomark _)) (pv 5) (pv 4)) rfl)
      (pss_one (ps_fld (pv 0) (pe_cmpR op_eq (pe_fld (pv 0) rfl) (pv 5) (nomark _)) rfl)))))),?_⟩
  have npa:a ≠ p:=by rcases hA with h | h <;> exact ne_of h hp (by intro z; cases z)
  refine ⟨_,rfl,_,rfl,p,C,dx,_,rfl,hp,cl,n1,(by show 0 < 1000; decide),?_⟩
  have hp1:upd H p (.ins C dx (putF "day" (V.int (d:Int)) [])) p = some (.ins C dx [("day",V.int (d:Int))]):=upd_same
  have k1:Keep [p] H (upd H p (.ins C dx (putF "day" (V.int (d:Int)) []))):=keep_upd Keep.refl (.inl (by simp))
  generalize upd H p (.ins C dx (putF "day" (V.int (d:Int)) [])) = H1 at hp1 k1
  have hA1:H1 a = some (.lst L) ∨ H1 a = some (.tup L):=hA.imp (fun h=>k1 a _ h (by simpa using npa)) (fun h=>k1 a _ h (by simpa using npa))
  have R1:RowsAt H1 L rows:=R.mono fun t xs e=>k1 t _ e (by have:=ne_of e hp (by intro z; cases z); simpa using this)
  rcases hA1 with hA1 | hA1
  · refine .inl ⟨_,rfl,a,rfl,⟨_,SqL.of hA1⟩,fun D hD=>?_⟩
    refine comp_list D (K:=K) (a:=a) (xs:=L) (fun i σ H5 ys=>∃ v v':Option V,σ = [v,v'] /\ Same H1 H5 /\ H5 D = some (.lst ys) /\ RowsAt H5 ys (rows.take i)) ⟨none,none,rfl,Same.new hD,upd_same,⟨rfl,fun i v e=>by simp at e⟩⟩ (fun i σ H5 ys _ z0=>by obtain ⟨_,_,_,s5,_⟩:=z0; exact SqL.of (s5 a _ hA1)) ?_ ?_
    · rintro i x σ H5 ys hi ⟨v,v',rfl,s5,hy,R5⟩
      obtain ⟨t,r,rfl,hr2,ht⟩:=R1.get i x hi
      refine ⟨t,_,rfl,SqT.of (s5 t _ ht),rfl,_,_,rfl,_,_,rfl,rfl,_,rfl,_,rfl,(by show 2 ≤ sizeLine; decide),fun t2 ht2=>?_⟩
      have nD:D ≠ t2:=ne_of_none hy ht2
      refine ⟨by rw [upd_ne nD]; exact hy,(by rw [R5.len,List.length_take]; exact small1000 (by omega)),_,_,rfl,fun b o e=>?_,upd_same,?_⟩
      · rw [upd_ne (ne_of_none e hD)]; exact Same.new ht2 b _ (s5 b _ e)
      · rw [List.take_add_one,hr2]
        refine (R5.mono fun b xs e=>?_).snoc ?_
        · rw [upd_ne (ne_of e hy (by intro z; cases z))]; exact Same.new ht2 b _ e
        · rw [upd_ne nD.symm,upd_same]
    · rintro σ H5 ys ⟨v,v',rfl,s5,hy,R5⟩
      rw [show rows.take L.length = rows by rw [R1.len,List.take_length]] at R5
      refine ⟨D,_,rfl,.inl ⟨SqL.of hy,fun r hr=>?_⟩⟩
      have hp5:=s5 p _ hp1
      have npr:p ≠ r:=ne_of_none hp5 hr
      refine ⟨_,rfl,p,C,dx,_,rfl,Same.new hr p _ hp5,cl,n2,(by show 1 < 1000; decide),?_⟩
      rw [put_rows]
      have hp6:upd (upd H5 r (.tup ys)) p (.ins C dx [("day",V.int (d:Int)),("rows",V.ref r)]) p = some (.ins C dx [("day",V.int (d:Int)),("rows",V.ref r)]):=upd_same
      have hr6:upd (upd H5 r (.tup ys)) p (.ins C dx [("day",V.int (d:Int)),("rows",V.ref r)]) r = some (.tup ys):=by rw [upd_ne npr.symm,upd_same]
      have k6:Keep [p] H5 (upd (upd H5 r (.tup ys)) p (.ins C dx [("day",V.int (d:Int)),("rows",V.ref r)])):=keep_upd (Keep.of_same (Same.new hr)) (.inl (by simp))
      have R6:RowsAt (upd (upd H5 r (.tup ys)) p (.ins C dx [("day",V.int (d:Int)),("rows",V.ref r)])) ys rows:=R5.mono fun t xs e=>k6 t _ e (by have:=ne_of e hp5 (by intro z; cases z); simpa using this)
      generalize upd (upd H5 r (.tup ys)) p (.ins C dx [("day",V.int (d:Int)),("rows",V.ref r)]) = H6 at hp6 hr6 k6 R6
      have k06:Keep [p] H H6:=fun b o e hb=>k6 b o (s5 b o (k1 b o e hb)) hb
      have npr6:r ≠ p:=npr.symm
      refine ⟨_,rfl,_,rfl,_,rfl,p,C,dx,_,_,rfl,hp6,cl,n2,lk_rows,s1,d,r,ys,rows,rfl,.inr hr6,R6,hlen,fun H7 s7=>?_⟩
      have last:Q V.non (upd (upd H7 p (.ins C dx [("day",V.int (d:Int)),("rows",V.ref r),("check",V.int c)])) p (.ins C dx (putF "fits" (V.bl (decide (V.int c = V.int ((Chk.chk (s1 :: d :: flat rows):Nat):Int)))) [("day",V.int (d:Int)),("rows",V.ref r),("check",V.int c)]))):=by
        rw [put_fits,upd_upd,decI]
        refine q r ys _ upd_same (by rw [upd_ne npr6]; exact s7 r _ hr6) (R6.mono fun t xs e=>?_) fun b o e hb=>?_
        · rw [upd_ne (ne_of e hp6 (by intro z; cases z))]; exact s7 t _ e
        · rw [upd_ne (by simpa using hb)]; exact s7 b _ (k06 b o e hb)
      rcases hcv with ⟨rfl,hc⟩ | rfl
      · subst hc
        refine ⟨_,rfl,rfl,_,rfl,?_⟩
        refine iteY rfl ?_
        refine ⟨_,rfl,_,rfl,p,C,dx,_,rfl,s7 p _ hp6,cl,n3,(by show 2 < 1000; decide),?_⟩
        rw [put_check]
        refine ⟨_,rfl,p,C,dx,_,_,rfl,upd_same,cl,n3,lk_check,_,rfl,rfl,_,rfl,p,C,dx,_,rfl,upd_same,cl,n4,(by show 3 < 1000; decide),?_⟩
        exact last
      · refine ⟨_,rfl,rfl,_,rfl,?_⟩
        refine iteN (by intro h; cases h) ?_
        refine ⟨_,rfl,_,rfl,p,C,dx,_,rfl,s7 p _ hp6,cl,n3,(by show 2 < 1000; decide),?_⟩
        rw [put_check]
        refine ⟨_,rfl,p,C,dx,_,_,rfl,upd_same,cl,n3,lk_check,_,rfl,rfl,_,rfl,p,C,dx,_,rfl,upd_same,cl,n4,(by show 3 < 1000; decide),?_⟩
        exact last
  · refine .inr ⟨_,rfl,a,rfl,⟨_,SqT.of hA1⟩,fun D hD=>?_⟩
    refine comp_tup D (K:=K) (a:=a) (xs:=L) (fun i σ H5 ys=>∃ v v':Option V,σ = [v,v'] /\ Same H1 H5 /\ H5 D = some (.lst ys) /\ RowsAt H5 ys (rows.take i)) ⟨none,none,rfl,Same.new hD,upd_same,⟨rfl,fun i v e=>by simp at e⟩⟩ (fun i σ H5 ys _ z0=>by obtain ⟨_,_,_,s5,_⟩:=z0; exact SqT.of (s5 a _ hA1)) ?_ ?_
    · rintro i x σ H5 ys hi ⟨v,v',rfl,s5,hy,R5⟩
      obtain ⟨t,r,rfl,hr2,ht⟩:=R1.get i x hi
      refine ⟨t,_,rfl,SqT.of (s5 t _ ht),rfl,_,_,rfl,_,_,rfl,rfl,_,rfl,_,rfl,(by show 2 ≤ sizeLine; decide),fun t2 ht2=>?_⟩
      have nD:D ≠ t2:=ne_of_none hy ht2
      refine ⟨by rw [upd_ne nD]; exact hy,(by rw [R5.len,List.length_take]; exact small1000 (by omega)),_,_,rfl,fun b o e=>?_,upd_same,?_⟩
      · rw [upd_ne (ne_of_none e hD)]; exact Same.new ht2 b _ (s5 b _ e)
      · rw [List.take_add_one,hr2]
        refine (R5.mono fun b xs e=>?_).snoc ?_
        · rw [upd_ne (ne_of e hy (by intro z; cases z))]; exact Same.new ht2 b _ e
        · rw [upd_ne nD.symm,upd_same]
    · rintro σ H5 ys ⟨v,v',rfl,s5,hy,R5⟩
      rw [show rows.take L.length = rows by rw [R1.len,List.take_length]] at R5
      refine ⟨D,_,rfl,.inl ⟨SqL.of hy,fun r hr=>?_⟩⟩
      have hp5:=s5 p _ hp1
      have npr:p ≠ r:=ne_of_none hp5 hr
      refine ⟨_,rfl,p,C,dx,_,rfl,Same.new hr p _ hp5,cl,n2,(by show 1 < 1000; decide),?_⟩
      rw [put_rows]
      have hp6:upd (upd H5 r (.tup ys)) p (.ins C dx [("day",V.int (d:Int)),("rows",V.ref r)]) p = some (.ins C dx [("day",V.int (d:Int)),("rows",V.ref r)]):=upd_same
      have hr6:upd (upd H5 r (.tup ys)) p (.ins C dx [("day",V.int (d:Int)),("rows",V.ref r)]) r = some (.tup ys):=by rw [upd_ne npr.symm,upd_same]
      have k6:Keep [p] H5 (upd (upd H5 r (.tup ys)) p (.ins C dx [("day",V.int (d:Int)),("rows",V.ref r)])):=keep_upd (Keep.of_same (Same.new hr)) (.inl (by simp))
      have R6:RowsAt (upd (upd H5 r (.tup ys)) p (.ins C dx [("day",V.int (d:Int)),("rows",V.ref r)])) ys rows:=R5.mono fun t xs e=>k6 t _ e (by have:=ne_of e hp5 (by intro z; cases z); simpa using this)
      generalize upd (upd H5 r (.tup ys)) p (.ins C dx [("day",V.int (d:Int)),("rows",V.ref r)]) = H6 at hp6 hr6 k6 R6
      have k06:Keep [p] H H6:=fun b o e hb=>k6 b o (s5 b o (k1 b o e hb)) hb
      have npr6:r ≠ p:=npr.symm
      refine ⟨_,rfl,_,rfl,_,rfl,p,C,dx,_,_,rfl,hp6,cl,n2,lk_rows,s1,d,r,ys,rows,rfl,.inr hr6,R6,hlen,fun H7 s7=>?_⟩
      have last:Q V.non (upd (upd H7 p (.ins C dx [("day",V.int (d:Int)),("rows",V.ref r),("check",V.int c)])) p (.ins C dx (putF "fits" (V.bl (decide (V.int c = V.int ((Chk.chk (s1 :: d :: flat rows):Nat):Int)))) [("day",V.int (d:Int)),("rows",V.ref r),("check",V.int c)]))):=by
        rw [put_fits,upd_upd,decI]
        refine q r ys _ upd_same (by rw [upd_ne npr6]; exact s7 r _ hr6) (R6.mono fun t xs e=>?_) fun b o e hb=>?_
        · rw [upd_ne (ne_of e hp6 (by intro z; cases z))]; exact s7 t _ e
        · rw [upd_ne (by simpa using hb)]; exact s7 b _ (k06 b o e hb)
      rcases hcv with ⟨rfl,hc⟩ | rfl
      · subst hc
        refine ⟨_,rfl,rfl,_,rfl,?_⟩
        refine iteY rfl ?_
        refine ⟨_,rfl,_,rfl,p,C,dx,_,rfl,s7 p _ hp6,cl,n3,(by show 2 < 1000; decide),?_⟩
        rw [put_check]
        refine ⟨_,rfl,p,C,dx,_,_,rfl,upd_same,cl,n3,lk_check,_,rfl,rfl,_,rfl,p,C,dx,_,rfl,upd_same,cl,n4,(by show 3 < 1000; decide),?_⟩
        exact last
      · refine ⟨_,rfl,rfl,_,rfl,?_⟩
        refine iteN (by intro h; cases h) ?_
        refine ⟨_,rfl,_,rfl,p,C,dx,_,rfl,s7 p _ hp6,cl,n3,(by show 2 < 1000; decide),?_⟩
        rw [put_check]
        refine ⟨_,rfl,p,C,dx,_,_,rfl,upd_same,cl,n3,lk_check,_,rfl,rfl,_,rfl,p,C,dx,_,rfl,upd_same,cl,n4,(by show 3 < 1000; decide),?_⟩
        exact last
theorem ok_Whole___init__ {f:Addr} {fd:FuncData} {dV:Value} (F:FunD K "__init__" "Whole.__init__" s_Whole___init__ f fd dV) (T:Txt K mg t_W t_MOST_BLOCKS t_MOST_FIGURES t_MOST_DAY t_FIGURES t_CHECK_FIGURES C_KeepError C_NoWord C_NoLine C_Piece C_Whole C_Gain C_DAYS_TOLD) (D_Piece___init__:ClsX P w K mg base "Piece" C_Piece "__init__" 3 ["self","start","day","rows","check"] (sp_pinit K)):FnOk P w K mg base (CXx P w) 4 f fd ["self","day","rows","check"] (sp_winit C_Whole C_Gain):=by
  refine F.okX sc_Whole___init__ (fun vs H Q E h=>?_) (fun cdv A outer s H vs Q E hr h=>?_)
  · obtain ⟨p,dx,a,d,L,rows,cv,c,rfl,hp,hA,R,hlen,hcv,q⟩:=h; rfl
  obtain ⟨p,dx,a,d,L,rows,cv,c,rfl,hp,hA,R,hlen,hcv,q⟩:=h
  refine ⟨_,(pss_one (ps_expr (pe_clsS (pe_glob (v:=.ref C_Piece) rfl T.mg_Piece rfl) D_Piece___init__ passesN (hr.mono (by decide)) (pa_cons (pv 0) (pa_cons (pe_un un_neg pe_int) (pa_cons (pv 1) (pa_cons (pv 2) (pa_cons (pv 3) pa_nil)))))))),?_⟩
  refine ⟨_,rfl,_,rfl,_,rfl,_,rfl,_,rfl,p,C_Whole,dx,a,0,d,L,rows,cv,c,rfl,hp,T.cl_Whole,T.n_Whole_day,T.n_Whole_rows,T.n_Whole_check,T.n_Whole_fits,hA,R,hlen,hcv,fun r Rr H1 h1 h2 h3 k1=>?_⟩
  exact q H1 ⟨dx,r,Rr,h1,h2,h3⟩ k1
theorem ok_Gain___init__ {f:Addr} {fd:FuncData} {dV:Value} (F:FunD K "__init__" "Gain.__init__" s_Gain___init__ f fd dV) (T:Txt K mg t_W t_MOST_BLOCKS t_MOST_FIGURES t_MOST_DAY t_FIGURES t_CHECK_FIGURES C_KeepError C_NoWord C_NoLine C_Piece C_Whole C_Gain C_DAYS_TOLD) (D_Piece___init__:ClsX P w K mg base "Piece" C_Piece "__init__" 3 ["self","start","day","rows","check"] (sp_pinit K)):FnOk P w K mg base (CXx P w) 4 f fd ["self","base","day","rows","check"] (sp_ginit C_Whole C_Gain):=by
  refine F.okX sc_Gain___init__ (fun vs H Q E h=>?_) (fun cdv A outer s H vs Q E hr h=>?_)
  · obtain ⟨p,dx,a,b,d,L,rows,cv,c,rfl,hp,hA,R,hlen,hcv,q⟩:=h; rfl
  obtain ⟨p,dx,a,b,d,L,rows,cv,c,rfl,hp,hA,R,hlen,hcv,q⟩:=h
  refine ⟨_,(pss_cons (ps_expr (pe_clsS (pe_glob (v:=.ref C_Piece) rfl T.mg_Piece rfl) D_Piece___init__ passesN (hr.mono (by decide)) (pa_cons (pv 0) (pa_cons (pv 1) (pa_cons (pv 2) (pa_cons (pv 3) (pa_cons (pv 4) pa_nil)))))))
      (pss_one (ps_fld (pv 0) (pv 1) rfl))),?_⟩
  refine ⟨_,rfl,_,rfl,_,rfl,_,rfl,_,rfl,p,C_Gain,dx,a,b + 1,d,L,rows,cv,c,(by rw [show (((b + 1:Nat):Int) - 1) = (b:Int) by omega]),hp,T.cl_Gain,T.n_Gain_day,T.n_Gain_rows,T.n_Gain_check,T.n_Gain_fits,hA,R,hlen,hcv,fun r Rr H1 h1 h2 h3 k1=>?_⟩
  refine ⟨_,rfl,_,rfl,p,C_Gain,dx,_,rfl,h1,T.cl_Gain,T.n_Gain_base,(by show 4 < 1000; decide),?_⟩
  rw [put_base]
  refine q _ ⟨dx,r,Rr,upd_same,?_,h3.mono fun t xs e=>?_⟩ (keep_upd k1 (.inl (by simp)))
  · rw [upd_ne (ne_of h2 h1 (by intro z; cases z))]; exact h2
  · rw [upd_ne (ne_of e h1 (by intro z; cases z))]; exact e
theorem ok_Whole_kind {f:Addr} {fd:FuncData} (F:Fun K "kind" "Whole.kind" s_Whole_kind f fd) (T:Txt K mg t_W t_MOST_BLOCKS t_MOST_FIGURES t_MOST_DAY t_FIGURES t_CHECK_FIGURES C_KeepError C_NoWord C_NoLine C_Piece C_Whole C_Gain C_DAYS_TOLD) :FnOk P w K mg base (CXx P w) 1 f fd ["self"] (sp_wkind):=by
  refine F.okX sc_Whole_kind (fun vs H Q E h=>?_) (fun cdv A outer s H vs Q E hr h=>?_)
  · obtain ⟨p,rfl,q⟩:=h; rfl
  obtain ⟨p,rfl,q⟩:=h
  refine ⟨_,(pss_one (ps_ret pe_str)),?_⟩
  exact q
theorem ok_Gain_kind {f:Addr} {fd:FuncData} (F:Fun K "kind" "Gain.kind" s_Gain_kind f fd) (T:Txt K mg t_W t_MOST_BLOCKS t_MOST_FIGURES t_MOST_DAY t_FIGURES t_CHECK_FIGURES C_KeepError C_NoWord C_NoLine C_Piece C_Whole C_Gain C_DAYS_TOLD) :FnOk P w K mg base (CXx P w) 1 f fd ["self"] (sp_gkind):=by
  refine F.okX sc_Gain_kind (fun vs H Q E h=>?_) (fun cdv A outer s H vs Q E hr h=>?_)
  · obtain ⟨p,rfl,q⟩:=h; rfl
  obtain ⟨p,rfl,q⟩:=h
  refine ⟨_,(pss_one (ps_ret pe_str)),?_⟩
  exact q
theorem ok_writes_number {f:Addr} {fd:FuncData} (F:Fun K "writes_number" "writes_number" s_writes_number f fd) (T:Txt K mg t_W t_MOST_BLOCKS t_MOST_FIGURES t_MOST_DAY t_FIGURES t_CHECK_FIGURES C_KeepError C_NoWord C_NoLine C_Piece C_Whole C_Gain C_DAYS_TOLD) :FnOk P w K mg base (CXx P w) 1 f fd ["word"] (sp_writes):=by
  refine F.okX sc_writes_number (fun vs H Q E h=>?_) (fun cdv A outer s H vs Q E hr h=>?_)
  · obtain ⟨z,rfl,hz,q⟩:=h; rfl
  obtain ⟨z,rfl,hz,q⟩:=h
  refine ⟨_,(pss_cons (ps_if (pt_cmpR op_eq (pv 0) pe_str (nomark _)) (pss_one (ps_ret pe_bl)) pss_nil)
      (pss_cons (ps_if (PW.pt (pw_or (pt_cmpR op_lt (pe_callB call_len_str (by rfl) T.b_len PySem.boot_len (pa_cons (pv 0) pa_nil)) pe_int (nomark _)) (pw_or (pt_cmpR op_gt (pe_callB call_len_str (by rfl) T.b_len PySem.boot_len (pa_cons (pv 0) pa_nil)) (pe_glob (v:=.int 20) rfl T.m_MOST_FIGURES ⟨_,rfl⟩) (nomark _)) (pw_or1 (pt_cmpR op_eq (pe_ix ix_str (pv 0) pe_int (fun _ _=>rfl)) pe_str (nomark _)))))) (pss_one (ps_ret pe_bl)) pss_nil)
      (pss_one (ps_ret (pe_callB (call_all_bl rfl) (by rfl) T.b_all PyProof.Rows.boot_all (pa_cons (pe_comp (N:=["sign"]) (k:=1) (cap:=[]) rfl rfl (pi_str (pv 0)) (fun _ _ _ _=>(pg_name (i:=0) (show (["sign"]:List Str).Nodup from by decide +kernel) rfl (Or.inl rfl) (.inr rfl))) (fun _ _ _ _=>pts_nil) (fun _ _ _ _=>(pe_cmpR op_in_str (pv 0) (pe_glob (v:=.str (PySem.Str.ofString "0123456789")) rfl T.m_FIGURES ⟨_,rfl⟩) (by with_unfolding_all rfl)))) pa_nil)))))),?_⟩
  have hzl:z.length ≤ sizeLine:=Nat.le_trans hz (by decide)
  refine ⟨_,rfl,rfl,_,rfl,?_⟩
  by_cases h0:z = Str.ofString "0"
  · subst h0
    refine iteY rfl ?_
    have e:okW (Str.ofString "0") = true:=by decide +kernel
    rw [e] at q
    exact q H (Same.refl H)
  refine iteN (fun h=>h0 (V.str.inj h)) ?_
  refine ⟨_,rfl,z,rfl,hzl,_,_,rfl,rfl,_,rfl,?_⟩
  by_cases h1:¬ 1 ≤ z.length
  · refine iteY (by omega) ?_
    refine iteT ?_
    rw [okW_lo h1] at q
    exact q H (Same.refl H)
  have h1:=Classical.not_not.mp h1
  refine iteN (by omega) ?_
  refine ⟨_,rfl,z,rfl,hzl,_,_,rfl,rfl,_,rfl,?_⟩
  by_cases h2:¬ z.length ≤ 20
  · refine iteY (by omega) ?_
    refine iteT ?_
    rw [okW_hi h2] at q
    exact q H (Same.refl H)
  have h2:=Classical.not_not.mp h2
  refine iteN (by omega) ?_
  obtain ⟨c0,hc0⟩:=str_first h1
  refine ⟨_,rfl,z,0,c0,rfl,rfl,hzl,atI_nat (j:=0) hc0,rfl,_,rfl,?_⟩
  by_cases h3:c0 = 48
  · subst h3
    refine iteY rfl ?_
    rw [okW_zero (fun h=>h0 (str_zero h hc0)) hc0] at q
    exact q H (Same.refl H)
  refine iteN (fun h=>h3 (one_eq.mp h)) ?_
  rw [okW_all h1 h2 (.inr fun h=>h3 (by rw [hc0] at h; exact Option.some.inj h))] at q
  refine ⟨_,rfl,z,rfl,fun D' hD'=>?_⟩
  refine comp_str D' (x:=z) (fun i σ H5 ys=>∃ v:Option V,σ = [v] /\ H5 = upd H D' (.lst ys) /\ ys = ((z.cps.toList.take i).map figB).map V.bl) ⟨none,rfl,rfl,rfl⟩ ?_ ?_
  · rintro i c σ H5 ys hi ⟨v,rfl,rfl,hy⟩
    have hi2:z.cps.toList[i]? = some c:=by simpa using hi
    refine ⟨_,rfl,_,_,rfl,rfl,upd_same,?_,_,rfl,by rw [upd_upd],?_⟩
    · rw [hy,List.length_map,List.length_map,List.length_take,str_len]; exact small1000 (by omega)
    · rw [hy,List.take_add_one,hi2]; simp [figB]
  · rintro σ H5 ys ⟨v,rfl,rfl,hy⟩
    refine ⟨D',(z.cps.toList.map figB),rfl,SqL.of ?_,?_⟩
    · rw [upd_same,hy,List.take_of_length_le (by simp)]
    · have e:(z.cps.toList.map figB).all id = isNum z:=by unfold isNum; rw [List.all_map]; rfl
      rw [e]
      exact q _ (Same.new hD')
theorem ok_number_of {f:Addr} {fd:FuncData} (F:Fun K "number_of" "number_of" s_number_of f fd) (T:Txt K mg t_W t_MOST_BLOCKS t_MOST_FIGURES t_MOST_DAY t_FIGURES t_CHECK_FIGURES C_KeepError C_NoWord C_NoLine C_Piece C_Whole C_Gain C_DAYS_TOLD) (D_writes_number:DefX P w K mg base "writes_number" 1 ["word"] sp_writes) (D_NoWord:ExcX P w K mg base "NoWord" C_NoWord 1 ["self","word"] (sp_x1 C_NoWord "word")):FnOk P w K mg base (CXx P w) 3 f fd ["word"] (sp_number C_NoWord):=by
  refine F.okX sc_number_of (fun vs H Q E h=>?_) (fun cdv A outer s H vs Q E hr h=>?_)
  · obtain ⟨z,rfl,hz,q1,q2⟩:=h; rfl
  obtain ⟨z,rfl,hz,q1,q2⟩:=h
  refine ⟨_,(pss_cons (ps_if (pt_not (pt_val (pe_callS D_writes_number passesN (hr.mono (by decide)) rfl (pa_cons (pv 0) pa_nil)))) (pss_one (ps_raise rfl raisesB (pe_exc D_NoWord (hr.mono (by decide)) rfl (pa_cons (pv 0) pa_nil)))) pss_nil)
      (pss_one (ps_ret (pe_callTy call_int_str (by rfl) T.b_int PyProof.Rows.boot_int (pa_cons (pv 0) pa_nil))))),?_⟩
  refine ⟨_,rfl,z,rfl,hz,fun H1 s1=>⟨_,rfl,?_⟩⟩
  cases hw:okW z
  · refine iteT ?_
    exact ⟨_,rfl,raise1U (E:=E) T.x_NoWord fun e H' he hs=>q2 hw e H' he (s1.trans hs)⟩
  · refine iteF ?_
    exact ⟨_,rfl,z,intOf z,rfl,okW_num hw,(by have:=okW_short hw; omega),q1 hw H1 s1⟩
theorem ok_change_of {f:Addr} {fd:FuncData} (F:Fun K "change_of" "change_of" s_change_of f fd) (T:Txt K mg t_W t_MOST_BLOCKS t_MOST_FIGURES t_MOST_DAY t_FIGURES t_CHECK_FIGURES C_KeepError C_NoWord C_NoLine C_Piece C_Whole C_Gain C_DAYS_TOLD) (D_writes_number:DefX P w K mg base "writes_number" 1 ["word"] sp_writes) (D_NoWord:ExcX P w K mg base "NoWord" C_NoWord 1 ["self","word"] (sp_x1 C_NoWord "word")):FnOk P w K mg base (CXx P w) 3 f fd ["word"] (sp_changeG C_NoWord):=by
  refine F.okX sc_change_of (fun vs H Q E h=>?_) (fun cdv A outer s H vs Q E hr h=>?_)
  · obtain ⟨z,rfl,hz,q1,q2⟩:=h; rfl
  obtain ⟨z,rfl,hz,q1,q2⟩:=h
  refine ⟨_,(pss_cons (ps_set (i:=1) sc_change_of.nd rfl (Or.inl rfl) (pe_bm PySem.F.plainAttrs_str PySem.F.slot_str_split PySem.F.type_str_split mt_split (pv 0) (pa_cons pe_str pa_nil)))
      (pss_cons (ps_if (PW.pt (pw_or (pt_cmpR op_ne (pe_callB call_len_seq (by rfl) T.b_len PySem.boot_len (pa_cons (pv 1) pa_nil)) pe_int (nomark _)) (pw_or (pt_not (pt_val (pe_callS D_writes_number passesN (hr.mono (by decide)) rfl (pa_cons (pe_ix ix_list (pv 1) pe_int (fun _ _=>rfl)) pa_nil)))) (pw_or1 (pt_not (pt_val (pe_callS D_writes_number passesN (hr.mono (by decide)) rfl (pa_cons (pe_ix ix_list (pv 1) pe_int (fun _ _=>rfl)) pa_nil)))))))) (pss_one (ps_raise rfl raisesB (pe_exc D_NoWord (hr.mono (by decide)) rfl (pa_cons (pv 0) pa_nil)))) pss_nil)
      (pss_one (ps_ret (pe_tup (pa_cons (pe_callTy call_int_str (by rfl) T.b_int PyProof.Rows.boot_int (pa_cons (pe_ix ix_list (pv 1) pe_int (fun _ _=>rfl)) pa_nil)) (pa_cons (pe_callTy call_int_str (by rfl) T.b_int PyProof.Rows.boot_int (pa_cons (pe_ix ix_list (pv 1) pe_int (fun _ _=>rfl)) pa_nil)) pa_nil))))))),?_⟩
  refine ⟨_,rfl,rfl,z,Str.ofString "=",rfl,rfl,by decide +kernel,by omega,fun p hp=>?_⟩
  have hP1:=fun w hw=>split_leY (z:=z) (p:=w) (y:=Str.ofString "=") hw
  have hP2:=split_manyY (z:=z) (y:=Str.ofString "=") (by decide +kernel)
  unfold chg at q1 q2
  generalize Txt.split z (Str.ofString "=") = ps at q1 q2 hP1 hP2
  have hp2:upd H p (.lst (ps.map V.str)) p = some (.lst (ps.map V.str)):=upd_same
  have s0:Same H (upd H p (.lst (ps.map V.str))):=Same.new hp
  generalize upd H p (.lst (ps.map V.str)) = H0 at hp2 s0
  refine ⟨_,rfl,p,_,rfl,.inl (SqL.of hp2),rfl,_,rfl,?_⟩
  rw [List.length_map]
  have rz:∀ H1,Same H0 H1->(∀ e H',ExcU H' e C_NoWord->Same H H'->E (.ref C_NoWord) (some e) H')->_:=fun H1 s1 h=>raise1U (K:=K) (f:="word") (y:=.str z) (H1:=H1) (E:=E) T.x_NoWord fun e H' he hs=>h e H' he ((s0.trans s1).trans hs)
  by_cases h2:ps.length = 2
  · obtain ⟨a,b,rfl⟩:∃ a b,ps = [a,b]:=by
      match ps,h2 with
      | [a,b],_=>exact ⟨a,b,rfl⟩
    refine iteNS rfl ?_
    refine ⟨_,rfl,p,_,_,V.str a,rfl,rfl,SqL.of hp2,atI_nat (j:=0) rfl,a,rfl,(by have:=hP1 a (by simp); omega),fun H1 s1=>⟨_,rfl,?_⟩⟩
    cases ha:okW a
    · refine iteT ?_
      refine iteT ?_
      exact ⟨_,rfl,rz H1 s1 (q2 (by simp [ha]))⟩
    refine iteF ?_
    refine ⟨_,rfl,p,_,_,V.str b,rfl,rfl,SqL.of (s1 p _ hp2),atI_nat (j:=1) rfl,b,rfl,(by have:=hP1 b (by simp); omega),fun H2 s2=>⟨_,rfl,?_⟩⟩
    cases hb:okW b
    · refine iteT ?_
      exact ⟨_,rfl,rz H2 (s1.trans s2) (q2 (by simp [hb]))⟩
    refine iteF ?_
    have hp3:=s2 p _ (s1 p _ hp2)
    have la:=okW_short ha
    have lb:=okW_short hb
    refine ⟨_,rfl,p,_,_,V.str a,rfl,rfl,SqL.of hp3,atI_nat (j:=0) rfl,a,intOf a,rfl,okW_num ha,by omega,_,rfl,p,_,_,V.str b,rfl,rfl,SqL.of hp3,atI_nat (j:=1) rfl,b,intOf b,rfl,okW_num hb,by omega,(by show 2 ≤ sizeLine; decide),fun t ht=>?_⟩
    exact q1 (intOf a,intOf b) (by simp [ha,hb]) t _ upd_same (((s0.trans s1).trans s2).trans (Same.new ht))
  · refine iteNN (fun h=>h2 (by have:=V.int.inj h; omega)) ?_
    refine iteT ?_
    refine ⟨_,rfl,rz H0 (Same.refl _) (q2 ?_)⟩
    match ps,h2 with
    | [],_=>rfl
    | [_],_=>rfl
    | [_,_],h=>exact absurd rfl h
    | _ :: _ :: _ :: _,_=>rfl
theorem ok_check_by_word {f:Addr} {fd:FuncData} (F:Fun K "check_by_word" "check_by_word" s_check_by_word f fd) (T:Txt K mg t_W t_MOST_BLOCKS t_MOST_FIGURES t_MOST_DAY t_FIGURES t_CHECK_FIGURES C_KeepError C_NoWord C_NoLine C_Piece C_Whole C_Gain C_DAYS_TOLD) (D_NoWord:ExcX P w K mg base "NoWord" C_NoWord 1 ["self","word"] (sp_x1 C_NoWord "word")):FnOk P w K mg base (CXx P w) 3 f fd ["word"] (sp_bywordG C_NoWord):=by
  refine F.okX sc_check_by_word (fun vs H Q E h=>?_) (fun cdv A outer s H vs Q E hr h=>?_)
  · obtain ⟨z,rfl,hz,q1,q2⟩:=h; rfl
  obtain ⟨z,rfl,hz,q1,q2⟩:=h
  refine ⟨_,(pss_cons (ps_if (PW.pt (pw_or (pt_cmpR op_ne (pe_callB call_len_str (by rfl) T.b_len PySem.boot_len (pa_cons (pv 0) pa_nil)) (pe_glob (v:=.int 20) rfl T.m_CHECK_FIGURES ⟨_,rfl⟩) (nomark _)) (pw_or1 (pt_not (pt_val (pe_callB (call_all_bl rfl) (by rfl) T.b_all PyProof.Rows.boot_all (pa_cons (pe_comp (N:=["sign"]) (k:=1) (cap:=[]) rfl rfl (pi_str (pv 0)) (fun _ _ _ _=>(pg_name (i:=0) (show (["sign"]:List Str).Nodup from by decide +kernel) rfl (Or.inl rfl) (.inr rfl))) (fun _ _ _ _=>pts_nil) (fun _ _ _ _=>(pe_cmpR op_in_str (pv 0) (pe_glob (v:=.str (PySem.Str.ofString "0123456789")) rfl T.m_FIGURES ⟨_,rfl⟩) (by with_unfolding_all rfl)))) pa_nil))))))) (pss_one (ps_raise rfl raisesB (pe_exc D_NoWord (hr.mono (by decide)) rfl (pa_cons (pv 0) pa_nil)))) pss_nil)
      (pss_one (ps_ret (pe_callTy call_int_str (by rfl) T.b_int PyProof.Rows.boot_int (pa_cons (pv 0) pa_nil))))),?_⟩
  have hzl:z.length ≤ sizeLine:=big5 (by omega)
  refine ⟨_,rfl,z,rfl,hzl,rfl,_,rfl,?_⟩
  by_cases h1:z.length = 20
  · refine iteNS (by rw [h1]; rfl) ?_
    refine ⟨_,rfl,z,rfl,fun D' hD'=>?_⟩
    refine comp_str D' (x:=z) (fun i σ H5 ys=>∃ v:Option V,σ = [v] /\ H5 = upd H D' (.lst ys) /\ ys = ((z.cps.toList.take i).map figB).map V.bl) ⟨none,rfl,rfl,rfl⟩ ?_ ?_
    · rintro i c' σ H5 ys hi ⟨v,rfl,rfl,hy⟩
      have hi2:z.cps.toList[i]? = some c':=by simpa using hi
      refine ⟨_,rfl,_,_,rfl,rfl,upd_same,?_,_,rfl,by rw [upd_upd],?_⟩
      · rw [hy,List.length_map,List.length_map,List.length_take,str_len]; exact small1000 (by omega)
      · rw [hy,List.take_add_one,hi2]; simp [figB]
    · rintro σ H5 ys ⟨v,rfl,rfl,hy⟩
      refine ⟨D',(z.cps.toList.map figB),rfl,SqL.of ?_,?_⟩
      · rw [upd_same,hy,List.take_of_length_le (by simp)]
      · have e:(z.cps.toList.map figB).all id = isNum z:=by unfold isNum; rw [List.all_map]; rfl
        rw [e]
        refine ⟨_,rfl,?_⟩
        cases hn:isNum z
        · refine iteT ?_
          exact ⟨_,rfl,raise1U (E:=E) T.x_NoWord fun e H' he hs=>q2 (by unfold ckB; rw [hn,Bool.and_false]) e H' he ((Same.new hD').trans hs)⟩
        · refine iteF ?_
          exact ⟨_,rfl,z,intOf z,rfl,intOf_ok hn (by omega) (by omega),by omega,q1 (by unfold ckB; rw [hn,decide_eq_true h1]; rfl) _ (Same.new hD')⟩
  · refine iteNN (fun h=>h1 (by have:=V.int.inj h; omega)) ?_
    refine iteT ?_
    exact ⟨_,rfl,raise1U (E:=E) T.x_NoWord fun e H' he hs=>q2 (by unfold ckB; rw [decide_eq_false h1]; rfl) e H' he hs⟩
theorem ok_piece_by_words {f:Addr} {fd:FuncData} (F:Fun K "piece_by_words" "piece_by_words" s_piece_by_words f fd) (T:Txt K mg t_W t_MOST_BLOCKS t_MOST_FIGURES t_MOST_DAY t_FIGURES t_CHECK_FIGURES C_KeepError C_NoWord C_NoLine C_Piece C_Whole C_Gain C_DAYS_TOLD) (D_number_of:DefX P w K mg base "number_of" 3 ["word"] (sp_number C_NoWord)) (D_change_of:DefX P w K mg base "change_of" 3 ["word"] (sp_changeG C_NoWord)) (D_check_by_word:DefX P w K mg base "check_by_word" 3 ["word"] (sp_bywordG C_NoWord)) (D_Whole:MakeX P w K mg base "Whole" C_Whole 4 ["self","day","rows","check"] (sp_winit C_Whole C_Gain)) (D_Gain:MakeX P w K mg base "Gain" C_Gain 4 ["self","base","day","rows","check"] (sp_ginit C_Whole C_Gain)):FnOk P w K mg base (CXx P w) 6 f fd ["words","many"] (sp_bywordsG C_Whole C_Gain C_NoWord):=by
  refine F.okX sc_piece_by_words (fun vs H Q E h=>?_) (fun cdv A outer s H vs Q E hr h=>?_)
  · obtain ⟨l,w0,dws,rws,cw,rfl,hl,hk,hrl,hlen,q1,q2⟩:=h; rfl
  obtain ⟨l,w0,dws,rws,cw,rfl,hl,hk,hrl,hlen,q1,q2⟩:=h
  refine ⟨_,(pss_cons (ps_setCompE (N:=["word"]) (k:=1) (cap:=[]) (i:=2) passesI rfl rfl sc_piece_by_words.nd rfl (Or.inl rfl) rfl rfl (pi_list (pe_slice sl_list (pv 0) (po_some pe_int) (po_some (pe_op op_add (pv 1) pe_int)))) (fun _ _ _ _=>(pg_name (i:=0) (show (["word"]:List Str).Nodup from by decide +kernel) rfl (Or.inl rfl) (.inr rfl))) (fun _ _ _ _=>pts_nil) (fun EX _ _ _ _ xe hx=>(pe_callS D_number_of hx (hr.mono (by decide)) rfl (pa_cons (pv 0) pa_nil))))
      (pss_cons (ps_setCompE (N:=["word"]) (k:=1) (cap:=[]) (i:=3) passesI rfl rfl sc_piece_by_words.nd rfl (Or.inl rfl) rfl rfl (pi_list (pe_slice sl_list (pv 0) (po_some (pe_op op_add (pv 1) pe_int)) (po_some (pe_un un_neg pe_int)))) (fun _ _ _ _=>(pg_name (i:=0) (show (["word"]:List Str).Nodup from by decide +kernel) rfl (Or.inl rfl) (.inr rfl))) (fun _ _ _ _=>pts_nil) (fun EX _ _ _ _ xe hx=>(pe_callS D_change_of hx (hr.mono (by decide)) rfl (pa_cons (pv 0) pa_nil))))
      (pss_cons (ps_set (i:=4) sc_piece_by_words.nd rfl (Or.inl rfl) (pe_callS D_check_by_word passesB (hr.mono (by decide)) rfl (pa_cons (pe_ix ix_list (pv 0) (pe_un un_neg pe_int) (fun _ _=>rfl)) pa_nil)))
      (pss_cons (ps_if (pt_cmpR op_eq (pe_ix ix_list (pv 0) pe_int (fun _ _=>rfl)) pe_str (nomark _)) (pss_one (ps_ret (pe_makeS D_Whole passesN (hr.mono (by decide)) rfl (pa_cons (pe_ix ix_list (pv 2) pe_int (fun _ _=>rfl)) (pa_cons (pv 3) (pa_cons (pv 4) pa_nil)))))) pss_nil)
      (pss_one (ps_ret (pe_makeS D_Gain passesN (hr.mono (by decide)) rfl (pa_cons (pe_ix ix_list (pv 2) pe_int (fun _ _=>rfl)) (pa_cons (pe_ix ix_list (pv 2) pe_int (fun _ _=>rfl)) (pa_cons (pv 3) (pa_cons (pv 4) pa_nil))))))))))),?_⟩
  have upK:∀ {H4:Hp} {x dx:Addr} {o:HO},H4 x = none->H4 dx = none->∀ t o',H4 t = some o'->upd (upd H4 dx (.own x)) x o t = some o':=fun hx hd t o' e=>by rw [upd_ne (ne_of_none e hx),upd_ne (ne_of_none e hd)]; exact e
  have hdl:dws.length ≤ 2:=by rcases hk with h | h <;> omega
  have bad:∀ {a b c:Bool},(dws.all okW = false ∨ rws.all (fun r=>(chg r).isSome) = false ∨ ckB cw = false)->okL dws rws cw = false:=fun h=>by
    unfold okL
    rcases h with h | h | h <;> simp [h]
  refine cutA (fun σ H'=>∃ dl:Addr,σ = [some (.ref l),some (.int (dws.length:Int)),some (.ref dl),none,none] /\ Same H H' /\ H' dl = some (.lst ((dws.map intOf).map V.int)) /\ dws.all okW = true) (fun N hN=>?_) ?_
  · refine ⟨_,rfl,_,rfl,_,rfl,_,_,rfl,rfl,_,rfl,l,_,rfl,SqL.of hl,fun c1 hc1=>?_⟩
    rw [cutD]
    have s1:Same H (upd H c1 (.lst (dws.map V.str))):=Same.new hc1
    have hc11:upd H c1 (.lst (dws.map V.str)) c1 = some (.lst (dws.map V.str)):=upd_same
    generalize upd H c1 (.lst (dws.map V.str)) = H1 at s1 hc11 ⊢
    refine ⟨c1,rfl,⟨_,SqL.of hc11⟩,fun D hD=>?_⟩
    refine comp_list D (K:=K) (a:=c1) (xs:=dws.map V.str) (fun i σ H5 ys=>∃ v:Option V,σ = [v] /\ Same H1 H5 /\ H5 D = some (.lst ys) /\ ys = ((dws.take i).map intOf).map V.int /\ (dws.take i).all okW = true) ⟨none,rfl,Same.new hD,upd_same,rfl,rfl⟩ (fun i σ H5 ys _ z0=>by obtain ⟨_,_,s5,_⟩:=z0; exact SqL.of (s5 _ _ hc11)) ?_ ?_
    · rintro i x σ H5 ys hi ⟨v,rfl,s5,hy,rfl,hok⟩
      obtain ⟨u,hu,rfl⟩:=str_at hi
      refine ⟨_,rfl,u,rfl,hlen u (List.mem_append_left _ (List.mem_of_getElem? hu)),fun hk2 H6 s6=>?_,fun hk2 e H6 he s6=>?_⟩
      · refine ⟨s6 _ _ hy,by rw [List.length_map,List.length_map,List.length_take]; exact small1000 (by omega),_,rfl,fun b o e=>?_,upd_same,by rw [List.take_add_one,hu]; simp,by rw [List.take_add_one,hu]; simp [hok,hk2]⟩
        rw [upd_ne (ne_of_none e hD)]; exact s6 b o (s5 b o e)
      · exact q2 (bad (a:=true) (b:=true) (c:=true) (.inl (List.all_eq_false.mpr ⟨u,List.mem_of_getElem? hu,by rw [hk2]; decide⟩))) e H6 he ((s1.trans s5).trans s6)
    · rintro σ H5 ys ⟨v,rfl,s5,hy,rfl,hok⟩
      rw [List.take_of_length_le (by simp)] at hy hok
      exact hN _ _ ⟨D,rfl,s1.trans s5,hy,hok⟩
  rintro σ H1 ⟨dl,rfl,s1,hdl1,hokD⟩
  refine cutA (fun σ H'=>∃ (rl:Addr) (L:List V),σ = [some (.ref l),some (.int (dws.length:Int)),some (.ref dl),some (.ref rl),none] /\ Same H1 H' /\ H' rl = some (.lst L) /\ ChAt H' L (rws.filterMap chg) /\ rws.all (fun r=>(chg r).isSome) = true) (fun N hN=>?_) ?_
  · refine ⟨_,rfl,_,rfl,_,_,rfl,rfl,_,rfl,_,rfl,_,rfl,l,_,rfl,SqL.of (s1 _ _ hl),fun c1 hc1=>?_⟩
    rw [cutR]
    have s2:Same H1 (upd H1 c1 (.lst (rws.map V.str))):=Same.new hc1
    have hc11:upd H1 c1 (.lst (rws.map V.str)) c1 = some (.lst (rws.map V.str)):=upd_same
    generalize upd H1 c1 (.lst (rws.map V.str)) = H2 at s2 hc11 ⊢
    refine ⟨c1,rfl,⟨_,SqL.of hc11⟩,fun D hD=>?_⟩
    refine comp_list D (K:=K) (a:=c1) (xs:=rws.map V.str) (fun i σ H5 ys=>∃ v:Option V,σ = [v] /\ Same H2 H5 /\ H5 D = some (.lst ys) /\ ChAt H5 ys ((rws.take i).filterMap chg) /\ (rws.take i).all (fun r=>(chg r).isSome) = true) ⟨none,rfl,Same.new hD,upd_same,ChAt.nil,rfl⟩ (fun i σ H5 ys _ z0=>by obtain ⟨_,_,s5,_⟩:=z0; exact SqL.of (s5 _ _ hc11)) ?_ ?_
    · rintro i x σ H5 ys hi ⟨v,rfl,s5,hy,hC,hok⟩
      obtain ⟨u,hu,rfl⟩:=str_at hi
      refine ⟨_,rfl,u,rfl,hlen u (List.mem_append_right _ (List.mem_append_left _ (List.mem_of_getElem? hu))),fun c hc t H6 ht s6=>?_,fun hk2 e H6 he s6=>?_⟩
      · have hy6:=s6 _ _ hy
        refine ⟨hy6,?_,_,rfl,fun b o e=>?_,upd_same,?_,by rw [List.take_add_one,hu]; simp [hok,hc]⟩
        · rw [hC.len]
          exact small1000 (Nat.le_trans (List.length_filterMap_le _ _) (by rw [List.length_take]; omega))
        · rw [upd_ne (ne_of_none e hD)]; exact s6 b o (s5 b o e)
        · rw [List.take_add_one,hu,List.filterMap_append]
          have e1:List.filterMap chg (some u).toList = [c]:=by simp [hc]
          rw [e1]
          refine (hC.mono fun b xs e=>?_).snoc ?_
          · rw [upd_ne (ne_of e hy (by intro z; cases z))]; exact s6 b _ e
          · rw [upd_ne (ne_of ht hy6 (by intro z; cases z))]; exact ht
      · exact q2 (bad (a:=true) (b:=true) (c:=true) (.inr (.inl (List.all_eq_false.mpr ⟨u,List.mem_of_getElem? hu,by rw [hk2]; decide⟩)))) e H6 he ((s1.trans (s2.trans s5)).trans s6)
    · rintro σ H5 ys ⟨v,rfl,s5,hy,hC,hok⟩
      rw [List.take_of_length_le (by simp)] at hC hok
      exact hN _ _ ⟨D,ys,rfl,s2.trans s5,hy,hC,hok⟩
  rintro σ H2 ⟨rl,L,rfl,s2,hrl2,hC,hokR⟩
  have hl2:=s2 _ _ (s1 _ _ hl)
  refine ⟨_,rfl,_,rfl,l,_,_,V.str cw,rfl,rfl,SqL.of hl2,lastW,cw,rfl,hlen cw (by simp),fun hck H3 s3=>?_,fun hck e H3 he s3=>?_⟩
  rotate_left
  · exact q2 (bad (a:=true) (b:=true) (c:=true) (.inr (.inr hck))) e H3 he ((s1.trans s2).trans s3)
  refine gNameA [some (.ref l),some (.int (dws.length:Int)),some (.ref dl),some (.ref rl),some (.int (intOf cw))] ?_
  dsimp only
  have q1:=q1 (by unfold okL; rw [hokD,hokR,hck]; rfl)
  have s13:=s2.trans s3
  have hdl3:=s13 _ _ hdl1
  have hrl3:=s3 _ _ hrl2
  have hR3:RowsAt H3 L ((rws.filterMap chg).map rowN):=rows_of_ch (by
    rw [chg_back hokR]
    exact hC.mono fun t _ e=>s3 t _ e)
  have hrn:((rws.filterMap chg).map rowN).length ≤ 90:=by rw [List.length_map]; exact Nat.le_trans (List.length_filterMap_le _ _) hrl
  have dpos:∀ u ∈ dws,((intOf u).toNat:Int) = intOf u:=fun u hu=>Int.toNat_of_nonneg (intOf_pos (List.all_eq_true.mp hokD u hu))
  rcases hk with ⟨hk1,hw⟩ | ⟨hk1,hw⟩
  · obtain ⟨d,rfl⟩:∃ d,dws = [d]:=by
      match dws,hk1 with
      | [d],_=>exact ⟨d,rfl⟩
    have ed:=dpos d (by simp)
    refine if_yes (fun Qb hq=>⟨_,rfl,l,_,_,V.str w0,rfl,rfl,SqL.of (s3 _ _ hl2),atI_nat (j:=0) rfl,rfl,_,rfl,?_⟩) ?_
    · rw [hw,decide_eq_true rfl]; exact hq
    refine ⟨_,rfl,dl,_,_,V.int (intOf d),rfl,rfl,SqL.of hdl3,atI_nat (j:=0) rfl,_,rfl,_,rfl,fun x dx hx hd ne=>⟨x,dx,rl,(intOf d).toNat,_,_,.int (intOf cw),_,by rw [ed],upd_same,.inl (upK hx hd _ _ hrl3),hR3.mono (fun t xs e=>upK hx hd t _ e),by omega,.inr rfl,fun H4 hP k4=>⟨rfl,?_⟩⟩⟩
    exact q1 x H4 hP ((s1.trans s13).trans (made_same hx hd k4))
  · obtain ⟨d,d2,rfl⟩:∃ d d2,dws = [d,d2]:=by
      match dws,hk1 with
      | [d,d2],_=>exact ⟨d,d2,rfl⟩
    have ed:=dpos d (by simp)
    have ed2:=dpos d2 (by simp)
    refine if_no (fun Qb hq=>⟨_,rfl,l,_,_,V.str w0,rfl,rfl,SqL.of (s3 _ _ hl2),atI_nat (j:=0) rfl,rfl,_,rfl,?_⟩) ?_
    · rw [hw,decide_eq_false (fun h=>absurd (V.str.inj h) (by decide +kernel))]; exact hq
    try unfold tNext
    dsimp only
    refine ⟨_,rfl,dl,_,_,V.int (intOf d),rfl,rfl,SqL.of hdl3,atI_nat (j:=0) rfl,_,rfl,dl,_,_,V.int (intOf d2),rfl,rfl,SqL.of hdl3,atI_nat (j:=1) rfl,_,rfl,_,rfl,fun x dx hx hd ne=>⟨x,dx,rl,(intOf d).toNat,(intOf d2).toNat,_,_,.int (intOf cw),_,by rw [ed,ed2],upd_same,.inl (upK hx hd _ _ hrl3),hR3.mono (fun t xs e=>upK hx hd t _ e),by omega,.inr rfl,fun H4 hP k4=>⟨rfl,?_⟩⟩⟩
    exact q1 x H4 hP ((s1.trans s13).trans (made_same hx hd k4))
theorem ok_is_within {f:Addr} {fd:FuncData} (F:Fun K "is_within" "is_within" s_is_within f fd) (T:Txt K mg t_W t_MOST_BLOCKS t_MOST_FIGURES t_MOST_DAY t_FIGURES t_CHECK_FIGURES C_KeepError C_NoWord C_NoLine C_Piece C_Whole C_Gain C_DAYS_TOLD) :FnOk P w K mg base (CXx P w) 1 f fd ["piece"] (sp_withinG C_Whole C_Gain):=by
  refine F.okX sc_is_within (fun vs H Q E h=>?_) (fun cdv A outer s H vs Q E hr h=>?_)
  · obtain ⟨p,u,rfl,hP,hlen,q⟩:=h; rfl
  obtain ⟨p,u,rfl,hP,hlen,q⟩:=h
  refine ⟨_,(pss_cons (ps_if (PW.pt (pw_or (pt_cmpR op_gt (pe_fld (pv 0) rfl) (pe_glob (v:=.int 1000000000) rfl T.m_MOST_DAY ⟨_,rfl⟩) (nomark _)) (pw_or1 (pt_cmpR op_gt (pe_fld (pv 0) rfl) (pe_glob (v:=.int 18446744073709551615) rfl T.m_W ⟨_,rfl⟩) (nomark _))))) (pss_one (ps_ret pe_bl)) pss_nil)
      (pss_one (ps_ret (pe_callB (call_all_bl rfl) (by rfl) T.b_all PyProof.Rows.boot_all (pa_cons (pe_comp (N:=["place","block"]) (k:=2) (cap:=[]) rfl rfl (pi_tup (pe_fld (pv 0) rfl)) (fun _ _ _ _=>(pg_tupK (K:=K) (n:=2) rfl rfl (pgs_cons (pg_name (i:=0) (show (["place","block"]:List Str).Nodup from by decide +kernel) rfl (Or.inl rfl) (.inr rfl)) (pgs_cons (pg_name (i:=1) (show (["place","block"]:List Str).Nodup from by decide +kernel) rfl (Or.inl rfl) (.inr rfl)) pgs_nil)))) (fun _ _ _ _=>pts_nil) (fun _ _ _ _=>(pe_and (pe_cmpR op_lt (pv 0) (pe_glob (v:=.int 40) rfl T.m_MOST_BLOCKS ⟨_,rfl⟩) (nomark _)) (pe_one (pe_cmpR op_le (pv 1) (pe_glob (v:=.int 18446744073709551615) rfl T.m_W ⟨_,rfl⟩) (nomark _)))))) pa_nil))))),?_⟩
  obtain ⟨dx,r,R,h1,h2,h3⟩:=id hP
  have hcl:Cls K (cond u.wh C_Whole C_Gain) /\ NoAttr K (cond u.wh C_Whole C_Gain) "day" /\ NoAttr K (cond u.wh C_Whole C_Gain) "rows" /\ NoAttr K (cond u.wh C_Whole C_Gain) "check":=by
    cases u.wh
    · exact ⟨T.cl_Gain,T.n_Gain_day,T.n_Gain_rows,T.n_Gain_check⟩
    · exact ⟨T.cl_Whole,T.n_Whole_day,T.n_Whole_rows,T.n_Whole_check⟩
  have lkd:∀ {f:Bool},List.lookup ("day":Str) (pfs u.wh u.b u.d r u.c f) = some (.int (u.d:Int)):=by intro f; cases u.wh <;> exact lk_day
  have lkc:∀ {f:Bool},List.lookup ("check":Str) (pfs u.wh u.b u.d r u.c f) = some (.int u.c):=by intro f; cases u.wh <;> exact lk_check
  refine ⟨_,rfl,p,_,dx,_,_,rfl,h1,hcl.1,hcl.2.1,lkd,_,_,rfl,rfl,_,rfl,?_⟩
  by_cases hd:u.d ≤ 1000000000
  · refine iteN (by omega) ?_
    refine ⟨_,rfl,p,_,dx,_,_,rfl,h1,hcl.1,hcl.2.2.2,lkc,_,_,rfl,rfl,_,rfl,?_⟩
    by_cases hc:u.c ≤ 18446744073709551615
    · refine iteN (by omega) ?_
      refine ⟨_,rfl,p,_,dx,_,_,rfl,h1,hcl.1,hcl.2.2.1,lk_rows2,r,rfl,⟨_,SqT.of h2⟩,fun D hD=>?_⟩
      refine comp_tup D (K:=K) (a:=r) (xs:=R) (fun i σ H5 ys=>∃ v v':Option V,σ = [v,v'] /\ Same H H5 /\ H5 D = some (.lst ys) /\ ys = ((u.rows.take i).map fun r=>decide (r.1 < 40) && decide (r.2 ≤ 18446744073709551615)).map V.bl) ⟨none,none,rfl,Same.new hD,upd_same,rfl⟩ (fun i σ H5 ys _ z0=>by obtain ⟨_,_,_,s5,_⟩:=z0; exact SqT.of (s5 _ _ h2)) ?_ ?_
      · rintro i x σ H5 ys hi ⟨v,v',rfl,s5,hy,rfl⟩
        obtain ⟨t,rr,rfl,hr2,ht⟩:=h3.get i x hi
        refine ⟨t,_,rfl,SqT.of (s5 t _ ht),rfl,_,_,rfl,_,_,rfl,rfl,_,rfl,_,_,rfl,rfl,_,rfl,?_⟩
        have fin:∀ b:Bool,b = (decide (rr.1 < 40) && decide (rr.2 ≤ 18446744073709551615))->H5 D = some (.lst (((u.rows.take i).map fun r=>decide (r.1 < 40) && decide (r.2 ≤ 18446744073709551615)).map V.bl)) /\ (((u.rows.take i).map fun r=>decide (r.1 < 40) && decide (r.2 ≤ 18446744073709551615)).map V.bl).length < sizeLine /\ ∃ v v':Option V,[some (V.int (rr.1:Int)),some (V.int (rr.2:Int))] = [v,v'] /\ Same H (upd H5 D (.lst (((u.rows.take i).map fun r=>decide (r.1 < 40) && decide (r.2 ≤ 18446744073709551615)).map V.bl ++ [V.bl b]))) /\ (upd H5 D (.lst (((u.rows.take i).map fun r=>decide (r.1 < 40) && decide (r.2 ≤ 18446744073709551615)).map V.bl ++ [V.bl b]))) D = some (.lst (((u.rows.take i).map fun r=>decide (r.1 < 40) && decide (r.2 ≤ 18446744073709551615)).map V.bl ++ [V.bl b])) /\ ((u.rows.take i).map fun r=>decide (r.1 < 40) && decide (r.2 ≤ 18446744073709551615)).map V.bl ++ [V.bl b] = ((u.rows.take (i + 1)).map fun r=>decide (r.1 < 40) && decide (r.2 ≤ 18446744073709551615)).map V.bl:=fun b hb=>⟨hy,by rw [List.length_map,List.length_map,List.length_take]; exact small1000 (by omega),_,_,rfl,fun b o e=>by rw [upd_ne (ne_of_none e hD)]; exact s5 b o e,upd_same,by rw [List.take_add_one,hr2,hb]; simp⟩
        by_cases h40:rr.1 < 40
        · refine iteY (by omega) ?_
          refine ⟨_,rfl,_,_,rfl,rfl,fin _ ?_⟩
          rw [decide_eq_true h40,Bool.true_and]
          by_cases hb:rr.2 ≤ 18446744073709551615
          · rw [decide_eq_true hb,decide_eq_true (by omega)]
          · rw [decide_eq_false hb,decide_eq_false (by omega)]
        · refine iteN (by omega) ?_
          exact fin false (by rw [decide_eq_false h40]; rfl)
      · rintro σ H5 ys ⟨v,v',rfl,s5,hy,rfl⟩
        rw [h3.len,List.take_length] at hy
        refine ⟨D,_,rfl,SqL.of hy,?_⟩
        have e:(u.rows.map fun r=>decide (r.1 < 40) && decide (r.2 ≤ 18446744073709551615)).all id = within u:=by
          unfold within
          rw [decide_eq_true hd,decide_eq_true hc,List.all_map]; rfl
        rw [e]
        exact q _ s5
    · refine iteY (by omega) ?_
      have e:within u = false:=by unfold within; rw [decide_eq_false hc]; simp
      rw [e] at q
      exact q H (Same.refl H)
  · refine iteY (by omega) ?_
    refine iteT ?_
    have e:within u = false:=by unfold within; rw [decide_eq_false hd]; simp
    rw [e] at q
    exact q H (Same.refl H)
theorem ok_is_formed {f:Addr} {fd:FuncData} (F:Fun K "is_formed" "is_formed" s_is_formed f fd) (T:Txt K mg t_W t_MOST_BLOCKS t_MOST_FIGURES t_MOST_DAY t_FIGURES t_CHECK_FIGURES C_KeepError C_NoWord C_NoLine C_Piece C_Whole C_Gain C_DAYS_TOLD) (D_Gain_kind:MethX P w K mg base C_Gain "kind" 1 ["self"] sp_gkind) (D_Whole_kind:MethX P w K mg base C_Whole "kind" 1 ["self"] sp_wkind):FnOk P w K mg base (CXx P w) 2 f fd ["piece"] (sp_formedG C_Whole C_Gain):=by
  refine F.okX sc_is_formed (fun vs H Q E h=>?_) (fun cdv A outer s H vs Q E hr h=>?_)
  · obtain ⟨p,u,rfl,hP,hlen,hwi,q⟩:=h; rfl
  obtain ⟨p,u,rfl,hP,hlen,hwi,q⟩:=h
  refine ⟨_,(pss_cons (ps_setComp (i:=1) sc_is_formed.nd rfl (Or.inl rfl) (N:=["place","block"]) (k:=2) (cap:=[]) rfl rfl (pi_tup (pe_fld (pv 0) rfl)) (fun _ _ _ _=>(pg_tupK (K:=K) (n:=2) rfl rfl (pgs_cons (pg_name (i:=0) (show (["place","block"]:List Str).Nodup from by decide +kernel) rfl (Or.inl rfl) (.inr rfl)) (pgs_cons (pg_name (i:=1) (show (["place","block"]:List Str).Nodup from by decide +kernel) rfl (Or.inl rfl) (.inr rfl)) pgs_nil)))) (fun _ _ _ _=>pts_nil) (fun _ _ _ _=>(pv 0)))
      (pss_cons (ps_if (pt_cmpR op_eq (pe_or2 (pe_methS0 (pv 0) T.cl_Whole D_Whole_kind passesN (hr.mono (by decide))) (pe_methS0 (pv 0) T.cl_Gain D_Gain_kind passesN (hr.mono (by decide)))) pe_str (nomark _)) (pss_one (ps_ret (pe_and (pe_cmpR op_gt (pe_callB call_len_seq (by rfl) T.b_len PySem.boot_len (pa_cons (pv 1) pa_nil)) pe_int (nomark _)) (pe_one (pe_cmpR (op_eq_ref hr.units) (pv 1) (pe_listrng rfl rfl T.b_list rfl T.b_range (pe_callB call_len_seq (by rfl) T.b_len PySem.boot_len (pa_cons (pv 1) pa_nil))) (nomark _)))))) pss_nil)
      (pss_one (ps_ret (pe_and (pe_cmpR op_lt (pe_fld (pv 0) rfl) (pe_fld (pv 0) rfl) (nomark _)) (pe_one (pe_cmpR (op_eq_ref hr.units) (pv 1) (pe_sset rfl (by rfl) T.b_sorted (by rfl) T.b_set (pv 1)) (nomark _)))))))),?_⟩
  obtain ⟨dx,r,R,h1,h2,h3⟩:=id hP
  have hcl:Cls K (cond u.wh C_Whole C_Gain) /\ NoAttr K (cond u.wh C_Whole C_Gain) "day" /\ NoAttr K (cond u.wh C_Whole C_Gain) "rows" /\ NoAttr K (cond u.wh C_Whole C_Gain) "check":=by
    cases u.wh
    · exact ⟨T.cl_Gain,T.n_Gain_day,T.n_Gain_rows,T.n_Gain_check⟩
    · exact ⟨T.cl_Whole,T.n_Whole_day,T.n_Whole_rows,T.n_Whole_check⟩
  have kno:∀ {f:Bool},List.lookup ("kind":Str) (pfs u.wh u.b u.d r u.c f) = none:=by intro f; exact lk_no (by decide +kernel) (by decide +kernel) (by decide +kernel) (by decide +kernel)
  refine cutA (fun σ H'=>∃ pl:Addr,σ = [some (.ref p),some (.ref pl)] /\ Same H H' /\ H' pl = some (.lst ((u.rows.map fun r=>(r.1:Int)).map V.int))) (fun N hN=>?_) ?_
  · refine ⟨_,rfl,p,_,dx,_,_,rfl,h1,hcl.1,hcl.2.2.1,lk_rows2,r,rfl,⟨_,SqT.of h2⟩,fun D hD=>?_⟩
    refine comp_tup D (K:=K) (a:=r) (xs:=R) (fun i σ H5 ys=>∃ v v':Option V,σ = [v,v'] /\ Same H H5 /\ H5 D = some (.lst ys) /\ ys = ((u.rows.take i).map fun r=>(r.1:Int)).map V.int) ⟨none,none,rfl,Same.new hD,upd_same,rfl⟩ (fun i σ H5 ys _ z0=>by obtain ⟨_,_,_,s5,_⟩:=z0; exact SqT.of (s5 _ _ h2)) ?_ ?_
    · rintro i x σ H5 ys hi ⟨v,v',rfl,s5,hy,rfl⟩
      obtain ⟨t,rr,rfl,hr2,ht⟩:=h3.get i x hi
      refine ⟨t,_,rfl,SqT.of (s5 t _ ht),rfl,_,_,rfl,_,_,rfl,rfl,_,rfl,hy,by rw [List.length_map,List.length_map,List.length_take]; exact small1000 (by omega),_,_,rfl,fun b o e=>?_,upd_same,by rw [List.take_add_one,hr2]; simp⟩
      rw [upd_ne (ne_of_none e hD)]; exact s5 b o e
    · rintro σ H5 ys ⟨v,v',rfl,s5,hy,rfl⟩
      rw [h3.len,List.take_length] at hy
      exact hN _ _ ⟨D,rfl,s5,hy⟩
  rintro σ H1 ⟨pl,rfl,s1,hpl⟩
  have h11:=s1 _ _ h1
  have hpll:((u.rows.map fun r=>(r.1:Int)).map V.int).length = u.rows.length:=by simp
  unfold formed at q
  cases hw:u.wh with
  | true =>
    rw [hw] at h11 kno
    rw [hw,if_pos rfl] at q
    refine if_yes (fun Qb hq=>.inl ⟨_,rfl,p,dx,_,rfl,h11,kno,p,rfl,rfl,_,rfl,?_⟩) ?_
    · rw [decide_eq_true rfl]; exact hq
    refine ⟨_,rfl,pl,_,rfl,.inl (SqL.of hpl),_,_,rfl,rfl,_,rfl,?_⟩
    rw [hpll]
    by_cases hpos:0 < u.rows.length
    · rw [decide_eq_true (by omega)]
      refine iteT ⟨_,rfl,_,rfl,pl,_,rfl,.inl (SqL.of hpl),u.rows.length,by rw [hpll],by omega,fun rg hrg=>?_⟩
      have s2:=Same.new hrg (o:=HO.lst (((List.range u.rows.length).map fun k:Nat=>(k:Int)).map V.int))
      refine ⟨0,decide ((u.rows.map fun r=>(r.1:Int)) = (List.range u.rows.length).map fun k:Nat=>(k:Int)),by decide,SeqEq.ints (SqL.of (s2 _ _ hpl)) (SqL.of upd_same),?_⟩
      have e:decide ((u.rows.map fun r=>(r.1:Int)) = (List.range u.rows.length).map fun k:Nat=>(k:Int)) = decide (u.rows.map Prod.fst = List.range u.rows.length):=by
        rw [show (u.rows.map fun r=>(r.1:Int)) = (u.rows.map Prod.fst).map (fun k:Nat=>(k:Int)) by rw [List.map_map]; rfl]
        refine decide_eq_decide.mpr ⟨fun h=>?_,fun h=>by rw [h]⟩
        exact ofNat_map h
      rw [e]
      rw [decide_eq_true hpos,Bool.true_and] at q
      exact q _ (s1.trans s2)
    · rw [decide_eq_false (by omega)]
      refine iteF ?_
      rw [decide_eq_false hpos,Bool.false_and] at q
      exact q _ s1
  | false =>
    rw [hw] at h11 kno
    rw [hw,if_neg (by decide)] at q
    refine if_no (fun Qb hq=>.inr ⟨_,rfl,p,dx,_,rfl,h11,kno,p,rfl,rfl,_,rfl,?_⟩) ?_
    · rw [decide_eq_false (fun h=>absurd (V.str.inj h) (by decide +kernel))]; exact hq
    try unfold tNext
    dsimp only
    refine ⟨_,rfl,p,C_Gain,dx,_,_,rfl,h11,T.cl_Gain,T.n_Gain_base,lk_base,_,rfl,p,C_Gain,dx,_,_,rfl,h11,T.cl_Gain,T.n_Gain_day,lk_day,_,_,rfl,rfl,_,rfl,?_⟩
    by_cases hbd:u.b < u.d
    · rw [decide_eq_true (by omega)]
      have hin:∀ x ∈ u.rows.map (fun r=>(r.1:Int)),0 ≤ x /\ x < ((40:Nat):Int):=fun x hx=>by
        obtain ⟨r,hr,rfl⟩:=List.mem_map.mp hx
        unfold within at hwi
        simp only [Bool.and_eq_true,List.all_eq_true,decide_eq_true_eq] at hwi
        have:=(hwi.2 r hr).1
        omega
      refine iteT ⟨_,rfl,_,rfl,pl,_,rfl,SqL.of hpl,few63 (wd:=40) (by omega) hin,fun rg ns' hrg hp' hm'=>?_⟩
      have s2:=Same.new hrg (o:=HO.lst (ns'.map V.int))
      refine ⟨0,decide ((u.rows.map fun r=>(r.1:Int)) = ns'),by decide,SeqEq.ints (SqL.of (s2 _ _ hpl)) (SqL.of upd_same),?_⟩
      have e:decide ((u.rows.map fun r=>(r.1:Int)) = ns') = decide ((u.rows.map Prod.fst).Pairwise (· < ·)):=by
        refine decide_eq_decide.mpr ⟨fun h=>?_,fun h=>?_⟩
        · rw [← h] at hp'
          rw [List.pairwise_map] at hp' ⊢
          exact hp'.imp fun h=>by omega
        · refine rise_ext ?_ hp' fun x=>(hm' x).symm
          rw [List.pairwise_map] at h ⊢
          exact h.imp fun h=>by omega
      rw [e]
      rw [decide_eq_true hbd,Bool.true_and] at q
      exact q _ (s1.trans s2)
    · rw [decide_eq_false (by omega)]
      refine iteF ?_
      rw [decide_eq_false hbd,Bool.false_and] at q
      exact q _ s1
theorem ok_piece_of {f:Addr} {fd:FuncData} (F:Fun K "piece_of" "piece_of" s_piece_of f fd) (T:Txt K mg t_W t_MOST_BLOCKS t_MOST_FIGURES t_MOST_DAY t_FIGURES t_CHECK_FIGURES C_KeepError C_NoWord C_NoLine C_Piece C_Whole C_Gain C_DAYS_TOLD) (D_gd_DAYS_TOLD:GD P w K C_DAYS_TOLD [(Sum.inr (Str.ofString "whole"),V.int 1),(Sum.inr (Str.ofString "gain"),V.int 2)]) (D_NoLine:ExcX P w K mg base "NoLine" C_NoLine 1 ["self","line"] (sp_x1 C_NoLine "line")) (D_piece_by_words:DefX P w K mg base "piece_by_words" 6 ["words","many"] (sp_bywordsG C_Whole C_Gain C_NoWord)) (D_NoLineH:ExcXH P w K mg base "NoLine" C_NoLine 1 ["self","line"] (sp_x1 C_NoLine "line")) (D_is_formed:DefX P w K mg base "is_formed" 2 ["piece"] (sp_formedG C_Whole C_Gain)) (D_is_within:DefX P w K mg base "is_within" 1 ["piece"] (sp_withinG C_Whole C_Gain)):FnOk P w K mg base (CXx P w) 7 f fd ["line"] (sp_pieceofG C_Whole C_Gain C_NoLine):=by
  refine F.okX sc_piece_of (fun vs H Q E h=>?_) (fun cdv A outer s H vs Q E hr h=>?_)
  · obtain ⟨z,rfl,hz,hcnt,q1,q2⟩:=h; rfl
  obtain ⟨z,rfl,hz,hcnt,q1,q2⟩:=h
  refine ⟨_,(pss_cons (ps_set (i:=1) sc_piece_of.nd rfl (Or.inl rfl) (pe_bm PySem.F.plainAttrs_str PySem.F.slot_str_split PySem.F.type_str_split mt_split (pv 0) (pa_cons pe_str pa_nil)))
      (pss_cons (ps_if (PW.pt (pw_or (pt_cmp (pc_gnotin D_gd_DAYS_TOLD (pe_ix ix_list (pv 1) pe_int (fun _ _=>rfl)) (pe_glob (v:=.ref C_DAYS_TOLD) rfl T.mg_DAYS_TOLD rfl))) (pw_or1 (pt_cmpR op_lt (pe_callB call_len_seq (by rfl) T.b_len PySem.boot_len (pa_cons (pv 1) pa_nil)) (pe_op op_add (pe_gget D_gd_DAYS_TOLD (pe_glob (v:=.ref C_DAYS_TOLD) rfl T.mg_DAYS_TOLD rfl) (pe_ix ix_list (pv 1) pe_int (fun _ _=>rfl)) (fun _ _=>rfl)) pe_int) (nomark _))))) (pss_one (ps_raise rfl raisesB (pe_exc D_NoLine (hr.mono (by decide)) rfl (pa_cons (pv 0) pa_nil)))) pss_nil)
      (pss_cons (ps_try (fun pn xe E hx=>(pss_one (ps_set (i:=2) sc_piece_of.nd rfl (Or.inl rfl) (pe_callS D_piece_by_words hx (hr.mono (by decide)) rfl (pa_cons (pv 1) (pa_cons (pe_gget D_gd_DAYS_TOLD (pe_glob (v:=.ref C_DAYS_TOLD) rfl T.mg_DAYS_TOLD rfl) (pe_ix ix_list (pv 1) pe_int (fun _ _=>rfl)) (fun _ _=>rfl)) pa_nil)))))) (ph_rs passesI rfl rfl rfl T.mg_NoWord T.x_NoWord (fun _ _=>(pe_excH D_NoLineH (hr.mono (by decide)).toH.mark rfl (pa_cons (pv 0) pa_nil))) ph_nil) rfl rfl)
      (pss_cons (ps_if (PW.pt (pw_or (pt_not (pt_val (pe_callS D_is_within passesN (hr.mono (by decide)) rfl (pa_cons (pv 2) pa_nil)))) (pw_or1 (pt_not (pt_val (pe_callS D_is_formed passesN (hr.mono (by decide)) rfl (pa_cons (pv 2) pa_nil))))))) (pss_one (ps_raise rfl raisesB (pe_exc D_NoLine (hr.mono (by decide)) rfl (pa_cons (pv 0) pa_nil)))) pss_nil)
      (pss_one (ps_ret (pv 2))))))),?_⟩
  refine ⟨_,rfl,rfl,z,Str.ofString " ",rfl,rfl,by decide +kernel,by omega,fun l hl=>?_⟩
  have hP1:=fun w hw=>split_leY (z:=z) (p:=w) (y:=Str.ofString " ") hw
  generalize hws:Txt.split z (Str.ofString " ") = ws at hP1 hcnt
  have s1:Same H (upd H l (.lst (ws.map V.str))):=Same.new hl
  have hl1:upd H l (.lst (ws.map V.str)) l = some (.lst (ws.map V.str)):=upd_same
  generalize upd H l (.lst (ws.map V.str)) = H1 at s1 hl1 ⊢
  refine gNameA [some (.str z),some (.ref l),none] ?_
  dsimp only
  obtain ⟨w0,us,rfl⟩:∃ w vs,ws = w :: vs:=by
    cases ws with
    | nil=>exact absurd hws split_ne
    | cons w vs=>exact ⟨w,vs,rfl⟩
  have fst:atI ((w0 :: us).map V.str) 0 = some (V.str w0):=atI_nat (j:=0) rfl
  by_cases hk:∃ n,kindW n w0
  rotate_left
  · have hk':∀ n,¬ kindW n w0:=fun n h=>hk ⟨n,h⟩
    refine if_yes (fun Qb hq=>⟨_,rfl,l,_,_,V.str w0,rfl,rfl,SqL.of hl1,fst,Sum.inr w0,rfl,_,rfl,?_⟩) ?_
    · rw [told_no hk']; exact iteT hq
    refine ⟨_,rfl,?_⟩
    exact raise1 T.x_NoLine fun e H' he s=>q2 (good_no hws fun n h=>absurd h (hk' n)) e H' he (s1.trans s)
  obtain ⟨n,hk⟩:=hk
  have hv:=told_yes hk
  by_cases hle:n + 1 ≤ us.length
  rotate_left
  · refine if_yes (fun Qb hq=>⟨_,rfl,l,_,_,V.str w0,rfl,rfl,SqL.of hl1,fst,Sum.inr w0,rfl,_,rfl,?_⟩) ?_
    · rw [hv]
      refine iteF ⟨_,rfl,l,_,rfl,.inl (SqL.of hl1),_,rfl,l,_,_,V.str w0,rfl,rfl,SqL.of hl1,fst,Sum.inr w0,_,rfl,hv,_,_,rfl,rfl,_,_,rfl,rfl,_,rfl,?_⟩
      rw [decide_eq_true (by rw [List.length_map,List.length_cons]; omega)]
      exact hq
    refine ⟨_,rfl,?_⟩
    exact raise1 T.x_NoLine fun e H' he s=>q2 (good_no hws fun m h=>by have:=kind_uniq hk h; omega) e H' he (s1.trans s)
  refine if_no (fun Qb hq=>⟨_,rfl,l,_,_,V.str w0,rfl,rfl,SqL.of hl1,fst,Sum.inr w0,rfl,_,rfl,?_⟩) ?_
  · rw [hv]
    refine iteF ⟨_,rfl,l,_,rfl,.inl (SqL.of hl1),_,rfl,l,_,_,V.str w0,rfl,rfl,SqL.of hl1,fst,Sum.inr w0,_,rfl,hv,_,_,rfl,rfl,_,_,rfl,rfl,_,rfl,?_⟩
    rw [decide_eq_false (by rw [List.length_map,List.length_cons]; omega)]
    exact hq
  try unfold tNext
  dsimp only
  obtain ⟨dws,rws,cw,rfl,rfl⟩:=cut_words hle
  have gi:=fun u=>good_iff (u:=u) hws hk
  refine cutA (fun σ H'=>∃ p:Addr,σ = [some (.str z),some (.ref l),some (.ref p)] /\ Same H1 H' /\ PAt C_Whole C_Gain H' p (uOf dws rws cw).wh (uOf dws rws cw).b (uOf dws rws cw).d (uOf dws rws cw).rows (uOf dws rws cw).c /\ okL dws rws cw = true) (fun N hN=>?_) ?_
  · intro pn xe
    refine ⟨_,rfl,_,rfl,l,_,_,V.str w0,rfl,rfl,SqL.of hl1,fst,Sum.inr w0,_,rfl,hv,l,w0,dws,rws,cw,rfl,hl1,hk,?_,fun x hx=>?_,fun ho p H2 hP s2=>?_,fun ho e H2 he s2=>?_⟩
    · simp at hcnt; omega
    · have:=hP1 x (List.mem_cons_of_mem _ hx); omega
    · exact hN _ _ ⟨p,rfl,s2,hP,ho⟩
    · obtain ⟨od,he⟩:=he
      refine ⟨e,C_NoWord,rfl,rfl,true,T.kw,?_⟩
      rw [if_pos rfl]
      intro pn2
      refine ⟨_,rfl,rs1 (E:=E) T.x_NoLine he fun e2 H7 he2 s7=>q2 ?_ e2 H7 he2 (s1.trans (s2.trans s7))⟩
      rintro ⟨u,hu⟩
      rw [((gi u).mp hu).1] at ho
      cases ho
  rintro σ H2 ⟨p,rfl,s2,hP,ho⟩
  have hrn:(uOf dws rws cw).rows.length ≤ 90:=by
    unfold uOf
    rw [List.length_map]
    refine Nat.le_trans (List.length_filterMap_le _ _) ?_
    simp at hcnt; omega
  generalize hu:uOf dws rws cw = u at hP hrn gi
  refine if_B (!(within u && formed u)) (fun H'=>Same H2 H') (fun Qb hq=>?_) (fun hb H3 s3=>?_) (fun hb H3 s3=>?_)
  · refine ⟨_,rfl,p,u,rfl,hP,hrn,fun H3 s3=>⟨_,rfl,?_⟩⟩
    cases hw:within u with
    | false=>rw [hw] at hq; exact iteT (hq _ s3)
    | true =>
      rw [hw,Bool.true_and] at hq
      refine iteF ⟨_,rfl,p,u,rfl,hP.keep s3,hrn,hw,fun H4 s4=>⟨_,rfl,hq _ (s3.trans s4)⟩⟩
  · refine ⟨_,rfl,?_⟩
    exact raise1 T.x_NoLine fun e H' he s=>q2 (by
      rintro ⟨v,hv⟩
      obtain ⟨-,rfl,a,b⟩:=(gi v).mp hv
      rw [a,b] at hb
      cases hb) e H' he (((s1.trans s2).trans s3).trans s)
  · try unfold tNext
    dsimp only
    have hb2:within u = true /\ formed u = true:=by
      revert hb
      cases within u <;> cases formed u <;> decide
    exact ⟨_,rfl,q1 u ((gi u).mpr ⟨ho,rfl,hb2.1,hb2.2⟩) p H3 (hP.keep s3) ((s1.trans s2).trans s3)⟩
theorem ok__law_cell {f:Addr} {fd:FuncData} (F:Fun K "_law_cell" "_law_cell" s__law_cell f fd) (T:Txt K mg t_W t_MOST_BLOCKS t_MOST_FIGURES t_MOST_DAY t_FIGURES t_CHECK_FIGURES C_KeepError C_NoWord C_NoLine C_Piece C_Whole C_Gain C_DAYS_TOLD) :FnOk P w K mg base (CXx P w) 1 f fd ["_law_script","_law_k"] (sp_cell K):=by
  refine F.okX sc__law_cell (fun vs H Q E h=>?_) (fun cdv A outer s H vs Q E hr h=>?_)
  · obtain ⟨a,ns,k,rfl,hS,q⟩:=h; rfl
  obtain ⟨a,ns,k,rfl,hS,q⟩:=h
  refine ⟨_,(pss_cons (ps_if (pt_cmpR op_lt (pv 1) (pe_callB call_len_seq (by rfl) T.b_len PySem.boot_len (pa_cons (pv 0) pa_nil)) (nomark _)) (pss_one (ps_ret (pe_ix ix_list (pv 0) (pv 1) (fun _ _=>rfl)))) pss_nil)
      (pss_one (ps_ret (pe_op op_add (pe_op op_mul pe_int (pv 1)) pe_int)))),?_⟩
  refine ⟨_,rfl,_,rfl,a,_,rfl,.inl hS,_,_,rfl,rfl,_,rfl,?_⟩
  refine ite2 (fun h=>?_) (fun h=>?_)
  · have h:k < ns.length:=by simpa using h
    refine ⟨_,rfl,_,rfl,a,_,_,V.int (ns.getD k 0),rfl,rfl,hS,atI_nat ?_,?_⟩
    · simp [h]
    · have e:cellI ns k = ns.getD k 0:=by unfold cellI; rw [if_pos (by omega)]; rfl
      rw [e] at q; exact q
  · have h:¬ k < ns.length:=by simpa using h
    refine ⟨_,rfl,_,_,rfl,rfl,.inl ⟨by first | decide | (dsimp only; decide),by first | decide | (dsimp only; decide)⟩,_,_,rfl,rfl,?_⟩
    have e:cellI ns k = 37 * k + 11:=by unfold cellI; rw [if_neg (by omega)]
    rw [e] at q; exact q
theorem ok__law_whole {f:Addr} {fd:FuncData} (F:Fun K "_law_whole" "_law_whole" s__law_whole f fd) (T:Txt K mg t_W t_MOST_BLOCKS t_MOST_FIGURES t_MOST_DAY t_FIGURES t_CHECK_FIGURES C_KeepError C_NoWord C_NoLine C_Piece C_Whole C_Gain C_DAYS_TOLD) :FnOk P w K mg base (CXx P w) 1 f fd ["_law_found"] (sp_whole):=by
  refine F.okX sc__law_whole (fun vs H Q E h=>?_) (fun cdv A outer s H vs Q E hr h=>?_)
  · obtain ⟨n,rfl,q⟩:=h; rfl
  obtain ⟨n,rfl,q⟩:=h
  refine ⟨_,(pss_one (ps_ret (pe_and (pe_callB call_isinst (by rfl) T.b_isinstance PyProof.Rows.boot_isinstance (pa_cons (pv 0) (pa_cons (pe_bltn (v:=.ty "int") rfl T.b_int PyProof.Rows.boot_int rfl) pa_nil))) (pe_one (pe_not (pe_callB call_isinst (by rfl) T.b_isinstance PyProof.Rows.boot_isinstance (pa_cons (pv 0) (pa_cons (pe_bltn (v:=.ty "bool") rfl T.b_bool PyProof.Rows.boot_bool rfl) pa_nil)))))))),?_⟩
  refine ⟨_,rfl,_,_,_,_,true,rfl,rfl,.int _,rfl,_,rfl,?_⟩
  refine iteT ?_
  refine ⟨_,rfl,_,_,_,_,false,rfl,rfl,.int _,(by with_unfolding_all rfl),_,rfl,?_⟩
  exact q
theorem ok__law_stir {f:Addr} {fd:FuncData} (F:Fun K "_law_stir" "_law_stir" s__law_stir f fd) (T:Txt K mg t_W t_MOST_BLOCKS t_MOST_FIGURES t_MOST_DAY t_FIGURES t_CHECK_FIGURES C_KeepError C_NoWord C_NoLine C_Piece C_Whole C_Gain C_DAYS_TOLD) :FnOk P w K mg base (CXx P w) 1 f fd ["_law_cell_here","_law_k"] (sp_stir):=by
  refine F.okX sc__law_stir (fun vs H Q E h=>?_) (fun cdv A outer s H vs Q E hr h=>?_)
  · obtain ⟨c,k,rfl,q⟩:=h; rfl
  obtain ⟨c,k,rfl,q⟩:=h
  refine ⟨_,(pss_cons (ps_set (i:=2) sc__law_stir.nd rfl (Or.inl rfl) (pe_op op_mod (pe_op op_mul (pe_op op_add (pv 0) (pe_op op_mul pe_int (pv 1))) pe_int) pe_int))
      (pss_one (ps_ret (pe_op op_mod (pe_op op_mul (pv 2) (pv 2)) pe_int)))),?_⟩
  refine ⟨_,rfl,_,rfl,_,_,rfl,rfl,.inl ⟨by first | decide | (dsimp only; decide),by first | decide | (dsimp only; decide)⟩,_,_,rfl,rfl,_,_,rfl,rfl,.inr ⟨by first | decide | (dsimp only; decide),by first | decide | (dsimp only; decide)⟩,_,_,rfl,rfl,(by first | decide | (dsimp only; decide)),?_⟩
  have h1:0 ≤ (c + 7919 * k) * 48271 % 2147483647:=Int.emod_nonneg _ (by first | decide | (dsimp only; decide))
  have h2:(c + 7919 * k) * 48271 % 2147483647 < 2147483647:=Int.emod_lt_of_pos _ (by first | decide | (dsimp only; decide))
  refine ⟨_,rfl,_,rfl,_,_,rfl,rfl,.inl ⟨by omega,by omega⟩,_,_,rfl,rfl,(by first | decide | (dsimp only; decide)),?_⟩
  exact q
theorem ok__law_block {f:Addr} {fd:FuncData} (F:Fun K "_law_block" "_law_block" s__law_block f fd) (T:Txt K mg t_W t_MOST_BLOCKS t_MOST_FIGURES t_MOST_DAY t_FIGURES t_CHECK_FIGURES C_KeepError C_NoWord C_NoLine C_Piece C_Whole C_Gain C_DAYS_TOLD) (D__law_stir:DefX P w K mg base "_law_stir" 1 ["_law_cell_here","_law_k"] sp_stir):FnOk P w K mg base (CXx P w) 2 f fd ["_law_cell_here","_law_k"] (sp_block):=by
  refine F.okX sc__law_block (fun vs H Q E h=>?_) (fun cdv A outer s H vs Q E hr h=>?_)
  · obtain ⟨c,k,rfl,q⟩:=h; rfl
  obtain ⟨c,k,rfl,q⟩:=h
  refine ⟨_,(pss_cons (ps_if (pt_cmpR op_eq (pe_op op_mod (pe_op op_add (pv 0) (pv 1)) pe_int) pe_int (nomark _)) (pss_one (ps_ret (pe_op op_mod (pe_op op_add (pe_op op_fdivB (pv 0) pe_int) (pv 1)) pe_int))) pss_nil)
      (pss_cons (ps_if (pt_cmpR op_eq (pe_op op_mod (pe_op op_add (pv 0) (pv 1)) pe_int) pe_int (nomark _)) (pss_one (ps_ret (pe_op op_sub (pe_op op_sub (pe_powc (n:=18446744073709551616)) pe_int) (pe_op op_mod (pe_op op_add (pe_op op_fdivB (pv 0) pe_int) (pv 1)) pe_int)))) pss_nil)
      (pss_cons (ps_if (pt_cmpR op_eq (pe_op op_mod (pe_op op_add (pv 0) (pv 1)) pe_int) pe_int (nomark _)) (pss_one (ps_ret (pe_op op_mod (pv 0) (pe_powc (n:=18446744073709551616))))) pss_nil)
      (pss_one (ps_ret (pe_op op_mod (pe_op op_add (pe_op op_mul (pe_callS D__law_stir passesN (hr.mono (by decide)) rfl (pa_cons (pv 0) (pa_cons (pv 1) pa_nil))) (pe_powc (n:=8589934592))) (pe_callS D__law_stir passesN (hr.mono (by decide)) rfl (pa_cons (pv 0) (pa_cons (pe_op op_add (pv 1) pe_int) pa_nil)))) (pe_powc (n:=18446744073709551616)))))))),?_⟩
  refine ⟨_,rfl,_,rfl,_,_,rfl,rfl,_,_,rfl,rfl,(by first | decide | (dsimp only; decide)),rfl,_,rfl,?_⟩
  refine ite2 (fun h=>?_) (fun h=>?_)
  · have h:=decV h
    refine ⟨_,rfl,_,_,rfl,rfl,⟨by first | decide | (dsimp only; decide),by first | decide | (dsimp only; decide)⟩,_,rfl,_,_,rfl,rfl,_,_,rfl,rfl,(by first | decide | (dsimp only; decide)),?_⟩
    have e:blockI c k = (c / 4 + k) % 3:=by unfold blockI; rw [if_pos h]
    rw [e] at q; exact q
  have h:=decVn h
  refine ⟨_,rfl,_,rfl,_,_,rfl,rfl,_,_,rfl,rfl,(by first | decide | (dsimp only; decide)),rfl,_,rfl,?_⟩
  refine ite2 (fun h1=>?_) (fun h1=>?_)
  · have h1:=decV h1
    refine ⟨_,_,rfl,rfl,_,rfl,_,_,rfl,rfl,⟨by first | decide | (dsimp only; decide),by first | decide | (dsimp only; decide)⟩,_,rfl,_,_,rfl,rfl,_,_,rfl,rfl,(by first | decide | (dsimp only; decide)),_,_,rfl,rfl,?_⟩
    have e:blockI c k = 18446744073709551616 - 1 - (c / 4 + k) % 3:=by unfold blockI; rw [if_neg h,if_pos h1]
    rw [e] at q; exact q
  have h1:=decVn h1
  refine ⟨_,rfl,_,rfl,_,_,rfl,rfl,_,_,rfl,rfl,(by first | decide | (dsimp only; decide)),rfl,_,rfl,?_⟩
  refine ite2 (fun h2=>?_) (fun h2=>?_)
  · have h2:=decV h2
    refine ⟨_,rfl,_,_,rfl,rfl,(by first | decide | (dsimp only; decide)),?_⟩
    have e:blockI c k = c % 18446744073709551616:=by unfold blockI; rw [if_neg h,if_neg h1,if_pos h2]
    rw [e] at q; exact q
  have h2:=decVn h2
  refine ⟨_,rfl,_,rfl,_,_,rfl,_,_,rfl,rfl,.inr ⟨by first | decide | (dsimp only; decide),by first | decide | (dsimp only; decide)⟩,_,rfl,_,rfl,_,_,rfl,rfl,_,_,rfl,_,_,rfl,rfl,_,_,rfl,rfl,(by first | decide | (dsimp only; decide)),?_⟩
  have e:blockI c k = (stirI c k * 8589934592 + stirI c (k + 50)) % 18446744073709551616:=by unfold blockI; rw [if_neg h,if_neg h1,if_neg h2]
  rw [e] at q; exact q
theorem ok__law_base {f:Addr} {fd:FuncData} (F:Fun K "_law_base" "_law_base" s__law_base f fd) (T:Txt K mg t_W t_MOST_BLOCKS t_MOST_FIGURES t_MOST_DAY t_FIGURES t_CHECK_FIGURES C_KeepError C_NoWord C_NoLine C_Piece C_Whole C_Gain C_DAYS_TOLD) :FnOk P w K mg base (CXx P w) 1 f fd ["_law_cell_here"] (sp_base):=by
  refine F.okX sc__law_base (fun vs H Q E h=>?_) (fun cdv A outer s H vs Q E hr h=>?_)
  · obtain ⟨c,rfl,q⟩:=h; rfl
  obtain ⟨c,rfl,q⟩:=h
  refine ⟨_,(pss_one (ps_ret (pe_ix ix_list (pe_lst (pa_cons (pe_op op_mod (pe_op op_fdivB (pv 0) pe_int) pe_int) (pa_cons (pe_op op_mod (pe_op op_fdivB (pv 0) pe_int) (pe_powc (n:=1000000000))) (pa_cons (pe_op op_sub (pe_op op_sub (pe_powc (n:=1000000000)) pe_int) (pe_op op_mod (pe_op op_fdivB (pv 0) pe_int) pe_int)) pa_nil)))) (pe_op op_mod (pv 0) pe_int) (fun _ _=>rfl)))),?_⟩
  refine ⟨_,rfl,_,_,rfl,rfl,⟨by first | decide | (dsimp only; decide),by first | decide | (dsimp only; decide)⟩,_,_,rfl,rfl,(by first | decide | (dsimp only; decide)),?_⟩
  refine ⟨_,rfl,_,_,rfl,rfl,⟨by first | decide | (dsimp only; decide),by first | decide | (dsimp only; decide)⟩,_,_,rfl,rfl,(by first | decide | (dsimp only; decide)),?_⟩
  refine ⟨_,_,rfl,rfl,_,rfl,_,_,rfl,rfl,⟨by first | decide | (dsimp only; decide),by first | decide | (dsimp only; decide)⟩,_,_,rfl,rfl,(by first | decide | (dsimp only; decide)),_,_,rfl,rfl,(by show 3 ≤ sizeLine; decide),fun p hp=>?_⟩
  refine ⟨_,rfl,_,_,rfl,rfl,(by first | decide | (dsimp only; decide)),?_⟩
  have h3:c % 3 = 0 ∨ c % 3 = 1 ∨ c % 3 = 2:=by omega
  rcases h3 with h | h | h
  · obtain ⟨b,hb⟩:∃ b:Nat,c / 3 % 9 = (b:Int):=⟨(c / 3 % 9).toNat,by omega⟩
    exact ⟨p,_,_,V.int (b:Int),rfl,rfl,SqL.of upd_same,(by rw [h,← hb]; rfl),q b _ (by omega) (Same.new hp)⟩
  · obtain ⟨b,hb⟩:∃ b:Nat,c / 3 % 1000000000 = (b:Int):=⟨(c / 3 % 1000000000).toNat,by omega⟩
    exact ⟨p,_,_,V.int (b:Int),rfl,rfl,SqL.of upd_same,(by rw [h,← hb]; rfl),q b _ (by omega) (Same.new hp)⟩
  · obtain ⟨b,hb⟩:∃ b:Nat,1000000000 - 1 - c / 3 % 2 = (b:Int):=⟨(1000000000 - 1 - c / 3 % 2).toNat,by omega⟩
    exact ⟨p,_,_,V.int (b:Int),rfl,rfl,SqL.of upd_same,(by rw [h,← hb]; rfl),q b _ (by omega) (Same.new hp)⟩
theorem ok__law_after {f:Addr} {fd:FuncData} (F:Fun K "_law_after" "_law_after" s__law_after f fd) (T:Txt K mg t_W t_MOST_BLOCKS t_MOST_FIGURES t_MOST_DAY t_FIGURES t_CHECK_FIGURES C_KeepError C_NoWord C_NoLine C_Piece C_Whole C_Gain C_DAYS_TOLD) :FnOk P w K mg base (CXx P w) 1 f fd ["_law_base_here","_law_cell_here"] (sp_after):=by
  refine F.okX sc__law_after (fun vs H Q E h=>?_) (fun cdv A outer s H vs Q E hr h=>?_)
  · obtain ⟨b,c,rfl,hb,q⟩:=h; rfl
  obtain ⟨b,c,rfl,hb,q⟩:=h
  refine ⟨_,(pss_cons (ps_if (pt_cmpR op_eq (pe_op op_mod (pv 1) pe_int) pe_int (nomark _)) (pss_one (ps_ret (pe_callB (call_min2 rfl) (by rfl) T.b_min PyProof.Rows.boot_min (pa_cons (pe_powc (n:=1000000000)) (pa_cons (pe_op op_add (pe_op op_add (pv 0) pe_int) (pe_op op_mod (pe_op op_fdivB (pv 1) pe_int) pe_int)) pa_nil))))) pss_nil)
      (pss_one (ps_ret (pe_op op_add (pe_op op_add (pv 0) pe_int) (pe_op op_mod (pe_op op_fdivB (pv 1) pe_int) (pe_op op_sub (pe_powc (n:=1000000000)) (pv 0))))))),?_⟩
  refine ⟨_,rfl,_,_,rfl,rfl,(by first | decide | (dsimp only; decide)),rfl,_,rfl,?_⟩
  refine ite2 (fun h=>?_) (fun h=>?_)
  · repeat (first | refine ⟨_,rfl,?_⟩ | refine ⟨_,_,rfl,rfl,?_⟩ | refine ⟨(by first | decide | (dsimp only; decide) | (show 2 ≤ sizeLine; decide) | (show 1 ≤ sizeLine; decide) | (show 3 ≤ sizeLine; decide) | (show 4 ≤ sizeLine; decide)),?_⟩ | refine ⟨.inl ⟨by first | decide | (dsimp only; decide),by first | decide | (dsimp only; decide)⟩,?_⟩ | refine ⟨.inr ⟨by first | decide | (dsimp only; decide),by first | decide | (dsimp only; decide)⟩,?_⟩ | refine ⟨⟨by first | decide | (dsimp only; decide),by first | decide | (dsimp only; decide)⟩,?_⟩ | refine ⟨rfl,?_⟩ | refine ⟨_,_,rfl,?_⟩)
    obtain ⟨d,hd⟩:∃ d:Nat,(if (b:Int) + 1 + c / 2 % 3 < 1000000000 then (b:Int) + 1 + c / 2 % 3 else 1000000000) = (d:Int):=⟨(if (b:Int) + 1 + c / 2 % 3 < 1000000000 then (b:Int) + 1 + c / 2 % 3 else 1000000000).toNat,by split <;> omega⟩
    rw [hd]
    exact q d (by split at hd <;> omega) (by split at hd <;> omega)
  · have m0:=Int.emod_nonneg (c / 2) (show (1000000000 - (b:Int)) ≠ 0 by omega)
    have m1:=Int.emod_lt_of_pos (c / 2) (show 0 < 1000000000 - (b:Int) by omega)
    refine ⟨_,rfl,_,_,rfl,rfl,_,rfl,_,_,rfl,rfl,⟨by first | decide | (dsimp only; decide),by first | decide | (dsimp only; decide)⟩,_,rfl,_,_,rfl,rfl,_,_,rfl,rfl,(by show (0:Int) < 1000000000 - (b:Int); omega),_,_,rfl,rfl,?_⟩
    obtain ⟨d,hd⟩:∃ d:Nat,(b:Int) + 1 + c / 2 % (1000000000 - (b:Int)) = (d:Int):=⟨((b:Int) + 1 + c / 2 % (1000000000 - (b:Int))).toNat,by omega⟩
    show Q (V.int ((b:Int) + 1 + c / 2 % (1000000000 - (b:Int)))) H
    rw [hd]
    exact q d (by omega) (by omega)
theorem ok__law_same_rows {f:Addr} {fd:FuncData} (F:Fun K "_law_same_rows" "_law_same_rows" s__law_same_rows f fd) (T:Txt K mg t_W t_MOST_BLOCKS t_MOST_FIGURES t_MOST_DAY t_FIGURES t_CHECK_FIGURES C_KeepError C_NoWord C_NoLine C_Piece C_Whole C_Gain C_DAYS_TOLD) (D__law_whole:DefX P w K mg base "_law_whole" 1 ["_law_found"] sp_whole):FnOk P w K mg base (CXx P w) 2 f fd ["_law_found","_law_rows_here"] (sp_srows):=by
  refine F.okX sc__law_same_rows (fun vs H Q E h=>?_) (fun cdv A outer s H vs Q E hr h=>?_)
  · obtain ⟨f,l,R,L,rows,rfl,hf,hl,R1,R2,q⟩:=h; rfl
  obtain ⟨f,l,R,L,rows,rfl,hf,hl,R1,R2,q⟩:=h
  refine ⟨_,(pss_cons (ps_if (PW.pt (pw_or (pt_not (pt_val (pe_callB call_isinst (by rfl) T.b_isinstance PyProof.Rows.boot_isinstance (pa_cons (pv 0) (pa_cons (pe_bltn (v:=.ty "tuple") rfl T.b_tuple PyProof.Rows.boot_tuple rfl) pa_nil))))) (pw_or1 (pt_cmpR op_ne (pe_callB call_len_seq (by rfl) T.b_len PySem.boot_len (pa_cons (pv 0) pa_nil)) (pe_callB call_len_seq (by rfl) T.b_len PySem.boot_len (pa_cons (pv 1) pa_nil)) (nomark _))))) (pss_one (ps_ret pe_bl)) pss_nil)
      (pss_cons (ps_for PassesOwn.leaving rfl (pi_zipS rfl T.b_zip (pa_cons (pv 0) (pa_cons (pv 1) pa_nil))) (pg_tup rfl (pgs_cons (pg_name (i:=2) sc__law_same_rows.nd rfl (Or.inl rfl)) (pgs_cons (pg_name (i:=3) sc__law_same_rows.nd rfl (Or.inl rfl)) pgs_nil)))
      (pss_cons (ps_if (PW.pt (pw_or (pt_not (pt_val (pe_callB call_isinst (by rfl) T.b_isinstance PyProof.Rows.boot_isinstance (pa_cons (pv 2) (pa_cons (pe_bltn (v:=.ty "tuple") rfl T.b_tuple PyProof.Rows.boot_tuple rfl) pa_nil))))) (pw_or (pt_cmpR op_ne (pe_callB call_len_seq (by rfl) T.b_len PySem.boot_len (pa_cons (pv 2) pa_nil)) pe_int (nomark _)) (pw_or1 (pt_cmpR (op_ne_ref hr.units) (pv 2) (pv 3) (nomark _)))))) (pss_one (ps_ret pe_bl)) pss_nil)
      (pss_one (ps_if (PW.pt (pw_or (pt_not (pt_val (pe_callS D__law_whole passesN (hr.mono (by decide)) rfl (pa_cons (pe_ix ix_tup (pv 2) pe_int (fun _ _=>rfl)) pa_nil)))) (pw_or1 (pt_not (pt_val (pe_callS D__law_whole passesN (hr.mono (by decide)) rfl (pa_cons (pe_ix ix_tup (pv 2) pe_int (fun _ _=>rfl)) pa_nil))))))) (pss_one (ps_ret pe_bl)) pss_nil))))
      (pss_one (ps_ret pe_bl)))),?_⟩
  refine ⟨_,rfl,_,_,_,_,true,rfl,rfl,.tup hf,rfl,_,rfl,?_⟩
  refine iteF ?_
  refine ⟨_,rfl,f,_,rfl,.inr (SqT.of hf),_,rfl,l,_,rfl,.inl (SqL.of hl),rfl,_,rfl,?_⟩
  refine iteNS (by rw [R1.len,R2.len]) ?_
  refine ⟨_,rfl,_,rfl,f,l,rfl,⟨_,SqT.of hf⟩,⟨_,SqL.of hl⟩,for_zipS (K:=K) (l1:=f) (l2:=l) (xs:=R) (ys:=L) (fun i σ H2=>∃ v2 v3:Option V,σ = [some (.ref f),some (.ref l),v2,v3] /\ Same H H2) ⟨none,none,rfl,Same.refl _⟩ (fun i σ H2 ⟨_,_,_,s2⟩=>⟨SqT.of (s2 f _ hf),SqL.of (s2 l _ hl)⟩) (by rw [R1.len,R2.len]) ?_ ?_⟩
  · rintro i x y σ H2 TT hx hy ⟨v2,v3,rfl,s2⟩ hT
    obtain ⟨t1,r,rfl,hr,ht1⟩:=R1.get i x hx
    obtain ⟨t2,r2,rfl,hr2,ht2⟩:=R2.get i y hy
    rw [hr] at hr2; cases hr2
    have s3:=s2.trans (Same.new (o:=.tup [V.ref t1,V.ref t2]) hT)
    have hT3:upd H2 TT (.tup [V.ref t1,V.ref t2]) TT = some (.tup [V.ref t1,V.ref t2]):=upd_same
    generalize upd H2 TT (.tup [V.ref t1,V.ref t2]) = H3 at s3 hT3
    have ht1':=s3 t1 _ ht1
    have ht2':=s3 t2 _ ht2
    refine ⟨TT,_,rfl,SqT.of hT3,rfl,_,_,rfl,_,_,rfl,rfl,?_⟩
    refine ⟨_,rfl,_,_,_,_,true,rfl,rfl,.tup ht1',rfl,_,rfl,?_⟩
    refine iteF ?_
    refine ⟨_,rfl,t1,_,rfl,.inr (SqT.of ht1'),rfl,_,rfl,?_⟩
    refine iteNS rfl ?_
    refine ⟨_,rfl,_,rfl,0,true,by decide,SeqEq.sameT (SqT.of ht1') (SqT.of ht2') (fun x hx=>?_),_,rfl,?_⟩
    · simp only [List.mem_cons,List.not_mem_nil,or_false] at hx
      rcases hx with rfl | rfl <;> exact eqI_int _
    refine iteF ?_
    refine ⟨_,rfl,t1,_,_,V.int (r.1:Int),rfl,rfl,SqT.of ht1',atI_nat (j:=0) rfl,_,rfl,_,rfl,?_⟩
    refine iteF ?_
    refine ⟨_,rfl,t1,_,_,V.int (r.2:Int),rfl,rfl,SqT.of ht1',atI_nat (j:=1) rfl,_,rfl,_,rfl,?_⟩
    refine iteF ?_
    exact ⟨_,_,rfl,s3⟩
  · rintro σ H2 ⟨v2,v3,rfl,s2⟩
    exact q H2 s2
theorem ok__law_rows {f:Addr} {fd:FuncData} (F:Fun K "_law_rows" "_law_rows" s__law_rows f fd) (T:Txt K mg t_W t_MOST_BLOCKS t_MOST_FIGURES t_MOST_DAY t_FIGURES t_CHECK_FIGURES C_KeepError C_NoWord C_NoLine C_Piece C_Whole C_Gain C_DAYS_TOLD) (D__law_cell:DefX P w K mg base "_law_cell" 1 ["_law_script","_law_k"] (sp_cell K)) (D__law_stir:DefX P w K mg base "_law_stir" 1 ["_law_cell_here","_law_k"] sp_stir) (D__law_block:DefX P w K mg base "_law_block" 2 ["_law_cell_here","_law_k"] sp_block):FnOk P w K mg base (CXx P w) 3 f fd ["_law_script","_law_begin","_law_wide","_law_whole_here"] (sp_lrows20 K):=by
  refine F.okX sc__law_rows (fun vs H Q E h=>?_) (fun cdv A outer s H vs Q E hr h=>?_)
  · obtain ⟨a,ns,g,wd,wh,rfl,hS,hw,q⟩:=h; rfl
  obtain ⟨a,ns,g,wd,wh,rfl,hS,hw,q⟩:=h
  refine ⟨_,(pss_cons (ps_set (i:=4) sc__law_rows.nd rfl (Or.inl rfl) (pe_lst pa_nil))
      (pss_cons (ps_for PassesOwn.leaving rfl (pi_range1 rfl T.b_range (pa_cons (pv 2) pa_nil)) (pg_name (i:=5) sc__law_rows.nd rfl (Or.inl rfl))
      (pss_cons (ps_set (i:=6) sc__law_rows.nd rfl (Or.inl rfl) (pe_callS D__law_cell passesN (hr.mono (by decide)) rfl (pa_cons (pv 0) (pa_cons (pe_op op_add (pv 1) (pv 5)) pa_nil))))
      (pss_one (ps_if (PW.pt (pw_or (pt_val (pv 3)) (pw_or1 (pt_cmpR op_gt (pe_op op_mod (pe_callS D__law_stir passesN (hr.mono (by decide)) rfl (pa_cons (pv 6) (pa_cons pe_int pa_nil))) pe_int) pe_int (nomark _))))) (pss_one (ps_expr (pe_bm PySem.F.plainAttrs_list PySem.F.slot_list_append PySem.F.type_list_append mt_append (pv 4) (pa_cons (pe_tup (pa_cons (pv 5) (pa_cons (pe_callS D__law_block passesN (hr.mono (by decide)) rfl (pa_cons (pv 6) (pa_cons (pv 5) pa_nil))) pa_nil))) pa_nil)))) pss_nil))))
      (pss_one (ps_ret (pv 4))))),?_⟩
  refine ⟨Nat.zero_le _,fun l hl=>?_⟩
  refine ⟨_,rfl,_,rfl,by omega,by omega,for_range (lo:=0) (n:=(wd:Int).toNat) (fun i σ H2=>∃ (v5 v6:Option V) (L:List V) (rows:List (Nat × Nat)),σ = [some (.ref a),some (.int (g:Int)),some (.int (wd:Int)),some (.bl wh),some (.ref l),v5,v6] /\ Same H H2 /\ H2 l = some (.lst L) /\ RowsAt H2 L rows /\ rows.length ≤ i /\ (∀ r ∈ rows,r.1 < i /\ r.2 < 2 ^ 64) /\ (wh = true->rows.map Prod.fst = List.range i) /\ (rows.map Prod.fst).Pairwise (· < ·))
    ⟨none,none,[],[],rfl,Same.new hl,upd_same,⟨rfl,fun i v e=>by simp at e⟩,Nat.le_refl _,by simp,fun _=>rfl,by simp⟩ ?_ ?_⟩
  · rintro i σ H2 hi ⟨v5,v6,L,rows,rfl,s2,h2,R,hr,hb,hwh,hpw⟩
    refine ⟨_,rfl,_,rfl,_,rfl,_,_,rfl,rfl,a,ns,g + i,args2 (by omega),s2.seq hS,?_⟩
    generalize cellI ns ((g + i:Nat):Int) = ch
    obtain ⟨b0,b1⟩:=block_bd ch (i:Int)
    obtain ⟨bk,eb⟩:∃ bk:Nat,blockI ch (i:Int) = (bk:Int):=⟨(blockI ch (i:Int)).toNat,by omega⟩
    have hb2:∀ r ∈ rows ++ [(i,bk)],r.1 < i + 1 /\ r.2 < 2 ^ 64:=fun r hr=>by
      rcases List.mem_append.mp hr with h | h
      · have:=hb r h; exact ⟨by omega,this.2⟩
      · rw [List.mem_singleton.mp h]; exact ⟨by show i < i + 1; omega,by show bk < 2 ^ 64; omega⟩
    have hpw2:((rows ++ [(i,bk)]).map Prod.fst).Pairwise (· < ·):=by
      rw [List.map_append,List.pairwise_append]
      refine ⟨hpw,by simp,fun x hx y hy=>?_⟩
      obtain ⟨r,h,rfl⟩:=List.mem_map.mp hx
      have:=hb r h
      simp at hy
      omega
    have hwh2:wh = true->(rows ++ [(i,bk)]).map Prod.fst = List.range (i + 1):=fun h=>by rw [List.map_append,hwh h,List.range_succ]; rfl
    refine ⟨_,rfl,_,rfl,?_⟩
    cases wh
    · refine iteF ?_
      refine ⟨_,rfl,_,_,rfl,_,_,rfl,rfl,(by first | decide | (dsimp only; decide)),_,_,rfl,rfl,_,rfl,?_⟩
      refine ite2 (fun h5=>?_) (fun h5=>?_)
      · refine ⟨_,rfl,.inl ⟨rfl,_,SqL.of h2⟩,_,rfl,_,rfl,_,rfl,_,_,rfl,(by show 2 ≤ sizeLine; decide),fun t ht=>?_⟩
        have nlt:l ≠ t:=ne_of_none h2 ht
        refine ⟨l,L,_,rfl,rfl,Same.new ht l _ h2,(by rw [R.len]; exact small1000 (by omega)),?_⟩
        refine ⟨_,_,L ++ [.ref t],rows ++ [(i,bk)],rfl,fun b o e=>?_,upd_same,?_,by simp; omega,hb2,(fun h=>by cases h),hpw2⟩
        · rw [upd_ne (ne_of_none e hl)]; exact Same.new ht b _ (s2 b _ e)
        · refine (R.mono fun b xs e=>?_).snoc ?_
          · rw [upd_ne (ne_of e h2 (by intro z; cases z))]; exact Same.new ht b _ e
          · rw [upd_ne nlt.symm,upd_same,Int.zero_add,← eb]
      · exact ⟨_,_,L,rows,rfl,s2,h2,R,by omega,fun r h=>⟨by have:=(hb r h).1; omega,(hb r h).2⟩,(fun h=>by cases h),hpw⟩
    · refine iteT ?_
      refine iteT ?_
      refine ⟨_,rfl,.inl ⟨rfl,_,SqL.of h2⟩,_,rfl,_,rfl,_,rfl,_,_,rfl,(by show 2 ≤ sizeLine; decide),fun t ht=>?_⟩
      have nlt:l ≠ t:=ne_of_none h2 ht
      refine ⟨l,L,_,rfl,rfl,Same.new ht l _ h2,(by rw [R.len]; exact small1000 (by omega)),?_⟩
      refine ⟨_,_,L ++ [.ref t],rows ++ [(i,bk)],rfl,fun b o e=>?_,upd_same,?_,by simp; omega,hb2,hwh2,hpw2⟩
      · rw [upd_ne (ne_of_none e hl)]; exact Same.new ht b _ (s2 b _ e)
      · refine (R.mono fun b xs e=>?_).snoc ?_
        · rw [upd_ne (ne_of e h2 (by intro z; cases z))]; exact Same.new ht b _ e
        · rw [upd_ne nlt.symm,upd_same,Int.zero_add,← eb]
  · rintro σ H2 ⟨v5,v6,L,rows,rfl,s2,h2,R,hr,hb,hwh,hpw⟩
    exact ⟨_,rfl,q l L rows H2 h2 hl R (by omega) (fun r h=>⟨by have:=(hb r h).1; omega,(hb r h).2⟩) (fun h=>by rw [hwh h]; rfl) hpw s2⟩
theorem ok__law_line {f:Addr} {fd:FuncData} (F:Fun K "_law_line" "_law_line" s__law_line f fd) (T:Txt K mg t_W t_MOST_BLOCKS t_MOST_FIGURES t_MOST_DAY t_FIGURES t_CHECK_FIGURES C_KeepError C_NoWord C_NoLine C_Piece C_Whole C_Gain C_DAYS_TOLD) :FnOk P w K mg base (CXx P w) 1 f fd ["_law_whole_here","_law_base_here","_law_day","_law_rows_here","_law_check"] (sp_llineW):=by
  refine F.okX sc__law_line (fun vs H Q E h=>?_) (fun cdv A outer s H vs Q E hr h=>?_)
  · obtain ⟨u,b,l,L,rfl,hub,hb,hl,hR,hL,q⟩:=h; rfl
  obtain ⟨u,b,l,L,rfl,hub,hb,hl,hR,hL,q⟩:=h
  refine ⟨_,(pss_cons (ps_set (i:=5) sc__law_line.nd rfl (Or.inl rfl) (pe_lst (pa_cons pe_str (pa_cons (pe_callTy call_str_int (by rfl) T.b_str PyProof.Rows.boot_str (pa_cons (pv 1) pa_nil)) (pa_cons (pe_callTy call_str_int (by rfl) T.b_str PyProof.Rows.boot_str (pa_cons (pv 2) pa_nil)) pa_nil)))))
      (pss_cons (ps_if (pt_val (pv 0)) (pss_one (ps_set (i:=5) sc__law_line.nd rfl (Or.inl rfl) (pe_lst (pa_cons pe_str (pa_cons (pe_callTy call_str_int (by rfl) T.b_str PyProof.Rows.boot_str (pa_cons (pv 2) pa_nil)) pa_nil))))) pss_nil)
      (pss_cons (ps_set (i:=6) sc__law_line.nd rfl (Or.inl rfl) (pe_callTy call_str_int (by rfl) T.b_str PyProof.Rows.boot_str (pa_cons (pv 4) pa_nil)))
      (pss_cons (ps_set (i:=5) sc__law_line.nd rfl (Or.inl rfl) (pe_op op_cat (pv 5) (pe_comp (N:=["_law_place","_law_block_here"]) (k:=2) (cap:=[]) rfl rfl (pi_list (pv 3)) (fun _ _ _ _=>(pg_tupK (K:=K) (n:=2) rfl rfl (pgs_cons (pg_name (i:=0) (show (["_law_place","_law_block_here"]:List Str).Nodup from by decide +kernel) rfl (Or.inl rfl) (.inr rfl)) (pgs_cons (pg_name (i:=1) (show (["_law_place","_law_block_here"]:List Str).Nodup from by decide +kernel) rfl (Or.inl rfl) (.inr rfl)) pgs_nil)))) (fun _ _ _ _=>pts_nil) (fun _ _ _ _=>(pe_op op_add_str (pe_op op_add_str (pe_callTy call_str_int (by rfl) T.b_str PyProof.Rows.boot_str (pa_cons (pv 0) pa_nil)) pe_str) (pe_callTy call_str_int (by rfl) T.b_str PyProof.Rows.boot_str (pa_cons (pv 1) pa_nil)))))))
      (pss_one (ps_ret (pe_bm PySem.F.plainAttrs_str PySem.F.slot_str_join PySem.F.type_str_join mt_join pe_str (pa_cons (pe_op op_cat (pv 5) (pe_lst (pa_cons (pe_op op_add_str (pe_op op_rep_strN pe_str (pe_op op_sub pe_int (pe_callB call_len_str (by rfl) T.b_len PySem.boot_len (pa_cons (pv 6) pa_nil)))) (pv 6)) pa_nil))) pa_nil)))))))),?_⟩
  have hlen:=hL.len
  have gd:=hL.gd
  have gc:=hL.gc
  refine cutA (fun σ H'=>∃ x:Addr,σ = [some (.bl u.wh),some (.int (b:Int)),some (.int (u.d:Int)),some (.ref l),some (.int u.c),some (.ref x),none] /\ Same H H' /\ H' x = some (.lst ([Str.ofString "gain",numT (b:Int),numT (u.d:Int)].map V.str))) (fun N hN=>?_) ?_
  · refine ⟨_,rfl,(b:Int),rfl,log20 (by omega) (by omega),_,rfl,(u.d:Int),rfl,log20 gd.1 gd.2,(by show 3 ≤ sizeLine; decide),fun x hx=>?_⟩
    exact hN _ _ ⟨x,rfl,Same.new hx,upd_same⟩
  rintro σ H1 ⟨x0,rfl,s1,hx0⟩
  refine cutA (fun σ H'=>∃ x:Addr,σ = [some (.bl u.wh),some (.int (b:Int)),some (.int (u.d:Int)),some (.ref l),some (.int u.c),some (.ref x),none] /\ Same H H' /\ H' x = some (.lst ((headU u).map V.str))) (fun N hN=>?_) ?_
  · cases hw:u.wh with
    | false =>
      refine ⟨_,rfl,_,rfl,iteF ?_⟩
      exact hN _ _ ⟨x0,by rw [hw],s1,by unfold headU; rw [hw,hub hw]; exact hx0⟩
    | true =>
      refine ⟨_,rfl,_,rfl,iteT ?_⟩
      refine ⟨_,rfl,(u.d:Int),rfl,log20 gd.1 gd.2,(by show 2 ≤ sizeLine; decide),fun x hx=>?_⟩
      exact hN _ _ ⟨x,by rw [hw]; rfl,s1.trans (Same.new hx),by unfold headU; rw [hw]; exact upd_same⟩
  rintro σ H2 ⟨x,rfl,s2,hx⟩
  refine cutA (fun σ H'=>σ = [some (.bl u.wh),some (.int (b:Int)),some (.int (u.d:Int)),some (.ref l),some (.int u.c),some (.ref x),some (.str (numT u.c))] /\ H2 = H') (fun N hN=>?_) ?_
  · exact ⟨_,rfl,u.c,rfl,log20 gc.1 gc.2,hN _ _ ⟨rfl,rfl⟩⟩
  rintro σ _ ⟨rfl,rfl⟩
  have hhl:(headU u).length ≤ 3:=by unfold headU; split <;> simp
  refine cutA (fun σ H'=>∃ x:Addr,σ = [some (.bl u.wh),some (.int (b:Int)),some (.int (u.d:Int)),some (.ref l),some (.int u.c),some (.ref x),some (.str (numT u.c))] /\ Same H H' /\ H' x = some (.lst ((headU u ++ u.rows.map (fun r=>wordOf (rowC r))).map V.str))) (fun N hN=>?_) ?_
  · refine ⟨_,rfl,_,rfl,l,rfl,⟨_,SqL.of (s2 _ _ hl)⟩,fun D hD=>?_⟩
    refine comp_list D (K:=K) (a:=l) (xs:=L) (fun i σ H5 ys=>∃ v v':Option V,σ = [v,v'] /\ Same H2 H5 /\ H5 D = some (.lst ys) /\ ys = ((u.rows.take i).map fun r=>wordOf (rowC r)).map V.str) ⟨none,none,rfl,Same.new hD,upd_same,rfl⟩ (fun i σ H5 ys _ z0=>by obtain ⟨_,_,_,s5,_⟩:=z0; exact SqL.of (s5 _ _ (s2 _ _ hl))) ?_ ?_
    · rintro i v σ H5 ys hi ⟨v1,v2,rfl,s5,hy,rfl⟩
      obtain ⟨t,rr,rfl,hr2,ht⟩:=hR.get i v hi
      have hg:=hL.good rr (List.mem_of_getElem? hr2)
      have ht5:=s5 _ _ (s2 _ _ ht)
      have hwl:=wordOf_len hg
      rw [← wordS,str_add_len,str_add_len] at hwl
      refine ⟨t,_,rfl,SqT.of ht5,rfl,_,_,rfl,_,_,rfl,rfl,_,rfl,(rr.1:Int),rfl,log20 hg.1.1 hg.1.2,_,_,rfl,rfl,?_,_,rfl,(rr.2:Int),rfl,log20 hg.2.1 hg.2.2,_,_,rfl,rfl,?_,hy,by rw [List.length_map,List.length_map,List.length_take]; exact small1000 (by omega),_,_,rfl,fun b o e=>?_,upd_same,by rw [List.take_add_one,hr2,List.map_append,List.map_append]; show _ = _ ++ [V.str (wordOf (rowC rr))]; rw [← wordS]; rfl⟩
      · exact Nat.le_of_lt (small1000 (by show (Str.ofString (toString (rowC rr).1)).length + _ ≤ _; omega))
      · exact Nat.le_of_lt (small1000 (by rw [str_add_len]; show (Str.ofString (toString (rowC rr).1)).length + _ + (Str.ofString (toString (rowC rr).2)).length ≤ _; omega))
      · rw [upd_ne (ne_of_none e hD)]; exact s5 b o e
    · rintro σ H5 ys ⟨v1,v2,rfl,s5,hy,rfl⟩
      rw [hR.len,List.take_length] at hy
      refine ⟨x,D,_,_,rfl,rfl,s5 _ _ hx,hy,by rw [List.length_map,List.length_map,List.length_map]; exact Nat.le_of_lt (small1000 (by omega)),fun p hp=>?_⟩
      exact hN _ _ ⟨p,rfl,s2.trans (s5.trans (Same.new hp)),by rw [upd_same,← List.map_append]⟩
  rintro σ H3 ⟨y,rfl,s3,hy⟩
  have hnl:=numT_len gc.1 gc.2
  refine ⟨rfl,_,rfl,_,rfl,numT u.c,rfl,Nat.le_of_lt (small1000 (by omega)),_,_,rfl,rfl,Str.ofString "0",_,rfl,rfl,by omega,by omega,by decide +kernel,_,rfl,_,_,rfl,rfl,?_,(by show 1 ≤ sizeLine; decide),fun z hz=>?_⟩
  · have:=ckT_len gc.1 gc.2
    rw [ckT_eq gc.1 gc.2,str_add_len] at this
    exact Nat.le_of_lt (small1000 (Nat.le_trans (Nat.le_of_eq this) (by decide)))
  have e1:=ckT_eq gc.1 gc.2
  refine ⟨y,z,_,_,rfl,rfl,Same.new hz _ _ hy,upd_same,by rw [List.length_map,List.length_append,List.length_map]; exact Nat.le_of_lt (small1000 (by show _ + 1 ≤ _; omega)),fun p hp=>?_⟩
  refine ⟨_,p,wordsU u,rfl,rfl,SqL.of ?_,line_fitsW hL,q _ (s3.trans ((Same.new hz).trans (Same.new hp)))⟩
  rw [upd_same]
  unfold wordsU
  rw [List.map_append (l₂:=[ckT u.c]),e1]
  rfl
theorem ok__law_sign {f:Addr} {fd:FuncData} (F:Fun K "_law_sign" "_law_sign" s__law_sign f fd) (T:Txt K mg t_W t_MOST_BLOCKS t_MOST_FIGURES t_MOST_DAY t_FIGURES t_CHECK_FIGURES C_KeepError C_NoWord C_NoLine C_Piece C_Whole C_Gain C_DAYS_TOLD) :FnOk P w K mg base (CXx P w) 1 f fd ["_law_cell_here"] (sp_sign):=by
  refine F.okX sc__law_sign (fun vs H Q E h=>?_) (fun cdv A outer s H vs Q E hr h=>?_)
  · obtain ⟨n,rfl,q⟩:=h; rfl
  obtain ⟨n,rfl,q⟩:=h
  refine ⟨_,(pss_cons (ps_set (i:=1) sc__law_sign.nd rfl (Or.inl rfl) pe_str)
      (pss_cons (ps_set (i:=1) sc__law_sign.nd rfl (Or.inl rfl) (pe_op op_add_str (pv 1) pe_str))
      (pss_cons (ps_if (pt_cmpR op_eq (pe_op op_mod (pv 0) pe_int) pe_int (nomark _)) (pss_one (ps_set (i:=1) sc__law_sign.nd rfl (Or.inl rfl) pe_str)) pss_nil)
      (pss_one (ps_ret (pe_ix ix_str (pv 1) (pe_op op_mod (pe_op op_fdivB (pv 0) pe_int) (pe_callB call_len_str (by rfl) T.b_len PySem.boot_len (pa_cons (pv 1) pa_nil))) (fun _ _=>rfl))))))),?_⟩
  refine ⟨_,rfl,_,_,rfl,rfl,by decide +kernel,?_⟩
  refine gNameA [some (.int n),some (.str (Str.ofString " !\"#$&'()*+,-./0123456789:;<=>?@ABCDEFGHIJKLMNOPQRSTUVWXYZ[\\]^_`" ++ Str.ofString "abcdefghijklmnopqrstuvwxyz{|}~"))] ?_
  try dsimp only
  refine cutA (fun σ H'=>∃ S:Str,σ = [some (.int n),some (.str S)] /\ H = H' /\ 0 < S.length /\ S.length ≤ 200) (fun N hN=>?_) ?_
  · refine ⟨_,rfl,_,_,rfl,rfl,(by first | decide | (dsimp only; decide)),rfl,_,rfl,?_⟩
    refine ite2 (fun h=>?_) (fun h=>?_)
    · exact hN _ _ ⟨_,rfl,rfl,by decide +kernel,by decide +kernel⟩
    · exact hN _ _ ⟨_,rfl,rfl,by decide +kernel,by decide +kernel⟩
  rintro σ _ ⟨S,rfl,rfl,h0,h1⟩
  have a0:=Int.emod_nonneg (n / 2) (show (S.length:Int) ≠ 0 by omega)
  have a1:=Int.emod_lt_of_pos (n / 2) (show (0:Int) < (S.length:Int) by omega)
  have hj:(n / 2 % (S.length:Int)).toNat < S.cps.toList.length:=by rw [str_len]; omega
  refine ⟨_,rfl,_,rfl,_,_,rfl,rfl,⟨by first | decide | (dsimp only; decide),by first | decide | (dsimp only; decide)⟩,_,rfl,S,rfl,big5 (by omega),_,_,rfl,rfl,(by show (0:Int) < (S.length:Int); omega),S,n / 2 % (S.length:Int),S.cps.toList[(n / 2 % (S.length:Int)).toNat],rfl,rfl,big5 (by omega),?_,q _⟩
  have e:n / 2 % (S.length:Int) = (((n / 2 % (S.length:Int)).toNat:Nat):Int):=by omega
  exact (congrArg (atI S.cps.toList) e).trans (atI_nat (List.getElem?_eq_getElem hj))
theorem ok__law_odd_word {f:Addr} {fd:FuncData} (F:Fun K "_law_odd_word" "_law_odd_word" s__law_odd_word f fd) (T:Txt K mg t_W t_MOST_BLOCKS t_MOST_FIGURES t_MOST_DAY t_FIGURES t_CHECK_FIGURES C_KeepError C_NoWord C_NoLine C_Piece C_Whole C_Gain C_DAYS_TOLD) :FnOk P w K mg base (CXx P w) 1 f fd ["_law_cell_here"] (sp_odd):=by
  refine F.okX sc__law_odd_word (fun vs H Q E h=>?_) (fun cdv A outer s H vs Q E hr h=>?_)
  · obtain ⟨n,rfl,q⟩:=h; rfl
  obtain ⟨n,rfl,q⟩:=h
  refine ⟨_,(pss_cons (ps_set (i:=1) sc__law_odd_word.nd rfl (Or.inl rfl) (pe_lst (pa_vals (vs:=[V.str (PySem.Str.ofString "40=1"),V.str (PySem.Str.ofString "39=1"),V.str (PySem.Str.ofString "3=18446744073709551616"),V.str (PySem.Str.ofString "3=18446744073709551615"),V.str (PySem.Str.ofString "3=01"),V.str (PySem.Str.ofString "03=1"),V.str (PySem.Str.ofString "="),V.str (PySem.Str.ofString "3="),V.str (PySem.Str.ofString "=3")]) (by kernel_rfl))))
      (pss_cons (ps_set (i:=1) sc__law_odd_word.nd rfl (Or.inl rfl) (pe_op op_cat (pv 1) (pe_lst (pa_vals (vs:=[V.str (PySem.Str.ofString "1000000000"),V.str (PySem.Str.ofString "1000000001"),V.str (PySem.Str.ofString "100000000000000000000"),V.str (PySem.Str.ofString "00"),V.str (PySem.Str.ofString "01"),V.str (PySem.Str.ofString "18446744073709551616")]) (by kernel_rfl)))))
      (pss_cons (ps_set (i:=1) sc__law_odd_word.nd rfl (Or.inl rfl) (pe_op op_cat (pv 1) (pe_lst (pa_vals (vs:=[V.str (PySem.Str.ofString "18446744073709551615"),V.str (PySem.Str.ofString "00000000000000000000"),V.str (PySem.Str.ofString "000000000000000000000"),V.str (PySem.Str.ofString "0000000000000000000")]) (by kernel_rfl)))))
      (pss_cons (ps_set (i:=1) sc__law_odd_word.nd rfl (Or.inl rfl) (pe_op op_cat (pv 1) (pe_lst (pa_vals (vs:=[V.str (PySem.Str.ofString "99999999999999999999"),V.str (PySem.Str.ofString "3=1=1"),V.str (PySem.Str.ofString "+1"),V.str (PySem.Str.ofString "-1"),V.str (PySem.Str.ofString "3=-1"),V.str (PySem.Str.ofString "0x000000000000000000"),V.str (PySem.Str.ofString ""),V.str (PySem.Str.ofString "whole"),V.str (PySem.Str.ofString "gain")]) (by kernel_rfl)))))
      (pss_one (ps_ret (pe_ix ix_list (pv 1) (pe_op op_mod (pv 0) (pe_callB call_len_seq (by rfl) T.b_len PySem.boot_len (pa_cons (pv 1) pa_nil))) (fun _ _=>rfl)))))))),?_⟩
  refine cutA (fun σ H'=>∃ x:Addr,σ = [some (.int n),some (.ref x)] /\ Same H H' /\ H' x = some (.lst (odd1.map V.str))) (fun N hN=>⟨(by show 9 ≤ sizeLine; decide),fun a h=>hN _ _ ⟨a,rfl,Same.new h,upd_same⟩⟩) ?_
  rintro σ H1 ⟨a1,rfl,s1,g1⟩
  refine cutA (fun σ H'=>∃ x:Addr,σ = [some (.int n),some (.ref x)] /\ Same H H' /\ H' x = some (.lst ((odd1 ++ odd2).map V.str))) (fun N hN=>⟨_,rfl,(by show 6 ≤ sizeLine; decide),fun a h=>⟨a1,a,odd1.map V.str,odd2.map V.str,rfl,rfl,Same.new h _ _ g1,upd_same,big5 (by decide),fun p hp=>hN _ _ ⟨p,rfl,s1.trans ((Same.new h).trans (Same.new hp)),by rw [upd_same,← List.map_append]⟩⟩⟩) ?_
  rintro σ H2 ⟨a2,rfl,s2,g2⟩
  refine cutA (fun σ H'=>∃ x:Addr,σ = [some (.int n),some (.ref x)] /\ Same H H' /\ H' x = some (.lst (((odd1 ++ odd2) ++ odd3).map V.str))) (fun N hN=>⟨_,rfl,(by show 4 ≤ sizeLine; decide),fun a h=>⟨a2,a,(odd1 ++ odd2).map V.str,odd3.map V.str,rfl,rfl,Same.new h _ _ g2,upd_same,big5 (by decide),fun p hp=>hN _ _ ⟨p,rfl,s2.trans ((Same.new h).trans (Same.new hp)),by rw [upd_same,← List.map_append]⟩⟩⟩) ?_
  rintro σ H3 ⟨a3,rfl,s3,g3⟩
  refine cutA (fun σ H'=>∃ x:Addr,σ = [some (.int n),some (.ref x)] /\ Same H H' /\ H' x = some (.lst ((((odd1 ++ odd2) ++ odd3) ++ odd4).map V.str))) (fun N hN=>⟨_,rfl,(by show 9 ≤ sizeLine; decide),fun a h=>⟨a3,a,((odd1 ++ odd2) ++ odd3).map V.str,odd4.map V.str,rfl,rfl,Same.new h _ _ g3,upd_same,big5 (by decide),fun p hp=>hN _ _ ⟨p,rfl,s3.trans ((Same.new h).trans (Same.new hp)),by rw [upd_same,← List.map_append]⟩⟩⟩) ?_
  rintro σ H4 ⟨a4,rfl,s4,g4⟩
  obtain ⟨w,hw,hp⟩:=pickB (ws:=(((odd1 ++ odd2) ++ odd3) ++ odd4)) (p:=fun w=>decide (cnt w = 0) && decide (w.length ≤ 41)) n (by decide) (by decide +kernel)
  simp only [Bool.and_eq_true,decide_eq_true_eq] at hp
  exact ⟨_,rfl,_,rfl,_,rfl,a4,_,rfl,.inl (SqL.of g4),_,_,rfl,rfl,(by show (0:Int) < _; decide),a4,_,_,V.str w,rfl,rfl,SqL.of g4,hw,q w H4 hp.1 hp.2 s4⟩
theorem ok__law_short {f:Addr} {fd:FuncData} (F:Fun K "_law_short" "_law_short" s__law_short f fd) (T:Txt K mg t_W t_MOST_BLOCKS t_MOST_FIGURES t_MOST_DAY t_FIGURES t_CHECK_FIGURES C_KeepError C_NoWord C_NoLine C_Piece C_Whole C_Gain C_DAYS_TOLD) :FnOk P w K mg base (CXx P w) 1 f fd ["_law_cell_here"] (sp_short):=by
  refine F.okX sc__law_short (fun vs H Q E h=>?_) (fun cdv A outer s H vs Q E hr h=>?_)
  · obtain ⟨n,rfl,q⟩:=h; rfl
  obtain ⟨n,rfl,q⟩:=h
  refine ⟨_,(pss_cons (ps_set (i:=1) sc__law_short.nd rfl (Or.inl rfl) (pe_lst (pa_vals (vs:=[V.str (PySem.Str.ofString ""),V.str (PySem.Str.ofString " "),V.str (PySem.Str.ofString "whole"),V.str (PySem.Str.ofString "gain"),V.str (PySem.Str.ofString "whole 1"),V.str (PySem.Str.ofString "gain 1 2"),V.str (PySem.Str.ofString "whole 1 00000000000000000007"),V.str (PySem.Str.ofString "Whole 1 0=1")]) (by kernel_rfl))))
      (pss_cons (ps_set (i:=1) sc__law_short.nd rfl (Or.inl rfl) (pe_op op_cat (pv 1) (pe_lst (pa_cons pe_str (pa_cons pe_str (pa_cons pe_str pa_nil))))))
      (pss_cons (ps_set (i:=1) sc__law_short.nd rfl (Or.inl rfl) (pe_op op_cat (pv 1) (pe_lst (pa_cons pe_str (pa_cons pe_str pa_nil)))))
      (pss_cons (ps_set (i:=1) sc__law_short.nd rfl (Or.inl rfl) (pe_op op_cat (pv 1) (pe_lst (pa_cons pe_str pa_nil))))
      (pss_one (ps_ret (pe_ix ix_list (pv 1) (pe_op op_mod (pv 0) (pe_callB call_len_seq (by rfl) T.b_len PySem.boot_len (pa_cons (pv 1) pa_nil))) (fun _ _=>rfl)))))))),?_⟩
  refine cutA (fun σ H'=>∃ x:Addr,σ = [some (.int n),some (.ref x)] /\ Same H H' /\ H' x = some (.lst (sho1.map V.str))) (fun N hN=>⟨(by show 8 ≤ sizeLine; decide),fun a h=>hN _ _ ⟨a,rfl,Same.new h,upd_same⟩⟩) ?_
  rintro σ H1 ⟨a1,rfl,s1,g1⟩
  refine cutA (fun σ H'=>∃ x:Addr,σ = [some (.int n),some (.ref x)] /\ Same H H' /\ H' x = some (.lst ((sho1 ++ sho2).map V.str))) (fun N hN=>⟨_,rfl,(by show 3 ≤ sizeLine; decide),fun a h=>⟨a1,a,sho1.map V.str,sho2.map V.str,rfl,rfl,Same.new h _ _ g1,upd_same,big5 (by decide),fun p hp=>hN _ _ ⟨p,rfl,s1.trans ((Same.new h).trans (Same.new hp)),by rw [upd_same,← List.map_append]⟩⟩⟩) ?_
  rintro σ H2 ⟨a2,rfl,s2,g2⟩
  refine cutA (fun σ H'=>∃ x:Addr,σ = [some (.int n),some (.ref x)] /\ Same H H' /\ H' x = some (.lst (((sho1 ++ sho2) ++ sho3).map V.str))) (fun N hN=>⟨_,rfl,(by show 2 ≤ sizeLine; decide),fun a h=>⟨a2,a,(sho1 ++ sho2).map V.str,sho3.map V.str,rfl,rfl,Same.new h _ _ g2,upd_same,big5 (by decide),fun p hp=>hN _ _ ⟨p,rfl,s2.trans ((Same.new h).trans (Same.new hp)),by rw [upd_same,← List.map_append]⟩⟩⟩) ?_
  rintro σ H3 ⟨a3,rfl,s3,g3⟩
  refine cutA (fun σ H'=>∃ x:Addr,σ = [some (.int n),some (.ref x)] /\ Same H H' /\ H' x = some (.lst ((((sho1 ++ sho2) ++ sho3) ++ sho4).map V.str))) (fun N hN=>⟨_,rfl,(by show 1 ≤ sizeLine; decide),fun a h=>⟨a3,a,((sho1 ++ sho2) ++ sho3).map V.str,sho4.map V.str,rfl,rfl,Same.new h _ _ g3,upd_same,big5 (by decide),fun p hp=>hN _ _ ⟨p,rfl,s3.trans ((Same.new h).trans (Same.new hp)),by rw [upd_same,← List.map_append]⟩⟩⟩) ?_
  rintro σ H4 ⟨a4,rfl,s4,g4⟩
  obtain ⟨w,hw,hp⟩:=pickB (ws:=(((sho1 ++ sho2) ++ sho3) ++ sho4)) (p:=fun w=>decide (w.length ≤ 60)) n (by decide) (by decide +kernel)
  simp only [decide_eq_true_eq] at hp
  exact ⟨_,rfl,_,rfl,_,rfl,a4,_,rfl,.inl (SqL.of g4),_,_,rfl,rfl,(by show (0:Int) < _; decide),a4,_,_,V.str w,rfl,rfl,SqL.of g4,hw,q w H4 hp s4⟩
theorem ok__law_spoilt_sign {f:Addr} {fd:FuncData} (F:Fun K "_law_spoilt_sign" "_law_spoilt_sign" s__law_spoilt_sign f fd) (T:Txt K mg t_W t_MOST_BLOCKS t_MOST_FIGURES t_MOST_DAY t_FIGURES t_CHECK_FIGURES C_KeepError C_NoWord C_NoLine C_Piece C_Whole C_Gain C_DAYS_TOLD) (D__law_sign:DefX P w K mg base "_law_sign" 1 ["_law_cell_here"] sp_sign):FnOk P w K mg base (CXx P w) 2 f fd ["_law_line_here","_law_way","_law_cell_here","_law_other"] (sp_spsign):=by
  refine F.okX sc__law_spoilt_sign (fun vs H Q E h=>?_) (fun cdv A outer s H vs Q E hr h=>?_)
  · obtain ⟨z,w,a,b,rfl,hz,q⟩:=h; rfl
  obtain ⟨z,w,a,b,rfl,hz,q⟩:=h
  refine ⟨_,(pss_cons (ps_set (i:=4) sc__law_spoilt_sign.nd rfl (Or.inl rfl) (pe_op op_mod (pv 2) (pe_op op_add (pe_callB call_len_str (by rfl) T.b_len PySem.boot_len (pa_cons (pv 0) pa_nil)) pe_int)))
      (pss_cons (ps_if (pt_cmpR op_eq (pv 1) pe_int (nomark _)) (pss_one (ps_ret (pe_op op_add_str (pe_op op_add_str (pe_slice sl_str (pv 0) po_none (po_some (pv 4))) (pe_callS D__law_sign passesN (hr.mono (by decide)) rfl (pa_cons (pv 3) pa_nil))) (pe_slice sl_str (pv 0) (po_some (pv 4)) po_none)))) pss_nil)
      (pss_cons (ps_if (pt_cmpR op_eq (pv 1) pe_int (nomark _)) (pss_one (ps_ret (pe_op op_add_str (pe_slice sl_str (pv 0) po_none (po_some (pv 4))) (pe_slice sl_str (pv 0) (po_some (pe_op op_add (pv 4) pe_int)) po_none)))) pss_nil)
      (pss_one (ps_ret (pe_op op_add_str (pe_op op_add_str (pe_slice sl_str (pv 0) po_none (po_some (pv 4))) (pe_callS D__law_sign passesN (hr.mono (by decide)) rfl (pa_cons (pv 3) pa_nil))) (pe_slice sl_str (pv 0) (po_some (pe_op op_add (pv 4) pe_int)) po_none))))))),?_⟩
  have hzl:z.length ≤ sizeLine:=big5 (by omega)
  refine ⟨_,rfl,_,rfl,z,rfl,hzl,_,_,rfl,rfl,_,_,rfl,rfl,(by show (0:Int) < (z.length:Int) + 1; omega),?_⟩
  try dsimp only
  have a0:=Int.emod_nonneg a (show (z.length:Int) + 1 ≠ 0 by omega)
  have a1:=Int.emod_lt_of_pos a (show (0:Int) < (z.length:Int) + 1 by omega)
  generalize a % ((z.length:Int) + 1) = t at a0 a1 ⊢
  have al:∀ a b:Str,(a ++ b).length = a.length + b.length:=str_add_len
  have l1:=len_cut (z:=z) (a:=t) (b:=t) a0 (by omega) (by omega)
  have l2:=len_cut (z:=z) (a:=t) (b:=t + 1) a0 (by omega) (by omega)
  have c1:=cnt_cut (z:=z) (a:=t) (b:=t) a0 (by omega) (by omega)
  have c2:=cnt_cut (z:=z) (a:=t) (b:=t + 1) a0 (by omega) (by omega)
  refine ⟨_,rfl,rfl,_,rfl,?_⟩
  refine ite2 (fun h=>?_) (fun h=>?_)
  · refine ⟨_,rfl,_,rfl,t,rfl,z,rfl,hzl,_,rfl,b,rfl,fun sg=>?_⟩
    have g3:(⟨#[sg]⟩:Str).length = 1:=rfl
    have g4:=cnt_sign sg
    refine ⟨_,_,rfl,rfl,big5 (by omega),_,rfl,_,rfl,t,rfl,z,rfl,hzl,_,_,rfl,rfl,big5 (by rw [al]; omega),q _ H (by rw [al,al]; omega) (by rw [cnt_app,cnt_app]; omega) (Same.refl H)⟩
  refine ⟨_,rfl,rfl,_,rfl,?_⟩
  refine ite2 (fun h=>?_) (fun h=>?_)
  · exact ⟨_,rfl,_,rfl,t,rfl,z,rfl,hzl,_,rfl,_,rfl,_,_,rfl,rfl,t + 1,rfl,z,rfl,hzl,_,_,rfl,rfl,big5 (by omega),q _ H (by rw [al]; omega) (by rw [cnt_app]; omega) (Same.refl H)⟩
  · refine ⟨_,rfl,_,rfl,t,rfl,z,rfl,hzl,_,rfl,b,rfl,fun sg=>?_⟩
    have g3:(⟨#[sg]⟩:Str).length = 1:=rfl
    have g4:=cnt_sign sg
    refine ⟨_,_,rfl,rfl,big5 (by omega),_,rfl,_,rfl,_,_,rfl,rfl,t + 1,rfl,z,rfl,hzl,_,_,rfl,rfl,big5 (by rw [al]; omega),q _ H (by rw [al,al]; omega) (by rw [cnt_app,cnt_app]; omega) (Same.refl H)⟩
theorem ok__law_spoilt_word {f:Addr} {fd:FuncData} (F:Fun K "_law_spoilt_word" "_law_spoilt_word" s__law_spoilt_word f fd) (T:Txt K mg t_W t_MOST_BLOCKS t_MOST_FIGURES t_MOST_DAY t_FIGURES t_CHECK_FIGURES C_KeepError C_NoWord C_NoLine C_Piece C_Whole C_Gain C_DAYS_TOLD) (D__law_odd_word:DefX P w K mg base "_law_odd_word" 1 ["_law_cell_here"] sp_odd):FnOk P w K mg base (CXx P w) 2 f fd ["_law_line_here","_law_way","_law_cell_here","_law_other"] (sp_spword):=by
  refine F.okX sc__law_spoilt_word (fun vs H Q E h=>?_) (fun cdv A outer s H vs Q E hr h=>?_)
  · obtain ⟨u,w,a,b,rfl,hL,q⟩:=h; rfl
  obtain ⟨u,w,a,b,rfl,hL,q⟩:=h
  refine ⟨_,(pss_cons (ps_set (i:=4) sc__law_spoilt_word.nd rfl (Or.inl rfl) (pe_bm PySem.F.plainAttrs_str PySem.F.slot_str_split PySem.F.type_str_split mt_split (pv 0) (pa_cons pe_str pa_nil)))
      (pss_cons (ps_set (i:=5) sc__law_spoilt_word.nd rfl (Or.inl rfl) (pe_op op_mod (pv 2) (pe_callB call_len_seq (by rfl) T.b_len PySem.boot_len (pa_cons (pv 4) pa_nil))))
      (pss_cons (ps_set (i:=6) sc__law_spoilt_word.nd rfl (Or.inl rfl) (pe_op op_mod (pv 3) (pe_callB call_len_seq (by rfl) T.b_len PySem.boot_len (pa_cons (pv 4) pa_nil))))
      (pss_cons (ps_if (pt_cmpR op_eq (pv 1) pe_int (nomark _)) (pss_cons (ps_set (i:=7) sc__law_spoilt_word.nd rfl (Or.inl rfl) (pe_ix ix_list (pv 4) (pv 5) (fun _ _=>rfl)))
      (pss_cons (ps_asg (pe_ix ix_list (pv 4) (pv 6) (fun _ _=>rfl)) (pg_sub (pv 4) (pv 5) set_list))
      (pss_one (ps_asg (pv 7) (pg_sub (pv 4) (pv 6) set_list))))) pss_nil)
      (pss_cons (ps_if (pt_cmpR op_eq (pv 1) pe_int (nomark _)) (pss_one (ps_set (i:=4) sc__law_spoilt_word.nd rfl (Or.inl rfl) (pe_op op_cat (pe_slice sl_list (pv 4) po_none (po_some (pv 5))) (pe_slice sl_list (pv 4) (po_some (pe_op op_add (pv 5) pe_int)) po_none)))) pss_nil)
      (pss_cons (ps_if (pt_cmpR op_eq (pv 1) pe_int (nomark _)) (pss_one (ps_set (i:=4) sc__law_spoilt_word.nd rfl (Or.inl rfl) (pe_op op_cat (pe_op op_cat (pe_slice sl_list (pv 4) po_none (po_some (pv 5))) (pe_lst (pa_cons (pe_ix ix_list (pv 4) (pv 6) (fun _ _=>rfl)) pa_nil))) (pe_slice sl_list (pv 4) (po_some (pv 5)) po_none)))) pss_nil)
      (pss_cons (ps_if (pt_cmpR op_eq (pv 1) pe_int (nomark _)) (pss_one (ps_set (i:=4) sc__law_spoilt_word.nd rfl (Or.inl rfl) (pe_op op_cat (pe_op op_cat (pe_slice sl_list (pv 4) po_none (po_some (pv 5))) (pe_lst (pa_cons (pe_ix ix_list (pv 4) (pv 5) (fun _ _=>rfl)) pa_nil))) (pe_slice sl_list (pv 4) (po_some (pv 5)) po_none)))) pss_nil)
      (pss_cons (ps_if (pt_cmpR op_eq (pv 1) pe_int (nomark _)) (pss_one (ps_set (i:=4) sc__law_spoilt_word.nd rfl (Or.inl rfl) (pe_op op_cat (pe_op op_cat (pe_slice sl_list (pv 4) po_none (po_some (pv 5))) (pe_lst (pa_cons (pe_callS D__law_odd_word passesN (hr.mono (by decide)) rfl (pa_cons (pv 3) pa_nil)) pa_nil))) (pe_slice sl_list (pv 4) (po_some (pe_op op_add (pv 5) pe_int)) po_none)))) pss_nil)
      (pss_cons (ps_if (pt_cmpR op_eq (pv 1) pe_int (nomark _)) (pss_one (ps_set (i:=4) sc__law_spoilt_word.nd rfl (Or.inl rfl) (pe_op op_cat (pe_op op_cat (pe_slice sl_list (pv 4) po_none (po_some pe_int)) (pe_lst (pa_cons (pe_ix ix_list (pv 4) pe_int (fun _ _=>rfl)) pa_nil))) (pe_slice sl_list (pv 4) (po_some pe_int) po_none)))) pss_nil)
      (pss_cons (ps_if (pt_cmpR op_eq (pv 1) pe_int (nomark _)) (pss_cons (ps_set (i:=8) sc__law_spoilt_word.nd rfl (Or.inl rfl) (pe_ix ix_list (pe_lst (pa_cons (pe_powc (n:=1000000000)) (pa_cons (pe_op op_add (pe_powc (n:=1000000000)) pe_int) (pa_cons (pe_op op_add (pe_powc (n:=1000000000)) (pe_op op_mod (pv 3) (pe_powc (n:=10000000000000000000)))) (pa_cons (pe_op op_sub (pe_powc (n:=100000000000000000000)) pe_int) pa_nil))))) (pe_op op_mod (pv 2) pe_int) (fun _ _=>rfl)))
      (pss_one (ps_asg (pe_callTy call_str_int (by rfl) T.b_str PyProof.Rows.boot_str (pa_cons (pv 8) pa_nil)) (pg_sub (pv 4) (pe_op op_add pe_int (pe_callTy call_int_bl (by rfl) T.b_int PyProof.Rows.boot_int (pa_cons (pe_cmpR op_eq (pe_ix ix_list (pv 4) pe_int (fun _ _=>rfl)) pe_str (nomark _)) pa_nil))) set_list)))) pss_nil)
      (pss_one (ps_ret (pe_bm PySem.F.plainAttrs_str PySem.F.slot_str_join PySem.F.type_str_join mt_join pe_str (pa_cons (pv 4) pa_nil)))))))))))))),?_⟩
  refine ⟨_,rfl,rfl,lineU u,Str.ofString " ",rfl,rfl,by decide +kernel,(by have:=line_lenW hL; omega),fun l hl=>?_⟩
  rw [line_splitW hL]
  have s2:Same H (upd H l (.lst ((wordsU u).map V.str))):=Same.new hl
  have hl1:upd H l (.lst ((wordsU u).map V.str)) l = some (.lst ((wordsU u).map V.str)):=upd_same
  have ok0:=wsOk.of hL
  have n3:=three_words u
  have hn:=words_countW hL
  generalize upd H l (.lst ((wordsU u).map V.str)) = H1 at s2 hl1 ⊢
  generalize wordsU u = ws at hl1 ok0 n3 hn
  refine gNameA [some (.str (lineU u)),some (.int w),some (.int a),some (.int b),some (.ref l),none,none,none,none] ?_
  try dsimp only
  refine ⟨_,rfl,_,rfl,l,_,rfl,.inl (SqL.of hl1),_,_,rfl,rfl,(by show (0:Int) < _; rw [List.length_map]; omega),?_⟩
  refine ⟨_,rfl,_,rfl,l,_,rfl,.inl (SqL.of hl1),_,_,rfl,rfl,(by show (0:Int) < _; rw [List.length_map]; omega),?_⟩
  try dsimp only
  rw [List.length_map]
  obtain ⟨i,ei,hi⟩:∃ i:Nat,a % (ws.length:Int) = (i:Int) /\ i < ws.length:=⟨(a % (ws.length:Int)).toNat,by have:=Int.emod_nonneg a (show (ws.length:Int) ≠ 0 by omega); omega,by have:=Int.emod_lt_of_pos a (show (0:Int) < (ws.length:Int) by omega); omega⟩
  obtain ⟨j_,ej,hj⟩:∃ i:Nat,b % (ws.length:Int) = (i:Int) /\ i < ws.length:=⟨(b % (ws.length:Int)).toNat,by have:=Int.emod_nonneg b (show (ws.length:Int) ≠ 0 by omega); omega,by have:=Int.emod_lt_of_pos b (show (0:Int) < (ws.length:Int) by omega); omega⟩
  rw [ei,ej]
  refine gNameA [some (.str (lineU u)),some (.int w),some (.int a),some (.int b),some (.ref l),some (.int (i:Int)),some (.int (j_:Int)),none,none] ?_
  try dsimp only
  obtain ⟨x,vs,ex,ev,hx,ok,hv⟩:∃ (x:Addr) (vs:List Str),x = l /\ vs = ws /\ H1 x = some (.lst (vs.map V.str)) /\ wsOk vs /\ (4 ≤ w->x = l /\ vs = ws):=⟨l,ws,rfl,rfl,hl1,ok0,fun _=>⟨rfl,rfl⟩⟩
  rw [← ex]
  clear hl1 ev ex
  refine cutA (fun σ H'=>∃ (x:Addr) (vs:List Str) (v7 v8:Option V),σ = [some (.str (lineU u)),some (.int w),some (.int a),some (.int b),some (.ref x),some (.int (i:Int)),some (.int (j_:Int)),v7,v8] /\ Same H H' /\ H' x = some (.lst (vs.map V.str)) /\ wsOk vs /\ (5 ≤ w->x = l /\ vs = ws)) (fun N hN=>?_) ?_
  · refine ⟨_,rfl,rfl,_,rfl,?_⟩
    refine ite2 (fun h=>?_) (fun h=>?_)
    · have hw:w = 4:=V.int.inj (of_decide_eq_true h)
      obtain ⟨rfl,rfl⟩:=hv (by omega)
      refine ⟨_,rfl,_,rfl,x,_,_,V.str vs[i],rfl,rfl,SqL.of hx,atS hi,?_⟩
      refine ⟨_,rfl,_,rfl,x,_,_,V.str vs[j_],rfl,rfl,SqL.of hx,atS hj,_,rfl,_,rfl,x,_,_,i,rfl,rfl,hx,ixS hi,?_⟩
      refine ⟨_,rfl,_,rfl,_,rfl,x,_,_,j_,rfl,rfl,upd_same,(by rw [List.length_set]; exact ixS hj),hN _ _ ⟨x,(vs.set i vs[j_]).set j_ vs[i],_,_,rfl,fun b o e=>?_,?_,okSet (okSet ok (ok.2.2 _ (List.getElem_mem hj))) (ok.2.2 _ (List.getElem_mem hi)),fun h'=>absurd h' (by omega)⟩⟩
      · rw [upd_ne (ne_of_none e hl),upd_ne (ne_of_none e hl)]; exact s2 b o e
      · rw [upd_same,setS,setS]
    · exact hN _ _ ⟨x,vs,_,_,rfl,s2,hx,ok,fun h'=>hv (by have:w ≠ 4:=fun e=>h (decide_eq_true (by rw [e])); omega)⟩
  clear ok hx s2 hv
  rintro σ H2 ⟨x,vs,v7,v8,rfl,s2,hx,ok,hv⟩
  refine cutA (fun σ H'=>∃ (x:Addr) (vs:List Str) (v7 v8:Option V),σ = [some (.str (lineU u)),some (.int w),some (.int a),some (.int b),some (.ref x),some (.int (i:Int)),some (.int (j_:Int)),v7,v8] /\ Same H H' /\ H' x = some (.lst (vs.map V.str)) /\ wsOk vs /\ (6 ≤ w->x = l /\ vs = ws)) (fun N hN=>?_) ?_
  · refine ⟨_,rfl,rfl,_,rfl,?_⟩
    refine ite2 (fun h=>?_) (fun h=>?_)
    · have hw:w = 5:=V.int.inj (of_decide_eq_true h)
      obtain ⟨rfl,rfl⟩:=hv (by omega)
      refine ⟨_,rfl,_,rfl,_,rfl,x,_,rfl,SqL.of hx,fun p1 hp1=>?_⟩
      rw [show cutV (vs.map V.str) none (some (i:Int)) = (vs.take i).map V.str from cutT (k:=i) (by omega)]
      refine ⟨_,rfl,_,rfl,_,_,rfl,rfl,_,rfl,x,_,rfl,SqL.of (Same.new hp1 x _ hx),fun p2 hp2=>?_⟩
      rw [show cutV (vs.map V.str) (some ((i:Int) + 1)) none = (vs.drop (i + 1)).map V.str from cutF (k:=i + 1)]
      refine ⟨p1,p2,_,_,rfl,rfl,Same.new hp2 _ _ upd_same,upd_same,big5 (by simp only [List.length_map,List.length_append,List.length_take,List.length_drop,List.length_cons,List.length_nil]; omega),fun p hp=>hN _ _ ⟨p,vs.take i ++ [] ++ vs.drop (i + 1),_,_,rfl,s2.trans ((Same.new hp1).trans ((Same.new hp2).trans (Same.new hp))),by rw [upd_same]; simp,ok3 ok (by simp) (by simp) (by omega) hn (by simp; omega),fun h'=>absurd h' (by omega)⟩⟩
    · exact hN _ _ ⟨x,vs,_,_,rfl,s2,hx,ok,fun h'=>hv (by have:w ≠ 5:=fun e=>h (decide_eq_true (by rw [e])); omega)⟩
  clear ok hx s2 hv
  rintro σ H2 ⟨x,vs,v7,v8,rfl,s2,hx,ok,hv⟩
  refine cutA (fun σ H'=>∃ (x:Addr) (vs:List Str) (v7 v8:Option V),σ = [some (.str (lineU u)),some (.int w),some (.int a),some (.int b),some (.ref x),some (.int (i:Int)),some (.int (j_:Int)),v7,v8] /\ Same H H' /\ H' x = some (.lst (vs.map V.str)) /\ wsOk vs /\ (7 ≤ w->x = l /\ vs = ws)) (fun N hN=>?_) ?_
  · refine ⟨_,rfl,rfl,_,rfl,?_⟩
    refine ite2 (fun h=>?_) (fun h=>?_)
    · have hw:w = 6:=V.int.inj (of_decide_eq_true h)
      obtain ⟨rfl,rfl⟩:=hv (by omega)
      refine ⟨_,rfl,_,rfl,_,rfl,x,_,rfl,SqL.of hx,fun p1 hp1=>?_⟩
      rw [show cutV (vs.map V.str) none (some (i:Int)) = (vs.take i).map V.str from cutT (k:=i) (by omega)]
      refine ⟨_,rfl,_,rfl,x,_,_,V.str vs[j_],rfl,rfl,SqL.of (Same.new hp1 x _ hx),atS hj,(by show 1 ≤ sizeLine; decide),fun p2 hp2=>?_⟩
      refine ⟨p1,p2,_,_,rfl,rfl,Same.new hp2 _ _ upd_same,upd_same,big5 (by simp only [List.length_map,List.length_append,List.length_take,List.length_drop,List.length_cons,List.length_nil]; omega),fun p3 hp3=>?_⟩
      refine ⟨_,rfl,_,rfl,_,rfl,x,_,rfl,SqL.of (Same.new hp3 x _ (Same.new hp2 x _ (Same.new hp1 x _ hx))),fun p4 hp4=>?_⟩
      rw [show cutV (vs.map V.str) (some ((i:Int))) none = (vs.drop (i)).map V.str from cutF (k:=i)]
      refine ⟨p3,p4,_,_,rfl,rfl,Same.new hp4 _ _ upd_same,upd_same,big5 (by simp only [List.length_map,List.length_append,List.length_take,List.length_drop,List.length_cons,List.length_nil]; omega),fun p hp=>hN _ _ ⟨p,vs.take i ++ [vs[j_]] ++ vs.drop (i),_,_,rfl,s2.trans ((Same.new hp1).trans ((Same.new hp2).trans ((Same.new hp3).trans ((Same.new hp4).trans (Same.new hp))))),by rw [upd_same,List.map_append,List.map_append]; rfl,ok3 ok (by intro y hy; rw [List.mem_singleton.mp hy]; exact ok.2.2 _ (List.getElem_mem hj)) (by simp) (by omega) hn (by rw [List.length_singleton]; omega),fun h'=>absurd h' (by omega)⟩⟩
    · exact hN _ _ ⟨x,vs,_,_,rfl,s2,hx,ok,fun h'=>hv (by have:w ≠ 6:=fun e=>h (decide_eq_true (by rw [e])); omega)⟩
  clear ok hx s2 hv
  rintro σ H2 ⟨x,vs,v7,v8,rfl,s2,hx,ok,hv⟩
  refine cutA (fun σ H'=>∃ (x:Addr) (vs:List Str) (v7 v8:Option V),σ = [some (.str (lineU u)),some (.int w),some (.int a),some (.int b),some (.ref x),some (.int (i:Int)),some (.int (j_:Int)),v7,v8] /\ Same H H' /\ H' x = some (.lst (vs.map V.str)) /\ wsOk vs /\ (8 ≤ w->x = l /\ vs = ws)) (fun N hN=>?_) ?_
  · refine ⟨_,rfl,rfl,_,rfl,?_⟩
    refine ite2 (fun h=>?_) (fun h=>?_)
    · have hw:w = 7:=V.int.inj (of_decide_eq_true h)
      obtain ⟨rfl,rfl⟩:=hv (by omega)
      refine ⟨_,rfl,_,rfl,_,rfl,x,_,rfl,SqL.of hx,fun p1 hp1=>?_⟩
      rw [show cutV (vs.map V.str) none (some (i:Int)) = (vs.take i).map V.str from cutT (k:=i) (by omega)]
      refine ⟨_,rfl,_,rfl,x,_,_,V.str vs[i],rfl,rfl,SqL.of (Same.new hp1 x _ hx),atS hi,(by show 1 ≤ sizeLine; decide),fun p2 hp2=>?_⟩
      refine ⟨p1,p2,_,_,rfl,rfl,Same.new hp2 _ _ upd_same,upd_same,big5 (by simp only [List.length_map,List.length_append,List.length_take,List.length_drop,List.length_cons,List.length_nil]; omega),fun p3 hp3=>?_⟩
      refine ⟨_,rfl,_,rfl,_,rfl,x,_,rfl,SqL.of (Same.new hp3 x _ (Same.new hp2 x _ (Same.new hp1 x _ hx))),fun p4 hp4=>?_⟩
      rw [show cutV (vs.map V.str) (some ((i:Int))) none = (vs.drop (i)).map V.str from cutF (k:=i)]
      refine ⟨p3,p4,_,_,rfl,rfl,Same.new hp4 _ _ upd_same,upd_same,big5 (by simp only [List.length_map,List.length_append,List.length_take,List.length_drop,List.length_cons,List.length_nil]; omega),fun p hp=>hN _ _ ⟨p,vs.take i ++ [vs[i]] ++ vs.drop (i),_,_,rfl,s2.trans ((Same.new hp1).trans ((Same.new hp2).trans ((Same.new hp3).trans ((Same.new hp4).trans (Same.new hp))))),by rw [upd_same,List.map_append,List.map_append]; rfl,ok3 ok (by intro y hy; rw [List.mem_singleton.mp hy]; exact ok.2.2 _ (List.getElem_mem hi)) (by simp) (by omega) hn (by rw [List.length_singleton]; omega),fun h'=>absurd h' (by omega)⟩⟩
    · exact hN _ _ ⟨x,vs,_,_,rfl,s2,hx,ok,fun h'=>hv (by have:w ≠ 7:=fun e=>h (decide_eq_true (by rw [e])); omega)⟩
  clear ok hx s2 hv
  rintro σ H2 ⟨x,vs,v7,v8,rfl,s2,hx,ok,hv⟩
  refine cutA (fun σ H'=>∃ (x:Addr) (vs:List Str) (v7 v8:Option V),σ = [some (.str (lineU u)),some (.int w),some (.int a),some (.int b),some (.ref x),some (.int (i:Int)),some (.int (j_:Int)),v7,v8] /\ Same H H' /\ H' x = some (.lst (vs.map V.str)) /\ wsOk vs /\ (9 ≤ w->x = l /\ vs = ws)) (fun N hN=>?_) ?_
  · refine ⟨_,rfl,rfl,_,rfl,?_⟩
    refine ite2 (fun h=>?_) (fun h=>?_)
    · have hw:w = 8:=V.int.inj (of_decide_eq_true h)
      obtain ⟨rfl,rfl⟩:=hv (by omega)
      refine ⟨_,rfl,_,rfl,_,rfl,x,_,rfl,SqL.of hx,fun p1 hp1=>?_⟩
      rw [show cutV (vs.map V.str) none (some (i:Int)) = (vs.take i).map V.str from cutT (k:=i) (by omega)]
      refine ⟨_,rfl,b,rfl,fun z H3 hc hz s3=>?_⟩
      refine ⟨(by show 1 ≤ sizeLine; decide),fun p2 hp2=>?_⟩
      refine ⟨p1,p2,_,_,rfl,rfl,Same.new hp2 _ _ (s3 _ _ upd_same),upd_same,big5 (by simp only [List.length_map,List.length_append,List.length_take,List.length_drop,List.length_cons,List.length_nil]; omega),fun p3 hp3=>?_⟩
      refine ⟨_,rfl,_,rfl,_,_,rfl,rfl,_,rfl,x,_,rfl,SqL.of (Same.new hp3 x _ (Same.new hp2 x _ (s3 x _ (Same.new hp1 x _ hx)))),fun p4 hp4=>?_⟩
      rw [show cutV (vs.map V.str) (some ((i:Int) + 1)) none = (vs.drop (i + 1)).map V.str from cutF (k:=i + 1)]
      refine ⟨p3,p4,_,_,rfl,rfl,Same.new hp4 _ _ upd_same,upd_same,big5 (by simp only [List.length_map,List.length_append,List.length_take,List.length_drop,List.length_cons,List.length_nil]; omega),fun p hp=>hN _ _ ⟨p,vs.take i ++ [z] ++ vs.drop (i + 1),_,_,rfl,s2.trans (((Same.new hp1).trans s3).trans ((Same.new hp2).trans ((Same.new hp3).trans ((Same.new hp4).trans (Same.new hp))))),by rw [upd_same,List.map_append,List.map_append]; rfl,ok3 ok (by intro y hy; rw [List.mem_singleton.mp hy]; exact ⟨hc,hz⟩) (by simp) (by omega) hn (by rw [List.length_singleton]; omega),fun h'=>absurd h' (by omega)⟩⟩
    · exact hN _ _ ⟨x,vs,_,_,rfl,s2,hx,ok,fun h'=>hv (by have:w ≠ 8:=fun e=>h (decide_eq_true (by rw [e])); omega)⟩
  clear ok hx s2 hv
  rintro σ H2 ⟨x,vs,v7,v8,rfl,s2,hx,ok,hv⟩
  refine cutA (fun σ H'=>∃ (x:Addr) (vs:List Str) (v7 v8:Option V),σ = [some (.str (lineU u)),some (.int w),some (.int a),some (.int b),some (.ref x),some (.int (i:Int)),some (.int (j_:Int)),v7,v8] /\ Same H H' /\ H' x = some (.lst (vs.map V.str)) /\ wsOk vs /\ (10 ≤ w->x = l /\ vs = ws)) (fun N hN=>?_) ?_
  · refine ⟨_,rfl,rfl,_,rfl,?_⟩
    refine ite2 (fun h=>?_) (fun h=>?_)
    · have hw:w = 9:=V.int.inj (of_decide_eq_true h)
      obtain ⟨rfl,rfl⟩:=hv (by omega)
      refine ⟨_,rfl,_,rfl,x,_,rfl,SqL.of hx,fun p1 hp1=>?_⟩
      rw [show cutV (vs.map V.str) none (some (2:Int)) = (vs.take 2).map V.str from cutT (k:=2) (by omega)]
      refine ⟨_,rfl,x,_,_,V.str vs[1],rfl,rfl,SqL.of (Same.new hp1 x _ hx),atS (i:=1) (by omega),(by show 1 ≤ sizeLine; decide),fun p2 hp2=>?_⟩
      refine ⟨p1,p2,_,_,rfl,rfl,Same.new hp2 _ _ upd_same,upd_same,big5 (by simp only [List.length_map,List.length_append,List.length_take,List.length_drop,List.length_cons,List.length_nil]; omega),fun p3 hp3=>?_⟩
      refine ⟨_,rfl,_,rfl,x,_,rfl,SqL.of (Same.new hp3 x _ (Same.new hp2 x _ (Same.new hp1 x _ hx))),fun p4 hp4=>?_⟩
      rw [show cutV (vs.map V.str) (some (3)) none = (vs.drop (3)).map V.str from cutF (k:=3)]
      refine ⟨p3,p4,_,_,rfl,rfl,Same.new hp4 _ _ upd_same,upd_same,big5 (by simp only [List.length_map,List.length_append,List.length_take,List.length_drop,List.length_cons,List.length_nil]; omega),fun p hp=>hN _ _ ⟨p,vs.take 2 ++ [vs[1]] ++ vs.drop (3),_,_,rfl,s2.trans ((Same.new hp1).trans ((Same.new hp2).trans ((Same.new hp3).trans ((Same.new hp4).trans (Same.new hp))))),by rw [upd_same,List.map_append,List.map_append]; rfl,ok3 ok (by intro y hy; rw [List.mem_singleton.mp hy]; exact ok.2.2 _ (List.getElem_mem (by omega))) (by simp) (by omega) hn (by rw [List.length_singleton]; omega),fun h'=>absurd h' (by omega)⟩⟩
    · exact hN _ _ ⟨x,vs,_,_,rfl,s2,hx,ok,fun h'=>hv (by have:w ≠ 9:=fun e=>h (decide_eq_true (by rw [e])); omega)⟩
  clear ok hx s2 hv
  rintro σ H2 ⟨x,vs,v7,v8,rfl,s2,hx,ok,hv⟩
  refine cutA (fun σ H'=>∃ (x:Addr) (vs:List Str) (v7 v8:Option V),σ = [some (.str (lineU u)),some (.int w),some (.int a),some (.int b),some (.ref x),some (.int (i:Int)),some (.int (j_:Int)),v7,v8] /\ Same H H' /\ H' x = some (.lst (vs.map V.str)) /\ wsOk vs /\ (11 ≤ w->x = l /\ vs = ws)) (fun N hN=>?_) ?_
  · refine ⟨_,rfl,rfl,_,rfl,?_⟩
    refine ite2 (fun h=>?_) (fun h=>?_)
    · have hw:w = 10:=V.int.inj (of_decide_eq_true h)
      obtain ⟨rfl,rfl⟩:=hv (by omega)
      obtain ⟨m,em,hm⟩:∃ m:Int,atI [V.int 1000000000,V.int (1000000000 + 1),V.int (1000000000 + b % 10000000000000000000),V.int (100000000000000000000 - 1)] (a % 4) = some (V.int m) /\ 0 ≤ m /\ m < 10 ^ 20:=by
        rcases (show a % 4 = 0 ∨ a % 4 = 1 ∨ a % 4 = 2 ∨ a % 4 = 3 by omega) with h | h | h | h <;> rw [h]
        · exact ⟨_,rfl,by omega,by omega⟩
        · exact ⟨_,rfl,by omega,by omega⟩
        · exact ⟨_,rfl,by omega,by omega⟩
        · exact ⟨_,rfl,by omega,by omega⟩
      refine ⟨_,_,rfl,rfl,_,rfl,_,_,rfl,rfl,(by first | decide | (dsimp only; decide)),_,_,rfl,rfl,_,_,rfl,rfl,(by show 4 ≤ sizeLine; decide),fun p1 hp1=>?_⟩
      refine ⟨_,rfl,_,_,rfl,rfl,(by first | decide | (dsimp only; decide)),p1,_,_,V.int m,rfl,rfl,SqL.of upd_same,em,?_⟩
      have s3:=Same.new hp1 (o:=HO.lst [V.int 1000000000,V.int (1000000000 + 1),V.int (1000000000 + b % 10000000000000000000),V.int (100000000000000000000 - 1)])
      have hm2:cnt (numT m) = 0 /\ (numT m).length ≤ 41:=⟨cnt_free (numT_free hm.1 (by decide)),by have:=numT_len hm.1 hm.2; omega⟩
      refine ⟨_,rfl,m,rfl,log20 hm.1 hm.2,_,rfl,_,rfl,x,_,_,V.str vs[0],rfl,rfl,SqL.of (s3 x _ hx),atS (i:=0) (by omega),rfl,_,rfl,_,_,rfl,rfl,?_⟩
      have fin:∀ t:Nat,t < vs.length->∀ z:Int,z = (t:Int)->∃ p xs k j,V.ref x = V.ref p /\ V.int z = V.int k /\ upd H2 p1 (HO.lst [V.int 1000000000,V.int (1000000000 + 1),V.int (1000000000 + b % 10000000000000000000),V.int (100000000000000000000 - 1)]) p = some (.lst xs) /\ ixN xs.length k = some j /\ N [some (.str (lineU u)),some (.int w),some (.int a),some (.int b),some (.ref x),some (.int (i:Int)),some (.int (j_:Int)),v7,some (.int m)] (upd (upd H2 p1 (HO.lst [V.int 1000000000,V.int (1000000000 + 1),V.int (1000000000 + b % 10000000000000000000),V.int (100000000000000000000 - 1)])) p (.lst (xs.set j (V.str (numT m))))):=fun t ht z hz=>⟨x,_,z,t,rfl,rfl,s3 x _ hx,(by rw [hz]; exact ixS ht),hN _ _ ⟨x,vs.set t (numT m),_,_,rfl,fun b o e=>by rw [upd_ne (ne_of_none e hl)]; exact s3 b o (s2 b o e),by rw [upd_same,setS],okSet ok hm2,fun h'=>absurd h' (by omega)⟩⟩
      generalize decide (V.str vs[0] = V.str (Str.ofString "gain")) = bb
      cases bb
      · exact fin 1 (by omega) _ rfl
      · exact fin 2 (by omega) _ rfl
    · exact hN _ _ ⟨x,vs,_,_,rfl,s2,hx,ok,fun h'=>hv (by have:w ≠ 10:=fun e=>h (decide_eq_true (by rw [e])); omega)⟩
  clear ok hx s2 hv
  rintro σ H2 ⟨x,vs,v7,v8,rfl,s2,hx,ok,hv⟩
  exact ⟨rfl,_,rfl,_,x,vs,rfl,rfl,SqL.of hx,ok.fits,q _ H2 ok.line.1 ok.line.2 s2⟩
theorem ok__law_number {f:Addr} {fd:FuncData} (F:Fun K "_law_number" "_law_number" s__law_number f fd) (T:Txt K mg t_W t_MOST_BLOCKS t_MOST_FIGURES t_MOST_DAY t_FIGURES t_CHECK_FIGURES C_KeepError C_NoWord C_NoLine C_Piece C_Whole C_Gain C_DAYS_TOLD) :FnOk P w K mg base (CXx P w) 1 f fd ["_law_word"] (sp_lnum):=by
  refine F.okX sc__law_number (fun vs H Q E h=>?_) (fun cdv A outer s H vs Q E hr h=>?_)
  · obtain ⟨z,rfl,hz,q⟩:=h; rfl
  obtain ⟨z,rfl,hz,q⟩:=h
  refine ⟨_,(pss_cons (ps_if (pt_not (pt_chain op_le op_le pe_int (pe_callB call_len_str (by rfl) T.b_len PySem.boot_len (pa_cons (pv 0) pa_nil)) pe_int)) (pss_one (ps_ret (pe_un un_neg pe_int))) pss_nil)
      (pss_cons (ps_for PassesOwn.leaving rfl (pi_str (pv 0)) (pg_name (i:=1) sc__law_number.nd rfl (Or.inl rfl))
      (pss_one (ps_if (pt_cmpR op_notin_str (pv 1) pe_str (by with_unfolding_all rfl)) (pss_one (ps_ret (pe_un un_neg pe_int))) pss_nil)))
      (pss_one (ps_ret (pe_callTy call_int_str (by rfl) T.b_int PyProof.Rows.boot_int (pa_cons (pv 0) pa_nil)))))),?_⟩
  have hzl:z.length ≤ sizeLine:=big5 (by omega)
  unfold numL digB at q
  refine ⟨_,rfl,z,rfl,hzl,_,_,rfl,rfl,_,rfl,?_⟩
  by_cases h1:1 ≤ z.length
  rotate_left
  · refine iteN (by omega) ⟨_,rfl,?_⟩
    refine iteT ?_
    rw [decide_eq_false h1,Bool.false_and,Bool.false_and,if_neg (by decide)] at q
    exact ⟨_,rfl,q⟩
  refine iteY (by omega) ⟨_,_,rfl,rfl,_,rfl,?_⟩
  by_cases h2:z.length ≤ 20
  rotate_left
  · rw [decide_eq_false (by omega)]
    refine iteT ?_
    rw [decide_eq_false h2,Bool.and_false,Bool.false_and,if_neg (by decide)] at q
    exact ⟨_,rfl,q⟩
  rw [decide_eq_true (by omega)]
  refine iteF ?_
  rw [decide_eq_true h1,decide_eq_true h2,Bool.true_and,Bool.true_and] at q
  refine ⟨_,rfl,z,rfl,for_str (x:=z) (fun i σ H2=>∃ v:Option V,σ = [some (.str z),v] /\ H2 = H /\ ∀ j c,j < i->z.cps.toList[j]? = some c->figB c = true) ⟨none,rfl,rfl,fun j c hj=>absurd hj (Nat.not_lt_zero _)⟩ ?_ ?_⟩
  · rintro i c σ H2 hi ⟨v,rfl,rfl,hp⟩
    have hi2:z.cps.toList[i]? = some c:=by simpa using hi
    refine ⟨_,rfl,_,_,rfl,rfl,_,rfl,?_⟩
    show if (!figB c) = true then _ else _
    cases hf:figB c
    · refine iteT ?_
      rw [isNum_one hi2 hf,if_neg (by decide)] at q
      exact ⟨_,rfl,q⟩
    · refine iteF ?_
      refine ⟨_,rfl,rfl,fun j d hj hd=>?_⟩
      by_cases hji:j = i
      · rw [hji,hi2] at hd; cases hd; exact hf
      · exact hp j d (by omega) hd
  · rintro σ H2 ⟨v,rfl,rfl,hp⟩
    have hn:isNum z = true:=by
      unfold isNum
      rw [List.all_eq_true]
      intro c hc
      obtain ⟨j,hj⟩:=List.mem_iff_getElem?.mp hc
      exact hp j c (by have:=(List.getElem?_eq_some_iff.mp hj).1; simpa using this) hj
    rw [hn,if_pos rfl] at q
    exact ⟨_,rfl,z,intOf z,rfl,intOf_ok hn h1 (by omega),by omega,q⟩
theorem ok__law_row {f:Addr} {fd:FuncData} (F:Fun K "_law_row" "_law_row" s__law_row f fd) (T:Txt K mg t_W t_MOST_BLOCKS t_MOST_FIGURES t_MOST_DAY t_FIGURES t_CHECK_FIGURES C_KeepError C_NoWord C_NoLine C_Piece C_Whole C_Gain C_DAYS_TOLD) (D__law_number:DefX P w K mg base "_law_number" 1 ["_law_word"] sp_lnum):FnOk P w K mg base (CXx P w) 2 f fd ["_law_word"] (sp_lrow):=by
  refine F.okX sc__law_row (fun vs H Q E h=>?_) (fun cdv A outer s H vs Q E hr h=>?_)
  · obtain ⟨z,rfl,hz,q⟩:=h; rfl
  obtain ⟨z,rfl,hz,q⟩:=h
  refine ⟨_,(pss_cons (ps_asg (pe_bm PySem.F.plainAttrs_str PySem.F.slot_str_partition PySem.F.type_str_partition mt_partition (pv 0) (pa_cons pe_str pa_nil)) (pg_tup rfl (pgs_cons (pg_name (i:=1) sc__law_row.nd rfl (Or.inl rfl)) (pgs_cons (pg_name (i:=2) sc__law_row.nd rfl (Or.inl rfl)) (pgs_cons (pg_name (i:=3) sc__law_row.nd rfl (Or.inl rfl)) pgs_nil)))))
      (pss_one (ps_ret (pe_tup (pa_cons (pe_callS D__law_number passesN (hr.mono (by decide)) rfl (pa_cons (pv 1) pa_nil)) (pa_cons (pe_callS D__law_number passesN (hr.mono (by decide)) rfl (pa_cons (pv 3) pa_nil)) pa_nil)))))),?_⟩
  refine ⟨_,rfl,rfl,z,Str.ofString "=",rfl,rfl,by decide +kernel,by omega,fun p hp=>?_⟩
  have hf:=part_le z (Str.ofString "=")
  unfold rowL at q
  generalize Txt.partition z (Str.ofString "=") = P at hf q ⊢
  refine ⟨p,_,rfl,SqT.of upd_same,rfl,_,_,rfl,_,_,rfl,_,_,rfl,rfl,?_⟩
  exact ⟨_,rfl,P.1,rfl,by omega,_,rfl,P.2.2,rfl,by omega,(by show 2 ≤ sizeLine; decide),fun t ht=>q t _ upd_same ((Same.new hp).trans (Same.new ht))⟩
theorem ok__law_read {f:Addr} {fd:FuncData} (F:Fun K "_law_read" "_law_read" s__law_read f fd) (T:Txt K mg t_W t_MOST_BLOCKS t_MOST_FIGURES t_MOST_DAY t_FIGURES t_CHECK_FIGURES C_KeepError C_NoWord C_NoLine C_Piece C_Whole C_Gain C_DAYS_TOLD) (D__law_number:DefX P w K mg base "_law_number" 1 ["_law_word"] sp_lnum) (D__law_row:DefX P w K mg base "_law_row" 2 ["_law_word"] sp_lrow) (D__law_line:DefX P w K mg base "_law_line" 1 ["_law_whole_here","_law_base_here","_law_day","_law_rows_here","_law_check"] sp_llineW):FnOk P w K mg base (CXx P w) 3 f fd ["_law_line_here"] (sp_read):=by
  refine F.okX sc__law_read (fun vs H Q E h=>?_) (fun cdv A outer s H vs Q E hr h=>?_)
  · obtain ⟨z,rfl,hz,hcnt,q1,q2⟩:=h; rfl
  obtain ⟨z,rfl,hz,hcnt,q1,q2⟩:=h
  refine ⟨_,(pss_cons (ps_set (i:=1) sc__law_read.nd rfl (Or.inl rfl) (pe_bm PySem.F.plainAttrs_str PySem.F.slot_str_split PySem.F.type_str_split mt_split (pv 0) (pa_cons pe_str pa_nil)))
      (pss_cons (ps_set (i:=2) sc__law_read.nd rfl (Or.inl rfl) (pe_op op_add pe_int (pe_callTy call_int_bl (by rfl) T.b_int PyProof.Rows.boot_int (pa_cons (pe_cmpR op_eq (pe_ix ix_list (pv 1) pe_int (fun _ _=>rfl)) pe_str (nomark _)) pa_nil))))
      (pss_cons (ps_if (PW.pt (pw_or (pt_cmpR op_notIn_seq (pe_ix ix_list (pv 1) pe_int (fun _ _=>rfl)) (pe_lst (pa_cons pe_str (pa_cons pe_str pa_nil))) (by with_unfolding_all rfl)) (pw_or1 (pt_cmpR op_lt (pe_callB call_len_seq (by rfl) T.b_len PySem.boot_len (pa_cons (pv 1) pa_nil)) (pe_op op_add (pv 2) pe_int) (nomark _))))) (pss_one (ps_ret pe_non)) pss_nil)
      (pss_cons (ps_setComp (i:=3) sc__law_read.nd rfl (Or.inl rfl) (N:=["_law_word"]) (k:=1) (cap:=[]) rfl rfl (pi_list (pe_slice sl_list (pv 1) (po_some pe_int) (po_some (pe_op op_add (pv 2) pe_int)))) (fun _ _ _ _=>(pg_name (i:=0) (show (["_law_word"]:List Str).Nodup from by decide +kernel) rfl (Or.inl rfl) (.inr rfl))) (fun _ _ _ _=>pts_nil) (fun _ _ _ _=>(pe_callS D__law_number passesN (hr.mono (by decide)) rfl (pa_cons (pv 0) pa_nil))))
      (pss_cons (ps_setComp (i:=4) sc__law_read.nd rfl (Or.inl rfl) (N:=["_law_word"]) (k:=1) (cap:=[]) rfl rfl (pi_list (pe_slice sl_list (pv 1) (po_some (pe_op op_add (pv 2) pe_int)) (po_some (pe_un un_neg pe_int)))) (fun _ _ _ _=>(pg_name (i:=0) (show (["_law_word"]:List Str).Nodup from by decide +kernel) rfl (Or.inl rfl) (.inr rfl))) (fun _ _ _ _=>pts_nil) (fun _ _ _ _=>(pe_callS D__law_row passesN (hr.mono (by decide)) rfl (pa_cons (pv 0) pa_nil))))
      (pss_cons (ps_set (i:=5) sc__law_read.nd rfl (Or.inl rfl) (pe_callS D__law_number passesN (hr.mono (by decide)) rfl (pa_cons (pe_ix ix_list (pv 1) (pe_un un_neg pe_int) (fun _ _=>rfl)) pa_nil)))
      (pss_cons (ps_setComp (i:=6) sc__law_read.nd rfl (Or.inl rfl) (N:=["_law_row_here"]) (k:=1) (cap:=[]) rfl rfl (pi_list (pv 4)) (fun _ _ _ _=>(pg_name (i:=0) (show (["_law_row_here"]:List Str).Nodup from by decide +kernel) rfl (Or.inl rfl) (.inr rfl))) (fun _ _ _ _=>pts_nil) (fun _ _ _ _=>(pe_ix (ix_tupK (K:=K) rfl) (pv 0) pe_int (fun _ _=>rfl))))
      (pss_cons (ps_if (PW.pt (pw_or (pt_cmpR op_lt (pe_callB (call_minL rfl) (by rfl) T.b_min PyProof.Rows.boot_min (pa_cons (pv 3) pa_nil)) pe_int (nomark _)) (pw_or (pt_cmpR op_gt (pe_callB (call_maxL rfl) (by rfl) T.b_max PyProof.Rows.boot_max (pa_cons (pv 3) pa_nil)) (pe_powc (n:=1000000000)) (nomark _)) (pw_or1 (pt_not (pt_chain op_le op_lt pe_int (pv 5) (pe_powc (n:=18446744073709551616)))))))) (pss_one (ps_ret pe_non)) pss_nil)
      (pss_cons (ps_if (PW.pt (pw_and (pt_cmpR op_eq (pv 2) pe_int (nomark _)) (pw_and1 (PW.pt (pw_or (pt_cmpR (op_eq_ref hr.units) (pv 4) (pe_lst pa_nil) (nomark _)) (pw_or1 (pt_cmpR (op_ne_ref hr.units) (pv 6) (pe_listrng rfl rfl T.b_list rfl T.b_range (pe_callB call_len_seq (by rfl) T.b_len PySem.boot_len (pa_cons (pv 4) pa_nil))) (nomark _)))))))) (pss_one (ps_ret pe_non)) pss_nil)
      (pss_cons (ps_if (PW.pt (pw_and (pt_cmpR op_eq (pv 2) pe_int (nomark _)) (pw_and1 (pt_cmpR op_ge (pe_ix ix_list (pv 3) pe_int (fun _ _=>rfl)) (pe_ix ix_list (pv 3) pe_int (fun _ _=>rfl)) (nomark _))))) (pss_one (ps_ret pe_non)) pss_nil)
      (pss_cons (ps_for PassesOwn.leaving rfl (pi_range1 rfl T.b_range (pa_cons (pe_callB call_len_seq (by rfl) T.b_len PySem.boot_len (pa_cons (pv 4) pa_nil)) pa_nil)) (pg_name (i:=7) sc__law_read.nd rfl (Or.inl rfl))
      (pss_one (ps_if (PW.pt (pw_or (pt_not (pt_chain op_le op_le pe_int (pe_ix ix_list (pv 6) (pv 7) (fun _ _=>rfl)) pe_int)) (pw_or (pt_not (pt_chain op_le op_lt pe_int (pe_ix ix_tup (pe_ix ix_list (pv 4) (pv 7) (fun _ _=>rfl)) pe_int (fun _ _=>rfl)) (pe_powc (n:=18446744073709551616)))) (pw_or1 (PW.pt (pw_and (pt_cmpR op_gt (pv 7) pe_int (nomark _)) (pw_and1 (pt_cmpR op_ge (pe_ix ix_list (pv 6) (pe_op op_sub (pv 7) pe_int) (fun _ _=>rfl)) (pe_ix ix_list (pv 6) (pv 7) (fun _ _=>rfl)) (nomark _))))))))) (pss_one (ps_ret pe_non)) pss_nil)))
      (pss_cons (ps_if (pt_cmpR op_ne (pe_callS D__law_line passesN (hr.mono (by decide)) rfl (pa_cons (pe_cmpR op_eq (pv 2) pe_int (nomark _)) (pa_cons (pe_ix ix_list (pv 3) pe_int (fun _ _=>rfl)) (pa_cons (pe_ix ix_list (pv 3) (pe_un un_neg pe_int) (fun _ _=>rfl)) (pa_cons (pv 4) (pa_cons (pv 5) pa_nil)))))) (pv 0) (nomark _)) (pss_one (ps_ret pe_non)) pss_nil)
      (pss_one (ps_ret (pe_tup (pa_cons (pe_cmpR op_eq (pv 2) pe_int (nomark _)) (pa_cons (pe_ix ix_list (pv 3) pe_int (fun _ _=>rfl)) (pa_cons (pe_ix ix_list (pv 3) (pe_un un_neg pe_int) (fun _ _=>rfl)) (pa_cons (pv 4) (pa_cons (pv 5) pa_nil)))))))))))))))))))),?_⟩
  refine ⟨_,rfl,rfl,z,Str.ofString " ",rfl,rfl,by decide +kernel,by omega,fun l hl=>?_⟩
  have hP1:=fun w hw=>split_leY (z:=z) (p:=w) (y:=Str.ofString " ") hw
  generalize hws:Txt.split z (Str.ofString " ") = ws at hP1 hcnt
  have s1:Same H (upd H l (.lst (ws.map V.str))):=Same.new hl
  have hl1:upd H l (.lst (ws.map V.str)) l = some (.lst (ws.map V.str)):=upd_same
  generalize upd H l (.lst (ws.map V.str)) = H1 at s1 hl1 ⊢
  refine gNameA [some (.str z),some (.ref l),none,none,none,none,none,none] ?_
  try dsimp only
  obtain ⟨w0,us,rfl⟩:∃ w vs,ws = w :: vs:=by
    cases ws with
    | nil=>exact absurd hws split_ne
    | cons w vs=>exact ⟨w,vs,rfl⟩
  have fst:atI ((w0 :: us).map V.str) 0 = some (V.str w0):=atI_nat (j:=0) rfl
  have noU:(∀ n,kindW n w0->us.length < n + 1)->¬ ∃ u,LinOk u /\ z = lineU u:=fun h ⟨u,hL,e⟩=>good_no hws h ⟨u,good_iffL.mpr ⟨hL,e⟩⟩
  refine ⟨_,rfl,l,_,_,V.str w0,rfl,rfl,SqL.of hl1,fst,rfl,_,rfl,_,_,rfl,rfl,?_⟩
  refine gNameA [some (.str z),some (.ref l),some (.int (1 + if decide (V.str w0 = V.str (Str.ofString "gain")) = true then 1 else 0)),none,none,none,none,none] ?_
  try dsimp only
  by_cases hk:∃ n,kindW n w0
  rotate_left
  · have hk':∀ n,¬ kindW n w0:=fun n h=>hk ⟨n,h⟩
    refine if_B true (fun H'=>Same H1 H') (fun Qb hq=>⟨_,rfl,l,_,_,V.str w0,rfl,rfl,SqL.of hl1,fst,(by show 2 ≤ sizeLine; decide),fun p hp=>⟨p,_,rfl,.inl (SqL.of upd_same),rfl,rfl,_,rfl,?_⟩⟩) (fun _ H2 s2=>q2 (noU fun n h=>absurd h (hk' n)) H2 (s1.trans s2)) (fun h=>by cases h)
    rw [in_no hk']
    exact iteT (hq _ (Same.new hp))
  obtain ⟨n,hk⟩:=hk
  rw [many_is hk]
  by_cases hle:n + 1 ≤ us.length
  rotate_left
  · refine if_B true (fun H'=>Same H1 H') (fun Qb hq=>⟨_,rfl,l,_,_,V.str w0,rfl,rfl,SqL.of hl1,fst,(by show 2 ≤ sizeLine; decide),fun p hp=>⟨p,_,rfl,.inl (SqL.of upd_same),rfl,rfl,_,rfl,?_⟩⟩) (fun _ H2 s2=>q2 (noU fun m h=>by have:=kind_uniq hk h; omega) H2 (s1.trans s2)) (fun h=>by cases h)
    rw [in_yes hk]
    refine iteF ⟨_,rfl,l,_,rfl,.inl (SqL.of (Same.new hp _ _ hl1)),_,rfl,_,_,rfl,rfl,_,_,rfl,rfl,_,rfl,?_⟩
    rw [decide_eq_true (by rw [List.length_map,List.length_cons]; omega)]
    exact hq _ (Same.new hp)
  refine if_B false (fun H'=>Same H1 H') (fun Qb hq=>⟨_,rfl,l,_,_,V.str w0,rfl,rfl,SqL.of hl1,fst,(by show 2 ≤ sizeLine; decide),fun p hp=>⟨p,_,rfl,.inl (SqL.of upd_same),rfl,rfl,_,rfl,?_⟩⟩) (fun h=>by cases h) (fun _ H2 s2=>?_)
  · rw [in_yes hk]
    refine iteF ⟨_,rfl,l,_,rfl,.inl (SqL.of (Same.new hp _ _ hl1)),_,rfl,_,_,rfl,rfl,_,_,rfl,rfl,_,rfl,?_⟩
    rw [decide_eq_false (by rw [List.length_map,List.length_cons]; omega)]
    exact hq _ (Same.new hp)
  try unfold tNext
  try dsimp only
  obtain ⟨dws,rws,cw,rfl,rfl⟩:=cut_words hle
  have rf:=fun u hL e=>read_fact (u:=u) hws hk hL e
  have hlen:∀ x ∈ dws ++ (rws ++ [cw]),x.length ≤ 4900:=fun x hx=>by have:=hP1 x (List.mem_cons_of_mem _ hx); omega
  have hrl:rws.length ≤ 80:=by simp at hcnt; omega
  have hl2:=s2 _ _ hl1
  have s12:=s1.trans s2
  clear s1 s2 hl1 hP1 hle noU
  generalize hσ0:(none:Option V) = nn
  refine cutA (fun σ H'=>∃ dl:Addr,σ = [some (.str z),some (.ref l),some (.int (dws.length:Int)),some (.ref dl),nn,nn,nn,nn] /\ Same H2 H' /\ H' dl = some (.lst ((dws.map numL).map V.int))) (fun N hN=>?_) ?_
  · refine ⟨_,rfl,_,rfl,_,rfl,_,_,rfl,rfl,_,rfl,l,_,rfl,SqL.of hl2,fun c hc=>?_⟩
    rw [cutD]
    have s3:Same H2 (upd H2 c (.lst (dws.map V.str))):=Same.new hc
    have hc1:upd H2 c (.lst (dws.map V.str)) c = some (.lst (dws.map V.str)):=upd_same
    generalize upd H2 c (.lst (dws.map V.str)) = H3 at s3 hc1
    refine ⟨c,rfl,⟨_,SqL.of hc1⟩,fun D hD=>?_⟩
    refine comp_list D (K:=K) (a:=c) (xs:=dws.map V.str) (fun i σ H5 ys=>∃ v:Option V,σ = [v] /\ Same H3 H5 /\ H5 D = some (.lst ys) /\ ys = ((dws.take i).map numL).map V.int) ⟨none,rfl,Same.new hD,upd_same,rfl⟩ (fun i σ H5 ys _ z0=>by obtain ⟨_,_,s5,_⟩:=z0; exact SqL.of (s5 _ _ hc1)) ?_ ?_
    · rintro i x σ H5 ys hi ⟨v,rfl,s5,hy,rfl⟩
      obtain ⟨w,hw,rfl⟩:=str_at hi
      have hil:=(List.getElem?_eq_some_iff.mp hw).1
      have hd2:dws.length ≤ 2:=by rcases hk with h | h <;> omega
      refine ⟨_,rfl,w,rfl,hlen w (List.mem_append_left _ (List.mem_of_getElem? hw)),hy,(by rw [List.length_map,List.length_map,List.length_take]; exact small5000 (by omega)),_,rfl,fun b o e=>?_,upd_same,by rw [List.take_add_one,hw]; simp⟩
      rw [upd_ne (ne_of_none e hD)]; exact s5 b o e
    · rintro σ H5 ys ⟨v,rfl,s5,hy,rfl⟩
      rw [List.length_map,List.take_length] at hy
      exact hN _ _ ⟨D,rfl,s3.trans s5,hy⟩
  rintro σ H3 ⟨dl,rfl,s3,hdl⟩
  refine cutA (fun σ H'=>∃ (rl:Addr) (L:List V),σ = [some (.str z),some (.ref l),some (.int (dws.length:Int)),some (.ref dl),some (.ref rl),nn,nn,nn] /\ Same H3 H' /\ H' rl = some (.lst L) /\ ChAt H' L (rws.map rowL)) (fun N hN=>?_) ?_
  · refine ⟨_,rfl,_,rfl,_,_,rfl,rfl,_,rfl,_,rfl,_,rfl,l,_,rfl,SqL.of (s3 _ _ hl2),fun c hc=>?_⟩
    rw [cutR]
    have s4:Same H3 (upd H3 c (.lst (rws.map V.str))):=Same.new hc
    have hc1:upd H3 c (.lst (rws.map V.str)) c = some (.lst (rws.map V.str)):=upd_same
    generalize upd H3 c (.lst (rws.map V.str)) = H4 at s4 hc1
    refine ⟨c,rfl,⟨_,SqL.of hc1⟩,fun D hD=>?_⟩
    refine comp_list D (K:=K) (a:=c) (xs:=rws.map V.str) (fun i σ H5 ys=>∃ v:Option V,σ = [v] /\ Same H4 H5 /\ H5 D = some (.lst ys) /\ ChAt H5 ys ((rws.take i).map rowL)) ⟨none,rfl,Same.new hD,upd_same,ChAt.nil⟩ (fun i σ H5 ys _ z0=>by obtain ⟨_,_,s5,_⟩:=z0; exact SqL.of (s5 _ _ hc1)) ?_ ?_
    · rintro i x σ H5 ys hi ⟨v,rfl,s5,hy,hC⟩
      obtain ⟨w,hw,rfl⟩:=str_at hi
      refine ⟨_,rfl,w,rfl,hlen w (List.mem_append_right _ (List.mem_append_left _ (List.mem_of_getElem? hw))),fun t H6 ht s6=>?_⟩
      have hy6:=s6 _ _ hy
      refine ⟨hy6,(by rw [hC.len,List.length_map,List.length_take]; exact small5000 (by omega)),_,rfl,fun b o e=>?_,upd_same,?_⟩
      · rw [upd_ne (ne_of_none e hD)]; exact s6 b o (s5 b o e)
      · rw [List.take_add_one,hw,List.map_append]
        refine (hC.mono fun b xs e=>?_).snoc ?_
        · rw [upd_ne (ne_of e hy (by intro z; cases z))]; exact s6 b _ e
        · rw [upd_ne (ne_of ht hy6 (by intro z; cases z))]; exact ht
    · rintro σ H5 ys ⟨v,rfl,s5,hy,hC⟩
      rw [List.length_map,List.take_length] at hC
      exact hN _ _ ⟨D,ys,rfl,s4.trans s5,hy,hC⟩
  rintro σ H4 ⟨rl,L,rfl,s4,hrl4,hC⟩
  refine ⟨_,rfl,_,rfl,l,_,_,V.str cw,rfl,rfl,SqL.of (s4 _ _ (s3 _ _ hl2)),lastW,cw,rfl,hlen cw (by simp),?_⟩
  refine gNameA [some (.str z),some (.ref l),some (.int (dws.length:Int)),some (.ref dl),some (.ref rl),some (.int (numL cw)),nn,nn] ?_
  try dsimp only
  have hdl4:=s4 _ _ hdl
  have s14:=(s12.trans s3).trans s4
  clear s12 s3 s4 hl2 hdl
  have hRl:(rws.map rowL).length ≤ 80:=by rw [List.length_map]; exact hrl
  have hrf:∀ u,LinOk u->z = lineU u->RdOk dws (rws.map rowL) (numL cw) /\ u = uL dws rws cw:=fun u hL e=>by
    obtain ⟨rfl,a,b,c⟩:=rf u hL e
    exact ⟨rd_of hk hL a b c,rfl⟩
  have hrd:RdOk dws (rws.map rowL) (numL cw)->LinOk (uL dws rws cw) /\ ((uL dws rws cw).rows.map rowC = rws.map rowL) /\ (∀ d ∈ dws,0 ≤ numL d):=fun h=>rd_lin hk h
  have hur:(uL dws rws cw).c = numL cw:=rfl
  clear rf hlen hcnt hws
  generalize rws.map rowL = rs at hC hRl hrf hrd
  generalize numL cw = c at hrf hrd hur
  refine cutA (fun σ H'=>∃ (pl:Addr),σ = [some (.str z),some (.ref l),some (.int (dws.length:Int)),some (.ref dl),some (.ref rl),some (.int c),some (.ref pl),nn] /\ Same H4 H' /\ H' pl = some (.lst ((rs.map Prod.fst).map V.int))) (fun N hN=>?_) ?_
  · refine ⟨_,rfl,rl,rfl,⟨_,SqL.of hrl4⟩,fun D hD=>?_⟩
    refine comp_list D (K:=K) (a:=rl) (xs:=L) (fun i σ H5 ys=>∃ v:Option V,σ = [v] /\ Same H4 H5 /\ H5 D = some (.lst ys) /\ ys = ((rs.take i).map Prod.fst).map V.int) ⟨none,rfl,Same.new hD,upd_same,rfl⟩ (fun i σ H5 ys _ z0=>by obtain ⟨_,_,s5,_⟩:=z0; exact SqL.of (s5 _ _ hrl4)) ?_ ?_
    · rintro i x σ H5 ys hi ⟨v,rfl,s5,hy,rfl⟩
      obtain ⟨t,r,rfl,hr,ht⟩:=hC.get i x hi
      refine ⟨_,rfl,t,_,_,V.int r.1,rfl,rfl,SqT.of (s5 _ _ ht),atI_nat (j:=0) rfl,hy,(by rw [List.length_map,List.length_map,List.length_take]; exact small5000 (by omega)),_,rfl,fun b o e=>?_,upd_same,by rw [List.take_add_one,hr]; simp⟩
      rw [upd_ne (ne_of_none e hD)]; exact s5 b o e
    · rintro σ H5 ys ⟨v,rfl,s5,hy,rfl⟩
      rw [hC.len,List.take_length] at hy
      exact hN _ _ ⟨D,rfl,s5,hy⟩
  rintro σ H5 ⟨pl,rfl,s5,hpl⟩
  have hdl5:=s5 _ _ hdl4
  have hrl5:=s5 _ _ hrl4
  have hC5:=hC.mono fun t xs e=>s5 t _ e
  have s15:=s14.trans s5
  clear s14 s5 hC hrl4 hdl4
  have hne:dws.map numL ≠ []:=by rcases two_days hk with ⟨a,rfl⟩ | ⟨a,a2,rfl⟩ <;> simp
  by_cases hA:(∀ x ∈ dws.map numL,0 ≤ x /\ x ≤ 1000000000) /\ 0 ≤ c /\ c < 18446744073709551616
  rotate_left
  · refine if_yes (fun Qb hq=>⟨_,rfl,dl,_,rfl,SqL.of hdl5,hne,fun m hm hmin=>⟨_,_,rfl,rfl,_,rfl,?_⟩⟩) (q2 (fun ⟨u,hL,e⟩=>hA (hrf u hL e).1.c1) H5 s15)
    by_cases hm0:m < 0
    · exact iteY hm0 hq
    refine iteN hm0 ⟨_,rfl,dl,_,rfl,SqL.of hdl5,hne,fun M hM hmax=>⟨_,_,rfl,rfl,_,rfl,?_⟩⟩
    by_cases hM9:1000000000 < M
    · exact iteY hM9 hq
    refine iteN hM9 ⟨_,rfl,_,_,rfl,rfl,_,rfl,?_⟩
    by_cases hc0:0 ≤ c
    · refine iteY hc0 ⟨_,_,rfl,rfl,_,rfl,?_⟩
      have hc1:¬ c < 18446744073709551616:=fun h=>hA ⟨fun x hx=>⟨by have:=hmin x hx; omega,by have:=hmax x hx; omega⟩,hc0,h⟩
      rw [decide_eq_false hc1]
      exact hq
    · refine iteN hc0 ⟨_,rfl,?_⟩
      exact hq
  refine if_no (fun Qb hq=>⟨_,rfl,dl,_,rfl,SqL.of hdl5,hne,fun m hm hmin=>⟨_,_,rfl,rfl,_,rfl,iteN (by have:=hA.1 m hm; omega) ⟨_,rfl,dl,_,rfl,SqL.of hdl5,hne,fun M hM hmax=>⟨_,_,rfl,rfl,_,rfl,iteN (by have:=hA.1 M hM; omega) ⟨_,rfl,_,_,rfl,rfl,_,rfl,iteY hA.2.1 ⟨_,_,rfl,rfl,_,rfl,?_⟩⟩⟩⟩⟩⟩) ?_
  · rw [decide_eq_true hA.2.2]
    exact hq
  try unfold tNext
  try dsimp only
  have hlr:L.length = rs.length:=hC5.len
  by_cases hB:dws.length = 1->rs ≠ [] /\ rs.map Prod.fst = (List.range rs.length).map fun k:Nat=>(k:Int)
  rotate_left
  · have hB1:dws.length = 1:=Classical.byContradiction fun h=>hB fun h'=>absurd h' h
    have hB2:¬ (rs ≠ [] /\ rs.map Prod.fst = (List.range rs.length).map fun k:Nat=>(k:Int)):=fun h=>hB fun _=>h
    refine if_B true (fun H'=>Same H5 H') (fun Qb hq=>⟨_,rfl,rfl,_,rfl,?_⟩) (fun _ H6 s6=>q2 (fun ⟨u,hL,e⟩=>hB (hrf u hL e).1.c2) H6 (s15.trans s6)) (fun h=>by cases h)
    refine iteY (by rw [hB1]; rfl) ⟨_,rfl,Nat.zero_le _,fun p hp=>⟨0,decide (L = []),by decide,eq_nilL (SqL.of (Same.new hp _ _ hrl5)) (SqL.of upd_same),_,rfl,?_⟩⟩
    by_cases hL0:L = []
    · exact iteY hL0 (hq _ (Same.new hp))
    refine iteN hL0 ⟨_,rfl,_,rfl,rl,_,rfl,.inl (SqL.of (Same.new hp _ _ hrl5)),rs.length,by rw [hlr],by omega,fun rg hrg=>?_⟩
    have hps:¬ rs.map Prod.fst = (List.range rs.length).map fun k:Nat=>(k:Int):=fun h=>hB2 ⟨fun e=>hL0 (List.length_eq_zero_iff.mp (by rw [hlr,e]; rfl)),h⟩
    refine ⟨0,decide (rs.map Prod.fst = (List.range rs.length).map fun k:Nat=>(k:Int)),by decide,SeqEq.ints (SqL.of (Same.new hrg _ _ (Same.new hp _ _ hpl))) (SqL.of upd_same),_,rfl,?_⟩
    rw [decide_eq_false hps]
    exact hq _ ((Same.new hp).trans (Same.new hrg))
  refine if_B false (fun H'=>Same H5 H') (fun Qb hq=>⟨_,rfl,rfl,_,rfl,?_⟩) (fun h=>by cases h) (fun _ H6 s6=>?_)
  · by_cases h1:dws.length = 1
    · obtain ⟨g1,g2⟩:=hB h1
      refine iteY (by rw [h1]; rfl) ⟨_,rfl,Nat.zero_le _,fun p hp=>⟨0,decide (L = []),by decide,eq_nilL (SqL.of (Same.new hp _ _ hrl5)) (SqL.of upd_same),_,rfl,?_⟩⟩
      refine iteN (fun e=>g1 (List.length_eq_zero_iff.mp (by rw [← hlr,e]; rfl))) ⟨_,rfl,_,rfl,rl,_,rfl,.inl (SqL.of (Same.new hp _ _ hrl5)),rs.length,by rw [hlr],by omega,fun rg hrg=>?_⟩
      refine ⟨0,decide (rs.map Prod.fst = (List.range rs.length).map fun k:Nat=>(k:Int)),by decide,SeqEq.ints (SqL.of (Same.new hrg _ _ (Same.new hp _ _ hpl))) (SqL.of upd_same),_,rfl,?_⟩
      rw [decide_eq_true g2]
      exact hq _ ((Same.new hp).trans (Same.new hrg))
    · exact iteN (fun e=>h1 (by have:=V.int.inj e; omega)) (hq _ (Same.refl _))
  try unfold tNext
  try dsimp only
  have hdl6:=s6 _ _ hdl5
  have hrl6:=s6 _ _ hrl5
  have hpl6:=s6 _ _ hpl
  have hC6:=hC5.mono fun t xs e=>s6 t _ e
  have s16:=s15.trans s6
  clear s15 s6 hC5 hrl5 hdl5 hpl
  by_cases hCC:∀ d d2,dws = [d,d2]->numL d < numL d2
  rotate_left
  · obtain ⟨d,d2,rfl,hnl⟩:∃ d d2,dws = [d,d2] /\ ¬ numL d < numL d2:=by
      refine Classical.byContradiction fun h=>hCC fun d d2 e=>Classical.byContradiction fun h2=>h ⟨d,d2,e,h2⟩
    refine if_yes (fun Qb hq=>⟨_,rfl,rfl,_,rfl,?_⟩) (q2 (fun ⟨u,hL,e⟩=>hCC (hrf u hL e).1.c3) H6 s16)
    refine iteY rfl ⟨_,rfl,dl,_,_,V.int (numL d),rfl,rfl,SqL.of hdl6,atI_nat (j:=0) rfl,_,rfl,dl,_,_,V.int (numL d2),rfl,rfl,SqL.of hdl6,atI_nat (j:=1) rfl,_,_,rfl,rfl,_,rfl,?_⟩
    rw [decide_eq_true (by omega)]
    exact hq
  refine if_no (fun Qb hq=>⟨_,rfl,rfl,_,rfl,?_⟩) ?_
  · rcases two_days hk with ⟨d,rfl⟩ | ⟨d,d2,rfl⟩
    · exact iteN (fun e=>absurd (V.int.inj e) (show ¬ (((1:Nat):Int) = 2) by decide)) hq
    · have:=hCC d d2 rfl
      refine iteY rfl ⟨_,rfl,dl,_,_,V.int (numL d),rfl,rfl,SqL.of hdl6,atI_nat (j:=0) rfl,_,rfl,dl,_,_,V.int (numL d2),rfl,rfl,SqL.of hdl6,atI_nat (j:=1) rfl,_,_,rfl,rfl,_,rfl,?_⟩
      rw [decide_eq_false (by omega)]
      exact hq
  try unfold tNext
  try dsimp only
  refine cutA (fun σ H'=>(∃ v:Option V,σ = [some (.str z),some (.ref l),some (.int (dws.length:Int)),some (.ref dl),some (.ref rl),some (.int c),some (.ref pl),v]) /\ H6 = H' /\ ∀ (i:Nat) r,rs[i]? = some r->(0 ≤ r.1 /\ r.1 ≤ 39) /\ (0 ≤ r.2 /\ r.2 < 18446744073709551616) /\ (0 < i->∀ r',rs[i - 1]? = some r'->r'.1 < r.1)) (fun N hN=>?_) ?_
  · refine ⟨_,rfl,rl,_,rfl,.inl (SqL.of hrl6),_,rfl,by omega,by omega,for_range (lo:=0) (n:=(L.length:Int).toNat) (fun k σ H'=>(∃ v:Option V,σ = [some (.str z),some (.ref l),some (.int (dws.length:Int)),some (.ref dl),some (.ref rl),some (.int c),some (.ref pl),v]) /\ H6 = H' /\ ∀ (i:Nat) r,i < k->rs[i]? = some r->(0 ≤ r.1 /\ r.1 ≤ 39) /\ (0 ≤ r.2 /\ r.2 < 18446744073709551616) /\ (0 < i->∀ r',rs[i - 1]? = some r'->r'.1 < r.1)) ⟨⟨_,rfl⟩,rfl,fun i r h=>absurd h (Nat.not_lt_zero _)⟩ ?_ ?_⟩
    · rintro k σ H' hkl ⟨⟨v,rfl⟩,rfl,hin⟩
      obtain ⟨r,hr⟩:∃ r,rs[k]? = some r:=⟨_,List.getElem?_eq_getElem (by omega)⟩
      have hkL:k < L.length:=by omega
      obtain ⟨t,r2,et,hr2,ht⟩:=hC6.get k _ (List.getElem?_eq_getElem hkL)
      rw [hr] at hr2; cases hr2
      have a6:atI ((rs.map Prod.fst).map V.int) (0 + (k:Int)) = some (V.int r.1):=by rw [Int.zero_add]; exact atI_nat (by rw [List.getElem?_map,List.getElem?_map,hr]; rfl)
      have a4:atI L (0 + (k:Int)) = some (V.ref t):=by rw [Int.zero_add]; exact atI_nat (by rw [List.getElem?_eq_getElem hkL,et])
      by_cases hD:(0 ≤ r.1 /\ r.1 ≤ 39) /\ (0 ≤ r.2 /\ r.2 < 18446744073709551616) /\ (0 < k->∀ r',rs[k - 1]? = some r'->r'.1 < r.1)
      rotate_left
      · refine if_yes (fun Qb hq=>⟨_,rfl,_,rfl,pl,_,_,V.int r.1,rfl,rfl,SqL.of hpl6,a6,_,_,rfl,rfl,_,rfl,?_⟩) (q2 (fun ⟨u,hL,e⟩=>hD ((hrf u hL e).1.c4 k r hr)) H6 s16)
        by_cases p0:0 ≤ r.1
        rotate_left
        · exact iteN p0 ⟨_,rfl,iteT hq⟩
        refine iteY p0 ⟨_,_,rfl,rfl,_,rfl,?_⟩
        by_cases p1:r.1 ≤ 39
        rotate_left
        · rw [decide_eq_false p1]; exact iteT hq
        rw [decide_eq_true p1]
        refine iteF ⟨_,rfl,_,rfl,rl,_,_,V.ref t,rfl,rfl,SqL.of hrl6,a4,t,_,_,V.int r.2,rfl,rfl,SqT.of ht,atI_nat (j:=1) rfl,_,_,rfl,rfl,_,rfl,?_⟩
        by_cases p2:0 ≤ r.2
        rotate_left
        · exact iteN p2 ⟨_,rfl,iteT hq⟩
        refine iteY p2 ⟨_,_,rfl,rfl,_,rfl,?_⟩
        by_cases p3:r.2 < 18446744073709551616
        rotate_left
        · rw [decide_eq_false p3]; exact iteT hq
        rw [decide_eq_true p3]
        refine iteF ⟨_,rfl,_,_,rfl,rfl,_,rfl,?_⟩
        have hk0:0 < k:=Classical.byContradiction fun h=>hD ⟨⟨p0,p1⟩,⟨p2,p3⟩,fun h'=>absurd h' h⟩
        obtain ⟨r',hr',hge⟩:∃ r',rs[k - 1]? = some r' /\ ¬ r'.1 < r.1:=Classical.byContradiction fun h=>hD ⟨⟨p0,p1⟩,⟨p2,p3⟩,fun _ r' e=>Classical.byContradiction fun h'=>h ⟨r',e,h'⟩⟩
        have a7:atI ((rs.map Prod.fst).map V.int) (0 + (k:Int) - 1) = some (V.int r'.1):=by rw [show 0 + (k:Int) - 1 = ((k - 1:Nat):Int) by omega]; exact atI_nat (by rw [List.getElem?_map,List.getElem?_map,hr']; rfl)
        refine iteY (by omega) ⟨_,rfl,_,rfl,_,_,rfl,rfl,pl,_,_,V.int r'.1,rfl,rfl,SqL.of hpl6,a7,_,rfl,_,rfl,pl,_,_,V.int r.1,rfl,rfl,SqL.of hpl6,a6,_,_,rfl,rfl,_,rfl,?_⟩
        rw [decide_eq_true (by omega)]
        exact hq
      · refine if_no (fun Qb hq=>⟨_,rfl,_,rfl,pl,_,_,V.int r.1,rfl,rfl,SqL.of hpl6,a6,_,_,rfl,rfl,_,rfl,iteY hD.1.1 ⟨_,_,rfl,rfl,_,rfl,?_⟩⟩) ?_
        · rw [decide_eq_true hD.1.2]
          refine iteF ⟨_,rfl,_,rfl,rl,_,_,V.ref t,rfl,rfl,SqL.of hrl6,a4,t,_,_,V.int r.2,rfl,rfl,SqT.of ht,atI_nat (j:=1) rfl,_,_,rfl,rfl,_,rfl,iteY hD.2.1.1 ⟨_,_,rfl,rfl,_,rfl,?_⟩⟩
          rw [decide_eq_true hD.2.1.2]
          refine iteF ⟨_,rfl,_,_,rfl,rfl,_,rfl,?_⟩
          by_cases hk0:0 < k
          · obtain ⟨r',hr'⟩:∃ r',rs[k - 1]? = some r':=⟨_,List.getElem?_eq_getElem (by omega)⟩
            have hlt:=hD.2.2 hk0 r' hr'
            have a7:atI ((rs.map Prod.fst).map V.int) (0 + (k:Int) - 1) = some (V.int r'.1):=by rw [show 0 + (k:Int) - 1 = ((k - 1:Nat):Int) by omega]; exact atI_nat (by rw [List.getElem?_map,List.getElem?_map,hr']; rfl)
            refine iteY (by omega) ⟨_,rfl,_,rfl,_,_,rfl,rfl,pl,_,_,V.int r'.1,rfl,rfl,SqL.of hpl6,a7,_,rfl,_,rfl,pl,_,_,V.int r.1,rfl,rfl,SqL.of hpl6,a6,_,_,rfl,rfl,_,rfl,?_⟩
            rw [decide_eq_false (by omega)]
            exact hq
          · exact iteN (by omega) hq
        · refine ⟨⟨_,rfl⟩,rfl,fun i r0 hi hr0=>?_⟩
          by_cases e:i = k
          · subst e
            rw [hr] at hr0; cases hr0
            exact hD
          · exact hin i r0 (by omega) hr0
    · rintro σ H' ⟨⟨v,rfl⟩,rfl,hin⟩
      exact hN _ _ ⟨⟨v,rfl⟩,rfl,fun i r hr=>hin i r (by have:=(List.getElem?_eq_some_iff.mp hr).1; omega) hr⟩
  rintro σ _ ⟨⟨v,rfl⟩,rfl,hD⟩
  obtain ⟨hLin,hrc,hnn⟩:=hrd ⟨hA,hB,hCC,hD⟩
  generalize hu:uL dws rws cw = u at hLin hrc hur hrf
  have hR6:RowsAt H6 L u.rows:=rows_of_ch (by rw [hrc]; exact hC6)
  have hwh:decide (V.int (dws.length:Int) = V.int 1) = u.wh:=by
    rw [← hu]
    show _ = decide (dws.length = 1)
    refine decide_eq_decide.mpr ⟨fun h=>by have:=V.int.inj h; omega,fun h=>by rw [h]; rfl⟩
  obtain ⟨b,dN,hb0,hb1,hbv,hdv,hb9⟩:∃ (b dN:Int),atI ((dws.map numL).map V.int) 0 = some (V.int b) /\ atI ((dws.map numL).map V.int) (-1) = some (V.int dN) /\ (0 ≤ b /\ (u.wh = false->u.b = b.toNat)) /\ dN = (u.d:Int) /\ b ≤ 1000000000:=by
    rw [← hu]
    rcases two_days hk with ⟨d,rfl⟩ | ⟨d,d2,rfl⟩
    · exact ⟨numL d,numL d,rfl,rfl,⟨hnn d (by simp),fun h=>by cases h⟩,(Int.toNat_of_nonneg (hnn d (by simp))).symm,(hA.1 (numL d) (by simp)).2⟩
    · exact ⟨numL d,numL d2,rfl,rfl,⟨hnn d (by simp),fun _=>rfl⟩,(Int.toNat_of_nonneg (hnn d2 (by simp))).symm,(hA.1 (numL d) (by simp)).2⟩
  obtain ⟨bn,rfl⟩:=Int.eq_ofNat_of_zero_le hbv.1
  subst hdv
  subst hur
  refine if_B (!decide (V.str (lineU u) = V.str z)) (fun H'=>Same H6 H') (fun Qb hq=>?_) (fun hne7 H7 s7=>?_) (fun hne7 H7 s7=>?_)
  · refine ⟨_,rfl,rfl,_,rfl,dl,_,_,V.int (bn:Int),rfl,rfl,SqL.of hdl6,hb0,_,rfl,_,rfl,dl,_,_,V.int (u.d:Int),rfl,rfl,SqL.of hdl6,hb1,_,rfl,_,rfl,u,bn,rl,L,by rw [hwh],hbv.2,by omega,hrl6,hR6,hLin.wide,fun H7 s7=>?_⟩
    exact ⟨_,rfl,rfl,_,rfl,hq H7 s7⟩
  · refine q2 (fun ⟨u2,hL,e⟩=>?_) H7 (s16.trans s7)
    obtain ⟨_,rfl⟩:=hrf u2 hL e
    rw [e,decide_eq_true rfl] at hne7
    cases hne7
  · have e:lineU u = z:=by
      by_cases h:V.str (lineU u) = V.str z
      · exact V.str.inj h
      · rw [decide_eq_false h] at hne7; cases hne7
    try unfold tNext
    try dsimp only
    refine ⟨_,rfl,rfl,_,rfl,dl,_,_,V.int (bn:Int),rfl,rfl,SqL.of (s7 _ _ hdl6),hb0,_,rfl,_,rfl,dl,_,_,V.int (u.d:Int),rfl,rfl,SqL.of (s7 _ _ hdl6),hb1,_,rfl,_,rfl,(by show 5 ≤ sizeLine; decide),fun t ht=>?_⟩
    rw [hwh]
    exact q1 u hLin e.symm t rl L bn _ upd_same (fun h=>(hbv.2 h).symm) (Same.new ht _ _ (s7 _ _ hrl6)) (hR6.mono fun b xs e=>Same.new ht b _ (s7 b _ e)) ((s16.trans s7).trans (Same.new ht))
theorem ok__law_refused {f:Addr} {fd:FuncData} (F:Fun K "_law_refused" "_law_refused" s__law_refused f fd) (T:Txt K mg t_W t_MOST_BLOCKS t_MOST_FIGURES t_MOST_DAY t_FIGURES t_CHECK_FIGURES C_KeepError C_NoWord C_NoLine C_Piece C_Whole C_Gain C_DAYS_TOLD) (D_piece_of:DefX P w K mg base "piece_of" 7 ["line"] (sp_pieceofG C_Whole C_Gain C_NoLine)):FnOk P w K mg base (CXx P w) 8 f fd ["_law_line_here"] (sp_refused):=by
  refine F.okX sc__law_refused (fun vs H Q E h=>?_) (fun cdv A outer s H vs Q E hr h=>?_)
  · obtain ⟨z,rfl,hz,hcnt,hno,q⟩:=h; rfl
  obtain ⟨z,rfl,hz,hcnt,hno,q⟩:=h
  refine ⟨_,(pss_cons (ps_set (i:=1) sc__law_refused.nd rfl (Or.inl rfl) pe_non)
      (pss_cons (ps_try (fun pn xe E hx=>(pss_one (ps_expr (pe_callS D_piece_of hx (hr.mono (by decide)) rfl (pa_cons (pv 0) pa_nil))))) (ph_as (i:=2) rfl T.mg_NoLine T.x_NoLine sc__law_refused.nd rfl rfl (fun _ _=>(pss_one (ps_set (i:=1) sc__law_refused.nd rfl (Or.inl rfl) (pe_tup (pa_cons (pe_xfld (pv 2) rfl) (pa_cons (pe_callB call_isinstX (by rfl) T.b_isinstance PyProof.Rows.boot_isinstance (pa_cons (pv 2) (pa_cons (pe_glob (v:=.ref C_KeepError) rfl T.mg_KeepError rfl) pa_nil))) (pa_cons (pe_callB call_isinstX (by rfl) T.b_isinstance PyProof.Rows.boot_isinstance (pa_cons (pv 2) (pa_cons (pe_bltn (v:=.ty "ValueError") rfl T.b_ValueError L2.boot_ValueError rfl) pa_nil))) (pa_cons (pe_callB call_isinstX (by rfl) T.b_isinstance PyProof.Rows.boot_isinstance (pa_cons (pv 2) (pa_cons (pe_glob (v:=.ref C_NoWord) rfl T.mg_NoWord rfl) pa_nil))) pa_nil)))))))) ph_nil) rfl rfl)
      (pss_one (ps_ret (pe_and (pe_cmpR (op_eq_ref hr.units) (pv 1) (pe_tup (pa_cons (pv 0) (pa_cons pe_bl (pa_cons pe_bl (pa_cons pe_bl pa_nil))))) (nomark _)) (pe_one (pe_callB call_isinst (by rfl) T.b_isinstance PyProof.Rows.boot_isinstance (pa_cons (pe_ix ix_tup (pv 1) pe_int (fun _ _=>rfl)) (pa_cons (pe_bltn (v:=.ty "str") rfl T.b_str PyProof.Rows.boot_str rfl) pa_nil))))))))),?_⟩
  intro pn xe
  refine ⟨_,rfl,z,rfl,hz,hcnt,fun u hu=>absurd ⟨u,hu⟩ hno,fun _ e H1 he s1=>?_⟩
  refine ⟨e,C_NoLine,rfl,rfl,true,T.kl,?_⟩
  rw [if_pos rfl]
  intro pn2
  refine ⟨_,rfl,e,C_NoLine,_,_,rfl,he,T.x_NoLine,T.n_NoLine_line,look_eq,?_⟩
  refine ⟨_,rfl,e,C_NoLine,_,_,_,true,rfl,rfl,he,T.x_NoLine,T.kt2,?_⟩
  refine ⟨_,rfl,e,C_NoLine,_,_,_,true,rfl,rfl,he,T.x_NoLine,T.kt3,?_⟩
  refine ⟨_,rfl,e,C_NoLine,_,_,_,false,rfl,rfl,he,T.x_NoLine,T.kt1,?_⟩
  refine ⟨(by show 4 ≤ sizeLine; decide),fun t ht=>?_⟩
  have s3:=(Same.new (o:=.tup [V.str z,V.bl true,V.bl true,V.bl false]) ht)
  refine ⟨_,rfl,_,rfl,(by show 4 ≤ sizeLine; decide),fun t2 ht2=>?_⟩
  have s4:=(Same.new (o:=.tup [V.str z,V.bl true,V.bl true,V.bl false]) ht2)
  refine ⟨0,true,by decide,SeqEq.sameT (SqT.of (s4 t _ upd_same)) (SqT.of upd_same) (fun x hx=>?_),?_⟩
  · simp only [List.mem_cons,List.not_mem_nil,or_false] at hx
    rcases hx with rfl | rfl | rfl | rfl
    · exact .inl ⟨rfl,rfl,by simp [eqV]⟩
    · exact .inl ⟨rfl,rfl,by simp [eqV]⟩
    · exact .inl ⟨rfl,rfl,by simp [eqV]⟩
    · exact .inl ⟨rfl,rfl,by simp [eqV]⟩
  refine ⟨_,rfl,iteT ⟨_,rfl,t,_,_,V.str z,rfl,rfl,SqT.of (s4 t _ upd_same),atI_nat (j:=0) rfl,_,_,_,_,true,rfl,rfl,TyOf.str z,rfl,?_⟩⟩
  exact q _ ((s1.trans s3).trans s4)
theorem ok_law {f:Addr} {fd:FuncData} (F:Fun K "law" "law" s_law f fd) (T:Txt K mg t_W t_MOST_BLOCKS t_MOST_FIGURES t_MOST_DAY t_FIGURES t_CHECK_FIGURES C_KeepError C_NoWord C_NoLine C_Piece C_Whole C_Gain C_DAYS_TOLD) (D__law_cell:DefX P w K mg base "_law_cell" 1 ["_law_script","_law_k"] (sp_cell K)) (D__law_base:DefX P w K mg base "_law_base" 1 ["_law_cell_here"] sp_base) (D__law_after:DefX P w K mg base "_law_after" 1 ["_law_base_here","_law_cell_here"] sp_after) (D__law_rows:DefX P w K mg base "_law_rows" 3 ["_law_script","_law_begin","_law_wide","_law_whole_here"] (sp_lrows20 K)) (D__law_line:DefX P w K mg base "_law_line" 1 ["_law_whole_here","_law_base_here","_law_day","_law_rows_here","_law_check"] sp_llineW) (D__law_spoilt_sign:DefX P w K mg base "_law_spoilt_sign" 2 ["_law_line_here","_law_way","_law_cell_here","_law_other"] sp_spsign) (D__law_short:DefX P w K mg base "_law_short" 1 ["_law_cell_here"] sp_short) (D__law_spoilt_word:DefX P w K mg base "_law_spoilt_word" 2 ["_law_line_here","_law_way","_law_cell_here","_law_other"] sp_spword) (D__law_read:DefX P w K mg base "_law_read" 3 ["_law_line_here"] sp_read) (D__law_refused:DefX P w K mg base "_law_refused" 8 ["_law_line_here"] sp_refused) (D_piece_of:DefX P w K mg base "piece_of" 7 ["line"] (sp_pieceofG C_Whole C_Gain C_NoLine)) (D__law_whole:DefX P w K mg base "_law_whole" 1 ["_law_found"] sp_whole) (D__law_same_rows:DefX P w K mg base "_law_same_rows" 2 ["_law_found","_law_rows_here"] sp_srows):FnOk P w K mg base (CXx P w) 9 f fd ["_law_script"] (sp_law K):=by
  refine F.okX sc_law (fun vs H Q E h=>?_) (fun cdv A outer s H vs Q E hr h=>?_)
  · obtain ⟨a,ns,rfl,hS,hlen,q⟩:=h; rfl
  obtain ⟨a,ns,rfl,hS,hlen,q⟩:=h
  refine ⟨_,(pss_cons (ps_set (i:=1) sc_law.nd rfl (Or.inl rfl) (pe_callS D__law_cell passesN (hr.mono (by decide)) rfl (pa_cons (pv 0) (pa_cons pe_int pa_nil))))
      (pss_cons (ps_set (i:=2) sc_law.nd rfl (Or.inl rfl) (pe_cmpR op_eq (pe_op op_mod (pv 1) pe_int) pe_int (nomark _)))
      (pss_cons (ps_set (i:=3) sc_law.nd rfl (Or.inl rfl) (pe_callS D__law_base passesN (hr.mono (by decide)) rfl (pa_cons (pe_callS D__law_cell passesN (hr.mono (by decide)) rfl (pa_cons (pv 0) (pa_cons pe_int pa_nil))) pa_nil)))
      (pss_cons (ps_set (i:=4) sc_law.nd rfl (Or.inl rfl) (pe_callS D__law_after passesN (hr.mono (by decide)) rfl (pa_cons (pv 3) (pa_cons (pe_callS D__law_cell passesN (hr.mono (by decide)) rfl (pa_cons (pv 0) (pa_cons pe_int pa_nil))) pa_nil))))
      (pss_cons (ps_if (pt_val (pv 2)) (pss_one (ps_set (i:=4) sc_law.nd rfl (Or.inl rfl) (pv 3))) pss_nil)
      (pss_cons (ps_set (i:=5) sc_law.nd rfl (Or.inl rfl) (pe_op op_add pe_int (pe_op op_mod (pe_op op_fdivB (pv 1) pe_int) pe_int)))
      (pss_cons (ps_if (pt_cmpR op_eq (pe_op op_mod (pe_op op_fdivB (pv 1) pe_int) pe_int) pe_int (nomark _)) (pss_one (ps_set (i:=5) sc_law.nd rfl (Or.inl rfl) (pe_op op_add pe_int (pe_op op_mod (pe_op op_fdivB (pv 1) pe_int) pe_int)))) pss_nil)
      (pss_cons (ps_set (i:=6) sc_law.nd rfl (Or.inl rfl) (pe_callS D__law_rows passesN (hr.mono (by decide)) rfl (pa_cons (pv 0) (pa_cons pe_int (pa_cons (pv 5) (pa_cons (pv 2) pa_nil))))))
      (pss_cons (ps_set (i:=7) sc_law.nd rfl (Or.inl rfl) (pe_op op_mod (pe_callS D__law_cell passesN (hr.mono (by decide)) rfl (pa_cons (pv 0) (pa_cons pe_int pa_nil))) (pe_powc (n:=18446744073709551616))))
      (pss_cons (ps_set (i:=8) sc_law.nd rfl (Or.inl rfl) (pe_callS D__law_line passesN (hr.mono (by decide)) rfl (pa_cons (pv 2) (pa_cons (pv 3) (pa_cons (pv 4) (pa_cons (pv 6) (pa_cons (pv 7) pa_nil)))))))
      (pss_cons (ps_set (i:=9) sc_law.nd rfl (Or.inl rfl) (pe_op op_mod (pe_callS D__law_cell passesN (hr.mono (by decide)) rfl (pa_cons (pv 0) (pa_cons pe_int pa_nil))) pe_int))
      (pss_cons (ps_if (pt_cmpR op_lt (pv 9) pe_int (nomark _)) (pss_one (ps_set (i:=8) sc_law.nd rfl (Or.inl rfl) (pe_callS D__law_spoilt_sign passesN (hr.mono (by decide)) rfl (pa_cons (pv 8) (pa_cons (pv 9) (pa_cons (pe_callS D__law_cell passesN (hr.mono (by decide)) rfl (pa_cons (pv 0) (pa_cons pe_int pa_nil))) (pa_cons (pe_callS D__law_cell passesN (hr.mono (by decide)) rfl (pa_cons (pv 0) (pa_cons pe_int pa_nil))) pa_nil))))))) (pss_one (ps_if (pt_cmpR op_eq (pv 9) pe_int (nomark _)) (pss_one (ps_set (i:=8) sc_law.nd rfl (Or.inl rfl) (pe_callS D__law_short passesN (hr.mono (by decide)) rfl (pa_cons (pe_callS D__law_cell passesN (hr.mono (by decide)) rfl (pa_cons (pv 0) (pa_cons pe_int pa_nil))) pa_nil)))) (pss_one (ps_set (i:=8) sc_law.nd rfl (Or.inl rfl) (pe_callS D__law_spoilt_word passesN (hr.mono (by decide)) rfl (pa_cons (pv 8) (pa_cons (pv 9) (pa_cons (pe_callS D__law_cell passesN (hr.mono (by decide)) rfl (pa_cons (pv 0) (pa_cons pe_int pa_nil))) (pa_cons (pe_callS D__law_cell passesN (hr.mono (by decide)) rfl (pa_cons (pv 0) (pa_cons pe_int pa_nil))) pa_nil))))))))))
      (pss_cons (ps_set (i:=10) sc_law.nd rfl (Or.inl rfl) (pe_callS D__law_read passesN (hr.mono (by decide)) rfl (pa_cons (pv 8) pa_nil)))
      (pss_cons (ps_if (pt_cmpR op_isN (pv 10) pe_non (nomark _)) (pss_one (ps_ret (pe_callS D__law_refused passesN (hr.mono (by decide)) rfl (pa_cons (pv 8) pa_nil)))) pss_nil)
      (pss_cons (ps_set (i:=11) sc_law.nd rfl (Or.inl rfl) (pe_callS D_piece_of passesB (hr.mono (by decide)) rfl (pa_cons (pv 8) pa_nil)))
      (pss_cons (ps_if (PW.pt (pw_or (pt_cmpR op_ne (pe_callB call_isinst (by rfl) T.b_isinstance PyProof.Rows.boot_isinstance (pa_cons (pv 11) (pa_cons (pe_glob (v:=.ref C_Whole) rfl T.mg_Whole rfl) pa_nil))) (pe_ix ix_tup (pv 10) pe_int (fun _ _=>rfl)) (nomark _)) (pw_or1 (pt_cmpR op_eq (pe_callB call_isinst (by rfl) T.b_isinstance PyProof.Rows.boot_isinstance (pa_cons (pv 11) (pa_cons (pe_glob (v:=.ref C_Gain) rfl T.mg_Gain rfl) pa_nil))) (pe_ix ix_tup (pv 10) pe_int (fun _ _=>rfl)) (nomark _))))) (pss_one (ps_ret pe_bl)) pss_nil)
      (pss_cons (ps_if (PW.pt (pw_and (pt_not (pt_val (pe_ix ix_tup (pv 10) pe_int (fun _ _=>rfl)))) (pw_and1 (PW.pt (pw_or (pt_not (pt_val (pe_callS D__law_whole passesN (hr.mono (by decide)) rfl (pa_cons (pe_fld (pv 11) rfl) pa_nil)))) (pw_or1 (pt_cmpR op_ne (pe_fld (pv 11) rfl) (pe_ix ix_tup (pv 10) pe_int (fun _ _=>rfl)) (nomark _)))))))) (pss_one (ps_ret pe_bl)) pss_nil)
      (pss_cons (ps_if (PW.pt (pw_or (pt_not (pt_val (pe_callS D__law_whole passesN (hr.mono (by decide)) rfl (pa_cons (pe_fld (pv 11) rfl) pa_nil)))) (pw_or (pt_not (pt_val (pe_callS D__law_whole passesN (hr.mono (by decide)) rfl (pa_cons (pe_fld (pv 11) rfl) pa_nil)))) (pw_or (pt_cmpR op_ne (pe_fld (pv 11) rfl) (pe_ix ix_tup (pv 10) pe_int (fun _ _=>rfl)) (nomark _)) (pw_or1 (pt_cmpR op_ne (pe_fld (pv 11) rfl) (pe_ix ix_tup (pv 10) pe_int (fun _ _=>rfl)) (nomark _))))))) (pss_one (ps_ret pe_bl)) pss_nil)
      (pss_one (ps_ret (pe_callS D__law_same_rows passesN (hr.mono (by decide)) rfl (pa_cons (pe_fld (pv 11) rfl) (pa_cons (pe_ix ix_tup (pv 10) pe_int (fun _ _=>rfl)) pa_nil))))))))))))))))))))))),?_⟩
  refine ⟨_,rfl,a,ns,0,rfl,hS,?_⟩
  generalize cellI ns ((0:Nat):Int) = f
  refine ⟨_,rfl,_,_,rfl,rfl,(show (0:Int) < 2 by decide),rfl,?_⟩
  refine ⟨_,rfl,a,ns,1,rfl,hS,_,rfl,fun b H2 hb s2=>?_⟩
  have hS2:=s2.seq hS
  refine ⟨_,rfl,_,rfl,a,ns,2,rfl,hS2,b,_,rfl,hb,fun d0 hd1 hd2=>?_⟩
  try dsimp only
  generalize hwh:decide (V.int (f % 2) = V.int 0) = wh
  refine cutA (fun σ H'=>∃ d:Nat,σ = [some (.ref a),some (.int f),some (.bl wh),some (.int (b:Int)),some (.int (d:Int)),none,none,none,none,none,none,none] /\ H2 = H' /\ d ≤ 1000000000) (fun N hN=>?_) ?_
  · refine ⟨_,rfl,_,rfl,?_⟩
    cases wh
    · exact iteF (hN _ _ ⟨d0,rfl,rfl,hd2⟩)
    · exact iteT ⟨_,rfl,hN _ _ ⟨b,rfl,rfl,by omega⟩⟩
  rintro σ _ ⟨d,rfl,rfl,hd⟩
  refine ⟨_,rfl,_,_,rfl,rfl,⟨by first | decide | (dsimp only; decide),by first | decide | (dsimp only; decide)⟩,_,_,rfl,rfl,(by first | decide | (dsimp only; decide)),_,_,rfl,rfl,?_⟩
  refine gNameA [some (.ref a),some (.int f),some (.bl wh),some (.int (b:Int)),some (.int (d:Int)),some (.int (1 + f / 2 % 9)),none,none,none,none,none,none] ?_
  try dsimp only
  refine cutA (fun σ H'=>∃ wd:Int,σ = [some (.ref a),some (.int f),some (.bl wh),some (.int (b:Int)),some (.int (d:Int)),some (.int wd),none,none,none,none,none,none] /\ H2 = H' /\ 0 ≤ wd /\ wd ≤ 42) (fun N hN=>?_) ?_
  · refine ⟨_,rfl,_,_,rfl,rfl,⟨by first | decide | (dsimp only; decide),by first | decide | (dsimp only; decide)⟩,_,_,rfl,rfl,(by first | decide | (dsimp only; decide)),rfl,_,rfl,?_⟩
    refine ite2 (fun h=>?_) (fun h=>?_)
    · exact ⟨_,rfl,_,_,rfl,rfl,⟨by first | decide | (dsimp only; decide),by first | decide | (dsimp only; decide)⟩,_,_,rfl,rfl,(by first | decide | (dsimp only; decide)),_,_,rfl,rfl,hN _ _ ⟨38 + f / 2 % 5,rfl,rfl,by omega,by omega⟩⟩
    · exact hN _ _ ⟨_,rfl,rfl,by omega,by omega⟩
  rintro σ _ ⟨wd,rfl,rfl,hw0,hw1⟩
  obtain ⟨wd,rfl⟩:=Int.eq_ofNat_of_zero_le hw0
  refine cutA (fun σ H'=>∃ (l:Addr) (L:List V) (rows:List (Nat × Nat)),σ = [some (.ref a),some (.int f),some (.bl wh),some (.int (b:Int)),some (.int (d:Int)),some (.int (wd:Int)),some (.ref l),none,none,none,none,none] /\ Same H2 H' /\ H' l = some (.lst L) /\ RowsAt H' L rows /\ rows.length ≤ wd /\ (∀ r ∈ rows,r.1 < wd /\ r.2 < 2 ^ 64)) (fun N hN=>?_) ?_
  · exact ⟨_,rfl,_,rfl,_,rfl,a,ns,7,wd,wh,rfl,hS2,by omega,fun l L rows H3 hl _ R hrl hrb hrw hrp s3=>hN _ _ ⟨l,L,rows,rfl,s3,hl,R,hrl,hrb⟩⟩
  rintro σ H3 ⟨l,L,rows,rfl,s3,hl,R,hrl,hrb⟩
  have hS3:=s3.seq hS2
  refine ⟨_,rfl,a,ns,3,rfl,hS3,_,_,rfl,rfl,(by first | decide | (dsimp only; decide)),?_⟩
  obtain ⟨c,ec,hc⟩:∃ c:Int,cellI ns ((3:Nat):Int) % 18446744073709551616 = c /\ 0 ≤ c /\ c < 2 ^ 64:=⟨_,rfl,by omega,by omega⟩
  dsimp only
  rw [ec]
  let u:PcU:=⟨wh,cond wh 0 b,d,rows,c⟩
  have hW:LinW u:=⟨hd,by show cond wh 0 b ≤ _; cases wh <;> (dsimp only [cond]; omega),fun r hr=>⟨by have:=(hrb r hr).1; omega,(hrb r hr).2⟩,by show rows.length ≤ 42; omega,hc⟩
  refine cutA (fun σ H'=>σ = [some (.ref a),some (.int f),some (.bl wh),some (.int (b:Int)),some (.int (d:Int)),some (.int (wd:Int)),some (.ref l),some (.int c),some (.str (lineU u)),none,none,none] /\ Same H3 H') (fun N hN=>?_) ?_
  · refine ⟨_,rfl,_,rfl,_,rfl,_,rfl,_,rfl,u,b,l,L,rfl,?_,by omega,hl,R,hW,fun H4 s4=>hN _ _ ⟨rfl,s4⟩⟩
    intro h
    have h:wh = false:=h
    subst h
    rfl
  rintro σ H4 ⟨rfl,s4⟩
  have hS4:=s4.seq hS3
  have wl:=(wsOk.of hW).line
  have wl:(lineU u).length ≤ 4000 /\ cnt (lineU u) ≤ 60:=⟨line_lenW hW,wl.2⟩
  refine ⟨_,rfl,a,ns,4,rfl,hS4,_,_,rfl,rfl,(by first | decide | (dsimp only; decide)),?_⟩
  dsimp only
  generalize cellI ns ((4:Nat):Int) % 12 = w
  refine cutA (fun σ H'=>∃ z:Str,σ = [some (.ref a),some (.int f),some (.bl wh),some (.int (b:Int)),some (.int (d:Int)),some (.int (wd:Int)),some (.ref l),some (.int c),some (.str z),some (.int w),none,none] /\ z.length ≤ 4900 /\ (Txt.split z (Str.ofString " ")).length ≤ 80) (fun N hN=>?_) ?_
  · refine ⟨_,rfl,_,_,rfl,rfl,_,rfl,?_⟩
    refine ite2 (fun h=>?_) (fun h=>?_)
    · exact ⟨_,rfl,_,rfl,_,rfl,a,ns,5,rfl,hS4,_,rfl,a,ns,6,rfl,hS4,lineU u,w,_,_,rfl,wl.1,fun z' H5 h1 h2 s5=>hN _ _ ⟨z',rfl,by omega,split80 (by omega)⟩⟩
    refine ⟨_,rfl,rfl,_,rfl,?_⟩
    refine ite2 (fun h=>?_) (fun h=>?_)
    · exact ⟨_,rfl,a,ns,5,rfl,hS4,_,rfl,fun z' H5 h1 s5=>hN _ _ ⟨z',rfl,by omega,by have:=split_manyY (z:=z') (y:=Str.ofString " ") (by decide +kernel); omega⟩⟩
    · exact ⟨_,rfl,_,rfl,_,rfl,a,ns,5,rfl,hS4,_,rfl,a,ns,6,rfl,hS4,u,w,_,_,rfl,hW,fun z' H5 h1 h2 s5=>hN _ _ ⟨z',rfl,h1,split80 (by omega)⟩⟩
  clear wl hW s4 hS4 hS3 s3 hl R hrl hrb hS2 hS s2 ec hc
  rintro σ H5 ⟨z,rfl,hz,hcnt⟩
  refine ⟨_,rfl,z,rfl,hz,hcnt,fun u hL e t l2 L2 b2 H6 ht hbb hl2 R2 s6=>?_,fun hno H6 s6=>?_⟩
  rotate_left
  · refine gNameA [some (.ref a),some (.int f),some (.bl wh),some (.int (b:Int)),some (.int (d:Int)),some (.int (wd:Int)),some (.ref l),some (.int c),some (.str z),some (.int w),some .non,none] ?_
    try dsimp only
    refine if_yes (fun Qb hq=>⟨_,rfl,rfl,_,rfl,hq⟩) ?_
    exact ⟨_,rfl,z,rfl,hz,hcnt,fun ⟨u,hu⟩=>hno ⟨u,good_iffL.mp hu⟩,fun H7 _=>q H7⟩
  have hg:good z u:=good_iffL.mpr ⟨hL,e⟩
  refine gNameA [some (.ref a),some (.int f),some (.bl wh),some (.int (b:Int)),some (.int (d:Int)),some (.int (wd:Int)),some (.ref l),some (.int c),some (.str z),some (.int w),some (.ref t),none] ?_
  try dsimp only
  refine if_no (fun Qb hq=>⟨_,rfl,rfl,_,rfl,hq⟩) ?_
  try unfold tNext
  try dsimp only
  refine ⟨_,rfl,z,rfl,hz,hcnt,fun u' hg' p H7 hP s7=>?_,fun hno=>absurd ⟨u,hg⟩ hno⟩
  rw [good_uniq hg hg'] at hP
  refine gNameA [some (.ref a),some (.int f),some (.bl wh),some (.int (b:Int)),some (.int (d:Int)),some (.int (wd:Int)),some (.ref l),some (.int c),some (.str z),some (.int w),some (.ref t),some (.ref p)] ?_
  try dsimp only
  obtain ⟨dx,r,Rr,h1,h2,h3⟩:=id hP
  have hcl:Cls K (cond u.wh C_Whole C_Gain) /\ NoAttr K (cond u.wh C_Whole C_Gain) "day" /\ NoAttr K (cond u.wh C_Whole C_Gain) "rows" /\ NoAttr K (cond u.wh C_Whole C_Gain) "check":=by
    cases u.wh
    · exact ⟨T.cl_Gain,T.n_Gain_day,T.n_Gain_rows,T.n_Gain_check⟩
    · exact ⟨T.cl_Whole,T.n_Whole_day,T.n_Whole_rows,T.n_Whole_check⟩
  have lkd:∀ {f:Bool},List.lookup ("day":Str) (pfs u.wh u.b u.d r u.c f) = some (.int (u.d:Int)):=by intro f; cases u.wh <;> exact lk_day
  have lkc:∀ {f:Bool},List.lookup ("check":Str) (pfs u.wh u.b u.d r u.c f) = some (.int u.c):=by intro f; cases u.wh <;> exact lk_check
  have ht7:=s7 _ _ ht
  have hl7:=s7 _ _ hl2
  have R7:=R2.mono fun b xs e=>s7 b _ e
  have t0:atI [V.bl u.wh,V.int (b2:Int),V.int (u.d:Int),V.ref l2,V.int u.c] 0 = some (V.bl u.wh):=atI_nat (j:=0) rfl
  refine if_no (fun Qb hq=>?_) ?_
  · cases hw:u.wh
    · rw [hw] at h1 t0
      refine ⟨_,rfl,_,_,_,_,false,rfl,rfl,.ins h1 T.cl_Gain T.ic_Gain T.clgX T.cltX T.io_Gain,T.k_Gain_Whole,_,rfl,t,_,_,V.bl false,rfl,rfl,SqT.of ht7,(by rw [hw]; exact t0),rfl,_,rfl,iteF ?_⟩
      exact ⟨_,rfl,_,_,_,_,true,rfl,rfl,.ins h1 T.cl_Gain T.ic_Gain T.clgX T.cltX T.io_Gain,T.k_Gain_Gain,_,rfl,t,_,_,V.bl false,rfl,rfl,SqT.of ht7,(by rw [hw]; exact t0),rfl,_,rfl,hq⟩
    · rw [hw] at h1 t0
      refine ⟨_,rfl,_,_,_,_,true,rfl,rfl,.ins h1 T.cl_Whole T.ic_Whole T.clgX T.cltX T.io_Whole,T.k_Whole_Whole,_,rfl,t,_,_,V.bl true,rfl,rfl,SqT.of ht7,(by rw [hw]; exact t0),rfl,_,rfl,iteF ?_⟩
      exact ⟨_,rfl,_,_,_,_,false,rfl,rfl,.ins h1 T.cl_Whole T.ic_Whole T.clgX T.cltX T.io_Whole,T.k_Whole_Gain,_,rfl,t,_,_,V.bl true,rfl,rfl,SqT.of ht7,(by rw [hw]; exact t0),rfl,_,rfl,hq⟩
  try unfold tNext
  try dsimp only
  refine if_no (fun Qb hq=>?_) ?_
  · refine ⟨_,rfl,t,_,_,V.bl u.wh,rfl,rfl,SqT.of ht7,t0,_,rfl,?_⟩
    cases hw:u.wh
    · rw [hw] at h1
      refine iteT ⟨_,rfl,p,C_Gain,dx,_,_,rfl,h1,T.cl_Gain,T.n_Gain_base,lk_base,_,rfl,_,rfl,iteF ?_⟩
      refine ⟨_,rfl,p,C_Gain,dx,_,_,rfl,h1,T.cl_Gain,T.n_Gain_base,lk_base,_,rfl,t,_,_,V.int (b2:Int),rfl,rfl,SqT.of ht7,atI_nat (j:=1) rfl,rfl,_,rfl,?_⟩
      rw [hbb hw,decide_eq_true rfl]
      exact hq
    · exact iteF hq
  try unfold tNext
  try dsimp only
  refine if_no (fun Qb hq=>?_) ?_
  · refine ⟨_,rfl,p,_,dx,_,_,rfl,h1,hcl.1,hcl.2.1,lkd,_,rfl,_,rfl,iteF ?_⟩
    refine ⟨_,rfl,p,_,dx,_,_,rfl,h1,hcl.1,hcl.2.2.2,lkc,_,rfl,_,rfl,iteF ?_⟩
    refine ⟨_,rfl,p,_,dx,_,_,rfl,h1,hcl.1,hcl.2.1,lkd,_,rfl,t,_,_,V.int (u.d:Int),rfl,rfl,SqT.of ht7,atI_nat (j:=2) rfl,rfl,_,rfl,?_⟩
    rw [decide_eq_true rfl]
    refine iteF ?_
    refine ⟨_,rfl,p,_,dx,_,_,rfl,h1,hcl.1,hcl.2.2.2,lkc,_,rfl,t,_,_,V.int u.c,rfl,rfl,SqT.of ht7,atI_nat (j:=4) rfl,rfl,_,rfl,?_⟩
    rw [decide_eq_true rfl]
    exact hq
  try unfold tNext
  try dsimp only
  exact ⟨_,rfl,p,_,dx,_,_,rfl,h1,hcl.1,hcl.2.2.1,lk_rows2,_,rfl,t,_,_,V.ref l2,rfl,rfl,SqT.of ht7,atI_nat (j:=3) rfl,r,l2,Rr,L2,u.rows,rfl,h2,hl7,h3,R7,fun H8 s8=>q H8⟩
end
@[elab_as_elim] theorem ln1 {P:List Value->Prop} (us:List Value) (hl:us.length = 1) (h:∀ a,P [a]):P us:=match us,hl with
  | [a],_=>h a
@[elab_as_elim] theorem ln2 {P:List Value->Prop} (us:List Value) (hl:us.length = 2) (h:∀ a b,P [a,b]):P us:=match us,hl with
  | [a,b],_=>h a b
@[elab_as_elim] theorem ln3 {P:List Value->Prop} (us:List Value) (hl:us.length = 3) (h:∀ a b c,P [a,b,c]):P us:=match us,hl with
  | [a,b,c],_=>h a b c
@[elab_as_elim] theorem ln4 {P:List Value->Prop} (us:List Value) (hl:us.length = 4) (h:∀ a b c d,P [a,b,c,d]):P us:=match us,hl with
  | [a,b,c,d],_=>h a b c d
@[elab_as_elim] theorem ln5 {P:List Value->Prop} (us:List Value) (hl:us.length = 5) (h:∀ a b c d e,P [a,b,c,d,e]):P us:=match us,hl with
  | [a,b,c,d,e],_=>h a b c d e
theorem all_mk {l:PySem.W.OpenLaw} {w:World} {K:PySem.W.Frag} {h:Heap} {mg:Str->Option Value} {fa:Addr} (X:K.In h) (G:h.Ns mainGlobals mg) (hfa:mg "law" = some (.ref fa))
    {t_W:Tok} (g_W:PySem.W.nsIn K mainGlobals "W" = some (some (.int 18446744073709551615 t_W)))
    {t_MOST_BLOCKS:Tok} (g_MOST_BLOCKS:PySem.W.nsIn K mainGlobals "MOST_BLOCKS" = some (some (.int 40 t_MOST_BLOCKS)))
    {t_MOST_FIGURES:Tok} (g_MOST_FIGURES:PySem.W.nsIn K mainGlobals "MOST_FIGURES" = some (some (.int 20 t_MOST_FIGURES)))
    {t_MOST_DAY:Tok} (g_MOST_DAY:PySem.W.nsIn K mainGlobals "MOST_DAY" = some (some (.int 1000000000 t_MOST_DAY)))
    {t_FIGURES:Tok} (g_FIGURES:PySem.W.nsIn K mainGlobals "FIGURES" = some (some (.str (PySem.Str.ofString "0123456789") t_FIGURES)))
    {t_CHECK_FIGURES:Tok} (g_CHECK_FIGURES:PySem.W.nsIn K mainGlobals "CHECK_FIGURES" = some (some (.int 20 t_CHECK_FIGURES)))
    {C_KeepError:Addr} (a_KeepError:PySem.W.nsIn K mainGlobals "KeepError" = some (some (.ref C_KeepError)))
    {C_NoWord:Addr} (a_NoWord:PySem.W.nsIn K mainGlobals "NoWord" = some (some (.ref C_NoWord)))
    {C_NoLine:Addr} (a_NoLine:PySem.W.nsIn K mainGlobals "NoLine" = some (some (.ref C_NoLine)))
    {C_Piece:Addr} (a_Piece:PySem.W.nsIn K mainGlobals "Piece" = some (some (.ref C_Piece)))
    {C_Whole:Addr} (a_Whole:PySem.W.nsIn K mainGlobals "Whole" = some (some (.ref C_Whole)))
    {C_Gain:Addr} (a_Gain:PySem.W.nsIn K mainGlobals "Gain" = some (some (.ref C_Gain)))
    {C_DAYS_TOLD:Addr} (a_DAYS_TOLD:PySem.W.nsIn K mainGlobals "DAYS_TOLD" = some (some (.ref C_DAYS_TOLD))) {y1_DAYS_TOLD y2_DAYS_TOLD y3_DAYS_TOLD y4_DAYS_TOLD:Tok} {ye_DAYS_TOLD:Nat} (gl_DAYS_TOLD:K.lookup C_DAYS_TOLD = some ⟨.type "dict",none,.dict #[⟨hashStr w (Str.ofString "whole"),.str (Str.ofString "whole") y1_DAYS_TOLD,.int 1 y2_DAYS_TOLD⟩,⟨hashStr w (Str.ofString "gain"),.str (Str.ofString "gain") y3_DAYS_TOLD,.int 2 y4_DAYS_TOLD⟩] ye_DAYS_TOLD,#[]⟩) (gs_DAYS_TOLD:(C_DAYS_TOLD == sysModules) = false)
    (clg:PySem.W.specialIn K (.builtin "object.__class__") "__get__" = some (some (.builtin "getset_descriptor.__get__"))) (clt:PySem.W.takesIn K (.builtin "object.__class__") = some true)
    (xo_KeepError:xobjIn K C_KeepError = true) (xs_KeepError:PySem.W.findIn K (.ref C_KeepError) "__setattr__" = some (some (.builtin "object.__setattr__"))) (xg_KeepError:PySem.W.findIn K (.ref C_KeepError) "__getattribute__" = some (some (.builtin "BaseException.__getattribute__"))) (xh_KeepError:PySem.W.findIn K (.ref C_KeepError) "__getattr__" = some none) (xc_KeepError:PySem.W.findIn K (.ref C_KeepError) "__class__" = some (some (.builtin "object.__class__"))) (kc_KeepError:PySem.W.keepIn K (.ref C_KeepError) = true)
    (xo_NoWord:xobjIn K C_NoWord = true) (xs_NoWord:PySem.W.findIn K (.ref C_NoWord) "__setattr__" = some (some (.builtin "object.__setattr__"))) (xg_NoWord:PySem.W.findIn K (.ref C_NoWord) "__getattribute__" = some (some (.builtin "BaseException.__getattribute__"))) (xh_NoWord:PySem.W.findIn K (.ref C_NoWord) "__getattr__" = some none) (xc_NoWord:PySem.W.findIn K (.ref C_NoWord) "__class__" = some (some (.builtin "object.__class__"))) (kc_NoWord:PySem.W.keepIn K (.ref C_NoWord) = true)
    (n_NoWord_word:PySem.W.findIn K (.ref C_NoWord) "word" = some none)
    (xo_NoLine:xobjIn K C_NoLine = true) (xs_NoLine:PySem.W.findIn K (.ref C_NoLine) "__setattr__" = some (some (.builtin "object.__setattr__"))) (xg_NoLine:PySem.W.findIn K (.ref C_NoLine) "__getattribute__" = some (some (.builtin "BaseException.__getattribute__"))) (xh_NoLine:PySem.W.findIn K (.ref C_NoLine) "__getattr__" = some none) (xc_NoLine:PySem.W.findIn K (.ref C_NoLine) "__class__" = some (some (.builtin "object.__class__"))) (kc_NoLine:PySem.W.keepIn K (.ref C_NoLine) = true)
    (n_NoLine_line:PySem.W.findIn K (.ref C_NoLine) "line" = some none)
    (pg_Whole:PySem.W.plainGet K C_Whole Str.empty = true) (hd_Whole:PySem.W.hasDictIn K C_Whole = true) (po_Whole:PySem.W.plainOver K C_Whole = true) (sa_Whole:PySem.W.findIn K (.ref C_Whole) "__setattr__" = some (some (.builtin "object.__setattr__"))) (mk_Whole:PySem.W.makesIn K C_Whole = true) (kc_Whole:PySem.W.keepIn K (.ref C_Whole) = true)
    (n_Whole_day:PySem.W.findIn K (.ref C_Whole) "day" = some none)
    (n_Whole_rows:PySem.W.findIn K (.ref C_Whole) "rows" = some none)
    (n_Whole_check:PySem.W.findIn K (.ref C_Whole) "check" = some none)
    (n_Whole_fits:PySem.W.findIn K (.ref C_Whole) "fits" = some none)
    (pg_Gain:PySem.W.plainGet K C_Gain Str.empty = true) (hd_Gain:PySem.W.hasDictIn K C_Gain = true) (po_Gain:PySem.W.plainOver K C_Gain = true) (sa_Gain:PySem.W.findIn K (.ref C_Gain) "__setattr__" = some (some (.builtin "object.__setattr__"))) (mk_Gain:PySem.W.makesIn K C_Gain = true) (kc_Gain:PySem.W.keepIn K (.ref C_Gain) = true)
    (n_Gain_day:PySem.W.findIn K (.ref C_Gain) "day" = some none)
    (n_Gain_rows:PySem.W.findIn K (.ref C_Gain) "rows" = some none)
    (n_Gain_check:PySem.W.findIn K (.ref C_Gain) "check" = some none)
    (n_Gain_fits:PySem.W.findIn K (.ref C_Gain) "fits" = some none)
    (n_Gain_base:PySem.W.findIn K (.ref C_Gain) "base" = some none)
    {f0:Addr} {od0 an0:Option Addr} {sl0:Array (Option Value)} {oc0 kV0 dc0 pm0 cd0 ct0:Value}
    (a0:PySem.W.findIn K (.ref C_NoWord) "__init__" = some (some (.ref f0))) (i0:PySem.W.isFn K (.ref f0) = true)
    (l0:K.lookup f0 = some ⟨oc0,od0,.func (PySem.W.fnOf "__init__" "NoWord.__init__" (defArgs s_NoWord___init__) (defBody s_NoWord___init__) (defScope s_NoWord___init__) .none kV0 dc0 pm0 an0 cd0 ct0),sl0⟩) (c0:PySem.W.codeIn K cd0 "NoWord.__init__" = true) (k0:PySem.W.keepIn K (.ref f0) = true)
    {f1:Addr} {od1 an1:Option Addr} {sl1:Array (Option Value)} {oc1 kV1 dc1 pm1 cd1 ct1:Value}
    (a1:PySem.W.findIn K (.ref C_NoLine) "__init__" = some (some (.ref f1))) (i1:PySem.W.isFn K (.ref f1) = true)
    (l1:K.lookup f1 = some ⟨oc1,od1,.func (PySem.W.fnOf "__init__" "NoLine.__init__" (defArgs s_NoLine___init__) (defBody s_NoLine___init__) (defScope s_NoLine___init__) .none kV1 dc1 pm1 an1 cd1 ct1),sl1⟩) (c1:PySem.W.codeIn K cd1 "NoLine.__init__" = true) (k1:PySem.W.keepIn K (.ref f1) = true)
    {f2:Addr} {od2 an2:Option Addr} {sl2:Array (Option Value)} {oc2 kV2 dc2 pm2 cd2 ct2:Value}
    (a2:PySem.W.nsIn K mainGlobals "turned" = some (some (.ref f2)))
    (l2:K.lookup f2 = some ⟨oc2,od2,.func (PySem.W.fnOf "turned" "turned" (defArgs s_turned) (defBody s_turned) (defScope s_turned) .none kV2 dc2 pm2 an2 cd2 ct2),sl2⟩) (c2:PySem.W.codeIn K cd2 "turned" = true) (k2:PySem.W.keepIn K (.ref f2) = true)
    {f3:Addr} {od3 an3:Option Addr} {sl3:Array (Option Value)} {oc3 kV3 dc3 pm3 cd3 ct3:Value}
    (a3:PySem.W.nsIn K mainGlobals "check_of" = some (some (.ref f3)))
    (l3:K.lookup f3 = some ⟨oc3,od3,.func (PySem.W.fnOf "check_of" "check_of" (defArgs s_check_of) (defBody s_check_of) (defScope s_check_of) .none kV3 dc3 pm3 an3 cd3 ct3),sl3⟩) (c3:PySem.W.codeIn K cd3 "check_of" = true) (k3:PySem.W.keepIn K (.ref f3) = true)
    {f4:Addr} {od4 an4:Option Addr} {sl4:Array (Option Value)} {oc4 kV4 dc4 pm4 cd4 ct4:Value}
    (a4:PySem.W.findIn K (.ref C_Piece) "__init__" = some (some (.ref f4))) (i4:PySem.W.isFn K (.ref f4) = true)
    (l4:K.lookup f4 = some ⟨oc4,od4,.func (PySem.W.fnOf "__init__" "Piece.__init__" (defArgs s_Piece___init__) (defBody s_Piece___init__) (defScope s_Piece___init__) .none kV4 dc4 pm4 an4 cd4 ct4),sl4⟩) (c4:PySem.W.codeIn K cd4 "Piece.__init__" = true) (k4:PySem.W.keepIn K (.ref f4) = true)
    {f5:Addr} {od5 an5:Option Addr} {sl5:Array (Option Value)} {oc5 kV5 dc5 pm5 cd5 ct5:Value}
    (a5:PySem.W.findIn K (.ref C_Whole) "__init__" = some (some (.ref f5))) (i5:PySem.W.isFn K (.ref f5) = true)
    {td5:Addr} {yc5:Value} {yd5:Option Addr} {yn5:Nat} {yl5:Array (Option Value)}
    (l5:K.lookup f5 = some ⟨oc5,od5,.func (PySem.W.fnOf "__init__" "Whole.__init__" (defArgs s_Whole___init__) (defBody s_Whole___init__) (defScope s_Whole___init__) (.ref td5) kV5 dc5 pm5 an5 cd5 ct5),sl5⟩) (c5:PySem.W.codeIn K cd5 "Whole.__init__" = true) (k5:PySem.W.keepIn K (.ref f5) = true)
    (y5:K.lookup td5 = some ⟨yc5,yd5,.seq #[.none] yn5,yl5⟩)
    {f6:Addr} {od6 an6:Option Addr} {sl6:Array (Option Value)} {oc6 kV6 dc6 pm6 cd6 ct6:Value}
    (a6:PySem.W.findIn K (.ref C_Whole) "kind" = some (some (.ref f6))) (i6:PySem.W.isFn K (.ref f6) = true)
    (l6:K.lookup f6 = some ⟨oc6,od6,.func (PySem.W.fnOf "kind" "Whole.kind" (defArgs s_Whole_kind) (defBody s_Whole_kind) (defScope s_Whole_kind) .none kV6 dc6 pm6 an6 cd6 ct6),sl6⟩) (c6:PySem.W.codeIn K cd6 "Whole.kind" = true) (k6:PySem.W.keepIn K (.ref f6) = true)
    {f7:Addr} {od7 an7:Option Addr} {sl7:Array (Option Value)} {oc7 kV7 dc7 pm7 cd7 ct7:Value}
    (a7:PySem.W.findIn K (.ref C_Gain) "__init__" = some (some (.ref f7))) (i7:PySem.W.isFn K (.ref f7) = true)
    {td7:Addr} {yc7:Value} {yd7:Option Addr} {yn7:Nat} {yl7:Array (Option Value)}
    (l7:K.lookup f7 = some ⟨oc7,od7,.func (PySem.W.fnOf "__init__" "Gain.__init__" (defArgs s_Gain___init__) (defBody s_Gain___init__) (defScope s_Gain___init__) (.ref td7) kV7 dc7 pm7 an7 cd7 ct7),sl7⟩) (c7:PySem.W.codeIn K cd7 "Gain.__init__" = true) (k7:PySem.W.keepIn K (.ref f7) = true)
    (y7:K.lookup td7 = some ⟨yc7,yd7,.seq #[.none] yn7,yl7⟩)
    {f8:Addr} {od8 an8:Option Addr} {sl8:Array (Option Value)} {oc8 kV8 dc8 pm8 cd8 ct8:Value}
    (a8:PySem.W.findIn K (.ref C_Gain) "kind" = some (some (.ref f8))) (i8:PySem.W.isFn K (.ref f8) = true)
    (l8:K.lookup f8 = some ⟨oc8,od8,.func (PySem.W.fnOf "kind" "Gain.kind" (defArgs s_Gain_kind) (defBody s_Gain_kind) (defScope s_Gain_kind) .none kV8 dc8 pm8 an8 cd8 ct8),sl8⟩) (c8:PySem.W.codeIn K cd8 "Gain.kind" = true) (k8:PySem.W.keepIn K (.ref f8) = true)
    {f9:Addr} {od9 an9:Option Addr} {sl9:Array (Option Value)} {oc9 kV9 dc9 pm9 cd9 ct9:Value}
    (a9:PySem.W.nsIn K mainGlobals "writes_number" = some (some (.ref f9)))
    (l9:K.lookup f9 = some ⟨oc9,od9,.func (PySem.W.fnOf "writes_number" "writes_number" (defArgs s_writes_number) (defBody s_writes_number) (defScope s_writes_number) .none kV9 dc9 pm9 an9 cd9 ct9),sl9⟩) (c9:PySem.W.codeIn K cd9 "writes_number" = true) (k9:PySem.W.keepIn K (.ref f9) = true)
    {f10:Addr} {od10 an10:Option Addr} {sl10:Array (Option Value)} {oc10 kV10 dc10 pm10 cd10 ct10:Value}
    (a10:PySem.W.nsIn K mainGlobals "number_of" = some (some (.ref f10)))
    (l10:K.lookup f10 = some ⟨oc10,od10,.func (PySem.W.fnOf "number_of" "number_of" (defArgs s_number_of) (defBody s_number_of) (defScope s_number_of) .none kV10 dc10 pm10 an10 cd10 ct10),sl10⟩) (c10:PySem.W.codeIn K cd10 "number_of" = true) (k10:PySem.W.keepIn K (.ref f10) = true)
    {f11:Addr} {od11 an11:Option Addr} {sl11:Array (Option Value)} {oc11 kV11 dc11 pm11 cd11 ct11:Value}
    (a11:PySem.W.nsIn K mainGlobals "change_of" = some (some (.ref f11)))
    (l11:K.lookup f11 = some ⟨oc11,od11,.func (PySem.W.fnOf "change_of" "change_of" (defArgs s_change_of) (defBody s_change_of) (defScope s_change_of) .none kV11 dc11 pm11 an11 cd11 ct11),sl11⟩) (c11:PySem.W.codeIn K cd11 "change_of" = true) (k11:PySem.W.keepIn K (.ref f11) = true)
    {f12:Addr} {od12 an12:Option Addr} {sl12:Array (Option Value)} {oc12 kV12 dc12 pm12 cd12 ct12:Value}
    (a12:PySem.W.nsIn K mainGlobals "piece_of" = some (some (.ref f12)))
    (l12:K.lookup f12 = some ⟨oc12,od12,.func (PySem.W.fnOf "piece_of" "piece_of" (defArgs s_piece_of) (defBody s_piece_of) (defScope s_piece_of) .none kV12 dc12 pm12 an12 cd12 ct12),sl12⟩) (c12:PySem.W.codeIn K cd12 "piece_of" = true) (k12:PySem.W.keepIn K (.ref f12) = true)
    {f13:Addr} {od13 an13:Option Addr} {sl13:Array (Option Value)} {oc13 kV13 dc13 pm13 cd13 ct13:Value}
    (a13:PySem.W.nsIn K mainGlobals "piece_by_words" = some (some (.ref f13)))
    (l13:K.lookup f13 = some ⟨oc13,od13,.func (PySem.W.fnOf "piece_by_words" "piece_by_words" (defArgs s_piece_by_words) (defBody s_piece_by_words) (defScope s_piece_by_words) .none kV13 dc13 pm13 an13 cd13 ct13),sl13⟩) (c13:PySem.W.codeIn K cd13 "piece_by_words" = true) (k13:PySem.W.keepIn K (.ref f13) = true)
    {f14:Addr} {od14 an14:Option Addr} {sl14:Array (Option Value)} {oc14 kV14 dc14 pm14 cd14 ct14:Value}
    (a14:PySem.W.nsIn K mainGlobals "check_by_word" = some (some (.ref f14)))
    (l14:K.lookup f14 = some ⟨oc14,od14,.func (PySem.W.fnOf "check_by_word" "check_by_word" (defArgs s_check_by_word) (defBody s_check_by_word) (defScope s_check_by_word) .none kV14 dc14 pm14 an14 cd14 ct14),sl14⟩) (c14:PySem.W.codeIn K cd14 "check_by_word" = true) (k14:PySem.W.keepIn K (.ref f14) = true)
    {f15:Addr} {od15 an15:Option Addr} {sl15:Array (Option Value)} {oc15 kV15 dc15 pm15 cd15 ct15:Value}
    (a15:PySem.W.nsIn K mainGlobals "is_within" = some (some (.ref f15)))
    (l15:K.lookup f15 = some ⟨oc15,od15,.func (PySem.W.fnOf "is_within" "is_within" (defArgs s_is_within) (defBody s_is_within) (defScope s_is_within) .none kV15 dc15 pm15 an15 cd15 ct15),sl15⟩) (c15:PySem.W.codeIn K cd15 "is_within" = true) (k15:PySem.W.keepIn K (.ref f15) = true)
    {f16:Addr} {od16 an16:Option Addr} {sl16:Array (Option Value)} {oc16 kV16 dc16 pm16 cd16 ct16:Value}
    (a16:PySem.W.nsIn K mainGlobals "is_formed" = some (some (.ref f16)))
    (l16:K.lookup f16 = some ⟨oc16,od16,.func (PySem.W.fnOf "is_formed" "is_formed" (defArgs s_is_formed) (defBody s_is_formed) (defScope s_is_formed) .none kV16 dc16 pm16 an16 cd16 ct16),sl16⟩) (c16:PySem.W.codeIn K cd16 "is_formed" = true) (k16:PySem.W.keepIn K (.ref f16) = true)
    {f17:Addr} {od17 an17:Option Addr} {sl17:Array (Option Value)} {oc17 kV17 dc17 pm17 cd17 ct17:Value}
    (a17:PySem.W.nsIn K mainGlobals "_law_cell" = some (some (.ref f17)))
    (l17:K.lookup f17 = some ⟨oc17,od17,.func (PySem.W.fnOf "_law_cell" "_law_cell" (defArgs s__law_cell) (defBody s__law_cell) (defScope s__law_cell) .none kV17 dc17 pm17 an17 cd17 ct17),sl17⟩) (c17:PySem.W.codeIn K cd17 "_law_cell" = true) (k17:PySem.W.keepIn K (.ref f17) = true)
    {f18:Addr} {od18 an18:Option Addr} {sl18:Array (Option Value)} {oc18 kV18 dc18 pm18 cd18 ct18:Value}
    (a18:PySem.W.nsIn K mainGlobals "_law_whole" = some (some (.ref f18)))
    (l18:K.lookup f18 = some ⟨oc18,od18,.func (PySem.W.fnOf "_law_whole" "_law_whole" (defArgs s__law_whole) (defBody s__law_whole) (defScope s__law_whole) .none kV18 dc18 pm18 an18 cd18 ct18),sl18⟩) (c18:PySem.W.codeIn K cd18 "_law_whole" = true) (k18:PySem.W.keepIn K (.ref f18) = true)
    {f19:Addr} {od19 an19:Option Addr} {sl19:Array (Option Value)} {oc19 kV19 dc19 pm19 cd19 ct19:Value}
    (a19:PySem.W.nsIn K mainGlobals "_law_stir" = some (some (.ref f19)))
    (l19:K.lookup f19 = some ⟨oc19,od19,.func (PySem.W.fnOf "_law_stir" "_law_stir" (defArgs s__law_stir) (defBody s__law_stir) (defScope s__law_stir) .none kV19 dc19 pm19 an19 cd19 ct19),sl19⟩) (c19:PySem.W.codeIn K cd19 "_law_stir" = true) (k19:PySem.W.keepIn K (.ref f19) = true)
    {f20:Addr} {od20 an20:Option Addr} {sl20:Array (Option Value)} {oc20 kV20 dc20 pm20 cd20 ct20:Value}
    (a20:PySem.W.nsIn K mainGlobals "_law_block" = some (some (.ref f20)))
    (l20:K.lookup f20 = some ⟨oc20,od20,.func (PySem.W.fnOf "_law_block" "_law_block" (defArgs s__law_block) (defBody s__law_block) (defScope s__law_block) .none kV20 dc20 pm20 an20 cd20 ct20),sl20⟩) (c20:PySem.W.codeIn K cd20 "_law_block" = true) (k20:PySem.W.keepIn K (.ref f20) = true)
    {f21:Addr} {od21 an21:Option Addr} {sl21:Array (Option Value)} {oc21 kV21 dc21 pm21 cd21 ct21:Value}
    (a21:PySem.W.nsIn K mainGlobals "_law_base" = some (some (.ref f21)))
    (l21:K.lookup f21 = some ⟨oc21,od21,.func (PySem.W.fnOf "_law_base" "_law_base" (defArgs s__law_base) (defBody s__law_base) (defScope s__law_base) .none kV21 dc21 pm21 an21 cd21 ct21),sl21⟩) (c21:PySem.W.codeIn K cd21 "_law_base" = true) (k21:PySem.W.keepIn K (.ref f21) = true)
    {f22:Addr} {od22 an22:Option Addr} {sl22:Array (Option Value)} {oc22 kV22 dc22 pm22 cd22 ct22:Value}
    (a22:PySem.W.nsIn K mainGlobals "_law_after" = some (some (.ref f22)))
    (l22:K.lookup f22 = some ⟨oc22,od22,.func (PySem.W.fnOf "_law_after" "_law_after" (defArgs s__law_after) (defBody s__law_after) (defScope s__law_after) .none kV22 dc22 pm22 an22 cd22 ct22),sl22⟩) (c22:PySem.W.codeIn K cd22 "_law_after" = true) (k22:PySem.W.keepIn K (.ref f22) = true)
    {f23:Addr} {od23 an23:Option Addr} {sl23:Array (Option Value)} {oc23 kV23 dc23 pm23 cd23 ct23:Value}
    (a23:PySem.W.nsIn K mainGlobals "_law_rows" = some (some (.ref f23)))
    (l23:K.lookup f23 = some ⟨oc23,od23,.func (PySem.W.fnOf "_law_rows" "_law_rows" (defArgs s__law_rows) (defBody s__law_rows) (defScope s__law_rows) .none kV23 dc23 pm23 an23 cd23 ct23),sl23⟩) (c23:PySem.W.codeIn K cd23 "_law_rows" = true) (k23:PySem.W.keepIn K (.ref f23) = true)
    {f24:Addr} {od24 an24:Option Addr} {sl24:Array (Option Value)} {oc24 kV24 dc24 pm24 cd24 ct24:Value}
    (a24:PySem.W.nsIn K mainGlobals "_law_same_rows" = some (some (.ref f24)))
    (l24:K.lookup f24 = some ⟨oc24,od24,.func (PySem.W.fnOf "_law_same_rows" "_law_same_rows" (defArgs s__law_same_rows) (defBody s__law_same_rows) (defScope s__law_same_rows) .none kV24 dc24 pm24 an24 cd24 ct24),sl24⟩) (c24:PySem.W.codeIn K cd24 "_law_same_rows" = true) (k24:PySem.W.keepIn K (.ref f24) = true)
    {f25:Addr} {od25 an25:Option Addr} {sl25:Array (Option Value)} {oc25 kV25 dc25 pm25 cd25 ct25:Value}
    (a25:PySem.W.nsIn K mainGlobals "_law_line" = some (some (.ref f25)))
    (l25:K.lookup f25 = some ⟨oc25,od25,.func (PySem.W.fnOf "_law_line" "_law_line" (defArgs s__law_line) (defBody s__law_line) (defScope s__law_line) .none kV25 dc25 pm25 an25 cd25 ct25),sl25⟩) (c25:PySem.W.codeIn K cd25 "_law_line" = true) (k25:PySem.W.keepIn K (.ref f25) = true)
    {f26:Addr} {od26 an26:Option Addr} {sl26:Array (Option Value)} {oc26 kV26 dc26 pm26 cd26 ct26:Value}
    (a26:PySem.W.nsIn K mainGlobals "_law_sign" = some (some (.ref f26)))
    (l26:K.lookup f26 = some ⟨oc26,od26,.func (PySem.W.fnOf "_law_sign" "_law_sign" (defArgs s__law_sign) (defBody s__law_sign) (defScope s__law_sign) .none kV26 dc26 pm26 an26 cd26 ct26),sl26⟩) (c26:PySem.W.codeIn K cd26 "_law_sign" = true) (k26:PySem.W.keepIn K (.ref f26) = true)
    {f27:Addr} {od27 an27:Option Addr} {sl27:Array (Option Value)} {oc27 kV27 dc27 pm27 cd27 ct27:Value}
    (a27:PySem.W.nsIn K mainGlobals "_law_odd_word" = some (some (.ref f27)))
    (l27:K.lookup f27 = some ⟨oc27,od27,.func (PySem.W.fnOf "_law_odd_word" "_law_odd_word" (defArgs s__law_odd_word) (defBody s__law_odd_word) (defScope s__law_odd_word) .none kV27 dc27 pm27 an27 cd27 ct27),sl27⟩) (c27:PySem.W.codeIn K cd27 "_law_odd_word" = true) (k27:PySem.W.keepIn K (.ref f27) = true)
    {f28:Addr} {od28 an28:Option Addr} {sl28:Array (Option Value)} {oc28 kV28 dc28 pm28 cd28 ct28:Value}
    (a28:PySem.W.nsIn K mainGlobals "_law_short" = some (some (.ref f28)))
    (l28:K.lookup f28 = some ⟨oc28,od28,.func (PySem.W.fnOf "_law_short" "_law_short" (defArgs s__law_short) (defBody s__law_short) (defScope s__law_short) .none kV28 dc28 pm28 an28 cd28 ct28),sl28⟩) (c28:PySem.W.codeIn K cd28 "_law_short" = true) (k28:PySem.W.keepIn K (.ref f28) = true)
    {f29:Addr} {od29 an29:Option Addr} {sl29:Array (Option Value)} {oc29 kV29 dc29 pm29 cd29 ct29:Value}
    (a29:PySem.W.nsIn K mainGlobals "_law_spoilt_sign" = some (some (.ref f29)))
    (l29:K.lookup f29 = some ⟨oc29,od29,.func (PySem.W.fnOf "_law_spoilt_sign" "_law_spoilt_sign" (defArgs s__law_spoilt_sign) (defBody s__law_spoilt_sign) (defScope s__law_spoilt_sign) .none kV29 dc29 pm29 an29 cd29 ct29),sl29⟩) (c29:PySem.W.codeIn K cd29 "_law_spoilt_sign" = true) (k29:PySem.W.keepIn K (.ref f29) = true)
    {f30:Addr} {od30 an30:Option Addr} {sl30:Array (Option Value)} {oc30 kV30 dc30 pm30 cd30 ct30:Value}
    (a30:PySem.W.nsIn K mainGlobals "_law_spoilt_word" = some (some (.ref f30)))
    (l30:K.lookup f30 = some ⟨oc30,od30,.func (PySem.W.fnOf "_law_spoilt_word" "_law_spoilt_word" (defArgs s__law_spoilt_word) (defBody s__law_spoilt_word) (defScope s__law_spoilt_word) .none kV30 dc30 pm30 an30 cd30 ct30),sl30⟩) (c30:PySem.W.codeIn K cd30 "_law_spoilt_word" = true) (k30:PySem.W.keepIn K (.ref f30) = true)
    {f31:Addr} {od31 an31:Option Addr} {sl31:Array (Option Value)} {oc31 kV31 dc31 pm31 cd31 ct31:Value}
    (a31:PySem.W.nsIn K mainGlobals "_law_number" = some (some (.ref f31)))
    (l31:K.lookup f31 = some ⟨oc31,od31,.func (PySem.W.fnOf "_law_number" "_law_number" (defArgs s__law_number) (defBody s__law_number) (defScope s__law_number) .none kV31 dc31 pm31 an31 cd31 ct31),sl31⟩) (c31:PySem.W.codeIn K cd31 "_law_number" = true) (k31:PySem.W.keepIn K (.ref f31) = true)
    {f32:Addr} {od32 an32:Option Addr} {sl32:Array (Option Value)} {oc32 kV32 dc32 pm32 cd32 ct32:Value}
    (a32:PySem.W.nsIn K mainGlobals "_law_row" = some (some (.ref f32)))
    (l32:K.lookup f32 = some ⟨oc32,od32,.func (PySem.W.fnOf "_law_row" "_law_row" (defArgs s__law_row) (defBody s__law_row) (defScope s__law_row) .none kV32 dc32 pm32 an32 cd32 ct32),sl32⟩) (c32:PySem.W.codeIn K cd32 "_law_row" = true) (k32:PySem.W.keepIn K (.ref f32) = true)
    {f33:Addr} {od33 an33:Option Addr} {sl33:Array (Option Value)} {oc33 kV33 dc33 pm33 cd33 ct33:Value}
    (a33:PySem.W.nsIn K mainGlobals "_law_read" = some (some (.ref f33)))
    (l33:K.lookup f33 = some ⟨oc33,od33,.func (PySem.W.fnOf "_law_read" "_law_read" (defArgs s__law_read) (defBody s__law_read) (defScope s__law_read) .none kV33 dc33 pm33 an33 cd33 ct33),sl33⟩) (c33:PySem.W.codeIn K cd33 "_law_read" = true) (k33:PySem.W.keepIn K (.ref f33) = true)
    {f34:Addr} {od34 an34:Option Addr} {sl34:Array (Option Value)} {oc34 kV34 dc34 pm34 cd34 ct34:Value}
    (a34:PySem.W.nsIn K mainGlobals "_law_refused" = some (some (.ref f34)))
    (l34:K.lookup f34 = some ⟨oc34,od34,.func (PySem.W.fnOf "_law_refused" "_law_refused" (defArgs s__law_refused) (defBody s__law_refused) (defScope s__law_refused) .none kV34 dc34 pm34 an34 cd34 ct34),sl34⟩) (c34:PySem.W.codeIn K cd34 "_law_refused" = true) (k34:PySem.W.keepIn K (.ref f34) = true)
    {f35:Addr} {od35 an35:Option Addr} {sl35:Array (Option Value)} {oc35 kV35 dc35 pm35 cd35 ct35:Value}
    (a35:PySem.W.nsIn K mainGlobals "law" = some (some (.ref f35)))
    (l35:K.lookup f35 = some ⟨oc35,od35,.func (PySem.W.fnOf "law" "law" (defArgs s_law) (defBody s_law) (defScope s_law) .none kV35 dc35 pm35 an35 cd35 ct35),sl35⟩) (c35:PySem.W.codeIn K cd35 "law" = true) (k35:PySem.W.keepIn K (.ref f35) = true)
    (ga_Piece:PySem.W.specialIn K (.ref C_Piece) "__getattribute__" = some (some (.builtin "type.__getattribute__"))) (rd_Piece:PySem.W.readsIn K C_Piece (.type "type") = true) (fc_Piece___init__:PySem.W.findCls K (.ref C_Piece) (.type "type") "__init__" = some (.val (.ref f4)))
    (z_len:PySem.W.nsIn K mainGlobals "len" = some none)
    (z_isinstance:PySem.W.nsIn K mainGlobals "isinstance" = some none)
    (z_int:PySem.W.nsIn K mainGlobals "int" = some none)
    (z_bool:PySem.W.nsIn K mainGlobals "bool" = some none)
    (z_str:PySem.W.nsIn K mainGlobals "str" = some none)
    (z_list:PySem.W.nsIn K mainGlobals "list" = some none)
    (z_tuple:PySem.W.nsIn K mainGlobals "tuple" = some none)
    (z_range:PySem.W.nsIn K mainGlobals "range" = some none)
    (z_min:PySem.W.nsIn K mainGlobals "min" = some none)
    (z_max:PySem.W.nsIn K mainGlobals "max" = some none)
    (z_sorted:PySem.W.nsIn K mainGlobals "sorted" = some none)
    (z_set:PySem.W.nsIn K mainGlobals "set" = some none)
    (z_zip:PySem.W.nsIn K mainGlobals "zip" = some none)
    (z_all:PySem.W.nsIn K mainGlobals "all" = some none)
    (z_ValueError:PySem.W.nsIn K mainGlobals "ValueError" = some none)
    (kw:PySem.W.mroIn K C_NoWord (.ref C_NoWord) = some true)
    (kl:PySem.W.mroIn K C_NoLine (.ref C_NoLine) = some true)
    (kt1:PySem.W.kitOne K (.ref C_NoLine) (.ref C_NoWord) = some false)
    (kt2:PySem.W.kitOne K (.ref C_NoLine) (.ref C_KeepError) = some true)
    (kt3:PySem.W.kitOne K (.ref C_NoLine) (.type "ValueError") = some true)
    (clgX:PySem.W.specialIn K (.builtin "object.__class__") "__get__" = some (some (.builtin "getset_descriptor.__get__")))
    (cltX:PySem.W.takesIn K (.builtin "object.__class__") = some true)
    (ic_Whole:PySem.W.findIn K (.ref C_Whole) "__class__" = some (some (.builtin "object.__class__")))
    (io_Whole:PySem.W.mroIn K C_Whole (.type "object") = some true)
    (k_Whole_Whole:PySem.W.kitOne K (.ref C_Whole) (.ref C_Whole) = some true)
    (k_Whole_Gain:PySem.W.kitOne K (.ref C_Whole) (.ref C_Gain) = some false)
    (ic_Gain:PySem.W.findIn K (.ref C_Gain) "__class__" = some (some (.builtin "object.__class__")))
    (io_Gain:PySem.W.mroIn K C_Gain (.type "object") = some true)
    (k_Gain_Whole:PySem.W.kitOne K (.ref C_Gain) (.ref C_Whole) = some false)
    (k_Gain_Gain:PySem.W.kitOne K (.ref C_Gain) (.ref C_Gain) = some true)
   :∃ fd:FuncData,(∀ (s:Shared) (v:Value),BindsTo s fd ⟨[v],[]⟩ [("_law_script",v)]) /\ ∀ base:Heap,K.In base->base.Ns mainGlobals mg->FnOk l.prog w K mg base (CXx l.prog w) 9 fa fd ["_law_script"] (sp_law K):=by
  have e:=hfa.symm.trans (PySem.W.mg_of X G a35)
  cases e
  have D_gd_DAYS_TOLD:GD l.prog w K C_DAYS_TOLD [(Sum.inr (Str.ofString "whole"),V.int 1),(Sum.inr (Str.ofString "gain"),V.int 2)]:=gd2 (by decide +kernel) gs_DAYS_TOLD gl_DAYS_TOLD
  have T:Txt K mg t_W t_MOST_BLOCKS t_MOST_FIGURES t_MOST_DAY t_FIGURES t_CHECK_FIGURES C_KeepError C_NoWord C_NoLine C_Piece C_Whole C_Gain C_DAYS_TOLD:=⟨PySem.W.mg_of X G g_W,PySem.W.mg_of X G g_MOST_BLOCKS,PySem.W.mg_of X G g_MOST_FIGURES,PySem.W.mg_of X G g_MOST_DAY,PySem.W.mg_of X G g_FIGURES,PySem.W.mg_of X G g_CHECK_FIGURES,PySem.W.mg_of X G a_KeepError,⟨xo_KeepError,xs_KeepError,xg_KeepError,xh_KeepError,xc_KeepError,clg,clt⟩,PySem.W.mg_of X G a_NoWord,⟨xo_NoWord,xs_NoWord,xg_NoWord,xh_NoWord,xc_NoWord,clg,clt⟩,n_NoWord_word,PySem.W.mg_of X G a_NoLine,⟨xo_NoLine,xs_NoLine,xg_NoLine,xh_NoLine,xc_NoLine,clg,clt⟩,n_NoLine_line,PySem.W.mg_of X G a_Piece,PySem.W.mg_of X G a_Whole,⟨pg_Whole,hd_Whole,po_Whole,sa_Whole⟩,n_Whole_day,n_Whole_rows,n_Whole_check,n_Whole_fits,PySem.W.mg_of X G a_Gain,⟨pg_Gain,hd_Gain,po_Gain,sa_Gain⟩,n_Gain_day,n_Gain_rows,n_Gain_check,n_Gain_fits,n_Gain_base,PySem.W.mg_of X G a_DAYS_TOLD,PySem.W.mg_none_of X G z_len,PySem.W.mg_none_of X G z_isinstance,PySem.W.mg_none_of X G z_int,PySem.W.mg_none_of X G z_bool,PySem.W.mg_none_of X G z_str,PySem.W.mg_none_of X G z_list,PySem.W.mg_none_of X G z_tuple,PySem.W.mg_none_of X G z_range,PySem.W.mg_none_of X G z_min,PySem.W.mg_none_of X G z_max,PySem.W.mg_none_of X G z_sorted,PySem.W.mg_none_of X G z_set,PySem.W.mg_none_of X G z_zip,PySem.W.mg_none_of X G z_all,PySem.W.mg_none_of X G z_ValueError,kw,kl,kt1,kt2,kt3,clgX,cltX,ic_Whole,io_Whole,k_Whole_Whole,k_Whole_Gain,ic_Gain,io_Gain,k_Gain_Whole,k_Gain_Gain⟩
  have F0:=fun_mk (st:=s_NoWord___init__) l0 c0 k0
  have b0:=F0.binds (ps:=["self","word"]) fun _ _ _ _ _ _ us hl=>ln2 us hl fun _ _=>rfl
  have F1:=fun_mk (st:=s_NoLine___init__) l1 c1 k1
  have b1:=F1.binds (ps:=["self","line"]) fun _ _ _ _ _ _ us hl=>ln2 us hl fun _ _=>rfl
  have F2:=fun_mk (st:=s_turned) l2 c2 k2
  have b2:=F2.binds (ps:=["number"]) fun _ _ _ _ _ _ us hl=>ln1 us hl fun _=>rfl
  have F3:=fun_mk (st:=s_check_of) l3 c3 k3
  have b3:=F3.binds (ps:=["start","day","rows"]) fun _ _ _ _ _ _ us hl=>ln3 us hl fun _ _ _=>rfl
  have F4:=fun_mk (st:=s_Piece___init__) l4 c4 k4
  have b4:=F4.binds (ps:=["self","start","day","rows","check"]) fun _ _ _ _ _ _ us hl=>ln5 us hl fun _ _ _ _ _=>rfl
  have F5:=fund_mk (st:=s_Whole___init__) l5 c5 k5
  have b5:=F5.binds (ps:=["self","day","rows","check"]) (ds:=[]) y5 rfl fun _ _ _ _ _ _ us hl=>ln4 us hl fun _ _ _ _=>⟨_,rfl,rfl⟩
  have b_Whole___init___d1:=F5.binds (ps:=["self","day","rows","check"]) (ds:=[Value.none]) y5 rfl fun _ _ _ _ _ _ us hl=>ln3 us (by simpa using hl) fun _ _ _=>⟨_,rfl,rfl⟩
  have F6:=fun_mk (st:=s_Whole_kind) l6 c6 k6
  have b6:=F6.binds (ps:=["self"]) fun _ _ _ _ _ _ us hl=>ln1 us hl fun _=>rfl
  have F7:=fund_mk (st:=s_Gain___init__) l7 c7 k7
  have b7:=F7.binds (ps:=["self","base","day","rows","check"]) (ds:=[]) y7 rfl fun _ _ _ _ _ _ us hl=>ln5 us hl fun _ _ _ _ _=>⟨_,rfl,rfl⟩
  have b_Gain___init___d1:=F7.binds (ps:=["self","base","day","rows","check"]) (ds:=[Value.none]) y7 rfl fun _ _ _ _ _ _ us hl=>ln4 us (by simpa using hl) fun _ _ _ _=>⟨_,rfl,rfl⟩
  have F8:=fun_mk (st:=s_Gain_kind) l8 c8 k8
  have b8:=F8.binds (ps:=["self"]) fun _ _ _ _ _ _ us hl=>ln1 us hl fun _=>rfl
  have F9:=fun_mk (st:=s_writes_number) l9 c9 k9
  have b9:=F9.binds (ps:=["word"]) fun _ _ _ _ _ _ us hl=>ln1 us hl fun _=>rfl
  have F10:=fun_mk (st:=s_number_of) l10 c10 k10
  have b10:=F10.binds (ps:=["word"]) fun _ _ _ _ _ _ us hl=>ln1 us hl fun _=>rfl
  have F11:=fun_mk (st:=s_change_of) l11 c11 k11
  have b11:=F11.binds (ps:=["word"]) fun _ _ _ _ _ _ us hl=>ln1 us hl fun _=>rfl
  have F12:=fun_mk (st:=s_piece_of) l12 c12 k12
  have b12:=F12.binds (ps:=["line"]) fun _ _ _ _ _ _ us hl=>ln1 us hl fun _=>rfl
  have F13:=fun_mk (st:=s_piece_by_words) l13 c13 k13
  have b13:=F13.binds (ps:=["words","many"]) fun _ _ _ _ _ _ us hl=>ln2 us hl fun _ _=>rfl
  have F14:=fun_mk (st:=s_check_by_word) l14 c14 k14
  have b14:=F14.binds (ps:=["word"]) fun _ _ _ _ _ _ us hl=>ln1 us hl fun _=>rfl
  have F15:=fun_mk (st:=s_is_within) l15 c15 k15
  have b15:=F15.binds (ps:=["piece"]) fun _ _ _ _ _ _ us hl=>ln1 us hl fun _=>rfl
  have F16:=fun_mk (st:=s_is_formed) l16 c16 k16
  have b16:=F16.binds (ps:=["piece"]) fun _ _ _ _ _ _ us hl=>ln1 us hl fun _=>rfl
  have F17:=fun_mk (st:=s__law_cell) l17 c17 k17
  have b17:=F17.binds (ps:=["_law_script","_law_k"]) fun _ _ _ _ _ _ us hl=>ln2 us hl fun _ _=>rfl
  have F18:=fun_mk (st:=s__law_whole) l18 c18 k18
  have b18:=F18.binds (ps:=["_law_found"]) fun _ _ _ _ _ _ us hl=>ln1 us hl fun _=>rfl
  have F19:=fun_mk (st:=s__law_stir) l19 c19 k19
  have b19:=F19.binds (ps:=["_law_cell_here","_law_k"]) fun _ _ _ _ _ _ us hl=>ln2 us hl fun _ _=>rfl
  have F20:=fun_mk (st:=s__law_block) l20 c20 k20
  have b20:=F20.binds (ps:=["_law_cell_here","_law_k"]) fun _ _ _ _ _ _ us hl=>ln2 us hl fun _ _=>rfl
  have F21:=fun_mk (st:=s__law_base) l21 c21 k21
  have b21:=F21.binds (ps:=["_law_cell_here"]) fun _ _ _ _ _ _ us hl=>ln1 us hl fun _=>rfl
  have F22:=fun_mk (st:=s__law_after) l22 c22 k22
  have b22:=F22.binds (ps:=["_law_base_here","_law_cell_here"]) fun _ _ _ _ _ _ us hl=>ln2 us hl fun _ _=>rfl
  have F23:=fun_mk (st:=s__law_rows) l23 c23 k23
  have b23:=F23.binds (ps:=["_law_script","_law_begin","_law_wide","_law_whole_here"]) fun _ _ _ _ _ _ us hl=>ln4 us hl fun _ _ _ _=>rfl
  have F24:=fun_mk (st:=s__law_same_rows) l24 c24 k24
  have b24:=F24.binds (ps:=["_law_found","_law_rows_here"]) fun _ _ _ _ _ _ us hl=>ln2 us hl fun _ _=>rfl
  have F25:=fun_mk (st:=s__law_line) l25 c25 k25
  have b25:=F25.binds (ps:=["_law_whole_here","_law_base_here","_law_day","_law_rows_here","_law_check"]) fun _ _ _ _ _ _ us hl=>ln5 us hl fun _ _ _ _ _=>rfl
  have F26:=fun_mk (st:=s__law_sign) l26 c26 k26
  have b26:=F26.binds (ps:=["_law_cell_here"]) fun _ _ _ _ _ _ us hl=>ln1 us hl fun _=>rfl
  have F27:=fun_mk (st:=s__law_odd_word) l27 c27 k27
  have b27:=F27.binds (ps:=["_law_cell_here"]) fun _ _ _ _ _ _ us hl=>ln1 us hl fun _=>rfl
  have F28:=fun_mk (st:=s__law_short) l28 c28 k28
  have b28:=F28.binds (ps:=["_law_cell_here"]) fun _ _ _ _ _ _ us hl=>ln1 us hl fun _=>rfl
  have F29:=fun_mk (st:=s__law_spoilt_sign) l29 c29 k29
  have b29:=F29.binds (ps:=["_law_line_here","_law_way","_law_cell_here","_law_other"]) fun _ _ _ _ _ _ us hl=>ln4 us hl fun _ _ _ _=>rfl
  have F30:=fun_mk (st:=s__law_spoilt_word) l30 c30 k30
  have b30:=F30.binds (ps:=["_law_line_here","_law_way","_law_cell_here","_law_other"]) fun _ _ _ _ _ _ us hl=>ln4 us hl fun _ _ _ _=>rfl
  have F31:=fun_mk (st:=s__law_number) l31 c31 k31
  have b31:=F31.binds (ps:=["_law_word"]) fun _ _ _ _ _ _ us hl=>ln1 us hl fun _=>rfl
  have F32:=fun_mk (st:=s__law_row) l32 c32 k32
  have b32:=F32.binds (ps:=["_law_word"]) fun _ _ _ _ _ _ us hl=>ln1 us hl fun _=>rfl
  have F33:=fun_mk (st:=s__law_read) l33 c33 k33
  have b33:=F33.binds (ps:=["_law_line_here"]) fun _ _ _ _ _ _ us hl=>ln1 us hl fun _=>rfl
  have F34:=fun_mk (st:=s__law_refused) l34 c34 k34
  have b34:=F34.binds (ps:=["_law_line_here"]) fun _ _ _ _ _ _ us hl=>ln1 us hl fun _=>rfl
  have F35:=fun_mk (st:=s_law) l35 c35 k35
  have b35:=F35.binds (ps:=["_law_script"]) fun _ _ _ _ _ _ us hl=>ln1 us hl fun _=>rfl
  refine ⟨PySem.W.fnOf "law" "law" (defArgs s_law) (defBody s_law) (defScope s_law) .none kV35 dc35 pm35 an35 cd35 ct35,fun s v=>.of_eq rfl,fun base _ _=>?_⟩
  have D_NoWord:ExcX l.prog w K mg base "NoWord" C_NoWord 1 ["self","word"] (sp_x1 C_NoWord "word"):=⟨_,_,PySem.W.mg_of X G a_NoWord,⟨T.x_NoWord,a0,i0,kc_NoWord⟩,ok_NoWord___init__ F0 T ,b0⟩
  have D_NoLine:ExcX l.prog w K mg base "NoLine" C_NoLine 1 ["self","line"] (sp_x1 C_NoLine "line"):=⟨_,_,PySem.W.mg_of X G a_NoLine,⟨T.x_NoLine,a1,i1,kc_NoLine⟩,ok_NoLine___init__ F1 T ,b1⟩
  have D_NoLineH:ExcXH l.prog w K mg base "NoLine" C_NoLine 1 ["self","line"] (sp_x1 C_NoLine "line"):=⟨_,_,PySem.W.mg_of X G a_NoLine,⟨T.x_NoLine,a1,i1,kc_NoLine⟩,okH_NoLine___init__ F1 T,b1⟩
  have D_turned:DefX l.prog w K mg base "turned" 1 ["number"] sp_turned:=⟨_,_,PySem.W.mg_of X G a2,ok_turned F2 T ,k2,b2⟩
  have D_check_of:DefX l.prog w K mg base "check_of" 2 ["start","day","rows"] sp_check:=⟨_,_,PySem.W.mg_of X G a3,ok_check_of F3 T D_turned,k3,b3⟩
  have D_Piece___init__:ClsX l.prog w K mg base "Piece" C_Piece "__init__" 3 ["self","start","day","rows","check"] (sp_pinit K):=⟨_,_,PySem.W.mg_of X G a_Piece,⟨ga_Piece,rd_Piece,fc_Piece___init__,k4⟩,ok_Piece___init__ F4 T D_check_of,b4⟩
  have D_Whole:MakeX l.prog w K mg base "Whole" C_Whole 4 ["self","day","rows","check"] (sp_winit C_Whole C_Gain):=⟨_,_,PySem.W.mg_of X G a_Whole,⟨mk_Whole,a5,i5,kc_Whole⟩,ok_Whole___init__ F5 T D_Piece___init__,b5⟩
  have D_Whole_kind:MethX l.prog w K mg base C_Whole "kind" 1 ["self"] sp_wkind:=⟨_,_,⟨a6,i6,k6⟩,ok_Whole_kind F6 T ,b6⟩
  have D_Gain:MakeX l.prog w K mg base "Gain" C_Gain 4 ["self","base","day","rows","check"] (sp_ginit C_Whole C_Gain):=⟨_,_,PySem.W.mg_of X G a_Gain,⟨mk_Gain,a7,i7,kc_Gain⟩,ok_Gain___init__ F7 T D_Piece___init__,b7⟩
  have D_Gain_kind:MethX l.prog w K mg base C_Gain "kind" 1 ["self"] sp_gkind:=⟨_,_,⟨a8,i8,k8⟩,ok_Gain_kind F8 T ,b8⟩
  have D_writes_number:DefX l.prog w K mg base "writes_number" 1 ["word"] sp_writes:=⟨_,_,PySem.W.mg_of X G a9,ok_writes_number F9 T ,k9,b9⟩
  have D_number_of:DefX l.prog w K mg base "number_of" 3 ["word"] (sp_number C_NoWord):=⟨_,_,PySem.W.mg_of X G a10,ok_number_of F10 T D_writes_number D_NoWord,k10,b10⟩
  have D_change_of:DefX l.prog w K mg base "change_of" 3 ["word"] (sp_changeG C_NoWord):=⟨_,_,PySem.W.mg_of X G a11,ok_change_of F11 T D_writes_number D_NoWord,k11,b11⟩
  have D_check_by_word:DefX l.prog w K mg base "check_by_word" 3 ["word"] (sp_bywordG C_NoWord):=⟨_,_,PySem.W.mg_of X G a14,ok_check_by_word F14 T D_NoWord,k14,b14⟩
  have D_piece_by_words:DefX l.prog w K mg base "piece_by_words" 6 ["words","many"] (sp_bywordsG C_Whole C_Gain C_NoWord):=⟨_,_,PySem.W.mg_of X G a13,ok_piece_by_words F13 T D_number_of D_change_of D_check_by_word D_Whole D_Gain,k13,b13⟩
  have D_is_formed:DefX l.prog w K mg base "is_formed" 2 ["piece"] (sp_formedG C_Whole C_Gain):=⟨_,_,PySem.W.mg_of X G a16,ok_is_formed F16 T D_Gain_kind D_Whole_kind,k16,b16⟩
  have D_is_within:DefX l.prog w K mg base "is_within" 1 ["piece"] (sp_withinG C_Whole C_Gain):=⟨_,_,PySem.W.mg_of X G a15,ok_is_within F15 T ,k15,b15⟩
  have D_piece_of:DefX l.prog w K mg base "piece_of" 7 ["line"] (sp_pieceofG C_Whole C_Gain C_NoLine):=⟨_,_,PySem.W.mg_of X G a12,ok_piece_of F12 T D_gd_DAYS_TOLD D_NoLine D_piece_by_words D_NoLineH D_is_formed D_is_within,k12,b12⟩
  have D__law_cell:DefX l.prog w K mg base "_law_cell" 1 ["_law_script","_law_k"] (sp_cell K):=⟨_,_,PySem.W.mg_of X G a17,ok__law_cell F17 T ,k17,b17⟩
  have D__law_whole:DefX l.prog w K mg base "_law_whole" 1 ["_law_found"] sp_whole:=⟨_,_,PySem.W.mg_of X G a18,ok__law_whole F18 T ,k18,b18⟩
  have D__law_stir:DefX l.prog w K mg base "_law_stir" 1 ["_law_cell_here","_law_k"] sp_stir:=⟨_,_,PySem.W.mg_of X G a19,ok__law_stir F19 T ,k19,b19⟩
  have D__law_block:DefX l.prog w K mg base "_law_block" 2 ["_law_cell_here","_law_k"] sp_block:=⟨_,_,PySem.W.mg_of X G a20,ok__law_block F20 T D__law_stir,k20,b20⟩
  have D__law_base:DefX l.prog w K mg base "_law_base" 1 ["_law_cell_here"] sp_base:=⟨_,_,PySem.W.mg_of X G a21,ok__law_base F21 T ,k21,b21⟩
  have D__law_after:DefX l.prog w K mg base "_law_after" 1 ["_law_base_here","_law_cell_here"] sp_after:=⟨_,_,PySem.W.mg_of X G a22,ok__law_after F22 T ,k22,b22⟩
  have D__law_rows:DefX l.prog w K mg base "_law_rows" 3 ["_law_script","_law_begin","_law_wide","_law_whole_here"] (sp_lrows20 K):=⟨_,_,PySem.W.mg_of X G a23,ok__law_rows F23 T D__law_cell D__law_stir D__law_block,k23,b23⟩
  have D__law_same_rows:DefX l.prog w K mg base "_law_same_rows" 2 ["_law_found","_law_rows_here"] sp_srows:=⟨_,_,PySem.W.mg_of X G a24,ok__law_same_rows F24 T D__law_whole,k24,b24⟩
  have D__law_line:DefX l.prog w K mg base "_law_line" 1 ["_law_whole_here","_law_base_here","_law_day","_law_rows_here","_law_check"] sp_llineW:=⟨_,_,PySem.W.mg_of X G a25,ok__law_line F25 T ,k25,b25⟩
  have D__law_sign:DefX l.prog w K mg base "_law_sign" 1 ["_law_cell_here"] sp_sign:=⟨_,_,PySem.W.mg_of X G a26,ok__law_sign F26 T ,k26,b26⟩
  have D__law_odd_word:DefX l.prog w K mg base "_law_odd_word" 1 ["_law_cell_here"] sp_odd:=⟨_,_,PySem.W.mg_of X G a27,ok__law_odd_word F27 T ,k27,b27⟩
  have D__law_short:DefX l.prog w K mg base "_law_short" 1 ["_law_cell_here"] sp_short:=⟨_,_,PySem.W.mg_of X G a28,ok__law_short F28 T ,k28,b28⟩
  have D__law_spoilt_sign:DefX l.prog w K mg base "_law_spoilt_sign" 2 ["_law_line_here","_law_way","_law_cell_here","_law_other"] sp_spsign:=⟨_,_,PySem.W.mg_of X G a29,ok__law_spoilt_sign F29 T D__law_sign,k29,b29⟩
  have D__law_spoilt_word:DefX l.prog w K mg base "_law_spoilt_word" 2 ["_law_line_here","_law_way","_law_cell_here","_law_other"] sp_spword:=⟨_,_,PySem.W.mg_of X G a30,ok__law_spoilt_word F30 T D__law_odd_word,k30,b30⟩
  have D__law_number:DefX l.prog w K mg base "_law_number" 1 ["_law_word"] sp_lnum:=⟨_,_,PySem.W.mg_of X G a31,ok__law_number F31 T ,k31,b31⟩
  have D__law_row:DefX l.prog w K mg base "_law_row" 2 ["_law_word"] sp_lrow:=⟨_,_,PySem.W.mg_of X G a32,ok__law_row F32 T D__law_number,k32,b32⟩
  have D__law_read:DefX l.prog w K mg base "_law_read" 3 ["_law_line_here"] sp_read:=⟨_,_,PySem.W.mg_of X G a33,ok__law_read F33 T D__law_number D__law_row D__law_line,k33,b33⟩
  have D__law_refused:DefX l.prog w K mg base "_law_refused" 8 ["_law_line_here"] sp_refused:=⟨_,_,PySem.W.mg_of X G a34,ok__law_refused F34 T D_piece_of,k34,b34⟩
  exact ok_law F35 T D__law_cell D__law_base D__law_after D__law_rows D__law_line D__law_spoilt_sign D__law_short D__law_spoilt_word D__law_read D__law_refused D_piece_of D__law_whole D__law_same_rows
theorem walk {l:PySem.W.OpenLaw} {q:Program} {loose:List Str} {XP:(Str->Option Value)->Heap->Prop} {YP:World->Heap->Prop} {d:DefRec} {K:Params->PySem.W.Frag} (hn:l.most = some 63) (hdf:d.params.defaults = [])
    (hY:∀ (w:World) (h:Heap),YP w h->(K w.params).In h)
    (F:∀ (w:World) (mg:Str->Option Value) (fa:Addr) (h:Heap),(K w.params).In h->h.Ns mainGlobals mg->mg d.name = some (.ref fa) →
      ∃ fd:FuncData,(∀ (s:Shared) (u:Value),BindsTo s fd ⟨[u],[]⟩ [("_law_script",u)]) /\ ∀ base:Heap,(K w.params).In base->base.Ns mainGlobals mg->FnOk l.prog w (K w.params) mg base (CXx l.prog w) 9 fa fd ["_law_script"] (sp_law (K w.params))) :
    PySem.W.WalkO q loose XP YP l.row.toRowW d [] (fun f vs=>PySem.call f vs) :=
  L2.walk_of (n:=63) (k:=9) (x:="_law_script") (CX:=fun w=>CXx l.prog w) (sp:=fun w=>sp_law (K w.params)) hn (by decide) hdf ⟨rfl,by decide,by decide⟩ hY F (fun _ _ a ns hl _ hS=>⟨a,ns,rfl,hS,hl,fun _=>rfl⟩) fun _ _ _ _ _ z=>L2.cxx_no z
end Mine
open PySem PySem.W PyProof.Rows
noncomputable def PySem.W.Fast.tw13243945687884648912:PySem.Program:=PySem.Challenge.pw_keepsakes_k20_lines_refused
theorem PySem.W.Fast.te13243945687884648912:PySem.Challenge.pw_keepsakes_k20_lines_refused = PySem.W.Fast.tw13243945687884648912:=rfl
namespace Hd
noncomputable section
open PySem
structure Sc where
  (a b c d e f g h i j k l m n o p q r s t u v w x y:Str)
noncomputable abbrev h0:Sc:=Sc.mk "<module>" "/claim/cut.py" "__main__" "__name__" "keepsakes.errors" "__doc__" "__package__" "__loader__" "__spec__" "__annotations__" "__builtins__" "__file__" "__cached__" "_wall" "W" "MOST_BLOCKS" "MOST_FIGURES" "MOST_DAY" "KeepError" "k" "__module__" "__qualname__" "__firstlineno__" "__static_attributes__" "__weakref__"
noncomputable abbrev h1:Sc:=Sc.mk "NoWord" "__init__" "self" "word" "NoWord.__init__" "keepsakes.pieces" "NoLine" "turned" "check_of" "line" "NoLine.__init__" "number" "keepsakes.checks" "start" "day" "rows" "numbers" "place" "block" "check" "Piece" "size" "is_good" "harmed" "Piece.__init__"
noncomputable abbrev h2:Sc:=Sc.mk "Piece.size" "Piece.is_good" "at" "bits" "Piece.harmed" "fits" "__dict__" "Whole" "kind" "laid" "with_rows" "Whole.__init__" "Whole.start" "Whole.kind" "table" "Whole.laid" "Whole.with_rows" "keepsakes.words" "Gain" "FIGURES" "0123456789" "base" "Gain.__init__" "Gain.start" "Gain.kind"
noncomputable abbrev h3:Sc:=Sc.mk "Gain.laid" "Gain.with_rows" "law_keepsakes_k20_lines_refused" "writes_number" "number_of" "change_of" "CHECK_FIGURES" "DAYS_TOLD" "piece_of" "piece_by_words" "check_by_word" "is_within" "is_formed" "_law_cell" "_law_whole" "_law_stir" "parts" "whole" "gain" "words" "piece" "keepsakes.lines" "_law_script" "_law_k" "_law_found"
noncomputable abbrev h4:Sc:=Sc.mk "_law_cell_here" "_law_number_here" "_law_block" "_law_base" "_law_after" "_law_rows" "_law_same_rows" "_law_line" "_law_sign" "_law_odd_word" "_law_short" "_law_spoilt_sign" "_law_spoilt_word" "_law_number" "_law_base_here" "_law_begin" "_law_wide" "_law_whole_here" "_law_rows_here" "_law_one" "_law_row_here" "_law_some" "_law_line_here" "_law_way" "_law_other"
noncomputable abbrev h5:Sc:=Sc.mk "_law_at" "_law_words" "_law_to" "_law_kept" "_law_word" "_law_sign_here" "_law_row" "_law_read" "_law_refused" "law" "_law_place" "_law_middle" "_law_block_here" "_law_told" "e" "_law_first" "_law_day" "_law_check" "_law_due" "" "" "" "" "" ""
noncomputable abbrev h6:=((((("tuple","code"),"frame"),(("dict","__main__.__loader__#opaque"),"function")),((("ValueError","builtin_function_or_method"),"type.__prepare__"),("type","Exception"))),(((("BaseException","object"),"ValueError.__new__"),("getset_descriptor","ExceptionGroup.__weakref__")),((("super","object.__init_subclass__"),"object.__new__"),("function.__dict__","function.__dict__#set"))))
abbrev X:Type:=(((Sc × Sc) × (Sc × Sc)) × ((Sc × Sc) × ((((((String × String) × String) × ((String × String) × String)) × (((String × String) × String) × (String × String))) × ((((String × String) × String) × (String × String)) × (((String × String) × String) × (String × String)))) × PySem.Program))) × PySem.Params
noncomputable abbrev hs:=(((h0,h1),(h2,h3)),((h4,h5),(h6,PySem.Challenge.pw_keepsakes_k20_lines_refused)))
lay_quick h0 h1 h2 h3 h4 h5 h6 PySem.Challenge.pw_keepsakes_k20_lines_refused
lay_quick hs
noncomputable abbrev l0 (x:X):=x.1.2.2.1.1.1.1.1.1
noncomputable abbrev l1 (x:X):=x.1.2.2.1.1.1.1.1.2
noncomputable abbrev l2 (x:X):=x.1.2.2.1.1.1.1.2
noncomputable abbrev l3 (x:X):=x.1.2.2.1.1.1.2.1.1
noncomputable abbrev l4 (x:X):=x.1.2.2.1.1.1.2.1.2
noncomputable abbrev l5 (x:X):=x.1.2.2.1.1.1.2.2
noncomputable abbrev l6 (x:X):=x.1.2.2.1.1.2.1.1.1
noncomputable abbrev l7 (x:X):=x.1.2.2.1.1.2.1.1.2
noncomputable abbrev l8 (x:X):=x.1.2.2.1.1.2.1.2
noncomputable abbrev l9 (x:X):=x.1.2.2.1.1.2.2.1
noncomputable abbrev l10 (x:X):=x.1.2.2.1.1.2.2.2
noncomputable abbrev l11 (x:X):=x.1.2.2.1.2.1.1.1.1
noncomputable abbrev l12 (x:X):=x.1.2.2.1.2.1.1.1.2
noncomputable abbrev l13 (x:X):=x.1.2.2.1.2.1.1.2
noncomputable abbrev l14 (x:X):=x.1.2.2.1.2.1.2.1
noncomputable abbrev l15 (x:X):=x.1.2.2.1.2.1.2.2
noncomputable abbrev l16 (x:X):=x.1.2.2.1.2.2.1.1.1
noncomputable abbrev l17 (x:X):=x.1.2.2.1.2.2.1.1.2
noncomputable abbrev l18 (x:X):=x.1.2.2.1.2.2.1.2
noncomputable abbrev l19 (x:X):=x.1.2.2.1.2.2.2.1
noncomputable abbrev l20 (x:X):=x.1.2.2.1.2.2.2.2
noncomputable abbrev C0 (x:X):=x.1.1.1.1
noncomputable abbrev C1 (x:X):=x.1.1.1.2
noncomputable abbrev C2 (x:X):=x.1.1.2.1
noncomputable abbrev C3 (x:X):=x.1.1.2.2
noncomputable abbrev C4 (x:X):=x.1.2.1.1
noncomputable abbrev C5 (x:X):=x.1.2.1.2
noncomputable abbrev b0 (x:X):=PySem.W.boot_o_0 x.2
noncomputable abbrev b1 (x:X):=PySem.W.boot_o_1 x.2
noncomputable abbrev b2 (x:X):=PySem.W.boot_o_2 x.2
noncomputable abbrev b3 (x:X):=PySem.W.boot_o_3 x.2
noncomputable abbrev b4 (x:X):=PySem.W.boot_o_4 x.2
noncomputable abbrev b5 (x:X):=PySem.W.boot_o_5 x.2
noncomputable abbrev b6 (x:X):=PySem.W.boot_o_6 x.2
noncomputable abbrev b7 (x:X):=PySem.W.boot_o_7 x.2
noncomputable abbrev b8 (x:X):=PySem.W.boot_o_8 x.2
noncomputable abbrev b9 (x:X):=PySem.W.boot_o_9 x.2
noncomputable abbrev b10 (x:X):=PySem.W.boot_o_10 x.2
noncomputable abbrev pg (x:X):PySem.Program:=x.1.2.2.2
def nth:List PySem.Stmt->Nat->PySem.Stmt:=fun l=>@List.rec PySem.Stmt (fun _=>Nat->PySem.Stmt) (fun _=>.Pass ⟨0,0,0,0⟩) (fun a _ ih n=>@Nat.rec (fun _=>PySem.Stmt) a (fun m _=>ih m) n) l
abbrev st (x:X) (k:Nat):PySem.Stmt:=nth (pg x).main.body k
def cb:PySem.Stmt->List PySem.Stmt | .ClassDef _ _ _ y _ _ _ _ _ _ _=>y | _=>[]
abbrev sm (x:X) (k m:Nat):PySem.Stmt:=nth (cb (st x k)) m
def f0:PySem.Stmt->Str | .FunctionDef y _ _ _ _ _ _ _ _ _=>y | _=>default
def f1:PySem.Stmt->Arguments | .FunctionDef _ y _ _ _ _ _ _ _ _=>y | _=>default
def f2:PySem.Stmt->List Stmt | .FunctionDef _ _ y _ _ _ _ _ _ _=>y | _=>[]
def f6:PySem.Stmt->Scope | .FunctionDef _ _ _ _ _ _ y _ _ _=>y | _=>default
noncomputable abbrev u0:=@PySem.Obj.mk
noncomputable abbrev u1:=@PySem.Value.type
noncomputable abbrev u2:=@Option.none.{0} (@Nat)
noncomputable abbrev u3:=@PySem.Data.seq
noncomputable abbrev u4:=@List.toArray.{0} (@PySem.Value)
noncomputable abbrev u5:=@List.nil.{0} (@PySem.Value)
noncomputable abbrev u6:=@List.toArray.{0} (@Option.{0} (@PySem.Value))
noncomputable abbrev u7:=@List.nil.{0} (@Option.{0} (@PySem.Value))
noncomputable abbrev u8:=@PySem.Value.none
noncomputable abbrev u9:=@PySem.Data.fields
noncomputable abbrev u10:=@List.cons.{0} (@PySem.Value)
noncomputable abbrev u11:=@PySem.Value.str
noncomputable abbrev u12:=@PySem.Value.int
noncomputable abbrev u13:=@PySem.Value.ref
noncomputable abbrev u14:=@PySem.Value.bool
noncomputable abbrev u15:=@Bool.false
noncomputable abbrev u16:=@PySem.Data.plain
noncomputable abbrev u17:=@List.cons.{0} (@Option.{0} (@PySem.Value))
noncomputable abbrev u18:=@Option.some.{0} (@PySem.Value)
noncomputable abbrev u19:=@Option.none.{0} (@PySem.Value)
noncomputable abbrev u20:=@PySem.Data.dict
noncomputable abbrev u21:=@List.toArray.{0} (@PySem.DictEntry)
noncomputable abbrev u22:=@List.cons.{0} (@PySem.DictEntry)
noncomputable abbrev u23:=@PySem.DictEntry.mk
noncomputable abbrev u24:=@PySem.PyData.keyHash
noncomputable abbrev u25:=@PySem.Value.builtin
noncomputable abbrev u26:=@List.nil.{0} (@PySem.DictEntry)
noncomputable abbrev u27:=@PySem.Data.func
noncomputable abbrev u28:=@PySem.FuncData.mk
noncomputable abbrev u29:=@PySem.FuncBody.stmts
noncomputable abbrev u30:=@List.nil.{0} (@Prod.{0,0} (@PySem.Str) (@Nat))
noncomputable abbrev u31:=@Bool.true
noncomputable abbrev u32:=@PySem.Data.cls
noncomputable abbrev u33:=@PySem.ClassData.mk
noncomputable abbrev u34:=@List.nil.{0} (@PySem.Str)
noncomputable abbrev u35:=@Option.none.{0} (@Bool)
noncomputable abbrev u36:=@List.cons.{0} (@Prod.{0,0} (@Nat) (@PySem.Obj))
noncomputable abbrev u37:=@Prod.mk.{0,0} (@Nat) (@PySem.Obj)
noncomputable abbrev u38:=@List.nil.{0} (@Prod.{0,0} (@Nat) (@PySem.Obj))
noncomputable abbrev u39:=@PySem.Heap.mk
noncomputable abbrev u40:=@Array.mk.{0} (@PySem.Obj)
noncomputable abbrev u41:=@List.cons.{0} (@PySem.Obj)
noncomputable abbrev u42:=@List.nil.{0} (@PySem.Obj)
noncomputable abbrev u43:=@PySem.Life.mk
noncomputable abbrev u44:=@List.nil.{0} (@Nat)
noncomputable abbrev u45:=@List.nil.{0} (@Prod.{0,0} (@Nat) (@Nat))
noncomputable abbrev u46:=@List.toArray.{0} (@Nat)
noncomputable abbrev u47:=@List.cons.{0} (@Int)
noncomputable abbrev u48:=@List.nil.{0} (@Int)
noncomputable abbrev u49:=@PySem.W.BT.node
noncomputable abbrev u50:=@PySem.W.BT.nil
noncomputable abbrev M (c:PySem.Value) (d:PySem.Data):PySem.Obj:=PySem.Obj.mk c none d #[]
noncomputable abbrev E (x:X) (s:PySem.Str) (n:Nat) (v:PySem.Value):PySem.DictEntry:=⟨PySem.PyData.keyHash x.2 s,.str s n,v⟩
noncomputable abbrev N (o:X->PySem.Obj) (l r:X->PySem.W.BT):X->PySem.W.BT:=fun x=>.node (o x) (l x) (r x)
noncomputable abbrev Z:X->PySem.W.BT:=fun _=>.nil
noncomputable abbrev Q (o:X->PySem.Obj) (l:X->List PySem.Obj):X->List PySem.Obj:=fun x=>o x :: l x
noncomputable abbrev R:X->List PySem.Obj:=fun _=>[]
noncomputable abbrev J (k:Nat) (o:X->PySem.Obj) (l:X->List (Nat × PySem.Obj)):X->List (Nat × PySem.Obj):=fun x=>(k,o x) :: l x
noncomputable abbrev I:X->List (Nat × PySem.Obj):=fun _=>[]
def inz:PySem.W.BT->Nat->PySem.Obj->PySem.W.BT
  | .nil,_,o=>.node o .nil .nil
  | .node v l r,i,o=>if i = 0 then .node o l r else if i % 2 = 1 then .node v (inz l (i / 2) o) r else .node v l (inz r (i / 2 - 1) o)
def gi:List (X->PySem.Obj)->Nat->X->PySem.W.BT->PySem.W.BT
  | [],_,_,t=>t
  | o :: l,k,x,t=>gi l (k + 1) x (inz t k (o x))
def G (t:X->PySem.W.BT) (k:Nat) (l:List (X->PySem.Obj)):X->PySem.W.BT:=fun x=>gi l k x (t x)
def ap {α:Type}:List α->List α->List α
  | [],l=>l
  | a :: k,l=>a :: ap k l
def sz {α:Type}:List α->Nat->α->List α
  | [],_,_=>[]
  | _ :: l,0,b=>b :: l
  | a :: l,i + 1,b=>a :: sz l i b
def mp (x:X):List (X->PySem.Obj)->List PySem.Obj
  | []=>[]
  | o :: l=>o x :: mp x l
def il {α:Type}:List α->List α->List α
  | [],l=>l
  | a :: k,[]=>a :: k
  | a :: k,b :: m=>a :: b :: il k m
def fl:PySem.W.BT->List PySem.Obj
  | .nil=>[]
  | .node o l r=>o :: il (fl l) (fl r)
def pj:List PySem.Obj->Nat->List Nat->List (Nat × PySem.Obj)
  | o :: l,k,a :: m=>if k = a then (a,o) :: pj l (k + 1) m else pj l (k + 1) (a :: m)
  | _,_,_=>[]
structure Nf {α:Type} (e:α) where
  v:α
  h:v = e
noncomputable abbrev nf {α:Type} (e:α) (t:Nf e:=by refine' ⟨_,?_⟩; rotate_left; dsimp [G,gi,inz,ap,sz,mp,il,fl,pj]; rfl):α:=t.v
def k0 (x:X):PySem.Obj:=(M (u1 (l0 x)) (u3 (u4 u5) 0))
def k1 (x:X) (a0:PySem.Str) (a1 a2 a3:Nat) (a4:Int) (a5 a6:Nat) (a7:Int) (a8:Nat):PySem.Obj:=(M (u1 (l1 x)) (u9 (u4 [(u11 a0 a1),(u11 a0 a2),(u11 (C0 x).b a3),(u12 a4 0),(u12 0 0),(u12 0 0),(u12 0 0),(u12 0 0),(u13 a5),(u14 u15),(u12 181 0),(u13 a6),u8,u8,u8,u8,(u12 a7 0),(u12 a4 0),(u11 (C0 x).b a8)])))
def k2 (x:X) (a0 a1:Nat) (a2:PySem.Str) (a3:Nat):PySem.Obj:=(u0 (u1 (l2 x)) u2 u16 (u6 [(u18 (u13 a0)),(u18 (u13 3)),(u18 (u13 a1)),u19,(u18 (u11 a2 a3)),u19,(u18 (u13 0))]))
def k3 (x:X) (a0:PySem.Str) (a1:Nat):PySem.Obj:=(M (u1 (l0 x)) (u3 (u4 [(u11 a0 a1)]) 0))
def k4 (x:X) (a0:PySem.Str) (a1 a2:PySem.Stmt):PySem.Obj:=(M u8 (u27 (u28 a0 a0 (f1 a1) (u29 (f2 a1)) (f6 a2) 0 u30 u8 u8 u8 u8 u2 u8 u8 0)))
def k5 (x:X) (a0:PySem.Str) (a1:Nat) (a2:PySem.Str) (a3 a4:Nat) (a5 a6:Int) (a7 a8 a9 a10 a11:Nat) (a12:Int) (a13:Nat):PySem.Obj:=(M (u1 (l1 x)) (u9 (u4 [(u11 a0 a1),(u11 a2 a3),(u11 (C0 x).b a4),(u12 a5 0),(u12 a6 0),(u12 0 0),(u12 0 0),(u12 3 0),(u13 a7),(u14 u31),(u12 181 0),(u13 a8),u8,(u13 a9),(u13 a10),(u13 a11),(u12 a12 0),(u12 a5 0),(u11 (C0 x).b a13)])))
def k6 (x:X) (a0:PySem.Str) (a1 a2:PySem.Stmt) (a3:PySem.Str) (a4 a5:Nat):PySem.Obj:=(M (u1 (l5 x)) (u27 (u28 a0 a0 (f1 a1) (u29 (f2 a1)) (f6 a2) 3 u30 u8 u8 u8 (u11 a3 a4) u2 (u13 a5) u8 0)))
def k7 (x:X):PySem.Obj:=(M (u1 (l7 x)) (u9 (u4 [(u25 (l8 x)),(u1 (l9 x))])))
def k8 (x:X) (a0 a1:Nat) (a2:Int) (a3:Nat) (a4:PySem.Str) (a5 a6:Nat) (a7:PySem.Str) (a8 a9 a10 a11:Nat):PySem.Obj:=(M (u1 (l3 x)) (u20 (u21 [(E x (C0 x).u a0 (u11 (C0 x).e 202)),(E x (C0 x).w a1 (u12 a2 a3)),(E x a4 a5 (u13 a6)),(E x a7 a8 (u13 a9)),(E x (C0 x).f a10 u8)]) a11))
def k9 (x:X) (a0:Nat):PySem.Obj:=(M (u1 (l16 x)) (u9 (u4 [(u13 a0),(u13 a0),(u13 a0)])))
def k10 (x:X) (a0:Nat):PySem.Obj:=(M (u1 (l7 x)) (u9 (u4 [(u25 (l17 x)),(u13 a0)])))
def k11 (x:X) (a0:Nat):PySem.Obj:=(M (u1 (l0 x)) (u3 (u4 [(u13 a0)]) 0))
def k12 (x:X) (a0:PySem.Str) (a1:Nat) (a2:PySem.Str) (a3:Nat):PySem.Obj:=(M (u1 (l0 x)) (u3 (u4 [(u11 a0 a1),(u11 a2 a3)]) 0))
def k13 (x:X) (a0 a1:PySem.Str) (a2 a3:PySem.Stmt):PySem.Obj:=(M u8 (u27 (u28 a0 a1 (f1 a2) (u29 (f2 a2)) (f6 a3) 0 u30 u8 u8 u8 u8 u2 u8 u8 0)))
def k14 (x:X) (a0 a1:PySem.Str) (a2 a3:PySem.Stmt) (a4:PySem.Str) (a5 a6:Nat):PySem.Obj:=(M (u1 (l5 x)) (u27 (u28 a0 a1 (f1 a2) (u29 (f2 a2)) (f6 a3) 3 u30 u8 u8 u8 (u11 a4 a5) u2 (u13 a6) u8 0)))
def k15 (x:X) (a0:PySem.Str) (a1:Nat) (a2:PySem.Str) (a3 a4:Nat) (a5 a6:Int) (a7 a8 a9:Nat) (a10:Int) (a11:Nat):PySem.Obj:=(M (u1 (l1 x)) (u9 (u4 [(u11 a0 a1),(u11 a2 a3),(u11 (C0 x).b a4),(u12 a5 0),(u12 a6 0),(u12 0 0),(u12 0 0),(u12 3 0),(u13 a7),(u14 u31),(u12 181 0),(u13 a8),u8,u8,u8,(u13 a9),(u12 a10 0),(u12 a5 0),(u11 (C0 x).b a11)])))
def k16 (x:X) (a0:PySem.Str) (a1:Nat) (a2:PySem.Str) (a3:Nat) (a4:PySem.Str) (a5:Nat):PySem.Obj:=(M (u1 (l0 x)) (u3 (u4 [(u11 a0 a1),(u11 a2 a3),(u11 a4 a5)]) 0))
def k17 (x:X) (a0:PySem.Str) (a1:Nat) (a2:PySem.Str) (a3:Nat) (a4:PySem.Str) (a5:Nat) (a6:PySem.Str) (a7:Nat):PySem.Obj:=(M (u1 (l0 x)) (u3 (u4 [(u11 a0 a1),(u11 a2 a3),(u11 a4 a5),(u11 a6 a7)]) 0))
def k18 (x:X) (a0 a1:PySem.Stmt):PySem.Obj:=(M u8 (u27 (u28 (f0 a0) (f0 a0) (f1 a0) (u29 (f2 a0)) (f6 a1) 0 u30 u8 u8 u8 u8 u2 u8 u8 0)))
def k19 (x:X) (a0 a1:PySem.Stmt) (a2:PySem.Str) (a3 a4:Nat):PySem.Obj:=(M (u1 (l5 x)) (u27 (u28 (f0 a0) (f0 a0) (f1 a0) (u29 (f2 a0)) (f6 a1) 3 u30 u8 u8 u8 (u11 a2 a3) u2 (u13 a4) u8 0)))
variable (x:X)
def o43:=k0 x 
def o44 (x:X):Obj:=(M u8 (u9 (u4 u5)))
def o45:=k1 x (C0 x).a 182 183 184 1 11 12 185 186
def o46:=k2 x 13 3 (C0 x).c 164
abbrev d0 (x:X):List (@PySem.DictEntry):=[(E x (C0 x).d 165 (u11 (C0 x).e 202)),(E x (C0 x).f 166 u8),(E x (C0 x).g 167 u8),(E x (C0 x).h 168 (u25 (l4 x))),(E x (C0 x).i 169 u8),(E x (C0 x).j 170 (u13 6)),(E x (C0 x).k 171 (u13 4)),(E x (C0 x).l 173 (u11 (C0 x).b 172)),(E x (C0 x).m 174 u8),(E x (C0 x).n 193 (u13 21)),(E x (C0 x).o 195 (u12 18446744073709551615 194)),(E x (C0 x).p 197 (u12 40 196)),(E x (C0 x).q 199 (u12 20 198)),(E x (C0 x).r 201 (u12 1000000000 200)),(E x (C0 x).s 221 (u13 31))]
def o49:=(M (u1 (l3 x)) (u20 (u21 (d0 x)) 15))
abbrev d1 (x:X):List (@PySem.Value):=[(u12 1 0),(u12 0 0),(u13 20),(u12 9 0),(u12 0 0),(u13 27)]
def o50:=(M u8 (u9 (u4 (d1 x))))
def o53:=k3 x (C0 x).t 190
def o55:=k4 x (C0 x).n (st x 0) (st x 0)
def o56:=k5 x (C0 x).n 187 (C0 x).n 188 189 1 1 15 16 17 18 19 191 192
def o57:=k6 x (C0 x).n (st x 0) (st x 0) (C0 x).c 164 20
def o58:=(M (u1 (l0 x)) (u3 (u4 [(u1 (l6 x))]) 0))
def o59:=k7 x 
def o60:=(M (u1 (l3 x)) (u20 (u21 [(E x (C0 x).u 211 (u11 (C0 x).e 202)),(E x (C0 x).v 213 (u11 (C0 x).s 212)),(E x (C0 x).w 215 (u12 9 214)),(E x (C0 x).x 216 (u13 29))]) 4))
def o63:=k1 x (C0 x).s 206 207 208 9 25 26 209 210
def o64:=k2 x 27 24 (C0 x).e 202
def o66:=k8 x 211 215 9 214 (C0 x).x 216 29 (C0 x).y 218 32 219 3
abbrev d3 (x:X):List (@PySem.Value):=[(u13 31),(u1 (l6 x)),(u1 (l10 x)),(u1 (l11 x)),(u1 (l12 x))]
abbrev d4 (x:X):List (@Option.{0} (@PySem.Value)):=[(u18 (u13 22)),u19,(u18 (u11 (C0 x).s 204)),(u18 (u11 (C0 x).s 212)),(u18 (u25 (l13 x))),(u18 (u14 u31))]
def o67:=(u0 (u1 (l9 x)) u2 (u32 (u33 (C0 x).s [(u1 (l6 x))] (d3 x) 30 (C0 x).s u31 u34 u5 u15 u35 u15)) (u6 (d4 x)))
def o68:=(M (u1 (l14 x)) (u9 (u4 [(u11 (C0 x).y 217),(u13 31),(u25 (l15 x)),u8])))
def o69:=k9 x 31
def o70:=k10 x 31
abbrev d6 (x:X):List (@PySem.DictEntry):=(nf (ap (d0 x) [(E x (C1 x).a 246 (u13 51))]))
def o71:=(M (u1 (l3 x)) (u20 (u21 (d6 x)) 16))
abbrev d7 (x:X):List (@PySem.Value):=(nf (ap (d1 x) [(u12 11 0),(u12 0 0),(u13 40)]))
def o72:=(M u8 (u9 (u4 (d7 x))))
def o73:=(u0 (u1 (l9 x)) u2 (u32 (u33 (C0 x).s [(u1 (l6 x))] ((d3 x)) 30 (C0 x).s u31 u34 [(u13 51)] u15 u35 u15)) (u6 ((d4 x))))
def o74:=k11 x 31
def o76:=(M (u1 (l3 x)) (u20 (u21 [(E x (C0 x).u 229 (u11 (C0 x).e 202)),(E x (C0 x).v 231 (u11 (C1 x).a 230)),(E x (C0 x).w 233 (u12 11 232)),(E x (C1 x).b 241 (u13 48)),(E x (C0 x).x 243 (u13 49))]) 5))
def o78 (x:X):Obj:=(M u8 (u9 (u4 [(u12 13 0),(u12 4 0),(u13 47)])))
def o79:=k1 x (C1 x).a 224 225 226 11 38 39 227 228
def o80:=k2 x 40 37 (C0 x).e 202
def o83:=k12 x (C1 x).c 237 (C1 x).d 238
def o85:=k13 x (C1 x).b (C1 x).e (sm x 7 0) (sm x 7 0)
def o86:=k5 x (C1 x).b 234 (C1 x).e 235 236 13 2 42 43 44 45 46 239 240
def o87:=k14 x (C1 x).b (C1 x).e (sm x 7 0) (sm x 7 0) (C0 x).e 202 47
def o88:=k3 x (C1 x).d 242
def o89:=k8 x 229 233 11 232 (C1 x).b 241 48 (C0 x).x 243 49 244 2
abbrev d11 (x:X):List (@PySem.Value):=[(u13 51),(u13 31),(u1 (l6 x)),(u1 (l10 x)),(u1 (l11 x)),(u1 (l12 x))]
def o90:=(u0 (u1 (l9 x)) u2 (u32 (u33 (C1 x).a [(u13 31)] (d11 x) 50 (C1 x).a u31 u34 u5 u15 u35 u15)) (u6 [(u18 (u13 35)),u19,(u18 (u11 (C1 x).a 222)),(u18 (u11 (C1 x).a 230)),(u18 (u25 (l13 x))),(u18 (u14 u31))]))
def o91:=k9 x 51
def o92:=k10 x 51
abbrev d13 (x:X):List (@PySem.DictEntry):=(nf (ap (sz (d6 x) 0 (E x (C0 x).d 165 (u11 (C1 x).f 295))) [(E x (C1 x).g 271 (u13 70)),(E x (C1 x).h 280 (u13 79)),(E x (C1 x).i 294 (u13 86))]))
def o93:=(M (u1 (l3 x)) (u20 (u21 (d13 x)) 19))
abbrev d14 (x:X):List (@PySem.Value):=(nf (ap (d7 x) [(u12 15 0),(u12 0 0),(u13 59),(u12 20 0),(u12 0 0),(u13 78),(u12 22 0),(u12 0 0),(u13 85)]))
def o94:=(M u8 (u9 (u4 (d14 x))))
def o95:=(u0 (u1 (l9 x)) u2 (u32 (u33 (C0 x).s [(u1 (l6 x))] ((d3 x)) 30 (C0 x).s u31 u34 [(u13 51),(u13 70)] u15 u35 u15)) (u6 ((d4 x))))
def o98:=(M (u1 (l3 x)) (u20 (u21 [(E x (C0 x).u 254 (u11 (C0 x).e 202)),(E x (C0 x).v 256 (u11 (C1 x).g 255)),(E x (C0 x).w 258 (u12 15 257)),(E x (C1 x).b 266 (u13 67)),(E x (C0 x).x 268 (u13 68))]) 5))
def o100 (x:X):Obj:=(M u8 (u9 (u4 [(u12 17 0),(u12 4 0),(u13 66)])))
def o101:=k1 x (C1 x).g 249 250 251 15 57 58 252 253
def o102:=k2 x 59 56 (C0 x).e 202
def o105:=k12 x (C1 x).c 262 (C1 x).j 263
def o107:=k13 x (C1 x).b (C1 x).k (sm x 8 0) (sm x 8 0)
def o108:=k5 x (C1 x).b 259 (C1 x).k 260 261 17 2 61 62 63 64 65 264 265
def o109:=k14 x (C1 x).b (C1 x).k (sm x 8 0) (sm x 8 0) (C0 x).e 202 66
def o110:=k3 x (C1 x).j 267
def o111:=k8 x 254 258 15 257 (C1 x).b 266 67 (C0 x).x 268 68 269 2
def o112:=(u0 (u1 (l9 x)) u2 (u32 (u33 (C1 x).g [(u13 31)] ((nf (sz (d11 x) 0 (u13 70)))) 69 (C1 x).g u31 u34 u5 u15 u35 u15)) (u6 [(u18 (u13 54)),u19,(u18 (u11 (C1 x).g 247)),(u18 (u11 (C1 x).g 255)),(u18 (u25 (l13 x))),(u18 (u14 u31))]))
def o113:=k9 x 70
def o114:=k10 x 70
def o117:=k3 x (C1 x).l 277
def o119:=k4 x (C1 x).h (st x 10) (st x 10)
def o120:=k5 x (C1 x).h 274 (C1 x).h 275 276 20 1 73 74 75 76 77 278 279
def o121:=k6 x (C1 x).h (st x 10) (st x 10) (C1 x).m 272 78
def o124:=(M (u1 (l0 x)) (u3 (u4 [(u11 (C1 x).n 284),(u11 (C1 x).o 285),(u11 (C1 x).p 286),(u11 (C1 x).q 287),(u11 (C1 x).r 288),(u11 (C1 x).s 289),(u11 (C1 x).t 290),(u11 (C1 x).l 291)]) 0))
def o126:=k4 x (C1 x).i (st x 11) (st x 11)
def o127:=k5 x (C1 x).i 281 (C1 x).i 282 283 22 3 80 81 82 83 84 292 293
def o128:=k6 x (C1 x).i (st x 11) (st x 11) (C1 x).m 272 85
abbrev d21 (x:X):List (@PySem.DictEntry):=(nf (ap (d13 x) [(E x (C1 x).u 349 (u13 122))]))
def o129:=(M (u1 (l3 x)) (u20 (u21 (d21 x)) 20))
abbrev d22 (x:X):List (@PySem.Value):=(nf (ap (d14 x) [(u12 31 0),(u12 0 0),(u13 92)]))
def o130:=(M u8 (u9 (u4 (d22 x))))
def o133:=(M (u1 (l3 x)) (u20 (u21 [(E x (C0 x).u 304 (u11 (C1 x).f 295)),(E x (C0 x).v 306 (u11 (C1 x).u 305)),(E x (C0 x).w 308 (u12 31 307)),(E x (C1 x).b 314 (u13 98)),(E x (C1 x).v 321 (u13 105)),(E x (C1 x).w 328 (u13 112)),(E x (C1 x).x 337 (u13 119)),(E x (C0 x).x 342 (u13 120))]) 8))
def o135 (x:X):Obj:=(M u8 (u9 (u4 [(u12 33 0),(u12 4 0),(u13 97),(u12 40 0),(u12 4 0),(u13 104),(u12 43 0),(u12 4 0),(u13 111),(u12 46 0),(u12 4 0),(u13 118)])))
def o136:=k1 x (C1 x).u 299 300 301 31 90 91 302 303
def o137:=k2 x 92 89 (C1 x).f 295
def o140:=k13 x (C1 x).b (C1 x).y (sm x 13 0) (sm x 13 0)
def o141:=k15 x (C1 x).b 309 (C1 x).y 310 311 33 5 94 95 96 312 313
def o142:=k14 x (C1 x).b (C1 x).y (sm x 13 0) (sm x 13 0) (C1 x).f 295 97
def o145:=k3 x (C1 x).c 318
def o147:=k13 x (C1 x).v (C2 x).a (sm x 13 1) (sm x 13 1)
def o148:=k5 x (C1 x).v 315 (C2 x).a 316 317 40 1 99 100 101 102 103 319 320
def o149:=k14 x (C1 x).v (C2 x).a (sm x 13 1) (sm x 13 1) (C1 x).f 295 104
def o152:=k3 x (C1 x).c 325
def o154:=k13 x (C1 x).w (C2 x).b (sm x 13 2) (sm x 13 1)
def o155:=k5 x (C1 x).w 322 (C2 x).b 323 324 43 1 106 107 108 109 110 326 327
def o156:=k14 x (C1 x).w (C2 x).b (sm x 13 2) (sm x 13 1) (C1 x).f 295 111
def o159:=k16 x (C1 x).c 332 (C2 x).c 333 (C2 x).d 334
def o161:=k13 x (C1 x).x (C2 x).e (sm x 13 3) (sm x 13 3)
def o162:=k5 x (C1 x).x 329 (C2 x).e 330 331 46 3 113 114 115 116 117 335 336
def o163:=k14 x (C1 x).x (C2 x).e (sm x 13 3) (sm x 13 3) (C1 x).f 295 118
def o164:=k17 x (C1 x).t 338 (C1 x).o 339 (C2 x).f 340 (C1 x).p 341
def o165:=(M (u1 (l3 x)) (u20 (u21 [(E x (C0 x).u 304 (u11 (C1 x).f 295)),(E x (C0 x).w 308 (u12 31 307)),(E x (C1 x).b 314 (u13 98)),(E x (C1 x).v 321 (u13 105)),(E x (C1 x).w 328 (u13 112)),(E x (C1 x).x 337 (u13 119)),(E x (C0 x).x 342 (u13 120)),(E x (C2 x).g 344 (u13 123)),(E x (C0 x).y 346 (u13 124)),(E x (C0 x).f 347 u8)]) 4))
abbrev d26 (x:X):List (@Option.{0} (@PySem.Value)):=[u19,u19,(u18 (u11 (C1 x).u 297)),(u18 (u11 (C1 x).u 305)),(u18 (u25 (l18 x))),(u18 (u14 u31))]
def o166:=(u0 (u1 (l9 x)) u2 (u32 (u33 (C1 x).u [(u1 (l12 x))] [(u13 122),(u1 (l12 x))] 121 (C1 x).u u31 u34 u5 u15 u35 u15)) (u6 (d26 x)))
def o167:=(M (u1 (l14 x)) (u9 (u4 [(u11 (C2 x).g 343),(u13 122),(u25 (l19 x)),(u25 (l20 x))])))
def o168:=(M (u1 (l14 x)) (u9 (u4 [(u11 (C0 x).y 345),(u13 122),(u25 (l15 x)),u8])))
def o169:=k9 x 122
def o170:=k10 x 122
abbrev d29 (x:X):List (@PySem.DictEntry):=(nf (ap (d21 x) [(E x (C2 x).h 405 (u13 172))]))
def o171:=(M (u1 (l3 x)) (u20 (u21 (d29 x)) 21))
abbrev d30 (x:X):List (@PySem.Value):=(nf (ap (d22 x) [(u12 48 0),(u12 0 0),(u13 132)]))
def o172:=(M u8 (u9 (u4 (d30 x))))
def o173:=(u0 (u1 (l9 x)) u2 (u32 (u33 (C1 x).u [(u1 (l12 x))] [(u13 122),(u1 (l12 x))] 121 (C1 x).u u31 u34 [(u13 172)] u15 u35 u15)) (u6 ((d26 x))))
def o174:=k11 x 122
def o176:=(M (u1 (l3 x)) (u20 (u21 [(E x (C0 x).u 357 (u11 (C1 x).f 295)),(E x (C0 x).v 359 (u11 (C2 x).h 358)),(E x (C0 x).w 361 (u12 48 360)),(E x (C1 x).b 371 (u13 141)),(E x (C1 x).n 378 (u13 148)),(E x (C2 x).i 385 (u13 155)),(E x (C2 x).j 393 (u13 162)),(E x (C2 x).k 401 (u13 169)),(E x (C0 x).x 402 (u13 170))]) 9))
def o178 (x:X):Obj:=(M u8 (u9 (u4 [(u12 50 0),(u12 4 0),(u13 140),(u12 53 0),(u12 4 0),(u13 147),(u12 56 0),(u12 4 0),(u13 154),(u12 59 0),(u12 4 0),(u13 161),(u12 62 0),(u12 4 0),(u13 168)])))
def o179:=k1 x (C2 x).h 352 353 354 48 130 131 355 356
def o180:=k2 x 132 129 (C1 x).f 295
def o181:=(M (u1 (l0 x)) (u3 (u4 [u8]) 0))
def o184:=k17 x (C1 x).c 365 (C1 x).o 366 (C1 x).p 367 (C1 x).t 368
def o186:=k13 x (C1 x).b (C2 x).l (sm x 14 0) (sm x 14 0)
def o187:=k5 x (C1 x).b 362 (C2 x).l 363 364 50 4 135 136 137 138 139 369 370
def o188:=(M (u1 (l5 x)) (u27 (u28 (C1 x).b (C2 x).l (f1 (sm x 14 0)) (u29 (f2 (sm x 14 0))) (f6 (sm x 14 0)) 3 u30 (u13 134) u8 u8 (u11 (C1 x).f 295) u2 (u13 140) u8 0)))
def o191:=k3 x (C1 x).c 375
def o193:=k13 x (C1 x).n (C2 x).m (sm x 14 1) (sm x 14 1)
def o194:=k5 x (C1 x).n 372 (C2 x).m 373 374 53 1 142 143 144 145 146 376 377
def o195:=k14 x (C1 x).n (C2 x).m (sm x 14 1) (sm x 14 1) (C1 x).f 295 147
def o198:=k3 x (C1 x).c 382
def o200:=k13 x (C2 x).i (C2 x).n (sm x 14 2) (sm x 14 1)
def o201:=k5 x (C2 x).i 379 (C2 x).n 380 381 56 1 149 150 151 152 153 383 384
def o202:=k14 x (C2 x).i (C2 x).n (sm x 14 2) (sm x 14 1) (C1 x).f 295 154
def o205:=k12 x (C1 x).c 389 (C2 x).o 390
def o207:=k13 x (C2 x).j (C2 x).p (sm x 14 3) (sm x 14 3)
def o208:=k5 x (C2 x).j 386 (C2 x).p 387 388 59 2 156 157 158 159 160 391 392
def o209:=k14 x (C2 x).j (C2 x).p (sm x 14 3) (sm x 14 3) (C1 x).f 295 161
def o212:=k12 x (C1 x).c 397 (C1 x).p 398
def o214:=k13 x (C2 x).k (C2 x).q (sm x 14 4) (sm x 14 4)
def o215:=k5 x (C2 x).k 394 (C2 x).q 395 396 62 2 163 164 165 166 167 399 400
def o216:=k14 x (C2 x).k (C2 x).q (sm x 14 4) (sm x 14 4) (C1 x).f 295 168
def o218:=(M (u1 (l3 x)) (u20 (u21 [(E x (C0 x).u 357 (u11 (C1 x).f 295)),(E x (C0 x).w 361 (u12 48 360)),(E x (C1 x).b 371 (u13 141)),(E x (C1 x).n 378 (u13 148)),(E x (C2 x).i 385 (u13 155)),(E x (C2 x).j 393 (u13 162)),(E x (C2 x).k 401 (u13 169)),(E x (C0 x).x 402 (u13 170)),(E x (C0 x).f 403 u8)]) 2))
def o219:=(u0 (u1 (l9 x)) u2 (u32 (u33 (C2 x).h [(u13 122)] [(u13 172),(u13 122),(u1 (l12 x))] 171 (C2 x).h u31 u34 u5 u15 u35 u15)) (u6 [(u18 (u13 127)),u19,(u18 (u11 (C2 x).h 350)),(u18 (u11 (C2 x).h 358)),(u18 (u25 (l18 x))),(u18 (u14 u31))]))
def o220:=k9 x 172
def o221:=k10 x 172
abbrev d36 (x:X):List (@PySem.DictEntry):=(nf (ap (sz (d29 x) 0 (E x (C0 x).d 165 (u11 (C2 x).r 464))) [(E x (C2 x).s 463 (u13 220)),(E x (C2 x).t 467 (u11 (C2 x).u 466))]))
def o222:=(M (u1 (l3 x)) (u20 (u21 (d36 x)) 23))
abbrev d37 (x:X):List (@PySem.Value):=(nf (ap (d30 x) [(u12 64 0),(u12 0 0),(u13 180)]))
def o223:=(M u8 (u9 (u4 (d37 x))))
def o224:=(u0 (u1 (l9 x)) u2 (u32 (u33 (C1 x).u [(u1 (l12 x))] [(u13 122),(u1 (l12 x))] 121 (C1 x).u u31 u34 [(u13 172),(u13 220)] u15 u35 u15)) (u6 ((d26 x))))
def o227:=(M (u1 (l3 x)) (u20 (u21 [(E x (C0 x).u 413 (u11 (C1 x).f 295)),(E x (C0 x).v 415 (u11 (C2 x).s 414)),(E x (C0 x).w 417 (u12 64 416)),(E x (C1 x).b 428 (u13 189)),(E x (C1 x).n 435 (u13 196)),(E x (C2 x).i 442 (u13 203)),(E x (C2 x).j 450 (u13 210)),(E x (C2 x).k 458 (u13 217)),(E x (C0 x).x 460 (u13 218))]) 9))
def o229 (x:X):Obj:=(M u8 (u9 (u4 [(u12 66 0),(u12 4 0),(u13 188),(u12 70 0),(u12 4 0),(u13 195),(u12 73 0),(u12 4 0),(u13 202),(u12 76 0),(u12 4 0),(u13 209),(u12 79 0),(u12 4 0),(u13 216)])))
def o230:=k1 x (C2 x).s 408 409 410 64 178 179 411 412
def o231:=k2 x 180 177 (C1 x).f 295
def o235:=(M (u1 (l0 x)) (u3 (u4 [(u11 (C1 x).c 421),(u11 (C2 x).v 422),(u11 (C1 x).o 423),(u11 (C1 x).p 424),(u11 (C1 x).t 425)]) 0))
def o237:=k13 x (C1 x).b (C2 x).w (sm x 15 0) (sm x 15 0)
def o238:=k5 x (C1 x).b 418 (C2 x).w 419 420 66 5 183 184 185 186 187 426 427
def o239:=(M (u1 (l5 x)) (u27 (u28 (C1 x).b (C2 x).w (f1 (sm x 15 0)) (u29 (f2 (sm x 15 0))) (f6 (sm x 15 0)) 3 u30 (u13 182) u8 u8 (u11 (C1 x).f 295) u2 (u13 188) u8 0)))
def o242:=k3 x (C1 x).c 432
def o244:=k13 x (C1 x).n (C2 x).x (sm x 15 1) (sm x 14 1)
def o245:=k5 x (C1 x).n 429 (C2 x).x 430 431 70 1 190 191 192 193 194 433 434
def o246:=k14 x (C1 x).n (C2 x).x (sm x 15 1) (sm x 14 1) (C1 x).f 295 195
def o249:=k3 x (C1 x).c 439
def o251:=k13 x (C2 x).i (C2 x).y (sm x 15 2) (sm x 14 1)
def o252:=k5 x (C2 x).i 436 (C2 x).y 437 438 73 1 197 198 199 200 201 440 441
def o253:=k14 x (C2 x).i (C2 x).y (sm x 15 2) (sm x 14 1) (C1 x).f 295 202
def o256:=k12 x (C1 x).c 446 (C2 x).o 447
def o258:=k13 x (C2 x).j (C3 x).a (sm x 15 3) (sm x 14 3)
def o259:=k5 x (C2 x).j 443 (C3 x).a 444 445 76 2 204 205 206 207 208 448 449
def o260:=k14 x (C2 x).j (C3 x).a (sm x 15 3) (sm x 14 3) (C1 x).f 295 209
def o263:=k12 x (C1 x).c 454 (C1 x).p 455
def o265:=k13 x (C2 x).k (C3 x).b (sm x 15 4) (sm x 14 4)
def o266:=k5 x (C2 x).k 451 (C3 x).b 452 453 79 2 211 212 213 214 215 456 457
def o267:=k14 x (C2 x).k (C3 x).b (sm x 15 4) (sm x 14 4) (C1 x).f 295 216
def o268:=k3 x (C2 x).v 459
def o269:=(M (u1 (l3 x)) (u20 (u21 [(E x (C0 x).u 413 (u11 (C1 x).f 295)),(E x (C0 x).w 417 (u12 64 416)),(E x (C1 x).b 428 (u13 189)),(E x (C1 x).n 435 (u13 196)),(E x (C2 x).i 442 (u13 203)),(E x (C2 x).j 450 (u13 210)),(E x (C2 x).k 458 (u13 217)),(E x (C0 x).x 460 (u13 218)),(E x (C0 x).f 461 u8)]) 2))
def o270:=(u0 (u1 (l9 x)) u2 (u32 (u33 (C2 x).s [(u13 122)] [(u13 220),(u13 122),(u1 (l12 x))] 219 (C2 x).s u31 u34 u5 u15 u35 u15)) (u6 [(u18 (u13 175)),u19,(u18 (u11 (C2 x).s 406)),(u18 (u11 (C2 x).s 414)),(u18 (u25 (l18 x))),(u18 (u14 u31))]))
def o271:=k9 x 220
def o272:=k10 x 220
abbrev d44 (x:X):List (@PySem.DictEntry):=(nf (ap (sz (d36 x) 0 (E x (C0 x).d 165 (u11 (C3 x).c 533))) [(E x (C3 x).d 473 (u13 227)),(E x (C3 x).e 480 (u13 234)),(E x (C3 x).f 488 (u13 241)),(E x (C3 x).g 492 (u12 20 491)),(E x (C3 x).h 499 (u13 242)),(E x (C3 x).i 508 (u13 249)),(E x (C3 x).j 514 (u13 254)),(E x (C3 x).k 520 (u13 259)),(E x (C3 x).l 526 (u13 264)),(E x (C3 x).m 532 (u13 269)),(E x (C3 x).n 542 (u13 276)),(E x (C3 x).o 549 (u13 283)),(E x (C3 x).p 558 (u13 290))]))
def o273:=(M (u1 (l3 x)) (u20 (u21 (d44 x)) 36))
abbrev d45 (x:X):List (@PySem.Value):=(nf (ap (d37 x) [(u12 83 0),(u12 0 0),(u13 226),(u12 89 0),(u12 0 0),(u13 233),(u12 93 0),(u12 0 0),(u13 240),(u12 101 0),(u12 0 0),(u13 248),(u12 112 0),(u12 0 0),(u13 253),(u12 119 0),(u12 0 0),(u13 258),(u12 123 0),(u12 0 0),(u13 263),(u12 127 0),(u12 0 0),(u13 268),(u12 133 0),(u12 0 0),(u13 275),(u12 137 0),(u12 0 0),(u13 282),(u12 139 0),(u12 0 0),(u13 289)]))
def o274:=(M u8 (u9 (u4 (d45 x))))
def o277:=k18 x (st x 18) (st x 18)
def o278:=k15 x (C3 x).d 468 (C3 x).d 469 470 83 1 223 224 225 471 472
def o279:=k19 x (st x 18) (st x 18) (C2 x).r 464 226
def o282:=k3 x (C1 x).d 477
def o284:=k4 x (C3 x).e (st x 19) (st x 19)
def o285:=k5 x (C3 x).e 474 (C3 x).e 475 476 89 1 228 229 230 231 232 478 479
def o286:=k6 x (C3 x).e (st x 19) (st x 19) (C2 x).r 464 233
def o289:=k12 x (C1 x).d 484 (C3 x).q 485
def o291:=k4 x (C3 x).f (st x 20) (st x 20)
def o292:=k5 x (C3 x).f 481 (C3 x).f 482 483 93 1 235 236 237 238 239 486 487
def o293:=k6 x (C3 x).f (st x 20) (st x 20) (C2 x).r 464 240
def o294:=(M (u1 (l3 x)) (u20 (u21 [(E x (C3 x).r 493 (u12 1 494)),(E x (C3 x).s 495 (u12 2 496))]) 2))
def o297:=k16 x (C1 x).j 503 (C3 x).t 504 (C3 x).u 505
def o299:=k4 x (C3 x).i (st x 24) (st x 24)
def o300:=k5 x (C3 x).i 500 (C3 x).i 501 502 101 1 243 244 245 246 247 506 507
def o301:=k6 x (C3 x).i (st x 24) (st x 24) (C3 x).v 489 248
def o304:=k18 x (st x 25) (st x 25)
def o305:=k15 x (C3 x).j 509 (C3 x).j 510 511 112 2 250 251 252 512 513
def o306:=k19 x (st x 25) (st x 25) (C3 x).v 489 253
def o309:=k18 x (st x 26) (st x 26)
def o310:=k15 x (C3 x).k 515 (C3 x).k 516 517 119 1 255 256 257 518 519
def o311:=k19 x (st x 26) (st x 26) (C3 x).v 489 258
def o314:=k4 x (C3 x).l (st x 27) (st x 27)
def o315:=k15 x (C3 x).l 521 (C3 x).l 522 523 123 1 260 261 262 524 525
def o316:=k6 x (C3 x).l (st x 27) (st x 27) (C3 x).v 489 263
def o319:=k4 x (C3 x).m (st x 28) (st x 28)
def o320:=k15 x (C3 x).m 527 (C3 x).m 528 529 127 1 265 266 267 530 531
def o321:=k6 x (C3 x).m (st x 28) (st x 28) (C3 x).v 489 268
def o324:=k12 x (C3 x).w 538 (C3 x).x 539
def o326:=k4 x (C3 x).n (st x 30) (st x 30)
def o327:=k5 x (C3 x).n 535 (C3 x).n 536 537 133 2 270 271 272 273 274 540 541
def o328:=k6 x (C3 x).n (st x 30) (st x 30) (C3 x).c 533 275
def o331:=k3 x (C3 x).y 546
def o333:=k4 x (C3 x).o (st x 31) (st x 31)
def o334:=k5 x (C3 x).o 543 (C3 x).o 544 545 137 1 277 278 279 280 281 547 548
def o335:=k6 x (C3 x).o (st x 31) (st x 31) (C3 x).c 533 282
def o338:=k16 x (C4 x).a 553 (C3 x).x 554 (C4 x).b 555
def o340:=k4 x (C3 x).p (st x 32) (st x 32)
def o341:=k5 x (C3 x).p 550 (C3 x).p 551 552 139 2 284 285 286 287 288 556 557
def o342:=k6 x (C3 x).p (st x 32) (st x 32) (C3 x).c 533 289
abbrev d46 (x:X):List (@PySem.DictEntry):=(nf (ap (d44 x) [(E x (C4 x).c 566 (u13 297)),(E x (C4 x).d 573 (u13 304)),(E x (C4 x).e 581 (u13 311)),(E x (C4 x).f 594 (u13 318)),(E x (C4 x).g 604 (u13 325)),(E x (C4 x).h 610 (u13 330)),(E x (C4 x).i 618 (u13 337)),(E x (C4 x).j 626 (u13 344)),(E x (C4 x).k 634 (u13 351)),(E x (C4 x).l 645 (u13 358)),(E x (C4 x).m 660 (u13 365)),(E x (C4 x).n 668 (u13 372))]))
def o345:=(M (u1 (l3 x)) (u20 (u21 (d46 x)) 48))
abbrev d47 (x:X):List (@PySem.Value):=(nf (ap (d45 x) [(u12 142 0),(u12 0 0),(u13 296),(u12 150 0),(u12 0 0),(u13 303),(u12 152 0),(u12 0 0),(u13 310),(u12 156 0),(u12 0 0),(u13 317),(u12 163 0),(u12 0 0),(u13 324),(u12 172 0),(u12 0 0),(u13 329),(u12 179 0),(u12 0 0),(u13 336),(u12 185 0),(u12 0 0),(u13 343),(u12 191 0),(u12 0 0),(u13 350),(u12 197 0),(u12 0 0),(u13 357),(u12 204 0),(u12 0 0),(u13 364),(u12 226 0),(u12 0 0),(u13 371)]))
def o346:=(M u8 (u9 (u4 (d47 x))))
def o349:=k12 x (C4 x).a 562 (C3 x).x 563
def o351:=k4 x (C4 x).c (st x 33) (st x 33)
def o352:=k5 x (C4 x).c 559 (C4 x).c 560 561 142 2 291 292 293 294 295 564 565
def o353:=k6 x (C4 x).c (st x 33) (st x 33) (C3 x).c 533 296
def o356:=k3 x (C4 x).a 570
def o358:=k4 x (C4 x).d (st x 34) (st x 34)
def o359:=k5 x (C4 x).d 567 (C4 x).d 568 569 150 1 298 299 300 301 302 571 572
def o360:=k6 x (C4 x).d (st x 34) (st x 34) (C3 x).c 533 303
def o363:=k12 x (C4 x).o 577 (C4 x).a 578
def o365:=k4 x (C4 x).e (st x 35) (st x 35)
def o366:=k5 x (C4 x).e 574 (C4 x).e 575 576 152 2 305 306 307 308 309 579 580
def o367:=k6 x (C4 x).e (st x 35) (st x 35) (C3 x).c 533 310
def o370:=(M (u1 (l0 x)) (u3 (u4 [(u11 (C3 x).w 585),(u11 (C4 x).p 586),(u11 (C4 x).q 587),(u11 (C4 x).r 588),(u11 (C4 x).s 589),(u11 (C3 x).x 590),(u11 (C4 x).a 591)]) 0))
def o372:=k4 x (C4 x).f (st x 36) (st x 36)
def o373:=k5 x (C4 x).f 582 (C4 x).f 583 584 156 4 312 313 314 315 316 592 593
def o374:=k6 x (C4 x).f (st x 36) (st x 36) (C3 x).c 533 317
def o377:=k17 x (C3 x).y 598 (C4 x).s 599 (C4 x).t 600 (C4 x).u 601
def o379:=k18 x (st x 37) (st x 37)
def o380:=k5 x (C4 x).g 595 (C4 x).g 596 597 163 2 319 320 321 322 323 602 603
def o381:=k19 x (st x 37) (st x 37) (C3 x).c 533 324
def o384:=k4 x (C4 x).h (st x 38) (st x 38)
def o385:=k15 x (C4 x).h 605 (C4 x).h 606 607 172 5 326 327 328 608 609
def o386:=k6 x (C4 x).h (st x 38) (st x 38) (C3 x).c 533 329
def o389:=k12 x (C4 x).a 614 (C4 x).v 615
def o391:=k4 x (C4 x).i (st x 39) (st x 39)
def o392:=k5 x (C4 x).i 611 (C4 x).i 612 613 179 1 331 332 333 334 335 616 617
def o393:=k6 x (C4 x).i (st x 39) (st x 39) (C3 x).c 533 336
def o396:=k12 x (C4 x).a 622 (C4 x).v 623
def o398:=k18 x (st x 40) (st x 39)
def o399:=k5 x (C4 x).j 619 (C4 x).j 620 621 185 1 338 339 340 341 342 624 625
def o400:=k19 x (st x 40) (st x 39) (C3 x).c 533 343
def o403:=k12 x (C4 x).a 630 (C4 x).v 631
def o405:=k4 x (C4 x).k (st x 41) (st x 39)
def o406:=k5 x (C4 x).k 627 (C4 x).k 628 629 191 1 345 346 347 348 349 632 633
def o407:=k6 x (C4 x).k (st x 41) (st x 39) (C3 x).c 533 350
def o410:=(M (u1 (l0 x)) (u3 (u4 [(u11 (C4 x).w 638),(u11 (C4 x).x 639),(u11 (C4 x).a 640),(u11 (C4 x).y 641),(u11 (C5 x).a 642)]) 0))
def o412:=k18 x (st x 42) (st x 42)
def o413:=k5 x (C4 x).l 635 (C4 x).l 636 637 197 4 352 353 354 355 356 643 644
def o414:=k19 x (st x 42) (st x 42) (C3 x).c 533 357
def o417:=(M (u1 (l0 x)) (u3 (u4 [(u11 (C4 x).w 649),(u11 (C4 x).x 650),(u11 (C4 x).a 651),(u11 (C4 x).y 652),(u11 (C5 x).b 653),(u11 (C5 x).a 654),(u11 (C5 x).c 655),(u11 (C5 x).d 656),(u11 (C4 x).b 657)]) 0))
def o419:=k18 x (st x 43) (st x 43)
def o420:=k5 x (C4 x).m 646 (C4 x).m 647 648 204 4 359 360 361 362 363 658 659
def o421:=k19 x (st x 43) (st x 43) (C3 x).c 533 364
def o424:=k12 x (C5 x).e 664 (C5 x).f 665
def o426:=k18 x (st x 44) (st x 44)
def o427:=k5 x (C4 x).n 661 (C4 x).n 662 663 226 1 366 367 368 369 370 666 667
def o428:=k19 x (st x 44) (st x 44) (C3 x).c 533 371
def o429:=(M (u1 (l3 x)) (u20 (u21 ((nf (ap (d46 x) [(E x (C5 x).g 678 (u13 379)),(E x (C5 x).h 684 (u13 384)),(E x (C5 x).i 693 (u13 391)),(E x (C5 x).j 711 (u13 398))])))) 52))
def o430:=(M u8 (u9 (u4 ((nf (ap (d47 x) [(u12 233 0),(u12 0 0),(u13 378),(u12 236 0),(u12 0 0),(u13 383),(u12 257 0),(u12 0 0),(u13 390),(u12 264 0),(u12 0 0),(u13 397)]))))))
def o433:=k17 x (C5 x).e 672 (C5 x).k 673 (C5 x).l 674 (C5 x).m 675
def o435:=k4 x (C5 x).g (st x 45) (st x 45)
def o436:=k5 x (C5 x).g 669 (C5 x).g 670 671 233 1 373 374 375 376 377 676 677
def o437:=k6 x (C5 x).g (st x 45) (st x 45) (C3 x).c 533 378
def o440:=k4 x (C5 x).h (st x 46) (st x 46)
def o441:=k15 x (C5 x).h 679 (C5 x).h 680 681 236 1 380 381 382 682 683
def o442:=k6 x (C5 x).h (st x 46) (st x 46) (C3 x).c 533 383
def o445:=k16 x (C4 x).w 688 (C5 x).n 689 (C5 x).o 690
def o447:=k18 x (st x 47) (st x 47)
def o448:=k5 x (C5 x).i 685 (C5 x).i 686 687 257 1 385 386 387 388 389 691 692
def o449:=k19 x (st x 47) (st x 47) (C3 x).c 533 390
def o452:=(M (u1 (l0 x)) (u3 (u4 [(u11 (C3 x).w 697),(u11 (C5 x).p 698),(u11 (C4 x).r 699),(u11 (C4 x).o 700),(u11 (C5 x).q 701),(u11 (C4 x).q 702),(u11 (C4 x).s 703),(u11 (C5 x).r 704),(u11 (C4 x).w 705),(u11 (C4 x).x 706),(u11 (C5 x).s 707),(u11 (C3 x).y 708)]) 0))
def o454:=k4 x (C5 x).j (st x 48) (st x 48)
def o455:=k5 x (C5 x).j 694 (C5 x).j 695 696 264 1 392 393 394 395 396 709 710
def o456:=k6 x (C5 x).j (st x 48) (st x 48) (C3 x).c 533 397
def q1 (x:X):PySem.Obj:=(M u8 (u20 (u21 u26) 0))
abbrev tree47:X->PySem.W.BT:=fun x=>nf (G Z 0 [b0,b1,b2,b3,b4,b5,b6,b7,b8,b9,b10,o43,o44,o45,o46] x)
abbrev tree70:X->PySem.W.BT:=fun x=>nf (G (G (G tree47 3 [o49]) 12 [o50]) 15 [o43,o44,o53,o43,o55,o56,o57,o58,o59,o60,o43,o44,o63,o64,o43,o66,o67,o68,o69,o70] x)
abbrev tree92:X->PySem.W.BT:=fun x=>nf (G (G (G (G tree70 3 [o71]) 12 [o72]) 31 [o73]) 35 [o74,o59,o76,o43,o78,o79,o80,o43,o44,o83,o43,o85,o86,o87,o88,o89,o90,o91,o92] x)
abbrev tree128:X->PySem.W.BT:=fun x=>nf (G (G (G (G tree92 3 [o93]) 12 [o94]) 31 [o95]) 54 [o74,o59,o98,o43,o100,o101,o102,o43,o44,o105,o43,o107,o108,o109,o110,o111,o112,o113,o114,o43,o44,o117,o43,o119,o120,o121,o43,o44,o124,o43,o126,o127,o128] x)
abbrev tree170:X->PySem.W.BT:=fun x=>nf (G (G (G tree128 3 [o129]) 12 [o130]) 87 [o43,o59,o133,o43,o135,o136,o137,o43,o44,o140,o141,o142,o43,o44,o145,o43,o147,o148,o149,o43,o44,o152,o43,o154,o155,o156,o43,o44,o159,o43,o161,o162,o163,o164,o165,o166,o167,o168,o169,o170] x)
abbrev tree221:X->PySem.W.BT:=fun x=>nf (G (G (G (G tree170 3 [o171]) 12 [o172]) 122 [o173]) 127 [o174,o59,o176,o43,o178,o179,o180,o181,o43,o44,o184,o43,o186,o187,o188,o43,o44,o191,o43,o193,o194,o195,o43,o44,o198,o43,o200,o201,o202,o43,o44,o205,o43,o207,o208,o209,o43,o44,o212,o43,o214,o215,o216,o43,o218,o219,o220,o221] x)
abbrev tree272:X->PySem.W.BT:=fun x=>nf (G (G (G (G tree221 3 [o222]) 12 [o223]) 122 [o224]) 175 [o174,o59,o227,o43,o229,o230,o231,o181,o43,o44,o235,o43,o237,o238,o239,o43,o44,o242,o43,o244,o245,o246,o43,o44,o249,o43,o251,o252,o253,o43,o44,o256,o43,o258,o259,o260,o43,o44,o263,o43,o265,o266,o267,o268,o269,o270,o271,o272] x)
abbrev tree342:X->PySem.W.BT:=fun x=>nf (G (G (G tree272 3 [o273]) 12 [o274]) 223 [o43,o44,o277,o278,o279,o43,o44,o282,o43,o284,o285,o286,o43,o44,o289,o43,o291,o292,o293,o294,o43,o44,o297,o43,o299,o300,o301,o43,o44,o304,o305,o306,o43,o44,o309,o310,o311,o43,o44,o314,o315,o316,o43,o44,o319,o320,o321,o43,o44,o324,o43,o326,o327,o328,o43,o44,o331,o43,o333,o334,o335,o43,o44,o338,o43,o340,o341,o342] x)
abbrev tree428:X->PySem.W.BT:=fun x=>nf (G (G (G tree342 3 [o345]) 12 [o346]) 291 [o43,o44,o349,o43,o351,o352,o353,o43,o44,o356,o43,o358,o359,o360,o43,o44,o363,o43,o365,o366,o367,o43,o44,o370,o43,o372,o373,o374,o43,o44,o377,o43,o379,o380,o381,o43,o44,o384,o385,o386,o43,o44,o389,o43,o391,o392,o393,o43,o44,o396,o43,o398,o399,o400,o43,o44,o403,o43,o405,o406,o407,o43,o44,o410,o43,o412,o413,o414,o43,o44,o417,o43,o419,o420,o421,o43,o44,o424,o43,o426,o427,o428] x)
abbrev tree456:X->PySem.W.BT:=fun x=>nf (G (G (G tree428 3 [o429]) 12 [o430]) 373 [o43,o44,o433,o43,o435,o436,o437,o43,o44,o440,o441,o442,o43,o44,o445,o43,o447,o448,o449,o43,o44,o452,o43,o454,o455,o456] x)
def heap39:X->PySem.W.Frag:=fun x=>nf (pj (fl ((G tree456 2 [q1]) x)) 0 [2,3,15,17,18,20,21,22,29,30,31,32,35,42,44,45,47,48,49,50,51,54,61,63,64,66,67,68,69,70,73,75,76,78,79,80,82,83,85,86,94,97,98,99,101,102,104,105,106,108,109,111,112,113,115,116,118,119,120,121,122,123,124,127,134,135,137,138,140,141,142,144,145,147,148,149,151,152,154,155,156,158,159,161,162,163,165,166,168,169,170,171,172,175,182,183,185,186,188,189,190,192,193,195,196,197,199,200,202,203,204,206,207,209,210,211,213,214,216,217,218,219,220,223,226,227,228,230,231,233,234,235,237,238,240,241,242,243,245,246,248,249,250,253,254,255,258,259,260,263,264,265,268,269,270,272,273,275,276,277,279,280,282,283,284,286,287,289,290,291,293,294,296,297,298,300,301,303,304,305,307,308,310,311,312,314,315,317,318,319,321,322,324,325,326,329,330,331,333,334,336,337,338,340,341,343,344,345,347,348,350,351,352,354,355,357,358,359,361,362,364,365,366,368,369,371,372,373,375,376,378,379,380,383,384,385,387,388,390,391,392,394,395,397,398])
def heap46:X->PySem.Heap:=fun x=>u39 (u40 (nf (fl (tree47 x)))) (u43 u44 u44 u44 0 u45 u44 u15 (u46 u44) u44 0 u15 u15 u15 0 [2000,10,10] u15 0 u31 u44 u44 0 u15)
def heap457:X->PySem.Heap:=fun x=>u39 (u40 (nf (fl (tree456 x)))) (u43 u44 u44 u44 0 u45 u44 u15 (u46 u44) u44 0 u15 u15 u15 0 [2000,10,10] u15 0 u31 u44 u44 0 u15)
end
end Hd
namespace PySem.W.Fast
noncomputable abbrev hdq {α:Type} (f:Hd.X->α):PySem.Params->α:=fun P=>f (PySem.W.Fast.tw13745409909519247493,P)
theorem hdp {α:Type} (f:Hd.X->α):(fun P=>f (Hd.hs,P)) = hdq f:=congrArg (fun σ P=>f (σ,P)) PySem.W.Fast.te13745409909519247493
noncomputable def tw6380401485787979218:=hdq Hd.heap39
theorem te6380401485787979218:(fun P=>Hd.heap39 (Hd.hs,P)) = tw6380401485787979218:=hdp Hd.heap39
noncomputable def tw5082818140522084794:=hdq Hd.heap46
theorem te5082818140522084794:(fun P=>Hd.heap46 (Hd.hs,P)) = tw5082818140522084794:=hdp Hd.heap46
noncomputable def tw855880485938612488:=hdq Hd.tree47
theorem te855880485938612488:(fun P=>Hd.tree47 (Hd.hs,P)) = tw855880485938612488:=hdp Hd.tree47
noncomputable def tw15563511426115694534:=hdq Hd.tree70
theorem te15563511426115694534:(fun P=>Hd.tree70 (Hd.hs,P)) = tw15563511426115694534:=hdp Hd.tree70
noncomputable def tw15930150375446825184:=hdq Hd.tree92
theorem te15930150375446825184:(fun P=>Hd.tree92 (Hd.hs,P)) = tw15930150375446825184:=hdp Hd.tree92
noncomputable def tw6187112392214184728:=hdq Hd.tree128
theorem te6187112392214184728:(fun P=>Hd.tree128 (Hd.hs,P)) = tw6187112392214184728:=hdp Hd.tree128
noncomputable def tw8280854244736313322:=hdq Hd.tree170
theorem te8280854244736313322:(fun P=>Hd.tree170 (Hd.hs,P)) = tw8280854244736313322:=hdp Hd.tree170
noncomputable def tw9830857336930414618:=hdq Hd.tree221
theorem te9830857336930414618:(fun P=>Hd.tree221 (Hd.hs,P)) = tw9830857336930414618:=hdp Hd.tree221
noncomputable def tw17363805470556839038:=hdq Hd.tree272
theorem te17363805470556839038:(fun P=>Hd.tree272 (Hd.hs,P)) = tw17363805470556839038:=hdp Hd.tree272
noncomputable def tw16998670179184886483:=hdq Hd.tree342
theorem te16998670179184886483:(fun P=>Hd.tree342 (Hd.hs,P)) = tw16998670179184886483:=hdp Hd.tree342
noncomputable def tw17236213065295561107:=hdq Hd.tree428
theorem te17236213065295561107:(fun P=>Hd.tree428 (Hd.hs,P)) = tw17236213065295561107:=hdp Hd.tree428
noncomputable def tw599834377675883032:=hdq Hd.tree456
theorem te599834377675883032:(fun P=>Hd.tree456 (Hd.hs,P)) = tw599834377675883032:=hdp Hd.tree456
noncomputable def tw5019588067981780612:=hdq Hd.heap457
theorem te5019588067981780612:(fun P=>Hd.heap457 (Hd.hs,P)) = tw5019588067981780612:=hdp Hd.heap457
end PySem.W.Fast
namespace Hd
noncomputable section
abbrev pw:=PySem.Challenge.pw_keepsakes_k20_lines_refused
def pick (p:PySem.Program) (l:List Nat):List PySem.Stmt:=l.map fun i=>p.main.body.getD i (.Pass ⟨0,0,0,0⟩)
def vw (p:PySem.Program) (l:List Nat):PySem.Program:={ p with main:={ p.main with body:=pick p l } }
end
end Hd
noncomputable def PySem.W.Fast.tw6102227149316390383:List PySem.Stmt:=Hd.pick Hd.pw [33,34,35,36,37,38,39,40,41,42,43,44]
theorem PySem.W.Fast.te6102227149316390383:Hd.pick Hd.pw [33,34,35,36,37,38,39,40,41,42,43,44] = PySem.W.Fast.tw6102227149316390383:=rfl
noncomputable def PySem.W.Fast.tw7502783560395160163:List PySem.Stmt:=Hd.pick Hd.pw [7]
theorem PySem.W.Fast.te7502783560395160163:Hd.pick Hd.pw [7] = PySem.W.Fast.tw7502783560395160163:=rfl
noncomputable def PySem.W.Fast.tw2443374324266747515:List PySem.Stmt:=Hd.pick Hd.pw [45,46,47,48]
theorem PySem.W.Fast.te2443374324266747515:Hd.pick Hd.pw [45,46,47,48] = PySem.W.Fast.tw2443374324266747515:=rfl
noncomputable def PySem.W.Fast.tw6470539678645719468:List PySem.Stmt:=Hd.pick Hd.pw [13]
theorem PySem.W.Fast.te6470539678645719468:Hd.pick Hd.pw [13] = PySem.W.Fast.tw6470539678645719468:=rfl
noncomputable def PySem.W.Fast.tw489759821403275357:List PySem.Stmt:=Hd.pick Hd.pw [18,19,20,21,22,23,24,25,26,27,28,29,30,31,32]
theorem PySem.W.Fast.te489759821403275357:Hd.pick Hd.pw [18,19,20,21,22,23,24,25,26,27,28,29,30,31,32] = PySem.W.Fast.tw489759821403275357:=rfl
noncomputable def PySem.W.Fast.tw4947683608097737303:PySem.Program:=Hd.vw Hd.pw [0,1,2,3,4,6,7,8,10,11,13,14,15,17,18,19,20,22,23,24,25,26,27,28,30,31,32,33,34,35,36,37,38,39,40,41,42,43,44,45,46,47,48]
theorem PySem.W.Fast.te4947683608097737303:Hd.vw Hd.pw [0,1,2,3,4,6,7,8,10,11,13,14,15,17,18,19,20,22,23,24,25,26,27,28,30,31,32,33,34,35,36,37,38,39,40,41,42,43,44,45,46,47,48] = PySem.W.Fast.tw4947683608097737303:=rfl
noncomputable def PySem.W.Fast.tw6500952218663191792:List PySem.Stmt:=Hd.pick Hd.pw [8,9,10,11,12]
theorem PySem.W.Fast.te6500952218663191792:Hd.pick Hd.pw [8,9,10,11,12] = PySem.W.Fast.tw6500952218663191792:=rfl
noncomputable def PySem.W.Fast.tw560786040231609524:List PySem.Stmt:=Hd.pick Hd.pw [14]
theorem PySem.W.Fast.te560786040231609524:Hd.pick Hd.pw [14] = PySem.W.Fast.tw560786040231609524:=rfl
noncomputable def PySem.W.Fast.tw3880732493632149179:List PySem.Stmt:=Hd.pick Hd.pw [0,1,2,3,4,5,6]
theorem PySem.W.Fast.te3880732493632149179:Hd.pick Hd.pw [0,1,2,3,4,5,6] = PySem.W.Fast.tw3880732493632149179:=rfl
noncomputable def PySem.W.Fast.tw10879016147031716892:List PySem.Stmt:=Hd.pick Hd.pw [15,16,17]
theorem PySem.W.Fast.te10879016147031716892:Hd.pick Hd.pw [15,16,17] = PySem.W.Fast.tw10879016147031716892:=rfl
set_option maxRecDepth 100000 in
set_option maxHeartbeats 0 in
theorem PySem.Challenge.cw_keepsakes_k20_lines_refused_holds : PySem.Challenge.rw_keepsakes_k20_lines_refused.Holds := by
  w_on; o_law; k_head; (case hw=>w_witness2)
  k_fill
  refine Mine.walk (l:=PySem.Challenge.rw_keepsakes_k20_lines_refused) rfl rfl (fun w h Y=>PySem.W.kIn_of Y) ?F
  case F =>
    intro w mg fa h KX G hmg
    refine' Mine.all_mk KX G hmg ?g_W ?g_MOST_BLOCKS ?g_MOST_FIGURES ?g_MOST_DAY ?g_FIGURES ?g_CHECK_FIGURES ?a_KeepError ?a_NoWord ?a_NoLine ?a_Piece ?a_Whole ?a_Gain ?a_DAYS_TOLD ?gl_DAYS_TOLD ?gs_DAYS_TOLD ?clg ?clt ?xo_KeepError ?xs_KeepError ?xg_KeepError ?xh_KeepError ?xc_KeepError ?kc_KeepError ?xo_NoWord ?xs_NoWord ?xg_NoWord ?xh_NoWord ?xc_NoWord ?kc_NoWord ?n_NoWord_word ?xo_NoLine ?xs_NoLine ?xg_NoLine ?xh_NoLine ?xc_NoLine ?kc_NoLine ?n_NoLine_line ?pg_Whole ?hd_Whole ?po_Whole ?sa_Whole ?mk_Whole ?kc_Whole ?n_Whole_day ?n_Whole_rows ?n_Whole_check ?n_Whole_fits ?pg_Gain ?hd_Gain ?po_Gain ?sa_Gain ?mk_Gain ?kc_Gain ?n_Gain_day ?n_Gain_rows ?n_Gain_check ?n_Gain_fits ?n_Gain_base ?a0 ?i0 ?l0 ?c0 ?k0 ?a1 ?i1 ?l1 ?c1 ?k1 ?a2 ?l2 ?c2 ?k2 ?a3 ?l3 ?c3 ?k3 ?a4 ?i4 ?l4 ?c4 ?k4 ?a5 ?i5 ?l5 ?c5 ?k5 ?y5 ?a6 ?i6 ?l6 ?c6 ?k6 ?a7 ?i7 ?l7 ?c7 ?k7 ?y7 ?a8 ?i8 ?l8 ?c8 ?k8 ?a9 ?l9 ?c9 ?k9 ?a10 ?l10 ?c10 ?k10 ?a11 ?l11 ?c11 ?k11 ?a12 ?l12 ?c12 ?k12 ?a13 ?l13 ?c13 ?k13 ?a14 ?l14 ?c14 ?k14 ?a15 ?l15 ?c15 ?k15 ?a16 ?l16 ?c16 ?k16 ?a17 ?l17 ?c17 ?k17 ?a18 ?l18 ?c18 ?k18 ?a19 ?l19 ?c19 ?k19 ?a20 ?l20 ?c20 ?k20 ?a21 ?l21 ?c21 ?k21 ?a22 ?l22 ?c22 ?k22 ?a23 ?l23 ?c23 ?k23 ?a24 ?l24 ?c24 ?k24 ?a25 ?l25 ?c25 ?k25 ?a26 ?l26 ?c26 ?k26 ?a27 ?l27 ?c27 ?k27 ?a28 ?l28 ?c28 ?k28 ?a29 ?l29 ?c29 ?k29 ?a30 ?l30 ?c30 ?k30 ?a31 ?l31 ?c31 ?k31 ?a32 ?l32 ?c32 ?k32 ?a33 ?l33 ?c33 ?k33 ?a34 ?l34 ?c34 ?k34 ?a35 ?l35 ?c35 ?k35 ?ga_Piece ?rd_Piece ?fc_Piece___init__ ?z_len ?z_isinstance ?z_int ?z_bool ?z_str ?z_list ?z_tuple ?z_range ?z_min ?z_max ?z_sorted ?z_set ?z_zip ?z_all ?z_ValueError ?kw ?kl ?kt1 ?kt2 ?kt3 ?clgX ?cltX ?ic_Whole ?io_Whole ?k_Whole_Whole ?k_Whole_Gain ?ic_Gain ?io_Gain ?k_Gain_Whole ?k_Gain_Gain
    case g_W | g_MOST_BLOCKS | g_MOST_FIGURES | g_MOST_DAY | g_FIGURES | g_CHECK_FIGURES | a_KeepError | a_NoWord | a_NoLine | a_Piece | a_Whole | a_Gain | a_DAYS_TOLD | gl_DAYS_TOLD | gs_DAYS_TOLD | clg | clt | xo_KeepError | xs_KeepError | xg_KeepError | xh_KeepError | xc_KeepError | kc_KeepError | xo_NoWord | xs_NoWord | xg_NoWord | xh_NoWord | xc_NoWord | kc_NoWord | n_NoWord_word | xo_NoLine | xs_NoLine | xg_NoLine | xh_NoLine | xc_NoLine | kc_NoLine | n_NoLine_line | pg_Whole | hd_Whole | po_Whole | sa_Whole | mk_Whole | kc_Whole | n_Whole_day | n_Whole_rows | n_Whole_check | n_Whole_fits | pg_Gain | hd_Gain | po_Gain | sa_Gain | mk_Gain | kc_Gain | n_Gain_day | n_Gain_rows | n_Gain_check | n_Gain_fits | n_Gain_base | a0 | i0 | l0 | c0 | k0 | a1 | i1 | l1 | c1 | k1 | a2 | l2 | c2 | k2 | a3 | l3 | c3 | k3 | a4 | i4 | l4 | c4 | k4 | a5 | i5 | l5 | c5 | k5 | y5 | a6 | i6 | l6 | c6 | k6 | a7 | i7 | l7 | c7 | k7 | y7 | a8 | i8 | l8 | c8 | k8 | a9 | l9 | c9 | k9 | a10 | l10 | c10 | k10 | a11 | l11 | c11 | k11 | a12 | l12 | c12 | k12 | a13 | l13 | c13 | k13 | a14 | l14 | c14 | k14 | a15 | l15 | c15 | k15 | a16 | l16 | c16 | k16 | a17 | l17 | c17 | k17 | a18 | l18 | c18 | k18 | a19 | l19 | c19 | k19 | a20 | l20 | c20 | k20 | a21 | l21 | c21 | k21 | a22 | l22 | c22 | k22 | a23 | l23 | c23 | k23 | a24 | l24 | c24 | k24 | a25 | l25 | c25 | k25 | a26 | l26 | c26 | k26 | a27 | l27 | c27 | k27 | a28 | l28 | c28 | k28 | a29 | l29 | c29 | k29 | a30 | l30 | c30 | k30 | a31 | l31 | c31 | k31 | a32 | l32 | c32 | k32 | a33 | l33 | c33 | k33 | a34 | l34 | c34 | k34 | a35 | l35 | c35 | k35 | ga_Piece | rd_Piece | fc_Piece___init__ | z_len | z_isinstance | z_int | z_bool | z_str | z_list | z_tuple | z_range | z_min | z_max | z_sorted | z_set | z_zip | z_all | z_ValueError | kw | kl | kt1 | kt2 | kt3 | clgX | cltX | ic_Whole | io_Whole | k_Whole_Whole | k_Whole_Gain | ic_Gain | io_Gain | k_Gain_Whole | k_Gain_Gain=>first | k_is | kit_is | kernel_rfl | decide
