import PyProof.Rows.All
import Wide.All
import OpenK.AllK
import Wide.FinOn
import Lean
import PyProof.EqAt
import PyProof.EqKinds
import PyProof.TupleCall
import PyProof.AttrMissHeap
import PyProof.DictWalks
import KE.KDictObj
import KE.KEqDict
import KE.KUnpack
import PyProof.Rows.SetFrom
import KE.KRevIter
import KE.KDictSum
import KE.KFmtOwn
import PyProof.FactsAll.set_1
import PyProof.FactsAll.set_2
import PyProof.FactsAll.tuple_1
import PyProof.FactsAll.tuple_2
import KE.KSortTup
import PyProof.SetRoads
import PyProof.DictValues
import PyProof.FactsAll.dict_4
import PyProof.Rows.CallKwBuiltin
import PyProof.DictCopy
import KE.KDictList
import KE.KPairComp
import PyProof.DictItems
import PyProof.MinMaxWalk
import PyProof.WalkInts
import PyProof.RulesTry
import PyProof.ListRange
import PyProof.RangeFor
import PySem.Challenge.RW_keepsakes_k19_whole_tables_carried
set_option Elab.async false
set_option linter.all false
set_option maxRecDepth 100000
namespace L2
open PySem PySem.Spec PyProof.Rows
abbrev Key:=Sum Int Str
def keyIs:Key->Value->Bool
  | .inl k,v=>Value.isInt k v
  | .inr x,v=>Value.isStrOf x v
def keyH (w:World):Key->Int
  | .inl k=>hashInt k
  | .inr x=>hashStr w x
theorem keyIs_shape:∀ {k:Key} {v:Value},keyIs k v = true->(∃ i t,k = Sum.inl i /\ v = Value.int i t) ∨ (∃ x t,k = Sum.inr x /\ v = Value.str x t)
  | .inl i,v,h=>by
    obtain ⟨t,e⟩:=Value.isInt_shape (k:=i) (v:=v) h
    exact .inl ⟨i,t,rfl,e⟩
  | .inr x,v,h=>by
    obtain ⟨t,e⟩:=Value.isStrOf_shape (x:=x) (v:=v) h
    exact .inr ⟨x,t,rfl,e⟩
theorem keyIs_int (i:Int) (t:Tok):keyIs (.inl i) (.int i t) = true:=by simp [keyIs,Value.isInt]
theorem keyIs_str (x:Str) (t:Tok):keyIs (.inr x) (.str x t) = true:=by simp [keyIs,Value.isStrOf]
theorem key_ll (a b:Int):decide ((Sum.inl a:Key) = Sum.inl b) = (a == b):=by
  by_cases e:a = b
  · subst e; simp
  · have h:¬ (Sum.inl a:Key) = Sum.inl b:=fun q=>e (Sum.inl.inj q)
    rw [decide_eq_false h]
    exact (beq_eq_false_iff_ne.mpr e).symm
theorem key_rr (a b:Str):decide ((Sum.inr a:Key) = Sum.inr b) = decide (a = b):=by
  by_cases e:a = b
  · subst e; simp
  · have h:¬ (Sum.inr a:Key) = Sum.inr b:=fun q=>e (Sum.inr.inj q)
    rw [decide_eq_false h,decide_eq_false e]
theorem key_lr (a:Int) (b:Str):decide ((Sum.inl a:Key) = Sum.inr b) = false:=decide_eq_false (fun q=>nomatch q)
theorem key_rl (a:Str) (b:Int):decide ((Sum.inr a:Key) = Sum.inl b) = false:=decide_eq_false (fun q=>nomatch q)
def mixKind (prog:Program) (w:World):PySem.KeyKind prog w Key where
  is:=keyIs
  hash:=keyH w
  inj:=fun v a b ha hb=>by
    rcases keyIs_shape ha with ⟨i,t,rfl,rfl⟩ | ⟨x,t,rfl,rfl⟩
    · rcases keyIs_shape hb with ⟨j,u,rfl,e⟩ | ⟨y,u,rfl,e⟩
      · injection e with e1 _; rw [e1]
      · exact nomatch e
    · rcases keyIs_shape hb with ⟨j,u,rfl,e⟩ | ⟨y,u,rfl,e⟩
      · exact nomatch e
      · injection e with e1 _; rw [e1]
  byValue:=fun k v h=>by
    rcases keyIs_shape h with ⟨i,t,rfl,rfl⟩ | ⟨x,t,rfl,rfl⟩ <;> rfl
  pyHash:=fun hv h=>by
    rcases keyIs_shape hv with ⟨i,t,rfl,rfl⟩ | ⟨x,t,rfl,rfl⟩
    · exact wpAny_pyHash_int h
    · exact wpAny_pyHash_str h
  eqBool:=fun hu hv h=>by
    rcases keyIs_shape hu with ⟨i,t,rfl,rfl⟩ | ⟨x,t,rfl,rfl⟩
    · rcases keyIs_shape hv with ⟨j,u,rfl,rfl⟩ | ⟨y,u,rfl,rfl⟩
      · rw [key_ll] at h; exact wpAny_eqBool_int h
      · rw [key_lr] at h; exact SeqAt.EqAt.int_str i t y u _ _ _ _ h
    · rcases keyIs_shape hv with ⟨j,u,rfl,rfl⟩ | ⟨y,u,rfl,rfl⟩
      · rw [key_rl] at h; exact SeqAt.EqAt.str_int x t j u _ _ _ _ h
      · rw [key_rr] at h; exact wpAny_eqBool_str h
  «strs»:=fun k x t v h=>by
    rcases keyIs_shape h with ⟨i,u,rfl,e⟩ | ⟨y,u,rfl,e⟩
    · exact nomatch e
    · injection e with e1 _
      subst e1
      cases v <;> rfl
theorem mixKind_int (prog:Program) (w:World) (i:Int) (t:Tok):(mixKind prog w).is (.inl i) (.int i t) = true:=keyIs_int i t
theorem mixKind_str (prog:Program) (w:World) (x:Str) (t:Tok):(mixKind prog w).is (.inr x) (.str x t) = true:=keyIs_str x t
open PySem PySem.Spec PyProof.Rows
inductive V where
  | non | bl (b:Bool) | int (i:Int) | str (x:Str) | byt (b:Array UInt8) | flt (b:UInt64) | ref (a:Addr) | ty (n:String)
  deriving DecidableEq
def RelV:V->Value->Prop
  | .non,u=>u = Value.none
  | .bl b,u=>u = Value.bool b
  | .int i,u=>∃ t,u = Value.int i t
  | .str x,u=>∃ t,u = Value.str x t
  | .byt b,u=>∃ t,u = Value.bytes b t
  | .flt b,u=>∃ t,u = Value.float b t
  | .ref a,u=>u = Value.ref a
  | .ty n,u=>u = Value.type n
abbrev Vals:List V->List Value->Prop:=Paired RelV
theorem Vals.length {xs:List V} {us:List Value} (r:Vals xs us):xs.length = us.length:=Paired.length r
theorem Vals.get:∀ {xs:List V} {us:List Value} {i:Nat} {x:V},Vals xs us->xs[i]? = some x->∃ u,us[i]? = some u /\ RelV x u
  | _,_,_,_,.nil,e=>by simp at e
  | _,_,0,_,.cons r _,e=>by simp at e; subst e; exact ⟨_,rfl,r⟩
  | _,_,i + 1,x,.cons _ t,e=>by
    obtain ⟨u,h1,h2⟩:=Vals.get (i:=i) (x:=x) t (by simpa using e)
    exact ⟨u,by simpa using h1,h2⟩
theorem Vals.set {x:V} {u:Value} (r:RelV x u):∀ {xs:List V} {us:List Value} (i:Nat),Vals xs us->Vals (xs.set i x) (us.set i u)
  | _,_,_,.nil=>.nil
  | _,_,0,.cons _ t=>.cons r t
  | _,_,i + 1,.cons q t=>.cons q (Vals.set r i t)
theorem Vals.append:∀ {xs ys:List V} {us ws:List Value},Vals xs us->Vals ys ws->Vals (xs ++ ys) (us ++ ws)
  | _,_,_,_,.nil,s=>s
  | _,_,_,_,.cons r t,s=>.cons r (Vals.append t s)
theorem Vals.take:∀ {xs:List V} {us:List Value} (n:Nat),Vals xs us->Vals (xs.take n) (us.take n)
  | _,_,0,_=>.nil
  | _,_,_ + 1,.nil=>.nil
  | _,_,n + 1,.cons r t=>.cons r (Vals.take n t)
theorem Vals.drop:∀ {xs:List V} {us:List Value} (n:Nat),Vals xs us->Vals (xs.drop n) (us.drop n)
  | _,_,0,r=>r
  | _,_,_ + 1,.nil=>.nil
  | _,_,n + 1,.cons _ t=>Vals.drop n t
def RelO:Option V->Option Value->Prop
  | some v,some u=>RelV v u
  | none,none=>True
  | _,_=>False
def KV {κ:Type}:List (κ × V)->List (κ × Value)->Prop:=Paired fun (p:κ × V) (q:κ × Value)=>p.1 = q.1 /\ RelV p.2 q.2
def kV:Key->V
  | .inl i=>.int i
  | .inr x=>.str x
inductive HO where
    | lst (xs:List V)
    | tup (xs:List V)
    | dK (kvs:List (Key × V)) | dT (kvs:List (List Key × V))
    | set (S:Int->Bool) (n:Nat)
    | ins (C dx:Addr) (fs:List (Str × V))
    | own (x:Addr)
    | xd (fs:List (Str × V))
    | met (f x:Addr)
    | rng (lo hi:Int)
    | frz (o:Obj) (u:HO)
    | tbl (ps:Array Value)
    | ext (φ:Heap->Prop)
abbrev Hp:=Addr->Option HO
def upd (H:Hp) (a:Addr) (o:HO):Hp:=fun b=>if b = a then some o else H b
theorem upd_same {H:Hp} {a:Addr} {o:HO}:upd H a o a = some o:=by unfold upd; rw [if_pos rfl]
theorem upd_ne {H:Hp} {a b:Addr} {o:HO} (h:b ≠ a):upd H a o b = H b:=by unfold upd; rw [if_neg h]
theorem upd_upd {H:Hp} {a:Addr} {o u:HO}:upd (upd H a o) a u = upd H a u:=by
  funext b; unfold upd; split <;> rfl
theorem ne_of {H:Hp} {a b:Addr} {o u:HO} (h:H a = some o) (h':H b = some u) (d:o ≠ u):a ≠ b:=by
  intro e; subst e; rw [h] at h'; exact d (Option.some.inj h')
theorem ne_of_none {H:Hp} {a b:Addr} {o:HO} (h:H a = some o) (h':H b = none):a ≠ b:=by
  intro e; subst e; rw [h] at h'; cases h'
section
variable (P:Program) (w:World)
def ObjOk (H:Hp) (h:Heap) (a:Addr):HO->Prop
  | .lst xs=>xs.length ≤ sizeLine /\ ∃ (its:List Value) (n:Nat),Vals xs its /\ h.get? a = some { cls:=.type "list",data:=.seq its.toArray n }
  | .tup xs=>xs.length ≤ sizeLine /\ ∃ its:List Value,Vals xs its /\ IsTup h a its.toArray
  | .dK kvs=>kvs.length ≤ sizeLine /\ (a == sysModules) = false /\ ∃ vs,KV kvs vs /\ h.DictOf (mixKind P w) a vs
  | .dT kvs=>kvs.length ≤ sizeLine /\ (a == sysModules) = false /\ ∃ xs:List (List Key × Addr × Value),
      Paired (fun (p:List Key × V) (q:List Key × Addr × Value)=>p.1 = q.1 /\ H q.2.1 = some (.tup (p.1.map kV)) /\ RelV p.2 q.2.2) kvs xs ∧
      ∃ o es ep,h.get? a = some o /\ o.ExactDict /\ o.data = .dict es ep /\ es.toList = xs.map (entryOfKey (tupleKind (mixKind P w))) /\ (xs.map (·.1)).Nodup
  | .set S n=>h.SetOf (intKind P w) a S n
  | .ins C dx fs=>H dx = some (.own a) /\ fs.length ≤ 1000 /\ dx ≠ a /\ h.get? a = some (PySem.W.instObj C dx) ∧
      ∃ mA,h.Ns1 dx mA /\ (∀ f,RelO (fs.lookup f) (mA f)) /\ PySem.Within mA (fs.map (·.1))
  | .own _=>∃ o,h.get? a = some o
  | .xd fs=>∃ mA,h.Ns1 a mA /\ ∀ f,RelO (fs.lookup f) (mA f)
  | .rng lo hi=>∃ t u v,h.get? a = some { cls:=.type "range",data:=.fields #[.int lo t,.int hi u,.int 1 v] }
  | .frz o u=>h.get? a = some o /\ ObjOk H h a u
  | .tbl ps=>h.get? a = some { cls:=.none,data:=.fields ps }
  | .met f x=>h.get? a = some (PySem.W.methodObj (.ref f) (.ref x))
  | .ext φ=>φ h /\ (∃ o,h.get? a = some o) /\ ∀ h1 h2:Heap,φ h1->(∀ o,h1.get? a = some o->h2.get? a = some o)->φ h2
def HOk (H:Hp) (h:Heap):Prop:=∀ a o,H a = some o->ObjOk P w H h a o
end
section
variable {P:Program} {w:World} {H H':Hp} {h h':Heap} {a:Addr} {o:HO}
theorem ObjOk.lt (x:ObjOk P w H h a o):a < h.objs.size:=by
  cases o with
  | lst xs=>obtain ⟨_,_,_,_,e⟩:=x; exact Heap.lt_size e
  | tup xs=>obtain ⟨_,_,_,p⟩:=x; exact p.lt
  | dK kvs=>obtain ⟨_,_,_,_,o,_,_,e,_⟩:=x; exact Heap.lt_size e
  | dT kvs=>obtain ⟨_,_,_,_,o,_,_,e,_⟩:=x; exact Heap.lt_size e
  | set S n=>obtain ⟨o,_,_,_,e,_⟩:=x; exact Heap.lt_size e
  | ins C dx fs=>obtain ⟨_,_,_,e,_⟩:=x; exact Heap.lt_size e
  | own y=>obtain ⟨_,e⟩:=x; exact Heap.lt_size e
  | xd fs=>obtain ⟨_,⟨_,_,_,e,_⟩,_⟩:=x; exact Heap.lt_size e
  | rng lo hi=>obtain ⟨_,_,_,e⟩:=x; exact Heap.lt_size e
  | frz ob u=>obtain ⟨e,_⟩:=x; exact Heap.lt_size e
  | tbl ps=>exact Heap.lt_size (show h.get? a = some _ from x)
  | met f y=>exact Heap.lt_size (show h.get? a = some _ from x)
  | ext φ=>obtain ⟨_,⟨_,e⟩,_⟩:=x; exact Heap.lt_size e
theorem Paired.mapP {α β:Type} {F G:α->β->Prop}:∀ {l₁:List α} {l₂:List β},Paired F l₁ l₂->(∀ a b,F a b->G a b)->Paired G l₁ l₂
  | _,_,.nil,_=>.nil
  | _,_,.cons r t,f=>.cons (f _ _ r) (Paired.mapP t f)
theorem ObjOk.stay (x:ObjOk P w H h a o) (k:∀ b u,(b = a ∨ H b = some (.own a))->h.get? b = some u->h'.get? b = some u)
    (ho:∀ b,H b = some (.own a)->H' b = some (.own a)) (ht:∀ b xs,H b = some (.tup xs)->H' b = some (.tup xs)):ObjOk P w H' h' a o:=by
  induction o with
  | lst xs=>obtain ⟨z,its,n,r,e⟩:=x; exact ⟨z,its,n,r,k _ _ (.inl rfl) e⟩
  | tup xs=>obtain ⟨z,its,r,ob,e,c⟩:=x; exact ⟨z,its,r,ob,k _ _ (.inl rfl) e,c⟩
  | dK kvs=>obtain ⟨z,y,vs,r,ob,es,ep,e,c⟩:=x; exact ⟨z,y,vs,r,ob,es,ep,k _ _ (.inl rfl) e,c⟩
  | dT kvs =>
    obtain ⟨z,y,xs,r,ob,es,ep,e,c⟩:=x
    exact ⟨z,y,xs,Paired.mapP r fun p q z=>⟨z.1,ht _ _ z.2.1,z.2.2⟩,ob,es,ep,k _ _ (.inl rfl) e,c⟩
  | set S n=>obtain ⟨ob,es,ep,t,e,c⟩:=x; exact ⟨ob,es,ep,t,k _ _ (.inl rfl) e,c⟩
  | ins C dx fs =>
    obtain ⟨d,z,ne,e,mA,⟨od,es,ep,e2,c⟩,r⟩:=x
    exact ⟨ho _ d,z,ne,k _ _ (.inl rfl) e,mA,⟨od,es,ep,k _ _ (.inr d) e2,c⟩,r⟩
  | own y=>obtain ⟨ob,e⟩:=x; exact ⟨ob,k _ _ (.inl rfl) e⟩
  | xd fs=>obtain ⟨mA,⟨od,es,ep,e,c⟩,r⟩:=x; exact ⟨mA,⟨od,es,ep,k _ _ (.inl rfl) e,c⟩,r⟩
  | rng lo hi=>obtain ⟨t,u,v,e⟩:=x; exact ⟨t,u,v,k _ _ (.inl rfl) e⟩
  | frz ob u ih=>obtain ⟨e,q⟩:=x; exact ⟨k _ _ (.inl rfl) e,ih q⟩
  | tbl ps =>
    have e:h.get? a = some { cls:=.none,data:=.fields ps }:=x
    show h'.get? a = some { cls:=.none,data:=.fields ps }
    exact k a _ (.inl rfl) e
  | met f y =>
    have e:h.get? a = some (PySem.W.methodObj (.ref f) (.ref y)):=x
    show h'.get? a = some (PySem.W.methodObj (.ref f) (.ref y))
    exact k a _ (.inl rfl) e
  | ext φ=>obtain ⟨p,⟨o,e⟩,st⟩:=x; exact ⟨st _ _ p fun o q=>k _ _ (.inl rfl) q,⟨o,k _ _ (.inl rfl) e⟩,st⟩
theorem HOk.lt (x:HOk P w H h) (e:H a = some o):a < h.objs.size:=(x a o e).lt
theorem HOk.fresh (x:HOk P w H h) (e:h.objs.size ≤ a):H a = none:=by
  cases q:H a with
  | none=>rfl
  | some u=>exact absurd (Nat.lt_of_lt_of_le (x.lt q) e) (Nat.lt_irrefl _)
theorem HOk.kept (x:HOk P w H h) (k:∀ b u,h.get? b = some u->h'.get? b = some u):HOk P w H h':=fun a o e =>
  (x a o e).stay (fun b u _ q=>k b u q) (fun _ q=>q) fun _ _ q=>q
theorem HOk.laid (x:HOk P w H h) (k:∀ b u,h.get? b = some u->h'.get? b = some u) (hp:h.objs.size ≤ a) (new:ObjOk P w (upd H a o) h' a o):HOk P w (upd H a o) h':=fun b u e=>by
  have hn:=x.fresh hp
  by_cases hb:b = a
  · subst hb; rw [upd_same] at e; cases e; exact new
  · rw [upd_ne hb] at e
    exact (x b u e).stay (fun c v _ q=>k c v q) (fun c q=>by rw [upd_ne (ne_of_none q hn)]; exact q) fun c xs q=>by rw [upd_ne (ne_of_none q hn)]; exact q
end
def Rd (H:Hp) (a:Addr) (u:HO):Prop:=H a = some u ∨ ∃ o,H a = some (.frz o u)
theorem Rd.ok {P:Program} {w:World} {H:Hp} {h:Heap} {a:Addr} {u:HO} (r:Rd H a u) (x:HOk P w H h):ObjOk P w H h a u:=by
  rcases r with r | ⟨o,r⟩
  · exact x a u r
  · obtain ⟨_,q⟩:=x a _ r
    exact q
def Mut:Option HO->Prop
  | some (.lst _)=>True
  | some (.dK _)=>True
  | some (.dT _)=>True
  | some (.set _ _)=>True
  | some (.ins _ _ _)=>True
  | some (.ext _)=>True
  | _=>False
section
variable {P:Program} {w:World} {H:Hp} {h h':Heap} {x e:Addr} {o':HO}
theorem HOk.write (ok:HOk P w H h) (mu:Mut (H x)) (he:e = x ∨ H e = some (.own x)) (k:∀ b u,b ≠ e->h.get? b = some u->h'.get? b = some u) (heo:∃ u,h'.get? e = some u)
    (new:ObjOk P w (upd H x o') h' x o'):HOk P w (upd H x o') h':=fun b u q=>by
  have nown:∀ c y,H c = some (.own y)->c ≠ x:=fun c y r z=>by subst z; rw [r] at mu; exact mu
  have ntup:∀ c xs,H c = some (.tup xs)->c ≠ x:=fun c xs r z=>by subst z; rw [r] at mu; exact mu
  by_cases hb:b = x
  · subst hb; rw [upd_same] at q; cases q; exact new
  · rw [upd_ne hb] at q
    by_cases hbe:b = e
    · have q':H b = some (.own x):=by
        rcases he with z | z
        · exact absurd (hbe.trans z) hb
        · rw [hbe]; exact z
      rw [q] at q'; cases q'
      obtain ⟨v,hv⟩:=heo
      exact ⟨v,by rw [hbe]; exact hv⟩
    · refine (ok b u q).stay (fun c v hc r=>k c v ?_ r) (fun c r=>by rw [upd_ne (nown c b r)]; exact r) fun c xs r=>by rw [upd_ne (ntup c xs r)]; exact r
      rcases hc with rfl | hc
      · exact hbe
      · rintro rfl
        rcases he with z | z
        · exact nown c b hc z
        · rw [hc] at z; cases z; exact hb rfl
end
structure Un (fs ex:List Addr) (H H':Hp) (h h':Heap):Prop where
  keep:∀ b o,h.get? b = some o->H b = none->b ∉ fs->b ∉ ex->h'.get? b = some o
  slot:∀ b o,h.get? b = some o->H b = none->b ∈ fs->b ∉ ex->∃ sl,h'.get? b = some { o with slots:=sl }
  free:∀ b o,h.get? b = some o->H b = none->b ∉ ex->H' b = none
  there:∀ b o,h.get? b = some o->b ∉ ex->∃ o',h'.get? b = some o'
  tups:∀ b xs,H b = some (.tup xs)->H' b = some (.tup xs)
  frzs:∀ b o u,H b = some (.frz o u)->H' b = some (.frz o u)
  tbls:∀ b ps,H b = some (.tbl ps)->∃ more,H' b = some (.tbl (ps ++ more))
section
variable {fs fs' ex ex':List Addr} {H H1 H2:Hp} {h h1 h2 h':Heap} {a x e:Addr} {o:HO}
theorem Un.any (u:Un fs ex H H1 h h1) {b:Addr} {ob:Obj} (q:h.get? b = some ob) (n:H b = none) (hx:b ∉ ex):∃ sl,h1.get? b = some { ob with slots:=sl }:=by
  by_cases hb:b ∈ fs
  · exact u.slot b ob q n hb hx
  · exact ⟨ob.slots,u.keep b ob q n hb hx⟩
theorem Un.kept (k:∀ b u,h.get? b = some u->h'.get? b = some u):Un fs ex H H h h' :=
  ⟨fun b ob q _ _ _=>k b ob q,fun b ob q _ _ _=>⟨ob.slots,k b ob q⟩,fun _ _ _ n _=>n,fun b ob q _=>⟨ob,k b ob q⟩,fun _ _ q=>q,fun _ _ _ q=>q,fun _ ps q=>⟨#[],by rw [q]; simp⟩⟩
theorem Un.refl:Un fs ex H H h h:=Un.kept fun _ _ q=>q
theorem Un.laid (k:∀ b u,h.get? b = some u->h'.get? b = some u) (hp:h.objs.size ≤ a) (hn:H a = none):Un fs ex H (upd H a o) h h' where
  keep:=fun b u q _ _ _=>k b u q
  slot:=fun b u q _ _ _=>⟨u.slots,k b u q⟩
  free:=fun b u q n _=>by rw [upd_ne (Nat.ne_of_lt (Nat.lt_of_lt_of_le (Heap.lt_size q) hp))]; exact n
  there:=fun b u q _=>⟨u,k b u q⟩
  tups:=fun b xs q=>by rw [upd_ne (ne_of_none q hn)]; exact q
  frzs:=fun b u xs q=>by rw [upd_ne (ne_of_none q hn)]; exact q
  tbls:=fun b ps q=>⟨#[],by rw [upd_ne (ne_of_none q hn),q]; simp⟩
theorem Un.write (mu:Mut (H x)) (he:e = x ∨ H e = some (.own x)) (k:∀ b u,b ≠ e->h.get? b = some u->h'.get? b = some u) (heo:∃ u,h'.get? e = some u):Un fs ex H (upd H x o) h h':=by
  have hx:∀ b,H b = none->b ≠ x:=fun b n z=>by subst z; rw [n] at mu; exact mu
  have hb:∀ b,H b = none->b ≠ e:=fun b n z=>by
    subst z
    rcases he with r | r
    · exact hx b n r
    · rw [n] at r; cases r
  have hm:∀ b u,H b = some u->¬ Mut (some u)->b ≠ x:=fun b u q nm z=>by subst z; rw [q] at mu; exact nm mu
  refine ⟨fun b u q n _ _=>k b u (hb b n) q,fun b u q n _ _=>⟨u.slots,k b u (hb b n) q⟩,fun b u q n _=>by rw [upd_ne (hx b n)]; exact n,fun b u q _=>?_,
    fun b xs q=>by rw [upd_ne (hm b _ q fun z=>z)]; exact q,fun b u xs q=>by rw [upd_ne (hm b _ q fun z=>z)]; exact q,fun b ps q=>⟨#[],by rw [upd_ne (hm b _ q fun z=>z),q]; simp⟩⟩
  by_cases hbe:b = e
  · subst hbe; exact heo
  · exact ⟨u,k b u hbe q⟩
end
def trk (h:Heap) (H:Hp):List Addr:=(List.range h.objs.size).filter fun a=>(H a).isSome
def hidT (h:Heap) (H:Hp):Heap:=PySem.W.hideAll h (trk h H)
theorem hidT_size (h:Heap) (H:Hp):(hidT h H).objs.size = h.objs.size:=PySem.W.hideAll_size _ _
theorem hidT_get {h:Heap} {H:Hp} {b:Addr} {o:Obj} (e:h.get? b = some o) (n:H b = none):(hidT h H).get? b = some o :=
  PySem.W.hideAll_get _ e fun hm=>by
    have q:(H b).isSome = true:=(List.mem_filter.mp hm).2
    rw [n] at q; simp at q
theorem of_hidT {h:Heap} {H:Hp} {b:Addr} {o:Obj} (e:(hidT h H).get? b = some o):h.get? b = some o /\ H b = none:=by
  have e':h.get? b = some o:=PySem.W.of_hideAll (trk h H) e
  refine ⟨e',?_⟩
  cases q:H b with
  | none=>rfl
  | some x =>
    have hm:b ∈ trk h H:=List.mem_filter.mpr ⟨List.mem_range.mpr (Heap.lt_size e'),by simp [q]⟩
    have z:(hidT h H).get? b = none:=PySem.W.hideAll_none (trk h H) hm
    rw [z] at e; cases e
def allNews (g h:Heap) (L:Addr):List (Addr × Obj):=(List.range h.objs.size).filterMap fun a=>if a = L ∨ (g.get? a).isSome = true then none else (h.get? a).map fun o=>(a,o)
def rest (g h:Heap) (L d:Addr):List (Addr × Obj):=(allNews g h L).filter fun p=>decide (p.1 ≠ d)
open PySem PySem.Spec PyProof.Rows
structure Mod (K:PySem.W.Frag) (mg:Str->Option Value) (base:Heap):Prop where
  kin:K.In base
  glob:base.Ns mainGlobals mg
  blt:∃ mb,base.Ns builtinsNs mb /\ ∀ x:Str,x ≠ "__name__"->mb x = bootBuiltins x
  nolimit:base.NoLimit
structure Cx where
  prog:Program
  w:World
  K:PySem.W.Frag
  mg:Str->Option Value
  base:Heap
  A:Around
  N:List Str
  s₀:Shared
  H₀:Hp
  env:Env
  outer:List Env
  stack:List Env
  ex:List Addr
  fn:Str->Bool
  calm:Bool
  pn:List (Addr × Obj)
  xe:Value->Shared->Prop
def frs (l:List Env):List Addr:=l.filterMap (·.frame)
abbrev Cx.fs (X:Cx):List Addr:=frs X.outer
def Vis (sc:Scope) (x:Str):Prop:=sc.names.lookup x = some .local ∨ sc.names.lookup x = some .cell ∨ sc.names.lookup x = some .free
def Loc (sc:Scope) (x:Str):Prop:=sc.names.lookup x = some .local ∨ sc.names.lookup x = some .cell
def Look (env:Env) (h:Heap) (m:Str->Option Value) (x:Str) (u:Value):Prop :=
  (env.kindOf x = some .local /\ m x = some u) ∨ ((env.kindOf x = some .cell ∨ env.kindOf x = some .free) /\ ∃ c,env.cells.lookup x = some c /\ h.IsCell c (some u))
structure Cx.Ok (X:Cx):Prop where
  mod:Mod X.K X.mg X.base
  kind:X.env.scope.kind = .function
  glob:X.env.globals = mainGlobals
  blt:X.env.builtins = builtinsNs
  above:X.s₀.heap.objs.size ≤ X.env.locals
  inj:∀ x y c,X.env.cells.lookup x = some c->X.env.cells.lookup y = some c->x = y
  has:∀ x,(X.env.kindOf x = some .cell ∨ X.env.kindOf x = some .free)->∃ c,X.env.cells.lookup x = some c
  cab:∀ x c,X.fn x = true->X.env.cells.lookup x = some c->X.s₀.heap.objs.size ≤ c
  hd:X.calm = true->X.A.handled = none
  frames:X.A.frames = some X.stack
  stk:X.stack = X.outer ∨ (X.stack = X.env :: X.outer /\ X.env.frame = some X.env.locals)
  exf:∀ b ∈ X.ex,b ≠ X.env.locals /\ ∀ x c,X.env.cells.lookup x = some c->c ≠ b
  bs:∀ b o,X.base.get? b = some o->X.s₀.heap.get? b = some o /\ X.H₀ b = none
  bsz:X.base.objs.size ≤ X.s₀.heap.objs.size
  noex:∀ b o,X.base.get? b = some o->b ∉ X.ex
  exfs:∀ b ∈ X.ex,b ∉ X.fs
  funs:X.s₀.heap.FunFrames X.base X.outer
  frf:∀ b ∈ X.fs,X.H₀ b = none
structure Inv (X:Cx) (pins:List (Addr × Obj)) (σ:List (Option V)) (H:Hp) (s:Shared):Prop where
  ok:X.Ok
  os:s.os = X.s₀.os
  bare:AllBare s.gens
  base:Un X.fs X.ex X.H₀ H X.s₀.heap s.heap
  loc:∃ m,s.heap.Ns X.env.locals m /\ ∀ (i:Nat) (x:Str) (v:V),X.N[i]? = some x->σ[i]? = some (some v)->Vis X.env.scope x->∃ u,RelV v u /\ Look X.env s.heap m x u
  cell:∀ x c,X.env.cells.lookup x = some c->∃ v,s.heap.IsCell c v
  free:H X.env.locals = none
  freeC:∀ x c,X.env.cells.lookup x = some c->H c = none
  pin:∀ p ∈ X.pn ++ pins,s.heap.get? p.1 = some p.2 /\ H p.1 = none /\ p.1 ≠ X.env.locals /\ p.1 ∉ X.fs /\ ∀ v,p.2.data ≠ .cell v
  hok:HOk X.prog X.w H s.heap
  len:σ.length = X.N.length
section
variable {X:Cx} {pins:List (Addr × Obj)} {σ:List (Option V)} {H H':Hp} {s:Shared} {h':Heap}
theorem Cx.Ok.nofr (ok:X.Ok) {b:Addr} {o:Obj} (e:X.base.get? b = some o):b ∉ X.fs:=fun hb=>by
  have:=(ok.funs.mem hb).1
  rw [e] at this; cases this
theorem Inv.bs (I:Inv X pins σ H s):∀ b o,X.base.get? b = some o->s.heap.get? b = some o /\ H b = none:=fun b o e =>
  ⟨I.base.keep b o (I.ok.bs b o e).1 (I.ok.bs b o e).2 (I.ok.nofr e) (I.ok.noex b o e),I.base.free b o (I.ok.bs b o e).1 (I.ok.bs b o e).2 (I.ok.noex b o e)⟩
theorem Inv.bk (I:Inv X pins σ H s):∀ b o,X.base.get? b = some o->s.heap.get? b = some o:=fun b o e=>(I.bs b o e).1
theorem Inv.mod (I:Inv X pins σ H s):Mod X.K X.mg X.base:=I.ok.mod
theorem Inv.kIn (I:Inv X pins σ H s):X.K.In s.heap:=I.ok.mod.kin.keeps I.bk
theorem Inv.lt (I:Inv X pins σ H s):X.env.locals < s.heap.objs.size:=let ⟨_,hn,_⟩:=I.loc; hn.lt
theorem Inv.sz (I:Inv X pins σ H s):X.s₀.heap.objs.size ≤ s.heap.objs.size:=Nat.le_trans I.ok.above (Nat.le_of_lt I.lt)
theorem Inv.nofs (I:Inv X pins σ H s) {a:Addr} (h:s.heap.objs.size ≤ a):a ∉ X.fs:=fun hb=>by
  obtain ⟨_,o,ho,_⟩:=I.ok.funs.mem hb
  exact absurd (Nat.lt_of_lt_of_le (Heap.lt_size ho) (Nat.le_trans I.sz h)) (Nat.lt_irrefl _)
theorem Inv.cne (I:Inv X pins σ H s):∀ x c,X.env.cells.lookup x = some c->c ≠ X.env.locals:=fun x c e z=>by
  obtain ⟨v,o,ho,hd⟩:=I.cell x c e
  obtain ⟨m,⟨o',es,ep,ho',hd',_⟩,_⟩:=I.loc
  rw [z,ho'] at ho; cases ho; rw [hd'] at hd; cases hd
theorem Inv.funs (I:Inv X pins σ H s):s.heap.FunFrames X.base X.outer:=by
  have all:∀ (l:List Env),(∀ b ∈ frs l,b ∈ X.fs)->X.s₀.heap.FunFrames X.base l->s.heap.FunFrames X.base l:=by
    intro l
    induction l with
    | nil=>intro _ _; trivial
    | cons env r ih =>
      intro hs hl
      obtain ⟨hk,⟨L,o,hf,hn,ho,hd⟩,hr⟩:=hl
      have hL:L ∈ X.fs:=hs L (by unfold frs; rw [List.filterMap_cons,hf]; exact List.mem_cons_self)
      obtain ⟨sl,e⟩:=I.base.slot L o ho (I.ok.frf L hL) hL fun z=>I.ok.exfs L z hL
      exact ⟨hk,⟨L,_,hf,hn,e,hd⟩,ih (fun b hb=>hs b (by unfold frs; rw [List.filterMap_cons,hf]; exact List.mem_cons_of_mem _ hb)) hr⟩
  exact all X.outer (fun _ hb=>hb) I.ok.funs
theorem Inv.stack (I:Inv X pins σ H s):s.heap.FunFrames X.base X.stack:=by
  rcases I.ok.stk with e | ⟨e,hf⟩
  · rw [e]; exact I.funs
  · rw [e]
    obtain ⟨m,hn,_⟩:=I.loc
    refine .cons (by rw [I.ok.kind]; decide) hf hn ?_ I.funs
    exact Heap.get?_none_of_le (Nat.le_trans I.ok.bsz I.ok.above)
theorem Inv.stkSub (I:Inv X pins σ H s):∀ b ∈ frs X.stack,b ∈ X.env.locals :: X.fs:=fun b hb=>by
  rcases I.ok.stk with e | ⟨e,hf⟩
  · rw [e] at hb; exact List.mem_cons_of_mem _ hb
  · rw [e] at hb
    unfold frs at hb
    rw [List.filterMap_cons,hf] at hb
    exact hb
theorem Inv.stkFree (I:Inv X pins σ H s):∀ b ∈ frs X.stack,H b = none:=fun b hb=>by
  rcases List.mem_cons.mp (I.stkSub b hb) with e | hb
  · rw [e]; exact I.free
  · obtain ⟨_,o,ho,_⟩:=I.ok.funs.mem hb
    exact I.base.free b o ho (I.ok.frf b hb) fun z=>I.ok.exfs b z hb
theorem Inv.step {g':Array GenState} {t':Nat} {d':Drawn} {ch:List Addr} (I:Inv X pins σ H s)
    (hch:∀ b ∈ ch,(b ∈ X.ex ∨ X.s₀.heap.objs.size ≤ b) /\ b ≠ X.env.locals /\ (∀ x c,X.env.cells.lookup x = some c->c ≠ b) /\ ∀ p ∈ X.pn ++ pins,p.1 ≠ b)
    (keep:∀ b o,b ≠ X.env.locals->b ∉ X.fs->b ∉ ch->s.heap.get? b = some o->H b = none->h'.get? b = some o)
    (slot:∀ b o,b ≠ X.env.locals->b ∈ X.fs->b ∉ ch->s.heap.get? b = some o->H b = none->∃ sl,h'.get? b = some { o with slots:=sl }) (free:∀ b o,b ∉ ch->s.heap.get? b = some o->H b = none->H' b = none)
    (there:∀ b o,b ∉ ch->s.heap.get? b = some o->∃ o',h'.get? b = some o')
    (tups:∀ b xs,H b = some (.tup xs)->H' b = some (.tup xs)) (frzs:∀ b o u,H b = some (.frz o u)->H' b = some (.frz o u)) (tbls:∀ b ps,H b = some (.tbl ps)->∃ more,H' b = some (.tbl (ps ++ more)))
    (ns:∀ m,s.heap.Ns X.env.locals m->h'.Ns X.env.locals m) (hok:HOk X.prog X.w H' h') (hg:AllBare g') :
    Inv X pins σ H' { s with heap:=h',gens:=g',drawn:=d',toks:=t' }:=by
  have neL:∀ b o,X.s₀.heap.get? b = some o->b ≠ X.env.locals:=fun b o e=>Nat.ne_of_lt (Nat.lt_of_lt_of_le (Heap.lt_size e) I.ok.above)
  have neC:∀ b o,X.s₀.heap.get? b = some o->b ∉ X.ex->b ∉ ch:=fun b o e hx hb=>by
    rcases (hch b hb).1 with z | z
    · exact hx z
    · exact absurd (Nat.lt_of_lt_of_le (Heap.lt_size e) z) (Nat.lt_irrefl _)
  have cellK:∀ x c,X.env.cells.lookup x = some c->∀ v,s.heap.IsCell c v->h'.IsCell c v:=fun x c e v ⟨o,ho,hd⟩=>by
    have nch:c ∉ ch:=fun z=>(hch c z).2.2.1 x c e rfl
    by_cases hc:c ∈ X.fs
    · obtain ⟨sl,q⟩:=slot c o (I.cne x c e) hc nch ho (I.freeC x c e)
      exact ⟨_,q,hd⟩
    · exact ⟨o,keep c o (I.cne x c e) hc nch ho (I.freeC x c e),hd⟩
  refine ⟨I.ok,I.os,hg,⟨fun b o e n hb hx=>?_,fun b o e n hb hx=>?_,fun b o e n hx=>?_,fun b o e hx=>?_,fun b xs e=>tups b xs (I.base.tups b xs e),fun b o xs e=>frzs b o xs (I.base.frzs b o xs e),fun b ps e=>?_⟩,?_,fun x c e=>?_,?_,fun x c e=>?_,fun p hp=>?_,hok,I.len⟩
  · exact keep b o (neL b o e) hb (neC b o e hx) (I.base.keep b o e n hb hx) (I.base.free b o e n hx)
  · obtain ⟨sl,e1⟩:=I.base.slot b o e n hb hx
    obtain ⟨sl',e2⟩:=slot b _ (neL b o e) hb (neC b o e hx) e1 (I.base.free b o e n hx)
    exact ⟨sl',e2⟩
  · obtain ⟨o',e1⟩:=I.base.there b o e hx
    exact free b o' (neC b o e hx) e1 (I.base.free b o e n hx)
  · obtain ⟨o',e1⟩:=I.base.there b o e hx
    exact there b o' (neC b o e hx) e1
  · obtain ⟨m1,e1⟩:=I.base.tbls b ps e
    obtain ⟨m2,e2⟩:=tbls b _ e1
    exact ⟨m1 ++ m2,by rw [e2,Array.append_assoc]⟩
  · obtain ⟨m,hn,hl⟩:=I.loc
    refine ⟨m,ns m hn,fun i x v e1 e2 e3=>?_⟩
    obtain ⟨u,r,l⟩:=hl i x v e1 e2 e3
    refine ⟨u,r,?_⟩
    rcases l with l | ⟨k,c,e,z⟩
    · exact .inl l
    · exact .inr ⟨k,c,e,cellK x c e _ z⟩
  · obtain ⟨v,z⟩:=I.cell x c e
    exact ⟨v,cellK x c e v z⟩
  · obtain ⟨m,⟨o,_,_,ho,_⟩,_⟩:=I.loc
    exact free _ o (fun z=>(hch _ z).2.1 rfl) ho I.free
  · obtain ⟨v,o,ho,hd⟩:=I.cell x c e
    exact free c o (fun z=>(hch c z).2.2.1 x c e rfl) ho (I.freeC x c e)
  · obtain ⟨e,n,ne,nf,d⟩:=I.pin p hp
    have nch:p.1 ∉ ch:=fun z=>(hch p.1 z).2.2.2 p hp rfl
    exact ⟨keep p.1 p.2 ne nf nch e n,free p.1 p.2 nch e n,ne,nf,d⟩
theorem Inv.un {t':Nat} (I:Inv X pins σ H s) (u:Un X.fs [] H H' s.heap h') (hok:HOk X.prog X.w H' h'):Inv X pins σ H' { s with heap:=h',toks:=t' }:=by
  obtain ⟨m,⟨o,es,ep,ho,r⟩,_⟩:=id I.loc
  obtain ⟨sl,hL⟩:=u.any ho I.free (by simp)
  exact I.step (g':=s.gens) (d':=s.drawn) (ch:=[]) (fun _ z=>nomatch z) (fun b o _ hb _ e n=>u.keep b o e n hb (by simp)) (fun b o _ hb _ e n=>u.slot b o e n hb (by simp)) (fun b o _ e n=>u.free b o e n (by simp)) (fun b o _ e=>u.there b o e (by simp)) u.tups u.frzs u.tbls (fun m' hm=>by
    obtain ⟨o',es',ep',ho',r'⟩:=hm
    rw [ho] at ho'; cases ho'
    exact ⟨_,es',ep',hL,r'⟩) hok I.bare
theorem Inv.call {g':Array GenState} {t':Nat} {d':Drawn} {ch:List Addr} (I:Inv X pins σ H s) (u:Un (frs X.stack) ch H H' s.heap h') (hok:HOk X.prog X.w H' h') (hg:AllBare g')
    (hch:∀ b ∈ ch,(b ∈ X.ex ∨ X.s₀.heap.objs.size ≤ b) /\ b ≠ X.env.locals /\ (∀ x c,X.env.cells.lookup x = some c->c ≠ b) /\ ∀ p ∈ X.pn ++ pins,p.1 ≠ b) :
    Inv X pins σ H' { s with heap:=h',gens:=g',drawn:=d',toks:=t' }:=by
  obtain ⟨m,⟨o,es,ep,ho,r⟩,_⟩:=id I.loc
  obtain ⟨sl,hL⟩:=u.any ho I.free fun z=>(hch _ z).2.1 rfl
  exact I.step (ch:=ch) hch (fun b o hL hb hc e n=>u.keep b o e n (fun z=>(List.mem_cons.mp (I.stkSub b z)).elim hL hb) hc) (fun b o _ _ hc e n=>u.any e n hc) (fun b o hc e n=>u.free b o e n hc) (fun b o hc e=>u.there b o e hc) u.tups u.frzs u.tbls (fun m' hm=>by
    obtain ⟨o',es',ep',ho',r'⟩:=hm
    rw [ho] at ho'; cases ho'
    exact ⟨_,es',ep',hL,r'⟩) hok hg
theorem Inv.turned {t':Nat} {it:Addr} (I:Inv X pins σ H s) (k:∀ b o,b ≠ it->s.heap.get? b = some o->h'.get? b = some o) (hn:H it = none) (hL:it ≠ X.env.locals)
    (h1:it ∈ X.ex ∨ X.s₀.heap.objs.size ≤ it) (h2:∀ x c,X.env.cells.lookup x = some c->c ≠ it) (h3:∀ p ∈ X.pn ++ pins,p.1 ≠ it):Inv X pins σ H { s with heap:=h',toks:=t' }:=by
  have nit:∀ b u,H b = some u->b ≠ it:=fun b u e z=>by rw [z,hn] at e; cases e
  refine I.step (g':=s.gens) (d':=s.drawn) (ch:=[it]) (fun b hb=>?_) (fun b o _ _ hc e _=>k b o (fun z=>hc (by simp [z])) e) (fun b o _ _ hc e _=>⟨o.slots,k b o (fun z=>hc (by simp [z])) e⟩) (fun _ _ _ _ n=>n)
    (fun b o hc e=>⟨o,k b o (fun z=>hc (by simp [z])) e⟩) (fun _ _ e=>e) (fun _ _ _ e=>e) (fun b ps e=>⟨#[],by rw [e]; simp⟩) (fun m hm=>?_) (fun b u e=>?_) I.bare
  · have e:b = it:=by simpa using hb
    subst e
    exact ⟨h1,hL,h2,h3⟩
  · obtain ⟨o,es,ep,ho,r⟩:=hm
    exact ⟨o,es,ep,k _ o (Ne.symm hL) ho,r⟩
  · refine (I.hok b u e).stay (fun c v hc q=>k c v ?_ q) (fun _ q=>q) fun _ _ q=>q
    rcases hc with z | z
    · rw [z]; exact nit b u e
    · exact nit c _ z
theorem Inv.tok (I:Inv X pins σ H s) (t:Nat):Inv X pins σ H { s with toks:=t }:=I.un (h':=s.heap) (t':=t) Un.refl I.hok
theorem Inv.kept {t':Nat} (I:Inv X pins σ H s) (k:∀ b u,s.heap.get? b = some u->h'.get? b = some u):Inv X pins σ H { s with heap:=h',toks:=t' }:=I.un (Un.kept k) (I.hok.kept k)
theorem Inv.laid {a:Addr} {o:HO} {t':Nat} (I:Inv X pins σ H s) (k:∀ b u,s.heap.get? b = some u->h'.get? b = some u) (hp:s.heap.objs.size ≤ a) (new:ObjOk X.prog X.w (upd H a o) h' a o) :
    Inv X pins σ (upd H a o) { s with heap:=h',toks:=t' }:=I.un (Un.laid k hp (I.hok.fresh hp)) (I.hok.laid k hp new)
theorem Inv.write {x e:Addr} {o:HO} {t':Nat} (I:Inv X pins σ H s) (mu:Mut (H x)) (he:e = x ∨ H e = some (.own x)) (k:∀ b u,b ≠ e->s.heap.get? b = some u->h'.get? b = some u) (heo:∃ u,h'.get? e = some u)
    (new:ObjOk X.prog X.w (upd H x o) h' x o):Inv X pins σ (upd H x o) { s with heap:=h',toks:=t' }:=I.un (Un.write mu he k heo) (I.hok.write mu he k heo new)
theorem Inv.pins_of {pins':List (Addr × Obj)} (I:Inv X pins σ H s) (h:∀ p ∈ pins',s.heap.get? p.1 = some p.2 /\ H p.1 = none /\ p.1 ≠ X.env.locals /\ p.1 ∉ X.fs /\ ∀ v,p.2.data ≠ .cell v):Inv X pins' σ H s :=
  ⟨I.ok,I.os,I.bare,I.base,I.loc,I.cell,I.free,I.freeC,fun p hp=>(List.mem_append.mp hp).elim (fun z=>I.pin p (List.mem_append_left _ z)) (h p),I.hok,I.len⟩
theorem nodup_ix {N:List Str} (hN:N.Nodup) {i j:Nat} {x:Str} (a:N[i]? = some x) (b:N[j]? = some x):i = j:=by
  obtain ⟨h1,e1⟩:=List.getElem?_eq_some_iff.mp a
  obtain ⟨h2,e2⟩:=List.getElem?_eq_some_iff.mp b
  exact (List.getElem_inj hN).mp (e1.trans e2.symm)
theorem store_ok2 {M:Model} {A:Around} {E:Value->Shared->Prop} {i:Nat} {x:Str} {v:V} {u:Value} {Q:Unit->Shared->Prop} (I:Inv X pins σ H s) (hN:X.N.Nodup) (hi:X.N[i]? = some x) (hx:Loc X.env.scope x) (r:RelV v u)
    (h:∀ s',Inv X pins (σ.set i (some v)) H s'->(∃ a,Heap.SameBut a s.heap s'.heap /\ (a = X.env.locals ∨ X.env.cells.lookup x = some a))->Q () s') (hf:X.fn x = true ∨ X.env.scope.names.lookup x = some .local:=by first | exact .inl rfl | exact .inr rfl | assumption):wpAny M A (storeName X.env x u) Q E s:=by
  obtain ⟨m,hn,hl⟩:=id I.loc
  have hcls:(X.env.scope.kind == .class || (X.env.scope.kind == .module && X.env.locals != X.env.globals)) = false:=by rw [I.ok.kind]; rfl
  have hiσ:i < σ.length:=by rw [I.len]; exact (List.getElem?_eq_some_iff.mp hi).1
  have cne:=I.cne
  have tracked:∀ {a:Addr} {h':Heap},(∃ o,s.heap.get? a = some o /\ H a = none)->Heap.SameBut a s.heap h'->HOk X.prog X.w H h':=fun {a h'} ha hs b ob e=>by
    obtain ⟨_,_,hfree⟩:=ha
    refine (I.hok b ob e).stay (fun c w' hc q=>(hs.2 c ?_).trans q) (fun _ q=>q) fun _ _ q=>q
    rintro rfl
    rcases hc with rfl | hc
    · rw [hfree] at e; cases e
    · rw [hfree] at hc; cases hc
  rcases hx with hk | hk
  · refine wpAny_storeName_local hk hn (fun h' hn' hs=>?_) hcls
    obtain ⟨oL,_,_,hoL,_⟩:=id hn
    refine h _ ⟨I.ok,I.os,I.bare,⟨fun b o e n hb hx=>?_,fun b o e n hb hx=>?_,I.base.free,fun b o e hx=>?_,I.base.tups,I.base.frzs,I.base.tbls⟩,⟨_,hn',fun j y v' e1 e2 e3=>?_⟩,fun y c e=>?_,I.free,I.freeC,fun p hp=>?_,tracked ⟨oL,hoL,I.free⟩ hs,by simpa using I.len⟩ ⟨_,hs,.inl rfl⟩
    · exact (hs.2 b (Nat.ne_of_lt (Nat.lt_of_lt_of_le (Heap.lt_size e) I.ok.above))).trans (I.base.keep b o e n hb hx)
    · obtain ⟨sl,e1⟩:=I.base.slot b o e n hb hx
      exact ⟨sl,(hs.2 b (Nat.ne_of_lt (Nat.lt_of_lt_of_le (Heap.lt_size e) I.ok.above))).trans e1⟩
    · obtain ⟨o',e1⟩:=I.base.there b o e hx
      exact ⟨o',(hs.2 b (Nat.ne_of_lt (Nat.lt_of_lt_of_le (Heap.lt_size e) I.ok.above))).trans e1⟩
    · by_cases hj:j = i
      · subst hj
        rw [hi] at e1; cases e1
        rw [List.getElem?_set_self hiσ] at e2
        cases e2
        exact ⟨u,r,.inl ⟨hk,by simp⟩⟩
      · rw [List.getElem?_set_ne (Ne.symm hj)] at e2
        obtain ⟨u',r',q⟩:=hl j y v' e1 e2 e3
        refine ⟨u',r',?_⟩
        rcases q with ⟨k,e⟩ | ⟨k,c,e,z⟩
        · refine .inl ⟨k,?_⟩
          have:y ≠ x:=fun e=>hj (nodup_ix hN e1 (e ▸ hi))
          simp [this,e]
        · exact .inr ⟨k,c,e,z.sameBut hs (cne y c e)⟩
    · obtain ⟨w',z⟩:=I.cell y c e
      exact ⟨w',z.sameBut hs (cne y c e)⟩
    · obtain ⟨e,n,ne,nf,d⟩:=I.pin p hp
      exact ⟨(hs.2 p.1 ne).trans e,n,ne,nf,d⟩
  · have hfn:X.fn x = true:=by
      rcases hf with z | z
      · exact z
      · rw [z] at hk; cases hk
    obtain ⟨c,hc⟩:=I.ok.has x (.inl hk)
    obtain ⟨w',z⟩:=I.cell x c hc
    refine wpAny_storeName_cell I.ok.kind hk hc z (fun h' hc' hs=>?_)
    obtain ⟨oc,hoc,hocd⟩:=id z
    refine h { s with heap:=h' } ⟨I.ok,I.os,I.bare,⟨fun b o e n hb hx=>?_,fun b o e n hb hx=>?_,I.base.free,fun b o e hx=>?_,I.base.tups,I.base.frzs,I.base.tbls⟩,⟨m,hn.sameBut hs (Ne.symm (cne x c hc)),fun j y v' e1 e2 e3=>?_⟩,fun y c' e=>?_,I.free,I.freeC,fun p hp=>?_,tracked ⟨oc,hoc,I.freeC x c hc⟩ hs,by simpa using I.len⟩ ⟨c,hs,.inr hc⟩
    · exact (hs.2 b (Nat.ne_of_lt (Nat.lt_of_lt_of_le (Heap.lt_size e) (I.ok.cab x c hfn hc)))).trans (I.base.keep b o e n hb hx)
    · obtain ⟨sl,e1⟩:=I.base.slot b o e n hb hx
      exact ⟨sl,(hs.2 b (Nat.ne_of_lt (Nat.lt_of_lt_of_le (Heap.lt_size e) (I.ok.cab x c hfn hc)))).trans e1⟩
    · obtain ⟨o',e1⟩:=I.base.there b o e hx
      exact ⟨o',(hs.2 b (Nat.ne_of_lt (Nat.lt_of_lt_of_le (Heap.lt_size e) (I.ok.cab x c hfn hc)))).trans e1⟩
    · by_cases hj:j = i
      · subst hj
        rw [hi] at e1; cases e1
        rw [List.getElem?_set_self hiσ] at e2
        cases e2
        exact ⟨u,r,.inr ⟨.inl hk,c,hc,hc'⟩⟩
      · rw [List.getElem?_set_ne (Ne.symm hj)] at e2
        obtain ⟨u',r',q⟩:=hl j y v' e1 e2 e3
        refine ⟨u',r',?_⟩
        rcases q with q | ⟨k,c',e,z'⟩
        · exact .inl q
        · refine .inr ⟨k,c',e,z'.sameBut hs ?_⟩
          rintro rfl
          exact hj (nodup_ix hN e1 (I.ok.inj _ _ _ e hc ▸ hi))
    · by_cases hcc:c' = c
      · subst hcc; exact ⟨_,hc'⟩
      · obtain ⟨w2,z2⟩:=I.cell y c' e
        exact ⟨w2,z2.sameBut hs hcc⟩
    · obtain ⟨e,n,ne,nf,d⟩:=I.pin p hp
      refine ⟨(hs.2 p.1 ?_).trans e,n,ne,nf,d⟩
      intro q
      rw [q,hoc] at e
      have q':oc = p.2:=Option.some.inj e
      exact d w' (by rw [← q']; exact hocd)
theorem store_ok {M:Model} {A:Around} {E:Value->Shared->Prop} {i:Nat} {x:Str} {v:V} {u:Value} {Q:Unit->Shared->Prop} (I:Inv X pins σ H s) (hN:X.N.Nodup) (hi:X.N[i]? = some x) (hx:Loc X.env.scope x) (r:RelV v u)
    (h:∀ s',Inv X pins (σ.set i (some v)) H s'->Q () s') (hf:X.fn x = true ∨ X.env.scope.names.lookup x = some .local:=by first | exact .inl rfl | exact .inr rfl | assumption):wpAny M A (storeName X.env x u) Q E s :=
  store_ok2 I hN hi hx r (fun s' I' _=>h s' I') hf
theorem Inv.call' {s':Shared} {ch:List Addr} (I:Inv X pins σ H s) (ho:s'.os = s.os) (u:Un (frs X.stack) ch H H' s.heap s'.heap) (hok:HOk X.prog X.w H' s'.heap) (hg:AllBare s'.gens)
    (hch:∀ b ∈ ch,(b ∈ X.ex ∨ X.s₀.heap.objs.size ≤ b) /\ b ≠ X.env.locals /\ (∀ x c,X.env.cells.lookup x = some c->c ≠ b) /\ ∀ p ∈ X.pn ++ pins,p.1 ≠ b):Inv X pins σ H' s':=by
  obtain ⟨h',g',d',t',o'⟩:=s'
  have e:o' = s.os:=ho
  subst e
  exact I.call (g':=g') (t':=t') (d':=d') u hok hg hch
end
abbrev XK:=Value->Option Addr->Hp->Prop
abbrev St:=List (Option V)
abbrev VK:=V->Hp->Prop
abbrev TE:=St->Hp->VK->Prop
abbrev TT:=St->Hp->(Bool->Hp->Prop)->Prop
abbrev TA:=St->Hp->(List V->Hp->Prop)->Prop
structure Ends where
  nx:St->Hp->Prop
  rt:VK
  bk:St->Hp->Prop:=fun _ _=>False
  ct:St->Hp->Prop:=fun _ _=>False
abbrev TS:=Ends->St->Hp->Prop
def EP (X:Cx) (pins:List (Addr × Obj)) (σ:St) (Q:VK) (u:Value) (s':Shared):Prop:=∃ v H',Inv X pins σ H' s' /\ RelV v u /\ Q v H'
def TP (X:Cx) (pins:List (Addr × Obj)) (σ:St) (Q:Bool->Hp->Prop) (b:Bool) (s':Shared):Prop:=∃ H',Inv X pins σ H' s' /\ Q b H'
def AP (X:Cx) (pins:List (Addr × Obj)) (σ:St) (Q:List V->Hp->Prop) (us:List Value) (s':Shared):Prop:=∃ vs H',Inv X pins σ H' s' /\ Vals vs us /\ Q vs H'
def SP (X:Cx) (pins:List (Addr × Obj)) (D:Ends) (f:Flow) (s':Shared):Prop :=
  match f with
  | .next=>∃ σ' H',Inv X pins σ' H' s' /\ D.nx σ' H'
  | .brk=>∃ σ' H',Inv X pins σ' H' s' /\ D.bk σ' H'
  | .cont=>∃ σ' H',Inv X pins σ' H' s' /\ D.ct σ' H'
  | .ret u=>∃ v σ' H',Inv X pins σ' H' s' /\ RelV v u /\ D.rt v H'
def PE (X:Cx) (e:Expr) (t:TE):Prop :=
  ∀ (pins:List (Addr × Obj)) (s:Shared) (σ:St) (H:Hp) (Q:VK),Inv X pins σ H s->t σ H Q->wpAny (model X.prog X.w) X.A (eval e X.env) (EP X pins σ Q) X.xe s
def PT (X:Cx) (e:Expr) (t:TT):Prop :=
  ∀ (pins:List (Addr × Obj)) (s:Shared) (σ:St) (H:Hp) (Q:Bool->Hp->Prop),Inv X pins σ H s->t σ H Q->wpAny (model X.prog X.w) X.A (isTrue e X.env (eval e X.env)) (TP X pins σ Q) X.xe s
def PW (X:Cx) (e:Expr) (t:TT):Prop :=
  ∀ (whole:Sem Value) (pins:List (Addr × Obj)) (s:Shared) (σ:St) (H:Hp) (Q:Bool->Hp->Prop),Inv X pins σ H s->t σ H Q->wpAny (model X.prog X.w) X.A (isTrue e X.env whole) (TP X pins σ Q) X.xe s
theorem PW.pt {X:Cx} {e:Expr} {t:TT} (h:PW X e t):PT X e t:=h _
def PA (X:Cx) (es:List Expr) (t:TA):Prop :=
  ∀ (pos:Pos) (pins:List (Addr × Obj)) (s:Shared) (σ:St) (H:Hp) (Q:List V->Hp->Prop),Inv X pins σ H s->t σ H Q->wpAny (model X.prog X.w) X.A (spliced (backTo pos (starEach es X.env))) (AP X pins σ Q) X.xe s
def PS (X:Cx) (st:Stmt) (t:TS):Prop :=
  ∀ (pins:List (Addr × Obj)) (s:Shared) (σ:St) (H:Hp) (D:Ends),Inv X pins σ H s->t D σ H->wpAny (model X.prog X.w) X.A (exec st X.env) (SP X pins D) X.xe s
def PSs (X:Cx) (st:List Stmt) (t:TS):Prop :=
  ∀ (pins:List (Addr × Obj)) (s:Shared) (σ:St) (H:Hp) (D:Ends),Inv X pins σ H s->t D σ H->wpAny (model X.prog X.w) X.A (execs st X.env) (SP X pins D) X.xe s
theorem thn {α:Type} {t:Sem α} {Q Q':α->Shared->Prop} {M:Model} {A:Around} {E:Value->Shared->Prop} {s:Shared} (h:wpAny M A t Q E s) (hQ:∀ a s,Q a s->Q' a s):wpAny M A t Q' E s:=wpAny_mono h hQ fun _ _ x=>x
open PySem PySem.Spec PyProof.Rows
section
variable {X:Cx}
def tVar (i:Nat):TE:=fun σ H Q=>∃ v,σ[i]? = some (some v) /\ Q v H
def tC (v:V):TE:=fun _ H Q=>Q v H
theorem pe_var {i:Nat} {x:Str} {pos:Pos} (hN:X.N[i]? = some x) (hv:Vis X.env.scope x) (hd:(x == ("__debug__":Str)) = false:=by decide) (hcd:(x == ("__classdict__":Str)) = false:=by decide):PE X (.Name x pos) (tVar i):=by
  intro pins s σ H Q I h
  obtain ⟨v,e,h⟩:=h
  obtain ⟨m,hn,hl⟩:=I.loc
  obtain ⟨u,r,l⟩:=hl i x v hN e hv
  have fin:EP X pins σ Q u s:=⟨v,H,I,r,h⟩
  rcases l with ⟨hk,hm⟩ | ⟨hk,c,hc,hcell⟩
  · exact wpAny_Name (wpAny_loadName_local I.ok.kind hk hn hm fin) hd
  · rcases hk with hk | hk
    · exact wpAny_Name (wpAny_loadName_cell I.ok.kind hk hc hcell fin) hd
    · exact wpAny_Name (wpAny_loadName_free I.ok.kind hk hc hcell fin hcd) hd
theorem pe_int {i j pos}:PE X (.Constant (.int i) j pos) (tC (.int i)):=fun _ _ _ H _ I h=>wpAny_Constant_int ⟨.int i,H,I.tok _,⟨_,rfl⟩,h⟩
theorem pe_bl {b j pos}:PE X (.Constant (.bool b) j pos) (tC (.bl b)):=fun _ _ _ H _ I h=>Constant_bool ⟨.bl b,H,I,rfl,h⟩
theorem pe_non {j pos}:PE X (.Constant .none j pos) (tC .non):=fun _ _ _ H _ I h=>Constant_none ⟨.non,H,I,rfl,h⟩
theorem pe_str {x j pos}:PE X (.Constant (.str x) j pos) (tC (.str x)):=fun _ _ _ H _ I h=>Calls.Constant_str ⟨.str x,H,I.tok _,⟨_,rfl⟩,h⟩
def Gl (X:Cx) (x:Str):Prop:=X.env.kindOf x = some .globalImplicit
theorem ld_glob {E:Value->Shared->Prop} {pins:List (Addr × Obj)} {s:Shared} {σ:St} {H:Hp} {x:Str} {u:Value} {pos:Pos} {Q:Value->Shared->Prop} (I:Inv X pins σ H s) (hg:Gl X x) (hm:X.mg x = some u) (h:Q u s)
    (hd:(x == ("__debug__":Str)) = false:=by decide):wpAny (model X.prog X.w) X.A (eval (.Name x pos) X.env) Q E s :=
  Calls.Name_function_global I.ok.kind hg (Calls.loadGlobal_global (by rw [I.ok.glob]; exact I.mod.glob.keeps I.bk) hm h) hd
theorem ld_blt {E:Value->Shared->Prop} {pins:List (Addr × Obj)} {s:Shared} {σ:St} {H:Hp} {x:Str} {u:Value} {pos:Pos} {Q:Value->Shared->Prop} (I:Inv X pins σ H s) (hg:Gl X x) (hm:X.mg x = none) (hv:bootBuiltins x = some u) (h:Q u s)
    (hn:x ≠ "__name__":=by decide) (hd:(x == ("__debug__":Str)) = false:=by decide):wpAny (model X.prog X.w) X.A (eval (.Name x pos) X.env) Q E s:=by
  obtain ⟨mb,h1,h2⟩:=I.mod.blt
  exact Calls.Name_function_global I.ok.kind hg (Calls.loadGlobal_builtin (by rw [I.ok.glob]; exact I.mod.glob.keeps I.bk) hm (by rw [I.ok.blt]; exact h1.keeps I.bk) ((h2 x hn).trans hv) h) hd
theorem pe_glob {x:Str} {v:V} {u:Value} {pos:Pos} (hg:Gl X x) (hm:X.mg x = some u) (r:RelV v u) (hd:(x == ("__debug__":Str)) = false:=by decide):PE X (.Name x pos) (tC v) :=
  fun _ _ _ H _ I h=>ld_glob I hg hm ⟨v,H,I,r,h⟩ hd
theorem pe_bltn {x:Str} {v:V} {u:Value} {pos:Pos} (hg:Gl X x) (hm:X.mg x = none) (hv:bootBuiltins x = some u) (r:RelV v u) (hn:x ≠ "__name__":=by decide) (hd:(x == ("__debug__":Str)) = false:=by decide):PE X (.Name x pos) (tC v) :=
  fun _ _ _ H _ I h=>ld_blt I hg hm hv ⟨v,H,I,r,h⟩ hn hd
variable {a b:Expr} {ta tb:TE} {pos:Pos}
def PC (X:Cx) (op:CmpOp) (a b:Expr) (t:TE):Prop :=
  ∀ (pins:List (Addr × Obj)) (s:Shared) (σ:St) (H:Hp) (Q:VK),Inv X pins σ H s->t σ H Q →
    wpAny (model X.prog X.w) X.A (eval a X.env) (fun v s₁=>wpAny (model X.prog X.w) X.A (eval b X.env) (fun u s₂=>wpAny (model X.prog X.w) X.A (compareOp op v u) (EP X pins σ Q) X.xe s₂) X.xe s₁) X.xe s
theorem nobehind (b:Expr) {op:CmpOp} (h:op ≠ .In) (h2:op ≠ .NotIn):behindInMarks op b = false:=by
  have e1:(op == CmpOp.In) = false:=by cases op <;> first | rfl | exact absurd rfl h
  have e2:(op == CmpOp.NotIn) = false:=by cases op <;> first | rfl | exact absurd rfl h2
  cases b <;> simp [behindInMarks,e1,e2]
def tB (t:TE):TT:=fun σ H Q=>t σ H fun x H1=>∃ c,x = .bl c /\ Q c H1
theorem pt_cmp {op:CmpOp} {t:TE} (h:PC X op a b t) (h1:behindInMarks op b = false:=by first | exact nobehind _ (by decide) (by decide) | rfl):PT X (.Compare a [op] [b] pos) (tB t):=by
  intro pins s σ H Q I hw
  refine wpAny_isTrue_Compare1 (thn (h pins s σ H _ I hw) fun v s1 h1=>thn h1 fun u s2 h2=>thn h2 fun c s3 ⟨x,H1,I1,r1,q1⟩=>?_) h1
  obtain ⟨d,rfl,q⟩:=q1
  cases r1
  exact wpAny_truthy_bool ⟨H1,I1,q⟩
theorem pt_val {e:Expr} {t:TE} (h:PE X e t) (he:∀ whole,isTrue e X.env whole = (do let v ← whole; standAt e.pos; holding [v] (truthy v)):=by intro _; rfl):PT X e (tB t):=by
  intro pins s σ H Q I hw
  refine isTrue_plain (thn (h pins s σ H _ I hw) fun v s1 ⟨x,H1,I1,r1,q1⟩=>?_) (he _)
  obtain ⟨d,rfl,q⟩:=q1
  cases r1
  exact wpAny_truthy_bool ⟨H1,I1,q⟩
variable {tA tB':TT} {rest:List Expr}
def tOr (t u:TT):TT:=fun σ H Q=>t σ H fun c H1=>if c = true then Q true H1 else u σ H1 Q
def tNot (t:TT):TT:=fun σ H Q=>t σ H fun c H1=>Q (!c) H1
theorem pw_or1 (ha:PT X a tA):PW X (.BoolOp .Or [a] pos) tA:=by
  intro wh pins s σ H Q I h
  refine isTrue_or (thn (ha pins s σ H Q I h) fun c s1 e=>?_)
  cases c with
  | false=>exact isTrue_or_nil e
  | true=>exact e
theorem pw_or (ha:PT X a tA) (hb:PW X (.BoolOp .Or (b :: rest) pos) tB'):PW X (.BoolOp .Or (a :: b :: rest) pos) (tOr tA tB'):=by
  intro wh pins s σ H Q I h
  refine isTrue_or (thn (ha pins s σ H _ I h) fun c s1 ⟨H1,I1,q1⟩=>?_)
  cases c with
  | true=>exact ⟨H1,I1,q1⟩
  | false=>exact hb wh pins s1 σ H1 Q I1 q1
theorem pt_not (ha:PT X a tA):PT X (.UnaryOp .Not a pos) (tNot tA):=by
  intro pins s σ H Q I h
  exact isTrue_not (ha pins s σ H (fun c H1=>Q (!c) H1) I h)
def tAndV (ta tb:TE):TE:=fun σ H Q=>ta σ H fun x H1=>∃ c,x = .bl c /\ if c = true then tb σ H1 Q else Q (.bl false) H1
def tNotV (ta:TE):TE:=fun σ H Q=>ta σ H fun x H1=>∃ c,x = .bl c /\ Q (.bl (!c)) H1
theorem pe_one {op} {t:TE} (h:PE X a t):PE X (.BoolOp op [a] pos) t:=fun pins s σ H Q I hw=>BoolOp_one (h pins s σ H Q I hw)
theorem pe_and (ha:PE X a ta) (hb:PE X (.BoolOp .And (b :: rest) pos) tb):PE X (.BoolOp .And (a :: b :: rest) pos) (tAndV ta tb):=by
  intro pins s σ H Q I h
  refine BoolOp_and (thn (ha pins s σ H _ I h) fun v s1 ⟨x,H1,I1,r1,q1⟩=>?_)
  obtain ⟨c,rfl,q1⟩:=q1
  cases r1
  refine wpAny_truthy_bool ?_
  cases c with
  | true=>exact hb pins s1 σ H1 Q I1 q1
  | false=>exact ⟨.bl false,H1,I1,rfl,q1⟩
theorem pe_not (ha:PE X a ta):PE X (.UnaryOp .Not a pos) (tNotV ta):=by
  intro pins s σ H Q I h
  refine UnaryOp_ (thn (ha pins s σ H _ I h) fun v s1 ⟨x,H1,I1,r1,q1⟩=>?_)
  obtain ⟨c,rfl,q1⟩:=q1
  cases r1
  exact not_of (wpAny_truthy_bool ⟨.bl (!c),H1,I1,rfl,q1⟩)
def tIf (t:TT) (ta tb:TE):TE:=fun σ H Q=>t σ H fun c H1=>if c = true then ta σ H1 Q else tb σ H1 Q
theorem pe_ifExp {c:Expr} (hc:PT X c tA) (ha:PE X a ta) (hb:PE X b tb):PE X (.IfExp c a b pos) (tIf tA ta tb):=by
  intro pins s σ H Q I h
  refine wpAny_IfExp (thn (hc pins s σ H _ I h) fun d s1 ⟨H1,I1,q1⟩=>?_)
  cases d with
  | true=>exact ha pins s1 σ H1 Q I1 q1
  | false=>exact hb pins s1 σ H1 Q I1 q1
end
open PySem PySem.Spec PyProof.Rows
def SqL (K:PySem.W.Frag) (H:Hp) (a:Addr) (xs:List V):Prop :=
  Rd H a (.lst xs) ∨
    ∃ (o:Obj) (its:Array Value) (n:Nat),K.lookup a = some o /\ o.cls = .type "list" /\ o.dict = none /\ o.data = .seq its n /\ its.size ≤ sizeLine /\ Vals xs its.toList
def SqT (K:PySem.W.Frag) (H:Hp) (a:Addr) (xs:List V):Prop :=
  Rd H a (.tup xs) ∨
    ∃ (o:Obj) (its:Array Value) (n:Nat),K.lookup a = some o /\ o.cls = .type "tuple" /\ o.data = .seq its n /\ its.size ≤ sizeLine /\ Vals xs its.toList
def absV:Value->Option V
  | .none=>some .non
  | .bool b=>some (.bl b)
  | .int i _=>some (.int i)
  | .str x _=>some (.str x)
  | .bytes b _=>some (.byt b)
  | .float b _=>some (.flt b)
  | .ref a=>some (.ref a)
  | .type n=>some (.ty n)
  | _=>none
theorem RelV.abs {x:V} {u:Value} (r:RelV x u):absV u = some x:=by
  cases x with
  | non=>cases r; rfl
  | bl _=>cases r; rfl
  | int _=>obtain ⟨t,rfl⟩:=r; rfl
  | str _=>obtain ⟨t,rfl⟩:=r; rfl
  | byt _=>obtain ⟨t,rfl⟩:=r; rfl
  | flt _=>obtain ⟨t,rfl⟩:=r; rfl
  | ref _=>cases r; rfl
  | ty _=>cases r; rfl
theorem RelV.inj {x y:V} {u:Value} (r:RelV x u) (q:RelV y u):x = y:=Option.some.inj (r.abs.symm.trans q.abs)
theorem Vals.inj:∀ {xs ys:List V} {us:List Value},Vals xs us->Vals ys us->xs = ys
  | _,_,_,.nil,.nil=>rfl
  | _,_,_,.cons r t,.cons r' t'=>by rw [r.inj r',Vals.inj t t']
section
variable {X:Cx} {pins:List (Addr × Obj)} {σ:St} {H:Hp} {s:Shared} {a:Addr} {xs ys:List V}
theorem SqL.of {K:PySem.W.Frag} (h:H a = some (.lst xs)):SqL K H a xs:=.inl (.inl h)
theorem SqT.of {K:PySem.W.Frag} (h:H a = some (.tup xs)):SqT K H a xs:=.inl (.inl h)
theorem Inv.list (I:Inv X pins σ H s) (h:SqL X.K H a xs):∃ its:List Value,Vals xs its /\ PlainL s.heap a its.toArray /\ xs.length ≤ sizeLine:=by
  rcases h with h | ⟨o,its,n,hk,hc,hd,hs,hz,r⟩
  · obtain ⟨z,its,n,r,e⟩:=h.ok I.hok
    exact ⟨its,r,⟨_,n,e,rfl,rfl,rfl⟩,z⟩
  · refine ⟨its.toList,r,⟨o,n,I.kIn a o hk,hc,hd,by simpa using hs⟩,?_⟩
    have e:=r.length
    simp only [Array.length_toList] at e
    omega
theorem Inv.tuple (I:Inv X pins σ H s) (h:SqT X.K H a xs):∃ its:List Value,Vals xs its /\ IsTup s.heap a its.toArray /\ xs.length ≤ sizeLine:=by
  rcases h with h | ⟨o,its,n,hk,hc,hs,hz,r⟩
  · obtain ⟨z,its,r,p⟩:=h.ok I.hok
    exact ⟨its,r,p,z⟩
  · refine ⟨its.toList,r,⟨o,I.kIn a o hk,hc,n,by simpa using hs⟩,?_⟩
    have e:=r.length
    simp only [Array.length_toList] at e
    omega
theorem Inv.list_inj (I:Inv X pins σ H s) (h:SqL X.K H a xs) (h':SqL X.K H a ys):xs = ys:=by
  obtain ⟨its,r,⟨o,n,e,_,_,d⟩,_⟩:=I.list h
  obtain ⟨its',r',⟨o',n',e',_,_,d'⟩,_⟩:=I.list h'
  rw [e] at e'; cases e'
  rw [d] at d'
  injection d' with d1 _
  have:its = its':=by simpa using congrArg Array.toList d1
  subst this
  exact r.inj r'
theorem Inv.tuple_inj (I:Inv X pins σ H s) (h:SqT X.K H a xs) (h':SqT X.K H a ys):xs = ys:=by
  obtain ⟨its,r,⟨o,e,_,n,d⟩,_⟩:=I.tuple h
  obtain ⟨its',r',⟨o',e',_,n',d'⟩,_⟩:=I.tuple h'
  rw [e] at e'; cases e'
  rw [d] at d'
  injection d' with d1 _
  have:its = its':=by simpa using congrArg Array.toList d1
  subst this
  exact r.inj r'
end
abbrev Cx.wish (X:Cx) (E:Value->Shared->Prop):Cx:={ X with xe:=E }
abbrev Cx.nox (X:Cx):Cx:=X.wish fun _ _=>False
theorem Cx.Ok.wish {X:Cx} (ok:X.Ok) (E:Value->Shared->Prop):(X.wish E).Ok :=
  ⟨ok.mod,ok.kind,ok.glob,ok.blt,ok.above,ok.inj,ok.has,ok.cab,ok.hd,ok.frames,ok.stk,ok.exf,ok.bs,ok.bsz,ok.noex,ok.exfs,ok.funs,ok.frf⟩
theorem Cx.Ok.unwish {X:Cx} {E:Value->Shared->Prop} (ok:(X.wish E).Ok):X.Ok :=
  ⟨ok.mod,ok.kind,ok.glob,ok.blt,ok.above,ok.inj,ok.has,ok.cab,ok.hd,ok.frames,ok.stk,ok.exf,ok.bs,ok.bsz,ok.noex,ok.exfs,ok.funs,ok.frf⟩
section
variable {X:Cx} {pins:List (Addr × Obj)} {σ:St} {H:Hp} {s:Shared} {E:Value->Shared->Prop}
theorem Inv.wish (I:Inv X pins σ H s) (E:Value->Shared->Prop):Inv (X.wish E) pins σ H s:=⟨I.ok.wish E,I.os,I.bare,I.base,I.loc,I.cell,I.free,I.freeC,I.pin,I.hok,I.len⟩
theorem Inv.unwish (I:Inv (X.wish E) pins σ H s):Inv X pins σ H s:=⟨I.ok.unwish,I.os,I.bare,I.base,I.loc,I.cell,I.free,I.freeC,I.pin,I.hok,I.len⟩
end
section
variable {X:Cx} {st:Stmt} {rest:List Stmt} {t u:TS} {e:Expr} {te:TE} {pos:Pos}
def tNext:TS:=fun D σ H=>D.nx σ H
def tSeq (t u:TS):TS:=fun D σ H=>t { D with nx:=u D } σ H
theorem pss_nil:PSs X [] tNext:=fun _ _ σ H _ I h=>wpAny_execs_nil ⟨σ,H,I,h⟩
theorem pss_cons (h1:PS X st t) (h2:PSs X rest u):PSs X (st :: rest) (tSeq t u):=by
  intro pins s σ H D I h
  refine wpAny_execs_cons (thn (h1 pins s σ H { D with nx:=u D } I h) fun f s1 q=>?_)
  cases f with
  | next =>
    obtain ⟨σ',H',I',q⟩:=q
    exact h2 pins s1 σ' H' D I' q
  | ret v=>exact q
  | brk=>exact q
  | cont=>exact q
theorem pss_one (h1:PS X st t):PSs X [st] t:=by
  intro pins s σ H D I h
  refine wpAny_execs_cons (thn (h1 pins s σ H D I h) fun f s1 q=>?_)
  cases f with
  | next=>exact wpAny_execs_nil q
  | ret v=>exact q
  | brk=>exact q
  | cont=>exact q
theorem Inv.quiet {pins:List (Addr × Obj)} {σ:St} {H:Hp} {s:Shared} (I:Inv X pins σ H s):interactive X.env = false:=by simp [interactive,I.ok.kind]
def tDrop (te:TE):TS:=fun D σ H=>te σ H fun _ H1=>D.nx σ H1
theorem ps_expr (he:PE X e te) (hs:swapsWith e none pos.line X.env = pure false:=by rfl):PS X (.Expr e pos) (tDrop te):=by
  intro pins s σ H D I h
  exact wpAny_Expr_any (thn (he pins s σ H _ I h) fun v s1 ⟨x,H1,I1,r1,q1⟩=>⟨σ,H1,I1,q1⟩) I.quiet hs
def tRet (te:TE):TS:=fun D σ H=>te σ H D.rt
theorem ps_ret (he:PE X e te):PS X (.Return (some e) pos) (tRet te):=by
  intro pins s σ H D I h
  exact wpAny_Return_some (thn (he pins s σ H _ I h) fun v s1 ⟨x,H1,I1,r1,q1⟩=>⟨x,σ,H1,I1,r1,q1⟩)
def tIfS (c:TT) (t u:TS):TS:=fun D σ H=>c σ H fun b H1=>if b = true then t D σ H1 else u D σ H1
theorem ps_if {c:Expr} {a b:List Stmt} {tc:TT} (hc:PT X c tc) (ha:PSs X a t) (hb:PSs X b u):PS X (.If c a b pos) (tIfS tc t u):=by
  intro pins s σ H D I h
  refine wpAny_If (thn (hc pins s σ H _ I h) fun d s1 ⟨H1,I1,q1⟩=>?_)
  cases d with
  | true=>exact ha pins s1 σ H1 D I1 q1
  | false=>exact hb pins s1 σ H1 D I1 q1
def tNever:TS:=fun _ _ _=>False
theorem ps_never:PS X st tNever:=fun _ _ _ _ _ _ h=>h.elim
end
abbrev TG:=V->St->Hp->(St->Hp->Prop)->Prop
abbrev TGs:=List V->St->Hp->(St->Hp->Prop)->Prop
def PG (X:Cx) (target:Expr) (t:TG):Prop :=
  ∀ (pins:List (Addr × Obj)) (s:Shared) (σ:St) (H:Hp) (v:V) (u:Value) (Q:St->Hp->Prop),Inv X pins σ H s->RelV v u->t v σ H Q →
    wpAny (model X.prog X.w) X.A (assign target X.env u) (fun _ s'=>∃ σ' H',Inv X pins σ' H' s' /\ Q σ' H') X.xe s
def PGs (X:Cx) (ts:List Expr) (t:TGs):Prop :=
  ∀ (pins:List (Addr × Obj)) (s:Shared) (σ:St) (H:Hp) (vs:List V) (us:List Value) (Q:St->Hp->Prop),Inv X pins σ H s->Vals vs us->t vs σ H Q →
    wpAny (model X.prog X.w) X.A (assignInOrder ((assignEach ts X.env).map (·.2)) us) (fun _ s'=>∃ σ' H',Inv X pins σ' H' s' /\ Q σ' H') X.xe s
abbrev TSet:=V->V->V->Hp->(Hp->Prop)->Prop
def PSet (X:Cx) (t:TSet):Prop :=
  ∀ (pins:List (Addr × Obj)) (s:Shared) (σ:St) (H:Hp) (o i v:V) (ov iv u:Value) (Q:Hp->Prop),Inv X pins σ H s->RelV o ov->RelV i iv->RelV v u->t o i v H Q →
    wpAny (model X.prog X.w) X.A (setItem ov iv u) (fun _ s'=>∃ H',Inv X pins σ H' s' /\ Q H') X.xe s
section
variable {X:Cx} {pos:Pos}
def gName (i:Nat):TG:=fun v σ H Q=>Q (σ.set i (some v)) H
theorem pg_name {i:Nat} {x:Str} (hN:X.N.Nodup) (hi:X.N[i]? = some x) (hx:Loc X.env.scope x) (hf:X.fn x = true ∨ X.env.scope.names.lookup x = some .local:=by first | exact .inl rfl | exact .inr rfl | assumption):PG X (.Name x pos) (gName i):=by
  intro pins s σ H v u Q I r h
  exact wpAny_assign_Name (store_ok I hN hi hx r (fun s' I'=>⟨_,H,I',h⟩) hf)
def gNil:TGs:=fun vs σ H Q=>vs = [] /\ Q σ H
def gCons (t:TG) (u:TGs):TGs:=fun vs σ H Q=>∃ v r,vs = v :: r /\ t v σ H fun σ' H'=>u r σ' H' Q
theorem pgs_nil:PGs X [] gNil:=by
  intro pins s σ H vs us Q I r h
  obtain ⟨e,h⟩:=h
  subst e
  cases r
  exact assignInOrder_nil ⟨σ,H,I,h⟩
theorem pgs_cons {e:Expr} {es:List Expr} {t:TG} {u:TGs} (h1:PG X e t) (h2:PGs X es u)
    (hs:(assignEach (e :: es) X.env).map (·.2) = assign e X.env :: (assignEach es X.env).map (·.2):=by rfl):PGs X (e :: es) (gCons t u):=by
  intro pins s σ H vs us Q I r h
  obtain ⟨v,vr,e1,h⟩:=h
  subst e1
  cases r with
  | cons r rr =>
    rw [hs]
    refine assignInOrder_cons (thn (h1 pins s σ H _ _ _ I r h) fun _ s1 ⟨σ1,H1,I1,q1⟩=>?_)
    exact h2 pins s1 σ1 H1 _ _ Q I1 rr q1
def gTup (K:PySem.W.Frag) (n:Nat) (t:TGs):TG:=fun v σ H Q=>∃ a xs,v = .ref a /\ SqT K H a xs /\ xs.length = n /\ t xs σ H Q
theorem pg_tup {es:List Expr} {k:Nat} {t:TGs} {n:Nat} (hc:X.calm = true) (h:PGs X es t)
    (hn:(assignEach es X.env).length = n:=by rfl) (hst:(assignEach es X.env).findIdx? (·.1) = none:=by rfl):PG X (.Tuple es k pos) (gTup X.K n t):=by
  intro pins s σ H v u Q I r hw
  obtain ⟨a,xs,e1,hq,hl,hw⟩:=hw
  subst e1
  cases r
  obtain ⟨its,rv,ht,hz⟩:=I.tuple hq
  refine assign_Tuple_tuple (I.ok.hd hc) ht (by simp [hn,← hl,rv.length]) hst fun h' hx=>?_
  have I1:Inv X pins σ H { s with heap:=h' }:=I.kept (t':=s.toks) fun b o e=>hx b o (Nat.ne_of_lt (Heap.lt_size e)) e
  exact h pins _ σ H xs _ Q I1 (by simpa using rv) hw
def gSub (to ti:TE) (t:TSet):TG:=fun v σ H Q=>to σ H fun o H1=>ti σ H1 fun i H2=>t o i v H2 fun H3=>Q σ H3
theorem pg_sub {o i:Expr} {to ti:TE} {t:TSet} (ho:PE X o to) (hi:PE X i ti) (hs:PSet X t)
    (ha:∀ v,assign (.Subscript o i pos) X.env v = (do
      let ov ← holding [v] (eval o X.env)
      let iv ← holding [v,ov] (eval i X.env)
      standAt pos
      holding [v,ov,iv] (setItem ov iv v)
      release [v,ov,iv] []):=by intro _; rfl):PG X (.Subscript o i pos) (gSub to ti t):=by
  intro pins s σ H v u Q I r h
  rw [ha]
  refine wpAny_bind (wpAny_holding (thn (ho pins s σ H _ I h) fun ov s1 ⟨x,H1,I1,r1,q1⟩=>?_))
  refine wpAny_bind (wpAny_holding (thn (hi pins s1 σ H1 _ I1 q1) fun iv s2 ⟨y,H2,I2,r2,q2⟩=>?_))
  refine wpAny_bind (wpAny_standAt (wpAny_bind (wpAny_holding (thn (hs pins s2 σ H2 x y v ov iv u _ I2 r1 r2 r q2) fun _ s3 ⟨H3,I3,q3⟩=>?_))))
  exact wpAny_release ⟨σ,H3,I3,q3⟩
def tAsg (te:TE) (g:TG):TS:=fun D σ H=>te σ H fun x H1=>g x σ H1 D.nx
theorem ps_asg {tg e:Expr} {te:TE} {g:TG} (he:PE X e te) (hg:PG X tg g) (hs:swapsWithSole [tg] e pos.line X.env = pure false:=by rfl) (hw:swappedStores [tg] e X.env = pure none:=by rfl)
    (h1:(assignEach [tg] X.env).map (·.2) = [assign tg X.env]:=by rfl):PS X (.Assign [tg] e pos) (tAsg te g):=by
  intro pins s σ H D I h
  refine wpAny_Assign_stores (thn (he pins s σ H _ I h) fun v s1 ⟨x,H1,I1,r1,q1⟩=>?_) hs hw
  rw [h1]
  exact thn (hg pins s1 σ H1 x v _ I1 r1 q1) fun _ s2 q=>q
theorem ps_set {i:Nat} {x:Str} {e:Expr} {te:TE} {pos':Pos} (hN:X.N.Nodup) (hi:X.N[i]? = some x) (hx:Loc X.env.scope x) (he:PE X e te) (hs:swapsWith e (some (.Name x pos')) pos.line X.env = pure false:=by rfl) (hf:X.fn x = true ∨ X.env.scope.names.lookup x = some .local:=by first | exact .inl rfl | exact .inr rfl | assumption) :
    PS X (.Assign [.Name x pos'] e pos) (tAsg te (gName i)):=by
  intro pins s σ H D I h
  refine wpAny_Assign_Name (thn (he pins s σ H _ I h) fun v s1 ⟨y,H1,I1,r1,q1⟩=>?_) hs
  exact store_ok I1 hN hi hx r1 (fun s2 I2=>⟨_,H1,I2,q1⟩) hf
end
structure It where
  go:Nat->Hp->Prop
  yld:Nat->Hp->V->Hp->Prop
  stop:Nat->Hp->Prop
def FpOk (X:Cx) (pins:List (Addr × Obj)) (H:Hp) (b:Addr):Prop :=
  H b = none /\ b ≠ X.env.locals /\ b ∉ X.fs /\ (b ∈ X.ex ∨ X.s₀.heap.objs.size ≤ b) /\ (∀ x c,X.env.cells.lookup x = some c->c ≠ b) /\ ∀ p ∈ X.pn ++ pins,p.1 ≠ b
theorem Inv.fpOk {X:Cx} {pins:List (Addr × Obj)} {σ:St} {H H':Hp} {s:Shared} {b:Addr} (I:Inv X pins σ H s) (hb:s.heap.objs.size ≤ b) (hn:H' b = none):FpOk X pins H' b:=by
  refine ⟨hn,Nat.ne_of_gt (Nat.lt_of_lt_of_le I.lt hb),I.nofs hb,.inr (Nat.le_trans I.sz hb),fun x c e z=>?_,fun p hp z=>?_⟩
  · obtain ⟨v,q⟩:=I.cell x c e
    exact absurd (Nat.lt_of_lt_of_le q.lt (by rw [z]; exact hb)) (Nat.lt_irrefl _)
  · exact absurd (Nat.lt_of_lt_of_le (Heap.lt_size (I.pin p hp).1) (by rw [z]; exact hb)) (Nat.lt_irrefl _)
structure Turn (P:Program) (w:World) (K:PySem.W.Frag) (tg:Expr) (J:It) (fp:List Addr) (it:Addr) (tn:Nat->Heap->Prop):Prop where
  mem:it ∈ fp
  obj:∀ i h,tn i h->∀ b ∈ fp,∃ o,h.get? b = some o /\ ∀ v,o.data ≠ .cell v
  keep:∀ i h h',tn i h->(∀ b ∈ fp,∀ o,h.get? b = some o->h'.get? b = some o)->tn i h'
  item:∀ (X:Cx),X.prog = P->X.w = w->X.K = K->X.calm = true->∀ (i:Nat) (pins:List (Addr × Obj)) (s:Shared) (σ:St) (H:Hp) (E:Value->Shared->Prop),Inv X pins σ H s->(∀ b ∈ fp,FpOk X pins H b)->tn i s.heap->J.go i H →
    wpAny (model P w) X.A (pyNext (.ref it)) (fun r s1=>∃ u,r = some u ∧
      wpAny (model P w) X.A (letOwnedTupleGo tg (.ref it) u) (fun _ s2=>∃ x H',Inv X pins σ H' s2 /\ RelV x u /\ J.yld i H x H' /\ tn (i + 1) s2.heap /\ ∀ b ∈ fp,H' b = none) E s1) E s
  done:∀ (X:Cx),X.prog = P->X.w = w->X.K = K->X.calm = true->∀ (i:Nat) (pins:List (Addr × Obj)) (s:Shared) (σ:St) (H:Hp) (E:Value->Shared->Prop),Inv X pins σ H s->(∀ b ∈ fp,FpOk X pins H b)->tn i s.heap->J.stop i H →
    wpAny (model P w) X.A (pyNext (.ref it)) (fun r s1=>r = none /\ Inv X pins σ H s1) E s
  self:∀ (A:Around) (i:Nat) (s:Shared) (Q:Value->Shared->Prop) (E:Value->Shared->Prop),tn i s.heap->Q (.ref it) s->wpAny (model P w) A (pyIter (.ref it)) Q E s
abbrev TI:=St->Hp->(It->Hp->Prop)->Prop
def PIE (X:Cx) (pins:List (Addr × Obj)) (σ:St) (tg:Expr) (R:It->Hp->Prop) (itv:Value) (s2:Shared):Prop :=
  ∃ (it:Addr) (fp:List Addr) (tn:Nat->Heap->Prop) (J:It) (H':Hp),itv = .ref it /\ Inv X pins σ H' s2 /\ Turn X.prog X.w X.K tg J fp it tn /\ tn 0 s2.heap /\ (∀ b ∈ fp,FpOk X pins H' b) /\ R J H'
def PI (X:Cx) (tg iter:Expr) (wi:TI):Prop :=
  ∀ (pins:List (Addr × Obj)) (s:Shared) (σ:St) (H:Hp) (R:It->Hp->Prop),Inv X pins σ H s->wi σ H R →
    wpAny (model X.prog X.w) X.A (eval iter X.env) (fun v s1=>wpAny (model X.prog X.w) X.A (pyIter v) (PIE X pins σ tg R) X.xe s1) X.xe s
theorem go_of {M:Model} {A:Around} {E:Value->Shared->Prop} {s:Shared} {tg:Expr} {it:Addr} {u:Value} {o:Obj} {n:String} {vs:Array Value} {Q:Unit->Shared->Prop} (ho:s.heap.get? it = some o) (hc:o.cls = .type n) (hd:o.data = .fields vs)
    (hn:["enumerate","zip","dict_itemiterator","dict_reverseitemiterator","odict_iterator","itertools.zip_longest","itertools.pairwise"].contains n = false) (hQ:Q () s):wpAny M A (letOwnedTupleGo tg (.ref it) u) Q E s:=by
  unfold letOwnedTupleGo
  cases tg <;> first
    | exact wpAny_pure hQ
    | (cases u <;> first
        | exact wpAny_pure hQ
        | (refine wpAny_bind (wpAny_load ho ?_)
           rw [hc,hd]
           show wpAny M A (if (["enumerate","zip","dict_itemiterator","dict_reverseitemiterator","odict_iterator","itertools.zip_longest","itertools.pairwise"].contains n && vs[0]? == some (rawInt _)) = true then _ else _) Q E s
           rw [if_neg (by intro h; rw [hn,Bool.false_and] at h; cases h)]
           exact wpAny_pure hQ))
def Itl (K:PySem.W.Frag) (a:Addr):It :=
  ⟨fun i H=>∃ xs x,SqL K H a xs /\ xs[i]? = some x,fun i H x H'=>H' = H /\ ∀ xs,SqL K H a xs->xs[i]? = some x,fun i H=>∃ xs,SqL K H a xs /\ xs.length ≤ i⟩
def Itt (K:PySem.W.Frag) (a:Addr):It :=
  ⟨fun i H=>∃ xs x,SqT K H a xs /\ xs[i]? = some x,fun i H x H'=>H' = H /\ ∀ xs,SqT K H a xs->xs[i]? = some x,fun i H=>∃ xs,SqT K H a xs /\ xs.length ≤ i⟩
def Itr (lo:Int) (n:Nat):It:=⟨fun i _=>i < n,fun i H x H'=>H' = H /\ x = .int (lo + i),fun i _=>n ≤ i⟩
theorem turn_list {P:Program} {w:World} {K:PySem.W.Frag} {tg:Expr} (a it:Addr):Turn P w K tg (Itl K a) [it] it (fun i h=>h.IsListIter it a i) where
  mem:=by simp
  obj:=fun i h st b hb=>by
    have e:b = it:=by simpa using hb
    subst e
    obtain ⟨o,e,c,d⟩:=st
    exact ⟨o,e,fun v z=>by rw [d] at z; cases z⟩
  keep:=fun i h h' st k=>st.at fun o e=>k it (by simp) o e
  item:=by
    intro X hP hw hK hc i pins s σ H E I hf st hg
    subst hP hw hK
    obtain ⟨xs,x,hq,hx⟩:=hg
    obtain ⟨its,rv,p,hz⟩:=I.list hq
    obtain ⟨u,hu,ru⟩:=rv.get hx
    obtain ⟨f0,f1,f2,f3,f4,f5⟩:=hf it (by simp)
    refine wpAny_pyNext_list_item st p.isList (x:=u) (by simpa using hu) fun h' st' sb=>?_
    have I1:Inv X pins σ H { s with heap:=h' }:=I.turned (t':=s.toks) (fun b o hb e=>(sb.2 b hb).trans e) f0 f1 f3 f4 f5
    obtain ⟨o,e,c,d⟩:=id st'
    exact ⟨u,rfl,go_of (s:={ s with heap:=h' }) e c d (by decide) ⟨x,H,I1,ru,⟨rfl,fun ys hy=>by rw [I.list_inj hy hq]; exact hx⟩,st',fun b hb=>(hf b hb).1⟩⟩
  done:=by
    intro X hP hw hK hc i pins s σ H E I hf st hg
    subst hP hw hK
    obtain ⟨xs,hq,hx⟩:=hg
    obtain ⟨its,rv,p,hz⟩:=I.list hq
    obtain ⟨f0,f1,f2,f3,f4,f5⟩:=hf it (by simp)
    have hl:=rv.length
    exact wpAny_pyNext_list_end (I.ok.hd hc) st p.isList (by simp; omega) fun h' eb=>⟨rfl,I.turned (t':=s.toks) (fun b o hb e=>eb b o hb e) f0 f1 f3 f4 f5⟩
  self:=fun _ _ _ _ _ st h=>wpAny_pyIter_listiter st h
theorem turn_tuple {P:Program} {w:World} {K:PySem.W.Frag} {tg:Expr} (a it:Addr):Turn P w K tg (Itt K a) [it] it (fun i h=>h.IsTupleIter it a i) where
  mem:=by simp
  obj:=fun i h st b hb=>by
    have e:b = it:=by simpa using hb
    subst e
    obtain ⟨o,e,c,d⟩:=st
    exact ⟨o,e,fun v z=>by rw [d] at z; cases z⟩
  keep:=fun i h h' st k=>st.at fun o e=>k it (by simp) o e
  item:=by
    intro X hP hw hK hc i pins s σ H E I hf st hg
    subst hP hw hK
    obtain ⟨xs,x,hq,hx⟩:=hg
    obtain ⟨its,rv,p,hz⟩:=I.tuple hq
    obtain ⟨u,hu,ru⟩:=rv.get hx
    obtain ⟨f0,f1,f2,f3,f4,f5⟩:=hf it (by simp)
    refine wpAny_pyNext_tuple_item st (show s.heap.IsTuple a its.toArray from p) (x:=u) (by simpa using hu) fun h' st' sb=>?_
    have I1:Inv X pins σ H { s with heap:=h' }:=I.turned (t':=s.toks) (fun b o hb e=>(sb.2 b hb).trans e) f0 f1 f3 f4 f5
    obtain ⟨o,e,c,d⟩:=id st'
    exact ⟨u,rfl,go_of (s:={ s with heap:=h' }) e c d (by decide) ⟨x,H,I1,ru,⟨rfl,fun ys hy=>by rw [I.tuple_inj hy hq]; exact hx⟩,st',fun b hb=>(hf b hb).1⟩⟩
  done:=by
    intro X hP hw hK hc i pins s σ H E I hf st hg
    subst hP hw hK
    obtain ⟨xs,hq,hx⟩:=hg
    obtain ⟨its,rv,p,hz⟩:=I.tuple hq
    obtain ⟨f0,f1,f2,f3,f4,f5⟩:=hf it (by simp)
    have hl:=rv.length
    exact wpAny_pyNext_tuple_end (I.ok.hd hc) st (show s.heap.IsTuple a its.toArray from p) (by simp; omega) fun h' eb=>⟨rfl,I.turned (t':=s.toks) (fun b o hb e=>eb b o hb e) f0 f1 f3 f4 f5⟩
  self:=fun _ _ _ _ _ st h=>wpAny_pyIter_tupleiter st h
theorem turn_range {P:Program} {w:World} {K:PySem.W.Frag} {tg:Expr} (it:Addr) (lo:Int) (n:Nat):Turn P w K tg (Itr lo n) [it] it (fun i h=>IsRangeIter h it (lo + (i:Nat) * 1) ((n:Int) - (i:Nat)) 1) where
  mem:=by simp
  obj:=fun i h st b hb=>by
    have e:b = it:=by simpa using hb
    subst e
    exact ⟨_,st,fun v z=>by
      have z':Data.fields _ = Data.cell v:=z
      cases z'⟩
  keep:=fun i h h' st k=>k it (by simp) _ st
  item:=by
    intro X hP hw hK hc i pins s σ H E I hf st hg
    subst hP hw hK
    obtain ⟨f0,f1,f2,f3,f4,f5⟩:=hf it (by simp)
    have W:=Walks.range (prog:=X.prog) (w:=X.w) (I.ok.hd hc) it lo 1 n
    refine W.item i s _ _ hg st fun v h' tk hv st' kk=>?_
    obtain ⟨t,rfl⟩:=hv
    have I1:Inv X pins σ H { s with heap:=h',toks:=tk }:=I.turned (fun b o hb e=>kk b o (by simpa using hb) e) f0 f1 f3 f4 f5
    refine ⟨_,rfl,go_of (s:={ s with heap:=h',toks:=tk }) (n:="range_iterator") st' rfl rfl (by decide) ⟨.int (lo + i),H,I1,⟨t,?_⟩,⟨rfl,rfl⟩,st',fun b hb=>(hf b hb).1⟩⟩
    rw [Int.mul_one]
  done:=by
    intro X hP hw hK hc i pins s σ H E I hf st hg
    subst hP hw hK
    obtain ⟨f0,f1,f2,f3,f4,f5⟩:=hf it (by simp)
    exact wpAny_pyNext_range_end (I.ok.hd hc) st (by have:n ≤ i:=hg; omega) fun h' eb=>⟨rfl,I.turned (t':=s.toks) (fun b o hb e=>eb b o hb e) f0 f1 f3 f4 f5⟩
  self:=fun _ _ _ _ _ st h=>wpAny_pyIter_rangeiter st h
open PySem PySem.Spec PyProof.Rows
section
variable {X:Cx} {tg:Expr}
def iList (K:PySem.W.Frag) (tl:TE):TI:=fun σ H R=>tl σ H fun x H1=>∃ a,x = .ref a /\ (∃ xs,SqL K H1 a xs) /\ R (Itl K a) H1
def iTup (K:PySem.W.Frag) (tl:TE):TI:=fun σ H R=>tl σ H fun x H1=>∃ a,x = .ref a /\ (∃ xs,SqT K H1 a xs) /\ R (Itt K a) H1
theorem pi_list {l:Expr} {tl:TE} (hl:PE X l tl):PI X tg l (iList X.K tl):=by
  intro pins s σ H R I h
  refine thn (hl pins s σ H _ I h) fun v s1 ⟨x,H1,I1,r1,q1⟩=>?_
  obtain ⟨a,e,⟨xs,hq⟩,q⟩:=q1
  subst e
  cases r1
  obtain ⟨its,rv,p,hz⟩:=I1.list hq
  refine wpAny_pyIter_list p.isList ?_
  refine ⟨s1.heap.objs.size,[s1.heap.objs.size],_,_,H1,rfl,I1.kept (t':=s1.toks) fun b o e=>Heap.get?_push_of_some _ e,turn_list a _,⟨_,Heap.get?_push_size _ rfl,rfl,rfl⟩,fun b hb=>?_,q⟩
  have e:b = s1.heap.objs.size:=by simpa using hb
  subst e
  exact I1.fpOk (Nat.le_refl _) (I1.hok.fresh (Nat.le_refl _))
theorem pi_tup {l:Expr} {tl:TE} (hl:PE X l tl):PI X tg l (iTup X.K tl):=by
  intro pins s σ H R I h
  refine thn (hl pins s σ H _ I h) fun v s1 ⟨x,H1,I1,r1,q1⟩=>?_
  obtain ⟨a,e,⟨xs,hq⟩,q⟩:=q1
  subst e
  cases r1
  obtain ⟨its,rv,p,hz⟩:=I1.tuple hq
  refine wpAny_pyIter_tuple (show s1.heap.IsTuple a its.toArray from p) ?_
  refine ⟨s1.heap.objs.size,[s1.heap.objs.size],_,_,H1,rfl,I1.kept (t':=s1.toks) fun b o e=>Heap.get?_push_of_some _ e,turn_tuple a _,⟨_,Heap.get?_push_size _ rfl,rfl,rfl⟩,fun b hb=>?_,q⟩
  have e:b = s1.heap.objs.size:=by simpa using hb
  subst e
  exact I1.fpOk (Nat.le_refl _) (I1.hok.fresh (Nat.le_refl _))
theorem range_it {pins:List (Addr × Obj)} {σ:St} {H:Hp} {s:Shared} {R:It->Hp->Prop} {E:Value->Shared->Prop} {lo hi:Int} {t u v:Tok} {tk:Nat} (I:Inv X pins σ H s) (h1:-(2 ^ 62) ≤ lo) (h2:lo < 2 ^ 62) (h3:-(2 ^ 62) ≤ hi) (h4:hi < 2 ^ 62)
    (q:R (Itr lo (hi - lo).toNat) H):wpAny (model X.prog X.w) X.A (pyIter (.ref s.heap.objs.size)) (PIE X pins σ tg R) E { s with heap:=s.heap.push { cls:=.type "range",data:=.fields #[.int lo t,.int hi u,.int 1 v] },toks:=tk }:=by
  refine wpAny_pyIter_range (IsRange.new ..) (small_one h1 h2 h3 h4) ?_
  have I1:Inv X pins σ H { s with heap:=s.heap.push { cls:=.type "range",data:=.fields #[.int lo t,.int hi u,.int 1 v] },toks:=tk }:=I.kept fun b o e=>Heap.get?_push_of_some _ e
  refine ⟨(s.heap.push { cls:=.type "range",data:=.fields #[.int lo t,.int hi u,.int 1 v] }).objs.size,[(s.heap.push { cls:=.type "range",data:=.fields #[.int lo t,.int hi u,.int 1 v] }).objs.size],_,_,H,rfl,
    I1.kept (t':=tk) fun b o e=>Heap.get?_push_of_some _ e,turn_range _ lo (hi - lo).toNat,?_,fun b hb=>?_,q⟩
  · have e1:lo + ((0:Nat):Int) * 1 = lo:=by simp
    have e2:(((hi - lo).toNat:Nat):Int) - ((0:Nat):Int) = Builtin.Range.rangeSize lo hi 1:=by rw [rangeSize_one]; split <;> omega
    show IsRangeIter _ _ (lo + ((0:Nat):Int) * 1) ((((hi - lo).toNat:Nat):Int) - ((0:Nat):Int)) 1
    rw [e1,e2]
    exact Heap.get?_push_size _ rfl
  · have e:b = (s.heap.push { cls:=.type "range",data:=.fields #[.int lo t,.int hi u,.int 1 v] }).objs.size:=by simpa using hb
    subst e
    exact I1.fpOk (Nat.le_refl _) (I1.hok.fresh (Nat.le_refl _))
def iRng1 (ta:TA):TI:=fun σ H R=>ta σ H fun vs H1=>∃ j:Int,vs = [.int j] /\ -(2 ^ 62) ≤ j /\ j < 2 ^ 62 /\ R (Itr 0 j.toNat) H1
def iRng2 (ta:TA):TI:=fun σ H R=>ta σ H fun vs H1=>∃ i j:Int,vs = [.int i,.int j] /\ (-(2 ^ 62) ≤ i /\ i < 2 ^ 62 /\ -(2 ^ 62) ≤ j /\ j < 2 ^ 62) /\ R (Itr i (j - i).toNat) H1
theorem pi_range1 {a:Expr} {ta:TA} {p pos:Pos} (hg:Gl X "range") (hm:X.mg "range" = none) (ha:PA X [a] ta) (hs:starEach [a] X.env = [(false,eval a X.env)]:=by rfl):PI X tg (.Call (.Name "range" p) [a] [] pos) (iRng1 ta):=by
  intro pins s σ H R I h
  refine Call_ (ld_blt I hg hm boot_range (PyProof.Rows.callWith_type1 (thn (ha pos pins s σ H _ I h) fun us s1 ⟨vs,H1,I1,r1,q1⟩=>?_) hs rfl))
  obtain ⟨j,e,q1,q2,q⟩:=q1
  subst e
  cases r1 with
  | cons r rr =>
    cases rr
    obtain ⟨t,rfl⟩:=r
    exact call_range_1 (range_it I1 (by omega) (by omega) q1 q2 (by simpa using q))
theorem pi_range2 {a b:Expr} {ta:TA} {p pos:Pos} (hg:Gl X "range") (hm:X.mg "range" = none) (ha:PA X [a,b] ta) (hs:starEach [a,b] X.env = [(false,eval a X.env),(false,eval b X.env)]:=by rfl) (hs2:starEach [b] X.env = [(false,eval b X.env)]:=by rfl) :
    PI X tg (.Call (.Name "range" p) [a,b] [] pos) (iRng2 ta):=by
  intro pins s σ H R I h
  refine Call_ (ld_blt I hg hm boot_range (PyProof.Rows.callWith_type1 (thn (ha pos pins s σ H _ I h) fun us s1 ⟨vs,H1,I1,r1,q1⟩=>?_) (by rw [hs,hs2]) (by rw [hs2]; rfl)))
  obtain ⟨i,j,e,⟨q1,q2,q3,q4⟩,q⟩:=q1
  subst e
  cases r1 with
  | cons r rr =>
    cases rr with
    | cons r' rr =>
      cases rr
      obtain ⟨t,rfl⟩:=r
      obtain ⟨t',rfl⟩:=r'
      exact call_range_2 (range_it I1 q1 q2 q3 q4 q)
def tFor (wi:TI) (g:TG) (tb:TS):TS:=fun D σ H=>wi σ H fun J H1=>∃ W:Nat->Nat->St->Hp->Prop,(∃ m,W 0 m σ H1) /\ ∀ i m σ H,W i m σ H →
  (J.stop i H /\ D.nx σ H) ∨ (J.go i H /\ ∃ N:St->Hp->Prop,(∀ σ' H',N σ' H'->∃ m',m' < m /\ W (i + 1) m' σ' H') /\ ∀ x H',J.yld i H x H'->g x σ H' fun σ2 H2=>tb { D with nx:=N,ct:=N,bk:=D.nx } σ2 H2)
def pinsAt (fp:List Addr) (h:Heap):List (Addr × Obj):=fp.filterMap fun b=>(h.get? b).map fun o=>(b,o)
theorem mem_pinsAt {fp:List Addr} {h:Heap} {b:Addr} {o:Obj} (hb:b ∈ fp) (e:h.get? b = some o):(b,o) ∈ pinsAt fp h:=List.mem_filterMap.mpr ⟨b,hb,by rw [e]; rfl⟩
theorem of_pinsAt {fp:List Addr} {h:Heap} {p:Addr × Obj} (hp:p ∈ pinsAt fp h):p.1 ∈ fp /\ h.get? p.1 = some p.2:=by
  obtain ⟨b,hb,e⟩:=List.mem_filterMap.mp hp
  cases q:h.get? b with
  | none=>rw [q] at e; cases e
  | some o =>
    rw [q] at e
    have e':(b,o) = p:=Option.some.inj e
    subst e'
    exact ⟨hb,q⟩
theorem Inv.pinned {pins:List (Addr × Obj)} {σ:St} {H:Hp} {s:Shared} {fp:List Addr} (I:Inv X pins σ H s) (hf:∀ b ∈ fp,FpOk X pins H b) (ho:∀ b ∈ fp,∃ o,s.heap.get? b = some o /\ ∀ v,o.data ≠ .cell v):Inv X (pins ++ pinsAt fp s.heap) σ H s :=
  I.pins_of fun p hp=>(List.mem_append.mp hp).elim (fun z=>I.pin p (List.mem_append_right _ z)) fun z=>by
    obtain ⟨hb,e⟩:=of_pinsAt z
    obtain ⟨f0,f1,f2,_⟩:=hf p.1 hb
    obtain ⟨o,e',d⟩:=ho p.1 hb
    rw [e] at e'; cases e'
    exact ⟨e,f0,f1,f2,d⟩
theorem Inv.unpinned {pins pl:List (Addr × Obj)} {σ:St} {H:Hp} {s:Shared} (I:Inv X (pins ++ pl) σ H s):Inv X pins σ H s:=I.pins_of fun p hp=>I.pin p (List.mem_append_right _ (List.mem_append_left _ hp))
theorem ps_for {iter:Expr} {body:List Stmt} {wi:TI} {g:TG} {tb:TS} {pos:Pos} (hp:PassesOwn (model X.prog X.w) X.A X.env X.xe) (hc:X.calm = true) (hi:PI X tg iter wi) (hg:PG X tg g) (hb:PSs X body tb)
    (hs:∀ x,foldedSetIterable iter X.env x = pure x:=by intro _; rfl):PS X (.For tg iter body [] pos) (tFor wi g tb):=by
  intro pins s σ H D I h
  refine wpAny_For (thn (hi pins s σ H _ I h) fun v s1 h1=>thn h1 fun itv s2 h2=>?_) hs
  obtain ⟨it,fp,tn,J,H2,e,I2,T,st2,f2,W,⟨m0,w0⟩,turn⟩:=h2
  subst e
  have stat:∀ {H':Hp},(∀ b ∈ fp,H' b = none)->∀ b ∈ fp,FpOk X pins H' b:=fun hn b hb=>⟨hn b hb,(f2 b hb).2⟩
  refine codeAny_forLoop_any (fun n s'=>∃ i σ' H',Inv X pins σ' H' s' /\ tn i s'.heap /\ (∀ b ∈ fp,H' b = none) /\ W i n σ' H') ?_ m0 ⟨0,σ,H2,I2,st2,fun b hb=>(f2 b hb).1,w0⟩
  rintro n s3 ⟨i,σ3,H3,I3,st3,fr3,w3⟩
  rcases turn i n σ3 H3 w3 with ⟨stop,qn⟩ | ⟨go,N,hN,step⟩
  · refine wpAny_passesOwn hp (thn (T.done X rfl rfl rfl hc i pins s3 σ3 H3 X.xe I3 (stat fr3) st3 stop) fun r s4 ⟨hr,I4⟩=>?_)
    subst hr
    exact wpAny_execs_nil ⟨σ3,H3,I4,qn⟩
  · refine wpAny_passesOwn hp (thn (T.item X rfl rfl rfl hc i pins s3 σ3 H3 X.xe I3 (stat fr3) st3 go) fun r s4 ⟨u,hr,h4⟩=>?_)
    subst hr
    refine wpAny_passesOwn hp (thn h4 fun _ s5 ⟨x,H5,I5,r5,y5,st5,fr5⟩=>?_)
    have I5':=I5.pinned (stat fr5) (T.obj _ _ st5)
    refine wpAny_passesOwn hp (thn (hg _ s5 σ3 H5 x u _ I5' r5 (step x H5 y5)) fun _ s6 ⟨σ6,H6,I6,q6⟩=>?_)
    refine wpAny_passesOwn hp (thn (hb _ s6 σ6 H6 _ I6 q6) fun f s7 q7=>?_)
    have again:∀ {σ7:St} {H7:Hp},Inv X (pins ++ pinsAt fp s5.heap) σ7 H7 s7->N σ7 H7->∃ m,m < n /\ ∃ i σ' H',Inv X pins σ' H' s7 /\ tn i s7.heap /\ (∀ b ∈ fp,H' b = none) /\ W i m σ' H':=fun {σ7 H7} I7 n7=>by
      obtain ⟨m',hm,w7⟩:=hN σ7 H7 n7
      refine ⟨m',hm,i + 1,σ7,H7,I7.unpinned,T.keep _ _ _ st5 fun b hb o e=>(I7.pin (b,o) (List.mem_append_right _ (List.mem_append_right _ (mem_pinsAt hb e)))).1,fun b hb=>?_,w7⟩
      obtain ⟨o,e,d⟩:=T.obj _ _ st5 b hb
      exact (I7.pin (b,o) (List.mem_append_right _ (List.mem_append_right _ (mem_pinsAt hb e)))).2.1
    cases f with
    | next=>obtain ⟨σ7,H7,I7,n7⟩:=q7; exact again I7 n7
    | cont=>obtain ⟨σ7,H7,I7,n7⟩:=q7; exact again I7 n7
    | brk=>obtain ⟨σ7,H7,I7,q7⟩:=q7; exact ⟨σ7,H7,I7.unpinned,q7⟩
    | ret v=>obtain ⟨x7,σ7,H7,I7,r7,q7⟩:=q7; exact ⟨x7,σ7,H7,I7.unpinned,r7,q7⟩
end
theorem for_list {K:PySem.W.Frag} {a:Addr} {xs:List V} {g:TG} {tb:TS} {D:Ends} {σ:St} {H:Hp} (Pv:Nat->St->Hp->Prop) (h0:Pv 0 σ H) (hl:∀ i σ H,i ≤ xs.length->Pv i σ H->SqL K H a xs)
    (hs:∀ i x σ H,xs[i]? = some x->Pv i σ H->g x σ H fun σ2 H2=>tb { D with nx:=Pv (i + 1),ct:=Pv (i + 1),bk:=D.nx } σ2 H2) (hd:∀ σ H,Pv xs.length σ H->D.nx σ H) :
    ∃ W:Nat->Nat->St->Hp->Prop,(∃ m,W 0 m σ H) /\ ∀ i m σ H,W i m σ H →
      ((Itl K a).stop i H /\ D.nx σ H) ∨ ((Itl K a).go i H /\ ∃ N:St->Hp->Prop,(∀ σ' H',N σ' H'->∃ m',m' < m /\ W (i + 1) m' σ' H') /\ ∀ x H',(Itl K a).yld i H x H'->g x σ H' fun σ2 H2=>tb { D with nx:=N,ct:=N,bk:=D.nx } σ2 H2):=by
  refine ⟨fun i m σ H=>m = xs.length - i /\ i ≤ xs.length /\ Pv i σ H,⟨xs.length,by simp,Nat.zero_le _,h0⟩,?_⟩
  rintro i m σ H ⟨rfl,hi,p⟩
  have q:=hl i σ H hi p
  by_cases hlt:i < xs.length
  · refine .inr ⟨⟨xs,xs[i],q,by simp [hlt]⟩,Pv (i + 1),fun σ' H' p'=>⟨xs.length - (i + 1),by omega,rfl,hlt,p'⟩,fun x H' y=>?_⟩
    obtain ⟨e,y⟩:=y
    subst e
    exact hs i x σ _ (y xs q) p
  · have e:i = xs.length:=by omega
    subst e
    exact .inl ⟨⟨xs,q,Nat.le_refl _⟩,hd σ H p⟩
theorem for_tup {K:PySem.W.Frag} {a:Addr} {xs:List V} {g:TG} {tb:TS} {D:Ends} {σ:St} {H:Hp} (Pv:Nat->St->Hp->Prop) (h0:Pv 0 σ H) (hl:∀ i σ H,i ≤ xs.length->Pv i σ H->SqT K H a xs)
    (hs:∀ i x σ H,xs[i]? = some x->Pv i σ H->g x σ H fun σ2 H2=>tb { D with nx:=Pv (i + 1),ct:=Pv (i + 1),bk:=D.nx } σ2 H2) (hd:∀ σ H,Pv xs.length σ H->D.nx σ H) :
    ∃ W:Nat->Nat->St->Hp->Prop,(∃ m,W 0 m σ H) /\ ∀ i m σ H,W i m σ H →
      ((Itt K a).stop i H /\ D.nx σ H) ∨ ((Itt K a).go i H /\ ∃ N:St->Hp->Prop,(∀ σ' H',N σ' H'->∃ m',m' < m /\ W (i + 1) m' σ' H') /\ ∀ x H',(Itt K a).yld i H x H'->g x σ H' fun σ2 H2=>tb { D with nx:=N,ct:=N,bk:=D.nx } σ2 H2):=by
  refine ⟨fun i m σ H=>m = xs.length - i /\ i ≤ xs.length /\ Pv i σ H,⟨xs.length,by simp,Nat.zero_le _,h0⟩,?_⟩
  rintro i m σ H ⟨rfl,hi,p⟩
  have q:=hl i σ H hi p
  by_cases hlt:i < xs.length
  · refine .inr ⟨⟨xs,xs[i],q,by simp [hlt]⟩,Pv (i + 1),fun σ' H' p'=>⟨xs.length - (i + 1),by omega,rfl,hlt,p'⟩,fun x H' y=>?_⟩
    obtain ⟨e,y⟩:=y
    subst e
    exact hs i x σ _ (y xs q) p
  · have e:i = xs.length:=by omega
    subst e
    exact .inl ⟨⟨xs,q,Nat.le_refl _⟩,hd σ H p⟩
theorem for_range {lo:Int} {n:Nat} {g:TG} {tb:TS} {D:Ends} {σ:St} {H:Hp} (Pv:Nat->St->Hp->Prop) (h0:Pv 0 σ H)
    (hs:∀ i σ H,i < n->Pv i σ H->g (.int (lo + i)) σ H fun σ2 H2=>tb { D with nx:=Pv (i + 1),ct:=Pv (i + 1),bk:=D.nx } σ2 H2) (hd:∀ σ H,Pv n σ H->D.nx σ H) :
    ∃ W:Nat->Nat->St->Hp->Prop,(∃ m,W 0 m σ H) /\ ∀ i m σ H,W i m σ H →
      ((Itr lo n).stop i H /\ D.nx σ H) ∨ ((Itr lo n).go i H /\ ∃ N:St->Hp->Prop,(∀ σ' H',N σ' H'->∃ m',m' < m /\ W (i + 1) m' σ' H') /\ ∀ x H',(Itr lo n).yld i H x H'->g x σ H' fun σ2 H2=>tb { D with nx:=N,ct:=N,bk:=D.nx } σ2 H2):=by
  refine ⟨fun i m σ H=>m = n - i /\ i ≤ n /\ Pv i σ H,⟨n,by simp,Nat.zero_le _,h0⟩,?_⟩
  rintro i m σ H ⟨rfl,hi,p⟩
  by_cases hlt:i < n
  · refine .inr ⟨hlt,Pv (i + 1),fun σ' H' p'=>⟨n - (i + 1),by omega,rfl,hlt,p'⟩,fun x H' y=>?_⟩
    obtain ⟨e,y⟩:=y
    subst e y
    exact hs i σ _ hlt p
  · have e:i = n:=by omega
    subst e
    exact .inl ⟨Nat.le_refl _,hd σ H p⟩
open PySem PySem.Spec PyProof.Rows
abbrev R2:=V->V->Hp->VK->Prop
def OpR (X:Cx) (f:Value->Value->Sem Value) (r:R2):Prop :=
  ∀ (pins:List (Addr × Obj)) (s:Shared) (σ:St) (H:Hp) (x y:V) (v u:Value) (Q:VK),Inv X pins σ H s->RelV x v->RelV y u->r x y H Q →
    wpAny (model X.prog X.w) X.A (f v u) (EP X pins σ Q) X.xe s
def UnR (X:Cx) (f:Value->Sem Value) (r:V->Hp->VK->Prop):Prop :=
  ∀ (pins:List (Addr × Obj)) (s:Shared) (σ:St) (H:Hp) (x:V) (v:Value) (Q:VK),Inv X pins σ H s->RelV x v->r x H Q →
    wpAny (model X.prog X.w) X.A (f v) (EP X pins σ Q) X.xe s
def CallR (X:Cx) (f:Value) (r:List V->Hp->VK->Prop):Prop :=
  ∀ (pins:List (Addr × Obj)) (s:Shared) (σ:St) (H:Hp) (xs:List V) (us:List Value) (Q:VK),Inv X pins σ H s->Vals xs us->r xs H Q →
    wpAny (model X.prog X.w) X.A (call f us) (EP X pins σ Q) X.xe s
def tOp (r:R2) (ta tb:TE):TE:=fun σ H Q=>ta σ H fun x H1=>tb σ H1 fun y H2=>r x y H2 Q
def tUn (r:V->Hp->VK->Prop) (ta:TE):TE:=fun σ H Q=>ta σ H fun x H1=>r x H1 Q
def rI (C:Int->Int->Prop) (g:Int->Int->V):R2:=fun x y H Q=>∃ i j,x = .int i /\ y = .int j /\ C i j /\ Q (g i j) H
def rI0 (g:Int->Int->V):R2:=fun x y H Q=>∃ i j,x = .int i /\ y = .int j /\ Q (g i j) H
def rU (g:Int->V):V->Hp->VK->Prop:=fun x H Q=>∃ i,x = .int i /\ Q (g i) H
section
variable {X:Cx} {a b c:Expr} {ta tb tc:TE} {pos:Pos}
theorem binT (ha:PE X a ta) (hb:PE X b tb) {pins:List (Addr × Obj)} {s:Shared} {σ:St} {H:Hp} {R:V->V->Hp->Prop} (I:Inv X pins σ H s)
    (h:ta σ H fun x H1=>tb σ H1 fun y H2=>R x y H2) {Q:Value->Shared->Prop} {f:Value->Value->Sem Value}
    (hf:∀ v u s2 x y H2,Inv X pins σ H2 s2->RelV x v->RelV y u->R x y H2->wpAny (model X.prog X.w) X.A (f v u) Q X.xe s2) :
    wpAny (model X.prog X.w) X.A (eval a X.env) (fun v s₁=>wpAny (model X.prog X.w) X.A (eval b X.env) (fun u s₂=>wpAny (model X.prog X.w) X.A (f v u) Q X.xe s₂) X.xe s₁) X.xe s:=by
  refine thn (ha pins s σ H _ I h) fun v s1 ⟨x,H1,I1,r1,q1⟩=>?_
  refine thn (hb pins s1 σ H1 _ I1 q1) fun u s2 ⟨y,H2,I2,r2,q2⟩=>?_
  exact hf v u s2 x y H2 I2 r1 r2 q2
theorem pe_op {op:Operator} {r:R2} (ho:OpR X (binaryOp op) r) (ha:PE X a ta) (hb:PE X b tb):PE X (.BinOp a op b pos) (tOp r ta tb):=by
  intro pins s σ H Q I h
  exact wpAny_BinOp (binT ha hb I h fun v u s2 x y H2 I2 rx ry q=>ho pins s2 σ H2 x y v u Q I2 rx ry q)
theorem pe_un {op:UnaryOp} {r:V->Hp->VK->Prop} (ho:UnR X (unaryOp op) r) (ha:PE X a ta):PE X (.UnaryOp op a pos) (tUn r ta):=by
  intro pins s σ H Q I h
  exact UnaryOp_ (thn (ha pins s σ H _ I h) fun v s1 ⟨x,H1,I1,r1,q1⟩=>ho pins s1 σ H1 x v Q I1 r1 q1)
theorem opI {f:Value->Value->Sem Value} {C:Int->Int->Prop} {g:Int->Int->Int}
    (rule:∀ (i j:Int) (t u:Tok) (s:Shared) (Q:Value->Shared->Prop) (E:Value->Shared->Prop),C i j->Q (.int (g i j) s.toks) { s with toks:=s.toks + 1 }->wpAny (model X.prog X.w) X.A (f (.int i t) (.int j u)) Q E s) :
    OpR X f (rI C fun i j=>.int (g i j)):=by
  intro pins s σ H x y v u Q I rx ry h
  obtain ⟨i,j,rfl,rfl,hc,q⟩:=h
  obtain ⟨t,rfl⟩:=rx
  obtain ⟨t',rfl⟩:=ry
  exact rule i j t t' s _ _ hc ⟨.int (g i j),H,I.tok _,⟨_,rfl⟩,q⟩
theorem opI0 {f:Value->Value->Sem Value} {g:Int->Int->Int}
    (rule:∀ (i j:Int) (t u:Tok) (s:Shared) (Q:Value->Shared->Prop) (E:Value->Shared->Prop),Q (.int (g i j) s.toks) { s with toks:=s.toks + 1 }->wpAny (model X.prog X.w) X.A (f (.int i t) (.int j u)) Q E s) :
    OpR X f (rI0 fun i j=>.int (g i j)):=by
  intro pins s σ H x y v u Q I rx ry h
  obtain ⟨i,j,rfl,rfl,q⟩:=h
  obtain ⟨t,rfl⟩:=rx
  obtain ⟨t',rfl⟩:=ry
  exact rule i j t t' s _ _ ⟨.int (g i j),H,I.tok _,⟨_,rfl⟩,q⟩
theorem opB0 {f:Value->Value->Sem Value} {g:Int->Int->Bool}
    (rule:∀ (i j:Int) (t u:Tok) (s:Shared) (Q:Value->Shared->Prop) (E:Value->Shared->Prop),Q (.bool (g i j)) s->wpAny (model X.prog X.w) X.A (f (.int i t) (.int j u)) Q E s) :
    OpR X f (rI0 fun i j=>.bl (g i j)):=by
  intro pins s σ H x y v u Q I rx ry h
  obtain ⟨i,j,rfl,rfl,q⟩:=h
  obtain ⟨t,rfl⟩:=rx
  obtain ⟨t',rfl⟩:=ry
  exact rule i j t t' s _ _ ⟨.bl (g i j),H,I,rfl,q⟩
def CPow (i j:Int):Prop:=0 ≤ j /\ j ≤ 1000000 /\ i.natAbs < 2 ^ 64
def CMul (i j:Int):Prop:=(-(2 ^ 64) < i /\ i < 2 ^ 64) ∨ (-(2 ^ 64) < j /\ j < 2 ^ 64)
theorem CMul.ok {i j:Int} (h:CMul i j):IntMulOk i j:=by
  rcases h with ⟨h1,h2⟩ | ⟨h1,h2⟩
  · exact .of_left (intBits_le_64 h1 h2)
  · exact .of_right (intBits_le_64 h1 h2)
theorem op_add:OpR X (binaryOp .Add) (rI0 fun i j=>.int (i + j)):=opI0 fun _ _ _ _ _ _ _ q=>add_int q
theorem op_sub:OpR X (binaryOp .Sub) (rI0 fun i j=>.int (i - j)):=opI0 fun _ _ _ _ _ _ _ q=>sub_int q
theorem op_mul:OpR X (binaryOp .Mult) (rI CMul fun i j=>.int (i * j)):=opI fun _ _ _ _ _ _ _ hc q=>mul_int q hc.ok
theorem op_mod:OpR X (binaryOp .Mod) (rI (fun _ j=>0 < j) fun i j=>.int (i % j)):=opI fun i j _ _ _ _ _ hc q=>by
  have h1:(0:Int) < j:=hc
  exact mod_int' (by omega) (by rw [Int.fmod_eq_emod_of_nonneg i (by omega)]; exact q)
theorem op_pow:OpR X (binaryOp .Pow) (rI CPow fun i j=>.int (i ^ j.toNat)):=opI fun _ _ _ _ _ _ _ hc q=>pow_int_small hc.1 hc.2.1 hc.2.2 q
theorem op_xor:OpR X (binaryOp .BitXor) (rI0 fun i j=>.int (Builtin.bitXor i j)):=opI0 fun _ _ _ _ _ _ _ q=>xor_int q
theorem unI {f:Value->Sem Value} {g:Int->Int}
    (rule:∀ (i:Int) (t:Tok) (s:Shared) (Q:Value->Shared->Prop) (E:Value->Shared->Prop),Q (.int (g i) s.toks) { s with toks:=s.toks + 1 }->wpAny (model X.prog X.w) X.A (f (.int i t)) Q E s) :
    UnR X f (rU fun i=>.int (g i)):=by
  intro pins s σ H x v Q I rx h
  obtain ⟨i,rfl,q⟩:=h
  obtain ⟨t,rfl⟩:=rx
  exact rule i t s _ _ ⟨.int (g i),H,I.tok _,⟨_,rfl⟩,q⟩
theorem un_neg:UnR X (unaryOp .USub) (rU fun i=>.int (-i)):=unI fun _ _ _ _ _ q=>neg_int q
end
def scal:V->V->Bool
  | .non,.non=>true | .non,.int _=>true | .int _,.non=>true | .non,.bl _=>true | .bl _,.non=>true | .non,.str _=>true | .str _,.non=>true
  | .int _,.int _=>true | .bl _,.bl _=>true | .str _,.str _=>true | .byt _,.byt _=>true
  | .int _,.str _=>true | .str _,.int _=>true | .bl _,.str _=>true | .str _,.bl _=>true
  | _,_=>false
def rEq:R2:=fun x y H Q=>scal x y = true /\ Q (.bl (decide (x = y))) H
def rNe:R2:=fun x y H Q=>scal x y = true /\ Q (.bl (!decide (x = y))) H
theorem dec_int {i j:Int}:decide (V.int i = V.int j) = (i == j):=by
  rw [Bool.eq_iff_iff]
  simp
theorem dec_bl {i j:Bool}:decide (V.bl i = V.bl j) = (i == j):=by
  rw [Bool.eq_iff_iff]
  simp
theorem dec_str {i j:Str}:decide (V.str i = V.str j) = (i == j):=by
  rw [Bool.eq_iff_iff]
  simp
theorem dec_byt {i j:Array UInt8}:decide (V.byt i = V.byt j) = (i.toList == j.toList):=by
  rw [Bool.eq_iff_iff]
  cases i
  cases j
  simp
section
variable {X:Cx} {a b c:Expr} {ta tb tc:TE} {pos:Pos}
theorem fin_bl {pins:List (Addr × Obj)} {σ:St} {H:Hp} {s:Shared} {Q:VK} {k k':Bool} (I:Inv X pins σ H s) (q:Q (.bl k) H) (e:k = k'):EP X pins σ Q (.bool k') s:=by
  subst e
  exact ⟨.bl k,H,I,rfl,q⟩
theorem op_eq:OpR X (compareOp .Eq) rEq:=by
  intro pins s σ H x y v u Q I rx ry h
  obtain ⟨hs,q⟩:=h
  cases x with
  | non =>
    cases rx
    cases y with
    | non=>cases ry; exact PySem.EqNone.eq_none_none (fin_bl I q (by simp))
    | bl j=>cases ry; exact PySem.EqNone.eq_none_bool (fin_bl I q (by simp))
    | int j=>obtain ⟨t',rfl⟩:=ry; exact PySem.EqNone.eq_none_int (fin_bl I q (by simp))
    | str j=>obtain ⟨t',rfl⟩:=ry; exact PySem.EqNone.eq_none_str (fin_bl I q (by simp))
    | _=>exact absurd (show false = true from hs) Bool.false_ne_true
  | bl i =>
    cases rx
    cases y with
    | non=>cases ry; exact PySem.EqNone.eq_bool_none (fin_bl I q (by simp))
    | bl j=>cases ry; exact eq_bool (fin_bl I q dec_bl)
    | str j=>obtain ⟨t',rfl⟩:=ry; exact PySem.EqMixed.eq_bool_str (fin_bl I q (by simp))
    | _=>exact absurd (show false = true from hs) Bool.false_ne_true
  | int i =>
    obtain ⟨t,rfl⟩:=rx
    cases y with
    | non=>cases ry; exact PySem.EqNone.eq_int_none (fin_bl I q (by simp))
    | int j=>obtain ⟨t',rfl⟩:=ry; exact eq_int (fin_bl I q dec_int)
    | str j=>obtain ⟨t',rfl⟩:=ry; exact PySem.EqMixed.eq_int_str (fin_bl I q (by simp))
    | _=>exact absurd (show false = true from hs) Bool.false_ne_true
  | str i =>
    obtain ⟨t,rfl⟩:=rx
    cases y with
    | non=>cases ry; exact PySem.EqNone.eq_str_none (fin_bl I q (by simp))
    | bl j=>cases ry; exact PySem.EqMixed.eq_str_bool (fin_bl I q (by simp))
    | int j=>obtain ⟨t',rfl⟩:=ry; exact PySem.EqMixed.eq_str_int (fin_bl I q (by simp))
    | str j=>obtain ⟨t',rfl⟩:=ry; exact eq_str (fin_bl I q dec_str)
    | _=>exact absurd (show false = true from hs) Bool.false_ne_true
  | byt i =>
    obtain ⟨t,rfl⟩:=rx
    cases y with
    | byt j=>obtain ⟨t',rfl⟩:=ry; exact PySem.W.eq_bytes (fin_bl I q dec_byt)
    | _=>exact absurd (show false = true from hs) Bool.false_ne_true
  | _=>cases y <;> exact absurd (show false = true from hs) Bool.false_ne_true
theorem op_ne:OpR X (compareOp .NotEq) rNe:=by
  intro pins s σ H x y v u Q I rx ry h
  obtain ⟨hs,q⟩:=h
  cases x with
  | non =>
    cases rx
    cases y with
    | non=>cases ry; exact PySem.EqNone.ne_none_none (fin_bl I q (by simp))
    | bl j=>cases ry; exact PySem.EqNone.ne_none_bool (fin_bl I q (by simp))
    | int j=>obtain ⟨t',rfl⟩:=ry; exact PySem.EqNone.ne_none_int (fin_bl I q (by simp))
    | str j=>obtain ⟨t',rfl⟩:=ry; exact PySem.EqNone.ne_none_str (fin_bl I q (by simp))
    | _=>exact absurd (show false = true from hs) Bool.false_ne_true
  | bl i =>
    cases rx
    cases y with
    | non=>cases ry; exact PySem.EqNone.ne_bool_none (fin_bl I q (by simp))
    | bl j=>cases ry; exact ne_bool (fin_bl I q (congrArg not dec_bl))
    | str j=>obtain ⟨t',rfl⟩:=ry; exact PySem.EqMixed.ne_bool_str (fin_bl I q (by simp))
    | _=>exact absurd (show false = true from hs) Bool.false_ne_true
  | int i =>
    obtain ⟨t,rfl⟩:=rx
    cases y with
    | non=>cases ry; exact PySem.EqNone.ne_int_none (fin_bl I q (by simp))
    | int j=>obtain ⟨t',rfl⟩:=ry; exact ne_int (fin_bl I q (congrArg not dec_int))
    | str j=>obtain ⟨t',rfl⟩:=ry; exact PySem.EqMixed.ne_int_str (fin_bl I q (by simp))
    | _=>exact absurd (show false = true from hs) Bool.false_ne_true
  | str i =>
    obtain ⟨t,rfl⟩:=rx
    cases y with
    | non=>cases ry; exact PySem.EqNone.ne_str_none (fin_bl I q (by simp))
    | bl j=>cases ry; exact PySem.EqMixed.ne_str_bool (fin_bl I q (by simp))
    | int j=>obtain ⟨t',rfl⟩:=ry; exact PySem.EqMixed.ne_str_int (fin_bl I q (by simp))
    | str j=>obtain ⟨t',rfl⟩:=ry; exact ne_str (fin_bl I q (congrArg not dec_str))
    | _=>exact absurd (show false = true from hs) Bool.false_ne_true
  | byt i =>
    obtain ⟨t,rfl⟩:=rx
    cases y with
    | byt j=>obtain ⟨t',rfl⟩:=ry; exact PySem.W.ne_bytes (fin_bl I q (congrArg not dec_byt))
    | _=>exact absurd (show false = true from hs) Bool.false_ne_true
  | _=>cases y <;> exact absurd (show false = true from hs) Bool.false_ne_true
theorem op_lt:OpR X (compareOp .Lt) (rI0 fun i j=>.bl (decide (i < j))):=opB0 fun _ _ _ _ _ _ _ q=>lt_int q
theorem op_le:OpR X (compareOp .LtE) (rI0 fun i j=>.bl (decide (i ≤ j))):=opB0 fun _ _ _ _ _ _ _ q=>le_int q
theorem op_gt:OpR X (compareOp .Gt) (rI0 fun i j=>.bl (decide (j < i))):=opB0 fun _ _ _ _ _ _ _ q=>gt_int q
theorem op_ge:OpR X (compareOp .GtE) (rI0 fun i j=>.bl (decide (j ≤ i))):=opB0 fun _ _ _ _ _ _ _ q=>ge_int q
theorem op_in_str:OpR X (compareOp .In) (fun x y H Q=>∃ i j,x = .str i /\ y = .str j /\ Q (.bl (!(Builtin.Str.occurrences j i 0 j.length 1).isEmpty)) H):=by
  intro pins s σ H x y v u Q I rx ry h
  obtain ⟨i,j,rfl,rfl,q⟩:=h
  obtain ⟨t,rfl⟩:=rx
  obtain ⟨t',rfl⟩:=ry
  exact in_str (fin_bl I q rfl)
theorem op_isN:OpR X (compareOp .Is) (fun x y H Q=>y = .non /\ Q (.bl (decide (x = .non))) H):=by
  intro pins s σ H x y v u Q I rx ry h
  obtain ⟨rfl,q⟩:=h
  cases ry
  refine is_none_gen (fin_bl I q ?_)
  cases x <;> first
    | (cases rx; rfl)
    | (obtain ⟨t,rfl⟩:=rx; rfl)
theorem nomark (b:Expr) {op:CmpOp} (h:op ≠ .In:=by decide) (h2:op ≠ .NotIn:=by decide):behindInMarks op b = false:=by
  have e1:(op == CmpOp.In) = false:=by cases op <;> first | rfl | exact absurd rfl h
  have e2:(op == CmpOp.NotIn) = false:=by cases op <;> first | rfl | exact absurd rfl h2
  cases b <;> simp [behindInMarks,e1,e2]
theorem pe_cmpR {op:CmpOp} {r:R2} (ho:OpR X (compareOp op) r) (ha:PE X a ta) (hb:PE X b tb) (hm:behindInMarks op b = false):PE X (.Compare a [op] [b] pos) (tOp r ta tb):=by
  intro pins s σ H Q I h
  exact wpAny_Compare1 (binT ha hb I h fun v u s2 x y H2 I2 rx ry q=>ho pins s2 σ H2 x y v u Q I2 rx ry q) hm
def tTest (t:TE):TT:=fun σ H Q=>t σ H fun x H'=>∃ k,x = .bl k /\ Q k H'
theorem pt_cmpR {op:CmpOp} {r:R2} (ho:OpR X (compareOp op) r) (ha:PE X a ta) (hb:PE X b tb) (hm:behindInMarks op b = false):PT X (.Compare a [op] [b] pos) (tTest (tOp r ta tb)):=by
  intro pins s σ H Q I h
  refine wpAny_isTrue_Compare1 (thn (ha pins s σ H _ I h) fun v s1 ⟨x,H1,I1,r1,q1⟩=>thn (hb pins s1 σ H1 _ I1 q1) fun u s2 ⟨y,H2,I2,r2,q2⟩ =>
    thn (ho pins s2 σ H2 x y v u _ I2 r1 r2 q2) fun c s3 ⟨z,H3,I3,r3,k,e,q3⟩=>?_) hm
  subst e
  cases r3
  exact wpAny_truthy_bool ⟨H3,I3,q3⟩
theorem line63:(sizeLine:Nat) < 2 ^ 63:=by rw [sizeLine_eq]; decide
theorem vals1 {x:V} {us:List Value} (r:Vals [x] us):∃ u,us = [u] /\ RelV x u:=by
  cases r with
  | cons r1 r2=>cases r2; exact ⟨_,rfl,r1⟩
theorem vals2 {x y:V} {us:List Value} (r:Vals [x,y] us):∃ u w',us = [u,w'] /\ RelV x u /\ RelV y w':=by
  cases r with
  | cons r1 r2 =>
    cases r2 with
    | cons r3 r4=>cases r4; exact ⟨_,_,rfl,r1,r3⟩
theorem call_max2 (hc:X.calm = true):CallR X (.builtin "max") (fun xs H Q=>∃ i j,xs = [.int i,.int j] /\ Q (.int (if j > i then j else i)) H):=by
  intro pins s σ H xs us Q I r h
  obtain ⟨i,j,rfl,q⟩:=h
  obtain ⟨u,w',rfl,⟨t,rfl⟩,⟨t',rfl⟩⟩:=vals2 r
  refine max_two_ints (I.ok.hd hc) fun h' tk k=>⟨_,H,I.kept k,?_,q⟩
  by_cases hj:j > i
  · rw [if_pos hj,if_pos hj]; exact ⟨_,rfl⟩
  · rw [if_neg hj,if_neg hj]; exact ⟨_,rfl⟩
theorem call_min2 (hc:X.calm = true):CallR X (.builtin "min") (fun xs H Q=>∃ i j,xs = [.int i,.int j] /\ Q (.int (if j < i then j else i)) H):=by
  intro pins s σ H xs us Q I r h
  obtain ⟨i,j,rfl,q⟩:=h
  obtain ⟨u,w',rfl,⟨t,rfl⟩,⟨t',rfl⟩⟩:=vals2 r
  refine min_two_ints (I.ok.hd hc) fun h' tk k=>⟨_,H,I.kept k,?_,q⟩
  by_cases hj:j < i
  · rw [if_pos hj,if_pos hj]; exact ⟨_,rfl⟩
  · rw [if_neg hj,if_neg hj]; exact ⟨_,rfl⟩
theorem call_str_int:CallR X (.type "str") (fun xs H Q=>∃ i,xs = [.int i] /\ i.natAbs.log2 < 1920 /\ Q (.str (toString i)) H):=by
  intro pins s σ H xs us Q I r h
  obtain ⟨i,rfl,hz,q⟩:=h
  obtain ⟨u,rfl,t,rfl⟩:=vals1 r
  exact PySem.P.str_of_int hz ⟨.str _,H,I.tok _,⟨_,rfl⟩,q⟩
end
open PySem PySem.Spec PyProof.Rows
structure ObjM (h:Heap) (x dx C:Addr) (mA:Str->Option Value):Prop where
  obj:h.get? x = some (PySem.W.instObj C dx)
  ns:h.Ns1 dx mA
  ne:dx ≠ x
theorem lookIn_ns {h:Heap} {dx:Addr} {mA:Str->Option Value} (n:h.Ns1 dx mA):∃ od,h.get? dx = some od /\ ∀ name,PySem.W.lookIn name od = some (mA name):=by
  obtain ⟨o,es,ep,ho,hd,hk,_,hm⟩:=n
  refine ⟨o,ho,fun name=>?_⟩
  have e:=hm name
  unfold nsFind findBy at e
  rw [← Array.find?_toList] at e
  unfold PySem.W.lookIn
  rw [hd]
  dsimp only
  split
  · rename_i y q
    rw [q] at e
    exact congrArg some e
  · rename_i q
    rw [q] at e
    have a:es.toList.any (·.refKey) = false:=by
      rw [List.any_eq_false]
      intro y hy
      obtain ⟨z,t,hkey⟩:=hk y (Array.mem_toList_iff.mp hy)
      simp [DictEntry.refKey,hkey]
    have a':¬ es.toList.any (·.refKey) = true:=by rw [a]; exact Bool.false_ne_true
    rw [if_neg a']
    exact congrArg some e
theorem ObjM.look {h:Heap} {x dx C:Addr} {mA:Str->Option Value} (I:ObjM h x dx C mA):∃ od,PySem.W.InstAt h x (PySem.W.instObj C dx) C (some od) /\ ∀ name,PySem.W.lookIn name od = some (mA name) :=
  let ⟨od,ho,hl⟩:=lookIn_ns I.ns
  ⟨od,⟨I.obj,rfl,rfl,ho⟩,hl⟩
section
variable {prog:Program} {w:World} {A:Around} {E:Value->Shared->Prop} {s:Shared} {K:PySem.W.Frag} {x dx C f:Addr} {mA:Str->Option Value} {name:Str} {v:Value}
theorem get_map {expr:Bool} {Q:Value->Shared->Prop} (X:K.In s.heap) (I:ObjM s.heap x dx C mA) (hg:PySem.W.plainGet K C name = true) (hh:PySem.W.hasDictIn K C = true)
    (ha:PySem.W.findIn K (.ref C) name = some none) (hv:mA name = some v) (hv':PySem.W.handedIn v = true) (h:Q v { s with toks:=s.toks + 1 }) :
    wpAny (model prog w) A (getAttr (.ref x) name expr) Q E s:=by
  obtain ⟨od,J,hl⟩:=I.look
  exact PySem.W.get_value X J (PySem.W.plainGet_of hg).1 (PySem.W.findObj_own hh ha rfl (by rw [hl,hv])) hv' h
theorem get_meth {pl:Sem Bool} {Q:Value × List Value->Shared->Prop} (X:K.In s.heap) (I:ObjM s.heap x dx C mA) (hg:PySem.W.plainGet K C name = true)
    (hf:PySem.W.findIn K (.ref C) name = some (some (.ref f))) (ht:PySem.W.isFn K (.ref f) = true) (hv:mA name = none) (h:Q (.ref f,[.ref x]) s) :
    wpAny (model prog w) A (getMethod (.ref x) name pl) Q E s:=by
  obtain ⟨od,J,hl⟩:=I.look
  exact PySem.W.method_fn X J (PySem.W.plainGet_of hg).1 (PySem.W.plainGet_of hg).2 hf (beq_iff_eq.mp ht) (by show (PySem.W.lookIn name od).map (·.isSome) = some false; rw [hl,hv]; rfl) h
theorem set_map {ns:List Str} {Q:Unit->Shared->Prop} (X:K.In s.heap) (I:ObjM s.heap x dx C mA)
    (hs:PySem.W.findIn K (.ref C) "__setattr__" = some (some (.builtin "object.__setattr__"))) (hp:PySem.W.plainOver K C = true) (ht:PySem.W.takerIn K C name = some none) (hh:PySem.W.hasDictIn K C = true)
    (hw:PySem.Within mA ns) (hsz:ns.length ≤ sizeLine)
    (h:∀ h',ObjM h' x dx C (fun y=>if y = name then some v else mA y)->Heap.SameBut dx s.heap h'->Q () { s with heap:=h',toks:=s.toks + 2 }) :
    wpAny (model prog w) A (setAttr (.ref x) name v) Q E s:=by
  obtain ⟨od,J,hl⟩:=I.look
  refine PySem.W.set_plain X J hs (PySem.W.osa_open (s:={ s with toks:=s.toks + 1 }) (r:=none) X J hp ht fun b=>?_)
  obtain ⟨cd,hc,hd'⟩:=PySem.W.any_some hh
  have hx:s.heap.get? x = some ⟨.ref C,some dx,.plain,#[]⟩:=I.obj
  refine wpAny_bind (wpAny_pure (wpAny_bind (wpAny_bind (wpAny_loadPart hx (wpAny_bind (PySem.W.Looks.here (s:={ s with toks:=s.toks + 1 }) (PySem.W.looks_clsIn X hc) ?_))))))
  rw [hd']
  refine wpAny_pure (a:=some dx) (wpAny_bind (wpAny_pure (wpAny_bind ?_)))
  refine wpAny_nsSet1 (s:={ s with toks:=s.toks + 1 }) I.ns fun h' hn2 hs2=>?_
  obtain ⟨oD,esD,epD,hoD,hdD,hcD⟩:=hn2.count (PySem.Within.cons name v hw)
  refine wpAny_bind (wpAny_lookBehind hoD (by rw [hdD]; exact pastItsLine_dict (Nat.le_trans hcD (by rw [List.length_cons]; omega))) ?_)
  exact wpAny_pure (h _ ⟨(hs2.2 _ (Ne.symm I.ne)).trans I.obj,hn2,I.ne⟩ hs2)
theorem make_map {R:Result->Shared->Prop} {vs:List Value} {kw:List (Str × Value)} (X:K.In s.heap) (hm:PySem.W.makesIn K C = true)
    (hi:PySem.W.findIn K (.ref C) "__init__" = some (some (.ref f))) (hf:PySem.W.typeIn K (.ref f) = some (.type "function"))
    (h:codeAny (model prog w) (A.under (.builtin "type.__call__" ⟨.ref C :: vs,kw⟩)) (.call (.ref f) ⟨.ref (s.heap.objs.size + 1) :: vs,kw⟩) (PySem.W.InitBack (s.heap.objs.size + 1) R)
      { s with heap:=(s.heap.push PySem.W.emptyDict).push (PySem.W.instObj C s.heap.objs.size) }) :
    codeAny (model prog w) A (.call (.ref C) ⟨vs,kw⟩) R s:=by
  obtain ⟨hh,g,d,t,os⟩:=s
  exact PySem.W.make_core (PySem.W.makes_of X hm) (PySem.W.looks_findIn X hi) (fun self=>PySem.W.bind_fn X self hf) (.inl rfl) h
end
def putF (f:Str) (v:V):List (Str × V)->List (Str × V)
  | []=>[(f,v)]
  | (g,x) :: r=>if g = f then (g,v) :: r else (g,x) :: putF f v r
theorem lookup_putF (f g:Str) (v:V):∀ fs:List (Str × V),(putF f v fs).lookup g = if g = f then some v else fs.lookup g
  | []=>by
    show List.lookup g [(f,v)] = _
    by_cases h:g = f
    · have hb:(g == f) = true:=beq_iff_eq.mpr h
      simp only [List.lookup,hb,if_pos h]
    · have hb:(g == f) = false:=beq_eq_false_iff_ne.mpr h
      simp only [List.lookup,hb,if_neg h]
  | (k,x) :: r=>by
    have ih:=lookup_putF f g v r
    rw [show putF f v ((k,x) :: r) = (if k = f then (k,v) :: r else (k,x) :: putF f v r) from rfl]
    by_cases hk:k = f
    · rw [if_pos hk]
      by_cases h:g = k
      · have hb:(g == k) = true:=beq_iff_eq.mpr h
        simp only [List.lookup,hb,if_pos (h.trans hk)]
      · have hb:(g == k) = false:=beq_eq_false_iff_ne.mpr h
        simp only [List.lookup,hb,if_neg (fun e:g = f=>h (e.trans hk.symm))]
    · rw [if_neg hk]
      by_cases h:g = k
      · have hb:(g == k) = true:=beq_iff_eq.mpr h
        simp only [List.lookup,hb,if_neg (fun e:g = f=>hk (h.symm.trans e))]
      · have hb:(g == k) = false:=beq_eq_false_iff_ne.mpr h
        simp only [List.lookup,hb]
        exact ih
theorem keys_putF (f:Str) (v:V):∀ fs:List (Str × V),f ∈ (putF f v fs).map (·.1) /\ ∀ g,g ∈ fs.map (·.1)->g ∈ (putF f v fs).map (·.1)
  | []=>⟨by simp [putF],fun g h=>by simp at h⟩
  | (k,x) :: r=>by
    obtain ⟨i1,i2⟩:=keys_putF f v r
    rw [show putF f v ((k,x) :: r) = (if k = f then (k,v) :: r else (k,x) :: putF f v r) from rfl]
    by_cases hk:k = f
    · rw [if_pos hk]
      subst hk
      exact ⟨by simp,fun g h=>by simpa using h⟩
    · rw [if_neg hk]
      refine ⟨?_,fun g h=>?_⟩
      · rw [List.map_cons]
        exact List.mem_cons_of_mem _ i1
      · rw [List.map_cons] at h ⊢
        rcases List.mem_cons.mp h with e | e
        · exact List.mem_cons.mpr (.inl e)
        · exact List.mem_cons_of_mem _ (i2 g e)
theorem length_putF (f:Str) (v:V):∀ fs:List (Str × V),(putF f v fs).length ≤ fs.length + 1
  | []=>by simp [putF]
  | (k,x) :: r=>by
    have ih:=length_putF f v r
    rw [show putF f v ((k,x) :: r) = (if k = f then (k,v) :: r else (k,x) :: putF f v r) from rfl]
    by_cases hk:k = f
    · rw [if_pos hk,List.length_cons,List.length_cons]; omega
    · rw [if_neg hk,List.length_cons,List.length_cons]; omega
theorem RelO.some_of {v:V} {o:Option Value} (r:RelO (some v) o):∃ u,o = some u /\ RelV v u:=by
  cases o with
  | none=>exact (show False from r).elim
  | some u=>exact ⟨u,rfl,r⟩
theorem RelO.none_of {o:Option Value} (r:RelO none o):o = none:=by
  cases o with
  | none=>rfl
  | some u=>exact (show False from r).elim
theorem handed_of {v:V} {u:Value} (r:RelV v u):PySem.W.handedIn u = true:=by
  cases v with
  | non=>cases (show u = Value.none from r); rfl
  | bl b=>cases (show u = Value.bool b from r); rfl
  | int i=>obtain ⟨t,e⟩:=(show ∃ t,u = Value.int i t from r); cases e; rfl
  | str x=>obtain ⟨t,e⟩:=(show ∃ t,u = Value.str x t from r); cases e; rfl
  | byt b=>obtain ⟨t,e⟩:=(show ∃ t,u = Value.bytes b t from r); cases e; rfl
  | flt b=>obtain ⟨t,e⟩:=(show ∃ t,u = Value.float b t from r); cases e; rfl
  | ref a=>cases (show u = Value.ref a from r); rfl
  | ty n=>cases (show u = Value.type n from r); rfl
section
variable {P:Program} {w:World} {H H':Hp} {h h':Heap} {a C dx:Addr} {fs fs':List (Str × V)}
theorem ins_get (hok:HOk P w H h) (e:H a = some (.ins C dx fs)):∃ mA,ObjM h a dx C mA /\ (∀ f,RelO (fs.lookup f) (mA f)) /\ PySem.Within mA (fs.map (·.1)) /\ fs.length ≤ 1000 /\ H dx = some (.own a):=by
  obtain ⟨d,z,ne,ob,mA,n,r,q⟩:=(show ObjOk P w H h a (.ins C dx fs) from hok a _ e)
  exact ⟨mA,⟨ob,n,ne⟩,r,q,z,d⟩
end
structure Cls (K:PySem.W.Frag) (C:Addr):Prop where
  pg:PySem.W.plainGet K C Str.empty = true
  hd:PySem.W.hasDictIn K C = true
  po:PySem.W.plainOver K C = true
  sa:PySem.W.findIn K (.ref C) "__setattr__" = some (some (.builtin "object.__setattr__"))
theorem Cls.get {K:PySem.W.Frag} {C:Addr} (c:Cls K C) (f:Str):PySem.W.plainGet K C f = true:=c.pg
def NoAttr (K:PySem.W.Frag) (C:Addr) (f:Str):Prop:=PySem.W.findIn K (.ref C) f = some none
theorem NoAttr.taker {K:PySem.W.Frag} {C:Addr} {f:Str} (n:NoAttr K C f):PySem.W.takerIn K C f = some none:=by
  unfold PySem.W.takerIn
  rw [show PySem.W.findIn K (.ref C) f = some none from n]
  rfl
structure Meth (K:PySem.W.Frag) (C:Addr) (m:Str) (f:Addr):Prop where
  at_:PySem.W.findIn K (.ref C) m = some (some (.ref f))
  fn:PySem.W.isFn K (.ref f) = true
  kp:PySem.W.keepIn K (.ref f) = true
section
variable {X:Cx} {pins:List (Addr × Obj)} {σ:St} {H:Hp} {s:Shared} {a C dx:Addr} {fs:List (Str × V)} {f:Str} {v:V} {A:Around} {E:Value->Shared->Prop}
theorem getattr_ok {b:Bool} {Q:Value->Shared->Prop} (I:Inv X pins σ H s) (e:H a = some (.ins C dx fs)) (c:Cls X.K C) (n:NoAttr X.K C f) (l:fs.lookup f = some v)
    (h:∀ u s',Inv X pins σ H s'->RelV v u->Q u s'):wpAny (model X.prog X.w) A (getAttr (.ref a) f b) Q E s:=by
  obtain ⟨mA,O,r,_,_,_⟩:=ins_get I.hok e
  obtain ⟨u,hu,ru⟩:=RelO.some_of (v:=v) (o:=mA f) (by rw [← l]; exact r f)
  exact get_map I.kIn O (c.get f) c.hd n hu (handed_of ru) (h u _ (I.tok _) ru)
theorem getmeth_ok {m:Str} {g:Addr} {pl:Sem Bool} {Q:Value × List Value->Shared->Prop} (I:Inv X pins σ H s) (e:H a = some (.ins C dx fs)) (c:Cls X.K C) (k:Meth X.K C m g) (l:fs.lookup m = none)
    (h:Q (.ref g,[.ref a]) s):wpAny (model X.prog X.w) A (getMethod (.ref a) m pl) Q E s:=by
  obtain ⟨mA,O,r,_,_,_⟩:=ins_get I.hok e
  have hn:mA m = none:=RelO.none_of (by rw [← l]; exact r m)
  exact get_meth I.kIn O (c.get m) k.at_ k.fn hn h
theorem setattr_ok {y:V} {u:Value} {Q:Unit->Shared->Prop} (I:Inv X pins σ H s) (e:H a = some (.ins C dx fs)) (c:Cls X.K C) (n:NoAttr X.K C f) (hl:fs.length < 1000) (ry:RelV y u)
    (h:∀ s',Inv X pins σ (upd H a (.ins C dx (putF f y fs))) s'->Q () s'):wpAny (model X.prog X.w) A (setAttr (.ref a) f u) Q E s:=by
  obtain ⟨mA,O,r,wi,_,ho⟩:=ins_get I.hok e
  have hz:(fs.map (·.1)).length ≤ sizeLine:=by rw [List.length_map,sizeLine_eq]; omega
  refine set_map I.kIn O c.sa c.po n.taker c.hd wi hz fun h' O' sb=>h _ ?_
  have hd:∃ o,h'.get? dx = some o:=let ⟨o,_,_,e',_⟩:=O'.ns; ⟨o,e'⟩
  refine I.write (x:=a) (e:=dx) (by rw [e]; exact True.intro) (.inr ho) (fun b q hb z=>(sb.2 b hb).trans z) hd ?_
  refine ⟨by rw [upd_ne O.ne]; exact ho,?_,O.ne,O'.obj,_,O'.ns,fun g=>?_,fun g hg=>?_⟩
  · have:=length_putF f y fs; omega
  · show RelO ((putF f y fs).lookup g) (if g = f then some u else mA g)
    rw [lookup_putF]
    by_cases q:g = f
    · rw [if_pos q,if_pos q]; exact ry
    · rw [if_neg q,if_neg q]; exact r g
  · by_cases q:g = f
    · rw [q]; exact (keys_putF f y fs).1
    · refine (keys_putF f y fs).2 g (wi g fun z=>hg ?_)
      show (if g = f then some u else mA g) = none
      rw [if_neg q]; exact z
theorem Inv.made (I:Inv X pins σ H s):Inv X pins σ (upd (upd H s.heap.objs.size (.own (s.heap.objs.size + 1))) (s.heap.objs.size + 1) (.ins C s.heap.objs.size []))
    { s with heap:=(s.heap.push PySem.W.emptyDict).push (PySem.W.instObj C s.heap.objs.size) }:=by
  have e1:(s.heap.push PySem.W.emptyDict).get? s.heap.objs.size = some PySem.W.emptyDict:=Heap.get?_push_size s.heap rfl
  have e2:((s.heap.push PySem.W.emptyDict).push (PySem.W.instObj C s.heap.objs.size)).get? (s.heap.objs.size + 1) = some (PySem.W.instObj C s.heap.objs.size):=by
    have:=Heap.get?_push_size (s.heap.push PySem.W.emptyDict) (o:=PySem.W.instObj C s.heap.objs.size) rfl
    rwa [Heap.size_push] at this
  have e3:(s.heap.push PySem.W.emptyDict).Ns s.heap.objs.size (fun _=>none):=⟨PySem.W.emptyDict,#[],_,e1,rfl,(fun e he=>absurd he (by simp)),fun _=>rfl⟩
  have I1:=I.laid (a:=s.heap.objs.size) (o:=.own (s.heap.objs.size + 1)) (h':=s.heap.push PySem.W.emptyDict) (t':=s.toks) (fun b u q=>Heap.get?_push_of_some _ q) (Nat.le_refl _) ⟨_,e1⟩
  refine I1.laid (a:=s.heap.objs.size + 1) (o:=.ins C s.heap.objs.size []) (t':=s.toks) (fun b u q=>Heap.get?_push_of_some _ q) (Nat.le_of_eq (Heap.size_push _ _)) ?_
  have ne:s.heap.objs.size ≠ s.heap.objs.size + 1:=Nat.ne_of_lt (Nat.lt_succ_self _)
  refine ⟨by rw [upd_ne ne,upd_same],Nat.zero_le _,ne,e2,fun _=>none,(Heap.Ns1.of_empty e3).at fun o q=>Heap.get?_push_of_some _ q,fun _=>True.intro,fun y hy=>absurd rfl hy⟩
theorem attr_of {prog:Program} {w:World} {env:Env} {e:Expr} {f:Str} {pos:Pos} {s:Shared} {Q:Value->Shared->Prop} (hb:attributeBase e f env (eval e env) = eval e env)
    (h:wpAny (model prog w) A (eval e env) (fun o s₁=>wpAny (model prog w) A (getAttr o f true) Q E s₁) E s):wpAny (model prog w) A (eval (.Attribute e f pos) env) Q E s :=
  Attribute_any_ h (by rw [arm_eval_Attribute,hb])
end
def tFld (K:PySem.W.Frag) (ta:TE) (f:Str):TE:=fun σ H Q=>ta σ H fun x H1=>∃ a C dx fs v,x = .ref a /\ H1 a = some (.ins C dx fs) /\ Cls K C /\ NoAttr K C f /\ fs.lookup f = some v /\ Q v H1
def sFld (K:PySem.W.Frag) (ta tv:TE) (f:Str):TS:=fun D σ H=>tv σ H fun y H1=>ta σ H1 fun x H2=>∃ a C dx fs,x = .ref a /\ H2 a = some (.ins C dx fs) /\ Cls K C /\ NoAttr K C f /\ fs.length < 1000 ∧
  D.nx σ (upd H2 a (.ins C dx (putF f y fs)))
section
variable {X:Cx} {o e value:Expr} {f:Str} {pos pos' tpos:Pos} {ta tv:TE}
theorem pe_fld (he:PE X e ta) (hb:attributeBase e f X.env (eval e X.env) = eval e X.env):PE X (.Attribute e f pos) (tFld X.K ta f):=by
  intro pins s σ H Q I h
  refine attr_of hb (thn (he pins s σ H _ I h) fun u s1 ⟨x,H1,I1,rx,a,C,dx,fs,v,ex,ea,c,n,l,q⟩=>?_)
  subst ex
  obtain rfl:u = Value.ref a:=rx
  exact getattr_ok I1 ea c n l fun u' s2 I2 ru=>⟨v,H1,I2,ru,q⟩
theorem ps_fld (ha:PE X o ta) (hv:PE X value tv) (hs:swapsWith value (some (.Attribute o f pos')) pos.line X.env = pure false):PS X (.Assign [.Attribute o f pos'] value pos) (sFld X.K ta tv f):=by
  intro pins s σ H D I h
  refine plainObj_wpAny_Assign_Attribute (thn (hv pins s σ H _ I h) fun u s1 ⟨y,H1,I1,ry,q⟩=>thn (ha pins s1 σ H1 _ I1 q) fun ov s2 ⟨x,H2,I2,rx,a,C,dx,fs,ex,ea,c,n,l,q2⟩=>?_) hs
  subst ex
  obtain rfl:ov = Value.ref a:=rx
  exact setattr_ok I2 ea c n l ry fun s3 I3=>⟨σ,_,I3,q2⟩
end
section
variable {X:Cx} {pins:List (Addr × Obj)} {σ:St} {H:Hp} {s:Shared} {A:Around} {E:Value->Shared->Prop} {Q:Value->Shared->Prop} {c:Value} {b:Bool}
inductive TyOf (K:PySem.W.Frag) (H:Hp):V->Value->Prop where
  | non:TyOf K H .non (.type "NoneType")
  | bl (x:Bool):TyOf K H (.bl x) (.type "bool")
  | int (i:Int):TyOf K H (.int i) (.type "int")
  | str (x:Str):TyOf K H (.str x) (.type "str")
  | flt (x:UInt64):TyOf K H (.flt x) (.type "float")
  | lst {a:Addr} {xs:List V} (e:H a = some (.lst xs)):TyOf K H (.ref a) (.type "list")
  | frz {a:Addr} {o:Obj} {xs:List V} (e:H a = some (.frz o (.lst xs))):TyOf K H (.ref a) (.type "list")
  | tup {a:Addr} {xs:List V} (e:H a = some (.tup xs)):TyOf K H (.ref a) (.type "tuple")
  | dK {a:Addr} {kvs:List (Key × V)} (e:H a = some (.dK kvs)):TyOf K H (.ref a) (.type "dict")
  | dT {a:Addr} {kvs:List (List Key × V)} (e:H a = some (.dT kvs)):TyOf K H (.ref a) (.type "dict")
  | ins {a C dx:Addr} {fs:List (Str × V)} (e:H a = some (.ins C dx fs)) (cl:Cls K C) (ha:PySem.W.findIn K (.ref C) "__class__" = some (some (.builtin "object.__class__")))
      (hn:PySem.W.specialIn K (.builtin "object.__class__") "__get__" = some (some (.builtin "getset_descriptor.__get__"))) (htk:PySem.W.takesIn K (.builtin "object.__class__") = some true)
      (hm:PySem.W.mroIn K C (.type "object") = some true):TyOf K H (.ref a) (.ref C)
theorem isinst_ok {x:V} {u t:Value} (I:Inv X pins σ H s) (rx:RelV x u) (ty:TyOf X.K H x t) (e:PySem.W.kitOne X.K t c = some b) (h:∀ tk,Q (.bool b) { s with toks:=tk }) :
    wpAny (model X.prog X.w) A (call (.builtin "isinstance") [u,c]) Q E s:=by
  cases ty with
  | non=>cases (show u = Value.none from rx); exact PySem.W.kia_one PySem.W.kitx_none I.kIn True.intro e (fun z=>nomatch z) h
  | bl y=>cases (show u = Value.bool y from rx); exact PySem.W.kia_one PySem.W.kitx_bool I.kIn True.intro e (fun z=>nomatch z) h
  | int i=>obtain ⟨t,q⟩:=(show ∃ t,u = Value.int i t from rx); cases q; exact PySem.W.kia_one PySem.W.kitx_int I.kIn True.intro e (fun z=>nomatch z) h
  | str y=>obtain ⟨t,q⟩:=(show ∃ t,u = Value.str y t from rx); cases q; exact PySem.W.kia_one PySem.W.kitx_str I.kIn True.intro e (fun z=>nomatch z) h
  | flt y=>obtain ⟨t,q⟩:=(show ∃ t,u = Value.float y t from rx); cases q; exact PySem.W.kia_one PySem.W.kitx_float I.kIn True.intro e (fun z=>nomatch z) h
  | @lst a xs ea =>
    cases (show u = Value.ref a from rx)
    obtain ⟨_,_,n,_,h1⟩:=(show ObjOk X.prog X.w H s.heap a (.lst xs) from I.hok a _ ea)
    exact PySem.W.kia_one PySem.W.kitx_list I.kIn ⟨_,h1,rfl⟩ e (fun z=>nomatch z) h
  | @frz a ob xs ea =>
    cases (show u = Value.ref a from rx)
    obtain ⟨_,_,_,n,_,h1⟩:=(show ObjOk X.prog X.w H s.heap a (.frz ob (.lst xs)) from I.hok a _ ea)
    exact PySem.W.kia_one PySem.W.kitx_list I.kIn ⟨_,h1,rfl⟩ e (fun z=>nomatch z) h
  | @tup a xs ea =>
    cases (show u = Value.ref a from rx)
    obtain ⟨_,_,_,p⟩:=(show ObjOk X.prog X.w H s.heap a (.tup xs) from I.hok a _ ea)
    obtain ⟨o,h1,h2,_⟩:=p
    exact PySem.W.kia_one PySem.W.kitx_tuple I.kIn ⟨o,h1,h2⟩ e (fun z=>nomatch z) h
  | @dK a kvs ea =>
    cases (show u = Value.ref a from rx)
    obtain ⟨_,_,vs,_,p⟩:=(show ObjOk X.prog X.w H s.heap a (.dK kvs) from I.hok a _ ea)
    obtain ⟨o,es,ep,h1,h2,_⟩:=p
    exact PySem.W.kia_one PySem.W.kitx_dict I.kIn ⟨o,h1,h2.1⟩ e (fun z=>nomatch z) h
  | @dT a kvs ea =>
    cases (show u = Value.ref a from rx)
    obtain ⟨_,_,xs,_,o,es,ep,h1,h2,_⟩:=(show ObjOk X.prog X.w H s.heap a (.dT kvs) from I.hok a _ ea)
    exact PySem.W.kia_one PySem.W.kitx_dict I.kIn ⟨o,h1,h2.1⟩ e (fun z=>nomatch z) h
  | @ins a C dx fs ea cl ha hn htk hm =>
    cases (show u = Value.ref a from rx)
    obtain ⟨mA,O,_⟩:=ins_get I.hok ea
    obtain ⟨od,J,_⟩:=O.look
    exact PySem.W.kia_one (PySem.W.kitx_own (cl.get _) cl.hd ha hn htk hm) I.kIn J e (fun z=>nomatch z) h
end
open PySem PySem.Spec PyProof.Rows
structure Room (k:Nat) (A:Around):Prop where
  hd:A.handled = none
  dp:A.depth + 3 * k + 5 < recursionLimit
  un:A.units + 16 * k + 200 < cLine
theorem Room.mono {j k:Nat} {A:Around} (r:Room k A) (h:j ≤ k):Room j A:=⟨r.hd,by have:=r.dp; omega,by have:=r.un; omega⟩
theorem Room.deeper {k:Nat} {A:Around} (r:Room (k + 1) A) (env:Env):Room k (A.deeper env) :=
  ⟨r.hd,by have:=r.dp; show A.depth + 1 + 3 * k + 5 < _; omega,by have:=r.un; show A.units + 3 + 16 * k + 200 < _; omega⟩
theorem make_depth {A:Around} {C:Addr} {us:List Value} {kw:List (Str × Value)}:(A.under (.builtin "type.__call__" ⟨.ref C :: us,kw⟩)).depth = A.depth + 1:=by
  first | rfl | simp [Around.under,Code.weight,Code.isCreation,Code.isGuard,Code.isCaller,Code.frames,Code.isFrame,guardIds]
theorem make_units {A:Around} {C:Addr} {us:List Value} {kw:List (Str × Value)}:(A.under (.builtin "type.__call__" ⟨.ref C :: us,kw⟩)).units = A.units + 1:=by
  first | rfl | simp [Around.under,Code.cUnits,Code.frames,Code.isFrame]
theorem Room.make {k:Nat} {A:Around} (r:Room (k + 1) A) (C:Addr) (us:List Value) (kw:List (Str × Value)):Room k (A.under (.builtin "type.__call__" ⟨.ref C :: us,kw⟩)) :=
  ⟨r.hd,by have:=r.dp; rw [make_depth]; omega,by have:=r.un; rw [make_units]; omega⟩
theorem Room.depth {k:Nat} {A:Around} (r:Room k A):A.depth < recursionLimit:=by have:=r.dp; omega
theorem Room.units {k:Nat} {A:Around} (r:Room k A):A.units + 64 < cLine:=by have:=r.un; omega
def tNil:TA:=fun _ H Q=>Q [] H
def tCons (ta:TE) (tr:TA):TA:=fun σ H Q=>ta σ H fun x H1=>tr σ H1 fun xs H2=>Q (x :: xs) H2
section
variable {X:Cx} {e:Expr} {es:List Expr} {te:TE} {t:TA} {pos:Pos}
theorem pa_nil:PA X [] tNil:=fun _ _ _ _ H Q I h=>Calls.spliced_nil ⟨[],H,I,.nil,h⟩
theorem pa_cons (ha:PE X e te) (hr:PA X es t) (hs:starEach (e :: es) X.env = (false,eval e X.env) :: starEach es X.env:=by rfl):PA X (e :: es) (tCons te t):=by
  intro pos pins s σ H Q I h
  rw [hs]
  show wpAny _ _ (spliced ((false,eval e X.env) :: backTo pos (starEach es X.env))) _ _ s
  refine Calls.spliced_cons (thn (ha pins s σ H _ I h) fun u s1 ⟨x,H1,I1,r1,q1⟩=>?_)
  exact thn (hr pos pins s1 σ H1 _ I1 q1) fun us s2 ⟨xs,H2,I2,r2,q2⟩=>⟨x :: xs,H2,I2,.cons r1 r2,q2⟩
def tTup (t:TA):TE:=fun σ H Q=>t σ H fun xs H1=>xs.length ≤ sizeLine /\ ∀ p,H1 p = none->Q (.ref p) (upd H1 p (.tup xs))
def tLst (t:TA):TE:=fun σ H Q=>t σ H fun xs H1=>xs.length ≤ sizeLine /\ ∀ p,H1 p = none->Q (.ref p) (upd H1 p (.lst xs))
theorem pe_tup {x1} (h:PA X es t):PE X (.Tuple es x1 pos) (tTup t):=by
  intro pins s σ H Q I hq
  refine wpAny_Tuple_spliced (thn (h pos pins s σ H _ I hq) fun us s1 ⟨xs,H1,I1,r,z,q⟩=>⟨by rw [← r.length]; exact z,?_⟩)
  have hf:H1 s1.heap.objs.size = none:=I1.hok.fresh (Nat.le_refl _)
  refine ⟨.ref s1.heap.objs.size,upd H1 s1.heap.objs.size (.tup xs),I1.laid (t':=s1.toks) (fun b u e=>Heap.get?_push_of_some _ e) (Nat.le_refl _) ?_,rfl,q _ hf⟩
  exact ⟨z,us,r,⟨_,Heap.get?_push_size _ rfl,rfl,_,rfl⟩⟩
theorem pe_lst (h:PA X es t):PE X (.List es pos) (tLst t):=by
  intro pins s σ H Q I hq
  refine wpAny_List_spliced (thn (h pos pins s σ H _ I hq) fun us s1 ⟨xs,H1,I1,r,z,q⟩=>⟨by rw [← r.length]; exact z,?_⟩)
  have hf:H1 s1.heap.objs.size = none:=I1.hok.fresh (Nat.le_refl _)
  refine ⟨.ref s1.heap.objs.size,upd H1 s1.heap.objs.size (.lst xs),I1.laid (t':=s1.toks) (fun b u e=>Heap.get?_push_of_some _ e) (Nat.le_refl _) ?_,rfl,q _ hf⟩
  exact ⟨z,us,0,r,Heap.get?_push_size _ rfl⟩
end
abbrev Sp:=List V->Hp->VK->XK->Prop
abbrev CXT:=List Env->Hp->Shared->XK->Value->Shared->Prop
structure Env0 (P:Program) (w:World) (K:PySem.W.Frag) (mg:Str->Option Value) (base:Heap) (A:Around) (outer:List Env) (s:Shared) (H:Hp):Prop where
  frames:A.frames = some outer
  mod:Mod K mg base
  bs:∀ b o,base.get? b = some o->s.heap.get? b = some o /\ H b = none
  bsz:base.objs.size ≤ s.heap.objs.size
  funs:s.heap.FunFrames base outer
  frf:∀ b ∈ frs outer,H b = none
  hok:HOk P w H s.heap
  bare:AllBare s.gens
def CE (outer:List Env) (P:Program) (w:World) (H:Hp) (s:Shared) (Q:VK) (u:Value) (s':Shared):Prop :=
  ∃ v H',s'.os = s.os /\ AllBare s'.gens /\ Un (frs outer) [] H H' s.heap s'.heap /\ HOk P w H' s'.heap /\ RelV v u /\ Q v H'
def CR (CX:CXT) (outer:List Env) (P:Program) (w:World) (H:Hp) (s:Shared) (Q:VK) (E:XK) (r:Result) (s':Shared):Prop :=
  match r with
  | .ok (.ret u)=>CE outer P w H s Q u s'
  | .ok _=>False
  | .error e=>CX outer H s E e s'
structure FnOk (P:Program) (w:World) (K:PySem.W.Frag) (mg:Str->Option Value) (base:Heap) (CX:CXT) (k:Nat) (f:Addr) (fd:FuncData) (ps:List Str) (sp:Sp):Prop where
  len:∀ vs H Q E,sp vs H Q E->vs.length = ps.length
  run:∀ (A:Around) (outer:List Env) (s:Shared) (H:Hp) (args:Args) (us:List Value) (vs:List V) (Q:VK) (E:XK),Room k A->Env0 P w K mg base A outer s H->BindsTo s fd args (ps.zip us)->Vals vs us->sp vs H Q E →
    codeAny (model P w) A (.call (.ref f) args) (CR CX outer P w H s Q E) s
theorem Env0.make {P:Program} {w:World} {K:PySem.W.Frag} {mg:Str->Option Value} {base:Heap} {A:Around} {outer:List Env} {s:Shared} {H:Hp} (e:Env0 P w K mg base A outer s H) (C:Addr) (us:List Value) (kw:List (Str × Value)) :
    Env0 P w K mg base (A.under (.builtin "type.__call__" ⟨.ref C :: us,kw⟩)) outer s H:=⟨by first | exact e.frames | (simpa [Around.under,Code.envs,Code.isFrame,pushEnvs] using e.frames),e.mod,e.bs,e.bsz,e.funs,e.frf,e.hok,e.bare⟩
section
variable {X:Cx} {pins:List (Addr × Obj)} {σ:St} {H:Hp} {s s':Shared}
theorem Inv.env0 (I:Inv X pins σ H s):Env0 X.prog X.w X.K X.mg X.base X.A X.stack s H :=
  ⟨I.ok.frames,I.ok.mod,I.bs,Nat.le_trans I.ok.bsz I.sz,I.stack,I.stkFree,I.hok,I.bare⟩
theorem Inv.after {Q:VK} {u:Value} (I:Inv X pins σ H s) (h:CE X.stack X.prog X.w H s Q u s'):EP X pins σ Q u s':=by
  obtain ⟨v,H',os,bare,un,hok,r,q⟩:=h
  obtain ⟨hh,g,d,t,os'⟩:=s'
  obtain rfl:os' = s.os:=os
  exact ⟨v,H',I.call (h':=hh) (g':=g) (d':=d) (t':=t) (ch:=[]) un hok bare (fun b z=>absurd z (by simp)),r,q⟩
end
def Binds (K:PySem.W.Frag) (fd:FuncData) (ps:List Str) (ds:List Value):Prop :=
  ∀ (s:Shared) (us:List Value),K.In s.heap->(us ++ ds).length = ps.length->BindsTo s fd ⟨us,[]⟩ (ps.zip (us ++ ds))
theorem Binds.all {K:PySem.W.Frag} {fd:FuncData} {ps:List Str} (h:∀ us:List Value,us.length = ps.length->bindArgs fd ⟨us,[]⟩ = pure (ps.zip us)):Binds K fd ps []:=fun s us _ hl=>by
  rw [List.append_nil] at hl ⊢
  exact .of_eq (h us hl)
section
variable {X:Cx} {CX:CXT} {k:Nat} {f C:Addr} {fd:FuncData} {ps:List Str} {sp:Sp} {dvs:List V} {ds:List Value} {E:XK} {x m:Str} {p pos apos:Pos} {e o:Expr} {es:List Expr} {ta:TE} {t:TA}
structure Mk (K:PySem.W.Frag) (C f:Addr):Prop where
  makes:PySem.W.makesIn K C = true
  init:PySem.W.findIn K (.ref C) "__init__" = some (some (.ref f))
  fn:PySem.W.isFn K (.ref f) = true
  kp:PySem.W.keepIn K (.ref C) = true
end
structure FnScope (N P:List Str) (sc:Scope):Prop where
  kind:sc.kind = .function
  co:sc.isCoroutine = false
  gen:sc.isGenerator = false
  nd:N.Nodup
  pre:N.take P.length = P
  par:∀ x ∈ P,sc.names.lookup x = some .local ∨ sc.names.lookup x = some .cell
  nofree:∀ y ∈ sc.names,y.2 ≠ .free
theorem bindL_out {kindOf:Str->Option NameKind} {x:Str}:∀ {binds:List (Str × Value)} {m:Str->Option Value},(∀ v,(x,v) ∉ binds)->bindL kindOf binds m x = m x
  | [],_,_=>rfl
  | (n,v) :: r,m,h=>by
    unfold bindL
    rw [bindL_out fun w hw=>h w (List.mem_cons_of_mem _ hw)]
    split
    · have:x ≠ n:=by rintro rfl; exact h v List.mem_cons_self
      simp [this]
    · rfl
theorem bindC_out {kindOf:Str->Option NameKind} {x:Str}:∀ {binds:List (Str × Value)} {m:Str->Option Value},(∀ v,(x,v) ∉ binds)->bindC kindOf binds m x = m x
  | [],_,_=>rfl
  | (n,v) :: r,m,h=>by
    unfold bindC
    rw [bindC_out fun w hw=>h w (List.mem_cons_of_mem _ hw)]
    split
    · rfl
    · have:x ≠ n:=by rintro rfl; exact h v List.mem_cons_self
      simp [this]
theorem bindL_get {kindOf:Str->Option NameKind} {x:Str} {v:Value}:∀ {P:List Str} {vs:List Value} {i:Nat} {m:Str->Option Value},P.Nodup->P[i]? = some x->vs[i]? = some v->kindOf x = some .local →
    bindL kindOf (P.zip vs) m x = some v
  | [],_,_,_,_,h,_,_=>by simp at h
  | _ :: _,[],_,_,_,_,h,_=>by simp at h
  | p :: P,w :: vs,0,m,nd,h1,h2,hk=>by
    simp at h1 h2; subst h1; subst h2
    show bindL kindOf ((p,w) :: P.zip vs) m p = _
    unfold bindL
    rw [bindL_out fun v hv=>(List.nodup_cons.mp nd).1 (List.of_mem_zip hv).1,if_pos hk]
    simp
  | p :: P,w :: vs,i + 1,m,nd,h1,h2,hk=>by
    show bindL kindOf ((p,w) :: P.zip vs) m x = _
    unfold bindL
    exact bindL_get (i:=i) (List.nodup_cons.mp nd).2 (by simpa using h1) (by simpa using h2) hk
theorem bindC_get {kindOf:Str->Option NameKind} {x:Str} {v:Value}:∀ {P:List Str} {vs:List Value} {i:Nat} {m:Str->Option Value},P.Nodup->P[i]? = some x->vs[i]? = some v->kindOf x ≠ some .local →
    bindC kindOf (P.zip vs) m x = some v
  | [],_,_,_,_,h,_,_=>by simp at h
  | _ :: _,[],_,_,_,_,h,_=>by simp at h
  | p :: P,w :: vs,0,m,nd,h1,h2,hk=>by
    simp at h1 h2; subst h1; subst h2
    show bindC kindOf ((p,w) :: P.zip vs) m p = _
    unfold bindC
    rw [bindC_out fun v hv=>(List.nodup_cons.mp nd).1 (List.of_mem_zip hv).1,if_neg hk]
    simp
  | p :: P,w :: vs,i + 1,m,nd,h1,h2,hk=>by
    show bindC kindOf ((p,w) :: P.zip vs) m x = _
    unfold bindC
    exact bindC_get (i:=i) (List.nodup_cons.mp nd).2 (by simpa using h1) (by simpa using h2) hk
def start (N:List Str) (vs:List V):St:=vs.map some ++ List.replicate (N.length - vs.length) none
def cxOf (CX:CXT) (P:Program) (w:World) (K:PySem.W.Frag) (mg:Str->Option Value) (base:Heap) (N:List Str) (qual:Str) (scope:Scope) (f:Addr) (cd:Value) (A:Around) (outer:List Env) (s:Shared) (H:Hp) (E:XK):Cx where
  prog:=P
  w:=w
  K:=K
  mg:=mg
  base:=base
  A:=A.deeper (envOfC qual scope s.heap.objs.size f cd)
  N:=N
  s₀:=s
  H₀:=H
  env:=envOfC qual scope s.heap.objs.size f cd
  outer:=outer
  stack:=envOfC qual scope s.heap.objs.size f cd :: outer
  ex:=[]
  calm:=true
  fn:=fun _=>true
  pn:=[]
  xe:=fun e s'=>wpAny (model P w) (A.deeper (envOfC qual scope s.heap.objs.size f cd)) (leaving (envOfC qual scope s.heap.objs.size f cd) e) (fun _ s''=>CX outer H s E e s'') (fun e' s''=>CX outer H s E e' s'') s'
theorem cell_has {sc:Scope} {n:Nat} {x:Str} (h:sc.names.lookup x = some .cell):∃ c,(cellsFrom n sc.names []).lookup x = some c:=by
  have q:=PySem.W.cellsFrom_some sc.names n [] (.inl h)
  exact Option.isSome_iff_exists.mp q
theorem inv_start {CX:CXT} {P:Program} {w:World} {K:PySem.W.Frag} {mg:Str->Option Value} {base:Heap} {N ps:List Str} {qual:Str} {scope:Scope} {f:Addr} {cd:Value} {A:Around} {outer:List Env} {s s1:Shared} {H:Hp} {E:XK} {us:List Value} {vs:List V}
    (S:FnScope N ps scope) (hd:A.handled = none) (e0:Env0 P w K mg base A outer s H) (hl:vs.length = ps.length) (r:Vals vs us)
    (x:InCallC s s.heap.objs.size (bindL (envOfC qual scope s.heap.objs.size f cd).kindOf (ps.zip us) fun _=>none) (cellsFrom (s.heap.objs.size + 1) scope.names []) (bindC (envOfC qual scope s.heap.objs.size f cd).kindOf (ps.zip us) fun _=>none) s1) :
    Inv (cxOf CX P w K mg base N qual scope f cd A outer s H E) [] (start N vs) H s1:=by
  have hpl:ps.length ≤ N.length:=by have:=congrArg List.length S.pre; rw [List.length_take] at this; omega
  obtain ⟨h1,tk,rfl,hk⟩:=x.done
  have noA:∀ b:Addr,b ∉ (cxOf CX P w K mg base N qual scope f cd A outer s H E).ex:=fun b z=>absurd (show b ∈ ([]:List Addr) from z) (by simp)
  refine ⟨⟨e0.mod,S.kind,rfl,rfl,Nat.le_refl _,fun y z c h1 h2=>?_,fun y hy=>?_,fun y c _ h=>?_,fun _=>hd,Around.frames_deeper e0.frames,.inr ⟨rfl,rfl⟩,fun b z=>absurd z (noA b),e0.bs,e0.bsz,fun b _ _=>noA b,fun b z=>absurd z (noA b),e0.funs,e0.frf⟩,
    rfl,e0.bare,Un.kept hk,⟨_,x.toInCall.ns,fun i y v h1 h2 h3=>?_⟩,fun y c h=>⟨_,x.cell y c h⟩,e0.hok.fresh (Nat.le_refl _),fun y c h=>?_,fun p hp=>absurd (show p ∈ ([]:List (Addr × Obj)) from hp) (by simp),e0.hok.kept hk,?_⟩
  · exact name_of_addr x.apart (PySem.mem_of_lookup h1) (PySem.mem_of_lookup h2)
  · have hy:scope.names.lookup y = some .cell ∨ scope.names.lookup y = some .free:=hy
    rcases hy with hy | hy
    · exact cell_has hy
    · exact absurd rfl (S.nofree _ (PySem.mem_of_lookup hy))
  · exact Nat.le_of_lt (x.above y c (PySem.mem_of_lookup h))
  · have hi:i < vs.length:=by
      unfold start at h2
      by_cases hi:i < vs.length
      · exact hi
      · rw [List.getElem?_append_right (by simpa using hi)] at h2
        rw [List.getElem?_replicate] at h2
        split at h2 <;> cases h2
    have ha:vs[i]? = some v:=by
      unfold start at h2
      rw [List.getElem?_append_left (by simpa using hi),List.getElem?_map] at h2
      cases e:vs[i]? with
      | none=>rw [e] at h2; cases h2
      | some a=>rw [e] at h2; cases h2; rfl
    obtain ⟨u,hu,rv⟩:=r.get ha
    have hp:ps[i]? = some y:=by
      rw [← S.pre,List.getElem?_take_of_lt (by omega)]; exact h1
    have ndP:ps.Nodup:=by rw [← S.pre]; exact S.nd.sublist (List.take_sublist _ _)
    refine ⟨u,rv,?_⟩
    rcases S.par y (List.mem_of_getElem? hp) with k | k
    · exact .inl ⟨k,bindL_get ndP hp hu k⟩
    · obtain ⟨c,e⟩:=cell_has (n:=s.heap.objs.size + 1) k
      refine .inr ⟨.inl k,c,e,?_⟩
      have q:=x.cell y c e
      rw [bindC_get ndP hp hu (by show scope.names.lookup y ≠ _; rw [k]; decide)] at q
      exact q
  · exact e0.hok.fresh (Nat.le_of_lt (x.above y c (PySem.mem_of_lookup h)))
  · unfold start
    show _ = N.length
    rw [List.length_append,List.length_map,List.length_replicate]
    omega
theorem fn_of {CX:CXT} {P:Program} {w:World} {K:PySem.W.Frag} {mg:Str->Option Value} {base:Heap} {k:Nat} {f:Addr} {name qual:Str} {params:Arguments} {body:List Stmt} {scope:Scope} {dV kV doc pm cdv ct oc:Value} {an od:Option Addr}
    {osl:Array (Option Value)} {N ps:List Str} {sp:Sp} (lk:K.lookup f = some ⟨oc,od,.func (PySem.W.fnOf name qual params body scope dV kV doc pm an cdv ct),osl⟩) (hcd:PySem.W.codeIn K cdv qual = true) (S:FnScope N ps scope)
    (len:∀ vs H Q E,sp vs H Q E->vs.length = ps.length)
    (hbody:∀ (A:Around) (outer:List Env) (s:Shared) (H:Hp) (vs:List V) (Q:VK) (E:XK),Room k (A.deeper (envOfC qual scope s.heap.objs.size f cdv))->sp vs H Q E →
      ∃ t,PSs (cxOf CX P w K mg base N qual scope f cdv A outer s H E) body t /\ t { nx:=fun _ H'=>Q .non H',rt:=Q } (start N vs) H) :
    FnOk P w K mg base CX (k + 1) f (PySem.W.fnOf name qual params body scope dV kV doc pm an cdv ct) ps sp:=by
  refine ⟨len,fun A outer s H args us vs Q E hr e0 hb r hsp=>?_⟩
  have hl:=len _ _ _ _ hsp
  have KX:K.In s.heap:=e0.mod.kin.keeps fun b o e=>(e0.bs b o e).1
  have lim:s.heap.NoLimit:=e0.mod.nolimit.keeps fun b o e=>(e0.bs b o e).1
  have hkind:∀ y ∈ ps.zip us,scope.names.lookup y.1 = some .local ∨ (scope.names.lookup y.1 = some .cell /\ ((cellsFrom (s.heap.objs.size + 1) scope.names []).lookup y.1).isSome = true):=fun ⟨n,v⟩ hy=>by
    rcases S.par n (List.of_mem_zip hy).1 with q | q
    · exact .inl q
    · exact .inr ⟨q,PySem.W.cellsFrom_some _ _ _ (.inl q)⟩
  refine codeAny_call_function hr.depth (KX _ _ lk) rfl S.co S.gen rfl (PySem.W.codeRec_of KX hcd) (hb _ _ _ _ ?_)
  refine wpAny_newFunctionEnv_cells S.kind hkind fun env he s1 x=>?_
  subst he
  refine ⟨lim.keeps x.toInCall.keep,codeAny_func ?_⟩
  obtain ⟨t,ht,hq⟩:=hbody A outer s H vs Q E (hr.deeper _) hsp
  have I:Inv (cxOf CX P w K mg base N qual scope f cdv A outer s H E) [] (start N vs) H s1:=inv_start S hr.hd e0 hl r x
  refine wpAny_mono (ht [] s1 (start N vs) H _ I hq) (fun fl s' hs=>?_) fun e s' hs=>hs
  have fin:∀ {σ':St} {H':Hp} {v:V} {u:Value},Inv (cxOf CX P w K mg base N qual scope f cdv A outer s H E) [] σ' H' s'->RelV v u->Q v H'->CE outer P w H s Q u s' :=
    fun {σ' H' v u} J rv q=>⟨v,H',J.os,J.bare,J.base,J.hok,rv,q⟩
  cases fl with
  | ret u =>
    obtain ⟨v,σ',H',J,rv,q⟩:=hs
    exact fin J rv q
  | next =>
    obtain ⟨σ',H',J,q⟩:=hs
    exact fin (v:=V.non) (u:=Value.none) J rfl q
  | brk =>
    obtain ⟨_,_,_,q⟩:=hs
    exact False.elim q
  | cont =>
    obtain ⟨_,_,_,q⟩:=hs
    exact False.elim q
open PySem PySem.Spec PyProof.Rows
section
variable {X:Cx} {x:Str} {p pos:Pos} {e:Expr} {es:List Expr} {t:TA} {id T:String} {r:List V->Hp->VK->Prop}
def tCB (r:List V->Hp->VK->Prop) (t:TA):TE:=fun σ H Q=>t σ H fun vs H1=>r vs H1 Q
theorem pe_callB (hc:CallR X (.builtin id) r) (hg:Gl X x) (hm:X.mg x = none) (hv:bootBuiltins x = some (.builtin id)) (ha:PA X (e :: es) t) (hn:x ≠ "__name__":=by decide) (hdb:(x == ("__debug__":Str)) = false:=by decide)
    (he:starEach (e :: es) X.env = (false,eval e X.env) :: starEach es X.env:=by rfl) (hpl:(backTo pos (starEach es X.env)).any (·.1) = false:=by rfl):PE X (.Call (.Name x p) (e :: es) [] pos) (tCB r t):=by
  intro pins s σ H Q I h
  refine wpAny_Call_Name_kw (ld_blt I hg hm hv ?_ hn hdb)
  exact PyProof.Rows.callWith_builtin1 (thn (ha pos pins s σ H _ I h) fun us s1 ⟨vs,H1,I1,r1,q1⟩=>hc pins s1 σ H1 vs us Q I1 r1 q1) he hpl
theorem pe_callTy (hc:CallR X (.type T) r) (hg:Gl X x) (hm:X.mg x = none) (hv:bootBuiltins x = some (.type T)) (ha:PA X (e :: es) t) (hn:x ≠ "__name__":=by decide) (hdb:(x == ("__debug__":Str)) = false:=by decide)
    (he:starEach (e :: es) X.env = (false,eval e X.env) :: starEach es X.env:=by rfl) (hpl:(backTo pos (starEach es X.env)).any (·.1) = false:=by rfl):PE X (.Call (.Name x p) (e :: es) [] pos) (tCB r t):=by
  intro pins s σ H Q I h
  refine wpAny_Call_Name_kw (ld_blt I hg hm hv ?_ hn hdb)
  exact PyProof.Rows.callWith_type1 (thn (ha pos pins s σ H _ I h) fun us s1 ⟨vs,H1,I1,r1,q1⟩=>hc pins s1 σ H1 vs us Q I1 r1 q1) he hpl
end
end L2
namespace HT
open PySem PyProof.Rows
section
variable {prog:Program} {w:World} {A:Around} {E:Value->Shared->Prop} {s:Shared}
def sIx (n d:Nat):Option Int->Nat
  | none=>d
  | some v=>if v < 0 then (v + (n:Int)).toNat else min v.toNat n
theorem sIx_nat (n d k:Nat):sIx n d (some (k:Int)) = min k n:=by
  show (if (k:Int) < 0 then ((k:Int) + (n:Int)).toNat else min (k:Int).toNat n) = min k n
  rw [if_neg (by omega),Int.toNat_natCast]
end
end HT
namespace L2
open PySem PySem.Spec PyProof.Rows
abbrev TO:=St->Hp->(Option Int->Hp->Prop)->Prop
def PO (X:Cx) (e:Option Expr) (t:TO):Prop :=
  ∀ (pins:List (Addr × Obj)) (s:Shared) (σ:St) (H:Hp) (Q:Option Int->Hp->Prop),Inv X pins σ H s->t σ H Q →
    wpAny (model X.prog X.w) X.A (evalPart e X.env) (fun u s'=>∃ o H',Inv X pins σ H' s' /\ IsPart u o /\ Q o H') X.xe s
def tPart (t:TE):TO:=fun σ H Q=>t σ H fun x H1=>∃ i,x = .int i /\ Q (some i) H1
theorem intsAre_of {ns:List Int}:∀ {us:List Value},Vals (ns.map V.int) us->IntsAre us ns:=by
  induction ns with
  | nil=>intro us r; rw [List.map_nil] at r; cases r; exact .nil
  | cons n ns ih =>
    intro us r
    rw [List.map_cons] at r
    cases r with
    | cons r1 r2 =>
      obtain ⟨t,e⟩:=r1
      subst e
      exact .cons n t (ih r2)
section
variable {X:Cx} {e:Expr} {te:TE} {lo hi:Option Expr} {tl th:TO} {pos p2:Pos}
theorem po_some (h:PE X e te):PO X (some e) (tPart te):=by
  intro pins s σ H Q I hw
  rw [evalPart_some]
  refine thn (h pins s σ H _ I hw) fun u s1 ⟨x,H1,I1,r1,q1⟩=>?_
  obtain ⟨i,rfl,q⟩:=q1
  obtain ⟨t,rfl⟩:=r1
  exact ⟨some i,H1,I1,.int i t,q⟩
def SlR (X:Cx) (r:V->Option Int->Option Int->Hp->VK->Prop):Prop :=
  ∀ (pins:List (Addr × Obj)) (s:Shared) (σ:St) (H:Hp) (x:V) (v vl vu:Value) (lo hi:Option Int) (sl:Addr) (Q:VK),Inv X pins σ H s->RelV x v->s.heap.IsSliceOf sl vl vu .none->IsPart vl lo->IsPart vu hi->r x lo hi H Q →
    ∃ T id,typeLookup (.type T) "__getitem__" = pure (some (.builtin id)) /\ s.TypeIs v T /\ wpAny (model X.prog X.w) X.A (getItem v (.ref sl)) (EP X pins σ Q) X.xe s
def tSl (r:V->Option Int->Option Int->Hp->VK->Prop) (te:TE) (tl th:TO):TE:=fun σ H Q=>te σ H fun x H1=>tl σ H1 fun l H2=>th σ H2 fun u H3=>r x l u H3 Q
theorem pe_slice {r:V->Option Int->Option Int->Hp->VK->Prop} (hr:SlR X r) (he:PE X e te) (hl:PO X lo tl) (hu:PO X hi th):PE X (.Subscript e (.Slice lo hi none p2) pos) (tSl r te tl th):=by
  intro pins s σ H Q I h
  refine Subscript_ (thn (he pins s σ H _ I h) fun v s1 ⟨x,H1,I1,r1,q1⟩=>?_)
  refine wpAny_Slice (thn (hl pins s1 σ H1 _ I1 q1) fun vl s2 ⟨l,H2,I2,pl,q2⟩=>thn (hu pins s2 σ H2 _ I2 q2) fun vu s3 ⟨u,H3,I3,pu,q3⟩=>?_)
  rw [evalPart_none]
  refine wpAny_pure ?_
  have I4:Inv X pins σ H3 { s3 with heap:=s3.heap.push { cls:=.type "slice",data:=.fields #[vl,vu,.none] } }:=I3.kept (t':=s3.toks) fun b ob q=>Heap.get?_push_of_some _ q
  obtain ⟨T,id,hT,ht,hg⟩:=hr pins { s3 with heap:=s3.heap.push { cls:=.type "slice",data:=.fields #[vl,vu,.none] } } σ H3 x v vl vu l u s3.heap.objs.size Q I4 r1 (Heap.IsSliceOf.new ..) pl pu q3
  show wpAny (model X.prog X.w) X.A (subscriptTail e (.Slice lo hi none p2) v (.ref s3.heap.objs.size)) (EP X pins σ Q) X.xe { s3 with heap:=s3.heap.push { cls:=.type "slice",data:=.fields #[vl,vu,.none] } }
  exact tail_any (ops:=[.ref s3.heap.objs.size,v]) ht hT hg (by with_unfolding_all rfl)
def cutV (xs:List V) (lo hi:Option Int):List V:=(xs.drop (HT.sIx xs.length 0 lo)).take (HT.sIx xs.length xs.length hi - HT.sIx xs.length 0 lo)
theorem cutV_length (xs:List V) (lo hi:Option Int):(cutV xs lo hi).length ≤ xs.length:=by
  unfold cutV
  rw [List.length_take,List.length_drop]
  omega
end
open PySem PySem.Spec PyProof.Rows
def ixN (n:Nat) (i:Int):Option Nat:=if 0 ≤ i then (if i < n then some i.toNat else none) else if -(n:Int) ≤ i then some (i + n).toNat else none
def atI {α:Type} (xs:List α) (i:Int):Option α:=(ixN xs.length i).bind fun j=>xs[j]?
theorem ixN_seq {n:Nat} {i:Int} {j:Nat} (h:ixN n i = some j):seqIndex? i n = some j /\ j < n /\ -(n:Int) ≤ i /\ i < n:=by
  unfold ixN at h
  by_cases h0:0 ≤ i
  · rw [if_pos h0] at h
    by_cases h1:i < n
    · rw [if_pos h1] at h
      have e:i.toNat = j:=Option.some.inj h
      exact ⟨by rw [seqIndex_of h0 h1,e],by omega,by omega,h1⟩
    · rw [if_neg h1] at h; cases h
  · rw [if_neg h0] at h
    by_cases h1:-(n:Int) ≤ i
    · rw [if_pos h1] at h
      have e:(i + n).toNat = j:=Option.some.inj h
      exact ⟨by rw [seqIndex_neg (by omega) h1,e],by omega,h1,by omega⟩
    · rw [if_neg h1] at h; cases h
theorem atI_get {α:Type} {xs:List α} {i:Int} {v:α} (h:atI xs i = some v):∃ j,seqIndex? i xs.length = some j /\ xs[j]? = some v /\ j < xs.length /\ -(xs.length:Int) ≤ i /\ i < xs.length:=by
  unfold atI at h
  cases e:ixN xs.length i with
  | none=>rw [e] at h; cases h
  | some j =>
    rw [e] at h
    obtain ⟨h1,h2,h3,h4⟩:=ixN_seq e
    exact ⟨j,h1,h,h2,h3,h4⟩
theorem atI_nat {α:Type} {xs:List α} {j:Nat} {v:α} (h:xs[j]? = some v):atI xs (j:Int) = some v:=by
  have hj:j < xs.length:=(List.getElem?_eq_some_iff.mp h).1
  have e:ixN xs.length (j:Int) = some j:=by
    unfold ixN
    rw [if_pos (by omega),if_pos (by omega)]; simp
  unfold atI; rw [e]; exact h
def PlainIx (b:Expr):Prop:=∀ o i,subscripted b false o i = operate [o,i] (getItem o i)
def IxR (X:Cx) (r:R2):Prop :=
  ∀ (value slice:Expr) (pins:List (Addr × Obj)) (s:Shared) (σ:St) (H:Hp) (x y:V) (v u:Value) (Q:VK),Inv X pins σ H s->RelV x v->RelV y u->r x y H Q →
    subscripted slice false v u = operate [v,u] (getItem v u)->wpAny (model X.prog X.w) X.A (subscriptTail value slice v u) (EP X pins σ Q) X.xe s
def MtR (X:Cx) (id:String) (r:V->List V->Hp->VK->Prop):Prop :=
  ∀ (pins:List (Addr × Obj)) (s:Shared) (σ:St) (H:Hp) (x:V) (xs:List V) (v:Value) (us:List Value) (Q:VK),Inv X pins σ H s->RelV x v->Vals xs us->r x xs H Q →
    wpAny (model X.prog X.w) X.A (call (.builtin id) (v :: us)) (EP X pins σ Q) X.xe s
section
variable {X:Cx} {a b:Expr} {ta tb:TE} {pos:Pos}
theorem pe_ix {r:R2} (hr:IxR X r) (ha:PE X a ta) (hb:PE X b tb) (hs:PlainIx b):PE X (.Subscript a b pos) (tOp r ta tb):=by
  intro pins s σ H Q I h
  exact Subscript_ (binT ha hb I h fun v u s2 x y H2 I2 rx ry q=>hr a b pins s2 σ H2 x y v u Q I2 rx ry q (hs _ _))
def rIxL (K:PySem.W.Frag):R2:=fun x y H Q=>∃ p xs i v,x = .ref p /\ y = .int i /\ SqL K H p xs /\ atI xs i = some v /\ Q v H
def rIxS:R2:=fun x y H Q=>∃ z i c,x = .str z /\ y = .int i /\ z.length ≤ sizeLine /\ atI z.cps.toList i = some c /\ Q (.str ⟨#[c]⟩) H
theorem ix_list:IxR X (rIxL X.K):=by
  intro value slice pins s σ H x y v u Q I rx ry h hs
  obtain ⟨p,xs,i,z,rfl,rfl,hq,he,q⟩:=h
  cases rx
  obtain ⟨t,rfl⟩:=ry
  obtain ⟨its,r,pl,hz⟩:=I.list hq
  obtain ⟨j,h1,h2,h3,h4,h5⟩:=atI_get he
  obtain ⟨w,ew,rw'⟩:=r.get h2
  have hl:=r.length
  have hn:=line63
  have fin:EP X pins σ Q w s:=⟨z,H,I,rw',q⟩
  by_cases h0:0 ≤ i
  · have hj:i.toNat = j:=by
      rw [seqIndex_of h0 h5] at h1
      exact Option.some.inj h1
    exact item_listR pl.isList h0 (by omega) (by rw [hj]; simpa using ew) fin hs
  · have hj:(i + (its.toArray.size:Int)).toNat = j:=by
      rw [seqIndex_neg (by omega) h4] at h1
      rw [List.size_toArray,← hl]
      exact Option.some.inj h1
    exact subscriptTail_builtinR (x:=w) pl.isList.typeIs slot_list_getitem.lookup
      (wpAny_getItem_list_neg (Q:=fun r s'=>r = w /\ EP X pins σ Q r s') pl.isList (by omega) (by rw [List.size_toArray] <;> omega) (by omega) (by rw [hj]; simpa using ew) ⟨rfl,fin⟩) hs
theorem ix_str:IxR X rIxS:=by
  intro value slice pins s σ H x y v u Q I rx ry h hs
  obtain ⟨z,i,c,rfl,rfl,hz,he,q⟩:=h
  obtain ⟨t,rfl⟩:=rx
  obtain ⟨t',rfl⟩:=ry
  obtain ⟨j,h1,h2,h3,h4,h5⟩:=atI_get he
  have hl:z.cps.toList.length = z.length:=by simp [Str.length]
  rw [hl] at h1 h4 h5
  have hn:=line63
  exact tail_any (typeIs_str s z t) slot_str_getitem.lookup (getItem_str (c:=c) (by
    have e1:decide (i < -(2 ^ 63:Int)) = false:=decide_eq_false (by omega)
    have e2:decide (i ≥ 2 ^ 63) = false:=decide_eq_false (by omega)
    rw [e1,e2,Bool.or_false]) (by rw [h1]; simpa using h2) ⟨.str ⟨#[c]⟩,H,I.tok _,⟨_,rfl⟩,q⟩) hs
theorem mapSeq_set (its:List Value) (n j:Nat) (u:Value):Obj.mapSeq (·.setIfInBounds j u) { cls:=.type "list",data:=.seq its.toArray n } = { cls:=.type "list",data:=.seq (its.set j u).toArray n }:=by
  simp [Obj.mapSeq]
theorem Inv.lst {pins:List (Addr × Obj)} {σ:St} {H:Hp} {s:Shared} {p:Addr} {xs:List V} (I:Inv X pins σ H s) (h:H p = some (.lst xs)) :
    ∃ (its:List Value) (n:Nat),Vals xs its /\ s.heap.get? p = some { cls:=.type "list",data:=.seq its.toArray n } /\ xs.length ≤ sizeLine:=by
  obtain ⟨z,its,n,r,e⟩:=I.hok p _ h
  exact ⟨its,n,r,e,z⟩
theorem Inv.lstUpd {pins:List (Addr × Obj)} {σ:St} {H:Hp} {s:Shared} {p:Addr} {xs ys:List V} {its its':List Value} {n n':Nat} {f:Obj->Obj} (I:Inv X pins σ H s) (h:H p = some (.lst xs))
    (ho:s.heap.get? p = some { cls:=.type "list",data:=.seq its.toArray n }) (hf:f { cls:=.type "list",data:=.seq its.toArray n } = { cls:=.type "list",data:=.seq its'.toArray n' }) (r:Vals ys its') (hz:ys.length ≤ sizeLine) (t:Nat) :
    Inv X pins σ (upd H p (.lst ys)) { s with heap:=s.heap.update p f,toks:=t }:=by
  have e:(s.heap.update p f).get? p = some { cls:=.type "list",data:=.seq its'.toArray n' }:=by
    rw [Heap.get?_update_self f ho (by rw [hf] <;> rfl),hf]
  refine I.write (x:=p) (e:=p) (by rw [h]; trivial) (.inl rfl) (fun b u hb q=>(Heap.get?_update_other _ _ (Ne.symm hb)).trans q) ⟨_,e⟩ ?_
  exact ⟨hz,its',n',r,e⟩
def rSetL:V->V->V->Hp->(Hp->Prop)->Prop:=fun o i v H Q=>∃ p xs k j,o = .ref p /\ i = .int k /\ H p = some (.lst xs) /\ ixN xs.length k = some j /\ Q (upd H p (.lst (xs.set j v)))
theorem set_list:PSet X rSetL:=by
  intro pins s σ H o i v ov iv u Q I ro ri rv h
  obtain ⟨p,xs,k,j,rfl,rfl,hp,hj,q⟩:=h
  cases ro
  obtain ⟨t,rfl⟩:=ri
  obtain ⟨its,n,r,ho,hz⟩:=I.lst hp
  obtain ⟨h1,h2,h3,h4⟩:=ixN_seq hj
  have hl:=r.length
  have hn:=line63
  have I':Inv X pins σ (upd H p (.lst (xs.set j v))) { s with heap:=s.heap.update p (Obj.mapSeq (·.setIfInBounds j u)) } :=
    I.lstUpd hp ho (mapSeq_set its n j u) (r.set rv j) (by rw [List.length_set]; exact hz) s.toks
  by_cases h0:0 ≤ k
  · have hk:k.toNat = j:=by
      rw [seqIndex_of h0 h4] at h1
      exact Option.some.inj h1
    exact PySem.W.ki_setAt ho h0 (by omega) (by rw [List.size_toArray,← hl]; exact h4) (by rw [hk]; exact ⟨_,I',q⟩)
  · have hk:(k + (its.toArray.size:Int)).toNat = j:=by
      rw [seqIndex_neg (by omega) h3] at h1
      rw [List.size_toArray,← hl]
      exact Option.some.inj h1
    exact PySem.W.ki_setBack ho (by omega) (by rw [List.size_toArray,← hl]; exact h3) (by omega) (by rw [hk]; exact ⟨_,I',q⟩)
theorem slice_bounds (lo hi:Option Int) (n:Nat):(sliceBounds lo hi none n).1 = ((HT.sIx n 0 lo:Nat):Int) /\ (sliceBounds lo hi none n).2.1 = ((HT.sIx n n hi:Nat):Int) /\ (sliceBounds lo hi none n).2.2 = 1:=by
  refine ⟨?_,?_,rfl⟩
  · cases lo with
    | none=>simp [sliceBounds,HT.sIx]
    | some i =>
      simp only [sliceBounds,HT.sIx,Option.getD_none,show (1:Int) > 0 by decide,if_true]
      by_cases h:i < 0
      · simp only [h,if_true] <;> omega
      · simp only [h,if_false] <;> omega
  · cases hi with
    | none=>simp [sliceBounds,HT.sIx]
    | some i =>
      simp only [sliceBounds,HT.sIx,Option.getD_none,show (1:Int) > 0 by decide,if_true]
      by_cases h:i < 0
      · simp only [h,if_true] <;> omega
      · simp only [h,if_false] <;> omega
theorem slicePick_cut (its:List Value) (lo hi:Option Int):slicePick its.toArray lo hi none = ((its.drop (HT.sIx its.length 0 lo)).take (HT.sIx its.length its.length hi - HT.sIx its.length 0 lo)).toArray:=by
  obtain ⟨h1,h2,h3⟩:=slice_bounds lo hi its.toArray.size
  unfold slicePick
  rw [h1,h2,h3]
  simp only [sliceRange_one,pick_run,List.size_toArray] <;> rfl
def rSlL (K:PySem.W.Frag):V->Option Int->Option Int->Hp->VK->Prop:=fun x lo hi H Q=>∃ a xs,x = .ref a /\ SqL K H a xs /\ ∀ p,H p = none->Q (.ref p) (upd H p (.lst (cutV xs lo hi)))
theorem sl_list:SlR X (rSlL X.K):=by
  intro pins s σ H x v vl vu lo hi sl Q I rx hs pl pu h
  obtain ⟨a,xs,rfl,hx,q⟩:=h
  cases rx
  obtain ⟨its,r,ht,hz⟩:=I.list hx
  have hlen:=r.length
  refine ⟨"list",_,slot_list_getitem.lookup,ht.isList.typeIs,?_⟩
  refine wpAny_getItem_list_slice ht.isList hs pl pu .none (by simp) ?_ (by rw [List.size_toArray] <;> omega)
  rw [slicePick_cut,← hlen]
  refine ⟨.ref s.heap.objs.size,_,I.laid (t':=s.toks) (o:=.lst (cutV xs lo hi)) (fun b ob q=>Heap.get?_push_of_some _ q) (Nat.le_refl _) ?_,rfl,q _ (I.hok.fresh (Nat.le_refl _))⟩
  exact ⟨Nat.le_trans (cutV_length xs lo hi) hz,_,0,(r.drop (HT.sIx xs.length 0 lo)).take (HT.sIx xs.length xs.length hi - HT.sIx xs.length 0 lo),Heap.get?_push_size _ rfl⟩
def flatV:V->Bool
  | .non=>true
  | .bl _=>true
  | .int _=>true
  | .str _=>true
  | _=>false
def eqV:V->V->Bool
  | .non,.non=>true
  | .bl a,.bl b=>a == b
  | .bl a,.int b=>(if a then 1 else 0) == b
  | .int a,.bl b=>a == (if b then 1 else 0)
  | .int a,.int b=>a == b
  | .str a,.str b=>a == b
  | _,_=>false
theorem eqAt_V {A:Around} {s:Shared} {y x:V} {u v:Value} (ry:RelV y u) (rx:RelV x v) (fy:flatV y = true) (fx:flatV x = true):SeqAt.EqAt A s u v (eqV y x):=by
  cases y with
  | non =>
    cases ry
    cases x with
    | non=>cases rx; exact SeqAt.EqAt.same _
    | bl b=>cases rx; exact SeqAt.EqAt.none_bool b
    | int b=>obtain ⟨t,rfl⟩:=rx; exact SeqAt.EqAt.none_int b t
    | str b=>obtain ⟨t,rfl⟩:=rx; exact SeqAt.EqAt.none_str b t
    | _=>exact absurd (show false = true from fx) Bool.false_ne_true
  | bl a =>
    cases ry
    cases x with
    | non=>cases rx; exact SeqAt.EqAt.bool_none a
    | bl b=>cases rx; exact SeqAt.EqAt.bool_bool a b
    | int b=>obtain ⟨t,rfl⟩:=rx; exact SeqAt.EqAt.bool_int a b t
    | str b=>obtain ⟨t,rfl⟩:=rx; exact SeqAt.EqAt.bool_str a b t
    | _=>exact absurd (show false = true from fx) Bool.false_ne_true
  | int a =>
    obtain ⟨t',rfl⟩:=ry
    cases x with
    | non=>cases rx; exact SeqAt.EqAt.int_none a t'
    | bl b=>cases rx; exact SeqAt.EqAt.int_bool a t' b
    | int b=>obtain ⟨t,rfl⟩:=rx; exact SeqAt.EqAt.int_int a t' b t
    | str b=>obtain ⟨t,rfl⟩:=rx; exact SeqAt.EqAt.int_str a t' b t
    | _=>exact absurd (show false = true from fx) Bool.false_ne_true
  | str a =>
    obtain ⟨t',rfl⟩:=ry
    cases x with
    | non=>cases rx; exact SeqAt.EqAt.str_none a t'
    | bl b=>cases rx; exact SeqAt.EqAt.str_bool a t' b
    | int b=>obtain ⟨t,rfl⟩:=rx; exact SeqAt.EqAt.str_int a t' b t
    | str b=>obtain ⟨t,rfl⟩:=rx; exact SeqAt.EqAt.str_str a t' b t
    | _=>exact absurd (show false = true from fx) Bool.false_ne_true
  | _=>exact absurd (show false = true from fy) Bool.false_ne_true
theorem call_len_seq:CallR X (.builtin "len") (fun xs H Q=>∃ p ys,xs = [.ref p] /\ (SqL X.K H p ys ∨ SqT X.K H p ys) /\ Q (.int ys.length) H):=by
  intro pins s σ H xs us Q I r h
  obtain ⟨p,ys,rfl,hq,q⟩:=h
  obtain ⟨u,rfl,rx⟩:=vals1 r
  cases rx
  have hn:=line63
  rcases hq with hq | hq
  · obtain ⟨its,r',pl,hz⟩:=I.list hq
    have hlen:=r'.length
    exact Calls.call_len_list pl.isList (by simp only [List.size_toArray] <;> omega) ⟨.int ys.length,H,I.tok _,⟨s.toks + 1,by rw [List.size_toArray,hlen]⟩,q⟩
  · obtain ⟨its,r',pl,hz⟩:=I.tuple hq
    have hlen:=r'.length
    exact len_tuple pl (by simp only [List.size_toArray] <;> omega) ⟨.int ys.length,H,I.tok _,⟨s.toks + 1,by rw [List.size_toArray,hlen]⟩,q⟩
theorem call_len_str:CallR X (.builtin "len") (fun xs H Q=>∃ z,xs = [.str z] /\ z.length ≤ sizeLine /\ Q (.int z.length) H):=by
  intro pins s σ H xs us Q I r h
  obtain ⟨z,rfl,hz,q⟩:=h
  obtain ⟨u,rfl,t,rfl⟩:=vals1 r
  have hn:=line63
  exact len_str (by omega) ⟨.int z.length,H,I.tok _,⟨_,rfl⟩,q⟩
theorem call_list_of:CallR X (.type "list") (fun xs H Q=>∃ p ys,xs = [.ref p] /\ (SqL X.K H p ys ∨ SqT X.K H p ys) /\ ∀ l,H l = none->Q (.ref l) (upd H l (.lst ys))):=by
  intro pins s σ H xs us Q I r h
  obtain ⟨p,ys,rfl,hq,q⟩:=h
  obtain ⟨u,rfl,rx⟩:=vals1 r
  cases rx
  have fin:∀ (its:List Value),Vals ys its->ys.length ≤ sizeLine->∀ (h':Heap) (c':Nat),(∀ b o',s.heap.get? b = some o'->h'.get? b = some o') →
      h'.get? s.heap.objs.size = some { cls:=.type "list",dict:=none,data:=.seq its.toArray c',slots:=#[] }->EP X pins σ Q (.ref s.heap.objs.size) { s with heap:=h' }:=fun its r' hz h' c' kp e =>
    ⟨.ref s.heap.objs.size,_,I.laid (t':=s.toks) kp (Nat.le_refl _) (show ObjOk X.prog X.w _ h' _ (.lst ys) from ⟨hz,its,c',r',e⟩),rfl,q _ (I.hok.fresh (Nat.le_refl _))⟩
  rcases hq with hq | hq
  · obtain ⟨its,r',pl,hz⟩:=I.list hq
    have hlen:=r'.length
    obtain ⟨o,ho,hc,n,hd⟩:=pl.isList
    exact call_list_seq p (.inl rfl) ho hc hd (fun h' c' kp e=>fin its r' hz h' c' kp e) (by simp only [List.size_toArray] <;> omega)
  · obtain ⟨its,r',pl,hz⟩:=I.tuple hq
    have hlen:=r'.length
    obtain ⟨o,ho,hc,n,hd⟩:=pl
    exact call_list_seq p (.inr rfl) ho hc hd (fun h' c' kp e=>fin its r' hz h' c' kp e) (by simp only [List.size_toArray] <;> omega)
theorem call_tuple_of:CallR X (.type "tuple") (fun xs H Q=>∃ p ys,xs = [.ref p] /\ ((SqL X.K H p ys /\ ∀ l,H l = none->Q (.ref l) (upd H l (.tup ys))) ∨ (SqT X.K H p ys /\ Q (.ref p) H))):=by
  intro pins s σ H xs us Q I r h
  obtain ⟨p,ys,rfl,h⟩:=h
  obtain ⟨u,rfl,rx⟩:=vals1 r
  cases rx
  rcases h with ⟨hq,q⟩ | ⟨hq,q⟩
  · obtain ⟨its,r',pl,hz⟩:=I.list hq
    have hlen:=r'.length
    refine call_tuple_list pl.isList (fun h' kp=>?_) (by simp only [List.size_toArray] <;> omega)
    have I1:Inv X pins σ H { s with heap:=h' }:=I.kept (t':=s.toks) kp
    have I2:Inv X pins σ (upd H h'.objs.size (.tup ys)) { s with heap:=h'.push { cls:=.type "tuple",data:=.seq its.toArray } } :=
      I1.laid (t':=s.toks) (fun b o e=>Heap.get?_push_of_some _ e) (Nat.le_refl _) (show ObjOk X.prog X.w _ _ _ (.tup ys) from ⟨hz,its,r',IsTup.new _ _⟩)
    exact ⟨.ref h'.objs.size,_,I2,rfl,q _ (I1.hok.fresh (Nat.le_refl _))⟩
  · obtain ⟨its,r',pl,hz⟩:=I.tuple hq
    exact call_tuple_same pl ⟨.ref p,H,I,rfl,q⟩
def tyV (K:PySem.W.Frag) (T:String) (x:V) (H:Hp):Prop:=match x with
  | .str _=>T = "str"
  | .int _=>T = "int"
  | .ref p=>(T = "list" /\ ∃ xs,SqL K H p xs) ∨ (T = "tuple" /\ ∃ o,K.lookup p = some o /\ o.cls = .type "tuple" /\ o.dict = none) ∨
      (T = "dict" /\ ((∃ kvs,H p = some (.dK kvs)) ∨ ∃ kvs,H p = some (.dT kvs))) ∨ (T = "set" /\ ∃ S n,H p = some (.set S n))
  | _=>False
theorem tyV_is {pins:List (Addr × Obj)} {σ:St} {H:Hp} {s:Shared} {T:String} {x:V} {v:Value} (I:Inv X pins σ H s) (r:RelV x v) (ty:tyV X.K T x H) :
    s.TypeIs v T /\ ∀ a,v = .ref a->∃ ob,s.heap.get? a = some ob /\ ob.dict = none:=by
  cases x with
  | str z =>
    obtain ⟨t,rfl⟩:=r
    cases (show T = "str" from ty)
    exact ⟨typeIs_str s z t,fun _ e=>nomatch e⟩
  | int i =>
    obtain ⟨t,rfl⟩:=r
    cases (show T = "int" from ty)
    exact ⟨typeIs_int s i t,fun _ e=>nomatch e⟩
  | ref p =>
    cases r
    rcases ty with ⟨rfl,xs,hq⟩ | ⟨rfl,o,hk,hc,hd⟩ | ⟨rfl,hk⟩ | ⟨rfl,S,n,hk⟩
    · obtain ⟨its,_,pl,_⟩:=I.list hq
      refine ⟨pl.isList.typeIs,fun a e=>?_⟩
      cases e
      obtain ⟨o,n,e,c,hd,_⟩:=pl
      exact ⟨o,e,hd⟩
    · refine ⟨⟨o,I.kIn p o hk,hc⟩,fun a e=>?_⟩
      cases e
      exact ⟨o,I.kIn _ o hk,hd⟩
    · have z:∃ o,s.heap.get? p = some o /\ o.ExactDict:=by
        rcases hk with ⟨kvs,hk⟩ | ⟨kvs,hk⟩
        · obtain ⟨_,_,_,_,o,_,_,e,ex,_⟩:=I.hok p _ hk
          exact ⟨o,e,ex⟩
        · obtain ⟨_,_,_,_,o,_,_,e,ex,_⟩:=I.hok p _ hk
          exact ⟨o,e,ex⟩
      obtain ⟨o,e,ex⟩:=z
      refine ⟨⟨o,e,ex.1⟩,fun a e2=>?_⟩
      cases e2
      exact ⟨o,e,ex.2.1⟩
    · obtain ⟨o,_,_,_,e,ex,_⟩:=I.hok p _ hk
      refine ⟨⟨o,e,ex.1⟩,fun a e2=>?_⟩
      cases e2
      exact ⟨o,e,ex.2.1⟩
  | _=>exact False.elim ty
def tBM (K:PySem.W.Frag) (T:String) (r:V->List V->Hp->VK->Prop) (to:TE) (t:TA):TE:=fun σ H Q=>to σ H fun x H1=>tyV K T x H1 /\ t σ H1 fun xs H2=>r x xs H2 Q
variable {o e:Expr} {es:List Expr} {to:TE} {t:TA} {name:Str} {apos cpos:Pos} {T id:String} {r:V->List V->Hp->VK->Prop}
theorem pe_bm (pa:PlainAttrs T) (slot:Slot T name id) (hty:typeOf (.builtin id) = pure (.type "method_descriptor")) (hm:MtR X id r) (ho:PE X o to) (ha:PA X (e :: es) t)
    (hbase:attributeBase o name X.env (eval o X.env) = eval o X.env:=by rfl)
    (hfew:((backTo cpos (starEach (e :: es) X.env)).all (fun x=>!x.1) && (backToKw cpos (keywordEach [] X.env)).all (fun x=>x.1.isSome)
      && decide ((e :: es).length + ([]:List Keyword).length + (if ([]:List Keyword).isEmpty then 0 else 1) < 30)) = true:=by rfl)
    (hline:(apos.endLine == cpos.line) = true:=by rfl) (hs:starEach (e :: es) X.env = (false,eval e X.env) :: starEach es X.env:=by rfl) (hplain:(backTo cpos (starEach es X.env)).any (·.1) = false:=by rfl) :
    PE X (.Call (.Attribute o name apos) (e :: es) [] cpos) (tBM X.K T r to t):=by
  intro pins s σ H Q I h
  refine wpAny_Call_method_late hbase hfew hline rfl (thn (ho pins s σ H _ I h) fun v s1 ⟨x,H1,I1,r1,ty,q1⟩=>?_)
  obtain ⟨h1,h2⟩:=tyV_is I1 r1 ty
  refine ⟨T,id,pa,slot,hty,h1,h2,?_⟩
  have hA:=ha cpos pins s1 σ H1 _ I1 q1
  rw [hs] at hA ⊢
  refine Calls.callWith_builtin (by show (false || (backTo cpos (starEach es X.env)).any (·.1)) = false; rw [hplain] <;> rfl) (Calls.evalArgs_plain ?_)
  exact thn hA fun us s2 ⟨vs,H2,I2,r2,q2⟩=>hm pins s2 σ H2 x vs v us Q I2 r1 r2 q2
/- xs.append(e),list.index on a module's tuple .. are MtR facts of 06m -/
end
open PySem PySem.Spec PyProof.Rows
def MtM (X:Cx) (id:String) (r:V->List V->Hp->VK->Prop):Prop :=
  ∀ (pins:List (Addr × Obj)) (s:Shared) (σ:St) (H:Hp) (x:V) (xs:List V) (v:Value) (us:List Value) (Q:VK),Inv X pins σ H s->RelV x v->Vals xs us->r x xs H Q →
    wpAny (model X.prog X.w) X.A (call (.builtin id) (v :: us)) (EP X pins σ Q) X.xe s
theorem Vals.one:∀ {x:V} {us:List Value},Vals [x] us->∃ u,us = [u] /\ RelV x u
  | _,_,.cons r .nil=>⟨_,rfl,r⟩
theorem Vals.rep {xs:List V} {us:List Value} (h:Vals xs us):∀ k:Nat,Vals (List.replicate k xs).flatten (List.replicate k us).flatten
  | 0=>.nil
  | k + 1=>by
    rw [List.replicate_succ,List.replicate_succ,List.flatten_cons,List.flatten_cons]
    exact Vals.append h (Vals.rep h k)
theorem foldl_rep (its:List Value):∀ (k:Nat) (acc:List Value),
    List.foldl (fun x1 x2=>x1 ++ x2) acc.toArray (List.replicate k its.toArray) = (acc ++ (List.replicate k its).flatten).toArray
  | 0,acc=>by simp
  | k + 1,acc=>by
    have e:acc.toArray ++ its.toArray = (acc ++ its).toArray:=by simp
    have e2:(acc ++ its) ++ (List.replicate k its).flatten = acc ++ (List.replicate (k + 1) its).flatten:=by
      rw [List.replicate_succ,List.flatten_cons,List.append_assoc]
    rw [← e2,← foldl_rep its k (acc ++ its),← e,List.replicate_succ,List.foldl_cons]
section
variable {X:Cx} {pins:List (Addr × Obj)} {σ:St} {H:Hp} {s:Shared} {l b:Addr} {xs ys zs:List V}
theorem Inv.lset {its its':List Value} {n:Nat} {f:Array Value->Array Value} {t':Nat} (I:Inv X pins σ H s) (hH:H l = some (.lst xs))
    (e:s.heap.get? l = some { cls:=.type "list",data:=.seq its.toArray n }) (hf:f its.toArray = its'.toArray) (hv:Vals ys its') (hz:ys.length ≤ sizeLine) :
    Inv X pins σ (upd H l (.lst ys)) { s with heap:=s.heap.update l (Obj.mapSeq f),toks:=t' }:=by
  have q:=PySem.IsL.update e f
  rw [hf] at q
  refine I.write (x:=l) (e:=l) (by rw [hH]; exact trivial) (.inl rfl) (fun b' u hb hu=>(Heap.get?_update_other s.heap (Obj.mapSeq f) (Ne.symm hb)).trans hu) ⟨_,q⟩ ?_
  exact ⟨hz,its',_,hv,q⟩
theorem Inv.lnew {its:List Value} {t':Nat} (I:Inv X pins σ H s) (hv:Vals ys its) (hz:ys.length ≤ sizeLine) :
    Inv X pins σ (upd H s.heap.objs.size (.lst ys)) { s with heap:=s.heap.push { cls:=.type "list",data:=.seq its.toArray },toks:=t' } :=
  I.laid (fun _ _ q=>Heap.get?_push_of_some _ q) (Nat.le_refl _) ⟨hz,its,0,hv,Heap.get?_push_size _ rfl⟩
theorem Inv.fresh (I:Inv X pins σ H s):H s.heap.objs.size = none:=I.hok.fresh (Nat.le_refl _)
theorem Inv.lstM (I:Inv X pins σ H s) (hH:H l = some (.lst xs)):xs.length ≤ sizeLine /\ ∃ (its:List Value) (n:Nat),Vals xs its /\ xs.length = its.length /\ s.heap.get? l = some { cls:=.type "list",data:=.seq its.toArray n }:=by
  obtain ⟨z,its,n,r,e⟩:=I.hok l _ hH
  exact ⟨z,its,n,r,r.length,e⟩
theorem notLongL {n:Nat} (h:n ≤ sizeLine):Builtin.List.listTooLong n = false:=by
  unfold Builtin.List.listTooLong
  exact decide_eq_false (by omega)
end
section
variable {X:Cx}
def rAppend:V->List V->Hp->VK->Prop:=fun x vs H Q=>∃ l xs y,x = .ref l /\ vs = [y] /\ H l = some (.lst xs) /\ xs.length < sizeLine /\ Q .non (upd H l (.lst (xs ++ [y])))
theorem mt_append:MtM X "list.append" rAppend:=by
  intro pins s σ H x vs v us Q I rx rv h
  obtain ⟨l,xs,y,rfl,rfl,hH,hz,q⟩:=h
  cases rx
  obtain ⟨u,rfl,ru⟩:=rv.one
  obtain ⟨z,its,n,r,hl,e⟩:=I.lstM hH
  refine call_meets F.slot_list_append ⟨_,e,rfl⟩ F.entry_list_append (F.args_list_append_2 _ _) (PySem.list_append l its.toArray n u (by rw [List.size_toArray]; omega)) ⟨e,?_⟩
  refine ⟨.non,_,I.lset (its':=its ++ [u]) hH e (by simp) (r.append (.cons ru .nil)) ?_,rfl,q⟩
  rw [List.length_append,List.length_singleton]
  omega
def rExtend:V->List V->Hp->VK->Prop:=fun x vs H Q=>∃ l b xs zs,x = .ref l /\ vs = [.ref b] /\ H l = some (.lst xs) /\ H b = some (.lst zs) /\ xs.length + zs.length ≤ sizeLine /\ Q .non (upd H l (.lst (xs ++ zs)))
theorem mt_extend:MtM X "list.extend" rExtend:=by
  intro pins s σ H x vs v us Q I rx rv h
  obtain ⟨l,b,xs,zs,rfl,rfl,hH,hB,hz,q⟩:=h
  cases rx
  obtain ⟨u,rfl,ru⟩:=rv.one
  cases ru
  obtain ⟨z,its,n,r,hl,e⟩:=I.lstM hH
  obtain ⟨z2,its2,n2,r2,hl2,e2⟩:=I.lstM hB
  have hsz:its.toArray.size + its2.toArray.size ≤ sizeLine:=by rw [List.size_toArray,List.size_toArray]; omega
  have hlong:¬ (!its.toArray.isEmpty && Builtin.List.listTooLong (its.toArray.size + its2.toArray.size)) = true:=by
    rw [notLongL hsz,Bool.and_false]
    exact Bool.false_ne_true
  refine call_meets F.slot_list_extend ⟨_,e,rfl⟩ F.entry_list_extend (F.args_list_extend_2 _ _)
    (AutoSeq1.list_extend_list_list_0 l its.toArray n b its2.toArray n2 hlong (by rw [List.size_toArray]; omega) (by omega)) ⟨e,e2,?_⟩
  refine ⟨.non,_,I.lset (its':=its ++ its2) hH e (by simp) (r.append r2) ?_,rfl,q⟩
  rw [List.length_append]
  omega
def rRep:R2:=fun x y H Q=>∃ l k xs,x = .ref l /\ y = .int k /\ H l = some (.lst xs) /\ -(2 ^ 63) ≤ k /\ k < 2 ^ 63 /\ xs.length * k.toNat ≤ sizeLine ∧
  ∀ p,H p = none->Q (.ref p) (upd H p (.lst (List.replicate k.toNat xs).flatten))
theorem len_rep {α:Type} (xs:List α) (k:Nat):(List.replicate k xs).flatten.length = k * xs.length:=by
  induction k with
  | zero=>simp
  | succ k ih=>rw [List.replicate_succ,List.flatten_cons,List.length_append,ih,Nat.succ_mul,Nat.add_comm]
theorem op_rep:OpR X (binaryOp .Mult) rRep:=by
  intro pins s σ H x y v u Q I rx ry h
  obtain ⟨l,k,xs,rfl,rfl,hH,h1,h2,hz,q⟩:=h
  cases rx
  obtain ⟨t,rfl⟩:=ry
  obtain ⟨z,its,n,r,hl,e⟩:=I.lstM hH
  have hlen:its.toArray.size * k.toNat ≤ sizeLine:=by rw [List.size_toArray,← hl]; exact hz
  have hcap:¬ its.toArray.size * k.toNat > (2 ^ 63 - 1) / 8:=by
    have:(sizeLine:Nat) ≤ (2 ^ 63 - 1) / 8:=by decide
    omega
  have hfit:¬ (!Builtin.List.listFitsIndex k) = true:=by
    rw [fitsIndex_both h1 h2]
    exact Bool.false_ne_true
  have hlong:¬ Builtin.List.listTooLong (its.toArray.size * k.toNat) = true:=by
    rw [notLongL hlen]
    exact Bool.false_ne_true
  have hnew:List.foldl (fun x1 x2=>x1 ++ x2) #[] (List.replicate (if its.toArray.isEmpty = true then 0 else k.toNat) its.toArray) = (List.replicate k.toNat its).flatten.toArray:=by
    have f0:∀ m:Nat,List.foldl (fun x1 x2=>x1 ++ x2) #[] (List.replicate m its.toArray) = (List.replicate m its).flatten.toArray:=fun m=>by
      have:=foldl_rep its m []
      rw [List.nil_append] at this
      exact this
    rw [f0]
    cases its with
    | nil=>simp
    | cons a r'=>rw [if_neg (by simp)]
  refine wpAny_binaryOp_repeat_ref (T:="list") (U:="int") (by decide) ⟨_,e,rfl⟩ (fun s'=>typeIs_int s' k t) noFill_list_mul F.fills_int_mul F.slot_int_rmul repeat_list F.slot_int_index.lookup
    (call_meets F.slot_int_rmul (typeIs_int s k t) F.entry_int_rmul (F.args_int_rmul_2 _ _) (int___rmul___int_list k t l its.toArray n)
      ⟨e,rfl,⟨_,e,rfl⟩,call_meets F.slot_list_mul ⟨_,e,rfl⟩ F.entry_list_mul (F.args_list_mul_2 _ _) (AutoListH.list___mul___list_int_3 l its.toArray n k t hfit hcap hlong) ⟨e,?_⟩⟩)
  rw [hnew]
  exact ⟨.ref _,_,I.lnew (t':=s.toks) (r.rep k.toNat) (by rw [len_rep,Nat.mul_comm]; exact hz),rfl,q _ I.fresh⟩
end
section
variable {prog:Program} {w:World} {A:Around} {E:Value->Shared->Prop} {s:Shared}
set_option maxRecDepth 100000 in
end
end L2
namespace Att
open PySem PySem.W PySem.Calls PyProof.Rows
theorem ints_of_wellAll {P:Params} {h:Heap}:∀ (ns:List Int) (vs:List Value),WellAll P h vs (ns.map WData.int)->IntsAre vs ns:=by
  intro ns
  induction ns with
  | nil =>
    intro vs w
    rw [List.map_nil] at w
    cases w
    exact .nil
  | cons n ns ih =>
    intro vs w
    rw [List.map_cons] at w
    cases w with
    | cons a b =>
      cases a
      exact .cons _ _ (ih _ b)
theorem script_of {l:OpenLaw} {n:Nat} (hn:l.most = some n) {P:Params} {h:Heap} {args:List WData} {vals:List Value}
    (hpre:l.row.toRowW.claim.pre args = true) (hwl:WellAll P h vals args) :
    ∃ a vs ns,vals = [Value.ref a] /\ args = [WData.list (ns.map WData.int)] /\ h.get? a = some { cls:=.type "list",data:=.seq vs.toArray } /\ IntsAre vs ns /\ ns.length ≤ n:=by
  have hsh:WShape.hasAll [] args [.list .int] = true:=(pre_splitW hpre).1
  have hc:l.pre.holds [] { args:=args } = true:=(pre_splitW hpre).2
  obtain ⟨d,r,rfl,h1,h2⟩:=hasAllW_cons hsh
  obtain rfl:=hasAllW_nil h2
  obtain ⟨xs,rfl,h3⟩:=hasW_list h1
  obtain ⟨ns,rfl⟩:=items_int h3
  have hlen:ns.length ≤ n:=by
    unfold OpenLaw.pre at hc
    have h4:(WTm.not (.lt (.lit (.int (n:Int))) (.len (.arg 0)))).holds [] { args:=[.list (ns.map .int)] } = true:=by
      have h4:=(holds_andW hc).1
      rw [hn] at h4
      exact h4
    have h5:=condW_of h4 (w_not (w_lt w_lit (w_len_list (w_arg rfl))))
    rw [List.length_map] at h5
    refine Nat.le_of_not_lt fun q=>?_
    have q':(n:Int) < ((ns.length:Nat):Int):=by omega
    first
      | (rw [decide_eq_true q'] at h5; exact absurd h5 (by decide))
      | (simp at h5; omega)
  cases hwl with
  | cons w1 w2 =>
    cases w2
    cases w1 with
    | list ho hall=>exact ⟨_,_,ns,rfl,rfl,ho,ints_of_wellAll ns _ hall,hlen⟩
theorem post_true (l:OpenLaw) (args:List WData):l.row.toRowW.claim.post args (.bool true) args = true :=
  postW_of (r:=l.row.toRowW) (X:=(true == true))
    (show WShape.has [] (.bool true) .bool = true by first | rfl | decide | simp [WShape.has,WShape.arms,WShape.armsAll])
    (show (WTm.eq .res (.lit (.bool true))).value [] { args:=args,res:=some (.bool true),after:=args } = some (.bool (true == true)) from w_eq_bool (w_res rfl) w_lit) rfl
theorem attach_call {l:OpenLaw} {n:Nat} {q:Program} {loose:List Str} {XP:(Str->Option Value)->Heap->Prop} {YP:World->Heap->Prop} {d:DefRec}
    (hn:l.most = some n) (hdf:d.params.defaults = [])
    (call:∀ (w:World) (s₀ s₁:Shared) (mg mb:Str->Option Value) (fa:Addr) (o:Obj) (pm cd doc:Value) (a:Addr) (vs:List Value) (ns:List Int),
      Ground q loose [] XP w s₀ mg mb s₁.heap->YP w s₁.heap →
      s₁.heap.get? fa = some o->o.data = .func (docDef d.name d.params d.body d.scope pm cd doc)->s₁.heap.CodeRec cd d.name->mg d.name = some (.ref fa) →
      s₁.heap.get? a = some { cls:=.type "list",data:=.seq vs.toArray }->IntsAre vs ns->ns.length ≤ n->s₁.gens = #[] →
      codeAny (model l.prog w) callerA (.call (.ref fa) ⟨[.ref a],[]⟩) (fun r s'=>r = .ok (.ret (.bool true)) /\ OldK s₁.heap s'.heap /\ s'.os = s₁.os /\ AllBare s'.gens) s₁) :
    WalkO q loose XP YP l.row.toRowW d [] (fun f vs=>PySem.call f vs):=by
  intro w s₀ s₁ mg mb G Y fa o pm cd doc dV kV ho hd hcd hD hmg hg args vals as hpre hlay hrd hwl hlo
  obtain rfl:dV = .none:=Dflts.none hD hdf
  obtain rfl:kV = .none:=Dflts.noKw hD
  obtain ⟨a,vs,ns,rfl,rfl,hobj,hints,hlen⟩:=script_of hn hpre hwl
  refine enter_call (codeAny_mono (call w s₀ s₁ mg mb fa o pm cd doc a vs ns G Y ho (fd_plain hd) hcd hmg hobj hints hlen hg) fun r s' hq=>?_)
  obtain ⟨rfl,h2,h3,h4⟩:=hq
  exact ⟨.inl ⟨.bool true,.bool true,[],rfl,fun _=>rfl,.bool true,post_true l _,fun _=>⟨List.Pairwise.nil,fun _ hm=>(nomatch hm)⟩⟩,h2,h3,h4⟩
section
variable {prog:Program} {w:World} {A:Around} {E:Value->Shared->Prop} {s:Shared} {K:Frag}
def ledger (h:Heap) (L d:Addr):List (Addr × Obj):=(List.range h.objs.size).filterMap fun a=>if a = L ∨ a = d then none else (h.get? a).map fun o=>(a,o)
end
end Att
namespace L2
open PySem PySem.Spec PyProof.Rows
theorem vals_ints:∀ {vs:List Value} {ns:List Int},IntsAre vs ns->Vals (ns.map V.int) vs
  | _,_,.nil=>.nil
  | _,_,.cons n t h=>.cons ⟨t,rfl⟩ (vals_ints h)
def Only (H:Hp):Prop:=∀ b,H b = none ∨ ∃ o xs,H b = some (.frz o (.lst xs))
theorem law_call {P:Program} {w:World} {K:PySem.W.Frag} {mg mb:Str->Option Value} {CX:CXT} {k:Nat} {fa a:Addr} {fd:FuncData} {x:Str} {sp:Sp} {s₁:Shared} {vs:List Value} {ns:List Int}
    (KX:K.In s₁.heap) (hns:s₁.heap.Ns mainGlobals mg) (hb:s₁.heap.Ns builtinsNs mb) (hbb:∀ x:Str,x ≠ "__name__"->mb x = bootBuiltins x) (hlim:s₁.heap.NoLimit) (hg:s₁.gens = #[])
    (ha:s₁.heap.get? a = some { cls:=.type "list",data:=.seq vs.toArray }) (hi:IntsAre vs ns) (hl:ns.length ≤ sizeLine) (hr:Room k callerA)
    (F:∀ base:Heap,K.In base->base.Ns mainGlobals mg->FnOk P w K mg base CX k fa fd [x] sp) (hbind:∀ (s:Shared) (u:Value),BindsTo s fd ⟨[u],[]⟩ [(x,u)])
    (hsp:∀ H:Hp,Only H->SqL K H a (ns.map V.int)->sp [.ref a] H (fun v _=>v = .bl true) fun _ _ _=>False)
    (hCX:∀ H e s',CX [] H s₁ (fun _ _ _=>False) e s'->False) :
    codeAny (model P w) callerA (.call (.ref fa) ⟨[.ref a],[]⟩) (fun r s'=>r = .ok (.ret (.bool true)) /\ OldK s₁.heap s'.heap /\ s'.os = s₁.os /\ AllBare s'.gens) s₁:=by
  have rv:=vals_ints hi
  have lenV:=hi.length
  have core:∀ H:Hp,Only H->SqL K H a (ns.map V.int)->HOk P w H s₁.heap->(∀ b,H b ≠ none->b = a)->(H a ≠ none->K.lookup a = none) →
      codeAny (model P w) callerA (.call (.ref fa) ⟨[.ref a],[]⟩) (fun r s'=>r = .ok (.ret (.bool true)) /\ OldK s₁.heap s'.heap /\ s'.os = s₁.os /\ AllBare s'.gens) s₁:=by
    intro H hO hS hok hA hK
    have base_of:∀ {b:Addr} {o:Obj},s₁.heap.get? b = some o->H b = none->(hidT s₁.heap H).get? b = some o:=fun e n=>hidT_get e n
    have noA:∀ {b:Addr} {o:Obj} {es:Array DictEntry} {ep:Nat},s₁.heap.get? b = some o->o.data = .dict es ep->H b = none:=fun {b o es ep} e d=>by
      cases q:H b with
      | none=>rfl
      | some u =>
        have e':b = a:=hA b (by rw [q]; simp)
        subst e'
        rw [ha] at e; cases e
        have d':Data.seq vs.toArray _ = Data.dict es ep:=d
        cases d'
    have nsK:∀ {b:Addr} {m:Str->Option Value},s₁.heap.Ns b m->(hidT s₁.heap H).Ns b m:=fun {b m} ⟨o,es,ep,e,d,r⟩=>⟨o,es,ep,base_of e (noA e d),d,r⟩
    have hKb:K.In (hidT s₁.heap H):=fun b o e=>base_of (KX b o e) (by
      cases q:H b with
      | none=>rfl
      | some u =>
        have e':b = a:=hA b (by rw [q]; simp)
        subst e'
        rw [hK (by rw [q]; simp)] at e; cases e)
    have hM:Mod K mg (hidT s₁.heap H):=⟨hKb,nsK hns,⟨mb,nsK hb,hbb⟩,let ⟨mc,h1,h2⟩:=hlim; ⟨mc,nsK h1,h2⟩⟩
    have e0:Env0 P w K mg (hidT s₁.heap H) callerA [] s₁ H:=⟨rfl,hM,fun b o e=>of_hidT e,Nat.le_of_eq (hidT_size _ _),trivial,fun b hb=>absurd (show b ∈ ([]:List Addr) from hb) (by simp),hok,.of_eq hg⟩
    refine codeAny_mono ((F _ hKb (nsK hns)).run callerA [] s₁ H ⟨[.ref a],[]⟩ [.ref a] [.ref a] _ _ hr e0 (hbind s₁ (.ref a)) (.cons rfl .nil) (hsp H hO hS)) fun r s' h=>?_
    cases r with
    | error e=>exact (hCX H e s' h).elim
    | ok fl =>
      cases fl with
      | next=>exact False.elim h
      | brk=>exact False.elim h
      | cont=>exact False.elim h
      | ret u =>
        obtain ⟨v,H',os,bare,un,hok',r',q⟩:=h
        have q':v = .bl true:=q
        subst q'
        obtain rfl:u = Value.bool true:=r'
        refine ⟨rfl,OldK.of_keep fun b o e=>?_,os,bare⟩
        cases q:H b with
        | none=>exact un.keep b o e q (by intro z; exact absurd (show b ∈ ([]:List Addr) from z) (by simp)) (by simp)
        | some u =>
          rcases hO b with z | ⟨ob,xs,z⟩
          · rw [q] at z; cases z
          · have z2:=un.frzs b ob _ z
            obtain ⟨e1,_⟩:=hok b _ z
            obtain ⟨e2,_⟩:=hok' b _ z2
            rw [e] at e1; cases e1
            exact e2
  cases hk:K.lookup a with
  | some o =>
    have e:=KX a o hk
    rw [ha] at e
    cases e
    refine core (fun _=>none) (fun _=>.inl rfl) (.inr ⟨_,vs.toArray,_,hk,rfl,rfl,rfl,by rw [List.size_toArray,lenV]; exact hl,by simpa using rv⟩) (fun b u z=>by have z':(none:Option HO) = some u:=z; cases z') (fun b z=>absurd rfl z) fun z=>absurd rfl z
  | none =>
    refine core (fun b=>if b = a then some (.frz { cls:=.type "list",data:=.seq vs.toArray } (.lst (ns.map V.int))) else none) (fun b=>?_) (.inl (.inr ⟨{ cls:=.type "list",data:=.seq vs.toArray },if_pos rfl⟩)) (fun b u z=>?_) (fun b z=>?_) fun _=>hk
    · by_cases hb:b = a
      · exact .inr ⟨_,_,if_pos hb⟩
      · exact .inl (if_neg hb)
    · by_cases hb:b = a
      · have z':=(if_pos hb).symm.trans z
        cases z'
        subst hb
        exact ⟨ha,by rw [List.length_map]; exact hl,vs,_,rv,ha⟩
      · have z':=(if_neg hb).symm.trans z
        cases z'
    · by_cases hb:b = a
      · exact hb
      · exact absurd (if_neg hb) z
open PySem PySem.Spec PyProof.Rows
abbrev KOf {K:PySem.W.Frag} {h:Heap} (_:K.In h):PySem.W.Frag:=K
theorem walk_of {l:PySem.W.OpenLaw} {n k:Nat} {q:Program} {loose:List Str} {XP:(Str->Option Value)->Heap->Prop} {YP:World->Heap->Prop} {d:DefRec} {K:Params->PySem.W.Frag} {CX:World->CXT} {sp:World->Sp} {x:Str}
    (hn:l.most = some n) (hn2:n ≤ sizeLine) (hdf:d.params.defaults = []) (hr:Room k callerA)
    (hY:∀ (w:World) (h:Heap),YP w h->(K w.params).In h)
    (F:∀ (w:World) (mg:Str->Option Value) (fa:Addr) (h:Heap),(K w.params).In h->h.Ns mainGlobals mg->mg d.name = some (.ref fa) →
      ∃ fd:FuncData,(∀ (s:Shared) (u:Value),BindsTo s fd ⟨[u],[]⟩ [(x,u)]) ∧
        ∀ base:Heap,(K w.params).In base->base.Ns mainGlobals mg->FnOk l.prog w (K w.params) mg base (CX w) k fa fd [x] (sp w))
    (hsp:∀ (w:World) (H:Hp) (a:Addr) (ns:List Int),ns.length ≤ n->Only H->SqL (K w.params) H a (ns.map V.int)->sp w [.ref a] H (fun v _=>v = .bl true) fun _ _ _=>False)
    (hCX:∀ (w:World) (H:Hp) (s:Shared) (e:Value) (s':Shared),CX w [] H s (fun _ _ _=>False) e s'->False) :
    PySem.W.WalkO q loose XP YP l.row.toRowW d [] (fun f vs=>PySem.call f vs):=by
  refine Att.attach_call hn hdf fun w s₀ s₁ mg mb fa o pm cd doc a vs ns G Y ho hd hcd hmg hobj hints hlen hg=>?_
  have KX:=hY w _ Y
  obtain ⟨fd,hb,hF⟩:=F w mg fa _ KX G.T.g hmg
  exact law_call KX G.T.g G.T.b G.T.builtins G.T.nolimit hg hobj hints (Nat.le_trans hlen hn2) hr hF hb (fun H hO hS=>hsp w H a ns hlen hO hS) fun H e s'=>hCX w H s₁ e s'
end L2
/- THE LAST THEOREM (shape; LID,My.* are yours):
   My.Adr: a structure of the addresses that your layer names (classes,functions); My.Txt K t: a structure (Prop) of the equations over K;
   My.txt_mk:{K} {implicit addresses ..} (e1:nsIn K mainGlobals "law" = some (some (.ref f))) (e2:K.lookup f = some ⟨oc,od,.func (fnOf "law" "law" params body scope dV kV doc pm an cdv ct),sl⟩) (e3:codeIn K cdv "law" = true) ..:∃ t,My.Txt K t
set_option maxRecDepth 100000 in
set_option maxHeartbeats 0 in
theorem PySem.Challenge.cw_LID_holds : PySem.Challenge.rw_LID.Holds := by
  w_on; o_law; k_head; (case hw=>w_witness2)
  k_fill
  refine L2.walk_of (l:=PySem.Challenge.rw_LID) (n:=63) (k:=40) (x:="script") (CX:=fun w=>..) (sp:=fun _=>My.sp_law) rfl (by decide) rfl ⟨rfl,by decide,by decide⟩ (fun w h Y=>PySem.W.kIn_of Y) ?F ?S ?C
  case F =>
    intro w mg fa h KX G hmg
    have T:∃ t,My.Txt (L2.KOf KX) t:=by
      dsimp only [L2.KOf]                          -- K must stand as «<heap const> w.params» for k_is
      refine' My.txt_mk ?e1 ?e2 ?e3 ..
      (case e1=>PySem.W.k_is)                    -- in the order: a name -> its address -> its object -> its parts
      (case e2=>PySem.W.k_is)
      ..
    obtain ⟨t,T⟩:=T
    have e0:=hmg.symm.trans (PySem.W.mg_of KX G T.law)
    cases e0                                       -- fa is the law's own address
    exact ⟨_,fun s u=>.of_eq rfl,fun base kb nb=>My.law_fn T kb nb⟩     -- if «.of_eq rfl» comes too early: refine' ⟨_,?b,fun base kb nb=>My.law_fn T kb nb⟩; exact fun s u=>.of_eq rfl
  case S=>exact fun w H a ns hl hO hS=>..
  case C=>exact ..
(the tactic k_is has no namespace: write k_is) -/
namespace L2
open PySem PySem.Spec PyProof.Rows
def inClass (s:Stmt) (j:Nat):Stmt:=match s with
  | .ClassDef _ _ _ body _ _ _ _ _ _ _=>body.getD j (.Pass ⟨0,0,0,0⟩)
  | _=>.Pass ⟨0,0,0,0⟩
def defArgs (s:Stmt):Arguments:=match s with
  | .FunctionDef _ a _ _ _ _ _ _ _ _=>a
  | _=>{ posonlyargs:=[],args:=[],vararg:=none,kwonlyargs:=[],kw_defaults:=[],kwarg:=none,defaults:=[] }
def defBody (s:Stmt):List Stmt:=match s with
  | .FunctionDef _ _ b _ _ _ _ _ _ _=>b
  | _=>[]
def defScope (s:Stmt):Scope:=match s with
  | .FunctionDef _ _ _ _ _ _ sc _ _ _=>sc
  | _=>{ kind:=.function,names:=[],isGenerator:=false,isCoroutine:=false }
abbrev E0:XK:=fun _ _ _=>False
structure Fun (K:PySem.W.Frag) (x qual:Str) (st:Stmt) (f:Addr) (fd:FuncData):Prop where
  ex:∃ (oc:Value) (od:Option Addr) (kV doc pm:Value) (an:Option Addr) (cdv ct:Value) (osl:Array (Option Value)),
    fd = PySem.W.fnOf x qual (defArgs st) (defBody st) (defScope st) .none kV doc pm an cdv ct /\ K.lookup f = some ⟨oc,od,.func fd,osl⟩ /\ PySem.W.codeIn K cdv qual = true
  kp:PySem.W.keepIn K (.ref f) = true
section
variable {P:Program} {w:World} {K:PySem.W.Frag} {mg:Str->Option Value} {base:Heap}
theorem Fun.binds {x qual:Str} {st:Stmt} {f:Addr} {fd:FuncData} {ps:List Str} (F:Fun K x qual st f fd)
    (h:∀ (kV doc pm:Value) (an:Option Addr) (cdv ct:Value) (us:List Value),us.length = ps.length->bindArgs (PySem.W.fnOf x qual (defArgs st) (defBody st) (defScope st) .none kV doc pm an cdv ct) ⟨us,[]⟩ = pure (ps.zip us)):Binds K fd ps []:=by
  obtain ⟨oc,od,kV,doc,pm,an,cdv,ct,osl,rfl,lk,hcd⟩:=F.ex
  exact .all (h kV doc pm an cdv ct)
theorem fun_mk {x qual:Str} {st:Stmt} {f:Addr} {oc:Value} {od an:Option Addr} {osl:Array (Option Value)} {kV doc pm cdv ct:Value} (l:K.lookup f = some ⟨oc,od,.func (PySem.W.fnOf x qual (defArgs st) (defBody st) (defScope st) .none kV doc pm an cdv ct),osl⟩)
    (c:PySem.W.codeIn K cdv qual = true) (k:PySem.W.keepIn K (.ref f) = true):Fun K x qual st f (PySem.W.fnOf x qual (defArgs st) (defBody st) (defScope st) .none kV doc pm an cdv ct):=⟨⟨oc,od,kV,doc,pm,an,cdv,ct,osl,rfl,l,c⟩,k⟩
end
theorem small1000 {n:Nat} (h:n ≤ 1000):n < sizeLine:=Nat.lt_of_le_of_lt h (by decide)
section
variable {X:Cx}
theorem pv (i:Nat) {x:Str} {pos:Pos} (hN:X.N[i]? = some x:=by rfl) (hv:Vis X.env.scope x:=by first | exact Or.inl rfl | exact Or.inr (Or.inl rfl) | exact Or.inr (Or.inr rfl)) (hd:(x == ("__debug__":Str)) = false:=by decide)
    (hcd:(x == ("__classdict__":Str)) = false:=by decide):PE X (.Name x pos) (tVar i):=pe_var hN hv hd hcd
end
theorem iteF {A B:Prop} (h:B):if false = true then A else B:=by
  rw [if_neg Bool.false_ne_true]
  exact h
theorem iteT {A B:Prop} (h:A):if true = true then A else B:=by
  rw [if_pos rfl]
  exact h
theorem ite2 {c A B:Prop} [Decidable c] (h1:c->A) (h2:¬ c->B):if c then A else B:=by
  by_cases h:c
  · rw [if_pos h]
    exact h1 h
  · rw [if_neg h]
    exact h2 h
theorem iteNS {c A B:Prop} [Decidable c] (hc:c) (h:B):if (!decide c) = true then A else B:=by
  rw [decide_eq_true hc]
  exact iteF h
def Same (H H':Hp):Prop:=∀ b o,H b = some o->H' b = some o
theorem Same.refl (H:Hp):Same H H:=fun _ _ h=>h
theorem Same.trans {H H1 H2:Hp} (a:Same H H1) (b:Same H1 H2):Same H H2:=fun c o h=>b c o (a c o h)
theorem Same.free {H H':Hp} (e:Same H H') {l:Addr} (h:H' l = Option.none):H l = Option.none:=by
  cases q:H l with
  | none=>rfl
  | some o =>
    rw [e l o q] at h
    cases h
theorem Same.seq {K:PySem.W.Frag} {H H':Hp} {a:Addr} {xs:List V} (e:Same H H') (h:SqL K H a xs):SqL K H' a xs:=by
  rcases h with (h | ⟨o,h⟩) | h
  · exact .inl (.inl (e _ _ h))
  · exact .inl (.inr ⟨o,e _ _ h⟩)
  · exact .inr h
end L2
set_option maxHeartbeats 4000000
namespace L2
open PySem PySem.Spec PyProof.Rows
section
variable {κ:Type} [DecidableEq κ]
def valV (kvs:List (κ × V)) (k:κ):Option V:=(kvs.find? fun kv=>decide (kv.1 = k)).map (·.2)
theorem valV_pos {p:κ × V} {r:List (κ × V)} {k:κ} (e:p.1 = k):valV (p :: r) k = some p.2:=by simp [valV,List.find?_cons,e]
theorem valV_neg {p:κ × V} {r:List (κ × V)} {k:κ} (e:¬ p.1 = k):valV (p :: r) k = valV r k:=by simp [valV,List.find?_cons,e]
theorem RelO.isSome_eq {o:Option V} {u:Option Value} (r:RelO o u):o.isSome = u.isSome:=by
  cases o with
  | none=>cases u with
    | none=>rfl
    | some _=>exact (show False from r).elim
  | some _=>cases u with
    | none=>exact (show False from r).elim
    | some _=>rfl
theorem KV.val {kvs:List (κ × V)} {vs:List (κ × Value)} (r:KV kvs vs) (k:κ):RelO (valV kvs k) (valueAt vs k):=by
  unfold KV at r
  induction r with
  | nil=>exact True.intro
  | @cons p q ps qs h t ih =>
    obtain ⟨h1,h2⟩:=h
    by_cases e:p.1 = k
    · have e':q.1 = k:=h1.symm.trans e
      have b:valueAt (q :: qs) k = some q.2:=by simp [valueAt,List.find?_cons,e']
      rw [valV_pos e,b]; exact h2
    · have e':¬ q.1 = k:=fun z=>e (h1.trans z)
      have b:valueAt (q :: qs) k = valueAt qs k:=by simp [valueAt,List.find?_cons,e']
      rw [valV_neg e,b]; exact ih
end
theorem kV_is {P:Program} {w:World} {k:Key} {u:Value} (r:RelV (kV k) u):(mixKind P w).is k u = true:=by
  cases k with
  | inl i=>obtain ⟨t,e⟩:=(show ∃ t,u = Value.int i t from r); subst e; exact mixKind_int P w i t
  | inr x=>obtain ⟨t,e⟩:=(show ∃ t,u = Value.str x t from r); subst e; exact mixKind_str P w x t
def NoSl (i:Expr):Prop:=∀ ov iv,subscripted i false ov iv = operate [ov,iv] (getItem ov iv)
theorem subD_of {prog:Program} {w:World} {A:Around} {E:Value->Shared->Prop} {s:Shared} {env:Env} {value slice:Expr} {pos:Pos} {T id:String} {Q:Value->Shared->Prop}
    (hl:typeLookup (.type T) "__getitem__" = pure (some (.builtin id))) (hs:NoSl slice)
    (h:wpAny (model prog w) A (eval value env) (fun o s₁=>wpAny (model prog w) A (eval slice env) (fun i s₂=>s₂.TypeIs o T /\ wpAny (model prog w) A (getItem o i) Q E s₂) E s₁) E s) :
    wpAny (model prog w) A (eval (.Subscript value slice pos) env) Q E s:=by
  refine Subscript_ (wpAny_mono h (fun o s₁ h₁=>wpAny_mono h₁ (fun i s₂ h₂=>?_) fun _ _ x=>x) fun _ _ x=>x)
  obtain ⟨hT,h₂⟩:=h₂
  unfold subscriptTail
  refine wpAny_bind ?_
  rw [getitemInPython_of_ne hT.not_modules]
  refine wpAny_bind (wpAny_specialOf hT hl ?_)
  have fin:wpAny (model prog w) A (subscripted slice false o i) (fun r s₃=>wpAny (model prog w) A (letTemporaryGo value o r >>= fun _=>pure r) Q E s₃) E s₂:=by
    rw [hs o i]
    exact wpAny_operating (wpAny_mono h₂ (fun r s₃ h₃=>wpAny_bind (wpAny_letTemporaryGo (wpAny_pure h₃))) fun _ _ x=>x)
  first
    | exact wpAny_pure (wpAny_bind fin)
    | exact wpAny_bind (wpAny_pure (wpAny_bind fin))
    | exact wpAny_bind fin
end L2
namespace Chk
def T (n:Nat):Nat:=n * 128 % 2 ^ 64 + n / 2 ^ 57
theorem T_lt {n:Nat} (h:n < 2 ^ 64):T n < 2 ^ 64:=by
  unfold T; omega
def D (n:Nat):Nat:=if n * 2 ≥ 2 ^ 64 then n * 2 - 2 ^ 64 + 1 else n * 2
theorem xor_add:∀ a b:Nat,(a ^^^ b) + 2 * (a &&& b) = a + b:=by
  intro a
  induction a using Nat.strongRecOn with
  | ind a ih =>
    intro b
    by_cases ha:a = 0
    · subst ha; simp
    · have h:=ih (a / 2) (by omega) (b / 2)
      have e1:(a ^^^ b) / 2 = a / 2 ^^^ b / 2:=Nat.xor_div_two
      have e2:(a &&& b) / 2 = a / 2 &&& b / 2:=Nat.and_div_two
      have m0:(a ^^^ b) % 2 = (a % 2) ^^^ (b % 2):=by
        have:=Nat.xor_mod_two_pow (a:=a) (b:=b) (n:=1)
        simpa using this
      have m1:(a ^^^ b) % 2 = (a + b) % 2:=by
        rw [m0]
        rcases Nat.mod_two_eq_zero_or_one a with h1 | h1 <;> rcases Nat.mod_two_eq_zero_or_one b with h2 | h2 <;> rw [h1,h2,Nat.add_mod,h1,h2] <;> rfl
      have m2:(a &&& b) % 2 = (a % 2) &&& (b % 2):=by
        have:=Nat.and_mod_two_pow (a:=a) (b:=b) (n:=1)
        simpa using this
      have m3:(a % 2) &&& (b % 2) = if a % 2 = 1 /\ b % 2 = 1 then 1 else 0:=by
        rcases Nat.mod_two_eq_zero_or_one a with h1 | h1 <;> rcases Nat.mod_two_eq_zero_or_one b with h2 | h2 <;> rw [h1,h2] <;> rfl
      rw [m3] at m2
      rw [← e1,← e2] at h
      split at m2 <;> omega
def stp (c n:Nat):Nat:=T c ^^^ n
def chk (l:List Nat):Nat:=l.foldl stp 0
theorem stp_lt {c n:Nat} (hc:c < 2 ^ 64) (hn:n < 2 ^ 64):stp c n < 2 ^ 64:=Nat.xor_lt_two_pow (T_lt hc) hn
theorem fold_lt:∀ {l:List Nat} {c:Nat},c < 2 ^ 64->(∀ n ∈ l,n < 2 ^ 64)->l.foldl stp c < 2 ^ 64
  | [],_,hc,_=>hc
  | n :: r,c,hc,h=>fold_lt (l:=r) (stp_lt hc (h n List.mem_cons_self)) fun m hm=>h m (List.mem_cons_of_mem _ hm)
end Chk
namespace L2
open PySem PySem.Spec PyProof.Rows
section
variable {X:Cx}
theorem op_fdivB:OpR X (binaryOp .FloorDiv) (rI (fun _ j=>0 < j /\ j.natAbs.log2 < 9000) fun i j=>.int (i / j)):=opI fun i j _ _ _ _ _ hc q=>by
  have h1:(0:Int) < j:=hc.1
  exact floordiv_int (by omega) (by rw [Int.fdiv_eq_ediv_of_nonneg i (by omega)]; exact q) (.inl (PyProof.noPylong_of_log2 hc.2))
theorem pe_powc {a b n:Int} {j1 j2 p1 p2 pos} (h:0 ≤ b /\ b ≤ 1000000 /\ a.natAbs < 2 ^ 64:=by decide) (e:a ^ b.toNat = n:=by first | rfl | decide +kernel) :
    PE X (.BinOp (.Constant (.int a) j1 p1) .Pow (.Constant (.int b) j2 p2) pos) (tC (.int n)):=fun pins s σ H Q I hw =>
  pe_op op_pow pe_int pe_int pins s σ H Q I ⟨_,_,rfl,rfl,h,by subst e; exact hw⟩
def clsV:V->Option Value
  | .ty n=>some (.type n)
  | .ref a=>some (.ref a)
  | _=>none
theorem call_isinst:CallR X (.builtin "isinstance") (fun xs H Q=>∃ x c cv t b,xs = [x,c] /\ clsV c = some cv /\ TyOf X.K H x t /\ PySem.W.kitOne X.K t cv = some b /\ Q (.bl b) H):=by
  rintro pins s σ H xs us Q I r ⟨x,c,cv,t,b,rfl,hc,ty,e,q⟩
  obtain ⟨u,v,rfl,ru,rv⟩:=vals2 r
  have hv:v = cv:=by
    cases c <;> simp [clsV] at hc <;> subst hc <;> exact rv
  subst hv
  exact isinst_ok I ru ty e fun tk=>⟨.bl b,H,I.tok tk,rfl,q⟩
end
theorem iteY {c A B:Prop} [Decidable c] (hc:c) (h:A):if decide c = true then A else B:=by
  rw [if_pos (decide_eq_true hc)]; exact h
theorem iteN {c A B:Prop} [Decidable c] (hc:¬ c) (h:B):if decide c = true then A else B:=by
  rw [if_neg (by rw [decide_eq_false hc]; decide)]; exact h
open PySem
def clos (cells:List (Str × Addr)):List (Str × NameKind)->List (Str × Addr)->List (Str × Addr)
  | [],acc=>acc
  | (n,k) :: r,acc=>clos cells r (if k == .free then (n,(cells.lookup n).getD 0) :: acc else acc)
theorem clos_loop {env:Env}:∀ (l:List (Str × NameKind)) (acc:List (Str × Addr)),(∀ y ∈ l,y.2 = .free->∃ c,env.cells.lookup y.1 = some c) →
    (forIn l acc fun (x:Str × NameKind) (cs:List (Str × Addr))=>if (x.2 == NameKind.free) = true then do let a ← cellOf env x.1; pure (ForInStep.yield ((x.1,a) :: cs)) else pure (ForInStep.yield cs):Sem (List (Str × Addr))) = pure (clos env.cells l acc)
  | [],acc,_=>by simp only [List.forIn_nil]; rfl
  | (n,k) :: r,acc,h=>by
    simp only [List.forIn_cons]
    cases hk:(k == NameKind.free) with
    | false =>
      simp only [Bool.false_eq_true,if_false]
      have ih:=clos_loop (env:=env) r acc fun y hy=>h y (List.mem_cons_of_mem _ hy)
      simp only [pure_bind,ih,clos,hk,Bool.false_eq_true,if_false]
    | true =>
      obtain ⟨c,hc⟩:=h (n,k) List.mem_cons_self (by simpa using hk)
      have e:cellOf env n = pure c:=by
        unfold cellOf; rw [show env.cells.lookup n = some c from hc]
      simp only [if_true,e,pure_bind]
      have ih:=clos_loop (env:=env) r ((n,c) :: acc) fun y hy=>h y (List.mem_cons_of_mem _ hy)
      rw [ih]
      simp only [clos,hk,if_true]
      rw [show env.cells.lookup n = some c from hc]; rfl
theorem closureFor_eq {scope:Scope} {env:Env} (h:∀ y ∈ scope.names,y.2 = .free->∃ c,env.cells.lookup y.1 = some c):closureFor scope env = pure (clos env.cells scope.names []):=by
  have:=clos_loop (env:=env) scope.names [] h
  unfold closureFor
  simp only [bind_pure]
  exact this
theorem clos_sub {cells:List (Str × Addr)}:∀ {names:List (Str × NameKind)} {acc:List (Str × Addr)},(∀ y ∈ names,y.2 = .free->∃ c,cells.lookup y.1 = some c)->(∀ x c,acc.lookup x = some c->cells.lookup x = some c) →
    ∀ x c,(clos cells names acc).lookup x = some c->cells.lookup x = some c
  | [],_,_,ha,x,c,h=>ha x c h
  | (n,k) :: r,acc,hn,ha,x,c,h=>by
    refine clos_sub (names:=r) (fun y hy=>hn y (List.mem_cons_of_mem _ hy)) ?_ x c h
    intro x c h
    split at h
    · rename_i hk
      obtain ⟨d,hd⟩:=hn (n,k) List.mem_cons_self (by simpa using hk)
      rw [show cells.lookup n = some d from hd,List.lookup_cons] at h
      split at h
      · rename_i e
        rw [eq_of_beq e,show cells.lookup n = some d from hd]; exact h
      · exact ha x c h
    · exact ha x c h
theorem clos_has {cells:List (Str × Addr)}:∀ {names:List (Str × NameKind)} {acc:List (Str × Addr)} {x:Str},((x,NameKind.free) ∈ names ∨ ∃ c,acc.lookup x = some c)->∃ c,(clos cells names acc).lookup x = some c
  | [],acc,x,h=>by
    rcases h with h | h
    · cases h
    · exact h
  | (n,k) :: r,acc,x,h=>by
    refine clos_has (names:=r) ?_
    rcases h with h | ⟨c,h⟩
    · rcases List.mem_cons.mp h with h | h
      · injection h with h1 h2
        subst h1; subst h2
        exact .inr ⟨(cells.lookup x).getD 0,by simp [List.lookup_cons]⟩
      · exact .inl h
    · right
      split
      · rw [List.lookup_cons]
        split
        · exact ⟨_,rfl⟩
        · exact ⟨c,h⟩
      · exact ⟨c,h⟩
theorem mem_of_lookup {α:Type} {x:Str} {a:α}:∀ {l:List (Str × α)},l.lookup x = some a->(x,a) ∈ l
  | [],h=>by simp at h
  | (n,k) :: r,h=>by
    rw [List.lookup_cons] at h
    split at h
    · rename_i e
      injection h with h
      rw [eq_of_beq e,h]; exact List.mem_cons_self
    · exact List.mem_cons_of_mem _ (mem_of_lookup h)
theorem lookup_relabel {env:Env} {x:Str}:∀ (names:List (Str × NameKind)),
    (names.map fun (n,k)=>if (k == NameKind.free && env.scope.kind == .function && env.kindOf n == some .cell) then (n,NameKind.cell) else (n,k)).lookup x =
      (names.lookup x).map fun k=>if (k == NameKind.free && env.scope.kind == .function && env.kindOf x == some .cell) then NameKind.cell else k
  | []=>rfl
  | (n,k) :: r=>by
    have ih:=lookup_relabel (env:=env) (x:=x) r
    simp only [List.map_cons]
    by_cases e:x = n
    · subst e
      split <;> rename_i hc
      · simp only [List.lookup_cons,beq_self_eq_true,Option.map_some,hc,if_true]
      · simp only [List.lookup_cons,beq_self_eq_true,Option.map_some]
        rw [if_neg hc]
    · have e':(x == n) = false:=by simpa using e
      split <;> simp only [List.lookup_cons,e'] <;> exact ih
open PySem PySem.Spec PyProof.Rows
theorem anelt {a b n:Nat} (h1:a < n) (h2:n ≤ b):a ≠ b:=by omega
def Cx.comp (X:Cx) (scope:Scope) (N:List Str) (C:Addr) (s₀:Shared) (H₀:Hp) (ex:List Addr):Cx :=
  { X with N:=N,s₀:=s₀,H₀:=H₀,env:=compEnvC scope (clos X.env.cells scope.names []) C X.env,outer:=X.stack,stack:=X.stack,ex:=ex,fn:=fun _=>false,pn:=[] }
def st0 (k:Nat) (cap:List Nat) (σ:St):St:=List.replicate k none ++ cap.map fun j=>(σ[j]?).getD none
def compOk (XN:List Str) (fs sc:Scope) (N:List Str) (k:Nat) (cap:List Nat):Bool :=
  decide (sc.kind = .function) && sc.names.all (fun y=>decide (y.2 ≠ .cell)) && sc.names.all (fun y=>decide (y.2 ≠ .local) || decide (sc.names.lookup y.1 = some .local)) &&
  sc.names.all (fun y=>decide (y.2 ≠ .free) || decide (fs.names.lookup y.1 = some .cell)) && decide (N.length = k + cap.length) &&
  (cap.zip (N.drop k)).all (fun p=>decide (XN[p.1]? = some p.2) && decide (sc.names.lookup p.2 = some .free))
structure CompOk (XN:List Str) (fs sc:Scope) (N:List Str) (k:Nat) (cap:List Nat):Prop where
  kind:sc.kind = .function
  nocell:∀ y ∈ sc.names,y.2 ≠ .cell
  locs:∀ y ∈ sc.names,y.2 = .local->sc.names.lookup y.1 = some .local
  frees:∀ y ∈ sc.names,y.2 = .free->fs.names.lookup y.1 = some .cell
  len:N.length = k + cap.length
  caps:∀ p ∈ cap.zip (N.drop k),XN[p.1]? = some p.2 /\ sc.names.lookup p.2 = some .free
theorem CompOk.of {XN:List Str} {fs sc:Scope} {N:List Str} {k:Nat} {cap:List Nat} (h:compOk XN fs sc N k cap = true):CompOk XN fs sc N k cap:=by
  unfold compOk at h
  simp only [Bool.and_eq_true,List.all_eq_true,decide_eq_true_eq,Bool.or_eq_true] at h
  obtain ⟨⟨⟨⟨⟨h1,h2⟩,h3⟩,h4⟩,h5⟩,h6⟩:=h
  exact ⟨h1,h2,fun y hy e=>(h3 y hy).resolve_left fun z=>z e,fun y hy e=>(h4 y hy).resolve_left fun z=>z e,h5,h6⟩
section
variable {X:Cx} {pins:List (Addr × Obj)} {σ:St} {H:Hp} {s:Shared} {scope:Scope} {N:List Str} {k:Nat} {cap:List Nat} {fp:List Addr}
theorem Cx.comp_kind {x:Str} {C:Addr} {s₀:Shared} {H₀:Hp} {ex:List Addr} (hk:X.env.scope.kind = .function) :
    (X.comp scope N C s₀ H₀ ex).env.kindOf x = (scope.names.lookup x).map fun k=>if (k == NameKind.free && X.env.kindOf x == some .cell) then NameKind.cell else k:=by
  show (relabel scope X.env).names.lookup x = _
  unfold relabel
  rw [lookup_relabel]
  congr 1
  funext k
  rw [hk]; simp
theorem Inv.freeCells (I:Inv X pins σ H s) (c:CompOk X.N X.env.scope scope N k cap):∀ y ∈ scope.names,y.2 = .free->∃ d,X.env.cells.lookup y.1 = some d :=
  fun y hy e=>I.ok.has y.1 (.inl (c.frees y hy e))
theorem Inv.block (I:Inv X pins σ H s) (c:CompOk X.N X.env.scope scope N k cap) (hf:∀ b ∈ fp,FpOk X pins H b) (ho:∀ b ∈ fp,∃ o,s.heap.get? b = some o) {D C:Addr} {s1:Shared}
    (hD:s.heap.objs.size ≤ D) (hC:s.heap.objs.size ≤ C) (hDC:D ≠ C) (hos:s1.os = s.os) (hg:s1.gens = s.gens) (keep:∀ b o,s.heap.get? b = some o->s1.heap.get? b = some o)
    (hl:s1.heap.get? D = some { cls:=.type "list",data:=.seq #[] }) (hn:s1.heap.Ns C fun _=>none) :
    Inv (X.comp scope N C s H fp) [] (st0 k cap σ) (upd H D (.lst [])) s1:=by
  have hfc:=I.freeCells c
  have lt:∀ b ∈ fp,b < s.heap.objs.size:=fun b hb=>let ⟨o,e⟩:=ho b hb; Heap.lt_size e
  have clt:∀ x d,X.env.cells.lookup x = some d->d < s.heap.objs.size:=fun x d e=>let ⟨v,o,q,_⟩:=I.cell x d e; Heap.lt_size q
  have sub:=clos_sub (cells:=X.env.cells) (names:=scope.names) (acc:=[]) hfc (fun x c h=>by simp at h)
  have fresh:∀ a,s.heap.objs.size ≤ a->H a = none:=fun a h=>I.hok.fresh h
  have kindf:∀ x,((X.comp scope N C s H fp).env.kindOf x = some .cell ∨ (X.comp scope N C s H fp).env.kindOf x = some .free)->(x,NameKind.free) ∈ scope.names:=fun x h=>by
    rw [Cx.comp_kind I.ok.kind] at h
    cases e:scope.names.lookup x with
    | none=>rw [e] at h; simp at h
    | some kd =>
      have m:=mem_of_lookup e
      rw [e] at h
      cases kd with
      | free=>exact m
      | cell=>exact absurd rfl (c.nocell _ m)
      | «local»=>simp at h
      | globalExplicit=>simp at h
      | globalImplicit=>simp at h
  have ok:(X.comp scope N C s H fp).Ok :=
    { mod:=I.ok.mod
      kind:=c.kind
      glob:=I.ok.glob
      blt:=I.ok.blt
      above:=hC
      inj:=fun x y d hx hy=>I.ok.inj x y d (sub x d hx) (sub y d hy)
      has:=fun x h=>clos_has (.inl (kindf x h))
      cab:=fun x d h=>by cases h
      hd:=I.ok.hd
      frames:=I.ok.frames
      stk:=.inl rfl
      exf:=fun b hb=>⟨fun z=>anelt (lt b hb) hC z,fun x d hx=>(hf b hb).2.2.2.2.1 x d (sub x d hx)⟩
      bs:=I.bs
      bsz:=Nat.le_trans I.ok.bsz I.sz
      noex:=fun b o e hb=>by
        rcases (hf b hb).2.2.2.1 with h | h
        · exact I.ok.noex b o e h
        · exact absurd (Heap.lt_size (I.ok.bs b o e).1) (Nat.not_lt.mpr h)
      exfs:=fun b hb hm=>by
        rcases List.mem_cons.mp (I.stkSub b hm) with h | h
        · exact (hf b hb).2.1 h
        · exact (hf b hb).2.2.1 h
      funs:=I.stack
      frf:=I.stkFree }
  have nD:H D = none:=fresh D hD
  refine
    { ok:=ok
      os:=hos
      bare:=by rw [hg]; exact I.bare
      base:=Un.laid keep hD nD
      loc:=⟨_,hn,?_⟩
      cell:=fun x d h=>let ⟨v,q⟩:=I.cell x d (sub x d h); ⟨v,q.keeps keep⟩
      free:=by
        show upd H D _ C = none
        rw [upd_ne (Ne.symm hDC)]; exact fresh C hC
      freeC:=fun x d h=>by
        have h':=sub x d h
        rw [upd_ne (anelt (clt x d h') hD)]; exact I.freeC x d h'
      pin:=fun p hp=>by cases hp
      hok:=I.hok.laid keep hD ⟨Nat.zero_le _,[],0,.nil,hl⟩
      len:=by
        show (st0 k cap σ).length = N.length
        unfold st0; rw [List.length_append,List.length_replicate,List.length_map,c.len] }
  intro i x v hi hv _
  have hi:N[i]? = some x:=hi
  unfold st0 at hv
  by_cases hik:i < k
  · rw [List.getElem?_append_left (by rw [List.length_replicate]; exact hik),List.getElem?_replicate,if_pos hik] at hv
    cases hv
  · rw [List.getElem?_append_right (by rw [List.length_replicate]; omega),List.length_replicate,List.getElem?_map] at hv
    cases ej:cap[i - k]? with
    | none=>rw [ej] at hv; cases hv
    | some j =>
      rw [ej] at hv
      have hv:(σ[j]?).getD none = some v:=Option.some.inj hv
      have hσ:σ[j]? = some (some v):=by
        cases e:σ[j]? with
        | none=>rw [e] at hv; cases hv
        | some z=>rw [e] at hv; exact congrArg some hv
      have hm:(j,x) ∈ cap.zip (N.drop k):=by
        refine List.mem_iff_getElem?.mpr ⟨i - k,?_⟩
        rw [List.getElem?_zip_eq_some]
        refine ⟨ej,?_⟩
        rw [List.getElem?_drop,show k + (i - k) = i by omega]; exact hi
      obtain ⟨hX,hfree⟩:=c.caps _ hm
      have mf:=mem_of_lookup hfree
      have hcell:=c.frees _ mf rfl
      obtain ⟨m,_,q⟩:=I.loc
      obtain ⟨u,ru,lk⟩:=q j x v hX hσ (.inr (.inl hcell))
      refine ⟨u,ru,.inr ⟨.inl ?_,?_⟩⟩
      · rw [Cx.comp_kind I.ok.kind,hfree]
        have:(X.env.kindOf x == some NameKind.cell) = true:=by
          show (X.env.scope.names.lookup x == some NameKind.cell) = true
          rw [hcell]; rfl
        simp [this]
      · rcases lk with ⟨hloc,_⟩ | ⟨_,d,hd,hcv⟩
        · have hloc:X.env.scope.names.lookup x = some .local:=hloc
          rw [hcell] at hloc; cases hloc
        · obtain ⟨d',hd'⟩:=clos_has (cells:=X.env.cells) (acc:=[]) (.inl mf:(x,NameKind.free) ∈ scope.names ∨ _)
          have:=sub x d' hd'
          rw [hd] at this; cases this
          exact ⟨d,hd',hcv.keeps keep⟩
theorem Inv.unblock {H':Hp} {σ':St} {s1:Shared} {C:Addr} {ps:List (Addr × Obj)} (I:Inv X pins σ H s) (hf:∀ b ∈ fp,FpOk X pins H b) (J:Inv (X.comp scope N C s H fp) ps σ' H' s1):Inv X pins σ H' s1 :=
  I.call' (ch:=fp) J.os J.base J.hok J.bare fun b hb=>⟨(hf b hb).2.2.2.1,(hf b hb).2.1,(hf b hb).2.2.2.2.1,(hf b hb).2.2.2.2.2⟩
end
def tComp (k:Nat) (cap:List Nat) (wi:TI) (g:TG) (tt:TT) (te:TE):TE:=fun σ H Q=>wi σ H fun J H1=>∀ D,H1 D = none->∃ W:Nat->Nat->St->Hp->List V->Prop,
  (∃ m,W 0 m (st0 k cap σ) (upd H1 D (.lst [])) []) /\ ∀ i m σ' H' ys,W i m σ' H' ys->(J.stop i H' /\ Q (.ref D) H') ∨
    (J.go i H' /\ ∃ N:St->Hp->List V->Prop,(∀ σ' H' ys',N σ' H' ys'->∃ m',m' < m /\ W (i + 1) m' σ' H' ys') /\ ∀ x H2,J.yld i H' x H2->g x σ' H2 fun σ3 H3=>tt σ3 H3 fun b H4=>if b = true then
      te σ3 H4 fun y H5=>H5 D = some (.lst ys) /\ ys.length < sizeLine /\ N σ3 (upd H5 D (.lst (ys ++ [y]))) (ys ++ [y])
      else N σ3 H4 ys)
def tYes:TT:=fun _ H Q=>Q true H
def PTs (X:Cx) (ifs:List Expr) (t:TT):Prop :=
  ∀ (pins:List (Addr × Obj)) (s:Shared) (σ:St) (H:Hp) (Q:Bool->Hp->Prop),Inv X pins σ H s->t σ H Q →
    wpAny (model X.prog X.w) X.A (forIn ifs true fun c r=>if r = true then do let ok ← isTrue c X.env (eval c X.env); pure (ForInStep.yield ok) else pure (ForInStep.yield r)) (TP X pins σ Q) X.xe s
theorem pts_nil {X:Cx}:PTs X [] tYes:=fun _ _ _ H _ I h=>wpAny_tests_nil ⟨H,I,h⟩
theorem pts_one {X:Cx} {c:Expr} {t:TT} (h:PT X c t):PTs X [c] t:=fun pins s σ H Q I hw=>wpAny_tests_one (h pins s σ H Q I hw)
section
variable {prog:Program} {w:World} {A:Around} {R:Result->Shared->Prop} {s:Shared}
theorem codeAny_compLoop_go {elt target iter:Expr} {ifs:List Expr} {scope:Scope} {pos:Pos} {it acc:Value} {env:Env} (I:Nat->Shared->Prop)
    (turn:∀ n s,I n s->wpAny (model prog w) A (pyNext it) (fun r s₁=>match r with
      | none=>R (.ok .next) s₁
      | some v=>wpAny (model prog w) A (letOwnedTupleGo target it v) (fun _ s₀=>wpAny (model prog w) A (assign target env v) (fun _ s₂ =>
          wpAny (model prog w) A (forIn ifs true fun c r=>if r = true then do let ok ← isTrue c env (eval c env); pure (ForInStep.yield ok) else pure (ForInStep.yield r)) (fun ok s₃ =>
            if ok = true then wpAny (model prog w) A (eval elt env) (fun x s₄ =>
              wpAny (model prog w) A (call (.builtin "list.append") [acc,x]) (fun _ s₅=>∃ m,m < n /\ I m s₅) (notedBy (model prog w) A env fun e s'=>R (.error e) s') s₄) (notedBy (model prog w) A env fun e s'=>R (.error e) s') s₃
            else ∃ m,m < n /\ I m s₃) (notedBy (model prog w) A env fun e s'=>R (.error e) s') s₂) (notedBy (model prog w) A env fun e s'=>R (.error e) s') s₀) (notedBy (model prog w) A env fun e s'=>R (.error e) s') s₁) (notedBy (model prog w) A env fun e s'=>R (.error e) s') s)
    (n:Nat) (h:I n s) :
    codeAny (model prog w) A (.compLoop (.ListComp elt [⟨target,iter,ifs,0⟩] scope pos) 0 it acc env) R s:=by
  refine codeAny_loop rfl I (fun n s hI=>?_) n h
  show wpAny _ A ((compTurn (.ListComp elt [⟨target,iter,ifs,0⟩] scope pos) 0 it acc env).onRaise (fun x=>do noteFrame x env; theTreesLotGoes x)) _ _ s
  refine wpAny_noted ?_
  rw [compTurn_list]
  refine wpAny_bind (wpAny_standAt (wpAny_bind (wpAny_mono (turn n s hI) (fun r s₁ h₁=>?_) fun _ _ h'=>h')))
  cases r with
  | none=>exact wpAny_pure h₁
  | some v =>
    refine wpAny_bind (wpAny_mono h₁ (fun _ s₀ h₀=>?_) fun _ _ h'=>h')
    refine wpAny_bind (wpAny_mono h₀ (fun _ s₂ h₂=>wpAny_bind (wpAny_mono h₂ (fun ok s₃ h₃=>?_) fun _ _ h'=>h')) fun _ _ h'=>h')
    cases ok with
    | false=>exact wpAny_pure ⟨rfl,h₃⟩
    | true =>
      exact wpAny_bind (wpAny_bind (wpAny_mono h₃ (fun x s₄ h₄=>wpAny_bind (wpAny_mono h₄ (fun _ s₅ h₅=>wpAny_pure (wpAny_pure ⟨rfl,h₅⟩)) fun _ _ h'=>h')) fun _ _ h'=>h'))
end
section
variable {X:Cx} {scope:Scope} {N:List Str} {k:Nat} {cap:List Nat} {tg iter elt:Expr} {ifs:List Expr} {wi:TI} {g:TG} {tt:TT} {te:TE} {pos:Pos}
theorem comp_loop {E:Value->Shared->Prop} {use:Option (Value->Sem Unit)} {QQ:Value->Shared->Prop} {pins:List (Addr × Obj)} {s:Shared} {σ:St} {H:Hp} {it:Addr} {fp:List Addr} {tn:Nat->Heap->Prop} {J:It} {Q:VK}
    (hc:X.calm = true) (c:CompOk X.N X.env.scope scope N k cap)
    (hg:∀ C s₀ H₀ ex,PG (X.comp scope N C s₀ H₀ ex).nox tg g) (ht:∀ C s₀ H₀ ex,PTs (X.comp scope N C s₀ H₀ ex).nox ifs tt) (he:∀ C s₀ H₀ ex,PE (X.comp scope N C s₀ H₀ ex).nox elt te)
    (I:Inv X pins σ H s) (T:Turn X.prog X.w X.K tg J fp it tn) (st:tn 0 s.heap) (hf:∀ b ∈ fp,FpOk X pins H b)
    (h:∀ D,H D = none->∃ W:Nat->Nat->St->Hp->List V->Prop,(∃ m,W 0 m (st0 k cap σ) (upd H D (.lst [])) []) /\ ∀ i m σ' H' ys,W i m σ' H' ys->(J.stop i H' /\ Q (.ref D) H') ∨
      (J.go i H' /\ ∃ N:St->Hp->List V->Prop,(∀ σ' H' ys',N σ' H' ys'->∃ m',m' < m /\ W (i + 1) m' σ' H' ys') /\ ∀ x H2,J.yld i H' x H2->g x σ' H2 fun σ3 H3=>tt σ3 H3 fun b H4=>if b = true then
        te σ3 H4 fun y H5=>H5 D = some (.lst ys) /\ ys.length < sizeLine /\ N σ3 (upd H5 D (.lst (ys ++ [y]))) (ys ++ [y])
        else N σ3 H4 ys))
    (hQ:∀ D C s1 H',Inv X pins σ H' s1->Q (.ref D) H'->(∃ m,s1.heap.Ns C m)->H' C = none->X.s₀.heap.objs.size ≤ C->C ≠ X.env.locals->(∀ x c,X.env.cells.lookup x = some c->c ≠ C)->(∀ p ∈ X.pn ++ pins,p.1 ≠ C) →
      compPost (model X.prog X.w) X.A E use QQ (.ref D) C (.ok .next) s1) :
    wpAny (model X.prog X.w) X.A (newList []) (fun acc s₃=>wpAny (model X.prog X.w) X.A (newFunctionEnv scope X.env.globals (clos X.env.cells scope.names []) [] X.env.qual none .none (some X.env)) (fun cenv s₄ =>
      codeAny (model X.prog X.w) X.A (.compStart (.ListComp elt [⟨tg,iter,ifs,0⟩] scope pos) 0 (.ref it) acc { cenv with scope:=relabel scope X.env }) (compPost (model X.prog X.w) X.A E use QQ acc cenv.locals) s₄) E s₃) E s:=by
  refine wpAny_newObj_type (wpAny_newFunctionEnv c.nocell (by intro y hy; simp at hy) (fun h₁ hns₁ hsb₁=>?_) c.kind)
  dsimp only at hns₁ hsb₁ ⊢
  generalize hH2:s.heap.push { cls:=.type "list",dict:=none,data:=.seq ([]:List Value).toArray } = H2 at hns₁ hsb₁ ⊢
  have hC:H2.objs.size = s.heap.objs.size + 1:=by rw [← hH2,Heap.size_push]
  have hDC:s.heap.objs.size ≠ H2.objs.size:=by rw [hC]; exact Nat.ne_of_lt (Nat.lt_succ_self _)
  have hle:s.heap.objs.size ≤ H2.objs.size:=by rw [hC]; exact Nat.le_succ _
  have keep:∀ b o,s.heap.get? b = some o->h₁.get? b = some o:=fun b o e=>by
    exact hsb₁.extBut b o (anelt (Heap.lt_size e) hle) (Heap.get?_push_of_some _ (hH2 ▸ Heap.get?_push_of_some _ e))
  have hl:h₁.get? s.heap.objs.size = some { cls:=.type "list",data:=.seq #[] }:=hsb₁.extBut _ _ hDC (Heap.get?_push_of_some _ (hH2 ▸ Heap.get?_push_size _ rfl))
  have nD:H s.heap.objs.size = none:=I.hok.fresh (Nat.le_refl _)
  obtain ⟨W,⟨m0,w0⟩,turn⟩:=h _ nD
  have ho:∀ b ∈ fp,∃ o,s.heap.get? b = some o:=fun b hb=>let ⟨o,e,_⟩:=T.obj _ _ st b hb; ⟨o,e⟩
  have hCs:X.s₀.heap.objs.size ≤ H2.objs.size:=Nat.le_trans I.sz hle
  have hCl:H2.objs.size ≠ X.env.locals:=(anelt I.lt hle).symm
  have hCc:∀ x d,X.env.cells.lookup x = some d->d ≠ H2.objs.size:=fun x d e=>by
    obtain ⟨v,o,q,_⟩:=I.cell x d e
    exact anelt (Heap.lt_size q) hle
  have hCp:∀ p ∈ X.pn ++ pins,p.1 ≠ H2.objs.size:=fun p hp=>by
    exact anelt (Heap.lt_size (I.pin p hp).1) hle
  have loop:∀ s₃:Shared,s₃ = { s with heap:=h₁,toks:=s.toks + ([]:List (Str × Value)).length } →
      codeAny (model X.prog X.w) X.A (.compLoop (.ListComp elt [⟨tg,iter,ifs,0⟩] scope pos) 0 (.ref it) (.ref s.heap.objs.size) (compEnvC scope (clos X.env.cells scope.names []) H2.objs.size X.env))
        (compPost (model X.prog X.w) X.A E use QQ (.ref s.heap.objs.size) H2.objs.size) s₃:=by
    rintro s₃ rfl
    have I0:Inv (X.comp scope N H2.objs.size s H fp) [] (st0 k cap σ) (upd H s.heap.objs.size (.lst [])) { s with heap:=h₁,toks:=s.toks + ([]:List (Str × Value)).length } :=
      I.block c hf ho (Nat.le_refl _) hle hDC rfl rfl keep hl (by simpa using hns₁)
    have stat:∀ {H':Hp} {ps:List (Addr × Obj)},(∀ b ∈ fp,H' b = none)->ps = []->∀ b ∈ fp,FpOk (X.comp scope N H2.objs.size s H fp).nox ps H' b:=fun hn hp b hb=>by
      subst hp
      exact ⟨hn b hb,(I0.ok.exf b hb).1,I0.ok.exfs b hb,.inl hb,(I0.ok.exf b hb).2,fun p hp=>by cases hp⟩
    have nok:∀ b ∈ fp,upd H s.heap.objs.size (.lst []) b = none:=fun b hb=>by
      obtain ⟨o,e⟩:=ho b hb
      rw [upd_ne (anelt (Heap.lt_size e) (Nat.le_refl _))]; exact (hf b hb).1
    refine codeAny_compLoop_go (fun n s'=>∃ i σ' H' ys,Inv (X.comp scope N H2.objs.size s H fp).nox [] σ' H' s' /\ tn i s'.heap /\ (∀ b ∈ fp,H' b = none) /\ W i n σ' H' ys) ?_ m0
      ⟨0,_,_,[],I0.wish _,T.keep _ _ _ st fun b _ o e=>keep b o e,nok,w0⟩
    rintro n s' ⟨i,σ',H',ys,I',st',fr',w'⟩
    rcases turn i n σ' H' ys w' with ⟨stop,q⟩ | ⟨go,NN,hNN,step⟩
    · refine wpAny_mono (T.done (X.comp scope N H2.objs.size s H fp).nox rfl rfl rfl hc i [] s' σ' H' (fun _ _=>False) I' (stat fr' rfl) st' stop) (fun r s4 ⟨hr,I4⟩=>?_) (fun _ _ x=>x.elim)
      subst hr
      exact hQ _ _ s4 H' (I.unblock hf I4.unwish) q (let ⟨m,hn,_⟩:=I4.loc; ⟨m,hn⟩) I4.free hCs hCl hCc hCp
    · refine wpAny_mono (T.item (X.comp scope N H2.objs.size s H fp).nox rfl rfl rfl hc i [] s' σ' H' (fun _ _=>False) I' (stat fr' rfl) st' go) (fun r s4 ⟨u,hr,h4⟩=>?_) (fun _ _ x=>x.elim)
      subst hr
      refine wpAny_mono h4 (fun _ s5 ⟨x,H5,I5,r5,y5,st5,fr5⟩=>?_) (fun _ _ x=>x.elim)
      have I5':=I5.pinned (stat fr5 rfl) (T.obj _ _ st5)
      refine wpAny_mono (hg _ _ _ _ _ s5 σ' H5 x u _ I5' r5 (step x H5 y5)) (fun _ s6 ⟨σ6,H6,I6,q6⟩=>?_) (fun _ _ x=>x.elim)
      refine wpAny_mono (ht _ _ _ _ _ s6 σ6 H6 _ I6 q6) (fun ok s7 ⟨H7,I7,q7⟩=>?_) (fun _ _ x=>x.elim)
      have again:∀ {H8:Hp} {s8:Shared} {ys8:List V},Inv (X.comp scope N H2.objs.size s H fp).nox ([] ++ pinsAt fp s5.heap) σ6 H8 s8->NN σ6 H8 ys8 →
          ∃ m,m < n /\ ∃ i σ' H' ys,Inv (X.comp scope N H2.objs.size s H fp).nox [] σ' H' s8 /\ tn i s8.heap /\ (∀ b ∈ fp,H' b = none) /\ W i m σ' H' ys:=fun {H8 s8 ys8} I8 n8=>by
        obtain ⟨m',hm,w8⟩:=hNN _ _ _ n8
        refine ⟨m',hm,i + 1,σ6,H8,ys8,I8.unpinned,T.keep _ _ _ st5 fun b hb o e=>(I8.pin (b,o) (List.mem_append_right _ (List.mem_append_right _ (mem_pinsAt hb e)))).1,fun b hb=>?_,w8⟩
        obtain ⟨o,e,d⟩:=T.obj _ _ st5 b hb
        exact (I8.pin (b,o) (List.mem_append_right _ (List.mem_append_right _ (mem_pinsAt hb e)))).2.1
      cases ok with
      | false=>exact again I7 q7
      | true =>
        refine wpAny_mono (he _ _ _ _ _ s7 σ6 H7 _ I7 q7) (fun y s8 ⟨v,H8,I8,rv,hD,hlen,w8⟩=>?_) (fun _ _ x=>x.elim)
        refine wpAny_mono (mt_append (X:=(X.comp scope N H2.objs.size s H fp).nox) _ s8 σ6 H8 (.ref s.heap.objs.size) [v] (.ref s.heap.objs.size) [y] (fun _ H9=>H9 = upd H8 s.heap.objs.size (.lst (ys ++ [v]))) I8 rfl (.cons rv .nil) ⟨_,ys,v,rfl,rfl,hD,hlen,rfl⟩) (fun _ s9 ⟨_,H9,I9,_,e9⟩=>?_) (fun _ _ x=>x.elim)
        subst e9
        exact again I9 w8
  exact codeAny_compStart_list (loop _ rfl) (T.self _ 0 _ _ _ (T.keep _ _ _ st fun b _ o e=>keep b o e) (loop _ rfl))
theorem pe_comp (hc:X.calm = true) (hco:compOk X.N X.env.scope scope N k cap = true) (hi:PI X tg iter wi)
    (hg:∀ C s₀ H₀ ex,PG (X.comp scope N C s₀ H₀ ex).nox tg g) (ht:∀ C s₀ H₀ ex,PTs (X.comp scope N C s₀ H₀ ex).nox ifs tt) (he:∀ C s₀ H₀ ex,PE (X.comp scope N C s₀ H₀ ex).nox elt te)
    (hs:∀ x,foldedSetIterable iter X.env x = pure x:=by intro _; rfl):PE X (.ListComp elt [⟨tg,iter,ifs,0⟩] scope pos) (tComp k cap wi g tt te):=by
  intro pins s σ H Q I h
  have c:=CompOk.of hco
  rw [eval_ListComp]
  refine wpAny_comprehension_free (use:=none) (cl:=clos X.env.cells scope.names []) rfl hs (closureFor_eq (I.freeCells c)) c.kind c.locs (thn (hi pins s σ H _ I h) fun xv s₁ h₁=>thn h₁ fun itv s₂ h₂=>?_)
  obtain ⟨it,fp,tn,J,H2,e,I2,T,st,hf,q⟩:=h₂
  subst e
  exact comp_loop (use:=none) hc c hg ht he I2 T st hf q fun D C s1 H' I1 q1 ⟨m,hn⟩ hCn hCs hCl hCc hCp =>
    ⟨m,hn,fun h' hs'=>⟨.ref D,H',I1.turned (t':=s1.toks) (fun b o hb e=>hs'.extBut b o hb e) hCn hCl (.inr hCs) hCc hCp,rfl,q1⟩⟩
theorem ps_setComp {i:Nat} {x:Str} {pos' spos:Pos} (hN:X.N.Nodup) (hi':X.N[i]? = some x) (hx:Loc X.env.scope x) (hc:X.calm = true) (hco:compOk X.N X.env.scope scope N k cap = true) (hi:PI X tg iter wi)
    (hg:∀ C s₀ H₀ ex,PG (X.comp scope N C s₀ H₀ ex).nox tg g) (ht:∀ C s₀ H₀ ex,PTs (X.comp scope N C s₀ H₀ ex).nox ifs tt) (he:∀ C s₀ H₀ ex,PE (X.comp scope N C s₀ H₀ ex).nox elt te)
    (hsw:swapsWith (.ListComp elt [⟨tg,iter,ifs,0⟩] scope pos) (some (.Name x pos')) spos.line X.env = pure true:=by rfl)
    (hs:∀ x,foldedSetIterable iter X.env x = pure x:=by intro _; rfl) (hf':X.fn x = true ∨ X.env.scope.names.lookup x = some .local:=by first | exact .inl rfl | exact .inr rfl | assumption) :
    PS X (.Assign [.Name x pos'] (.ListComp elt [⟨tg,iter,ifs,0⟩] scope pos) spos) (tAsg (tComp k cap wi g tt te) (gName i)):=by
  intro pins s σ H D I h
  have c:=CompOk.of hco
  rw [exec_Assign_Name_used _ _ _ _ hsw]
  refine wpAny_bind (wpAny_standAt (wpAny_bind ?_))
  show wpAny _ X.A (do let _ ← comprehension (.ListComp elt [⟨tg,iter,ifs,0⟩] scope pos) scope X.env _ (newList []) false (eval iter X.env) (some (assign (.Name x pos') X.env))) _ _ s
  refine wpAny_bind (wpAny_mono (wpAny_comprehension_free (use:=some (assign (.Name x pos') X.env)) (Q:=fun _ s'=>SP X pins D .next s') (cl:=clos X.env.cells scope.names []) rfl hs (closureFor_eq (I.freeCells c)) c.kind c.locs
    (thn (hi pins s σ H _ I h) fun xv s₁ h₁=>thn h₁ fun itv s₂ h₂=>?_)) (fun _ s' hq=>wpAny_pure (wpAny_pure hq)) fun _ _ e=>e)
  obtain ⟨it,fp,tn,J,H2,e,I2,T,st,hf,q⟩:=h₂
  subst e
  refine comp_loop (use:=some (assign (.Name x pos') X.env)) (Q:=fun v H1=>gName i v σ H1 D.nx) hc c hg ht he I2 T st hf q fun L C s1 H' I1 q1 ⟨m,hn⟩ hCn hCs hCl hCc hCp=>?_
  show wpAny _ X.A (assign (.Name x pos') X.env (.ref L)) _ _ s1
  refine wpAny_assign_Name (store_ok2 (v:=.ref L) I1 hN hi' hx rfl (fun s2 I3 ⟨a,sb,ha⟩=>⟨m,?_,fun h' hs'=>?_⟩) hf')
  · refine hn.sameBut sb ?_
    rcases ha with z | z
    · rw [z]; exact hCl
    · exact (hCc _ _ z).symm
  · exact ⟨_,H',I3.turned (t':=s2.toks) (fun b o hb e=>hs'.extBut b o hb e) hCn hCl (.inr hCs) hCc hCp,q1⟩
end
theorem comp_list {K:PySem.W.Frag} {a:Addr} (D:Addr) {xs:List V} {g:TG} {tt:TT} {te:TE} {σ:St} {H:Hp} {R:Hp->Prop} (Pv:Nat->St->Hp->List V->Prop) (h0:Pv 0 σ H []) (hl:∀ i σ H ys,i ≤ xs.length->Pv i σ H ys->SqL K H a xs)
    (hs:∀ i x σ H ys,xs[i]? = some x->Pv i σ H ys->g x σ H fun σ3 H3=>tt σ3 H3 fun b H4=>if b = true then
      te σ3 H4 fun y H5=>H5 D = some (.lst ys) /\ ys.length < sizeLine /\ Pv (i + 1) σ3 (upd H5 D (.lst (ys ++ [y]))) (ys ++ [y]) else Pv (i + 1) σ3 H4 ys) (hd:∀ σ H ys,Pv xs.length σ H ys->R H) :
    ∃ W:Nat->Nat->St->Hp->List V->Prop,(∃ m,W 0 m σ H []) /\ ∀ i m σ' H' ys,W i m σ' H' ys->((Itl K a).stop i H' /\ R H') ∨
      ((Itl K a).go i H' /\ ∃ N:St->Hp->List V->Prop,(∀ σ' H' ys',N σ' H' ys'->∃ m',m' < m /\ W (i + 1) m' σ' H' ys') /\ ∀ x H2,(Itl K a).yld i H' x H2->g x σ' H2 fun σ3 H3=>tt σ3 H3 fun b H4=>if b = true then
        te σ3 H4 fun y H5=>H5 D = some (.lst ys) /\ ys.length < sizeLine /\ N σ3 (upd H5 D (.lst (ys ++ [y]))) (ys ++ [y])
        else N σ3 H4 ys):=by
  refine ⟨fun i m σ H ys=>m = xs.length - i /\ i ≤ xs.length /\ Pv i σ H ys,⟨xs.length,by simp,Nat.zero_le _,h0⟩,?_⟩
  rintro i m σ H ys ⟨rfl,hi,p⟩
  have q:=hl i σ H ys hi p
  by_cases hlt:i < xs.length
  · refine .inr ⟨⟨xs,xs[i],q,by simp [hlt]⟩,Pv (i + 1),fun σ' H' ys' p'=>⟨xs.length - (i + 1),by omega,rfl,hlt,p'⟩,fun x H' y=>?_⟩
    obtain ⟨e,y⟩:=y
    subst e
    exact hs i x σ _ ys (y xs q) p
  · have e:i = xs.length:=by omega
    subst e
    exact .inl ⟨⟨xs,q,Nat.le_refl _⟩,hd σ H ys p⟩
theorem comp_range {lo:Int} {n:Nat} (D:Addr) {g:TG} {tt:TT} {te:TE} {σ:St} {H:Hp} {R:Hp->Prop} (Pv:Nat->St->Hp->List V->Prop) (h0:Pv 0 σ H [])
    (hs:∀ i σ H ys,i < n->Pv i σ H ys->g (.int (lo + i)) σ H fun σ3 H3=>tt σ3 H3 fun b H4=>if b = true then
      te σ3 H4 fun y H5=>H5 D = some (.lst ys) /\ ys.length < sizeLine /\ Pv (i + 1) σ3 (upd H5 D (.lst (ys ++ [y]))) (ys ++ [y]) else Pv (i + 1) σ3 H4 ys) (hd:∀ σ H ys,Pv n σ H ys->R H) :
    ∃ W:Nat->Nat->St->Hp->List V->Prop,(∃ m,W 0 m σ H []) /\ ∀ i m σ' H' ys,W i m σ' H' ys->((Itr lo n).stop i H' /\ R H') ∨
      ((Itr lo n).go i H' /\ ∃ N:St->Hp->List V->Prop,(∀ σ' H' ys',N σ' H' ys'->∃ m',m' < m /\ W (i + 1) m' σ' H' ys') /\ ∀ x H2,(Itr lo n).yld i H' x H2->g x σ' H2 fun σ3 H3=>tt σ3 H3 fun b H4=>if b = true then
        te σ3 H4 fun y H5=>H5 D = some (.lst ys) /\ ys.length < sizeLine /\ N σ3 (upd H5 D (.lst (ys ++ [y]))) (ys ++ [y])
        else N σ3 H4 ys):=by
  refine ⟨fun i m σ H ys=>m = n - i /\ i ≤ n /\ Pv i σ H ys,⟨n,by simp,Nat.zero_le _,h0⟩,?_⟩
  rintro i m σ H ys ⟨rfl,hi,p⟩
  by_cases hlt:i < n
  · refine .inr ⟨hlt,Pv (i + 1),fun σ' H' ys' p'=>⟨n - (i + 1),by omega,rfl,hlt,p'⟩,fun x H' y=>?_⟩
    obtain ⟨e,y⟩:=y
    subst e y
    exact hs i σ _ ys hlt p
  · have e:i = n:=by omega
    subst e
    exact .inl ⟨Nat.le_refl _,hd σ H ys p⟩
section
variable {X:Cx} {K:PySem.W.Frag}
theorem pg_tupK {es:List Expr} {k:Nat} {t:TGs} {n:Nat} {pos:Pos} (hK:X.K = K) (hc:X.calm = true) (h:PGs X es t) (hn:(assignEach es X.env).length = n:=by rfl) (hst:(assignEach es X.env).findIdx? (·.1) = none:=by rfl) :
    PG X (.Tuple es k pos) (gTup K n t):=by subst hK; exact pg_tup hc h hn hst
theorem ix_listK (hK:X.K = K):IxR X (rIxL K):=by subst hK; exact ix_list
end
open PySem PySem.Spec PyProof.Rows
theorem Same.new {H:Hp} {p:Addr} {o:HO} (h:H p = none):Same H (upd H p o):=fun b u e=>by rw [upd_ne (ne_of_none e h)]; exact e
open PySem PySem.Spec PyProof.Rows PySem.SeqAt
def SeqEq (K:PySem.W.Frag) (H:Hp) (R:V->V->Bool->Prop) (x y:V) (b:Bool):Prop :=
  ∃ (a c:Addr) (xs ys:List V) (e:Nat->Bool),x = .ref a /\ y = .ref c ∧
    ((SqL K H a xs /\ SqL K H c ys /\ xs.length = ys.length /\ (∀ (j:Nat) x' y',xs[j]? = some x'->ys[j]? = some y'->R x' y' (e j)) /\ b = (List.range xs.length).all e) ∨
     (SqL K H a xs /\ SqL K H c ys /\ xs.length ≠ ys.length /\ b = false) ∨
     (SqT K H a xs /\ SqT K H c ys /\ (∀ (j:Nat) x' y',xs[j]? = some x'->ys[j]? = some y'->R x' y' (e j)) /\ b = ((List.range (min xs.length ys.length)).all e && xs.length == ys.length)))
def EqI (K:PySem.W.Frag) (H:Hp):Nat->V->V->Bool->Prop
  | 0=>fun x y b=>(flatV x = true /\ flatV y = true /\ b = eqV x y) ∨ ∃ a,x = .ref a /\ y = .ref a /\ b = true
  | n + 1=>fun x y b=>EqI K H n x y b ∨ (x ≠ y /\ SeqEq K H (EqI K H n) x y b)
section
variable {X:Cx} {pins:List (Addr × Obj)} {σ:St} {H:Hp} {s:Shared} {A:Around}
theorem items_at {xs ys:List V} {us vs:List Value} {R:V->V->Bool->Prop} {e:Nat->Bool} (r:Vals xs us) (q:Vals ys vs) (he:∀ (j:Nat) x' y',xs[j]? = some x'->ys[j]? = some y'->R x' y' (e j))
    (hR:∀ x y b u v,R x y b->RelV x u->RelV y v->EqAt A s u v b):∀ j (h1:j < us.toArray.size) (h2:j < vs.toArray.size),EqAt A s us.toArray[j] vs.toArray[j] (e j):=fun j h1 h2=>by
  have h1':j < us.length:=by simpa using h1
  have h2':j < vs.length:=by simpa using h2
  have l1:=r.length
  have l2:=q.length
  have ex:xs[j]? = some (xs[j]'(by omega)):=List.getElem?_eq_getElem (by omega)
  have ey:ys[j]? = some (ys[j]'(by omega)):=List.getElem?_eq_getElem (by omega)
  obtain ⟨u,eu,ru⟩:=Vals.get r ex
  obtain ⟨v,ev,rv⟩:=Vals.get q ey
  have e1:us.toArray[j] = u:=by
    have:=(List.getElem?_eq_some_iff.mp eu).2
    simpa using this
  have e2:vs.toArray[j] = v:=by
    have:=(List.getElem?_eq_some_iff.mp ev).2
    simpa using this
  rw [e1,e2]
  exact hR _ _ _ _ _ (he j _ _ ex ey) ru rv
theorem SeqEq.rc {R:V->V->Bool->Prop} {x y:V} {b:Bool} {u v:Value} (I:Inv X pins σ H s) (hR:∀ x y b u v,R x y b->RelV x u->RelV y v->EqAt A.in1 s u v b) (hu:A.units < cLine)
    (h:SeqEq X.K H R x y b) (rx:RelV x u) (ry:RelV y v):RcAt A s u v b:=by
  obtain ⟨a,c,xs,ys,e,rfl,rfl,h⟩:=h
  cases rx
  cases ry
  rcases h with ⟨h1,h2,hl,he,rfl⟩ | ⟨h1,h2,hl,rfl⟩ | ⟨h1,h2,he,rfl⟩
  · obtain ⟨us,r,p,_⟩:=I.list h1
    obtain ⟨vs,q,p2,_⟩:=I.list h2
    have l1:=r.length
    have l2:=q.length
    have z:=RcAt.lists (A:=A) (e:=e) p.isList p2.isList (by simp; omega) hu (items_at r q he hR)
    rw [show us.toArray.size = xs.length by simp; omega] at z
    exact z
  · obtain ⟨us,r,p,_⟩:=I.list h1
    obtain ⟨vs,q,p2,_⟩:=I.list h2
    have l1:=r.length
    have l2:=q.length
    exact RcAt.lists_lengths p.isList p2.isList (by simp; omega) hu
  · obtain ⟨us,r,p,_⟩:=I.tuple h1
    obtain ⟨vs,q,p2,_⟩:=I.tuple h2
    have l1:=r.length
    have l2:=q.length
    have z:=RcAt.tuples (A:=A) (e:=e) (show s.heap.IsTuple a us.toArray from p) (show s.heap.IsTuple c vs.toArray from p2) hu (items_at r q he hR)
    rw [show us.toArray.size = xs.length by simp; omega,show vs.toArray.size = ys.length by simp; omega] at z
    exact z
theorem SeqEq.rcNe {R:V->V->Bool->Prop} {x y:V} {b:Bool} {u v:Value} (I:Inv X pins σ H s) (hR:∀ x y b u v,R x y b->RelV x u->RelV y v->EqAt A.in1 s u v b) (hu:A.units < cLine)
    (h:SeqEq X.K H R x y b) (rx:RelV x u) (ry:RelV y v):RcNeAt A s u v (!b):=by
  obtain ⟨a,c,xs,ys,e,rfl,rfl,h⟩:=h
  cases rx
  cases ry
  rcases h with ⟨h1,h2,hl,he,rfl⟩ | ⟨h1,h2,hl,rfl⟩ | ⟨h1,h2,he,rfl⟩
  · obtain ⟨us,r,p,_⟩:=I.list h1
    obtain ⟨vs,q,p2,_⟩:=I.list h2
    have l1:=r.length
    have l2:=q.length
    have z:=RcNeAt.lists (A:=A) (e:=e) p.isList p2.isList (by simp; omega) hu (items_at r q he hR)
    rw [show us.toArray.size = xs.length by simp; omega] at z
    exact z
  · obtain ⟨us,r,p,_⟩:=I.list h1
    obtain ⟨vs,q,p2,_⟩:=I.list h2
    have l1:=r.length
    have l2:=q.length
    exact RcNeAt.lists_lengths p.isList p2.isList (by simp; omega) hu
  · obtain ⟨us,r,p,_⟩:=I.tuple h1
    obtain ⟨vs,q,p2,_⟩:=I.tuple h2
    have l1:=r.length
    have l2:=q.length
    have z:=RcNeAt.tuples (A:=A) (e:=e) (show s.heap.IsTuple a us.toArray from p) (show s.heap.IsTuple c vs.toArray from p2) hu (items_at r q he hR)
    rw [show us.toArray.size = xs.length by simp; omega,show vs.toArray.size = ys.length by simp; omega] at z
    exact z
theorem EqI.at (I:Inv X pins σ H s):∀ (n:Nat) {A:Around} {x y:V} {b:Bool} {u v:Value},A.units + n < cLine->EqI X.K H n x y b->RelV x u->RelV y v->EqAt A s u v b
  | 0,A,x,y,b,u,v,hu,h,rx,ry=>by
    rcases h with ⟨fx,fy,rfl⟩ | ⟨a,rfl,rfl,rfl⟩
    · exact eqAt_V rx ry fx fy
    · cases rx
      cases ry
      exact EqAt.same _
  | n + 1,A,x,y,b,u,v,hu,h,rx,ry=>by
    rcases h with h | ⟨hne,h⟩
    · exact EqI.at I n (by omega) h rx ry
    · have z:=SeqEq.rc (A:=A) I (fun x y b u v h rx ry=>EqI.at I n (A:=A.in1) (by show A.units + 1 + n < cLine; omega) h rx ry) (by omega) h rx ry
      obtain ⟨a,c,xs,ys,e,rfl,rfl,_⟩:=h
      cases rx
      cases ry
      exact EqAt.of_refs (fun e=>hne (by rw [e])) z
def rEqR (K:PySem.W.Frag):R2:=fun x y H Q=>∃ (n:Nat) (b:Bool),n ≤ 8 /\ SeqEq K H (EqI K H n) x y b /\ Q (.bl b) H
def rNeR (K:PySem.W.Frag):R2:=fun x y H Q=>∃ (n:Nat) (b:Bool),n ≤ 8 /\ SeqEq K H (EqI K H n) x y b /\ Q (.bl (!b)) H
theorem op_eq_ref (hu:X.A.units + 64 < cLine):OpR X (compareOp .Eq) (rEqR X.K):=by
  rintro pins s σ H x y v u Q I rx ry ⟨n,b,hn,h,q⟩
  exact SeqEq.rc (A:=X.A) I (fun x y b u v h rx ry=>EqI.at I n (A:=X.A.in1) (by show X.A.units + 1 + n < cLine; omega) h rx ry) (by omega) h rx ry X.prog X.w X.xe _ ⟨.bl b,H,I,rfl,q⟩
theorem op_ne_ref (hu:X.A.units + 64 < cLine):OpR X (compareOp .NotEq) (rNeR X.K):=by
  rintro pins s σ H x y v u Q I rx ry ⟨n,b,hn,h,q⟩
  exact SeqEq.rcNe (A:=X.A) I (fun x y b u v h rx ry=>EqI.at I n (A:=X.A.in1) (by show X.A.units + 1 + n < cLine; omega) h rx ry) (by omega) h rx ry X.prog X.w X.xe _ ⟨.bl (!b),H,I,rfl,q⟩
end
theorem SeqEq.sameL {K:PySem.W.Frag} {H:Hp} {a c:Addr} {xs:List V} (h1:SqL K H a xs) (h2:SqL K H c xs) (hx:∀ x ∈ xs,EqI K H n x x true):SeqEq K H (EqI K H n) (.ref a) (.ref c) true :=
  ⟨a,c,xs,xs,fun _=>true,rfl,rfl,.inl ⟨h1,h2,rfl,fun j x y e1 e2=>by
    rw [e1] at e2; cases e2
    exact hx x (List.mem_of_getElem? e1),by simp⟩⟩
theorem eqI_int {K:PySem.W.Frag} {H:Hp} (i:Int):EqI K H 0 (.int i) (.int i) true:=.inl ⟨rfl,rfl,by simp [eqV]⟩
theorem pi_or {X:Cx} {tg it:Expr} {w1 w2:TI} (h1:PI X tg it w1) (h2:PI X tg it w2):PI X tg it (fun σ H R=>w1 σ H R ∨ w2 σ H R):=fun pins s σ H R I h=>h.elim (h1 pins s σ H R I) (h2 pins s σ H R I)
theorem anelt' {a b n:Nat} (h1:a < n) (h2:n ≤ b):a ≠ b:=by omega
open PySem PySem.Spec PyProof.Rows
theorem Inv.turnedMany {X:Cx} {pins:List (Addr × Obj)} {σ:St} {H:Hp} {s:Shared} {h':Heap} {t':Nat} {ch:List Addr} (I:Inv X pins σ H s) (k:∀ b o,b ∉ ch->s.heap.get? b = some o->h'.get? b = some o) (hf:∀ b ∈ ch,FpOk X pins H b) :
    Inv X pins σ H { s with heap:=h',toks:=t' }:=by
  have nit:∀ b u,H b = some u->b ∉ ch:=fun b u e z=>by rw [(hf b z).1] at e; cases e
  refine I.step (g':=s.gens) (d':=s.drawn) (ch:=ch) (fun b hb=>⟨(hf b hb).2.2.2.1,(hf b hb).2.1,(hf b hb).2.2.2.2.1,(hf b hb).2.2.2.2.2⟩) (fun b o _ _ hc e _=>k b o hc e) (fun b o _ _ hc e _=>⟨o.slots,k b o hc e⟩) (fun _ _ _ _ n=>n)
    (fun b o hc e=>⟨o,k b o hc e⟩) (fun _ _ e=>e) (fun _ _ _ e=>e) (fun b ps e=>⟨#[],by rw [e]; simp⟩) (fun m hm=>?_) (fun b u e=>?_) I.bare
  · obtain ⟨o,es,ep,ho,r⟩:=hm
    exact ⟨o,es,ep,k _ o (fun z=>(hf _ z).2.1 rfl) ho,r⟩
  · refine (I.hok b u e).stay (fun c v hc q=>k c v ?_ q) (fun _ q=>q) fun _ _ q=>q
    rcases hc with z | z
    · rw [z]; exact nit b u e
    · exact nit c _ z
theorem Inv.turnedLaid {X:Cx} {pins:List (Addr × Obj)} {σ:St} {H:Hp} {s:Shared} {h':Heap} {t':Nat} {ch:List Addr} {T:Addr} {u:HO} (I:Inv X pins σ H s) (k:∀ b o,b ∉ ch->s.heap.get? b = some o->h'.get? b = some o) (hf:∀ b ∈ ch,FpOk X pins H b)
    (hT:s.heap.objs.size ≤ T) (new:ObjOk X.prog X.w (upd H T u) h' T u):Inv X pins σ (upd H T u) { s with heap:=h',toks:=t' }:=by
  have hn:H T = none:=I.hok.fresh hT
  have nit:∀ b u,H b = some u->b ∉ ch:=fun b u e z=>by rw [(hf b z).1] at e; cases e
  have nT:∀ b o,s.heap.get? b = some o->b ≠ T:=fun b o e=>anelt' (Heap.lt_size e) hT
  refine I.step (g':=s.gens) (d':=s.drawn) (ch:=ch) (fun b hb=>⟨(hf b hb).2.2.2.1,(hf b hb).2.1,(hf b hb).2.2.2.2.1,(hf b hb).2.2.2.2.2⟩) (fun b o _ _ hc e _=>k b o hc e) (fun b o _ _ hc e _=>⟨o.slots,k b o hc e⟩) (fun b o _ e n=>by rw [upd_ne (nT b o e)]; exact n)
    (fun b o hc e=>⟨o,k b o hc e⟩) (fun b xs e=>by rw [upd_ne (ne_of_none e hn)]; exact e) (fun b o xs e=>by rw [upd_ne (ne_of_none e hn)]; exact e) (fun b ps e=>⟨#[],by rw [upd_ne (ne_of_none e hn),e]; simp⟩) (fun m hm=>?_) (fun b v e=>?_) I.bare
  · obtain ⟨o,es,ep,ho,r⟩:=hm
    exact ⟨o,es,ep,k _ o (fun z=>(hf _ z).2.1 rfl) ho,r⟩
  · by_cases hb:b = T
    · subst hb; rw [upd_same] at e; cases e; exact new
    · rw [upd_ne hb] at e
      refine (I.hok b v e).stay (fun c v hc q=>k c v ?_ q) (fun c q=>by rw [upd_ne (ne_of_none q hn)]; exact q) fun c xs q=>by rw [upd_ne (ne_of_none q hn)]; exact q
      rcases hc with z | z
      · rw [z]; exact nit b _ e
      · exact nit c _ z
open PySem PySem.Spec PyProof.Rows
def veTail:List Value:=[.type "ValueError",.type "Exception",.type "BaseException",.type "object"]
def isRefV:Value->Bool
  | .ref _=>true
  | _=>false
def excMro (l:List Value):Bool:=l.dropWhile isRefV == veTail
theorem excMro_at {l:List Value} (h:excMro l = true):∃ rs:List Addr,l = rs.map Value.ref ++ veTail:=by
  induction l with
  | nil=>exact absurd h (by decide)
  | cons x r ih =>
    unfold excMro at h
    by_cases hx:isRefV x = true
    · rw [List.dropWhile_cons,if_pos hx] at h
      obtain ⟨rs,e⟩:=ih h
      cases x <;> first | cases hx | skip
      rename_i a
      exact ⟨a :: rs,by rw [e]; rfl⟩
    · rw [List.dropWhile_cons,if_neg hx] at h
      exact ⟨[],by rw [beq_iff_eq.mp h]; rfl⟩
theorem excMro_has {T:String} (hT:veTail.contains (.type T) = true) {l:List Value} (h:excMro l = true):l.contains (.type T) = true:=by
  obtain ⟨rs,rfl⟩:=excMro_at h
  rw [List.contains_eq_mem]
  simp only [List.contains_eq_mem,decide_eq_true_eq] at hT ⊢
  exact List.mem_append_right _ hT
theorem excMro_ne {l:List Value} (h:excMro l = true):l.isEmpty = false:=by
  cases l with
  | nil=>exact absurd h (by decide)
  | cons _ _=>rfl
theorem refuse_exc (self:Value) {l:List Value} (h:excMro l = true):refuseLoop self "__setattr__" l = pure ():=by
  obtain ⟨rs,rfl⟩:=excMro_at h
  induction rs with
  | nil=>exact PySem.F.store_ValueError.passes self
  | cons a r ih =>
    show refuseLoop self "__setattr__" (.ref a :: (r.map Value.ref ++ veTail)) = _
    rw [refuseLoop_ref]
    refine ih ?_
    have:∀ r:List Addr,excMro (r.map Value.ref ++ veTail) = true:=fun r=>by
      induction r with
      | nil=>decide
      | cons b r ih=>exact ih
    exact this r
def xobjIn (K:PySem.W.Frag) (C:Addr):Bool:=match K.lookup C with
  | some ⟨.type "type",_,.cls cd,sl⟩=>(match cd.mro,sl.toList with
    | .ref D :: bm,[_,_,_,_,some (.builtin n),_]=>D == C && !cd.hasDel && excMro bm && n == "ValueError.__new__" && cd.hasDict
    | _,_=>false)
  | _=>false
structure XObj (h:Heap) (C:Addr):Prop where
  ex:∃ nm q N bs bm sn sub ab col dd k0 k1 k2 k3 k5,h.get? C = some (excClassObj nm q C N bs bm true sn sub ab col dd k0 k1 k2 k3 k5 "ValueError.__new__") /\ excMro bm = true
theorem xobj_of {K:PySem.W.Frag} {C:Addr} (q:xobjIn K C = true):∃ nm qn N bs bm sn sub ab col dd k0 k1 k2 k3 k5,K.lookup C = some (excClassObj nm qn C N bs bm true sn sub ab col dd k0 k1 k2 k3 k5 "ValueError.__new__") /\ excMro bm = true:=by
  unfold xobjIn at q
  split at q
  · rename_i dd cd sl ho
    split at q
    · rename_i D bm k0 k1 k2 k3 n k5 hm hs
      simp only [Bool.and_eq_true,beq_iff_eq,Bool.not_eq_true'] at q
      obtain ⟨⟨⟨⟨rfl,hdel⟩,hb⟩,rfl⟩,hd⟩:=q
      obtain ⟨nm,bs,mro,ns,qn,hd',sn,sub,ab,col,del⟩:=cd
      dsimp only at hm hdel hd
      subst hm hdel hd
      have hsl:sl = #[k0,k1,k2,k3,some (.builtin "ValueError.__new__"),k5]:=by
        obtain ⟨l⟩:=sl
        simp only at hs
        rw [hs]
      subst hsl
      exact ⟨nm,qn,ns,bs,bm,sn,sub,ab,col,dd,k0,k1,k2,k3,k5,ho,hb⟩
    · cases q
  · cases q
structure XCls (K:PySem.W.Frag) (C:Addr):Prop where
  obj:xobjIn K C = true
  sa:PySem.W.findIn K (.ref C) "__setattr__" = some (some (.builtin "object.__setattr__"))
  ga:PySem.W.findIn K (.ref C) "__getattribute__" = some (some (.builtin "BaseException.__getattribute__"))
  gh:PySem.W.findIn K (.ref C) "__getattr__" = some none
  cl:PySem.W.findIn K (.ref C) "__class__" = some (some (.builtin "object.__class__"))
  clg:PySem.W.specialIn K (.builtin "object.__class__") "__get__" = some (some (.builtin "getset_descriptor.__get__"))
  clt:PySem.W.takesIn K (.builtin "object.__class__") = some true
theorem excMro_cons {C:Addr} {bm:List Value} (h:excMro bm = true):excMro (.ref C :: bm) = true:=h
theorem XCls.mro {K:PySem.W.Frag} {C:Addr} (c:XCls K C):∃ cd,PySem.W.clsIn K C = some cd /\ excMro cd.mro = true /\ cd.hasDict = true:=by
  obtain ⟨nm,qn,N,bs,bm,sn,sub,ab,col,dd,k0,k1,k2,k3,k5,ho,hb⟩:=xobj_of c.obj
  refine ⟨{ name:=nm,bases:=bs,mro:=.ref C :: bm,ns:=N,qualname:=qn,hasDict:=true,slotNames:=sn,subclasses:=sub,abstract:=ab,collection:=col,hasDel:=false },?_,excMro_cons (C:=C) hb,rfl⟩
  unfold PySem.W.clsIn
  rw [ho]
theorem XCls.at {K:PySem.W.Frag} {C:Addr} {h:Heap} (c:XCls K C) (X:K.In h):XObj h C:=by
  obtain ⟨nm,qn,N,bs,bm,sn,sub,ab,col,dd,k0,k1,k2,k3,k5,ho,hb⟩:=xobj_of c.obj
  exact ⟨nm,qn,N,bs,bm,sn,sub,ab,col,dd,k0,k1,k2,k3,k5,X _ _ ho,hb⟩
theorem XCls.has {K:PySem.W.Frag} {C:Addr} (c:XCls K C) {T:String} (hT:veTail.contains (.type T) = true):PySem.W.mroIn K C (.type T) = some true:=by
  obtain ⟨cd,h1,h2,_⟩:=c.mro
  unfold PySem.W.mroIn
  rw [h1,Option.bind_some,if_neg (by rw [excMro_ne h2]; decide),excMro_has hT h2]
open PySem PySem.Spec PyProof.Rows
section
variable {prog:Program} {w:World} {A:Around} {E:Value->Shared->Prop} {s:Shared} {K:PySem.W.Frag} {x C:Addr} {ox:Obj} {od:Option Obj} {name:Str} {v:Value}
theorem xset_open {Q:Unit->Shared->Prop} (X:K.In s.heap) (I:PySem.W.InstAt s.heap x ox C od) (c:XCls K C) (n:NoAttr K C name)
    (h:∀ b,wpAny (model prog w) A.in1 (Builtin.ObjectAttr.storeInOwnDict (.ref x) (.ref C) (.str name s.toks) name v b)
      (fun fin s'=>match fin with | .done (.ret _)=>Q () s' | _=>False) (fun e s'=>E e s') { s with toks:=s.toks + 1 }) :
    wpAny (model prog w) A (setAttr (.ref x) name v) Q E s:=by
  obtain ⟨hp,g,d,t,os⟩:=s
  have SF:=PySem.F.store_ValueError
  obtain ⟨cd,hc,ho,_⟩:=c.mro
  refine PySem.W.set_plain X I c.sa ?_
  have sub:PySem.W.Looks (model prog w) hp (isInstance (.ref x) (.type "object")) true:=I.type.andThen (PySem.W.looks_mroIn X (c.has (by decide)))
  refine codeAny_call_builtin SF.slot.plain SF.entry (@PySem.W.check_slot (model prog w) _ _ _ "object.__setattr__" "object" "__setattr__" (.ref x) [.str name t,v] [] _ SF.kind SF.split sub (SF.args (.ref x) (.str name t) v) ?_)
  have hm:PySem.W.Looks (model prog w) hp (mroOf (.ref C)) cd.mro:=(PySem.W.looks_clsIn X hc).andThen .now
  have LN:=PySem.W.looks_findIn (M:=model prog w) X (show PySem.W.findIn K (.ref C) name = some none from n)
  rw [PySem.W.osa_eq,refuse_eq]
  refine wpAny_bind (wpAny_bind (I.type.at (wpAny_bind (hm.at ?_))))
  rw [refuse_exc _ ho]
  refine wpAny_pure (wpAny_bind (I.type.at (wpAny_bind (LN.at (wpAny_bind (wpAny_pure ?_))))))
  refine wpAny_mono (h false) (fun fin s' z=>?_) fun _ _ z=>z
  rcases fin with (_ | _ | _ | _) | _ <;> first | exact z | exact z.elim
theorem xset_first {vs:Array Value} {sl:Array (Option Value)} {Q:Unit->Shared->Prop} (X:K.In s.heap) (hx:s.heap.get? x = some ⟨.ref C,none,.fields vs,sl⟩) (c:XCls K C) (n:NoAttr K C name)
    (h:∀ h' tk',h'.get? x = some ⟨.ref C,some s.heap.objs.size,.fields vs,sl⟩->h'.Ns1 s.heap.objs.size (fun y=>if y = name then some v else none)->(∀ b o,b ≠ x->s.heap.get? b = some o->h'.get? b = some o) →
      Q () { s with heap:=h',toks:=tk' }) :
    wpAny (model prog w) A (setAttr (.ref x) name v) Q E s:=by
  have I:PySem.W.InstAt s.heap x ⟨.ref C,none,.fields vs,sl⟩ C none:=⟨hx,rfl,rfl,trivial⟩
  refine xset_open X I c n fun b=>?_
  obtain ⟨hp,g,d,t,os⟩:=s
  obtain ⟨cd,hc,ho,hd⟩:=c.mro
  have LC:=PySem.W.looks_clsIn (M:=model prog w) X hc
  unfold Builtin.ObjectAttr.storeInOwnDict
  refine wpAny_bind (wpAny_pure ?_)
  refine wpAny_bind (m:=Builtin.ObjectAttr.ownDictForStores _) ?_
  show wpAny _ _ (instanceDict x true) _ _ _
  unfold instanceDict
  refine wpAny_bind (wpAny_loadPart hx ?_)
  dsimp only
  refine wpAny_bind (LC.at ?_)
  rw [hd]
  have hx1:(hp.push { cls:=.type "dict",data:=.dict #[] }).get? x = some ⟨.ref C,none,.fields vs,sl⟩:=Heap.get?_push_of_some _ hx
  have hxs:x ≠ hp.objs.size:=Nat.ne_of_lt (Heap.lt_size hx)
  show wpAny _ _ (do let dd ← alloc { cls:=.type "dict",data:=.dict #[] }; update x (fun o=>{ o with dict:=some dd }); dictMade (.ref C) x dd) _ _ _
  refine wpAny_bind (wpAny_alloc' ?_)
  refine wpAny_bind (wpAny_update' hx1 ?_)
  refine wpAny_pure ?_
  have hgd:((hp.push { cls:=.type "dict",data:=.dict #[] }).update x fun o=>{ o with dict:=some hp.objs.size }).get? hp.objs.size = some { cls:=.type "dict",data:=.dict #[] } :=
    (Heap.get?_update_ne _ _ _ _ hxs.symm).trans (Heap.get?_push_at rfl rfl)
  have hnd:((hp.push { cls:=.type "dict",data:=.dict #[] }).update x fun o=>{ o with dict:=some hp.objs.size }).Ns hp.objs.size (fun _=>none):=⟨_,#[],_,hgd,rfl,fun e he=>absurd he (by simp),fun _=>rfl⟩
  show wpAny _ _ (Builtin.ObjectAttr.storeInDict hp.objs.size (.str name t) name v) _ _ _
  unfold Builtin.ObjectAttr.storeInDict Builtin.ObjectAttr.newKeyGuard
  refine wpAny_bind (wpAny_pure (wpAny_bind (wpAny_nsSet1 (Heap.Ns1.of_empty hnd) fun h' hn' hs=>?_)))
  obtain ⟨oD,esD,epD,hoD,hdD,hcD⟩:=hn'.count (Within.cons name v Within.nil)
  refine wpAny_bind (wpAny_lookBehind hoD (by rw [hdD]; exact pastItsLine_dict (Nat.le_trans hcD (by rw [List.length_cons,List.length_nil,sizeLine_eq]; omega))) ?_)
  refine wpAny_pure (h h' _ ?_ hn' fun b o hb e=>?_)
  · exact (hs.2 x hxs).trans (Heap.get?_update_self _ hx1 rfl)
  · exact (hs.2 b (Nat.ne_of_lt (Heap.lt_size e))).trans ((Heap.get?_update_ne _ _ _ _ hb).trans (Heap.get?_push_of_some _ e))
theorem xset_more {dx:Addr} {vs:Array Value} {sl:Array (Option Value)} {mA:Str->Option Value} {ns:List Str} {Q:Unit->Shared->Prop} (X:K.In s.heap) (hx:s.heap.get? x = some ⟨.ref C,some dx,.fields vs,sl⟩) (hn:s.heap.Ns1 dx mA) (c:XCls K C) (n:NoAttr K C name)
    (hw:PySem.Within mA ns) (hsz:ns.length ≤ sizeLine)
    (h:∀ h' tk',h'.Ns1 dx (fun y=>if y = name then some v else mA y)->Heap.SameBut dx s.heap h'->Q () { s with heap:=h',toks:=tk' }) :
    wpAny (model prog w) A (setAttr (.ref x) name v) Q E s:=by
  obtain ⟨od,hod,_⟩:=lookIn_ns hn
  have I:PySem.W.InstAt s.heap x ⟨.ref C,some dx,.fields vs,sl⟩ C (some od):=⟨hx,rfl,rfl,hod⟩
  refine xset_open X I c n fun b=>?_
  obtain ⟨hp,g,d,t,os⟩:=s
  obtain ⟨cd,hc,ho,hd⟩:=c.mro
  have LC:=PySem.W.looks_clsIn (M:=model prog w) X hc
  unfold Builtin.ObjectAttr.storeInOwnDict
  refine wpAny_bind (wpAny_pure ?_)
  refine wpAny_bind (m:=Builtin.ObjectAttr.ownDictForStores _) ?_
  show wpAny _ _ (instanceDict x true) _ _ _
  unfold instanceDict
  refine wpAny_bind (wpAny_loadPart hx ?_)
  dsimp only
  refine wpAny_bind (LC.at ?_)
  rw [hd]
  refine wpAny_pure (a:=some dx) ?_
  show wpAny _ _ (Builtin.ObjectAttr.storeInDict dx (.str name t) name v) _ _ _
  unfold Builtin.ObjectAttr.storeInDict Builtin.ObjectAttr.newKeyGuard
  refine wpAny_bind (wpAny_pure (wpAny_bind (wpAny_nsSet1 hn fun h' hn' hs=>?_)))
  obtain ⟨oD,esD,epD,hoD,hdD,hcD⟩:=hn'.count (Within.cons name v hw)
  refine wpAny_bind (wpAny_lookBehind hoD (by rw [hdD]; exact pastItsLine_dict (Nat.le_trans hcD (by rw [List.length_cons]; omega))) ?_)
  exact wpAny_pure (h h' _ hn' hs)
end
open PySem PySem.Spec PyProof.Rows
abbrev excNew (C t:Addr):Obj:={ cls:=.ref C,data:=.fields #[.ref t,.none,.none,.none,.bool false,.none] }
abbrev tupNew (rest:List Value):Obj:={ cls:=.type "tuple",data:=.seq rest.toArray }
theorem own_has {C:Addr} {bm:List Value} (hb:excMro bm = true) {T:String} (hT:veTail.contains (.type T) = true):(Value.ref C :: bm).contains (.type T) = true:=by
  rw [List.contains_cons,excMro_has hT hb,Bool.or_true]
theorem own_not {C:Addr} {bm:List Value} (hb:excMro bm = true) {T:String} (hT:veTail.contains (.type T) = false):(Value.ref C :: bm).contains (.type T) = false:=by
  obtain ⟨rs,rfl⟩:=excMro_at hb
  rw [List.contains_cons,List.contains_eq_mem,decide_eq_false,Bool.or_false]
  · rfl
  · intro hm
    rcases List.mem_append.mp hm with h | h
    · obtain ⟨a,_,e⟩:=List.mem_map.mp h
      cases e
    · rw [List.contains_eq_mem] at hT
      exact (of_decide_eq_false hT) h
section
variable {prog:Program} {w:World} {A:Around} {E:Value->Shared->Prop} {h:Heap} {g:Array GenState} {d:Drawn} {t:Nat} {os:OsState} {K:PySem.W.Frag} {C f:Addr}
variable {nm q:Str} {N:Addr} {bs bm:List Value} {sn:List Str} {sub:List Value} {ab:Bool} {col:Option Bool} {dd:Option Addr} {k0 k1 k2 k3 k5:Option Value}
theorem xcheck_new {M:Model} {rest:List Value} {Q:Unit->Shared->Prop} (hb:excMro bm = true) (hC:h.get? C = some (excClassObj nm q C N bs bm true sn sub ab col dd k0 k1 k2 k3 k5 "ValueError.__new__")) (hq:Q () ⟨h,g,d,t,os⟩) :
    wpAny M A (checkBuiltinCall "ValueError.__new__" ⟨.ref C :: rest,[]⟩) Q E ⟨h,g,d,t,os⟩:=by
  have F:=PySem.F.excBase_ValueError
  have hcont:=own_has (C:=C) hb (T:="ValueError") (by decide)
  have hstar:=F.noStar
  simp only [checkBuiltinCall,F.newKind,F.newSplit,F.newRow]
  repeat (first
    | refine wpAny_loadPart_at hC ?_
    | (refine wpAny_isSubtype_exc hC ?_; rw [hcont])
    | refine wpAny_staticBase_exc hC ?_
    | refine wpAny_madeBy_exc hC ?_
    | simp only [bne_self_eq_false,Bool.false_eq_true,if_false]
    | wp_step)
  exact hq
theorem xcode_new {R:Result->Shared->Prop} {rest:List Value} (hb:excMro bm = true) (hC:h.get? C = some (excClassObj nm q C N bs bm true sn sub ab col dd k0 k1 k2 k3 k5 "ValueError.__new__")) (hrest:rest.length ≤ sizeLine)
    (hq:R (.ok (.ret (.ref (h.objs.size + 1)))) ⟨(h.push (tupNew rest)).push (excNew C h.objs.size),g,d,t,os⟩) :
    codeAny (model prog w) A (.builtin "ValueError.__new__" ⟨.ref C :: rest,[]⟩) R ⟨h,g,d,t,os⟩:=by
  have F:=PySem.F.excBase_ValueError
  have hends:=F.ends
  have hcB:=own_has (C:=C) hb (T:="ValueError") (by decide)
  have hcA:=own_not (C:=C) hb (T:="AttributeError") (by decide)
  have hcN:=own_not (C:=C) hb (T:="NameError") (by decide)
  refine codeAny_builtinAt F.entry ?_
  unfold Builtin.«BaseException.__new__»
  refine PySem.wpAt_bind ?_
  show PySem.wpAt _ _ _ (stack >>= _) _ _ _
  refine PySem.wpAt_bind (PySem.wpAt_stack fun p below=>PySem.wpAt_of_wpAny ?_)
  wp_walk
  refine PySem.wpAt_of_wpAny ?_
  rw [F.owner]
  repeat (first
    | with_reducible refine wpAny_madeHere_exc F.canon hC ?_
    | with_reducible refine wpAny_loadPart_at hC ?_
    | (with_reducible refine wpAny_isSubtype_exc hC ?_; first | rw [hcB] | rw [hcA] | rw [hcN])
    | wp_step)
  show R _ _
  rw [Heap.size_push]
  exact hq
theorem xkeeps {rest:List Value}:∀ b o,h.get? b = some o->((h.push (tupNew rest)).push (excNew C h.objs.size)).get? b = some o:=fun b o e=>Heap.get?_push_of_some _ (Heap.get?_push_of_some _ e)
theorem xnew_at {rest:List Value}:((h.push (tupNew rest)).push (excNew C h.objs.size)).get? (h.objs.size + 1) = some (excNew C h.objs.size):=by
  have:=Heap.get?_push_size (h.push (tupNew rest)) (o:=excNew C h.objs.size) rfl
  rwa [Heap.size_push] at this
theorem xtype_call {rest:List Value} {Q:Fin->Shared->Prop} (hb:excMro bm = true) (hC:h.get? C = some (excClassObj nm q C N bs bm true sn sub ab col dd k0 k1 k2 k3 k5 "ValueError.__new__")) (hrest:rest.length ≤ sizeLine) (X:K.In h)
    (hi:PySem.W.findIn K (.ref C) "__init__" = some (some (.ref f))) (hf:PySem.W.typeIn K (.ref f) = some (.type "function"))
    (hq:wpAny (model prog w) A (call (.ref f) (.ref (h.objs.size + 1) :: rest)) (fun r s'=>r = .none /\ Q (.done (.ret (.ref (h.objs.size + 1)))) s') E ⟨(h.push (tupNew rest)).push (excNew C h.objs.size),g,d,t,os⟩) :
    wpAny (model prog w) A (Builtin.«type.__call__» ⟨.ref C :: rest,[]⟩) Q E ⟨h,g,d,t,os⟩:=by
  have F:=PySem.F.excBase_ValueError
  repeat (first | with_reducible refine wpAny_loadPart_at hC ?_ | with_reducible refine wpAny_madeBy_exc hC ?_ | wp_step)
  refine codeAny_call_builtin_code (Code.quiet_builtin _ F.quiet) (xcheck_new hb hC ?_)
  refine xcode_new hb hC hrest ?_
  show wpAny _ _ _ _ _ _
  have X1:K.In ((h.push (tupNew rest)).push (excNew C h.objs.size)):=X.keeps xkeeps
  have hC1:=xkeeps (C:=C) (rest:=rest) _ _ hC
  have hcC:(Value.ref C :: bm).contains (.ref C) = true:=by simp
  have L1:=PySem.W.looks_findIn (M:=model prog w) X1 hi
  have L2:=PySem.W.bind_fn (M:=model prog w) X1 (.ref (h.objs.size + 1)) hf
  unfold isInstance
  repeat (first | with_reducible refine wpAny_loadPart_at xnew_at ?_ | (with_reducible refine wpAny_isSubtype_exc hC1 ?_; rw [hcC]) | wp_step)
  show wpAny _ _ (typeLookup (.ref C) _) _ _ _
  refine L1.at ?_
  refine wpAny_holding (wpAny_bind (L2.at ?_))
  refine wpAny_bind (wpAny_mono hq (fun r s' hr=>?_) fun _ _ x=>x)
  obtain ⟨rfl,hQ⟩:=hr
  wp_walk
  exact hQ
theorem xcall_init {rest:List Value} {Q:Value->Shared->Prop} (X:K.In h) (c:XCls K C) (hrest:rest.length ≤ sizeLine)
    (hi:PySem.W.findIn K (.ref C) "__init__" = some (some (.ref f))) (hf:PySem.W.typeIn K (.ref f) = some (.type "function"))
    (hq:wpAny (model prog w) (A.under (.builtin "type.__call__" ⟨.ref C :: rest,[]⟩)) (call (.ref f) (.ref (h.objs.size + 1) :: rest)) (fun r s'=>r = .none /\ Q (.ref (h.objs.size + 1)) s') E ⟨(h.push (tupNew rest)).push (excNew C h.objs.size),g,d,t,os⟩) :
    wpAny (model prog w) A (call (.ref C) rest) Q E ⟨h,g,d,t,os⟩:=by
  obtain ⟨nm,qn,N,bs,bm,sn,sub,ab,col,dd,k0,k1,k2,k3,k5,hC,hb⟩:=(c.at X).ex
  have f1:=tc_lookup
  have f2:=tc_bind (.ref C)
  have hT:(⟨h,g,d,t,os⟩:Shared).TypeIs (.ref C) "type":=⟨_,hC,rfl⟩
  refine wpAny_call (codeAny_of_tree ?_)
  show wpAny _ _ (callAny (.ref C) _) _ _ _
  repeat (any_goals (first | assumption | with_reducible refine wpAny_loadPart_at hC ?_ | wp_step))
  refine ⟨rfl,?_⟩
  exact codeAny_call_builtin_at (Code.quiet_builtin _ (by decide +kernel)) entry_typeCall (wpAny_check_type_call_sub hC (xtype_call hb hC hrest X hi hf hq))
end
open PySem PySem.Spec PyProof.Rows
def IsExc (raw:Bool) (e C:Addr) (od:Option Addr) (h:Heap):Prop:=∃ vs sl,h.get? e = some ⟨.ref C,od,.fields vs,sl⟩ /\ vs.size = 6 /\ (raw = true->vs[1]? = some .none)
def IsXd (dx:Addr) (fs:List (Str × V)) (h:Heap):Prop:=∃ mA,h.Ns1 dx mA /\ (∀ f,RelO (fs.lookup f) (mA f)) /\ PySem.Within mA (fs.map (·.1))
abbrev exO (raw:Bool) (e C:Addr) (od:Option Addr):HO:=.ext (IsExc raw e C od)
abbrev xdO (dx:Addr) (fs:List (Str × V)):HO:=.ext (IsXd dx fs)
def ExcAt (H:Hp) (e C:Addr) (fs:List (Str × V)):Prop:=∃ raw od,H e = some (exO raw e C od) /\ match od with
  | none=>fs = []
  | some dx=>H dx = some (xdO dx fs) /\ dx ≠ e
section
variable {P:Program} {w:World} {H:Hp} {h:Heap} {e C dx:Addr} {od:Option Addr} {raw:Bool} {fs:List (Str × V)}
theorem objOk_exc (x:IsExc raw e C od h):ObjOk P w H h e (exO raw e C od):=by
  refine ⟨x,?_,?_⟩
  · obtain ⟨vs,sl,q,_⟩:=x
    exact ⟨_,q⟩
  · rintro h1 h2 ⟨vs,sl,q,r⟩ k
    exact ⟨vs,sl,k _ q,r⟩
theorem objOk_xd (x:IsXd dx fs h):ObjOk P w H h dx (xdO dx fs):=by
  refine ⟨x,?_,?_⟩
  · obtain ⟨mA,⟨o,es,ep,q,_⟩,_⟩:=x
    exact ⟨o,q⟩
  · rintro h1 h2 ⟨mA,⟨o,es,ep,q,r⟩,z⟩ k
    exact ⟨mA,⟨o,es,ep,k _ q,r⟩,z⟩
theorem exc_of (x:HOk P w H h) (q:H e = some (exO raw e C od)):IsExc raw e C od h:=(x e _ q).1
theorem xd_of (x:HOk P w H h) (q:H dx = some (xdO dx fs)):IsXd dx fs h:=(x dx _ q).1
end
section
variable {X:Cx} {pins:List (Addr × Obj)} {σ:St} {H:Hp} {s:Shared} {a C dx:Addr} {od:Option Addr} {raw:Bool} {fs:List (Str × V)} {f:Str} {v:V} {A:Around} {E:Value->Shared->Prop}
theorem xsetattr_first {y:V} {u:Value} {Q:Unit->Shared->Prop} (I:Inv X pins σ H s) (e:H a = some (exO raw a C none)) (c:XCls X.K C) (n:NoAttr X.K C f) (ry:RelV y u)
    (h:∀ dx s',H dx = none->Inv X pins σ (upd (upd H dx (xdO dx [(f,y)])) a (exO raw a C (some dx))) s'->Q () s'):wpAny (model X.prog X.w) A (setAttr (.ref a) f u) Q E s:=by
  obtain ⟨vs,sl,q,hv⟩:=exc_of I.hok e
  refine xset_first I.kIn q c n fun h' tk' h1 h2 h3=>?_
  have hn:H s.heap.objs.size = none:=I.hok.fresh (Nat.le_refl _)
  have hna:a ≠ s.heap.objs.size:=Nat.ne_of_lt (Heap.lt_size q)
  refine h s.heap.objs.size _ hn ?_
  have hd2:IsXd s.heap.objs.size [(f,y)] h':=by
    refine ⟨_,h2,fun g=>?_,fun g hg=>?_⟩
    · show RelO (List.lookup g [(f,y)]) (if g = f then some u else none)
      rw [List.lookup_cons]
      by_cases z:g = f
      · subst z; rw [if_pos rfl]; simp; exact ry
      · rw [if_neg z,show (g == f) = false by simpa using z]; exact True.intro
    · by_cases z:g = f
      · subst z; simp
      · exact absurd (if_neg z) hg
  have hE:IsExc raw a C (some s.heap.objs.size) h':=⟨vs,sl,h1,hv⟩
  have hu:Un X.fs [] H (upd (upd H s.heap.objs.size (xdO s.heap.objs.size [(f,y)])) a (exO raw a C (some s.heap.objs.size))) s.heap h':=by
    have nn:∀ b o,s.heap.get? b = some o->b ≠ s.heap.objs.size:=fun b o e=>Nat.ne_of_lt (Heap.lt_size e)
    refine ⟨fun b o e' n' _ _=>h3 b o (fun z=>by rw [z,e] at n'; cases n') e',fun b o e' n' _ _=>⟨o.slots,h3 b o (fun z=>by rw [z,e] at n'; cases n') e'⟩,fun b o e' n' _=>?_,fun b o e' _=>?_,fun b xs e'=>?_,fun b o u' e'=>?_,fun b ps e'=>⟨#[],?_⟩⟩
    · rw [upd_ne (fun z=>by rw [z,e] at n'; cases n'),upd_ne (nn b o e')]; exact n'
    · by_cases z:b = a
      · subst z; exact ⟨_,h1⟩
      · exact ⟨o,h3 b o z e'⟩
    · rw [upd_ne (fun z=>by rw [z,e] at e'; cases e'),upd_ne (ne_of_none e' hn)]; exact e'
    · rw [upd_ne (fun z=>by rw [z,e] at e'; cases e'),upd_ne (ne_of_none e' hn)]; exact e'
    · rw [upd_ne (fun z=>by rw [z,e] at e'; cases e'),upd_ne (ne_of_none e' hn),e']; simp
  refine I.un hu fun b o e'=>?_
  by_cases z:b = a
  · subst z; rw [upd_same] at e'; cases e'; exact objOk_exc hE
  · rw [upd_ne z] at e'
    by_cases z2:b = s.heap.objs.size
    · subst z2; rw [upd_same] at e'; cases e'; exact objOk_xd hd2
    · rw [upd_ne z2] at e'
      refine (I.hok b o e').stay (fun c' v' hc q'=>h3 c' v' ?_ q') (fun c' q'=>?_) fun c' xs q'=>?_
      · rcases hc with hc | hc
        · rw [hc]; exact z
        · intro z3; rw [z3,e] at hc; cases hc
      · rw [upd_ne (fun z3=>by rw [z3,e] at q'; cases q'),upd_ne (ne_of_none q' hn)]; exact q'
      · rw [upd_ne (fun z3=>by rw [z3,e] at q'; cases q'),upd_ne (ne_of_none q' hn)]; exact q'
theorem xsetattr_more {y:V} {u:Value} {Q:Unit->Shared->Prop} (I:Inv X pins σ H s) (e:H a = some (exO raw a C (some dx))) (ed:H dx = some (xdO dx fs)) (c:XCls X.K C) (n:NoAttr X.K C f) (hl:fs.length < 1000) (ry:RelV y u)
    (h:∀ s',Inv X pins σ (upd H dx (xdO dx (putF f y fs))) s'->Q () s'):wpAny (model X.prog X.w) A (setAttr (.ref a) f u) Q E s:=by
  obtain ⟨vs,sl,q,hv⟩:=exc_of I.hok e
  obtain ⟨mA,hn,r,wi⟩:=xd_of I.hok ed
  have hz:(fs.map (·.1)).length ≤ sizeLine:=by rw [List.length_map,sizeLine_eq]; omega
  refine xset_more I.kIn q hn c n wi hz fun h' tk' h1 sb=>h _ ?_
  refine I.write (x:=dx) (e:=dx) (by rw [ed]; exact True.intro) (.inl rfl) (fun b o hb z=>(sb.2 b hb).trans z) (let ⟨o,_,_,e',_⟩:=h1; ⟨o,e'⟩) (objOk_xd ⟨_,h1,fun g=>?_,fun g hg=>?_⟩)
  · show RelO ((putF f y fs).lookup g) (if g = f then some u else mA g)
    rw [lookup_putF]
    by_cases q:g = f
    · rw [if_pos q,if_pos q]; exact ry
    · rw [if_neg q,if_neg q]; exact r g
  · by_cases q:g = f
    · rw [q]; exact (keys_putF f y fs).1
    · refine (keys_putF f y fs).2 g (wi g fun z=>hg ?_)
      show (if g = f then some u else mA g) = none
      rw [if_neg q]; exact z
end
def sXFld1 (K:PySem.W.Frag) (ta tv:TE) (f:Str):TS:=fun D σ H=>tv σ H fun y H1=>ta σ H1 fun x H2=>∃ a C raw,x = .ref a /\ H2 a = some (exO raw a C none) /\ XCls K C /\ NoAttr K C f ∧
  ∀ dx,H2 dx = none->D.nx σ (upd (upd H2 dx (xdO dx [(f,y)])) a (exO raw a C (some dx)))
def sXFld2 (K:PySem.W.Frag) (ta tv:TE) (f:Str):TS:=fun D σ H=>tv σ H fun y H1=>ta σ H1 fun x H2=>∃ a C raw dx fs,x = .ref a /\ H2 a = some (exO raw a C (some dx)) /\ H2 dx = some (xdO dx fs) /\ XCls K C /\ NoAttr K C f /\ fs.length < 1000 ∧
  D.nx σ (upd H2 dx (xdO dx (putF f y fs)))
section
variable {X:Cx} {o e value:Expr} {f:Str} {pos pos':Pos} {ta tv:TE}
theorem ps_xfld1 (ha:PE X o ta) (hv:PE X value tv) (hs:swapsWith value (some (.Attribute o f pos')) pos.line X.env = pure false):PS X (.Assign [.Attribute o f pos'] value pos) (sXFld1 X.K ta tv f):=by
  intro pins s σ H D I h
  refine plainObj_wpAny_Assign_Attribute (thn (hv pins s σ H _ I h) fun u s1 ⟨y,H1,I1,ry,q⟩=>thn (ha pins s1 σ H1 _ I1 q) fun ov s2 ⟨x,H2,I2,rx,a,C,raw,ex,ea,c,n,q2⟩=>?_) hs
  subst ex
  obtain rfl:ov = Value.ref a:=rx
  exact xsetattr_first I2 ea c n ry fun dx s3 hdx I3=>⟨σ,_,I3,q2 dx hdx⟩
theorem ps_xfld2 (ha:PE X o ta) (hv:PE X value tv) (hs:swapsWith value (some (.Attribute o f pos')) pos.line X.env = pure false):PS X (.Assign [.Attribute o f pos'] value pos) (sXFld2 X.K ta tv f):=by
  intro pins s σ H D I h
  refine plainObj_wpAny_Assign_Attribute (thn (hv pins s σ H _ I h) fun u s1 ⟨y,H1,I1,ry,q⟩=>thn (ha pins s1 σ H1 _ I1 q) fun ov s2 ⟨x,H2,I2,rx,a,C,raw,dx,fs,ex,ea,ed,c,n,l,q2⟩=>?_) hs
  subst ex
  obtain rfl:ov = Value.ref a:=rx
  exact xsetattr_more I2 ea ed c n l ry fun s3 I3=>⟨σ,_,I3,q2⟩
end
open PySem PySem.Spec PyProof.Rows
def Fly (h:Heap) (e T:Addr) (fl:Value):Prop:=∃ oe vs oT ts,h.get? e = some oe /\ oe.data = .fields vs /\ vs[1]? = some (.ref T) /\ h.get? T = some oT /\ oT.data = .fields ts /\ ts[3]? = some fl /\ T ≠ e
structure Noted (fs ch:List Addr) (e T:Addr) (fl:Value) (h h':Heap):Prop where
  keep:∀ b o,b ∉ fs->b ∉ ch->b ≠ e->h.get? b = some o->h'.get? b = some o
  slot:∀ b o,b ∈ fs->b ∉ ch->b ≠ e->h.get? b = some o->∃ sl,h'.get? b = some { o with slots:=sl }
  new:h.objs.size ≤ T
  exc:∀ oe vs,h.get? e = some oe->oe.data = .fields vs->h'.get? e = some (oe.mapFields (·.setIfInBounds 1 (.ref T)))
  fly:Fly h' e T fl
section
variable {M:Model} {A:Around} {E:Value->Shared->Prop} {s:Shared} {base:Heap} {env:Env} {outer:List Env} {L e:Addr} {oe:Obj} {vs:Array Value} {Q:Unit->Shared->Prop}
theorem entry_ok {head:Value} {b:Bool} (hfr:A.frames = some (env :: outer)) (hl:s.heap.FunFrames base (env :: outer)) (hf:env.frame = some L) (he:s.heap.get? e = some oe) (hd:oe.data = .fields vs) (hsz:1 < vs.size)
    (h:∀ h' T,Noted (frs (env :: outer)) [] e T (rawInt L) s.heap h'->Q () { s with heap:=h' }) :
    wpAny M A (do let a ← frameOf env; let pl ← entryPlaceOf L b; let x ← EntryCells.newEntry head a .none (rawInt L) .none pl; setField (.ref e) 1 x) Q E s:=by
  have hene:e ∉ frs (env :: outer):=fun hm=>by
    obtain ⟨_,o,ho,hnf⟩:=hl.mem hm
    rw [he] at ho
    cases ho
    exact hnf vs hd
  refine wpAny_bind (wpAny_frameOf_fun hfr hl hf fun h1 hs=>?_)
  refine wpAny_bind (wpAny_entryPlaceOf fun pl hpl=>?_)
  unfold EntryCells.newEntry newFields
  refine wpAny_bind (wpAny_newObj_type ?_ (hpl.sizeOk5 _ _ _ _ _))
  have he1:h1.get? e = some oe:=(hs.2.1 e hene).trans he
  generalize hT:({ cls:=.type "traceback",dict:=none,data:=.fields ([head,.ref L,.none,rawInt L,.none] ++ (if pl.isEmpty then List.replicate 6 Value.none else pl)).toArray }:Obj) = oT
  have he2:=Heap.get?_push_of_some (h:=h1) oT he1
  refine wpAny_setField he2 hd hsz (h _ h1.objs.size ?_)
  have hTe:h1.objs.size ≠ e:=Nat.ne_of_gt (Heap.lt_size he1)
  have hd3:=Obj.data_mapFields hd (·.setIfInBounds 1 (Value.ref h1.objs.size))
  have he3:=Heap.get?_update_self (Obj.mapFields (·.setIfInBounds 1 (Value.ref h1.objs.size))) he2 (Obj.isFreed_of_fields hd3)
  have hT3:((h1.push oT).update e (Obj.mapFields (·.setIfInBounds 1 (Value.ref h1.objs.size)))).get? h1.objs.size = some oT :=
    (Heap.get?_update_other _ _ (Ne.symm hTe)).trans (Heap.get?_push_size h1 (by rw [← hT]; rfl))
  have keep:∀ b o,b ≠ e->h1.get? b = some o->((h1.push oT).update e (Obj.mapFields (·.setIfInBounds 1 (Value.ref h1.objs.size)))).get? b = some o:=fun b o hb q=>by
    rw [Heap.get?_update_other _ _ (Ne.symm hb)]
    exact Heap.get?_push_of_some _ q
  refine ⟨fun b o hb _ hbe q=>keep b o hbe ((hs.2.1 b hb).trans q),fun b o hb _ hbe q=>?_,?_,fun oe' vs' q' d'=>?_,?_⟩
  · obtain ⟨sl,z⟩:=hs.2.2 b o q
    exact ⟨sl,keep b _ hbe z⟩
  · rw [hs.1]; exact Nat.le_refl _
  · rw [he] at q'; cases q'; exact he3
  · refine ⟨_,_,oT,_,he3,hd3,by simp [hsz],hT3,by rw [← hT],?_,hTe⟩
    simp
theorem note_new (hfr:A.frames = some (env :: outer)) (hl:s.heap.FunFrames base (env :: outer)) (hf:env.frame = some L) (he:s.heap.get? e = some oe) (hd:oe.data = .fields vs) (h1:vs[1]? = some .none)
    (h:∀ h' T,Noted (frs (env :: outer)) [] e T (rawInt L) s.heap h'->Q () { s with heap:=h' }):wpAny M A (noteFrame (.ref e) env) Q E s:=by
  unfold noteFrame
  simp only [hf]
  refine wpAny_bind (wpAny_field he hd h1 ?_)
  rw [if_neg (by decide)]
  exact entry_ok hfr hl hf he hd (Array.getElem?_eq_some_iff.mp h1).1 h
theorem note_next {T:Addr} (hfr:A.frames = some (env :: outer)) (hl:s.heap.FunFrames base (env :: outer)) (hf:env.frame = some L) (hF:Fly s.heap e T .none)
    (h:∀ h' T',Noted (frs (env :: outer)) [T] e T' (rawInt L) s.heap h'->Q () { s with heap:=h' }):wpAny M A (noteFrame (.ref e) env) Q E s:=by
  obtain ⟨oe,vs,oT,ts,he,hd,h1,hT,hdT,h3,hTe⟩:=hF
  unfold noteFrame
  simp only [hf]
  refine wpAny_bind (wpAny_field he hd h1 ?_)
  rw [if_pos (show (Value.ref T != Value.none) = true from by simp)]
  refine wpAny_bind (wpAny_field hT hdT h3 ?_)
  rw [if_neg (show ¬ ((Value.none == rawInt L) = true) from by simp [rawInt])]
  refine wpAny_bind (wpAny_setField hT hdT (Array.getElem?_eq_some_iff.mp h3).1 ?_)
  have other:∀ b,b ≠ T->(s.heap.update T (Obj.mapFields (·.setIfInBounds 3 Value.none))).get? b = s.heap.get? b:=fun b hb=>Heap.get?_update_other _ _ (Ne.symm hb)
  have nrec:∀ b o,s.heap.get? b = some o->(∀ vs,o.data ≠ .fields vs)->b ≠ T:=fun b o hb hnf q=>by
    rw [q,hT] at hb
    cases hb
    exact hnf ts hdT
  have sz:(s.heap.update T (Obj.mapFields (·.setIfInBounds 3 Value.none))).objs.size = s.heap.objs.size:=Heap.size_after_update _ _ _
  refine entry_ok hfr (hl.of_keeps fun b o hb hnf=>⟨o,(other b (nrec b o hb hnf)).trans hb,rfl⟩) hf ((other e (Ne.symm hTe)).trans he) hd (Array.getElem?_eq_some_iff.mp h1).1 fun h' T' N=>h h' T' ?_
  dsimp only at N
  refine ⟨fun b o hb hc hbe q=>N.keep b o hb (by simp) hbe ((other b (by simpa using hc)).trans q),fun b o hb hc hbe q=>N.slot b o hb (by simp) hbe ((other b (by simpa using hc)).trans q),?_,fun oe' vs' q d=>N.exc oe' vs' ((other e (Ne.symm hTe)).trans q) d,N.fly⟩
  rw [← sz]; exact N.new
theorem flight_none {T:Addr} {fl:Value} (hF:Fly s.heap e T fl) (h:∀ h',(∀ b o,b ≠ T->s.heap.get? b = some o->h'.get? b = some o)->h'.objs.size = s.heap.objs.size->Fly h' e T .none->Q () { s with heap:=h' }):wpAny M A (setFlight (.ref e) none) Q E s:=by
  obtain ⟨oe,vs,oT,ts,he,hd,h1,hT,hdT,h3,hTe⟩:=hF
  have hsz:3 < ts.size:=(Array.getElem?_eq_some_iff.mp h3).1
  have other:∀ b,b ≠ T->(s.heap.update T (Obj.mapFields (·.setIfInBounds 3 ((none:Option Addr).elim Value.none fun f=>rawInt f)))).get? b = s.heap.get? b:=fun b hb=>Heap.get?_update_other _ _ (Ne.symm hb)
  unfold setFlight
  refine wpAny_bind (wpAny_field he hd h1 ?_)
  rw [if_pos (show (Value.ref T != Value.none) = true from by simp)]
  refine wpAny_setField hT hdT hsz (h _ (fun b o hb q=>(other b hb).trans q) (Heap.size_after_update _ _ _) ?_)
  exact ⟨oe,vs,_,_,(other e (Ne.symm hTe)).trans he,hd,h1,Heap.get?_update_self _ hT (Obj.isFreed_of_fields (Obj.data_mapFields hdT _)),Obj.data_mapFields hdT _,by simp [hsz],hTe⟩
theorem Noted.landed {fs ch:List Addr} {T:Addr} {fl:Value} {h h1 h2:Heap} (N:Noted fs ch e T fl h h1) (k:∀ b o,b ≠ T->h1.get? b = some o->h2.get? b = some o) (F:Fly h2 e T .none):Noted fs ch e T .none h h2:=by
  have nT:∀ b o,h.get? b = some o->b ≠ T:=fun b o q=>Nat.ne_of_lt (Nat.lt_of_lt_of_le (Heap.lt_size q) N.new)
  refine ⟨fun b o hb hc hbe q=>k b o (nT b o q) (N.keep b o hb hc hbe q),fun b o hb hc hbe q=>?_,N.new,fun oe vs q d=>k e _ (nT e oe q) (N.exc oe vs q d),F⟩
  obtain ⟨sl,z⟩:=N.slot b o hb hc hbe q
  exact ⟨sl,k b _ (nT b o q) z⟩
theorem leave_new (hfr:A.frames = some (env :: outer)) (hl:s.heap.FunFrames base (env :: outer)) (hf:env.frame = some L) (he:s.heap.get? e = some oe) (hd:oe.data = .fields vs) (h1:vs[1]? = some .none)
    (h:∀ h' T,Noted (frs (env :: outer)) [] e T .none s.heap h'->Q () { s with heap:=h' }):wpAny M A (leaving env (.ref e)) Q E s:=by
  unfold leaving
  exact wpAny_bind (note_new hfr hl hf he hd h1 fun h' T N=>flight_none (s:={ s with heap:=h' }) N.fly fun h2 k _ F=>h h2 T (N.landed k F))
theorem leave_next {T:Addr} (hfr:A.frames = some (env :: outer)) (hl:s.heap.FunFrames base (env :: outer)) (hf:env.frame = some L) (hF:Fly s.heap e T .none)
    (h:∀ h' T',Noted (frs (env :: outer)) [T] e T' .none s.heap h'->Q () { s with heap:=h' }):wpAny M A (leaving env (.ref e)) Q E s:=by
  unfold leaving
  exact wpAny_bind (note_next hfr hl hf hF fun h' T' N=>flight_none (s:={ s with heap:=h' }) N.fly fun h2 k _ F=>h h2 T' (N.landed k F))
end
open PySem PySem.Spec PyProof.Rows
section
variable {X:Cx} {pins:List (Addr × Obj)} {σ:St} {H:Hp} {s:Shared} {e C T:Addr} {od:Option Addr} {raw:Bool} {fl:Value} {h':Heap} {ch:List Addr}
theorem upd_id {o:HO} (q:H e = some o):upd H e o = H:=by
  funext b
  unfold upd
  split
  · rename_i z; rw [z]; exact q.symm
  · rfl
theorem Inv.noted (I:Inv X pins σ H s) (q:H e = some (exO raw e C od)) (N:Noted (frs X.stack) ch e T fl s.heap h') (hc:∀ b ∈ ch,FpOk X pins H b) :
    Inv X pins σ (upd H e (exO false e C od)) { s with heap:=h' }:=by
  obtain ⟨vs,sl,g,hz,_⟩:=exc_of I.hok q
  have ne:∀ b,H b = none->b ≠ e:=fun b n z=>by rw [z,q] at n; cases n
  have tfs:∀ b o,H b = some o->b ∉ frs X.stack:=fun b o z hm=>by rw [I.stkFree b hm] at z; cases z
  have tch:∀ b o,H b = some o->b ∉ ch:=fun b o z hm=>by rw [(hc b hm).1] at z; cases z
  have hE:IsExc false e C od h':=by
    have:=N.exc _ vs g rfl
    refine ⟨vs.setIfInBounds 1 (.ref T),sl,this,by simpa using hz,fun z=>by cases z⟩
  refine I.call' (s':={ s with heap:=h' }) (ch:=ch) rfl ⟨fun b o e' n hf hx=>N.keep b o hf hx (ne b n) e',fun b o e' n hf hx=>N.slot b o hf hx (ne b n) e',fun b o e' n hx=>?_,fun b o e' hx=>?_,fun b xs e'=>?_,fun b o u e'=>?_,fun b ps e'=>⟨#[],?_⟩⟩ (fun b o e'=>?_) I.bare fun b hb=>⟨(hc b hb).2.2.2.1,(hc b hb).2.1,(hc b hb).2.2.2.2.1,(hc b hb).2.2.2.2.2⟩
  · rw [upd_ne (ne b n)]; exact n
  · by_cases z:b = e
    · subst z; obtain ⟨vs',sl',g',_⟩:=hE; exact ⟨_,g'⟩
    · by_cases hf:b ∈ frs X.stack
      · obtain ⟨sl',g'⟩:=N.slot b o hf hx z e'; exact ⟨_,g'⟩
      · exact ⟨o,N.keep b o hf hx z e'⟩
  · rw [upd_ne (fun z=>by rw [z,q] at e'; cases e')]; exact e'
  · rw [upd_ne (fun z=>by rw [z,q] at e'; cases e')]; exact e'
  · rw [upd_ne (fun z=>by rw [z,q] at e'; cases e'),e']; simp
  · by_cases z:b = e
    · subst z; rw [upd_same] at e'; cases e'; exact objOk_exc hE
    · rw [upd_ne z] at e'
      refine (I.hok b o e').stay (fun c v hcv g'=>?_) (fun c g'=>?_) fun c xs g'=>?_
      · have hcH:∃ u,H c = some u:=by
          rcases hcv with z | z
          · exact ⟨o,by rw [z]; exact e'⟩
          · exact ⟨_,z⟩
        obtain ⟨u,hu⟩:=hcH
        have hce:c ≠ e:=by
          rcases hcv with z' | z'
          · rw [z']; exact z
          · intro z2; rw [z2,q] at z'; cases z'
        exact N.keep c v (tfs c u hu) (tch c u hu) hce g'
      · rw [upd_ne (fun z2=>by rw [z2,q] at g'; cases g')]; exact g'
      · rw [upd_ne (fun z2=>by rw [z2,q] at g'; cases g')]; exact g'
theorem Inv.landed {T:Addr} (I:Inv X pins σ H s) (f:FpOk X pins H T) (k:∀ b o,b ≠ T->s.heap.get? b = some o->h'.get? b = some o):Inv X pins σ H { s with heap:=h' } :=
  I.turned (it:=T) (t':=s.toks) k f.1 f.2.1 f.2.2.2.1 f.2.2.2.2.1 f.2.2.2.2.2
end
def CXx (P:Program) (w:World):CXT:=fun outer H s E v s'=>∃ e C od T H',v = .ref e /\ s'.os = s.os /\ AllBare s'.gens /\ Un (frs outer) [] H H' s.heap s'.heap /\ HOk P w H' s'.heap ∧
  H' e = some (exO false e C od) /\ s.heap.objs.size ≤ T /\ H' T = none /\ Fly s'.heap e T .none /\ E (.ref C) (some e) H'
abbrev XS:=St->XK
def PassesS (X:Cx) (E:XS):Prop:=∀ (pins:List (Addr × Obj)) (σ:St) (H:Hp) (s:Shared) (v:Value) (s':Shared),Inv X pins σ H s->CXx X.prog X.w X.stack H s (E σ) v s'->X.xe v s'
def RaisesS (X:Cx) (E:XS):Prop:=∀ (pins:List (Addr × Obj)) (σ:St) (H:Hp) (s:Shared) (e C:Addr) (od:Option Addr),Inv X pins σ H s->H e = some (exO true e C od)->E σ (.ref C) (some e) (upd H e (exO false e C od))->X.xe (.ref e) s
theorem passesN {X:Cx}:PassesS X (fun _=>E0):=fun _ _ _ _ _ _ _ ⟨_,_,_,_,_,_,_,_,_,_,_,_,_,_,h⟩=>h.elim
section
variable {P:Program} {w:World} {K:PySem.W.Frag} {mg:Str->Option Value} {base:Heap} {N:List Str} {qual:Str} {scope:Scope} {f:Addr} {cd:Value} {A:Around} {outer:List Env} {s₀:Shared} {H₀:Hp} {E:XK}
theorem passesB:PassesS (cxOf (CXx P w) P w K mg base N qual scope f cd A outer s₀ H₀ E) (fun _=>E):=by
  rintro pins σ H s v s' I ⟨e,C,od,T,H',rfl,os,bare,un,hok,he,hT,nT,fly,hE⟩
  have I':=I.call' (ch:=[]) os un hok bare (fun b z=>absurd z (by simp))
  have hTn:FpOk (cxOf (CXx P w) P w K mg base N qual scope f cd A outer s₀ H₀ E) pins H' T:=I.fpOk hT nT
  show wpAny _ _ (leaving _ (.ref e)) _ _ _
  refine leave_next I.ok.frames I'.stack rfl fly fun h2 T2 Nd=>?_
  have J:=I'.noted (ch:=[T]) he Nd (fun b hb=>by have:=List.mem_singleton.mp hb; subst this; exact hTn)
  rw [upd_id he] at J
  exact ⟨e,C,od,T2,H',rfl,J.os,J.bare,J.base,J.hok,he,Nat.le_trans I'.sz Nd.new,I'.hok.fresh Nd.new,Nd.fly,hE⟩
theorem raisesB:RaisesS (cxOf (CXx P w) P w K mg base N qual scope f cd A outer s₀ H₀ E) (fun _=>E):=by
  rintro pins σ H s e C od I he hE
  obtain ⟨vs,sl,g,hz,hr⟩:=exc_of I.hok he
  show wpAny _ _ (leaving _ (.ref e)) _ _ _
  refine leave_new I.ok.frames I.stack rfl g rfl (hr rfl) fun h2 T2 Nd=>?_
  have J:=I.noted (ch:=[]) he Nd (fun b hb=>by cases hb)
  exact ⟨e,C,od,T2,_,rfl,J.os,J.bare,J.base,J.hok,upd_same,Nat.le_trans I.sz Nd.new,by rw [upd_ne (fun z=>by rw [← z] at g; exact absurd (Heap.lt_size g) (Nat.not_lt.mpr Nd.new))]; exact I.hok.fresh Nd.new,Nd.fly,hE⟩
theorem Fun.okX {x qual:Str} {st:Stmt} {f:Addr} {fd:FuncData} {N ps:List Str} {k:Nat} {sp:Sp} (F:Fun K x qual st f fd) (S:FnScope N ps (defScope st)) (len:∀ vs H Q E,sp vs H Q E->vs.length = ps.length)
    (hbody:∀ (cdv:Value) (A:Around) (outer:List Env) (s:Shared) (H:Hp) (vs:List V) (Q:VK) (E:XK),Room k (A.deeper (envOfC qual (defScope st) s.heap.objs.size f cdv))->sp vs H Q E →
      ∃ t,PSs (cxOf (CXx P w) P w K mg base N qual (defScope st) f cdv A outer s H E) (defBody st) t /\ t { nx:=fun _ H'=>Q .non H',rt:=Q } (start N vs) H):FnOk P w K mg base (CXx P w) (k + 1) f fd ps sp:=by
  obtain ⟨oc,od,kV,doc,pm,an,cdv,ct,osl,rfl,lk,hcd⟩:=F.ex
  exact fn_of lk hcd S len fun A outer s H vs Q E hr hsp=>hbody cdv A outer s H vs Q E hr hsp
end
open PySem PySem.Spec PyProof.Rows
section
variable (P:Program) (w:World) (K:PySem.W.Frag) (mg:Str->Option Value) (base:Heap)
structure DefX (x:Str) (k:Nat) (ps:List Str) (sp:Sp):Prop where
  ex:∃ (f:Addr) (fd:FuncData),mg x = some (.ref f) /\ FnOk P w K mg base (CXx P w) k f fd ps sp /\ PySem.W.keepIn K (.ref f) = true /\ Binds K fd ps []
structure MethX (C:Addr) (m:Str) (k:Nat) (ps:List Str) (sp:Sp):Prop where
  ex:∃ (f:Addr) (fd:FuncData),Meth K C m f /\ FnOk P w K mg base (CXx P w) k f fd ps sp /\ Binds K fd ps []
structure MakeX (x:Str) (C:Addr) (k:Nat) (ps:List Str) (sp:Sp):Prop where
  ex:∃ (f:Addr) (fd:FuncData),mg x = some (.ref C) /\ Mk K C f /\ FnOk P w K mg base (CXx P w) k f fd ps sp /\ Binds K fd ps []
structure XMk (K:PySem.W.Frag) (C f:Addr):Prop where
  cls:XCls K C
  init:PySem.W.findIn K (.ref C) "__init__" = some (some (.ref f))
  fn:PySem.W.isFn K (.ref f) = true
  kp:PySem.W.keepIn K (.ref C) = true
structure ExcX (x:Str) (C:Addr) (k:Nat) (ps:List Str) (sp:Sp):Prop where
  ex:∃ (f:Addr) (fd:FuncData),mg x = some (.ref C) /\ XMk K C f /\ FnOk P w K mg base (CXx P w) k f fd ps sp /\ Binds K fd ps []
end
def tCallS (sp:Sp) (E:XS) (t:TA):TE:=fun σ H Q=>t σ H fun vs H1=>sp vs H1 Q (E σ)
def tMethS (C:Addr) (m:Str) (sp:Sp) (E:XS) (ta:TE) (t:TA):TE:=fun σ H Q=>ta σ H fun x H1=>∃ a dx fs,x = .ref a /\ H1 a = some (.ins C dx fs) /\ fs.lookup m = none /\ t σ H1 fun vs H2=>sp (x :: vs) H2 Q (E σ)
def tMakeS (C:Addr) (sp:Sp) (E:XS) (t:TA):TE:=fun σ H Q=>t σ H fun vs H1=>∀ x dx,H1 x = none->H1 dx = none->dx ≠ x →
  sp (.ref x :: vs) (upd (upd H1 dx (.own x)) x (.ins C dx [])) (fun v H2=>v = .non /\ Q (.ref x) H2) (E σ)
def tExc (C:Addr) (sp:Sp) (t:TA):TE:=fun σ H Q=>t σ H fun vs H1=>vs.length ≤ sizeLine /\ ∀ x,H1 x = none->sp (.ref x :: vs) (upd H1 x (exO true x C none)) (fun v H2=>v = .non /\ Q (.ref x) H2) E0
section
variable {X:Cx} {k:Nat} {f C:Addr} {fd:FuncData} {ps:List Str} {sp:Sp} {E:XS} {x m:Str} {p pos apos:Pos} {e o:Expr} {es:List Expr} {ta:TE} {t:TA}
theorem run_fnS {pins:List (Addr × Obj)} {σ:St} {H:Hp} {s:Shared} {Q:VK} {us:List Value} {vs:List V} (F:FnOk X.prog X.w X.K X.mg X.base (CXx X.prog X.w) k f fd ps sp) (hr:Room k X.A) (hb:Binds X.K fd ps []) (hx:PassesS X E)
    (I:Inv X pins σ H s) (r:Vals vs us) (h:sp vs H Q (E σ)):wpAny (model X.prog X.w) X.A (call (.ref f) us) (EP X pins σ Q) X.xe s:=by
  have hl:us.length = ps.length:=by rw [← r.length]; exact F.len _ _ _ _ h
  have hb':=hb s us I.kIn (by rw [List.append_nil]; exact hl)
  rw [List.append_nil] at hb'
  refine wpAny_call (codeAny_mono (F.run X.A X.stack s H ⟨us,[]⟩ us vs Q (E σ) hr I.env0 hb' r h) fun r s' hq=>?_)
  cases r with
  | error e=>exact hx pins σ H s e s' I hq
  | ok fl =>
    cases fl with
    | ret u=>exact I.after hq
    | next=>exact False.elim hq
    | brk=>exact False.elim hq
    | cont=>exact False.elim hq
theorem pe_callS (D:DefX X.prog X.w X.K X.mg X.base x k ps sp) (hx:PassesS X E) (hr:Room k X.A) (hg:Gl X x) (ha:PA X (e :: es) t)
    (hdb:(x == ("__debug__":Str)) = false:=by decide) (he:starEach (e :: es) X.env = (false,eval e X.env) :: starEach es X.env:=by rfl) (hpl:(backTo pos (starEach es X.env)).any (·.1) = false:=by rfl) :
    PE X (.Call (.Name x p) (e :: es) [] pos) (tCallS sp E t):=by
  obtain ⟨f,fd,m,F,kp,b⟩:=D.ex
  intro pins s σ H Q I h
  refine wpAny_Call_Name_kw (ld_glob I hg m ?_ hdb)
  refine PySem.W.callWith_K (h₀:=X.base) I.ok.mod.kin kp (thn (ha pos pins s σ H _ I h) fun us s1 ⟨vs,H1,I1,r,q⟩=>⟨I1.kIn,?_⟩) he hpl
  exact run_fnS F hr b hx I1 r q
theorem pe_methS {pl:Sem Bool} (he:PE X o ta) (c:Cls X.K C) (D:MethX X.prog X.w X.K X.mg X.base C m k ps sp) (hx:PassesS X E) (hr:Room k X.A) (ha:PA X (e :: es) t)
    (hst:starEach (e :: es) X.env = (false,eval e X.env) :: starEach es X.env:=by rfl) (hpl:(backTo pos (starEach es X.env)).any (·.1) = false:=by rfl)
    (ht:eval (.Call (.Attribute o m apos) (e :: es) [] pos) X.env = (do
      let ov ← eval o X.env
      standAt apos.atName
      let (f,first) ← holding [ov] (getMethod ov m pl)
      callWith pos f first (backTo pos (starEach (e :: es) X.env)) (backToKw pos (keywordEach [] X.env))):=by rfl) :
    PE X (.Call (.Attribute o m apos) (e :: es) [] pos) (tMethS C m sp E ta t):=by
  obtain ⟨f,fd,hm,F,b⟩:=D.ex
  intro pins s σ H Q I h
  refine PySem.W.methodCall_KW (pl:=pl) (thn (he pins s σ H _ I h) fun u s1 ⟨x,H1,I1,rx,a,dx,fs,ex,ea,l,q⟩=>?_) ht
  subst ex
  obtain rfl:u = Value.ref a:=rx
  refine getmeth_ok I1 ea c hm l ?_
  refine PySem.W.callWith_K (first:=[.ref a]) (h₀:=X.base) I.ok.mod.kin hm.kp (thn (ha pos pins s1 σ H1 _ I1 q) fun us s2 ⟨vs,H2,I2,r,q2⟩=>⟨I2.kIn,?_⟩) hst hpl
  exact run_fnS (us:=.ref a :: us) (vs:=.ref a :: vs) F hr b hx I2 (.cons rfl r) q2
theorem pe_methS0 {pl:Sem Bool} (he:PE X o ta) (c:Cls X.K C) (D:MethX X.prog X.w X.K X.mg X.base C m k ps sp) (hx:PassesS X E) (hr:Room k X.A)
    (ht:eval (.Call (.Attribute o m apos) [] [] pos) X.env = (do
      let ov ← eval o X.env
      standAt apos.atName
      let (f,first) ← holding [ov] (getMethod ov m pl)
      callWith pos f first (backTo pos (starEach [] X.env)) (backToKw pos (keywordEach [] X.env))):=by rfl) :
    PE X (.Call (.Attribute o m apos) [] [] pos) (tMethS C m sp E ta tNil):=by
  obtain ⟨f,fd,hm,F,b⟩:=D.ex
  intro pins s σ H Q I h
  refine PySem.W.methodCall_KW (pl:=pl) (thn (he pins s σ H _ I h) fun u s1 ⟨x,H1,I1,rx,a,dx,fs,ex,ea,l,q⟩=>?_) ht
  subst ex
  obtain rfl:u = Value.ref a:=rx
  refine getmeth_ok I1 ea c hm l ?_
  exact PySem.W.callWith_K0 (first:=[.ref a]) I1.kIn hm.kp (run_fnS (us:=[.ref a]) (vs:=[.ref a]) F hr b hx I1 (.cons rfl .nil) q)
theorem run_makeS {pins:List (Addr × Obj)} {σ:St} {H:Hp} {s:Shared} {Q:VK} {us:List Value} {vs:List V} (M:Mk X.K C f) (F:FnOk X.prog X.w X.K X.mg X.base (CXx X.prog X.w) k f fd ps sp) (hr:Room (k + 1) X.A) (hb:Binds X.K fd ps [])
    (hx:PassesS X E) (I:Inv X pins σ H s) (r:Vals vs us)
    (h:∀ x dx,H x = none->H dx = none->dx ≠ x->sp (.ref x :: vs) (upd (upd H dx (.own x)) x (.ins C dx [])) (fun v H2=>v = .non /\ Q (.ref x) H2) (E σ)) :
    wpAny (model X.prog X.w) X.A (call (.ref C) us) (EP X pins σ Q) X.xe s:=by
  have hq:=h (s.heap.objs.size + 1) s.heap.objs.size (I.hok.fresh (Nat.le_succ _)) (I.hok.fresh (Nat.le_refl _)) (Nat.ne_of_lt (Nat.lt_succ_self _))
  have I2:=Inv.made (C:=C) I
  have r2:Vals (V.ref (s.heap.objs.size + 1) :: vs) (Value.ref (s.heap.objs.size + 1) :: us):=.cons rfl r
  have hl:(Value.ref (s.heap.objs.size + 1) :: us).length = ps.length:=by
    have e:=r2.length
    rw [F.len _ _ _ _ hq] at e
    exact e.symm
  have hb':=hb _ (Value.ref (s.heap.objs.size + 1) :: us) I2.kIn (by rw [List.append_nil]; exact hl)
  rw [List.append_nil] at hb'
  refine wpAny_call (make_map (f:=f) I.kIn M.makes M.init (beq_iff_eq.mp M.fn) (codeAny_mono (F.run _ X.stack _ _ ⟨Value.ref (s.heap.objs.size + 1) :: us,[]⟩ (Value.ref (s.heap.objs.size + 1) :: us) _ _ (E σ) (hr.make C us [])
    (I2.env0.make C us []) hb' r2 hq) fun r s' hq'=>?_))
  cases r with
  | error e=>exact hx pins σ _ _ e s' I2 hq'
  | ok fl =>
    cases fl with
    | ret u =>
      obtain ⟨v,H',I3,rv,ev,q3⟩:=I2.after hq'
      subst ev
      exact ⟨rv,⟨V.ref (s.heap.objs.size + 1),H',I3,rfl,q3⟩⟩
    | next=>exact False.elim hq'
    | brk=>exact False.elim hq'
    | cont=>exact False.elim hq'
theorem pe_makeS (D:MakeX X.prog X.w X.K X.mg X.base x C k ps sp) (hx:PassesS X E) (hr:Room (k + 1) X.A) (hg:Gl X x) (ha:PA X (e :: es) t)
    (hdb:(x == ("__debug__":Str)) = false:=by decide) (he:starEach (e :: es) X.env = (false,eval e X.env) :: starEach es X.env:=by rfl) (hpl:(backTo pos (starEach es X.env)).any (·.1) = false:=by rfl) :
    PE X (.Call (.Name x p) (e :: es) [] pos) (tMakeS C sp E t):=by
  obtain ⟨f,fd,m,M,F,b⟩:=D.ex
  intro pins s σ H Q I h
  refine wpAny_Call_Name_kw (ld_glob I hg m ?_ hdb)
  refine PySem.W.callWith_K (h₀:=X.base) I.ok.mod.kin M.kp (thn (ha pos pins s σ H _ I h) fun us s1 ⟨vs,H1,I1,r,q⟩=>⟨I1.kIn,?_⟩) he hpl
  exact run_makeS M F hr b hx I1 r q
theorem Inv.xmade {pins:List (Addr × Obj)} {σ:St} {H:Hp} {s:Shared} {rest:List Value} (I:Inv X pins σ H s) :
    Inv X pins σ (upd H (s.heap.objs.size + 1) (exO true (s.heap.objs.size + 1) C none)) { s with heap:=(s.heap.push (tupNew rest)).push (excNew C s.heap.objs.size) }:=by
  refine I.laid (a:=s.heap.objs.size + 1) (t':=s.toks) (fun b u q=>xkeeps b u q) (Nat.le_succ _) (objOk_exc ⟨_,_,xnew_at,rfl,fun _=>rfl⟩)
theorem run_exc {pins:List (Addr × Obj)} {σ:St} {H:Hp} {s:Shared} {Q:VK} {us:List Value} {vs:List V} (M:XMk X.K C f) (F:FnOk X.prog X.w X.K X.mg X.base (CXx X.prog X.w) k f fd ps sp) (hr:Room (k + 1) X.A) (hb:Binds X.K fd ps [])
    (I:Inv X pins σ H s) (r:Vals vs us) (hlen:vs.length ≤ sizeLine) (h:∀ x,H x = none->sp (.ref x :: vs) (upd H x (exO true x C none)) (fun v H2=>v = .non /\ Q (.ref x) H2) E0) :
    wpAny (model X.prog X.w) X.A (call (.ref C) us) (EP X pins σ Q) X.xe s:=by
  have hq:=h (s.heap.objs.size + 1) (I.hok.fresh (Nat.le_succ _))
  have I2:=Inv.xmade (C:=C) (rest:=us) I
  have r2:Vals (V.ref (s.heap.objs.size + 1) :: vs) (Value.ref (s.heap.objs.size + 1) :: us):=.cons rfl r
  have hl:(Value.ref (s.heap.objs.size + 1) :: us).length = ps.length:=by
    have e:=r2.length
    rw [F.len _ _ _ _ hq] at e
    exact e.symm
  have hb':=hb _ (Value.ref (s.heap.objs.size + 1) :: us) I2.kIn (by rw [List.append_nil]; exact hl)
  rw [List.append_nil] at hb'
  have run:=F.run _ X.stack _ _ ⟨Value.ref (s.heap.objs.size + 1) :: us,[]⟩ (Value.ref (s.heap.objs.size + 1) :: us) _ _ E0 (hr.make C us []) (I2.env0.make C us []) hb' r2 hq
  obtain ⟨hp,g,d,t,os⟩:=s
  refine xcall_init I.kIn M.cls (by rw [← r.length]; exact hlen) M.init (beq_iff_eq.mp M.fn) (wpAny_call (codeAny_mono run fun r s' hq'=>?_))
  cases r with
  | error e =>
    obtain ⟨_,_,_,_,_,_,_,_,_,_,_,_,_,_,z⟩:=hq'
    exact z.elim
  | ok fl =>
    cases fl with
    | ret u =>
      obtain ⟨v,H',I3,rv,ev,q3⟩:=I2.after hq'
      subst ev
      exact ⟨rv,⟨V.ref (hp.objs.size + 1),H',I3,rfl,q3⟩⟩
    | next=>exact False.elim hq'
    | brk=>exact False.elim hq'
    | cont=>exact False.elim hq'
theorem pe_exc (D:ExcX X.prog X.w X.K X.mg X.base x C k ps sp) (hr:Room (k + 1) X.A) (hg:Gl X x) (ha:PA X (e :: es) t)
    (hdb:(x == ("__debug__":Str)) = false:=by decide) (he:starEach (e :: es) X.env = (false,eval e X.env) :: starEach es X.env:=by rfl) (hpl:(backTo pos (starEach es X.env)).any (·.1) = false:=by rfl) :
    PE X (.Call (.Name x p) (e :: es) [] pos) (tExc C sp t):=by
  obtain ⟨f,fd,m,M,F,b⟩:=D.ex
  intro pins s σ H Q I h
  refine wpAny_Call_Name_kw (ld_glob I hg m ?_ hdb)
  refine PySem.W.callWith_K (h₀:=X.base) I.ok.mod.kin M.kp (thn (ha pos pins s σ H _ I h) fun us s1 ⟨vs,H1,I1,r,hlen,q⟩=>⟨I1.kIn,?_⟩) he hpl
  exact run_exc M F hr b I1 r hlen q
end
def sRaise (K:PySem.W.Frag) (te:TE) (E:XS):TS:=fun _ σ H=>te σ H fun v H1=>∃ e C od,v = .ref e /\ H1 e = some (exO true e C od) /\ XCls K C /\ E σ (.ref C) (some e) (upd H1 e (exO false e C od))
section
variable {X:Cx} {x:Expr} {te:TE} {E:XS} {pos:Pos}
theorem raise_ok {M:Model} {A:Around} {E:Value->Shared->Prop} {env:Env} {s:Shared} {x:Sem Value} {Q:Flow->Shared->Prop} (hh:A.handled = none)
    (h:wpAny M A x (fun v s₁=>∃ e vs sl C od,v = .ref e /\ s₁.heap.get? e = some ⟨.ref C,od,.fields vs,sl⟩ /\ vs[1]? = some .none /\ XObj s₁.heap C /\ E (.ref e) s₁) E s) :
    wpAny M A (raiseStmt env (some x) none) Q E s:=by
  unfold raiseStmt
  refine wpAny_bind (wpAny_mono h (fun v s₁ h₁=>?_) fun _ _ x=>x)
  obtain ⟨e,vs,sl,C,od,rfl,he,h1,hC,hE⟩:=h₁
  obtain ⟨nm,qn,N,bs,bm,sn,sub,ab,col,dd,k0,k1,k2,k3,k5,hC,hb⟩:=hC.ex
  have hcB:=own_has (C:=C) hb (T:="BaseException") (by decide)
  obtain ⟨hp,g,d,tk,os⟩:=s₁
  repeat (first
    | with_reducible refine wpAny_loadPart_at he ?_
    | with_reducible refine wpAny_loadPart_at hC ?_
    | (with_reducible refine wpAny_isSubtype_exc hC ?_; rw [hcB])
    | with_reducible refine wpAny_field he rfl h1 ?_
    | wp_step)
  exact wpAny_raiseNew_none hh hE
theorem ps_raise (hc:X.calm = true) (hx:RaisesS X E) (he:PE X x te):PS X (.Raise (some x) none pos) (sRaise X.K te E):=by
  intro pins s σ H D I h
  rw [arm_exec_Raise]
  have hh:=I.ok.hd hc
  have key:wpAny (model X.prog X.w) X.A (eval x X.env) (fun v s₁=>∃ e vs sl C od,v = .ref e /\ s₁.heap.get? e = some ⟨.ref C,od,.fields vs,sl⟩ /\ vs[1]? = some .none /\ XObj s₁.heap C /\ X.xe (.ref e) s₁) X.xe s:=by
    refine thn (he pins s σ H _ I h) fun u s1 ⟨v,H1,I1,rv,e,C,od,ev,eo,hcl,hE⟩=>?_
    subst ev
    cases (show u = Value.ref e from rv)
    obtain ⟨vs,sl,g,hz,hr⟩:=exc_of I1.hok eo
    exact ⟨e,vs,sl,C,od,rfl,g,hr rfl,hcl.at I1.kIn,hx pins σ H1 s1 e C od I1 eo hE⟩
  exact wpAny_bind (wpAny_standAt (raise_ok hh (wpAny_bind (wpAny_mono key (fun v s₁ h₁=>wpAny_bind (wpAny_standAt (wpAny_pure h₁))) fun _ _ x=>x))))
end
open PySem PySem.Spec PyProof.Rows
section
variable {M:Model} {A:Around} {E:Value->Shared->Prop} {s:Shared} {K:PySem.W.Frag} {e C DC:Addr} {b:Bool}
theorem xmatch {ox:Obj} {Q:Bool->Shared->Prop} (X:K.In s.heap) (hx:s.heap.get? e = some ox) (hcl:ox.cls = .ref C) (cd:XCls K DC) (hm:PySem.W.mroIn K C (.ref DC) = some b) (h:Q b s) :
    wpAny M A (excMatches (.ref e) (.ref DC)) Q E s:=by
  obtain ⟨hp,g,d,t,os⟩:=s
  obtain ⟨nm,qn,N,bs,bm,sn,sub,ab,col,dd,k0,k1,k2,k3,k5,hC,hb⟩:=(cd.at X).ex
  have hcB:=own_has (C:=DC) hb (T:="BaseException") (by decide)
  have f:=tc_notTuple
  have L0:PySem.W.Looks M hp (typeOf (.ref e)) (.ref C):=hcl ▸ (PySem.W.Looks.ld hx).andThen .now
  have L1:=PySem.W.looks_mroIn (M:=M) X hm
  unfold excMatches
  repeat (first
    | with_reducible refine wpAny_loadPart_at hC ?_
    | (with_reducible refine wpAny_isSubtype_exc hC ?_; rw [hcB])
    | with_reducible refine L0.at ?_
    | with_reducible refine L1.at ?_
    | wp_step)
  cases b
  · wp_walk; exact h
  · wp_walk; exact h
end
abbrev Cx.held (X:Cx) (e:Addr) (pn:List (Addr × Obj)):Cx:={ X with A:=X.A.mark (some (.ref e)),calm:=false,pn:=pn,xe:=fun _ _=>False }
abbrev Cx.tried (X:Cx) (pn:List (Addr × Obj)) (xe:Value->Shared->Prop):Cx:={ X with pn:=pn,xe:=xe }
section
variable {X:Cx} {pins:List (Addr × Obj)} {σ:St} {H:Hp} {s:Shared} {e:Addr} {xe:Value->Shared->Prop}
theorem Inv.held (I:Inv X pins σ H s) (e:Addr):Inv (X.held e (X.pn ++ pins)) [] σ H s :=
  ⟨⟨I.ok.mod,I.ok.kind,I.ok.glob,I.ok.blt,I.ok.above,I.ok.inj,I.ok.has,I.ok.cab,(fun z=>by cases z),I.ok.frames,I.ok.stk,I.ok.exf,I.ok.bs,I.ok.bsz,I.ok.noex,I.ok.exfs,I.ok.funs,I.ok.frf⟩,
    I.os,I.bare,I.base,I.loc,I.cell,I.free,I.freeC,fun p hp=>I.pin p (by simpa using hp),I.hok,I.len⟩
theorem Inv.unheld (ok:X.Ok) (I:Inv (X.held e (X.pn ++ pins)) [] σ H s):Inv X pins σ H s :=
  ⟨ok,I.os,I.bare,I.base,I.loc,I.cell,I.free,I.freeC,fun p hp=>I.pin p (by simpa using hp),I.hok,I.len⟩
theorem Inv.tried (I:Inv X pins σ H s):Inv (X.tried (X.pn ++ pins) xe) [] σ H s :=
  ⟨⟨I.ok.mod,I.ok.kind,I.ok.glob,I.ok.blt,I.ok.above,I.ok.inj,I.ok.has,I.ok.cab,I.ok.hd,I.ok.frames,I.ok.stk,I.ok.exf,I.ok.bs,I.ok.bsz,I.ok.noex,I.ok.exfs,I.ok.funs,I.ok.frf⟩,
    I.os,I.bare,I.base,I.loc,I.cell,I.free,I.freeC,fun p hp=>I.pin p (by simpa using hp),I.hok,I.len⟩
theorem Inv.untried {ps:List (Addr × Obj)} (ok:X.Ok) (I:Inv (X.tried (X.pn ++ pins) xe) ps σ H s):Inv X pins σ H s :=
  ⟨ok,I.os,I.bare,I.base,I.loc,I.cell,I.free,I.freeC,fun p hp=>I.pin p (List.mem_append_left _ hp),I.hok,I.len⟩
end
abbrev TH:=Addr->Addr->TS
def PH (X:Cx) (hs:List ExceptHandler) (th:TH):Prop :=
  ∀ (pins:List (Addr × Obj)) (s:Shared) (σ:St) (H:Hp) (D:Ends) (e C:Addr) (od:Option Addr) (T:Addr),Inv X pins σ H s->H e = some (exO false e C od)->Fly s.heap e T .none->FpOk X pins H T->th e C D σ H →
    wpAny (model X.prog X.w) X.A (handleBy (.ref e) X.env hs) (SP X pins D) X.xe s
def hNil:TH:=fun _ _ _ _ _=>False
theorem ph_nil {X:Cx}:PH X [] hNil:=fun _ _ _ _ _ _ _ _ _ _ _ _ _ h=>h.elim
def hPl (K:PySem.W.Frag) (DC:Addr) (ts:Addr->List (Addr × Obj)->TS) (tr:TH):TH:=fun e C D σ H=>∃ b,PySem.W.mroIn K C (.ref DC) = some b /\ if b = true then (∀ pn,ts e pn D σ H) else tr e C D σ H
section
variable {X:Cx} {x n:Str} {i:Nat} {DC:Addr} {np pos:Pos} {b0:Stmt} {suite:List Stmt} {rest:List ExceptHandler} {ts:Addr->List (Addr × Obj)->TS} {tr:TH}
theorem SP.unheld {pins:List (Addr × Obj)} {D:Ends} {e:Addr} {fl:Flow} {s':Shared} (ok:X.Ok) (h:SP (X.held e (X.pn ++ pins)) [] D fl s'):SP X pins D fl s':=by
  cases fl with
  | next=>obtain ⟨σ',H',J,q⟩:=h; exact ⟨σ',H',J.unheld ok,q⟩
  | brk=>obtain ⟨σ',H',J,q⟩:=h; exact ⟨σ',H',J.unheld ok,q⟩
  | cont=>obtain ⟨σ',H',J,q⟩:=h; exact ⟨σ',H',J.unheld ok,q⟩
  | ret u=>obtain ⟨v,σ',H',J,r,q⟩:=h; exact ⟨v,σ',H',J.unheld ok,r,q⟩
theorem SP.untried {pins:List (Addr × Obj)} {D:Ends} {xe:Value->Shared->Prop} {fl:Flow} {s':Shared} (ok:X.Ok) (h:SP (X.tried (X.pn ++ pins) xe) [] D fl s'):SP X pins D fl s':=by
  cases fl with
  | next=>obtain ⟨σ',H',J,q⟩:=h; exact ⟨σ',H',J.untried ok,q⟩
  | brk=>obtain ⟨σ',H',J,q⟩:=h; exact ⟨σ',H',J.untried ok,q⟩
  | cont=>obtain ⟨σ',H',J,q⟩:=h; exact ⟨σ',H',J.untried ok,q⟩
  | ret u=>obtain ⟨v,σ',H',J,r,q⟩:=h; exact ⟨v,σ',H',J.untried ok,r,q⟩
theorem ph_pl (hg:Gl X x) (hm:X.mg x = some (.ref DC)) (c:XCls X.K DC) (hs:∀ e pn,PSs (X.held e pn) (b0 :: suite) (ts e pn)) (hr:PH X rest tr) (hd:(x == ("__debug__":Str)) = false:=by decide) :
    PH X (.ExceptHandler (some (.Name x np)) none (b0 :: suite) pos :: rest) (hPl X.K DC ts tr):=by
  rintro pins s σ H D e C od T I q fly fp ⟨b,hb,h⟩
  obtain ⟨vs,sl,g,_⟩:=exc_of I.hok q
  have IH:=I.held e
  refine wpAny_handleBy_cons (codeAny_handlers_test (ld_glob (X:=X.held e (X.pn ++ pins)) IH hg hm ?_ hd)) (by intro z; cases z)
  refine xmatch I.kIn g rfl c hb ?_
  cases b with
  | false =>
    rw [if_neg (by decide)] at h
    exact hr pins s σ H D e C od T I q fly fp h
  | true =>
    rw [if_pos rfl] at h
    refine codeAny_handlers_suite (flight_none fly fun h2 k _ fly2=>?_)
    have I2:=I.landed fp k
    refine wpAny_mono (hs e _ [] _ _ _ _ (I2.held e) (h _)) (fun fl s4 h4=>?_) fun _ _ z=>z.elim
    exact SP.unheld I.ok h4
def tTry (tb:List (Addr × Obj)->(Value->Shared->Prop)->XS->TS) (th:TH):TS:=fun D σ H=>∀ pn xe,tb pn xe (fun σ' cls oe H'=>∃ e C,cls = .ref C /\ oe = some e /\ th e C D σ' H') D σ H
theorem ps_try {body:List Stmt} {h0:ExceptHandler} {hs:List ExceptHandler} {tb:List (Addr × Obj)->(Value->Shared->Prop)->XS->TS} {th:TH} (hb:∀ pn xe E,PassesS (X.tried pn xe) E->PSs (X.tried pn xe) body (tb pn xe E)) (hh:PH X (h0 :: hs) th) (hst:X.stack = X.env :: X.outer) (hfr:X.env.frame = some X.env.locals) :
    PS X (.Try body (h0 :: hs) [] [] pos) (tTry tb th):=by
  intro pins s σ H D I h
  refine wpAny_Try_except ?_
  refine wpAny_mono (hb (X.pn ++ pins) (fun v s₁=>wpAny (model X.prog X.w) X.A (noteFrame v X.env) (fun _ s₂=>wpAny (model X.prog X.w) X.A (setFlight v none) (fun _ s₃=>wpAny (model X.prog X.w) X.A (handleBy v X.env (h0 :: hs)) (SP X pins D) X.xe s₃) X.xe s₂) X.xe s₁)
    (fun σ' cls oe H'=>∃ e C,cls = .ref C /\ oe = some e /\ th e C D σ' H') ?_ [] s σ H D I.tried (h _ _)) (fun fl s1 h1=>?_) fun v s1 h1=>h1
  · rintro ps σ' H1 s1 v s2 J ⟨e,C,od,T,H2,rfl,os,bare,un,hok,he,hT,nT,fly,e',C',ec,ee,hth⟩
    cases ec
    cases ee
    have J2:=J.call' (ch:=[]) os un hok bare (fun b z=>absurd z (by simp))
    have K2:Inv X pins σ' H2 s2:=J2.untried I.ok
    have fp:FpOk X pins H2 T:=(J.untried I.ok).fpOk hT nT
    have fr:X.A.frames = some (X.env :: X.outer):=by rw [← hst]; exact I.ok.frames
    show wpAny _ _ (noteFrame (.ref e) X.env) _ _ _
    refine note_next fr (by rw [← hst]; exact K2.stack) hfr fly fun h3 T3 Nd=>?_
    rw [← hst] at Nd
    have K3:=K2.noted (ch:=[T]) he Nd (fun b hb=>by have:=List.mem_singleton.mp hb; subst this; exact fp)
    rw [upd_id he] at K3
    have fp3:FpOk X pins H2 T3:=K2.fpOk Nd.new (K2.hok.fresh Nd.new)
    refine flight_none (s:={ s2 with heap:=h3 }) Nd.fly fun h4 k4 _ fly4=>?_
    have K4:=K3.landed fp3 k4
    exact hh pins _ σ' H2 D e C od T3 K4 he fly4 fp3 hth
  · cases fl with
    | next=>exact wpAny_execs_nil (SP.untried I.ok h1)
    | brk=>exact SP.untried I.ok h1
    | cont=>exact SP.untried I.ok h1
    | ret u=>exact SP.untried I.ok h1
end
open PySem PySem.Spec PyProof.Rows
theorem cxx_no {P:Program} {w:World} {o:List Env} {H:Hp} {s s':Shared} {e:Value} (h:CXx P w o H s (fun _ _ _=>False) e s'):False:=by
  obtain ⟨_,_,_,_,_,_,_,_,_,_,_,_,_,_,z⟩:=h
  exact z
def sp_x1 (C:Addr) (f:Str):Sp:=fun vs H Q _=>∃ p y,vs = [.ref p,y] /\ H p = some (exO true p C none) /\ ∀ dx,H dx = none->Q .non (upd (upd H dx (xdO dx [(f,y)])) p (exO true p C (some dx)))
def sp_x2 (C:Addr) (f g:Str):Sp:=fun vs H Q _=>∃ p y z,vs = [.ref p,y,z] /\ H p = some (exO true p C none) /\ ∀ dx,H dx = none->Q .non (upd (upd H dx (xdO dx [(f,y),(g,z)])) p (exO true p C (some dx)))
theorem x2_swap {H:Hp} {p dx C:Addr} {f g:Str} {y z:V} {Q:Hp->Prop} (hne:p ≠ dx) (hfg:¬ f = g) (h:Q (upd (upd H dx (xdO dx [(f,y),(g,z)])) p (exO true p C (some dx)))) :
    Q (upd (upd (upd H dx (xdO dx [(f,y)])) p (exO true p C (some dx))) dx (xdO dx (putF g z [(f,y)]))):=by
  have e:putF g z [(f,y)] = [(f,y),(g,z)]:=by
    show (if f = g then _ else _) = _
    rw [if_neg hfg]; rfl
  rw [e]
  have:upd (upd (upd H dx (xdO dx [(f,y)])) p (exO true p C (some dx))) dx (xdO dx [(f,y),(g,z)]) = upd (upd H dx (xdO dx [(f,y),(g,z)])) p (exO true p C (some dx)):=by
    funext b
    unfold upd
    by_cases h1:b = dx
    · subst h1; simp [hne.symm]
    · by_cases h2:b = p <;> simp [h1,h2,hne]
  rw [this]; exact h
section
variable {K:PySem.W.Frag} {C:Addr} {f g:Str} {y z:V} {H1:Hp} {E:XK}
theorem excAt_made {H1:Hp} {x dx C:Addr} {fs:List (Str × V)} (hx:H1 x = none) (hdx:upd H1 x (exO true x C none) dx = none) :
    ExcAt (upd (upd (upd (upd H1 x (exO true x C none)) dx (xdO dx fs)) x (exO true x C (some dx))) x (exO false x C (some dx))) x C fs /\ Same H1 (upd (upd (upd (upd H1 x (exO true x C none)) dx (xdO dx fs)) x (exO true x C (some dx))) x (exO false x C (some dx))):=by
  have hne:dx ≠ x:=fun e=>by rw [e,upd_same] at hdx; cases hdx
  have hn:H1 dx = none:=by rw [upd_ne hne] at hdx; exact hdx
  refine ⟨⟨false,some dx,upd_same,?_,hne⟩,fun b o q=>?_⟩
  · rw [upd_ne hne,upd_ne hne,upd_same]
  · have h1:=ne_of_none q hx
    have h2:=ne_of_none q hn
    rw [upd_ne h1,upd_ne h1,upd_ne h2,upd_ne h1]; exact q
theorem raise1 (c:XCls K C) (h:∀ e H',ExcAt H' e C [(f,y)]->Same H1 H'->E (.ref C) (some e) H') :
    [y].length ≤ sizeLine /\ ∀ x,H1 x = none->sp_x1 C f (.ref x :: [y]) (upd H1 x (exO true x C none)) (fun v H2=>v = .non /\ ∃ e C' od,V.ref x = .ref e /\ H2 e = some (exO true e C' od) /\ XCls K C' /\ E (.ref C') (some e) (upd H2 e (exO false e C' od))) E0 :=
  ⟨by show 1 ≤ sizeLine; decide,fun x hx=>⟨x,y,rfl,upd_same,fun dx hdx=>⟨rfl,x,C,some dx,rfl,upd_same,c,let ⟨a,b⟩:=excAt_made hx hdx; h x _ a b⟩⟩⟩
theorem raise2 (c:XCls K C) (h:∀ e H',ExcAt H' e C [(f,y),(g,z)]->Same H1 H'->E (.ref C) (some e) H') :
    [y,z].length ≤ sizeLine /\ ∀ x,H1 x = none->sp_x2 C f g (.ref x :: [y,z]) (upd H1 x (exO true x C none)) (fun v H2=>v = .non /\ ∃ e C' od,V.ref x = .ref e /\ H2 e = some (exO true e C' od) /\ XCls K C' /\ E (.ref C') (some e) (upd H2 e (exO false e C' od))) E0 :=
  ⟨by show 2 ≤ sizeLine; decide,fun x hx=>⟨x,y,z,rfl,upd_same,fun dx hdx=>⟨rfl,x,C,some dx,rfl,upd_same,c,let ⟨a,b⟩:=excAt_made hx hdx; h x _ a b⟩⟩⟩
end
open PySem
theorem decV {i j:Int} (h:decide (V.int i = V.int j) = true):i = j:=V.int.inj (of_decide_eq_true h)
theorem decVn {i j:Int} (h:¬ decide (V.int i = V.int j) = true):¬ i = j:=fun e=>h (decide_eq_true (congrArg V.int e))
theorem upd_none {H:Hp} {a b:Addr} {o:HO} (h:upd H a o b = none):H b = none /\ b ≠ a:=by
  unfold upd at h
  split at h
  · cases h
  · exact ⟨h,by assumption⟩
theorem rep_flat (n:Nat):(List.replicate n [V.int 0]).flatten = (List.replicate n (0:Int)).map V.int:=by
  induction n with
  | zero=>rfl
  | succ n ih=>rw [List.replicate_succ,List.flatten_cons,ih]; rfl
theorem putF_ne {f g:Str} {v x:V} {r:List (Str × V)} (h:¬ g = f):putF f v ((g,x) :: r) = (g,x) :: putF f v r:=by
  show (if g = f then _ else _) = _
  rw [if_neg h]
theorem putF_eq {f:Str} {v x:V} {r:List (Str × V)}:putF f v ((f,x) :: r) = (f,v) :: r:=by
  show (if f = f then _ else _) = _
  rw [if_pos rfl]
theorem look_ne {f g:Str} {x:V} {r:List (Str × V)} (h:¬ f = g):List.lookup f ((g,x) :: r) = List.lookup f r:=by
  rw [List.lookup_cons]
  have:(f == g) = false:=by simpa using h
  rw [this]
theorem look_eq {f:Str} {x:V} {r:List (Str × V)}:List.lookup f ((f,x) :: r) = some x:=by
  rw [List.lookup_cons]; simp
def Keep (F:List Addr) (H H':Hp):Prop:=∀ b o,H b = some o->b ∉ F->H' b = some o
theorem Keep.of_same {F:List Addr} {H H':Hp} (h:Same H H'):Keep F H H':=fun b o e _=>h b o e
theorem keep_upd {F:List Addr} {H H':Hp} {p:Addr} {o:HO} (s:Keep F H H') (h:p ∈ F ∨ H p = none):Keep F H (upd H' p o):=fun b u e hb=>by
  rw [upd_ne]
  · exact s b u e hb
  · rintro rfl
    rcases h with h | h
    · exact hb h
    · rw [h] at e; cases e
theorem Keep.refl {F:List Addr} {H:Hp}:Keep F H H:=fun _ _ e _=>e
structure Rows (H:Hp) (L:List Addr) (xss:List (List Int)):Prop where
  len:L.length = xss.length
  get:∀ (i:Nat) a xs,L[i]? = some a->xss[i]? = some xs->H a = some (.lst (xs.map V.int))
theorem Rows.mono {H H':Hp} {L:List Addr} {xss:List (List Int)} (R:Rows H L xss) (h:∀ a ∈ L,∀ o,H a = some o->H' a = some o):Rows H' L xss :=
  ⟨R.len,fun i a xs e1 e2=>h a (List.mem_of_getElem? e1) _ (R.get i a xs e1 e2)⟩
theorem Rows.snoc {H:Hp} {L:List Addr} {xss:List (List Int)} (R:Rows H L xss) {a:Addr} {xs:List Int} (h:H a = some (.lst (xs.map V.int))):Rows H (L ++ [a]) (xss ++ [xs]) :=
  ⟨by simp [R.len],fun i b ys e1 e2=>by
    have l:=R.len
    by_cases hi:i < L.length
    · rw [List.getElem?_append_left hi] at e1
      rw [List.getElem?_append_left (by omega)] at e2
      exact R.get i b ys e1 e2
    · rw [List.getElem?_append_right (by omega)] at e1
      rw [List.getElem?_append_right (by omega)] at e2
      have hi2:i - L.length = 0:=by
        have:=(List.getElem?_eq_some_iff.mp e1).1
        simp at this; omega
      rw [hi2] at e1
      rw [show i - xss.length = 0 by omega] at e2
      have e1:a = b:=by simpa using e1
      have e2:xs = ys:=by simpa using e2
      rw [← e1,← e2]; exact h⟩
theorem Rows.at_ {H:Hp} {L:List Addr} {xss:List (List Int)} (R:Rows H L xss) {i:Nat} {xs:List Int} (h:xss[i]? = some xs):∃ a,L[i]? = some a /\ a ∈ L /\ H a = some (.lst (xs.map V.int)):=by
  have hi:i < L.length:=by rw [R.len]; exact (List.getElem?_eq_some_iff.mp h).1
  exact ⟨L[i],List.getElem?_eq_getElem hi,List.getElem_mem hi,R.get i _ xs (List.getElem?_eq_getElem hi) h⟩
theorem Rows.here {H:Hp} {L:List Addr} {xss:List (List Int)} (R:Rows H L xss):∀ a ∈ L,∃ o,H a = some o:=fun a ha=>by
  obtain ⟨i,hi⟩:=List.mem_iff_getElem?.mp ha
  have hl:i < xss.length:=by rw [← R.len]; exact (List.getElem?_eq_some_iff.mp hi).1
  exact ⟨_,R.get i a _ hi (List.getElem?_eq_getElem hl)⟩
structure ChAt (H:Hp) (L:List V) (chs:List (Int × Int)):Prop where
  len:L.length = chs.length
  get:∀ (i:Nat) v,L[i]? = some v->∃ t r,v = V.ref t /\ chs[i]? = some r /\ H t = some (.tup [.int r.1,.int r.2])
theorem ChAt.nil {H:Hp}:ChAt H [] []:=⟨rfl,fun i v e=>by simp at e⟩
theorem ChAt.mono {H H':Hp} {L:List V} {chs:List (Int × Int)} (R:ChAt H L chs) (h:∀ t xs,H t = some (.tup xs)->H' t = some (.tup xs)):ChAt H' L chs :=
  ⟨R.len,fun i v e=>let ⟨t,r,a,b,c⟩:=R.get i v e; ⟨t,r,a,b,h t _ c⟩⟩
theorem ChAt.snoc {H:Hp} {L:List V} {chs:List (Int × Int)} (R:ChAt H L chs) {t:Addr} {r:Int × Int} (h:H t = some (.tup [.int r.1,.int r.2])):ChAt H (L ++ [.ref t]) (chs ++ [r]) :=
  ⟨by simp [R.len],fun i v e=>by
    by_cases hi:i < L.length
    · rw [List.getElem?_append_left hi] at e
      obtain ⟨t,r,a,b,c⟩:=R.get i v e
      exact ⟨t,r,a,by rw [List.getElem?_append_left (by rw [← R.len]; exact hi)]; exact b,c⟩
    · rw [List.getElem?_append_right (by omega)] at e
      have hi2:i - L.length = 0:=by
        have:=(List.getElem?_eq_some_iff.mp e).1
        simp at this; omega
      rw [hi2] at e
      have e:V.ref t = v:=by simpa using e
      refine ⟨t,r,e.symm,?_,h⟩
      rw [List.getElem?_append_right (by rw [← R.len]; omega),← R.len,hi2]; rfl⟩
def fl (wd ls:Int) (ta sa:Addr):List (Str × V):=[("wide",.int wd),("last",.int ls),("tables",.ref ta),("set_places",.ref sa)]
theorem s1:¬ (("wide":Str) = "last"):=by decide +kernel
theorem s2:¬ (("wide":Str) = "tables"):=by decide +kernel
theorem s3:¬ (("wide":Str) = "set_places"):=by decide +kernel
theorem s4:¬ (("last":Str) = "tables"):=by decide +kernel
theorem s5:¬ (("last":Str) = "set_places"):=by decide +kernel
theorem s6:¬ (("tables":Str) = "set_places"):=by decide +kernel
theorem fl_wide {wd ls:Int} {ta sa:Addr}:(fl wd ls ta sa).lookup ("wide":Str) = some (.int wd):=look_eq
theorem fl_last {wd ls:Int} {ta sa:Addr}:(fl wd ls ta sa).lookup ("last":Str) = some (.int ls):=by
  unfold fl; rw [look_ne fun e=>s1 e.symm,look_eq]
theorem fl_tables {wd ls:Int} {ta sa:Addr}:(fl wd ls ta sa).lookup ("tables":Str) = some (.ref ta):=by
  unfold fl; rw [look_ne fun e=>s2 e.symm,look_ne fun e=>s4 e.symm,look_eq]
theorem fl_set {wd ls:Int} {ta sa:Addr}:(fl wd ls ta sa).lookup ("set_places":Str) = some (.ref sa):=by
  unfold fl; rw [look_ne fun e=>s3 e.symm,look_ne fun e=>s5 e.symm,look_ne fun e=>s6 e.symm,look_eq]
theorem fl_no {wd ls:Int} {ta sa:Addr} {m:Str} (h1:¬ m = "wide") (h2:¬ m = "last") (h3:¬ m = "tables") (h4:¬ m = "set_places"):(fl wd ls ta sa).lookup m = none:=by
  unfold fl; rw [look_ne h1,look_ne h2,look_ne h3,look_ne h4]; rfl
theorem fl_put {wd ls l2:Int} {ta sa:Addr}:putF "last" (.int l2) (fl wd ls ta sa) = fl wd l2 ta sa:=by
  unfold fl; rw [putF_ne s1,putF_eq]
theorem fl_make {wd:Int} {ta sa:Addr}:putF "set_places" (.ref sa) (putF "tables" (.ref ta) (putF "last" (.int 0) (putF "wide" (.int wd) []))) = fl wd 0 ta sa:=by
  show putF "set_places" (.ref sa) (putF "tables" (.ref ta) (putF "last" (.int 0) [("wide",.int wd)])) = _
  rw [putF_ne s1]
  show putF "set_places" (.ref sa) (putF "tables" (.ref ta) [("wide",.int wd),("last",.int 0)]) = _
  rw [putF_ne s2,putF_ne s4]
  show putF "set_places" (.ref sa) [("wide",.int wd),("last",.int 0),("tables",.ref ta)] = _
  rw [putF_ne s3,putF_ne s5,putF_ne s6]; rfl
def badC (wd:Nat) (c:Int × Int):Option (Bool × Int):=if c.1 < 0 ∨ (wd:Int) ≤ c.1 then some (true,c.1) else if c.2 < 0 ∨ 18446744073709551615 < c.2 then some (false,c.2) else none
def firstBad (wd:Nat) (chs:List (Int × Int)):Option (Bool × Int):=chs.findSome? (badC wd)
def nextT (tab:List Int) (chs:List (Int × Int)):List Int:=chs.foldl (fun t c=>t.set c.1.toNat c.2) tab
theorem nextT_len (chs:List (Int × Int)):∀ tab:List Int,(nextT tab chs).length = tab.length:=by
  induction chs with
  | nil=>intro tab; rfl
  | cons c r ih=>intro tab; show (nextT (tab.set c.1.toNat c.2) r).length = _; rw [ih,List.length_set]
theorem nextT_snoc (tab:List Int) (chs:List (Int × Int)) (c:Int × Int):nextT tab (chs ++ [c]) = (nextT tab chs).set c.1.toNat c.2:=by
  unfold nextT; rw [List.foldl_append]; rfl
theorem badC_none {wd:Nat} {c:Int × Int} (h:badC wd c = none):0 ≤ c.1 /\ c.1 < wd /\ 0 ≤ c.2 /\ c.2 ≤ 18446744073709551615:=by
  unfold badC at h
  split at h
  · cases h
  · split at h
    · cases h
    · omega
theorem firstBad_none {wd:Nat} {chs:List (Int × Int)} (h:firstBad wd chs = none):∀ c ∈ chs,badC wd c = none:=by
  unfold firstBad at h
  rw [List.findSome?_eq_none_iff] at h
  exact h
theorem firstBad_at {wd:Nat} {chs:List (Int × Int)} {i:Nat} {c:Int × Int} {x:Bool × Int} (hi:chs[i]? = some c) (hp:∀ j d,j < i->chs[j]? = some d->badC wd d = none) (hb:badC wd c = some x):firstBad wd chs = some x:=by
  unfold firstBad
  induction chs generalizing i with
  | nil=>simp at hi
  | cons d r ih =>
    cases i with
    | zero =>
      have:d = c:=by simpa using hi
      rw [List.findSome?_cons,this,hb]
    | succ i =>
      rw [List.findSome?_cons,hp 0 d (by omega) rfl]
      exact ih (i:=i) (by simpa using hi) fun j d' hj e=>hp (j + 1) d' (by omega) (by simpa using e)
structure DaysAt (C:Addr) (H:Hp) (p ta sa:Addr) (TL SL:List Addr) (wd:Nat) (tabs sets:List (List Int)):Prop where
  ob:∃ dx,H p = some (.ins C dx (fl (wd:Int) ((tabs.length:Int) - 1) ta sa))
  tl:H ta = some (.lst (TL.map V.ref))
  sl:H sa = some (.lst (SL.map V.ref))
  tls:Rows H TL tabs
  sls:Rows H SL sets
  nd:(p :: ta :: sa :: (TL ++ SL)).Nodup
  ne:tabs.length ≠ 0
  lens:sets.length = tabs.length
  wds:∀ t ∈ tabs,t.length = wd
  w1:0 < wd
  w2:wd ≤ 40
abbrev foot (p ta sa:Addr) (TL SL:List Addr):List Addr:=p :: ta :: sa :: (TL ++ SL)
section
variable {C:Addr} {H H':Hp} {p ta sa:Addr} {TL SL:List Addr} {wd:Nat} {tabs sets:List (List Int)}
theorem DaysAt.here (D:DaysAt C H p ta sa TL SL wd tabs sets):∀ b ∈ foot p ta sa TL SL,∃ o,H b = some o:=by
  intro b hb
  simp only [foot,List.mem_cons,List.mem_append] at hb
  obtain ⟨dx,ob⟩:=D.ob
  rcases hb with rfl | rfl | rfl | hb | hb
  · exact ⟨_,ob⟩
  · exact ⟨_,D.tl⟩
  · exact ⟨_,D.sl⟩
  · exact D.tls.here b hb
  · exact D.sls.here b hb
theorem DaysAt.mono (D:DaysAt C H p ta sa TL SL wd tabs sets) (h:∀ b ∈ foot p ta sa TL SL,∀ o,H b = some o->H' b = some o):DaysAt C H' p ta sa TL SL wd tabs sets:=by
  obtain ⟨dx,ob⟩:=D.ob
  exact ⟨⟨dx,h _ (by simp [foot]) _ ob⟩,h _ (by simp [foot]) _ D.tl,h _ (by simp [foot]) _ D.sl,D.tls.mono fun a ha=>h a (by simp [foot,ha]),D.sls.mono fun a ha=>h a (by simp [foot,ha]),D.nd,D.ne,D.lens,D.wds,D.w1,D.w2⟩
theorem DaysAt.same (D:DaysAt C H p ta sa TL SL wd tabs sets) (h:Same H H'):DaysAt C H' p ta sa TL SL wd tabs sets:=D.mono fun b _ o e=>h b o e
theorem DaysAt.fresh (D:DaysAt C H p ta sa TL SL wd tabs sets) {a:Addr} (h:H a = none):a ∉ foot p ta sa TL SL:=fun hb=>by
  obtain ⟨o,e⟩:=D.here a hb
  rw [h] at e; cases e
end
theorem nodup_app2 {α:Type} {p q r:α} {A B:List α} {x y:α} (h:(p :: q :: r :: (A ++ B)).Nodup) (hx:x ∉ (p :: q :: r :: (A ++ B))) (hy:y ∉ (p :: q :: r :: (A ++ B))) (hxy:x ≠ y):(p :: q :: r :: ((A ++ [x]) ++ (B ++ [y]))).Nodup:=by
  simp only [List.nodup_cons,List.nodup_append,List.mem_cons,List.mem_append,List.not_mem_nil,or_false,not_or] at h hx hy ⊢
  grind
open PySem PySem.Spec PyProof.Rows
section
variable {X:Cx}
theorem call_int_str:CallR X (.type "int") (fun xs H Q=>∃ z n,xs = [.str z] /\ intText? z = some n /\ z.length ≤ 640 /\ Q (.int n) H):=by
  rintro pins s σ H xs us Q I r ⟨z,n,rfl,hn,hl,q⟩
  obtain ⟨u,rfl,ru⟩:=vals1 r
  obtain ⟨t,rfl⟩:=(show ∃ t,u = Value.str z t from ru)
  exact PySem.W.KIN.call_text hn hl ⟨.int n,H,I.tok _,⟨_,rfl⟩,q⟩
end
def Itx (x:Str):It:=⟨fun i _=>i < x.cps.size,fun i H v H'=>H' = H /\ ∃ c,x.cps[i]? = some c /\ v = .str ⟨#[c]⟩,fun i _=>x.cps.size ≤ i⟩
theorem turn_str {P:Program} {w:World} {K:PySem.W.Frag} {tg:Expr} (it:Addr) (x:Str) (t:Tok) (k:String) (hk:k = "str_ascii_iterator" ∨ k = "str_iterator"):Turn P w K tg (Itx x) [it] it (fun i h=>h.IsStrIter it k x t i) where
  mem:=by simp
  obj:=fun i h st b hb=>by
    have e:b = it:=by simpa using hb
    subst e
    obtain ⟨o,e,c,d⟩:=st
    exact ⟨o,e,fun v z=>by rw [d] at z; cases z⟩
  keep:=fun i h h' st kk=>let ⟨o,e,r⟩:=st; ⟨o,kk it (by simp) o e,r⟩
  item:=by
    intro X hP hw hK hc i pins s σ H E I hf st hg
    subst hP hw hK
    have hg:i < x.cps.size:=hg
    obtain ⟨f0,f1,f2,f3,f4,f5⟩:=hf it (by simp)
    have W:Walks X.prog X.w X.A it [it] [it] x.cps.size (SignAt x) (fun i h=>h.IsStrIter it k x t i):=by
      rcases hk with rfl | rfl
      · exact Walks.strAscii (I.ok.hd hc) it x t
      · exact Walks.strWide (I.ok.hd hc) it x t
    refine W.item i s _ _ hg st fun v h' tk hv st' kk=>?_
    obtain ⟨c,u,hcx,rfl⟩:=hv
    have I1:Inv X pins σ H { s with heap:=h',toks:=tk }:=I.turned (fun b o hb e=>kk b o (by simpa using hb) e) f0 f1 f3 f4 f5
    obtain ⟨o,e,c1,d1⟩:=id st'
    exact ⟨_,rfl,go_of (s:={ s with heap:=h',toks:=tk }) e c1 d1 (by rcases hk with rfl | rfl <;> decide) ⟨.str ⟨#[c]⟩,H,I1,⟨u,rfl⟩,⟨rfl,c,hcx,rfl⟩,st',fun b hb=>(hf b hb).1⟩⟩
  done:=by
    intro X hP hw hK hc i pins s σ H E I hf st hg
    subst hP hw hK
    have hg:x.cps.size ≤ i:=hg
    obtain ⟨f0,f1,f2,f3,f4,f5⟩:=hf it (by simp)
    have hn:x.cps[i]? = none:=by simp; omega
    rcases hk with rfl | rfl
    · exact wpAny_pyNext_ascii_end (I.ok.hd hc) st hn fun h' eb=>⟨rfl,I.turned (t':=s.toks) (fun b o hb e=>eb b o hb e) f0 f1 f3 f4 f5⟩
    · exact wpAny_pyNext_wide_end (I.ok.hd hc) st hn fun h' eb=>⟨rfl,I.turned (t':=s.toks) (fun b o hb e=>eb b o hb e) f0 f1 f3 f4 f5⟩
  self:=fun _ _ _ _ _ st h=>by
    rcases hk with rfl | rfl
    · exact wpAny_pyIter_striter_ascii st h
    · exact wpAny_pyIter_striter_wide st h
def iStr (tl:TE):TI:=fun σ H R=>tl σ H fun x H1=>∃ z,x = .str z /\ R (Itx z) H1
theorem pi_str {X:Cx} {tg l:Expr} {tl:TE} (hl:PE X l tl):PI X tg l (iStr tl):=by
  intro pins s σ H R I h
  refine thn (hl pins s σ H _ I h) fun v s1 ⟨x,H1,I1,r1,q1⟩=>?_
  obtain ⟨z,e,q⟩:=q1
  subst e
  obtain ⟨t,rfl⟩:=(show ∃ t,v = Value.str z t from r1)
  have fin:∀ k (hk:k = "str_ascii_iterator" ∨ k = "str_iterator"),PIE X pins σ tg R (.ref s1.heap.objs.size) { s1 with heap:=s1.heap.push { cls:=.type k,data:=.fields #[.str z t,.int 0 0] } }:=fun k hk=>by
    refine ⟨s1.heap.objs.size,[s1.heap.objs.size],_,_,H1,rfl,I1.kept (t':=s1.toks) fun b o e=>Heap.get?_push_of_some _ e,turn_str _ z t k hk,⟨_,Heap.get?_push_size _ rfl,rfl,rfl⟩,fun b hb=>?_,q⟩
    have e:b = s1.heap.objs.size:=by simpa using hb
    subst e
    exact I1.fpOk (Nat.le_refl _) (I1.hok.fresh (Nat.le_refl _))
  cases ha:z.cps.all (· < 128)
  · exact wpAny_pyIter_wide ha (fin _ (.inr rfl))
  · exact wpAny_pyIter_ascii ha (fin _ (.inl rfl))
theorem comp_str {x:Str} (D:Addr) {g:TG} {tt:TT} {te:TE} {σ:St} {H:Hp} {R:Hp->Prop} (Pv:Nat->St->Hp->List V->Prop) (h0:Pv 0 σ H [])
    (hs:∀ i c σ H ys,x.cps[i]? = some c->Pv i σ H ys->g (.str ⟨#[c]⟩) σ H fun σ3 H3=>tt σ3 H3 fun b H4=>if b = true then
      te σ3 H4 fun y H5=>H5 D = some (.lst ys) /\ ys.length < sizeLine /\ Pv (i + 1) σ3 (upd H5 D (.lst (ys ++ [y]))) (ys ++ [y]) else Pv (i + 1) σ3 H4 ys) (hd:∀ σ H ys,Pv x.cps.size σ H ys->R H) :
    ∃ W:Nat->Nat->St->Hp->List V->Prop,(∃ m,W 0 m σ H []) /\ ∀ i m σ' H' ys,W i m σ' H' ys->((Itx x).stop i H' /\ R H') ∨
      ((Itx x).go i H' /\ ∃ N:St->Hp->List V->Prop,(∀ σ' H' ys',N σ' H' ys'->∃ m',m' < m /\ W (i + 1) m' σ' H' ys') /\ ∀ v H2,(Itx x).yld i H' v H2->g v σ' H2 fun σ3 H3=>tt σ3 H3 fun b H4=>if b = true then
        te σ3 H4 fun y H5=>H5 D = some (.lst ys) /\ ys.length < sizeLine /\ N σ3 (upd H5 D (.lst (ys ++ [y]))) (ys ++ [y])
        else N σ3 H4 ys):=by
  refine ⟨fun i m σ H ys=>m = x.cps.size - i /\ i ≤ x.cps.size /\ Pv i σ H ys,⟨x.cps.size,by simp,Nat.zero_le _,h0⟩,?_⟩
  rintro i m σ H ys ⟨rfl,hi,p⟩
  by_cases hlt:i < x.cps.size
  · refine .inr ⟨hlt,Pv (i + 1),fun σ' H' ys' p'=>⟨x.cps.size - (i + 1),by omega,rfl,hlt,p'⟩,?_⟩
    rintro v H' ⟨rfl,c,hc,rfl⟩
    exact hs i c σ _ ys hc p
  · have e:i = x.cps.size:=by omega
    subst e
    exact .inl ⟨Nat.le_refl _,hd σ H ys p⟩
theorem call_all_bl {X:Cx} (hc:X.calm = true):CallR X (.builtin "all") (fun xs H Q=>∃ p,∃ bs:List Bool,xs = [.ref p] /\ SqL X.K H p (bs.map V.bl) /\ Q (.bl (bs.all id)) H):=by
  rintro pins s σ H xs us Q I r ⟨p,bs,rfl,hS,q⟩
  obtain ⟨u,rfl,ru⟩:=vals1 r
  cases ru
  obtain ⟨its,rv,pl,_⟩:=I.list hS
  have hh:X.A.in1.handled = none:=I.ok.hd hc
  have hlen:=rv.length
  have hpl:p < s.heap.objs.size:=by obtain ⟨o,e,_⟩:=pl.isList; exact Heap.lt_size e
  refine call_all_walk (wpAny_pyIter_list pl.isList ?_)
  refine ⟨s.heap.objs.size,_,_,_,_,_,fun i=>bs.getD i false,rfl,Walks.list hh s.heap.objs.size p (Nat.ne_of_lt hpl) its.toArray,⟨⟨_,Heap.get?_push_size _ rfl,rfl,rfl⟩,pl.isList.push _⟩,?_,fun h' tk k=>?_⟩
  · intro i v s' Q' E' hv hQ
    have hv:its.toArray[i]? = some v:=hv
    have hi:i < bs.length:=by
      have:=(Array.getElem?_eq_some_iff.mp hv).1
      simp at this; simp at hlen; omega
    obtain ⟨u,hu,ru⟩:=Vals.get rv (i:=i) (x:=V.bl (bs.getD i false)) (by simp [hi])
    have:v = u:=by
      have h2:its[i]? = some v:=by simpa using hv
      rw [h2] at hu; exact Option.some.inj hu
    subst this
    cases (show v = Value.bool (bs.getD i false) from ru)
    exact wpAny_truthy_bool hQ
  · have I1:Inv X pins σ H { s with heap:=h',toks:=tk }:=I.kept fun b o e=>k b o (fun hb=>by
      have hb:b = s.heap.objs.size:=by simpa using hb
      exact absurd (Heap.lt_size e) (by rw [hb]; exact Nat.lt_irrefl _)) (Heap.get?_push_of_some _ e)
    refine ⟨.bl (bs.all id),H,I1,?_,q⟩
    show Value.bool _ = Value.bool _
    congr 1
    have hz:its.toArray.size = bs.length:=by simp at hlen ⊢; omega
    rw [hz]
    clear hz hlen rv pl q hS
    have:∀ bs:List Bool,(List.range bs.length).all (fun i=>bs.getD i false) = bs.all id:=fun bs=>by
      rw [Bool.eq_iff_iff,List.all_eq_true,List.all_eq_true]
      constructor
      · intro h b hb
        obtain ⟨i,hi⟩:=List.mem_iff_getElem?.mp hb
        have hl:=(List.getElem?_eq_some_iff.mp hi).1
        have:=h i (List.mem_range.mpr hl)
        simp [hi] at this
        exact this
      · intro h i hi
        have hl:=List.mem_range.mp hi
        have:=h bs[i] (List.getElem_mem hl)
        simpa [hl] using this
    exact this bs
open PySem PySem.Spec PyProof.Rows
abbrev FIGS:Str:=Str.ofString "0123456789"
def figB (c:Nat):Bool:=!(Builtin.Str.occurrences FIGS ⟨#[c]⟩ 0 FIGS.length 1).isEmpty
def isNum (z:Str):Bool:=z.cps.toList.all figB
def okW (z:Str):Bool:=decide (1 ≤ z.length) && decide (z.length ≤ 20) && (decide (z.length = 1) || !decide (z.cps.toList[0]? = some 48)) && isNum z
theorem okW_lo {z:Str} (h:¬ 1 ≤ z.length):okW z = false:=by unfold okW; rw [decide_eq_false h]; rfl
theorem okW_hi {z:Str} (h:¬ z.length ≤ 20):okW z = false:=by unfold okW; rw [decide_eq_false h,Bool.and_false]; rfl
theorem okW_zero {z:Str} (h:z.length ≠ 1) (h0:z.cps.toList[0]? = some 48):okW z = false:=by unfold okW; rw [decide_eq_false h,decide_eq_true h0]; simp
theorem okW_all {z:Str} (h1:1 ≤ z.length) (h2:z.length ≤ 20) (h3:z.length = 1 ∨ ¬ z.cps.toList[0]? = some 48):okW z = isNum z:=by
  unfold okW
  rw [decide_eq_true h1,decide_eq_true h2]
  rcases h3 with h | h
  · rw [decide_eq_true h]; simp
  · rw [decide_eq_false h]; simp
theorem str_len (z:Str):z.cps.toList.length = z.length:=by simp [Str.length]
theorem str_first {z:Str} (h:1 ≤ z.length):∃ c,z.cps.toList[0]? = some c:=by
  rw [← str_len] at h
  exact ⟨_,List.getElem?_eq_getElem (by omega)⟩
theorem str_zero {z:Str} (h:z.length = 1) (h0:z.cps.toList[0]? = some 48):z = Str.ofString "0":=by
  rw [← str_len] at h
  obtain ⟨⟨l⟩⟩:=z
  match l,h,h0 with
  | [c],_,h0 =>
    have:c = 48:=by simpa using h0
    subst this
    decide +kernel
theorem one_eq {c d:Nat}:(V.str ⟨#[c]⟩ = V.str ⟨#[d]⟩) ↔ c = d:=by simp
theorem str_add_len (x y:Str):(x ++ y).length = x.length + y.length:=by
  show (x.cps ++ y.cps).size = _
  simp [Str.length]
open PySem PySem.Spec PyProof.Rows Builtin Builtin.Str
theorem str_ext {x y:PySem.Str} (h:x.cps.toList = y.cps.toList):x = y:=by
  obtain ⟨⟨x⟩⟩:=x
  obtain ⟨⟨y⟩⟩:=y
  rw [show x = y from h]
theorem str_nil (x:PySem.Str):Str.empty ++ x = x:=str_ext (by show (Str.empty.cps ++ x.cps).toList = _; simp [Str.empty])
theorem vals_strs:∀ (tk:Nat) (xs:List PySem.Str),Vals (xs.map V.str) (strsFrom tk xs)
  | _,[]=>.nil
  | tk,x :: r=>.cons ⟨tk,rfl⟩ (vals_strs (tk + 1) r)
theorem strs_vals:∀ {us:List Value} {xs:List PySem.Str},Vals (xs.map V.str) us->StrsAre us xs
  | _,[],.nil=>.nil
  | _,x :: r,.cons ⟨t,e⟩ h=>by cases e; exact .cons x t (strs_vals h)
section
variable {X:Cx}
theorem mt_split:MtR X "str.split" (fun x xs H Q=>∃ z y:PySem.Str,x = .str z /\ xs = [.str y] /\ (y.length == 0) = false /\ z.length ≤ 100000 /\ ∀ p,H p = none->Q (.ref p) (upd H p (.lst ((Txt.split z y).map V.str)))):=by
  rintro pins s σ H x xs v us Q I rx r ⟨z,y,rfl,rfl,hy,hz,q⟩
  obtain ⟨t,rfl⟩:=(show ∃ t,v = Value.str z t from rx)
  obtain ⟨u,rfl,ru⟩:=Vals.one r
  obtain ⟨t2,rfl⟩:=(show ∃ t,u = Value.str y t from ru)
  have hzl:z.length ≤ sizeLine:=Nat.le_trans hz (by decide)
  have hn:(partsBetween z (occurrences z y 0 z.length (z.length + 1)) y.length).length ≤ sizeLine:=by
    rw [length_partsBetween]
    have:=StrLaws.occ_length_le_len z y 0 z.length (z.length + 1)
    exact Nat.le_trans (show _ ≤ 100002 by omega) (by decide)
  have fin:∀ (ys:List PySem.Str) (k:Nat) (us:List Value),ys = Txt.split z y->ys.length ≤ sizeLine->Vals (ys.map V.str) us->EP X pins σ Q (.ref s.heap.objs.size) { s with heap:=s.heap.push { cls:=.type "list",data:=.seq us.toArray },toks:=k }:=fun ys k us e hl hv =>
    ⟨.ref s.heap.objs.size,_,I.laid (t':=k) (o:=.lst (ys.map V.str)) (fun b ob q=>Heap.get?_push_of_some _ q) (Nat.le_refl _) ⟨by rw [List.length_map]; exact hl,_,0,hv,Heap.get?_push_size _ rfl⟩,rfl,e ▸ q _ (I.hok.fresh (Nat.le_refl _))⟩
  cases h1:(decide (z.length < y.length) || decide (strKind z < strKind y))
  · cases hf:(occurrences z y 0 z.length (z.length + 1)).isEmpty
    · refine call_meets F.slot_str_split (typeIs_str _ _ _) F.entry_str_split (F.args_str_split_2 _ _) (meets_str_split_sep z y t t2 h1 hy hf hzl hn) ?_
      exact fin _ _ _ ((if_neg (ne_true_of_eq_false h1)).trans (if_neg (ne_true_of_eq_false hf))).symm hn (vals_strs _ _)
    · refine call_meets F.slot_str_split (typeIs_str _ _ _) F.entry_str_split (F.args_str_split_2 _ _) (meets_str_split_not_found z y t t2 h1 hy hf) ?_
      exact fin [z] _ _ ((if_neg (ne_true_of_eq_false h1)).trans (if_pos hf)).symm (by show 1 ≤ sizeLine; decide) (.cons ⟨t,rfl⟩ .nil)
  · refine call_meets F.slot_str_split (typeIs_str _ _ _) F.entry_str_split (F.args_str_split_2 _ _) (meets_str_split_cannot_occur z y t t2 h1) ?_
    exact fin [z] _ _ (if_pos h1).symm (by show 1 ≤ sizeLine; decide) (.cons ⟨t,rfl⟩ .nil)
theorem mt_join:MtR X "str.join" (fun x xs H Q=>∃ (z:PySem.Str) (p:Addr) (ys:List PySem.Str),x = .str z /\ xs = [.ref p] /\ SqL X.K H p (ys.map V.str) /\ (ys.map (·.length)).sum + ys.length * z.length ≤ 16777216 /\ Q (.str (Str.join z ys)) H):=by
  rintro pins s σ H x xs v us Q I rx r ⟨z,p,ys,rfl,rfl,hS,hok,q⟩
  obtain ⟨t,rfl⟩:=(show ∃ t,v = Value.str z t from rx)
  obtain ⟨u,rfl,ru⟩:=Vals.one r
  cases ru
  obtain ⟨its,rv,pl,_⟩:=I.list hS
  refine join_list pl.isList (by simpa using strs_vals rv) hok fun t' k=>⟨.str _,H,I.tok k,⟨t',rfl⟩,?_⟩
  rw [show Txt.join z ys = Str.join z ys from StrLaws.glued_eq_join z ys]
  exact q
def tFs (s:PySem.Str) (ta tb:TE):TE:=fun σ H Q=>ta σ H fun x H1=>∃ m:Int,x = .int m /\ m.natAbs.log2 < 1920 /\ tb σ H1 fun y H2=>∃ n:Int,y = .int n /\ n.natAbs.log2 < 1920 /\ Q (.str (Str.ofString (toString m) ++ s ++ Str.ofString (toString n))) H2
theorem pe_fs3 {a b c:Expr} {ta tb:TE} {z:PySem.Str} {p1 p3 pos:Pos} (ha:PE X a ta) (hc:PE X c (tC (.str z))) (hb:PE X b tb) (hz:z.length ≤ 100:=by decide +kernel):PE X (.JoinedStr [.FormattedValue a (-1) none p1,c,.FormattedValue b (-1) none p3] pos) (tFs z ta tb):=by
  intro pins s σ H Q I h
  refine JoinedStr_many (joinParts_cons (wpAny_FormattedValue_plain ?_))
  refine thn (ha pins s σ H _ I h) fun v s1 ⟨x,H1,I1,r1,m,e,hm,q1⟩=>?_
  subst e
  obtain ⟨t,rfl⟩:=(show ∃ t,v = Value.int m t from r1)
  have lm:=int_text_len_1921 hm
  refine wpAny_formatField_int hm ⟨?_,?_⟩
  · show (Str.empty ++ Str.ofString (toString m)).length ≤ sizeLine
    rw [str_nil]; exact Nat.le_trans lm (by decide)
  rw [str_nil]
  refine joinParts_cons (thn (hc pins _ σ H1 (fun v H'=>v = .str z /\ H' = H1) (I1.tok _) ⟨rfl,rfl⟩) fun v s2 ⟨x,H2,I2,r2,ex,eH⟩=>?_)
  subst ex eH
  obtain ⟨t2,rfl⟩:=(show ∃ t,v = Value.str z t from r2)
  refine ⟨?_,?_⟩
  · show (Str.ofString (toString m) ++ z).length ≤ sizeLine
    rw [str_add_len]
    exact Nat.le_trans (show _ ≤ 2021 by omega) (by decide)
  refine joinParts_cons (wpAny_FormattedValue_plain ?_)
  refine thn (hb pins s2 σ _ _ I2 q1) fun v s3 ⟨x,H3,I3,r3,n,e,hn,q3⟩=>?_
  subst e
  obtain ⟨t,rfl⟩:=(show ∃ t,v = Value.int n t from r3)
  have ln:=int_text_len_1921 hn
  have hl:(Str.ofString (toString m) ++ z ++ Str.ofString (toString n)).length ≤ sizeLine:=by
    rw [str_add_len,str_add_len]
    exact Nat.le_trans (show _ ≤ 4000 by omega) (by decide)
  refine wpAny_formatField_int hn ⟨hl,?_⟩
  exact joinParts_nil ⟨.str _,H3,I3.tok _,⟨_,rfl⟩,q3⟩ hl
end
theorem take_free {c:Nat}:∀ {p q r t:List Nat},c ∉ p->c ∉ q->p ++ c :: r = q ++ c :: t->p = q /\ r = t
  | [],[],_,_,_,_,h=>⟨rfl,by simpa using h⟩
  | [],y :: q,_,_,_,hq,h=>by simp at h hq; exact absurd h.1 hq.1
  | x :: p,[],_,_,hp,_,h=>by simp at h hp; exact absurd h.1.symm hp.1
  | x :: p,y :: q,_,_,hp,hq,h=>by
    simp at h hp hq
    obtain ⟨e1,e2⟩:=take_free (p:=p) (q:=q) hp.2 hq.2 h.2
    exact ⟨by rw [h.1,e1],e2⟩
theorem take_free1 {c:Nat} {p q r:List Nat} (hp:c ∉ p) (h:p = q ++ c :: r):False:=hp (by rw [h]; simp)
theorem join_cons {z x y:PySem.Str} {r:List PySem.Str}:(Str.join z (x :: y :: r)) = x ++ z ++ Str.join z (y :: r):=rfl
theorem cat3 {x y:PySem.Str} {c:Nat}:(x ++ (⟨#[c]⟩:PySem.Str) ++ y).cps.toList = x.cps.toList ++ c :: y.cps.toList:=by
  show (x.cps ++ #[c] ++ y.cps).toList = _
  simp
theorem join_inj {c:Nat}:∀ {ps ws:List PySem.Str},ps ≠ []->ws ≠ []->(∀ p ∈ ps,c ∉ p.cps.toList)->(∀ p ∈ ws,c ∉ p.cps.toList)->Str.join ⟨#[c]⟩ ps = Str.join ⟨#[c]⟩ ws->ps = ws
  | [p],[w],_,_,_,_,h=>by
    have:p = w:=h
    rw [this]
  | [p],w :: w' :: ws,_,_,hp,_,h=>by
    rw [join_cons] at h
    have h:p = _:=h
    exfalso
    have hp:=hp p (by simp)
    have h:=congrArg (fun z:PySem.Str=>z.cps.toList) h
    rw [cat3] at h
    exact take_free1 hp h
  | p :: p' :: ps,[w],_,_,_,hw,h=>by
    rw [join_cons] at h
    have h:_ = w:=h
    exfalso
    have hw:=hw w (by simp)
    have h:=congrArg (fun z:PySem.Str=>z.cps.toList) h
    rw [cat3] at h
    exact take_free1 hw h.symm
  | p :: p' :: ps,w :: w' :: ws,_,_,hp,hw,h=>by
    rw [join_cons,join_cons] at h
    have h:=congrArg (fun z:PySem.Str=>z.cps.toList) h
    rw [cat3,cat3] at h
    obtain ⟨e1,e2⟩:=take_free (hp p (by simp)) (hw w (by simp)) h
    have e1:p = w:=str_ext e1
    rw [e1,join_inj (c:=c) (by simp) (by simp) (fun p h=>hp p (List.mem_cons_of_mem _ h)) (fun p h=>hw p (List.mem_cons_of_mem _ h)) (str_ext e2)]
theorem split_join {c:Nat} {ws:List PySem.Str} (h0:ws ≠ []) (h:∀ p ∈ ws,c ∉ p.cps.toList):Txt.split (Str.join ⟨#[c]⟩ ws) ⟨#[c]⟩ = ws:=by
  refine join_inj ?_ h0 (fun p hp=>StrLaws.split_free _ c p hp) h (StrLaws.join_split _ _)
  intro e
  have:=split_pos (Str.join ⟨#[c]⟩ ws) ⟨#[c]⟩
  rw [e] at this
  simp at this
open PySem PySem.Spec PyProof.Rows
def numT (n:Int):PySem.Str:=Str.ofString (toString n)
theorem digits_len (m:Nat):1 ≤ (Nat.toDigits 10 m).length:=by
  by_cases h:m < 10
  · rw [Nat.toDigits_of_lt_base h]; simp
  · have hm:m % 10 < 10:=Nat.mod_lt m (by decide)
    have t:Nat.toDigits 10 (m / 10) ++ Nat.toDigits 10 (m % 10) = Nat.toDigits 10 (10 * (m / 10) + m % 10):=Nat.toDigits_append_toDigits (by decide) (by omega) hm
    rw [Nat.div_add_mod] at t
    rw [← t,List.length_append,Nat.toDigits_of_lt_base hm]
    simp
theorem digits_pos (m:Nat):Nat.toDigits 10 m ≠ []:=by
  intro e
  have:=digits_len m
  rw [e] at this
  exact absurd this (by decide)
theorem head_ne (m:Nat) (h0:0 < m):∀ ch,(Nat.toDigits 10 m)[0]? = some ch->ch.toNat ≠ 48:=by
  induction m using Nat.strongRecOn with
  | _ m ih =>
    by_cases h:m < 10
    · rw [Nat.toDigits_of_lt_base h]
      intro ch e
      have e:Nat.digitChar m = ch:=by simpa using e
      subst e
      have:∀ m:Nat,m < 10->0 < m->(Nat.digitChar m).toNat ≠ 48:=by decide
      exact this m h h0
    · have hm:m % 10 < 10:=Nat.mod_lt m (by decide)
      have t:Nat.toDigits 10 (m / 10) ++ Nat.toDigits 10 (m % 10) = Nat.toDigits 10 (10 * (m / 10) + m % 10):=Nat.toDigits_append_toDigits (by decide) (by omega) hm
      rw [Nat.div_add_mod] at t
      intro ch e
      rw [← t,List.getElem?_append_left (Nat.pos_of_ne_zero fun e=>digits_pos (m / 10) (List.length_eq_zero_iff.mp e))] at e
      exact ih (m / 10) (by omega) (by omega) ch e
theorem numT_digit {n:Int} (h0:0 ≤ n):∀ c ∈ (numT n).cps.toList,48 ≤ c /\ c ≤ 57:=by
  obtain ⟨m,rfl⟩:=Int.eq_ofNat_of_zero_le h0
  intro c hc
  unfold numT at hc
  rw [PySem.W.KIN.signs_num] at hc
  obtain ⟨ch,hch,e⟩:=List.mem_map.mp hc
  have r:=digit_range (Nat.isDigit_of_mem_toDigits (by decide) (by decide) hch)
  rw [← e]
  exact r
theorem figB_of {c:Nat} (h:48 ≤ c /\ c ≤ 57):figB c = true:=by
  unfold figB
  rw [PySem.StrLaws.found_one]
  have e:FIGS.cps.toList = [48,49,50,51,52,53,54,55,56,57]:=by decide +kernel
  rw [e]
  apply decide_eq_true
  simp
  omega
theorem numT_len {n:Int} (h0:0 ≤ n) (h:n < 10 ^ 20):(numT n).length ≤ 20:=toString_length_le h0 (by decide) h
theorem numT_pos {n:Int} (h0:0 ≤ n):1 ≤ (numT n).length:=by
  obtain ⟨m,rfl⟩:=Int.eq_ofNat_of_zero_le h0
  rw [← str_len]
  unfold numT
  rw [PySem.W.KIN.signs_num,List.length_map]
  exact Nat.pos_of_ne_zero fun e=>digits_pos m (List.length_eq_zero_iff.mp e)
theorem numT_num {n:Int} (h0:0 ≤ n):isNum (numT n) = true:=List.all_eq_true.mpr fun c hc=>figB_of (numT_digit h0 c hc)
theorem numT_int {n:Int} (h0:0 ≤ n) (h:n < 10 ^ 20):intText? (numT n) = some n:=by
  have e:=intText_digits (x:=numT n) (numT_digit h0) (by intro e; have:=numT_pos h0; rw [← str_len,e] at this; exact absurd this (by decide)) (Nat.le_trans (numT_len h0 h) (by decide))
  obtain ⟨m,rfl⟩:=Int.eq_ofNat_of_zero_le h0
  unfold numT at e ⊢
  rw [PySem.W.KIN.signs_num,PySem.W.KIN.val_back] at e
  exact e
theorem numT_ok {n:Int} (h0:0 ≤ n) (h:n < 10 ^ 20):okW (numT n) = true:=by
  rw [okW_all (numT_pos h0) (numT_len h0 h) ?_]
  · exact numT_num h0
  · obtain ⟨m,rfl⟩:=Int.eq_ofNat_of_zero_le h0
    by_cases hm:m = 0
    · subst hm; left; decide +kernel
    · right
      unfold numT
      rw [PySem.W.KIN.signs_num,List.getElem?_map]
      intro e
      obtain ⟨ch,h1,h2⟩:=Option.map_eq_some_iff.mp e
      exact head_ne m (by omega) ch h1 h2
theorem numT_free {n:Int} (h0:0 ≤ n) {c:Nat} (hc:c < 48 ∨ 57 < c):c ∉ (numT n).cps.toList:=fun h=>by have:=numT_digit h0 c h; omega
def goodC (c:Int × Int):Prop:=(0 ≤ c.1 /\ c.1 < 10 ^ 20) /\ 0 ≤ c.2 /\ c.2 < 10 ^ 20
def wordOf (c:Int × Int):PySem.Str:=numT c.1 ++ (⟨#[61]⟩:PySem.Str) ++ numT c.2
def textOf (chs:List (Int × Int)):PySem.Str:=Str.join ⟨#[32]⟩ (chs.map wordOf)
theorem wordOf_split {c:Int × Int} (h:goodC c):Txt.split (wordOf c) ⟨#[61]⟩ = [numT c.1,numT c.2] :=
  split_join (c:=61) (ws:=[numT c.1,numT c.2]) (by simp) (fun p hp=>by
    simp only [List.mem_cons,List.not_mem_nil,or_false] at hp
    rcases hp with rfl | rfl
    · exact numT_free h.1.1 (by decide)
    · exact numT_free h.2.1 (by decide))
theorem wordOf_len {c:Int × Int} (h:goodC c):(wordOf c).length ≤ 41:=by
  unfold wordOf
  rw [str_add_len,str_add_len]
  have h1:=numT_len h.1.1 h.1.2
  have h2:=numT_len h.2.1 h.2.2
  have:(⟨#[61]⟩:PySem.Str).length = 1:=rfl
  omega
theorem wordOf_free {c:Int × Int} (h:goodC c):32 ∉ (wordOf c).cps.toList:=by
  unfold wordOf
  rw [cat3]
  intro hm
  rcases List.mem_append.mp hm with h' | h'
  · exact numT_free h.1.1 (.inl (by decide)) h'
  · rcases List.mem_cons.mp h' with h' | h'
    · exact absurd h' (by decide)
    · exact numT_free h.2.1 (.inl (by decide)) h'
theorem words_sum {chs:List (Int × Int)} (h:∀ c ∈ chs,goodC c):((chs.map wordOf).map (·.length)).sum ≤ 41 * chs.length:=by
  induction chs with
  | nil=>simp
  | cons c r ih =>
    have h1:=wordOf_len (h c (by simp))
    have h2:=ih fun c hc=>h c (List.mem_cons_of_mem _ hc)
    simp only [List.map_cons,List.sum_cons,List.length_cons]
    omega
open PySem PySem.Spec PyProof.Rows
theorem eqSg:Str.ofString "=" = (⟨#[61]⟩:PySem.Str):=by decide +kernel
theorem spS:Str.ofString " " = (⟨#[32]⟩:PySem.Str):=by decide +kernel
theorem wordS (c:Int × Int):Str.ofString (toString c.1) ++ Str.ofString "=" ++ Str.ofString (toString c.2) = wordOf c:=by unfold wordOf numT; rw [eqSg]
theorem textS (chs:List (Int × Int)):Str.join (Str.ofString " ") (chs.map wordOf) = textOf chs:=by unfold textOf; rw [spS]
theorem wordSplitS {c:Int × Int} (h:goodC c):Txt.split (wordOf c) (Str.ofString "=") = [numT c.1,numT c.2]:=by rw [eqSg]; exact wordOf_split h
theorem log20 {n:Int} (h0:0 ≤ n) (h:n < 10 ^ 20):n.natAbs.log2 < 1920:=by
  by_cases hz:n.natAbs = 0
  · rw [hz]; decide
  · exact (Nat.log2_lt hz).mpr (Nat.lt_of_lt_of_le (show n.natAbs < 10 ^ 20 by omega) (by decide +kernel))
theorem words_ok {chs:List (Int × Int)} (h:∀ c ∈ chs,goodC c) (hl:chs.length ≤ 100) {z:PySem.Str} (hz:z.length = 1):((chs.map wordOf).map (·.length)).sum + (chs.map wordOf).length * z.length ≤ 16777216:=by
  have:=words_sum h
  rw [hz,List.length_map]
  omega
open PySem PySem.Spec PyProof.Rows
structure FunD (K:PySem.W.Frag) (x qual:Str) (st:Stmt) (f:Addr) (fd:FuncData) (dV:Value):Prop where
  ex:∃ (oc:Value) (od:Option Addr) (kV doc pm:Value) (an:Option Addr) (cdv ct:Value) (osl:Array (Option Value)),
    fd = PySem.W.fnOf x qual (defArgs st) (defBody st) (defScope st) dV kV doc pm an cdv ct /\ K.lookup f = some ⟨oc,od,.func fd,osl⟩ /\ PySem.W.codeIn K cdv qual = true
  kp:PySem.W.keepIn K (.ref f) = true
section
variable {P:Program} {w:World} {K:PySem.W.Frag} {mg:Str->Option Value} {base:Heap}
theorem FunD.okX {x qual:Str} {st:Stmt} {f:Addr} {fd:FuncData} {dV:Value} {N ps:List Str} {k:Nat} {sp:Sp} (F:FunD K x qual st f fd dV) (S:FnScope N ps (defScope st)) (len:∀ vs H Q E,sp vs H Q E->vs.length = ps.length)
    (hbody:∀ (cdv:Value) (A:Around) (outer:List Env) (s:Shared) (H:Hp) (vs:List V) (Q:VK) (E:XK),Room k (A.deeper (envOfC qual (defScope st) s.heap.objs.size f cdv))->sp vs H Q E →
      ∃ t,PSs (cxOf (CXx P w) P w K mg base N qual (defScope st) f cdv A outer s H E) (defBody st) t /\ t { nx:=fun _ H'=>Q .non H',rt:=Q } (start N vs) H):FnOk P w K mg base (CXx P w) (k + 1) f fd ps sp:=by
  obtain ⟨oc,od,kV,doc,pm,an,cdv,ct,osl,rfl,lk,hcd⟩:=F.ex
  exact fn_of lk hcd S len fun A outer s H vs Q E hr hsp=>hbody cdv A outer s H vs Q E hr hsp
theorem fund_mk {x qual:Str} {st:Stmt} {f:Addr} {oc dV:Value} {od an:Option Addr} {osl:Array (Option Value)} {kV doc pm cdv ct:Value} (l:K.lookup f = some ⟨oc,od,.func (PySem.W.fnOf x qual (defArgs st) (defBody st) (defScope st) dV kV doc pm an cdv ct),osl⟩)
    (c:PySem.W.codeIn K cdv qual = true) (k:PySem.W.keepIn K (.ref f) = true):FunD K x qual st f (PySem.W.fnOf x qual (defArgs st) (defBody st) (defScope st) dV kV doc pm an cdv ct) dV:=⟨⟨oc,od,kV,doc,pm,an,cdv,ct,osl,rfl,l,c⟩,k⟩
theorem FunD.binds {x qual:Str} {st:Stmt} {f T:Addr} {fd:FuncData} {ps:List Str} {o:Obj} {its:Array Value} {n:Nat} {ds:List Value} (F:FunD K x qual st f fd (.ref T)) (ho:K.lookup T = some o) (hs:o.data = .seq its n)
    (h:∀ (kV doc pm:Value) (an:Option Addr) (cdv ct:Value) (us:List Value),us.length + ds.length = ps.length->∃ k:Option (Array Value)->Sem (List (Str × Value)),
      bindArgs (PySem.W.fnOf x qual (defArgs st) (defBody st) (defScope st) (.ref T) kV doc pm an cdv ct) ⟨us,[]⟩ = seqItems? (.ref T) >>= k /\ k (some its) = pure (ps.zip (us ++ ds))):Binds K fd ps ds:=by
  obtain ⟨oc,od,kV,doc,pm,an,cdv,ct,osl,rfl,lk,hcd⟩:=F.ex
  intro s us X hl
  obtain ⟨k,h1,h2⟩:=h kV doc pm an cdv ct us (by rw [← List.length_append]; exact hl)
  exact PySem.W.binds_K X rfl ho hs h1 h2
end
section
variable (P:Program) (w:World) (K:PySem.W.Frag) (mg:Str->Option Value) (base:Heap)
structure MakeXd (x:Str) (C:Addr) (k:Nat) (ps:List Str) (ds:List Value) (sp:Sp):Prop where
  ex:∃ (f:Addr) (fd:FuncData),mg x = some (.ref C) /\ Mk K C f /\ FnOk P w K mg base (CXx P w) k f fd ps sp /\ Binds K fd ps ds
structure ClsFn (C:Addr) (m:Str) (f:Addr):Prop where
  ga:PySem.W.specialIn K (.ref C) "__getattribute__" = some (some (.builtin "type.__getattribute__"))
  rd:PySem.W.readsIn K C (.type "type") = true
  fc:PySem.W.findCls K (.ref C) (.type "type") m = some (.val (.ref f))
  kp:PySem.W.keepIn K (.ref f) = true
structure ClsX (x:Str) (C:Addr) (m:Str) (k:Nat) (ps:List Str) (sp:Sp):Prop where
  ex:∃ (f:Addr) (fd:FuncData),mg x = some (.ref C) /\ ClsFn K C m f /\ FnOk P w K mg base (CXx P w) k f fd ps sp /\ Binds K fd ps []
end
def tMakeSd (C:Addr) (sp:Sp) (E:XS) (dvs:List V) (t:TA):TE:=fun σ H Q=>t σ H fun vs H1=>∀ x dx,H1 x = none->H1 dx = none->dx ≠ x →
  sp (.ref x :: (vs ++ dvs)) (upd (upd H1 dx (.own x)) x (.ins C dx [])) (fun v H2=>v = .non /\ Q (.ref x) H2) (E σ)
def tEither (t1 t2:TE):TE:=fun σ H Q=>t1 σ H Q ∨ t2 σ H Q
section
variable {X:Cx} {k:Nat} {f C:Addr} {fd:FuncData} {ps:List Str} {sp:Sp} {E:XS} {x m:Str} {p pos apos:Pos} {e o:Expr} {es:List Expr} {ta:TE} {t:TA} {ds:List Value} {dvs:List V}
theorem pe_or2 {t1 t2:TE} (h1:PE X e t1) (h2:PE X e t2):PE X e (tEither t1 t2):=fun pins s σ H Q I h=>h.elim (h1 pins s σ H Q I) (h2 pins s σ H Q I)
theorem run_makeSd {pins:List (Addr × Obj)} {σ:St} {H:Hp} {s:Shared} {Q:VK} {us:List Value} {vs:List V} (M:Mk X.K C f) (F:FnOk X.prog X.w X.K X.mg X.base (CXx X.prog X.w) k f fd ps sp) (hr:Room (k + 1) X.A) (hb:Binds X.K fd ps ds) (rd:Vals dvs ds)
    (hx:PassesS X E) (I:Inv X pins σ H s) (r:Vals vs us)
    (h:∀ x dx,H x = none->H dx = none->dx ≠ x->sp (.ref x :: (vs ++ dvs)) (upd (upd H dx (.own x)) x (.ins C dx [])) (fun v H2=>v = .non /\ Q (.ref x) H2) (E σ)) :
    wpAny (model X.prog X.w) X.A (call (.ref C) us) (EP X pins σ Q) X.xe s:=by
  have hq:=h (s.heap.objs.size + 1) s.heap.objs.size (I.hok.fresh (Nat.le_succ _)) (I.hok.fresh (Nat.le_refl _)) (Nat.ne_of_lt (Nat.lt_succ_self _))
  have I2:=Inv.made (C:=C) I
  have r2:Vals (V.ref (s.heap.objs.size + 1) :: (vs ++ dvs)) (Value.ref (s.heap.objs.size + 1) :: us ++ ds):=.cons rfl (Vals.append r rd)
  have hl:(Value.ref (s.heap.objs.size + 1) :: us ++ ds).length = ps.length:=by
    have e:=r2.length
    rw [F.len _ _ _ _ hq] at e
    exact e.symm
  have hb':=hb _ (Value.ref (s.heap.objs.size + 1) :: us) I2.kIn hl
  refine wpAny_call (make_map (f:=f) I.kIn M.makes M.init (beq_iff_eq.mp M.fn) (codeAny_mono (F.run _ X.stack _ _ ⟨Value.ref (s.heap.objs.size + 1) :: us,[]⟩ (Value.ref (s.heap.objs.size + 1) :: us ++ ds) _ _ (E σ) (hr.make C us [])
    (I2.env0.make C us []) hb' r2 hq) fun r s' hq'=>?_))
  cases r with
  | error e=>exact hx pins σ _ _ e s' I2 hq'
  | ok fl =>
    cases fl with
    | ret u =>
      obtain ⟨v,H',I3,rv,ev,q3⟩:=I2.after hq'
      subst ev
      exact ⟨rv,⟨V.ref (s.heap.objs.size + 1),H',I3,rfl,q3⟩⟩
    | next=>exact False.elim hq'
    | brk=>exact False.elim hq'
    | cont=>exact False.elim hq'
theorem pe_makeSd (D:MakeXd X.prog X.w X.K X.mg X.base x C k ps ds sp) (rd:Vals dvs ds) (hx:PassesS X E) (hr:Room (k + 1) X.A) (hg:Gl X x) (ha:PA X (e :: es) t)
    (hdb:(x == ("__debug__":Str)) = false:=by decide) (he:starEach (e :: es) X.env = (false,eval e X.env) :: starEach es X.env:=by rfl) (hpl:(backTo pos (starEach es X.env)).any (·.1) = false:=by rfl) :
    PE X (.Call (.Name x p) (e :: es) [] pos) (tMakeSd C sp E dvs t):=by
  obtain ⟨f,fd,m,M,F,b⟩:=D.ex
  intro pins s σ H Q I h
  refine wpAny_Call_Name_kw (ld_glob I hg m ?_ hdb)
  refine PySem.W.callWith_K (h₀:=X.base) I.ok.mod.kin M.kp (thn (ha pos pins s σ H _ I h) fun us s1 ⟨vs,H1,I1,r,q⟩=>⟨I1.kIn,?_⟩) he hpl
  exact run_makeSd M F hr b rd hx I1 r q
theorem pe_clsS {pl:Sem Bool} (he:PE X o (tC (.ref C))) (D:ClsX X.prog X.w X.K X.mg X.base x C m k ps sp) (hx:PassesS X E) (hr:Room k X.A) (ha:PA X (e :: es) t)
    (hst:starEach (e :: es) X.env = (false,eval e X.env) :: starEach es X.env:=by rfl) (hpl:(backTo pos (starEach es X.env)).any (·.1) = false:=by rfl)
    (ht:eval (.Call (.Attribute o m apos) (e :: es) [] pos) X.env = (do
      let ov ← eval o X.env
      standAt apos.atName
      let (f,first) ← holding [ov] (getMethod ov m pl)
      callWith pos f first (backTo pos (starEach (e :: es) X.env)) (backToKw pos (keywordEach [] X.env))):=by rfl) :
    PE X (.Call (.Attribute o m apos) (e :: es) [] pos) (tCallS sp E t):=by
  obtain ⟨f,fd,_,c,F,b⟩:=D.ex
  intro pins s σ H Q I h
  refine PySem.W.methodCall_KW (pl:=pl) (thn (he pins s σ H (fun v H'=>v = .ref C /\ H' = H) I ⟨rfl,rfl⟩) fun u s1 ⟨x,H1,I1,rx,ex,eH⟩=>?_) ht
  subst ex eH
  obtain rfl:u = Value.ref C:=rx
  refine PySem.W.method_cls I1.kIn c.ga (PySem.W.cls_value I1.kIn c.rd c.fc rfl ?_)
  refine PySem.W.callWith_K (first:=[]) (h₀:=X.base) I.ok.mod.kin c.kp (thn (ha pos pins _ σ H1 _ (I1.tok _) h) fun us s2 ⟨vs,H2,I2,r,q2⟩=>⟨I2.kIn,?_⟩) hst hpl
  exact run_fnS F hr b hx I2 r q2
end
open PySem PySem.Spec PyProof.Rows
theorem comp_tup {K:PySem.W.Frag} {a:Addr} (D:Addr) {xs:List V} {g:TG} {tt:TT} {te:TE} {σ:St} {H:Hp} {R:Hp->Prop} (Pv:Nat->St->Hp->List V->Prop) (h0:Pv 0 σ H []) (hl:∀ i σ H ys,i ≤ xs.length->Pv i σ H ys->SqT K H a xs)
    (hs:∀ i x σ H ys,xs[i]? = some x->Pv i σ H ys->g x σ H fun σ3 H3=>tt σ3 H3 fun b H4=>if b = true then
      te σ3 H4 fun y H5=>H5 D = some (.lst ys) /\ ys.length < sizeLine /\ Pv (i + 1) σ3 (upd H5 D (.lst (ys ++ [y]))) (ys ++ [y]) else Pv (i + 1) σ3 H4 ys) (hd:∀ σ H ys,Pv xs.length σ H ys->R H) :
    ∃ W:Nat->Nat->St->Hp->List V->Prop,(∃ m,W 0 m σ H []) /\ ∀ i m σ' H' ys,W i m σ' H' ys->((Itt K a).stop i H' /\ R H') ∨
      ((Itt K a).go i H' /\ ∃ N:St->Hp->List V->Prop,(∀ σ' H' ys',N σ' H' ys'->∃ m',m' < m /\ W (i + 1) m' σ' H' ys') /\ ∀ x H2,(Itt K a).yld i H' x H2->g x σ' H2 fun σ3 H3=>tt σ3 H3 fun b H4=>if b = true then
        te σ3 H4 fun y H5=>H5 D = some (.lst ys) /\ ys.length < sizeLine /\ N σ3 (upd H5 D (.lst (ys ++ [y]))) (ys ++ [y])
        else N σ3 H4 ys):=by
  refine ⟨fun i m σ H ys=>m = xs.length - i /\ i ≤ xs.length /\ Pv i σ H ys,⟨xs.length,by simp,Nat.zero_le _,h0⟩,?_⟩
  rintro i m σ H ys ⟨rfl,hi,p⟩
  have q:=hl i σ H ys hi p
  by_cases hlt:i < xs.length
  · refine .inr ⟨⟨xs,xs[i],q,by simp [hlt]⟩,Pv (i + 1),fun σ' H' ys' p'=>⟨xs.length - (i + 1),by omega,rfl,hlt,p'⟩,fun x H' y=>?_⟩
    obtain ⟨e,y⟩:=y
    subst e
    exact hs i x σ _ ys (y xs q) p
  · have e:i = xs.length:=by omega
    subst e
    exact .inl ⟨⟨xs,q,Nat.le_refl _⟩,hd σ H ys p⟩
def tI (n:Int):Int:=n * 128 % 18446744073709551616 + n / 144115188075855872
theorem tI_nat (n:Nat):tI (n:Int) = (Chk.T n:Nat):=by
  unfold tI Chk.T; omega
theorem xor_nat (a b:Nat):Builtin.bitXor (a:Int) (b:Int) = ((a ^^^ b:Nat):Int):=by
  rw [PyProof.Rows.bitXor_and]
  have e:Builtin.bitAnd (a:Int) (b:Int) = ((a &&& b:Nat):Int):=by
    unfold Builtin.bitAnd
    simp
  rw [e]
  have:=Chk.xor_add a b
  omega
def flat (rows:List (Nat × Nat)):List Nat:=rows.flatMap fun r=>[r.1,r.2]
theorem flat_snoc (rows:List (Nat × Nat)) (r:Nat × Nat):flat (rows ++ [r]) = flat rows ++ [r.1,r.2]:=by simp [flat]
structure RowsAt (H:Hp) (L:List V) (rows:List (Nat × Nat)):Prop where
  len:L.length = rows.length
  get:∀ (i:Nat) v,L[i]? = some v->∃ t r,v = V.ref t /\ rows[i]? = some r /\ H t = some (.tup [.int (r.1:Int),.int (r.2:Int)])
theorem RowsAt.mono {H H':Hp} {L:List V} {rows:List (Nat × Nat)} (R:RowsAt H L rows) (h:∀ t xs,H t = some (.tup xs)->H' t = some (.tup xs)):RowsAt H' L rows :=
  ⟨R.len,fun i v e=>let ⟨t,r,a,b,c⟩:=R.get i v e; ⟨t,r,a,b,h t _ c⟩⟩
theorem RowsAt.snoc {H:Hp} {L:List V} {rows:List (Nat × Nat)} (R:RowsAt H L rows) {t:Addr} {r:Nat × Nat} (h:H t = some (.tup [.int (r.1:Int),.int (r.2:Int)])):RowsAt H (L ++ [.ref t]) (rows ++ [r]) :=
  ⟨by simp [R.len],fun i v e=>by
    by_cases hi:i < L.length
    · rw [List.getElem?_append_left hi] at e
      obtain ⟨t,r,a,b,c⟩:=R.get i v e
      exact ⟨t,r,a,by rw [List.getElem?_append_left (by rw [← R.len]; exact hi)]; exact b,c⟩
    · rw [List.getElem?_append_right (by omega)] at e
      have hi2:i - L.length = 0:=by
        have:=(List.getElem?_eq_some_iff.mp e).1
        simp at this; omega
      rw [hi2] at e
      have e:V.ref t = v:=by simpa using e
      refine ⟨t,r,e.symm,?_,h⟩
      rw [List.getElem?_append_right (by rw [← R.len]; omega),← R.len,hi2]; rfl⟩
theorem flat_len (l:List (Nat × Nat)):(flat l).length = 2 * l.length:=by
  induction l with
  | nil=>rfl
  | cons r l ih =>
    have:flat (r :: l) = r.1 :: r.2 :: flat l:=rfl
    rw [this]; simp only [List.length_cons,ih]; omega
theorem put_rows {x v:V}:putF "rows" v [("day",x)] = ([("day",x),("rows",v)]:List (Str × V)):=by
  rw [putF_ne (by decide +kernel)]; rfl
theorem put_check {x y v:V}:putF "check" v [("day",x),("rows",y)] = ([("day",x),("rows",y),("check",v)]:List (Str × V)):=by
  rw [putF_ne (by decide +kernel),putF_ne (by decide +kernel)]; rfl
theorem put_fits {x y z v:V}:putF "fits" v [("day",x),("rows",y),("check",z)] = ([("day",x),("rows",y),("check",z),("fits",v)]:List (Str × V)):=by
  rw [putF_ne (by decide +kernel),putF_ne (by decide +kernel),putF_ne (by decide +kernel)]; rfl
theorem put_base {x y z f v:V}:putF "base" v [("day",x),("rows",y),("check",z),("fits",f)] = ([("day",x),("rows",y),("check",z),("fits",f),("base",v)]:List (Str × V)):=by
  rw [putF_ne (by decide +kernel),putF_ne (by decide +kernel),putF_ne (by decide +kernel),putF_ne (by decide +kernel)]; rfl
theorem lk_day {x:V} {r:List (Str × V)}:List.lookup ("day":Str) (("day",x) :: r) = some x:=by rw [List.lookup_cons]; simp
theorem lk_rows {x y:V} {r:List (Str × V)}:List.lookup ("rows":Str) (("day",x) :: ("rows",y) :: r) = some y:=by
  rw [List.lookup_cons,show (("rows":Str) == "day") = false by decide +kernel,List.lookup_cons]; simp
theorem lk_check {x y z:V} {r:List (Str × V)}:List.lookup ("check":Str) (("day",x) :: ("rows",y) :: ("check",z) :: r) = some z:=by
  rw [List.lookup_cons,show (("check":Str) == "day") = false by decide +kernel,List.lookup_cons,show (("check":Str) == "rows") = false by decide +kernel,List.lookup_cons]; simp
theorem lk_fits {x y z f:V} {r:List (Str × V)}:List.lookup ("fits":Str) (("day",x) :: ("rows",y) :: ("check",z) :: ("fits",f) :: r) = some f:=by
  rw [List.lookup_cons,show (("fits":Str) == "day") = false by decide +kernel,List.lookup_cons,show (("fits":Str) == "rows") = false by decide +kernel,List.lookup_cons,show (("fits":Str) == "check") = false by decide +kernel,List.lookup_cons]; simp
theorem lk_base {x y z f v:V} {r:List (Str × V)}:List.lookup ("base":Str) (("day",x) :: ("rows",y) :: ("check",z) :: ("fits",f) :: ("base",v) :: r) = some v:=by
  rw [List.lookup_cons,show (("base":Str) == "day") = false by decide +kernel,List.lookup_cons,show (("base":Str) == "rows") = false by decide +kernel,List.lookup_cons,show (("base":Str) == "check") = false by decide +kernel,List.lookup_cons,show (("base":Str) == "fits") = false by decide +kernel,List.lookup_cons]; simp
def pfs (wh:Bool) (b d:Nat) (r:Addr) (c:Int) (f:Bool):List (Str × V):=match wh with
  | true=>[("day",V.int (d:Int)),("rows",V.ref r),("check",V.int c),("fits",V.bl f)]
  | false=>[("day",V.int (d:Int)),("rows",V.ref r),("check",V.int c),("fits",V.bl f),("base",V.int (b:Int))]
theorem lk_no {m:Str} {wh:Bool} {b d:Nat} {r:Addr} {c:Int} {f:Bool} (h1:(m == "day") = false) (h2:(m == "rows") = false) (h3:(m == "check") = false) (h4:(m == "base") = false) (h5:(m == "fits") = false:=by decide +kernel):List.lookup m (pfs wh b d r c f) = none:=by
  cases wh
  · show List.lookup m [_,_,_,_,_] = none
    rw [List.lookup_cons,h1,List.lookup_cons,h2,List.lookup_cons,h3,List.lookup_cons,h5,List.lookup_cons,h4]; rfl
  · show List.lookup m [_,_,_,_] = none
    rw [List.lookup_cons,h1,List.lookup_cons,h2,List.lookup_cons,h3,List.lookup_cons,h5]; rfl
def stN (wh:Bool) (b:Nat):Nat:=cond wh 0 (b + 1)
def ckOf (wh:Bool) (b d:Nat) (rows:List (Nat × Nat)):Nat:=Chk.chk (stN wh b :: d :: flat rows)
def PAt (CW CG:Addr) (H:Hp) (p:Addr) (wh:Bool) (b d:Nat) (rows:List (Nat × Nat)) (c:Int):Prop :=
  ∃ dx r R,H p = some (.ins (cond wh CW CG) dx (pfs wh b d r c (decide (c = (ckOf wh b d rows:Nat))))) /\ H r = some (.tup R) /\ RowsAt H R rows
theorem PAt.keep {CW CG:Addr} {H H':Hp} {p:Addr} {wh:Bool} {b d:Nat} {rows:List (Nat × Nat)} {c:Int} (h:PAt CW CG H p wh b d rows c) (s:Same H H'):PAt CW CG H' p wh b d rows c:=by
  obtain ⟨dx,r,R,h1,h2,h3⟩:=h
  exact ⟨dx,r,R,s _ _ h1,s _ _ h2,h3.mono fun t xs e=>s _ _ e⟩
theorem made_same {H H':Hp} {x dx:Addr} {o:HO} (hx:H x = none) (hd:H dx = none) (k:Keep [x] (upd (upd H dx (.own x)) x o) H'):Same H H':=fun b u e=>by
  have n1:=ne_of_none e hx
  have n2:=ne_of_none e hd
  exact k b u (by rw [upd_ne n1,upd_ne n2]; exact e) (by simpa using n1)
theorem decI {i j:Int}:decide (V.int i = V.int j) = decide (i = j):=decide_eq_decide.mpr ⟨V.int.inj,fun e=>by rw [e]⟩
def sp_turned:Sp:=fun vs H Q _=>∃ n:Int,vs = [.int n] /\ Q (.int (tI n)) H
def sp_check:Sp:=fun vs H Q _=>∃ (s d:Nat) (a:Addr) (L:List V) (rows:List (Nat × Nat)),vs = [.int ((s:Int) - 1),.int (d:Int),.ref a] /\ (H a = some (.lst L) ∨ H a = some (.tup L)) /\ RowsAt H L rows /\ rows.length ≤ 100 /\ ∀ H',Same H H'->Q (.int (Chk.chk (s :: d :: flat rows):Nat)) H'
def sp_pinit (K:PySem.W.Frag):Sp:=fun vs H Q _=>∃ (p C dx a:Addr) (s d:Nat) (L:List V) (rows:List (Nat × Nat)) (cv:V) (c:Int),vs = [.ref p,.int ((s:Int) - 1),.int (d:Int),.ref a,cv] /\ H p = some (.ins C dx []) /\ Cls K C /\ NoAttr K C "day" /\ NoAttr K C "rows" /\ NoAttr K C "check" /\ NoAttr K C "fits" ∧
  (H a = some (.lst L) ∨ H a = some (.tup L)) /\ RowsAt H L rows /\ rows.length ≤ 100 /\ ((cv = .non /\ c = (Chk.chk (s :: d :: flat rows):Nat)) ∨ cv = .int c) ∧
  ∀ r R H',H' p = some (.ins C dx [("day",V.int (d:Int)),("rows",V.ref r),("check",V.int c),("fits",V.bl (decide (c = (Chk.chk (s :: d :: flat rows):Nat))))])->H' r = some (.tup R)->RowsAt H' R rows->Keep [p] H H'->Q .non H'
def sp_winit (CW CG:Addr):Sp:=fun vs H Q _=>∃ (p dx a:Addr) (d:Nat) (L:List V) (rows:List (Nat × Nat)) (cv:V) (c:Int),vs = [.ref p,.int (d:Int),.ref a,cv] /\ H p = some (.ins CW dx []) ∧
  (H a = some (.lst L) ∨ H a = some (.tup L)) /\ RowsAt H L rows /\ rows.length ≤ 100 /\ ((cv = .non /\ c = (ckOf true 0 d rows:Nat)) ∨ cv = .int c) /\ ∀ H',PAt CW CG H' p true 0 d rows c->Keep [p] H H'->Q .non H'
def sp_ginit (CW CG:Addr):Sp:=fun vs H Q _=>∃ (p dx a:Addr) (b d:Nat) (L:List V) (rows:List (Nat × Nat)) (cv:V) (c:Int),vs = [.ref p,.int (b:Int),.int (d:Int),.ref a,cv] /\ H p = some (.ins CG dx []) ∧
  (H a = some (.lst L) ∨ H a = some (.tup L)) /\ RowsAt H L rows /\ rows.length ≤ 100 /\ ((cv = .non /\ c = (ckOf false b d rows:Nat)) ∨ cv = .int c) /\ ∀ H',PAt CW CG H' p false b d rows c->Keep [p] H H'->Q .non H'
def sp_good (CW CG:Addr):Sp:=fun vs H Q _=>∃ (p:Addr) (wh:Bool) (b d:Nat) (rows:List (Nat × Nat)) (c:Int),vs = [.ref p] /\ PAt CW CG H p wh b d rows c /\ rows.length ≤ 100 /\ ∀ H',Same H H'->Q (.bl (decide (c = (ckOf wh b d rows:Nat)))) H'
def sp_wstart:Sp:=fun vs H Q _=>∃ p:Addr,vs = [.ref p] /\ Q (.int (-1)) H
def sp_gstart (CW CG:Addr):Sp:=fun vs H Q _=>∃ (p:Addr) (b d:Nat) (rows:List (Nat × Nat)) (c:Int),vs = [.ref p] /\ PAt CW CG H p false b d rows c /\ Q (.int (b:Int)) H
def sp_wkind:Sp:=fun vs H Q _=>∃ p:Addr,vs = [.ref p] /\ Q (.str (Str.ofString "whole")) H
def sp_gkind:Sp:=fun vs H Q _=>∃ p:Addr,vs = [.ref p] /\ Q (.str (Str.ofString "gain")) H
open PySem PySem.Spec PyProof.Rows
theorem vals_of:∀ {us:List Value} {ns:List Int},IntsAre us ns->Vals (ns.map V.int) us
  | _,_,.nil=>.nil
  | _,_,.cons _ t r=>.cons ⟨t,rfl⟩ (vals_of r)
theorem ints_len {us:List Value} {ns:List Int} (h:IntsAre us ns):us.length = ns.length:=by
  have:=(vals_of h).length
  rw [List.length_map] at this
  exact this.symm
theorem objOk_there {P:Program} {w:World} {H:Hp} {h:Heap} {a:Addr} {o:HO} (x:ObjOk P w H h a o):∃ ob,h.get? a = some ob:=by
  cases o with
  | lst xs=>obtain ⟨_,_,_,_,e⟩:=x; exact ⟨_,e⟩
  | tup xs=>obtain ⟨_,_,_,ob,e,_⟩:=x; exact ⟨_,e⟩
  | dK kvs=>obtain ⟨_,_,_,_,o,_,_,e,_⟩:=x; exact ⟨_,e⟩
  | dT kvs=>obtain ⟨_,_,_,_,o,_,_,e,_⟩:=x; exact ⟨_,e⟩
  | set S n=>obtain ⟨o,_,_,_,e,_⟩:=x; exact ⟨_,e⟩
  | ins C dx fs=>obtain ⟨_,_,_,e,_⟩:=x; exact ⟨_,e⟩
  | own y=>exact x
  | xd fs=>obtain ⟨_,⟨_,_,_,e,_⟩,_⟩:=x; exact ⟨_,e⟩
  | rng lo hi=>obtain ⟨_,_,_,e⟩:=x; exact ⟨_,e⟩
  | frz ob u=>exact ⟨_,x.1⟩
  | tbl ps=>exact ⟨_,x⟩
  | met f y=>exact ⟨_,x⟩
  | ext φ=>exact x.2.1
section
variable {X:Cx} {pins:List (Addr × Obj)} {σ:St} {H:Hp} {s:Shared}
theorem Inv.laidAt {a:Addr} {h':Heap} {t':Nat} {vs:List V} (I:Inv X pins σ H s) (hn:s.heap.get? a = none) (k:∀ b o,s.heap.get? b = some o->h'.get? b = some o) (new:ObjOk X.prog X.w (upd H a (.lst vs)) h' a (.lst vs)) :
    ∃ _:H a = none,Inv X pins σ (upd H a (.lst vs)) { s with heap:=h',toks:=t' } /\ True:=by
  have hHn:H a = none:=by
    cases z:H a with
    | none=>rfl
    | some o =>
      obtain ⟨ob,hob⟩:=objOk_there (I.hok a o z)
      rw [hn] at hob; cases hob
  refine ⟨hHn,?_,trivial⟩
  have na:∀ b o,s.heap.get? b = some o->b ≠ a:=fun b o e z=>by rw [z,hn] at e; cases e
  have hu:Un X.fs [] H (upd H a (.lst vs)) s.heap h':=by
    refine ⟨fun b o e _ _ _=>k b o e,fun b o e _ _ _=>⟨o.slots,k b o e⟩,fun b o e n _=>?_,fun b o e _=>⟨o,k b o e⟩,fun b xs e=>?_,fun b o u e=>?_,fun b ps e=>⟨#[],?_⟩⟩
    · rw [upd_ne (na b o e)]; exact n
    · rw [upd_ne (ne_of_none e hHn)]; exact e
    · rw [upd_ne (ne_of_none e hHn)]; exact e
    · rw [upd_ne (ne_of_none e hHn),e]; simp
  refine I.un hu fun b o e=>?_
  by_cases z:b = a
  · subst z; rw [upd_same] at e; cases e; exact new
  · rw [upd_ne z] at e
    exact (I.hok b o e).stay (fun c v _ q=>k c v q) (fun c q=>by rw [upd_ne (ne_of_none q hHn)]; exact q) fun c xs q=>by rw [upd_ne (ne_of_none q hHn)]; exact q
end
open PySem PySem.Spec PyProof.Rows
theorem SeqEq.ints {K:PySem.W.Frag} {H:Hp} {a c:Addr} {xs ys:List Int} (h1:SqL K H a (xs.map V.int)) (h2:SqL K H c (ys.map V.int)):SeqEq K H (EqI K H 0) (.ref a) (.ref c) (decide (xs = ys)):=by
  by_cases hl:xs.length = ys.length
  · refine ⟨a,c,_,_,fun j=>decide (xs[j]? = ys[j]?),rfl,rfl,.inl ⟨h1,h2,by simpa using hl,fun j x' y' e1 e2=>?_,?_⟩⟩
    · rw [List.getElem?_map] at e1 e2
      obtain ⟨x,ex,rfl⟩:=Option.map_eq_some_iff.mp e1
      obtain ⟨y,ey,rfl⟩:=Option.map_eq_some_iff.mp e2
      refine .inl ⟨rfl,rfl,?_⟩
      show decide (xs[j]? = ys[j]?) = eqV (.int x) (.int y)
      rw [ex,ey]
      show decide (some x = some y) = (x == y)
      rw [Bool.eq_iff_iff,decide_eq_true_iff,beq_iff_eq]
      exact ⟨fun h=>Option.some.inj h,fun h=>by rw [h]⟩
    · rw [List.length_map,Bool.eq_iff_iff,decide_eq_true_iff,List.all_eq_true]
      constructor
      · rintro rfl j _; simp
      · intro h
        refine List.ext_getElem? fun j=>?_
        by_cases hj:j < xs.length
        · exact of_decide_eq_true (h j (List.mem_range.mpr hj))
        · rw [List.getElem?_eq_none (by omega),List.getElem?_eq_none (by omega)]
  · refine ⟨a,c,_,_,fun _=>true,rfl,rfl,.inr (.inl ⟨h1,h2,by simpa using hl,?_⟩)⟩
    exact decide_eq_false (fun e=>hl (by rw [e]))
open PySem
structure Leg where
  num:Int
  start:Int
  to:Int
  bad:Int
  cost:Int
def ahead (legs:List Leg) (P:Int->Option (List Int)):Nat:=(legs.filter fun g=>(P g.start).isNone).length
open PySem PySem.Spec PyProof.Rows
def tfs (a b c:Addr):List (Str × V):=[("sizes",V.ref a),("weights",V.ref b),("rates",V.ref c)]
theorem upK {H4:Hp} {x dx:Addr} {o:HO} (hx:H4 x = none) (hd:H4 dx = none) (t:Addr) (o':HO) (e:H4 t = some o'):upd (upd H4 dx (.own x)) x o t = some o':=by
  rw [upd_ne (ne_of_none e hx),upd_ne (ne_of_none e hd)]; exact e
open PySem PySem.Spec PyProof.Rows Builtin Builtin.Str
section
variable {X:Cx}
theorem pad_ok {i:Int} (h0:0 ≤ i) (h1:i ≤ 1000):(decide (i < -(2 ^ 63:Int)) || decide (i ≥ 2 ^ 63)) = false /\ tooLong i.toNat = false:=by
  refine ⟨by rw [decide_eq_false (by omega),decide_eq_false (by omega)]; rfl,?_⟩
  have:(1000:Nat) < sizeLine:=small1000 (Nat.le_refl _)
  unfold Builtin.Str.tooLong
  simp; omega
theorem mt_zfill:MtR X "str.zfill" (fun x xs H Q=>∃ (z:PySem.Str) (i:Int),x = .str z /\ xs = [.int i] /\ 0 ≤ i /\ i ≤ 1000 /\ Q (.str (Txt.zfill z i)) H):=by
  rintro pins s σ H x xs v us Q I rx r ⟨z,i,rfl,rfl,h0,h1,q⟩
  obtain ⟨t,rfl⟩:=(show ∃ t,v = Value.str z t from rx)
  obtain ⟨u,rfl,ru⟩:=Vals.one r
  obtain ⟨t2,rfl⟩:=(show ∃ t,u = Value.int i t from ru)
  have g:=gives_str_zfill z i t t2 (pad_ok h0 h1).1 (pad_ok h0 h1).2
  unfold Txt.zfill at q
  by_cases hc:i ≤ z.length
  · rw [if_pos hc] at g q
    exact call_gives F.slot_str_zfill (typeIs_str _ _ _) F.entry_str_zfill (F.args_str_zfill_2 _ _) g ⟨.str z,H,I,⟨t,rfl⟩,q⟩
  · rw [if_neg hc] at g q
    exact call_gives F.slot_str_zfill (typeIs_str _ _ _) F.entry_str_zfill (F.args_str_zfill_2 _ _) g ⟨fits_zfilled (pad_ok h0 h1).2 hc,.str _,H,I.tok _,⟨_,rfl⟩,q⟩
end
theorem len_cps (x:PySem.Str):x.cps.toList.length = x.length:=by simp [Str.length]
open PySem
def Rise (xs:Array Nat):Prop:=∀ (i j a b:Nat),xs[i]? = some a->xs[j]? = some b->i < j->a < b
theorem below_go {xs:Array Nat} {j:Nat} (hr:Rise xs):∀ (fuel lo hi:Nat),hi ≤ xs.size->hi - lo ≤ fuel->lo ≤ hi->(∀ i a,i < lo->xs[i]? = some a->a < j)->(∀ i a,hi ≤ i->xs[i]? = some a->j ≤ a) →
    ∃ p,SetTable.below.go xs j fuel lo hi = p /\ p ≤ xs.size /\ (∀ i a,i < p->xs[i]? = some a->a < j) /\ (∀ i a,p ≤ i->xs[i]? = some a->j ≤ a)
  | 0,lo,hi,h1,h2,h3,h4,h5=>⟨lo,rfl,by omega,h4,fun i a hi' e=>h5 i a (by omega) e⟩
  | fuel + 1,lo,hi,h1,h2,h3,h4,h5=>by
    unfold SetTable.below.go
    by_cases hl:lo < hi
    · rw [if_pos hl]
      dsimp only
      have hm:(lo + hi) / 2 < xs.size:=by omega
      have em:xs[(lo + hi) / 2]? = some xs[(lo + hi) / 2]:=Array.getElem?_eq_getElem hm
      have eg:xs.getD ((lo + hi) / 2) j = xs[(lo + hi) / 2]:=by simp [Array.getD,hm]
      rw [eg]
      by_cases hc:xs[(lo + hi) / 2] < j
      · rw [if_pos hc]
        refine below_go hr fuel _ hi h1 (by omega) (by omega) (fun i a hi' e=>?_) h5
        by_cases he:i = (lo + hi) / 2
        · subst he; rw [em] at e; cases e; exact hc
        · have:=hr i _ a _ e em (by omega); omega
      · rw [if_neg hc]
        refine below_go hr fuel lo _ (by omega) (by omega) (by omega) h4 (fun i a hi' e=>?_)
        by_cases he:i = (lo + hi) / 2
        · subst he; rw [em] at e; cases e; omega
        · have:=hr _ i _ a em e (by omega); omega
    · rw [if_neg hl]
      exact ⟨lo,rfl,by omega,h4,fun i a hi' e=>h5 i a (by omega) e⟩
theorem below_ok {xs:Array Nat} (hr:Rise xs) (j:Nat):SetTable.below xs j ≤ xs.size /\ (∀ i a,i < SetTable.below xs j->xs[i]? = some a->a < j) /\ (∀ i a,SetTable.below xs j ≤ i->xs[i]? = some a->j ≤ a):=by
  obtain ⟨p,e,h⟩:=below_go (j:=j) hr xs.size 0 xs.size (Nat.le_refl _) (by omega) (by omega) (fun i a h=>by omega) (fun i a h e=>by rw [Array.getElem?_eq_none h] at e; cases e)
  have:SetTable.below xs j = p:=e
  rw [this]; exact h
theorem below_next {xs:Array Nat} (hr:Rise xs) {i a:Nat} (h:xs[i]? = some a):SetTable.below xs (a + 1) = i + 1:=by
  obtain ⟨h1,h2,h3⟩:=below_ok hr (a + 1)
  have hi:i < xs.size:=(Array.getElem?_eq_some_iff.mp h).1
  rcases Nat.lt_trichotomy (SetTable.below xs (a + 1)) (i + 1) with z | z | z
  · have:=h3 i a (by omega) h; omega
  · exact z
  · have e:xs[i + 1]? = some (xs[i + 1]'(by omega)):=Array.getElem?_eq_getElem (by omega)
    have u1:=h2 (i + 1) _ z e
    have u2:=hr i (i + 1) _ _ h e (by omega)
    omega
theorem below_zero {xs:Array Nat} (hr:Rise xs):SetTable.below xs 0 = 0:=by
  obtain ⟨h1,h2,_⟩:=below_ok hr 0
  rcases Nat.eq_zero_or_pos (SetTable.below xs 0) with z | z
  · exact z
  · have e:xs[0]? = some (xs[0]'(by omega)):=Array.getElem?_eq_getElem (by omega)
    have:=h2 0 _ z e; omega
theorem insertAt_get {α:Type} (xs:Array α) {p:Nat} (hp:p ≤ xs.size) (x:α) (i:Nat):(SetTable.insertAt xs p x)[i]? = if i < p then xs[i]? else if i = p then some x else xs[i - 1]?:=by
  rw [← Array.getElem?_toList,SetTable.toList_insertAt]
  have hl:(xs.toList.take p).length = p:=by rw [List.length_take]; simp; omega
  by_cases h1:i < p
  · rw [if_pos h1,List.getElem?_append_left (by omega),List.getElem?_take_of_lt h1]; simp
  · rw [if_neg h1,List.getElem?_append_right (by omega),hl]
    by_cases h2:i = p
    · rw [if_pos h2,h2,Nat.sub_self]; rfl
    · rw [if_neg h2,show i - p = (i - p - 1) + 1 by omega,List.getElem?_cons_succ,List.getElem?_drop,show p + (i - p - 1) = i - 1 by omega]; simp
theorem rise_insert {xs:Array Nat} (hr:Rise xs) {j:Nat} (hj:xs[SetTable.below xs j]? ≠ some j):Rise (SetTable.insertAt xs (SetTable.below xs j) j):=by
  obtain ⟨hp,h1,h2⟩:=below_ok hr j
  have h3:∀ i a,SetTable.below xs j ≤ i->xs[i]? = some a->j < a:=fun i a hi e=>by
    have:=h2 i a hi e
    rcases Nat.lt_or_eq_of_le this with z | z
    · exact z
    · subst z
      rcases Nat.lt_or_eq_of_le hi with y | y
      · have e2:xs[SetTable.below xs j]? = some (xs[SetTable.below xs j]'(by have:=(Array.getElem?_eq_some_iff.mp e).1; omega)):=Array.getElem?_eq_getElem _
        have u1:=h2 _ _ (Nat.le_refl _) e2
        have u2:=hr _ _ _ _ e2 e y
        omega
      · rw [y] at hj; exact absurd e hj
  intro i k a b ha hb hik
  rw [insertAt_get xs hp] at ha hb
  by_cases i1:i < SetTable.below xs j
  · rw [if_pos i1] at ha
    by_cases k1:k < SetTable.below xs j
    · rw [if_pos k1] at hb; exact hr i k a b ha hb hik
    · rw [if_neg k1] at hb
      by_cases k2:k = SetTable.below xs j
      · rw [if_pos k2] at hb; cases hb; exact h1 i a i1 ha
      · rw [if_neg k2] at hb; exact hr i (k - 1) a b ha hb (by omega)
  · rw [if_neg i1] at ha
    by_cases i2:i = SetTable.below xs j
    · rw [if_pos i2] at ha; cases ha
      rw [if_neg (by omega),if_neg (by omega)] at hb
      exact h3 (k - 1) b (by omega) hb
    · rw [if_neg i2] at ha
      rw [if_neg (by omega),if_neg (by omega)] at hb
      exact hr (i - 1) (k - 1) a b ha hb (by omega)
theorem rise_mem {xs:Array Nat} (hr:Rise xs) {j:Nat} (h:xs[SetTable.below xs j]? = some j):j ∈ xs.toList:=by
  rw [← Array.getElem?_toList] at h; exact List.mem_of_getElem? h
theorem len_of_all:∀ (m:Nat) (l:List Nat),(∀ j,j < m->j ∈ l)->m ≤ l.length
  | 0,l,_=>Nat.zero_le _
  | m + 1,l,h=>by
    have hm:=h m (by omega)
    have ih:=len_of_all m (l.erase m) fun j hj=>(List.mem_erase_of_ne (by omega)).mpr (h j (by omega))
    rw [List.length_erase_of_mem hm] at ih
    have:=List.length_pos_of_mem hm
    omega
def hop (N i:Nat):Nat:=(i * 5 + 1) % N
def hops (N:Nat):Nat->Nat->Nat
  | 0,i=>i
  | m + 1,i=>hops N m (hop N i)
def orbM (N:Nat):Nat->Nat->Nat
  | 0,_=>0
  | m + 1,i=>(1 <<< i) ||| orbM N m (hop N i)
theorem orbM_mem {N j:Nat}:∀ (m i:Nat),(orbM N m i).testBit j = true->∃ k,k < m /\ hops N k i = j
  | 0,i,h=>by simp [orbM] at h
  | m + 1,i,h=>by
    unfold orbM at h
    rw [Nat.testBit_or,Bool.or_eq_true] at h
    rcases h with h | h
    · refine ⟨0,by omega,?_⟩
      rw [Nat.testBit_shiftLeft] at h
      simp only [Bool.and_eq_true,decide_eq_true_eq] at h
      obtain ⟨h1,h2⟩:=h
      have:j - i = 0:=by
        rcases Nat.eq_zero_or_pos (j - i) with z | z
        · exact z
        · rw [Nat.testBit_one_eq_true_iff_self_eq_zero] at h2; exact h2
      show i = j
      omega
    · obtain ⟨k,hk,e⟩:=orbM_mem m (hop N i) h
      exact ⟨k + 1,by omega,e⟩
def coverM (N:Nat):Bool:=(List.range N).all fun i=>orbM N N i == 2 ^ N - 1
theorem cover8:coverM 8 = true:=by decide +kernel
theorem cover32:coverM 32 = true:=by decide +kernel
theorem cover128:coverM 128 = true:=by decide +kernel
theorem cover_hop {N:Nat} (h:coverM N = true) {i j:Nat} (hi:i < N) (hj:j < N):∃ k,k < N /\ hops N k i = j:=by
  unfold coverM at h
  rw [List.all_eq_true] at h
  have:=h i (List.mem_range.mpr hi)
  rw [beq_iff_eq] at this
  refine orbM_mem N i ?_
  rw [this,Nat.testBit_two_pow_sub_one]
  exact decide_eq_true hj
def adv (t:SetTable):Nat->SetTable.Probe->SetTable.Probe
  | 0,p=>p
  | k + 1,p=>adv t k (t.advance p)
theorem adv_add (t:SetTable):∀ (a b:Nat) (p:SetTable.Probe),adv t (a + b) p = adv t b (adv t a p)
  | 0,b,p=>by rw [Nat.zero_add]; rfl
  | a + 1,b,p=>by rw [show a + 1 + b = (a + b) + 1 by omega]; exact adv_add t a b (t.advance p)
def blockAt (t:SetTable) (q:Nat × Nat) (d:Option Nat):SetTable.Probe:={ j:=q.1,more:=SetTable.runEnd t.mask q.1 - q.1,i:=q.1,perturb:=q.2,dummy:=d }
theorem adv_run (t:SetTable):∀ (m:Nat) (p:SetTable.Probe),p.more = m->adv t (m + 1) p = blockAt t (SetTable.leap t.mask p.i p.perturb) p.dummy
  | 0,p,h=>by
    show t.advance p = _
    unfold SetTable.advance
    rw [if_neg (by omega)]
    rfl
  | m + 1,p,h=>by
    show adv t (m + 1) (t.advance p) = _
    have e:t.advance p = { p with j:=p.j + 1,more:=p.more - 1 }:=by unfold SetTable.advance; rw [if_pos (by omega)]
    rw [e,adv_run t m _ (by show p.more - 1 = m; omega)]
def leaps (mask:Nat):Nat->Nat × Nat->Nat × Nat
  | 0,q=>q
  | m + 1,q=>leaps mask m (SetTable.leap mask q.1 q.2)
theorem run9 (mask i:Nat):SetTable.runEnd mask i - i ≤ 9:=by unfold SetTable.runEnd; split <;> omega
theorem adv_leaps (t:SetTable) (d:Option Nat):∀ (m:Nat) (q:Nat × Nat),∃ k,k ≤ 10 * m /\ adv t k (blockAt t q d) = blockAt t (leaps t.mask m q) d
  | 0,q=>⟨0,by omega,rfl⟩
  | m + 1,q=>by
    obtain ⟨k,hk,e⟩:=adv_leaps t d m (SetTable.leap t.mask q.1 q.2)
    refine ⟨(SetTable.runEnd t.mask q.1 - q.1 + 1) + k,by have:=run9 t.mask q.1; omega,?_⟩
    rw [adv_add,adv_run t (SetTable.runEnd t.mask q.1 - q.1) (blockAt t q d) rfl]
    exact e
theorem leaps_add (mask:Nat):∀ (a b:Nat) (q:Nat × Nat),leaps mask (a + b) q = leaps mask b (leaps mask a q)
  | 0,b,q=>by rw [Nat.zero_add]; rfl
  | a + 1,b,q=>by rw [show a + 1 + b = (a + b) + 1 by omega]; exact leaps_add mask a b _
theorem leaps_snd (mask:Nat):∀ (m:Nat) (q:Nat × Nat),(leaps mask m q).2 = q.2 / 32 ^ m
  | 0,q=>by simp [leaps]
  | m + 1,q=>by
    show (leaps mask m (SetTable.leap mask q.1 q.2)).2 = _
    rw [leaps_snd mask m]
    show q.2 / 32 / 32 ^ m = _
    rw [Nat.div_div_eq_div_mul,Nat.pow_succ,Nat.mul_comm]
theorem leaps_hops (mask:Nat):∀ (m i:Nat),leaps mask m (i,0) = (hops (mask + 1) m i,0)
  | 0,i=>rfl
  | m + 1,i=>by
    show leaps mask m (SetTable.leap mask i 0) = _
    have e:SetTable.leap mask i 0 = (hop (mask + 1) i,0):=by unfold SetTable.leap hop; simp
    rw [e,leaps_hops mask m]; rfl
theorem bits_lt (h:Int):SetTable.bits h < 2 ^ 64:=by
  unfold SetTable.bits
  have h1:=Int.emod_nonneg h (show (2 ^ 64:Int) ≠ 0 by decide)
  have h2:=Int.emod_lt_of_pos h (show (0:Int) < 2 ^ 64 by decide)
  omega
theorem leaps_all {mask:Nat} (hc:coverM (mask + 1) = true) {q:Nat × Nat} (hq:q.2 < 2 ^ 64) {j:Nat} (hj:j < mask + 1):∃ m,m < mask + 15 /\ (leaps mask m q).1 = j:=by
  have e0:(leaps mask 13 q).2 = 0:=by
    rw [leaps_snd]
    exact Nat.div_eq_of_lt (Nat.lt_trans hq (by decide))
  have l0:(leaps mask 13 q).1 < mask + 1:=by
    rw [show (13:Nat) = 12 + 1 from rfl,leaps_add]
    show (_ % (mask + 1)) < _
    exact Nat.mod_lt _ (by omega)
  obtain ⟨k,hk,e⟩:=cover_hop hc l0 hj
  refine ⟨13 + k,by omega,?_⟩
  rw [leaps_add,show leaps mask 13 q = ((leaps mask 13 q).1,0) from by rw [← e0],leaps_hops]
  exact e
theorem slot_two {t:SetTable} (hd:t.dummies = #[]) (j:Nat):(t.slot j = .empty /\ t.place[SetTable.below t.place j]? ≠ some j) ∨ (∃ i,t.slot j = .live i) /\ t.place[SetTable.below t.place j]? = some j:=by
  unfold SetTable.slot
  by_cases h:t.place[SetTable.below t.place j]? = some j
  · right
    simp only [h]
    exact ⟨⟨_,if_pos (by simp)⟩,trivial⟩
  · left
    have h2:SetTable.has t.dummies j = false:=by rw [hd]; simp [SetTable.has]
    have h1:(t.place[SetTable.below t.place j]? == some j) = false:=by simpa using h
    simp only [h1,h2]
    exact ⟨rfl,h⟩
theorem go_two {t:SetTable} (hd:t.dummies = #[]) (h:Int):∀ (fuel:Nat) (p:SetTable.Probe),p.dummy = none →
    (∃ j,SetTable.probe.go t (fun _=>h + 1) h fuel p = some (.empty j none) /\ t.place[SetTable.below t.place j]? ≠ some j) ∨ ∀ k,k < fuel->t.place[SetTable.below t.place (adv t k p).j]? = some (adv t k p).j
  | 0,p,_=>.inr fun k hk=>by omega
  | fuel + 1,p,hp=>by
    unfold SetTable.probe.go
    rcases slot_two hd p.j with ⟨e,hn⟩ | ⟨⟨i,e⟩,hy⟩
    · left
      rw [e]
      dsimp only
      exact ⟨p.j,by rw [hp],hn⟩
    · rw [e]
      dsimp only
      have hne:((h + 1:Int) == h) = false:=by simp; omega
      rw [hne]
      simp only [Bool.false_eq_true,↓reduceIte]
      have hp':(t.advance p).dummy = none:=by unfold SetTable.advance; split <;> exact hp
      rcases go_two hd h fuel (t.advance p) hp' with z | z
      · exact .inl z
      · refine .inr fun k hk=>?_
        cases k with
        | zero=>exact hy
        | succ k=>exact z k (by omega)
theorem free_some {t:SetTable} (hd:t.dummies = #[]) (hr:Rise t.place) (hc:coverM (t.mask + 1) = true) (hs:t.place.size ≤ t.mask) (h:Int):∃ j,t.freeSlot h = some (j,false) /\ t.place[SetTable.below t.place j]? ≠ some j:=by
  have key:=go_two hd h (10 * SetTable.turns t.mask) (t.probeStart h) rfl
  rcases key with ⟨j,e,hn⟩ | hall
  · refine ⟨j,?_,hn⟩
    unfold SetTable.freeSlot SetTable.probe
    rw [e]
    rfl
  · exfalso
    have hm:=len_of_all (t.mask + 1) t.place.toList fun j hj=>by
      obtain ⟨m,hm,e⟩:=leaps_all hc (q:=(SetTable.bits h % (t.mask + 1),SetTable.bits h)) (bits_lt h) hj
      obtain ⟨k,hk,ek⟩:=adv_leaps t none m (SetTable.bits h % (t.mask + 1),SetTable.bits h)
      have hst:t.probeStart h = blockAt t (SetTable.bits h % (t.mask + 1),SetTable.bits h) none:=rfl
      have:=hall k (by unfold SetTable.turns; omega)
      rw [hst,ek] at this
      have this:t.place[SetTable.below t.place (leaps t.mask m (SetTable.bits h % (t.mask + 1),SetTable.bits h)).1]? = some (leaps t.mask m (SetTable.bits h % (t.mask + 1),SetTable.bits h)).1:=this
      rw [e] at this
      exact rise_mem hr this
    simp at hm
    omega
theorem free_two {mask:Nat} {owner:Array (Option Nat)}:∀ (fuel:Nat) (q:Nat × Nat),
    (∃ j,SetTable.layClean.free mask owner fuel q.1 q.2 = some j /\ owner[j]? = some none) ∨ ∀ m,m < fuel->owner[(leaps mask m q).1]? ≠ some none
  | 0,q=>.inr fun m hm=>by omega
  | fuel + 1,q=>by
    unfold SetTable.layClean.free
    cases e:(List.range (SetTable.runEnd mask q.1 + 1 - q.1)).find? fun k=>(owner.getD (q.1 + k) (some 0)).isNone with
    | some k =>
      left
      have hk:=List.find?_some e
      refine ⟨q.1 + k,rfl,?_⟩
      by_cases hlt:q.1 + k < owner.size
      · rw [Array.getElem?_eq_getElem hlt]
        simp [Array.getD,hlt] at hk
        rw [hk]
      · simp [Array.getD,hlt] at hk
    | none =>
      dsimp only
      rcases free_two fuel (SetTable.leap mask q.1 q.2) with z | z
      · exact .inl z
      · refine .inr fun m hm=>?_
        cases m with
        | succ m=>exact z m (by omega)
        | zero =>
          intro h0
          have:=List.find?_eq_none.mp e 0 (List.mem_range.mpr (by unfold SetTable.runEnd; split <;> omega))
          have h0:owner[q.1]? = some none:=h0
          have hlt:q.1 < owner.size:=(Array.getElem?_eq_some_iff.mp h0).1
          have he:=(Array.getElem?_eq_some_iff.mp h0).2
          simp [Array.getD,hlt,he] at this
def usedOf (owner:Array (Option Nat)):List Nat:=owner.toList.filterMap id
theorem all_used {l:List (Option Nat)} (h:∀ j,j < l.length->l[j]? ≠ some none):(l.filterMap id).length = l.length:=by
  induction l with
  | nil=>rfl
  | cons x r ih =>
    have hx:=h 0 (by simp)
    cases x with
    | none=>exact absurd rfl hx
    | some a =>
      rw [show (some a :: r).filterMap id = a :: r.filterMap id from rfl,List.length_cons,List.length_cons,ih fun j hj=>by have:=h (j + 1) (by simp; omega); simpa using this]
theorem free_ok {mask:Nat} {owner:Array (Option Nat)} (hc:coverM (mask + 1) = true) (hs:owner.size = mask + 1) (hu:(usedOf owner).length < mask + 1) {i p:Nat} (hp:p < 2 ^ 64):∃ j,SetTable.layClean.free mask owner (SetTable.turns mask) i p = some j /\ owner[j]? = some none:=by
  rcases free_two (mask:=mask) (owner:=owner) (SetTable.turns mask) (i,p) with z | z
  · exact z
  · exfalso
    have hl:=all_used (l:=owner.toList) fun j hj=>by
      obtain ⟨m,hm,e⟩:=leaps_all hc (q:=(i,p)) hp (j:=j) (by simpa [hs] using hj)
      have:=z m (by unfold SetTable.turns; omega)
      rw [e] at this
      rw [Array.getElem?_toList]; exact this
    unfold usedOf at hu
    rw [hl] at hu
    simp [hs] at hu
theorem set_used {l:List (Option Nat)} {j k:Nat} (h:l[j]? = some none):((l.set j (some k)).filterMap id).Perm (l.filterMap id ++ [k]):=by
  have hj:j < l.length:=(List.getElem?_eq_some_iff.mp h).1
  have e:l = l.take j ++ none :: l.drop (j + 1):=by
    have e0:l[j] = none:=(List.getElem?_eq_some_iff.mp h).2
    have:=List.take_append_drop j l
    rw [List.drop_eq_getElem_cons hj,e0] at this
    exact this.symm
  have e1:l.set j (some k) = l.take j ++ some k :: l.drop (j + 1):=by
    conv=>lhs; rw [e]
    rw [List.set_append_right _ _ (by rw [List.length_take]; omega)]
    simp [List.length_take,Nat.min_eq_left (Nat.le_of_lt hj)]
  rw [e1]
  conv=>rhs; rw [e]
  simp only [List.filterMap_append]
  rw [show (some k :: l.drop (j + 1)).filterMap id = k :: (l.drop (j + 1)).filterMap id from rfl,show (none :: l.drop (j + 1)).filterMap id = (l.drop (j + 1)).filterMap id from rfl,List.append_assoc]
  exact (List.perm_append_left_iff _).mpr (List.perm_append_singleton _ _).symm
theorem lay_fold {mask:Nat} (hc:coverM (mask + 1) = true):∀ (hs:List Int) (owner:Array (Option Nat)) (k:Nat),owner.size = mask + 1->(usedOf owner).Perm (List.range k)->k + hs.length ≤ mask + 1 →
    ∃ o,hs.foldl (fun acc h=>do
      let (owner,k) ← acc
      let j ← SetTable.layClean.free mask owner (SetTable.turns mask) (SetTable.bits h % (mask + 1)) (SetTable.bits h)
      pure (owner.setIfInBounds j (some k),k + 1)) (some (owner,k)) = some (o,k + hs.length) /\ o.size = mask + 1 /\ (usedOf o).Perm (List.range (k + hs.length))
  | [],owner,k,h1,h2,h3=>⟨owner,rfl,h1,h2⟩
  | h :: r,owner,k,h1,h2,h3=>by
    have hl:(usedOf owner).length < mask + 1:=by rw [h2.length_eq,List.length_range]; simp at h3; omega
    obtain ⟨j,ej,hj⟩:=free_ok hc h1 hl (i:=SetTable.bits h % (mask + 1)) (bits_lt h)
    have hu:(usedOf (owner.setIfInBounds j (some k))).Perm (List.range (k + 1)):=by
      unfold usedOf
      rw [Array.toList_setIfInBounds,List.range_succ]
      exact (set_used (by rw [Array.getElem?_toList]; exact hj)).trans (h2.append_right _)
    obtain ⟨o,eo,s1,p1⟩:=lay_fold hc r (owner.setIfInBounds j (some k)) (k + 1) (by simpa using h1) hu (by simp at h3; omega)
    refine ⟨o,?_,s1,by rw [List.length_cons,show k + (r.length + 1) = k + 1 + r.length by omega]; exact p1⟩
    rw [List.foldl_cons]
    simp only [Option.bind_eq_bind,Option.bind_some,ej]
    rw [List.length_cons,show k + (r.length + 1) = k + 1 + r.length by omega]
    exact eo
theorem layClean_ok {mask:Nat} (hc:coverM (mask + 1) = true) (hashes:Array Int) (hn:hashes.size ≤ mask):∃ o,SetTable.layClean mask hashes = some o /\ o.size = mask + 1 /\ (usedOf o).Perm (List.range hashes.size):=by
  have h0:usedOf (Array.replicate (mask + 1) none) = []:=by unfold usedOf; simp
  obtain ⟨o,e,h1,h2⟩:=lay_fold hc hashes.toList (Array.replicate (mask + 1) none) 0 (by simp) (by rw [h0]; exact .nil) (by simp; omega)
  rw [Nat.zero_add,Array.length_toList] at h2
  refine ⟨o,?_,h1,h2⟩
  unfold SetTable.layClean
  rw [← Array.foldl_toList]
  rw [e]
  rfl
theorem pick_filter {α:Type} (f:α->Bool) (g:α->Option Nat) (hg:∀ x,f x = (g x).isSome):∀ l:List α,l.filterMap (fun j=>(g j).map fun _=>j) = l.filter f
  | []=>rfl
  | x :: r=>by
    cases e:g x with
    | none=>rw [List.filterMap_cons_none (by rw [e]; rfl),List.filter_cons_of_neg (by rw [hg,e]; simp),pick_filter f g hg r]
    | some y=>rw [List.filterMap_cons_some (b:=x) (by rw [e]; rfl),List.filter_cons_of_pos (by rw [hg,e]; rfl),pick_filter f g hg r]
theorem rise_of {l:List Nat} (h:l.Pairwise (· < ·)):Rise l.toArray:=by
  intro i j a b ha hb hij
  simp only [List.getElem?_toArray] at ha hb
  obtain ⟨hi,ea⟩:=List.getElem?_eq_some_iff.mp ha
  obtain ⟨hj,eb⟩:=List.getElem?_eq_some_iff.mp hb
  have:=List.pairwise_iff_getElem.mp h i j hi hj hij
  omega
theorem laid_ok {mask:Nat} (hc:coverM (mask + 1) = true) (hashes:Array Int) (hn:hashes.size ≤ mask) (finger moves:Nat) (led plain:Bool) :
    ∃ place order,SetTable.laid mask finger moves led plain hashes = some ({ mask,place,dummies:=#[],finger,led,moves,plain },order) /\ Rise place /\ place.size = hashes.size /\ order.toList.Perm (List.range hashes.size):=by
  obtain ⟨o,e,hs,hp⟩:=layClean_ok hc hashes hn
  refine ⟨_,_,by unfold SetTable.laid; rw [e]; rfl,?_,?_,?_⟩
  · rw [List.map_filterMap]
    have e1:(fun j=>Option.map (fun x:Nat × Nat=>x.1) (Option.map (fun y=>(j,y)) (o.getD j none))) = fun j=>(o.getD j none).map fun _=>j:=by
      funext j; cases o.getD j none <;> rfl
    rw [e1,pick_filter (fun j=>(o.getD j none).isSome) _ (fun _=>rfl)]
    exact rise_of (List.pairwise_lt_range.filter _)
  · have e2:((List.range (mask + 1)).filterMap fun j=>(o.getD j none).map fun y=>(j,y)).length = (usedOf o).length:=by
      rw [← List.length_map (f:=fun x:Nat × Nat=>x.2)]
      rw [List.map_filterMap]
      unfold usedOf
      have e3:o.toList = (List.range (mask + 1)).map fun j=>o.getD j none:=by
        refine List.ext_getElem? fun j=>?_
        rw [Array.getElem?_toList,List.getElem?_map]
        by_cases hj:j < mask + 1
        · rw [List.getElem?_range hj,Array.getElem?_eq_getElem (by omega)]
          simp [Array.getD,show j < o.size by omega]
        · rw [List.getElem?_eq_none (by simp; omega),Array.getElem?_eq_none (by omega)]; rfl
      rw [e3,List.filterMap_map]
      congr 2
      funext j
      simp only [Function.comp_apply,_root_.id]
      cases o.getD j none <;> rfl
    simp only [List.size_toArray,List.length_map]
    rw [e2,hp.length_eq,List.length_range]
  · have e4:((List.range (mask + 1)).filterMap fun j=>(o.getD j none).map fun y=>(j,y)).map (fun x:Nat × Nat=>x.2) = usedOf o:=by
      rw [List.map_filterMap]
      unfold usedOf
      have e3:o.toList = (List.range (mask + 1)).map fun j=>o.getD j none:=by
        refine List.ext_getElem? fun j=>?_
        rw [Array.getElem?_toList,List.getElem?_map]
        by_cases hj:j < mask + 1
        · rw [List.getElem?_range hj,Array.getElem?_eq_getElem (by omega)]
          simp [Array.getD,show j < o.size by omega]
        · rw [List.getElem?_eq_none (by simp; omega),Array.getElem?_eq_none (by omega)]; rfl
      rw [e3,List.filterMap_map]
      congr 1
      funext j
      simp only [Function.comp_apply,_root_.id]
      cases o.getD j none <;> rfl
    show (((List.range (mask + 1)).filterMap fun j=>(o.getD j none).map fun y=>(j,y)).map (fun x:Nat × Nat=>x.2)).Perm _
    rw [e4]
    exact hp
structure TabI (t:SetTable) (n:Nat) (L:Bool):Prop where
  sz:t.place.size = n
  dm:t.dummies = #[]
  ri:Rise t.place
  pl:t.plain = true
  ld:t.led = L
  ms:(t.mask = 7 /\ n ≤ 4) ∨ (t.mask = 31 /\ n ≤ 18) ∨ (t.mask = 127 /\ n ≤ 63)
theorem TabI.fits {t:SetTable} {n:Nat} {L:Bool} (h:TabI t n L):t.fits n = true:=by
  unfold SetTable.fits SetTable.fill
  rw [h.sz,h.dm]
  have:=h.ms
  simp
  omega
theorem TabI.fresh (L:Bool):TabI (.fresh 0 0 L) 0 L:=⟨rfl,rfl,fun i j a b h=>by simp [SetTable.fresh] at h,rfl,rfl,.inl ⟨rfl,by omega⟩⟩
theorem TabI.cov {t:SetTable} {n:Nat} {L:Bool} (h:TabI t n L):coverM (t.mask + 1) = true:=by
  rcases h.ms with ⟨e,_⟩ | ⟨e,_⟩ | ⟨e,_⟩ <;> rw [e]
  · exact cover8
  · exact cover32
  · exact cover128
theorem insertAt_size {α:Type} (xs:Array α) (p:Nat) (x:α):(SetTable.insertAt xs p x).size = xs.size + 1:=by
  rw [← Array.length_toList,(SetTable.insertAt_perm xs p x).length_eq]; simp
theorem layNew_ok {t:SetTable} {es:Array (Int × Value)} {L:Bool} (T:TabI t es.size L) (hn:es.size < 63) (h:Int) (x:Value) :
    ∃ es' t',layNew t es h x = (es',t',false,false) /\ es'.size = es.size + 1 /\ t'.place.size = es.size + 1 /\ t'.dummies = #[] /\ Rise t'.place /\ t'.plain = true /\ t'.led = L /\ t'.mask = t.mask:=by
  obtain ⟨j,ej,hj⟩:=free_some T.dm T.ri T.cov (by have:=T.ms; have:=T.sz; omega) h
  have hsz:=T.sz
  have e1:(SetTable.insertAt es (SetTable.below t.place j) (h,x)).size = es.size + 1:=insertAt_size ..
  have hd:SetTable.has t.dummies j = false:=by rw [T.dm]; simp [SetTable.has]
  have e2:t.put j = ({ t with place:=SetTable.insertAt t.place (SetTable.below t.place j) j },SetTable.below t.place j):=by
    unfold SetTable.put
    simp only [hd]
    rfl
  have hf:({ t with place:=SetTable.insertAt t.place (SetTable.below t.place j) j }:SetTable).fits (es.size + 1) = true:=by
    unfold SetTable.fits SetTable.fill
    simp only [insertAt_size,T.dm,hsz]
    have:=T.ms
    simp
    omega
  refine ⟨SetTable.insertAt es (SetTable.below t.place j) (h,x),{ t with place:=SetTable.insertAt t.place (SetTable.below t.place j) j },?_,e1,by show (SetTable.insertAt _ _ _).size = _; rw [insertAt_size,hsz],T.dm,rise_insert T.ri hj,T.pl,T.ld,rfl⟩
  unfold layNew
  rw [ej]
  dsimp only
  rw [e2]
  dsimp only
  unfold SetTable.orStandIn
  rw [e1,hf]
  rfl
theorem relay_ok {t:SetTable} {es:Array (Int × Value)} {wanted mask:Nat} (hm:SetTable.sizeAbove wanted - 1 = mask) (hc:coverM (mask + 1) = true) (hn:es.size ≤ mask) :
    ∃ es' t',relayAll t es wanted = (es',t',false) /\ es'.size = es.size /\ t'.place.size = es.size /\ t'.dummies = #[] /\ Rise t'.place /\ t'.plain = t.plain /\ t'.led = t.led /\ t'.mask = mask:=by
  obtain ⟨place,order,e,hr,hp,ho⟩:=laid_ok hc (es.map (·.1)) (by simpa using hn) t.finger (t.movedTo mask) t.led t.plain
  rw [Array.size_map] at hp ho
  have e1:t.relaid (es.map (·.1)) wanted = some ({ mask,place,dummies:=#[],finger:=t.finger,led:=t.led,moves:=t.movedTo mask,plain:=t.plain },order):=by
    unfold SetTable.relaid
    rw [hm]; exact e
  have e2:(order.filterMap (es[·]?)).size = es.size:=by
    rw [← Array.length_toList,Array.toList_filterMap,((ho.filterMap _).trans (by rw [filterMap_getElem?_range])).length_eq]; simp
  have e3:coversAll order es.size = true:=List.isPerm_iff.mpr ho
  have e4:({ mask,place,dummies:=#[],finger:=t.finger,led:=t.led,moves:=t.movedTo mask,plain:=t.plain }:SetTable).fits es.size = true:=by
    unfold SetTable.fits SetTable.fill
    simp [hp]
    omega
  refine ⟨order.filterMap (es[·]?),{ mask,place,dummies:=#[],finger:=t.finger,led:=t.led,moves:=t.movedTo mask,plain:=t.plain },?_,e2,hp,rfl,hr,rfl,rfl,rfl⟩
  unfold relayAll
  rw [e1]
  dsimp only
  rw [e2,e3,e4]
  rfl
open PySem PySem.Spec PyProof.Rows
def keyI:Value->Int
  | .int n _=>n
  | _=>0
def keysI (es:Array (Int × Value)):List Int:=es.toList.map fun e=>keyI e.2
def ISet (prog:Program) (w:World) (h:Heap) (a:Addr) (fm:List Int) (L:Bool):Prop :=
  ∃ es ep t,h.get? a = some { cls:=.type "set",dict:=none,data:=.set es ep t,slots:=#[] } /\ ElemsOf (intKind prog w) es.toList /\ (keysI es).Perm fm /\ TabI t es.size L /\ es.size ≤ 63
theorem keys_mem {prog:Program} {w:World} {es:Array (Int × Value)} (hel:ElemsOf (intKind prog w) es.toList) {k:Int}:k ∈ keysI es ↔ ∃ e ∈ es.toList,(intKind prog w).is k e.2 = true:=by
  unfold keysI
  rw [List.mem_map]
  constructor
  · rintro ⟨e,he,rfl⟩
    obtain ⟨⟨k',hk,_⟩,_⟩:=hel e he
    obtain ⟨t,et⟩:=Value.isInt_shape (show Value.isInt k' e.2 = true from hk)
    exact ⟨e,he,by rw [et]; exact intKind_is prog w _ t⟩
  · rintro ⟨e,he,hk⟩
    obtain ⟨t,et⟩:=Value.isInt_shape (show Value.isInt k e.2 = true from hk)
    exact ⟨e,he,by rw [et]; rfl⟩
theorem keys_len (es:Array (Int × Value)):(keysI es).length = es.size:=by unfold keysI; simp
section
variable {prog:Program} {w:World} {A:Around} {E:Value->Shared->Prop} {s:Shared}
theorem iset_store {a:Addr} {es:Array (Int × Value)} {ep:Nat} {t:SetTable} {es':Array (Int × Value)} {t':SetTable} {Q:Unit->Shared->Prop} {s:Shared}
    (ho:s.heap.get? a = some { cls:=.type "set",dict:=none,data:=.set es ep t,slots:=#[] }) (hz:es'.size ≤ 64)
    (h:∀ h',Heap.SameBut a s.heap h'->h'.get? a = some { cls:=.type "set",dict:=none,data:=.set es' (ep + 1) t',slots:=#[] }->Q () { s with heap:=h' }):wpAny (model prog w) A (storeSet a es' t') Q E s:=by
  refine wpAny_storeSet_of ho rfl (h _ (Heap.SameBut.update s.heap a _) ?_) (Nat.le_of_lt (small1000 (by omega)))
  have:=Heap.get?_update_self (Obj.putSet es' t') ho (by rw [putSet_of es' t' rfl]; rfl)
  rw [putSet_of es' t' rfl] at this
  exact this
theorem iset_add {a:Addr} {fm:List Int} {L:Bool} {k:Int} {tk:Tok} {Q:Bool->Shared->Prop} (hS:ISet prog w s.heap a fm L) (hroom:(step_dedup fm k).length ≤ 63)
    (h:∀ b h',Heap.SameBut a s.heap h'->ISet prog w h' a (step_dedup fm k) L->Q b { s with heap:=h' }) :
    wpAny (model prog w) A (setAddHashed a (.int k tk) (hashInt k)) Q E s:=by
  obtain ⟨es,ep,t,ho,hel,hpm,hT,hsz⟩:=hS
  have hf:=hT.fits
  have hsc:(Value.int k tk).scannable = true:=rfl
  have hkey:(intKind prog w).is k (.int k tk) = true:=intKind_is prog w k tk
  unfold setAddHashed setAddHashedIn
  refine wpAny_holding (wpAny_bind (wpAny_setState_of ho rfl hf ?_))
  dsimp only
  rw [byScan_of (knd:=intKind prog w) hsc (by unfold scanBound; omega) hel]
  simp only [↓reduceIte]
  unfold setAddByScan
  refine wpAny_bind ?_
  refine wpAny_bind (wpAny_rule ?_)
  refine wpAny_bind (wpAny_setScan_of (knd:=intKind prog w) hkey ho rfl hf hel ?_)
  cases hr:List.findIdx? (fun e=>(intKind prog w).is k e.2) es.toList with
  | some j =>
    dsimp only
    obtain ⟨hj,hpj,_⟩:=List.findIdx?_eq_some_iff_getElem.mp hr
    have hin:k ∈ fm:=hpm.mem_iff.mp ((keys_mem hel).mpr ⟨_,List.getElem_mem hj,hpj⟩)
    have hst:step_dedup fm k = fm:=by unfold step_dedup; rw [if_pos (List.any_eq_true.mpr ⟨k,hin,by simp⟩)]
    rw [hst] at h
    refine wpAny_pure (wpAny_pure ?_)
    have e:s = { s with heap:=s.heap }:=by cases s; rfl
    rw [e]
    exact h _ s.heap (Heap.SameBut.refl a s.heap) ⟨es,ep,t,ho,hel,hpm,hT,hsz⟩
  | none =>
    dsimp only
    have hout:k ∉ fm:=fun z=>by
      obtain ⟨e,he,hp⟩:=(keys_mem hel).mp (hpm.mem_iff.mpr z)
      have:=List.findIdx?_eq_none_iff.mp hr e he
      rw [hp] at this; exact Bool.noConfusion this
    have hst:step_dedup fm k = fm ++ [k]:=by
      unfold step_dedup
      rw [if_neg (fun z=>by
        obtain ⟨y,hy,e⟩:=List.any_eq_true.mp z
        have:y = k:=by simpa using e
        exact hout (this ▸ hy))]
    rw [hst] at h hroom
    have hfl:fm.length = es.size:=by rw [← hpm.length_eq,keys_len]
    have hn63:es.size < 63:=by rw [List.length_append,hfl] at hroom; simp at hroom; omega
    have hperm:=layNew_perm t es (hashInt k) (.int k tk)
    obtain ⟨es1,t1,e1,z1,z2,z3,z4,z5,z6,z7⟩:=layNew_ok hT hn63 (hashInt k) (.int k tk)
    have e1':layNew t es ((intKind prog w).hash k) (.int k tk) = (es1,t1,false,false):=e1
    rw [e1] at hperm
    dsimp only at hperm
    rw [Array.toList_push] at hperm
    have hel1:ElemsOf (intKind prog w) es1.toList:=(hel.push hkey hsc).perm hperm
    have hpm1:(keysI es1).Perm (fm ++ [k]):=by
      unfold keysI
      refine (hperm.map _).trans ?_
      rw [List.map_append]
      exact hpm.append_right _
    have e1'':layNew t es (hashInt k) (.int k tk) = (es1,t1,false,false):=e1
    rw [e1'']
    dsimp only
    refine wpAny_bind (wpAny_pure ?_)
    rw [z5]
    simp only [↓reduceIte]
    rw [hashByValue_scannable 8 hsc]
    refine wpAny_bind (wpAny_pure ?_)
    simp only [plainKind,↓reduceIte]
    refine wpAny_bind (iset_store ho (by omega) fun h1 sb1 ho1=>?_)
    by_cases hfull:t1.tooFull = true
    · rw [hfull]
      simp only [Bool.not_false,Bool.and_self,↓reduceIte]
      obtain ⟨mask,hm,hc,hnm,hms⟩:∃ mask,SetTable.sizeAbove (SetTable.grown es1.size) - 1 = mask /\ coverM (mask + 1) = true /\ es1.size ≤ mask /\ ((mask = 7 /\ es1.size ≤ 4) ∨ (mask = 31 /\ es1.size ≤ 18) ∨ (mask = 127 /\ es1.size ≤ 63)):=by
        unfold SetTable.tooFull SetTable.fill at hfull
        rw [z2,z3,z7] at hfull
        have hfull:(es.size + 1 + 0) * 5 ≥ t.mask * 3:=of_decide_eq_true hfull
        rcases hT.ms with ⟨m1,m2⟩ | ⟨m1,m2⟩ | ⟨m1,m2⟩
        · rw [m1] at hfull
          have:es1.size = 5:=by omega
          rw [this]
          exact ⟨31,by decide +kernel,cover32,by omega,by omega⟩
        · rw [m1] at hfull
          have:es1.size = 19:=by omega
          rw [this]
          exact ⟨127,by decide +kernel,cover128,by omega,by omega⟩
        · rw [m1] at hfull; omega
      have hp2:=relayAll_perm t1 es1 (SetTable.grown es1.size)
      obtain ⟨es2,t2,e2,y1,y2,y3,y4,y5,y6,y7⟩:=relay_ok (t:=t1) (es:=es1) hm hc hnm
      rw [e2] at hp2 ⊢
      dsimp only at hp2 ⊢
      refine wpAny_bind (wpAny_pure ?_)
      refine wpAny_bind (iset_store ho1 (by omega) fun h2 sb2 ho2=>?_)
      refine wpAny_pure (wpAny_pure ?_)
      refine h _ h2 (sb1.trans sb2) ⟨es2,_,t2,ho2,hel1.perm hp2,(hp2.map _).trans hpm1,⟨y2.trans y1.symm,y3,y4,y5.trans z5,y6.trans z6,by rw [y7,y1]; exact hms⟩,by omega⟩
    · have hfull:t1.tooFull = false:=by simpa using hfull
      rw [hfull]
      simp only [Bool.and_false,Bool.false_eq_true,↓reduceIte]
      refine wpAny_pure (wpAny_pure ?_)
      refine h _ h1 sb1 ⟨es1,_,t1,ho1,hel1,hpm1,⟨z2.trans z1.symm,z3,z4,z5,z6,?_⟩,by omega⟩
      unfold SetTable.tooFull SetTable.fill at hfull
      rw [z2,z3,z7] at hfull
      have hfull:¬ (es.size + 1 + 0) * 5 ≥ t.mask * 3:=of_decide_eq_false hfull
      rw [z7,z1]
      rcases hT.ms with ⟨m1,m2⟩ | ⟨m1,m2⟩ | ⟨m1,m2⟩
      · rw [m1] at hfull; left; omega
      · rw [m1] at hfull; right; left; omega
      · right; right; omega
theorem ISet.at {h h':Heap} {a:Addr} {fm:List Int} {L:Bool} (S:ISet prog w h a fm L) (e:∀ o,h.get? a = some o->h'.get? a = some o):ISet prog w h' a fm L:=by
  obtain ⟨es,ep,t,ho,r⟩:=S
  exact ⟨es,ep,t,e _ ho,r⟩
theorem firstMet_le (val:Nat->Int):∀ {i n:Nat},i ≤ n->(firstMet val i).length ≤ (firstMet val n).length
  | i,0,h=>by rw [show i = 0 by omega]; exact Nat.le_refl _
  | i,n + 1,h=>by
    by_cases e:i = n + 1
    · rw [e]; exact Nat.le_refl _
    · refine Nat.le_trans (firstMet_le val (show i ≤ n by omega)) ?_
      rw [firstMet_succ,step_length]
      split <;> omega
theorem iset_loop {R:Result->Shared->Prop} {I:Addr} {fp wr:List Addr} {G:Array GenState->Array GenState->Prop} {n:Nat} {P:Nat->Value->Prop} {St:Nat->Shared->Prop} (W:WalksS prog w A.in1 I fp wr G n P St) (S:Addr) (hSf:S ∉ fp) {L:Bool}
    (val:Nat->Int) (hval:∀ i v,P i v->∃ t,v = .int (val i) t) (hb:(firstMet val n).length ≤ 63):∀ (k i:Nat) (s:Shared),n - i = k->i ≤ n->St i s->ISet prog w s.heap S (firstMet val i) L →
      (∀ s',Moved (S :: wr) G s s'->ISet prog w s'.heap S (firstMet val n) L->R (.ok (.ret .none)) s')->codeAny (model prog w) A (.builtin "set.update.loop" ⟨[.ref S,.ref I],[]⟩) R s:=by
  have hSw:S ∉ wr:=fun h=>hSf (W.sub _ h)
  have hsub:∀ b ∈ wr,b ∈ S :: wr:=fun b hb=>List.mem_cons_of_mem _ hb
  intro k
  induction k with
  | zero =>
    intro i s hk hi hst hS hR
    have hin:i = n:=by omega
    subst hin
    refine codeAny_builtin PyProof.Rows.F.entry_set_update_loop ?_
    rw [Around.under_plainId PyProof.Rows.F.plain_set_update_loop _]
    show wpAny _ A.in1 (pyNext (.ref I) >>= _) _ _ s
    refine wpAny_bind (W.done s _ _ hst fun s' hm=>?_)
    show wpAny _ A.in1 (ret Value.none) _ _ s'
    exact wpAny_pure (hR s' (hm.mono hsub) (hS.at fun o e=>hm.heap S o hSw e))
  | succ k ih =>
    intro i s hk hi hst hS hR
    have hlt:i < n:=by omega
    refine codeAny_builtin PyProof.Rows.F.entry_set_update_loop ?_
    rw [Around.under_plainId PyProof.Rows.F.plain_set_update_loop _]
    show wpAny _ A.in1 (pyNext (.ref I) >>= _) _ _ s
    refine wpAny_bind (W.item i s _ _ hlt hst fun v s' hP hst' hm=>?_)
    obtain ⟨t,rfl⟩:=hval i v hP
    have hS':ISet prog w s'.heap S (firstMet val i) L:=hS.at fun o e=>hm.heap S o hSw e
    show wpAny _ A.in1 (holding [Value.int (val i) t] (setAdd S (.int (val i) t)) >>= _) _ _ s'
    refine wpAny_bind (wpAny_holding ?_)
    unfold setAdd
    refine wpAny_holding ?_
    refine wpAny_bind ((intKind prog w).pyHash (k:=val i) (intKind_is _ _ _ _) ?_)
    have hfs:=firstMet_succ val i
    refine iset_add (s:={ s' with toks:=s'.toks + 1 }) hS' (by rw [← hfs]; exact Nat.le_trans (firstMet_le val hlt) hb) fun b h' hsb hS2=>?_
    rw [← hfs] at hS2
    refine wpAny_pure ⟨plainId_quiet PyProof.Rows.F.plain_set_update_loop _,ih (i + 1) _ (by omega) hlt (W.frame _ s' _ _ hst' (Nat.le_succ _) fun b hb o e=>?_) hS2 fun s'' hm'' hS''=>?_⟩
    · rw [hsb.2 b (fun h:b = S=>hSf (by rw [← h]; exact hb))]; exact e
    · refine hR s'' (Moved.trans W.gtrans ((hm.mono hsub).then_heap (Nat.le_succ _) fun b o hb e=>?_) hm'') hS''
      rw [hsb.2 b (fun h:b = S=>hb (by rw [h]; exact List.mem_cons_self))]; exact e
theorem iset_new (a:Value) {Q₁:Value->Shared->Prop}
    (h:Q₁ (.ref s.heap.objs.size) { s with heap:=s.heap.push { cls:=.type "set",dict:=none,data:=.set #[] 0 (.fresh 0 0 (!w.params.followText "set-order")) } }) :
    codeAny (model prog w) A (.call (.builtin "set.__new__") ⟨[.type "set",a],[]⟩) (wants Q₁ E) s:=by
  refine codeAny_of_tree ?_
  show wpAny _ A.in1 (do checkBuiltinCall "set.__new__" ⟨[.type "set",a],[]⟩; again (.builtin "set.__new__" ⟨[.type "set",a],[]⟩)) _ _ s
  refine wpAny_bind (wpAny_of_eq (PySem.F.newCall_set_1 a) (wpAny_pure ⟨plainId_quiet PySem.F.plain_set_new _,codeAny_builtin PySem.F.entry_set_new ?_⟩))
  rw [Around.under_plainId PySem.F.plain_set_new _]
  unfold Builtin.«set.__new__» Builtin.Frozenset.newClass
  have hsub:=sub_set_self
  obtain ⟨hp,g,d,tk,os⟩:=s
  dsimp only
  wp_walk
  refine wpAny_askSetting (wpAny_pure ?_)
  dsimp only
  simp only [newObj]
  refine wpAny_bind (wpAny_alloc (wpAny_pure ?_))
  exact wpAny_pure h
set_option maxHeartbeats 6400000 in
theorem iset_call {l:Addr} {items:Array Value} {ns:List Int} {Q:Value->Shared->Prop} (hh:A.handled = none) (hl:s.heap.IsList l items) (hi:IntsAre items.toList ns) (hb:(firstMet (fun i=>ns.getD i 0) items.size).length ≤ 63)
    (h:∀ (h':Heap) (tk:Nat),ISet prog w h' s.heap.objs.size (firstMet (fun i=>ns.getD i 0) items.size) (!w.params.followText "set-order")->(∀ b o,b < s.heap.objs.size->s.heap.get? b = some o->h'.get? b = some o)->Q (.ref s.heap.objs.size) { s with heap:=h',toks:=tk }) :
    wpAny (model prog w) A (call (.type "set") [.ref l]) Q E s:=by
  obtain ⟨c,tl,hmro⟩:=PySem.F.called_set.mro
  have hmade:=PySem.F.called_set.made
  have hsub:=PySem.F.called_set.sub
  refine wpAny_call (codeAny_of_tree ?_)
  show wpAny _ _ (callAny (.type "set") _) _ _ _
  refine wpAny_pure ⟨Code.quiet_builtin _ (by decide +kernel),codeAny_builtin PySem.F.entry_type_call ?_⟩
  rw [Around.under_plain (weight_type_call_type "set" [.ref l] []) rfl]
  have h1:=PySem.F.called_set.notType
  have h2:=PySem.F.called_set.canCreate
  have hct:=PySem.F.typeCall_set_1 (.ref l)
  repeat (any_goals (first | assumption | wp_step))
  obtain ⟨led,hled⟩:∃ led:Bool,led = !w.params.followText "set-order":=⟨_,rfl⟩
  refine codeAny_mono (iset_new (.ref l) (E:=E) (Q₁:=fun obj s₁=>obj = .ref s.heap.objs.size /\ s₁ = { s with heap:=s.heap.push { cls:=.type "set",dict:=none,data:=.set #[] 0 (.fresh 0 0 led) } }) ⟨rfl,by rw [hled]⟩) fun r s₁ hr=>?_
  cases r with
  | error e=>exact hr
  | ok fl =>
    cases fl with
    | ret obj =>
      obtain ⟨rfl,rfl⟩:=hr
      have hS:(s.heap.push { cls:=.type "set",dict:=none,data:=.set #[] 0 (.fresh 0 0 led) }).get? s.heap.objs.size = some { cls:=.type "set",dict:=none,data:=.set #[] 0 (.fresh 0 0 led) }:=Heap.get?_push_size _ rfl
      have hT:Shared.TypeIs { s with heap:=s.heap.push { cls:=.type "set",dict:=none,data:=.set #[] 0 (.fresh 0 0 led) } } (.ref s.heap.objs.size) "set":=⟨_,hS,rfl⟩
      have hli:=PySem.F.called_set.init.lookup
      have hbi:=PySem.F.called_set.init.bind (.ref s.heap.objs.size)
      repeat (any_goals (first | assumption | wp_step))
      refine codeAny_mono (codeAny_call_builtin (R:=wants (fun r s₂=>r = .none /\ ∃ h' tk,s₂ = { s with heap:=h',toks:=tk } /\ ISet prog w h' s.heap.objs.size (firstMet (fun i=>ns.getD i 0) items.size) (!w.params.followText "set-order") /\ (∀ b o,b < s.heap.objs.size->s.heap.get? b = some o->h'.get? b = some o)) E) PySem.F.called_set.init.plain PySem.F.entry_set_init (check_set_init_1 hT ?_)) fun r₂ s₂ hr₂=>?_
      · obtain ⟨ol,hol,hcl,nl,hdl⟩:=hl
        obtain ⟨ocls,odict,odata,oslots⟩:=ol
        simp only at hcl hdl
        subst hcl; subst hdl
        have hol':(s.heap.push { cls:=.type "set",dict:=none,data:=.set #[] 0 (.fresh 0 0 led) }).get? l = some { cls:=.type "list",dict:=odict,data:=.seq items nl,slots:=oslots }:=Heap.get?_push_of_some _ hol
        have hsls:=PySem.F.sub_list_set
        have hslf:=PySem.F.sub_list_frozenset
        have hne:(Value.type "list" == Value.type "dict") = false:=by decide
        have hl1:(s.heap.push { cls:=.type "set",dict:=none,data:=.set #[] 0 (.fresh 0 0 led) }).IsList l items:=⟨_,hol',rfl,nl,rfl⟩
        unfold Builtin.«set.__init__» noKeywords Builtin.Frozenset.updateFrom
        generalize hPI:pyIter = PI
        wp_walk
        subst hPI
        refine wpAny_pyIter_list hl1 ?_
        refine wpAny_bind (wpAny_runValue ?_)
        have hlS:l < s.heap.objs.size:=Heap.lt_size hol
        have hh3:A.in1.in1.in1.handled = none:=by simp [hh]
        have hneI:l ≠ (s.heap.push { cls:=.type "set",dict:=none,data:=.set #[] 0 (.fresh 0 0 led) }).objs.size:=by rw [Heap.size_push]; exact Nat.ne_of_lt (Nat.lt_succ_of_lt hlS)
        have hSf:s.heap.objs.size ∉ [(s.heap.push { cls:=.type "set",dict:=none,data:=.set #[] 0 (.fresh 0 0 led) }).objs.size,l]:=by
          rw [Heap.size_push]; simp only [List.mem_cons,List.mem_singleton,List.not_mem_nil,or_false,not_or]
          exact ⟨Nat.ne_of_lt (Nat.lt_succ_self _),Nat.ne_of_gt hlS⟩
        have hval:∀ (i:Nat) (v:Value),items[i]? = some v->∃ t,v = .int ((fun i=>ns.getD i 0) i) t:=fun i v hv=>IntsAre.int_at hi i v (by rw [Array.getElem?_toList]; exact hv)
        refine iset_loop (L:=!w.params.followText "set-order") ((Walks.list hh3 _ l hneI items).toS) s.heap.objs.size hSf (fun i=>ns.getD i 0) hval hb (items.size - 0) 0 _ (by omega) (Nat.zero_le _) ⟨⟨_,Heap.get?_push_size _ rfl,rfl,rfl⟩,(hl1.push _)⟩ ?hS0 ?hR
        case hS0 =>
          exact ⟨#[],0,_,Heap.get?_push_of_some _ hS,fun e he=>by simp at he,.nil,by rw [← hled]; exact TabI.fresh _,by simp⟩
        case hR =>
          intro s' hm hS'
          obtain ⟨h',g',d',tk',os'⟩:=s'
          have eg:g' = s.gens:=hm.gens
          have ed:d' = s.drawn:=hm.drawn
          have eo:os' = s.os:=hm.os
          subst eg; subst ed; subst eo
          show wpAny _ _ _ _ _ _
          refine wpAny_pure ?_
          show wpAny _ _ (ret Value.none) _ _ _
          refine wpAny_pure ⟨rfl,h',tk',rfl,hS',fun b o hb e=>?_⟩
          have hb1:b ≠ s.heap.objs.size:=Nat.ne_of_lt hb
          have hb2:b ≠ (s.heap.push { cls:=.type "set",dict:=none,data:=.set #[] 0 (.fresh 0 0 led) }).objs.size:=by rw [Heap.size_push]; exact Nat.ne_of_lt (Nat.lt_succ_of_lt hb)
          exact hm.heap b o (by simp only [List.mem_cons,List.mem_singleton,List.not_mem_nil,or_false,not_or]; exact ⟨hb1,hb2⟩) (Heap.get?_push_of_some _ (Heap.get?_push_of_some _ e))
      · cases r₂ with
        | error e=>exact hr₂
        | ok fl₂ =>
          cases fl₂ with
          | ret r =>
            obtain ⟨rfl,h',tk,rfl,hS',hk'⟩:=hr₂
            repeat (any_goals (first | assumption | wp_step))
            exact h _ _ hS' hk'
          | _=>exact hr₂.elim
    | _=>exact hr.elim
end
open PySem PySem.Spec PyProof.Rows
theorem pick_go {α:Type} (next:Nat->Nat):∀ (fuel k:Nat) (left:List α) (out:Array α),left.length = fuel->(pickOrder.go next fuel k left out).toList.Perm (out.toList ++ left)
  | 0,k,left,out,h=>by
    have:left = []:=List.length_eq_zero_iff.mp h
    subst this
    unfold pickOrder.go
    simp
  | fuel + 1,k,left,out,h=>by
    unfold pickOrder.go
    have hlt:next k % left.length < left.length:=Nat.mod_lt _ (by omega)
    rw [List.getElem?_eq_getElem hlt]
    dsimp only
    refine (pick_go next fuel (k + 1) _ _ (by rw [List.length_eraseIdx_of_lt hlt]; omega)).trans ?_
    rw [Array.toList_push,List.append_assoc]
    refine (List.perm_append_left_iff _).mpr ?_
    rw [List.eraseIdx_eq_take_drop_succ]
    have e:left = left.take (next k % left.length) ++ left[next k % left.length] :: left.drop (next k % left.length + 1):=by
      conv=>lhs; rw [← List.take_append_drop (next k % left.length) left,List.drop_eq_getElem_cons hlt]
    conv=>rhs; rw [e]
    show (left[next k % left.length] :: (left.take (next k % left.length) ++ left.drop (next k % left.length + 1))).Perm _
    exact List.perm_middle.symm
theorem pick_perm {α:Type} (next:Nat->Nat) (xs:Array α):(pickOrder next xs).toList.Perm xs.toList:=by
  unfold pickOrder
  have:=pick_go next xs.size 0 xs.toList #[] (by simp)
  simpa using this
def setOrd (w:World) (d:Addr) (ep:Nat) (es:Array (Int × Value)):Array (Int × Value):=if w.params.followText "set-order" = true then pickOrder (w.params.setOrder d ep) es else es
theorem setOrd_perm (w:World) (d:Addr) (ep:Nat) (es:Array (Int × Value)):(setOrd w d ep es).toList.Perm es.toList:=by
  unfold setOrd
  split
  · exact pick_perm _ _
  · exact .rfl
theorem setOrd_size (w:World) (d:Addr) (ep:Nat) (es:Array (Int × Value)):(setOrd w d ep es).size = es.size:=by
  rw [← Array.length_toList,(setOrd_perm w d ep es).length_eq,Array.length_toList]
def slotAt (w:World) (t:SetTable) (i:Nat):Nat:=if w.params.followText "set-order" = true then 0 else match i with
  | 0=>0
  | k + 1=>t.place.getD k 0 + 1
def SIter (h:Heap) (I d:Addr) (first i n ep:Nat):Prop:=∃ o,h.get? I = some o /\ o.cls = .type "set_iterator" /\ o.data = .fields #[rawInt first,rawInt i,.ref d,rawInt n,rawInt ep]
def SObj (h:Heap) (d:Addr) (es:Array (Int × Value)) (ep:Nat) (t:SetTable):Prop:=h.get? d = some { cls:=.type "set",dict:=none,data:=.set es ep t,slots:=#[] }
section
variable {prog:Program} {w:World} {A:Around} {E:Value->Shared->Prop} {s:Shared}
theorem set_next_at {d:Addr} {es:Array (Int × Value)} {ep:Nat} {t:SetTable} (hd:SObj s.heap d es ep t) (hT:TabI t es.size (!w.params.followText "set-order")) {i:Nat} {Q:Option (Value × Nat)->Shared->Prop}
    (h:∀ r,(match (setOrd w d ep es)[i]? with | some e=>r = some (e.2,slotAt w t (i + 1)) | none=>r = none)->Q r s) (hi:i ≤ es.size) :
    wpAny (model prog w) A (setNext d (slotAt w t i) i ep) Q E s:=by
  have hf:=hT.fits
  unfold setNext
  refine wpAny_bind (wpAny_setState_of hd rfl hf ?_)
  dsimp only
  unfold setsByText
  refine wpAny_bind (wpAny_bind (wpAny_askSetting (wpAny_pure ?_)))
  by_cases hb:w.params.followText "set-order" = true
  · have hb':(model prog w).w.params.followText "set-order" = true:=hb
    simp only [hb',↓reduceIte]
    simp only [bne_self_eq_false,Bool.false_eq_true,↓reduceIte]
    refine wpAny_bind ?_
    unfold setWalk
    refine wpAny_bind (wpAny_setState_of hd rfl hf ?_)
    dsimp only
    unfold setsByText
    refine wpAny_bind (wpAny_bind (wpAny_askSetting (wpAny_pure ?_)))
    simp only [hb',↓reduceIte]
    refine wpAny_bind (wpAny_askSetting (wpAny_pure ?_))
    refine wpAny_pure (h _ ?_)
    unfold setOrd slotAt
    simp only [hb,↓reduceIte]
    show match (pickOrder (w.params.setOrder d ep) es)[i]? with | some e=>_ | none=>_
    cases e:(pickOrder (w.params.setOrder d ep) es)[i]? with
    | none =>
      have e':(pickOrder ((model prog w).w.params.setOrder d ep) es)[i]? = none:=e
      show Option.map _ _ = none
      rw [e']; rfl
    | some x =>
      have e':(pickOrder ((model prog w).w.params.setOrder d ep) es)[i]? = some x:=e
      show Option.map _ _ = some (x.2,0)
      rw [e']; rfl
  · have hb:w.params.followText "set-order" = false:=by simpa using hb
    have hb':(model prog w).w.params.followText "set-order" = false:=hb
    simp only [hb',Bool.false_eq_true,↓reduceIte]
    have hpl:=hT.pl
    have hld:t.led = true:=by rw [hT.ld,hb]; rfl
    show wpAny _ _ (if (!t.plain && decide (es.size > 1)) = true then _ else _) _ _ _
    rw [hpl]
    simp only [Bool.not_true,Bool.false_and,Bool.false_eq_true,↓reduceIte]
    show wpAny _ _ ((if (!t.led && !es.isEmpty) = true then _ else _) >>= _) _ _ _
    rw [hld]
    simp only [Bool.not_true,Bool.false_and,Bool.false_eq_true,↓reduceIte]
    refine wpAny_bind (wpAny_pure ?_)
    refine wpAny_pure (h _ ?_)
    have eo:setOrd w d ep es = es:=by unfold setOrd; rw [if_neg (by rw [hb]; simp)]
    have es1:∀ j,slotAt w t j = match j with | 0=>0 | k + 1=>t.place.getD k 0 + 1:=fun j=>by unfold slotAt; rw [if_neg (by rw [hb]; simp)]
    have hsz:=hT.sz
    have ebl:SetTable.below t.place (slotAt w t i) = i:=by
      rw [es1]
      cases i with
      | zero=>exact below_zero hT.ri
      | succ k =>
        have hk:k < t.place.size:=by omega
        have e1:t.place[k]? = some t.place[k]:=Array.getElem?_eq_getElem hk
        show SetTable.below t.place (t.place.getD k 0 + 1) = k + 1
        rw [show t.place.getD k 0 = t.place[k] by simp [Array.getD,hk]]
        exact below_next hT.ri e1
    rw [eo,ebl,es1]
    by_cases hlt:i < es.size
    · have hlt2:i < t.place.size:=by omega
      rw [Array.getElem?_eq_getElem hlt,Array.getElem?_eq_getElem hlt2]
      simp [Array.getD,hlt2]
    · rw [Array.getElem?_eq_none (by omega)]
namespace FS
theorem owner_si:Manifest.owners.lookup (String.ofList ['r','o','t','a','r','e','t','i','_','t','e','s'].reverse) = some Manifest.sig_set_iterator:=by kernel_rfl
theorem slot_si_next:Slot "set_iterator" "__next__" "set_iterator.__next__" :=
  .of (owner:="set_iterator") (n:="__next__") (by rw [typeLookup_type,builtinLookup_eq_fast]; kernel_rfl) (by decide +kernel) (by decide +kernel) (by decide +kernel)
    (by first | exact .inl (by decide +kernel) | exact .inr (by decide +kernel)) (by rw [isSubtype_type]; kernel_rfl)
theorem entry_si_next:entryFor table "set_iterator.__next__" = some Builtin.«set_iterator.__next__»:=entryFor_of_tree (by kernel_rfl)
theorem args_si_next (a:Value):argsOk "set_iterator.__next__" ⟨[a],[]⟩:=by
  unfold argsOk; rw [signature?_of (id:="set_iterator.__next__") (n:=['_','_','t','x','e','n','_','_']) (o:=['r','o','t','a','r','e','t','i','_','t','e','s']) (by kernel_rfl) owner_si]; kernel_rfl
theorem slot_si_iter:Slot "set_iterator" "__iter__" "set_iterator.__iter__" :=
  .of (owner:="set_iterator") (n:="__iter__") (by rw [typeLookup_type,builtinLookup_eq_fast]; kernel_rfl) (by decide +kernel) (by decide +kernel) (by decide +kernel)
    (by first | exact .inl (by decide +kernel) | exact .inr (by decide +kernel)) (by rw [isSubtype_type]; kernel_rfl)
theorem args_si_iter (a:Value):argsOk "set_iterator.__iter__" ⟨[a],[]⟩:=by
  unfold argsOk; rw [signature?_of (id:="set_iterator.__iter__") (n:=['_','_','r','e','t','i','_','_']) (o:=['r','o','t','a','r','e','t','i','_','t','e','s']) (by kernel_rfl) owner_si]; kernel_rfl
theorem entry_si_iter:entryFor table "set_iterator.__iter__" = some Builtin.«dict_keyiterator.__iter__» :=
  entryFor_alias (id':="dict_keyiterator.__iter__") (by kernel_rfl) (by first | rfl | decide +kernel | (unfold String.splitOn; simp +decide [String.splitOnAux])) (by decide +kernel) (by kernel_rfl)
theorem entry_set_iter:entryFor table "set.__iter__" = some Builtin.«frozenset.__iter__» :=
  entryFor_alias (id':="frozenset.__iter__") (by kernel_rfl) rfl (by decide +kernel) (by kernel_rfl)
end FS
theorem SIter.typeIs {I d:Addr} {a b c e:Nat} (x:SIter s.heap I d a b c e):s.TypeIs (.ref I) "set_iterator":=let ⟨o,ho,hc,_⟩:=x; ⟨o,ho,hc⟩
theorem SIter.at {h h':Heap} {I d:Addr} {a b c e:Nat} (x:SIter h I d a b c e) (k:∀ o,h.get? I = some o->h'.get? I = some o):SIter h' I d a b c e:=let ⟨o,ho,r⟩:=x; ⟨o,k _ ho,r⟩
theorem SObj.typeIs {d:Addr} {es:Array (Int × Value)} {ep:Nat} {t:SetTable} (x:SObj s.heap d es ep t):s.TypeIs (.ref d) "set":=⟨_,x,rfl⟩
theorem set_next_item {I d:Addr} {es:Array (Int × Value)} {ep:Nat} {t:SetTable} {i:Nat} {Q:Option Value->Shared->Prop} (hit:SIter s.heap I d (slotAt w t i) i es.size ep) (hd:SObj s.heap d es ep t) (hT:TabI t es.size (!w.params.followText "set-order")) (hi:i < es.size)
    (hQ:∀ h' x,(setOrd w d ep es)[i]? = some x->SIter h' I d (slotAt w t (i + 1)) (i + 1) es.size ep->Heap.SameBut I s.heap h'->Q (some x.2) { s with heap:=h' }):wpAny (model prog w) A (pyNext (.ref I)) Q E s:=by
  obtain ⟨o,ho,hc,hdt⟩:=id hit
  have hex:∃ x,(setOrd w d ep es)[i]? = some x:=⟨_,Array.getElem?_eq_getElem (by rw [setOrd_size]; exact hi)⟩
  obtain ⟨x,hx⟩:=hex
  unfold pyNext
  refine wpAny_bind (wpAny_attempt (wpAny_callSpecial?_slot (name:=Str.ofString "__next__") hit.typeIs FS.slot_si_next (wpAny_call_entry FS.slot_si_next hit.typeIs FS.entry_si_next ?_ (FS.args_si_next _))))
  unfold Builtin.«set_iterator.__next__»
  refine wpAny_bind (wpAny_of_eq (a:=(Value.ref I,[])) rfl ?_)
  try dsimp only
  refine wpAny_bind (wpAny_fieldsOf ho hdt ?_)
  dsimp only [rawInt]
  refine wpAny_bind (wpAny_setEntries_of hd rfl hT.fits ?_)
  simp only [bne_self_eq_false,Bool.false_eq_true,↓reduceIte,Int.toNat_natCast]
  refine wpAny_bind (set_next_at hd hT (fun r hr=>?_) (Nat.le_of_lt hi))
  rw [hx] at hr
  subst hr
  dsimp only
  refine wpAny_bind (wpAny_setField ho hdt (by simp) ?_)
  have g1:=Heap.get?_update_self (Obj.mapFields (·.setIfInBounds 0 (Value.int (slotAt w t (i + 1):Int) 0))) ho (Obj.isFreed_of_fields (Obj.data_mapFields hdt _))
  have c1:=(Obj.cls_mapFields (o:=o) (f:=(·.setIfInBounds 0 (Value.int (slotAt w t (i + 1):Int) 0)))).trans hc
  have d1:(Obj.mapFields (·.setIfInBounds 0 (Value.int (slotAt w t (i + 1):Int) 0)) o).data = .fields #[rawInt (slotAt w t (i + 1)),rawInt i,.ref d,rawInt es.size,rawInt ep]:=by rw [Obj.data_mapFields hdt]; simp [rawInt]
  generalize Obj.mapFields (·.setIfInBounds 0 (Value.int (slotAt w t (i + 1):Int) 0)) o = o1 at g1 c1 d1
  refine wpAny_bind (wpAny_setField g1 d1 (by simp) ?_)
  refine wpAny_pure ⟨x.2,rfl,wpAny_pure (hQ _ x hx ?_ ((Heap.SameBut.update ..).trans (Heap.SameBut.update ..)))⟩
  exact ⟨_,Heap.get?_update_self _ g1 (Obj.isFreed_of_fields (Obj.data_mapFields d1 _)),(Obj.cls_mapFields ..).trans c1,by rw [Obj.data_mapFields d1]; simp [rawInt]⟩
theorem set_next_end {I d:Addr} {es:Array (Int × Value)} {ep:Nat} {t:SetTable} {Q:Option Value->Shared->Prop} (hh:A.handled = none) (hit:SIter s.heap I d (slotAt w t es.size) es.size es.size ep) (hd:SObj s.heap d es ep t) (hT:TabI t es.size (!w.params.followText "set-order"))
    (hQ:∀ h',Heap.ExtBut I s.heap h'->Q none { s with heap:=h' }):wpAny (model prog w) A (pyNext (.ref I)) Q E s:=by
  obtain ⟨o,ho,hc,hdt⟩:=id hit
  have hx:(setOrd w d ep es)[es.size]? = none:=Array.getElem?_eq_none (by rw [setOrd_size]; exact Nat.le_refl _)
  unfold pyNext
  refine wpAny_bind (wpAny_attempt (wpAny_callSpecial?_slot (name:=Str.ofString "__next__") hit.typeIs FS.slot_si_next (wpAny_call_entry FS.slot_si_next hit.typeIs FS.entry_si_next ?_ (FS.args_si_next _))))
  unfold Builtin.«set_iterator.__next__»
  refine wpAny_bind (wpAny_of_eq (a:=(Value.ref I,[])) rfl ?_)
  try dsimp only
  refine wpAny_bind (wpAny_fieldsOf ho hdt ?_)
  dsimp only [rawInt]
  refine wpAny_bind (wpAny_setEntries_of hd rfl hT.fits ?_)
  simp only [bne_self_eq_false,Bool.false_eq_true,↓reduceIte,Int.toNat_natCast]
  refine wpAny_bind (set_next_at hd hT (fun r hr=>?_) (Nat.le_refl _))
  rw [hx] at hr
  subst hr
  dsimp only
  refine wpAny_bind (wpAny_setField ho hdt (by simp) ?_)
  refine wpAny_bind ?_
  simp only [newExc,newTuple]
  refine wpAny_bind (wpAny_newObj_type ?_ (by size_fits))
  refine wpAny_bind (m:=firstArgMember _ _) (wpAny_of_eq (a:=Value.none) (by first | rfl | (simp only [firstArgMember]; rfl)) ?_)
  refine wpAny_newObj_type ?_ (by size_fits)
  simp only [raiseNew]
  refine wpAny_bind (wpAny_handled ?_)
  first | rw [show A.in1.handled = none from hh] | rw [hh]
  refine wpAny_bind (wpAny_pure (wpAny_throw ?_))
  refine wpAny_bind (wpAny_isInstance (T:="StopIteration") (b:=true) ⟨_,Heap.get?_push_size _ rfl,rfl⟩ isSubtype_stop ?_)
  exact wpAny_pure (hQ _ (((Heap.SameBut.extBut (Heap.SameBut.update ..)).push _).push _))
theorem set_iter_self {I d:Addr} {a b c e:Nat} {Q:Value->Shared->Prop} (hit:SIter s.heap I d a b c e) (h:Q (.ref I) s):wpAny (model prog w) A (pyIter (.ref I)) Q E s:=by
  refine wpAny_pyIter_slot hit.typeIs FS.slot_si_iter (wpAny_call_entry FS.slot_si_iter hit.typeIs FS.entry_si_iter ?_ (FS.args_si_iter _))
  show wpAny _ _ (ret (.ref I)) _ _ s
  exact wpAny_pure ⟨_,rfl,"set_iterator",_,hit.typeIs,FS.slot_si_next.lookup,h⟩
def sIterObj (d:Addr) (n ep:Nat):Obj:={ cls:=.type "set_iterator",data:=.fields #[rawInt (0:Nat),rawInt (0:Nat),.ref d,rawInt n,rawInt ep] }
theorem set_iter {d:Addr} {es:Array (Int × Value)} {ep:Nat} {t:SetTable} {Q:Value->Shared->Prop} (hd:SObj s.heap d es ep t) (hT:TabI t es.size (!w.params.followText "set-order"))
    (h:Q (.ref s.heap.objs.size) { s with heap:=s.heap.push (sIterObj d es.size ep) }):wpAny (model prog w) A (pyIter (.ref d)) Q E s:=by
  have hf:=hT.fits
  refine wpAny_pyIter_slot hd.typeIs PySem.F.slot_set_iter (wpAny_call_entry PySem.F.slot_set_iter hd.typeIs FS.entry_set_iter ?_ (PySem.F.args_set_iter_1 _))
  unfold Builtin.«frozenset.__iter__»
  refine wpAny_bind (wpAny_of_eq (a:=d) rfl ?_)
  unfold Builtin.Frozenset.sizeOf
  refine wpAny_bind (wpAny_bind (wpAny_setEntries_of hd rfl hf (wpAny_pure ?_)))
  unfold setDrawn
  refine wpAny_bind (wpAny_bind (wpAny_setState_of hd rfl hf ?_))
  dsimp only
  unfold setsByText
  refine wpAny_bind (wpAny_bind (wpAny_askSetting (wpAny_pure ?_)))
  refine wpAny_pure ?_
  have hdr:∀ b:Bool,(b && (!t.plain && decide (es.size > 1))) = false:=fun b=>by rw [hT.pl]; simp
  show wpAny _ _ (if (!w.params.followText "set-order" && (!t.plain && decide (es.size > 1))) = true then _ else _) _ _ _
  rw [hdr]
  simp only [Bool.false_eq_true,↓reduceIte]
  refine wpAny_bind (wpAny_pure ?_)
  refine wpAny_bind (wpAny_setEpoch_of hd rfl hf ?_)
  simp only [newFields]
  refine wpAny_bind (wpAny_newObj_type ?_)
  refine wpAny_pure ⟨_,rfl,"set_iterator",_,⟨_,Heap.get?_push_size _ rfl,rfl⟩,FS.slot_si_next.lookup,?_⟩
  exact h
theorem set_hint {r:Addr} {Q:Bool->Shared->Prop} (hT:s.TypeIs (.ref r) "set") (h:Q false s):wpAny (model prog w) A (Builtin.List.listLengthHint (.ref r)) Q E s:=by
  unfold Builtin.List.listLengthHint
  refine wpAny_bind (wpAny_specialOf hT PySem.F.slot_set_len.lookup ?_)
  generalize hid:("set.__len__":String) = id0
  wp_delta
  rw [show splitId id0 = some ("set","__len__") from by subst hid; decide +kernel]
  subst hid
  refine wpAny_bind (wpAny_isInstance (T:="set") (b:=true) hT (by rw [isSubtype_type]; kernel_rfl) ?_)
  refine wpAny_ite_split (fun hab=>absurd hab (by decide)) (fun _=>?_)
  refine wpAny_ite_split (fun _=>?_) (fun hab=>absurd (by decide +kernel) hab)
  refine wpAny_bind (wpAny_typeOf hT ?_)
  exact wpAny_pure h
theorem set_walks (hh:A.handled = none) (I d:Addr) (hne:d ≠ I) {es:Array (Int × Value)} {ep:Nat} {t:SetTable} (hT:TabI t es.size (!w.params.followText "set-order")) :
    Walks prog w A I [I,d] [I] es.size (fun i v=>∃ e,(setOrd w d ep es)[i]? = some e /\ v = e.2) (fun i h=>SIter h I d (slotAt w t i) i es.size ep /\ SObj h d es ep t) where
  sub:=fun b hb=>by simp at hb; simp [hb]
  frame:=fun _ _ _ st hk=>⟨st.1.at fun o e=>hk I (by simp) o e,hk d (by simp) _ st.2⟩
  item:=fun i s Q E hi st hQ=>set_next_item st.1 st.2 hT hi fun h' x hx st' sb=>hQ _ h' s.toks ⟨x,hx,rfl⟩ ⟨st',(sb.2 d hne).trans st.2⟩ fun b o hb eo=>sb.extBut b o (fun h=>hb (by simp [h])) eo
  done:=fun s Q E st hQ=>set_next_end hh st.1 st.2 hT fun h' he=>hQ h' s.toks fun b o hb eo=>he b o (fun h=>hb (by simp [h])) eo
  self:=fun _ _ _ _ st h=>set_iter_self st.1 h
theorem slotAt_zero (w:World) (t:SetTable):slotAt w t 0 = 0:=by unfold slotAt; split <;> rfl
theorem set_src {d:Addr} {es:Array (Int × Value)} {ep:Nat} {t:SetTable} (hT:TabI t es.size (!w.params.followText "set-order")):PySem.W.KdlSrc prog w "set" d d es.size (fun i v=>∃ e,(setOrd w d ep es)[i]? = some e /\ v = e.2) (fun h=>SObj h d es ep t) where
  type:=fun _ hm=>hm.typeIs
  there:=fun _ hm=>⟨Heap.lt_size hm,Heap.lt_size hm⟩
  keep:=fun _ _ hm hk=>hk d (.inl rfl) _ hm
  notList:=by decide
  notTuple:=by decide
  hint:=fun _ _ _ _ hm hq=>set_hint hm.typeIs hq
  iter:=fun A s hh hm=>⟨sIterObj d es.size ep,_,(fun _ _ hq=>set_iter hm hT hq),set_walks hh _ d (Nat.ne_of_lt (Heap.lt_size hm)) hT,⟨⟨_,Heap.get?_push_size _ rfl,rfl,by rw [slotAt_zero]; rfl⟩,Heap.get?_push_of_some _ hm⟩⟩
end
section
variable {X:Cx}
theorem vals_at:∀ {us:List Value} {ns:List Int},us.length = ns.length->(∀ (j:Nat) v,us[j]? = some v->∃ n t,ns[j]? = some n /\ v = Value.int n t)->Vals (ns.map V.int) us
  | [],[],_,_=>.nil
  | [],_ :: _,h,_=>by simp at h
  | _ :: _,[],h,_=>by simp at h
  | u :: us,n :: ns,h,key=>by
    obtain ⟨m,t,e1,e2⟩:=key 0 u rfl
    have e1:n = m:=by simpa using e1
    subst e1
    exact .cons ⟨t,e2⟩ (vals_at (by simpa using h) fun j v e=>by
      obtain ⟨m,t,a1,a2⟩:=key (j + 1) v (by simpa using e)
      exact ⟨m,t,by simpa using a1,a2⟩)
theorem sorted_set (hc:X.calm = true) {pins:List (Addr × Obj)} {σ:St} {H:Hp} {s:Shared} {d:Addr} {fm:List Int} {Q:VK} (I:Inv X pins σ H s) (hS:ISet X.prog X.w s.heap d fm (!X.w.params.followText "set-order"))
    (q:∀ (l:Addr) (ns':List Int),H l = none->ns'.Perm fm->ns'.Pairwise (· ≤ ·)->Q (.ref l) (upd H l (.lst (ns'.map V.int)))):wpAny (model X.prog X.w) X.A (call (.builtin "sorted") [.ref d]) (EP X pins σ Q) X.xe s:=by
  obtain ⟨es,ep,t,ho,hel,hpm,hT,hsz⟩:=hS
  have ho:SObj s.heap d es ep t:=ho
  obtain ⟨ns,hns⟩:∃ ns,ns = keysI (setOrd X.w d ep es):=⟨_,rfl⟩
  have hpn:ns.Perm fm:=by rw [hns]; exact ((setOrd_perm X.w d ep es).map _).trans hpm
  have hnl:ns.length = es.size:=by rw [hns,keys_len,setOrd_size]
  have h64:ns.length < 64:=by omega
  refine Calls.call_function_entry kind_sorted plain_sorted entry_sorted (args_sorted1 _) ?_
  unfold Builtin.«sorted»
  refine wpAny_bind (m:=checkCount "sorted" 1 1 _) (wpAny_pure ?_)
  refine wpAny_bind (PySem.W.kdu_collect (A:=X.A.in1) (set_src (prog:=X.prog) (w:=X.w) (d:=d) (ep:=ep) hT) (I.ok.hd hc) ho (Nat.le_of_lt (small1000 (by omega))) fun h' tk acc keep hacc=>?_)
  have hI:IntsAre acc.toList ns:=by
    refine intsAre_of (vals_at (by rw [Array.length_toList,hacc.1,hnl]) fun j v e=>?_)
    obtain ⟨x,h1,h2⟩:=hacc.2 j v (by rw [← Array.getElem?_toList]; exact e)
    have hx:x ∈ (setOrd X.w d ep es).toList:=by rw [← Array.getElem?_toList] at h1; exact List.mem_of_getElem? h1
    obtain ⟨⟨k,hk,_⟩,_⟩:=hel x ((setOrd_perm X.w d ep es).mem_iff.mp hx)
    obtain ⟨t',et⟩:=Value.isInt_shape (show Value.isInt k x.2 = true from hk)
    refine ⟨k,t',?_,by rw [h2,et]⟩
    rw [hns]
    unfold keysI
    rw [List.getElem?_map,Array.getElem?_toList,h1]
    show some (keyI x.2) = some k
    rw [et]; rfl
  have hal:acc.toList.length < 64:=by rw [ints_len hI]; exact h64
  refine wpAny_bind (wpAny_newList ?_ (Nat.le_of_lt (small1000 (by omega))))
  have hoL:(h'.push (seqObj "list" acc.toList.toArray 0)).get? h'.objs.size = some (seqObj "list" acc.toList.toArray 0):=Heap.get?_push_size _ rfl
  refine wpAny_bind (wpAny_holding (wpAny_call_entry slot_list_sort ⟨_,hoL,rfl⟩ entry_list_sort (list_sort_tree hoL hI hal fun out ns' b1 b2 b3=>⟨_,rfl,?_⟩) (args_list_sort _)))
  refine wpAny_pure ⟨_,rfl,?_⟩
  obtain ⟨e,hat2⟩:=sortedHeap_at (out:=out) hoL
  have hno:s.heap.get? h'.objs.size = none:=by
    cases z:s.heap.get? h'.objs.size with
    | none=>rfl
    | some o=>exact absurd (Heap.lt_size (keep _ _ z)) (Nat.lt_irrefl _)
  have hlen:ns'.length ≤ sizeLine:=by rw [b2.length_eq]; exact Nat.le_of_lt (small1000 (by omega))
  have keep2:∀ b o,s.heap.get? b = some o->(sortedHeap (h'.push (seqObj "list" acc.toList.toArray 0)) h'.objs.size acc.toList out).get? b = some o:=fun b o z=>by
    have hb:=keep b o z
    have hlt:=Heap.lt_size hb
    rw [sortedHeap_old (Nat.ne_of_lt hlt) (by rw [size_push']; exact Nat.lt_succ_of_lt hlt)]
    exact Heap.get?_push_of_some _ hb
  obtain ⟨H',I',_⟩:=I.laidAt (t':=tk) (vs:=ns'.map V.int) hno keep2 ⟨by rw [List.length_map]; exact hlen,out.toList,e,vals_of b1,by simpa using hat2⟩
  exact ⟨.ref h'.objs.size,_,I',rfl,q _ ns' H' (b2.trans hpn) b3⟩
theorem dedup_mem (val:Nat->Int) (i:Nat) (k:Int):k ∈ firstMet val i ↔ ∃ j,j < i /\ val j = k:=by
  have h:=firstMet_any val i k
  rw [Bool.eq_iff_iff,List.any_eq_true,List.any_eq_true] at h
  constructor
  · intro hk
    obtain ⟨y,hy,e⟩:=h.mp ⟨k,hk,by simp⟩
    obtain ⟨j,hj,ej⟩:=List.mem_map.mp hy
    exact ⟨j,List.mem_range.mp hj,by rw [ej]; simpa using e⟩
  · rintro ⟨j,hj,e⟩
    obtain ⟨y,hy,e2⟩:=h.mpr ⟨val j,List.mem_map.mpr ⟨j,List.mem_range.mpr hj,rfl⟩,by simp [e]⟩
    have:y = k:=by simpa using e2
    exact this ▸ hy
theorem dedup_nodup (val:Nat->Int):∀ i,(firstMet val i).Nodup
  | 0=>.nil
  | i + 1=>by
    rw [firstMet_succ]
    unfold step_dedup
    have ih:=dedup_nodup val i
    split
    · exact ih
    · rename_i hn
      rw [List.nodup_append]
      refine ⟨ih,by simp,fun a ha b hb=>?_⟩
      have:b = val i:=by simpa using hb
      subst this
      intro e
      exact hn (List.any_eq_true.mpr ⟨a,ha,by simp [e]⟩)
def dd (ns:List Int):List Int:=firstMet (fun i=>ns.getD i 0) ns.length
theorem dd_mem {ns:List Int} {k:Int}:k ∈ dd ns ↔ k ∈ ns:=by
  unfold dd
  rw [dedup_mem]
  constructor
  · rintro ⟨j,hj,e⟩
    rw [List.getD_eq_getElem?_getD,List.getElem?_eq_getElem hj] at e
    have e:ns[j] = k:=e
    exact e ▸ List.getElem_mem hj
  · intro hk
    obtain ⟨j,hj,e⟩:=List.getElem_of_mem hk
    exact ⟨j,hj,by rw [List.getD_eq_getElem?_getD,List.getElem?_eq_getElem hj,e]; rfl⟩
theorem dd_lt {ns' ns:List Int} (hp:ns'.Perm (dd ns)) (hs:ns'.Pairwise (· ≤ ·)):ns'.Pairwise (· < ·) /\ ∀ k,k ∈ ns' ↔ k ∈ ns:=by
  refine ⟨?_,fun k=>hp.mem_iff.trans dd_mem⟩
  have hnd:ns'.Nodup:=hp.nodup_iff.mpr (dedup_nodup _ _)
  have:=hs.and hnd
  exact this.imp fun {a b} h=>by have:=h.1; have:=h.2; omega
def tSSet (K:PySem.W.Frag) (te:TE):TE:=fun σ H Q=>te σ H fun v H1=>∃ (l:Addr) (ns:List Int),v = .ref l /\ SqL K H1 l (ns.map V.int) /\ (dd ns).length ≤ 63 ∧
  ∀ (r:Addr) (ns':List Int),H1 r = none->ns'.Pairwise (· < ·)->(∀ k,k ∈ ns' ↔ k ∈ ns)->Q (.ref r) (upd H1 r (.lst (ns'.map V.int)))
theorem pe_sset {e:Expr} {te:TE} {p1 p2 pos1 pos2:Pos} (hc:X.calm = true) (hg1:Gl X "sorted") (hm1:X.mg "sorted" = none) (hg2:Gl X "set") (hm2:X.mg "set" = none) (he:PE X e te)
    (hs1:starEach [Expr.Call (.Name "set" p2) [e] [] pos2] X.env = [(false,eval (Expr.Call (.Name "set" p2) [e] [] pos2) X.env)]:=by rfl) (hs2:starEach [e] X.env = [(false,eval e X.env)]:=by rfl) :
    PE X (.Call (.Name "sorted" p1) [.Call (.Name "set" p2) [e] [] pos2] [] pos1) (tSSet X.K te):=by
  intro pins s σ H Q I h
  refine wpAny_Call_Name_kw (ld_blt I hg1 hm1 boot_sorted ?_)
  refine PyProof.Rows.callWith_builtin1 ?_ hs1 rfl
  rw [hs1]
  show wpAny _ _ (spliced ((false,eval (Expr.Call (.Name "set" p2) [e] [] pos2) X.env) :: backTo pos1 [])) _ _ s
  refine Calls.spliced_cons ?_
  refine wpAny_Call_Name_kw (ld_blt I hg2 hm2 boot_set ?_)
  refine PyProof.Rows.callWith_type1 ?_ hs2 rfl
  rw [hs2]
  show wpAny _ _ (spliced ((false,eval e X.env) :: backTo pos2 [])) _ _ s
  refine Calls.spliced_cons (thn (he pins s σ H _ I h) fun u s1 ⟨x,H1,I1,r1,q1⟩=>?_)
  obtain ⟨l,ns,rfl,hl,h63,q⟩:=q1
  cases r1
  refine Calls.spliced_nil ?_
  obtain ⟨its,rv,p,hz⟩:=I1.list hl
  have hI:=intsAre_of rv
  have hlen:its.length = ns.length:=by have:=rv.length; simpa using this.symm
  refine iset_call (I1.ok.hd hc) p.isList (by simpa using hI) (by rw [List.size_toArray,hlen]; exact h63) fun h' tk hS keep=>?_
  refine Calls.spliced_nil ?_
  have I2:Inv X pins σ H1 { s1 with heap:=h',toks:=tk }:=I1.kept fun b o e=>keep b o (Heap.lt_size e) e
  rw [show its.toArray.size = ns.length by rw [List.size_toArray,hlen]] at hS
  exact sorted_set hc I2 hS fun r ns' hr hp hso=>q r ns' hr (dd_lt hp hso).1 (dd_lt hp hso).2
end
open PySem PySem.Spec PyProof.Rows
theorem rise_ext:∀ {l m:List Int},l.Pairwise (· < ·)->m.Pairwise (· < ·)->(∀ a,a ∈ l ↔ a ∈ m)->l = m
  | [],[],_,_,_=>rfl
  | [],b :: m,_,_,h=>absurd ((h b).mpr (by simp)) (by simp)
  | a :: l,[],_,_,h=>absurd ((h a).mp (by simp)) (by simp)
  | a :: l,b :: m,hl,hm,h=>by
    rw [List.pairwise_cons] at hl hm
    have e:a = b:=by
      rcases List.mem_cons.mp ((h a).mp (by simp)) with e | h1
      · exact e
      · rcases List.mem_cons.mp ((h b).mpr (by simp)) with e | h2
        · exact e.symm
        · have:=hm.1 a h1; have:=hl.1 b h2; omega
    subst e
    rw [rise_ext hl.2 hm.2 fun c=>⟨fun hc=>?_,fun hc=>?_⟩]
    · rcases List.mem_cons.mp ((h c).mp (by simp [hc])) with e | h1
      · subst e; have:=hl.1 c hc; omega
      · exact h1
    · rcases List.mem_cons.mp ((h c).mpr (by simp [hc])) with e | h1
      · subst e; have:=hm.1 c hc; omega
      · exact h1
open PySem PySem.Spec PyProof.Rows
abbrev LiesG:=Int->Option (Int × Int × Bool)
def okG (gd g:Bool):Prop:=g = true ∨ gd = false
instance (gd g:Bool):Decidable (okG gd g):=inferInstanceAs (Decidable (_ ∨ _))
open PySem PySem.Spec PyProof.Rows
structure PDue where
  wh:Bool
  b:Nat
  d:Nat
  rows:List (Nat × Nat)
  bits:Nat
open PySem PySem.Spec PyProof.Rows
structure PcU where
  wh:Bool
  b:Nat
  d:Nat
  rows:List (Nat × Nat)
  c:Int
open PySem PySem.Spec PySem.Calls PyProof.Rows
abbrev KenIt (h:Heap) (e it:Addr) (i:Int) (item:Value) (a:Addr) (f:Bool):Prop :=
  h.get? e = some { cls:=.type "enumerate",dict:=none,data:=.fields #[rawInt a,.bool f,.ref it,rawInt i,.none,item],slots:=#[] }
section
variable {prog:Program} {w:World} {A:Around} {E:Value->Shared->Prop} {s:Shared}
theorem ken_alive {a:Addr} {o:Obj} {Q:Option Obj->Shared->Prop} (ho:s.heap.get? a = some o) (h:Q (some o) s):wpAny (model prog w) A (loadIfAlive a) Q E s:=by
  have h':Q (s.heap.get? a) s:=by rw [ho]; exact h
  exact fun _ _ _=>h'
theorem ken_next_out {e it l a:Addr} {f:Bool} {oa:Obj} {i:Nat} {items:Array Value} {x item:Value} {Q:Option Value->Shared->Prop}
    (he:KenIt s.heap e it i item a f) (ha:s.heap.get? a = some oa) (hae:a ≠ e) (hai:a ≠ it) (hit:s.heap.IsListIter it l i) (hl:s.heap.IsList l items) (hx:items[i]? = some x) (hne:e ≠ it)
    (hQ:∀ h',KenIt h' e it ((i:Int) + 1) item a true->h'.IsListIter it l (i + 1)->h'.get? s.heap.objs.size = some { cls:=.type "tuple",data:=.seq #[.int i s.toks,x] }->h'.objs.size = s.heap.objs.size + 1 →
      (∀ b o,b ≠ e->b ≠ it->s.heap.get? b = some o->h'.get? b = some o)->Q (some (.ref s.heap.objs.size)) { s with heap:=h',toks:=s.toks + 1 }) :
    wpAny (model prog w) A (pyNext (.ref e)) Q E s:=by
  have hT:s.TypeIs (.ref e) "enumerate":=⟨_,he,rfl⟩
  unfold pyNext
  refine wpAny_bind (wpAny_attempt (wpAny_callSpecial?_slot (name:=Str.ofString "__next__") hT PySem.F.slot_enumerate_next
    (wpAny_call_entry PySem.F.slot_enumerate_next hT PySem.F.entry_enumerate_next ?_ (PySem.F.args_enumerate_next_1 _))))
  obtain ⟨hp,g,d,tk,os⟩:=s
  show wpAny _ _ (field (.ref e) 2 >>= _) _ _ _
  refine wpAny_bind (wpAny_field he rfl (x:=.ref it) rfl ?_)
  refine wpAny_bind (wpAny_nextOf_list_item hit hl hx fun h₁ hit₁ hs₁=>?_)
  replace hs₁:Heap.SameBut it hp h₁:=hs₁
  have he₁:KenIt h₁ e it i item a f:=(hs₁.2 e hne).trans he
  show wpAny _ _ (field (.ref e) 3 >>= _) _ _ ⟨h₁,g,d,tk,os⟩
  refine wpAny_bind (wpAny_field he₁ rfl (x:=rawInt i) rfl ?_)
  show wpAny _ _ (field (.ref e) 4 >>= _) _ _ ⟨h₁,g,d,tk,os⟩
  refine wpAny_bind (wpAny_field he₁ rfl (x:=.none) rfl ?_)
  show wpAny _ _ (mkInt i >>= _) _ _ ⟨h₁,g,d,tk,os⟩
  refine wpAny_bind (wpAny_mkInt ?_)
  show wpAny _ _ (setField (.ref e) 3 (rawInt ((i:Int) + 1)) >>= _) _ _ ⟨h₁,g,d,tk + 1,os⟩
  refine wpAny_bind (wpAny_setField_rec he₁ (by simp) fun h₂ he₂ hs₂=>?_)
  replace hs₂:Heap.SameBut e h₁ h₂:=hs₂
  replace he₂:KenIt h₂ e it ((i:Int) + 1) item a f:=he₂
  show wpAny _ _ (setField (.ref e) 4 .none >>= _) _ _ ⟨h₂,g,d,tk + 1,os⟩
  refine wpAny_bind (wpAny_setField_rec he₂ (by simp) fun h₃ he₃ hs₃=>?_)
  replace hs₃:Heap.SameBut e h₂ h₃:=hs₃
  replace he₃:KenIt h₃ e it ((i:Int) + 1) item a f:=he₃
  show wpAny _ _ (newTuple [.int i tk,x] >>= _) _ _ ⟨h₃,g,d,tk + 1,os⟩
  refine wpAny_bind (wpAny_newTuple ?_)
  have he₄:KenIt (h₃.push { cls:=.type "tuple",data:=.seq #[.int i tk,x] }) e it ((i:Int) + 1) item a f:=Heap.get?_push_of_some _ he₃
  generalize hh₄:h₃.push { cls:=.type "tuple",data:=.seq #[.int i tk,x] } = h₄ at he₄
  have hsz:h₃.objs.size = hp.objs.size:=by rw [hs₃.1,hs₂.1,hs₁.1]
  have hel:e < hp.objs.size:=Heap.lt_size he
  have ht₄:h₄.get? hp.objs.size = some { cls:=.type "tuple",data:=.seq #[.int i tk,x] }:=by rw [← hh₄,← hsz]; exact Heap.get?_push_size _ rfl
  have hz₄:h₄.objs.size = hp.objs.size + 1:=by rw [← hh₄,Heap.size_push,hsz]
  have hk₄:∀ b o,b ≠ e->b ≠ it->hp.get? b = some o->h₄.get? b = some o:=fun b o hbe hbi hb=>by
    rw [← hh₄]; exact Heap.get?_push_of_some _ (hs₃.extBut b o hbe (hs₂.extBut b o hbe (hs₁.extBut b o hbi hb)))
  have hit₄:h₄.IsListIter it l (i + 1):=by
    rw [← hh₄]; obtain ⟨o,ho,r⟩:=(hit₁.extBut hs₂.extBut (Ne.symm hne)).extBut hs₃.extBut (Ne.symm hne); exact ⟨o,Heap.get?_push_of_some _ ho,r⟩
  show wpAny _ _ (Builtin.SmallTypes.ownedTupleIsFree (.ref e) >>= _) _ _ ⟨h₄,g,d,tk + 1,os⟩
  rw [hsz]
  clear hh₄ he₃ hs₃ he₂ hs₂ he₁ hs₁ hit₁ hsz h₃ h₂ h₁
  have ha₄:h₄.get? a = some oa:=hk₄ a oa hae hai ha
  refine wpAny_bind ?_
  unfold Builtin.SmallTypes.ownedTupleIsFree
  refine wpAny_bind (wpAny_field he₄ rfl (x:=rawInt a) rfl ?_)
  show wpAny _ _ (loadIfAlive ((a:Int).toNat) >>= _) _ _ _
  rw [Int.toNat_natCast]
  refine wpAny_bind (ken_alive ha₄ ?_)
  simp only [Option.isNone_some,Bool.false_eq_true,if_false]
  refine wpAny_bind (wpAny_field he₄ rfl (x:=.bool f) rfl ?_)
  have fin:∀ h₅:Heap,KenIt h₅ e it ((i:Int) + 1) item a true->Heap.SameBut e h₄ h₅->Q (some (.ref hp.objs.size)) ⟨h₅,g,d,tk + 1,os⟩:=fun h₅ he₅ hs₅ =>
    hQ h₅ he₅ (hit₄.extBut hs₅.extBut (Ne.symm hne)) (hs₅.extBut _ _ (Nat.ne_of_gt hel) ht₄) (by show h₅.objs.size = hp.objs.size + 1; rw [hs₅.1,hz₄]) fun b o hb hi e=>hs₅.extBut b o hb (hk₄ b o hb hi e)
  cases f with
  | true =>
    rw [if_neg (show ¬ ((Value.bool true != Value.bool true) = true) from Bool.false_ne_true)]
    refine wpAny_pure ?_
    simp only [Bool.false_eq_true,if_false]
    exact wpAny_pure ⟨_,rfl,wpAny_pure (fin h₄ he₄ (Heap.SameBut.refl _ _))⟩
  | false =>
    rw [if_pos (show (Value.bool false != Value.bool true) = true from rfl)]
    refine wpAny_bind (wpAny_setField_rec he₄ (by simp) fun h₅ he₅ hs₅=>?_)
    replace hs₅:Heap.SameBut e h₄ h₅:=hs₅
    replace he₅:KenIt h₅ e it ((i:Int) + 1) item a true:=he₅
    refine wpAny_pure ?_
    simp only [Bool.false_eq_true,if_false]
    exact wpAny_pure ⟨_,rfl,wpAny_pure (fin h₅ he₅ hs₅)⟩
theorem ken_end_out {e it l a:Addr} {f:Bool} {i:Nat} {items:Array Value} {item:Value} {Q:Option Value->Shared->Prop} (hh:A.handled = none)
    (he:KenIt s.heap e it i item a f) (hit:s.heap.IsListIter it l i) (hl:s.heap.IsList l items) (hx:items[i]? = none)
    (hQ:∀ h',Heap.ExtBut it s.heap h'->Q none { s with heap:=h' }):wpAny (model prog w) A (pyNext (.ref e)) Q E s:=by
  have hT:s.TypeIs (.ref e) "enumerate":=⟨_,he,rfl⟩
  unfold pyNext
  refine wpAny_bind (wpAny_attempt (wpAny_callSpecial?_slot (name:=Str.ofString "__next__") hT PySem.F.slot_enumerate_next
    (wpAny_call_entry PySem.F.slot_enumerate_next hT PySem.F.entry_enumerate_next ?_ (PySem.F.args_enumerate_next_1 _))))
  show wpAny _ _ (field (.ref e) 2 >>= _) _ _ _
  refine wpAny_bind (wpAny_field he rfl (x:=.ref it) rfl ?_)
  refine wpAny_bind (wpAny_nextOf_list_end hh hit hl hx fun h' x he' hx'=>?_)
  obtain ⟨o,ho,hc⟩:=hx'
  refine wpAny_bind (wpAny_isInstance (T:="StopIteration") (b:=true) ⟨o,ho,hc⟩ isSubtype_stop ?_)
  exact wpAny_pure (hQ _ he')
theorem en_no_len:typeLookup (.type "enumerate") "__len__" = pure none:=by rw [typeLookup_type,builtinLookup_eq_fast]; kernel_rfl
theorem en_no_hint:typeLookup (.type "enumerate") "__length_hint__" = pure none:=by rw [typeLookup_type,builtinLookup_eq_fast]; kernel_rfl
def KenSt (h:Heap) (e it:Addr) (i:Nat) (Pa:Addr->Prop):Prop:=(i = 0 /\ IsEnum h e it 0 .none) ∨ ∃ item a f oa,KenIt h e it i item a f /\ h.get? a = some oa /\ a ≠ e /\ a ≠ it /\ Pa a
theorem ken_item {e it l:Addr} {i:Nat} {items:Array Value} {x:Value} {Pa:Addr->Prop} {Q:Option Value->Shared->Prop}
    (st:KenSt s.heap e it i Pa) (hit:s.heap.IsListIter it l i) (hl:s.heap.IsList l items) (hx:items[i]? = some x) (hne:e ≠ it)
    (hQ:∀ h' item a f,KenIt h' e it ((i:Int) + 1) item a f->((i = 0 /\ a = s.heap.objs.size) ∨ Pa a)->h'.IsListIter it l (i + 1)->h'.get? s.heap.objs.size = some { cls:=.type "tuple",data:=.seq #[.int i s.toks,x] }->h'.objs.size = s.heap.objs.size + 1 →
      (∀ b o,b ≠ e->b ≠ it->s.heap.get? b = some o->h'.get? b = some o)->Q (some (.ref s.heap.objs.size)) { s with heap:=h',toks:=s.toks + 1 }) :
    wpAny (model prog w) A (pyNext (.ref e)) Q E s:=by
  rcases st with ⟨rfl,he⟩ | ⟨item,a,f,oa,he,ha,hae,hai,pa⟩
  · exact wpAny_pyNext_enum_item (i:=0) he hit hl hx hne fun h' a b c d k=>hQ h' x _ false a (.inl ⟨rfl,rfl⟩) b c d k
  · exact ken_next_out he ha hae hai hit hl hx hne fun h' a b c d k=>hQ h' item _ true a (.inr pa) b c d k
theorem ken_done {e it l:Addr} {i:Nat} {items:Array Value} {Pa:Addr->Prop} {Q:Option Value->Shared->Prop} (hh:A.handled = none)
    (st:KenSt s.heap e it i Pa) (hit:s.heap.IsListIter it l i) (hl:s.heap.IsList l items) (hx:items[i]? = none)
    (hQ:∀ h',Heap.ExtBut it s.heap h'->Q none { s with heap:=h' }):wpAny (model prog w) A (pyNext (.ref e)) Q E s:=by
  rcases st with ⟨rfl,he⟩ | ⟨item,a,f,oa,he,ha,hae,hai,pa⟩
  · exact wpAny_pyNext_enum_end (i:=0) hh he hit hl hx hQ
  · exact ken_end_out hh he hit hl hx hQ
end
theorem aneq {a b:Nat} (h:a < b ∨ b < a):a ≠ b:=by omega
def EnL (H0 H:Hp) (xs:List V) (ts:List Addr):Prop:=∀ (j:Nat) (t:Addr),ts[j]? = some t->H0 t = none /\ ∃ x,xs[j]? = some x /\ H t = some (.tup [.int (j:Int),x])
theorem ken_loop {X:Cx} {pins:List (Addr × Obj)} {σ:St} {A:Around} (hh:A.handled = none) {S e it l:Addr} {xs:List V} {us:List Value} (rv:Vals xs us) (hei:e ≠ it) (hle:l ≠ e) (hli:l ≠ it) (hSe:S ≠ e) (hSi:S ≠ it) (hSl:l ≠ S) (hz:xs.length ≤ sizeLine) (res:Value) {R:Result->Shared->Prop} {H0:Hp}
    (hR:∀ H' s' ts,Inv X pins σ H' s'->(∀ b o,b ≠ S->H0 b = some o->H' b = some o)->ts.length = xs.length->H' S = some (.lst (ts.map V.ref))->EnL H0 H' xs ts->R (.ok (.ret res)) s') :
    ∀ (k i:Nat) (H:Hp) (s:Shared) (ts:List Addr),xs.length - i = k->i ≤ xs.length->Inv X pins σ H s->FpOk X pins H e->FpOk X pins H it->KenSt s.heap e it i (fun a=>ts[0]? = some a)->s.heap.IsListIter it l i->s.heap.IsList l us.toArray->(∀ b o,b ≠ S->H0 b = some o->H b = some o)->H S = some (.lst (ts.map V.ref))->ts.length = i->EnL H0 H xs ts →
      codeAny (model X.prog X.w) A (.builtin "list.extend.loop" ⟨[.ref S,.ref e,res],[]⟩) R s:=by
  intro k
  induction k with
  | zero =>
    intro i H s ts hk hi I fe fi st hit hl hkp hS hal hE
    have hnone:us.toArray[i]? = none:=by have:=rv.length; simp; omega
    refine codeAny_builtin PySem.F.entry_extend_loop ?_
    rw [Around.under_plainId PySem.F.plain_extend_loop _]
    show wpAny _ A.in1 (pyNext (.ref e) >>= _) _ _ s
    refine wpAny_bind (ken_done (A:=A.in1) hh st hit hl hnone fun h' ex=>?_)
    refine wpAny_pure (hR H _ ts (I.turnedMany (t':=s.toks) (ch:=[it]) (fun b o hb q=>ex b o (by simpa using hb) q) fun b hb=>?_) hkp (by omega) hS hE)
    have e1:b = it:=by simpa using hb
    rw [e1]; exact fi
  | succ k ih =>
    intro i H s ts hk hi I fe fi st hit hl hkp hS hal hE
    have hlt:i < xs.length:=by omega
    obtain ⟨x,hx⟩:∃ x,xs[i]? = some x:=⟨_,List.getElem?_eq_getElem hlt⟩
    obtain ⟨u,eu,ru⟩:=Vals.get rv hx
    have eu':us.toArray[i]? = some u:=by simpa using eu
    refine codeAny_builtin PySem.F.entry_extend_loop ?_
    rw [Around.under_plainId PySem.F.plain_extend_loop _]
    show wpAny _ A.in1 (pyNext (.ref e) >>= _) _ _ s
    refine wpAny_bind (ken_item (A:=A.in1) st hit hl eu' hei fun h' item a f hk' hpa hit' ht hsz kk=>?_)
    have nT:H s.heap.objs.size = none:=I.hok.fresh (Nat.le_refl _)
    have I2:Inv X pins σ (upd H s.heap.objs.size (.tup [.int (i:Int),x])) { s with heap:=h',toks:=s.toks + 1 } :=
      I.turnedLaid (ch:=[e,it]) (fun b o hb q=>by
        simp only [List.mem_cons,List.not_mem_nil,or_false,not_or] at hb
        exact kk b o hb.1 hb.2 q) (fun b hb=>by
        simp only [List.mem_cons,List.not_mem_nil,or_false] at hb
        rcases hb with rfl | rfl
        · exact fe
        · exact fi) (Nat.le_refl _) ⟨by show 2 ≤ sizeLine; decide,[Value.int (i:Int) s.toks,u],.cons ⟨s.toks,rfl⟩ (.cons ru .nil),⟨_,ht,rfl,0,rfl⟩⟩
    have nST:S ≠ s.heap.objs.size:=ne_of_none hS nT
    have hS2:upd H s.heap.objs.size (.tup [.int (i:Int),x]) S = some (.lst (ts.map V.ref)):=by rw [upd_ne nST]; exact hS
    obtain ⟨_,its,n,rS,lS,eS⟩:=I2.lstM hS2
    have hil:its.length = i:=by rw [← lS,List.length_map,hal]
    have I3:=I2.lset (t':=s.toks + 1) hS2 eS (f:=(·.push (Value.ref s.heap.objs.size))) (its':=its ++ [Value.ref s.heap.objs.size]) (ys:=(ts ++ [s.heap.objs.size]).map V.ref) (by simp) (by rw [List.map_append]; exact Vals.append rS (.cons rfl .nil)) (by rw [List.length_map,List.length_append,hal]; show i + 1 ≤ sizeLine; omega)
    have up:∀ b o,b ≠ S->h'.get? b = some o->(h'.update S (Obj.mapSeq (·.push (Value.ref s.heap.objs.size)))).get? b = some o:=fun b o hb e=>(Heap.get?_update_other _ _ (Ne.symm hb)).trans e
    have elt:e < s.heap.objs.size:=by
      rcases st with ⟨_,he⟩ | ⟨_,_,_,_,he,_⟩
      · exact Heap.lt_size he
      · exact Heap.lt_size he
    have ilt:it < s.heap.objs.size:=by obtain ⟨o,ho,_⟩:=hit; exact Heap.lt_size ho
    have old:∀ b,b < s.heap.objs.size->b ≠ S->upd (upd H s.heap.objs.size (.tup [.int (i:Int),x])) S (.lst ((ts ++ [s.heap.objs.size]).map V.ref)) b = H b:=fun b hb hs=>by
      rw [upd_ne hs,upd_ne (Nat.ne_of_lt hb)]
    have hT3:upd (upd H s.heap.objs.size (.tup [.int (i:Int),x])) S (.lst ((ts ++ [s.heap.objs.size]).map V.ref)) s.heap.objs.size = some (.tup [.int (i:Int),x]):=by rw [upd_ne nST.symm,upd_same]
    have old':∀ b o,b ≠ S->H b = some o->upd (upd H s.heap.objs.size (.tup [.int (i:Int),x])) S (.lst ((ts ++ [s.heap.objs.size]).map V.ref)) b = some o:=fun b o hb eb=>by rw [upd_ne hb,upd_ne (ne_of_none eb nT)]; exact eb
    have h0T:H0 s.heap.objs.size = none:=by
      cases z:H0 s.heap.objs.size with
      | none=>rfl
      | some o=>have:=hkp _ _ nST.symm z; rw [nT] at this; cases this
    show wpAny _ A.in1 (updateSeq S (·.push (Value.ref s.heap.objs.size)) >>= _) _ _ _
    refine wpAny_bind (wpAny_updateSeq eS rfl (wpAny_pure ⟨plainId_quiet PySem.F.plain_extend_loop _,ih (i + 1) _ _ (ts ++ [s.heap.objs.size]) (by omega) hlt I3 ⟨(old e elt hSe.symm).trans fe.1,fe.2⟩ ⟨(old it ilt hSi.symm).trans fi.1,fi.2⟩ (.inr ?_) (by
      obtain ⟨o,ho,r⟩:=hit'
      exact ⟨o,up it o hSi.symm ho,r⟩) (by
      obtain ⟨o,ho,r⟩:=hl
      exact ⟨o,up l o hSl (kk l o hle hli ho),r⟩) (fun b o hb eb=>old' b o hb (hkp b o hb eb)) upd_same (by rw [List.length_append,hal]; rfl) fun j t ej=>?_⟩) (by rw [List.size_toArray,hil]; omega) (by show (its.toArray.push _).size ≤ sizeLine + 1; rw [Array.size_push,List.size_toArray,hil]; omega))
    · have first:(ts ++ [s.heap.objs.size])[0]? = some a:=by
        rcases hpa with ⟨rfl,rfl⟩ | ha
        · have:ts = []:=List.eq_nil_of_length_eq_zero hal
          rw [this]; rfl
        · have:0 < ts.length:=(List.getElem?_eq_some_iff.mp ha).1
          rw [List.getElem?_append_left this]; exact ha
      have live:∃ oa,(h'.update S (Obj.mapSeq (·.push (Value.ref s.heap.objs.size)))).get? a = some oa /\ a ≠ e /\ a ≠ it:=by
        rcases hpa with ⟨_,rfl⟩ | ha
        · exact ⟨_,up _ _ nST.symm ht,Nat.ne_of_gt elt,Nat.ne_of_gt ilt⟩
        · obtain ⟨_,y,_,hy⟩:=hE 0 a ha
          have aS:a ≠ S:=fun z=>by rw [z,hS] at hy; cases hy
          obtain ⟨_,its',_,o,ho,_⟩:=I3.hok a _ (old' a _ aS hy)
          exact ⟨o,ho,ne_of_none hy fe.1,ne_of_none hy fi.1⟩
      obtain ⟨oa,l1,l2,l3⟩:=live
      refine ⟨item,a,f,oa,?_,l1,l2,l3,first⟩
      have e2:((i + 1:Nat):Int) = (i:Int) + 1:=by omega
      rw [e2]
      exact up e _ hSe.symm hk'
    · rcases Nat.lt_trichotomy j ts.length with h1 | h1 | h1
      · rw [List.getElem?_append_left h1] at ej
        obtain ⟨a1,y,a2,a3⟩:=hE j t ej
        have tS:t ≠ S:=fun z=>by rw [z,hS] at a3; cases a3
        exact ⟨a1,y,a2,old' t _ tS a3⟩
      · subst h1
        have ej:s.heap.objs.size = t:=by simpa using ej
        subst ej
        refine ⟨h0T,x,by rw [hal]; exact hx,?_⟩
        rw [hal]; exact hT3
      · have hnone:(ts ++ [s.heap.objs.size])[j]? = none:=List.getElem?_eq_none (by rw [List.length_append,List.length_singleton]; omega)
        rw [hnone] at ej; cases ej
section
variable {X:Cx}
def tEnL (K:PySem.W.Frag) (te:TE):TE:=fun σ H Q=>te σ H fun v H1=>∃ (l:Addr) (xs:List V),v = .ref l /\ SqL K H1 l xs /\ ∀ (r:Addr) (ts:List Addr) (H2:Hp),H1 r = none->Same H1 H2->ts.length = xs.length->H2 r = some (.lst (ts.map V.ref))->EnL H1 H2 xs ts->Q (.ref r) H2
theorem pe_listenum {e:Expr} {te:TE} {p1 p2 pos1 pos2:Pos} (hc:X.calm = true) (hg1:Gl X "list") (hm1:X.mg "list" = none) (hg2:Gl X "enumerate") (hm2:X.mg "enumerate" = none) (he:PE X e te)
    (hs1:starEach [Expr.Call (.Name "enumerate" p2) [e] [] pos2] X.env = [(false,eval (Expr.Call (.Name "enumerate" p2) [e] [] pos2) X.env)]:=by rfl) (hs2:starEach [e] X.env = [(false,eval e X.env)]:=by rfl) :
    PE X (.Call (.Name "list" p1) [.Call (.Name "enumerate" p2) [e] [] pos2] [] pos1) (tEnL X.K te):=by
  intro pins s σ H Q I h
  refine wpAny_Call_Name_kw (ld_blt I hg1 hm1 boot_list ?_)
  refine PyProof.Rows.callWith_type1 ?_ hs1 rfl
  rw [hs1]
  show wpAny _ _ (spliced ((false,eval (Expr.Call (.Name "enumerate" p2) [e] [] pos2) X.env) :: backTo pos1 [])) _ _ s
  refine Calls.spliced_cons ?_
  refine wpAny_Call_Name_kw (ld_blt I hg2 hm2 boot_enumerate ?_)
  refine PyProof.Rows.callWith_type1 ?_ hs2 rfl
  rw [hs2]
  show wpAny _ _ (spliced ((false,eval e X.env) :: backTo pos2 [])) _ _ s
  refine Calls.spliced_cons (thn (he pins s σ H _ I h) fun u s1 ⟨x,H1,I1,r1,q1⟩=>?_)
  obtain ⟨l,xs,rfl,hl,q⟩:=q1
  cases r1
  refine Calls.spliced_nil ?_
  obtain ⟨us,rv,pl,hz⟩:=I1.list hl
  have ll:l < s1.heap.objs.size:=by obtain ⟨o,ho,_⟩:=pl.isList; exact Heap.lt_size ho
  refine call_enumerate_list pl.isList fun h' z1 z2 zs kk=>?_
  refine Calls.spliced_nil ?_
  have I2:Inv X pins σ H1 { s1 with heap:=h',toks:=s1.toks }:=I1.kept kk
  have fe:FpOk X pins H1 (s1.heap.objs.size + 1):=I1.fpOk (Nat.le_succ _) (I1.hok.fresh (Nat.le_succ _))
  have fi:FpOk X pins H1 s1.heap.objs.size:=I1.fpOk (Nat.le_refl _) (I1.hok.fresh (Nat.le_refl _))
  have hl':h'.IsList l us.toArray:=by obtain ⟨o,ho,r⟩:=pl.isList; exact ⟨o,kk l o ho,r⟩
  obtain ⟨e0,he0⟩:∃ e0,s1.heap.objs.size + 1 = e0:=⟨_,rfl⟩
  rw [he0] at z1 fe ⊢
  obtain ⟨i0,hi0⟩:∃ i0,s1.heap.objs.size = i0:=⟨_,rfl⟩
  rw [hi0] at z1 z2 fi he0 zs ll
  have hS0:h'.objs.size = i0 + 2:=zs
  refine callType_codes PySem.F.called_list (PySem.F.typeCall_list_1 _) PySem.F.entry_list_init (code_list_new (.ref e0) (Q₁:=fun obj s₁=>obj = .ref h'.objs.size /\ s₁ = { s1 with heap:=h'.push { cls:=.type "list",dict:=none,data:=.seq #[] 0,slots:=#[] } }) ⟨rfl,rfl⟩) fun obj s₁ hq=>?_
  obtain ⟨h1,h2⟩:=hq
  subst h1 h2
  have hS:(h'.push { cls:=.type "list",dict:=none,data:=.seq #[] 0,slots:=#[] }).get? h'.objs.size = some { cls:=.type "list",dict:=none,data:=.seq #[] 0,slots:=#[] }:=Heap.get?_push_size _ rfl
  refine ⟨⟨_,hS,rfl⟩,PySem.F.args_list_init_2 _ _,?_⟩
  unfold Builtin.«list.__init__»
  generalize hX:Builtin.List.listExtendWith = XX
  wp_walk
  subst hX
  have hS2:((h'.push { cls:=.type "list",dict:=none,data:=.seq #[] 0,slots:=#[] }).update h'.objs.size (Obj.mapSeq fun x=>#[])).get? h'.objs.size = some { cls:=.type "list",dict:=none,data:=.seq #[] 0,slots:=#[] }:=Heap.get?_update_self _ hS rfl
  have kp:∀ b o,h'.get? b = some o->((h'.push { cls:=.type "list",dict:=none,data:=.seq #[] 0,slots:=#[] }).update h'.objs.size (Obj.mapSeq fun x=>#[])).get? b = some o:=fun b o e=>Heap.get?_update_of_ne _ (Nat.ne_of_gt (Heap.lt_size e)) (Heap.get?_push_of_some _ e)
  generalize (h'.push { cls:=.type "list",dict:=none,data:=.seq #[] 0,slots:=#[] }).update h'.objs.size (Obj.mapSeq fun x=>#[]) = h2 at hS2 kp ⊢
  obtain ⟨S,hSn⟩:∃ S,h'.objs.size = S:=⟨_,rfl⟩
  rw [hSn] at hS2 hS0 ⊢
  have e2:IsEnum h2 e0 i0 0 .none:=kp _ _ z1
  have hT:Shared.TypeIs { s1 with heap:=h2 } (.ref e0) "enumerate":=⟨_,e2,rfl⟩
  unfold Builtin.List.listExtendWith
  refine wpAny_bind (wpAny_typeOf hT ?_)
  have hsr:Builtin.List.listSameRef (Value.ref S) (Value.ref e0) = false:=by
    unfold Builtin.List.listSameRef
    simp
    exact aneq (by omega)
  refine wpAny_ite_split (fun hab=>absurd hab (by rw [hsr]; decide)) (fun _=>?_)
  refine wpAny_bind (wpAny_pyIter_enum (s:={ s1 with heap:=h2 }) e2 ?_)
  refine wpAny_bind (wpAny_holding ?_)
  unfold Builtin.List.listLengthHint
  refine wpAny_bind (wpAny_specialOf hT en_no_len ?_)
  show wpAny _ _ (specialOf (Value.ref e0) (Str.ofString "__length_hint__") >>= _) _ _ _
  refine wpAny_bind (wpAny_specialOf hT en_no_hint ?_)
  refine wpAny_pure ?_
  show wpAny _ _ (rule "list.extend.makes-room" >>= fun _=>Builtin.List.listTouch (.ref S) >>= fun _ =>
    again (.builtin "list.extend.loop" ⟨[.ref S,.ref e0,_],[]⟩)) _ _ _
  refine wpAny_bind (wpAny_rule ?_)
  refine wpAny_bind ?_
  show wpAny _ _ (updateSeq S (·.push .none) >>= fun _=>updateSeq S (·.pop)) _ _ _
  refine wpAny_bind (wpAny_updateSeq hS2 rfl ?_)
  have hS3:=Heap.get?_update_self (Obj.mapSeq (·.push Value.none)) hS2 rfl
  refine wpAny_updateSeq hS3 rfl ?_
  have hS4:=Heap.get?_update_self (Obj.mapSeq (·.pop)) hS3 rfl
  have kp4:∀ b o,h'.get? b = some o->((h2.update S (Obj.mapSeq (·.push Value.none))).update S (Obj.mapSeq (·.pop))).get? b = some o:=fun b o e=>by
    have hb:S ≠ b:=aneq (by have hb:@LT.lt Nat _ b h'.objs.size:=Heap.lt_size e; have hs:h'.objs.size = S:=hSn; omega)
    exact (Heap.get?_update_other _ _ hb).trans ((Heap.get?_update_other _ _ hb).trans (kp b o e))
  generalize (h2.update S (Obj.mapSeq (·.push Value.none))).update S (Obj.mapSeq (·.pop)) = h4 at hS4 kp4 ⊢
  have hlen:=rv.length
  have nS:H1 S = none:=I2.hok.fresh (by show h'.objs.size ≤ S; omega)
  have I4:Inv X pins σ (upd H1 S (.lst [])) { s1 with heap:=h4,toks:=s1.toks }:=I2.laid (t':=s1.toks) (h':=h4) kp4 (by show h'.objs.size ≤ S; omega) ⟨Nat.zero_le _,[],_,.nil,hS4⟩
  have hh:X.A.handled = none:=I1.ok.hd hc
  have ll':@LT.lt Nat _ l i0:=ll
  refine wpAny_pure ⟨Code.quiet_builtin _ (by decide +kernel),ken_loop (X:=X) (pins:=pins) (σ:=σ) (H0:=upd H1 S (.lst [])) (by simp [hh]) rv (S:=S) (e:=e0) (it:=i0) (l:=l) (aneq (by omega)) (aneq (by omega)) (aneq (by omega)) (aneq (by omega)) (aneq (by omega)) (aneq (by omega)) hz _ (fun H' s' ts I' k' tl hS' hE=>?_) xs.length 0 (upd H1 S (.lst [])) _ [] (by omega) (Nat.zero_le _) I4 ⟨by rw [upd_ne (aneq (by omega))]; exact fe.1,fe.2⟩ ⟨by rw [upd_ne (aneq (by omega))]; exact fi.1,fi.2⟩ (.inl ⟨rfl,kp4 _ _ z1⟩) (by
    obtain ⟨o,ho,r⟩:=z2
    exact ⟨o,kp4 _ _ ho,r⟩) (by
    obtain ⟨o,ho,r⟩:=hl'
    exact ⟨o,kp4 _ _ ho,r⟩) (fun b o _ e=>e) upd_same rfl (fun j t e=>by simp at e)⟩
  refine ⟨rfl,.ref S,H',I',rfl,q S ts H' nS (fun b o eb=>k' b o (ne_of_none eb nS) (by rw [upd_ne (ne_of_none eb nS)]; exact eb)) tl hS' fun j t ej=>?_⟩
  obtain ⟨a1,a2⟩:=hE j t ej
  refine ⟨?_,a2⟩
  by_cases ht:t = S
  · rw [ht,upd_same] at a1; cases a1
  · rw [upd_ne ht] at a1; exact a1
end
open PySem PySem.Spec PyProof.Rows
def GD (P:Program) (w:World) (K:PySem.W.Frag) (a:Addr) (kvs:List (Key × V)):Prop:=(a == sysModules) = false /\ ∀ h:Heap,K.In h->∃ vs,KV kvs vs /\ h.DictOf (mixKind P w) a vs
def tGNotIn (kvs:List (Key × V)) (ty:TE):TE:=fun σ H Q=>ty σ H fun y H1=>∃ k,y = kV k /\ Q (.bl (!(valV kvs k).isSome)) H1
def tGGet (kvs:List (Key × V)) (ty:TE):TE:=fun σ H Q=>ty σ H fun y H1=>∃ k v,y = kV k /\ valV kvs k = some v /\ Q v H1
section
variable {X:Cx} {i o:Expr} {pos:Pos} {ty:TE} {d:Addr} {kvs:List (Key × V)}
theorem pc_gnotin (g:GD X.prog X.w X.K d kvs) (hi:PE X i ty) (ho:PE X o (tC (.ref d))):PC X .NotIn i o (tGNotIn kvs ty):=by
  intro pins s σ H Q I h
  refine thn (hi pins s σ H _ I h) fun iv s1 ⟨y,H1,I1,ry,k,ey,q1⟩=>thn (ho pins s1 σ H1 (fun v H'=>v = .ref d /\ H' = H1) I1 ⟨rfl,rfl⟩) fun u s2 ⟨x,H2,I2,rx,ex,eH⟩=>?_
  subst ex eH ey
  obtain rfl:u = Value.ref d:=rx
  obtain ⟨vs,rel,dd⟩:=g.2 s2.heap I2.kIn
  refine wpAny_notIn_of (kV_is ry) g.1 dd.mapOf ?_
  rw [← (rel.val k).isSome_eq]
  exact ⟨.bl _,_,I2.tok _,rfl,q1⟩
theorem pe_gget (g:GD X.prog X.w X.K d kvs) (ho:PE X o (tC (.ref d))) (hi:PE X i ty) (hs:NoSl i):PE X (.Subscript o i pos) (tGGet kvs ty):=by
  intro pins s σ H Q I h
  refine subD_of PySem.F.slot_dict_getitem.lookup hs (thn (ho pins s σ H (fun v H'=>v = .ref d /\ H' = H) I ⟨rfl,rfl⟩) fun u s1 ⟨x,H1,I1,rx,ex,eH⟩=>?_)
  subst ex eH
  obtain rfl:u = Value.ref d:=rx
  refine thn (hi pins s1 σ _ _ I1 h) fun iv s2 ⟨y,H2,I2,ry,k,v,ey,l,q2⟩=>?_
  subst ey
  obtain ⟨vs,rel,dd⟩:=g.2 s2.heap I2.kIn
  refine ⟨dd.typeIs,?_⟩
  obtain ⟨w',hw,rw'⟩:=RelO.some_of (v:=v) (o:=valueAt vs k) (by rw [← l]; exact rel.val k)
  exact wpAny_getItem_of (kV_is ry) dd.mapOf hw ⟨v,_,I2.tok _,rw',q2⟩
end
def ckT (c:Int):PySem.Str:=Txt.zfill (numT c) 20
open PySem PySem.Spec PyProof.Rows Builtin Builtin.Str
theorem zf_cps {x:PySem.Str} (hx:∀ c ∈ x.cps.toList,48 ≤ c /\ c ≤ 57) (hl:x.length ≤ 20):(Txt.zfill x 20).cps.toList = List.replicate (20 - x.length) 48 ++ x.cps.toList:=by
  unfold Txt.zfill
  by_cases hc:(20:Int) ≤ x.length
  · rw [if_pos hc,show 20 - x.length = 0 by omega]; rfl
  · rw [if_neg hc]
    have e:zfilled x (Int.toNat 20 - x.length) = padded x (Int.toNat 20 - x.length) 0 48:=by
      unfold zfilled
      split
      · rename_i h
        have:=hx 43 (by rw [← Array.getElem?_toList] at h; exact List.mem_of_getElem? h)
        omega
      · rename_i h
        have:=hx 45 (by rw [← Array.getElem?_toList] at h; exact List.mem_of_getElem? h)
        omega
      · rfl
    rw [e]
    unfold padded
    simp
section
variable {c:Int} (h0:0 ≤ c) (h1:c < 10 ^ 20)
include h0 h1
theorem ckT_cps:(ckT c).cps.toList = List.replicate (20 - (numT c).length) 48 ++ (numT c).cps.toList:=zf_cps (numT_digit h0) (numT_len h0 h1)
theorem ckT_len:(ckT c).length = 20:=by
  rw [← len_cps,ckT_cps h0 h1,List.length_append,List.length_replicate,len_cps]
  have:=numT_len h0 h1
  omega
theorem ckT_digit:∀ k ∈ (ckT c).cps.toList,48 ≤ k /\ k ≤ 57:=fun k hk=>by
  rw [ckT_cps h0 h1] at hk
  rcases List.mem_append.mp hk with h | h
  · rw [(List.mem_replicate.mp h).2]; omega
  · exact numT_digit h0 k h
theorem ckT_num:isNum (ckT c) = true:=List.all_eq_true.mpr fun k hk=>figB_of (ckT_digit h0 h1 k hk)
theorem ckT_int:intText? (ckT c) = some c:=by
  have e:=intText_digits (x:=ckT c) (ckT_digit h0 h1) (by intro e; have:=ckT_len h0 h1; rw [← len_cps,e] at this; exact absurd this (by decide)) (by rw [ckT_len h0 h1]; decide)
  rw [e,ckT_cps h0 h1]
  have z:∀ (k:Nat) (l:List Nat),NumText.digitsVal (List.replicate k 48 ++ l) = NumText.digitsVal l:=by
    intro k l
    induction k with
    | zero=>rfl
    | succ k ih=>rw [List.replicate_succ,List.cons_append,← ih]; rfl
  rw [z]
  obtain ⟨m,rfl⟩:=Int.eq_ofNat_of_zero_le h0
  unfold numT
  rw [PySem.W.KIN.signs_num,PySem.W.KIN.val_back]
theorem ckT_free {k:Nat} (hk:k < 48 ∨ 57 < k):k ∉ (ckT c).cps.toList:=fun h=>by have:=ckT_digit h0 h1 k h; omega
end
open PySem PySem.Spec PyProof.Rows
theorem gd2 {P:Program} {w:World} {K:PySem.W.Frag} {a:Addr} {k1 k2:PySem.Str} {n1 n2:Int} {t1 t2 t3 t4:Tok} {ep:Nat} (hk:k1 ≠ k2) (hs:(a == sysModules) = false)
    (h:K.lookup a = some ⟨.type "dict",none,.dict #[⟨hashStr w k1,.str k1 t1,.int n1 t2⟩,⟨hashStr w k2,.str k2 t3,.int n2 t4⟩] ep,#[]⟩):GD P w K a [(Sum.inr k1,.int n1),(Sum.inr k2,.int n2)]:=by
  refine ⟨hs,fun hp X=>⟨[(Sum.inr k1,.int n1 t2),(Sum.inr k2,.int n2 t4)],.cons ⟨rfl,⟨t2,rfl⟩⟩ (.cons ⟨rfl,⟨t4,rfl⟩⟩ .nil),_,_,_,X a _ h,⟨rfl,rfl,rfl⟩,rfl,?_,?_,?_⟩⟩
  · intro e he
    simp only [List.mem_toArray,List.mem_cons,List.not_mem_nil,or_false] at he
    rcases he with rfl | rfl
    · exact ⟨Sum.inr k1,keyIs_str k1 t1,rfl⟩
    · exact ⟨Sum.inr k2,keyIs_str k2 t3,rfl⟩
  · exact .cons (keyIs_str k1 t1) rfl (.cons (keyIs_str k2 t3) rfl .nil)
  · simp [hk]
open PySem PySem.Spec PyProof.Rows
theorem vals_pt:∀ {xs:List V} {us:List Value},us.length = xs.length->(∀ (j:Nat) x u,xs[j]? = some x->us[j]? = some u->RelV x u)->Vals xs us
  | [],[],_,_=>.nil
  | [],_ :: _,h,_=>by simp at h
  | _ :: _,[],h,_=>by simp at h
  | x :: xs,u :: us,h,k=>.cons (k 0 x u rfl rfl) (vals_pt (by simpa using h) fun j x u e1 e2=>k (j + 1) x u (by simpa using e1) (by simpa using e2))
section
variable {X:Cx}
def tLRng (te:TE):TE:=fun σ H Q=>te σ H fun v H1=>∃ n:Nat,v = .int (n:Int) /\ n ≤ 1000 /\ ∀ r,H1 r = none->Q (.ref r) (upd H1 r (.lst (((List.range n).map fun k:Nat=>(k:Int)).map V.int)))
theorem pe_listrng {e:Expr} {te:TE} {p1 p2 pos1 pos2:Pos} (hc:X.calm = true) (hg1:Gl X "list") (hm1:X.mg "list" = none) (hg2:Gl X "range") (hm2:X.mg "range" = none) (he:PE X e te)
    (hs1:starEach [Expr.Call (.Name "range" p2) [e] [] pos2] X.env = [(false,eval (Expr.Call (.Name "range" p2) [e] [] pos2) X.env)]:=by rfl) (hs2:starEach [e] X.env = [(false,eval e X.env)]:=by rfl) :
    PE X (.Call (.Name "list" p1) [.Call (.Name "range" p2) [e] [] pos2] [] pos1) (tLRng te):=by
  intro pins s σ H Q I h
  refine wpAny_Call_Name_kw (ld_blt I hg1 hm1 boot_list ?_)
  refine PyProof.Rows.callWith_type1 ?_ hs1 rfl
  rw [hs1]
  show wpAny _ _ (spliced ((false,eval (Expr.Call (.Name "range" p2) [e] [] pos2) X.env) :: backTo pos1 [])) _ _ s
  refine Calls.spliced_cons ?_
  refine wpAny_Call_Name_kw (ld_blt I hg2 hm2 boot_range ?_)
  refine PyProof.Rows.callWith_type1 ?_ hs2 rfl
  rw [hs2]
  show wpAny _ _ (spliced ((false,eval e X.env) :: backTo pos2 [])) _ _ s
  refine Calls.spliced_cons (thn (he pins s σ H _ I h) fun u s1 ⟨x,H1,I1,r1,q1⟩=>?_)
  obtain ⟨n,rfl,hn,q⟩:=q1
  obtain ⟨t,rfl⟩:=r1
  refine Calls.spliced_nil ?_
  refine call_range_1 ?_
  refine Calls.spliced_nil ?_
  have hsz:Builtin.Range.rangeSize 0 (n:Int) 1 = (n:Int):=by rw [rangeSize_one]; split <;> omega
  refine call_list_range (n:=n) (I1.ok.hd hc) (IsRange.new ..) (small_one (by omega) (by omega) (by omega) (by omega)) hsz (by omega) fun h' tk acc c' kp hS hacc=>?_
  have I2:Inv X pins σ H1 { s1 with heap:=s1.heap.push { cls:=.type "range",data:=.fields #[.int 0 s1.toks,.int (n:Int) t,.int 1 (s1.toks + 1)] },toks:=s1.toks + 1 + 1 }:=I1.kept fun b o e=>Heap.get?_push_of_some _ e
  have hv:Vals (((List.range n).map fun k:Nat=>(k:Int)).map V.int) acc.toList:=by
    refine vals_pt (by rw [Array.length_toList,hacc.1]; simp) fun j x u e1 e2=>?_
    obtain ⟨t',rfl⟩:=hacc.2 j u (by rw [← Array.getElem?_toList]; exact e2)
    rw [List.map_map,List.getElem?_map] at e1
    obtain ⟨k,h1,h2⟩:=Option.map_eq_some_iff.mp e1
    have hj:=(List.getElem?_eq_some_iff.mp h1).1
    rw [List.getElem?_range (by simpa using hj)] at h1
    cases h1
    rw [← h2]
    exact ⟨t',by simp⟩
  refine ⟨.ref _,_,I2.laid (t':=tk) kp (Nat.le_refl _) (show ObjOk X.prog X.w _ h' _ (.lst (((List.range n).map fun k:Nat=>(k:Int)).map V.int)) from ⟨by simp; exact Nat.le_of_lt (small1000 (by omega)),acc.toList,c',hv,by simpa using hS⟩),rfl,q _ (I2.hok.fresh (Nat.le_refl _))⟩
end
end L2
namespace Mine
open PySem L2
def top (i:Nat):Stmt:=PySem.Challenge.pw_keepsakes_k19_whole_tables_carried.main.body.getD i (.Pass ⟨0,0,0,0⟩)
abbrev s_turned:Stmt:=top 6
abbrev s_check_of:Stmt:=top 7
abbrev s_NoWord___init__:Stmt:=inClass (top 10) 0
abbrev s_NoTable___init__:Stmt:=inClass (top 11) 0
abbrev s_NoPlace___init__:Stmt:=inClass (top 12) 0
abbrev s_NoBlock___init__:Stmt:=inClass (top 13) 0
abbrev s_NoDay___init__:Stmt:=inClass (top 14) 0
abbrev s_NoBase___init__:Stmt:=inClass (top 15) 0
abbrev s_NoLine___init__:Stmt:=inClass (top 16) 0
abbrev s_Piece___init__:Stmt:=inClass (top 18) 0
abbrev s_Piece_is_good:Stmt:=inClass (top 18) 2
abbrev s_Whole___init__:Stmt:=inClass (top 19) 0
abbrev s_Whole_start:Stmt:=inClass (top 19) 1
abbrev s_Whole_kind:Stmt:=inClass (top 19) 2
abbrev s_Whole_laid:Stmt:=inClass (top 19) 3
abbrev s_Gain___init__:Stmt:=inClass (top 20) 0
abbrev s_Gain_start:Stmt:=inClass (top 20) 1
abbrev s_Gain_kind:Stmt:=inClass (top 20) 2
abbrev s_Gain_laid:Stmt:=inClass (top 20) 3
abbrev s_whole_of:Stmt:=top 21
abbrev s_gain_of:Stmt:=top 22
abbrev s_Days___init__:Stmt:=inClass (top 24) 0
abbrev s_Days_passes:Stmt:=inClass (top 24) 1
abbrev s_Days_table:Stmt:=inClass (top 24) 2
abbrev s_Days_written:Stmt:=inClass (top 24) 3
abbrev s_Days_ask_change:Stmt:=inClass (top 24) 4
abbrev s_Days_ask_day:Stmt:=inClass (top 24) 5
abbrev s_ask_wide:Stmt:=top 25
abbrev s_writes_number:Stmt:=top 28
abbrev s_number_of:Stmt:=top 29
abbrev s_change_of:Stmt:=top 30
abbrev s_text_of:Stmt:=top 31
abbrev s_line_of:Stmt:=top 35
abbrev s_piece_of:Stmt:=top 36
abbrev s_piece_by_words:Stmt:=top 37
abbrev s_check_by_word:Stmt:=top 38
abbrev s_is_within:Stmt:=top 39
abbrev s_is_formed:Stmt:=top 40
abbrev s__law_cell:Stmt:=top 42
abbrev s__law_whole:Stmt:=top 43
abbrev s__law_stir:Stmt:=top 44
abbrev s__law_block:Stmt:=top 45
abbrev s__law_changes:Stmt:=top 46
abbrev s__law_tables:Stmt:=top 47
abbrev s__law_same:Stmt:=top 48
abbrev s_law:Stmt:=top 49
theorem sc_turned:FnScope ["number"] ["number"] (defScope s_turned):=⟨rfl,rfl,rfl,by decide +kernel,rfl,by decide +kernel,by decide +kernel⟩
theorem sc_check_of:FnScope ["start","day","rows","numbers","place","block","check","number"] ["start","day","rows"] (defScope s_check_of):=⟨rfl,rfl,rfl,by decide +kernel,rfl,by decide +kernel,by decide +kernel⟩
theorem sc_NoWord___init__:FnScope ["self","word"] ["self","word"] (defScope s_NoWord___init__):=⟨rfl,rfl,rfl,by decide +kernel,rfl,by decide +kernel,by decide +kernel⟩
theorem sc_NoTable___init__:FnScope ["self","wide"] ["self","wide"] (defScope s_NoTable___init__):=⟨rfl,rfl,rfl,by decide +kernel,rfl,by decide +kernel,by decide +kernel⟩
theorem sc_NoPlace___init__:FnScope ["self","place"] ["self","place"] (defScope s_NoPlace___init__):=⟨rfl,rfl,rfl,by decide +kernel,rfl,by decide +kernel,by decide +kernel⟩
theorem sc_NoBlock___init__:FnScope ["self","block"] ["self","block"] (defScope s_NoBlock___init__):=⟨rfl,rfl,rfl,by decide +kernel,rfl,by decide +kernel,by decide +kernel⟩
theorem sc_NoDay___init__:FnScope ["self","day"] ["self","day"] (defScope s_NoDay___init__):=⟨rfl,rfl,rfl,by decide +kernel,rfl,by decide +kernel,by decide +kernel⟩
theorem sc_NoBase___init__:FnScope ["self","base","day"] ["self","base","day"] (defScope s_NoBase___init__):=⟨rfl,rfl,rfl,by decide +kernel,rfl,by decide +kernel,by decide +kernel⟩
theorem sc_NoLine___init__:FnScope ["self","line"] ["self","line"] (defScope s_NoLine___init__):=⟨rfl,rfl,rfl,by decide +kernel,rfl,by decide +kernel,by decide +kernel⟩
theorem sc_Piece___init__:FnScope ["self","start","day","rows","check","fitting"] ["self","start","day","rows","check"] (defScope s_Piece___init__):=⟨rfl,rfl,rfl,by decide +kernel,rfl,by decide +kernel,by decide +kernel⟩
theorem sc_Piece_is_good:FnScope ["self"] ["self"] (defScope s_Piece_is_good):=⟨rfl,rfl,rfl,by decide +kernel,rfl,by decide +kernel,by decide +kernel⟩
theorem sc_Whole___init__:FnScope ["self","day","rows","check"] ["self","day","rows","check"] (defScope s_Whole___init__):=⟨rfl,rfl,rfl,by decide +kernel,rfl,by decide +kernel,by decide +kernel⟩
theorem sc_Whole_start:FnScope ["self"] ["self"] (defScope s_Whole_start):=⟨rfl,rfl,rfl,by decide +kernel,rfl,by decide +kernel,by decide +kernel⟩
theorem sc_Whole_kind:FnScope ["self"] ["self"] (defScope s_Whole_kind):=⟨rfl,rfl,rfl,by decide +kernel,rfl,by decide +kernel,by decide +kernel⟩
theorem sc_Whole_laid:FnScope ["self","table"] ["self","table"] (defScope s_Whole_laid):=⟨rfl,rfl,rfl,by decide +kernel,rfl,by decide +kernel,by decide +kernel⟩
theorem sc_Gain___init__:FnScope ["self","base","day","rows","check"] ["self","base","day","rows","check"] (defScope s_Gain___init__):=⟨rfl,rfl,rfl,by decide +kernel,rfl,by decide +kernel,by decide +kernel⟩
theorem sc_Gain_start:FnScope ["self"] ["self"] (defScope s_Gain_start):=⟨rfl,rfl,rfl,by decide +kernel,rfl,by decide +kernel,by decide +kernel⟩
theorem sc_Gain_kind:FnScope ["self"] ["self"] (defScope s_Gain_kind):=⟨rfl,rfl,rfl,by decide +kernel,rfl,by decide +kernel,by decide +kernel⟩
theorem sc_Gain_laid:FnScope ["self","table","blocks","place","block"] ["self","table"] (defScope s_Gain_laid):=⟨rfl,rfl,rfl,by decide +kernel,rfl,by decide +kernel,by decide +kernel⟩
theorem sc_whole_of:FnScope ["days","day"] ["days","day"] (defScope s_whole_of):=⟨rfl,rfl,rfl,by decide +kernel,rfl,by decide +kernel,by decide +kernel⟩
theorem sc_gain_of:FnScope ["days","base","day","places","table"] ["days","base","day"] (defScope s_gain_of):=⟨rfl,rfl,rfl,by decide +kernel,rfl,by decide +kernel,by decide +kernel⟩
theorem sc_Days___init__:FnScope ["self","wide"] ["self","wide"] (defScope s_Days___init__):=⟨rfl,rfl,rfl,by decide +kernel,rfl,by decide +kernel,by decide +kernel⟩
theorem sc_Days_passes:FnScope ["self","changes","place","block","table"] ["self","changes"] (defScope s_Days_passes):=⟨rfl,rfl,rfl,by decide +kernel,rfl,by decide +kernel,by decide +kernel⟩
theorem sc_Days_table:FnScope ["self","day"] ["self","day"] (defScope s_Days_table):=⟨rfl,rfl,rfl,by decide +kernel,rfl,by decide +kernel,by decide +kernel⟩
theorem sc_Days_written:FnScope ["self","one","other","places","day"] ["self","one","other"] (defScope s_Days_written):=⟨rfl,rfl,rfl,by decide +kernel,rfl,by decide +kernel,by decide +kernel⟩
theorem sc_Days_ask_change:FnScope ["self","place","block"] ["self","place","block"] (defScope s_Days_ask_change):=⟨rfl,rfl,rfl,by decide +kernel,rfl,by decide +kernel,by decide +kernel⟩
theorem sc_Days_ask_day:FnScope ["self","day"] ["self","day"] (defScope s_Days_ask_day):=⟨rfl,rfl,rfl,by decide +kernel,rfl,by decide +kernel,by decide +kernel⟩
theorem sc_ask_wide:FnScope ["wide"] ["wide"] (defScope s_ask_wide):=⟨rfl,rfl,rfl,by decide +kernel,rfl,by decide +kernel,by decide +kernel⟩
theorem sc_writes_number:FnScope ["word"] ["word"] (defScope s_writes_number):=⟨rfl,rfl,rfl,by decide +kernel,rfl,by decide +kernel,by decide +kernel⟩
theorem sc_number_of:FnScope ["word"] ["word"] (defScope s_number_of):=⟨rfl,rfl,rfl,by decide +kernel,rfl,by decide +kernel,by decide +kernel⟩
theorem sc_change_of:FnScope ["word","parts"] ["word"] (defScope s_change_of):=⟨rfl,rfl,rfl,by decide +kernel,rfl,by decide +kernel,by decide +kernel⟩
theorem sc_text_of:FnScope ["changes"] ["changes"] (defScope s_text_of):=⟨rfl,rfl,rfl,by decide +kernel,rfl,by decide +kernel,by decide +kernel⟩
theorem sc_line_of:FnScope ["piece","words"] ["piece"] (defScope s_line_of):=⟨rfl,rfl,rfl,by decide +kernel,rfl,by decide +kernel,by decide +kernel⟩
theorem sc_piece_of:FnScope ["line","words","piece"] ["line"] (defScope s_piece_of):=⟨rfl,rfl,rfl,by decide +kernel,rfl,by decide +kernel,by decide +kernel⟩
theorem sc_piece_by_words:FnScope ["words","many","days","rows","check"] ["words","many"] (defScope s_piece_by_words):=⟨rfl,rfl,rfl,by decide +kernel,rfl,by decide +kernel,by decide +kernel⟩
theorem sc_check_by_word:FnScope ["word"] ["word"] (defScope s_check_by_word):=⟨rfl,rfl,rfl,by decide +kernel,rfl,by decide +kernel,by decide +kernel⟩
theorem sc_is_within:FnScope ["piece"] ["piece"] (defScope s_is_within):=⟨rfl,rfl,rfl,by decide +kernel,rfl,by decide +kernel,by decide +kernel⟩
theorem sc_is_formed:FnScope ["piece","places"] ["piece"] (defScope s_is_formed):=⟨rfl,rfl,rfl,by decide +kernel,rfl,by decide +kernel,by decide +kernel⟩
theorem sc__law_cell:FnScope ["_law_script","_law_k"] ["_law_script","_law_k"] (defScope s__law_cell):=⟨rfl,rfl,rfl,by decide +kernel,rfl,by decide +kernel,by decide +kernel⟩
theorem sc__law_whole:FnScope ["_law_found"] ["_law_found"] (defScope s__law_whole):=⟨rfl,rfl,rfl,by decide +kernel,rfl,by decide +kernel,by decide +kernel⟩
theorem sc__law_stir:FnScope ["_law_cell_here","_law_k","_law_number"] ["_law_cell_here","_law_k"] (defScope s__law_stir):=⟨rfl,rfl,rfl,by decide +kernel,rfl,by decide +kernel,by decide +kernel⟩
theorem sc__law_block:FnScope ["_law_cell_here","_law_k"] ["_law_cell_here","_law_k"] (defScope s__law_block):=⟨rfl,rfl,rfl,by decide +kernel,rfl,by decide +kernel,by decide +kernel⟩
theorem sc__law_changes:FnScope ["_law_cell_here","_law_wide"] ["_law_cell_here","_law_wide"] (defScope s__law_changes):=⟨rfl,rfl,rfl,by decide +kernel,rfl,by decide +kernel,by decide +kernel⟩
theorem sc__law_tables:FnScope ["_law_wide","_law_changes_here","_law_tables_here","_law_row","_law_table","_law_place","_law_block_here"] ["_law_wide","_law_changes_here"] (defScope s__law_tables):=⟨rfl,rfl,rfl,by decide +kernel,rfl,by decide +kernel,by decide +kernel⟩
theorem sc__law_same:FnScope ["_law_found","_law_due"] ["_law_found","_law_due"] (defScope s__law_same):=⟨rfl,rfl,rfl,by decide +kernel,rfl,by decide +kernel,by decide +kernel⟩
theorem sc_law:FnScope ["_law_script","_law_first","_law_wide","_law_changes_here","_law_days","_law_row","_law_tables_here","_law_begin","_law_whole_here","_law_table","_law_handed","_law_at","_law_day","_law_piece","_law_found","_law_long"] ["_law_script"] (defScope s_law):=⟨rfl,rfl,rfl,by decide +kernel,rfl,by decide +kernel,by decide +kernel⟩
theorem gNameA {k:Nat} {x:V} {σ:St} (σ':St) {H:Hp} {N:St->Hp->Prop} (h:N σ' H) (e:σ.set k (some x) = σ':=by rfl):gName k x σ H N:=by subst e; exact h
theorem cutA {S1 R:TS} {D:Ends} {σ:St} {H:Hp} (Post:St->Hp->Prop) (h:∀ N:St->Hp->Prop,(∀ σ' H',Post σ' H'->N σ' H')->S1 { D with nx:=N } σ H) (hr:∀ σ' H',Post σ' H'->R D σ' H'):tSeq S1 R D σ H:=h (R D) hr
theorem if_yes {c:TT} {t u:TS} {D:Ends} {σ:St} {H:Hp} (hc:∀ Q:Bool->Hp->Prop,Q true H->c σ H Q) (h:t D σ H):tIfS c t u D σ H:=hc _ (iteT h)
theorem if_no {c:TT} {t u:TS} {D:Ends} {σ:St} {H:Hp} (hc:∀ Q:Bool->Hp->Prop,Q false H->c σ H Q) (h:u D σ H):tIfS c t u D σ H:=hc _ (iteF h)
theorem if_B {c:TT} {t u:TS} {D:Ends} {σ:St} {H:Hp} (b:Bool) (P:Hp->Prop) (hc:∀ Q:Bool->Hp->Prop,(∀ H',P H'->Q b H')->c σ H Q) (ht:b = true->∀ H',P H'->t D σ H') (hu:b = false->∀ H',P H'->u D σ H'):tIfS c t u D σ H:=hc _ fun H' p=>by
  cases b with
  | true=>exact iteT (ht rfl H' p)
  | false=>exact iteF (hu rfl H' p)
theorem two_of {x y k:Int} (h0:0 ≤ k) (h1:k < 2):∃ z,atI [V.int x,V.int y] k = some (V.int z) /\ (z = x ∨ z = y):=by
  have:k = 0 ∨ k = 1:=by omega
  rcases this with rfl | rfl
  · exact ⟨x,rfl,.inl rfl⟩
  · exact ⟨y,rfl,.inr rfl⟩
def sp_whole:Sp:=fun vs H Q _=>∃ n:Int,vs = [.int n] /\ Q (.bl true) H
theorem lk_rows2 {wh:Bool} {b d:Nat} {r:Addr} {c:Int} {f:Bool}:List.lookup ("rows":Str) (pfs wh b d r c f) = some (V.ref r):=by
  cases wh <;> (show List.lookup _ (_ :: _ :: _) = _; rw [List.lookup_cons,show (("rows":Str) == "day") = false by decide +kernel,List.lookup_cons]; simp)
def sp_init (C CN:Addr):Sp:=fun vs H Q E=>∃ (p dx:Addr) (wd:Int),vs = [.ref p,.int wd] /\ H p = some (.ins C dx []) ∧
  ((1 ≤ wd /\ wd ≤ 40)->∀ (ta sa tz se:Addr) (H':Hp),DaysAt C H' p ta sa [tz] [se] wd.toNat [List.replicate wd.toNat 0] [[]]->(∀ b ∈ [ta,sa,tz,se],H b = none)->Keep [p] H H'->Q .non H') ∧
  (¬ (1 ≤ wd /\ wd ≤ 40)->∀ e H',ExcAt H' e CN [("wide",.int wd)]->Same H H'->E (.ref CN) (some e) H')
def sp_askw (CN:Addr):Sp:=fun vs H Q E=>∃ (wd:Int),vs = [.int wd] /\ ((1 ≤ wd /\ wd ≤ 40)->Q .non H) /\ (¬ (1 ≤ wd /\ wd ≤ 40)->∀ e H',ExcAt H' e CN [("wide",.int wd)]->Same H H'->E (.ref CN) (some e) H')
def sp_askc (C CP CB:Addr):Sp:=fun vs H Q E=>∃ (p ta sa:Addr) (TL SL:List Addr) (wd:Nat) (tabs sets:List (List Int)) (c:Int × Int),vs = [.ref p,.int c.1,.int c.2] /\ DaysAt C H p ta sa TL SL wd tabs sets ∧
  (badC wd c = none->Q .non H) /\ (∀ x,badC wd c = some (true,x)->∀ e H',ExcAt H' e CP [("place",.int x)]->Same H H'->E (.ref CP) (some e) H') /\ (∀ x,badC wd c = some (false,x)->∀ e H',ExcAt H' e CB [("block",.int x)]->Same H H'->E (.ref CB) (some e) H')
def sp_askd (C CD:Addr):Sp:=fun vs H Q E=>∃ (p ta sa:Addr) (TL SL:List Addr) (wd:Nat) (tabs sets:List (List Int)) (d:Int),vs = [.ref p,.int d] /\ DaysAt C H p ta sa TL SL wd tabs sets ∧
  ((0 ≤ d /\ d < tabs.length)->Q .non H) /\ (¬ (0 ≤ d /\ d < tabs.length)->∀ e H',ExcAt H' e CD [("day",.int d)]->Same H H'->E (.ref CD) (some e) H')
def sp_table (C CD:Addr):Sp:=fun vs H Q E=>∃ (p ta sa:Addr) (TL SL:List Addr) (wd:Nat) (tabs sets:List (List Int)) (d:Int),vs = [.ref p,.int d] /\ DaysAt C H p ta sa TL SL wd tabs sets ∧
  ((0 ≤ d /\ d < tabs.length)->∀ t tab,tabs[d.toNat]? = some tab->H t = none->Q (.ref t) (upd H t (.lst (tab.map V.int)))) /\ (¬ (0 ≤ d /\ d < tabs.length)->∀ e H',ExcAt H' e CD [("day",.int d)]->Same H H'->E (.ref CD) (some e) H')
def sp_passes (C CP CB:Addr):Sp:=fun vs H Q E=>∃ (p ta sa a:Addr) (TL SL:List Addr) (wd:Nat) (tabs sets:List (List Int)) (L:List V) (chs:List (Int × Int)),vs = [.ref p,.ref a] /\ DaysAt C H p ta sa TL SL wd tabs sets /\ H a = some (.lst L) /\ ChAt H L chs /\ chs.length ≤ 300 /\ tabs.length ≤ 500 /\ a ∉ foot p ta sa TL SL ∧
  (firstBad wd chs = none->∀ (m d:Addr) (H':Hp) (tab:List Int),tabs[tabs.length - 1]? = some tab->DaysAt C H' p ta sa (TL ++ [m]) (SL ++ [d]) wd (tabs ++ [nextT tab chs]) (sets ++ [chs.map Prod.fst])->H m = none->H d = none->Keep (foot p ta sa TL SL) H H'->Q (.int (tabs.length:Int)) H') ∧
  (∀ x,firstBad wd chs = some (true,x)->∀ e H',ExcAt H' e CP [("place",.int x)]->Same H H'->E (.ref CP) (some e) H') /\ (∀ x,firstBad wd chs = some (false,x)->∀ e H',ExcAt H' e CB [("block",.int x)]->Same H H'->E (.ref CB) (some e) H')
def inDays (sets:List (List Int)) (lo hi:Int) (k:Int):Prop:=∃ (d:Nat) (xs:List Int),lo < (d:Int) /\ (d:Int) ≤ hi /\ sets[d]? = some xs /\ k ∈ xs
structure SetsIn (wd:Nat) (sets:List (List Int)):Prop where
  most:wd ≤ 40
  day:∀ xs ∈ sets,xs.length ≤ 300 /\ ∀ x ∈ xs,0 ≤ x /\ x < (wd:Int)
def sp_written (C CD:Addr):Sp:=fun vs H Q E=>∃ (p ta sa:Addr) (TL SL:List Addr) (wd:Nat) (tabs sets:List (List Int)) (one other:Int),vs = [.ref p,.int one,.int other] /\ DaysAt C H p ta sa TL SL wd tabs sets /\ SetsIn wd sets /\ tabs.length ≤ 500 ∧
  ((0 ≤ one /\ one < tabs.length)->(0 ≤ other /\ other < tabs.length)->∀ (r:Addr) (ns:List Int) H',H' r = some (.lst (ns.map V.int))->H r = none->ns.Pairwise (· < ·)->(∀ k,k ∈ ns ↔ inDays sets (min one other) (max one other) k)->Same H H'->Q (.ref r) H') ∧
  (∀ d,(¬ (0 ≤ one /\ one < tabs.length) /\ d = one) ∨ ((0 ≤ one /\ one < tabs.length) /\ ¬ (0 ≤ other /\ other < tabs.length) /\ d = other)->∀ e H',ExcAt H' e CD [("day",.int d)]->Same H H'->E (.ref CD) (some e) H')
theorem nodup_few:∀ (m:Nat) (l:List Int),l.Nodup->(∀ x ∈ l,0 ≤ x /\ x < (m:Int))->l.length ≤ m
  | 0,l,_,h=>by
    cases l with
    | nil=>exact Nat.le_refl _
    | cons x r=>have:=h x (by simp); omega
  | m + 1,l,hn,h=>by
    have ih:=nodup_few m (l.erase (m:Int)) (hn.erase _) fun x hx=>by
      have h1:=h x (List.mem_of_mem_erase hx)
      have h2:x ≠ (m:Int):=fun z=>by rw [z] at hx; exact (List.Nodup.not_mem_erase hn) hx
      omega
    by_cases hm:(m:Int) ∈ l
    · rw [List.length_erase_of_mem hm] at ih; omega
    · rw [List.erase_of_not_mem hm] at ih; omega
theorem few63 {wd:Nat} (h:wd ≤ 40) {ns:List Int} (hx:∀ x ∈ ns,0 ≤ x /\ x < (wd:Int)):(dd ns).length ≤ 63:=by
  have:=nodup_few wd (dd ns) (dedup_nodup _ _) fun x h=>hx x (dd_mem.mp h)
  omega
theorem small15 {n:Nat} (h:n ≤ 200000):n ≤ sizeLine:=Nat.le_trans h (by decide)
def cellI (ns:List Int) (k:Int):Int:=if k < (ns.length:Int) then ns.getD k.toNat 0 else 37 * k + 11
def stirI (c k:Int):Int:=(c + 7919 * k) * 48271 % 2147483647 * ((c + 7919 * k) * 48271 % 2147483647) % 2147483629
def blockI (c k:Int):Int:=if (c + k) % 4 = 0 then (c / 4 + k) % 3 else if (c + k) % 4 = 1 then 18446744073709551616 - 1 - (c / 4 + k) % 3 else if (c + k) % 4 = 2 then c % 18446744073709551616 else
  (stirI c k * 8589934592 + stirI c (k + 50)) % 18446744073709551616
theorem block_bd (c k:Int):0 ≤ blockI c k /\ blockI c k < 2 ^ 64:=by
  unfold blockI
  split
  · omega
  · split
    · omega
    · split
      · omega
      · exact ⟨Int.emod_nonneg _ (by first | decide | (dsimp only; decide)),Int.emod_lt_of_pos _ (by first | decide | (dsimp only; decide))⟩
def sp_cell (K:PySem.W.Frag):Sp:=fun vs H Q _=>∃ (a:Addr) (ns:List Int) (k:Nat),vs = [.ref a,.int (k:Int)] /\ SqL K H a (ns.map V.int) /\ Q (.int (cellI ns k)) H
def sp_stir:Sp:=fun vs H Q _=>∃ c k:Int,vs = [.int c,.int k] /\ Q (.int (stirI c k)) H
def sp_block:Sp:=fun vs H Q _=>∃ c k:Int,vs = [.int c,.int k] /\ Q (.int (blockI c k)) H
theorem atI_m1 {α:Type} {xs:List α} {v:α} (h:xs[xs.length - 1]? = some v):atI xs (-1) = some v:=by
  have hl:=(List.getElem?_eq_some_iff.mp h).1
  unfold atI ixN
  rw [if_neg (by omega),if_pos (by omega),show ((-1:Int) + (xs.length:Int)).toNat = xs.length - 1 by omega]
  exact h
def ChOk (wd:Nat) (chs:List (Int × Int)):Prop:=chs.length ≤ 3 /\ ∀ x ∈ chs,0 ≤ x.1 /\ x.1 < (wd:Int) /\ 0 ≤ x.2 /\ x.2 < 2 ^ 64
theorem first_ok {wd:Nat} {chs:List (Int × Int)} (h:ChOk wd chs):firstBad wd chs = none:=by
  unfold firstBad
  rw [List.findSome?_eq_none_iff]
  intro c hc
  have:=h.2 c hc
  unfold badC
  rw [if_neg (by omega),if_neg (by omega)]
def sp_changes17:Sp:=fun vs H Q _=>∃ (c:Int) (wd:Nat),vs = [.int c,.int (wd:Int)] /\ 0 < wd /\ ∀ l L chs H',H' l = some (.lst L)->H l = none->ChAt H' L chs->ChOk wd chs->Same H H'->Q (.ref l) H'
structure RowsC (H:Hp) (RL:List Addr) (chss:List (List (Int × Int))):Prop where
  len:RL.length = chss.length
  get:∀ (i:Nat) a cs,RL[i]? = some a->chss[i]? = some cs->∃ L,H a = some (.lst L) /\ ChAt H L cs
theorem RowsC.mono {H H':Hp} {RL:List Addr} {chss:List (List (Int × Int))} (R:RowsC H RL chss) (h1:∀ a ∈ RL,∀ o,H a = some o->H' a = some o) (h2:∀ t xs,H t = some (.tup xs)->H' t = some (.tup xs)):RowsC H' RL chss :=
  ⟨R.len,fun i a cs e1 e2=>let ⟨L,x,y⟩:=R.get i a cs e1 e2; ⟨L,h1 a (List.mem_of_getElem? e1) _ x,y.mono h2⟩⟩
theorem RowsC.same {H H':Hp} {RL:List Addr} {chss:List (List (Int × Int))} (R:RowsC H RL chss) (s:Same H H'):RowsC H' RL chss:=R.mono (fun a _ o e=>s a o e) fun t _ e=>s t _ e
theorem RowsC.snoc {H:Hp} {RL:List Addr} {chss:List (List (Int × Int))} (R:RowsC H RL chss) {a:Addr} {L:List V} {cs:List (Int × Int)} (h:H a = some (.lst L)) (c:ChAt H L cs):RowsC H (RL ++ [a]) (chss ++ [cs]) :=
  ⟨by simp [R.len],fun i b ds e1 e2=>by
    by_cases hi:i < RL.length
    · rw [List.getElem?_append_left hi] at e1
      rw [List.getElem?_append_left (by rw [← R.len]; exact hi)] at e2
      exact R.get i b ds e1 e2
    · have hlt:=(List.getElem?_eq_some_iff.mp e1).1
      have:i = RL.length:=by simp at hlt; omega
      subst this
      rw [List.getElem?_append_right (Nat.le_refl _)] at e1
      rw [R.len,List.getElem?_append_right (Nat.le_refl _)] at e2
      simp at e1 e2
      subst e1 e2
      exact ⟨L,h,c⟩⟩
theorem RowsC.here {H:Hp} {RL:List Addr} {chss:List (List (Int × Int))} (R:RowsC H RL chss):∀ b ∈ RL,∃ o,H b = some o:=fun b hb=>by
  obtain ⟨i,hi⟩:=List.mem_iff_getElem?.mp hb
  have hl:=(List.getElem?_eq_some_iff.mp hi).1
  rw [R.len] at hl
  obtain ⟨L,h,_⟩:=R.get i b _ hi (List.getElem?_eq_getElem hl)
  exact ⟨_,h⟩
def lastT (ts:List (List Int)):List Int:=(ts[ts.length - 1]?).getD []
def tabsGo (ts:List (List Int)) (chss:List (List (Int × Int))):List (List Int):=chss.foldl (fun ts c=>ts ++ [nextT (lastT ts) c]) ts
def tabsOf (wd:Nat) (chss:List (List (Int × Int))):List (List Int):=tabsGo [List.replicate wd 0] chss
def setsOf (chss:List (List (Int × Int))):List (List Int):=[] :: chss.map (List.map Prod.fst)
theorem tabs_snoc (wd:Nat) (chss:List (List (Int × Int))) (c:List (Int × Int)):tabsOf wd (chss ++ [c]) = tabsOf wd chss ++ [nextT (lastT (tabsOf wd chss)) c]:=by
  unfold tabsOf tabsGo; rw [List.foldl_append]; rfl
theorem sets_snoc (chss:List (List (Int × Int))) (c:List (Int × Int)):setsOf (chss ++ [c]) = setsOf chss ++ [c.map Prod.fst]:=by unfold setsOf; simp
theorem tabsGo_len:∀ (chss:List (List (Int × Int))) (ts:List (List Int)),(tabsGo ts chss).length = ts.length + chss.length
  | [],ts=>rfl
  | c :: r,ts=>by
    show (tabsGo (ts ++ [nextT (lastT ts) c]) r).length = _
    rw [tabsGo_len r]; simp; omega
theorem tabs_len (wd:Nat) (chss:List (List (Int × Int))):(tabsOf wd chss).length = chss.length + 1:=by unfold tabsOf; rw [tabsGo_len]; simp; omega
theorem sets_len (chss:List (List (Int × Int))):(setsOf chss).length = chss.length + 1:=by unfold setsOf; simp
theorem last_of {ts:List (List Int)} {t:List Int} (h:ts[ts.length - 1]? = some t):lastT ts = t:=by unfold lastT; rw [h]; rfl
def TabOk (wd:Nat) (t:List Int):Prop:=t.length = wd /\ ∀ v ∈ t,0 ≤ v
theorem next_ok {wd:Nat}:∀ {chs:List (Int × Int)} {t:List Int},TabOk wd t->(∀ c ∈ chs,0 ≤ c.2)->TabOk wd (nextT t chs)
  | [],t,h,_=>h
  | c :: r,t,h,hc=>by
    show TabOk wd (nextT (t.set c.1.toNat c.2) r)
    refine next_ok ⟨by rw [List.length_set]; exact h.1,fun v hv=>?_⟩ fun x hx=>hc x (by simp [hx])
    rcases List.mem_or_eq_of_mem_set hv with z | z
    · exact h.2 v z
    · rw [z]; exact hc c (by simp)
theorem last_ok {wd:Nat} {ts:List (List Int)} (h:∀ t ∈ ts,TabOk wd t) (h0:ts ≠ []):TabOk wd (lastT ts):=by
  have hl:ts.length - 1 < ts.length:=by have:=List.length_pos_iff.mpr h0; omega
  rw [last_of (List.getElem?_eq_getElem hl)]
  exact h _ (List.getElem_mem hl)
theorem tabsGo_ok {wd:Nat}:∀ {chss:List (List (Int × Int))} {ts:List (List Int)},(∀ cs ∈ chss,ChOk wd cs)->(∀ t ∈ ts,TabOk wd t)->ts ≠ []->∀ t ∈ tabsGo ts chss,TabOk wd t
  | [],ts,_,h,_=>h
  | c :: r,ts,hc,h,h0=>by
    show ∀ t ∈ tabsGo (ts ++ [nextT (lastT ts) c]) r,TabOk wd t
    refine tabsGo_ok (fun cs hcs=>hc cs (by simp [hcs])) (fun t ht=>?_) (by simp)
    rcases List.mem_append.mp ht with z | z
    · exact h t z
    · rw [List.mem_singleton.mp z]
      exact next_ok (last_ok h h0) fun x hx=>((hc c (by simp)).2 x hx).2.2.1
theorem tabs_ok {wd:Nat} {chss:List (List (Int × Int))} (h:∀ cs ∈ chss,ChOk wd cs):∀ t ∈ tabsOf wd chss,TabOk wd t:=tabsGo_ok h (fun t ht=>by
  rw [List.mem_singleton.mp ht]
  exact ⟨List.length_replicate,fun v hv=>by rw [(List.mem_replicate.mp hv).2]; exact Int.le_refl _⟩) (by simp)
theorem sets_in {wd:Nat} {chss:List (List (Int × Int))} (hw:wd ≤ 40) (h:∀ cs ∈ chss,ChOk wd cs):SetsIn wd (setsOf chss):=⟨hw,fun xs hx=>by
  unfold setsOf at hx
  rcases List.mem_cons.mp hx with rfl | hx
  · exact ⟨by simp,fun x h=>by cases h⟩
  · obtain ⟨cs,hcs,rfl⟩:=List.mem_map.mp hx
    refine ⟨by rw [List.length_map]; have:=(h cs hcs).1; omega,fun x hx=>?_⟩
    obtain ⟨c,hc,rfl⟩:=List.mem_map.mp hx
    have:=(h cs hcs).2 c hc
    omega⟩
def wrows (tab:List Int):List (Nat × Nat):=tab.zipIdx.map fun q=>(q.2,q.1.toNat)
theorem wrows_len (tab:List Int):(wrows tab).length = tab.length:=by unfold wrows; simp
theorem wrows_at {tab:List Int} {i:Nat} {v:Int} (h:tab[i]? = some v):(wrows tab)[i]? = some (i,v.toNat):=by
  unfold wrows
  rw [List.getElem?_map,List.getElem?_zipIdx,h]
  simp
theorem enum_rows {H0 H:Hp} {tab:List Int} {ts:List Addr} (h:EnL H0 H (tab.map V.int) ts) (hl:ts.length = (tab.map V.int).length) (h0:∀ v ∈ tab,0 ≤ v):RowsAt H (ts.map V.ref) (wrows tab) :=
  ⟨by rw [List.length_map,hl,List.length_map,wrows_len],fun i v e=>by
    rw [List.getElem?_map] at e
    obtain ⟨t,ht,rfl⟩:=Option.map_eq_some_iff.mp e
    obtain ⟨_,x,hx,hH⟩:=h i t ht
    rw [List.getElem?_map] at hx
    obtain ⟨z,hz,rfl⟩:=Option.map_eq_some_iff.mp hx
    have:=h0 z (List.mem_of_getElem? hz)
    refine ⟨t,_,rfl,wrows_at hz,?_⟩
    rw [hH]
    show some (HO.tup [V.int (i:Int),V.int z]) = some (HO.tup [V.int (i:Int),V.int (z.toNat:Int)])
    rw [Int.toNat_of_nonneg this]⟩
def growsI (ns tab:List Int):List (Nat × Nat):=ns.map fun k=>(k.toNat,(tab.getD k.toNat 0).toNat)
theorem grows_snoc {ns tab:List Int} {k:Int}:growsI (ns ++ [k]) tab = growsI ns tab ++ [(k.toNat,(tab.getD k.toNat 0).toNat)]:=by unfold growsI; rw [List.map_append]; rfl
theorem grows_len {ns tab:List Int}:(growsI ns tab).length = ns.length:=by unfold growsI; rw [List.length_map]
theorem rise_few {wd:Nat} {ns:List Int} (h:ns.Pairwise (· < ·)) (hx:∀ x ∈ ns,0 ≤ x /\ x < (wd:Int)):ns.length ≤ wd:=nodup_few wd ns (h.imp fun a=>by omega) hx
theorem days_in {wd:Nat} {sets:List (List Int)} (h:SetsIn wd sets) {lo hi k:Int} (hk:inDays sets lo hi k):0 ≤ k /\ k < (wd:Int):=by
  obtain ⟨d,xs,_,_,e,hx⟩:=hk
  exact (h.day xs (List.mem_of_getElem? e)).2 k hx
def okD (n:Nat) (d:Int):Prop:=0 ≤ d /\ d < (n:Int)
structure DayR (C:Addr) (H:Hp) (p:Addr) (wd:Nat) (tabs sets:List (List Int)):Prop where
  D:∃ ta sa TL SL,DaysAt C H p ta sa TL SL wd tabs sets
  S:SetsIn wd sets
  T:∀ t ∈ tabs,TabOk wd t
  n:tabs.length ≤ 500
def sp_wholeof (C CW CG CD:Addr):Sp:=fun vs H Q E=>∃ (p:Addr) (wd:Nat) (tabs sets:List (List Int)) (day:Int),vs = [.ref p,.int day] /\ DayR C H p wd tabs sets ∧
  (okD tabs.length day->∀ (q:Addr) (tab:List Int) H',tabs[day.toNat]? = some tab->PAt CW CG H' q true 0 day.toNat (wrows tab) (ckOf true 0 day.toNat (wrows tab):Nat)->Same H H'->Q (.ref q) H') ∧
  (¬ okD tabs.length day->∀ e H',ExcAt H' e CD [("day",.int day)]->Same H H'->E (.ref CD) (some e) H')
def sp_gainof (C CW CG CD CB:Addr):Sp:=fun vs H Q E=>∃ (p:Addr) (wd:Nat) (tabs sets:List (List Int)) (base day:Int),vs = [.ref p,.int base,.int day] /\ DayR C H p wd tabs sets ∧
  (okD tabs.length base->okD tabs.length day->base < day->∀ (q:Addr) (ns tab:List Int) H',tabs[day.toNat]? = some tab->ns.Pairwise (· < ·)->(∀ k,k ∈ ns ↔ inDays sets base day k)->PAt CW CG H' q false base.toNat day.toNat (growsI ns tab) (ckOf false base.toNat day.toNat (growsI ns tab):Nat)->Same H H'->Q (.ref q) H') ∧
  (okD tabs.length base->okD tabs.length day->day ≤ base->∀ e H',ExcAt H' e CB [("base",.int base),("day",.int day)]->Same H H'->E (.ref CB) (some e) H') ∧
  (∀ d,((¬ okD tabs.length base /\ d = base) ∨ (okD tabs.length base /\ ¬ okD tabs.length day /\ d = day))->∀ e H',ExcAt H' e CD [("day",.int d)]->Same H H'->E (.ref CD) (some e) H')
def setI (t:List Int) (rows:List (Nat × Nat)):List Int:=rows.foldl (fun t r=>t.set r.1 (r.2:Int)) t
theorem setI_snoc (t:List Int) (rows:List (Nat × Nat)) (r:Nat × Nat):setI t (rows ++ [r]) = (setI t rows).set r.1 (r.2:Int):=by unfold setI; rw [List.foldl_append]; rfl
theorem setI_len:∀ (rows:List (Nat × Nat)) (t:List Int),(setI t rows).length = t.length
  | [],t=>rfl
  | r :: rs,t=>by
    show (setI (t.set r.1 (r.2:Int)) rs).length = _
    rw [setI_len rs,List.length_set]
def sp_wlaid (CW CG:Addr):Sp:=fun vs H Q _=>∃ (p tb:Addr) (b d:Nat) (rows:List (Nat × Nat)) (c:Int),vs = [.ref p,.ref tb] /\ PAt CW CG H p true b d rows c /\ rows.length ≤ 100 /\ ∀ r H',H' r = some (.lst ((rows.map fun r=>(r.2:Int)).map V.int))->H r = none->Same H H'->Q (.ref r) H'
def sp_glaid (CW CG:Addr):Sp:=fun vs H Q _=>∃ (p tb:Addr) (b d:Nat) (rows:List (Nat × Nat)) (c:Int) (t:List Int),vs = [.ref p,.ref tb] /\ PAt CW CG H p false b d rows c /\ H tb = some (.lst (t.map V.int)) /\ (∀ r ∈ rows,r.1 < t.length) /\ ∀ r H',H' r = some (.lst ((setI t rows).map V.int))->H r = none->Same H H'->Q (.ref r) H'
def sp_writes:Sp:=fun vs H Q _=>∃ z:Str,vs = [.str z] /\ z.length ≤ 200 /\ ∀ H',Same H H'->Q (.bl (okW z)) H'
def gN (n:Int):Prop:=0 ≤ n /\ n < 10 ^ 20
def sp_numof:Sp:=fun vs H Q _=>∃ n:Int,vs = [.str (numT n)] /\ gN n /\ ∀ H',Same H H'->Q (.int n) H'
def sp_change:Sp:=fun vs H Q _=>∃ c:Int × Int,vs = [.str (wordOf c)] /\ goodC c /\ ∀ t H',H' t = some (.tup [.int c.1,.int c.2])->Same H H'->Q (.ref t) H'
def sp_text (K:PySem.W.Frag):Sp:=fun vs H Q _=>∃ (a:Addr) (L:List V) (chs:List (Int × Int)),vs = [.ref a] /\ H a = some (.lst L) /\ ChAt H L chs /\ (∀ c ∈ chs,goodC c) /\ chs.length ≤ 60 /\ ∀ H',Same H H'->Q (.str (textOf chs)) H'
structure LinOk (u:PcU):Prop where
  d9:u.d ≤ 1000000000
  b9:u.b ≤ 1000000000
  rows:∀ r ∈ u.rows,r.1 < 40 /\ r.2 < 2 ^ 64
  len:u.rows.length ≤ 40
  c0:0 ≤ u.c /\ u.c < 2 ^ 64
  wh_:u.wh = true->u.b = 0 /\ 0 < u.rows.length /\ u.rows.map Prod.fst = List.range u.rows.length
  gn_:u.wh = false->u.b < u.d /\ (u.rows.map Prod.fst).Pairwise (· < ·)
def rowC (r:Nat × Nat):Int × Int:=((r.1:Int),(r.2:Int))
def headU (u:PcU):List Str:=if u.wh = true then [Str.ofString "whole",numT (u.d:Int)] else [Str.ofString "gain",numT (u.b:Int),numT (u.d:Int)]
def wordsU (u:PcU):List Str:=headU u ++ u.rows.map (fun r=>wordOf (rowC r)) ++ [ckT u.c]
def lineU (u:PcU):Str:=Str.join (Str.ofString " ") (wordsU u)
section
variable {u:PcU} (h:LinOk u)
include h
theorem LinOk.good:∀ r ∈ u.rows,goodC (rowC r):=fun r hr=>by
  have:=h.rows r hr
  unfold goodC rowC
  refine ⟨⟨by show 0 ≤ ((r.1:Nat):Int); omega,by show ((r.1:Nat):Int) < 10 ^ 20; omega⟩,by show 0 ≤ ((r.2:Nat):Int); omega,by show ((r.2:Nat):Int) < 10 ^ 20; omega⟩
theorem LinOk.gd:gN (u.d:Int):=⟨by omega,by have:=h.d9; omega⟩
theorem LinOk.gb:gN (u.b:Int):=⟨by omega,by have:=h.b9; omega⟩
theorem LinOk.gc:0 ≤ u.c /\ u.c < 10 ^ 20:=⟨h.c0.1,by have:=h.c0.2; omega⟩
theorem words_free:∀ p ∈ wordsU u,32 ∉ p.cps.toList /\ p.length ≤ 41:=fun p hp=>by
  unfold wordsU headU at hp
  rcases List.mem_append.mp hp with hp | hp
  · rcases List.mem_append.mp hp with hp | hp
    · have hd:=h.gd
      have hb:=h.gb
      have num:∀ {n:Int},gN n->32 ∉ (numT n).cps.toList /\ (numT n).length ≤ 41:=fun hn=>⟨numT_free hn.1 (by decide),by have:=numT_len hn.1 hn.2; omega⟩
      split at hp
      · simp only [List.mem_cons,List.not_mem_nil,or_false] at hp
        rcases hp with rfl | rfl
        · exact ⟨by decide +kernel,by decide +kernel⟩
        · exact num hd
      · simp only [List.mem_cons,List.not_mem_nil,or_false] at hp
        rcases hp with rfl | rfl | rfl
        · exact ⟨by decide +kernel,by decide +kernel⟩
        · exact num hb
        · exact num hd
    · obtain ⟨r,hr,rfl⟩:=List.mem_map.mp hp
      exact ⟨wordOf_free (h.good r hr),wordOf_len (h.good r hr)⟩
  · rw [List.mem_singleton.mp hp]
    exact ⟨ckT_free h.gc.1 h.gc.2 (by decide),by rw [ckT_len h.gc.1 h.gc.2]; decide⟩
omit h in
theorem words_ne:wordsU u ≠ []:=by unfold wordsU; simp
theorem line_split:Txt.split (lineU u) (Str.ofString " ") = wordsU u:=by
  unfold lineU
  rw [spS]
  exact split_join words_ne fun p hp=>(words_free h p hp).1
omit h in
theorem sum_len:∀ {l:List Str},(∀ p ∈ l,p.length ≤ 41)->(l.map (·.length)).sum ≤ 41 * l.length
  | [],_=>by simp
  | x :: r,hx=>by
    have h1:=hx x (by simp)
    have h2:=sum_len (l:=r) fun p hp=>hx p (List.mem_cons_of_mem _ hp)
    simp only [List.map_cons,List.sum_cons,List.length_cons]
    omega
theorem words_count:(wordsU u).length ≤ 44:=by
  have:=h.len
  unfold wordsU headU
  split <;> simp <;> omega
theorem line_fits:((wordsU u).map (·.length)).sum + (wordsU u).length * (Str.ofString " ").length ≤ 16777216:=by
  have h1:=sum_len fun p hp=>(words_free h p hp).2
  have h2:=words_count h
  have:(Str.ofString " ").length = 1:=by decide +kernel
  rw [this]; omega
theorem line_len:(lineU u).length ≤ 100000:=by
  have h1:=sum_len fun p hp=>(words_free h p hp).2
  have h2:=words_count h
  unfold lineU
  rw [← StrLaws.glued_eq_join,size_glued]
  have:(Str.ofString " ").length = 1:=by decide +kernel
  rw [this]
  omega
end
theorem cut_mid {A B C:List V}:cutV (A ++ (B ++ C)) (some (A.length:Int)) (some ((A.length + B.length:Nat):Int)) = B:=by
  unfold cutV
  rw [HT.sIx_nat,HT.sIx_nat,List.length_append,List.length_append]
  rw [show min A.length (A.length + (B.length + C.length)) = A.length by omega,show min (A.length + B.length) (A.length + (B.length + C.length)) = A.length + B.length by omega]
  rw [List.drop_left,show A.length + B.length - A.length = B.length by omega,List.take_left]
theorem cut_m1 {A B:List V} {c:V}:cutV (A ++ (B ++ [c])) (some (A.length:Int)) (some (-1)) = B:=by
  unfold cutV
  have e:HT.sIx (A ++ (B ++ [c])).length (A ++ (B ++ [c])).length (some (-1)) = A.length + B.length:=by
    unfold HT.sIx
    simp only []
    rw [if_pos (by decide),List.length_append,List.length_append,List.length_singleton]
    omega
  rw [HT.sIx_nat,e,List.length_append,List.length_append]
  rw [show min A.length (A.length + (B.length + [c].length)) = A.length by omega]
  rw [List.drop_left,show A.length + B.length - A.length = B.length by omega,List.take_left]
def kindU (u:PcU):Str:=if u.wh = true then Str.ofString "whole" else Str.ofString "gain"
def daysU (u:PcU):List Int:=if u.wh = true then [(u.d:Int)] else [(u.b:Int),(u.d:Int)]
theorem headU_eq (u:PcU):headU u = kindU u :: (daysU u).map numT:=by
  unfold headU kindU daysU
  split <;> rfl
theorem wordsV (u:PcU):(wordsU u).map V.str = [V.str (kindU u)] ++ (((daysU u).map numT).map V.str ++ ((u.rows.map fun r=>wordOf (rowC r)).map V.str ++ [V.str (ckT u.c)])):=by
  unfold wordsU
  rw [headU_eq,List.map_append,List.map_append,List.map_cons]
  simp
theorem cut_days (u:PcU) {m:Int} (hm:m = ((daysU u).length:Int)):cutV ((wordsU u).map V.str) (some 1) (some (m + 1)) = ((daysU u).map numT).map V.str:=by
  have:=cut_mid (A:=[V.str (kindU u)]) (B:=((daysU u).map numT).map V.str) (C:=(u.rows.map fun r=>wordOf (rowC r)).map V.str ++ [V.str (ckT u.c)])
  rw [wordsV,hm]
  rw [show (([V.str (kindU u)].length + (((daysU u).map numT).map V.str).length:Nat):Int) = ((daysU u).length:Int) + 1 by simp; omega] at this
  exact this
theorem cut_rowsU (u:PcU) {m:Int} (hm:m = ((daysU u).length:Int)):cutV ((wordsU u).map V.str) (some (m + 1)) (some (-1)) = (u.rows.map fun r=>wordOf (rowC r)).map V.str:=by
  have:=cut_m1 (A:=[V.str (kindU u)] ++ ((daysU u).map numT).map V.str) (B:=(u.rows.map fun r=>wordOf (rowC r)).map V.str) (c:=V.str (ckT u.c))
  rw [wordsV,hm]
  rw [show ((([V.str (kindU u)] ++ ((daysU u).map numT).map V.str).length:Nat):Int) = ((daysU u).length:Int) + 1 by simp,List.append_assoc] at this
  exact this
theorem last_word (u:PcU):atI ((wordsU u).map V.str) (-1) = some (V.str (ckT u.c)):=by
  rw [wordsV]
  have hl:∀ (A:List V) (c:V),atI (A ++ [c]) (-1) = some c:=fun A c=>by
    unfold atI ixN
    rw [if_neg (by omega),if_pos (by rw [List.length_append,List.length_singleton]; omega),List.length_append,List.length_singleton,show ((-1:Int) + ((A.length + 1:Nat):Int)).toNat = A.length by omega]
    simp
  rw [← List.append_assoc,← List.append_assoc]
  exact hl _ _
theorem first_word (u:PcU):atI ((wordsU u).map V.str) 0 = some (V.str (kindU u)):=by rw [wordsV]; exact atI_nat (j:=0) rfl
theorem many_days (u:PcU):((daysU u).length:Int) = if u.wh = true then 1 else 2:=by unfold daysU; split <;> rfl
theorem rows_of_ch {H:Hp} {L:List V} {rows:List (Nat × Nat)} (h:ChAt H L (rows.map rowC)):RowsAt H L rows :=
  ⟨by rw [h.len,List.length_map],fun i v e=>by
    obtain ⟨t,r,h1,h2,h3⟩:=h.get i v e
    rw [List.getElem?_map] at h2
    obtain ⟨r0,h4,rfl⟩:=Option.map_eq_some_iff.mp h2
    exact ⟨t,r0,h1,h4,h3⟩⟩
def sp_lineof (CW CG:Addr):Sp:=fun vs H Q _=>∃ (p:Addr) (u:PcU),vs = [.ref p] /\ PAt CW CG H p u.wh u.b u.d u.rows u.c /\ LinOk u /\ ∀ H',Same H H'->Q (.str (lineU u)) H'
def sp_pieceof (CW CG:Addr):Sp:=fun vs H Q _=>∃ u:PcU,vs = [.str (lineU u)] /\ LinOk u /\ ∀ p H',PAt CW CG H' p u.wh u.b u.d u.rows u.c->Same H H'->Q (.ref p) H'
def sp_bywords (CW CG:Addr):Sp:=fun vs H Q _=>∃ (u:PcU) (l:Addr) (many:Int),vs = [.ref l,.int many] /\ H l = some (.lst ((wordsU u).map V.str)) /\ many = (if u.wh = true then 1 else 2) /\ LinOk u /\ ∀ p H',PAt CW CG H' p u.wh u.b u.d u.rows u.c->Same H H'->Q (.ref p) H'
def sp_byword:Sp:=fun vs H Q _=>∃ c:Int,vs = [.str (ckT c)] /\ 0 ≤ c /\ c < 10 ^ 20 /\ ∀ H',Same H H'->Q (.int c) H'
def sp_within (CW CG:Addr):Sp:=fun vs H Q _=>∃ (p:Addr) (u:PcU),vs = [.ref p] /\ PAt CW CG H p u.wh u.b u.d u.rows u.c /\ LinOk u /\ ∀ H',Same H H'->Q (.bl true) H'
structure ChsL (H:Hp) (cl:Addr) (wd:Nat) (chss:List (List (Int × Int))):Prop where
  ex:∃ RL:List Addr,H cl = some (.lst (RL.map V.ref)) /\ RowsC H RL chss
  ok:∀ cs ∈ chss,ChOk wd cs
  w:0 < wd /\ wd ≤ 40
  n:chss.length ≤ 61
def sp_tables17:Sp:=fun vs H Q _=>∃ (cl:Addr) (wd:Nat) (chss:List (List (Int × Int))),vs = [.int (wd:Int),.ref cl] /\ ChsL H cl wd chss /\ ∀ tl LT H',H' tl = some (.lst (LT.map V.ref))->Rows H' LT (tabsOf wd chss)->H tl = none->(∀ b ∈ LT,H b = none)->Same H H'->Q (.ref tl) H'
theorem setI_get (tab:List Int) {k:Nat}:∀ (rows:List (Nat × Nat)) (t:List Int),(∀ r ∈ rows,(r.2:Int) = tab.getD r.1 0)->(∀ r ∈ rows,r.1 < t.length)->(setI t rows).getD k 0 = if k ∈ rows.map Prod.fst then tab.getD k 0 else t.getD k 0
  | [],t,_,_=>by simp [setI]
  | r :: rs,t,h1,h2=>by
    show (setI (t.set r.1 (r.2:Int)) rs).getD k 0 = _
    rw [setI_get tab rs _ (fun x hx=>h1 x (by simp [hx])) (fun x hx=>by rw [List.length_set]; exact h2 x (by simp [hx]))]
    by_cases hk:k ∈ rs.map Prod.fst
    · rw [if_pos hk,if_pos (by rw [List.map_cons]; exact List.mem_cons_of_mem _ hk)]
    · rw [if_neg hk]
      by_cases e:k = r.1
      · rw [if_pos (by rw [List.map_cons,e]; exact List.mem_cons_self),List.getD_eq_getElem?_getD,e,List.getElem?_set_self (h2 r (by simp)),← h1 r (by simp)]; rfl
      · rw [if_neg (by rw [List.map_cons]; intro z; rcases List.mem_cons.mp z with z | z; exact e z; exact hk z),List.getD_eq_getElem?_getD,List.getElem?_set_ne (Ne.symm e),List.getD_eq_getElem?_getD]
theorem ext_getD {a b:List Int} (hl:a.length = b.length) (h:∀ k,k < a.length->a.getD k 0 = b.getD k 0):a = b:=by
  apply List.ext_getElem?
  intro i
  by_cases hi:i < a.length
  · have:=h i hi
    rw [List.getD_eq_getElem?_getD,List.getD_eq_getElem?_getD,List.getElem?_eq_getElem hi,List.getElem?_eq_getElem (by omega)] at this
    rw [List.getElem?_eq_getElem hi,List.getElem?_eq_getElem (by omega)]
    exact congrArg some this
  · rw [List.getElem?_eq_none (by omega),List.getElem?_eq_none (by omega)]
theorem tabsGo_pre:∀ (chss:List (List (Int × Int))) (ts:List (List Int)) (i:Nat),i < ts.length->(tabsGo ts chss)[i]? = ts[i]?
  | [],ts,i,_=>rfl
  | c :: r,ts,i,h=>by
    show (tabsGo (ts ++ [nextT (lastT ts) c]) r)[i]? = _
    rw [tabsGo_pre r _ i (by simp; omega),List.getElem?_append_left h]
theorem tabsGo_step:∀ (chss:List (List (Int × Int))) (ts:List (List Int)) (i:Nat) {c:List (Int × Int)} {t:List Int},ts ≠ []->chss[i]? = some c->(tabsGo ts chss)[ts.length - 1 + i]? = some t->(tabsGo ts chss)[ts.length + i]? = some (nextT t c)
  | [],ts,i,c,t,_,h,_=>by simp at h
  | c0 :: r,ts,0,c,t,h0,h,ht=>by
    have hp:=List.length_pos_iff.mpr h0
    have hc:c0 = c:=by simpa using h
    subst hc
    rw [tabsGo_pre _ ts _ (by omega)] at ht
    have hl:lastT ts = t:=last_of (by simpa using ht)
    show (tabsGo (ts ++ [nextT (lastT ts) c0]) r)[ts.length + 0]? = _
    rw [tabsGo_pre r _ _ (by simp),hl]
    simp
  | c0 :: r,ts,i + 1,c,t,h0,h,ht=>by
    have hp:=List.length_pos_iff.mpr h0
    have ht:(tabsGo (ts ++ [nextT (lastT ts) c0]) r)[ts.length - 1 + (i + 1)]? = some t:=ht
    show (tabsGo (ts ++ [nextT (lastT ts) c0]) r)[ts.length + (i + 1)]? = _
    have:=tabsGo_step r (ts ++ [nextT (lastT ts) c0]) i (c:=c) (t:=t) (by simp) (by simpa using h) (by rw [show (ts ++ [nextT (lastT ts) c0]).length - 1 + i = ts.length - 1 + (i + 1) by simp; omega]; exact ht)
    rw [show (ts ++ [nextT (lastT ts) c0]).length + i = ts.length + (i + 1) by simp; omega] at this
    exact this
theorem tabs_step {wd:Nat} {chss:List (List (Int × Int))} {i:Nat} {c:List (Int × Int)} {t:List Int} (h:chss[i]? = some c) (ht:(tabsOf wd chss)[i]? = some t):(tabsOf wd chss)[i + 1]? = some (nextT t c):=by
  have:=tabsGo_step chss [List.replicate wd 0] i (c:=c) (t:=t) (by simp) h (by rw [show [List.replicate wd (0:Int)].length - 1 + i = i by simp]; exact ht)
  rw [show [List.replicate wd (0:Int)].length + i = i + 1 by simp; omega] at this
  exact this
theorem next_other {k:Nat}:∀ {cs:List (Int × Int)} {t:List Int},(∀ c ∈ cs,c.1.toNat ≠ k)->(nextT t cs).getD k 0 = t.getD k 0
  | [],t,_=>rfl
  | c :: r,t,h=>by
    show (nextT (t.set c.1.toNat c.2) r).getD k 0 = _
    rw [next_other fun x hx=>h x (by simp [hx])]
    rw [List.getD_eq_getElem?_getD,List.getD_eq_getElem?_getD,List.getElem?_set_ne (h c (by simp))]
theorem tab_stays {wd:Nat} {chss:List (List (Int × Int))} (hok:∀ cs ∈ chss,ChOk wd cs) {d1:Nat} {k:Nat}:∀ {n:Nat} {t1 t2:List Int},(tabsOf wd chss)[d1]? = some t1->(tabsOf wd chss)[d1 + n]? = some t2->¬ inDays (setsOf chss) d1 (d1 + n:Nat) k->t2.getD k 0 = t1.getD k 0
  | 0,t1,t2,h1,h2,_=>by rw [Nat.add_zero,h1] at h2; cases h2; rfl
  | n + 1,t1,t2,h1,h2,hno=>by
    have hl:=(List.getElem?_eq_some_iff.mp h2).1
    rw [tabs_len] at hl
    obtain ⟨t,ht⟩:∃ t,(tabsOf wd chss)[d1 + n]? = some t:=⟨_,List.getElem?_eq_getElem (by rw [tabs_len]; omega)⟩
    obtain ⟨c,hc⟩:∃ c,chss[d1 + n]? = some c:=⟨_,List.getElem?_eq_getElem (by omega)⟩
    have h3:=tabs_step hc ht
    rw [show d1 + n + 1 = d1 + (n + 1) by omega,h2] at h3
    cases h3
    have hset:(setsOf chss)[d1 + (n + 1)]? = some (c.map Prod.fst):=by unfold setsOf; rw [show d1 + (n + 1) = d1 + n + 1 by omega,List.getElem?_cons_succ,List.getElem?_map,hc]; rfl
    rw [next_other fun x hx e=>?_]
    · exact tab_stays hok h1 ht fun ⟨d,xs,a,b,e,h⟩=>hno ⟨d,xs,a,by omega,e,h⟩
    · have hb:=(hok c (List.mem_of_getElem? hc)).2 x hx
      exact hno ⟨d1 + (n + 1),_,by omega,by omega,hset,List.mem_map.mpr ⟨x,hx,by omega⟩⟩
theorem flat_lt:∀ {rows:List (Nat × Nat)},(∀ r ∈ rows,r.1 < 2 ^ 64 /\ r.2 < 2 ^ 64)->∀ n ∈ flat rows,n < 2 ^ 64
  | [],_,n,hn=>by simp [flat] at hn
  | r :: rs,h,n,hn=>by
    have h1:=h r (by simp)
    have h2:=flat_lt (rows:=rs) fun x hx=>h x (List.mem_cons_of_mem _ hx)
    have:n = r.1 ∨ n = r.2 ∨ n ∈ flat rs:=by simpa [flat] using hn
    rcases this with rfl | rfl | h3
    · exact h1.1
    · exact h1.2
    · exact h2 n h3
theorem ck_lt {wh:Bool} {b d:Nat} {rows:List (Nat × Nat)} (hb:b < 1000000000) (hd:d ≤ 1000000000) (hr:∀ r ∈ rows,r.1 < 2 ^ 64 /\ r.2 < 2 ^ 64):ckOf wh b d rows < 2 ^ 64:=by
  unfold ckOf Chk.chk
  refine Chk.fold_lt (by decide) fun n hn=>?_
  rcases List.mem_cons.mp hn with rfl | hn
  · cases wh
    · show b + 1 < _; omega
    · show 0 < _; omega
  · rcases List.mem_cons.mp hn with rfl | hn
    · omega
    · exact flat_lt hr n hn
def Tab64 (t:List Int):Prop:=∀ v ∈ t,v < 2 ^ 64
theorem next_64:∀ {chs:List (Int × Int)} {t:List Int},Tab64 t->(∀ c ∈ chs,c.2 < 2 ^ 64)->Tab64 (nextT t chs)
  | [],t,h,_=>h
  | c :: r,t,h,hc=>by
    show Tab64 (nextT (t.set c.1.toNat c.2) r)
    refine next_64 (fun v hv=>?_) fun x hx=>hc x (by simp [hx])
    rcases List.mem_or_eq_of_mem_set hv with z | z
    · exact h v z
    · rw [z]; exact hc c (by simp)
theorem last_64 {ts:List (List Int)} (h:∀ t ∈ ts,Tab64 t) (h0:ts ≠ []):Tab64 (lastT ts):=by
  have hl:ts.length - 1 < ts.length:=by have:=List.length_pos_iff.mpr h0; omega
  rw [last_of (List.getElem?_eq_getElem hl)]
  exact h _ (List.getElem_mem hl)
theorem tabsGo_64 {wd:Nat}:∀ {chss:List (List (Int × Int))} {ts:List (List Int)},(∀ cs ∈ chss,ChOk wd cs)->(∀ t ∈ ts,Tab64 t)->ts ≠ []->∀ t ∈ tabsGo ts chss,Tab64 t
  | [],ts,_,h,_=>h
  | c :: r,ts,hc,h,h0=>by
    show ∀ t ∈ tabsGo (ts ++ [nextT (lastT ts) c]) r,Tab64 t
    refine tabsGo_64 (fun cs hcs=>hc cs (by simp [hcs])) (fun t ht=>?_) (by simp)
    rcases List.mem_append.mp ht with z | z
    · exact h t z
    · rw [List.mem_singleton.mp z]
      exact next_64 (last_64 h h0) fun x hx=>((hc c (by simp)).2 x hx).2.2.2
theorem tabs_64 {wd:Nat} {chss:List (List (Int × Int))} (h:∀ cs ∈ chss,ChOk wd cs):∀ t ∈ tabsOf wd chss,Tab64 t:=tabsGo_64 h (fun t ht=>by
  rw [List.mem_singleton.mp ht]
  intro v hv
  rw [(List.mem_replicate.mp hv).2]; decide) (by simp)
theorem wrows_mem {tab:List Int} {r:Nat × Nat} (h:r ∈ wrows tab):∃ v,tab[r.1]? = some v /\ r.2 = v.toNat:=by
  unfold wrows at h
  obtain ⟨q,hq,rfl⟩:=List.mem_map.mp h
  have:=List.mem_zipIdx_iff_getElem?.mp hq
  exact ⟨q.1,this,rfl⟩
theorem wrows_fst (tab:List Int):(wrows tab).map Prod.fst = List.range tab.length:=by
  unfold wrows
  rw [List.map_map,List.range_eq_range',← List.zipIdx_map_snd]
  rfl
theorem lin_whole {wd:Nat} (hw0:0 < wd) (hw:wd ≤ 40) {d:Nat} {tab:List Int} (hd:d ≤ 1000) (hT:TabOk wd tab) (h64:Tab64 tab):LinOk ⟨true,0,d,wrows tab,(ckOf true 0 d (wrows tab):Nat)⟩:=by
  have hr:∀ r ∈ wrows tab,r.1 < 40 /\ r.2 < 2 ^ 64:=fun r hr=>by
    obtain ⟨v,h1,h2⟩:=wrows_mem hr
    have hl:=(List.getElem?_eq_some_iff.mp h1).1
    have hv:=h64 v (List.mem_of_getElem? h1)
    have hT1:=hT.1
    exact ⟨by omega,by rw [h2]; omega⟩
  have hck:=ck_lt (wh:=true) (b:=0) (d:=d) (rows:=wrows tab) (by omega) (by omega) fun r h=>⟨Nat.lt_trans (hr r h).1 (by omega),(hr r h).2⟩
  have hl:=wrows_len tab
  have hT1:=hT.1
  refine ⟨by show d ≤ _; omega,by show 0 ≤ _; omega,hr,by show (wrows tab).length ≤ 40; omega,⟨by show (0:Int) ≤ ((ckOf true 0 d (wrows tab):Nat):Int); omega,by show ((ckOf true 0 d (wrows tab):Nat):Int) < 2 ^ 64; omega⟩,fun _=>⟨rfl,by show 0 < (wrows tab).length; omega,by show (wrows tab).map Prod.fst = List.range (wrows tab).length; rw [hl]; exact wrows_fst tab⟩,fun h=>by cases h⟩
theorem lin_gain {wd:Nat} (hw:wd ≤ 40) {b d:Nat} {tab ns:List Int} (hbd:b < d) (hd:d ≤ 1000) (hT:TabOk wd tab) (h64:Tab64 tab) (hp:ns.Pairwise (· < ·)) (hin:∀ k ∈ ns,0 ≤ k /\ k < (wd:Int)):LinOk ⟨false,b,d,growsI ns tab,(ckOf false b d (growsI ns tab):Nat)⟩:=by
  have hT1:=hT.1
  have hr:∀ r ∈ growsI ns tab,r.1 < 40 /\ r.2 < 2 ^ 64:=fun r hr=>by
    unfold growsI at hr
    obtain ⟨k,hk,rfl⟩:=List.mem_map.mp hr
    have hk2:=hin k hk
    have hkt:k.toNat < tab.length:=by omega
    have hv:=h64 _ (List.getElem_mem hkt)
    refine ⟨by show k.toNat < 40; omega,?_⟩
    show (tab.getD k.toNat 0).toNat < 2 ^ 64
    rw [List.getD_eq_getElem?_getD,List.getElem?_eq_getElem hkt]
    show (tab[k.toNat]).toNat < _
    omega
  have hck:=ck_lt (wh:=false) (b:=b) (d:=d) (rows:=growsI ns tab) (by omega) (by omega) fun r h=>⟨Nat.lt_trans (hr r h).1 (by omega),(hr r h).2⟩
  have hl:=grows_len (ns:=ns) (tab:=tab)
  have hf:=rise_few hp hin
  refine ⟨by show d ≤ _; omega,by show b ≤ _; omega,hr,by show (growsI ns tab).length ≤ 40; omega,⟨by show (0:Int) ≤ ((ckOf false b d (growsI ns tab):Nat):Int); omega,by show ((ckOf false b d (growsI ns tab):Nat):Int) < 2 ^ 64; omega⟩,(fun h=>by cases h),fun _=>⟨hbd,?_⟩⟩
  show ((growsI ns tab).map Prod.fst).Pairwise (· < ·)
  unfold growsI
  rw [List.map_map,List.pairwise_map]
  refine List.Pairwise.imp_of_mem (fun {x y} hx hy h=>?_) hp
  have h1:=hin x hx
  have h2:=hin y hy
  show x.toNat < y.toNat
  omega
theorem lay_whole {wd:Nat} {tab:List Int} (hT:TabOk wd tab):(wrows tab).map (fun r=>(r.2:Int)) = tab:=by
  apply List.ext_getElem?
  intro i
  by_cases hi:i < tab.length
  · rw [List.getElem?_map,wrows_at (List.getElem?_eq_getElem hi),List.getElem?_eq_getElem hi]
    show some ((tab[i].toNat:Nat):Int) = _
    rw [Int.toNat_of_nonneg (hT.2 _ (List.getElem_mem hi))]
  · rw [List.getElem?_eq_none (by rw [List.length_map,wrows_len]; omega),List.getElem?_eq_none (by omega)]
theorem grows_in {wd:Nat} {ns tab:List Int} (hin:∀ k ∈ ns,0 ≤ k /\ k < (wd:Int)):∀ r ∈ growsI ns tab,r.1 < wd:=fun r hr=>by
  unfold growsI at hr
  obtain ⟨k,hk,rfl⟩:=List.mem_map.mp hr
  have:=hin k hk
  show k.toNat < wd
  omega
theorem lay_gain {wd:Nat} {chss:List (List (Int × Int))} (hok:∀ cs ∈ chss,ChOk wd cs) {b d:Nat} {t tab ns:List Int} (hbd:b < d) (ht:(tabsOf wd chss)[b]? = some t) (h:(tabsOf wd chss)[d]? = some tab) (hin:∀ k ∈ ns,0 ≤ k /\ k < (wd:Int)) (hm:∀ k,k ∈ ns ↔ inDays (setsOf chss) b d k):setI t (growsI ns tab) = tab:=by
  have hT:=tabs_ok hok tab (List.mem_of_getElem? h)
  have hr1:=grows_in (tab:=tab) hin
  have hr2:∀ r ∈ growsI ns tab,(r.2:Int) = tab.getD r.1 0:=fun r hr=>by
    unfold growsI at hr
    obtain ⟨k,hk,rfl⟩:=List.mem_map.mp hr
    have:=hin k hk
    have hkt:k.toNat < tab.length:=by rw [hT.1]; omega
    show ((tab.getD k.toNat 0).toNat:Int) = tab.getD k.toNat 0
    rw [Int.toNat_of_nonneg]
    rw [List.getD_eq_getElem?_getD,List.getElem?_eq_getElem hkt]
    exact hT.2 _ (List.getElem_mem hkt)
  have hT2:=tabs_ok hok t (List.mem_of_getElem? ht)
  refine ext_getD (by rw [setI_len,hT2.1,hT.1]) fun k hk=>?_
  rw [setI_len,hT2.1] at hk
  rw [setI_get tab _ t hr2 (fun r hr=>by rw [hT2.1]; exact hr1 r hr)]
  by_cases hk2:k ∈ (growsI ns tab).map Prod.fst
  · rw [if_pos hk2]
  · rw [if_neg hk2]
    have h2:(tabsOf wd chss)[b + (d - b)]? = some tab:=by rw [show b + (d - b) = d by omega]; exact h
    refine (tab_stays hok ht h2 fun hno=>hk2 ?_).symm
    rw [show ((b + (d - b):Nat):Int) = (d:Int) by omega] at hno
    have:=(hm k).mpr hno
    unfold growsI
    rw [List.map_map,List.mem_map]
    exact ⟨(k:Int),this,by simp⟩
def sp_same19:Sp:=fun vs H Q _=>∃ (f e:Addr) (t:List Int),vs = [.ref f,.ref e] /\ H f = some (.lst (t.map V.int)) /\ H e = some (.lst (t.map V.int)) /\ t.length ≤ 40 /\ ∀ H',Same H H'->Q (.bl true) H'
def sp_law (K:PySem.W.Frag):Sp:=fun vs H Q _=>∃ (a:Addr) (ns:List Int),vs = [.ref a] /\ SqL K H a (ns.map V.int) /\ ns.length ≤ 63 /\ ∀ H',Q (.bl true) H'
structure Txt (K:PySem.W.Frag) (mg:Str->Option Value) (t_W:Tok) (t_MOST_BLOCKS:Tok) (t_MOST_FIGURES:Tok) (t_MOST_DAY:Tok) (t_FIGURES:Tok) (t_CHECK_FIGURES:Tok) (C_KeepError:Addr) (C_NoWord:Addr) (C_NoTable:Addr) (C_NoPlace:Addr) (C_NoBlock:Addr) (C_NoDay:Addr) (C_NoBase:Addr) (C_NoLine:Addr) (C_Piece:Addr) (C_Whole:Addr) (C_Gain:Addr) (C_Days:Addr) (C_DAYS_TOLD:Addr):Prop where
  m_W:mg "W" = some (.int 18446744073709551615 t_W)
  m_MOST_BLOCKS:mg "MOST_BLOCKS" = some (.int 40 t_MOST_BLOCKS)
  m_MOST_FIGURES:mg "MOST_FIGURES" = some (.int 20 t_MOST_FIGURES)
  m_MOST_DAY:mg "MOST_DAY" = some (.int 1000000000 t_MOST_DAY)
  m_FIGURES:mg "FIGURES" = some (.str (PySem.Str.ofString "0123456789") t_FIGURES)
  m_CHECK_FIGURES:mg "CHECK_FIGURES" = some (.int 20 t_CHECK_FIGURES)
  mg_KeepError:mg "KeepError" = some (.ref C_KeepError)
  x_KeepError:XCls K C_KeepError
  mg_NoWord:mg "NoWord" = some (.ref C_NoWord)
  x_NoWord:XCls K C_NoWord
  n_NoWord_word:NoAttr K C_NoWord "word"
  mg_NoTable:mg "NoTable" = some (.ref C_NoTable)
  x_NoTable:XCls K C_NoTable
  n_NoTable_wide:NoAttr K C_NoTable "wide"
  mg_NoPlace:mg "NoPlace" = some (.ref C_NoPlace)
  x_NoPlace:XCls K C_NoPlace
  n_NoPlace_place:NoAttr K C_NoPlace "place"
  mg_NoBlock:mg "NoBlock" = some (.ref C_NoBlock)
  x_NoBlock:XCls K C_NoBlock
  n_NoBlock_block:NoAttr K C_NoBlock "block"
  mg_NoDay:mg "NoDay" = some (.ref C_NoDay)
  x_NoDay:XCls K C_NoDay
  n_NoDay_day:NoAttr K C_NoDay "day"
  mg_NoBase:mg "NoBase" = some (.ref C_NoBase)
  x_NoBase:XCls K C_NoBase
  n_NoBase_base:NoAttr K C_NoBase "base"
  n_NoBase_day:NoAttr K C_NoBase "day"
  mg_NoLine:mg "NoLine" = some (.ref C_NoLine)
  x_NoLine:XCls K C_NoLine
  n_NoLine_line:NoAttr K C_NoLine "line"
  mg_Piece:mg "Piece" = some (.ref C_Piece)
  mg_Whole:mg "Whole" = some (.ref C_Whole)
  cl_Whole:Cls K C_Whole
  n_Whole_day:NoAttr K C_Whole "day"
  n_Whole_rows:NoAttr K C_Whole "rows"
  n_Whole_check:NoAttr K C_Whole "check"
  n_Whole_fits:NoAttr K C_Whole "fits"
  mg_Gain:mg "Gain" = some (.ref C_Gain)
  cl_Gain:Cls K C_Gain
  n_Gain_day:NoAttr K C_Gain "day"
  n_Gain_rows:NoAttr K C_Gain "rows"
  n_Gain_check:NoAttr K C_Gain "check"
  n_Gain_fits:NoAttr K C_Gain "fits"
  n_Gain_base:NoAttr K C_Gain "base"
  mg_Days:mg "Days" = some (.ref C_Days)
  cl_Days:Cls K C_Days
  n_Days_wide:NoAttr K C_Days "wide"
  n_Days_last:NoAttr K C_Days "last"
  n_Days_tables:NoAttr K C_Days "tables"
  n_Days_set_places:NoAttr K C_Days "set_places"
  mg_DAYS_TOLD:mg "DAYS_TOLD" = some (.ref C_DAYS_TOLD)
  b_len:mg "len" = none
  b_isinstance:mg "isinstance" = none
  b_int:mg "int" = none
  b_bool:mg "bool" = none
  b_str:mg "str" = none
  b_list:mg "list" = none
  b_tuple:mg "tuple" = none
  b_range:mg "range" = none
  b_min:mg "min" = none
  b_max:mg "max" = none
  b_sorted:mg "sorted" = none
  b_set:mg "set" = none
  b_zip:mg "zip" = none
  b_all:mg "all" = none
  b_enumerate:mg "enumerate" = none
section
variable {P:Program} {w:World} {K:PySem.W.Frag} {mg:Str->Option Value} {base:Heap} {t_W:Tok} {t_MOST_BLOCKS:Tok} {t_MOST_FIGURES:Tok} {t_MOST_DAY:Tok} {t_FIGURES:Tok} {t_CHECK_FIGURES:Tok} {C_KeepError:Addr} {C_NoWord:Addr} {C_NoTable:Addr} {C_NoPlace:Addr} {C_NoBlock:Addr} {C_NoDay:Addr} {C_NoBase:Addr} {C_NoLine:Addr} {C_Piece:Addr} {C_Whole:Addr} {C_Gain:Addr} {C_Days:Addr} {C_DAYS_TOLD:Addr}
theorem ok_NoTable___init__ {f:Addr} {fd:FuncData} (F:Fun K "__init__" "NoTable.__init__" s_NoTable___init__ f fd) (T:Txt K mg t_W t_MOST_BLOCKS t_MOST_FIGURES t_MOST_DAY t_FIGURES t_CHECK_FIGURES C_KeepError C_NoWord C_NoTable C_NoPlace C_NoBlock C_NoDay C_NoBase C_NoLine C_Piece C_Whole C_Gain C_Days C_DAYS_TOLD):FnOk P w K mg base (CXx P w) 1 f fd ["self","wide"] (sp_x1 C_NoTable "wide"):=by
  refine F.okX sc_NoTable___init__ (fun vs H Q E h=>?_) (fun cdv A outer s H vs Q E hr h=>?_)
  · obtain ⟨p,y0,rfl,hp,q⟩:=h; rfl
  · obtain ⟨p,y0,rfl,hp,q⟩:=h
    refine ⟨_,(pss_one (ps_xfld1 (pv 0) (pv 1) rfl)),?_⟩
    exact ⟨_,rfl,_,rfl,p,C_NoTable,true,rfl,hp,T.x_NoTable,T.n_NoTable_wide,fun dx hdx=>q dx hdx⟩
theorem ok_NoPlace___init__ {f:Addr} {fd:FuncData} (F:Fun K "__init__" "NoPlace.__init__" s_NoPlace___init__ f fd) (T:Txt K mg t_W t_MOST_BLOCKS t_MOST_FIGURES t_MOST_DAY t_FIGURES t_CHECK_FIGURES C_KeepError C_NoWord C_NoTable C_NoPlace C_NoBlock C_NoDay C_NoBase C_NoLine C_Piece C_Whole C_Gain C_Days C_DAYS_TOLD):FnOk P w K mg base (CXx P w) 1 f fd ["self","place"] (sp_x1 C_NoPlace "place"):=by
  refine F.okX sc_NoPlace___init__ (fun vs H Q E h=>?_) (fun cdv A outer s H vs Q E hr h=>?_)
  · obtain ⟨p,y0,rfl,hp,q⟩:=h; rfl
  · obtain ⟨p,y0,rfl,hp,q⟩:=h
    refine ⟨_,(pss_one (ps_xfld1 (pv 0) (pv 1) rfl)),?_⟩
    exact ⟨_,rfl,_,rfl,p,C_NoPlace,true,rfl,hp,T.x_NoPlace,T.n_NoPlace_place,fun dx hdx=>q dx hdx⟩
theorem ok_NoBlock___init__ {f:Addr} {fd:FuncData} (F:Fun K "__init__" "NoBlock.__init__" s_NoBlock___init__ f fd) (T:Txt K mg t_W t_MOST_BLOCKS t_MOST_FIGURES t_MOST_DAY t_FIGURES t_CHECK_FIGURES C_KeepError C_NoWord C_NoTable C_NoPlace C_NoBlock C_NoDay C_NoBase C_NoLine C_Piece C_Whole C_Gain C_Days C_DAYS_TOLD):FnOk P w K mg base (CXx P w) 1 f fd ["self","block"] (sp_x1 C_NoBlock "block"):=by
  refine F.okX sc_NoBlock___init__ (fun vs H Q E h=>?_) (fun cdv A outer s H vs Q E hr h=>?_)
  · obtain ⟨p,y0,rfl,hp,q⟩:=h; rfl
  · obtain ⟨p,y0,rfl,hp,q⟩:=h
    refine ⟨_,(pss_one (ps_xfld1 (pv 0) (pv 1) rfl)),?_⟩
    exact ⟨_,rfl,_,rfl,p,C_NoBlock,true,rfl,hp,T.x_NoBlock,T.n_NoBlock_block,fun dx hdx=>q dx hdx⟩
theorem ok_NoDay___init__ {f:Addr} {fd:FuncData} (F:Fun K "__init__" "NoDay.__init__" s_NoDay___init__ f fd) (T:Txt K mg t_W t_MOST_BLOCKS t_MOST_FIGURES t_MOST_DAY t_FIGURES t_CHECK_FIGURES C_KeepError C_NoWord C_NoTable C_NoPlace C_NoBlock C_NoDay C_NoBase C_NoLine C_Piece C_Whole C_Gain C_Days C_DAYS_TOLD):FnOk P w K mg base (CXx P w) 1 f fd ["self","day"] (sp_x1 C_NoDay "day"):=by
  refine F.okX sc_NoDay___init__ (fun vs H Q E h=>?_) (fun cdv A outer s H vs Q E hr h=>?_)
  · obtain ⟨p,y0,rfl,hp,q⟩:=h; rfl
  · obtain ⟨p,y0,rfl,hp,q⟩:=h
    refine ⟨_,(pss_one (ps_xfld1 (pv 0) (pv 1) rfl)),?_⟩
    exact ⟨_,rfl,_,rfl,p,C_NoDay,true,rfl,hp,T.x_NoDay,T.n_NoDay_day,fun dx hdx=>q dx hdx⟩
theorem ok_NoBase___init__ {f:Addr} {fd:FuncData} (F:Fun K "__init__" "NoBase.__init__" s_NoBase___init__ f fd) (T:Txt K mg t_W t_MOST_BLOCKS t_MOST_FIGURES t_MOST_DAY t_FIGURES t_CHECK_FIGURES C_KeepError C_NoWord C_NoTable C_NoPlace C_NoBlock C_NoDay C_NoBase C_NoLine C_Piece C_Whole C_Gain C_Days C_DAYS_TOLD):FnOk P w K mg base (CXx P w) 1 f fd ["self","base","day"] (sp_x2 C_NoBase "base" "day"):=by
  refine F.okX sc_NoBase___init__ (fun vs H Q E h=>?_) (fun cdv A outer s H vs Q E hr h=>?_)
  · obtain ⟨p,y0,y1,rfl,hp,q⟩:=h; rfl
  · obtain ⟨p,y0,y1,rfl,hp,q⟩:=h
    refine ⟨_,(pss_cons (ps_xfld1 (pv 0) (pv 1) rfl)
      (pss_one (ps_xfld2 (pv 0) (pv 2) rfl))),?_⟩
    refine ⟨_,rfl,_,rfl,p,C_NoBase,true,rfl,hp,T.x_NoBase,T.n_NoBase_base,fun dx hdx=>?_⟩
    refine ⟨_,rfl,_,rfl,p,C_NoBase,true,dx,_,rfl,upd_same,by rw [upd_ne (ne_of_none hp hdx).symm,upd_same],T.x_NoBase,T.n_NoBase_day,(by show 1 < 1000; decide),?_⟩
    exact x2_swap (ne_of_none hp hdx) (by decide +kernel) (q dx hdx)
theorem ok_NoWord___init__ {f:Addr} {fd:FuncData} (F:Fun K "__init__" "NoWord.__init__" s_NoWord___init__ f fd) (T:Txt K mg t_W t_MOST_BLOCKS t_MOST_FIGURES t_MOST_DAY t_FIGURES t_CHECK_FIGURES C_KeepError C_NoWord C_NoTable C_NoPlace C_NoBlock C_NoDay C_NoBase C_NoLine C_Piece C_Whole C_Gain C_Days C_DAYS_TOLD):FnOk P w K mg base (CXx P w) 1 f fd ["self","word"] (sp_x1 C_NoWord "word"):=by
  refine F.okX sc_NoWord___init__ (fun vs H Q E h=>?_) (fun cdv A outer s H vs Q E hr h=>?_)
  · obtain ⟨p,y0,rfl,hp,q⟩:=h; rfl
  · obtain ⟨p,y0,rfl,hp,q⟩:=h
    refine ⟨_,(pss_one (ps_xfld1 (pv 0) (pv 1) rfl)),?_⟩
    exact ⟨_,rfl,_,rfl,p,C_NoWord,true,rfl,hp,T.x_NoWord,T.n_NoWord_word,fun dx hdx=>q dx hdx⟩
theorem ok_NoLine___init__ {f:Addr} {fd:FuncData} (F:Fun K "__init__" "NoLine.__init__" s_NoLine___init__ f fd) (T:Txt K mg t_W t_MOST_BLOCKS t_MOST_FIGURES t_MOST_DAY t_FIGURES t_CHECK_FIGURES C_KeepError C_NoWord C_NoTable C_NoPlace C_NoBlock C_NoDay C_NoBase C_NoLine C_Piece C_Whole C_Gain C_Days C_DAYS_TOLD):FnOk P w K mg base (CXx P w) 1 f fd ["self","line"] (sp_x1 C_NoLine "line"):=by
  refine F.okX sc_NoLine___init__ (fun vs H Q E h=>?_) (fun cdv A outer s H vs Q E hr h=>?_)
  · obtain ⟨p,y0,rfl,hp,q⟩:=h; rfl
  · obtain ⟨p,y0,rfl,hp,q⟩:=h
    refine ⟨_,(pss_one (ps_xfld1 (pv 0) (pv 1) rfl)),?_⟩
    exact ⟨_,rfl,_,rfl,p,C_NoLine,true,rfl,hp,T.x_NoLine,T.n_NoLine_line,fun dx hdx=>q dx hdx⟩
theorem ok_turned {f:Addr} {fd:FuncData} (F:Fun K "turned" "turned" s_turned f fd) (T:Txt K mg t_W t_MOST_BLOCKS t_MOST_FIGURES t_MOST_DAY t_FIGURES t_CHECK_FIGURES C_KeepError C_NoWord C_NoTable C_NoPlace C_NoBlock C_NoDay C_NoBase C_NoLine C_Piece C_Whole C_Gain C_Days C_DAYS_TOLD) :FnOk P w K mg base (CXx P w) 1 f fd ["number"] (sp_turned):=by
  refine F.okX sc_turned (fun vs H Q E h=>?_) (fun cdv A outer s H vs Q E hr h=>?_)
  · obtain ⟨n,rfl,q⟩:=h; rfl
  obtain ⟨n,rfl,q⟩:=h
  refine ⟨_,(pss_one (ps_ret (pe_op op_add (pe_op op_mod (pe_op op_mul (pv 0) pe_int) (pe_op op_add (pe_glob (v:=.int 18446744073709551615) rfl T.m_W ⟨_,rfl⟩) pe_int)) (pe_op op_fdivB (pv 0) (pe_powc (n:=144115188075855872)))))),?_⟩
  refine ⟨_,rfl,_,_,rfl,rfl,.inr ⟨by first | decide | (dsimp only; decide),by first | decide | (dsimp only; decide)⟩,_,_,rfl,rfl,_,_,rfl,rfl,(by first | decide | (dsimp only; decide)),_,rfl,_,_,rfl,rfl,⟨by first | decide | (dsimp only; decide),by first | decide | (dsimp only; decide)⟩,_,_,rfl,rfl,?_⟩
  exact q
theorem ok_check_of {f:Addr} {fd:FuncData} (F:Fun K "check_of" "check_of" s_check_of f fd) (T:Txt K mg t_W t_MOST_BLOCKS t_MOST_FIGURES t_MOST_DAY t_FIGURES t_CHECK_FIGURES C_KeepError C_NoWord C_NoTable C_NoPlace C_NoBlock C_NoDay C_NoBase C_NoLine C_Piece C_Whole C_Gain C_Days C_DAYS_TOLD) (D_turned:DefX P w K mg base "turned" 1 ["number"] sp_turned):FnOk P w K mg base (CXx P w) 2 f fd ["start","day","rows"] (sp_check):=by
  refine F.okX sc_check_of (fun vs H Q E h=>?_) (fun cdv A outer s H vs Q E hr h=>?_)
  · obtain ⟨s1,d,a,L,rows,rfl,hA,R,hlen,q⟩:=h; rfl
  obtain ⟨s1,d,a,L,rows,rfl,hA,R,hlen,q⟩:=h
  refine ⟨_,(pss_cons (ps_set (i:=3) sc_check_of.nd rfl (Or.inl rfl) (pe_lst (pa_cons (pe_op op_add (pv 0) pe_int) (pa_cons (pv 1) pa_nil))))
      (pss_cons (ps_for PassesOwn.leaving rfl (pi_or (pi_list (pv 2)) (pi_tup (pv 2))) (pg_tup rfl (pgs_cons (pg_name (i:=4) sc_check_of.nd rfl (Or.inl rfl)) (pgs_cons (pg_name (i:=5) sc_check_of.nd rfl (Or.inl rfl)) pgs_nil)))
      (pss_one (ps_expr (pe_bm PySem.F.plainAttrs_list PySem.F.slot_list_extend PySem.F.type_list_extend mt_extend (pv 3) (pa_cons (pe_lst (pa_cons (pv 4) (pa_cons (pv 5) pa_nil))) pa_nil)))))
      (pss_cons (ps_set (i:=6) sc_check_of.nd rfl (Or.inl rfl) pe_int)
      (pss_cons (ps_for PassesOwn.leaving rfl (pi_list (pv 3)) (pg_name (i:=7) sc_check_of.nd rfl (Or.inl rfl))
      (pss_one (ps_set (i:=6) sc_check_of.nd rfl (Or.inl rfl) (pe_op op_xor (pe_callS D_turned passesN (hr.mono (by decide)) rfl (pa_cons (pv 6) pa_nil)) (pv 7)))))
      (pss_one (ps_ret (pv 6))))))),?_⟩
  refine ⟨_,rfl,_,_,rfl,rfl,_,rfl,(by show 2 ≤ sizeLine; decide),fun m hm=>?_⟩
  have nam:a ≠ m:=hA.elim (fun h=>ne_of_none h hm) (fun h=>ne_of_none h hm)
  rcases hA with hA | hA
  · refine .inl ⟨_,rfl,a,rfl,⟨_,SqL.of (by rw [upd_ne nam]; exact hA)⟩,for_list (K:=K) (a:=a) (xs:=L) (fun i σ H2=>∃ v4 v5:Option V,σ = [some (.int ((s1:Int) - 1)),some (.int (d:Int)),some (.ref a),some (.ref m),v4,v5,none,none] /\ Same H H2 ∧
      H2 m = some (.lst ((s1 :: d :: flat (rows.take i)).map fun z:Nat=>V.int (z:Int))))
    ⟨none,none,rfl,Same.new hm,by rw [upd_same]; show some (HO.lst [V.int ((s1:Int) - 1 + 1),V.int (d:Int)]) = _; rw [Int.sub_add_cancel]; rfl⟩ (fun i σ H2 _ ⟨_,_,_,s2,_⟩=>SqL.of (s2 a _ hA)) ?_ ?_⟩
    · rintro i v σ H2 hi ⟨v4,v5,rfl,s2,h2⟩
      obtain ⟨t,r,rfl,hr2,ht⟩:=R.get i v hi
      have hil:i < rows.length:=(List.getElem?_eq_some_iff.mp hr2).1
      refine ⟨t,_,rfl,SqT.of (s2 t _ ht),rfl,_,_,rfl,_,_,rfl,rfl,?_⟩
      refine ⟨_,rfl,.inl ⟨rfl,_,SqL.of h2⟩,_,rfl,_,rfl,(by show 2 ≤ sizeLine; decide),fun l hl=>?_⟩
      have nml:m ≠ l:=ne_of_none h2 hl
      have hml:H l = none:=s2.free hl
      refine ⟨m,l,_,_,rfl,rfl,(by rw [upd_ne nml]; exact h2),upd_same,?_,?_⟩
      · have e1:(flat (rows.take i)).length = 2 * i:=by rw [flat_len,List.length_take]; omega
        show _ ≤ sizeLine
        simp only [List.length_map,List.length_cons,e1,List.length_nil]
        exact Nat.le_of_lt (small1000 (by omega))
      · refine ⟨_,_,rfl,fun b o e=>?_,?_⟩
        · rw [upd_ne (ne_of_none e hm),upd_ne (ne_of_none e hml)]; exact s2 b o e
        · rw [upd_same]
          have e:rows.take (i + 1) = rows.take i ++ [r]:=by rw [List.take_add_one,hr2]; rfl
          rw [e,flat_snoc]; simp
    · rintro σ H2 ⟨v4,v5,rfl,s2,h2⟩
      have h2:H2 m = some (.lst ((s1 :: d :: flat rows).map fun z:Nat=>V.int (z:Int))):=by
        rw [h2,R.len,List.take_length]
      refine ⟨_,rfl,m,rfl,⟨_,SqL.of h2⟩,for_list (K:=K) (a:=m) (xs:=(s1 :: d :: flat rows).map fun z:Nat=>V.int (z:Int)) (fun i σ H3=>∃ v7:Option V,σ = [some (.int ((s1:Int) - 1)),some (.int (d:Int)),some (.ref a),some (.ref m),v4,v5,some (.int ((((s1 :: d :: flat rows).take i).foldl Chk.stp 0:Nat):Int)),v7] /\ H3 = H2)
        ⟨none,rfl,rfl⟩ (fun i σ H3 _ ⟨_,_,e⟩=>by rw [e]; exact SqL.of h2) ?_ ?_⟩
      · rintro i v σ H3 hi ⟨v7,rfl,rfl⟩
        rw [List.getElem?_map] at hi
        cases ez:(s1 :: d :: flat rows)[i]? with
        | none=>rw [ez] at hi; cases hi
        | some z =>
          rw [ez] at hi
          have hi:V.int (z:Int) = v:=Option.some.inj hi
          subst hi
          refine ⟨_,rfl,_,rfl,_,rfl,_,_,rfl,rfl,?_⟩
          have e:Builtin.bitXor (tI ((((s1 :: d :: flat rows).take i).foldl Chk.stp 0:Nat):Int)) (z:Int) = ((((s1 :: d :: flat rows).take (i + 1)).foldl Chk.stp 0:Nat):Int):=by
            rw [tI_nat,xor_nat,List.take_add_one,ez]
            simp only [Option.toList,List.foldl_append,List.foldl_cons,List.foldl_nil]
            rfl
          exact ⟨some (V.int (z:Int)),by rw [← e]; rfl,rfl⟩
      · rintro σ H3 ⟨v7,rfl,rfl⟩
        refine ⟨_,rfl,?_⟩
        rw [List.length_map,List.take_length]
        exact q H3 s2
  · refine .inr ⟨_,rfl,a,rfl,⟨_,SqT.of (by rw [upd_ne nam]; exact hA)⟩,for_tup (K:=K) (a:=a) (xs:=L) (fun i σ H2=>∃ v4 v5:Option V,σ = [some (.int ((s1:Int) - 1)),some (.int (d:Int)),some (.ref a),some (.ref m),v4,v5,none,none] /\ Same H H2 ∧
      H2 m = some (.lst ((s1 :: d :: flat (rows.take i)).map fun z:Nat=>V.int (z:Int))))
    ⟨none,none,rfl,Same.new hm,by rw [upd_same]; show some (HO.lst [V.int ((s1:Int) - 1 + 1),V.int (d:Int)]) = _; rw [Int.sub_add_cancel]; rfl⟩ (fun i σ H2 _ ⟨_,_,_,s2,_⟩=>SqT.of (s2 a _ hA)) ?_ ?_⟩
    · rintro i v σ H2 hi ⟨v4,v5,rfl,s2,h2⟩
      obtain ⟨t,r,rfl,hr2,ht⟩:=R.get i v hi
      have hil:i < rows.length:=(List.getElem?_eq_some_iff.mp hr2).1
      refine ⟨t,_,rfl,SqT.of (s2 t _ ht),rfl,_,_,rfl,_,_,rfl,rfl,?_⟩
      refine ⟨_,rfl,.inl ⟨rfl,_,SqL.of h2⟩,_,rfl,_,rfl,(by show 2 ≤ sizeLine; decide),fun l hl=>?_⟩
      have nml:m ≠ l:=ne_of_none h2 hl
      have hml:H l = none:=s2.free hl
      refine ⟨m,l,_,_,rfl,rfl,(by rw [upd_ne nml]; exact h2),upd_same,?_,?_⟩
      · have e1:(flat (rows.take i)).length = 2 * i:=by rw [flat_len,List.length_take]; omega
        show _ ≤ sizeLine
        simp only [List.length_map,List.length_cons,e1,List.length_nil]
        exact Nat.le_of_lt (small1000 (by omega))
      · refine ⟨_,_,rfl,fun b o e=>?_,?_⟩
        · rw [upd_ne (ne_of_none e hm),upd_ne (ne_of_none e hml)]; exact s2 b o e
        · rw [upd_same]
          have e:rows.take (i + 1) = rows.take i ++ [r]:=by rw [List.take_add_one,hr2]; rfl
          rw [e,flat_snoc]; simp
    · rintro σ H2 ⟨v4,v5,rfl,s2,h2⟩
      have h2:H2 m = some (.lst ((s1 :: d :: flat rows).map fun z:Nat=>V.int (z:Int))):=by
        rw [h2,R.len,List.take_length]
      refine ⟨_,rfl,m,rfl,⟨_,SqL.of h2⟩,for_list (K:=K) (a:=m) (xs:=(s1 :: d :: flat rows).map fun z:Nat=>V.int (z:Int)) (fun i σ H3=>∃ v7:Option V,σ = [some (.int ((s1:Int) - 1)),some (.int (d:Int)),some (.ref a),some (.ref m),v4,v5,some (.int ((((s1 :: d :: flat rows).take i).foldl Chk.stp 0:Nat):Int)),v7] /\ H3 = H2)
        ⟨none,rfl,rfl⟩ (fun i σ H3 _ ⟨_,_,e⟩=>by rw [e]; exact SqL.of h2) ?_ ?_⟩
      · rintro i v σ H3 hi ⟨v7,rfl,rfl⟩
        rw [List.getElem?_map] at hi
        cases ez:(s1 :: d :: flat rows)[i]? with
        | none=>rw [ez] at hi; cases hi
        | some z =>
          rw [ez] at hi
          have hi:V.int (z:Int) = v:=Option.some.inj hi
          subst hi
          refine ⟨_,rfl,_,rfl,_,rfl,_,_,rfl,rfl,?_⟩
          have e:Builtin.bitXor (tI ((((s1 :: d :: flat rows).take i).foldl Chk.stp 0:Nat):Int)) (z:Int) = ((((s1 :: d :: flat rows).take (i + 1)).foldl Chk.stp 0:Nat):Int):=by
            rw [tI_nat,xor_nat,List.take_add_one,ez]
            simp only [Option.toList,List.foldl_append,List.foldl_cons,List.foldl_nil]
            rfl
          exact ⟨some (V.int (z:Int)),by rw [← e]; rfl,rfl⟩
      · rintro σ H3 ⟨v7,rfl,rfl⟩
        refine ⟨_,rfl,?_⟩
        rw [List.length_map,List.take_length]
        exact q H3 s2
theorem ok_Piece___init__ {f:Addr} {fd:FuncData} (F:Fun K "__init__" "Piece.__init__" s_Piece___init__ f fd) (T:Txt K mg t_W t_MOST_BLOCKS t_MOST_FIGURES t_MOST_DAY t_FIGURES t_CHECK_FIGURES C_KeepError C_NoWord C_NoTable C_NoPlace C_NoBlock C_NoDay C_NoBase C_NoLine C_Piece C_Whole C_Gain C_Days C_DAYS_TOLD) (D_check_of:DefX P w K mg base "check_of" 2 ["start","day","rows"] sp_check):FnOk P w K mg base (CXx P w) 3 f fd ["self","start","day","rows","check"] (sp_pinit K):=by
  refine F.okX sc_Piece___init__ (fun vs H Q E h=>?_) (fun cdv A outer s H vs Q E hr h=>?_)
  · obtain ⟨p,C,dx,a,s1,d,L,rows,cv,c,rfl,hp,cl,n1,n2,n3,n4,hA,R,hlen,hcv,q⟩:=h; rfl
  obtain ⟨p,C,dx,a,s1,d,L,rows,cv,c,rfl,hp,cl,n1,n2,n3,n4,hA,R,hlen,hcv,q⟩:=h
  refine ⟨_,(pss_cons (ps_fld (pv 0) (pv 2) rfl)
      (pss_cons (ps_fld (pv 0) (pe_callTy call_tuple_of (by rfl) T.b_tuple PyProof.Rows.boot_tuple (pa_cons (pe_comp (N:=["place","block"]) (k:=2) (cap:=[]) rfl rfl (pi_or (pi_list (pv 3)) (pi_tup (pv 3))) (fun _ _ _ _=>(pg_tupK (K:=K) (n:=2) rfl rfl (pgs_cons (pg_name (i:=0) (show (["place","block"]:List Str).Nodup from by decide +kernel) rfl (Or.inl rfl) (.inr rfl)) (pgs_cons (pg_name (i:=1) (show (["place","block"]:List Str).Nodup from by decide +kernel) rfl (Or.inl rfl) (.inr rfl)) pgs_nil)))) (fun _ _ _ _=>pts_nil) (fun _ _ _ _=>(pe_tup (pa_cons (pv 0) (pa_cons (pv 1) pa_nil))))) pa_nil)) rfl)
      (pss_cons (ps_set (i:=5) sc_Piece___init__.nd rfl (Or.inl rfl) (pe_callS D_check_of passesN (hr.mono (by decide)) rfl (pa_cons (pv 1) (pa_cons (pv 2) (pa_cons (pe_fld (pv 0) rfl) pa_nil)))))
      (pss_cons (ps_fld (pv 0) (pe_ifExp (pt_cmpR op_isN (pv 4) pe_non (nomark _)) (pv 5) (pv 4)) rfl)
      (pss_one (ps_fld (pv 0) (pe_cmpR op_eq (pe_fld (pv 0) rfl) (pv 5) (nomark _)) rfl)))))),?_⟩
  have npa:a ≠ p:=by rcases hA with h | h <;> exact ne_of h hp (by intro z; cases z)
  refine ⟨_,rfl,_,rfl,p,C,dx,_,rfl,hp,cl,n1,(by show 0 < 1000; decide),?_⟩
  have hp1:upd H p (.ins C dx (putF "day" (V.int (d:Int)) [])) p = some (.ins C dx [("day",V.int (d:Int))]):=upd_same
  have k1:Keep [p] H (upd H p (.ins C dx (putF "day" (V.int (d:Int)) []))):=keep_upd Keep.refl (.inl (by simp))
  generalize upd H p (.ins C dx (putF "day" (V.int (d:Int)) [])) = H1 at hp1 k1
  have hA1:H1 a = some (.lst L) ∨ H1 a = some (.tup L):=hA.imp (fun h=>k1 a _ h (by simpa using npa)) (fun h=>k1 a _ h (by simpa using npa))
  have R1:RowsAt H1 L rows:=R.mono fun t xs e=>k1 t _ e (by have:=ne_of e hp (by intro z; cases z); simpa using this)
  rcases hA1 with hA1 | hA1
  · refine .inl ⟨_,rfl,a,rfl,⟨_,SqL.of hA1⟩,fun D hD=>?_⟩
    refine comp_list D (K:=K) (a:=a) (xs:=L) (fun i σ H5 ys=>∃ v v':Option V,σ = [v,v'] /\ Same H1 H5 /\ H5 D = some (.lst ys) /\ RowsAt H5 ys (rows.take i)) ⟨none,none,rfl,Same.new hD,upd_same,⟨rfl,fun i v e=>by simp at e⟩⟩ (fun i σ H5 ys _ ⟨_,_,_,s5,_⟩=>SqL.of (s5 a _ hA1)) ?_ ?_
    · rintro i x σ H5 ys hi ⟨v,v',rfl,s5,hy,R5⟩
      obtain ⟨t,r,rfl,hr2,ht⟩:=R1.get i x hi
      refine ⟨t,_,rfl,SqT.of (s5 t _ ht),rfl,_,_,rfl,_,_,rfl,rfl,_,rfl,_,rfl,(by show 2 ≤ sizeLine; decide),fun t2 ht2=>?_⟩
      have nD:D ≠ t2:=ne_of_none hy ht2
      refine ⟨by rw [upd_ne nD]; exact hy,(by rw [R5.len,List.length_take]; exact small1000 (by omega)),_,_,rfl,fun b o e=>?_,upd_same,?_⟩
      · rw [upd_ne (ne_of_none e hD)]; exact Same.new ht2 b _ (s5 b _ e)
      · rw [List.take_add_one,hr2]
        refine (R5.mono fun b xs e=>?_).snoc ?_
        · rw [upd_ne (ne_of e hy (by intro z; cases z))]; exact Same.new ht2 b _ e
        · rw [upd_ne nD.symm,upd_same]
    · rintro σ H5 ys ⟨v,v',rfl,s5,hy,R5⟩
      rw [show rows.take L.length = rows by rw [R1.len,List.take_length]] at R5
      refine ⟨D,_,rfl,.inl ⟨SqL.of hy,fun r hr=>?_⟩⟩
      have hp5:=s5 p _ hp1
      have npr:p ≠ r:=ne_of_none hp5 hr
      refine ⟨_,rfl,p,C,dx,_,rfl,Same.new hr p _ hp5,cl,n2,(by show 1 < 1000; decide),?_⟩
      rw [put_rows]
      have hp6:upd (upd H5 r (.tup ys)) p (.ins C dx [("day",V.int (d:Int)),("rows",V.ref r)]) p = some (.ins C dx [("day",V.int (d:Int)),("rows",V.ref r)]):=upd_same
      have hr6:upd (upd H5 r (.tup ys)) p (.ins C dx [("day",V.int (d:Int)),("rows",V.ref r)]) r = some (.tup ys):=by rw [upd_ne npr.symm,upd_same]
      have k6:Keep [p] H5 (upd (upd H5 r (.tup ys)) p (.ins C dx [("day",V.int (d:Int)),("rows",V.ref r)])):=keep_upd (Keep.of_same (Same.new hr)) (.inl (by simp))
      have R6:RowsAt (upd (upd H5 r (.tup ys)) p (.ins C dx [("day",V.int (d:Int)),("rows",V.ref r)])) ys rows:=R5.mono fun t xs e=>k6 t _ e (by have:=ne_of e hp5 (by intro z; cases z); simpa using this)
      generalize upd (upd H5 r (.tup ys)) p (.ins C dx [("day",V.int (d:Int)),("rows",V.ref r)]) = H6 at hp6 hr6 k6 R6
      have k06:Keep [p] H H6:=fun b o e hb=>k6 b o (s5 b o (k1 b o e hb)) hb
      have npr6:r ≠ p:=npr.symm
      refine ⟨_,rfl,_,rfl,_,rfl,p,C,dx,_,_,rfl,hp6,cl,n2,lk_rows,s1,d,r,ys,rows,rfl,.inr hr6,R6,hlen,fun H7 s7=>?_⟩
      have last:Q V.non (upd (upd H7 p (.ins C dx [("day",V.int (d:Int)),("rows",V.ref r),("check",V.int c)])) p (.ins C dx (putF "fits" (V.bl (decide (V.int c = V.int ((Chk.chk (s1 :: d :: flat rows):Nat):Int)))) [("day",V.int (d:Int)),("rows",V.ref r),("check",V.int c)]))):=by
        rw [put_fits,upd_upd,decI]
        refine q r ys _ upd_same (by rw [upd_ne npr6]; exact s7 r _ hr6) (R6.mono fun t xs e=>?_) fun b o e hb=>?_
        · rw [upd_ne (ne_of e hp6 (by intro z; cases z))]; exact s7 t _ e
        · rw [upd_ne (by simpa using hb)]; exact s7 b _ (k06 b o e hb)
      rcases hcv with ⟨rfl,hc⟩ | rfl
      · subst hc
        refine ⟨_,rfl,rfl,_,rfl,?_⟩
        refine iteY rfl ?_
        refine ⟨_,rfl,_,rfl,p,C,dx,_,rfl,s7 p _ hp6,cl,n3,(by show 2 < 1000; decide),?_⟩
        rw [put_check]
        refine ⟨_,rfl,p,C,dx,_,_,rfl,upd_same,cl,n3,lk_check,_,rfl,rfl,_,rfl,p,C,dx,_,rfl,upd_same,cl,n4,(by show 3 < 1000; decide),?_⟩
        exact last
      · refine ⟨_,rfl,rfl,_,rfl,?_⟩
        refine iteN (by intro h; cases h) ?_
        refine ⟨_,rfl,_,rfl,p,C,dx,_,rfl,s7 p _ hp6,cl,n3,(by show 2 < 1000; decide),?_⟩
        rw [put_check]
        refine ⟨_,rfl,p,C,dx,_,_,rfl,upd_same,cl,n3,lk_check,_,rfl,rfl,_,rfl,p,C,dx,_,rfl,upd_same,cl,n4,(by show 3 < 1000; decide),?_⟩
        exact last
  · refine .inr ⟨_,rfl,a,rfl,⟨_,SqT.of hA1⟩,fun D hD=>?_⟩
    refine comp_tup D (K:=K) (a:=a) (xs:=L) (fun i σ H5 ys=>∃ v v':Option V,σ = [v,v'] /\ Same H1 H5 /\ H5 D = some (.lst ys) /\ RowsAt H5 ys (rows.take i)) ⟨none,none,rfl,Same.new hD,upd_same,⟨rfl,fun i v e=>by simp at e⟩⟩ (fun i σ H5 ys _ ⟨_,_,_,s5,_⟩=>SqT.of (s5 a _ hA1)) ?_ ?_
    · rintro i x σ H5 ys hi ⟨v,v',rfl,s5,hy,R5⟩
      obtain ⟨t,r,rfl,hr2,ht⟩:=R1.get i x hi
      refine ⟨t,_,rfl,SqT.of (s5 t _ ht),rfl,_,_,rfl,_,_,rfl,rfl,_,rfl,_,rfl,(by show 2 ≤ sizeLine; decide),fun t2 ht2=>?_⟩
      have nD:D ≠ t2:=ne_of_none hy ht2
      refine ⟨by rw [upd_ne nD]; exact hy,(by rw [R5.len,List.length_take]; exact small1000 (by omega)),_,_,rfl,fun b o e=>?_,upd_same,?_⟩
      · rw [upd_ne (ne_of_none e hD)]; exact Same.new ht2 b _ (s5 b _ e)
      · rw [List.take_add_one,hr2]
        refine (R5.mono fun b xs e=>?_).snoc ?_
        · rw [upd_ne (ne_of e hy (by intro z; cases z))]; exact Same.new ht2 b _ e
        · rw [upd_ne nD.symm,upd_same]
    · rintro σ H5 ys ⟨v,v',rfl,s5,hy,R5⟩
      rw [show rows.take L.length = rows by rw [R1.len,List.take_length]] at R5
      refine ⟨D,_,rfl,.inl ⟨SqL.of hy,fun r hr=>?_⟩⟩
      have hp5:=s5 p _ hp1
      have npr:p ≠ r:=ne_of_none hp5 hr
      refine ⟨_,rfl,p,C,dx,_,rfl,Same.new hr p _ hp5,cl,n2,(by show 1 < 1000; decide),?_⟩
      rw [put_rows]
      have hp6:upd (upd H5 r (.tup ys)) p (.ins C dx [("day",V.int (d:Int)),("rows",V.ref r)]) p = some (.ins C dx [("day",V.int (d:Int)),("rows",V.ref r)]):=upd_same
      have hr6:upd (upd H5 r (.tup ys)) p (.ins C dx [("day",V.int (d:Int)),("rows",V.ref r)]) r = some (.tup ys):=by rw [upd_ne npr.symm,upd_same]
      have k6:Keep [p] H5 (upd (upd H5 r (.tup ys)) p (.ins C dx [("day",V.int (d:Int)),("rows",V.ref r)])):=keep_upd (Keep.of_same (Same.new hr)) (.inl (by simp))
      have R6:RowsAt (upd (upd H5 r (.tup ys)) p (.ins C dx [("day",V.int (d:Int)),("rows",V.ref r)])) ys rows:=R5.mono fun t xs e=>k6 t _ e (by have:=ne_of e hp5 (by intro z; cases z); simpa using this)
      generalize upd (upd H5 r (.tup ys)) p (.ins C dx [("day",V.int (d:Int)),("rows",V.ref r)]) = H6 at hp6 hr6 k6 R6
      have k06:Keep [p] H H6:=fun b o e hb=>k6 b o (s5 b o (k1 b o e hb)) hb
      have npr6:r ≠ p:=npr.symm
      refine ⟨_,rfl,_,rfl,_,rfl,p,C,dx,_,_,rfl,hp6,cl,n2,lk_rows,s1,d,r,ys,rows,rfl,.inr hr6,R6,hlen,fun H7 s7=>?_⟩
      have last:Q V.non (upd (upd H7 p (.ins C dx [("day",V.int (d:Int)),("rows",V.ref r),("check",V.int c)])) p (.ins C dx (putF "fits" (V.bl (decide (V.int c = V.int ((Chk.chk (s1 :: d :: flat rows):Nat):Int)))) [("day",V.int (d:Int)),("rows",V.ref r),("check",V.int c)]))):=by
        rw [put_fits,upd_upd,decI]
        refine q r ys _ upd_same (by rw [upd_ne npr6]; exact s7 r _ hr6) (R6.mono fun t xs e=>?_) fun b o e hb=>?_
        · rw [upd_ne (ne_of e hp6 (by intro z; cases z))]; exact s7 t _ e
        · rw [upd_ne (by simpa using hb)]; exact s7 b _ (k06 b o e hb)
      rcases hcv with ⟨rfl,hc⟩ | rfl
      · subst hc
        refine ⟨_,rfl,rfl,_,rfl,?_⟩
        refine iteY rfl ?_
        refine ⟨_,rfl,_,rfl,p,C,dx,_,rfl,s7 p _ hp6,cl,n3,(by show 2 < 1000; decide),?_⟩
        rw [put_check]
        refine ⟨_,rfl,p,C,dx,_,_,rfl,upd_same,cl,n3,lk_check,_,rfl,rfl,_,rfl,p,C,dx,_,rfl,upd_same,cl,n4,(by show 3 < 1000; decide),?_⟩
        exact last
      · refine ⟨_,rfl,rfl,_,rfl,?_⟩
        refine iteN (by intro h; cases h) ?_
        refine ⟨_,rfl,_,rfl,p,C,dx,_,rfl,s7 p _ hp6,cl,n3,(by show 2 < 1000; decide),?_⟩
        rw [put_check]
        refine ⟨_,rfl,p,C,dx,_,_,rfl,upd_same,cl,n3,lk_check,_,rfl,rfl,_,rfl,p,C,dx,_,rfl,upd_same,cl,n4,(by show 3 < 1000; decide),?_⟩
        exact last
theorem ok_Whole___init__ {f:Addr} {fd:FuncData} {dV:Value} (F:FunD K "__init__" "Whole.__init__" s_Whole___init__ f fd dV) (T:Txt K mg t_W t_MOST_BLOCKS t_MOST_FIGURES t_MOST_DAY t_FIGURES t_CHECK_FIGURES C_KeepError C_NoWord C_NoTable C_NoPlace C_NoBlock C_NoDay C_NoBase C_NoLine C_Piece C_Whole C_Gain C_Days C_DAYS_TOLD) (D_Piece___init__:ClsX P w K mg base "Piece" C_Piece "__init__" 3 ["self","start","day","rows","check"] (sp_pinit K)):FnOk P w K mg base (CXx P w) 4 f fd ["self","day","rows","check"] (sp_winit C_Whole C_Gain):=by
  refine F.okX sc_Whole___init__ (fun vs H Q E h=>?_) (fun cdv A outer s H vs Q E hr h=>?_)
  · obtain ⟨p,dx,a,d,L,rows,cv,c,rfl,hp,hA,R,hlen,hcv,q⟩:=h; rfl
  obtain ⟨p,dx,a,d,L,rows,cv,c,rfl,hp,hA,R,hlen,hcv,q⟩:=h
  refine ⟨_,(pss_one (ps_expr (pe_clsS (pe_glob (v:=.ref C_Piece) rfl T.mg_Piece rfl) D_Piece___init__ passesN (hr.mono (by decide)) (pa_cons (pv 0) (pa_cons (pe_un un_neg pe_int) (pa_cons (pv 1) (pa_cons (pv 2) (pa_cons (pv 3) pa_nil)))))))),?_⟩
  refine ⟨_,rfl,_,rfl,_,rfl,_,rfl,_,rfl,p,C_Whole,dx,a,0,d,L,rows,cv,c,rfl,hp,T.cl_Whole,T.n_Whole_day,T.n_Whole_rows,T.n_Whole_check,T.n_Whole_fits,hA,R,hlen,hcv,fun r Rr H1 h1 h2 h3 k1=>?_⟩
  exact q H1 ⟨dx,r,Rr,h1,h2,h3⟩ k1
theorem ok_Gain___init__ {f:Addr} {fd:FuncData} {dV:Value} (F:FunD K "__init__" "Gain.__init__" s_Gain___init__ f fd dV) (T:Txt K mg t_W t_MOST_BLOCKS t_MOST_FIGURES t_MOST_DAY t_FIGURES t_CHECK_FIGURES C_KeepError C_NoWord C_NoTable C_NoPlace C_NoBlock C_NoDay C_NoBase C_NoLine C_Piece C_Whole C_Gain C_Days C_DAYS_TOLD) (D_Piece___init__:ClsX P w K mg base "Piece" C_Piece "__init__" 3 ["self","start","day","rows","check"] (sp_pinit K)):FnOk P w K mg base (CXx P w) 4 f fd ["self","base","day","rows","check"] (sp_ginit C_Whole C_Gain):=by
  refine F.okX sc_Gain___init__ (fun vs H Q E h=>?_) (fun cdv A outer s H vs Q E hr h=>?_)
  · obtain ⟨p,dx,a,b,d,L,rows,cv,c,rfl,hp,hA,R,hlen,hcv,q⟩:=h; rfl
  obtain ⟨p,dx,a,b,d,L,rows,cv,c,rfl,hp,hA,R,hlen,hcv,q⟩:=h
  refine ⟨_,(pss_cons (ps_expr (pe_clsS (pe_glob (v:=.ref C_Piece) rfl T.mg_Piece rfl) D_Piece___init__ passesN (hr.mono (by decide)) (pa_cons (pv 0) (pa_cons (pv 1) (pa_cons (pv 2) (pa_cons (pv 3) (pa_cons (pv 4) pa_nil)))))))
      (pss_one (ps_fld (pv 0) (pv 1) rfl))),?_⟩
  refine ⟨_,rfl,_,rfl,_,rfl,_,rfl,_,rfl,p,C_Gain,dx,a,b + 1,d,L,rows,cv,c,(by rw [show (((b + 1:Nat):Int) - 1) = (b:Int) by omega]),hp,T.cl_Gain,T.n_Gain_day,T.n_Gain_rows,T.n_Gain_check,T.n_Gain_fits,hA,R,hlen,hcv,fun r Rr H1 h1 h2 h3 k1=>?_⟩
  refine ⟨_,rfl,_,rfl,p,C_Gain,dx,_,rfl,h1,T.cl_Gain,T.n_Gain_base,(by show 4 < 1000; decide),?_⟩
  rw [put_base]
  refine q _ ⟨dx,r,Rr,upd_same,?_,h3.mono fun t xs e=>?_⟩ (keep_upd k1 (.inl (by simp)))
  · rw [upd_ne (ne_of h2 h1 (by intro z; cases z))]; exact h2
  · rw [upd_ne (ne_of e h1 (by intro z; cases z))]; exact e
theorem ok_Whole_start {f:Addr} {fd:FuncData} (F:Fun K "start" "Whole.start" s_Whole_start f fd) (T:Txt K mg t_W t_MOST_BLOCKS t_MOST_FIGURES t_MOST_DAY t_FIGURES t_CHECK_FIGURES C_KeepError C_NoWord C_NoTable C_NoPlace C_NoBlock C_NoDay C_NoBase C_NoLine C_Piece C_Whole C_Gain C_Days C_DAYS_TOLD) :FnOk P w K mg base (CXx P w) 1 f fd ["self"] (sp_wstart):=by
  refine F.okX sc_Whole_start (fun vs H Q E h=>?_) (fun cdv A outer s H vs Q E hr h=>?_)
  · obtain ⟨p,rfl,q⟩:=h; rfl
  obtain ⟨p,rfl,q⟩:=h
  refine ⟨_,(pss_one (ps_ret (pe_un un_neg pe_int))),?_⟩
  exact ⟨_,rfl,q⟩
theorem ok_Gain_start {f:Addr} {fd:FuncData} (F:Fun K "start" "Gain.start" s_Gain_start f fd) (T:Txt K mg t_W t_MOST_BLOCKS t_MOST_FIGURES t_MOST_DAY t_FIGURES t_CHECK_FIGURES C_KeepError C_NoWord C_NoTable C_NoPlace C_NoBlock C_NoDay C_NoBase C_NoLine C_Piece C_Whole C_Gain C_Days C_DAYS_TOLD) :FnOk P w K mg base (CXx P w) 1 f fd ["self"] (sp_gstart C_Whole C_Gain):=by
  refine F.okX sc_Gain_start (fun vs H Q E h=>?_) (fun cdv A outer s H vs Q E hr h=>?_)
  · obtain ⟨p,b,d,rows,c,rfl,⟨dx,r,R,h1,h2,h3⟩,q⟩:=h; rfl
  obtain ⟨p,b,d,rows,c,rfl,⟨dx,r,R,h1,h2,h3⟩,q⟩:=h
  refine ⟨_,(pss_one (ps_ret (pe_fld (pv 0) rfl))),?_⟩
  exact ⟨_,rfl,p,C_Gain,dx,_,_,rfl,h1,T.cl_Gain,T.n_Gain_base,lk_base,q⟩
theorem ok_Piece_is_good {f:Addr} {fd:FuncData} (F:Fun K "is_good" "Piece.is_good" s_Piece_is_good f fd) (T:Txt K mg t_W t_MOST_BLOCKS t_MOST_FIGURES t_MOST_DAY t_FIGURES t_CHECK_FIGURES C_KeepError C_NoWord C_NoTable C_NoPlace C_NoBlock C_NoDay C_NoBase C_NoLine C_Piece C_Whole C_Gain C_Days C_DAYS_TOLD) :FnOk P w K mg base (CXx P w) 3 f fd ["self"] (sp_good C_Whole C_Gain):=by
  refine F.okX sc_Piece_is_good (fun vs H Q E h=>?_) (fun cdv A outer s H vs Q E hr h=>?_)
  · obtain ⟨p,wh,b,d,rows,c,rfl,hP,hlen,q⟩:=h; rfl
  obtain ⟨p,wh,b,d,rows,c,rfl,hP,hlen,q⟩:=h
  refine ⟨_,(pss_one (ps_ret (pe_fld (pv 0) rfl))),?_⟩
  obtain ⟨dx,r,R,h1,h2,h3⟩:=id hP
  cases wh
  · exact ⟨_,rfl,p,C_Gain,dx,_,_,rfl,h1,T.cl_Gain,T.n_Gain_fits,lk_fits,q H (Same.refl _)⟩
  · exact ⟨_,rfl,p,C_Whole,dx,_,_,rfl,h1,T.cl_Whole,T.n_Whole_fits,lk_fits,q H (Same.refl _)⟩
theorem ok_Whole_kind {f:Addr} {fd:FuncData} (F:Fun K "kind" "Whole.kind" s_Whole_kind f fd) (T:Txt K mg t_W t_MOST_BLOCKS t_MOST_FIGURES t_MOST_DAY t_FIGURES t_CHECK_FIGURES C_KeepError C_NoWord C_NoTable C_NoPlace C_NoBlock C_NoDay C_NoBase C_NoLine C_Piece C_Whole C_Gain C_Days C_DAYS_TOLD) :FnOk P w K mg base (CXx P w) 1 f fd ["self"] (sp_wkind):=by
  refine F.okX sc_Whole_kind (fun vs H Q E h=>?_) (fun cdv A outer s H vs Q E hr h=>?_)
  · obtain ⟨p,rfl,q⟩:=h; rfl
  obtain ⟨p,rfl,q⟩:=h
  refine ⟨_,(pss_one (ps_ret pe_str)),?_⟩
  exact q
theorem ok_Gain_kind {f:Addr} {fd:FuncData} (F:Fun K "kind" "Gain.kind" s_Gain_kind f fd) (T:Txt K mg t_W t_MOST_BLOCKS t_MOST_FIGURES t_MOST_DAY t_FIGURES t_CHECK_FIGURES C_KeepError C_NoWord C_NoTable C_NoPlace C_NoBlock C_NoDay C_NoBase C_NoLine C_Piece C_Whole C_Gain C_Days C_DAYS_TOLD) :FnOk P w K mg base (CXx P w) 1 f fd ["self"] (sp_gkind):=by
  refine F.okX sc_Gain_kind (fun vs H Q E h=>?_) (fun cdv A outer s H vs Q E hr h=>?_)
  · obtain ⟨p,rfl,q⟩:=h; rfl
  obtain ⟨p,rfl,q⟩:=h
  refine ⟨_,(pss_one (ps_ret pe_str)),?_⟩
  exact q
theorem ok_Whole_laid {f:Addr} {fd:FuncData} (F:Fun K "laid" "Whole.laid" s_Whole_laid f fd) (T:Txt K mg t_W t_MOST_BLOCKS t_MOST_FIGURES t_MOST_DAY t_FIGURES t_CHECK_FIGURES C_KeepError C_NoWord C_NoTable C_NoPlace C_NoBlock C_NoDay C_NoBase C_NoLine C_Piece C_Whole C_Gain C_Days C_DAYS_TOLD) :FnOk P w K mg base (CXx P w) 1 f fd ["self","table"] (sp_wlaid C_Whole C_Gain):=by
  refine F.okX sc_Whole_laid (fun vs H Q E h=>?_) (fun cdv A outer s H vs Q E hr h=>?_)
  · obtain ⟨p,tb,b,d,rows,c,rfl,⟨dx,r,R,h1,h2,h3⟩,hl,q⟩:=h; rfl
  obtain ⟨p,tb,b,d,rows,c,rfl,⟨dx,r,R,h1,h2,h3⟩,hl,q⟩:=h
  refine ⟨_,(pss_one (ps_ret (pe_comp (N:=["place","block"]) (k:=2) (cap:=[]) rfl rfl (pi_tup (pe_fld (pv 0) rfl)) (fun _ _ _ _=>(pg_tupK (K:=K) (n:=2) rfl rfl (pgs_cons (pg_name (i:=0) (show (["place","block"]:List Str).Nodup from by decide +kernel) rfl (Or.inl rfl) (.inr rfl)) (pgs_cons (pg_name (i:=1) (show (["place","block"]:List Str).Nodup from by decide +kernel) rfl (Or.inl rfl) (.inr rfl)) pgs_nil)))) (fun _ _ _ _=>pts_nil) (fun _ _ _ _=>(pv 1))))),?_⟩
  refine ⟨_,rfl,p,C_Whole,dx,_,_,rfl,h1,T.cl_Whole,T.n_Whole_rows,lk_rows,r,rfl,⟨_,SqT.of h2⟩,fun D hD=>?_⟩
  refine comp_tup D (K:=K) (a:=r) (xs:=R) (fun i σ H5 ys=>∃ v v':Option V,σ = [v,v'] /\ Same H H5 /\ H5 D = some (.lst ys) /\ ys = ((rows.take i).map (fun r=>(r.2:Int))).map V.int) ⟨none,none,rfl,Same.new hD,upd_same,rfl⟩ (fun i σ H5 ys _ ⟨_,_,_,s5,_⟩=>SqT.of (s5 _ _ h2)) ?_ ?_
  · rintro i x σ H5 ys hi ⟨v,v',rfl,s5,hy,rfl⟩
    obtain ⟨t,rr,rfl,hr2,ht⟩:=h3.get i x hi
    have hil:i < rows.length:=(List.getElem?_eq_some_iff.mp hr2).1
    refine ⟨t,_,rfl,SqT.of (s5 t _ ht),rfl,_,_,rfl,_,_,rfl,rfl,_,rfl,hy,(by rw [List.length_map,List.length_map,List.length_take]; exact small1000 (by omega)),_,_,rfl,fun b o e=>?_,upd_same,by rw [List.take_add_one,hr2]; simp⟩
    rw [upd_ne (ne_of_none e hD)]; exact s5 b _ e
  · rintro σ H5 ys ⟨v,v',rfl,s5,hy,rfl⟩
    rw [h3.len,List.take_length] at hy
    exact q D H5 hy hD s5
theorem ok_Gain_laid {f:Addr} {fd:FuncData} (F:Fun K "laid" "Gain.laid" s_Gain_laid f fd) (T:Txt K mg t_W t_MOST_BLOCKS t_MOST_FIGURES t_MOST_DAY t_FIGURES t_CHECK_FIGURES C_KeepError C_NoWord C_NoTable C_NoPlace C_NoBlock C_NoDay C_NoBase C_NoLine C_Piece C_Whole C_Gain C_Days C_DAYS_TOLD) :FnOk P w K mg base (CXx P w) 1 f fd ["self","table"] (sp_glaid C_Whole C_Gain):=by
  refine F.okX sc_Gain_laid (fun vs H Q E h=>?_) (fun cdv A outer s H vs Q E hr h=>?_)
  · obtain ⟨p,tb,b,d,rows,c,tt,rfl,⟨dx,r,R,h1,h2,h3⟩,htb,hin,q⟩:=h; rfl
  obtain ⟨p,tb,b,d,rows,c,tt,rfl,⟨dx,r,R,h1,h2,h3⟩,htb,hin,q⟩:=h
  refine ⟨_,(pss_cons (ps_set (i:=2) sc_Gain_laid.nd rfl (Or.inl rfl) (pe_callTy call_list_of (by rfl) T.b_list PyProof.Rows.boot_list (pa_cons (pv 1) pa_nil)))
      (pss_cons (ps_for PassesOwn.leaving rfl (pi_tup (pe_fld (pv 0) rfl)) (pg_tup rfl (pgs_cons (pg_name (i:=3) sc_Gain_laid.nd rfl (Or.inl rfl)) (pgs_cons (pg_name (i:=4) sc_Gain_laid.nd rfl (Or.inl rfl)) pgs_nil)))
      (pss_one (ps_asg (pv 4) (pg_sub (pv 2) (pv 3) set_list))))
      (pss_one (ps_ret (pv 2))))),?_⟩
  refine ⟨_,rfl,tb,_,rfl,.inl (SqL.of htb),fun m hm=>?_⟩
  have s1:Same H (upd H m (.lst (tt.map V.int))):=Same.new hm
  refine ⟨_,rfl,p,C_Gain,dx,_,_,rfl,s1 p _ h1,T.cl_Gain,T.n_Gain_rows,lk_rows,r,rfl,⟨_,SqT.of (s1 _ _ h2)⟩,for_tup (K:=K) (a:=r) (xs:=R) (fun i σ H2=>∃ v3 v4:Option V,σ = [some (.ref p),some (.ref tb),some (.ref m),v3,v4] /\ Same H H2 /\ H2 m = some (.lst ((setI tt (rows.take i)).map V.int))) ⟨none,none,rfl,s1,upd_same⟩ (fun i σ H2 _ ⟨_,_,_,s2,_⟩=>SqT.of (s2 _ _ h2)) ?_ ?_⟩
  · rintro i v σ H2 hi ⟨v3,v4,rfl,s2,hm2⟩
    obtain ⟨t,rr,rfl,hr2,ht⟩:=h3.get i v hi
    have hrl:=hin rr (List.mem_of_getElem? hr2)
    refine ⟨t,_,rfl,SqT.of (s2 t _ ht),rfl,_,_,rfl,_,_,rfl,rfl,?_⟩
    refine ⟨_,rfl,_,rfl,_,rfl,m,_,_,rr.1,rfl,rfl,hm2,?_,?_⟩
    · unfold ixN; rw [List.length_map,setI_len,if_pos (by omega),if_pos (by omega)]; simp
    · refine ⟨_,_,rfl,fun b o e=>?_,?_⟩
      · rw [upd_ne (ne_of_none e hm)]; exact s2 b _ e
      · rw [upd_same,show rows.take (i + 1) = rows.take i ++ [rr] by rw [List.take_add_one,hr2]; rfl,setI_snoc,List.map_set]
  · rintro σ H2 ⟨v3,v4,rfl,s2,hm2⟩
    rw [h3.len,List.take_length] at hm2
    exact ⟨_,rfl,q m H2 hm2 hm s2⟩
theorem ok_ask_wide {f:Addr} {fd:FuncData} (F:Fun K "ask_wide" "ask_wide" s_ask_wide f fd) (T:Txt K mg t_W t_MOST_BLOCKS t_MOST_FIGURES t_MOST_DAY t_FIGURES t_CHECK_FIGURES C_KeepError C_NoWord C_NoTable C_NoPlace C_NoBlock C_NoDay C_NoBase C_NoLine C_Piece C_Whole C_Gain C_Days C_DAYS_TOLD) (D_NoTable:ExcX P w K mg base "NoTable" C_NoTable 1 ["self","wide"] (sp_x1 C_NoTable "wide")):FnOk P w K mg base (CXx P w) 3 f fd ["wide"] (sp_askw C_NoTable):=by
  refine F.okX sc_ask_wide (fun vs H Q E h=>?_) (fun cdv A outer s H vs Q E hr h=>?_)
  · obtain ⟨wd,rfl,q1,q2⟩:=h; rfl
  obtain ⟨wd,rfl,q1,q2⟩:=h
  refine ⟨_,(pss_one (ps_if (PW.pt (pw_or (pt_cmpR op_lt (pv 0) pe_int (nomark _)) (pw_or1 (pt_cmpR op_gt (pv 0) (pe_glob (v:=.int 40) rfl T.m_MOST_BLOCKS ⟨_,rfl⟩) (nomark _))))) (pss_one (ps_raise rfl raisesB (pe_exc D_NoTable (hr.mono (by decide)) rfl (pa_cons (pv 0) pa_nil)))) pss_nil)),?_⟩
  by_cases hw:¬ (1 ≤ wd /\ wd ≤ 40)
  · refine ⟨_,rfl,_,_,rfl,rfl,_,rfl,?_⟩
    refine ite2 (fun h=>?_) (fun h=>?_)
    · refine iteT ?_
      exact ⟨_,rfl,raise1 (E:=E) T.x_NoTable (q2 hw)⟩
    · refine ⟨_,rfl,_,_,rfl,rfl,_,rfl,?_⟩
      refine ite2 (fun h'=>⟨_,rfl,raise1 (E:=E) T.x_NoTable (q2 hw)⟩) (fun h'=>?_)
      simp at h h'; omega
  have hw:=Classical.not_not.mp hw
  refine ⟨_,rfl,_,_,rfl,rfl,_,rfl,?_⟩
  refine iteN (by omega) ?_
  refine ⟨_,rfl,_,_,rfl,rfl,_,rfl,?_⟩
  refine iteN (by omega) ?_
  exact q1 hw
theorem ok_Days___init__ {f:Addr} {fd:FuncData} (F:Fun K "__init__" "Days.__init__" s_Days___init__ f fd) (T:Txt K mg t_W t_MOST_BLOCKS t_MOST_FIGURES t_MOST_DAY t_FIGURES t_CHECK_FIGURES C_KeepError C_NoWord C_NoTable C_NoPlace C_NoBlock C_NoDay C_NoBase C_NoLine C_Piece C_Whole C_Gain C_Days C_DAYS_TOLD) (D_ask_wide:DefX P w K mg base "ask_wide" 3 ["wide"] (sp_askw C_NoTable)):FnOk P w K mg base (CXx P w) 4 f fd ["self","wide"] (sp_init C_Days C_NoTable):=by
  refine F.okX sc_Days___init__ (fun vs H Q E h=>?_) (fun cdv A outer s H vs Q E hr h=>?_)
  · obtain ⟨p,dx,wd,rfl,hp,q1,q2⟩:=h; rfl
  obtain ⟨p,dx,wd,rfl,hp,q1,q2⟩:=h
  refine ⟨_,(pss_cons (ps_expr (pe_callS D_ask_wide passesB (hr.mono (by decide)) rfl (pa_cons (pv 1) pa_nil)))
      (pss_cons (ps_fld (pv 0) (pv 1) rfl)
      (pss_cons (ps_fld (pv 0) pe_int rfl)
      (pss_cons (ps_fld (pv 0) (pe_lst (pa_cons (pe_op op_rep (pe_lst (pa_cons pe_int pa_nil)) (pv 1)) pa_nil)) rfl)
      (pss_one (ps_fld (pv 0) (pe_lst (pa_cons (pe_lst pa_nil) pa_nil)) rfl)))))),?_⟩
  refine ⟨_,rfl,wd,rfl,fun hw=>?_,q2⟩
  have q:=q1 hw
  refine ⟨_,rfl,_,rfl,p,C_Days,dx,[],rfl,hp,T.cl_Days,T.n_Days_wide,(by show 0 < 1000; decide),?_⟩
  refine ⟨_,rfl,p,C_Days,dx,_,rfl,upd_same,T.cl_Days,T.n_Days_last,(by show 1 < 1000; decide),?_⟩
  rw [upd_upd]
  refine ⟨(by show 1 ≤ sizeLine; decide),fun z hz=>?_⟩
  refine ⟨_,rfl,z,wd,_,rfl,rfl,upd_same,(by omega),(by omega),(by show 1 * _ ≤ sizeLine; exact Nat.le_of_lt (small1000 (by omega))),fun t ht=>?_⟩
  refine ⟨(by show 1 ≤ sizeLine; decide),fun ta hta=>?_⟩
  obtain ⟨a1,nta1⟩:=upd_none hta
  obtain ⟨a2,nta2⟩:=upd_none a1
  obtain ⟨a3,nta3⟩:=upd_none a2
  obtain ⟨b1,nt1⟩:=upd_none ht
  obtain ⟨b2,nt2⟩:=upd_none b1
  obtain ⟨c1,nz⟩:=upd_none hz
  refine ⟨_,rfl,p,C_Days,dx,putF "last" (.int 0) (putF "wide" (.int wd) []),rfl,(by simp [upd,nta3.symm,nt2.symm,nz.symm]),T.cl_Days,T.n_Days_tables,(by have:=length_putF "last" (.int 0) (putF "wide" (.int wd) []); have:=length_putF "wide" (.int wd) []; simp at *; omega),?_⟩
  refine ⟨Nat.zero_le _,fun e he=>?_⟩
  refine ⟨(by show 1 ≤ sizeLine; decide),fun sa hsa=>?_⟩
  obtain ⟨d1,ne1⟩:=upd_none he
  obtain ⟨d2,ne2⟩:=upd_none d1
  obtain ⟨d3,ne3⟩:=upd_none d2
  obtain ⟨d4,ne4⟩:=upd_none d3
  obtain ⟨d5,ne5⟩:=upd_none d4
  obtain ⟨e1,ns1⟩:=upd_none hsa
  obtain ⟨e2,ns2⟩:=upd_none e1
  obtain ⟨e3,ns3⟩:=upd_none e2
  obtain ⟨e4,ns4⟩:=upd_none e3
  obtain ⟨e5,ns5⟩:=upd_none e4
  obtain ⟨e6,ns6⟩:=upd_none e5
  refine ⟨_,rfl,p,C_Days,dx,putF "tables" (.ref ta) (putF "last" (.int 0) (putF "wide" (.int wd) [])),rfl,(by simp [upd,ns2.symm,ne1.symm]),T.cl_Days,T.n_Days_set_places,(by have:=length_putF "tables" (.ref ta) (putF "last" (.int 0) (putF "wide" (.int wd) [])); have:=length_putF "last" (.int 0) (putF "wide" (.int wd) []); have:=length_putF "wide" (.int wd) []; simp at *; omega),?_⟩
  have ew:((wd.toNat:Nat):Int) = wd:=by omega
  refine q ta sa t e _ ⟨⟨dx,?_⟩,?_,?_,⟨rfl,fun i a xs h1 h2=>?_⟩,⟨rfl,fun i a xs h1 h2=>?_⟩,?_,by simp,rfl,fun t ht=>?_,by omega,by omega⟩ (fun b hb=>?_) (fun b o hb hbp=>?_)
  · rw [upd_same,fl_make,ew]; rfl
  · simp [upd,nta3,ns3.symm,ne2.symm]
  · simp [upd,ns2]
  · match i,h1,h2 with
    | 0,h1,h2 =>
      have h1:t = a:=by simpa using h1
      have h2:List.replicate wd.toNat 0 = xs:=by simpa using h2
      subst h1 h2
      rw [← rep_flat]
      simp [upd,nt2,ns4.symm,ne3.symm,nta1.symm]
    | i + 1,h1,_=>simp at h1
  · match i,h1,h2 with
    | 0,h1,h2 =>
      have h1:e = a:=by simpa using h1
      have h2:[] = xs:=by simpa using h2
      subst h1 h2
      simp [upd,ns1.symm,ne1]
    | i + 1,h1,_=>simp at h1
  · simp only [List.nodup_cons,List.mem_cons,List.mem_append,List.not_mem_nil,or_false,not_or,not_false_eq_true,List.nodup_nil,and_true,List.cons_append,List.nil_append]
    grind
  · have:t = List.replicate wd.toNat 0:=by simpa using ht
    rw [this,List.length_replicate]
  · simp only [List.mem_cons,List.not_mem_nil,or_false] at hb
    rcases hb with rfl | rfl | rfl | rfl
    · exact a3
    · exact e6
    · exact b2
    · exact d5
  · have hbp:b ≠ p:=by simpa using hbp
    have hn:∀ {c:Addr},H c = none->b ≠ c:=fun h=>ne_of_none hb h
    simp [upd,hbp,hn e6,hn d5,hn a3,hn b2,hn c1,hb]
theorem ok_Days_ask_change {f:Addr} {fd:FuncData} (F:Fun K "ask_change" "Days.ask_change" s_Days_ask_change f fd) (T:Txt K mg t_W t_MOST_BLOCKS t_MOST_FIGURES t_MOST_DAY t_FIGURES t_CHECK_FIGURES C_KeepError C_NoWord C_NoTable C_NoPlace C_NoBlock C_NoDay C_NoBase C_NoLine C_Piece C_Whole C_Gain C_Days C_DAYS_TOLD) (D_NoPlace:ExcX P w K mg base "NoPlace" C_NoPlace 1 ["self","place"] (sp_x1 C_NoPlace "place")) (D_NoBlock:ExcX P w K mg base "NoBlock" C_NoBlock 1 ["self","block"] (sp_x1 C_NoBlock "block")):FnOk P w K mg base (CXx P w) 3 f fd ["self","place","block"] (sp_askc C_Days C_NoPlace C_NoBlock):=by
  refine F.okX sc_Days_ask_change (fun vs H Q E h=>?_) (fun cdv A outer s H vs Q E hr h=>?_)
  · obtain ⟨p,ta,sa,TL,SL,wd,tabs,sets,c,rfl,D,q0,q1,q2⟩:=h; rfl
  obtain ⟨p,ta,sa,TL,SL,wd,tabs,sets,c,rfl,D,q0,q1,q2⟩:=h
  refine ⟨_,(pss_cons (ps_if (PW.pt (pw_or (pt_cmpR op_lt (pv 1) pe_int (nomark _)) (pw_or1 (pt_cmpR op_ge (pv 1) (pe_fld (pv 0) rfl) (nomark _))))) (pss_one (ps_raise rfl raisesB (pe_exc D_NoPlace (hr.mono (by decide)) rfl (pa_cons (pv 1) pa_nil)))) pss_nil)
      (pss_one (ps_if (PW.pt (pw_or (pt_cmpR op_lt (pv 2) pe_int (nomark _)) (pw_or1 (pt_cmpR op_gt (pv 2) (pe_glob (v:=.int 18446744073709551615) rfl T.m_W ⟨_,rfl⟩) (nomark _))))) (pss_one (ps_raise rfl raisesB (pe_exc D_NoBlock (hr.mono (by decide)) rfl (pa_cons (pv 2) pa_nil)))) pss_nil))),?_⟩
  obtain ⟨dx,ob⟩:=D.ob
  by_cases h1:c.1 < 0
  · refine ⟨_,rfl,_,_,rfl,rfl,_,rfl,?_⟩
    refine iteY h1 ?_
    refine iteT ?_
    exact ⟨_,rfl,raise1 (E:=E) T.x_NoPlace (q1 c.1 (by unfold badC; rw [if_pos (.inl h1)]))⟩
  refine ⟨_,rfl,_,_,rfl,rfl,_,rfl,?_⟩
  refine iteN h1 ?_
  refine ⟨_,rfl,_,rfl,p,C_Days,dx,_,_,rfl,ob,T.cl_Days,T.n_Days_wide,fl_wide,_,_,rfl,rfl,_,rfl,?_⟩
  by_cases h2:(wd:Int) ≤ c.1
  · refine iteY h2 ?_
    exact ⟨_,rfl,raise1 (E:=E) T.x_NoPlace (q1 c.1 (by unfold badC; rw [if_pos (.inr h2)]))⟩
  refine iteN h2 ?_
  by_cases h3:c.2 < 0
  · refine ⟨_,rfl,_,_,rfl,rfl,_,rfl,?_⟩
    refine iteY h3 ?_
    refine iteT ?_
    exact ⟨_,rfl,raise1 (E:=E) T.x_NoBlock (q2 c.2 (by unfold badC; rw [if_neg (by omega),if_pos (.inl h3)]))⟩
  refine ⟨_,rfl,_,_,rfl,rfl,_,rfl,?_⟩
  refine iteN h3 ?_
  refine ⟨_,rfl,_,_,rfl,rfl,_,rfl,?_⟩
  by_cases h4:18446744073709551615 < c.2
  · refine iteY h4 ?_
    exact ⟨_,rfl,raise1 (E:=E) T.x_NoBlock (q2 c.2 (by unfold badC; rw [if_neg (by omega),if_pos (.inr h4)]))⟩
  refine iteN h4 ?_
  exact q0 (by unfold badC; rw [if_neg (by omega),if_neg (by omega)])
theorem ok_Days_ask_day {f:Addr} {fd:FuncData} (F:Fun K "ask_day" "Days.ask_day" s_Days_ask_day f fd) (T:Txt K mg t_W t_MOST_BLOCKS t_MOST_FIGURES t_MOST_DAY t_FIGURES t_CHECK_FIGURES C_KeepError C_NoWord C_NoTable C_NoPlace C_NoBlock C_NoDay C_NoBase C_NoLine C_Piece C_Whole C_Gain C_Days C_DAYS_TOLD) (D_NoDay:ExcX P w K mg base "NoDay" C_NoDay 1 ["self","day"] (sp_x1 C_NoDay "day")):FnOk P w K mg base (CXx P w) 3 f fd ["self","day"] (sp_askd C_Days C_NoDay):=by
  refine F.okX sc_Days_ask_day (fun vs H Q E h=>?_) (fun cdv A outer s H vs Q E hr h=>?_)
  · obtain ⟨p,ta,sa,TL,SL,wd,tabs,sets,d,rfl,D,q0,q1⟩:=h; rfl
  obtain ⟨p,ta,sa,TL,SL,wd,tabs,sets,d,rfl,D,q0,q1⟩:=h
  refine ⟨_,(pss_one (ps_if (PW.pt (pw_or (pt_cmpR op_lt (pv 1) pe_int (nomark _)) (pw_or1 (pt_cmpR op_gt (pv 1) (pe_fld (pv 0) rfl) (nomark _))))) (pss_one (ps_raise rfl raisesB (pe_exc D_NoDay (hr.mono (by decide)) rfl (pa_cons (pv 1) pa_nil)))) pss_nil)),?_⟩
  obtain ⟨dx,ob⟩:=D.ob
  by_cases h1:d < 0
  · refine ⟨_,rfl,_,_,rfl,rfl,_,rfl,?_⟩
    refine iteY h1 ?_
    refine iteT ?_
    exact ⟨_,rfl,raise1 (E:=E) T.x_NoDay (q1 (by omega))⟩
  refine ⟨_,rfl,_,_,rfl,rfl,_,rfl,?_⟩
  refine iteN h1 ?_
  refine ⟨_,rfl,_,rfl,p,C_Days,dx,_,_,rfl,ob,T.cl_Days,T.n_Days_last,fl_last,_,_,rfl,rfl,_,rfl,?_⟩
  by_cases h2:(tabs.length:Int) - 1 < d
  · refine iteY h2 ?_
    exact ⟨_,rfl,raise1 (E:=E) T.x_NoDay (q1 (by omega))⟩
  refine iteN h2 ?_
  exact q0 (by omega)
theorem ok_Days_table {f:Addr} {fd:FuncData} (F:Fun K "table" "Days.table" s_Days_table f fd) (T:Txt K mg t_W t_MOST_BLOCKS t_MOST_FIGURES t_MOST_DAY t_FIGURES t_CHECK_FIGURES C_KeepError C_NoWord C_NoTable C_NoPlace C_NoBlock C_NoDay C_NoBase C_NoLine C_Piece C_Whole C_Gain C_Days C_DAYS_TOLD) (D_Days_ask_day:MethX P w K mg base C_Days "ask_day" 3 ["self","day"] (sp_askd C_Days C_NoDay)):FnOk P w K mg base (CXx P w) 4 f fd ["self","day"] (sp_table C_Days C_NoDay):=by
  refine F.okX sc_Days_table (fun vs H Q E h=>?_) (fun cdv A outer s H vs Q E hr h=>?_)
  · obtain ⟨p,ta,sa,TL,SL,wd,tabs,sets,d,rfl,D,q0,q1⟩:=h; rfl
  obtain ⟨p,ta,sa,TL,SL,wd,tabs,sets,d,rfl,D,q0,q1⟩:=h
  refine ⟨_,(pss_cons (ps_expr (pe_methS (pv 0) T.cl_Days D_Days_ask_day passesB (hr.mono (by decide)) (pa_cons (pv 1) pa_nil)))
      (pss_one (ps_ret (pe_callTy call_list_of (by rfl) T.b_list PyProof.Rows.boot_list (pa_cons (pe_ix ix_list (pe_fld (pv 0) rfl) (pv 1) (fun _ _=>rfl)) pa_nil))))),?_⟩
  obtain ⟨dx,ob⟩:=D.ob
  refine ⟨_,rfl,p,dx,_,rfl,ob,fl_no (by decide +kernel) (by decide +kernel) (by decide +kernel) (by decide +kernel),_,rfl,p,ta,sa,TL,SL,wd,tabs,sets,d,rfl,D,fun hd=>?_,q1⟩
  have hl:d.toNat < tabs.length:=by omega
  obtain ⟨t0,et0,_,ht0⟩:=D.tls.at_ (List.getElem?_eq_getElem hl)
  refine ⟨_,rfl,p,C_Days,dx,_,_,rfl,ob,T.cl_Days,T.n_Days_tables,fl_tables,_,rfl,ta,_,_,V.ref t0,rfl,rfl,SqL.of D.tl,?_,t0,_,rfl,.inl (SqL.of ht0),fun m hm=>?_⟩
  · rw [show d = ((d.toNat:Nat):Int) by omega]; refine atI_nat ?_; simp [et0]
  · exact q0 hd m _ (List.getElem?_eq_getElem hl) hm
theorem ok_Days_passes {f:Addr} {fd:FuncData} (F:Fun K "passes" "Days.passes" s_Days_passes f fd) (T:Txt K mg t_W t_MOST_BLOCKS t_MOST_FIGURES t_MOST_DAY t_FIGURES t_CHECK_FIGURES C_KeepError C_NoWord C_NoTable C_NoPlace C_NoBlock C_NoDay C_NoBase C_NoLine C_Piece C_Whole C_Gain C_Days C_DAYS_TOLD) (D_Days_ask_change:MethX P w K mg base C_Days "ask_change" 3 ["self","place","block"] (sp_askc C_Days C_NoPlace C_NoBlock)):FnOk P w K mg base (CXx P w) 4 f fd ["self","changes"] (sp_passes C_Days C_NoPlace C_NoBlock):=by
  refine F.okX sc_Days_passes (fun vs H Q E h=>?_) (fun cdv A outer s H vs Q E hr h=>?_)
  · obtain ⟨p,ta,sa,a,TL,SL,wd,tabs,sets,L,chs,rfl,D,hA,R,hlc,hlt,haf,q0,q1,q2⟩:=h; rfl
  obtain ⟨p,ta,sa,a,TL,SL,wd,tabs,sets,L,chs,rfl,D,hA,R,hlc,hlt,haf,q0,q1,q2⟩:=h
  refine ⟨_,(pss_cons (ps_for PassesOwn.leaving rfl (pi_list (pv 1)) (pg_tup rfl (pgs_cons (pg_name (i:=2) sc_Days_passes.nd rfl (Or.inl rfl)) (pgs_cons (pg_name (i:=3) sc_Days_passes.nd rfl (Or.inl rfl)) pgs_nil)))
      (pss_one (ps_expr (pe_methS (pv 0) T.cl_Days D_Days_ask_change passesB (hr.mono (by decide)) (pa_cons (pv 2) (pa_cons (pv 3) pa_nil))))))
      (pss_cons (ps_set (i:=4) sc_Days_passes.nd rfl (Or.inl rfl) (pe_callTy call_list_of (by rfl) T.b_list PyProof.Rows.boot_list (pa_cons (pe_ix ix_list (pe_fld (pv 0) rfl) (pe_fld (pv 0) rfl) (fun _ _=>rfl)) pa_nil)))
      (pss_cons (ps_for PassesOwn.leaving rfl (pi_list (pv 1)) (pg_tup rfl (pgs_cons (pg_name (i:=2) sc_Days_passes.nd rfl (Or.inl rfl)) (pgs_cons (pg_name (i:=3) sc_Days_passes.nd rfl (Or.inl rfl)) pgs_nil)))
      (pss_one (ps_asg (pv 3) (pg_sub (pv 4) (pv 2) set_list))))
      (pss_cons (ps_expr (pe_bm PySem.F.plainAttrs_list PySem.F.slot_list_append PySem.F.type_list_append mt_append (pe_fld (pv 0) rfl) (pa_cons (pv 4) pa_nil)))
      (pss_cons (ps_expr (pe_bm PySem.F.plainAttrs_list PySem.F.slot_list_append PySem.F.type_list_append mt_append (pe_fld (pv 0) rfl) (pa_cons (pe_comp (N:=["place","block"]) (k:=2) (cap:=[]) rfl rfl (pi_list (pv 1)) (fun _ _ _ _=>(pg_tupK (K:=K) (n:=2) rfl rfl (pgs_cons (pg_name (i:=0) (show (["place","block"]:List Str).Nodup from by decide +kernel) rfl (Or.inl rfl) (.inr rfl)) (pgs_cons (pg_name (i:=1) (show (["place","block"]:List Str).Nodup from by decide +kernel) rfl (Or.inl rfl) (.inr rfl)) pgs_nil)))) (fun _ _ _ _=>pts_nil) (fun _ _ _ _=>(pv 0))) pa_nil)))
      (pss_cons (ps_fld (pv 0) (pe_op op_add (pe_fld (pv 0) rfl) pe_int) rfl)
      (pss_one (ps_ret (pe_fld (pv 0) rfl))))))))),?_⟩
  obtain ⟨dx,ob⟩:=D.ob
  have tpos:0 < tabs.length:=Nat.pos_of_ne_zero D.ne
  have hil:∀ {i:Nat} {v:V},L[i]? = some v->i < chs.length:=fun {i v} h=>by rw [← R.len]; exact (List.getElem?_eq_some_iff.mp h).1
  refine ⟨_,rfl,a,rfl,⟨_,SqL.of hA⟩,for_list (K:=K) (a:=a) (xs:=L) (fun i σ H2=>∃ v2 v3:Option V,σ = [some (.ref p),some (.ref a),v2,v3,none] /\ H2 = H /\ ∀ j d,j < i->chs[j]? = some d->badC wd d = none)
    ⟨none,none,rfl,rfl,fun j d hj=>absurd hj (Nat.not_lt_zero _)⟩ (fun i σ H2 _ ⟨_,_,_,e,_⟩=>by rw [e]; exact SqL.of hA) ?_ ?_⟩
  · rintro i v σ H2 hi ⟨v2,v3,rfl,rfl,hp⟩
    obtain ⟨t,r,rfl,hr2,ht⟩:=R.get i v hi
    refine ⟨t,_,rfl,SqT.of ht,rfl,_,_,rfl,_,_,rfl,rfl,?_⟩
    refine ⟨_,rfl,p,dx,_,rfl,ob,fl_no (by decide +kernel) (by decide +kernel) (by decide +kernel) (by decide +kernel),_,rfl,_,rfl,p,ta,sa,TL,SL,wd,tabs,sets,r,rfl,D,fun hb=>?_,fun x hb=>q1 x (firstBad_at hr2 hp hb),fun x hb=>q2 x (firstBad_at hr2 hp hb)⟩
    refine ⟨_,_,rfl,rfl,fun j d hj hd=>?_⟩
    by_cases hji:j = i
    · rw [hji,hr2] at hd; cases hd; exact hb
    · exact hp j d (by omega) hd
  rintro σ H2 ⟨v2,v3,rfl,rfl,hgood⟩
  have hfb:firstBad wd chs = none:=by
    unfold firstBad
    rw [List.findSome?_eq_none_iff]
    intro c hc
    obtain ⟨j,hj⟩:=List.mem_iff_getElem?.mp hc
    exact hgood j c (by rw [R.len]; exact (List.getElem?_eq_some_iff.mp hj).1) hj
  have hgd:∀ c ∈ chs,badC wd c = none:=firstBad_none hfb
  have htab:tabs[tabs.length - 1]? = some tabs[tabs.length - 1]:=List.getElem?_eq_getElem (by omega)
  generalize tabs[tabs.length - 1] = tab at htab
  obtain ⟨t0,et0,_,ht0⟩:=D.tls.at_ htab
  refine ⟨_,rfl,p,C_Days,dx,_,_,rfl,ob,T.cl_Days,T.n_Days_tables,fl_tables,_,rfl,p,C_Days,dx,_,_,rfl,ob,T.cl_Days,T.n_Days_last,fl_last,ta,_,_,V.ref t0,rfl,rfl,SqL.of D.tl,?_,t0,_,rfl,.inl (SqL.of ht0),fun m hm=>?_⟩
  · rw [show (tabs.length:Int) - 1 = ((tabs.length - 1:Nat):Int) by omega]; refine atI_nat ?_; simp [et0]
  have tl0:tab.length = wd:=D.wds tab (List.mem_of_getElem? htab)
  have nam:a ≠ m:=ne_of_none hA hm
  have npm:p ≠ m:=ne_of_none ob hm
  have ntm:ta ≠ m:=ne_of_none D.tl hm
  have nsm:sa ≠ m:=ne_of_none D.sl hm
  refine ⟨_,rfl,a,rfl,⟨_,SqL.of (by rw [upd_ne nam]; exact hA)⟩,for_list (K:=K) (a:=a) (xs:=L) (fun i σ H3=>∃ v2 v3:Option V,σ = [some (.ref p),some (.ref a),v2,v3,some (.ref m)] /\ H3 = upd H2 m (.lst ((nextT tab (chs.take i)).map V.int)))
    ⟨v2,v3,rfl,rfl⟩ (fun i σ H3 _ ⟨_,_,_,e⟩=>by rw [e]; exact SqL.of (by rw [upd_ne nam]; exact hA)) ?_ ?_⟩
  · rintro i v σ H3 hi ⟨v2,v3,rfl,rfl⟩
    obtain ⟨t,r,rfl,hr2,ht⟩:=R.get i v hi
    obtain ⟨r1,r2,_,_⟩:=badC_none (hgd r (List.mem_of_getElem? hr2))
    refine ⟨t,_,rfl,SqT.of (by rw [upd_ne (ne_of_none ht hm)]; exact ht),rfl,_,_,rfl,_,_,rfl,rfl,?_⟩
    refine ⟨_,rfl,_,rfl,_,rfl,m,_,_,r.1.toNat,rfl,rfl,upd_same,?_,?_⟩
    · rw [List.length_map,nextT_len,tl0]; unfold ixN; rw [if_pos (by omega),if_pos (by omega)]
    · refine ⟨_,_,rfl,?_⟩
      rw [upd_upd]
      have e:chs.take (i + 1) = chs.take i ++ [r]:=by rw [List.take_add_one,hr2]; rfl
      rw [e,nextT_snoc,List.map_set]
  rintro σ H3 ⟨v2,v3,rfl,rfl⟩
  rw [show chs.take L.length = chs by rw [R.len,List.take_length]]
  have nd:=D.nd
  simp only [List.nodup_cons,List.mem_cons,List.mem_append,not_or] at nd
  obtain ⟨⟨npt,nps,npT,npS⟩,⟨nts,ntT,ntS⟩,⟨nsT,nsS⟩,_⟩:=nd
  simp only [foot,List.mem_cons,List.mem_append,not_or] at haf
  obtain ⟨nap,nata,nasa,naT,naS⟩:=haf
  have ob3:upd H2 m (.lst ((nextT tab chs).map V.int)) p = some (.ins C_Days dx (fl (wd:Int) ((tabs.length:Int) - 1) ta sa)):=by rw [upd_ne npm]; exact ob
  have htl3:upd H2 m (.lst ((nextT tab chs).map V.int)) ta = some (.lst (TL.map V.ref)):=by rw [upd_ne ntm]; exact D.tl
  have tll:=D.tls.len
  have sll:=D.sls.len
  have lens:=D.lens
  refine ⟨_,rfl,p,C_Days,dx,_,_,rfl,ob3,T.cl_Days,T.n_Days_tables,fl_tables,.inl ⟨rfl,_,SqL.of htl3⟩,_,rfl,ta,_,_,rfl,rfl,htl3,(by rw [List.length_map]; exact small1000 (by omega)),?_⟩
  have ob4:upd (upd H2 m (.lst ((nextT tab chs).map V.int))) ta (.lst (TL.map V.ref ++ [.ref m])) p = some (.ins C_Days dx (fl (wd:Int) ((tabs.length:Int) - 1) ta sa)):=by rw [upd_ne npt]; exact ob3
  have hsl4:upd (upd H2 m (.lst ((nextT tab chs).map V.int))) ta (.lst (TL.map V.ref ++ [.ref m])) sa = some (.lst (SL.map V.ref)):=by rw [upd_ne (Ne.symm nts),upd_ne nsm]; exact D.sl
  have hA4:upd (upd H2 m (.lst ((nextT tab chs).map V.int))) ta (.lst (TL.map V.ref ++ [.ref m])) a = some (.lst L):=by rw [upd_ne nata,upd_ne nam]; exact hA
  refine ⟨_,rfl,p,C_Days,dx,_,_,rfl,ob4,T.cl_Days,T.n_Days_set_places,fl_set,.inl ⟨rfl,_,SqL.of hsl4⟩,?_⟩
  refine ⟨_,rfl,a,rfl,⟨_,SqL.of hA4⟩,fun D' hD'=>?_⟩
  obtain ⟨hD1,nDt⟩:=upd_none hD'
  obtain ⟨hD2,nDm⟩:=upd_none hD1
  have nDp:D' ≠ p:=(ne_of_none ob hD2).symm
  have nDs:D' ≠ sa:=(ne_of_none D.sl hD2).symm
  have naD:a ≠ D':=ne_of_none hA hD2
  refine comp_list D' (K:=K) (a:=a) (xs:=L) (fun i σ H5 ys=>∃ v v':Option V,σ = [v,v'] /\ H5 = upd (upd (upd H2 m (.lst ((nextT tab chs).map V.int))) ta (.lst (TL.map V.ref ++ [.ref m]))) D' (.lst ys) /\ ys = ((chs.take i).map Prod.fst).map V.int)
    ⟨none,none,rfl,rfl,rfl⟩ (fun i σ H5 ys _ ⟨_,_,_,e,_⟩=>by rw [e]; exact SqL.of (by rw [upd_ne naD]; exact hA4)) ?_ ?_
  · rintro i x σ H5 ys hi ⟨v,v',rfl,rfl,hy⟩
    have hic:=hil hi
    obtain ⟨t,r,rfl,hr2,ht⟩:=R.get i x hi
    have ht5:upd (upd (upd H2 m (.lst ((nextT tab chs).map V.int))) ta (.lst (TL.map V.ref ++ [.ref m]))) D' (.lst ys) t = some (.tup [.int r.1,.int r.2]):=by
      rw [upd_ne (ne_of_none ht hD2),upd_ne (ne_of ht D.tl (by intro z; cases z)),upd_ne (ne_of_none ht hm)]; exact ht
    refine ⟨t,_,rfl,SqT.of ht5,rfl,_,_,rfl,_,_,rfl,rfl,_,rfl,upd_same,by rw [hy]; exact small1000 (by simp; omega),?_⟩
    exact ⟨_,_,rfl,by rw [upd_upd],by rw [hy,List.take_add_one,hr2]; simp⟩
  rintro σ H5 ys ⟨v,v',rfl,rfl,hy⟩
  rw [show chs.take L.length = chs by rw [R.len,List.take_length]] at hy
  subst hy
  have hsl5:upd (upd (upd H2 m (.lst ((nextT tab chs).map V.int))) ta (.lst (TL.map V.ref ++ [.ref m]))) D' (.lst ((chs.map Prod.fst).map V.int)) sa = some (.lst (SL.map V.ref)):=by rw [upd_ne (Ne.symm nDs)]; exact hsl4
  refine ⟨sa,_,_,rfl,rfl,hsl5,(by rw [List.length_map]; exact small1000 (by omega)),?_⟩
  have ob6:upd (upd (upd (upd H2 m (.lst ((nextT tab chs).map V.int))) ta (.lst (TL.map V.ref ++ [.ref m]))) D' (.lst ((chs.map Prod.fst).map V.int))) sa (.lst (SL.map V.ref ++ [.ref D'])) p = some (.ins C_Days dx (fl (wd:Int) ((tabs.length:Int) - 1) ta sa)):=by
    rw [upd_ne nps,upd_ne (Ne.symm nDp)]; exact ob4
  refine ⟨_,rfl,p,C_Days,dx,_,_,rfl,ob6,T.cl_Days,T.n_Days_last,fl_last,_,_,rfl,rfl,_,rfl,p,C_Days,dx,_,rfl,ob6,T.cl_Days,T.n_Days_last,(by show 4 < 1000; decide),?_⟩
  rw [fl_put]
  refine ⟨_,rfl,p,C_Days,dx,_,_,rfl,upd_same,T.cl_Days,T.n_Days_last,fl_last,?_⟩
  have el:(tabs.length:Int) - 1 + 1 = (tabs.length:Int):=by omega
  have fm:=D.fresh hm
  have fD:=D.fresh hD2
  have z:=q0 hfb m D' (upd (upd (upd (upd (upd H2 m (.lst ((nextT tab chs).map V.int))) ta (.lst (TL.map V.ref ++ [.ref m]))) D' (.lst ((chs.map Prod.fst).map V.int))) sa (.lst (SL.map V.ref ++ [.ref D']))) p (.ins C_Days dx (fl (wd:Int) ((tabs.length:Int) - 1 + 1) ta sa))) tab htab ?_ hm hD2 ?_
  · exact (congrArg (fun n:Int=>Q (V.int n) _) el).mpr z
  · have old:∀ b o,b ∈ TL ++ SL->H2 b = some o->upd (upd (upd (upd (upd H2 m (.lst ((nextT tab chs).map V.int))) ta (.lst (TL.map V.ref ++ [.ref m]))) D' (.lst ((chs.map Prod.fst).map V.int))) sa (.lst (SL.map V.ref ++ [.ref D']))) p (.ins C_Days dx (fl (wd:Int) ((tabs.length:Int) - 1 + 1) ta sa)) b = some o:=fun b o hb e=>by
      have b1:b ≠ p:=by rintro rfl; rcases List.mem_append.mp hb with z | z; exact npT z; exact npS z
      have b2:b ≠ ta:=by rintro rfl; rcases List.mem_append.mp hb with z | z; exact ntT z; exact ntS z
      have b3:b ≠ sa:=by rintro rfl; rcases List.mem_append.mp hb with z | z; exact nsT z; exact nsS z
      rw [upd_ne b1,upd_ne b3,upd_ne (ne_of_none e hD2),upd_ne b2,upd_ne (ne_of_none e hm)]; exact e
    refine ⟨⟨dx,?_⟩,?_,?_,(D.tls.mono fun a ha o e=>old a o (List.mem_append_left _ ha) e).snoc ?_,(D.sls.mono fun a ha o e=>old a o (List.mem_append_right _ ha) e).snoc ?_,?_,by simp,by simp [lens],fun t ht=>?_,D.w1,D.w2⟩
    · rw [upd_same]; congr 2; simp
    · simp [upd,Ne.symm npt,nts,Ne.symm nDt]
    · simp [upd,Ne.symm nps]
    · simp [upd,Ne.symm npm,Ne.symm nsm,Ne.symm nDm,Ne.symm ntm]
    · simp [upd,nDp,nDs]
    · exact nodup_app2 D.nd fm fD (Ne.symm nDm)
    · rcases List.mem_append.mp ht with h | h
      · exact D.wds t h
      · have:t = nextT tab chs:=by simpa using h
        rw [this,nextT_len,tl0]
  · intro b o e hb
    have n1:b ≠ p:=fun z=>hb (by simp [foot,z])
    have n2:b ≠ ta:=fun z=>hb (by simp [foot,z])
    have n3:b ≠ sa:=fun z=>hb (by simp [foot,z])
    rw [upd_ne n1,upd_ne n3,upd_ne (ne_of_none e hD2),upd_ne n2,upd_ne (ne_of_none e hm)]; exact e
theorem ok_Days_written {f:Addr} {fd:FuncData} (F:Fun K "written" "Days.written" s_Days_written f fd) (T:Txt K mg t_W t_MOST_BLOCKS t_MOST_FIGURES t_MOST_DAY t_FIGURES t_CHECK_FIGURES C_KeepError C_NoWord C_NoTable C_NoPlace C_NoBlock C_NoDay C_NoBase C_NoLine C_Piece C_Whole C_Gain C_Days C_DAYS_TOLD) (D_Days_ask_day:MethX P w K mg base C_Days "ask_day" 3 ["self","day"] (sp_askd C_Days C_NoDay)):FnOk P w K mg base (CXx P w) 4 f fd ["self","one","other"] (sp_written C_Days C_NoDay):=by
  refine F.okX sc_Days_written (fun vs H Q E h=>?_) (fun cdv A outer s H vs Q E hr h=>?_)
  · obtain ⟨p,ta,sa,TL,SL,wd,tabs,sets,one,other,rfl,D,hin,h500,q0,q1⟩:=h; rfl
  obtain ⟨p,ta,sa,TL,SL,wd,tabs,sets,one,other,rfl,D,hin,h500,q0,q1⟩:=h
  refine ⟨_,(pss_cons (ps_expr (pe_methS (pv 0) T.cl_Days D_Days_ask_day passesB (hr.mono (by decide)) (pa_cons (pv 1) pa_nil)))
      (pss_cons (ps_expr (pe_methS (pv 0) T.cl_Days D_Days_ask_day passesB (hr.mono (by decide)) (pa_cons (pv 2) pa_nil)))
      (pss_cons (ps_set (i:=3) sc_Days_written.nd rfl (Or.inl rfl) (pe_lst pa_nil))
      (pss_cons (ps_for PassesOwn.leaving rfl (pi_range2 rfl T.b_range (pa_cons (pe_op op_add (pe_callB (call_min2 rfl) (by rfl) T.b_min PyProof.Rows.boot_min (pa_cons (pv 1) (pa_cons (pv 2) pa_nil))) pe_int) (pa_cons (pe_op op_add (pe_callB (call_max2 rfl) (by rfl) T.b_max PyProof.Rows.boot_max (pa_cons (pv 1) (pa_cons (pv 2) pa_nil))) pe_int) pa_nil))) (pg_name (i:=4) sc_Days_written.nd rfl (Or.inl rfl))
      (pss_one (ps_expr (pe_bm PySem.F.plainAttrs_list PySem.F.slot_list_extend PySem.F.type_list_extend mt_extend (pv 3) (pa_cons (pe_ix ix_list (pe_fld (pv 0) rfl) (pv 4) (fun _ _=>rfl)) pa_nil)))))
      (pss_one (ps_ret (pe_sset rfl (by rfl) T.b_sorted (by rfl) T.b_set (pv 3)))))))),?_⟩
  obtain ⟨dx,ob⟩:=D.ob
  have lens:=D.lens
  refine ⟨_,rfl,p,dx,_,rfl,ob,fl_no (by decide +kernel) (by decide +kernel) (by decide +kernel) (by decide +kernel),_,rfl,p,ta,sa,TL,SL,wd,tabs,sets,one,rfl,D,fun ho=>?_,fun hb=>q1 one (.inl ⟨hb,rfl⟩)⟩
  refine ⟨_,rfl,p,dx,_,rfl,ob,fl_no (by decide +kernel) (by decide +kernel) (by decide +kernel) (by decide +kernel),_,rfl,p,ta,sa,TL,SL,wd,tabs,sets,other,rfl,D,fun ht=>?_,fun hb=>q1 other (.inr ⟨ho,hb,rfl⟩)⟩
  refine ⟨Nat.zero_le _,fun pl hpl=>?_⟩
  have e1:(if other < one then other else one) = min one other:=by split <;> omega
  have e2:(if other > one then other else one) = max one other:=by split <;> omega
  refine ⟨_,rfl,_,rfl,one,other,rfl,_,_,rfl,rfl,_,rfl,_,rfl,one,other,rfl,_,_,rfl,rfl,min one other + 1,max one other + 1,by rw [e1,e2],⟨by omega,by omega,by omega,by omega⟩,?_⟩
  refine for_range (lo:=min one other + 1) (n:=((max one other + 1) - (min one other + 1)).toNat) (fun i σ H2=>∃ (v4:Option V) (ns:List Int),σ = [some (.ref p),some (.int one),some (.int other),some (.ref pl),v4] /\ Same H H2 /\ H2 pl = some (.lst (ns.map V.int)) /\ ns.length ≤ 300 * i /\ (∀ k,k ∈ ns ↔ inDays sets (min one other) (min one other + i) k) /\ ∀ x ∈ ns,0 ≤ x /\ x < (wd:Int)) ⟨none,[],rfl,Same.new hpl,upd_same,by simp,fun k=>⟨fun h=>by simp at h,fun ⟨d,xs,h1,h2,_⟩=>by omega⟩,fun x h=>by simp at h⟩ ?_ ?_
  · rintro i σ H2 hi ⟨v4,ns,rfl,s2,hp2,hl2,hm2,hx2⟩
    have D2:=D.same s2
    obtain ⟨d,hd⟩:∃ d:Nat,min one other + 1 + (i:Int) = (d:Int):=⟨(min one other + 1 + (i:Int)).toNat,by omega⟩
    have hdl:d < sets.length:=by omega
    have exs:sets[d]? = some sets[d]:=List.getElem?_eq_getElem hdl
    obtain ⟨xa,exa,_,hxa⟩:=D2.sls.at_ exs
    have hin2:=hin.day sets[d] (List.getElem_mem hdl)
    refine ⟨_,rfl,.inl ⟨rfl,_,SqL.of hp2⟩,_,rfl,p,C_Days,dx,_,_,rfl,s2 _ _ ob,T.cl_Days,T.n_Days_set_places,fl_set,_,rfl,sa,_,_,V.ref xa,rfl,rfl,SqL.of D2.sl,?_,?_⟩
    · rw [hd]; exact atI_nat (by rw [List.getElem?_map,exa]; rfl)
    refine ⟨pl,xa,_,_,rfl,rfl,hp2,hxa,(by rw [List.length_map,List.length_map]; exact small15 (by omega)),?_⟩
    refine ⟨_,ns ++ sets[d],rfl,fun b o e=>by rw [upd_ne (ne_of_none e hpl)]; exact s2 b o e,by rw [upd_same,List.map_append],by rw [List.length_append]; omega,fun k=>?_,fun x hx=>?_⟩
    · rw [List.mem_append,hm2 k]
      constructor
      · rintro (⟨d',xs,h1,h2,h3,h4⟩ | h)
        · exact ⟨d',xs,h1,by omega,h3,h4⟩
        · exact ⟨d,_,by omega,by omega,exs,h⟩
      · rintro ⟨d',xs,h1,h2,h3,h4⟩
        by_cases z:d' = d
        · subst z; rw [exs] at h3; cases h3; exact .inr h4
        · exact .inl ⟨d',xs,h1,by omega,h3,h4⟩
    · rcases List.mem_append.mp hx with h | h
      · exact hx2 x h
      · exact hin2.2 x h
  · rintro σ H2 ⟨v4,ns,rfl,s2,hp2,hl2,hm2,hx2⟩
    refine ⟨_,rfl,pl,ns,rfl,SqL.of hp2,few63 hin.most hx2,fun r ns' hr hpw hmem=>q0 ho ht r ns' _ upd_same (s2.free hr) hpw (fun k=>(hmem k).trans ((hm2 k).trans ?_)) (s2.trans (Same.new hr))⟩
    rw [show min one other + ((((max one other + 1) - (min one other + 1)).toNat:Nat):Int) = max one other by omega]
theorem ok_whole_of {f:Addr} {fd:FuncData} (F:Fun K "whole_of" "whole_of" s_whole_of f fd) (T:Txt K mg t_W t_MOST_BLOCKS t_MOST_FIGURES t_MOST_DAY t_FIGURES t_CHECK_FIGURES C_KeepError C_NoWord C_NoTable C_NoPlace C_NoBlock C_NoDay C_NoBase C_NoLine C_Piece C_Whole C_Gain C_Days C_DAYS_TOLD) (D_Whole_d1:MakeXd P w K mg base "Whole" C_Whole 4 ["self","day","rows","check"] [Value.none] (sp_winit C_Whole C_Gain)) (D_Days_table:MethX P w K mg base C_Days "table" 4 ["self","day"] (sp_table C_Days C_NoDay)):FnOk P w K mg base (CXx P w) 6 f fd ["days","day"] (sp_wholeof C_Days C_Whole C_Gain C_NoDay):=by
  refine F.okX sc_whole_of (fun vs H Q E h=>?_) (fun cdv A outer s H vs Q E hr h=>?_)
  · obtain ⟨p,wd,tabs,sets,day,rfl,hD,q1,q2⟩:=h; rfl
  obtain ⟨p,wd,tabs,sets,day,rfl,hD,q1,q2⟩:=h
  refine ⟨_,(pss_one (ps_ret (pe_makeSd (dvs:=[V.non]) D_Whole_d1 (Paired.cons rfl Paired.nil) passesN (hr.mono (by decide)) rfl (pa_cons (pv 1) (pa_cons (pe_listenum rfl rfl T.b_list rfl T.b_enumerate (pe_methS (pv 0) T.cl_Days D_Days_table passesB (hr.mono (by decide)) (pa_cons (pv 1) pa_nil))) pa_nil))))),?_⟩
  have upK:∀ {H4:Hp} {x dx:Addr} {o:HO},H4 x = none->H4 dx = none->∀ t o',H4 t = some o'->upd (upd H4 dx (.own x)) x o t = some o':=fun hx hd t o' e=>by rw [upd_ne (ne_of_none e hx),upd_ne (ne_of_none e hd)]; exact e
  obtain ⟨ta,sa,TL,SL,D⟩:=hD.D
  obtain ⟨dx,ob⟩:=D.ob
  refine ⟨_,rfl,_,rfl,p,dx,_,rfl,ob,fl_no (by decide +kernel) (by decide +kernel) (by decide +kernel) (by decide +kernel),_,rfl,p,ta,sa,TL,SL,wd,tabs,sets,day,rfl,D,fun hok t tab htab hn=>?_,fun h=>q2 h⟩
  obtain ⟨d,rfl⟩:∃ d:Nat,day = (d:Int):=⟨day.toNat,by have:=hok.1; omega⟩
  have hTab:=hD.T tab (List.mem_of_getElem? htab)
  have s1:Same H (upd H t (.lst (tab.map V.int))):=Same.new hn
  refine ⟨t,_,rfl,SqL.of upd_same,fun r ts H2 hr0 s2 hts hr2 hEn=>?_⟩
  have R:=enum_rows hEn hts hTab.2
  have s02:=s1.trans s2
  refine fun x dx hx hd ne=>⟨x,dx,r,d,_,wrows tab,.non,_,rfl,upd_same,.inl (upK hx hd _ _ hr2),R.mono (fun t xs e=>upK hx hd t _ e),by rw [wrows_len,hTab.1]; have:=D.w2; omega,.inl ⟨rfl,rfl⟩,fun J5 hP k5=>⟨rfl,?_⟩⟩
  exact q1 hok x tab J5 htab hP (s02.trans (made_same hx hd k5))
theorem ok_gain_of {f:Addr} {fd:FuncData} (F:Fun K "gain_of" "gain_of" s_gain_of f fd) (T:Txt K mg t_W t_MOST_BLOCKS t_MOST_FIGURES t_MOST_DAY t_FIGURES t_CHECK_FIGURES C_KeepError C_NoWord C_NoTable C_NoPlace C_NoBlock C_NoDay C_NoBase C_NoLine C_Piece C_Whole C_Gain C_Days C_DAYS_TOLD) (D_Days_written:MethX P w K mg base C_Days "written" 4 ["self","one","other"] (sp_written C_Days C_NoDay)) (D_NoBase:ExcX P w K mg base "NoBase" C_NoBase 1 ["self","base","day"] (sp_x2 C_NoBase "base" "day")) (D_Days_table:MethX P w K mg base C_Days "table" 4 ["self","day"] (sp_table C_Days C_NoDay)) (D_Gain_d1:MakeXd P w K mg base "Gain" C_Gain 4 ["self","base","day","rows","check"] [Value.none] (sp_ginit C_Whole C_Gain)):FnOk P w K mg base (CXx P w) 6 f fd ["days","base","day"] (sp_gainof C_Days C_Whole C_Gain C_NoDay C_NoBase):=by
  refine F.okX sc_gain_of (fun vs H Q E h=>?_) (fun cdv A outer s H vs Q E hr h=>?_)
  · obtain ⟨p,wd,tabs,sets,base,day,rfl,hD,q1,q2,q3⟩:=h; rfl
  obtain ⟨p,wd,tabs,sets,base,day,rfl,hD,q1,q2,q3⟩:=h
  refine ⟨_,(pss_cons (ps_set (i:=3) sc_gain_of.nd rfl (Or.inl rfl) (pe_methS (pv 0) T.cl_Days D_Days_written passesB (hr.mono (by decide)) (pa_cons (pv 1) (pa_cons (pv 2) pa_nil))))
      (pss_cons (ps_if (pt_cmpR op_ge (pv 1) (pv 2) (nomark _)) (pss_one (ps_raise rfl raisesB (pe_exc D_NoBase (hr.mono (by decide)) rfl (pa_cons (pv 1) (pa_cons (pv 2) pa_nil))))) pss_nil)
      (pss_cons (ps_set (i:=4) sc_gain_of.nd rfl (Or.inr rfl) (pe_methS (pv 0) T.cl_Days D_Days_table passesB (hr.mono (by decide)) (pa_cons (pv 2) pa_nil)))
      (pss_one (ps_ret (pe_makeSd (dvs:=[V.non]) D_Gain_d1 (Paired.cons rfl Paired.nil) passesN (hr.mono (by decide)) rfl (pa_cons (pv 1) (pa_cons (pv 2) (pa_cons (pe_comp (N:=["place","table"]) (k:=1) (cap:=[4]) rfl rfl (pi_list (pv 3)) (fun _ _ _ _=>(pg_name (i:=0) (show (["place","table"]:List Str).Nodup from by decide +kernel) rfl (Or.inl rfl) (.inr rfl))) (fun _ _ _ _=>pts_nil) (fun _ _ _ _=>(pe_tup (pa_cons (pv 0) (pa_cons (pe_ix (ix_listK (K:=K) rfl) (pv 1) (pv 0) (fun _ _=>rfl)) pa_nil))))) pa_nil))))))))),?_⟩
  have upK:∀ {H4:Hp} {x dx:Addr} {o:HO},H4 x = none->H4 dx = none->∀ t o',H4 t = some o'->upd (upd H4 dx (.own x)) x o t = some o':=fun hx hd t o' e=>by rw [upd_ne (ne_of_none e hx),upd_ne (ne_of_none e hd)]; exact e
  obtain ⟨ta,sa,TL,SL,D⟩:=hD.D
  obtain ⟨dx,ob⟩:=D.ob
  refine ⟨_,rfl,p,dx,_,rfl,ob,fl_no (by decide +kernel) (by decide +kernel) (by decide +kernel) (by decide +kernel),_,rfl,_,rfl,p,ta,sa,TL,SL,wd,tabs,sets,base,day,rfl,D,hD.S,hD.n,fun hb hd r ns H1 hr1 nr hp hm s1=>?_,fun d h=>q3 d h⟩
  refine gNameA [some (.ref p),some (.int base),some (.int day),some (.ref r),none] ?_
  dsimp only
  by_cases hlt:base < day
  · refine if_no (fun Qb hq=>?_) ?_
    · refine ⟨_,rfl,_,rfl,_,_,rfl,rfl,_,rfl,?_⟩
      rw [decide_eq_false (show ¬ day ≤ base by omega)]; exact hq
    unfold tNext
    dsimp only
    have D1:=D.same s1
    obtain ⟨dx1,ob1⟩:=D1.ob
    refine ⟨_,rfl,p,dx1,_,rfl,ob1,fl_no (by decide +kernel) (by decide +kernel) (by decide +kernel) (by decide +kernel),_,rfl,p,ta,sa,TL,SL,wd,tabs,sets,day,rfl,D1,fun _ t tab htab hn=>?_,fun h=>absurd hd h⟩
    have hTab:=hD.T tab (List.mem_of_getElem? htab)
    have s2:Same H1 (upd H1 t (.lst (tab.map V.int))):=Same.new hn
    have ht2:upd H1 t (.lst (tab.map V.int)) t = some (.lst (tab.map V.int)):=upd_same
    generalize upd H1 t (.lst (tab.map V.int)) = H2 at s2 ht2 ⊢
    refine gNameA [some (.ref p),some (.int base),some (.int day),some (.ref r),some (.ref t)] ?_
    dsimp only
    rw [show min base day = base by omega,show max base day = day by omega] at hm
    obtain ⟨b,rfl⟩:∃ b:Nat,base = (b:Int):=⟨base.toNat,by have:=hb.1; omega⟩
    obtain ⟨d,rfl⟩:∃ d:Nat,day = (d:Int):=⟨day.toNat,by have:=hd.1; omega⟩
    have hin:∀ k ∈ ns,0 ≤ k /\ k < (wd:Int):=fun k hk=>days_in hD.S ((hm k).mp hk)
    have hnl:=rise_few hp hin
    have hw40:=D.w2
    have hr2:=s2 _ _ hr1
    refine ⟨_,rfl,_,rfl,_,rfl,r,rfl,⟨_,SqL.of hr2⟩,fun D' hD'=>?_⟩
    refine comp_list D' (K:=K) (a:=r) (xs:=ns.map V.int) (fun i σ H3 ys=>∃ v:Option V,σ = [v,some (.ref t)] /\ Same H2 H3 /\ H3 D' = some (.lst ys) /\ RowsAt H3 ys (growsI (ns.take i) tab)) ⟨none,rfl,Same.new hD',upd_same,⟨rfl,fun i v e=>by simp at e⟩⟩ (fun i σ H3 ys _ ⟨_,_,s3,_⟩=>SqL.of (s3 _ _ hr2)) ?_ ?_
    · rintro i v σ H3 ys hi ⟨v0,rfl,s3,hD3,R3⟩
      rw [List.getElem?_map] at hi
      obtain ⟨k,hk,rfl⟩:=Option.map_eq_some_iff.mp hi
      have hkb:=hin k (List.mem_of_getElem? hk)
      have hkt:k.toNat < tab.length:=by rw [hTab.1]; omega
      have tk:ns.take (i + 1) = ns.take i ++ [k]:=by rw [List.take_add_one,hk]; rfl
      have hz0:=hTab.2 tab[k.toNat] (List.getElem_mem hkt)
      have hgd:tab.getD k.toNat 0 = tab[k.toNat]:=by rw [List.getD_eq_getElem?_getD,List.getElem?_eq_getElem hkt]; rfl
      refine ⟨_,rfl,_,rfl,_,rfl,t,_,_,V.int tab[k.toNat],rfl,rfl,SqL.of (s3 _ _ ht2),?_,(by show 2 ≤ sizeLine; decide),fun t2 ht3=>?_⟩
      · obtain ⟨j,rfl⟩:∃ j:Nat,k = (j:Int):=⟨k.toNat,by omega⟩
        have hj:j < tab.length:=hkt
        exact atI_nat (by rw [List.getElem?_map,List.getElem?_eq_getElem hj]; rfl)
      have nD:D' ≠ t2:=ne_of_none hD3 ht3
      refine ⟨by rw [upd_ne nD]; exact hD3,by rw [R3.len,grows_len,List.length_take]; exact small1000 (by omega),_,rfl,fun b' o e=>?_,upd_same,?_⟩
      · rw [upd_ne (ne_of_none e hD')]; exact Same.new ht3 b' _ (s3 b' _ e)
      · rw [tk,grows_snoc]
        refine (R3.mono fun b' xs e=>?_).snoc ?_
        · rw [upd_ne (ne_of e hD3 (by intro z; cases z))]; exact Same.new ht3 b' _ e
        · rw [upd_ne nD.symm,upd_same]
          show some (HO.tup [V.int k,V.int tab[k.toNat]]) = some (HO.tup [V.int (k.toNat:Int),V.int ((tab.getD k.toNat 0).toNat:Int)])
          rw [hgd,Int.toNat_of_nonneg hkb.1,Int.toNat_of_nonneg hz0]
    · rintro σ H3 ys ⟨v0,rfl,s3,hD3,R3⟩
      rw [List.length_map,List.take_length] at R3
      refine fun x dx hx hdx ne=>⟨x,dx,D',b,d,ys,growsI ns tab,.non,_,rfl,upd_same,.inl (upK hx hdx _ _ hD3),R3.mono (fun t xs e=>upK hx hdx t _ e),by rw [grows_len]; omega,.inl ⟨rfl,rfl⟩,fun J5 hP k5=>⟨rfl,?_⟩⟩
      exact q1 hb hd hlt x ns tab J5 htab hp hm hP ((s1.trans (s2.trans s3)).trans (made_same hx hdx k5))
  · refine if_yes (fun Qb hq=>?_) ?_
    · refine ⟨_,rfl,_,rfl,_,_,rfl,rfl,_,rfl,?_⟩
      rw [decide_eq_true (show day ≤ base by omega)]; exact hq
    exact ⟨_,rfl,_,rfl,raise2 (E:=E) T.x_NoBase fun e H' he hs=>q2 hb hd (by omega) e H' he (s1.trans hs)⟩
theorem ok_writes_number {f:Addr} {fd:FuncData} (F:Fun K "writes_number" "writes_number" s_writes_number f fd) (T:Txt K mg t_W t_MOST_BLOCKS t_MOST_FIGURES t_MOST_DAY t_FIGURES t_CHECK_FIGURES C_KeepError C_NoWord C_NoTable C_NoPlace C_NoBlock C_NoDay C_NoBase C_NoLine C_Piece C_Whole C_Gain C_Days C_DAYS_TOLD) :FnOk P w K mg base (CXx P w) 1 f fd ["word"] (sp_writes):=by
  refine F.okX sc_writes_number (fun vs H Q E h=>?_) (fun cdv A outer s H vs Q E hr h=>?_)
  · obtain ⟨z,rfl,hz,q⟩:=h; rfl
  obtain ⟨z,rfl,hz,q⟩:=h
  refine ⟨_,(pss_cons (ps_if (pt_cmpR op_eq (pv 0) pe_str (nomark _)) (pss_one (ps_ret pe_bl)) pss_nil)
      (pss_cons (ps_if (PW.pt (pw_or (pt_cmpR op_lt (pe_callB call_len_str (by rfl) T.b_len PySem.boot_len (pa_cons (pv 0) pa_nil)) pe_int (nomark _)) (pw_or (pt_cmpR op_gt (pe_callB call_len_str (by rfl) T.b_len PySem.boot_len (pa_cons (pv 0) pa_nil)) (pe_glob (v:=.int 20) rfl T.m_MOST_FIGURES ⟨_,rfl⟩) (nomark _)) (pw_or1 (pt_cmpR op_eq (pe_ix ix_str (pv 0) pe_int (fun _ _=>rfl)) pe_str (nomark _)))))) (pss_one (ps_ret pe_bl)) pss_nil)
      (pss_one (ps_ret (pe_callB (call_all_bl rfl) (by rfl) T.b_all PyProof.Rows.boot_all (pa_cons (pe_comp (N:=["sign"]) (k:=1) (cap:=[]) rfl rfl (pi_str (pv 0)) (fun _ _ _ _=>(pg_name (i:=0) (show (["sign"]:List Str).Nodup from by decide +kernel) rfl (Or.inl rfl) (.inr rfl))) (fun _ _ _ _=>pts_nil) (fun _ _ _ _=>(pe_cmpR op_in_str (pv 0) (pe_glob (v:=.str (PySem.Str.ofString "0123456789")) rfl T.m_FIGURES ⟨_,rfl⟩) (by with_unfolding_all rfl)))) pa_nil)))))),?_⟩
  have hzl:z.length ≤ sizeLine:=Nat.le_trans hz (by decide)
  refine ⟨_,rfl,rfl,_,rfl,?_⟩
  by_cases h0:z = Str.ofString "0"
  · subst h0
    refine iteY rfl ?_
    have e:okW (Str.ofString "0") = true:=by decide +kernel
    rw [e] at q
    exact q H (Same.refl H)
  refine iteN (fun h=>h0 (V.str.inj h)) ?_
  refine ⟨_,rfl,z,rfl,hzl,_,_,rfl,rfl,_,rfl,?_⟩
  by_cases h1:¬ 1 ≤ z.length
  · refine iteY (by omega) ?_
    refine iteT ?_
    rw [okW_lo h1] at q
    exact q H (Same.refl H)
  have h1:=Classical.not_not.mp h1
  refine iteN (by omega) ?_
  refine ⟨_,rfl,z,rfl,hzl,_,_,rfl,rfl,_,rfl,?_⟩
  by_cases h2:¬ z.length ≤ 20
  · refine iteY (by omega) ?_
    refine iteT ?_
    rw [okW_hi h2] at q
    exact q H (Same.refl H)
  have h2:=Classical.not_not.mp h2
  refine iteN (by omega) ?_
  obtain ⟨c0,hc0⟩:=str_first h1
  refine ⟨_,rfl,z,0,c0,rfl,rfl,hzl,atI_nat (j:=0) hc0,rfl,_,rfl,?_⟩
  by_cases h3:c0 = 48
  · subst h3
    refine iteY rfl ?_
    rw [okW_zero (fun h=>h0 (str_zero h hc0)) hc0] at q
    exact q H (Same.refl H)
  refine iteN (fun h=>h3 (one_eq.mp h)) ?_
  rw [okW_all h1 h2 (.inr fun h=>h3 (by rw [hc0] at h; exact Option.some.inj h))] at q
  refine ⟨_,rfl,z,rfl,fun D' hD'=>?_⟩
  refine comp_str D' (x:=z) (fun i σ H5 ys=>∃ v:Option V,σ = [v] /\ H5 = upd H D' (.lst ys) /\ ys = ((z.cps.toList.take i).map figB).map V.bl) ⟨none,rfl,rfl,rfl⟩ ?_ ?_
  · rintro i c σ H5 ys hi ⟨v,rfl,rfl,hy⟩
    have hi2:z.cps.toList[i]? = some c:=by simpa using hi
    refine ⟨_,rfl,_,_,rfl,rfl,upd_same,?_,_,rfl,by rw [upd_upd],?_⟩
    · rw [hy,List.length_map,List.length_map,List.length_take,str_len]; exact small1000 (by omega)
    · rw [hy,List.take_add_one,hi2]; simp [figB]
  · rintro σ H5 ys ⟨v,rfl,rfl,hy⟩
    refine ⟨D',(z.cps.toList.map figB),rfl,SqL.of ?_,?_⟩
    · rw [upd_same,hy,List.take_of_length_le (by simp)]
    · have e:(z.cps.toList.map figB).all id = isNum z:=by unfold isNum; rw [List.all_map]; rfl
      rw [e]
      exact q _ (Same.new hD')
theorem ok_number_of {f:Addr} {fd:FuncData} (F:Fun K "number_of" "number_of" s_number_of f fd) (T:Txt K mg t_W t_MOST_BLOCKS t_MOST_FIGURES t_MOST_DAY t_FIGURES t_CHECK_FIGURES C_KeepError C_NoWord C_NoTable C_NoPlace C_NoBlock C_NoDay C_NoBase C_NoLine C_Piece C_Whole C_Gain C_Days C_DAYS_TOLD) (D_writes_number:DefX P w K mg base "writes_number" 1 ["word"] sp_writes) (D_NoWord:ExcX P w K mg base "NoWord" C_NoWord 1 ["self","word"] (sp_x1 C_NoWord "word")):FnOk P w K mg base (CXx P w) 3 f fd ["word"] (sp_numof):=by
  refine F.okX sc_number_of (fun vs H Q E h=>?_) (fun cdv A outer s H vs Q E hr h=>?_)
  · obtain ⟨n,rfl,hn,q⟩:=h; rfl
  obtain ⟨n,rfl,hn,q⟩:=h
  refine ⟨_,(pss_cons (ps_if (pt_not (pt_val (pe_callS D_writes_number passesN (hr.mono (by decide)) rfl (pa_cons (pv 0) pa_nil)))) (pss_one (ps_raise rfl raisesB (pe_exc D_NoWord (hr.mono (by decide)) rfl (pa_cons (pv 0) pa_nil)))) pss_nil)
      (pss_one (ps_ret (pe_callTy call_int_str (by rfl) T.b_int PyProof.Rows.boot_int (pa_cons (pv 0) pa_nil))))),?_⟩
  have hz:=numT_len hn.1 hn.2
  refine ⟨_,rfl,numT n,rfl,by omega,fun H1 s1=>⟨_,rfl,?_⟩⟩
  rw [numT_ok hn.1 hn.2]
  refine iteF ?_
  exact ⟨_,rfl,numT n,n,rfl,numT_int hn.1 hn.2,by omega,q H1 s1⟩
theorem ok_change_of {f:Addr} {fd:FuncData} (F:Fun K "change_of" "change_of" s_change_of f fd) (T:Txt K mg t_W t_MOST_BLOCKS t_MOST_FIGURES t_MOST_DAY t_FIGURES t_CHECK_FIGURES C_KeepError C_NoWord C_NoTable C_NoPlace C_NoBlock C_NoDay C_NoBase C_NoLine C_Piece C_Whole C_Gain C_Days C_DAYS_TOLD) (D_writes_number:DefX P w K mg base "writes_number" 1 ["word"] sp_writes) (D_NoWord:ExcX P w K mg base "NoWord" C_NoWord 1 ["self","word"] (sp_x1 C_NoWord "word")):FnOk P w K mg base (CXx P w) 3 f fd ["word"] (sp_change):=by
  refine F.okX sc_change_of (fun vs H Q E h=>?_) (fun cdv A outer s H vs Q E hr h=>?_)
  · obtain ⟨c,rfl,hc,q⟩:=h; rfl
  obtain ⟨c,rfl,hc,q⟩:=h
  refine ⟨_,(pss_cons (ps_set (i:=1) sc_change_of.nd rfl (Or.inl rfl) (pe_bm PySem.F.plainAttrs_str PySem.F.slot_str_split PySem.F.type_str_split mt_split (pv 0) (pa_cons pe_str pa_nil)))
      (pss_cons (ps_if (PW.pt (pw_or (pt_cmpR op_ne (pe_callB call_len_seq (by rfl) T.b_len PySem.boot_len (pa_cons (pv 1) pa_nil)) pe_int (nomark _)) (pw_or (pt_not (pt_val (pe_callS D_writes_number passesN (hr.mono (by decide)) rfl (pa_cons (pe_ix ix_list (pv 1) pe_int (fun _ _=>rfl)) pa_nil)))) (pw_or1 (pt_not (pt_val (pe_callS D_writes_number passesN (hr.mono (by decide)) rfl (pa_cons (pe_ix ix_list (pv 1) pe_int (fun _ _=>rfl)) pa_nil)))))))) (pss_one (ps_raise rfl raisesB (pe_exc D_NoWord (hr.mono (by decide)) rfl (pa_cons (pv 0) pa_nil)))) pss_nil)
      (pss_one (ps_ret (pe_tup (pa_cons (pe_callTy call_int_str (by rfl) T.b_int PyProof.Rows.boot_int (pa_cons (pe_ix ix_list (pv 1) pe_int (fun _ _=>rfl)) pa_nil)) (pa_cons (pe_callTy call_int_str (by rfl) T.b_int PyProof.Rows.boot_int (pa_cons (pe_ix ix_list (pv 1) pe_int (fun _ _=>rfl)) pa_nil)) pa_nil))))))),?_⟩
  have lw:=wordOf_len hc
  refine ⟨_,rfl,rfl,wordOf c,Str.ofString "=",rfl,rfl,by decide +kernel,by omega,fun p hp=>?_⟩
  rw [wordSplitS hc]
  have hp2:upd H p (.lst ([numT c.1,numT c.2].map V.str)) p = some (.lst [V.str (numT c.1),V.str (numT c.2)]):=upd_same
  have s0:Same H (upd H p (.lst ([numT c.1,numT c.2].map V.str))):=Same.new hp
  generalize upd H p (.lst ([numT c.1,numT c.2].map V.str)) = H0 at hp2 s0
  refine ⟨_,rfl,p,_,rfl,.inl (SqL.of hp2),rfl,_,rfl,?_⟩
  refine iteNS rfl ?_
  have l1:=numT_len hc.1.1 hc.1.2
  have l2:=numT_len hc.2.1 hc.2.2
  refine ⟨_,rfl,p,_,_,V.str (numT c.1),rfl,rfl,SqL.of hp2,atI_nat (j:=0) rfl,numT c.1,rfl,by omega,fun H1 s1=>?_⟩
  rw [numT_ok hc.1.1 hc.1.2]
  refine ⟨_,rfl,?_⟩
  refine iteF ?_
  refine ⟨_,rfl,p,_,_,V.str (numT c.2),rfl,rfl,SqL.of (s1 p _ hp2),atI_nat (j:=1) rfl,numT c.2,rfl,by omega,fun H2 s2=>?_⟩
  rw [numT_ok hc.2.1 hc.2.2]
  refine ⟨_,rfl,?_⟩
  refine iteF ?_
  have hp3:=s2 p _ (s1 p _ hp2)
  refine ⟨_,rfl,p,_,_,V.str (numT c.1),rfl,rfl,SqL.of hp3,atI_nat (j:=0) rfl,numT c.1,c.1,rfl,numT_int hc.1.1 hc.1.2,by omega,_,rfl,p,_,_,V.str (numT c.2),rfl,rfl,SqL.of hp3,atI_nat (j:=1) rfl,numT c.2,c.2,rfl,numT_int hc.2.1 hc.2.2,by omega,(by show 2 ≤ sizeLine; decide),fun t ht=>?_⟩
  exact q t _ upd_same (((s0.trans s1).trans s2).trans (Same.new ht))
theorem ok_text_of {f:Addr} {fd:FuncData} (F:Fun K "text_of" "text_of" s_text_of f fd) (T:Txt K mg t_W t_MOST_BLOCKS t_MOST_FIGURES t_MOST_DAY t_FIGURES t_CHECK_FIGURES C_KeepError C_NoWord C_NoTable C_NoPlace C_NoBlock C_NoDay C_NoBase C_NoLine C_Piece C_Whole C_Gain C_Days C_DAYS_TOLD) :FnOk P w K mg base (CXx P w) 1 f fd ["changes"] (sp_text K):=by
  refine F.okX sc_text_of (fun vs H Q E h=>?_) (fun cdv A outer s H vs Q E hr h=>?_)
  · obtain ⟨a,L,chs,rfl,ha,R,hg,hl,q⟩:=h; rfl
  obtain ⟨a,L,chs,rfl,ha,R,hg,hl,q⟩:=h
  refine ⟨_,(pss_one (ps_ret (pe_bm PySem.F.plainAttrs_str PySem.F.slot_str_join PySem.F.type_str_join mt_join pe_str (pa_cons (pe_comp (N:=["place","block"]) (k:=2) (cap:=[]) rfl rfl (pi_list (pv 0)) (fun _ _ _ _=>(pg_tupK (K:=K) (n:=2) rfl rfl (pgs_cons (pg_name (i:=0) (show (["place","block"]:List Str).Nodup from by decide +kernel) rfl (Or.inl rfl) (.inr rfl)) (pgs_cons (pg_name (i:=1) (show (["place","block"]:List Str).Nodup from by decide +kernel) rfl (Or.inl rfl) (.inr rfl)) pgs_nil)))) (fun _ _ _ _=>pts_nil) (fun _ _ _ _=>(pe_fs3 (pv 0) pe_str (pv 1)))) pa_nil)))),?_⟩
  refine ⟨rfl,_,rfl,a,rfl,⟨_,SqL.of ha⟩,fun D hD=>?_⟩
  have naD:a ≠ D:=ne_of_none ha hD
  refine comp_list D (K:=K) (a:=a) (xs:=L) (fun i σ H5 ys=>∃ v v':Option V,σ = [v,v'] /\ H5 = upd H D (.lst ys) /\ ys = ((chs.take i).map wordOf).map V.str) ⟨none,none,rfl,rfl,rfl⟩ (fun i σ H5 ys _ ⟨_,_,_,e,_⟩=>by rw [e]; exact SqL.of (by rw [upd_ne naD]; exact ha)) ?_ ?_
  · rintro i x σ H5 ys hi ⟨v,v',rfl,rfl,hy⟩
    obtain ⟨t,r,rfl,hr2,ht⟩:=R.get i x hi
    have hgr:=hg r (List.mem_of_getElem? hr2)
    have ht5:upd H D (.lst ys) t = some (.tup [.int r.1,.int r.2]):=by rw [upd_ne (ne_of_none ht hD)]; exact ht
    refine ⟨t,_,rfl,SqT.of ht5,rfl,_,_,rfl,_,_,rfl,rfl,_,rfl,r.1,rfl,log20 hgr.1.1 hgr.1.2,_,rfl,r.2,rfl,log20 hgr.2.1 hgr.2.2,upd_same,?_,_,_,rfl,by rw [upd_upd],?_⟩
    · rw [hy,List.length_map,List.length_map,List.length_take]; exact small1000 (by omega)
    · rw [wordS,hy,List.take_add_one,hr2]; simp
  rintro σ H5 ys ⟨v,v',rfl,rfl,hy⟩
  rw [show chs.take L.length = chs by rw [R.len,List.take_length]] at hy
  subst hy
  refine ⟨_,D,chs.map wordOf,rfl,rfl,SqL.of upd_same,words_ok hg (by omega) (by decide +kernel),?_⟩
  rw [textS]
  exact q _ (Same.new hD)
theorem ok_line_of {f:Addr} {fd:FuncData} (F:Fun K "line_of" "line_of" s_line_of f fd) (T:Txt K mg t_W t_MOST_BLOCKS t_MOST_FIGURES t_MOST_DAY t_FIGURES t_CHECK_FIGURES C_KeepError C_NoWord C_NoTable C_NoPlace C_NoBlock C_NoDay C_NoBase C_NoLine C_Piece C_Whole C_Gain C_Days C_DAYS_TOLD) (D_Gain_kind:MethX P w K mg base C_Gain "kind" 1 ["self"] sp_gkind) (D_Whole_kind:MethX P w K mg base C_Whole "kind" 1 ["self"] sp_wkind) (D_text_of:DefX P w K mg base "text_of" 1 ["changes"] (sp_text K)):FnOk P w K mg base (CXx P w) 4 f fd ["piece"] (sp_lineof C_Whole C_Gain):=by
  refine F.okX sc_line_of (fun vs H Q E h=>?_) (fun cdv A outer s H vs Q E hr h=>?_)
  · obtain ⟨p,u,rfl,hP,hL,q⟩:=h; rfl
  obtain ⟨p,u,rfl,hP,hL,q⟩:=h
  refine ⟨_,(pss_cons (ps_set (i:=1) sc_line_of.nd rfl (Or.inl rfl) (pe_lst (pa_cons (pe_or2 (pe_methS0 (pv 0) T.cl_Whole D_Whole_kind passesN (hr.mono (by decide))) (pe_methS0 (pv 0) T.cl_Gain D_Gain_kind passesN (hr.mono (by decide)))) pa_nil)))
      (pss_cons (ps_if (pt_cmpR op_eq (pe_or2 (pe_methS0 (pv 0) T.cl_Whole D_Whole_kind passesN (hr.mono (by decide))) (pe_methS0 (pv 0) T.cl_Gain D_Gain_kind passesN (hr.mono (by decide)))) pe_str (nomark _)) (pss_one (ps_expr (pe_bm PySem.F.plainAttrs_list PySem.F.slot_list_append PySem.F.type_list_append mt_append (pv 1) (pa_cons (pe_callTy call_str_int (by rfl) T.b_str PyProof.Rows.boot_str (pa_cons (pe_fld (pv 0) rfl) pa_nil)) pa_nil)))) pss_nil)
      (pss_cons (ps_expr (pe_bm PySem.F.plainAttrs_list PySem.F.slot_list_append PySem.F.type_list_append mt_append (pv 1) (pa_cons (pe_callTy call_str_int (by rfl) T.b_str PyProof.Rows.boot_str (pa_cons (pe_fld (pv 0) rfl) pa_nil)) pa_nil)))
      (pss_cons (ps_expr (pe_bm PySem.F.plainAttrs_list PySem.F.slot_list_extend PySem.F.type_list_extend mt_extend (pv 1) (pa_cons (pe_comp (N:=["row"]) (k:=1) (cap:=[]) rfl rfl (pi_tup (pe_fld (pv 0) rfl)) (fun _ _ _ _=>(pg_name (i:=0) (show (["row"]:List Str).Nodup from by decide +kernel) rfl (Or.inl rfl) (.inr rfl))) (fun _ _ _ _=>pts_nil) (fun _ _ _ _=>(pe_callS D_text_of passesN (hr.mono (by decide)) rfl (pa_cons (pe_lst (pa_cons (pv 0) pa_nil)) pa_nil)))) pa_nil)))
      (pss_cons (ps_expr (pe_bm PySem.F.plainAttrs_list PySem.F.slot_list_append PySem.F.type_list_append mt_append (pv 1) (pa_cons (pe_bm PySem.F.plainAttrs_str PySem.F.slot_str_zfill PySem.F.type_str_zfill mt_zfill (pe_callTy call_str_int (by rfl) T.b_str PyProof.Rows.boot_str (pa_cons (pe_fld (pv 0) rfl) pa_nil)) (pa_cons (pe_glob (v:=.int 20) rfl T.m_CHECK_FIGURES ⟨_,rfl⟩) pa_nil)) pa_nil)))
      (pss_one (ps_ret (pe_bm PySem.F.plainAttrs_str PySem.F.slot_str_join PySem.F.type_str_join mt_join pe_str (pa_cons (pv 1) pa_nil))))))))),?_⟩
  obtain ⟨dx,r,R,h1,h2,h3⟩:=id hP
  have hlen:=hL.len
  have hcl:Cls K (cond u.wh C_Whole C_Gain) /\ NoAttr K (cond u.wh C_Whole C_Gain) "day" /\ NoAttr K (cond u.wh C_Whole C_Gain) "rows" /\ NoAttr K (cond u.wh C_Whole C_Gain) "check":=by
    cases u.wh
    · exact ⟨T.cl_Gain,T.n_Gain_day,T.n_Gain_rows,T.n_Gain_check⟩
    · exact ⟨T.cl_Whole,T.n_Whole_day,T.n_Whole_rows,T.n_Whole_check⟩
  have lkd:∀ {f:Bool},List.lookup ("day":Str) (pfs u.wh u.b u.d r u.c f) = some (.int (u.d:Int)):=by intro f; cases u.wh <;> exact lk_day
  have lkc:∀ {f:Bool},List.lookup ("check":Str) (pfs u.wh u.b u.d r u.c f) = some (.int u.c):=by intro f; cases u.wh <;> exact lk_check
  have kno:∀ {f:Bool},List.lookup ("kind":Str) (pfs u.wh u.b u.d r u.c f) = none:=by intro f; exact lk_no (by decide +kernel) (by decide +kernel) (by decide +kernel) (by decide +kernel)
  have gd:=hL.gd
  have gb:=hL.gb
  have gc:=hL.gc
  have hk:kindU u = cond u.wh (Str.ofString "whole") (Str.ofString "gain"):=by unfold kindU; cases u.wh <;> rfl
  refine cutA (fun σ H'=>∃ l:Addr,σ = [some (.ref p),some (.ref l)] /\ Same H H' /\ H l = none /\ H' l = some (.lst ([kindU u].map V.str))) (fun N hN=>?_) ?_
  · rw [hk] at hN
    cases hw:u.wh with
    | true =>
      rw [hw] at h1 kno hN
      refine .inl ⟨_,rfl,p,dx,_,rfl,h1,kno,p,rfl,(by show 1 ≤ sizeLine; decide),fun l hl=>?_⟩
      exact hN _ _ ⟨l,rfl,Same.new hl,hl,upd_same⟩
    | false =>
      rw [hw] at h1 kno hN
      refine .inr ⟨_,rfl,p,dx,_,rfl,h1,kno,p,rfl,(by show 1 ≤ sizeLine; decide),fun l hl=>?_⟩
      exact hN _ _ ⟨l,rfl,Same.new hl,hl,upd_same⟩
  rintro σ H1 ⟨l,rfl,s1,nl,hl1⟩
  have h11:=s1 _ _ h1
  refine cutA (fun σ H'=>∃ hs:List Str,σ = [some (.ref p),some (.ref l)] /\ Same H H' /\ H' l = some (.lst (hs.map V.str)) /\ hs ++ [numT (u.d:Int)] = headU u /\ hs.length ≤ 2) (fun N hN=>?_) ?_
  · rw [hk] at hl1
    cases hw:u.wh with
    | true =>
      rw [hw] at h11 kno hl1
      refine if_no (fun Qb hq=>.inl ⟨_,rfl,p,dx,_,rfl,h11,kno,p,rfl,rfl,_,rfl,?_⟩) ?_
      · rw [decide_eq_false (fun h=>absurd (V.str.inj h) (by decide +kernel))]; exact hq
      exact hN _ _ ⟨[Str.ofString "whole"],rfl,s1,hl1,by unfold headU; rw [hw]; rfl,by simp⟩
    | false =>
      rw [hw] at h11 kno hl1
      refine if_yes (fun Qb hq=>.inr ⟨_,rfl,p,dx,_,rfl,h11,kno,p,rfl,rfl,_,rfl,?_⟩) ?_
      · rw [decide_eq_true rfl]; exact hq
      refine ⟨_,rfl,.inl ⟨rfl,_,SqL.of hl1⟩,_,rfl,p,C_Gain,dx,_,_,rfl,h11,T.cl_Gain,T.n_Gain_base,lk_base,(u.b:Int),rfl,log20 gb.1 gb.2,l,_,_,rfl,rfl,hl1,(by show 1 < sizeLine; decide),?_⟩
      refine hN _ _ ⟨[Str.ofString "gain",numT (u.b:Int)],rfl,fun b o e=>?_,upd_same,by unfold headU; rw [hw]; rfl,by simp⟩
      rw [upd_ne (ne_of_none e nl)]; exact s1 b o e
  rintro σ H2 ⟨hs,rfl,s2,hl2,hhs,hsl⟩
  refine cutA (fun σ H'=>σ = [some (.ref p),some (.ref l)] /\ Same H H' /\ H' l = some (.lst ((headU u).map V.str))) (fun N hN=>?_) ?_
  · refine ⟨_,rfl,.inl ⟨rfl,_,SqL.of hl2⟩,_,rfl,p,_,dx,_,_,rfl,s2 _ _ h1,hcl.1,hcl.2.1,lkd,(u.d:Int),rfl,log20 gd.1 gd.2,l,_,_,rfl,rfl,hl2,by rw [List.length_map]; exact small1000 (by omega),?_⟩
    refine hN _ _ ⟨rfl,fun b o e=>?_,?_⟩
    · rw [upd_ne (ne_of_none e nl)]; exact s2 b o e
    · rw [upd_same,← hhs,List.map_append]; rfl
  rintro σ H3 ⟨rfl,s3,hl3⟩
  have hhl:(headU u).length ≤ 3:=by rw [← hhs,List.length_append,List.length_singleton]; omega
  refine cutA (fun σ H'=>σ = [some (.ref p),some (.ref l)] /\ Same H H' /\ H' l = some (.lst ((headU u ++ u.rows.map (fun r=>wordOf (rowC r))).map V.str))) (fun N hN=>?_) ?_
  · refine ⟨_,rfl,.inl ⟨rfl,_,SqL.of hl3⟩,_,rfl,p,_,dx,_,_,rfl,s3 _ _ h1,hcl.1,hcl.2.2.1,lk_rows2,r,rfl,⟨_,SqT.of (s3 _ _ h2)⟩,fun D hD=>?_⟩
    refine comp_tup D (K:=K) (a:=r) (xs:=R) (fun i σ H5 ys=>∃ v:Option V,σ = [v] /\ Same H3 H5 /\ H5 D = some (.lst ys) /\ ys = ((u.rows.take i).map fun r=>wordOf (rowC r)).map V.str) ⟨none,rfl,Same.new hD,upd_same,rfl⟩ (fun i σ H5 ys _ ⟨_,_,s5,_⟩=>SqT.of (s5 _ _ (s3 _ _ h2))) ?_ ?_
    · rintro i x σ H5 ys hi ⟨v,rfl,s5,hy,rfl⟩
      obtain ⟨t,rr,rfl,hr2,ht⟩:=h3.get i x hi
      have hg:=hL.good rr (List.mem_of_getElem? hr2)
      have ht5:=s5 _ _ (s3 _ _ ht)
      refine ⟨_,rfl,(by show 1 ≤ sizeLine; decide),fun q1 hq1=>?_⟩
      refine ⟨q1,[V.ref t],[rowC rr],rfl,upd_same,⟨rfl,fun j v e=>?_⟩,fun c hc=>by rw [List.mem_singleton.mp hc]; exact hg,(by show 1 ≤ 60; decide),fun H6 s6=>?_⟩
      · obtain ⟨rfl,rfl⟩:j = 0 /\ v = V.ref t:=by
          cases j with
          | zero=>exact ⟨rfl,(Option.some.inj e).symm⟩
          | succ j=>cases e
        exact ⟨t,rowC rr,rfl,rfl,by rw [upd_ne (ne_of_none ht5 hq1)]; exact ht5⟩
      · have hy6:=s6 _ _ (by rw [upd_ne (ne_of_none hy hq1)]; exact hy:upd H5 q1 (.lst [V.ref t]) D = _)
        refine ⟨hy6,by rw [List.length_map,List.length_map,List.length_take]; exact small1000 (by omega),_,rfl,fun b o e=>?_,upd_same,by rw [List.take_add_one,hr2,List.map_append,List.map_append]; rfl⟩
        rw [upd_ne (ne_of_none e hD)]
        exact s6 b o (by rw [upd_ne (ne_of_none (s5 b o e) hq1)]; exact s5 b o e)
    · rintro σ H5 ys ⟨v,rfl,s5,hy,rfl⟩
      rw [h3.len,List.take_length] at hy
      refine ⟨l,D,_,_,rfl,rfl,s5 _ _ hl3,hy,by rw [List.length_map,List.length_map,List.length_map]; exact Nat.le_of_lt (small1000 (by omega)),?_⟩
      refine hN _ _ ⟨rfl,fun b o e=>?_,?_⟩
      · rw [upd_ne (ne_of_none e nl)]; exact s5 _ _ (s3 b o e)
      · rw [upd_same,← List.map_append]
  rintro σ H4 ⟨rfl,s4,hl4⟩
  refine cutA (fun σ H'=>σ = [some (.ref p),some (.ref l)] /\ Same H H' /\ H' l = some (.lst ((wordsU u).map V.str))) (fun N hN=>?_) ?_
  · refine ⟨_,rfl,.inl ⟨rfl,_,SqL.of hl4⟩,_,rfl,p,_,dx,_,_,rfl,s4 _ _ h1,hcl.1,hcl.2.2.2,lkc,u.c,rfl,log20 gc.1 gc.2,rfl,_,_,rfl,rfl,by decide,by decide,l,_,_,rfl,rfl,hl4,by rw [List.length_map,List.length_append,List.length_map]; exact small1000 (by omega),?_⟩
    refine hN _ _ ⟨rfl,fun b o e=>?_,?_⟩
    · rw [upd_ne (ne_of_none e nl)]; exact s4 b o e
    · rw [upd_same]; unfold wordsU; rw [List.map_append (l₂:=[ckT u.c])]; rfl
  rintro σ H5 ⟨rfl,s5,hl5⟩
  exact ⟨rfl,_,rfl,_,l,wordsU u,rfl,rfl,SqL.of hl5,line_fits hL,q H5 s5⟩
theorem ok_check_by_word {f:Addr} {fd:FuncData} (F:Fun K "check_by_word" "check_by_word" s_check_by_word f fd) (T:Txt K mg t_W t_MOST_BLOCKS t_MOST_FIGURES t_MOST_DAY t_FIGURES t_CHECK_FIGURES C_KeepError C_NoWord C_NoTable C_NoPlace C_NoBlock C_NoDay C_NoBase C_NoLine C_Piece C_Whole C_Gain C_Days C_DAYS_TOLD) (D_NoWord:ExcX P w K mg base "NoWord" C_NoWord 1 ["self","word"] (sp_x1 C_NoWord "word")):FnOk P w K mg base (CXx P w) 3 f fd ["word"] (sp_byword):=by
  refine F.okX sc_check_by_word (fun vs H Q E h=>?_) (fun cdv A outer s H vs Q E hr h=>?_)
  · obtain ⟨c,rfl,h0,h1,q⟩:=h; rfl
  obtain ⟨c,rfl,h0,h1,q⟩:=h
  refine ⟨_,(pss_cons (ps_if (PW.pt (pw_or (pt_cmpR op_ne (pe_callB call_len_str (by rfl) T.b_len PySem.boot_len (pa_cons (pv 0) pa_nil)) (pe_glob (v:=.int 20) rfl T.m_CHECK_FIGURES ⟨_,rfl⟩) (nomark _)) (pw_or1 (pt_not (pt_val (pe_callB (call_all_bl rfl) (by rfl) T.b_all PyProof.Rows.boot_all (pa_cons (pe_comp (N:=["sign"]) (k:=1) (cap:=[]) rfl rfl (pi_str (pv 0)) (fun _ _ _ _=>(pg_name (i:=0) (show (["sign"]:List Str).Nodup from by decide +kernel) rfl (Or.inl rfl) (.inr rfl))) (fun _ _ _ _=>pts_nil) (fun _ _ _ _=>(pe_cmpR op_in_str (pv 0) (pe_glob (v:=.str (PySem.Str.ofString "0123456789")) rfl T.m_FIGURES ⟨_,rfl⟩) (by with_unfolding_all rfl)))) pa_nil))))))) (pss_one (ps_raise rfl raisesB (pe_exc D_NoWord (hr.mono (by decide)) rfl (pa_cons (pv 0) pa_nil)))) pss_nil)
      (pss_one (ps_ret (pe_callTy call_int_str (by rfl) T.b_int PyProof.Rows.boot_int (pa_cons (pv 0) pa_nil))))),?_⟩
  have hl:=ckT_len h0 h1
  refine if_B false (fun H'=>Same H H') (fun Qb hq=>?_) (fun h=>by cases h) (fun _ H1 s1=>?_)
  · refine ⟨_,rfl,ckT c,rfl,by rw [hl]; decide,rfl,_,rfl,?_⟩
    refine iteNS (by rw [hl]; rfl) ⟨_,rfl,ckT c,rfl,fun D' hD'=>?_⟩
    refine comp_str D' (x:=ckT c) (fun i σ H5 ys=>∃ v:Option V,σ = [v] /\ H5 = upd H D' (.lst ys) /\ ys = (((ckT c).cps.toList.take i).map figB).map V.bl) ⟨none,rfl,rfl,rfl⟩ ?_ ?_
    · rintro i c' σ H5 ys hi ⟨v,rfl,rfl,hy⟩
      have hi2:(ckT c).cps.toList[i]? = some c':=by simpa using hi
      refine ⟨_,rfl,_,_,rfl,rfl,upd_same,?_,_,rfl,by rw [upd_upd],?_⟩
      · rw [hy,List.length_map,List.length_map,List.length_take,str_len]; exact small1000 (by omega)
      · rw [hy,List.take_add_one,hi2]; simp [figB]
    · rintro σ H5 ys ⟨v,rfl,rfl,hy⟩
      refine ⟨D',((ckT c).cps.toList.map figB),rfl,SqL.of ?_,?_⟩
      · rw [upd_same,hy,List.take_of_length_le (by simp)]
      · have e:((ckT c).cps.toList.map figB).all id = isNum (ckT c):=by unfold isNum; rw [List.all_map]; rfl
        rw [e,ckT_num h0 h1]
        exact ⟨_,rfl,hq _ (Same.new hD')⟩
  try unfold tNext
  dsimp only
  exact ⟨_,rfl,ckT c,c,rfl,ckT_int h0 h1,by rw [hl]; decide,q H1 s1⟩
theorem ok_piece_by_words {f:Addr} {fd:FuncData} (F:Fun K "piece_by_words" "piece_by_words" s_piece_by_words f fd) (T:Txt K mg t_W t_MOST_BLOCKS t_MOST_FIGURES t_MOST_DAY t_FIGURES t_CHECK_FIGURES C_KeepError C_NoWord C_NoTable C_NoPlace C_NoBlock C_NoDay C_NoBase C_NoLine C_Piece C_Whole C_Gain C_Days C_DAYS_TOLD) (D_number_of:DefX P w K mg base "number_of" 3 ["word"] sp_numof) (D_change_of:DefX P w K mg base "change_of" 3 ["word"] sp_change) (D_check_by_word:DefX P w K mg base "check_by_word" 3 ["word"] sp_byword) (D_Whole:MakeX P w K mg base "Whole" C_Whole 4 ["self","day","rows","check"] (sp_winit C_Whole C_Gain)) (D_Gain:MakeX P w K mg base "Gain" C_Gain 4 ["self","base","day","rows","check"] (sp_ginit C_Whole C_Gain)):FnOk P w K mg base (CXx P w) 6 f fd ["words","many"] (sp_bywords C_Whole C_Gain):=by
  refine F.okX sc_piece_by_words (fun vs H Q E h=>?_) (fun cdv A outer s H vs Q E hr h=>?_)
  · obtain ⟨u,l,many,rfl,hl,hm,hL,q⟩:=h; rfl
  obtain ⟨u,l,many,rfl,hl,hm,hL,q⟩:=h
  refine ⟨_,(pss_cons (ps_setComp (i:=2) sc_piece_by_words.nd rfl (Or.inl rfl) (N:=["word"]) (k:=1) (cap:=[]) rfl rfl (pi_list (pe_slice sl_list (pv 0) (po_some pe_int) (po_some (pe_op op_add (pv 1) pe_int)))) (fun _ _ _ _=>(pg_name (i:=0) (show (["word"]:List Str).Nodup from by decide +kernel) rfl (Or.inl rfl) (.inr rfl))) (fun _ _ _ _=>pts_nil) (fun _ _ _ _=>(pe_callS D_number_of passesN (hr.mono (by decide)) rfl (pa_cons (pv 0) pa_nil))))
      (pss_cons (ps_setComp (i:=3) sc_piece_by_words.nd rfl (Or.inl rfl) (N:=["word"]) (k:=1) (cap:=[]) rfl rfl (pi_list (pe_slice sl_list (pv 0) (po_some (pe_op op_add (pv 1) pe_int)) (po_some (pe_un un_neg pe_int)))) (fun _ _ _ _=>(pg_name (i:=0) (show (["word"]:List Str).Nodup from by decide +kernel) rfl (Or.inl rfl) (.inr rfl))) (fun _ _ _ _=>pts_nil) (fun _ _ _ _=>(pe_callS D_change_of passesN (hr.mono (by decide)) rfl (pa_cons (pv 0) pa_nil))))
      (pss_cons (ps_set (i:=4) sc_piece_by_words.nd rfl (Or.inl rfl) (pe_callS D_check_by_word passesN (hr.mono (by decide)) rfl (pa_cons (pe_ix ix_list (pv 0) (pe_un un_neg pe_int) (fun _ _=>rfl)) pa_nil)))
      (pss_cons (ps_if (pt_cmpR op_eq (pe_ix ix_list (pv 0) pe_int (fun _ _=>rfl)) pe_str (nomark _)) (pss_one (ps_ret (pe_makeS D_Whole passesN (hr.mono (by decide)) rfl (pa_cons (pe_ix ix_list (pv 2) pe_int (fun _ _=>rfl)) (pa_cons (pv 3) (pa_cons (pv 4) pa_nil)))))) pss_nil)
      (pss_one (ps_ret (pe_makeS D_Gain passesN (hr.mono (by decide)) rfl (pa_cons (pe_ix ix_list (pv 2) pe_int (fun _ _=>rfl)) (pa_cons (pe_ix ix_list (pv 2) pe_int (fun _ _=>rfl)) (pa_cons (pv 3) (pa_cons (pv 4) pa_nil))))))))))),?_⟩
  have upK:∀ {H4:Hp} {x dx:Addr} {o:HO},H4 x = none->H4 dx = none->∀ t o',H4 t = some o'->upd (upd H4 dx (.own x)) x o t = some o':=fun hx hd t o' e=>by rw [upd_ne (ne_of_none e hx),upd_ne (ne_of_none e hd)]; exact e
  rw [← many_days] at hm
  have hlen:=hL.len
  have hdg:∀ n ∈ daysU u,gN n:=fun n hn=>by
    unfold daysU at hn
    split at hn
    · rw [List.mem_singleton.mp hn]; exact hL.gd
    · simp only [List.mem_cons,List.not_mem_nil,or_false] at hn
      rcases hn with rfl | rfl
      · exact hL.gb
      · exact hL.gd
  have hdl:(daysU u).length ≤ 2:=by unfold daysU; split <;> simp
  refine cutA (fun σ H'=>∃ dl:Addr,σ = [some (.ref l),some (.int many),some (.ref dl),none,none] /\ Same H H' /\ H' dl = some (.lst ((daysU u).map V.int))) (fun N hN=>?_) ?_
  · refine ⟨_,rfl,_,rfl,_,rfl,_,_,rfl,rfl,_,rfl,l,_,rfl,SqL.of hl,fun c1 hc1=>?_⟩
    rw [cut_days u hm]
    have s1:Same H (upd H c1 (.lst (((daysU u).map numT).map V.str))):=Same.new hc1
    have hc11:upd H c1 (.lst (((daysU u).map numT).map V.str)) c1 = some (.lst (((daysU u).map numT).map V.str)):=upd_same
    generalize upd H c1 (.lst (((daysU u).map numT).map V.str)) = H1 at s1 hc11 ⊢
    refine ⟨c1,rfl,⟨_,SqL.of hc11⟩,fun D hD=>?_⟩
    refine comp_list D (K:=K) (a:=c1) (xs:=((daysU u).map numT).map V.str) (fun i σ H5 ys=>∃ v:Option V,σ = [v] /\ Same H1 H5 /\ H5 D = some (.lst ys) /\ ys = ((daysU u).take i).map V.int) ⟨none,rfl,Same.new hD,upd_same,rfl⟩ (fun i σ H5 ys _ ⟨_,_,s5,_⟩=>SqL.of (s5 _ _ hc11)) ?_ ?_
    · rintro i x σ H5 ys hi ⟨v,rfl,s5,hy,rfl⟩
      rw [List.map_map,List.getElem?_map] at hi
      obtain ⟨n,hn,rfl⟩:=Option.map_eq_some_iff.mp hi
      refine ⟨_,rfl,n,rfl,hdg n (List.mem_of_getElem? hn),fun H6 s6=>?_⟩
      refine ⟨s6 _ _ hy,by rw [List.length_map,List.length_take]; exact small1000 (by omega),_,rfl,fun b o e=>?_,upd_same,by rw [List.take_add_one,hn,List.map_append]; rfl⟩
      rw [upd_ne (ne_of_none e hD)]; exact s6 b o (s5 b o e)
    · rintro σ H5 ys ⟨v,rfl,s5,hy,rfl⟩
      rw [List.take_of_length_le (by simp)] at hy
      exact hN _ _ ⟨D,rfl,s1.trans s5,hy⟩
  rintro σ H1 ⟨dl,rfl,s1,hdl1⟩
  refine cutA (fun σ H'=>∃ (rl:Addr) (L:List V),σ = [some (.ref l),some (.int many),some (.ref dl),some (.ref rl),none] /\ Same H1 H' /\ H' rl = some (.lst L) /\ RowsAt H' L u.rows) (fun N hN=>?_) ?_
  · refine ⟨_,rfl,_,rfl,_,_,rfl,rfl,_,rfl,_,rfl,_,rfl,l,_,rfl,SqL.of (s1 _ _ hl),fun c1 hc1=>?_⟩
    rw [cut_rowsU u hm]
    have s2:Same H1 (upd H1 c1 (.lst ((u.rows.map fun r=>wordOf (rowC r)).map V.str))):=Same.new hc1
    have hc11:upd H1 c1 (.lst ((u.rows.map fun r=>wordOf (rowC r)).map V.str)) c1 = some (.lst ((u.rows.map fun r=>wordOf (rowC r)).map V.str)):=upd_same
    generalize upd H1 c1 (.lst ((u.rows.map fun r=>wordOf (rowC r)).map V.str)) = H2 at s2 hc11 ⊢
    refine ⟨c1,rfl,⟨_,SqL.of hc11⟩,fun D hD=>?_⟩
    refine comp_list D (K:=K) (a:=c1) (xs:=(u.rows.map fun r=>wordOf (rowC r)).map V.str) (fun i σ H5 ys=>∃ v:Option V,σ = [v] /\ Same H2 H5 /\ H5 D = some (.lst ys) /\ ChAt H5 ys ((u.rows.take i).map rowC)) ⟨none,rfl,Same.new hD,upd_same,ChAt.nil⟩ (fun i σ H5 ys _ ⟨_,_,s5,_⟩=>SqL.of (s5 _ _ hc11)) ?_ ?_
    · rintro i x σ H5 ys hi ⟨v,rfl,s5,hy,hC⟩
      rw [List.map_map,List.getElem?_map] at hi
      obtain ⟨rr,hn,rfl⟩:=Option.map_eq_some_iff.mp hi
      refine ⟨_,rfl,rowC rr,rfl,hL.good rr (List.mem_of_getElem? hn),fun t H6 ht s6=>?_⟩
      have hy6:=s6 _ _ hy
      refine ⟨hy6,by rw [hC.len,List.length_map,List.length_take]; exact small1000 (by omega),_,rfl,fun b o e=>?_,upd_same,?_⟩
      · rw [upd_ne (ne_of_none e hD)]; exact s6 b o (s5 b o e)
      · rw [List.take_add_one,hn,List.map_append]
        refine (hC.mono fun b xs e=>?_).snoc ?_
        · rw [upd_ne (ne_of e hy (by intro z; cases z))]; exact s6 b _ e
        · rw [upd_ne (ne_of ht hy6 (by intro z; cases z))]; exact ht
    · rintro σ H5 ys ⟨v,rfl,s5,hy,hC⟩
      rw [List.take_of_length_le (by simp)] at hC
      exact hN _ _ ⟨D,ys,rfl,s2.trans s5,hy,rows_of_ch hC⟩
  rintro σ H2 ⟨rl,L,rfl,s2,hrl,hR⟩
  have hl2:=s2 _ _ (s1 _ _ hl)
  refine ⟨_,rfl,_,rfl,l,_,_,V.str (ckT u.c),rfl,rfl,SqL.of hl2,last_word u,u.c,rfl,hL.gc.1,hL.gc.2,fun H3 s3=>?_⟩
  refine gNameA [some (.ref l),some (.int many),some (.ref dl),some (.ref rl),some (.int u.c)] ?_
  dsimp only
  have s13:=s2.trans s3
  have hdl3:=s13 _ _ hdl1
  have hrl3:=s3 _ _ hrl
  have hR3:RowsAt H3 L u.rows:=hR.mono fun t _ e=>s3 t _ e
  cases hw:u.wh with
  | true =>
    refine if_yes (fun Qb hq=>⟨_,rfl,l,_,_,V.str (kindU u),rfl,rfl,SqL.of (s3 _ _ hl2),first_word u,rfl,_,rfl,?_⟩) ?_
    · rw [show kindU u = Str.ofString "whole" by unfold kindU; rw [hw]; rfl,decide_eq_true rfl]; exact hq
    have hb0:=(hL.wh_ hw).1
    refine ⟨_,rfl,dl,_,_,V.int (u.d:Int),rfl,rfl,SqL.of hdl3,by unfold daysU; rw [hw]; rfl,_,rfl,_,rfl,fun x dx hx hd ne=>⟨x,dx,rl,u.d,_,u.rows,.int u.c,_,rfl,upd_same,.inl (upK hx hd _ _ hrl3),hR3.mono (fun t xs e=>upK hx hd t _ e),by omega,.inr rfl,fun H4 hP k4=>⟨rfl,?_⟩⟩⟩
    exact q x H4 (by rw [hw,hb0]; exact hP) ((s1.trans s13).trans (made_same hx hd k4))
  | false =>
    refine if_no (fun Qb hq=>⟨_,rfl,l,_,_,V.str (kindU u),rfl,rfl,SqL.of (s3 _ _ hl2),first_word u,rfl,_,rfl,?_⟩) ?_
    · rw [show kindU u = Str.ofString "gain" by unfold kindU; rw [hw]; rfl,decide_eq_false (fun h=>absurd (V.str.inj h) (by decide +kernel))]; exact hq
    try unfold tNext
    dsimp only
    refine ⟨_,rfl,dl,_,_,V.int (u.b:Int),rfl,rfl,SqL.of hdl3,by unfold daysU; rw [hw]; rfl,_,rfl,dl,_,_,V.int (u.d:Int),rfl,rfl,SqL.of hdl3,by unfold daysU; rw [hw]; rfl,_,rfl,_,rfl,fun x dx hx hd ne=>⟨x,dx,rl,u.b,u.d,_,u.rows,.int u.c,_,rfl,upd_same,.inl (upK hx hd _ _ hrl3),hR3.mono (fun t xs e=>upK hx hd t _ e),by omega,.inr rfl,fun H4 hP k4=>⟨rfl,?_⟩⟩⟩
    exact q x H4 (by rw [hw]; exact hP) ((s1.trans s13).trans (made_same hx hd k4))
theorem ok_is_within {f:Addr} {fd:FuncData} (F:Fun K "is_within" "is_within" s_is_within f fd) (T:Txt K mg t_W t_MOST_BLOCKS t_MOST_FIGURES t_MOST_DAY t_FIGURES t_CHECK_FIGURES C_KeepError C_NoWord C_NoTable C_NoPlace C_NoBlock C_NoDay C_NoBase C_NoLine C_Piece C_Whole C_Gain C_Days C_DAYS_TOLD) :FnOk P w K mg base (CXx P w) 1 f fd ["piece"] (sp_within C_Whole C_Gain):=by
  refine F.okX sc_is_within (fun vs H Q E h=>?_) (fun cdv A outer s H vs Q E hr h=>?_)
  · obtain ⟨p,u,rfl,hP,hL,q⟩:=h; rfl
  obtain ⟨p,u,rfl,hP,hL,q⟩:=h
  refine ⟨_,(pss_cons (ps_if (PW.pt (pw_or (pt_cmpR op_gt (pe_fld (pv 0) rfl) (pe_glob (v:=.int 1000000000) rfl T.m_MOST_DAY ⟨_,rfl⟩) (nomark _)) (pw_or1 (pt_cmpR op_gt (pe_fld (pv 0) rfl) (pe_glob (v:=.int 18446744073709551615) rfl T.m_W ⟨_,rfl⟩) (nomark _))))) (pss_one (ps_ret pe_bl)) pss_nil)
      (pss_one (ps_ret (pe_callB (call_all_bl rfl) (by rfl) T.b_all PyProof.Rows.boot_all (pa_cons (pe_comp (N:=["place","block"]) (k:=2) (cap:=[]) rfl rfl (pi_tup (pe_fld (pv 0) rfl)) (fun _ _ _ _=>(pg_tupK (K:=K) (n:=2) rfl rfl (pgs_cons (pg_name (i:=0) (show (["place","block"]:List Str).Nodup from by decide +kernel) rfl (Or.inl rfl) (.inr rfl)) (pgs_cons (pg_name (i:=1) (show (["place","block"]:List Str).Nodup from by decide +kernel) rfl (Or.inl rfl) (.inr rfl)) pgs_nil)))) (fun _ _ _ _=>pts_nil) (fun _ _ _ _=>(pe_and (pe_cmpR op_lt (pv 0) (pe_glob (v:=.int 40) rfl T.m_MOST_BLOCKS ⟨_,rfl⟩) (nomark _)) (pe_one (pe_cmpR op_le (pv 1) (pe_glob (v:=.int 18446744073709551615) rfl T.m_W ⟨_,rfl⟩) (nomark _)))))) pa_nil))))),?_⟩
  obtain ⟨dx,r,R,h1,h2,h3⟩:=id hP
  have hlen:=hL.len
  have hcl:Cls K (cond u.wh C_Whole C_Gain) /\ NoAttr K (cond u.wh C_Whole C_Gain) "day" /\ NoAttr K (cond u.wh C_Whole C_Gain) "rows" /\ NoAttr K (cond u.wh C_Whole C_Gain) "check":=by
    cases u.wh
    · exact ⟨T.cl_Gain,T.n_Gain_day,T.n_Gain_rows,T.n_Gain_check⟩
    · exact ⟨T.cl_Whole,T.n_Whole_day,T.n_Whole_rows,T.n_Whole_check⟩
  have lkd:∀ {f:Bool},List.lookup ("day":Str) (pfs u.wh u.b u.d r u.c f) = some (.int (u.d:Int)):=by intro f; cases u.wh <;> exact lk_day
  have lkc:∀ {f:Bool},List.lookup ("check":Str) (pfs u.wh u.b u.d r u.c f) = some (.int u.c):=by intro f; cases u.wh <;> exact lk_check
  have hd9:=hL.d9
  have hc64:=hL.c0.2
  refine if_no (fun Qb hq=>⟨_,rfl,p,_,dx,_,_,rfl,h1,hcl.1,hcl.2.1,lkd,_,_,rfl,rfl,_,rfl,?_⟩) ?_
  · rw [decide_eq_false (by omega)]
    refine iteF ⟨_,rfl,p,_,dx,_,_,rfl,h1,hcl.1,hcl.2.2.2,lkc,_,_,rfl,rfl,_,rfl,?_⟩
    rw [decide_eq_false (by omega)]
    exact hq
  try unfold tNext
  dsimp only
  refine ⟨_,rfl,p,_,dx,_,_,rfl,h1,hcl.1,hcl.2.2.1,lk_rows2,r,rfl,⟨_,SqT.of h2⟩,fun D hD=>?_⟩
  refine comp_tup D (K:=K) (a:=r) (xs:=R) (fun i σ H5 ys=>∃ v v':Option V,σ = [v,v'] /\ Same H H5 /\ H5 D = some (.lst ys) /\ ys = ((u.rows.take i).map fun _=>true).map V.bl) ⟨none,none,rfl,Same.new hD,upd_same,rfl⟩ (fun i σ H5 ys _ ⟨_,_,_,s5,_⟩=>SqT.of (s5 _ _ h2)) ?_ ?_
  · rintro i x σ H5 ys hi ⟨v,v',rfl,s5,hy,rfl⟩
    obtain ⟨t,rr,rfl,hr2,ht⟩:=h3.get i x hi
    have hb:=hL.rows rr (List.mem_of_getElem? hr2)
    refine ⟨t,_,rfl,SqT.of (s5 t _ ht),rfl,_,_,rfl,_,_,rfl,rfl,_,rfl,_,_,rfl,rfl,_,rfl,?_⟩
    rw [decide_eq_true (by omega)]
    refine iteT ⟨_,rfl,_,_,rfl,rfl,hy,by rw [List.length_map,List.length_map,List.length_take]; exact small1000 (by omega),_,_,rfl,fun b o e=>?_,upd_same,?_⟩
    · rw [upd_ne (ne_of_none e hD)]; exact s5 b o e
    · show _ ++ [V.bl (decide (((rr.2:Nat):Int) ≤ 18446744073709551615))] = _
      rw [List.take_add_one,hr2,List.map_append,List.map_append,decide_eq_true (show ((rr.2:Nat):Int) ≤ 18446744073709551615 by omega)]; rfl
  · rintro σ H5 ys ⟨v,v',rfl,s5,hy,rfl⟩
    refine ⟨D,_,rfl,SqL.of hy,?_⟩
    rw [List.all_map]
    have:((u.rows.take R.length).all (id ∘ fun _=>true)) = true:=List.all_eq_true.mpr fun _ _=>rfl
    rw [this]
    exact q _ s5
theorem ok_is_formed {f:Addr} {fd:FuncData} (F:Fun K "is_formed" "is_formed" s_is_formed f fd) (T:Txt K mg t_W t_MOST_BLOCKS t_MOST_FIGURES t_MOST_DAY t_FIGURES t_CHECK_FIGURES C_KeepError C_NoWord C_NoTable C_NoPlace C_NoBlock C_NoDay C_NoBase C_NoLine C_Piece C_Whole C_Gain C_Days C_DAYS_TOLD) (D_Gain_kind:MethX P w K mg base C_Gain "kind" 1 ["self"] sp_gkind) (D_Whole_kind:MethX P w K mg base C_Whole "kind" 1 ["self"] sp_wkind):FnOk P w K mg base (CXx P w) 2 f fd ["piece"] (sp_within C_Whole C_Gain):=by
  refine F.okX sc_is_formed (fun vs H Q E h=>?_) (fun cdv A outer s H vs Q E hr h=>?_)
  · obtain ⟨p,u,rfl,hP,hL,q⟩:=h; rfl
  obtain ⟨p,u,rfl,hP,hL,q⟩:=h
  refine ⟨_,(pss_cons (ps_setComp (i:=1) sc_is_formed.nd rfl (Or.inl rfl) (N:=["place","block"]) (k:=2) (cap:=[]) rfl rfl (pi_tup (pe_fld (pv 0) rfl)) (fun _ _ _ _=>(pg_tupK (K:=K) (n:=2) rfl rfl (pgs_cons (pg_name (i:=0) (show (["place","block"]:List Str).Nodup from by decide +kernel) rfl (Or.inl rfl) (.inr rfl)) (pgs_cons (pg_name (i:=1) (show (["place","block"]:List Str).Nodup from by decide +kernel) rfl (Or.inl rfl) (.inr rfl)) pgs_nil)))) (fun _ _ _ _=>pts_nil) (fun _ _ _ _=>(pv 0)))
      (pss_cons (ps_if (pt_cmpR op_eq (pe_or2 (pe_methS0 (pv 0) T.cl_Whole D_Whole_kind passesN (hr.mono (by decide))) (pe_methS0 (pv 0) T.cl_Gain D_Gain_kind passesN (hr.mono (by decide)))) pe_str (nomark _)) (pss_one (ps_ret (pe_and (pe_cmpR op_gt (pe_callB call_len_seq (by rfl) T.b_len PySem.boot_len (pa_cons (pv 1) pa_nil)) pe_int (nomark _)) (pe_one (pe_cmpR (op_eq_ref hr.units) (pv 1) (pe_listrng rfl rfl T.b_list rfl T.b_range (pe_callB call_len_seq (by rfl) T.b_len PySem.boot_len (pa_cons (pv 1) pa_nil))) (nomark _)))))) pss_nil)
      (pss_one (ps_ret (pe_and (pe_cmpR op_lt (pe_fld (pv 0) rfl) (pe_fld (pv 0) rfl) (nomark _)) (pe_one (pe_cmpR (op_eq_ref hr.units) (pv 1) (pe_sset rfl (by rfl) T.b_sorted (by rfl) T.b_set (pv 1)) (nomark _)))))))),?_⟩
  obtain ⟨dx,r,R,h1,h2,h3⟩:=id hP
  have hlen:=hL.len
  have hcl:Cls K (cond u.wh C_Whole C_Gain) /\ NoAttr K (cond u.wh C_Whole C_Gain) "day" /\ NoAttr K (cond u.wh C_Whole C_Gain) "rows" /\ NoAttr K (cond u.wh C_Whole C_Gain) "check":=by
    cases u.wh
    · exact ⟨T.cl_Gain,T.n_Gain_day,T.n_Gain_rows,T.n_Gain_check⟩
    · exact ⟨T.cl_Whole,T.n_Whole_day,T.n_Whole_rows,T.n_Whole_check⟩
  have lkd:∀ {f:Bool},List.lookup ("day":Str) (pfs u.wh u.b u.d r u.c f) = some (.int (u.d:Int)):=by intro f; cases u.wh <;> exact lk_day
  have lkc:∀ {f:Bool},List.lookup ("check":Str) (pfs u.wh u.b u.d r u.c f) = some (.int u.c):=by intro f; cases u.wh <;> exact lk_check
  have kno:∀ {f:Bool},List.lookup ("kind":Str) (pfs u.wh u.b u.d r u.c f) = none:=by intro f; exact lk_no (by decide +kernel) (by decide +kernel) (by decide +kernel) (by decide +kernel)
  refine cutA (fun σ H'=>∃ pl:Addr,σ = [some (.ref p),some (.ref pl)] /\ Same H H' /\ H' pl = some (.lst ((u.rows.map fun r=>(r.1:Int)).map V.int))) (fun N hN=>?_) ?_
  · refine ⟨_,rfl,p,_,dx,_,_,rfl,h1,hcl.1,hcl.2.2.1,lk_rows2,r,rfl,⟨_,SqT.of h2⟩,fun D hD=>?_⟩
    refine comp_tup D (K:=K) (a:=r) (xs:=R) (fun i σ H5 ys=>∃ v v':Option V,σ = [v,v'] /\ Same H H5 /\ H5 D = some (.lst ys) /\ ys = ((u.rows.take i).map fun r=>(r.1:Int)).map V.int) ⟨none,none,rfl,Same.new hD,upd_same,rfl⟩ (fun i σ H5 ys _ ⟨_,_,_,s5,_⟩=>SqT.of (s5 _ _ h2)) ?_ ?_
    · rintro i x σ H5 ys hi ⟨v,v',rfl,s5,hy,rfl⟩
      obtain ⟨t,rr,rfl,hr2,ht⟩:=h3.get i x hi
      refine ⟨t,_,rfl,SqT.of (s5 t _ ht),rfl,_,_,rfl,_,_,rfl,rfl,_,rfl,hy,by rw [List.length_map,List.length_map,List.length_take]; exact small1000 (by omega),_,_,rfl,fun b o e=>?_,upd_same,by rw [List.take_add_one,hr2]; simp⟩
      rw [upd_ne (ne_of_none e hD)]; exact s5 b o e
    · rintro σ H5 ys ⟨v,v',rfl,s5,hy,rfl⟩
      rw [h3.len,List.take_length] at hy
      exact hN _ _ ⟨D,rfl,s5,hy⟩
  rintro σ H1 ⟨pl,rfl,s1,hpl⟩
  have h11:=s1 _ _ h1
  have hpll:((u.rows.map fun r=>(r.1:Int)).map V.int).length = u.rows.length:=by simp
  cases hw:u.wh with
  | true =>
    rw [hw] at h11 kno
    obtain ⟨_,hpos,hrng⟩:=hL.wh_ hw
    refine if_yes (fun Qb hq=>.inl ⟨_,rfl,p,dx,_,rfl,h11,kno,p,rfl,rfl,_,rfl,?_⟩) ?_
    · rw [decide_eq_true rfl]; exact hq
    refine ⟨_,rfl,pl,_,rfl,.inl (SqL.of hpl),_,_,rfl,rfl,_,rfl,?_⟩
    rw [hpll,decide_eq_true (by omega)]
    refine iteT ⟨_,rfl,_,rfl,pl,_,rfl,.inl (SqL.of hpl),u.rows.length,by rw [hpll],by omega,fun rg hrg=>?_⟩
    have s2:=Same.new hrg (o:=HO.lst (((List.range u.rows.length).map fun k:Nat=>(k:Int)).map V.int))
    refine ⟨0,decide ((u.rows.map fun r=>(r.1:Int)) = (List.range u.rows.length).map fun k:Nat=>(k:Int)),by decide,SeqEq.ints (SqL.of (s2 _ _ hpl)) (SqL.of upd_same),?_⟩
    rw [decide_eq_true (by rw [← hrng,List.map_map]; rfl)]
    exact q _ (s1.trans s2)
  | false =>
    rw [hw] at h11 kno
    obtain ⟨hbd,hpw⟩:=hL.gn_ hw
    refine if_no (fun Qb hq=>.inr ⟨_,rfl,p,dx,_,rfl,h11,kno,p,rfl,rfl,_,rfl,?_⟩) ?_
    · rw [decide_eq_false (fun h=>absurd (V.str.inj h) (by decide +kernel))]; exact hq
    try unfold tNext
    dsimp only
    refine ⟨_,rfl,p,C_Gain,dx,_,_,rfl,h11,T.cl_Gain,T.n_Gain_base,lk_base,_,rfl,p,C_Gain,dx,_,_,rfl,h11,T.cl_Gain,T.n_Gain_day,lk_day,_,_,rfl,rfl,_,rfl,?_⟩
    rw [decide_eq_true (by omega)]
    have hin:∀ x ∈ u.rows.map (fun r=>(r.1:Int)),0 ≤ x /\ x < ((40:Nat):Int):=fun x hx=>by
      obtain ⟨r,hr,rfl⟩:=List.mem_map.mp hx
      have:=(hL.rows r hr).1
      omega
    have hpw2:(u.rows.map fun r=>(r.1:Int)).Pairwise (· < ·):=by
      rw [List.pairwise_map] at hpw ⊢
      exact hpw.imp fun h=>by omega
    refine iteT ⟨_,rfl,_,rfl,pl,_,rfl,SqL.of hpl,few63 (wd:=40) (by omega) hin,fun rg ns' hrg hp' hm'=>?_⟩
    have s2:=Same.new hrg (o:=HO.lst (ns'.map V.int))
    refine ⟨0,decide ((u.rows.map fun r=>(r.1:Int)) = ns'),by decide,SeqEq.ints (SqL.of (s2 _ _ hpl)) (SqL.of upd_same),?_⟩
    rw [decide_eq_true (rise_ext hpw2 hp' fun x=>(hm' x).symm)]
    exact q _ (s1.trans s2)
theorem ok_piece_of {f:Addr} {fd:FuncData} (F:Fun K "piece_of" "piece_of" s_piece_of f fd) (T:Txt K mg t_W t_MOST_BLOCKS t_MOST_FIGURES t_MOST_DAY t_FIGURES t_CHECK_FIGURES C_KeepError C_NoWord C_NoTable C_NoPlace C_NoBlock C_NoDay C_NoBase C_NoLine C_Piece C_Whole C_Gain C_Days C_DAYS_TOLD) (D_gd_DAYS_TOLD:GD P w K C_DAYS_TOLD [(Sum.inr (Str.ofString "whole"),V.int 1),(Sum.inr (Str.ofString "gain"),V.int 2)]) (D_NoLine:ExcX P w K mg base "NoLine" C_NoLine 1 ["self","line"] (sp_x1 C_NoLine "line")) (D_piece_by_words:DefX P w K mg base "piece_by_words" 6 ["words","many"] (sp_bywords C_Whole C_Gain)) (D_is_formed:DefX P w K mg base "is_formed" 2 ["piece"] (sp_within C_Whole C_Gain)) (D_is_within:DefX P w K mg base "is_within" 1 ["piece"] (sp_within C_Whole C_Gain)):FnOk P w K mg base (CXx P w) 7 f fd ["line"] (sp_pieceof C_Whole C_Gain):=by
  refine F.okX sc_piece_of (fun vs H Q E h=>?_) (fun cdv A outer s H vs Q E hr h=>?_)
  · obtain ⟨u,rfl,hL,q⟩:=h; rfl
  obtain ⟨u,rfl,hL,q⟩:=h
  refine ⟨_,(pss_cons (ps_set (i:=1) sc_piece_of.nd rfl (Or.inl rfl) (pe_bm PySem.F.plainAttrs_str PySem.F.slot_str_split PySem.F.type_str_split mt_split (pv 0) (pa_cons pe_str pa_nil)))
      (pss_cons (ps_if (PW.pt (pw_or (pt_cmp (pc_gnotin D_gd_DAYS_TOLD (pe_ix ix_list (pv 1) pe_int (fun _ _=>rfl)) (pe_glob (v:=.ref C_DAYS_TOLD) rfl T.mg_DAYS_TOLD rfl))) (pw_or1 (pt_cmpR op_lt (pe_callB call_len_seq (by rfl) T.b_len PySem.boot_len (pa_cons (pv 1) pa_nil)) (pe_op op_add (pe_gget D_gd_DAYS_TOLD (pe_glob (v:=.ref C_DAYS_TOLD) rfl T.mg_DAYS_TOLD rfl) (pe_ix ix_list (pv 1) pe_int (fun _ _=>rfl)) (fun _ _=>rfl)) pe_int) (nomark _))))) (pss_one (ps_raise rfl raisesB (pe_exc D_NoLine (hr.mono (by decide)) rfl (pa_cons (pv 0) pa_nil)))) pss_nil)
      (pss_cons (ps_try (fun pn xe E hx=>(pss_one (ps_set (i:=2) sc_piece_of.nd rfl (Or.inl rfl) (pe_callS D_piece_by_words passesN (hr.mono (by decide)) rfl (pa_cons (pv 1) (pa_cons (pe_gget D_gd_DAYS_TOLD (pe_glob (v:=.ref C_DAYS_TOLD) rfl T.mg_DAYS_TOLD rfl) (pe_ix ix_list (pv 1) pe_int (fun _ _=>rfl)) (fun _ _=>rfl)) pa_nil)))))) (ph_pl rfl T.mg_NoWord T.x_NoWord (fun _ _=>(pss_one ps_never)) ph_nil) rfl rfl)
      (pss_cons (ps_if (PW.pt (pw_or (pt_not (pt_val (pe_callS D_is_within passesN (hr.mono (by decide)) rfl (pa_cons (pv 2) pa_nil)))) (pw_or1 (pt_not (pt_val (pe_callS D_is_formed passesN (hr.mono (by decide)) rfl (pa_cons (pv 2) pa_nil))))))) (pss_one (ps_raise rfl raisesB (pe_exc D_NoLine (hr.mono (by decide)) rfl (pa_cons (pv 0) pa_nil)))) pss_nil)
      (pss_one (ps_ret (pv 2))))))),?_⟩
  refine ⟨_,rfl,rfl,lineU u,Str.ofString " ",rfl,rfl,by decide +kernel,line_len hL,fun l hl=>?_⟩
  rw [line_split hL]
  have s1:Same H (upd H l (.lst ((wordsU u).map V.str))):=Same.new hl
  have hl1:upd H l (.lst ((wordsU u).map V.str)) l = some (.lst ((wordsU u).map V.str)):=upd_same
  generalize upd H l (.lst ((wordsU u).map V.str)) = H1 at s1 hl1 ⊢
  refine gNameA [some (.str (lineU u)),some (.ref l),none] ?_
  dsimp only
  have hv:valV [((Sum.inr (Str.ofString "whole"):Key),V.int 1),((Sum.inr (Str.ofString "gain"):Key),V.int 2)] (Sum.inr (kindU u)) = some (V.int (if u.wh = true then 1 else 2)):=by
    unfold kindU
    cases u.wh <;> decide +kernel
  have hcount:4 ≤ (wordsU u).length ∨ (wordsU u).length ≥ (if u.wh = true then 1 else 2) + 2:=by
    right
    unfold wordsU headU
    split <;> simp <;> omega
  refine if_no (fun Qb hq=>⟨_,rfl,l,_,_,V.str (kindU u),rfl,rfl,SqL.of hl1,first_word u,Sum.inr (kindU u),rfl,_,rfl,?_⟩) ?_
  · rw [hv]
    refine iteF ⟨_,rfl,l,_,rfl,.inl (SqL.of hl1),_,rfl,l,_,_,V.str (kindU u),rfl,rfl,SqL.of hl1,first_word u,Sum.inr (kindU u),_,rfl,hv,_,_,rfl,rfl,_,_,rfl,rfl,_,rfl,?_⟩
    rw [decide_eq_false (by
      rw [List.length_map]
      rcases hcount with h | h
      · split <;> omega
      · split at h <;> rename_i h' <;> simp only [h',if_true,if_false,Bool.false_eq_true] <;> omega)]
    exact hq
  try unfold tNext
  dsimp only
  refine cutA (fun σ H'=>∃ p:Addr,σ = [some (.str (lineU u)),some (.ref l),some (.ref p)] /\ Same H1 H' /\ PAt C_Whole C_Gain H' p u.wh u.b u.d u.rows u.c) (fun N hN=>?_) ?_
  · intro pn xe
    refine ⟨_,rfl,_,rfl,l,_,_,V.str (kindU u),rfl,rfl,SqL.of hl1,first_word u,Sum.inr (kindU u),_,rfl,hv,u,l,_,rfl,hl1,rfl,hL,fun p H2 hP s2=>?_⟩
    exact hN _ _ ⟨p,rfl,s2,hP⟩
  rintro σ H2 ⟨p,rfl,s2,hP⟩
  refine if_B false (fun H'=>Same H2 H') (fun Qb hq=>?_) (fun h=>by cases h) (fun _ H3 s3=>?_)
  · exact ⟨_,rfl,p,u,rfl,hP,hL,fun H3 s3=>⟨_,rfl,iteF ⟨_,rfl,p,u,rfl,hP.keep s3,hL,fun H4 s4=>⟨_,rfl,hq _ (s3.trans s4)⟩⟩⟩⟩
  try unfold tNext
  dsimp only
  exact ⟨_,rfl,q p H3 (hP.keep s3) (s1.trans (s2.trans s3))⟩
theorem ok__law_cell {f:Addr} {fd:FuncData} (F:Fun K "_law_cell" "_law_cell" s__law_cell f fd) (T:Txt K mg t_W t_MOST_BLOCKS t_MOST_FIGURES t_MOST_DAY t_FIGURES t_CHECK_FIGURES C_KeepError C_NoWord C_NoTable C_NoPlace C_NoBlock C_NoDay C_NoBase C_NoLine C_Piece C_Whole C_Gain C_Days C_DAYS_TOLD) :FnOk P w K mg base (CXx P w) 1 f fd ["_law_script","_law_k"] (sp_cell K):=by
  refine F.okX sc__law_cell (fun vs H Q E h=>?_) (fun cdv A outer s H vs Q E hr h=>?_)
  · obtain ⟨a,ns,k,rfl,hS,q⟩:=h; rfl
  obtain ⟨a,ns,k,rfl,hS,q⟩:=h
  refine ⟨_,(pss_cons (ps_if (pt_cmpR op_lt (pv 1) (pe_callB call_len_seq (by rfl) T.b_len PySem.boot_len (pa_cons (pv 0) pa_nil)) (nomark _)) (pss_one (ps_ret (pe_ix ix_list (pv 0) (pv 1) (fun _ _=>rfl)))) pss_nil)
      (pss_one (ps_ret (pe_op op_add (pe_op op_mul pe_int (pv 1)) pe_int)))),?_⟩
  refine ⟨_,rfl,_,rfl,a,_,rfl,.inl hS,_,_,rfl,rfl,_,rfl,?_⟩
  refine ite2 (fun h=>?_) (fun h=>?_)
  · have h:k < ns.length:=by simpa using h
    refine ⟨_,rfl,_,rfl,a,_,_,V.int (ns.getD k 0),rfl,rfl,hS,atI_nat ?_,?_⟩
    · simp [h]
    · have e:cellI ns k = ns.getD k 0:=by unfold cellI; rw [if_pos (by omega)]; rfl
      rw [e] at q; exact q
  · have h:¬ k < ns.length:=by simpa using h
    refine ⟨_,rfl,_,_,rfl,rfl,.inl ⟨by first | decide | (dsimp only; decide),by first | decide | (dsimp only; decide)⟩,_,_,rfl,rfl,?_⟩
    have e:cellI ns k = 37 * k + 11:=by unfold cellI; rw [if_neg (by omega)]
    rw [e] at q; exact q
theorem ok__law_whole {f:Addr} {fd:FuncData} (F:Fun K "_law_whole" "_law_whole" s__law_whole f fd) (T:Txt K mg t_W t_MOST_BLOCKS t_MOST_FIGURES t_MOST_DAY t_FIGURES t_CHECK_FIGURES C_KeepError C_NoWord C_NoTable C_NoPlace C_NoBlock C_NoDay C_NoBase C_NoLine C_Piece C_Whole C_Gain C_Days C_DAYS_TOLD) :FnOk P w K mg base (CXx P w) 1 f fd ["_law_found"] (sp_whole):=by
  refine F.okX sc__law_whole (fun vs H Q E h=>?_) (fun cdv A outer s H vs Q E hr h=>?_)
  · obtain ⟨n,rfl,q⟩:=h; rfl
  obtain ⟨n,rfl,q⟩:=h
  refine ⟨_,(pss_one (ps_ret (pe_and (pe_callB call_isinst (by rfl) T.b_isinstance PyProof.Rows.boot_isinstance (pa_cons (pv 0) (pa_cons (pe_bltn (v:=.ty "int") rfl T.b_int PyProof.Rows.boot_int rfl) pa_nil))) (pe_one (pe_not (pe_callB call_isinst (by rfl) T.b_isinstance PyProof.Rows.boot_isinstance (pa_cons (pv 0) (pa_cons (pe_bltn (v:=.ty "bool") rfl T.b_bool PyProof.Rows.boot_bool rfl) pa_nil)))))))),?_⟩
  refine ⟨_,rfl,_,_,_,_,true,rfl,rfl,.int _,rfl,_,rfl,?_⟩
  refine iteT ?_
  refine ⟨_,rfl,_,_,_,_,false,rfl,rfl,.int _,(by with_unfolding_all rfl),_,rfl,?_⟩
  exact q
theorem ok__law_stir {f:Addr} {fd:FuncData} (F:Fun K "_law_stir" "_law_stir" s__law_stir f fd) (T:Txt K mg t_W t_MOST_BLOCKS t_MOST_FIGURES t_MOST_DAY t_FIGURES t_CHECK_FIGURES C_KeepError C_NoWord C_NoTable C_NoPlace C_NoBlock C_NoDay C_NoBase C_NoLine C_Piece C_Whole C_Gain C_Days C_DAYS_TOLD) :FnOk P w K mg base (CXx P w) 1 f fd ["_law_cell_here","_law_k"] (sp_stir):=by
  refine F.okX sc__law_stir (fun vs H Q E h=>?_) (fun cdv A outer s H vs Q E hr h=>?_)
  · obtain ⟨c,k,rfl,q⟩:=h; rfl
  obtain ⟨c,k,rfl,q⟩:=h
  refine ⟨_,(pss_cons (ps_set (i:=2) sc__law_stir.nd rfl (Or.inl rfl) (pe_op op_mod (pe_op op_mul (pe_op op_add (pv 0) (pe_op op_mul pe_int (pv 1))) pe_int) pe_int))
      (pss_one (ps_ret (pe_op op_mod (pe_op op_mul (pv 2) (pv 2)) pe_int)))),?_⟩
  refine ⟨_,rfl,_,rfl,_,_,rfl,rfl,.inl ⟨by first | decide | (dsimp only; decide),by first | decide | (dsimp only; decide)⟩,_,_,rfl,rfl,_,_,rfl,rfl,.inr ⟨by first | decide | (dsimp only; decide),by first | decide | (dsimp only; decide)⟩,_,_,rfl,rfl,(by first | decide | (dsimp only; decide)),?_⟩
  have h1:0 ≤ (c + 7919 * k) * 48271 % 2147483647:=Int.emod_nonneg _ (by first | decide | (dsimp only; decide))
  have h2:(c + 7919 * k) * 48271 % 2147483647 < 2147483647:=Int.emod_lt_of_pos _ (by first | decide | (dsimp only; decide))
  refine ⟨_,rfl,_,rfl,_,_,rfl,rfl,.inl ⟨by omega,by omega⟩,_,_,rfl,rfl,(by first | decide | (dsimp only; decide)),?_⟩
  exact q
theorem ok__law_block {f:Addr} {fd:FuncData} (F:Fun K "_law_block" "_law_block" s__law_block f fd) (T:Txt K mg t_W t_MOST_BLOCKS t_MOST_FIGURES t_MOST_DAY t_FIGURES t_CHECK_FIGURES C_KeepError C_NoWord C_NoTable C_NoPlace C_NoBlock C_NoDay C_NoBase C_NoLine C_Piece C_Whole C_Gain C_Days C_DAYS_TOLD) (D__law_stir:DefX P w K mg base "_law_stir" 1 ["_law_cell_here","_law_k"] sp_stir):FnOk P w K mg base (CXx P w) 2 f fd ["_law_cell_here","_law_k"] (sp_block):=by
  refine F.okX sc__law_block (fun vs H Q E h=>?_) (fun cdv A outer s H vs Q E hr h=>?_)
  · obtain ⟨c,k,rfl,q⟩:=h; rfl
  obtain ⟨c,k,rfl,q⟩:=h
  refine ⟨_,(pss_cons (ps_if (pt_cmpR op_eq (pe_op op_mod (pe_op op_add (pv 0) (pv 1)) pe_int) pe_int (nomark _)) (pss_one (ps_ret (pe_op op_mod (pe_op op_add (pe_op op_fdivB (pv 0) pe_int) (pv 1)) pe_int))) pss_nil)
      (pss_cons (ps_if (pt_cmpR op_eq (pe_op op_mod (pe_op op_add (pv 0) (pv 1)) pe_int) pe_int (nomark _)) (pss_one (ps_ret (pe_op op_sub (pe_op op_sub (pe_powc (n:=18446744073709551616)) pe_int) (pe_op op_mod (pe_op op_add (pe_op op_fdivB (pv 0) pe_int) (pv 1)) pe_int)))) pss_nil)
      (pss_cons (ps_if (pt_cmpR op_eq (pe_op op_mod (pe_op op_add (pv 0) (pv 1)) pe_int) pe_int (nomark _)) (pss_one (ps_ret (pe_op op_mod (pv 0) (pe_powc (n:=18446744073709551616))))) pss_nil)
      (pss_one (ps_ret (pe_op op_mod (pe_op op_add (pe_op op_mul (pe_callS D__law_stir passesN (hr.mono (by decide)) rfl (pa_cons (pv 0) (pa_cons (pv 1) pa_nil))) (pe_powc (n:=8589934592))) (pe_callS D__law_stir passesN (hr.mono (by decide)) rfl (pa_cons (pv 0) (pa_cons (pe_op op_add (pv 1) pe_int) pa_nil)))) (pe_powc (n:=18446744073709551616)))))))),?_⟩
  refine ⟨_,rfl,_,rfl,_,_,rfl,rfl,_,_,rfl,rfl,(by first | decide | (dsimp only; decide)),rfl,_,rfl,?_⟩
  refine ite2 (fun h=>?_) (fun h=>?_)
  · have h:=decV h
    refine ⟨_,rfl,_,_,rfl,rfl,⟨by first | decide | (dsimp only; decide),by first | decide | (dsimp only; decide)⟩,_,rfl,_,_,rfl,rfl,_,_,rfl,rfl,(by first | decide | (dsimp only; decide)),?_⟩
    have e:blockI c k = (c / 4 + k) % 3:=by unfold blockI; rw [if_pos h]
    rw [e] at q; exact q
  have h:=decVn h
  refine ⟨_,rfl,_,rfl,_,_,rfl,rfl,_,_,rfl,rfl,(by first | decide | (dsimp only; decide)),rfl,_,rfl,?_⟩
  refine ite2 (fun h1=>?_) (fun h1=>?_)
  · have h1:=decV h1
    refine ⟨_,_,rfl,rfl,_,rfl,_,_,rfl,rfl,⟨by first | decide | (dsimp only; decide),by first | decide | (dsimp only; decide)⟩,_,rfl,_,_,rfl,rfl,_,_,rfl,rfl,(by first | decide | (dsimp only; decide)),_,_,rfl,rfl,?_⟩
    have e:blockI c k = 18446744073709551616 - 1 - (c / 4 + k) % 3:=by unfold blockI; rw [if_neg h,if_pos h1]
    rw [e] at q; exact q
  have h1:=decVn h1
  refine ⟨_,rfl,_,rfl,_,_,rfl,rfl,_,_,rfl,rfl,(by first | decide | (dsimp only; decide)),rfl,_,rfl,?_⟩
  refine ite2 (fun h2=>?_) (fun h2=>?_)
  · have h2:=decV h2
    refine ⟨_,rfl,_,_,rfl,rfl,(by first | decide | (dsimp only; decide)),?_⟩
    have e:blockI c k = c % 18446744073709551616:=by unfold blockI; rw [if_neg h,if_neg h1,if_pos h2]
    rw [e] at q; exact q
  have h2:=decVn h2
  refine ⟨_,rfl,_,rfl,_,_,rfl,_,_,rfl,rfl,.inr ⟨by first | decide | (dsimp only; decide),by first | decide | (dsimp only; decide)⟩,_,rfl,_,rfl,_,_,rfl,rfl,_,_,rfl,_,_,rfl,rfl,_,_,rfl,rfl,(by first | decide | (dsimp only; decide)),?_⟩
  have e:blockI c k = (stirI c k * 8589934592 + stirI c (k + 50)) % 18446744073709551616:=by unfold blockI; rw [if_neg h,if_neg h1,if_neg h2]
  rw [e] at q; exact q
theorem ok__law_changes {f:Addr} {fd:FuncData} (F:Fun K "_law_changes" "_law_changes" s__law_changes f fd) (T:Txt K mg t_W t_MOST_BLOCKS t_MOST_FIGURES t_MOST_DAY t_FIGURES t_CHECK_FIGURES C_KeepError C_NoWord C_NoTable C_NoPlace C_NoBlock C_NoDay C_NoBase C_NoLine C_Piece C_Whole C_Gain C_Days C_DAYS_TOLD) (D__law_block:DefX P w K mg base "_law_block" 2 ["_law_cell_here","_law_k"] sp_block) (D__law_stir:DefX P w K mg base "_law_stir" 1 ["_law_cell_here","_law_k"] sp_stir):FnOk P w K mg base (CXx P w) 3 f fd ["_law_cell_here","_law_wide"] (sp_changes17):=by
  refine F.okX sc__law_changes (fun vs H Q E h=>?_) (fun cdv A outer s H vs Q E hr h=>?_)
  · obtain ⟨c,wd,rfl,hw,q⟩:=h; rfl
  obtain ⟨c,wd,rfl,hw,q⟩:=h
  refine ⟨_,(pss_one (ps_ret (pe_comp (N:=["_law_k","_law_wide","_law_cell_here"]) (k:=1) (cap:=[1,0]) rfl rfl (pi_range1 rfl T.b_range (pa_cons (pe_op op_mod (pe_op op_fdivB (pv 0) pe_int) pe_int) pa_nil)) (fun _ _ _ _=>(pg_name (i:=0) (show (["_law_k","_law_wide","_law_cell_here"]:List Str).Nodup from by decide +kernel) rfl (Or.inl rfl) (.inr rfl))) (fun _ _ _ _=>pts_nil) (fun _ _ _ _=>(pe_tup (pa_cons (pe_op op_mod (pe_callS D__law_stir passesN (hr.mono (by decide)) rfl (pa_cons (pv 2) (pa_cons (pe_op op_add pe_int (pv 0)) pa_nil))) (pv 1)) (pa_cons (pe_callS D__law_block passesN (hr.mono (by decide)) rfl (pa_cons (pv 2) (pa_cons (pv 0) pa_nil))) pa_nil))))))),?_⟩
  obtain ⟨m,hm,hm4⟩:∃ m:Nat,c / 5 % 4 = (m:Int) /\ m < 4:=⟨(c / 5 % 4).toNat,by omega,by omega⟩
  refine ⟨_,rfl,_,_,rfl,rfl,⟨by first | decide | (dsimp only; decide),by first | decide | (dsimp only; decide)⟩,_,_,rfl,rfl,(by first | decide | (dsimp only; decide)),c / 5 % 4,rfl,by omega,by omega,fun D' hD'=>?_⟩
  refine comp_range (lo:=0) (n:=(c / 5 % 4).toNat) D' (fun i σ H2 ys=>∃ (v:Option V) (chs:List (Int × Int)),σ = [v,some (.int (wd:Int)),some (.int c)] /\ Same H H2 /\ H2 D' = some (.lst ys) /\ ChAt H2 ys chs /\ chs.length = i /\ ∀ x ∈ chs,0 ≤ x.1 /\ x.1 < (wd:Int) /\ 0 ≤ x.2 /\ x.2 < 2 ^ 64) ⟨none,[],rfl,Same.new hD',upd_same,ChAt.nil,rfl,fun x h=>by cases h⟩ ?_ ?_
  · rintro i σ H2 ys hi ⟨v,chs,rfl,s2,hD2,R,hcl,hcb⟩
    have hi4:i < 4:=by omega
    refine ⟨_,rfl,_,rfl,_,_,rfl,rfl,c,_,rfl,_,rfl,_,_,rfl,rfl,(by show (0:Int) < (wd:Int); omega),_,rfl,_,rfl,c,_,rfl,(by show 2 ≤ sizeLine; decide),fun t ht=>?_⟩
    dsimp only
    have nDt:D' ≠ t:=ne_of_none hD2 ht
    have h1:=Int.emod_nonneg (stirI c (70 + (0 + (i:Int)))) (show (wd:Int) ≠ 0 by omega)
    have h2:=Int.emod_lt_of_pos (stirI c (70 + (0 + (i:Int)))) (show (0:Int) < wd by omega)
    have h3:=block_bd c (0 + (i:Int))
    refine ⟨by rw [upd_ne nDt]; exact hD2,by rw [R.len,hcl]; exact small1000 (by omega),_,chs ++ [(stirI c (70 + (0 + (i:Int))) % (wd:Int),blockI c (0 + (i:Int)))],rfl,fun b o e=>?_,upd_same,?_,by simp [hcl],fun x hx=>?_⟩
    · rw [upd_ne (ne_of_none e hD')]; exact Same.new ht b o (s2 b o e)
    · refine (R.mono fun b xs e=>?_).snoc ?_
      · rw [upd_ne (ne_of e hD2 (by intro z; cases z))]; exact Same.new ht b _ e
      · rw [upd_ne nDt.symm,upd_same]
    · rcases List.mem_append.mp hx with h | h
      · exact hcb x h
      · rw [List.mem_singleton.mp h]; exact ⟨h1,h2,h3⟩
  · rintro σ H2 ys ⟨v,chs,rfl,s2,hD2,R,hcl,hcb⟩
    exact q D' ys chs H2 hD2 hD' R ⟨by omega,hcb⟩ s2
theorem ok__law_tables {f:Addr} {fd:FuncData} (F:Fun K "_law_tables" "_law_tables" s__law_tables f fd) (T:Txt K mg t_W t_MOST_BLOCKS t_MOST_FIGURES t_MOST_DAY t_FIGURES t_CHECK_FIGURES C_KeepError C_NoWord C_NoTable C_NoPlace C_NoBlock C_NoDay C_NoBase C_NoLine C_Piece C_Whole C_Gain C_Days C_DAYS_TOLD) :FnOk P w K mg base (CXx P w) 1 f fd ["_law_wide","_law_changes_here"] (sp_tables17):=by
  refine F.okX sc__law_tables (fun vs H Q E h=>?_) (fun cdv A outer s H vs Q E hr h=>?_)
  · obtain ⟨cl,wd,chss,rfl,hC,q⟩:=h; rfl
  obtain ⟨cl,wd,chss,rfl,hC,q⟩:=h
  refine ⟨_,(pss_cons (ps_set (i:=2) sc__law_tables.nd rfl (Or.inl rfl) (pe_lst (pa_cons (pe_op op_rep (pe_lst (pa_cons pe_int pa_nil)) (pv 0)) pa_nil)))
      (pss_cons (ps_for PassesOwn.leaving rfl (pi_list (pv 1)) (pg_name (i:=3) sc__law_tables.nd rfl (Or.inl rfl))
      (pss_cons (ps_set (i:=4) sc__law_tables.nd rfl (Or.inl rfl) (pe_callTy call_list_of (by rfl) T.b_list PyProof.Rows.boot_list (pa_cons (pe_ix ix_list (pv 2) (pe_un un_neg pe_int) (fun _ _=>rfl)) pa_nil)))
      (pss_cons (ps_for PassesOwn.leaving rfl (pi_list (pv 3)) (pg_tup rfl (pgs_cons (pg_name (i:=5) sc__law_tables.nd rfl (Or.inl rfl)) (pgs_cons (pg_name (i:=6) sc__law_tables.nd rfl (Or.inl rfl)) pgs_nil)))
      (pss_one (ps_asg (pv 6) (pg_sub (pv 4) (pv 5) set_list))))
      (pss_one (ps_expr (pe_bm PySem.F.plainAttrs_list PySem.F.slot_list_append PySem.F.type_list_append mt_append (pv 2) (pa_cons (pv 4) pa_nil)))))))
      (pss_one (ps_ret (pv 2))))),?_⟩
  obtain ⟨RL,hcl,hRC⟩:=hC.ex
  obtain ⟨hw0,hw40⟩:=hC.w
  have hn61:=hC.n
  refine ⟨(by show 1 ≤ sizeLine; decide),fun z hz=>⟨_,rfl,z,(wd:Int),_,rfl,rfl,upd_same,by omega,by omega,(by show 1 * _ ≤ sizeLine; exact Nat.le_of_lt (small1000 (by omega))),fun t ht=>⟨(by show 1 ≤ sizeLine; decide),fun tl htl=>?_⟩⟩⟩
  have s1:Same H (upd H z (.lst [V.int 0])):=Same.new hz
  generalize upd H z (.lst [V.int 0]) = G1 at s1 ht htl ⊢
  rw [show ((wd:Int)).toNat = wd by omega,rep_flat]
  rw [show ((wd:Int)).toNat = wd by omega,rep_flat] at htl
  have s2:Same G1 (upd G1 t (.lst ((List.replicate wd 0).map V.int))):=Same.new ht
  have ht2:upd G1 t (.lst ((List.replicate wd 0).map V.int)) t = some (.lst ((List.replicate wd 0).map V.int)):=upd_same
  generalize upd G1 t (.lst ((List.replicate wd 0).map V.int)) = G2 at s2 ht2 htl ⊢
  have s3:Same G2 (upd G2 tl (.lst [V.ref t])):=Same.new htl
  have htl3:upd G2 tl (.lst [V.ref t]) tl = some (.lst ([t].map V.ref)):=upd_same
  generalize upd G2 tl (.lst [V.ref t]) = H1 at s3 htl3 ⊢
  have s01:=s1.trans (s2.trans s3)
  have ntl:H tl = none:=(s1.trans s2).free htl
  have nt:H t = none:=s1.free ht
  have ntt:tl ≠ t:=(ne_of_none ht2 htl).symm
  refine gNameA [some (.int (wd:Int)),some (.ref cl),some (.ref tl),none,none,none,none] ?_
  dsimp only
  refine cutA (fun σ H'=>∃ (v3 v4 v5 v6:Option V) (LT:List Addr),σ = [some (.int (wd:Int)),some (.ref cl),some (.ref tl),v3,v4,v5,v6] /\ Same H H' /\ H' tl = some (.lst (LT.map V.ref)) /\ Rows H' LT (tabsOf wd chss) /\ ∀ b ∈ LT,H b = none) (fun N hN=>?_) ?_
  · refine ⟨_,rfl,cl,rfl,⟨_,SqL.of (s01 _ _ hcl)⟩,for_list (K:=K) (a:=cl) (xs:=RL.map V.ref) (fun i σ H'=>∃ (v3 v4 v5 v6:Option V) (LT:List Addr),σ = [some (.int (wd:Int)),some (.ref cl),some (.ref tl),v3,v4,v5,v6] /\ Same H H' /\ H' tl = some (.lst (LT.map V.ref)) /\ Rows H' LT (tabsOf wd (chss.take i)) /\ (∀ b ∈ LT,H b = none) /\ tl ∉ LT) ⟨none,none,none,none,[t],rfl,s01,htl3,⟨rfl,fun i b xs e1 e2=>?_⟩,fun b hb=>by rw [List.mem_singleton.mp hb]; exact nt,by simpa using ntt⟩ (fun i σ H' _ ⟨_,_,_,_,_,_,s',_⟩=>SqL.of (s' _ _ hcl)) ?_ ?_⟩
    · cases i with
      | zero=>cases e1; cases e2; exact s3 _ _ ht2
      | succ i=>cases e1
    · rintro i v σ H2 hi ⟨v3,v4,v5,v6,LT,rfl,s4,htl4,hLT,hfr,htn⟩
      rw [List.getElem?_map] at hi
      obtain ⟨ra,hra,rfl⟩:=Option.map_eq_some_iff.mp hi
      have hil:i < chss.length:=by rw [← hRC.len]; exact (List.getElem?_eq_some_iff.mp hra).1
      obtain ⟨cs,hcs⟩:∃ cs,chss[i]? = some cs:=⟨_,List.getElem?_eq_getElem hil⟩
      have hok:=hC.ok cs (List.mem_of_getElem? hcs)
      obtain ⟨L,hL0,hCh0⟩:=hRC.get i ra cs hra hcs
      have hL:=s4 _ _ hL0
      have htk:chss.take (i + 1) = chss.take i ++ [cs]:=by rw [List.take_add_one,hcs]; rfl
      have htl':=tabs_len wd (chss.take i)
      have hLl:=hLT.len
      have hlen:LT.length = i + 1:=by rw [hLl,htl',List.length_take]; omega
      obtain ⟨tab,htab⟩:∃ tab,(tabsOf wd (chss.take i))[(tabsOf wd (chss.take i)).length - 1]? = some tab:=⟨_,List.getElem?_eq_getElem (by omega)⟩
      have hTab:TabOk wd tab:=tabs_ok (fun cs hc=>hC.ok cs (List.mem_of_mem_take hc)) tab (List.mem_of_getElem? htab)
      obtain ⟨la,hla,hlm,hlaH⟩:=hLT.at_ htab
      refine gNameA [some (.int (wd:Int)),some (.ref cl),some (.ref tl),some (.ref ra),v4,v5,v6] ?_
      dsimp only
      refine ⟨_,rfl,_,rfl,tl,_,_,V.ref la,rfl,rfl,SqL.of htl4,atI_m1 (by rw [List.length_map,hLl,List.getElem?_map,hla]; rfl),la,_,rfl,.inl (SqL.of hlaH),fun n hn=>?_⟩
      refine gNameA [some (.int (wd:Int)),some (.ref cl),some (.ref tl),some (.ref ra),some (.ref n),v5,v6] ?_
      dsimp only
      have nn:H n = none:=s4.free hn
      have nra:ra ≠ n:=ne_of_none hL hn
      have ntn:tl ≠ n:=ne_of_none htl4 hn
      refine cutA (fun σ H'=>∃ v5 v6:Option V,σ = [some (.int (wd:Int)),some (.ref cl),some (.ref tl),some (.ref ra),some (.ref n),v5,v6] /\ H' = upd H2 n (.lst ((nextT tab cs).map V.int))) (fun N2 hN2=>?_) ?_
      · refine ⟨_,rfl,ra,rfl,⟨_,SqL.of (by rw [upd_ne nra]; exact hL)⟩,for_list (K:=K) (a:=ra) (xs:=L) (fun j σ H3=>∃ v5 v6:Option V,σ = [some (.int (wd:Int)),some (.ref cl),some (.ref tl),some (.ref ra),some (.ref n),v5,v6] /\ H3 = upd H2 n (.lst ((nextT tab (cs.take j)).map V.int))) ⟨v5,v6,rfl,rfl⟩ (fun j σ H3 _ ⟨_,_,_,e⟩=>by rw [e]; exact SqL.of (by rw [upd_ne nra]; exact hL)) ?_ ?_⟩
        · rintro j v σ H3 hj ⟨v5,v6,rfl,rfl⟩
          obtain ⟨t',r,rfl,hr2,ht'⟩:=hCh0.get j v hj
          have hb:=hok.2 r (List.mem_of_getElem? hr2)
          have ht2':=s4 _ _ ht'
          refine ⟨t',_,rfl,SqT.of (by rw [upd_ne (ne_of_none ht2' hn)]; exact ht2'),rfl,_,_,rfl,_,_,rfl,rfl,?_⟩
          refine ⟨_,rfl,_,rfl,_,rfl,n,_,_,r.1.toNat,rfl,rfl,upd_same,?_,?_⟩
          · rw [List.length_map,nextT_len,hTab.1]; unfold ixN; rw [if_pos (by omega),if_pos (by omega)]
          · refine ⟨_,_,rfl,?_⟩
            rw [upd_upd]
            have e:cs.take (j + 1) = cs.take j ++ [r]:=by rw [List.take_add_one,hr2]; rfl
            rw [e,nextT_snoc,List.map_set]
        · rintro σ H3 ⟨v5,v6,rfl,rfl⟩
          rw [show cs.take L.length = cs by rw [hCh0.len,List.take_length]]
          exact hN2 _ _ ⟨v5,v6,rfl,rfl⟩
      rintro σ H3 ⟨v5,v6,rfl,rfl⟩
      have s5:Same H2 (upd H2 n (.lst ((nextT tab cs).map V.int))):=Same.new hn
      have hn5:upd H2 n (.lst ((nextT tab cs).map V.int)) n = some (.lst ((nextT tab cs).map V.int)):=upd_same
      generalize upd H2 n (.lst ((nextT tab cs).map V.int)) = H5 at s5 hn5 ⊢
      have htl5:=s5 _ _ htl4
      refine ⟨_,rfl,.inl ⟨rfl,_,SqL.of htl5⟩,_,rfl,tl,_,_,rfl,rfl,htl5,by rw [List.length_map,hlen]; exact small1000 (by omega),?_⟩
      refine ⟨_,_,_,_,LT ++ [n],rfl,fun b o e=>?_,by rw [upd_same,List.map_append]; rfl,?_,fun b hb=>?_,?_⟩
      · rw [upd_ne (ne_of_none e ntl)]; exact s5 b o (s4 b o e)
      · rw [htk,tabs_snoc,last_of htab]
        refine ((hLT.mono fun b _ o e=>s5 b o e).mono fun b hb o e=>?_).snoc ?_
        · rw [upd_ne (show b ≠ tl from fun z=>htn (by rw [← z]; exact hb))]; exact e
        · rw [upd_ne ntn.symm]; exact hn5
      · rcases List.mem_append.mp hb with h | h
        · exact hfr b h
        · rw [List.mem_singleton.mp h]; exact nn
      · simp only [List.mem_append,List.mem_singleton,not_or]
        exact ⟨htn,ntn⟩
    · rintro σ H2 ⟨v3,v4,v5,v6,LT,rfl,s4,htl4,hLT,hfr,htn⟩
      rw [List.length_map,hRC.len,List.take_length] at hLT
      exact hN _ _ ⟨v3,v4,v5,v6,LT,rfl,s4,htl4,hLT,hfr⟩
  rintro σ H2 ⟨v3,v4,v5,v6,LT,rfl,s4,htl4,hLT,hfr⟩
  exact ⟨_,rfl,q tl LT H2 htl4 hLT ntl hfr s4⟩
theorem ok__law_same {f:Addr} {fd:FuncData} (F:Fun K "_law_same" "_law_same" s__law_same f fd) (T:Txt K mg t_W t_MOST_BLOCKS t_MOST_FIGURES t_MOST_DAY t_FIGURES t_CHECK_FIGURES C_KeepError C_NoWord C_NoTable C_NoPlace C_NoBlock C_NoDay C_NoBase C_NoLine C_Piece C_Whole C_Gain C_Days C_DAYS_TOLD) (D__law_whole:DefX P w K mg base "_law_whole" 1 ["_law_found"] sp_whole):FnOk P w K mg base (CXx P w) 2 f fd ["_law_found","_law_due"] (sp_same19):=by
  refine F.okX sc__law_same (fun vs H Q E h=>?_) (fun cdv A outer s H vs Q E hr h=>?_)
  · obtain ⟨f,e,t,rfl,hf,he,hl,q⟩:=h; rfl
  obtain ⟨f,e,t,rfl,hf,he,hl,q⟩:=h
  refine ⟨_,(pss_cons (ps_if (PW.pt (pw_or (pt_not (pt_val (pe_callB call_isinst (by rfl) T.b_isinstance PyProof.Rows.boot_isinstance (pa_cons (pv 0) (pa_cons (pe_bltn (v:=.ty "list") rfl T.b_list PyProof.Rows.boot_list rfl) pa_nil))))) (pw_or1 (pt_cmpR (op_ne_ref hr.units) (pv 0) (pv 1) (nomark _))))) (pss_one (ps_ret pe_bl)) pss_nil)
      (pss_one (ps_ret (pe_cmpR op_eq (pe_callB call_len_seq (by rfl) T.b_len PySem.boot_len (pa_cons (pe_comp (N:=["_law_block_here"]) (k:=1) (cap:=[]) rfl rfl (pi_list (pv 0)) (fun _ _ _ _=>(pg_name (i:=0) (show (["_law_block_here"]:List Str).Nodup from by decide +kernel) rfl (Or.inl rfl) (.inr rfl))) (fun _ _ _ _=>(pts_one (pt_val (pe_callS D__law_whole passesN (hr.mono (by decide)) rfl (pa_cons (pv 0) pa_nil))))) (fun _ _ _ _=>(pv 0))) pa_nil)) (pe_callB call_len_seq (by rfl) T.b_len PySem.boot_len (pa_cons (pv 1) pa_nil)) (nomark _))))),?_⟩
  refine if_no (fun Qb hq=>?_) ?_
  · refine ⟨_,rfl,_,_,_,_,true,rfl,rfl,.lst hf,rfl,_,rfl,iteF ?_⟩
    exact ⟨_,rfl,_,rfl,0,true,by decide,SeqEq.sameL (SqL.of hf) (SqL.of he) (fun x hx=>by obtain ⟨z,_,rfl⟩:=List.mem_map.mp hx; exact eqI_int _),_,rfl,hq⟩
  try unfold tNext
  dsimp only
  refine ⟨_,rfl,f,rfl,⟨_,SqL.of hf⟩,fun D hD=>?_⟩
  refine comp_list D (K:=K) (a:=f) (xs:=t.map V.int) (fun i σ H5 ys=>∃ v:Option V,σ = [v] /\ Same H H5 /\ H5 D = some (.lst ys) /\ ys = (t.take i).map V.int) ⟨none,rfl,Same.new hD,upd_same,rfl⟩ (fun i σ H5 ys _ ⟨_,_,s5,_⟩=>SqL.of (s5 _ _ hf)) ?_ ?_
  · rintro i x σ H5 ys hi ⟨v,rfl,s5,hy,rfl⟩
    rw [List.getElem?_map] at hi
    obtain ⟨z,hz,rfl⟩:=Option.map_eq_some_iff.mp hi
    refine ⟨_,rfl,z,rfl,_,rfl,iteT ⟨_,rfl,hy,by rw [List.length_map,List.length_take]; exact small1000 (by omega),_,rfl,fun b o e=>?_,upd_same,by rw [List.take_add_one,hz,List.map_append]; rfl⟩⟩
    rw [upd_ne (ne_of_none e hD)]; exact s5 b o e
  · rintro σ H5 ys ⟨v,rfl,s5,hy,rfl⟩
    rw [List.take_of_length_le (by simp)] at hy
    refine ⟨D,_,rfl,.inl (SqL.of hy),_,rfl,e,_,rfl,.inl (SqL.of (s5 _ _ he)),rfl,?_⟩
    rw [decide_eq_true rfl]
    exact q _ s5
theorem ok_law {f:Addr} {fd:FuncData} (F:Fun K "law" "law" s_law f fd) (T:Txt K mg t_W t_MOST_BLOCKS t_MOST_FIGURES t_MOST_DAY t_FIGURES t_CHECK_FIGURES C_KeepError C_NoWord C_NoTable C_NoPlace C_NoBlock C_NoDay C_NoBase C_NoLine C_Piece C_Whole C_Gain C_Days C_DAYS_TOLD) (D__law_cell:DefX P w K mg base "_law_cell" 1 ["_law_script","_law_k"] (sp_cell K)) (D__law_changes:DefX P w K mg base "_law_changes" 3 ["_law_cell_here","_law_wide"] sp_changes17) (D_Days:MakeX P w K mg base "Days" C_Days 4 ["self","wide"] (sp_init C_Days C_NoTable)) (D_Days_passes:MethX P w K mg base C_Days "passes" 4 ["self","changes"] (sp_passes C_Days C_NoPlace C_NoBlock)) (D__law_tables:DefX P w K mg base "_law_tables" 1 ["_law_wide","_law_changes_here"] sp_tables17) (D_piece_of:DefX P w K mg base "piece_of" 7 ["line"] (sp_pieceof C_Whole C_Gain)) (D_line_of:DefX P w K mg base "line_of" 4 ["piece"] (sp_lineof C_Whole C_Gain)) (D_whole_of:DefX P w K mg base "whole_of" 6 ["days","day"] (sp_wholeof C_Days C_Whole C_Gain C_NoDay)) (D_Gain_laid:MethX P w K mg base C_Gain "laid" 1 ["self","table"] (sp_glaid C_Whole C_Gain)) (D_Whole_laid:MethX P w K mg base C_Whole "laid" 1 ["self","table"] (sp_wlaid C_Whole C_Gain)) (D__law_same:DefX P w K mg base "_law_same" 2 ["_law_found","_law_due"] sp_same19) (D__law_stir:DefX P w K mg base "_law_stir" 1 ["_law_cell_here","_law_k"] sp_stir) (D_gain_of:DefX P w K mg base "gain_of" 6 ["days","base","day"] (sp_gainof C_Days C_Whole C_Gain C_NoDay C_NoBase)) (D_Gain_is_good:MethX P w K mg base C_Gain "is_good" 3 ["self"] (sp_good C_Whole C_Gain)) (D_Whole_is_good:MethX P w K mg base C_Whole "is_good" 3 ["self"] (sp_good C_Whole C_Gain)):FnOk P w K mg base (CXx P w) 8 f fd ["_law_script"] (sp_law K):=by
  refine F.okX sc_law (fun vs H Q E h=>?_) (fun cdv A outer s H vs Q E hr h=>?_)
  · obtain ⟨a,ns,rfl,hS,hlen,q⟩:=h; rfl
  obtain ⟨a,ns,rfl,hS,hlen,q⟩:=h
  refine ⟨_,(pss_cons (ps_set (i:=1) sc_law.nd rfl (Or.inl rfl) (pe_callS D__law_cell passesN (hr.mono (by decide)) rfl (pa_cons (pv 0) (pa_cons pe_int pa_nil))))
      (pss_cons (ps_set (i:=2) sc_law.nd rfl (Or.inr rfl) (pe_op op_add pe_int (pe_op op_mod (pe_op op_fdivB (pv 1) pe_int) (pe_ix ix_list (pe_lst (pa_cons pe_int (pa_cons pe_int pa_nil))) (pe_op op_mod (pv 1) pe_int) (fun _ _=>rfl)))))
      (pss_cons (ps_setComp (i:=3) sc_law.nd rfl (Or.inl rfl) (N:=["_law_k","_law_wide","_law_script"]) (k:=1) (cap:=[2,0]) rfl rfl (pi_range2 rfl T.b_range (pa_cons pe_int (pa_cons (pe_callB (call_max2 rfl) (by rfl) T.b_max PyProof.Rows.boot_max (pa_cons pe_int (pa_cons (pe_callB (call_min2 rfl) (by rfl) T.b_min PyProof.Rows.boot_min (pa_cons (pe_callB call_len_seq (by rfl) T.b_len PySem.boot_len (pa_cons (pv 0) pa_nil)) (pa_cons pe_int pa_nil))) pa_nil))) pa_nil))) (fun _ _ _ _=>(pg_name (i:=0) (show (["_law_k","_law_wide","_law_script"]:List Str).Nodup from by decide +kernel) rfl (Or.inl rfl) (.inr rfl))) (fun _ _ _ _=>pts_nil) (fun _ _ _ _=>(pe_callS D__law_changes passesN (hr.mono (by decide)) rfl (pa_cons (pe_callS D__law_cell passesN (hr.mono (by decide)) rfl (pa_cons (pv 2) (pa_cons (pv 0) pa_nil))) (pa_cons (pv 1) pa_nil)))))
      (pss_cons (ps_set (i:=4) sc_law.nd rfl (Or.inl rfl) (pe_makeS D_Days passesB (hr.mono (by decide)) rfl (pa_cons (pv 2) pa_nil)))
      (pss_cons (ps_for PassesOwn.leaving rfl (pi_list (pv 3)) (pg_name (i:=5) sc_law.nd rfl (Or.inl rfl))
      (pss_one (ps_expr (pe_methS (pv 4) T.cl_Days D_Days_passes passesB (hr.mono (by decide)) (pa_cons (pe_callTy call_list_of (by rfl) T.b_list PyProof.Rows.boot_list (pa_cons (pv 5) pa_nil)) pa_nil)))))
      (pss_cons (ps_set (i:=6) sc_law.nd rfl (Or.inl rfl) (pe_callS D__law_tables passesN (hr.mono (by decide)) rfl (pa_cons (pv 2) (pa_cons (pv 3) pa_nil))))
      (pss_cons (ps_set (i:=7) sc_law.nd rfl (Or.inl rfl) (pe_op op_mod (pe_callS D__law_cell passesN (hr.mono (by decide)) rfl (pa_cons (pv 0) (pa_cons pe_int pa_nil))) (pe_callB call_len_seq (by rfl) T.b_len PySem.boot_len (pa_cons (pv 6) pa_nil))))
      (pss_cons (ps_set (i:=8) sc_law.nd rfl (Or.inl rfl) (pe_callS D_piece_of passesN (hr.mono (by decide)) rfl (pa_cons (pe_callS D_line_of passesN (hr.mono (by decide)) rfl (pa_cons (pe_callS D_whole_of passesB (hr.mono (by decide)) rfl (pa_cons (pv 4) (pa_cons (pv 7) pa_nil))) pa_nil)) pa_nil)))
      (pss_cons (ps_set (i:=9) sc_law.nd rfl (Or.inl rfl) (pe_or2 (pe_methS (pv 8) T.cl_Whole D_Whole_laid passesN (hr.mono (by decide)) (pa_cons (pe_lst pa_nil) pa_nil)) (pe_methS (pv 8) T.cl_Gain D_Gain_laid passesN (hr.mono (by decide)) (pa_cons (pe_lst pa_nil) pa_nil))))
      (pss_cons (ps_set (i:=10) sc_law.nd rfl (Or.inl rfl) (pe_op op_rep (pe_lst (pa_cons pe_int pa_nil)) (pv 2)))
      (pss_cons (ps_if (PW.pt (pw_or (pt_not (pt_val (pe_callS D__law_same passesN (hr.mono (by decide)) rfl (pa_cons (pv 9) (pa_cons (pe_ix ix_list (pv 6) (pv 7) (fun _ _=>rfl)) pa_nil))))) (pw_or (pt_not (pt_val (pe_callS D__law_same passesN (hr.mono (by decide)) rfl (pa_cons (pe_or2 (pe_methS (pv 8) T.cl_Whole D_Whole_laid passesN (hr.mono (by decide)) (pa_cons (pv 10) pa_nil)) (pe_methS (pv 8) T.cl_Gain D_Gain_laid passesN (hr.mono (by decide)) (pa_cons (pv 10) pa_nil))) (pa_cons (pv 9) pa_nil))))) (pw_or1 (pt_cmpR (op_ne_ref hr.units) (pv 10) (pe_op op_rep (pe_lst (pa_cons pe_int pa_nil)) (pv 2)) (nomark _)))))) (pss_one (ps_ret pe_bl)) pss_nil)
      (pss_cons (ps_set (i:=11) sc_law.nd rfl (Or.inl rfl) (pv 7))
      (pss_cons (ps_for PassesOwn.leaving rfl (pi_range2 rfl T.b_range (pa_cons (pe_op op_add (pv 7) pe_int) (pa_cons (pe_callB call_len_seq (by rfl) T.b_len PySem.boot_len (pa_cons (pv 6) pa_nil)) pa_nil))) (pg_name (i:=12) sc_law.nd rfl (Or.inl rfl))
      (pss_one (ps_if (pt_cmpR op_eq (pe_op op_mod (pe_callS D__law_stir passesN (hr.mono (by decide)) rfl (pa_cons (pe_callS D__law_cell passesN (hr.mono (by decide)) rfl (pa_cons (pv 0) (pa_cons pe_int pa_nil))) (pa_cons (pv 12) pa_nil))) pe_int) pe_int (nomark _)) (pss_cons (ps_set (i:=13) sc_law.nd rfl (Or.inl rfl) (pe_callS D_piece_of passesN (hr.mono (by decide)) rfl (pa_cons (pe_callS D_line_of passesN (hr.mono (by decide)) rfl (pa_cons (pe_callS D_gain_of passesB (hr.mono (by decide)) rfl (pa_cons (pv 4) (pa_cons (pv 11) (pa_cons (pv 12) pa_nil)))) pa_nil)) pa_nil)))
      (pss_cons (ps_set (i:=10) sc_law.nd rfl (Or.inl rfl) (pe_callTy call_list_of (by rfl) T.b_list PyProof.Rows.boot_list (pa_cons (pv 9) pa_nil)))
      (pss_cons (ps_set (i:=14) sc_law.nd rfl (Or.inl rfl) (pe_or2 (pe_methS (pv 13) T.cl_Whole D_Whole_laid passesN (hr.mono (by decide)) (pa_cons (pv 10) pa_nil)) (pe_methS (pv 13) T.cl_Gain D_Gain_laid passesN (hr.mono (by decide)) (pa_cons (pv 10) pa_nil))))
      (pss_cons (ps_if (PW.pt (pw_or (pt_not (pt_val (pe_or2 (pe_methS0 (pv 13) T.cl_Whole D_Whole_is_good passesN (hr.mono (by decide))) (pe_methS0 (pv 13) T.cl_Gain D_Gain_is_good passesN (hr.mono (by decide)))))) (pw_or (pt_not (pt_val (pe_callS D__law_same passesN (hr.mono (by decide)) rfl (pa_cons (pv 14) (pa_cons (pe_ix ix_list (pv 6) (pv 12) (fun _ _=>rfl)) pa_nil))))) (pw_or1 (pt_cmpR (op_ne_ref hr.units) (pv 10) (pv 9) (nomark _)))))) (pss_one (ps_ret pe_bl)) pss_nil)
      (pss_cons (ps_asg pe_int (pg_sub (pv 14) pe_int set_list))
      (pss_cons (ps_if (PW.pt (pw_or (pt_cmpR (op_ne_ref hr.units) (pv 10) (pv 9) (nomark _)) (pw_or1 (pt_not (pt_val (pe_callS D__law_same passesN (hr.mono (by decide)) rfl (pa_cons (pe_or2 (pe_methS (pv 13) T.cl_Whole D_Whole_laid passesN (hr.mono (by decide)) (pa_cons (pv 10) pa_nil)) (pe_methS (pv 13) T.cl_Gain D_Gain_laid passesN (hr.mono (by decide)) (pa_cons (pv 10) pa_nil))) (pa_cons (pe_ix ix_list (pv 6) (pv 12) (fun _ _=>rfl)) pa_nil)))))))) (pss_one (ps_ret pe_bl)) pss_nil)
      (pss_cons (ps_set (i:=9) sc_law.nd rfl (Or.inl rfl) (pe_callTy call_list_of (by rfl) T.b_list PyProof.Rows.boot_list (pa_cons (pe_ix ix_list (pv 6) (pv 12) (fun _ _=>rfl)) pa_nil)))
      (pss_one (ps_set (i:=11) sc_law.nd rfl (Or.inl rfl) (pv 12)))))))))) pss_nil)))
      (pss_cons (ps_if (pt_cmpR op_eq (pv 11) (pv 7) (nomark _)) (pss_one (ps_ret pe_bl)) pss_nil)
      (pss_cons (ps_set (i:=15) sc_law.nd rfl (Or.inl rfl) (pe_callS D_piece_of passesN (hr.mono (by decide)) rfl (pa_cons (pe_callS D_line_of passesN (hr.mono (by decide)) rfl (pa_cons (pe_callS D_gain_of passesB (hr.mono (by decide)) rfl (pa_cons (pv 4) (pa_cons (pv 7) (pa_cons (pv 11) pa_nil)))) pa_nil)) pa_nil)))
      (pss_one (ps_ret (pe_callS D__law_same passesN (hr.mono (by decide)) rfl (pa_cons (pe_or2 (pe_methS (pv 15) T.cl_Whole D_Whole_laid passesN (hr.mono (by decide)) (pa_cons (pe_ix ix_list (pv 6) (pv 7) (fun _ _=>rfl)) pa_nil)) (pe_methS (pv 15) T.cl_Gain D_Gain_laid passesN (hr.mono (by decide)) (pa_cons (pe_ix ix_list (pv 6) (pv 7) (fun _ _=>rfl)) pa_nil))) (pa_cons (pe_ix ix_list (pv 6) (pv 11) (fun _ _=>rfl)) pa_nil)))))))))))))))))))),?_⟩
  refine ⟨_,rfl,a,ns,0,rfl,hS,?_⟩
  generalize cellI ns ((0:Nat):Int) = c0
  refine gNameA [some (.ref a),some (.int c0),none,none,none,none,none,none,none,none,none,none,none,none,none,none] ?_
  dsimp only
  obtain ⟨z,ez,hz⟩:=two_of (x:=5) (y:=40) (k:=c0 % 2) (by omega) (by omega)
  have hz0:0 < z /\ z ≤ 40:=by rcases hz with rfl | rfl <;> omega
  have hm0:=Int.emod_nonneg (c0 / 2) (show z ≠ 0 by omega)
  have hm1:=Int.emod_lt_of_pos (c0 / 2) hz0.1
  obtain ⟨wd,hwd,hw0,hw40⟩:∃ wd:Nat,1 + c0 / 2 % z = (wd:Int) /\ 0 < wd /\ wd ≤ 40:=⟨(1 + c0 / 2 % z).toNat,by omega,by omega,by omega⟩
  refine ⟨_,rfl,_,_,rfl,rfl,⟨by first | decide | (dsimp only; decide),by first | decide | (dsimp only; decide)⟩,(by show 2 ≤ sizeLine; decide),fun g hg=>⟨_,rfl,_,_,rfl,rfl,(by first | decide | (dsimp only; decide)),g,_,_,V.int z,rfl,rfl,SqL.of upd_same,ez,_,_,rfl,rfl,hz0.1,_,_,rfl,rfl,?_⟩⟩
  have s1:Same H (upd H g (.lst [V.int 5,V.int 40])):=Same.new hg
  generalize upd H g (.lst [V.int 5,V.int 40]) = H1 at s1 ⊢
  have hS1:=s1.seq hS
  clear hS hg
  refine gNameA [some (.ref a),some (.int c0),some (.int (wd:Int)),none,none,none,none,none,none,none,none,none,none,none,none,none] ?_ (by rw [← hwd]; rfl)
  dsimp only
  obtain ⟨hi,ehi,hi8,hi62⟩:∃ hi:Int,(if (if (62:Int) < ((ns.map V.int).length:Int) then (62:Int) else ((ns.map V.int).length:Int)) > 8 then (if (62:Int) < ((ns.map V.int).length:Int) then (62:Int) else ((ns.map V.int).length:Int)) else 8) = hi /\ 8 ≤ hi /\ hi ≤ 62:=⟨_,rfl,by split <;> split <;> omega,by split <;> split <;> omega⟩
  refine cutA (fun σ H'=>∃ (cl:Addr) (RL:List Addr) (chss:List (List (Int × Int))),σ = [some (.ref a),some (.int c0),some (.int (wd:Int)),some (.ref cl),none,none,none,none,none,none,none,none,none,none,none,none] /\ Same H1 H' /\ H' cl = some (.lst (RL.map V.ref)) /\ RowsC H' RL chss /\ (∀ cs ∈ chss,ChOk wd cs) /\ 6 ≤ chss.length /\ chss.length ≤ 60) (fun N hN=>?_) ?_
  · refine ⟨_,rfl,a,_,rfl,.inl hS1,_,_,rfl,_,_,rfl,2,hi,by rw [ehi],⟨by omega,by omega,by omega,by omega⟩,fun D' hD'=>?_⟩
    refine comp_range (lo:=2) (n:=(hi - 2).toNat) D' (fun i σ H2 ys=>∃ (v:Option V) (RL:List Addr) (chss:List (List (Int × Int))),σ = [v,some (.int (wd:Int)),some (.ref a)] /\ Same H1 H2 /\ H2 D' = some (.lst ys) /\ ys = RL.map V.ref /\ RowsC H2 RL chss /\ (∀ cs ∈ chss,ChOk wd cs) /\ chss.length = i /\ D' ∉ RL) ⟨none,[],[],rfl,Same.new hD',upd_same,rfl,⟨rfl,fun i a cs e=>by simp at e⟩,(fun cs h=>by cases h),rfl,by simp⟩ ?_ ?_
    · rintro i σ H2 ys hi ⟨v,RL,chss,rfl,s2,hD2,rfl,hR,hok,hcl,hnD⟩
      rw [show (2:Int) + (i:Int) = ((2 + i:Nat):Int) by omega]
      refine ⟨_,rfl,_,rfl,a,ns,2 + i,rfl,s2.seq hS1,_,rfl,_,wd,rfl,hw0,fun l L chs H3 hl nl hCh hcok s3=>?_⟩
      have hD3:=s3 _ _ hD2
      have nlD:l ≠ D':=fun z=>by rw [z,hD2] at nl; cases nl
      have hRl:RL.length = i:=by rw [hR.len,hcl]
      refine ⟨hD3,by rw [List.length_map,hRl]; exact small1000 (by omega),_,RL ++ [l],chss ++ [chs],rfl,fun b o e=>?_,upd_same,by simp,?_,fun cs h=>?_,by simp [hcl],?_⟩
      · rw [upd_ne (ne_of_none e hD')]; exact s3 b o (s2 b o e)
      · have tk:∀ t xs,H3 t = some (.tup xs)->upd H3 D' (.lst (RL.map V.ref ++ [V.ref l])) t = some (.tup xs):=fun t xs e=>by rw [upd_ne (ne_of e hD3 (by intro z; cases z))]; exact e
        refine ((hR.same s3).mono (fun b hb o e=>?_) tk).snoc (L:=L) ?_ (hCh.mono tk)
        · rw [upd_ne (show b ≠ D' from fun z=>hnD (by rw [← z]; exact hb))]; exact e
        · rw [upd_ne nlD]; exact hl
      · rcases List.mem_append.mp h with h | h
        · exact hok cs h
        · rw [List.mem_singleton.mp h]; exact hcok
      · simp only [List.mem_append,List.mem_singleton,not_or]; exact ⟨hnD,nlD.symm⟩
    · rintro σ H2 L ⟨v,RL,chss,rfl,s2,hD2,rfl,hR,hok,hcl,hnD⟩
      refine gNameA [some (.ref a),some (.int c0),some (.int (wd:Int)),some (.ref D'),none,none,none,none,none,none,none,none,none,none,none,none] ?_
      exact hN _ _ ⟨D',RL,chss,rfl,s2,hD2,hR,hok,by omega,by omega⟩
  rintro σ H2 ⟨cl,RL,chss,rfl,s2,hcl2,hR2,hok,hc6,hc60⟩
  have hS2:=s2.seq hS1
  clear hS1
  have hR3:∀ b ∈ RL,∃ o,H2 b = some o:=hR2.here
  refine ⟨_,rfl,fun p dx hp hdx hne=>?_⟩
  refine ⟨p,dx,(wd:Int),rfl,upd_same,fun _=>?_,fun h=>absurd ⟨by omega,by omega⟩ h⟩
  intro ta sa tz se H3 D fr k3
  rw [show ((wd:Int)).toNat = wd by omega] at D
  refine ⟨rfl,?_⟩
  refine gNameA [some (.ref a),some (.int c0),some (.int (wd:Int)),some (.ref cl),some (.ref p),none,none,none,none,none,none,none,none,none,none,none] ?_
  dsimp only
  have s3:Same H2 H3:=made_same hp hdx k3
  have hfo:∀ b ∈ foot p ta sa [tz] [se],H2 b = none:=fun b hb=>by
    simp only [foot,List.mem_cons,List.mem_append,List.not_mem_nil,or_false] at hb
    have z:b = p ∨ b ∈ [ta,sa,tz,se]:=by simp only [List.mem_cons,List.not_mem_nil,or_false]; grind
    rcases z with z | z
    · rw [z]; exact hp
    · exact (upd_none (upd_none (fr b z)).1).1
  have D:DaysAt C_Days H3 p ta sa [tz] [se] wd (tabsOf wd []) (setsOf []):=D
  refine cutA (fun σ H'=>∃ (v5:Option V) (TL SL:List Addr),σ = [some (.ref a),some (.int c0),some (.int (wd:Int)),some (.ref cl),some (.ref p),v5,none,none,none,none,none,none,none,none,none,none] /\ Same H2 H' /\ DaysAt C_Days H' p ta sa TL SL wd (tabsOf wd chss) (setsOf chss) /\ ∀ b ∈ foot p ta sa TL SL,H2 b = none) (fun N hN=>?_) ?_
  · refine ⟨_,rfl,cl,rfl,⟨_,SqL.of (s3 _ _ hcl2)⟩,for_list (K:=K) (a:=cl) (xs:=RL.map V.ref) (fun i σ H'=>∃ (v5:Option V) (TL SL:List Addr),σ = [some (.ref a),some (.int c0),some (.int (wd:Int)),some (.ref cl),some (.ref p),v5,none,none,none,none,none,none,none,none,none,none] /\ Same H2 H' /\ DaysAt C_Days H' p ta sa TL SL wd (tabsOf wd (chss.take i)) (setsOf (chss.take i)) /\ ∀ b ∈ foot p ta sa TL SL,H2 b = none) ⟨none,[tz],[se],rfl,s3,D,hfo⟩ (fun i σ H' _ ⟨_,_,_,_,s',_⟩=>SqL.of (s' _ _ hcl2)) ?_ ?_⟩
    · rintro i v σ H4 hi ⟨v5,TL,SL,rfl,s4,D4,hf4⟩
      rw [List.getElem?_map] at hi
      obtain ⟨ra,hra,rfl⟩:=Option.map_eq_some_iff.mp hi
      have hil:i < chss.length:=by rw [← hR2.len]; exact (List.getElem?_eq_some_iff.mp hra).1
      obtain ⟨cs,hcs⟩:∃ cs,chss[i]? = some cs:=⟨_,List.getElem?_eq_getElem hil⟩
      have hcok:=hok cs (List.mem_of_getElem? hcs)
      obtain ⟨L,hL0,hCh0⟩:=hR2.get i ra cs hra hcs
      have htk:chss.take (i + 1) = chss.take i ++ [cs]:=by rw [List.take_add_one,hcs]; rfl
      have htl:=tabs_len wd (chss.take i)
      have htl2:(chss.take i).length ≤ 60:=by rw [List.length_take]; omega
      obtain ⟨dx4,ob4⟩:=D4.ob
      refine gNameA [some (.ref a),some (.int c0),some (.int (wd:Int)),some (.ref cl),some (.ref p),some (.ref ra),none,none,none,none,none,none,none,none,none,none] ?_
      dsimp only
      refine ⟨_,rfl,p,dx4,_,rfl,ob4,fl_no (by decide +kernel) (by decide +kernel) (by decide +kernel) (by decide +kernel),_,rfl,ra,L,rfl,.inl (SqL.of (s4 _ _ hL0)),fun hn hhn=>?_⟩
      have s5:Same H4 (upd H4 hn (.lst L)):=Same.new hhn
      have hhn5:upd H4 hn (.lst L) hn = some (.lst L):=upd_same
      have nhf:hn ∉ foot p ta sa TL SL:=D4.fresh hhn
      generalize upd H4 hn (.lst L) = H5 at s5 hhn5 ⊢
      have hfc:=first_ok hcok
      refine ⟨p,ta,sa,hn,TL,SL,wd,_,_,L,cs,rfl,D4.same s5,hhn5,hCh0.mono (fun t xs e=>s5 t _ (s4 t _ e)),by have:=hcok.1; omega,by omega,nhf,fun _ m d H6 tab etab D6 nm nd' k6=>?_,fun x h=>(by rw [hfc] at h; cases h),fun x h=>(by rw [hfc] at h; cases h)⟩
      refine ⟨_,TL ++ [m],SL ++ [d],rfl,fun b o e=>?_,?_,fun b hb=>?_⟩
      · exact k6 b o (s5 b o (s4 b o e)) fun hb=>by rw [hf4 b hb] at e; cases e
      · rw [htk,tabs_snoc,sets_snoc,last_of etab]; exact D6
      · have z:b ∈ foot p ta sa TL SL ∨ b = m ∨ b = d:=by
          simp only [foot,List.mem_cons,List.mem_append,List.not_mem_nil,or_false] at hb ⊢; grind
        rcases z with z | z | z
        · exact hf4 b z
        · rw [z]; exact s4.free (s5.free nm)
        · rw [z]; exact s4.free (s5.free nd')
    · rintro σ H4 ⟨v5,TL,SL,rfl,s4,D4,hf4⟩
      rw [List.length_map,hR2.len,List.take_length] at D4
      exact hN _ _ ⟨v5,TL,SL,rfl,s4,D4,hf4⟩
  clear D fr k3 s3 hfo
  rintro σ H4 ⟨v5,TL,SL,rfl,s4,D4,hf4⟩
  have hC4:ChsL H4 cl wd chss:=⟨⟨RL,s4 _ _ hcl2,hR2.same s4⟩,hok,⟨hw0,hw40⟩,by omega⟩
  have hS4:=s4.seq hS2
  have hSin:=sets_in hw40 hok
  have hTok:=tabs_ok hok
  have htn:=tabs_len wd chss
  have hsn:=sets_len chss
  have dayR:∀ {J:Hp},Same H4 J->DayR C_Days J p wd (tabsOf wd chss) (setsOf chss):=fun s=>⟨⟨ta,sa,TL,SL,D4.same s⟩,hSin,hTok,by omega⟩
  refine ⟨_,rfl,_,rfl,cl,wd,chss,rfl,hC4,fun tl LT H5 htl5 hLT5 ntl nLT s5=>?_⟩
  refine gNameA [some (.ref a),some (.int c0),some (.int (wd:Int)),some (.ref cl),some (.ref p),v5,some (.ref tl),none,none,none,none,none,none,none,none,none] ?_
  dsimp only
  have hTl:(LT.map V.ref).length = chss.length + 1:=by rw [List.length_map,hLT5.len,htn]
  have h64:=tabs_64 hok
  have s45:=s5
  have tabAt:∀ {d:Nat},d ≤ chss.length->∃ tab,(tabsOf wd chss)[d]? = some tab /\ TabOk wd tab /\ Tab64 tab:=fun {d} hd=>by
    have h:d < (tabsOf wd chss).length:=by omega
    exact ⟨_,List.getElem?_eq_getElem h,hTok _ (List.getElem_mem h),h64 _ (List.getElem_mem h)⟩
  have listAt:∀ {d:Nat} {tab:List Int},(tabsOf wd chss)[d]? = some tab->∃ la,atI (LT.map V.ref) (d:Int) = some (V.ref la) /\ H5 la = some (.lst (tab.map V.int)):=fun {d} {tab} h=>by
    obtain ⟨la,h1,_,h3⟩:=hLT5.at_ h
    exact ⟨la,atI_nat (by rw [List.getElem?_map,h1]; rfl),h3⟩
  refine cutA (fun σ H'=>∃ bg:Nat,σ = [some (.ref a),some (.int c0),some (.int (wd:Int)),some (.ref cl),some (.ref p),v5,some (.ref tl),some (.int (bg:Int)),none,none,none,none,none,none,none,none] /\ H5 = H' /\ bg ≤ chss.length) (fun N hN=>?_) ?_
  · refine ⟨_,rfl,a,ns,1,rfl,s5.seq hS4,_,rfl,tl,_,rfl,.inl (SqL.of htl5),_,_,rfl,rfl,(by show (0:Int) < _; rw [hTl]; omega),?_⟩
    generalize cellI ns ((1:Nat):Int) = c1
    have b0:=Int.emod_nonneg c1 (show (((LT.map V.ref).length:Nat):Int) ≠ 0 by omega)
    have b1:=Int.emod_lt_of_pos c1 (show (0:Int) < (((LT.map V.ref).length:Nat):Int) by omega)
    obtain ⟨bg,ebg⟩:∃ bg:Nat,c1 % (((LT.map V.ref).length:Nat):Int) = (bg:Int):=⟨(c1 % (((LT.map V.ref).length:Nat):Int)).toNat,by omega⟩
    exact hN _ _ ⟨bg,by dsimp only; rw [ebg]; rfl,rfl,by omega⟩
  rintro σ _ ⟨bg,rfl,rfl,hbg⟩
  obtain ⟨tab0,ht0,hT0,hT064⟩:=tabAt hbg
  obtain ⟨la0,hla0,hla05⟩:=listAt ht0
  refine cutA (fun σ H'=>∃ (q0:Addr),σ = [some (.ref a),some (.int c0),some (.int (wd:Int)),some (.ref cl),some (.ref p),v5,some (.ref tl),some (.int (bg:Int)),some (.ref q0),none,none,none,none,none,none,none] /\ Same H5 H' /\ PAt C_Whole C_Gain H' q0 true 0 bg (wrows tab0) (ckOf true 0 bg (wrows tab0):Nat)) (fun N hN=>?_) ?_
  · refine ⟨_,rfl,_,rfl,p,wd,_,_,(bg:Int),rfl,dayR s5,fun hok1 q1 tab1 J1 e1 hP1 s6=>?_,fun h=>absurd (show okD _ _ from ⟨by omega,by omega⟩) h⟩
    rw [show ((bg:Int)).toNat = bg from rfl,ht0] at e1
    cases e1
    have hL:=lin_whole hw0 hw40 (show bg ≤ 1000 by omega) hT0 hT064
    exact ⟨q1,⟨true,0,bg,wrows tab0,_⟩,rfl,hP1,hL,fun J2 s7=>⟨_,rfl,hL,fun q2 J3 hP2 s8=>hN _ _ ⟨q2,rfl,s6.trans (s7.trans s8),hP2⟩⟩⟩
  rintro σ H6 ⟨q0,rfl,s6,hP6⟩
  obtain ⟨dx0,r0,R0,hq1,hq2,hq3⟩:=id hP6
  have hwl0:(wrows tab0).length ≤ 100:=by rw [wrows_len,hT0.1]; omega
  have hl0:tab0.length ≤ 40:=by rw [hT0.1]; exact hw40
  refine cutA (fun σ H'=>∃ tb:Addr,σ = [some (.ref a),some (.int c0),some (.int (wd:Int)),some (.ref cl),some (.ref p),v5,some (.ref tl),some (.int (bg:Int)),some (.ref q0),some (.ref tb),none,none,none,none,none,none] /\ Same H6 H' /\ H' tb = some (.lst (tab0.map V.int))) (fun N hN=>?_) ?_
  · refine .inl ⟨_,rfl,q0,dx0,_,rfl,hq1,lk_no (wh:=true) (by decide +kernel) (by decide +kernel) (by decide +kernel) (by decide +kernel),Nat.zero_le _,fun z hz=>⟨q0,z,0,bg,wrows tab0,_,rfl,hP6.keep (Same.new hz),hwl0,fun l J hl nl sJ=>?_⟩⟩
    rw [lay_whole hT0] at hl
    exact hN _ _ ⟨l,rfl,(Same.new hz).trans sJ,hl⟩
  rintro σ H7 ⟨tb,rfl,s7,htb7⟩
  obtain ⟨sev,hsev⟩:∃ sev,sev = (List.replicate ((wd:Int)).toNat [V.int 7]).flatten:=⟨_,rfl⟩
  have sevI:∀ x ∈ sev,∃ i:Int,x = V.int i:=fun x hx=>by
    rw [hsev] at hx
    obtain ⟨l,h1,h2⟩:=List.mem_flatten.mp hx
    rw [(List.mem_replicate.mp h1).2] at h2
    exact ⟨7,List.mem_singleton.mp h2⟩
  refine cutA (fun σ H'=>∃ hd:Addr,σ = [some (.ref a),some (.int c0),some (.int (wd:Int)),some (.ref cl),some (.ref p),v5,some (.ref tl),some (.int (bg:Int)),some (.ref q0),some (.ref tb),some (.ref hd),none,none,none,none,none] /\ Same H7 H' /\ H' hd = some (.lst sev)) (fun N hN=>?_) ?_
  · refine ⟨(by show 1 ≤ sizeLine; decide),fun z hz=>⟨_,rfl,z,(wd:Int),_,rfl,rfl,upd_same,by omega,by omega,(by show 1 * _ ≤ sizeLine; exact Nat.le_of_lt (small1000 (by omega))),fun t ht=>?_⟩⟩
    rw [← hsev]
    exact hN _ _ ⟨t,rfl,(Same.new hz).trans (Same.new ht),upd_same⟩
  rintro σ H8 ⟨hd,rfl,s8,hhd8⟩
  have s58:=s6.trans (s7.trans s8)
  have s68:=s7.trans s8
  refine if_B false (fun H'=>Same H8 H') (fun Qb hq=>?_) (fun h=>by cases h) (fun _ H9 s9=>?_)
  · refine ⟨_,rfl,_,rfl,_,rfl,tl,_,_,V.ref la0,rfl,rfl,SqL.of (s58 _ _ htl5),hla0,tb,la0,tab0,rfl,s8 _ _ htb7,s58 _ _ hla05,hl0,fun J1 j1=>⟨_,rfl,iteF ?_⟩⟩
    refine .inl ⟨_,rfl,q0,dx0,_,rfl,j1 _ _ (s68 _ _ hq1),lk_no (wh:=true) (by decide +kernel) (by decide +kernel) (by decide +kernel) (by decide +kernel),_,rfl,q0,hd,0,bg,wrows tab0,_,rfl,hP6.keep (s68.trans j1),hwl0,fun l J2 hl nl j2=>⟨_,rfl,l,tb,tab0,rfl,by rw [hl,lay_whole hT0],j2 _ _ (j1 _ _ (s8 _ _ htb7)),hl0,fun J3 j3=>⟨_,rfl,iteF ?_⟩⟩⟩
    have j13:=j1.trans (j2.trans j3)
    refine ⟨_,rfl,(by show 1 ≤ sizeLine; decide),fun z hz=>⟨_,rfl,z,(wd:Int),_,rfl,rfl,upd_same,by omega,by omega,(by show 1 * _ ≤ sizeLine; exact Nat.le_of_lt (small1000 (by omega))),fun t ht=>?_⟩⟩
    rw [← hsev]
    have j4:=(Same.new hz).trans (Same.new ht (o:=.lst sev))
    exact ⟨0,true,by decide,SeqEq.sameL (SqL.of (j4 _ _ (j13 _ _ hhd8))) (SqL.of upd_same) (fun x hx=>by obtain ⟨i,rfl⟩:=sevI x hx; exact eqI_int _),_,rfl,hq _ (j13.trans j4)⟩
  try unfold tNext
  dsimp only
  refine cutA (fun σ H'=>σ = [some (.ref a),some (.int c0),some (.int (wd:Int)),some (.ref cl),some (.ref p),v5,some (.ref tl),some (.int (bg:Int)),some (.ref q0),some (.ref tb),some (.ref hd),some (.int (bg:Int)),none,none,none,none] /\ H9 = H') (fun N hN=>?_) ?_
  · exact ⟨_,rfl,hN _ _ ⟨rfl,rfl⟩⟩
  rintro σ _ ⟨rfl,rfl⟩
  have s59:=s58.trans s9
  have gainAt:∀ {b d:Nat} {t tab ms:List Int},b < d->d ≤ chss.length->(tabsOf wd chss)[b]? = some t->(tabsOf wd chss)[d]? = some tab->ms.Pairwise (· < ·)->(∀ k,k ∈ ms ↔ inDays (setsOf chss) b d k)->LinOk ⟨false,b,d,growsI ms tab,(ckOf false b d (growsI ms tab):Nat)⟩ /\ setI t (growsI ms tab) = tab /\ (∀ r ∈ growsI ms tab,r.1 < t.length) /\ (growsI ms tab).length ≤ 100:=fun {b d t tab ms} hbd hd ht h hp hm=>by
    have hin:∀ k ∈ ms,0 ≤ k /\ k < (wd:Int):=fun k hk=>days_in hSin ((hm k).mp hk)
    have hT:=hTok tab (List.mem_of_getElem? h)
    have hT2:=hTok t (List.mem_of_getElem? ht)
    refine ⟨lin_gain hw40 hbd (by omega) hT (h64 tab (List.mem_of_getElem? h)) hp hin,lay_gain hok hbd ht h hin hm,fun r hr=>by rw [hT2.1]; exact grows_in hin r hr,?_⟩
    have:=rise_few hp hin
    rw [grows_len]; omega
  refine cutA (fun σ H'=>∃ (tb hd:Addr) (at_:Nat) (tab:List Int) (v12 v13 v14:Option V),σ = [some (.ref a),some (.int c0),some (.int (wd:Int)),some (.ref cl),some (.ref p),v5,some (.ref tl),some (.int (bg:Int)),some (.ref q0),some (.ref tb),some (.ref hd),some (.int (at_:Int)),v12,v13,v14,none] /\ Same H5 H' /\ bg ≤ at_ /\ at_ ≤ chss.length) (fun N hN=>?_) ?_
  · refine ⟨_,rfl,_,_,rfl,rfl,_,rfl,tl,_,rfl,.inl (SqL.of (s59 _ _ htl5)),(bg:Int) + 1,((LT.map V.ref).length:Int),rfl,⟨by omega,by omega,by omega,by omega⟩,for_range (lo:=(bg:Int) + 1) (n:=(((LT.map V.ref).length:Int) - ((bg:Int) + 1)).toNat) (fun i σ H'=>∃ (tb hd:Addr) (at_:Nat) (tab:List Int) (v12 v13 v14:Option V),σ = [some (.ref a),some (.int c0),some (.int (wd:Int)),some (.ref cl),some (.ref p),v5,some (.ref tl),some (.int (bg:Int)),some (.ref q0),some (.ref tb),some (.ref hd),some (.int (at_:Int)),v12,v13,v14,none] /\ Same H5 H' /\ bg ≤ at_ /\ at_ ≤ bg + i /\ (tabsOf wd chss)[at_]? = some tab /\ H' tb = some (.lst (tab.map V.int))) ⟨tb,hd,bg,tab0,none,none,none,rfl,s59,Nat.le_refl _,Nat.le_refl _,ht0,s9 _ _ (s8 _ _ htb7)⟩ ?_ ?_⟩
    · rintro i σ I0 hi ⟨tb,hd,at_,tab,v12,v13,v14,rfl,sI,hat1,hat2,hat3,htbI⟩
      obtain ⟨dd,hdd⟩:∃ dd:Nat,dd = bg + 1 + i:=⟨_,rfl⟩
      have hdn:dd ≤ chss.length:=by omega
      have had:at_ < dd:=by omega
      obtain ⟨tabd,hd3,hTd,hTd64⟩:=tabAt hdn
      obtain ⟨lad,hlad,hlad5⟩:=listAt hd3
      have hTt:=hTok tab (List.mem_of_getElem? hat3)
      have htl40:tab.length ≤ 40:=by rw [hTt.1]; exact hw40
      have hdl40:tabd.length ≤ 40:=by rw [hTd.1]; exact hw40
      rw [show (bg:Int) + 1 + (i:Int) = (dd:Int) by omega]
      refine gNameA [some (.ref a),some (.int c0),some (.int (wd:Int)),some (.ref cl),some (.ref p),v5,some (.ref tl),some (.int (bg:Int)),some (.ref q0),some (.ref tb),some (.ref hd),some (.int (at_:Int)),some (.int (dd:Int)),v13,v14,none] ?_
      dsimp only
      have s4I:=s5.trans sI
      refine ⟨_,rfl,a,ns,1,rfl,s4I.seq hS4,_,rfl,_,_,rfl,_,_,rfl,rfl,(by first | decide | (dsimp only; decide)),rfl,_,rfl,?_⟩
      refine ite2 (fun _=>?_) (fun _=>⟨tb,hd,at_,tab,_,_,_,rfl,sI,hat1,by omega,hat3,htbI⟩)
      refine cutA (fun σ H'=>∃ (pc:Addr) (ms:List Int),σ = [some (.ref a),some (.int c0),some (.int (wd:Int)),some (.ref cl),some (.ref p),v5,some (.ref tl),some (.int (bg:Int)),some (.ref q0),some (.ref tb),some (.ref hd),some (.int (at_:Int)),some (.int (dd:Int)),some (.ref pc),v14,none] /\ Same I0 H' /\ PAt C_Whole C_Gain H' pc false at_ dd (growsI ms tabd) (ckOf false at_ dd (growsI ms tabd):Nat) /\ setI tab (growsI ms tabd) = tabd /\ (∀ r ∈ growsI ms tabd,r.1 < tab.length) /\ (growsI ms tabd).length ≤ 100) (fun N hN=>?_) ?_
      · refine ⟨_,rfl,_,rfl,_,rfl,p,wd,_,_,(at_:Int),(dd:Int),rfl,dayR s4I,fun hb1 hd1 hlt q1 ms tab1 J1 e1 hp1 hm1 hP1 j1=>?_,fun _ _ h=>absurd h (by omega),fun x h=>?_⟩
        · rw [show ((dd:Int)).toNat = dd from rfl,hd3] at e1
          cases e1
          obtain ⟨hL,g2,g3,g4⟩:=gainAt had hdn hat3 hd3 hp1 hm1
          exact ⟨q1,⟨false,at_,dd,growsI ms tabd,_⟩,rfl,hP1,hL,fun J2 j2=>⟨_,rfl,hL,fun q2 J3 hP2 j3=>hN _ _ ⟨q2,ms,rfl,j1.trans (j2.trans j3),hP2,g2,g3,g4⟩⟩⟩
        · exfalso
          rcases h with ⟨h,_⟩ | ⟨_,h,_⟩
          · exact h ⟨by omega,by omega⟩
          · exact h ⟨by omega,by omega⟩
      rintro σ I1 ⟨pc,ms,rfl,i1,hP1,hset,hin,hg100⟩
      obtain ⟨dx1,r1,R1,hp1,hp2,hp3⟩:=id hP1
      refine cutA (fun σ H'=>∃ hd:Addr,σ = [some (.ref a),some (.int c0),some (.int (wd:Int)),some (.ref cl),some (.ref p),v5,some (.ref tl),some (.int (bg:Int)),some (.ref q0),some (.ref tb),some (.ref hd),some (.int (at_:Int)),some (.int (dd:Int)),some (.ref pc),v14,none] /\ Same I1 H' /\ H' hd = some (.lst (tab.map V.int))) (fun N hN=>?_) ?_
      · exact ⟨_,rfl,tb,_,rfl,.inl (SqL.of (i1 _ _ htbI)),fun l hl=>hN _ _ ⟨l,rfl,Same.new hl,upd_same⟩⟩
      rintro σ I2 ⟨hd,rfl,i2,hhd2⟩
      refine cutA (fun σ H'=>∃ fd:Addr,σ = [some (.ref a),some (.int c0),some (.int (wd:Int)),some (.ref cl),some (.ref p),v5,some (.ref tl),some (.int (bg:Int)),some (.ref q0),some (.ref tb),some (.ref hd),some (.int (at_:Int)),some (.int (dd:Int)),some (.ref pc),some (.ref fd),none] /\ Same I2 H' /\ H' fd = some (.lst (tabd.map V.int)) /\ I2 fd = none) (fun N hN=>?_) ?_
      · refine .inr ⟨_,rfl,pc,dx1,_,rfl,i2 _ _ hp1,lk_no (wh:=false) (by decide +kernel) (by decide +kernel) (by decide +kernel) (by decide +kernel),_,rfl,pc,hd,at_,dd,_,_,tab,rfl,hP1.keep i2,hhd2,hin,fun l J hl nl j=>?_⟩
        rw [hset] at hl
        exact hN _ _ ⟨l,rfl,j,hl,nl⟩
      rintro σ I3 ⟨fd,rfl,i3,hfd3,nfd⟩
      have s02:=sI.trans (i1.trans i2)
      have htb2:=i2 _ _ (i1 _ _ htbI)
      refine if_B false (fun H'=>Same I3 H') (fun Qb hq=>?_) (fun h=>by cases h) (fun _ I4 i4=>?_)
      · refine .inr ⟨_,rfl,pc,dx1,_,rfl,i3 _ _ (i2 _ _ hp1),lk_no (wh:=false) (by decide +kernel) (by decide +kernel) (by decide +kernel) (by decide +kernel),pc,false,at_,dd,_,_,rfl,hP1.keep (i2.trans i3),hg100,fun J1 j1=>⟨_,rfl,?_⟩⟩
        rw [decide_eq_true rfl]
        refine iteF ?_
        have s0J:=s02.trans (i3.trans j1)
        refine ⟨_,rfl,_,rfl,_,rfl,tl,_,_,V.ref lad,rfl,rfl,SqL.of (s0J _ _ htl5),hlad,fd,lad,tabd,rfl,j1 _ _ hfd3,s0J _ _ hlad5,hdl40,fun J2 j2=>⟨_,rfl,iteF ?_⟩⟩
        have i2J:=i3.trans (j1.trans j2)
        exact ⟨_,rfl,_,rfl,0,true,by decide,SeqEq.sameL (SqL.of (i2J _ _ hhd2)) (SqL.of (i2J _ _ htb2)) (fun x hx=>by obtain ⟨z,_,rfl⟩:=List.mem_map.mp hx; exact eqI_int _),_,rfl,hq _ (j1.trans j2)⟩
      try unfold tNext
      dsimp only
      refine cutA (fun σ H'=>σ = [some (.ref a),some (.int c0),some (.int (wd:Int)),some (.ref cl),some (.ref p),v5,some (.ref tl),some (.int (bg:Int)),some (.ref q0),some (.ref tb),some (.ref hd),some (.int (at_:Int)),some (.int (dd:Int)),some (.ref pc),some (.ref fd),none] /\ Same I2 H') (fun N hN=>?_) ?_
      · refine ⟨_,rfl,fd,_,0,0,rfl,rfl,i4 _ _ hfd3,?_,hN _ _ ⟨rfl,fun b o e=>?_⟩⟩
        · rw [List.length_map,hTd.1]; unfold ixN; rw [if_pos (by omega),if_pos (by omega)]; rfl
        · rw [upd_ne (ne_of_none e nfd)]; exact i4 _ _ (i3 b o e)
      rintro σ I5 ⟨rfl,i5⟩
      refine if_B false (fun H'=>Same I2 H') (fun Qb hq=>?_) (fun h=>by cases h) (fun _ I6 i6=>?_)
      · refine ⟨_,rfl,_,rfl,0,true,by decide,SeqEq.sameL (SqL.of (i5 _ _ hhd2)) (SqL.of (i5 _ _ htb2)) (fun x hx=>by obtain ⟨z,_,rfl⟩:=List.mem_map.mp hx; exact eqI_int _),_,rfl,iteF ?_⟩
        refine .inr ⟨_,rfl,pc,dx1,_,rfl,i5 _ _ (i2 _ _ hp1),lk_no (wh:=false) (by decide +kernel) (by decide +kernel) (by decide +kernel) (by decide +kernel),_,rfl,pc,hd,at_,dd,_,_,tab,rfl,hP1.keep (i2.trans i5),i5 _ _ hhd2,hin,fun l J hl nl j=>?_⟩
        rw [hset] at hl
        have s0J:=s02.trans (i5.trans j)
        exact ⟨_,rfl,_,rfl,tl,_,_,V.ref lad,rfl,rfl,SqL.of (s0J _ _ htl5),hlad,l,lad,tabd,rfl,hl,s0J _ _ hlad5,hdl40,fun J2 j2=>⟨_,rfl,hq _ (i5.trans (j.trans j2))⟩⟩
      try unfold tNext
      dsimp only
      have s06:=s02.trans i6
      exact ⟨_,rfl,_,rfl,tl,_,_,V.ref lad,rfl,rfl,SqL.of (s06 _ _ htl5),hlad,lad,_,rfl,.inl (SqL.of (s06 _ _ hlad5)),fun l hl=>⟨_,rfl,l,hd,dd,tabd,_,_,_,rfl,s06.trans (Same.new hl),by omega,by omega,hd3,upd_same⟩⟩
    · rintro σ I0 ⟨tb,hd,at_,tab,v12,v13,v14,rfl,sI,hat1,hat2,hat3,htbI⟩
      exact hN _ _ ⟨tb,hd,at_,tab,v12,v13,v14,rfl,sI,hat1,by omega⟩
  rintro σ H10 ⟨tb,hd,at_,tab,v12,v13,v14,rfl,s10,hat1,hat2⟩
  by_cases hne:at_ = bg
  · refine if_yes (fun Qb hq=>⟨_,rfl,_,rfl,rfl,_,rfl,?_⟩) ?_
    · rw [decide_eq_true (by rw [hne])]; exact hq
    exact q _
  refine if_no (fun Qb hq=>⟨_,rfl,_,rfl,rfl,_,rfl,?_⟩) ?_
  · rw [decide_eq_false (fun h=>hne (by have:=V.int.inj h; omega))]; exact hq
  try unfold tNext
  dsimp only
  have hlt:bg < at_:=by omega
  obtain ⟨tabd,hd3,hTd,hTd64⟩:=tabAt hat2
  obtain ⟨lad,hlad,hlad5⟩:=listAt hd3
  have hdl40:tabd.length ≤ 40:=by rw [hTd.1]; exact hw40
  refine cutA (fun σ H'=>∃ (pc:Addr) (ms:List Int),σ = [some (.ref a),some (.int c0),some (.int (wd:Int)),some (.ref cl),some (.ref p),v5,some (.ref tl),some (.int (bg:Int)),some (.ref q0),some (.ref tb),some (.ref hd),some (.int (at_:Int)),v12,v13,v14,some (.ref pc)] /\ Same H10 H' /\ PAt C_Whole C_Gain H' pc false bg at_ (growsI ms tabd) (ckOf false bg at_ (growsI ms tabd):Nat) /\ setI tab0 (growsI ms tabd) = tabd /\ (∀ r ∈ growsI ms tabd,r.1 < tab0.length)) (fun N hN=>?_) ?_
  · refine ⟨_,rfl,_,rfl,_,rfl,p,wd,_,_,(bg:Int),(at_:Int),rfl,dayR (s5.trans s10),fun hb1 hd1 _ q1 ms tab1 J1 e1 hp1 hm1 hP1 j1=>?_,fun _ _ h=>absurd h (by omega),fun x h=>?_⟩
    · rw [show ((at_:Int)).toNat = at_ from rfl,hd3] at e1
      cases e1
      obtain ⟨hL,g2,g3,g4⟩:=gainAt hlt hat2 ht0 hd3 hp1 hm1
      exact ⟨q1,⟨false,bg,at_,growsI ms tabd,_⟩,rfl,hP1,hL,fun J2 j2=>⟨_,rfl,hL,fun q2 J3 hP2 j3=>hN _ _ ⟨q2,ms,rfl,j1.trans (j2.trans j3),hP2,g2,g3⟩⟩⟩
    · exfalso
      rcases h with ⟨h,_⟩ | ⟨_,h,_⟩
      · exact h ⟨by omega,by omega⟩
      · exact h ⟨by omega,by omega⟩
  rintro σ H11 ⟨pc,ms,rfl,s11,hP1,hset,hin⟩
  obtain ⟨dx1,r1,R1,hp1,hp2,hp3⟩:=id hP1
  have s511:=s10.trans s11
  refine .inr ⟨_,rfl,pc,dx1,_,rfl,hp1,lk_no (wh:=false) (by decide +kernel) (by decide +kernel) (by decide +kernel) (by decide +kernel),_,rfl,_,rfl,tl,_,_,V.ref la0,rfl,rfl,SqL.of (s511 _ _ htl5),hla0,pc,la0,bg,at_,_,_,tab0,rfl,hP1,s511 _ _ hla05,hin,fun l J hl nl j=>?_⟩
  rw [hset] at hl
  have s5J:=s511.trans j
  exact ⟨_,rfl,_,rfl,tl,_,_,V.ref lad,rfl,rfl,SqL.of (s5J _ _ htl5),hlad,l,lad,tabd,rfl,hl,s5J _ _ hlad5,hdl40,fun J2 _=>q _⟩
end
theorem all_mk {l:PySem.W.OpenLaw} {w:World} {K:PySem.W.Frag} {h:Heap} {mg:Str->Option Value} {fa:Addr} (X:K.In h) (G:h.Ns mainGlobals mg) (hfa:mg "law" = some (.ref fa))
    {t_W:Tok} (g_W:PySem.W.nsIn K mainGlobals "W" = some (some (.int 18446744073709551615 t_W)))
    {t_MOST_BLOCKS:Tok} (g_MOST_BLOCKS:PySem.W.nsIn K mainGlobals "MOST_BLOCKS" = some (some (.int 40 t_MOST_BLOCKS)))
    {t_MOST_FIGURES:Tok} (g_MOST_FIGURES:PySem.W.nsIn K mainGlobals "MOST_FIGURES" = some (some (.int 20 t_MOST_FIGURES)))
    {t_MOST_DAY:Tok} (g_MOST_DAY:PySem.W.nsIn K mainGlobals "MOST_DAY" = some (some (.int 1000000000 t_MOST_DAY)))
    {t_FIGURES:Tok} (g_FIGURES:PySem.W.nsIn K mainGlobals "FIGURES" = some (some (.str (PySem.Str.ofString "0123456789") t_FIGURES)))
    {t_CHECK_FIGURES:Tok} (g_CHECK_FIGURES:PySem.W.nsIn K mainGlobals "CHECK_FIGURES" = some (some (.int 20 t_CHECK_FIGURES)))
    {C_KeepError:Addr} (a_KeepError:PySem.W.nsIn K mainGlobals "KeepError" = some (some (.ref C_KeepError)))
    {C_NoWord:Addr} (a_NoWord:PySem.W.nsIn K mainGlobals "NoWord" = some (some (.ref C_NoWord)))
    {C_NoTable:Addr} (a_NoTable:PySem.W.nsIn K mainGlobals "NoTable" = some (some (.ref C_NoTable)))
    {C_NoPlace:Addr} (a_NoPlace:PySem.W.nsIn K mainGlobals "NoPlace" = some (some (.ref C_NoPlace)))
    {C_NoBlock:Addr} (a_NoBlock:PySem.W.nsIn K mainGlobals "NoBlock" = some (some (.ref C_NoBlock)))
    {C_NoDay:Addr} (a_NoDay:PySem.W.nsIn K mainGlobals "NoDay" = some (some (.ref C_NoDay)))
    {C_NoBase:Addr} (a_NoBase:PySem.W.nsIn K mainGlobals "NoBase" = some (some (.ref C_NoBase)))
    {C_NoLine:Addr} (a_NoLine:PySem.W.nsIn K mainGlobals "NoLine" = some (some (.ref C_NoLine)))
    {C_Piece:Addr} (a_Piece:PySem.W.nsIn K mainGlobals "Piece" = some (some (.ref C_Piece)))
    {C_Whole:Addr} (a_Whole:PySem.W.nsIn K mainGlobals "Whole" = some (some (.ref C_Whole)))
    {C_Gain:Addr} (a_Gain:PySem.W.nsIn K mainGlobals "Gain" = some (some (.ref C_Gain)))
    {C_Days:Addr} (a_Days:PySem.W.nsIn K mainGlobals "Days" = some (some (.ref C_Days)))
    {C_DAYS_TOLD:Addr} (a_DAYS_TOLD:PySem.W.nsIn K mainGlobals "DAYS_TOLD" = some (some (.ref C_DAYS_TOLD))) {y1_DAYS_TOLD y2_DAYS_TOLD y3_DAYS_TOLD y4_DAYS_TOLD:Tok} {ye_DAYS_TOLD:Nat} (gl_DAYS_TOLD:K.lookup C_DAYS_TOLD = some ⟨.type "dict",none,.dict #[⟨hashStr w (Str.ofString "whole"),.str (Str.ofString "whole") y1_DAYS_TOLD,.int 1 y2_DAYS_TOLD⟩,⟨hashStr w (Str.ofString "gain"),.str (Str.ofString "gain") y3_DAYS_TOLD,.int 2 y4_DAYS_TOLD⟩] ye_DAYS_TOLD,#[]⟩) (gs_DAYS_TOLD:(C_DAYS_TOLD == sysModules) = false)
    (clg:PySem.W.specialIn K (.builtin "object.__class__") "__get__" = some (some (.builtin "getset_descriptor.__get__"))) (clt:PySem.W.takesIn K (.builtin "object.__class__") = some true)
    (xo_KeepError:xobjIn K C_KeepError = true) (xs_KeepError:PySem.W.findIn K (.ref C_KeepError) "__setattr__" = some (some (.builtin "object.__setattr__"))) (xg_KeepError:PySem.W.findIn K (.ref C_KeepError) "__getattribute__" = some (some (.builtin "BaseException.__getattribute__"))) (xh_KeepError:PySem.W.findIn K (.ref C_KeepError) "__getattr__" = some none) (xc_KeepError:PySem.W.findIn K (.ref C_KeepError) "__class__" = some (some (.builtin "object.__class__"))) (kc_KeepError:PySem.W.keepIn K (.ref C_KeepError) = true)
    (xo_NoWord:xobjIn K C_NoWord = true) (xs_NoWord:PySem.W.findIn K (.ref C_NoWord) "__setattr__" = some (some (.builtin "object.__setattr__"))) (xg_NoWord:PySem.W.findIn K (.ref C_NoWord) "__getattribute__" = some (some (.builtin "BaseException.__getattribute__"))) (xh_NoWord:PySem.W.findIn K (.ref C_NoWord) "__getattr__" = some none) (xc_NoWord:PySem.W.findIn K (.ref C_NoWord) "__class__" = some (some (.builtin "object.__class__"))) (kc_NoWord:PySem.W.keepIn K (.ref C_NoWord) = true)
    (n_NoWord_word:PySem.W.findIn K (.ref C_NoWord) "word" = some none)
    (xo_NoTable:xobjIn K C_NoTable = true) (xs_NoTable:PySem.W.findIn K (.ref C_NoTable) "__setattr__" = some (some (.builtin "object.__setattr__"))) (xg_NoTable:PySem.W.findIn K (.ref C_NoTable) "__getattribute__" = some (some (.builtin "BaseException.__getattribute__"))) (xh_NoTable:PySem.W.findIn K (.ref C_NoTable) "__getattr__" = some none) (xc_NoTable:PySem.W.findIn K (.ref C_NoTable) "__class__" = some (some (.builtin "object.__class__"))) (kc_NoTable:PySem.W.keepIn K (.ref C_NoTable) = true)
    (n_NoTable_wide:PySem.W.findIn K (.ref C_NoTable) "wide" = some none)
    (xo_NoPlace:xobjIn K C_NoPlace = true) (xs_NoPlace:PySem.W.findIn K (.ref C_NoPlace) "__setattr__" = some (some (.builtin "object.__setattr__"))) (xg_NoPlace:PySem.W.findIn K (.ref C_NoPlace) "__getattribute__" = some (some (.builtin "BaseException.__getattribute__"))) (xh_NoPlace:PySem.W.findIn K (.ref C_NoPlace) "__getattr__" = some none) (xc_NoPlace:PySem.W.findIn K (.ref C_NoPlace) "__class__" = some (some (.builtin "object.__class__"))) (kc_NoPlace:PySem.W.keepIn K (.ref C_NoPlace) = true)
    (n_NoPlace_place:PySem.W.findIn K (.ref C_NoPlace) "place" = some none)
    (xo_NoBlock:xobjIn K C_NoBlock = true) (xs_NoBlock:PySem.W.findIn K (.ref C_NoBlock) "__setattr__" = some (some (.builtin "object.__setattr__"))) (xg_NoBlock:PySem.W.findIn K (.ref C_NoBlock) "__getattribute__" = some (some (.builtin "BaseException.__getattribute__"))) (xh_NoBlock:PySem.W.findIn K (.ref C_NoBlock) "__getattr__" = some none) (xc_NoBlock:PySem.W.findIn K (.ref C_NoBlock) "__class__" = some (some (.builtin "object.__class__"))) (kc_NoBlock:PySem.W.keepIn K (.ref C_NoBlock) = true)
    (n_NoBlock_block:PySem.W.findIn K (.ref C_NoBlock) "block" = some none)
    (xo_NoDay:xobjIn K C_NoDay = true) (xs_NoDay:PySem.W.findIn K (.ref C_NoDay) "__setattr__" = some (some (.builtin "object.__setattr__"))) (xg_NoDay:PySem.W.findIn K (.ref C_NoDay) "__getattribute__" = some (some (.builtin "BaseException.__getattribute__"))) (xh_NoDay:PySem.W.findIn K (.ref C_NoDay) "__getattr__" = some none) (xc_NoDay:PySem.W.findIn K (.ref C_NoDay) "__class__" = some (some (.builtin "object.__class__"))) (kc_NoDay:PySem.W.keepIn K (.ref C_NoDay) = true)
    (n_NoDay_day:PySem.W.findIn K (.ref C_NoDay) "day" = some none)
    (xo_NoBase:xobjIn K C_NoBase = true) (xs_NoBase:PySem.W.findIn K (.ref C_NoBase) "__setattr__" = some (some (.builtin "object.__setattr__"))) (xg_NoBase:PySem.W.findIn K (.ref C_NoBase) "__getattribute__" = some (some (.builtin "BaseException.__getattribute__"))) (xh_NoBase:PySem.W.findIn K (.ref C_NoBase) "__getattr__" = some none) (xc_NoBase:PySem.W.findIn K (.ref C_NoBase) "__class__" = some (some (.builtin "object.__class__"))) (kc_NoBase:PySem.W.keepIn K (.ref C_NoBase) = true)
    (n_NoBase_base:PySem.W.findIn K (.ref C_NoBase) "base" = some none)
    (n_NoBase_day:PySem.W.findIn K (.ref C_NoBase) "day" = some none)
    (xo_NoLine:xobjIn K C_NoLine = true) (xs_NoLine:PySem.W.findIn K (.ref C_NoLine) "__setattr__" = some (some (.builtin "object.__setattr__"))) (xg_NoLine:PySem.W.findIn K (.ref C_NoLine) "__getattribute__" = some (some (.builtin "BaseException.__getattribute__"))) (xh_NoLine:PySem.W.findIn K (.ref C_NoLine) "__getattr__" = some none) (xc_NoLine:PySem.W.findIn K (.ref C_NoLine) "__class__" = some (some (.builtin "object.__class__"))) (kc_NoLine:PySem.W.keepIn K (.ref C_NoLine) = true)
    (n_NoLine_line:PySem.W.findIn K (.ref C_NoLine) "line" = some none)
    (pg_Whole:PySem.W.plainGet K C_Whole Str.empty = true) (hd_Whole:PySem.W.hasDictIn K C_Whole = true) (po_Whole:PySem.W.plainOver K C_Whole = true) (sa_Whole:PySem.W.findIn K (.ref C_Whole) "__setattr__" = some (some (.builtin "object.__setattr__"))) (mk_Whole:PySem.W.makesIn K C_Whole = true) (kc_Whole:PySem.W.keepIn K (.ref C_Whole) = true)
    (n_Whole_day:PySem.W.findIn K (.ref C_Whole) "day" = some none)
    (n_Whole_rows:PySem.W.findIn K (.ref C_Whole) "rows" = some none)
    (n_Whole_check:PySem.W.findIn K (.ref C_Whole) "check" = some none)
    (n_Whole_fits:PySem.W.findIn K (.ref C_Whole) "fits" = some none)
    (pg_Gain:PySem.W.plainGet K C_Gain Str.empty = true) (hd_Gain:PySem.W.hasDictIn K C_Gain = true) (po_Gain:PySem.W.plainOver K C_Gain = true) (sa_Gain:PySem.W.findIn K (.ref C_Gain) "__setattr__" = some (some (.builtin "object.__setattr__"))) (mk_Gain:PySem.W.makesIn K C_Gain = true) (kc_Gain:PySem.W.keepIn K (.ref C_Gain) = true)
    (n_Gain_day:PySem.W.findIn K (.ref C_Gain) "day" = some none)
    (n_Gain_rows:PySem.W.findIn K (.ref C_Gain) "rows" = some none)
    (n_Gain_check:PySem.W.findIn K (.ref C_Gain) "check" = some none)
    (n_Gain_fits:PySem.W.findIn K (.ref C_Gain) "fits" = some none)
    (n_Gain_base:PySem.W.findIn K (.ref C_Gain) "base" = some none)
    (pg_Days:PySem.W.plainGet K C_Days Str.empty = true) (hd_Days:PySem.W.hasDictIn K C_Days = true) (po_Days:PySem.W.plainOver K C_Days = true) (sa_Days:PySem.W.findIn K (.ref C_Days) "__setattr__" = some (some (.builtin "object.__setattr__"))) (mk_Days:PySem.W.makesIn K C_Days = true) (kc_Days:PySem.W.keepIn K (.ref C_Days) = true)
    (n_Days_wide:PySem.W.findIn K (.ref C_Days) "wide" = some none)
    (n_Days_last:PySem.W.findIn K (.ref C_Days) "last" = some none)
    (n_Days_tables:PySem.W.findIn K (.ref C_Days) "tables" = some none)
    (n_Days_set_places:PySem.W.findIn K (.ref C_Days) "set_places" = some none)
    {f0:Addr} {od0 an0:Option Addr} {sl0:Array (Option Value)} {oc0 kV0 dc0 pm0 cd0 ct0:Value}
    (a0:PySem.W.nsIn K mainGlobals "turned" = some (some (.ref f0)))
    (l0:K.lookup f0 = some ⟨oc0,od0,.func (PySem.W.fnOf "turned" "turned" (defArgs s_turned) (defBody s_turned) (defScope s_turned) .none kV0 dc0 pm0 an0 cd0 ct0),sl0⟩) (c0:PySem.W.codeIn K cd0 "turned" = true) (k0:PySem.W.keepIn K (.ref f0) = true)
    {f1:Addr} {od1 an1:Option Addr} {sl1:Array (Option Value)} {oc1 kV1 dc1 pm1 cd1 ct1:Value}
    (a1:PySem.W.nsIn K mainGlobals "check_of" = some (some (.ref f1)))
    (l1:K.lookup f1 = some ⟨oc1,od1,.func (PySem.W.fnOf "check_of" "check_of" (defArgs s_check_of) (defBody s_check_of) (defScope s_check_of) .none kV1 dc1 pm1 an1 cd1 ct1),sl1⟩) (c1:PySem.W.codeIn K cd1 "check_of" = true) (k1:PySem.W.keepIn K (.ref f1) = true)
    {f2:Addr} {od2 an2:Option Addr} {sl2:Array (Option Value)} {oc2 kV2 dc2 pm2 cd2 ct2:Value}
    (a2:PySem.W.findIn K (.ref C_NoWord) "__init__" = some (some (.ref f2))) (i2:PySem.W.isFn K (.ref f2) = true)
    (l2:K.lookup f2 = some ⟨oc2,od2,.func (PySem.W.fnOf "__init__" "NoWord.__init__" (defArgs s_NoWord___init__) (defBody s_NoWord___init__) (defScope s_NoWord___init__) .none kV2 dc2 pm2 an2 cd2 ct2),sl2⟩) (c2:PySem.W.codeIn K cd2 "NoWord.__init__" = true) (k2:PySem.W.keepIn K (.ref f2) = true)
    {f3:Addr} {od3 an3:Option Addr} {sl3:Array (Option Value)} {oc3 kV3 dc3 pm3 cd3 ct3:Value}
    (a3:PySem.W.findIn K (.ref C_NoTable) "__init__" = some (some (.ref f3))) (i3:PySem.W.isFn K (.ref f3) = true)
    (l3:K.lookup f3 = some ⟨oc3,od3,.func (PySem.W.fnOf "__init__" "NoTable.__init__" (defArgs s_NoTable___init__) (defBody s_NoTable___init__) (defScope s_NoTable___init__) .none kV3 dc3 pm3 an3 cd3 ct3),sl3⟩) (c3:PySem.W.codeIn K cd3 "NoTable.__init__" = true) (k3:PySem.W.keepIn K (.ref f3) = true)
    {f4:Addr} {od4 an4:Option Addr} {sl4:Array (Option Value)} {oc4 kV4 dc4 pm4 cd4 ct4:Value}
    (a4:PySem.W.findIn K (.ref C_NoPlace) "__init__" = some (some (.ref f4))) (i4:PySem.W.isFn K (.ref f4) = true)
    (l4:K.lookup f4 = some ⟨oc4,od4,.func (PySem.W.fnOf "__init__" "NoPlace.__init__" (defArgs s_NoPlace___init__) (defBody s_NoPlace___init__) (defScope s_NoPlace___init__) .none kV4 dc4 pm4 an4 cd4 ct4),sl4⟩) (c4:PySem.W.codeIn K cd4 "NoPlace.__init__" = true) (k4:PySem.W.keepIn K (.ref f4) = true)
    {f5:Addr} {od5 an5:Option Addr} {sl5:Array (Option Value)} {oc5 kV5 dc5 pm5 cd5 ct5:Value}
    (a5:PySem.W.findIn K (.ref C_NoBlock) "__init__" = some (some (.ref f5))) (i5:PySem.W.isFn K (.ref f5) = true)
    (l5:K.lookup f5 = some ⟨oc5,od5,.func (PySem.W.fnOf "__init__" "NoBlock.__init__" (defArgs s_NoBlock___init__) (defBody s_NoBlock___init__) (defScope s_NoBlock___init__) .none kV5 dc5 pm5 an5 cd5 ct5),sl5⟩) (c5:PySem.W.codeIn K cd5 "NoBlock.__init__" = true) (k5:PySem.W.keepIn K (.ref f5) = true)
    {f6:Addr} {od6 an6:Option Addr} {sl6:Array (Option Value)} {oc6 kV6 dc6 pm6 cd6 ct6:Value}
    (a6:PySem.W.findIn K (.ref C_NoDay) "__init__" = some (some (.ref f6))) (i6:PySem.W.isFn K (.ref f6) = true)
    (l6:K.lookup f6 = some ⟨oc6,od6,.func (PySem.W.fnOf "__init__" "NoDay.__init__" (defArgs s_NoDay___init__) (defBody s_NoDay___init__) (defScope s_NoDay___init__) .none kV6 dc6 pm6 an6 cd6 ct6),sl6⟩) (c6:PySem.W.codeIn K cd6 "NoDay.__init__" = true) (k6:PySem.W.keepIn K (.ref f6) = true)
    {f7:Addr} {od7 an7:Option Addr} {sl7:Array (Option Value)} {oc7 kV7 dc7 pm7 cd7 ct7:Value}
    (a7:PySem.W.findIn K (.ref C_NoBase) "__init__" = some (some (.ref f7))) (i7:PySem.W.isFn K (.ref f7) = true)
    (l7:K.lookup f7 = some ⟨oc7,od7,.func (PySem.W.fnOf "__init__" "NoBase.__init__" (defArgs s_NoBase___init__) (defBody s_NoBase___init__) (defScope s_NoBase___init__) .none kV7 dc7 pm7 an7 cd7 ct7),sl7⟩) (c7:PySem.W.codeIn K cd7 "NoBase.__init__" = true) (k7:PySem.W.keepIn K (.ref f7) = true)
    {f8:Addr} {od8 an8:Option Addr} {sl8:Array (Option Value)} {oc8 kV8 dc8 pm8 cd8 ct8:Value}
    (a8:PySem.W.findIn K (.ref C_NoLine) "__init__" = some (some (.ref f8))) (i8:PySem.W.isFn K (.ref f8) = true)
    (l8:K.lookup f8 = some ⟨oc8,od8,.func (PySem.W.fnOf "__init__" "NoLine.__init__" (defArgs s_NoLine___init__) (defBody s_NoLine___init__) (defScope s_NoLine___init__) .none kV8 dc8 pm8 an8 cd8 ct8),sl8⟩) (c8:PySem.W.codeIn K cd8 "NoLine.__init__" = true) (k8:PySem.W.keepIn K (.ref f8) = true)
    {f9:Addr} {od9 an9:Option Addr} {sl9:Array (Option Value)} {oc9 kV9 dc9 pm9 cd9 ct9:Value}
    (a9:PySem.W.findIn K (.ref C_Piece) "__init__" = some (some (.ref f9))) (i9:PySem.W.isFn K (.ref f9) = true)
    (l9:K.lookup f9 = some ⟨oc9,od9,.func (PySem.W.fnOf "__init__" "Piece.__init__" (defArgs s_Piece___init__) (defBody s_Piece___init__) (defScope s_Piece___init__) .none kV9 dc9 pm9 an9 cd9 ct9),sl9⟩) (c9:PySem.W.codeIn K cd9 "Piece.__init__" = true) (k9:PySem.W.keepIn K (.ref f9) = true)
    {f10:Addr} {od10 an10:Option Addr} {sl10:Array (Option Value)} {oc10 kV10 dc10 pm10 cd10 ct10:Value}
    (a10:PySem.W.findIn K (.ref C_Piece) "is_good" = some (some (.ref f10))) (i10:PySem.W.isFn K (.ref f10) = true)
    (l10:K.lookup f10 = some ⟨oc10,od10,.func (PySem.W.fnOf "is_good" "Piece.is_good" (defArgs s_Piece_is_good) (defBody s_Piece_is_good) (defScope s_Piece_is_good) .none kV10 dc10 pm10 an10 cd10 ct10),sl10⟩) (c10:PySem.W.codeIn K cd10 "Piece.is_good" = true) (k10:PySem.W.keepIn K (.ref f10) = true)
    {f11:Addr} {od11 an11:Option Addr} {sl11:Array (Option Value)} {oc11 kV11 dc11 pm11 cd11 ct11:Value}
    (a11:PySem.W.findIn K (.ref C_Whole) "__init__" = some (some (.ref f11))) (i11:PySem.W.isFn K (.ref f11) = true)
    {td11:Addr} {yc11:Value} {yd11:Option Addr} {yn11:Nat} {yl11:Array (Option Value)}
    (l11:K.lookup f11 = some ⟨oc11,od11,.func (PySem.W.fnOf "__init__" "Whole.__init__" (defArgs s_Whole___init__) (defBody s_Whole___init__) (defScope s_Whole___init__) (.ref td11) kV11 dc11 pm11 an11 cd11 ct11),sl11⟩) (c11:PySem.W.codeIn K cd11 "Whole.__init__" = true) (k11:PySem.W.keepIn K (.ref f11) = true)
    (y11:K.lookup td11 = some ⟨yc11,yd11,.seq #[.none] yn11,yl11⟩)
    {f12:Addr} {od12 an12:Option Addr} {sl12:Array (Option Value)} {oc12 kV12 dc12 pm12 cd12 ct12:Value}
    (a12:PySem.W.findIn K (.ref C_Whole) "start" = some (some (.ref f12))) (i12:PySem.W.isFn K (.ref f12) = true)
    (l12:K.lookup f12 = some ⟨oc12,od12,.func (PySem.W.fnOf "start" "Whole.start" (defArgs s_Whole_start) (defBody s_Whole_start) (defScope s_Whole_start) .none kV12 dc12 pm12 an12 cd12 ct12),sl12⟩) (c12:PySem.W.codeIn K cd12 "Whole.start" = true) (k12:PySem.W.keepIn K (.ref f12) = true)
    {f13:Addr} {od13 an13:Option Addr} {sl13:Array (Option Value)} {oc13 kV13 dc13 pm13 cd13 ct13:Value}
    (a13:PySem.W.findIn K (.ref C_Whole) "kind" = some (some (.ref f13))) (i13:PySem.W.isFn K (.ref f13) = true)
    (l13:K.lookup f13 = some ⟨oc13,od13,.func (PySem.W.fnOf "kind" "Whole.kind" (defArgs s_Whole_kind) (defBody s_Whole_kind) (defScope s_Whole_kind) .none kV13 dc13 pm13 an13 cd13 ct13),sl13⟩) (c13:PySem.W.codeIn K cd13 "Whole.kind" = true) (k13:PySem.W.keepIn K (.ref f13) = true)
    {f14:Addr} {od14 an14:Option Addr} {sl14:Array (Option Value)} {oc14 kV14 dc14 pm14 cd14 ct14:Value}
    (a14:PySem.W.findIn K (.ref C_Whole) "laid" = some (some (.ref f14))) (i14:PySem.W.isFn K (.ref f14) = true)
    (l14:K.lookup f14 = some ⟨oc14,od14,.func (PySem.W.fnOf "laid" "Whole.laid" (defArgs s_Whole_laid) (defBody s_Whole_laid) (defScope s_Whole_laid) .none kV14 dc14 pm14 an14 cd14 ct14),sl14⟩) (c14:PySem.W.codeIn K cd14 "Whole.laid" = true) (k14:PySem.W.keepIn K (.ref f14) = true)
    {f15:Addr} {od15 an15:Option Addr} {sl15:Array (Option Value)} {oc15 kV15 dc15 pm15 cd15 ct15:Value}
    (a15:PySem.W.findIn K (.ref C_Gain) "__init__" = some (some (.ref f15))) (i15:PySem.W.isFn K (.ref f15) = true)
    {td15:Addr} {yc15:Value} {yd15:Option Addr} {yn15:Nat} {yl15:Array (Option Value)}
    (l15:K.lookup f15 = some ⟨oc15,od15,.func (PySem.W.fnOf "__init__" "Gain.__init__" (defArgs s_Gain___init__) (defBody s_Gain___init__) (defScope s_Gain___init__) (.ref td15) kV15 dc15 pm15 an15 cd15 ct15),sl15⟩) (c15:PySem.W.codeIn K cd15 "Gain.__init__" = true) (k15:PySem.W.keepIn K (.ref f15) = true)
    (y15:K.lookup td15 = some ⟨yc15,yd15,.seq #[.none] yn15,yl15⟩)
    {f16:Addr} {od16 an16:Option Addr} {sl16:Array (Option Value)} {oc16 kV16 dc16 pm16 cd16 ct16:Value}
    (a16:PySem.W.findIn K (.ref C_Gain) "start" = some (some (.ref f16))) (i16:PySem.W.isFn K (.ref f16) = true)
    (l16:K.lookup f16 = some ⟨oc16,od16,.func (PySem.W.fnOf "start" "Gain.start" (defArgs s_Gain_start) (defBody s_Gain_start) (defScope s_Gain_start) .none kV16 dc16 pm16 an16 cd16 ct16),sl16⟩) (c16:PySem.W.codeIn K cd16 "Gain.start" = true) (k16:PySem.W.keepIn K (.ref f16) = true)
    {f17:Addr} {od17 an17:Option Addr} {sl17:Array (Option Value)} {oc17 kV17 dc17 pm17 cd17 ct17:Value}
    (a17:PySem.W.findIn K (.ref C_Gain) "kind" = some (some (.ref f17))) (i17:PySem.W.isFn K (.ref f17) = true)
    (l17:K.lookup f17 = some ⟨oc17,od17,.func (PySem.W.fnOf "kind" "Gain.kind" (defArgs s_Gain_kind) (defBody s_Gain_kind) (defScope s_Gain_kind) .none kV17 dc17 pm17 an17 cd17 ct17),sl17⟩) (c17:PySem.W.codeIn K cd17 "Gain.kind" = true) (k17:PySem.W.keepIn K (.ref f17) = true)
    {f18:Addr} {od18 an18:Option Addr} {sl18:Array (Option Value)} {oc18 kV18 dc18 pm18 cd18 ct18:Value}
    (a18:PySem.W.findIn K (.ref C_Gain) "laid" = some (some (.ref f18))) (i18:PySem.W.isFn K (.ref f18) = true)
    (l18:K.lookup f18 = some ⟨oc18,od18,.func (PySem.W.fnOf "laid" "Gain.laid" (defArgs s_Gain_laid) (defBody s_Gain_laid) (defScope s_Gain_laid) .none kV18 dc18 pm18 an18 cd18 ct18),sl18⟩) (c18:PySem.W.codeIn K cd18 "Gain.laid" = true) (k18:PySem.W.keepIn K (.ref f18) = true)
    {f19:Addr} {od19 an19:Option Addr} {sl19:Array (Option Value)} {oc19 kV19 dc19 pm19 cd19 ct19:Value}
    (a19:PySem.W.nsIn K mainGlobals "whole_of" = some (some (.ref f19)))
    (l19:K.lookup f19 = some ⟨oc19,od19,.func (PySem.W.fnOf "whole_of" "whole_of" (defArgs s_whole_of) (defBody s_whole_of) (defScope s_whole_of) .none kV19 dc19 pm19 an19 cd19 ct19),sl19⟩) (c19:PySem.W.codeIn K cd19 "whole_of" = true) (k19:PySem.W.keepIn K (.ref f19) = true)
    {f20:Addr} {od20 an20:Option Addr} {sl20:Array (Option Value)} {oc20 kV20 dc20 pm20 cd20 ct20:Value}
    (a20:PySem.W.nsIn K mainGlobals "gain_of" = some (some (.ref f20)))
    (l20:K.lookup f20 = some ⟨oc20,od20,.func (PySem.W.fnOf "gain_of" "gain_of" (defArgs s_gain_of) (defBody s_gain_of) (defScope s_gain_of) .none kV20 dc20 pm20 an20 cd20 ct20),sl20⟩) (c20:PySem.W.codeIn K cd20 "gain_of" = true) (k20:PySem.W.keepIn K (.ref f20) = true)
    {f21:Addr} {od21 an21:Option Addr} {sl21:Array (Option Value)} {oc21 kV21 dc21 pm21 cd21 ct21:Value}
    (a21:PySem.W.findIn K (.ref C_Days) "__init__" = some (some (.ref f21))) (i21:PySem.W.isFn K (.ref f21) = true)
    (l21:K.lookup f21 = some ⟨oc21,od21,.func (PySem.W.fnOf "__init__" "Days.__init__" (defArgs s_Days___init__) (defBody s_Days___init__) (defScope s_Days___init__) .none kV21 dc21 pm21 an21 cd21 ct21),sl21⟩) (c21:PySem.W.codeIn K cd21 "Days.__init__" = true) (k21:PySem.W.keepIn K (.ref f21) = true)
    {f22:Addr} {od22 an22:Option Addr} {sl22:Array (Option Value)} {oc22 kV22 dc22 pm22 cd22 ct22:Value}
    (a22:PySem.W.findIn K (.ref C_Days) "passes" = some (some (.ref f22))) (i22:PySem.W.isFn K (.ref f22) = true)
    (l22:K.lookup f22 = some ⟨oc22,od22,.func (PySem.W.fnOf "passes" "Days.passes" (defArgs s_Days_passes) (defBody s_Days_passes) (defScope s_Days_passes) .none kV22 dc22 pm22 an22 cd22 ct22),sl22⟩) (c22:PySem.W.codeIn K cd22 "Days.passes" = true) (k22:PySem.W.keepIn K (.ref f22) = true)
    {f23:Addr} {od23 an23:Option Addr} {sl23:Array (Option Value)} {oc23 kV23 dc23 pm23 cd23 ct23:Value}
    (a23:PySem.W.findIn K (.ref C_Days) "table" = some (some (.ref f23))) (i23:PySem.W.isFn K (.ref f23) = true)
    (l23:K.lookup f23 = some ⟨oc23,od23,.func (PySem.W.fnOf "table" "Days.table" (defArgs s_Days_table) (defBody s_Days_table) (defScope s_Days_table) .none kV23 dc23 pm23 an23 cd23 ct23),sl23⟩) (c23:PySem.W.codeIn K cd23 "Days.table" = true) (k23:PySem.W.keepIn K (.ref f23) = true)
    {f24:Addr} {od24 an24:Option Addr} {sl24:Array (Option Value)} {oc24 kV24 dc24 pm24 cd24 ct24:Value}
    (a24:PySem.W.findIn K (.ref C_Days) "written" = some (some (.ref f24))) (i24:PySem.W.isFn K (.ref f24) = true)
    (l24:K.lookup f24 = some ⟨oc24,od24,.func (PySem.W.fnOf "written" "Days.written" (defArgs s_Days_written) (defBody s_Days_written) (defScope s_Days_written) .none kV24 dc24 pm24 an24 cd24 ct24),sl24⟩) (c24:PySem.W.codeIn K cd24 "Days.written" = true) (k24:PySem.W.keepIn K (.ref f24) = true)
    {f25:Addr} {od25 an25:Option Addr} {sl25:Array (Option Value)} {oc25 kV25 dc25 pm25 cd25 ct25:Value}
    (a25:PySem.W.findIn K (.ref C_Days) "ask_change" = some (some (.ref f25))) (i25:PySem.W.isFn K (.ref f25) = true)
    (l25:K.lookup f25 = some ⟨oc25,od25,.func (PySem.W.fnOf "ask_change" "Days.ask_change" (defArgs s_Days_ask_change) (defBody s_Days_ask_change) (defScope s_Days_ask_change) .none kV25 dc25 pm25 an25 cd25 ct25),sl25⟩) (c25:PySem.W.codeIn K cd25 "Days.ask_change" = true) (k25:PySem.W.keepIn K (.ref f25) = true)
    {f26:Addr} {od26 an26:Option Addr} {sl26:Array (Option Value)} {oc26 kV26 dc26 pm26 cd26 ct26:Value}
    (a26:PySem.W.findIn K (.ref C_Days) "ask_day" = some (some (.ref f26))) (i26:PySem.W.isFn K (.ref f26) = true)
    (l26:K.lookup f26 = some ⟨oc26,od26,.func (PySem.W.fnOf "ask_day" "Days.ask_day" (defArgs s_Days_ask_day) (defBody s_Days_ask_day) (defScope s_Days_ask_day) .none kV26 dc26 pm26 an26 cd26 ct26),sl26⟩) (c26:PySem.W.codeIn K cd26 "Days.ask_day" = true) (k26:PySem.W.keepIn K (.ref f26) = true)
    {f27:Addr} {od27 an27:Option Addr} {sl27:Array (Option Value)} {oc27 kV27 dc27 pm27 cd27 ct27:Value}
    (a27:PySem.W.nsIn K mainGlobals "ask_wide" = some (some (.ref f27)))
    (l27:K.lookup f27 = some ⟨oc27,od27,.func (PySem.W.fnOf "ask_wide" "ask_wide" (defArgs s_ask_wide) (defBody s_ask_wide) (defScope s_ask_wide) .none kV27 dc27 pm27 an27 cd27 ct27),sl27⟩) (c27:PySem.W.codeIn K cd27 "ask_wide" = true) (k27:PySem.W.keepIn K (.ref f27) = true)
    {f28:Addr} {od28 an28:Option Addr} {sl28:Array (Option Value)} {oc28 kV28 dc28 pm28 cd28 ct28:Value}
    (a28:PySem.W.nsIn K mainGlobals "writes_number" = some (some (.ref f28)))
    (l28:K.lookup f28 = some ⟨oc28,od28,.func (PySem.W.fnOf "writes_number" "writes_number" (defArgs s_writes_number) (defBody s_writes_number) (defScope s_writes_number) .none kV28 dc28 pm28 an28 cd28 ct28),sl28⟩) (c28:PySem.W.codeIn K cd28 "writes_number" = true) (k28:PySem.W.keepIn K (.ref f28) = true)
    {f29:Addr} {od29 an29:Option Addr} {sl29:Array (Option Value)} {oc29 kV29 dc29 pm29 cd29 ct29:Value}
    (a29:PySem.W.nsIn K mainGlobals "number_of" = some (some (.ref f29)))
    (l29:K.lookup f29 = some ⟨oc29,od29,.func (PySem.W.fnOf "number_of" "number_of" (defArgs s_number_of) (defBody s_number_of) (defScope s_number_of) .none kV29 dc29 pm29 an29 cd29 ct29),sl29⟩) (c29:PySem.W.codeIn K cd29 "number_of" = true) (k29:PySem.W.keepIn K (.ref f29) = true)
    {f30:Addr} {od30 an30:Option Addr} {sl30:Array (Option Value)} {oc30 kV30 dc30 pm30 cd30 ct30:Value}
    (a30:PySem.W.nsIn K mainGlobals "change_of" = some (some (.ref f30)))
    (l30:K.lookup f30 = some ⟨oc30,od30,.func (PySem.W.fnOf "change_of" "change_of" (defArgs s_change_of) (defBody s_change_of) (defScope s_change_of) .none kV30 dc30 pm30 an30 cd30 ct30),sl30⟩) (c30:PySem.W.codeIn K cd30 "change_of" = true) (k30:PySem.W.keepIn K (.ref f30) = true)
    {f31:Addr} {od31 an31:Option Addr} {sl31:Array (Option Value)} {oc31 kV31 dc31 pm31 cd31 ct31:Value}
    (a31:PySem.W.nsIn K mainGlobals "text_of" = some (some (.ref f31)))
    (l31:K.lookup f31 = some ⟨oc31,od31,.func (PySem.W.fnOf "text_of" "text_of" (defArgs s_text_of) (defBody s_text_of) (defScope s_text_of) .none kV31 dc31 pm31 an31 cd31 ct31),sl31⟩) (c31:PySem.W.codeIn K cd31 "text_of" = true) (k31:PySem.W.keepIn K (.ref f31) = true)
    {f32:Addr} {od32 an32:Option Addr} {sl32:Array (Option Value)} {oc32 kV32 dc32 pm32 cd32 ct32:Value}
    (a32:PySem.W.nsIn K mainGlobals "line_of" = some (some (.ref f32)))
    (l32:K.lookup f32 = some ⟨oc32,od32,.func (PySem.W.fnOf "line_of" "line_of" (defArgs s_line_of) (defBody s_line_of) (defScope s_line_of) .none kV32 dc32 pm32 an32 cd32 ct32),sl32⟩) (c32:PySem.W.codeIn K cd32 "line_of" = true) (k32:PySem.W.keepIn K (.ref f32) = true)
    {f33:Addr} {od33 an33:Option Addr} {sl33:Array (Option Value)} {oc33 kV33 dc33 pm33 cd33 ct33:Value}
    (a33:PySem.W.nsIn K mainGlobals "piece_of" = some (some (.ref f33)))
    (l33:K.lookup f33 = some ⟨oc33,od33,.func (PySem.W.fnOf "piece_of" "piece_of" (defArgs s_piece_of) (defBody s_piece_of) (defScope s_piece_of) .none kV33 dc33 pm33 an33 cd33 ct33),sl33⟩) (c33:PySem.W.codeIn K cd33 "piece_of" = true) (k33:PySem.W.keepIn K (.ref f33) = true)
    {f34:Addr} {od34 an34:Option Addr} {sl34:Array (Option Value)} {oc34 kV34 dc34 pm34 cd34 ct34:Value}
    (a34:PySem.W.nsIn K mainGlobals "piece_by_words" = some (some (.ref f34)))
    (l34:K.lookup f34 = some ⟨oc34,od34,.func (PySem.W.fnOf "piece_by_words" "piece_by_words" (defArgs s_piece_by_words) (defBody s_piece_by_words) (defScope s_piece_by_words) .none kV34 dc34 pm34 an34 cd34 ct34),sl34⟩) (c34:PySem.W.codeIn K cd34 "piece_by_words" = true) (k34:PySem.W.keepIn K (.ref f34) = true)
    {f35:Addr} {od35 an35:Option Addr} {sl35:Array (Option Value)} {oc35 kV35 dc35 pm35 cd35 ct35:Value}
    (a35:PySem.W.nsIn K mainGlobals "check_by_word" = some (some (.ref f35)))
    (l35:K.lookup f35 = some ⟨oc35,od35,.func (PySem.W.fnOf "check_by_word" "check_by_word" (defArgs s_check_by_word) (defBody s_check_by_word) (defScope s_check_by_word) .none kV35 dc35 pm35 an35 cd35 ct35),sl35⟩) (c35:PySem.W.codeIn K cd35 "check_by_word" = true) (k35:PySem.W.keepIn K (.ref f35) = true)
    {f36:Addr} {od36 an36:Option Addr} {sl36:Array (Option Value)} {oc36 kV36 dc36 pm36 cd36 ct36:Value}
    (a36:PySem.W.nsIn K mainGlobals "is_within" = some (some (.ref f36)))
    (l36:K.lookup f36 = some ⟨oc36,od36,.func (PySem.W.fnOf "is_within" "is_within" (defArgs s_is_within) (defBody s_is_within) (defScope s_is_within) .none kV36 dc36 pm36 an36 cd36 ct36),sl36⟩) (c36:PySem.W.codeIn K cd36 "is_within" = true) (k36:PySem.W.keepIn K (.ref f36) = true)
    {f37:Addr} {od37 an37:Option Addr} {sl37:Array (Option Value)} {oc37 kV37 dc37 pm37 cd37 ct37:Value}
    (a37:PySem.W.nsIn K mainGlobals "is_formed" = some (some (.ref f37)))
    (l37:K.lookup f37 = some ⟨oc37,od37,.func (PySem.W.fnOf "is_formed" "is_formed" (defArgs s_is_formed) (defBody s_is_formed) (defScope s_is_formed) .none kV37 dc37 pm37 an37 cd37 ct37),sl37⟩) (c37:PySem.W.codeIn K cd37 "is_formed" = true) (k37:PySem.W.keepIn K (.ref f37) = true)
    {f38:Addr} {od38 an38:Option Addr} {sl38:Array (Option Value)} {oc38 kV38 dc38 pm38 cd38 ct38:Value}
    (a38:PySem.W.nsIn K mainGlobals "_law_cell" = some (some (.ref f38)))
    (l38:K.lookup f38 = some ⟨oc38,od38,.func (PySem.W.fnOf "_law_cell" "_law_cell" (defArgs s__law_cell) (defBody s__law_cell) (defScope s__law_cell) .none kV38 dc38 pm38 an38 cd38 ct38),sl38⟩) (c38:PySem.W.codeIn K cd38 "_law_cell" = true) (k38:PySem.W.keepIn K (.ref f38) = true)
    {f39:Addr} {od39 an39:Option Addr} {sl39:Array (Option Value)} {oc39 kV39 dc39 pm39 cd39 ct39:Value}
    (a39:PySem.W.nsIn K mainGlobals "_law_whole" = some (some (.ref f39)))
    (l39:K.lookup f39 = some ⟨oc39,od39,.func (PySem.W.fnOf "_law_whole" "_law_whole" (defArgs s__law_whole) (defBody s__law_whole) (defScope s__law_whole) .none kV39 dc39 pm39 an39 cd39 ct39),sl39⟩) (c39:PySem.W.codeIn K cd39 "_law_whole" = true) (k39:PySem.W.keepIn K (.ref f39) = true)
    {f40:Addr} {od40 an40:Option Addr} {sl40:Array (Option Value)} {oc40 kV40 dc40 pm40 cd40 ct40:Value}
    (a40:PySem.W.nsIn K mainGlobals "_law_stir" = some (some (.ref f40)))
    (l40:K.lookup f40 = some ⟨oc40,od40,.func (PySem.W.fnOf "_law_stir" "_law_stir" (defArgs s__law_stir) (defBody s__law_stir) (defScope s__law_stir) .none kV40 dc40 pm40 an40 cd40 ct40),sl40⟩) (c40:PySem.W.codeIn K cd40 "_law_stir" = true) (k40:PySem.W.keepIn K (.ref f40) = true)
    {f41:Addr} {od41 an41:Option Addr} {sl41:Array (Option Value)} {oc41 kV41 dc41 pm41 cd41 ct41:Value}
    (a41:PySem.W.nsIn K mainGlobals "_law_block" = some (some (.ref f41)))
    (l41:K.lookup f41 = some ⟨oc41,od41,.func (PySem.W.fnOf "_law_block" "_law_block" (defArgs s__law_block) (defBody s__law_block) (defScope s__law_block) .none kV41 dc41 pm41 an41 cd41 ct41),sl41⟩) (c41:PySem.W.codeIn K cd41 "_law_block" = true) (k41:PySem.W.keepIn K (.ref f41) = true)
    {f42:Addr} {od42 an42:Option Addr} {sl42:Array (Option Value)} {oc42 kV42 dc42 pm42 cd42 ct42:Value}
    (a42:PySem.W.nsIn K mainGlobals "_law_changes" = some (some (.ref f42)))
    (l42:K.lookup f42 = some ⟨oc42,od42,.func (PySem.W.fnOf "_law_changes" "_law_changes" (defArgs s__law_changes) (defBody s__law_changes) (defScope s__law_changes) .none kV42 dc42 pm42 an42 cd42 ct42),sl42⟩) (c42:PySem.W.codeIn K cd42 "_law_changes" = true) (k42:PySem.W.keepIn K (.ref f42) = true)
    {f43:Addr} {od43 an43:Option Addr} {sl43:Array (Option Value)} {oc43 kV43 dc43 pm43 cd43 ct43:Value}
    (a43:PySem.W.nsIn K mainGlobals "_law_tables" = some (some (.ref f43)))
    (l43:K.lookup f43 = some ⟨oc43,od43,.func (PySem.W.fnOf "_law_tables" "_law_tables" (defArgs s__law_tables) (defBody s__law_tables) (defScope s__law_tables) .none kV43 dc43 pm43 an43 cd43 ct43),sl43⟩) (c43:PySem.W.codeIn K cd43 "_law_tables" = true) (k43:PySem.W.keepIn K (.ref f43) = true)
    {f44:Addr} {od44 an44:Option Addr} {sl44:Array (Option Value)} {oc44 kV44 dc44 pm44 cd44 ct44:Value}
    (a44:PySem.W.nsIn K mainGlobals "_law_same" = some (some (.ref f44)))
    (l44:K.lookup f44 = some ⟨oc44,od44,.func (PySem.W.fnOf "_law_same" "_law_same" (defArgs s__law_same) (defBody s__law_same) (defScope s__law_same) .none kV44 dc44 pm44 an44 cd44 ct44),sl44⟩) (c44:PySem.W.codeIn K cd44 "_law_same" = true) (k44:PySem.W.keepIn K (.ref f44) = true)
    {f45:Addr} {od45 an45:Option Addr} {sl45:Array (Option Value)} {oc45 kV45 dc45 pm45 cd45 ct45:Value}
    (a45:PySem.W.nsIn K mainGlobals "law" = some (some (.ref f45)))
    (l45:K.lookup f45 = some ⟨oc45,od45,.func (PySem.W.fnOf "law" "law" (defArgs s_law) (defBody s_law) (defScope s_law) .none kV45 dc45 pm45 an45 cd45 ct45),sl45⟩) (c45:PySem.W.codeIn K cd45 "law" = true) (k45:PySem.W.keepIn K (.ref f45) = true)
    (h_Whole_is_good:PySem.W.findIn K (.ref C_Whole) "is_good" = some (some (.ref f10)))
    (h_Gain_is_good:PySem.W.findIn K (.ref C_Gain) "is_good" = some (some (.ref f10)))
    (ga_Piece:PySem.W.specialIn K (.ref C_Piece) "__getattribute__" = some (some (.builtin "type.__getattribute__"))) (rd_Piece:PySem.W.readsIn K C_Piece (.type "type") = true) (fc_Piece___init__:PySem.W.findCls K (.ref C_Piece) (.type "type") "__init__" = some (.val (.ref f9)))
    (z_len:PySem.W.nsIn K mainGlobals "len" = some none)
    (z_isinstance:PySem.W.nsIn K mainGlobals "isinstance" = some none)
    (z_int:PySem.W.nsIn K mainGlobals "int" = some none)
    (z_bool:PySem.W.nsIn K mainGlobals "bool" = some none)
    (z_str:PySem.W.nsIn K mainGlobals "str" = some none)
    (z_list:PySem.W.nsIn K mainGlobals "list" = some none)
    (z_tuple:PySem.W.nsIn K mainGlobals "tuple" = some none)
    (z_range:PySem.W.nsIn K mainGlobals "range" = some none)
    (z_min:PySem.W.nsIn K mainGlobals "min" = some none)
    (z_max:PySem.W.nsIn K mainGlobals "max" = some none)
    (z_sorted:PySem.W.nsIn K mainGlobals "sorted" = some none)
    (z_set:PySem.W.nsIn K mainGlobals "set" = some none)
    (z_zip:PySem.W.nsIn K mainGlobals "zip" = some none)
    (z_all:PySem.W.nsIn K mainGlobals "all" = some none)
    (z_enumerate:PySem.W.nsIn K mainGlobals "enumerate" = some none)
   :∃ fd:FuncData,(∀ (s:Shared) (v:Value),BindsTo s fd ⟨[v],[]⟩ [("_law_script",v)]) /\ ∀ base:Heap,K.In base->base.Ns mainGlobals mg->FnOk l.prog w K mg base (CXx l.prog w) 8 fa fd ["_law_script"] (sp_law K):=by
  have e:=hfa.symm.trans (PySem.W.mg_of X G a45)
  cases e
  have D_gd_DAYS_TOLD:GD l.prog w K C_DAYS_TOLD [(Sum.inr (Str.ofString "whole"),V.int 1),(Sum.inr (Str.ofString "gain"),V.int 2)]:=gd2 (by decide +kernel) gs_DAYS_TOLD gl_DAYS_TOLD
  have T:Txt K mg t_W t_MOST_BLOCKS t_MOST_FIGURES t_MOST_DAY t_FIGURES t_CHECK_FIGURES C_KeepError C_NoWord C_NoTable C_NoPlace C_NoBlock C_NoDay C_NoBase C_NoLine C_Piece C_Whole C_Gain C_Days C_DAYS_TOLD:=⟨PySem.W.mg_of X G g_W,PySem.W.mg_of X G g_MOST_BLOCKS,PySem.W.mg_of X G g_MOST_FIGURES,PySem.W.mg_of X G g_MOST_DAY,PySem.W.mg_of X G g_FIGURES,PySem.W.mg_of X G g_CHECK_FIGURES,PySem.W.mg_of X G a_KeepError,⟨xo_KeepError,xs_KeepError,xg_KeepError,xh_KeepError,xc_KeepError,clg,clt⟩,PySem.W.mg_of X G a_NoWord,⟨xo_NoWord,xs_NoWord,xg_NoWord,xh_NoWord,xc_NoWord,clg,clt⟩,n_NoWord_word,PySem.W.mg_of X G a_NoTable,⟨xo_NoTable,xs_NoTable,xg_NoTable,xh_NoTable,xc_NoTable,clg,clt⟩,n_NoTable_wide,PySem.W.mg_of X G a_NoPlace,⟨xo_NoPlace,xs_NoPlace,xg_NoPlace,xh_NoPlace,xc_NoPlace,clg,clt⟩,n_NoPlace_place,PySem.W.mg_of X G a_NoBlock,⟨xo_NoBlock,xs_NoBlock,xg_NoBlock,xh_NoBlock,xc_NoBlock,clg,clt⟩,n_NoBlock_block,PySem.W.mg_of X G a_NoDay,⟨xo_NoDay,xs_NoDay,xg_NoDay,xh_NoDay,xc_NoDay,clg,clt⟩,n_NoDay_day,PySem.W.mg_of X G a_NoBase,⟨xo_NoBase,xs_NoBase,xg_NoBase,xh_NoBase,xc_NoBase,clg,clt⟩,n_NoBase_base,n_NoBase_day,PySem.W.mg_of X G a_NoLine,⟨xo_NoLine,xs_NoLine,xg_NoLine,xh_NoLine,xc_NoLine,clg,clt⟩,n_NoLine_line,PySem.W.mg_of X G a_Piece,PySem.W.mg_of X G a_Whole,⟨pg_Whole,hd_Whole,po_Whole,sa_Whole⟩,n_Whole_day,n_Whole_rows,n_Whole_check,n_Whole_fits,PySem.W.mg_of X G a_Gain,⟨pg_Gain,hd_Gain,po_Gain,sa_Gain⟩,n_Gain_day,n_Gain_rows,n_Gain_check,n_Gain_fits,n_Gain_base,PySem.W.mg_of X G a_Days,⟨pg_Days,hd_Days,po_Days,sa_Days⟩,n_Days_wide,n_Days_last,n_Days_tables,n_Days_set_places,PySem.W.mg_of X G a_DAYS_TOLD,PySem.W.mg_none_of X G z_len,PySem.W.mg_none_of X G z_isinstance,PySem.W.mg_none_of X G z_int,PySem.W.mg_none_of X G z_bool,PySem.W.mg_none_of X G z_str,PySem.W.mg_none_of X G z_list,PySem.W.mg_none_of X G z_tuple,PySem.W.mg_none_of X G z_range,PySem.W.mg_none_of X G z_min,PySem.W.mg_none_of X G z_max,PySem.W.mg_none_of X G z_sorted,PySem.W.mg_none_of X G z_set,PySem.W.mg_none_of X G z_zip,PySem.W.mg_none_of X G z_all,PySem.W.mg_none_of X G z_enumerate⟩
  have F0:=fun_mk (st:=s_turned) l0 c0 k0
  have b0:=F0.binds (ps:=["number"]) fun _ _ _ _ _ _ us hl=>match us,hl with | [_],_=>rfl
  have F1:=fun_mk (st:=s_check_of) l1 c1 k1
  have b1:=F1.binds (ps:=["start","day","rows"]) fun _ _ _ _ _ _ us hl=>match us,hl with | [_,_,_],_=>rfl
  have F2:=fun_mk (st:=s_NoWord___init__) l2 c2 k2
  have b2:=F2.binds (ps:=["self","word"]) fun _ _ _ _ _ _ us hl=>match us,hl with | [_,_],_=>rfl
  have F3:=fun_mk (st:=s_NoTable___init__) l3 c3 k3
  have b3:=F3.binds (ps:=["self","wide"]) fun _ _ _ _ _ _ us hl=>match us,hl with | [_,_],_=>rfl
  have F4:=fun_mk (st:=s_NoPlace___init__) l4 c4 k4
  have b4:=F4.binds (ps:=["self","place"]) fun _ _ _ _ _ _ us hl=>match us,hl with | [_,_],_=>rfl
  have F5:=fun_mk (st:=s_NoBlock___init__) l5 c5 k5
  have b5:=F5.binds (ps:=["self","block"]) fun _ _ _ _ _ _ us hl=>match us,hl with | [_,_],_=>rfl
  have F6:=fun_mk (st:=s_NoDay___init__) l6 c6 k6
  have b6:=F6.binds (ps:=["self","day"]) fun _ _ _ _ _ _ us hl=>match us,hl with | [_,_],_=>rfl
  have F7:=fun_mk (st:=s_NoBase___init__) l7 c7 k7
  have b7:=F7.binds (ps:=["self","base","day"]) fun _ _ _ _ _ _ us hl=>match us,hl with | [_,_,_],_=>rfl
  have F8:=fun_mk (st:=s_NoLine___init__) l8 c8 k8
  have b8:=F8.binds (ps:=["self","line"]) fun _ _ _ _ _ _ us hl=>match us,hl with | [_,_],_=>rfl
  have F9:=fun_mk (st:=s_Piece___init__) l9 c9 k9
  have b9:=F9.binds (ps:=["self","start","day","rows","check"]) fun _ _ _ _ _ _ us hl=>match us,hl with | [_,_,_,_,_],_=>rfl
  have F10:=fun_mk (st:=s_Piece_is_good) l10 c10 k10
  have b10:=F10.binds (ps:=["self"]) fun _ _ _ _ _ _ us hl=>match us,hl with | [_],_=>rfl
  have F11:=fund_mk (st:=s_Whole___init__) l11 c11 k11
  have b11:=F11.binds (ps:=["self","day","rows","check"]) (ds:=[]) y11 rfl fun _ _ _ _ _ _ us hl=>match us,hl with | [_,_,_,_],_=>⟨_,rfl,rfl⟩
  have b_Whole___init___d1:=F11.binds (ps:=["self","day","rows","check"]) (ds:=[Value.none]) y11 rfl fun _ _ _ _ _ _ us hl=>match us,hl with | [_,_,_],_=>⟨_,rfl,rfl⟩
  have F12:=fun_mk (st:=s_Whole_start) l12 c12 k12
  have b12:=F12.binds (ps:=["self"]) fun _ _ _ _ _ _ us hl=>match us,hl with | [_],_=>rfl
  have F13:=fun_mk (st:=s_Whole_kind) l13 c13 k13
  have b13:=F13.binds (ps:=["self"]) fun _ _ _ _ _ _ us hl=>match us,hl with | [_],_=>rfl
  have F14:=fun_mk (st:=s_Whole_laid) l14 c14 k14
  have b14:=F14.binds (ps:=["self","table"]) fun _ _ _ _ _ _ us hl=>match us,hl with | [_,_],_=>rfl
  have F15:=fund_mk (st:=s_Gain___init__) l15 c15 k15
  have b15:=F15.binds (ps:=["self","base","day","rows","check"]) (ds:=[]) y15 rfl fun _ _ _ _ _ _ us hl=>match us,hl with | [_,_,_,_,_],_=>⟨_,rfl,rfl⟩
  have b_Gain___init___d1:=F15.binds (ps:=["self","base","day","rows","check"]) (ds:=[Value.none]) y15 rfl fun _ _ _ _ _ _ us hl=>match us,hl with | [_,_,_,_],_=>⟨_,rfl,rfl⟩
  have F16:=fun_mk (st:=s_Gain_start) l16 c16 k16
  have b16:=F16.binds (ps:=["self"]) fun _ _ _ _ _ _ us hl=>match us,hl with | [_],_=>rfl
  have F17:=fun_mk (st:=s_Gain_kind) l17 c17 k17
  have b17:=F17.binds (ps:=["self"]) fun _ _ _ _ _ _ us hl=>match us,hl with | [_],_=>rfl
  have F18:=fun_mk (st:=s_Gain_laid) l18 c18 k18
  have b18:=F18.binds (ps:=["self","table"]) fun _ _ _ _ _ _ us hl=>match us,hl with | [_,_],_=>rfl
  have F19:=fun_mk (st:=s_whole_of) l19 c19 k19
  have b19:=F19.binds (ps:=["days","day"]) fun _ _ _ _ _ _ us hl=>match us,hl with | [_,_],_=>rfl
  have F20:=fun_mk (st:=s_gain_of) l20 c20 k20
  have b20:=F20.binds (ps:=["days","base","day"]) fun _ _ _ _ _ _ us hl=>match us,hl with | [_,_,_],_=>rfl
  have F21:=fun_mk (st:=s_Days___init__) l21 c21 k21
  have b21:=F21.binds (ps:=["self","wide"]) fun _ _ _ _ _ _ us hl=>match us,hl with | [_,_],_=>rfl
  have F22:=fun_mk (st:=s_Days_passes) l22 c22 k22
  have b22:=F22.binds (ps:=["self","changes"]) fun _ _ _ _ _ _ us hl=>match us,hl with | [_,_],_=>rfl
  have F23:=fun_mk (st:=s_Days_table) l23 c23 k23
  have b23:=F23.binds (ps:=["self","day"]) fun _ _ _ _ _ _ us hl=>match us,hl with | [_,_],_=>rfl
  have F24:=fun_mk (st:=s_Days_written) l24 c24 k24
  have b24:=F24.binds (ps:=["self","one","other"]) fun _ _ _ _ _ _ us hl=>match us,hl with | [_,_,_],_=>rfl
  have F25:=fun_mk (st:=s_Days_ask_change) l25 c25 k25
  have b25:=F25.binds (ps:=["self","place","block"]) fun _ _ _ _ _ _ us hl=>match us,hl with | [_,_,_],_=>rfl
  have F26:=fun_mk (st:=s_Days_ask_day) l26 c26 k26
  have b26:=F26.binds (ps:=["self","day"]) fun _ _ _ _ _ _ us hl=>match us,hl with | [_,_],_=>rfl
  have F27:=fun_mk (st:=s_ask_wide) l27 c27 k27
  have b27:=F27.binds (ps:=["wide"]) fun _ _ _ _ _ _ us hl=>match us,hl with | [_],_=>rfl
  have F28:=fun_mk (st:=s_writes_number) l28 c28 k28
  have b28:=F28.binds (ps:=["word"]) fun _ _ _ _ _ _ us hl=>match us,hl with | [_],_=>rfl
  have F29:=fun_mk (st:=s_number_of) l29 c29 k29
  have b29:=F29.binds (ps:=["word"]) fun _ _ _ _ _ _ us hl=>match us,hl with | [_],_=>rfl
  have F30:=fun_mk (st:=s_change_of) l30 c30 k30
  have b30:=F30.binds (ps:=["word"]) fun _ _ _ _ _ _ us hl=>match us,hl with | [_],_=>rfl
  have F31:=fun_mk (st:=s_text_of) l31 c31 k31
  have b31:=F31.binds (ps:=["changes"]) fun _ _ _ _ _ _ us hl=>match us,hl with | [_],_=>rfl
  have F32:=fun_mk (st:=s_line_of) l32 c32 k32
  have b32:=F32.binds (ps:=["piece"]) fun _ _ _ _ _ _ us hl=>match us,hl with | [_],_=>rfl
  have F33:=fun_mk (st:=s_piece_of) l33 c33 k33
  have b33:=F33.binds (ps:=["line"]) fun _ _ _ _ _ _ us hl=>match us,hl with | [_],_=>rfl
  have F34:=fun_mk (st:=s_piece_by_words) l34 c34 k34
  have b34:=F34.binds (ps:=["words","many"]) fun _ _ _ _ _ _ us hl=>match us,hl with | [_,_],_=>rfl
  have F35:=fun_mk (st:=s_check_by_word) l35 c35 k35
  have b35:=F35.binds (ps:=["word"]) fun _ _ _ _ _ _ us hl=>match us,hl with | [_],_=>rfl
  have F36:=fun_mk (st:=s_is_within) l36 c36 k36
  have b36:=F36.binds (ps:=["piece"]) fun _ _ _ _ _ _ us hl=>match us,hl with | [_],_=>rfl
  have F37:=fun_mk (st:=s_is_formed) l37 c37 k37
  have b37:=F37.binds (ps:=["piece"]) fun _ _ _ _ _ _ us hl=>match us,hl with | [_],_=>rfl
  have F38:=fun_mk (st:=s__law_cell) l38 c38 k38
  have b38:=F38.binds (ps:=["_law_script","_law_k"]) fun _ _ _ _ _ _ us hl=>match us,hl with | [_,_],_=>rfl
  have F39:=fun_mk (st:=s__law_whole) l39 c39 k39
  have b39:=F39.binds (ps:=["_law_found"]) fun _ _ _ _ _ _ us hl=>match us,hl with | [_],_=>rfl
  have F40:=fun_mk (st:=s__law_stir) l40 c40 k40
  have b40:=F40.binds (ps:=["_law_cell_here","_law_k"]) fun _ _ _ _ _ _ us hl=>match us,hl with | [_,_],_=>rfl
  have F41:=fun_mk (st:=s__law_block) l41 c41 k41
  have b41:=F41.binds (ps:=["_law_cell_here","_law_k"]) fun _ _ _ _ _ _ us hl=>match us,hl with | [_,_],_=>rfl
  have F42:=fun_mk (st:=s__law_changes) l42 c42 k42
  have b42:=F42.binds (ps:=["_law_cell_here","_law_wide"]) fun _ _ _ _ _ _ us hl=>match us,hl with | [_,_],_=>rfl
  have F43:=fun_mk (st:=s__law_tables) l43 c43 k43
  have b43:=F43.binds (ps:=["_law_wide","_law_changes_here"]) fun _ _ _ _ _ _ us hl=>match us,hl with | [_,_],_=>rfl
  have F44:=fun_mk (st:=s__law_same) l44 c44 k44
  have b44:=F44.binds (ps:=["_law_found","_law_due"]) fun _ _ _ _ _ _ us hl=>match us,hl with | [_,_],_=>rfl
  have F45:=fun_mk (st:=s_law) l45 c45 k45
  have b45:=F45.binds (ps:=["_law_script"]) fun _ _ _ _ _ _ us hl=>match us,hl with | [_],_=>rfl
  refine ⟨PySem.W.fnOf "law" "law" (defArgs s_law) (defBody s_law) (defScope s_law) .none kV45 dc45 pm45 an45 cd45 ct45,fun s v=>.of_eq rfl,fun base _ _=>?_⟩
  have D_turned:DefX l.prog w K mg base "turned" 1 ["number"] sp_turned:=⟨_,_,PySem.W.mg_of X G a0,ok_turned F0 T ,k0,b0⟩
  have D_check_of:DefX l.prog w K mg base "check_of" 2 ["start","day","rows"] sp_check:=⟨_,_,PySem.W.mg_of X G a1,ok_check_of F1 T D_turned,k1,b1⟩
  have D_NoWord:ExcX l.prog w K mg base "NoWord" C_NoWord 1 ["self","word"] (sp_x1 C_NoWord "word"):=⟨_,_,PySem.W.mg_of X G a_NoWord,⟨T.x_NoWord,a2,i2,kc_NoWord⟩,ok_NoWord___init__ F2 T ,b2⟩
  have D_NoTable:ExcX l.prog w K mg base "NoTable" C_NoTable 1 ["self","wide"] (sp_x1 C_NoTable "wide"):=⟨_,_,PySem.W.mg_of X G a_NoTable,⟨T.x_NoTable,a3,i3,kc_NoTable⟩,ok_NoTable___init__ F3 T ,b3⟩
  have D_NoPlace:ExcX l.prog w K mg base "NoPlace" C_NoPlace 1 ["self","place"] (sp_x1 C_NoPlace "place"):=⟨_,_,PySem.W.mg_of X G a_NoPlace,⟨T.x_NoPlace,a4,i4,kc_NoPlace⟩,ok_NoPlace___init__ F4 T ,b4⟩
  have D_NoBlock:ExcX l.prog w K mg base "NoBlock" C_NoBlock 1 ["self","block"] (sp_x1 C_NoBlock "block"):=⟨_,_,PySem.W.mg_of X G a_NoBlock,⟨T.x_NoBlock,a5,i5,kc_NoBlock⟩,ok_NoBlock___init__ F5 T ,b5⟩
  have D_NoDay:ExcX l.prog w K mg base "NoDay" C_NoDay 1 ["self","day"] (sp_x1 C_NoDay "day"):=⟨_,_,PySem.W.mg_of X G a_NoDay,⟨T.x_NoDay,a6,i6,kc_NoDay⟩,ok_NoDay___init__ F6 T ,b6⟩
  have D_NoBase:ExcX l.prog w K mg base "NoBase" C_NoBase 1 ["self","base","day"] (sp_x2 C_NoBase "base" "day"):=⟨_,_,PySem.W.mg_of X G a_NoBase,⟨T.x_NoBase,a7,i7,kc_NoBase⟩,ok_NoBase___init__ F7 T ,b7⟩
  have D_NoLine:ExcX l.prog w K mg base "NoLine" C_NoLine 1 ["self","line"] (sp_x1 C_NoLine "line"):=⟨_,_,PySem.W.mg_of X G a_NoLine,⟨T.x_NoLine,a8,i8,kc_NoLine⟩,ok_NoLine___init__ F8 T ,b8⟩
  have D_Piece___init__:ClsX l.prog w K mg base "Piece" C_Piece "__init__" 3 ["self","start","day","rows","check"] (sp_pinit K):=⟨_,_,PySem.W.mg_of X G a_Piece,⟨ga_Piece,rd_Piece,fc_Piece___init__,k9⟩,ok_Piece___init__ F9 T D_check_of,b9⟩
  have D_Whole_is_good:MethX l.prog w K mg base C_Whole "is_good" 3 ["self"] (sp_good C_Whole C_Gain):=⟨_,_,⟨h_Whole_is_good,i10,k10⟩,ok_Piece_is_good F10 T ,b10⟩
  have D_Gain_is_good:MethX l.prog w K mg base C_Gain "is_good" 3 ["self"] (sp_good C_Whole C_Gain):=⟨_,_,⟨h_Gain_is_good,i10,k10⟩,ok_Piece_is_good F10 T ,b10⟩
  have D_Whole:MakeX l.prog w K mg base "Whole" C_Whole 4 ["self","day","rows","check"] (sp_winit C_Whole C_Gain):=⟨_,_,PySem.W.mg_of X G a_Whole,⟨mk_Whole,a11,i11,kc_Whole⟩,ok_Whole___init__ F11 T D_Piece___init__,b11⟩
  have D_Whole_d1:MakeXd l.prog w K mg base "Whole" C_Whole 4 ["self","day","rows","check"] [Value.none] (sp_winit C_Whole C_Gain):=⟨_,_,PySem.W.mg_of X G a_Whole,⟨mk_Whole,a11,i11,kc_Whole⟩,ok_Whole___init__ F11 T D_Piece___init__,b_Whole___init___d1⟩
  have D_Whole_start:MethX l.prog w K mg base C_Whole "start" 1 ["self"] sp_wstart:=⟨_,_,⟨a12,i12,k12⟩,ok_Whole_start F12 T ,b12⟩
  have D_Whole_kind:MethX l.prog w K mg base C_Whole "kind" 1 ["self"] sp_wkind:=⟨_,_,⟨a13,i13,k13⟩,ok_Whole_kind F13 T ,b13⟩
  have D_Whole_laid:MethX l.prog w K mg base C_Whole "laid" 1 ["self","table"] (sp_wlaid C_Whole C_Gain):=⟨_,_,⟨a14,i14,k14⟩,ok_Whole_laid F14 T ,b14⟩
  have D_Gain:MakeX l.prog w K mg base "Gain" C_Gain 4 ["self","base","day","rows","check"] (sp_ginit C_Whole C_Gain):=⟨_,_,PySem.W.mg_of X G a_Gain,⟨mk_Gain,a15,i15,kc_Gain⟩,ok_Gain___init__ F15 T D_Piece___init__,b15⟩
  have D_Gain_d1:MakeXd l.prog w K mg base "Gain" C_Gain 4 ["self","base","day","rows","check"] [Value.none] (sp_ginit C_Whole C_Gain):=⟨_,_,PySem.W.mg_of X G a_Gain,⟨mk_Gain,a15,i15,kc_Gain⟩,ok_Gain___init__ F15 T D_Piece___init__,b_Gain___init___d1⟩
  have D_Gain_start:MethX l.prog w K mg base C_Gain "start" 1 ["self"] (sp_gstart C_Whole C_Gain):=⟨_,_,⟨a16,i16,k16⟩,ok_Gain_start F16 T ,b16⟩
  have D_Gain_kind:MethX l.prog w K mg base C_Gain "kind" 1 ["self"] sp_gkind:=⟨_,_,⟨a17,i17,k17⟩,ok_Gain_kind F17 T ,b17⟩
  have D_Gain_laid:MethX l.prog w K mg base C_Gain "laid" 1 ["self","table"] (sp_glaid C_Whole C_Gain):=⟨_,_,⟨a18,i18,k18⟩,ok_Gain_laid F18 T ,b18⟩
  have D_Days_ask_day:MethX l.prog w K mg base C_Days "ask_day" 3 ["self","day"] (sp_askd C_Days C_NoDay):=⟨_,_,⟨a26,i26,k26⟩,ok_Days_ask_day F26 T D_NoDay,b26⟩
  have D_Days_table:MethX l.prog w K mg base C_Days "table" 4 ["self","day"] (sp_table C_Days C_NoDay):=⟨_,_,⟨a23,i23,k23⟩,ok_Days_table F23 T D_Days_ask_day,b23⟩
  have D_whole_of:DefX l.prog w K mg base "whole_of" 6 ["days","day"] (sp_wholeof C_Days C_Whole C_Gain C_NoDay):=⟨_,_,PySem.W.mg_of X G a19,ok_whole_of F19 T D_Whole_d1 D_Days_table,k19,b19⟩
  have D_Days_written:MethX l.prog w K mg base C_Days "written" 4 ["self","one","other"] (sp_written C_Days C_NoDay):=⟨_,_,⟨a24,i24,k24⟩,ok_Days_written F24 T D_Days_ask_day,b24⟩
  have D_gain_of:DefX l.prog w K mg base "gain_of" 6 ["days","base","day"] (sp_gainof C_Days C_Whole C_Gain C_NoDay C_NoBase):=⟨_,_,PySem.W.mg_of X G a20,ok_gain_of F20 T D_Days_written D_NoBase D_Days_table D_Gain_d1,k20,b20⟩
  have D_ask_wide:DefX l.prog w K mg base "ask_wide" 3 ["wide"] (sp_askw C_NoTable):=⟨_,_,PySem.W.mg_of X G a27,ok_ask_wide F27 T D_NoTable,k27,b27⟩
  have D_Days:MakeX l.prog w K mg base "Days" C_Days 4 ["self","wide"] (sp_init C_Days C_NoTable):=⟨_,_,PySem.W.mg_of X G a_Days,⟨mk_Days,a21,i21,kc_Days⟩,ok_Days___init__ F21 T D_ask_wide,b21⟩
  have D_Days_ask_change:MethX l.prog w K mg base C_Days "ask_change" 3 ["self","place","block"] (sp_askc C_Days C_NoPlace C_NoBlock):=⟨_,_,⟨a25,i25,k25⟩,ok_Days_ask_change F25 T D_NoPlace D_NoBlock,b25⟩
  have D_Days_passes:MethX l.prog w K mg base C_Days "passes" 4 ["self","changes"] (sp_passes C_Days C_NoPlace C_NoBlock):=⟨_,_,⟨a22,i22,k22⟩,ok_Days_passes F22 T D_Days_ask_change,b22⟩
  have D_writes_number:DefX l.prog w K mg base "writes_number" 1 ["word"] sp_writes:=⟨_,_,PySem.W.mg_of X G a28,ok_writes_number F28 T ,k28,b28⟩
  have D_number_of:DefX l.prog w K mg base "number_of" 3 ["word"] sp_numof:=⟨_,_,PySem.W.mg_of X G a29,ok_number_of F29 T D_writes_number D_NoWord,k29,b29⟩
  have D_change_of:DefX l.prog w K mg base "change_of" 3 ["word"] sp_change:=⟨_,_,PySem.W.mg_of X G a30,ok_change_of F30 T D_writes_number D_NoWord,k30,b30⟩
  have D_text_of:DefX l.prog w K mg base "text_of" 1 ["changes"] (sp_text K):=⟨_,_,PySem.W.mg_of X G a31,ok_text_of F31 T ,k31,b31⟩
  have D_line_of:DefX l.prog w K mg base "line_of" 4 ["piece"] (sp_lineof C_Whole C_Gain):=⟨_,_,PySem.W.mg_of X G a32,ok_line_of F32 T D_Gain_kind D_Whole_kind D_text_of,k32,b32⟩
  have D_check_by_word:DefX l.prog w K mg base "check_by_word" 3 ["word"] sp_byword:=⟨_,_,PySem.W.mg_of X G a35,ok_check_by_word F35 T D_NoWord,k35,b35⟩
  have D_piece_by_words:DefX l.prog w K mg base "piece_by_words" 6 ["words","many"] (sp_bywords C_Whole C_Gain):=⟨_,_,PySem.W.mg_of X G a34,ok_piece_by_words F34 T D_number_of D_change_of D_check_by_word D_Whole D_Gain,k34,b34⟩
  have D_is_formed:DefX l.prog w K mg base "is_formed" 2 ["piece"] (sp_within C_Whole C_Gain):=⟨_,_,PySem.W.mg_of X G a37,ok_is_formed F37 T D_Gain_kind D_Whole_kind,k37,b37⟩
  have D_is_within:DefX l.prog w K mg base "is_within" 1 ["piece"] (sp_within C_Whole C_Gain):=⟨_,_,PySem.W.mg_of X G a36,ok_is_within F36 T ,k36,b36⟩
  have D_piece_of:DefX l.prog w K mg base "piece_of" 7 ["line"] (sp_pieceof C_Whole C_Gain):=⟨_,_,PySem.W.mg_of X G a33,ok_piece_of F33 T D_gd_DAYS_TOLD D_NoLine D_piece_by_words D_is_formed D_is_within,k33,b33⟩
  have D__law_cell:DefX l.prog w K mg base "_law_cell" 1 ["_law_script","_law_k"] (sp_cell K):=⟨_,_,PySem.W.mg_of X G a38,ok__law_cell F38 T ,k38,b38⟩
  have D__law_whole:DefX l.prog w K mg base "_law_whole" 1 ["_law_found"] sp_whole:=⟨_,_,PySem.W.mg_of X G a39,ok__law_whole F39 T ,k39,b39⟩
  have D__law_stir:DefX l.prog w K mg base "_law_stir" 1 ["_law_cell_here","_law_k"] sp_stir:=⟨_,_,PySem.W.mg_of X G a40,ok__law_stir F40 T ,k40,b40⟩
  have D__law_block:DefX l.prog w K mg base "_law_block" 2 ["_law_cell_here","_law_k"] sp_block:=⟨_,_,PySem.W.mg_of X G a41,ok__law_block F41 T D__law_stir,k41,b41⟩
  have D__law_changes:DefX l.prog w K mg base "_law_changes" 3 ["_law_cell_here","_law_wide"] sp_changes17:=⟨_,_,PySem.W.mg_of X G a42,ok__law_changes F42 T D__law_block D__law_stir,k42,b42⟩
  have D__law_tables:DefX l.prog w K mg base "_law_tables" 1 ["_law_wide","_law_changes_here"] sp_tables17:=⟨_,_,PySem.W.mg_of X G a43,ok__law_tables F43 T ,k43,b43⟩
  have D__law_same:DefX l.prog w K mg base "_law_same" 2 ["_law_found","_law_due"] sp_same19:=⟨_,_,PySem.W.mg_of X G a44,ok__law_same F44 T D__law_whole,k44,b44⟩
  exact ok_law F45 T D__law_cell D__law_changes D_Days D_Days_passes D__law_tables D_piece_of D_line_of D_whole_of D_Gain_laid D_Whole_laid D__law_same D__law_stir D_gain_of D_Gain_is_good D_Whole_is_good
theorem walk {l:PySem.W.OpenLaw} {q:Program} {loose:List Str} {XP:(Str->Option Value)->Heap->Prop} {YP:World->Heap->Prop} {d:DefRec} {K:Params->PySem.W.Frag} (hn:l.most = some 63) (hdf:d.params.defaults = [])
    (hY:∀ (w:World) (h:Heap),YP w h->(K w.params).In h)
    (F:∀ (w:World) (mg:Str->Option Value) (fa:Addr) (h:Heap),(K w.params).In h->h.Ns mainGlobals mg->mg d.name = some (.ref fa) →
      ∃ fd:FuncData,(∀ (s:Shared) (u:Value),BindsTo s fd ⟨[u],[]⟩ [("_law_script",u)]) /\ ∀ base:Heap,(K w.params).In base->base.Ns mainGlobals mg->FnOk l.prog w (K w.params) mg base (CXx l.prog w) 8 fa fd ["_law_script"] (sp_law (K w.params))) :
    PySem.W.WalkO q loose XP YP l.row.toRowW d [] (fun f vs=>PySem.call f vs) :=
  L2.walk_of (n:=63) (k:=8) (x:="_law_script") (CX:=fun w=>CXx l.prog w) (sp:=fun w=>sp_law (K w.params)) hn (by decide) hdf ⟨rfl,by decide,by decide⟩ hY F (fun _ _ a ns hl _ hS=>⟨a,ns,rfl,hS,hl,fun _=>rfl⟩) fun _ _ _ _ _ z=>L2.cxx_no z
end Mine
open PySem PySem.W PyProof.Rows
namespace Hd
noncomputable section
open PySem
abbrev h0:=(((((Str.ofString "<module>",Str.ofString "/claim/cut.py"),Str.ofString "__main__"),((Str.ofString "__name__",Str.ofString "keepsakes.errors"),Str.ofString "__doc__")),(((Str.ofString "__package__",Str.ofString "__loader__"),Str.ofString "__spec__"),((Str.ofString "__annotations__",Str.ofString "__builtins__"),Str.ofString "__file__"))),((((Str.ofString "__cached__",Str.ofString "_wall"),Str.ofString "W"),((Str.ofString "MOST_BLOCKS",Str.ofString "MOST_FIGURES"),Str.ofString "MOST_DAY")),(((Str.ofString "turned",Str.ofString "check_of"),Str.ofString "KeepError"),((Str.ofString "k",Str.ofString "number"),Str.ofString "keepsakes.checks"))))
abbrev h1:=(((((Str.ofString "start",Str.ofString "day"),Str.ofString "rows"),((Str.ofString "numbers",Str.ofString "place"),Str.ofString "block")),(((Str.ofString "check",Str.ofString "__module__"),Str.ofString "__qualname__"),((Str.ofString "__firstlineno__",Str.ofString "__static_attributes__"),Str.ofString "__weakref__"))),((((Str.ofString "NoWord",Str.ofString "__init__"),Str.ofString "self"),((Str.ofString "word",Str.ofString "NoWord.__init__"),Str.ofString "NoTable")),(((Str.ofString "wide",Str.ofString "NoTable.__init__"),Str.ofString "NoPlace"),((Str.ofString "NoPlace.__init__",Str.ofString "NoBlock"),Str.ofString "NoBlock.__init__"))))
abbrev h2:=(((((Str.ofString "NoDay",Str.ofString "NoDay.__init__"),Str.ofString "NoBase"),((Str.ofString "base",Str.ofString "NoBase.__init__"),Str.ofString "keepsakes.pieces")),(((Str.ofString "NoLine",Str.ofString "line"),Str.ofString "NoLine.__init__"),((Str.ofString "Piece",Str.ofString "size"),Str.ofString "is_good"))),((((Str.ofString "harmed",Str.ofString "Piece.__init__"),Str.ofString "Piece.size"),((Str.ofString "Piece.is_good",Str.ofString "at"),Str.ofString "bits")),(((Str.ofString "Piece.harmed",Str.ofString "fits"),Str.ofString "__dict__"),((Str.ofString "Whole",Str.ofString "kind"),Str.ofString "laid"))))
abbrev h3:=(((((Str.ofString "with_rows",Str.ofString "Whole.__init__"),Str.ofString "Whole.start"),((Str.ofString "Whole.kind",Str.ofString "Whole.laid"),Str.ofString "Whole.with_rows")),(((Str.ofString "Gain",Str.ofString "Gain.__init__"),Str.ofString "Gain.start"),((Str.ofString "Gain.kind",Str.ofString "table"),Str.ofString "blocks"))),((((Str.ofString "Gain.laid",Str.ofString "Gain.with_rows"),Str.ofString "keepsakes.days"),((Str.ofString "whole_of",Str.ofString "gain_of"),Str.ofString "days")),(((Str.ofString "Days",Str.ofString "passes"),Str.ofString "written"),((Str.ofString "ask_change",Str.ofString "ask_day"),Str.ofString "Days.__init__"))))
abbrev h4:=(((((Str.ofString "Days.passes",Str.ofString "Days.table"),Str.ofString "one"),((Str.ofString "other",Str.ofString "places"),Str.ofString "Days.written")),(((Str.ofString "Days.ask_change",Str.ofString "Days.ask_day"),Str.ofString "last"),((Str.ofString "set_places",Str.ofString "tables"),Str.ofString "law_keepsakes_k19_whole_tables_carried"))),((((Str.ofString "ask_wide",Str.ofString "FIGURES"),Str.ofString "0123456789"),((Str.ofString "writes_number",Str.ofString "number_of"),Str.ofString "change_of")),(((Str.ofString "text_of",Str.ofString "CHECK_FIGURES"),Str.ofString "DAYS_TOLD"),((Str.ofString "line_of",Str.ofString "piece_of"),Str.ofString "piece_by_words"))))
abbrev h5:=(((((Str.ofString "check_by_word",Str.ofString "is_within"),Str.ofString "is_formed"),((Str.ofString "keepsakes.words",Str.ofString "parts"),Str.ofString "whole")),(((Str.ofString "gain",Str.ofString "keepsakes.lines"),Str.ofString "words"),((Str.ofString "piece",Str.ofString "_law_cell"),Str.ofString "_law_whole"))),((((Str.ofString "_law_stir",Str.ofString "_law_block"),Str.ofString "_law_changes"),((Str.ofString "_law_tables",Str.ofString "_law_same"),Str.ofString "law")),(((Str.ofString "_law_script",Str.ofString "_law_k"),Str.ofString "_law_found"),((Str.ofString "_law_cell_here",Str.ofString "_law_number"),Str.ofString "_law_wide"))))
abbrev h6:=(((Str.ofString "_law_changes_here",Str.ofString "_law_tables_here"),Str.ofString "_law_row"),((Str.ofString "_law_table",Str.ofString "_law_place"),Str.ofString "_law_block_here"))
abbrev h7:=((((("tuple","code"),"frame"),(("dict","__main__.__loader__#opaque"),"function")),((("ValueError","builtin_function_or_method"),"type.__prepare__"),("type","Exception"))),(((("BaseException","object"),"ValueError.__new__"),("getset_descriptor","ExceptionGroup.__weakref__")),((("super","object.__init_subclass__"),"object.__new__"),("function.__dict__","function.__dict__#set"))))
abbrev X:Type:=(((((((((Str × Str) × Str) × ((Str × Str) × Str)) × (((Str × Str) × Str) × ((Str × Str) × Str))) × ((((Str × Str) × Str) × ((Str × Str) × Str)) × (((Str × Str) × Str) × ((Str × Str) × Str)))) × (((((Str × Str) × Str) × ((Str × Str) × Str)) × (((Str × Str) × Str) × ((Str × Str) × Str))) × ((((Str × Str) × Str) × ((Str × Str) × Str)) × (((Str × Str) × Str) × ((Str × Str) × Str))))) × (((((Str × Str) × Str) × ((Str × Str) × Str)) × (((Str × Str) × Str) × ((Str × Str) × Str))) × ((((Str × Str) × Str) × ((Str × Str) × Str)) × (((Str × Str) × Str) × ((Str × Str) × Str))))) × ((((((Str × Str) × Str) × ((Str × Str) × Str)) × (((Str × Str) × Str) × ((Str × Str) × Str))) × ((((Str × Str) × Str) × ((Str × Str) × Str)) × (((Str × Str) × Str) × ((Str × Str) × Str)))) × (((((Str × Str) × Str) × ((Str × Str) × Str)) × (((Str × Str) × Str) × ((Str × Str) × Str))) × ((((Str × Str) × Str) × ((Str × Str) × Str)) × (((Str × Str) × Str) × ((Str × Str) × Str)))))) × (((((((Str × Str) × Str) × ((Str × Str) × Str)) × (((Str × Str) × Str) × ((Str × Str) × Str))) × ((((Str × Str) × Str) × ((Str × Str) × Str)) × (((Str × Str) × Str) × ((Str × Str) × Str)))) × (((Str × Str) × Str) × ((Str × Str) × Str))) × ((((((String × String) × String) × ((String × String) × String)) × (((String × String) × String) × (String × String))) × ((((String × String) × String) × (String × String)) × (((String × String) × String) × (String × String)))) × PySem.Program))) × PySem.Params
abbrev hs:=((((h0,h1),h2),(h3,h4)),((h5,h6),(h7,PySem.Challenge.pw_keepsakes_k19_whole_tables_carried)))
lay_quick h0 h1 h2 h3 h4 h5 h6 h7 PySem.Challenge.pw_keepsakes_k19_whole_tables_carried
lay_quick hs
abbrev s0 (x:X):=x.1.1.1.1.1.1.1.1.1.1
abbrev s1 (x:X):=x.1.1.1.1.1.1.1.1.1.2
abbrev s2 (x:X):=x.1.1.1.1.1.1.1.1.2
abbrev s3 (x:X):=x.1.1.1.1.1.1.1.2.1.1
abbrev s4 (x:X):=x.1.1.1.1.1.1.1.2.1.2
abbrev s5 (x:X):=x.1.1.1.1.1.1.1.2.2
abbrev s6 (x:X):=x.1.1.1.1.1.1.2.1.1.1
abbrev s7 (x:X):=x.1.1.1.1.1.1.2.1.1.2
abbrev s8 (x:X):=x.1.1.1.1.1.1.2.1.2
abbrev s9 (x:X):=x.1.1.1.1.1.1.2.2.1.1
abbrev s10 (x:X):=x.1.1.1.1.1.1.2.2.1.2
abbrev s11 (x:X):=x.1.1.1.1.1.1.2.2.2
abbrev s12 (x:X):=x.1.1.1.1.1.2.1.1.1.1
abbrev s13 (x:X):=x.1.1.1.1.1.2.1.1.1.2
abbrev s14 (x:X):=x.1.1.1.1.1.2.1.1.2
abbrev s15 (x:X):=x.1.1.1.1.1.2.1.2.1.1
abbrev s16 (x:X):=x.1.1.1.1.1.2.1.2.1.2
abbrev s17 (x:X):=x.1.1.1.1.1.2.1.2.2
abbrev s18 (x:X):=x.1.1.1.1.1.2.2.1.1.1
abbrev s19 (x:X):=x.1.1.1.1.1.2.2.1.1.2
abbrev s20 (x:X):=x.1.1.1.1.1.2.2.1.2
abbrev s21 (x:X):=x.1.1.1.1.1.2.2.2.1.1
abbrev s22 (x:X):=x.1.1.1.1.1.2.2.2.1.2
abbrev s23 (x:X):=x.1.1.1.1.1.2.2.2.2
abbrev s24 (x:X):=x.1.1.1.1.2.1.1.1.1.1
abbrev s25 (x:X):=x.1.1.1.1.2.1.1.1.1.2
abbrev s26 (x:X):=x.1.1.1.1.2.1.1.1.2
abbrev s27 (x:X):=x.1.1.1.1.2.1.1.2.1.1
abbrev s28 (x:X):=x.1.1.1.1.2.1.1.2.1.2
abbrev s29 (x:X):=x.1.1.1.1.2.1.1.2.2
abbrev s30 (x:X):=x.1.1.1.1.2.1.2.1.1.1
abbrev s31 (x:X):=x.1.1.1.1.2.1.2.1.1.2
abbrev s32 (x:X):=x.1.1.1.1.2.1.2.1.2
abbrev s33 (x:X):=x.1.1.1.1.2.1.2.2.1.1
abbrev s34 (x:X):=x.1.1.1.1.2.1.2.2.1.2
abbrev s35 (x:X):=x.1.1.1.1.2.1.2.2.2
abbrev s36 (x:X):=x.1.1.1.1.2.2.1.1.1.1
abbrev s37 (x:X):=x.1.1.1.1.2.2.1.1.1.2
abbrev s38 (x:X):=x.1.1.1.1.2.2.1.1.2
abbrev s39 (x:X):=x.1.1.1.1.2.2.1.2.1.1
abbrev s40 (x:X):=x.1.1.1.1.2.2.1.2.1.2
abbrev s41 (x:X):=x.1.1.1.1.2.2.1.2.2
abbrev s42 (x:X):=x.1.1.1.1.2.2.2.1.1.1
abbrev s43 (x:X):=x.1.1.1.1.2.2.2.1.1.2
abbrev s44 (x:X):=x.1.1.1.1.2.2.2.1.2
abbrev s45 (x:X):=x.1.1.1.1.2.2.2.2.1.1
abbrev s46 (x:X):=x.1.1.1.1.2.2.2.2.1.2
abbrev s47 (x:X):=x.1.1.1.1.2.2.2.2.2
abbrev s48 (x:X):=x.1.1.1.2.1.1.1.1.1
abbrev s49 (x:X):=x.1.1.1.2.1.1.1.1.2
abbrev s50 (x:X):=x.1.1.1.2.1.1.1.2
abbrev s51 (x:X):=x.1.1.1.2.1.1.2.1.1
abbrev s52 (x:X):=x.1.1.1.2.1.1.2.1.2
abbrev s53 (x:X):=x.1.1.1.2.1.1.2.2
abbrev s54 (x:X):=x.1.1.1.2.1.2.1.1.1
abbrev s55 (x:X):=x.1.1.1.2.1.2.1.1.2
abbrev s56 (x:X):=x.1.1.1.2.1.2.1.2
abbrev s57 (x:X):=x.1.1.1.2.1.2.2.1.1
abbrev s58 (x:X):=x.1.1.1.2.1.2.2.1.2
abbrev s59 (x:X):=x.1.1.1.2.1.2.2.2
abbrev s60 (x:X):=x.1.1.1.2.2.1.1.1.1
abbrev s61 (x:X):=x.1.1.1.2.2.1.1.1.2
abbrev s62 (x:X):=x.1.1.1.2.2.1.1.2
abbrev s63 (x:X):=x.1.1.1.2.2.1.2.1.1
abbrev s64 (x:X):=x.1.1.1.2.2.1.2.1.2
abbrev s65 (x:X):=x.1.1.1.2.2.1.2.2
abbrev s66 (x:X):=x.1.1.1.2.2.2.1.1.1
abbrev s67 (x:X):=x.1.1.1.2.2.2.1.1.2
abbrev s68 (x:X):=x.1.1.1.2.2.2.1.2
abbrev s69 (x:X):=x.1.1.1.2.2.2.2.1.1
abbrev s70 (x:X):=x.1.1.1.2.2.2.2.1.2
abbrev s71 (x:X):=x.1.1.1.2.2.2.2.2
abbrev s72 (x:X):=x.1.1.2.1.1.1.1.1.1
abbrev s73 (x:X):=x.1.1.2.1.1.1.1.1.2
abbrev s74 (x:X):=x.1.1.2.1.1.1.1.2
abbrev s75 (x:X):=x.1.1.2.1.1.1.2.1.1
abbrev s76 (x:X):=x.1.1.2.1.1.1.2.1.2
abbrev s77 (x:X):=x.1.1.2.1.1.1.2.2
abbrev s78 (x:X):=x.1.1.2.1.1.2.1.1.1
abbrev s79 (x:X):=x.1.1.2.1.1.2.1.1.2
abbrev s80 (x:X):=x.1.1.2.1.1.2.1.2
abbrev s81 (x:X):=x.1.1.2.1.1.2.2.1.1
abbrev s82 (x:X):=x.1.1.2.1.1.2.2.1.2
abbrev s83 (x:X):=x.1.1.2.1.1.2.2.2
abbrev s84 (x:X):=x.1.1.2.1.2.1.1.1.1
abbrev s85 (x:X):=x.1.1.2.1.2.1.1.1.2
abbrev s86 (x:X):=x.1.1.2.1.2.1.1.2
abbrev s87 (x:X):=x.1.1.2.1.2.1.2.1.1
abbrev s88 (x:X):=x.1.1.2.1.2.1.2.1.2
abbrev s89 (x:X):=x.1.1.2.1.2.1.2.2
abbrev s90 (x:X):=x.1.1.2.1.2.2.1.1.1
abbrev s91 (x:X):=x.1.1.2.1.2.2.1.1.2
abbrev s92 (x:X):=x.1.1.2.1.2.2.1.2
abbrev s93 (x:X):=x.1.1.2.1.2.2.2.1.1
abbrev s94 (x:X):=x.1.1.2.1.2.2.2.1.2
abbrev s95 (x:X):=x.1.1.2.1.2.2.2.2
abbrev s96 (x:X):=x.1.1.2.2.1.1.1.1.1
abbrev s97 (x:X):=x.1.1.2.2.1.1.1.1.2
abbrev s98 (x:X):=x.1.1.2.2.1.1.1.2
abbrev s99 (x:X):=x.1.1.2.2.1.1.2.1.1
abbrev s100 (x:X):=x.1.1.2.2.1.1.2.1.2
abbrev s101 (x:X):=x.1.1.2.2.1.1.2.2
abbrev s102 (x:X):=x.1.1.2.2.1.2.1.1.1
abbrev s103 (x:X):=x.1.1.2.2.1.2.1.1.2
abbrev s104 (x:X):=x.1.1.2.2.1.2.1.2
abbrev s105 (x:X):=x.1.1.2.2.1.2.2.1.1
abbrev s106 (x:X):=x.1.1.2.2.1.2.2.1.2
abbrev s107 (x:X):=x.1.1.2.2.1.2.2.2
abbrev s108 (x:X):=x.1.1.2.2.2.1.1.1.1
abbrev s109 (x:X):=x.1.1.2.2.2.1.1.1.2
abbrev s110 (x:X):=x.1.1.2.2.2.1.1.2
abbrev s111 (x:X):=x.1.1.2.2.2.1.2.1.1
abbrev s112 (x:X):=x.1.1.2.2.2.1.2.1.2
abbrev s113 (x:X):=x.1.1.2.2.2.1.2.2
abbrev s114 (x:X):=x.1.1.2.2.2.2.1.1.1
abbrev s115 (x:X):=x.1.1.2.2.2.2.1.1.2
abbrev s116 (x:X):=x.1.1.2.2.2.2.1.2
abbrev s117 (x:X):=x.1.1.2.2.2.2.2.1.1
abbrev s118 (x:X):=x.1.1.2.2.2.2.2.1.2
abbrev s119 (x:X):=x.1.1.2.2.2.2.2.2
abbrev s120 (x:X):=x.1.2.1.1.1.1.1.1.1
abbrev s121 (x:X):=x.1.2.1.1.1.1.1.1.2
abbrev s122 (x:X):=x.1.2.1.1.1.1.1.2
abbrev s123 (x:X):=x.1.2.1.1.1.1.2.1.1
abbrev s124 (x:X):=x.1.2.1.1.1.1.2.1.2
abbrev s125 (x:X):=x.1.2.1.1.1.1.2.2
abbrev s126 (x:X):=x.1.2.1.1.1.2.1.1.1
abbrev s127 (x:X):=x.1.2.1.1.1.2.1.1.2
abbrev s128 (x:X):=x.1.2.1.1.1.2.1.2
abbrev s129 (x:X):=x.1.2.1.1.1.2.2.1.1
abbrev s130 (x:X):=x.1.2.1.1.1.2.2.1.2
abbrev s131 (x:X):=x.1.2.1.1.1.2.2.2
abbrev s132 (x:X):=x.1.2.1.1.2.1.1.1.1
abbrev s133 (x:X):=x.1.2.1.1.2.1.1.1.2
abbrev s134 (x:X):=x.1.2.1.1.2.1.1.2
abbrev s135 (x:X):=x.1.2.1.1.2.1.2.1.1
abbrev s136 (x:X):=x.1.2.1.1.2.1.2.1.2
abbrev s137 (x:X):=x.1.2.1.1.2.1.2.2
abbrev s138 (x:X):=x.1.2.1.1.2.2.1.1.1
abbrev s139 (x:X):=x.1.2.1.1.2.2.1.1.2
abbrev s140 (x:X):=x.1.2.1.1.2.2.1.2
abbrev s141 (x:X):=x.1.2.1.1.2.2.2.1.1
abbrev s142 (x:X):=x.1.2.1.1.2.2.2.1.2
abbrev s143 (x:X):=x.1.2.1.1.2.2.2.2
abbrev s144 (x:X):=x.1.2.1.2.1.1.1
abbrev s145 (x:X):=x.1.2.1.2.1.1.2
abbrev s146 (x:X):=x.1.2.1.2.1.2
abbrev s147 (x:X):=x.1.2.1.2.2.1.1
abbrev s148 (x:X):=x.1.2.1.2.2.1.2
abbrev s149 (x:X):=x.1.2.1.2.2.2
abbrev l0 (x:X):=x.1.2.2.1.1.1.1.1.1
abbrev l1 (x:X):=x.1.2.2.1.1.1.1.1.2
abbrev l2 (x:X):=x.1.2.2.1.1.1.1.2
abbrev l3 (x:X):=x.1.2.2.1.1.1.2.1.1
abbrev l4 (x:X):=x.1.2.2.1.1.1.2.1.2
abbrev l5 (x:X):=x.1.2.2.1.1.1.2.2
abbrev l6 (x:X):=x.1.2.2.1.1.2.1.1.1
abbrev l7 (x:X):=x.1.2.2.1.1.2.1.1.2
abbrev l8 (x:X):=x.1.2.2.1.1.2.1.2
abbrev l9 (x:X):=x.1.2.2.1.1.2.2.1
abbrev l10 (x:X):=x.1.2.2.1.1.2.2.2
abbrev l11 (x:X):=x.1.2.2.1.2.1.1.1.1
abbrev l12 (x:X):=x.1.2.2.1.2.1.1.1.2
abbrev l13 (x:X):=x.1.2.2.1.2.1.1.2
abbrev l14 (x:X):=x.1.2.2.1.2.1.2.1
abbrev l15 (x:X):=x.1.2.2.1.2.1.2.2
abbrev l16 (x:X):=x.1.2.2.1.2.2.1.1.1
abbrev l17 (x:X):=x.1.2.2.1.2.2.1.1.2
abbrev l18 (x:X):=x.1.2.2.1.2.2.1.2
abbrev l19 (x:X):=x.1.2.2.1.2.2.2.1
abbrev l20 (x:X):=x.1.2.2.1.2.2.2.2
abbrev b0 (x:X):=PySem.W.boot_o_0 x.2
abbrev b1 (x:X):=PySem.W.boot_o_1 x.2
abbrev b2 (x:X):=PySem.W.boot_o_2 x.2
abbrev b3 (x:X):=PySem.W.boot_o_3 x.2
abbrev b4 (x:X):=PySem.W.boot_o_4 x.2
abbrev b5 (x:X):=PySem.W.boot_o_5 x.2
abbrev b6 (x:X):=PySem.W.boot_o_6 x.2
abbrev b7 (x:X):=PySem.W.boot_o_7 x.2
abbrev b8 (x:X):=PySem.W.boot_o_8 x.2
abbrev b9 (x:X):=PySem.W.boot_o_9 x.2
abbrev b10 (x:X):=PySem.W.boot_o_10 x.2
abbrev pg (x:X):PySem.Program:=x.1.2.2.2
def nth:List PySem.Stmt->Nat->PySem.Stmt:=fun l=>@List.rec PySem.Stmt (fun _=>Nat->PySem.Stmt) (fun _=>.Pass ⟨0,0,0,0⟩) (fun a _ ih n=>@Nat.rec (fun _=>PySem.Stmt) a (fun m _=>ih m) n) l
abbrev st (x:X) (k:Nat):PySem.Stmt:=nth (pg x).main.body k
def cb:PySem.Stmt->List PySem.Stmt | .ClassDef _ _ _ y _ _ _ _ _ _ _=>y | _=>[]
abbrev sm (x:X) (k m:Nat):PySem.Stmt:=nth (cb (st x k)) m
def f0:PySem.Stmt->Str | .FunctionDef y _ _ _ _ _ _ _ _ _=>y | _=>default
def f1:PySem.Stmt->Arguments | .FunctionDef _ y _ _ _ _ _ _ _ _=>y | _=>default
def f2:PySem.Stmt->List Stmt | .FunctionDef _ _ y _ _ _ _ _ _ _=>y | _=>[]
def f6:PySem.Stmt->Scope | .FunctionDef _ _ _ _ _ _ y _ _ _=>y | _=>default
abbrev u0:=@PySem.Obj.mk
abbrev u1:=@PySem.Value.type
abbrev u2:=@Option.none.{0} (@Nat)
abbrev u3:=@PySem.Data.seq
abbrev u4:=@List.toArray.{0} (@PySem.Value)
abbrev u5:=@List.nil.{0} (@PySem.Value)
abbrev u6:=@List.toArray.{0} (@Option.{0} (@PySem.Value))
abbrev u7:=@List.nil.{0} (@Option.{0} (@PySem.Value))
abbrev u8:=@PySem.Value.none
abbrev u9:=@PySem.Data.fields
abbrev u10:=@List.cons.{0} (@PySem.Value)
abbrev u11:=@PySem.Value.str
abbrev u12:=@PySem.Value.int
abbrev u13:=@PySem.Value.ref
abbrev u14:=@PySem.Value.bool
abbrev u15:=@Bool.false
abbrev u16:=@PySem.Data.plain
abbrev u17:=@List.cons.{0} (@Option.{0} (@PySem.Value))
abbrev u18:=@Option.some.{0} (@PySem.Value)
abbrev u19:=@Option.none.{0} (@PySem.Value)
abbrev u20:=@PySem.Data.dict
abbrev u21:=@List.toArray.{0} (@PySem.DictEntry)
abbrev u22:=@List.cons.{0} (@PySem.DictEntry)
abbrev u23:=@PySem.DictEntry.mk
abbrev u24:=@PySem.PyData.keyHash
abbrev u25:=@PySem.Value.builtin
abbrev u26:=@List.nil.{0} (@PySem.DictEntry)
abbrev u27:=@PySem.Data.func
abbrev u28:=@PySem.FuncData.mk
abbrev u29:=@PySem.FuncBody.stmts
abbrev u30:=@List.nil.{0} (@Prod.{0,0} (@PySem.Str) (@Nat))
abbrev u31:=@Bool.true
abbrev u32:=@PySem.Data.cls
abbrev u33:=@PySem.ClassData.mk
abbrev u34:=@List.nil.{0} (@PySem.Str)
abbrev u35:=@Option.none.{0} (@Bool)
abbrev u36:=@List.cons.{0} (@Prod.{0,0} (@Nat) (@PySem.Obj))
abbrev u37:=@Prod.mk.{0,0} (@Nat) (@PySem.Obj)
abbrev u38:=@List.nil.{0} (@Prod.{0,0} (@Nat) (@PySem.Obj))
abbrev u39:=@PySem.Heap.mk
abbrev u40:=@Array.mk.{0} (@PySem.Obj)
abbrev u41:=@List.cons.{0} (@PySem.Obj)
abbrev u42:=@List.nil.{0} (@PySem.Obj)
abbrev u43:=@PySem.Life.mk
abbrev u44:=@List.nil.{0} (@Nat)
abbrev u45:=@List.nil.{0} (@Prod.{0,0} (@Nat) (@Nat))
abbrev u46:=@List.toArray.{0} (@Nat)
abbrev u47:=@List.cons.{0} (@Int)
abbrev u48:=@List.nil.{0} (@Int)
abbrev u49:=@PySem.W.BT.node
abbrev u50:=@PySem.W.BT.nil
abbrev M (c:PySem.Value) (d:PySem.Data):PySem.Obj:=PySem.Obj.mk c none d #[]
abbrev E (x:X) (s:PySem.Str) (n:Nat) (v:PySem.Value):PySem.DictEntry:=⟨PySem.PyData.keyHash x.2 s,.str s n,v⟩
abbrev N (o:X->PySem.Obj) (l r:X->PySem.W.BT):X->PySem.W.BT:=fun x=>.node (o x) (l x) (r x)
abbrev Z:X->PySem.W.BT:=fun _=>.nil
abbrev Q (o:X->PySem.Obj) (l:X->List PySem.Obj):X->List PySem.Obj:=fun x=>o x :: l x
abbrev R:X->List PySem.Obj:=fun _=>[]
abbrev J (k:Nat) (o:X->PySem.Obj) (l:X->List (Nat × PySem.Obj)):X->List (Nat × PySem.Obj):=fun x=>(k,o x) :: l x
abbrev I:X->List (Nat × PySem.Obj):=fun _=>[]
def k0 (x:X):PySem.Obj:=(M (u1 (l0 x)) (u3 (u4 u5) 0))
def k1 (x:X) (a0:PySem.Str) (a1 a2 a3:Nat) (a4:Int) (a5 a6:Nat) (a7:Int) (a8:Nat):PySem.Obj:=(M (u1 (l1 x)) (u9 (u4 [(u11 a0 a1),(u11 a0 a2),(u11 (s1 x) a3),(u12 a4 0),(u12 0 0),(u12 0 0),(u12 0 0),(u12 0 0),(u13 a5),(u14 u15),(u12 181 0),(u13 a6),u8,u8,u8,u8,(u12 a7 0),(u12 a4 0),(u11 (s1 x) a8)])))
def k2 (x:X) (a0 a1:Nat) (a2:PySem.Str) (a3:Nat):PySem.Obj:=(u0 (u1 (l2 x)) u2 u16 (u6 [(u18 (u13 a0)),(u18 (u13 3)),(u18 (u13 a1)),u19,(u18 (u11 a2 a3)),u19,(u18 (u13 0))]))
def k3 (x:X) (a0:PySem.Str) (a1:Nat):PySem.Obj:=(M (u1 (l0 x)) (u3 (u4 [(u11 a0 a1)]) 0))
def k4 (x:X) (a0:PySem.Str) (a1:PySem.Stmt):PySem.Obj:=(M u8 (u27 (u28 a0 a0 (f1 a1) (u29 (f2 a1)) (f6 a1) 0 u30 u8 u8 u8 u8 u2 u8 u8 0)))
def k5 (x:X) (a0:PySem.Str) (a1:Nat) (a2:PySem.Str) (a3 a4:Nat) (a5 a6:Int) (a7 a8 a9 a10 a11:Nat) (a12:Int) (a13:Nat):PySem.Obj:=(M (u1 (l1 x)) (u9 (u4 [(u11 a0 a1),(u11 a2 a3),(u11 (s1 x) a4),(u12 a5 0),(u12 a6 0),(u12 0 0),(u12 0 0),(u12 3 0),(u13 a7),(u14 u31),(u12 181 0),(u13 a8),u8,(u13 a9),(u13 a10),(u13 a11),(u12 a12 0),(u12 a5 0),(u11 (s1 x) a13)])))
def k6 (x:X) (a0:PySem.Str) (a1:PySem.Stmt) (a2:PySem.Str) (a3 a4:Nat):PySem.Obj:=(M (u1 (l5 x)) (u27 (u28 a0 a0 (f1 a1) (u29 (f2 a1)) (f6 a1) 3 u30 u8 u8 u8 (u11 a2 a3) u2 (u13 a4) u8 0)))
def k7 (x:X):PySem.Obj:=(M (u1 (l7 x)) (u9 (u4 [(u25 (l8 x)),(u1 (l9 x))])))
def k8 (x:X) (a0 a1:Nat) (a2:Int) (a3:Nat) (a4:PySem.Str) (a5 a6:Nat) (a7:PySem.Str) (a8 a9 a10 a11:Nat):PySem.Obj:=(M (u1 (l3 x)) (u20 (u21 [(E x (s31 x) a0 (u11 (s4 x) 225)),(E x (s33 x) a1 (u12 a2 a3)),(E x a4 a5 (u13 a6)),(E x a7 a8 (u13 a9)),(E x (s5 x) a10 u8)]) a11))
def k9 (x:X) (a0 a1:Nat):PySem.Obj:=(M (u1 (l14 x)) (u9 (u4 [(u11 (s35 x) a0),(u13 a1),(u25 (l15 x)),u8])))
def k10 (x:X) (a0:Nat):PySem.Obj:=(M (u1 (l16 x)) (u9 (u4 [(u13 a0),(u13 a0),(u13 a0)])))
def k11 (x:X) (a0:Nat):PySem.Obj:=(M (u1 (l7 x)) (u9 (u4 [(u25 (l17 x)),(u13 a0)])))
def k12 (x:X) (a0 a1:Int) (a2:Nat) (a3:Int) (a4:Nat) (a5:Int) (a6:Nat) (a7:Int) (a8:Nat) (a9:Int) (a10:Nat):PySem.Obj:=(M u8 (u9 (u4 [(u12 a0 0),(u12 a1 0),(u13 a2),(u12 a3 0),(u12 a1 0),(u13 a4),(u12 a5 0),(u12 a1 0),(u13 a6),(u12 a7 0),(u12 a1 0),(u13 a8),(u12 a9 0),(u12 a1 0),(u13 a10)])))
def k13 (x:X) (a0:Nat):PySem.Obj:=(M (u1 (l0 x)) (u3 (u4 [(u13 a0)]) 0))
def k14 (x:X) (a0 a1:Nat) (a2:PySem.Str) (a3 a4:Nat) (a5:Int) (a6 a7 a8 a9 a10:Nat):PySem.Obj:=(M (u1 (l3 x)) (u20 (u21 [(E x (s31 x) a0 (u11 (s4 x) 225)),(E x (s32 x) a1 (u11 a2 a3)),(E x (s33 x) a4 (u12 a5 a6)),(E x (s37 x) a7 (u13 a8)),(E x (s34 x) a9 (u13 a10))]) 5))
def k15 (x:X) (a0:Int) (a1:Nat):PySem.Obj:=(M u8 (u9 (u4 [(u12 a0 0),(u12 4 0),(u13 a1)])))
def k16 (x:X) (a0:PySem.Str) (a1:Nat) (a2:PySem.Str) (a3:Nat):PySem.Obj:=(M (u1 (l0 x)) (u3 (u4 [(u11 a0 a1),(u11 a2 a3)]) 0))
def k17 (x:X) (a0 a1:PySem.Str) (a2 a3:PySem.Stmt):PySem.Obj:=(M u8 (u27 (u28 a0 a1 (f1 a2) (u29 (f2 a2)) (f6 a3) 0 u30 u8 u8 u8 u8 u2 u8 u8 0)))
def k18 (x:X) (a0 a1:PySem.Str) (a2 a3:PySem.Stmt) (a4:PySem.Str) (a5 a6:Nat):PySem.Obj:=(M (u1 (l5 x)) (u27 (u28 a0 a1 (f1 a2) (u29 (f2 a2)) (f6 a3) 3 u30 u8 u8 u8 (u11 a4 a5) u2 (u13 a6) u8 0)))
def k19 (x:X) (a0:PySem.Str) (a1 a2 a3 a4 a5:Nat):PySem.Obj:=(u0 (u1 (l9 x)) u2 (u32 (u33 a0 [(u13 45)] [(u13 a1),(u13 45),(u1 (l6 x)),(u1 (l10 x)),(u1 (l11 x)),(u1 (l12 x))] a2 a0 u31 u34 u5 u15 u35 u15)) (u6 [(u18 (u13 a3)),u19,(u18 (u11 a0 a4)),(u18 (u11 a0 a5)),(u18 (u25 (l13 x))),(u18 (u14 u31))]))
def k20 (x:X) (a0:PySem.Str) (a1:Nat) (a2:PySem.Str) (a3:Nat) (a4:PySem.Str) (a5:Nat):PySem.Obj:=(M (u1 (l0 x)) (u3 (u4 [(u11 a0 a1),(u11 a2 a3),(u11 a4 a5)]) 0))
def k21 (x:X) (a0:PySem.Str) (a1:Nat) (a2:PySem.Str) (a3 a4:Nat) (a5 a6:Int) (a7 a8 a9:Nat) (a10:Int) (a11:Nat):PySem.Obj:=(M (u1 (l1 x)) (u9 (u4 [(u11 a0 a1),(u11 a2 a3),(u11 (s1 x) a4),(u12 a5 0),(u12 a6 0),(u12 0 0),(u12 0 0),(u12 3 0),(u13 a7),(u14 u31),(u12 181 0),(u13 a8),u8,u8,u8,(u13 a9),(u12 a10 0),(u12 a5 0),(u11 (s1 x) a11)])))
def k22 (x:X) (a0:PySem.Str) (a1:Nat) (a2:PySem.Str) (a3:Nat) (a4:PySem.Str) (a5:Nat) (a6:PySem.Str) (a7:Nat):PySem.Obj:=(M (u1 (l0 x)) (u3 (u4 [(u11 a0 a1),(u11 a2 a3),(u11 a4 a5),(u11 a6 a7)]) 0))
def k23 (x:X) (a0:Nat) (a1:PySem.Str) (a2:Nat) (a3:PySem.Str) (a4:Nat) (a5:PySem.Str) (a6:Nat) (a7:PySem.Str) (a8:Nat):PySem.Obj:=(M (u1 (l0 x)) (u3 (u4 [(u11 (s38 x) a0),(u11 a1 a2),(u11 a3 a4),(u11 a5 a6),(u11 a7 a8)]) 0))
def k24 (x:X) (a0:PySem.Stmt):PySem.Obj:=(M u8 (u27 (u28 (f0 a0) (f0 a0) (f1 a0) (u29 (f2 a0)) (f6 a0) 0 u30 u8 u8 u8 u8 u2 u8 u8 0)))
def k25 (x:X) (a0:PySem.Stmt) (a1:PySem.Str) (a2 a3:Nat):PySem.Obj:=(M (u1 (l5 x)) (u27 (u28 (f0 a0) (f0 a0) (f1 a0) (u29 (f2 a0)) (f6 a0) 3 u30 u8 u8 u8 (u11 a1 a2) u2 (u13 a3) u8 0)))
variable (x:X)
def o43:=k0 x 
def o44 (x:X):Obj:=(M u8 (u9 (u4 u5)))
def o45:=k1 x (s0 x) 182 183 184 1 11 12 185 186
def o46:=k2 x 13 3 (s2 x) 164
def o49:=(M (u1 (l3 x)) (u20 (u21 [(E x (s3 x) 165 (u11 (s4 x) 225)),(E x (s5 x) 166 u8),(E x (s6 x) 167 u8),(E x (s7 x) 168 (u25 (l4 x))),(E x (s8 x) 169 u8),(E x (s9 x) 170 (u13 6)),(E x (s10 x) 171 (u13 4)),(E x (s11 x) 173 (u11 (s1 x) 172)),(E x (s12 x) 174 u8),(E x (s13 x) 193 (u13 21)),(E x (s14 x) 195 (u12 18446744073709551615 194)),(E x (s15 x) 197 (u12 40 196)),(E x (s16 x) 199 (u12 20 198)),(E x (s17 x) 201 (u12 1000000000 200)),(E x (s18 x) 210 (u13 28)),(E x (s19 x) 224 (u13 35)),(E x (s20 x) 244 (u13 45))]) 17))
def o50 (x:X):Obj:=(M u8 (u9 (u4 [(u12 1 0),(u12 0 0),(u13 20),(u12 9 0),(u12 0 0),(u13 27),(u12 11 0),(u12 0 0),(u13 34),(u12 20 0),(u12 0 0),(u13 41)])))
def o51:=k0 x 
def o52 (x:X):Obj:=(M u8 (u9 (u4 u5)))
def o53:=k3 x (s21 x) 190
def o54:=k0 x 
def o55:=k4 x (s13 x) (st x 0)
def o56:=k5 x (s13 x) 187 (s13 x) 188 189 1 1 15 16 17 18 19 191 192
def o57:=k6 x (s13 x) (st x 0) (s2 x) 164 20
def o58:=k0 x 
def o59 (x:X):Obj:=(M u8 (u9 (u4 u5)))
def o60:=k3 x (s22 x) 207
def o61:=k0 x 
def o62:=k4 x (s18 x) (st x 6)
def o63:=k5 x (s18 x) 204 (s18 x) 205 206 9 1 22 23 24 25 26 208 209
def o64:=k6 x (s18 x) (st x 6) (s23 x) 202 27
def o65:=k0 x 
def o66 (x:X):Obj:=(M u8 (u9 (u4 u5)))
def o67:=(M (u1 (l0 x)) (u3 (u4 [(u11 (s24 x) 214),(u11 (s25 x) 215),(u11 (s26 x) 216),(u11 (s27 x) 217),(u11 (s28 x) 218),(u11 (s29 x) 219),(u11 (s30 x) 220),(u11 (s22 x) 221)]) 0))
def o68:=k0 x 
def o69:=k4 x (s19 x) (st x 7)
def o70:=k5 x (s19 x) 211 (s19 x) 212 213 11 3 29 30 31 32 33 222 223
def o71:=k6 x (s19 x) (st x 7) (s23 x) 202 34
def o72:=(M (u1 (l0 x)) (u3 (u4 [(u1 (l6 x))]) 0))
def o73:=k7 x 
def o74:=(M (u1 (l3 x)) (u20 (u21 [(E x (s31 x) 234 (u11 (s4 x) 225)),(E x (s32 x) 236 (u11 (s20 x) 235)),(E x (s33 x) 238 (u12 20 237)),(E x (s34 x) 239 (u13 43))]) 4))
def o75:=k0 x 
def o76 (x:X):Obj:=(M u8 (u9 (u4 u5)))
def o77:=k1 x (s20 x) 229 230 231 20 39 40 232 233
def o78:=k2 x 41 38 (s4 x) 225
def o79:=k0 x 
def o80:=k8 x 234 238 20 237 (s34 x) 239 43 (s35 x) 241 46 242 3
def o81:=(u0 (u1 (l9 x)) u2 (u32 (u33 (s20 x) [(u1 (l6 x))] [(u13 45),(u1 (l6 x)),(u1 (l10 x)),(u1 (l11 x)),(u1 (l12 x))] 44 (s20 x) u31 u34 u5 u15 u35 u15)) (u6 [(u18 (u13 36)),u19,(u18 (u11 (s20 x) 227)),(u18 (u11 (s20 x) 235)),(u18 (u25 (l13 x))),(u18 (u14 u31))]))
def o82:=k9 x 240 45
def o83:=k10 x 45
def o84:=k11 x 45
def o85:=(M (u1 (l3 x)) (u20 (u21 [(E x (s3 x) 165 (u11 (s4 x) 225)),(E x (s5 x) 166 u8),(E x (s6 x) 167 u8),(E x (s7 x) 168 (u25 (l4 x))),(E x (s8 x) 169 u8),(E x (s9 x) 170 (u13 6)),(E x (s10 x) 171 (u13 4)),(E x (s11 x) 173 (u11 (s1 x) 172)),(E x (s12 x) 174 u8),(E x (s13 x) 193 (u13 21)),(E x (s14 x) 195 (u12 18446744073709551615 194)),(E x (s15 x) 197 (u12 40 196)),(E x (s16 x) 199 (u12 20 198)),(E x (s17 x) 201 (u12 1000000000 200)),(E x (s18 x) 210 (u13 28)),(E x (s19 x) 224 (u13 35)),(E x (s20 x) 244 (u13 45)),(E x (s36 x) 269 (u13 65))]) 18))
def o86:=k12 x 1 0 20 9 27 11 34 20 41 22 54
def o87:=(u0 (u1 (l9 x)) u2 (u32 (u33 (s20 x) [(u1 (l6 x))] [(u13 45),(u1 (l6 x)),(u1 (l10 x)),(u1 (l11 x)),(u1 (l12 x))] 44 (s20 x) u31 u34 [(u13 65)] u15 u35 u15)) (u6 [(u18 (u13 36)),u19,(u18 (u11 (s20 x) 227)),(u18 (u11 (s20 x) 235)),(u18 (u25 (l13 x))),(u18 (u14 u31))]))
def o88:=k13 x 45
def o89:=k7 x 
def o90:=k14 x 252 254 (s36 x) 253 256 22 255 264 62 266 63
def o91:=k0 x 
def o92:=k15 x 24 61
def o93:=k1 x (s36 x) 247 248 249 22 52 53 250 251
def o94:=k2 x 54 51 (s4 x) 225
def o95:=k0 x 
def o96 (x:X):Obj:=(M u8 (u9 (u4 u5)))
def o97:=k16 x (s38 x) 260 (s39 x) 261
def o98:=k0 x 
def o99:=k17 x (s37 x) (s40 x) (sm x 10 0) (sm x 10 0)
def o100:=k5 x (s37 x) 257 (s40 x) 258 259 24 2 56 57 58 59 60 262 263
def o101:=k18 x (s37 x) (s40 x) (sm x 10 0) (sm x 10 0) (s4 x) 225 61
def o102:=k3 x (s39 x) 265
def o103:=k8 x 252 256 22 255 (s37 x) 264 62 (s34 x) 266 63 267 2
def o104:=k19 x (s36 x) 65 64 49 245 253
def o105:=k10 x 65
def o106:=k11 x 65
def o107:=(M (u1 (l3 x)) (u20 (u21 [(E x (s3 x) 165 (u11 (s4 x) 225)),(E x (s5 x) 166 u8),(E x (s6 x) 167 u8),(E x (s7 x) 168 (u25 (l4 x))),(E x (s8 x) 169 u8),(E x (s9 x) 170 (u13 6)),(E x (s10 x) 171 (u13 4)),(E x (s11 x) 173 (u11 (s1 x) 172)),(E x (s12 x) 174 u8),(E x (s13 x) 193 (u13 21)),(E x (s14 x) 195 (u12 18446744073709551615 194)),(E x (s15 x) 197 (u12 40 196)),(E x (s16 x) 199 (u12 20 198)),(E x (s17 x) 201 (u12 1000000000 200)),(E x (s18 x) 210 (u13 28)),(E x (s19 x) 224 (u13 35)),(E x (s20 x) 244 (u13 45)),(E x (s36 x) 269 (u13 65)),(E x (s41 x) 294 (u13 84))]) 19))
def o108 (x:X):Obj:=(M u8 (u9 (u4 [(u12 1 0),(u12 0 0),(u13 20),(u12 9 0),(u12 0 0),(u13 27),(u12 11 0),(u12 0 0),(u13 34),(u12 20 0),(u12 0 0),(u13 41),(u12 22 0),(u12 0 0),(u13 54),(u12 26 0),(u12 0 0),(u13 73)])))
def o109:=(u0 (u1 (l9 x)) u2 (u32 (u33 (s20 x) [(u1 (l6 x))] [(u13 45),(u1 (l6 x)),(u1 (l10 x)),(u1 (l11 x)),(u1 (l12 x))] 44 (s20 x) u31 u34 [(u13 65),(u13 84)] u15 u35 u15)) (u6 [(u18 (u13 36)),u19,(u18 (u11 (s20 x) 227)),(u18 (u11 (s20 x) 235)),(u18 (u25 (l13 x))),(u18 (u14 u31))]))
def o110:=k13 x 45
def o111:=k7 x 
def o112:=k14 x 277 279 (s41 x) 278 281 26 280 289 81 291 82
def o113:=k0 x 
def o114:=k15 x 28 80
def o115:=k1 x (s41 x) 272 273 274 26 71 72 275 276
def o116:=k2 x 73 70 (s4 x) 225
def o117:=k0 x 
def o118 (x:X):Obj:=(M u8 (u9 (u4 u5)))
def o119:=k16 x (s38 x) 285 (s42 x) 286
def o120:=k0 x 
def o121:=k17 x (s37 x) (s43 x) (sm x 11 0) (sm x 11 0)
def o122:=k5 x (s37 x) 282 (s43 x) 283 284 28 2 75 76 77 78 79 287 288
def o123:=k18 x (s37 x) (s43 x) (sm x 11 0) (sm x 11 0) (s4 x) 225 80
def o124:=k3 x (s42 x) 290
def o125:=k8 x 277 281 26 280 (s37 x) 289 81 (s34 x) 291 82 292 2
def o126:=k19 x (s41 x) 84 83 68 270 278
def o127:=k10 x 84
def o128:=k11 x 84
def o129:=(M (u1 (l3 x)) (u20 (u21 [(E x (s3 x) 165 (u11 (s4 x) 225)),(E x (s5 x) 166 u8),(E x (s6 x) 167 u8),(E x (s7 x) 168 (u25 (l4 x))),(E x (s8 x) 169 u8),(E x (s9 x) 170 (u13 6)),(E x (s10 x) 171 (u13 4)),(E x (s11 x) 173 (u11 (s1 x) 172)),(E x (s12 x) 174 u8),(E x (s13 x) 193 (u13 21)),(E x (s14 x) 195 (u12 18446744073709551615 194)),(E x (s15 x) 197 (u12 40 196)),(E x (s16 x) 199 (u12 20 198)),(E x (s17 x) 201 (u12 1000000000 200)),(E x (s18 x) 210 (u13 28)),(E x (s19 x) 224 (u13 35)),(E x (s20 x) 244 (u13 45)),(E x (s36 x) 269 (u13 65)),(E x (s41 x) 294 (u13 84)),(E x (s44 x) 319 (u13 103))]) 20))
def o130 (x:X):Obj:=(M u8 (u9 (u4 [(u12 1 0),(u12 0 0),(u13 20),(u12 9 0),(u12 0 0),(u13 27),(u12 11 0),(u12 0 0),(u13 34),(u12 20 0),(u12 0 0),(u13 41),(u12 22 0),(u12 0 0),(u13 54),(u12 26 0),(u12 0 0),(u13 73),(u12 30 0),(u12 0 0),(u13 92)])))
def o131:=(u0 (u1 (l9 x)) u2 (u32 (u33 (s20 x) [(u1 (l6 x))] [(u13 45),(u1 (l6 x)),(u1 (l10 x)),(u1 (l11 x)),(u1 (l12 x))] 44 (s20 x) u31 u34 [(u13 65),(u13 84),(u13 103)] u15 u35 u15)) (u6 [(u18 (u13 36)),u19,(u18 (u11 (s20 x) 227)),(u18 (u11 (s20 x) 235)),(u18 (u25 (l13 x))),(u18 (u14 u31))]))
def o132:=k13 x 45
def o133:=k7 x 
def o134:=k14 x 302 304 (s44 x) 303 306 30 305 314 100 316 101
def o135:=k0 x 
def o136:=k15 x 32 99
def o137:=k1 x (s44 x) 297 298 299 30 90 91 300 301
def o138:=k2 x 92 89 (s4 x) 225
def o139:=k0 x 
def o140 (x:X):Obj:=(M u8 (u9 (u4 u5)))
def o141:=k16 x (s38 x) 310 (s28 x) 311
def o142:=k0 x 
def o143:=k17 x (s37 x) (s45 x) (sm x 12 0) (sm x 12 0)
def o144:=k5 x (s37 x) 307 (s45 x) 308 309 32 2 94 95 96 97 98 312 313
def o145:=k18 x (s37 x) (s45 x) (sm x 12 0) (sm x 12 0) (s4 x) 225 99
def o146:=k3 x (s28 x) 315
def o147:=k8 x 302 306 30 305 (s37 x) 314 100 (s34 x) 316 101 317 2
def o148:=k19 x (s44 x) 103 102 87 295 303
def o149:=k10 x 103
def o150:=k11 x 103
def o151:=(M (u1 (l3 x)) (u20 (u21 [(E x (s3 x) 165 (u11 (s4 x) 225)),(E x (s5 x) 166 u8),(E x (s6 x) 167 u8),(E x (s7 x) 168 (u25 (l4 x))),(E x (s8 x) 169 u8),(E x (s9 x) 170 (u13 6)),(E x (s10 x) 171 (u13 4)),(E x (s11 x) 173 (u11 (s1 x) 172)),(E x (s12 x) 174 u8),(E x (s13 x) 193 (u13 21)),(E x (s14 x) 195 (u12 18446744073709551615 194)),(E x (s15 x) 197 (u12 40 196)),(E x (s16 x) 199 (u12 20 198)),(E x (s17 x) 201 (u12 1000000000 200)),(E x (s18 x) 210 (u13 28)),(E x (s19 x) 224 (u13 35)),(E x (s20 x) 244 (u13 45)),(E x (s36 x) 269 (u13 65)),(E x (s41 x) 294 (u13 84)),(E x (s44 x) 319 (u13 103)),(E x (s46 x) 344 (u13 122))]) 21))
def o152 (x:X):Obj:=(M u8 (u9 (u4 [(u12 1 0),(u12 0 0),(u13 20),(u12 9 0),(u12 0 0),(u13 27),(u12 11 0),(u12 0 0),(u13 34),(u12 20 0),(u12 0 0),(u13 41),(u12 22 0),(u12 0 0),(u13 54),(u12 26 0),(u12 0 0),(u13 73),(u12 30 0),(u12 0 0),(u13 92),(u12 34 0),(u12 0 0),(u13 111)])))
def o153:=(u0 (u1 (l9 x)) u2 (u32 (u33 (s20 x) [(u1 (l6 x))] [(u13 45),(u1 (l6 x)),(u1 (l10 x)),(u1 (l11 x)),(u1 (l12 x))] 44 (s20 x) u31 u34 [(u13 65),(u13 84),(u13 103),(u13 122)] u15 u35 u15)) (u6 [(u18 (u13 36)),u19,(u18 (u11 (s20 x) 227)),(u18 (u11 (s20 x) 235)),(u18 (u25 (l13 x))),(u18 (u14 u31))]))
def o154:=k13 x 45
def o155:=k7 x 
def o156:=k14 x 327 329 (s46 x) 328 331 34 330 339 119 341 120
def o157:=k0 x 
def o158:=k15 x 36 118
def o159:=k1 x (s46 x) 322 323 324 34 109 110 325 326
def o160:=k2 x 111 108 (s4 x) 225
def o161:=k0 x 
def o162 (x:X):Obj:=(M u8 (u9 (u4 u5)))
def o163:=k16 x (s38 x) 335 (s29 x) 336
def o164:=k0 x 
def o165:=k17 x (s37 x) (s47 x) (sm x 13 0) (sm x 13 0)
def o166:=k5 x (s37 x) 332 (s47 x) 333 334 36 2 113 114 115 116 117 337 338
def o167:=k18 x (s37 x) (s47 x) (sm x 13 0) (sm x 13 0) (s4 x) 225 118
def o168:=k3 x (s29 x) 340
def o169:=k8 x 327 331 34 330 (s37 x) 339 119 (s34 x) 341 120 342 2
def o170:=k19 x (s46 x) 122 121 106 320 328
def o171:=k10 x 122
def o172:=k11 x 122
def o173:=(M (u1 (l3 x)) (u20 (u21 [(E x (s3 x) 165 (u11 (s4 x) 225)),(E x (s5 x) 166 u8),(E x (s6 x) 167 u8),(E x (s7 x) 168 (u25 (l4 x))),(E x (s8 x) 169 u8),(E x (s9 x) 170 (u13 6)),(E x (s10 x) 171 (u13 4)),(E x (s11 x) 173 (u11 (s1 x) 172)),(E x (s12 x) 174 u8),(E x (s13 x) 193 (u13 21)),(E x (s14 x) 195 (u12 18446744073709551615 194)),(E x (s15 x) 197 (u12 40 196)),(E x (s16 x) 199 (u12 20 198)),(E x (s17 x) 201 (u12 1000000000 200)),(E x (s18 x) 210 (u13 28)),(E x (s19 x) 224 (u13 35)),(E x (s20 x) 244 (u13 45)),(E x (s36 x) 269 (u13 65)),(E x (s41 x) 294 (u13 84)),(E x (s44 x) 319 (u13 103)),(E x (s46 x) 344 (u13 122)),(E x (s48 x) 369 (u13 141))]) 22))
def o174 (x:X):Obj:=(M u8 (u9 (u4 [(u12 1 0),(u12 0 0),(u13 20),(u12 9 0),(u12 0 0),(u13 27),(u12 11 0),(u12 0 0),(u13 34),(u12 20 0),(u12 0 0),(u13 41),(u12 22 0),(u12 0 0),(u13 54),(u12 26 0),(u12 0 0),(u13 73),(u12 30 0),(u12 0 0),(u13 92),(u12 34 0),(u12 0 0),(u13 111),(u12 38 0),(u12 0 0),(u13 130)])))
def o175:=(u0 (u1 (l9 x)) u2 (u32 (u33 (s20 x) [(u1 (l6 x))] [(u13 45),(u1 (l6 x)),(u1 (l10 x)),(u1 (l11 x)),(u1 (l12 x))] 44 (s20 x) u31 u34 [(u13 65),(u13 84),(u13 103),(u13 122),(u13 141)] u15 u35 u15)) (u6 [(u18 (u13 36)),u19,(u18 (u11 (s20 x) 227)),(u18 (u11 (s20 x) 235)),(u18 (u25 (l13 x))),(u18 (u14 u31))]))
def o176:=k13 x 45
def o177:=k7 x 
def o178:=k14 x 352 354 (s48 x) 353 356 38 355 364 138 366 139
def o179:=k0 x 
def o180:=k15 x 40 137
def o181:=k1 x (s48 x) 347 348 349 38 128 129 350 351
def o182:=k2 x 130 127 (s4 x) 225
def o183:=k0 x 
def o184 (x:X):Obj:=(M u8 (u9 (u4 u5)))
def o185:=k16 x (s38 x) 360 (s25 x) 361
def o186:=k0 x 
def o187:=k17 x (s37 x) (s49 x) (sm x 14 0) (sm x 14 0)
def o188:=k5 x (s37 x) 357 (s49 x) 358 359 40 2 132 133 134 135 136 362 363
def o189:=k18 x (s37 x) (s49 x) (sm x 14 0) (sm x 14 0) (s4 x) 225 137
def o190:=k3 x (s25 x) 365
def o191:=k8 x 352 356 38 355 (s37 x) 364 138 (s34 x) 366 139 367 2
def o192:=k19 x (s48 x) 141 140 125 345 353
def o193:=k10 x 141
def o194:=k11 x 141
def o195:=(M (u1 (l3 x)) (u20 (u21 [(E x (s3 x) 165 (u11 (s4 x) 225)),(E x (s5 x) 166 u8),(E x (s6 x) 167 u8),(E x (s7 x) 168 (u25 (l4 x))),(E x (s8 x) 169 u8),(E x (s9 x) 170 (u13 6)),(E x (s10 x) 171 (u13 4)),(E x (s11 x) 173 (u11 (s1 x) 172)),(E x (s12 x) 174 u8),(E x (s13 x) 193 (u13 21)),(E x (s14 x) 195 (u12 18446744073709551615 194)),(E x (s15 x) 197 (u12 40 196)),(E x (s16 x) 199 (u12 20 198)),(E x (s17 x) 201 (u12 1000000000 200)),(E x (s18 x) 210 (u13 28)),(E x (s19 x) 224 (u13 35)),(E x (s20 x) 244 (u13 45)),(E x (s36 x) 269 (u13 65)),(E x (s41 x) 294 (u13 84)),(E x (s44 x) 319 (u13 103)),(E x (s46 x) 344 (u13 122)),(E x (s48 x) 369 (u13 141)),(E x (s50 x) 396 (u13 160))]) 23))
def o196 (x:X):Obj:=(M u8 (u9 (u4 [(u12 1 0),(u12 0 0),(u13 20),(u12 9 0),(u12 0 0),(u13 27),(u12 11 0),(u12 0 0),(u13 34),(u12 20 0),(u12 0 0),(u13 41),(u12 22 0),(u12 0 0),(u13 54),(u12 26 0),(u12 0 0),(u13 73),(u12 30 0),(u12 0 0),(u13 92),(u12 34 0),(u12 0 0),(u13 111),(u12 38 0),(u12 0 0),(u13 130),(u12 42 0),(u12 0 0),(u13 149)])))
def o197:=(u0 (u1 (l9 x)) u2 (u32 (u33 (s20 x) [(u1 (l6 x))] [(u13 45),(u1 (l6 x)),(u1 (l10 x)),(u1 (l11 x)),(u1 (l12 x))] 44 (s20 x) u31 u34 [(u13 65),(u13 84),(u13 103),(u13 122),(u13 141),(u13 160)] u15 u35 u15)) (u6 [(u18 (u13 36)),u19,(u18 (u11 (s20 x) 227)),(u18 (u11 (s20 x) 235)),(u18 (u25 (l13 x))),(u18 (u14 u31))]))
def o198:=k13 x 45
def o199:=k7 x 
def o200:=k14 x 377 379 (s50 x) 378 381 42 380 390 157 393 158
def o201:=k0 x 
def o202:=k15 x 44 156
def o203:=k1 x (s50 x) 372 373 374 42 147 148 375 376
def o204:=k2 x 149 146 (s4 x) 225
def o205:=k0 x 
def o206 (x:X):Obj:=(M u8 (u9 (u4 u5)))
def o207:=k20 x (s38 x) 385 (s51 x) 386 (s25 x) 387
def o208:=k0 x 
def o209:=k17 x (s37 x) (s52 x) (sm x 15 0) (sm x 15 0)
def o210:=k5 x (s37 x) 382 (s52 x) 383 384 44 3 151 152 153 154 155 388 389
def o211:=k18 x (s37 x) (s52 x) (sm x 15 0) (sm x 15 0) (s4 x) 225 156
def o212:=k16 x (s51 x) 391 (s25 x) 392
def o213:=k8 x 377 381 42 380 (s37 x) 390 157 (s34 x) 393 158 394 2
def o214:=k19 x (s50 x) 160 159 144 370 378
def o215:=k10 x 160
def o216:=k11 x 160
def o217:=(M (u1 (l3 x)) (u20 (u21 [(E x (s3 x) 165 (u11 (s53 x) 422)),(E x (s5 x) 166 u8),(E x (s6 x) 167 u8),(E x (s7 x) 168 (u25 (l4 x))),(E x (s8 x) 169 u8),(E x (s9 x) 170 (u13 6)),(E x (s10 x) 171 (u13 4)),(E x (s11 x) 173 (u11 (s1 x) 172)),(E x (s12 x) 174 u8),(E x (s13 x) 193 (u13 21)),(E x (s14 x) 195 (u12 18446744073709551615 194)),(E x (s15 x) 197 (u12 40 196)),(E x (s16 x) 199 (u12 20 198)),(E x (s17 x) 201 (u12 1000000000 200)),(E x (s18 x) 210 (u13 28)),(E x (s19 x) 224 (u13 35)),(E x (s20 x) 244 (u13 45)),(E x (s36 x) 269 (u13 65)),(E x (s41 x) 294 (u13 84)),(E x (s44 x) 319 (u13 103)),(E x (s46 x) 344 (u13 122)),(E x (s48 x) 369 (u13 141)),(E x (s50 x) 396 (u13 160)),(E x (s54 x) 421 (u13 179))]) 24))
def o218 (x:X):Obj:=(M u8 (u9 (u4 [(u12 1 0),(u12 0 0),(u13 20),(u12 9 0),(u12 0 0),(u13 27),(u12 11 0),(u12 0 0),(u13 34),(u12 20 0),(u12 0 0),(u13 41),(u12 22 0),(u12 0 0),(u13 54),(u12 26 0),(u12 0 0),(u13 73),(u12 30 0),(u12 0 0),(u13 92),(u12 34 0),(u12 0 0),(u13 111),(u12 38 0),(u12 0 0),(u13 130),(u12 42 0),(u12 0 0),(u13 149),(u12 47 0),(u12 0 0),(u13 168)])))
def o219:=(u0 (u1 (l9 x)) u2 (u32 (u33 (s20 x) [(u1 (l6 x))] [(u13 45),(u1 (l6 x)),(u1 (l10 x)),(u1 (l11 x)),(u1 (l12 x))] 44 (s20 x) u31 u34 [(u13 65),(u13 84),(u13 103),(u13 122),(u13 141),(u13 160),(u13 179)] u15 u35 u15)) (u6 [(u18 (u13 36)),u19,(u18 (u11 (s20 x) 227)),(u18 (u11 (s20 x) 235)),(u18 (u25 (l13 x))),(u18 (u14 u31))]))
def o220:=k13 x 45
def o221:=k7 x 
def o222:=k14 x 404 406 (s54 x) 405 408 47 407 416 176 418 177
def o223:=k0 x 
def o224:=k15 x 49 175
def o225:=k1 x (s54 x) 399 400 401 47 166 167 402 403
def o226:=k2 x 168 165 (s4 x) 225
def o227:=k0 x 
def o228 (x:X):Obj:=(M u8 (u9 (u4 u5)))
def o229:=k16 x (s38 x) 412 (s55 x) 413
def o230:=k0 x 
def o231:=k17 x (s37 x) (s56 x) (sm x 16 0) (sm x 16 0)
def o232:=k5 x (s37 x) 409 (s56 x) 410 411 49 2 170 171 172 173 174 414 415
def o233:=k18 x (s37 x) (s56 x) (sm x 16 0) (sm x 16 0) (s4 x) 225 175
def o234:=k3 x (s55 x) 417
def o235:=k8 x 404 408 47 407 (s37 x) 416 176 (s34 x) 418 177 419 2
def o236:=k19 x (s54 x) 179 178 163 397 405
def o237:=k10 x 179
def o238:=k11 x 179
def o239:=(M (u1 (l3 x)) (u20 (u21 [(E x (s3 x) 165 (u11 (s53 x) 422)),(E x (s5 x) 166 u8),(E x (s6 x) 167 u8),(E x (s7 x) 168 (u25 (l4 x))),(E x (s8 x) 169 u8),(E x (s9 x) 170 (u13 6)),(E x (s10 x) 171 (u13 4)),(E x (s11 x) 173 (u11 (s1 x) 172)),(E x (s12 x) 174 u8),(E x (s13 x) 193 (u13 21)),(E x (s14 x) 195 (u12 18446744073709551615 194)),(E x (s15 x) 197 (u12 40 196)),(E x (s16 x) 199 (u12 20 198)),(E x (s17 x) 201 (u12 1000000000 200)),(E x (s18 x) 210 (u13 28)),(E x (s19 x) 224 (u13 35)),(E x (s20 x) 244 (u13 45)),(E x (s36 x) 269 (u13 65)),(E x (s41 x) 294 (u13 84)),(E x (s44 x) 319 (u13 103)),(E x (s46 x) 344 (u13 122)),(E x (s48 x) 369 (u13 141)),(E x (s50 x) 396 (u13 160)),(E x (s54 x) 421 (u13 179)),(E x (s57 x) 476 (u13 217))]) 25))
def o240 (x:X):Obj:=(M u8 (u9 (u4 [(u12 1 0),(u12 0 0),(u13 20),(u12 9 0),(u12 0 0),(u13 27),(u12 11 0),(u12 0 0),(u13 34),(u12 20 0),(u12 0 0),(u13 41),(u12 22 0),(u12 0 0),(u13 54),(u12 26 0),(u12 0 0),(u13 73),(u12 30 0),(u12 0 0),(u13 92),(u12 34 0),(u12 0 0),(u13 111),(u12 38 0),(u12 0 0),(u13 130),(u12 42 0),(u12 0 0),(u13 149),(u12 47 0),(u12 0 0),(u13 168),(u12 52 0),(u12 0 0),(u13 187)])))
def o241:=k0 x 
def o242:=k7 x 
def o243:=(M (u1 (l3 x)) (u20 (u21 [(E x (s31 x) 431 (u11 (s53 x) 422)),(E x (s32 x) 433 (u11 (s57 x) 432)),(E x (s33 x) 435 (u12 52 434)),(E x (s37 x) 441 (u13 193)),(E x (s58 x) 448 (u13 200)),(E x (s59 x) 455 (u13 207)),(E x (s60 x) 464 (u13 214)),(E x (s34 x) 469 (u13 215))]) 8))
def o244:=k0 x 
def o245 (x:X):Obj:=(M u8 (u9 (u4 [(u12 54 0),(u12 4 0),(u13 192),(u12 61 0),(u12 4 0),(u13 199),(u12 64 0),(u12 4 0),(u13 206),(u12 67 0),(u12 4 0),(u13 213)])))
def o246:=k1 x (s57 x) 426 427 428 52 185 186 429 430
def o247:=k2 x 187 184 (s53 x) 422
def o248:=k0 x 
def o249 (x:X):Obj:=(M u8 (u9 (u4 u5)))
def o250:=k17 x (s37 x) (s61 x) (sm x 18 0) (sm x 18 0)
def o251:=k21 x (s37 x) 436 (s61 x) 437 438 54 5 189 190 191 439 440
def o252:=k18 x (s37 x) (s61 x) (sm x 18 0) (sm x 18 0) (s53 x) 422 192
def o253:=k0 x 
def o254 (x:X):Obj:=(M u8 (u9 (u4 u5)))
def o255:=k3 x (s38 x) 445
def o256:=k0 x 
def o257:=k17 x (s58 x) (s62 x) (sm x 18 1) (sm x 18 1)
def o258:=k5 x (s58 x) 442 (s62 x) 443 444 61 1 194 195 196 197 198 446 447
def o259:=k18 x (s58 x) (s62 x) (sm x 18 1) (sm x 18 1) (s53 x) 422 199
def o260:=k0 x 
def o261 (x:X):Obj:=(M u8 (u9 (u4 u5)))
def o262:=k3 x (s38 x) 452
def o263:=k0 x 
def o264:=k17 x (s59 x) (s63 x) (sm x 18 2) (sm x 18 2)
def o265:=k5 x (s59 x) 449 (s63 x) 450 451 64 1 201 202 203 204 205 453 454
def o266:=k18 x (s59 x) (s63 x) (sm x 18 2) (sm x 18 2) (s53 x) 422 206
def o267:=k0 x 
def o268 (x:X):Obj:=(M u8 (u9 (u4 u5)))
def o269:=k20 x (s38 x) 459 (s64 x) 460 (s65 x) 461
def o270:=k0 x 
def o271:=k17 x (s60 x) (s66 x) (sm x 18 3) (sm x 18 3)
def o272:=k5 x (s60 x) 456 (s66 x) 457 458 67 3 208 209 210 211 212 462 463
def o273:=k18 x (s60 x) (s66 x) (sm x 18 3) (sm x 18 3) (s53 x) 422 213
def o274:=k22 x (s30 x) 465 (s25 x) 466 (s67 x) 467 (s26 x) 468
def o275:=(M (u1 (l3 x)) (u20 (u21 [(E x (s31 x) 431 (u11 (s53 x) 422)),(E x (s33 x) 435 (u12 52 434)),(E x (s37 x) 441 (u13 193)),(E x (s58 x) 448 (u13 200)),(E x (s59 x) 455 (u13 207)),(E x (s60 x) 464 (u13 214)),(E x (s34 x) 469 (u13 215)),(E x (s68 x) 471 (u13 218)),(E x (s35 x) 473 (u13 219)),(E x (s5 x) 474 u8)]) 4))
def o276:=(u0 (u1 (l9 x)) u2 (u32 (u33 (s57 x) [(u1 (l12 x))] [(u13 217),(u1 (l12 x))] 216 (s57 x) u31 u34 u5 u15 u35 u15)) (u6 [u19,u19,(u18 (u11 (s57 x) 424)),(u18 (u11 (s57 x) 432)),(u18 (u25 (l18 x))),(u18 (u14 u31))]))
def o277:=(M (u1 (l14 x)) (u9 (u4 [(u11 (s68 x) 470),(u13 217),(u25 (l19 x)),(u25 (l20 x))])))
def o278:=k9 x 472 217
def o279:=k10 x 217
def o280:=k11 x 217
def o281:=(M (u1 (l3 x)) (u20 (u21 [(E x (s3 x) 165 (u11 (s53 x) 422)),(E x (s5 x) 166 u8),(E x (s6 x) 167 u8),(E x (s7 x) 168 (u25 (l4 x))),(E x (s8 x) 169 u8),(E x (s9 x) 170 (u13 6)),(E x (s10 x) 171 (u13 4)),(E x (s11 x) 173 (u11 (s1 x) 172)),(E x (s12 x) 174 u8),(E x (s13 x) 193 (u13 21)),(E x (s14 x) 195 (u12 18446744073709551615 194)),(E x (s15 x) 197 (u12 40 196)),(E x (s16 x) 199 (u12 20 198)),(E x (s17 x) 201 (u12 1000000000 200)),(E x (s18 x) 210 (u13 28)),(E x (s19 x) 224 (u13 35)),(E x (s20 x) 244 (u13 45)),(E x (s36 x) 269 (u13 65)),(E x (s41 x) 294 (u13 84)),(E x (s44 x) 319 (u13 103)),(E x (s46 x) 344 (u13 122)),(E x (s48 x) 369 (u13 141)),(E x (s50 x) 396 (u13 160)),(E x (s54 x) 421 (u13 179)),(E x (s57 x) 476 (u13 217)),(E x (s69 x) 530 (u13 265))]) 26))
def o282 (x:X):Obj:=(M u8 (u9 (u4 [(u12 1 0),(u12 0 0),(u13 20),(u12 9 0),(u12 0 0),(u13 27),(u12 11 0),(u12 0 0),(u13 34),(u12 20 0),(u12 0 0),(u13 41),(u12 22 0),(u12 0 0),(u13 54),(u12 26 0),(u12 0 0),(u13 73),(u12 30 0),(u12 0 0),(u13 92),(u12 34 0),(u12 0 0),(u13 111),(u12 38 0),(u12 0 0),(u13 130),(u12 42 0),(u12 0 0),(u13 149),(u12 47 0),(u12 0 0),(u13 168),(u12 52 0),(u12 0 0),(u13 187),(u12 69 0),(u12 0 0),(u13 227)])))
def o283:=(u0 (u1 (l9 x)) u2 (u32 (u33 (s57 x) [(u1 (l12 x))] [(u13 217),(u1 (l12 x))] 216 (s57 x) u31 u34 [(u13 265)] u15 u35 u15)) (u6 [u19,u19,(u18 (u11 (s57 x) 424)),(u18 (u11 (s57 x) 432)),(u18 (u25 (l18 x))),(u18 (u14 u31))]))
def o284:=k13 x 217
def o285:=k7 x 
def o286:=(M (u1 (l3 x)) (u20 (u21 [(E x (s31 x) 484 (u11 (s53 x) 422)),(E x (s32 x) 486 (u11 (s69 x) 485)),(E x (s33 x) 488 (u12 69 487)),(E x (s37 x) 498 (u13 236)),(E x (s24 x) 505 (u13 243)),(E x (s70 x) 512 (u13 250)),(E x (s71 x) 518 (u13 255)),(E x (s72 x) 526 (u13 262)),(E x (s34 x) 527 (u13 263))]) 9))
def o287:=k0 x 
def o288:=k12 x 71 4 235 74 242 77 249 80 254 83 261
def o289:=k1 x (s69 x) 479 480 481 69 225 226 482 483
def o290:=k2 x 227 224 (s53 x) 422
def o291:=(M (u1 (l0 x)) (u3 (u4 [u8]) 0))
def o292:=k0 x 
def o293 (x:X):Obj:=(M u8 (u9 (u4 u5)))
def o294:=k22 x (s38 x) 492 (s25 x) 493 (s26 x) 494 (s30 x) 495
def o295:=k0 x 
def o296:=k17 x (s37 x) (s73 x) (sm x 19 0) (sm x 19 0)
def o297:=k5 x (s37 x) 489 (s73 x) 490 491 71 4 230 231 232 233 234 496 497
def o298:=(M (u1 (l5 x)) (u27 (u28 (s37 x) (s73 x) (f1 (sm x 19 0)) (u29 (f2 (sm x 19 0))) (f6 (sm x 19 0)) 3 u30 (u13 229) u8 u8 (u11 (s53 x) 422) u2 (u13 235) u8 0)))
def o299:=k0 x 
def o300 (x:X):Obj:=(M u8 (u9 (u4 u5)))
def o301:=k3 x (s38 x) 502
def o302:=k0 x 
def o303:=k17 x (s24 x) (s74 x) (sm x 19 1) (sm x 18 2)
def o304:=k5 x (s24 x) 499 (s74 x) 500 501 74 1 237 238 239 240 241 503 504
def o305:=k18 x (s24 x) (s74 x) (sm x 19 1) (sm x 18 2) (s53 x) 422 242
def o306:=k0 x 
def o307 (x:X):Obj:=(M u8 (u9 (u4 u5)))
def o308:=k3 x (s38 x) 509
def o309:=k0 x 
def o310:=k17 x (s70 x) (s75 x) (sm x 19 2) (sm x 18 2)
def o311:=k5 x (s70 x) 506 (s75 x) 507 508 77 1 244 245 246 247 248 510 511
def o312:=k18 x (s70 x) (s75 x) (sm x 19 2) (sm x 18 2) (s53 x) 422 249
def o313:=k0 x 
def o314 (x:X):Obj:=(M u8 (u9 (u4 u5)))
def o315:=k17 x (s71 x) (s76 x) (sm x 19 3) (sm x 19 3)
def o316:=k21 x (s71 x) 513 (s76 x) 514 515 80 2 251 252 253 516 517
def o317:=k18 x (s71 x) (s76 x) (sm x 19 3) (sm x 19 3) (s53 x) 422 254
def o318:=k0 x 
def o319 (x:X):Obj:=(M u8 (u9 (u4 u5)))
def o320:=k16 x (s38 x) 522 (s26 x) 523
def o321:=k0 x 
def o322:=k17 x (s72 x) (s77 x) (sm x 19 4) (sm x 19 4)
def o323:=k5 x (s72 x) 519 (s77 x) 520 521 83 2 256 257 258 259 260 524 525
def o324:=k18 x (s72 x) (s77 x) (sm x 19 4) (sm x 19 4) (s53 x) 422 261
def o325:=k0 x 
def o326:=(M (u1 (l3 x)) (u20 (u21 [(E x (s31 x) 484 (u11 (s53 x) 422)),(E x (s33 x) 488 (u12 69 487)),(E x (s37 x) 498 (u13 236)),(E x (s24 x) 505 (u13 243)),(E x (s70 x) 512 (u13 250)),(E x (s71 x) 518 (u13 255)),(E x (s72 x) 526 (u13 262)),(E x (s34 x) 527 (u13 263)),(E x (s5 x) 528 u8)]) 2))
def o327:=(u0 (u1 (l9 x)) u2 (u32 (u33 (s69 x) [(u13 217)] [(u13 265),(u13 217),(u1 (l12 x))] 264 (s69 x) u31 u34 u5 u15 u35 u15)) (u6 [(u18 (u13 222)),u19,(u18 (u11 (s69 x) 477)),(u18 (u11 (s69 x) 485)),(u18 (u25 (l18 x))),(u18 (u14 u31))]))
def o328:=k10 x 265
def o329:=k11 x 265
def o330:=(M (u1 (l3 x)) (u20 (u21 [(E x (s3 x) 165 (u11 (s53 x) 422)),(E x (s5 x) 166 u8),(E x (s6 x) 167 u8),(E x (s7 x) 168 (u25 (l4 x))),(E x (s8 x) 169 u8),(E x (s9 x) 170 (u13 6)),(E x (s10 x) 171 (u13 4)),(E x (s11 x) 173 (u11 (s1 x) 172)),(E x (s12 x) 174 u8),(E x (s13 x) 193 (u13 21)),(E x (s14 x) 195 (u12 18446744073709551615 194)),(E x (s15 x) 197 (u12 40 196)),(E x (s16 x) 199 (u12 20 198)),(E x (s17 x) 201 (u12 1000000000 200)),(E x (s18 x) 210 (u13 28)),(E x (s19 x) 224 (u13 35)),(E x (s20 x) 244 (u13 45)),(E x (s36 x) 269 (u13 65)),(E x (s41 x) 294 (u13 84)),(E x (s44 x) 319 (u13 103)),(E x (s46 x) 344 (u13 122)),(E x (s48 x) 369 (u13 141)),(E x (s50 x) 396 (u13 160)),(E x (s54 x) 421 (u13 179)),(E x (s57 x) 476 (u13 217)),(E x (s69 x) 530 (u13 265)),(E x (s78 x) 591 (u13 313))]) 27))
def o331 (x:X):Obj:=(M u8 (u9 (u4 (u10 (u12 1 0) (u10 (u12 0 0) [(u13 20),(u12 9 0),(u12 0 0),(u13 27),(u12 11 0),(u12 0 0),(u13 34),(u12 20 0),(u12 0 0),(u13 41),(u12 22 0),(u12 0 0),(u13 54),(u12 26 0),(u12 0 0),(u13 73),(u12 30 0),(u12 0 0),(u13 92),(u12 34 0),(u12 0 0),(u13 111),(u12 38 0),(u12 0 0),(u13 130),(u12 42 0),(u12 0 0),(u13 149),(u12 47 0),(u12 0 0),(u13 168),(u12 52 0),(u12 0 0),(u13 187),(u12 69 0),(u12 0 0),(u13 227),(u12 85 0),(u12 0 0),(u13 273)])))))
def o332:=(u0 (u1 (l9 x)) u2 (u32 (u33 (s57 x) [(u1 (l12 x))] [(u13 217),(u1 (l12 x))] 216 (s57 x) u31 u34 [(u13 265),(u13 313)] u15 u35 u15)) (u6 [u19,u19,(u18 (u11 (s57 x) 424)),(u18 (u11 (s57 x) 432)),(u18 (u25 (l18 x))),(u18 (u14 u31))]))
def o333:=k13 x 217
def o334:=k7 x 
def o335:=(M (u1 (l3 x)) (u20 (u21 [(E x (s31 x) 538 (u11 (s53 x) 422)),(E x (s32 x) 540 (u11 (s78 x) 539)),(E x (s33 x) 542 (u12 85 541)),(E x (s37 x) 553 (u13 282)),(E x (s24 x) 560 (u13 289)),(E x (s70 x) 567 (u13 296)),(E x (s71 x) 578 (u13 303)),(E x (s72 x) 586 (u13 310)),(E x (s34 x) 588 (u13 311))]) 9))
def o336:=k0 x 
def o337:=k12 x 87 4 281 91 288 94 295 97 302 103 309
def o338:=k1 x (s78 x) 533 534 535 85 271 272 536 537
def o339:=k2 x 273 270 (s53 x) 422
def o340:=(M (u1 (l0 x)) (u3 (u4 [u8]) 0))
def o341:=k0 x 
def o342 (x:X):Obj:=(M u8 (u9 (u4 u5)))
def o343:=k23 x 546 (s51 x) 547 (s25 x) 548 (s26 x) 549 (s30 x) 550
def o344:=k0 x 
def o345:=k17 x (s37 x) (s79 x) (sm x 20 0) (sm x 20 0)
def o346:=k5 x (s37 x) 543 (s79 x) 544 545 87 5 276 277 278 279 280 551 552
def o347:=(M (u1 (l5 x)) (u27 (u28 (s37 x) (s79 x) (f1 (sm x 20 0)) (u29 (f2 (sm x 20 0))) (f6 (sm x 20 0)) 3 u30 (u13 275) u8 u8 (u11 (s53 x) 422) u2 (u13 281) u8 0)))
def o348:=k0 x 
def o349 (x:X):Obj:=(M u8 (u9 (u4 u5)))
def o350:=k3 x (s38 x) 557
def o351:=k0 x 
def o352:=k17 x (s24 x) (s80 x) (sm x 20 1) (sm x 18 2)
def o353:=k5 x (s24 x) 554 (s80 x) 555 556 91 1 283 284 285 286 287 558 559
def o354:=k18 x (s24 x) (s80 x) (sm x 20 1) (sm x 18 2) (s53 x) 422 288
def o355:=k0 x 
def o356 (x:X):Obj:=(M u8 (u9 (u4 u5)))
def o357:=k3 x (s38 x) 564
def o358:=k0 x 
def o359:=k17 x (s70 x) (s81 x) (sm x 20 2) (sm x 18 2)
def o360:=k5 x (s70 x) 561 (s81 x) 562 563 94 1 290 291 292 293 294 565 566
def o361:=k18 x (s70 x) (s81 x) (sm x 20 2) (sm x 18 2) (s53 x) 422 295
def o362:=k0 x 
def o363 (x:X):Obj:=(M u8 (u9 (u4 u5)))
def o364:=k23 x 571 (s82 x) 572 (s83 x) 573 (s28 x) 574 (s29 x) 575
def o365:=k0 x 
def o366:=k17 x (s71 x) (s84 x) (sm x 20 3) (sm x 20 3)
def o367:=k5 x (s71 x) 568 (s84 x) 569 570 97 2 297 298 299 300 301 576 577
def o368:=k18 x (s71 x) (s84 x) (sm x 20 3) (sm x 20 3) (s53 x) 422 302
def o369:=k0 x 
def o370 (x:X):Obj:=(M u8 (u9 (u4 u5)))
def o371:=k16 x (s38 x) 582 (s26 x) 583
def o372:=k0 x 
def o373:=k17 x (s72 x) (s85 x) (sm x 20 4) (sm x 19 4)
def o374:=k5 x (s72 x) 579 (s85 x) 580 581 103 2 304 305 306 307 308 584 585
def o375:=k18 x (s72 x) (s85 x) (sm x 20 4) (sm x 19 4) (s53 x) 422 309
def o376:=k3 x (s51 x) 587
def o377:=(M (u1 (l3 x)) (u20 (u21 [(E x (s31 x) 538 (u11 (s53 x) 422)),(E x (s33 x) 542 (u12 85 541)),(E x (s37 x) 553 (u13 282)),(E x (s24 x) 560 (u13 289)),(E x (s70 x) 567 (u13 296)),(E x (s71 x) 578 (u13 303)),(E x (s72 x) 586 (u13 310)),(E x (s34 x) 588 (u13 311)),(E x (s5 x) 589 u8)]) 2))
def o378:=(u0 (u1 (l9 x)) u2 (u32 (u33 (s78 x) [(u13 217)] [(u13 313),(u13 217),(u1 (l12 x))] 312 (s78 x) u31 u34 u5 u15 u35 u15)) (u6 [(u18 (u13 268)),u19,(u18 (u11 (s78 x) 531)),(u18 (u11 (s78 x) 539)),(u18 (u25 (l18 x))),(u18 (u14 u31))]))
def o379:=k10 x 313
def o380:=k11 x 313
def o381:=(M (u1 (l3 x)) (u20 (u21 [(E x (s3 x) 165 (u11 (s86 x) 606)),(E x (s5 x) 166 u8),(E x (s6 x) 167 u8),(E x (s7 x) 168 (u25 (l4 x))),(E x (s8 x) 169 u8),(E x (s9 x) 170 (u13 6)),(E x (s10 x) 171 (u13 4)),(E x (s11 x) 173 (u11 (s1 x) 172)),(E x (s12 x) 174 u8),(E x (s13 x) 193 (u13 21)),(E x (s14 x) 195 (u12 18446744073709551615 194)),(E x (s15 x) 197 (u12 40 196)),(E x (s16 x) 199 (u12 20 198)),(E x (s17 x) 201 (u12 1000000000 200)),(E x (s18 x) 210 (u13 28)),(E x (s19 x) 224 (u13 35)),(E x (s20 x) 244 (u13 45)),(E x (s36 x) 269 (u13 65)),(E x (s41 x) 294 (u13 84)),(E x (s44 x) 319 (u13 103)),(E x (s46 x) 344 (u13 122)),(E x (s48 x) 369 (u13 141)),(E x (s50 x) 396 (u13 160)),(E x (s54 x) 421 (u13 179)),(E x (s57 x) 476 (u13 217)),(E x (s69 x) 530 (u13 265)),(E x (s78 x) 591 (u13 313)),(E x (s87 x) 599 (u13 322)),(E x (s88 x) 605 (u13 327))]) 29))
def o382 (x:X):Obj:=(M u8 (u9 (u4 (u10 (u12 1 0) (u10 (u12 0 0) (u10 (u13 20) (u10 (u12 9 0) (u10 (u12 0 0) (u10 (u13 27) (u10 (u12 11 0) (u10 (u12 0 0) [(u13 34),(u12 20 0),(u12 0 0),(u13 41),(u12 22 0),(u12 0 0),(u13 54),(u12 26 0),(u12 0 0),(u13 73),(u12 30 0),(u12 0 0),(u13 92),(u12 34 0),(u12 0 0),(u13 111),(u12 38 0),(u12 0 0),(u13 130),(u12 42 0),(u12 0 0),(u13 149),(u12 47 0),(u12 0 0),(u13 168),(u12 52 0),(u12 0 0),(u13 187),(u12 69 0),(u12 0 0),(u13 227),(u12 85 0),(u12 0 0),(u13 273),(u12 105 0),(u12 0 0),(u13 321),(u12 107 0),(u12 0 0),(u13 326)])))))))))))
def o383:=k0 x 
def o384 (x:X):Obj:=(M u8 (u9 (u4 u5)))
def o385:=k16 x (s89 x) 595 (s25 x) 596
def o386:=k0 x 
def o387:=k4 x (s87 x) (st x 21)
def o388:=k5 x (s87 x) 592 (s87 x) 593 594 105 2 316 317 318 319 320 597 598
def o389:=k6 x (s87 x) (st x 21) (s53 x) 422 321
def o390:=k0 x 
def o391 (x:X):Obj:=(M u8 (u9 (u4 u5)))
def o392:=k4 x (s88 x) (st x 22)
def o393:=k21 x (s88 x) 600 (s88 x) 601 602 107 3 323 324 325 603 604
def o394:=k6 x (s88 x) (st x 22) (s53 x) 422 326
def o395:=(M (u1 (l3 x)) (u20 (u21 [(E x (s3 x) 165 (u11 (s86 x) 606)),(E x (s5 x) 166 u8),(E x (s6 x) 167 u8),(E x (s7 x) 168 (u25 (l4 x))),(E x (s8 x) 169 u8),(E x (s9 x) 170 (u13 6)),(E x (s10 x) 171 (u13 4)),(E x (s11 x) 173 (u11 (s1 x) 172)),(E x (s12 x) 174 u8),(E x (s13 x) 193 (u13 21)),(E x (s14 x) 195 (u12 18446744073709551615 194)),(E x (s15 x) 197 (u12 40 196)),(E x (s16 x) 199 (u12 20 198)),(E x (s17 x) 201 (u12 1000000000 200)),(E x (s18 x) 210 (u13 28)),(E x (s19 x) 224 (u13 35)),(E x (s20 x) 244 (u13 45)),(E x (s36 x) 269 (u13 65)),(E x (s41 x) 294 (u13 84)),(E x (s44 x) 319 (u13 103)),(E x (s46 x) 344 (u13 122)),(E x (s48 x) 369 (u13 141)),(E x (s50 x) 396 (u13 160)),(E x (s54 x) 421 (u13 179)),(E x (s57 x) 476 (u13 217)),(E x (s69 x) 530 (u13 265)),(E x (s78 x) 591 (u13 313)),(E x (s87 x) 599 (u13 322)),(E x (s88 x) 605 (u13 327)),(E x (s90 x) 681 (u13 377))]) 30))
def o396 (x:X):Obj:=(M u8 (u9 (u4 (u10 (u12 1 0) (u10 (u12 0 0) (u10 (u13 20) (u10 (u12 9 0) (u10 (u12 0 0) (u10 (u13 27) (u10 (u12 11 0) (u10 (u12 0 0) (u10 (u13 34) (u10 (u12 20 0) (u10 (u12 0 0) [(u13 41),(u12 22 0),(u12 0 0),(u13 54),(u12 26 0),(u12 0 0),(u13 73),(u12 30 0),(u12 0 0),(u13 92),(u12 34 0),(u12 0 0),(u13 111),(u12 38 0),(u12 0 0),(u13 130),(u12 42 0),(u12 0 0),(u13 149),(u12 47 0),(u12 0 0),(u13 168),(u12 52 0),(u12 0 0),(u13 187),(u12 69 0),(u12 0 0),(u13 227),(u12 85 0),(u12 0 0),(u13 273),(u12 105 0),(u12 0 0),(u13 321),(u12 107 0),(u12 0 0),(u13 326),(u12 114 0),(u12 0 0),(u13 333)]))))))))))))))
def o397:=k0 x 
def o398:=k7 x 
def o399:=(M (u1 (l3 x)) (u20 (u21 [(E x (s31 x) 615 (u11 (s86 x) 606)),(E x (s32 x) 617 (u11 (s90 x) 616)),(E x (s33 x) 619 (u12 114 618)),(E x (s37 x) 627 (u13 341)),(E x (s91 x) 633 (u13 346)),(E x (s82 x) 641 (u13 353)),(E x (s92 x) 652 (u13 360)),(E x (s93 x) 661 (u13 367)),(E x (s94 x) 669 (u13 374)),(E x (s34 x) 674 (u13 375))]) 10))
def o400:=k0 x 
def o401 (x:X):Obj:=(M u8 (u9 (u4 [(u12 116 0),(u12 4 0),(u13 340),(u12 123 0),(u12 4 0),(u13 345),(u12 134 0),(u12 4 0),(u13 352),(u12 138 0),(u12 4 0),(u13 359),(u12 146 0),(u12 4 0),(u13 366),(u12 152 0),(u12 4 0),(u13 373)])))
def o402:=k1 x (s90 x) 610 611 612 114 331 332 613 614
def o403:=k2 x 333 330 (s86 x) 606
def o404:=k0 x 
def o405 (x:X):Obj:=(M u8 (u9 (u4 u5)))
def o406:=k16 x (s38 x) 623 (s42 x) 624
def o407:=k0 x 
def o408:=k17 x (s37 x) (s95 x) (sm x 24 0) (sm x 24 0)
def o409:=k5 x (s37 x) 620 (s95 x) 621 622 116 2 335 336 337 338 339 625 626
def o410:=k18 x (s37 x) (s95 x) (sm x 24 0) (sm x 24 0) (s86 x) 606 340
def o411:=k0 x 
def o412 (x:X):Obj:=(M u8 (u9 (u4 u5)))
def o413:=k17 x (s91 x) (s96 x) (sm x 24 1) (sm x 24 1)
def o414:=k21 x (s91 x) 628 (s96 x) 629 630 123 2 342 343 344 631 632
def o415:=k18 x (s91 x) (s96 x) (sm x 24 1) (sm x 24 1) (s86 x) 606 345
def o416:=k0 x 
def o417 (x:X):Obj:=(M u8 (u9 (u4 u5)))
def o418:=k16 x (s38 x) 637 (s25 x) 638
def o419:=k0 x 
def o420:=k17 x (s82 x) (s97 x) (sm x 24 2) (sm x 24 2)
def o421:=k5 x (s82 x) 634 (s97 x) 635 636 134 2 347 348 349 350 351 639 640
def o422:=k18 x (s82 x) (s97 x) (sm x 24 2) (sm x 24 2) (s86 x) 606 352
def o423:=k0 x 
def o424 (x:X):Obj:=(M u8 (u9 (u4 u5)))
def o425:=k23 x 645 (s98 x) 646 (s99 x) 647 (s100 x) 648 (s25 x) 649
def o426:=k0 x 
def o427:=k17 x (s92 x) (s101 x) (sm x 24 3) (sm x 24 3)
def o428:=k5 x (s92 x) 642 (s101 x) 643 644 138 3 354 355 356 357 358 650 651
def o429:=k18 x (s92 x) (s101 x) (sm x 24 3) (sm x 24 3) (s86 x) 606 359
def o430:=k0 x 
def o431 (x:X):Obj:=(M u8 (u9 (u4 u5)))
def o432:=k20 x (s38 x) 656 (s28 x) 657 (s29 x) 658
def o433:=k0 x 
def o434:=k17 x (s93 x) (s102 x) (sm x 24 4) (sm x 24 4)
def o435:=k5 x (s93 x) 653 (s102 x) 654 655 146 3 361 362 363 364 365 659 660
def o436:=k18 x (s93 x) (s102 x) (sm x 24 4) (sm x 24 4) (s86 x) 606 366
def o437:=k0 x 
def o438 (x:X):Obj:=(M u8 (u9 (u4 u5)))
def o439:=k16 x (s38 x) 665 (s25 x) 666
def o440:=k0 x 
def o441:=k17 x (s94 x) (s103 x) (sm x 24 5) (sm x 24 5)
def o442:=k5 x (s94 x) 662 (s103 x) 663 664 152 2 368 369 370 371 372 667 668
def o443:=k18 x (s94 x) (s103 x) (sm x 24 5) (sm x 24 5) (s86 x) 606 373
def o444:=k22 x (s104 x) 670 (s105 x) 671 (s106 x) 672 (s42 x) 673
def o445:=(M (u1 (l3 x)) (u20 (u21 [(E x (s31 x) 615 (u11 (s86 x) 606)),(E x (s33 x) 619 (u12 114 618)),(E x (s37 x) 627 (u13 341)),(E x (s91 x) 633 (u13 346)),(E x (s82 x) 641 (u13 353)),(E x (s92 x) 652 (u13 360)),(E x (s93 x) 661 (u13 367)),(E x (s94 x) 669 (u13 374)),(E x (s34 x) 674 (u13 375)),(E x (s68 x) 676 (u13 378)),(E x (s35 x) 678 (u13 379)),(E x (s5 x) 679 u8)]) 4))
def o446:=(u0 (u1 (l9 x)) u2 (u32 (u33 (s90 x) [(u1 (l12 x))] [(u13 377),(u1 (l12 x))] 376 (s90 x) u31 u34 u5 u15 u35 u15)) (u6 [u19,u19,(u18 (u11 (s90 x) 608)),(u18 (u11 (s90 x) 616)),(u18 (u25 (l18 x))),(u18 (u14 u31))]))
def o447:=(M (u1 (l14 x)) (u9 (u4 [(u11 (s68 x) 675),(u13 377),(u25 (l19 x)),(u25 (l20 x))])))
def o448:=k9 x 677 377
def o449:=k10 x 377
def o450:=k11 x 377
def o451:=(M (u1 (l3 x)) (u20 (u21 (u22 (E x (s3 x) 165 (u11 (s107 x) 770)) (u22 (E x (s5 x) 166 u8) (u22 (E x (s6 x) 167 u8) (u22 (E x (s7 x) 168 (u25 (l4 x))) [(E x (s8 x) 169 u8),(E x (s9 x) 170 (u13 6)),(E x (s10 x) 171 (u13 4)),(E x (s11 x) 173 (u11 (s1 x) 172)),(E x (s12 x) 174 u8),(E x (s13 x) 193 (u13 21)),(E x (s14 x) 195 (u12 18446744073709551615 194)),(E x (s15 x) 197 (u12 40 196)),(E x (s16 x) 199 (u12 20 198)),(E x (s17 x) 201 (u12 1000000000 200)),(E x (s18 x) 210 (u13 28)),(E x (s19 x) 224 (u13 35)),(E x (s20 x) 244 (u13 45)),(E x (s36 x) 269 (u13 65)),(E x (s41 x) 294 (u13 84)),(E x (s44 x) 319 (u13 103)),(E x (s46 x) 344 (u13 122)),(E x (s48 x) 369 (u13 141)),(E x (s50 x) 396 (u13 160)),(E x (s54 x) 421 (u13 179)),(E x (s57 x) 476 (u13 217)),(E x (s69 x) 530 (u13 265)),(E x (s78 x) 591 (u13 313)),(E x (s87 x) 599 (u13 322)),(E x (s88 x) 605 (u13 327)),(E x (s90 x) 681 (u13 377)),(E x (s108 x) 688 (u13 388)),(E x (s109 x) 692 (u11 (s110 x) 691)),(E x (s111 x) 698 (u13 393)),(E x (s112 x) 705 (u13 400)),(E x (s113 x) 713 (u13 407)),(E x (s114 x) 719 (u13 412)),(E x (s115 x) 723 (u12 20 722)),(E x (s116 x) 730 (u13 413)),(E x (s117 x) 736 (u13 418)),(E x (s118 x) 745 (u13 425)),(E x (s119 x) 751 (u13 430)),(E x (s120 x) 757 (u13 435)),(E x (s121 x) 763 (u13 440)),(E x (s122 x) 769 (u13 445))]))))) 44))
def o452 (x:X):Obj:=(M u8 (u9 (u4 (u10 (u12 1 0) (u10 (u12 0 0) (u10 (u13 20) (u10 (u12 9 0) (u10 (u12 0 0) (u10 (u13 27) (u10 (u12 11 0) (u10 (u12 0 0) (u10 (u13 34) (u10 (u12 20 0) (u10 (u12 0 0) (u10 (u13 41) (u10 (u12 22 0) (u10 (u12 0 0) (u10 (u13 54) (u10 (u12 26 0) (u10 (u12 0 0) (u10 (u13 73) (u10 (u12 30 0) (u10 (u12 0 0) (u10 (u13 92) (u10 (u12 34 0) (u10 (u12 0 0) (u10 (u13 111) (u10 (u12 38 0) (u10 (u12 0 0) (u10 (u13 130) (u10 (u12 42 0) (u10 (u12 0 0) (u10 (u13 149) (u10 (u12 47 0) (u10 (u12 0 0) (u10 (u13 168) (u10 (u12 52 0) (u10 (u12 0 0) (u10 (u13 187) (u10 (u12 69 0) (u10 (u12 0 0) (u10 (u13 227) (u10 (u12 85 0) (u10 (u12 0 0) (u10 (u13 273) (u10 (u12 105 0) (u10 (u12 0 0) [(u13 321),(u12 107 0),(u12 0 0),(u13 326),(u12 114 0),(u12 0 0),(u13 333),(u12 155 0),(u12 0 0),(u13 387),(u12 160 0),(u12 0 0),(u13 392),(u12 166 0),(u12 0 0),(u13 399),(u12 170 0),(u12 0 0),(u13 406),(u12 175 0),(u12 0 0),(u13 411),(u12 180 0),(u12 0 0),(u13 417),(u12 188 0),(u12 0 0),(u13 424),(u12 199 0),(u12 0 0),(u13 429),(u12 206 0),(u12 0 0),(u13 434),(u12 210 0),(u12 0 0),(u13 439),(u12 214 0),(u12 0 0),(u13 444)])))))))))))))))))))))))))))))))))))))))))))))))
def o453:=k0 x 
def o454 (x:X):Obj:=(M u8 (u9 (u4 u5)))
def o455:=k3 x (s42 x) 685
def o456:=k0 x 
def o457:=k4 x (s108 x) (st x 25)
def o458:=k5 x (s108 x) 682 (s108 x) 683 684 155 1 382 383 384 385 386 686 687
def o459:=k6 x (s108 x) (st x 25) (s86 x) 606 387
def o460:=k0 x 
def o461 (x:X):Obj:=(M u8 (u9 (u4 u5)))
def o462:=k24 x (st x 28)
def o463:=k21 x (s111 x) 693 (s111 x) 694 695 160 1 389 390 391 696 697
def o464:=k25 x (st x 28) (s123 x) 689 392
def o465:=k0 x 
def o466 (x:X):Obj:=(M u8 (u9 (u4 u5)))
def o467:=k3 x (s39 x) 702
def o468:=k0 x 
def o469:=k4 x (s112 x) (st x 29)
def o470:=k5 x (s112 x) 699 (s112 x) 700 701 166 1 394 395 396 397 398 703 704
def o471:=k6 x (s112 x) (st x 29) (s123 x) 689 399
def o472:=k0 x 
def o473 (x:X):Obj:=(M u8 (u9 (u4 u5)))
def o474:=k16 x (s39 x) 709 (s124 x) 710
def o475:=k0 x 
def o476:=k4 x (s113 x) (st x 30)
def o477:=k5 x (s113 x) 706 (s113 x) 707 708 170 1 401 402 403 404 405 711 712
def o478:=k6 x (s113 x) (st x 30) (s123 x) 689 406
def o479:=k0 x 
def o480 (x:X):Obj:=(M u8 (u9 (u4 u5)))
def o481:=k4 x (s114 x) (st x 31)
def o482:=k21 x (s114 x) 714 (s114 x) 715 716 175 1 408 409 410 717 718
def o483:=k6 x (s114 x) (st x 31) (s123 x) 689 411
def o484:=(M (u1 (l3 x)) (u20 (u21 [(E x (s125 x) 724 (u12 1 725)),(E x (s126 x) 726 (u12 2 727))]) 2))
def o485:=k0 x 
def o486 (x:X):Obj:=(M u8 (u9 (u4 u5)))
def o487:=k4 x (s117 x) (st x 35)
def o488:=k21 x (s117 x) 731 (s117 x) 732 733 180 1 414 415 416 734 735
def o489:=k6 x (s117 x) (st x 35) (s127 x) 720 417
def o490:=k0 x 
def o491 (x:X):Obj:=(M u8 (u9 (u4 u5)))
def o492:=k20 x (s55 x) 740 (s128 x) 741 (s129 x) 742
def o493:=k0 x 
def o494:=k4 x (s118 x) (st x 36)
def o495:=k5 x (s118 x) 737 (s118 x) 738 739 188 1 419 420 421 422 423 743 744
def o496:=k6 x (s118 x) (st x 36) (s127 x) 720 424
def o497:=k0 x 
def o498 (x:X):Obj:=(M u8 (u9 (u4 u5)))
def o499:=k24 x (st x 37)
def o500:=k21 x (s119 x) 746 (s119 x) 747 748 199 2 426 427 428 749 750
def o501:=k25 x (st x 37) (s127 x) 720 429
def o502:=k0 x 
def o503 (x:X):Obj:=(M u8 (u9 (u4 u5)))
def o504:=k24 x (st x 38)
def o505:=k21 x (s120 x) 752 (s120 x) 753 754 206 1 431 432 433 755 756
def o506:=k25 x (st x 38) (s127 x) 720 434
def o507:=k0 x 
def o508 (x:X):Obj:=(M u8 (u9 (u4 u5)))
def o509:=k4 x (s121 x) (st x 39)
def o510:=k21 x (s121 x) 758 (s121 x) 759 760 210 1 436 437 438 761 762
def o511:=k6 x (s121 x) (st x 39) (s127 x) 720 439
def o512:=k0 x 
def o513 (x:X):Obj:=(M u8 (u9 (u4 u5)))
def o514:=k4 x (s122 x) (st x 40)
def o515:=k21 x (s122 x) 764 (s122 x) 765 766 214 1 441 442 443 767 768
def o516:=k6 x (s122 x) (st x 40) (s127 x) 720 444
def o519:=(M (u1 (l3 x)) (u20 (u21 (u22 (E x (s3 x) 165 (u11 (s107 x) 770)) (u22 (E x (s5 x) 166 u8) (u22 (E x (s6 x) 167 u8) (u22 (E x (s7 x) 168 (u25 (l4 x))) (u22 (E x (s8 x) 169 u8) (u22 (E x (s9 x) 170 (u13 6)) (u22 (E x (s10 x) 171 (u13 4)) (u22 (E x (s11 x) 173 (u11 (s1 x) 172)) (u22 (E x (s12 x) 174 u8) (u22 (E x (s13 x) 193 (u13 21)) (u22 (E x (s14 x) 195 (u12 18446744073709551615 194)) (u22 (E x (s15 x) 197 (u12 40 196)) [(E x (s16 x) 199 (u12 20 198)),(E x (s17 x) 201 (u12 1000000000 200)),(E x (s18 x) 210 (u13 28)),(E x (s19 x) 224 (u13 35)),(E x (s20 x) 244 (u13 45)),(E x (s36 x) 269 (u13 65)),(E x (s41 x) 294 (u13 84)),(E x (s44 x) 319 (u13 103)),(E x (s46 x) 344 (u13 122)),(E x (s48 x) 369 (u13 141)),(E x (s50 x) 396 (u13 160)),(E x (s54 x) 421 (u13 179)),(E x (s57 x) 476 (u13 217)),(E x (s69 x) 530 (u13 265)),(E x (s78 x) 591 (u13 313)),(E x (s87 x) 599 (u13 322)),(E x (s88 x) 605 (u13 327)),(E x (s90 x) 681 (u13 377)),(E x (s108 x) 688 (u13 388)),(E x (s109 x) 692 (u11 (s110 x) 691)),(E x (s111 x) 698 (u13 393)),(E x (s112 x) 705 (u13 400)),(E x (s113 x) 713 (u13 407)),(E x (s114 x) 719 (u13 412)),(E x (s115 x) 723 (u12 20 722)),(E x (s116 x) 730 (u13 413)),(E x (s117 x) 736 (u13 418)),(E x (s118 x) 745 (u13 425)),(E x (s119 x) 751 (u13 430)),(E x (s120 x) 757 (u13 435)),(E x (s121 x) 763 (u13 440)),(E x (s122 x) 769 (u13 445)),(E x (s130 x) 779 (u13 452)),(E x (s131 x) 786 (u13 459)),(E x (s132 x) 795 (u13 466)),(E x (s133 x) 803 (u13 473)),(E x (s134 x) 809 (u13 478)),(E x (s135 x) 822 (u13 485)),(E x (s136 x) 828 (u13 490)),(E x (s137 x) 834 (u13 495))]))))))))))))) 52))
def o520 (x:X):Obj:=(M u8 (u9 (u4 (u10 (u12 1 0) (u10 (u12 0 0) (u10 (u13 20) (u10 (u12 9 0) (u10 (u12 0 0) (u10 (u13 27) (u10 (u12 11 0) (u10 (u12 0 0) (u10 (u13 34) (u10 (u12 20 0) (u10 (u12 0 0) (u10 (u13 41) (u10 (u12 22 0) (u10 (u12 0 0) (u10 (u13 54) (u10 (u12 26 0) (u10 (u12 0 0) (u10 (u13 73) (u10 (u12 30 0) (u10 (u12 0 0) (u10 (u13 92) (u10 (u12 34 0) (u10 (u12 0 0) (u10 (u13 111) (u10 (u12 38 0) (u10 (u12 0 0) (u10 (u13 130) (u10 (u12 42 0) (u10 (u12 0 0) (u10 (u13 149) (u10 (u12 47 0) (u10 (u12 0 0) (u10 (u13 168) (u10 (u12 52 0) (u10 (u12 0 0) (u10 (u13 187) (u10 (u12 69 0) (u10 (u12 0 0) (u10 (u13 227) (u10 (u12 85 0) (u10 (u12 0 0) (u10 (u13 273) (u10 (u12 105 0) (u10 (u12 0 0) (u10 (u13 321) (u10 (u12 107 0) (u10 (u12 0 0) (u10 (u13 326) (u10 (u12 114 0) (u10 (u12 0 0) (u10 (u13 333) (u10 (u12 155 0) (u10 (u12 0 0) (u10 (u13 387) (u10 (u12 160 0) (u10 (u12 0 0) (u10 (u13 392) (u10 (u12 166 0) (u10 (u12 0 0) (u10 (u13 399) (u10 (u12 170 0) (u10 (u12 0 0) (u10 (u13 406) (u10 (u12 175 0) (u10 (u12 0 0) (u10 (u13 411) (u10 (u12 180 0) (u10 (u12 0 0) [(u13 417),(u12 188 0),(u12 0 0),(u13 424),(u12 199 0),(u12 0 0),(u13 429),(u12 206 0),(u12 0 0),(u13 434),(u12 210 0),(u12 0 0),(u13 439),(u12 214 0),(u12 0 0),(u13 444),(u12 220 0),(u12 0 0),(u13 451),(u12 224 0),(u12 0 0),(u13 458),(u12 226 0),(u12 0 0),(u13 465),(u12 229 0),(u12 0 0),(u13 472),(u12 237 0),(u12 0 0),(u13 477),(u12 239 0),(u12 0 0),(u13 484),(u12 247 0),(u12 0 0),(u13 489),(u12 251 0),(u12 0 0),(u13 494)])))))))))))))))))))))))))))))))))))))))))))))))))))))))))))))))))))))))
def o521:=k0 x 
def o522 (x:X):Obj:=(M u8 (u9 (u4 u5)))
def o523:=k16 x (s138 x) 775 (s139 x) 776
def o524:=k0 x 
def o525:=k4 x (s130 x) (st x 42)
def o526:=k5 x (s130 x) 772 (s130 x) 773 774 220 2 446 447 448 449 450 777 778
def o527:=k6 x (s130 x) (st x 42) (s107 x) 770 451
def o528:=k0 x 
def o529 (x:X):Obj:=(M u8 (u9 (u4 u5)))
def o530:=k3 x (s140 x) 783
def o531:=k0 x 
def o532:=k4 x (s131 x) (st x 43)
def o533:=k5 x (s131 x) 780 (s131 x) 781 782 224 1 453 454 455 456 457 784 785
def o534:=k6 x (s131 x) (st x 43) (s107 x) 770 458
def o535:=k0 x 
def o536 (x:X):Obj:=(M u8 (u9 (u4 u5)))
def o537:=k20 x (s141 x) 790 (s139 x) 791 (s142 x) 792
def o538:=k0 x 
def o539:=k4 x (s132 x) (st x 44)
def o540:=k5 x (s132 x) 787 (s132 x) 788 789 226 2 460 461 462 463 464 793 794
def o541:=k6 x (s132 x) (st x 44) (s107 x) 770 465
def o542:=k0 x 
def o543 (x:X):Obj:=(M u8 (u9 (u4 u5)))
def o544:=k16 x (s141 x) 799 (s139 x) 800
def o545:=k0 x 
def o546:=k4 x (s133 x) (st x 45)
def o547:=k5 x (s133 x) 796 (s133 x) 797 798 229 2 467 468 469 470 471 801 802
def o548:=k6 x (s133 x) (st x 45) (s107 x) 770 472
def o549:=k0 x 
def o550 (x:X):Obj:=(M u8 (u9 (u4 u5)))
def o551:=k24 x (st x 46)
def o552:=k21 x (s134 x) 804 (s134 x) 805 806 237 2 474 475 476 807 808
def o553:=k25 x (st x 46) (s107 x) 770 477
def o554:=k0 x 
def o555 (x:X):Obj:=(M u8 (u9 (u4 u5)))
def o556:=(M (u1 (l0 x)) (u3 (u4 [(u11 (s143 x) 813),(u11 (s144 x) 814),(u11 (s145 x) 815),(u11 (s146 x) 816),(u11 (s147 x) 817),(u11 (s148 x) 818),(u11 (s149 x) 819)]) 0))
def o557:=k0 x 
def o558:=k24 x (st x 47)
def o559:=k5 x (s135 x) 810 (s135 x) 811 812 239 2 479 480 481 482 483 820 821
def o560:=k25 x (st x 47) (s107 x) 770 484
def o561:=k0 x 
def o562 (x:X):Obj:=(M u8 (u9 (u4 u5)))
def o563:=k4 x (s136 x) (st x 48)
def o564:=k21 x (s136 x) 823 (s136 x) 824 825 247 2 486 487 488 826 827
def o565:=k6 x (s136 x) (st x 48) (s107 x) 770 489
def o566:=k0 x 
def o567 (x:X):Obj:=(M u8 (u9 (u4 u5)))
def o568:=k4 x (s137 x) (st x 49)
def o569:=k21 x (s137 x) 829 (s137 x) 830 831 251 1 491 492 493 832 833
def o570:=k6 x (s137 x) (st x 49) (s107 x) 770 494
def q1 (x:X):PySem.Obj:=(M u8 (u20 (u21 u26) 0))
def heap39:X->PySem.W.Frag:=(J 2 q1 (J 3 o519 (J 15 o566 (J 17 o53 (J 18 o566 (J 20 o56 (J 21 o57 (J 22 o566 (J 24 o60 (J 25 o566 (J 27 o63 (J 28 o64 (J 29 o566 (J 31 o67 (J 32 o566 (J 34 o70 (J 35 o71 (J 36 o72 (J 43 o566 (J 44 o80 (J 45 o219 (J 46 o82 (J 49 o220 (J 56 o566 (J 58 o97 (J 59 o566 (J 61 o100 (J 62 o101 (J 63 o102 (J 64 o103 (J 65 o104 (J 68 o220 (J 75 o566 (J 77 o119 (J 78 o566 (J 80 o122 (J 81 o123 (J 82 o124 (J 83 o125 (J 84 o126 (J 87 o220 (J 94 o566 (J 96 o141 (J 97 o566 (J 99 o144 (J 100 o145 (J 101 o146 (J 102 o147 (J 103 o148 (J 106 o220 (J 113 o566 (J 115 o163 (J 116 o566 (J 118 o166 (J 119 o167 (J 120 o168 (J 121 o169 (J 122 o170 (J 125 o220 (J 132 o566 (J 134 o185 (J 135 o566 (J 137 o188 (J 138 o189 (J 139 o190 (J 140 o191 (J 141 o192 (J 144 o220 (J 151 o566 (J 153 o207 (J 154 o566 (J 156 o210 (J 157 o211 (J 158 o212 (J 159 o213 (J 160 o214 (J 163 o220 (J 170 o566 (J 172 o229 (J 173 o566 (J 175 o232 (J 176 o233 (J 177 o234 (J 178 o235 (J 179 o236 (J 189 o566 (J 192 o251 (J 193 o252 (J 194 o566 (J 196 o255 (J 197 o566 (J 199 o258 (J 200 o259 (J 201 o566 (J 203 o262 (J 204 o566 (J 206 o265 (J 207 o266 (J 208 o566 (J 210 o269 (J 211 o566 (J 213 o272 (J 214 o273 (J 215 o274 (J 216 o275 (J 217 o332 (J 218 o277 (J 219 o278 (J 222 o333 (J 229 o340 (J 230 o566 (J 232 o294 (J 233 o566 (J 235 o297 (J 236 o298 (J 237 o566 (J 239 o301 (J 240 o566 (J 242 o304 (J 243 o305 (J 244 o566 (J 246 o308 (J 247 o566 (J 249 o311 (J 250 o312 (J 251 o566 (J 254 o316 (J 255 o317 (J 256 o566 (J 258 o320 (J 259 o566 (J 261 o323 (J 262 o324 (J 263 o566 (J 264 o326 (J 265 o327 (J 268 o333 (J 275 o340 (J 276 o566 (J 278 o343 (J 279 o566 (J 281 o346 (J 282 o347 (J 283 o566 (J 285 o350 (J 286 o566 (J 288 o353 (J 289 o354 (J 290 o566 (J 292 o357 (J 293 o566 (J 295 o360 (J 296 o361 (J 297 o566 (J 299 o364 (J 300 o566 (J 302 o367 (J 303 o368 (J 304 o566 (J 306 o371 (J 307 o566 (J 309 o374 (J 310 o375 (J 311 o376 (J 312 o377 (J 313 o378 (J 316 o566 (J 318 o385 (J 319 o566 (J 321 o388 (J 322 o389 (J 323 o566 (J 326 o393 (J 327 o394 (J 335 o566 (J 337 o406 (J 338 o566 (J 340 o409 (J 341 o410 (J 342 o566 (J 345 o414 (J 346 o415 (J 347 o566 (J 349 o418 (J 350 o566 (J 352 o421 (J 353 o422 (J 354 o566 (J 356 o425 (J 357 o566 (J 359 o428 (J 360 o429 (J 361 o566 (J 363 o432 (J 364 o566 (J 366 o435 (J 367 o436 (J 368 o566 (J 370 o439 (J 371 o566 (J 373 o442 (J 374 o443 (J 375 o444 (J 376 o445 (J 377 o446 (J 378 o447 (J 379 o448 (J 382 o566 (J 384 o455 (J 385 o566 (J 387 o458 (J 388 o459 (J 389 o566 (J 392 o463 (J 393 o464 (J 394 o566 (J 396 o467 (J 397 o566 (J 399 o470 (J 400 o471 (J 401 o566 (J 403 o474 (J 404 o566 (J 406 o477 (J 407 o478 (J 408 o566 (J 411 o482 (J 412 o483 (J 413 o484 (J 414 o566 (J 417 o488 (J 418 o489 (J 419 o566 (J 421 o492 (J 422 o566 (J 424 o495 (J 425 o496 (J 426 o566 (J 429 o500 (J 430 o501 (J 431 o566 (J 434 o505 (J 435 o506 (J 436 o566 (J 439 o510 (J 440 o511 (J 441 o566 (J 444 o515 (J 445 o516 (J 446 o566 (J 448 o523 (J 449 o566 (J 451 o526 (J 452 o527 (J 453 o566 (J 455 o530 (J 456 o566 (J 458 o533 (J 459 o534 (J 460 o566 (J 462 o537 (J 463 o566 (J 465 o540 (J 466 o541 (J 467 o566 (J 469 o544 (J 470 o566 (J 472 o547 (J 473 o548 (J 474 o566 (J 477 o552 (J 478 o553 (J 479 o566 (J 481 o556 (J 482 o566 (J 484 o559 (J 485 o560 (J 486 o566 (J 489 o564 (J 490 o565 (J 491 o566 (J 494 o569 (J 495 o570 I)))))))))))))))))))))))))))))))))))))))))))))))))))))))))))))))))))))))))))))))))))))))))))))))))))))))))))))))))))))))))))))))))))))))))))))))))))))))))))))))))))))))))))))))))))))))))))))))))))))))))))))))))))))))))))))))))))))))))))))))))))))))))))))))))))))))))))))))))))))))))))
def heap46:X->PySem.Heap:=fun x=>u39 (u40 ((Q b0 (Q b1 (Q b2 (Q b3 (Q b4 (Q b5 (Q b6 (Q b7 (Q b8 (Q b9 (Q b10 (Q o43 (Q o44 (Q o45 (Q o46 R))))))))))))))) x)) (u43 u44 u44 u44 0 u45 u44 u15 (u46 u44) u44 0 u15 u15 u15 0 [2000,10,10] u15 0 u31 u44 u44 0 u15)
def tree47:X->PySem.W.BT:=(N b0 (N b1 (N b3 (N b7 Z Z) (N o43 Z Z)) (N b5 (N b9 Z Z) (N o45 Z Z))) (N b2 (N b4 (N b8 Z Z) (N o44 Z Z)) (N b6 (N b10 Z Z) (N o46 Z Z))))
def tree84:X->PySem.W.BT:=(N b0 (N b1 (N o49 (N b7 (N o51 (N o67 Z Z) (N o83 Z Z)) (N o59 (N o75 Z Z) Z)) (N o43 (N o55 (N o71 Z Z) Z) (N o63 (N o79 Z Z) Z))) (N b5 (N b9 (N o53 (N o69 Z Z) Z) (N o61 (N o77 Z Z) Z)) (N o45 (N o57 (N o73 Z Z) Z) (N o65 (N o81 Z Z) Z)))) (N b2 (N b4 (N b8 (N o52 (N o68 Z Z) (N o84 Z Z)) (N o60 (N o76 Z Z) Z)) (N o50 (N o56 (N o72 Z Z) Z) (N o64 (N o80 Z Z) Z))) (N b6 (N b10 (N o54 (N o70 Z Z) Z) (N o62 (N o78 Z Z) Z)) (N o46 (N o58 (N o74 Z Z) Z) (N o66 (N o82 Z Z) Z)))))
def tree106:X->PySem.W.BT:=(N b0 (N b1 (N o85 (N b7 (N o51 (N o67 (N o102 Z Z) Z) (N o83 Z Z)) (N o59 (N o75 Z Z) (N o94 Z Z))) (N o43 (N o55 (N o71 (N o106 Z Z) Z) (N o90 Z Z)) (N o63 (N o79 Z Z) (N o98 Z Z)))) (N b5 (N b9 (N o53 (N o69 (N o104 Z Z) Z) (N o88 Z Z)) (N o61 (N o77 Z Z) (N o96 Z Z))) (N o45 (N o57 (N o73 Z Z) (N o92 Z Z)) (N o65 (N o87 Z Z) (N o100 Z Z))))) (N b2 (N b4 (N b8 (N o52 (N o68 (N o103 Z Z) Z) (N o84 Z Z)) (N o60 (N o76 Z Z) (N o95 Z Z))) (N o86 (N o56 (N o72 Z Z) (N o91 Z Z)) (N o64 (N o80 Z Z) (N o99 Z Z)))) (N b6 (N b10 (N o54 (N o70 (N o105 Z Z) Z) (N o89 Z Z)) (N o62 (N o78 Z Z) (N o97 Z Z))) (N o46 (N o58 (N o74 Z Z) (N o93 Z Z)) (N o66 (N o82 Z Z) (N o101 Z Z))))))
def tree128:X->PySem.W.BT:=(N b0 (N b1 (N o107 (N b7 (N o51 (N o67 (N o102 Z Z) Z) (N o83 (N o121 Z Z) Z)) (N o59 (N o75 (N o113 Z Z) Z) (N o94 Z Z))) (N o43 (N o55 (N o71 (N o106 Z Z) Z) (N o90 (N o125 Z Z) Z)) (N o63 (N o79 (N o117 Z Z) Z) (N o98 Z Z)))) (N b5 (N b9 (N o53 (N o69 (N o104 Z Z) Z) (N o88 (N o123 Z Z) Z)) (N o61 (N o77 (N o115 Z Z) Z) (N o96 Z Z))) (N o45 (N o57 (N o73 (N o111 Z Z) Z) (N o92 (N o127 Z Z) Z)) (N o65 (N o109 (N o119 Z Z) Z) (N o100 Z Z))))) (N b2 (N b4 (N b8 (N o52 (N o68 (N o103 Z Z) Z) (N o84 (N o122 Z Z) Z)) (N o60 (N o76 (N o114 Z Z) Z) (N o95 Z Z))) (N o108 (N o56 (N o72 (N o110 Z Z) Z) (N o91 (N o126 Z Z) Z)) (N o64 (N o80 (N o118 Z Z) Z) (N o99 Z Z)))) (N b6 (N b10 (N o54 (N o70 (N o105 Z Z) Z) (N o89 (N o124 Z Z) Z)) (N o62 (N o78 (N o116 Z Z) Z) (N o97 Z Z))) (N o46 (N o58 (N o74 (N o112 Z Z) Z) (N o93 (N o128 Z Z) Z)) (N o66 (N o82 (N o120 Z Z) Z) (N o101 Z Z))))))
def tree150:X->PySem.W.BT:=(N b0 (N b1 (N o129 (N b7 (N o51 (N o67 (N o102 Z Z) (N o140 Z Z)) (N o83 (N o121 Z Z) Z)) (N o59 (N o75 (N o113 Z Z) (N o148 Z Z)) (N o94 (N o132 Z Z) Z))) (N o43 (N o55 (N o71 (N o106 Z Z) (N o144 Z Z)) (N o90 (N o125 Z Z) Z)) (N o63 (N o79 (N o117 Z Z) Z) (N o98 (N o136 Z Z) Z)))) (N b5 (N b9 (N o53 (N o69 (N o104 Z Z) (N o142 Z Z)) (N o88 (N o123 Z Z) Z)) (N o61 (N o77 (N o115 Z Z) (N o150 Z Z)) (N o96 (N o134 Z Z) Z))) (N o45 (N o57 (N o73 (N o111 Z Z) (N o146 Z Z)) (N o92 (N o127 Z Z) Z)) (N o65 (N o131 (N o119 Z Z) Z) (N o100 (N o138 Z Z) Z))))) (N b2 (N b4 (N b8 (N o52 (N o68 (N o103 Z Z) (N o141 Z Z)) (N o84 (N o122 Z Z) Z)) (N o60 (N o76 (N o114 Z Z) (N o149 Z Z)) (N o95 (N o133 Z Z) Z))) (N o130 (N o56 (N o72 (N o110 Z Z) (N o145 Z Z)) (N o91 (N o126 Z Z) Z)) (N o64 (N o80 (N o118 Z Z) Z) (N o99 (N o137 Z Z) Z)))) (N b6 (N b10 (N o54 (N o70 (N o105 Z Z) (N o143 Z Z)) (N o89 (N o124 Z Z) Z)) (N o62 (N o78 (N o116 Z Z) Z) (N o97 (N o135 Z Z) Z))) (N o46 (N o58 (N o74 (N o112 Z Z) (N o147 Z Z)) (N o93 (N o128 Z Z) Z)) (N o66 (N o82 (N o120 Z Z) Z) (N o101 (N o139 Z Z) Z))))))
def tree172:X->PySem.W.BT:=(N b0 (N b1 (N o151 (N b7 (N o51 (N o67 (N o102 Z Z) (N o140 Z Z)) (N o83 (N o121 Z Z) (N o159 Z Z))) (N o59 (N o75 (N o113 Z Z) (N o148 Z Z)) (N o94 (N o132 Z Z) (N o167 Z Z)))) (N o43 (N o55 (N o71 (N o106 Z Z) (N o144 Z Z)) (N o90 (N o125 Z Z) (N o163 Z Z))) (N o63 (N o79 (N o117 Z Z) (N o155 Z Z)) (N o98 (N o136 Z Z) (N o171 Z Z))))) (N b5 (N b9 (N o53 (N o69 (N o104 Z Z) (N o142 Z Z)) (N o88 (N o123 Z Z) (N o161 Z Z))) (N o61 (N o77 (N o115 Z Z) (N o150 Z Z)) (N o96 (N o134 Z Z) (N o169 Z Z)))) (N o45 (N o57 (N o73 (N o111 Z Z) (N o146 Z Z)) (N o92 (N o127 Z Z) (N o165 Z Z))) (N o65 (N o153 (N o119 Z Z) (N o157 Z Z)) (N o100 (N o138 Z Z) Z))))) (N b2 (N b4 (N b8 (N o52 (N o68 (N o103 Z Z) (N o141 Z Z)) (N o84 (N o122 Z Z) (N o160 Z Z))) (N o60 (N o76 (N o114 Z Z) (N o149 Z Z)) (N o95 (N o133 Z Z) (N o168 Z Z)))) (N o152 (N o56 (N o72 (N o110 Z Z) (N o145 Z Z)) (N o91 (N o126 Z Z) (N o164 Z Z))) (N o64 (N o80 (N o118 Z Z) (N o156 Z Z)) (N o99 (N o137 Z Z) (N o172 Z Z))))) (N b6 (N b10 (N o54 (N o70 (N o105 Z Z) (N o143 Z Z)) (N o89 (N o124 Z Z) (N o162 Z Z))) (N o62 (N o78 (N o116 Z Z) (N o154 Z Z)) (N o97 (N o135 Z Z) (N o170 Z Z)))) (N o46 (N o58 (N o74 (N o112 Z Z) (N o147 Z Z)) (N o93 (N o128 Z Z) (N o166 Z Z))) (N o66 (N o82 (N o120 Z Z) (N o158 Z Z)) (N o101 (N o139 Z Z) Z))))))
def tree194:X->PySem.W.BT:=(N b0 (N b1 (N o173 (N b7 (N o51 (N o67 (N o102 (N o178 Z Z) Z) (N o140 Z Z)) (N o83 (N o121 (N o194 Z Z) Z) (N o159 Z Z))) (N o59 (N o75 (N o113 (N o186 Z Z) Z) (N o148 Z Z)) (N o94 (N o132 Z Z) (N o167 Z Z)))) (N o43 (N o55 (N o71 (N o106 (N o182 Z Z) Z) (N o144 Z Z)) (N o90 (N o125 Z Z) (N o163 Z Z))) (N o63 (N o79 (N o117 (N o190 Z Z) Z) (N o155 Z Z)) (N o98 (N o136 Z Z) (N o171 Z Z))))) (N b5 (N b9 (N o53 (N o69 (N o104 (N o180 Z Z) Z) (N o142 Z Z)) (N o88 (N o123 Z Z) (N o161 Z Z))) (N o61 (N o77 (N o115 (N o188 Z Z) Z) (N o150 Z Z)) (N o96 (N o134 Z Z) (N o169 Z Z)))) (N o45 (N o57 (N o73 (N o111 (N o184 Z Z) Z) (N o146 Z Z)) (N o92 (N o127 Z Z) (N o165 Z Z))) (N o65 (N o175 (N o119 (N o192 Z Z) Z) (N o157 Z Z)) (N o100 (N o138 Z Z) (N o176 Z Z)))))) (N b2 (N b4 (N b8 (N o52 (N o68 (N o103 (N o179 Z Z) Z) (N o141 Z Z)) (N o84 (N o122 Z Z) (N o160 Z Z))) (N o60 (N o76 (N o114 (N o187 Z Z) Z) (N o149 Z Z)) (N o95 (N o133 Z Z) (N o168 Z Z)))) (N o174 (N o56 (N o72 (N o110 (N o183 Z Z) Z) (N o145 Z Z)) (N o91 (N o126 Z Z) (N o164 Z Z))) (N o64 (N o80 (N o118 (N o191 Z Z) Z) (N o156 Z Z)) (N o99 (N o137 Z Z) (N o172 Z Z))))) (N b6 (N b10 (N o54 (N o70 (N o105 (N o181 Z Z) Z) (N o143 Z Z)) (N o89 (N o124 Z Z) (N o162 Z Z))) (N o62 (N o78 (N o116 (N o189 Z Z) Z) (N o154 Z Z)) (N o97 (N o135 Z Z) (N o170 Z Z)))) (N o46 (N o58 (N o74 (N o112 (N o185 Z Z) Z) (N o147 Z Z)) (N o93 (N o128 Z Z) (N o166 Z Z))) (N o66 (N o82 (N o120 (N o193 Z Z) Z) (N o158 Z Z)) (N o101 (N o139 Z Z) (N o177 Z Z)))))))
def tree216:X->PySem.W.BT:=(N b0 (N b1 (N o195 (N b7 (N o51 (N o67 (N o102 (N o178 Z Z) Z) (N o140 (N o213 Z Z) Z)) (N o83 (N o121 (N o194 Z Z) Z) (N o159 Z Z))) (N o59 (N o75 (N o113 (N o186 Z Z) Z) (N o148 Z Z)) (N o94 (N o132 (N o205 Z Z) Z) (N o167 Z Z)))) (N o43 (N o55 (N o71 (N o106 (N o182 Z Z) Z) (N o144 Z Z)) (N o90 (N o125 (N o201 Z Z) Z) (N o163 Z Z))) (N o63 (N o79 (N o117 (N o190 Z Z) Z) (N o155 Z Z)) (N o98 (N o136 (N o209 Z Z) Z) (N o171 Z Z))))) (N b5 (N b9 (N o53 (N o69 (N o104 (N o180 Z Z) Z) (N o142 (N o215 Z Z) Z)) (N o88 (N o123 (N o199 Z Z) Z) (N o161 Z Z))) (N o61 (N o77 (N o115 (N o188 Z Z) Z) (N o150 Z Z)) (N o96 (N o134 (N o207 Z Z) Z) (N o169 Z Z)))) (N o45 (N o57 (N o73 (N o111 (N o184 Z Z) Z) (N o146 Z Z)) (N o92 (N o127 (N o203 Z Z) Z) (N o165 Z Z))) (N o65 (N o197 (N o119 (N o192 Z Z) Z) (N o157 Z Z)) (N o100 (N o138 (N o211 Z Z) Z) (N o176 Z Z)))))) (N b2 (N b4 (N b8 (N o52 (N o68 (N o103 (N o179 Z Z) Z) (N o141 (N o214 Z Z) Z)) (N o84 (N o122 (N o198 Z Z) Z) (N o160 Z Z))) (N o60 (N o76 (N o114 (N o187 Z Z) Z) (N o149 Z Z)) (N o95 (N o133 (N o206 Z Z) Z) (N o168 Z Z)))) (N o196 (N o56 (N o72 (N o110 (N o183 Z Z) Z) (N o145 Z Z)) (N o91 (N o126 (N o202 Z Z) Z) (N o164 Z Z))) (N o64 (N o80 (N o118 (N o191 Z Z) Z) (N o156 Z Z)) (N o99 (N o137 (N o210 Z Z) Z) (N o172 Z Z))))) (N b6 (N b10 (N o54 (N o70 (N o105 (N o181 Z Z) Z) (N o143 (N o216 Z Z) Z)) (N o89 (N o124 (N o200 Z Z) Z) (N o162 Z Z))) (N o62 (N o78 (N o116 (N o189 Z Z) Z) (N o154 Z Z)) (N o97 (N o135 (N o208 Z Z) Z) (N o170 Z Z)))) (N o46 (N o58 (N o74 (N o112 (N o185 Z Z) Z) (N o147 Z Z)) (N o93 (N o128 (N o204 Z Z) Z) (N o166 Z Z))) (N o66 (N o82 (N o120 (N o193 Z Z) Z) (N o158 Z Z)) (N o101 (N o139 (N o212 Z Z) Z) (N o177 Z Z)))))))
def tree238:X->PySem.W.BT:=(N b0 (N b1 (N o217 (N b7 (N o51 (N o67 (N o102 (N o178 Z Z) Z) (N o140 (N o213 Z Z) Z)) (N o83 (N o121 (N o194 Z Z) Z) (N o159 (N o232 Z Z) Z))) (N o59 (N o75 (N o113 (N o186 Z Z) Z) (N o148 (N o224 Z Z) Z)) (N o94 (N o132 (N o205 Z Z) Z) (N o167 Z Z)))) (N o43 (N o55 (N o71 (N o106 (N o182 Z Z) Z) (N o144 (N o220 Z Z) Z)) (N o90 (N o125 (N o201 Z Z) Z) (N o163 (N o236 Z Z) Z))) (N o63 (N o79 (N o117 (N o190 Z Z) Z) (N o155 (N o228 Z Z) Z)) (N o98 (N o136 (N o209 Z Z) Z) (N o171 Z Z))))) (N b5 (N b9 (N o53 (N o69 (N o104 (N o180 Z Z) Z) (N o142 (N o215 Z Z) Z)) (N o88 (N o123 (N o199 Z Z) Z) (N o161 (N o234 Z Z) Z))) (N o61 (N o77 (N o115 (N o188 Z Z) Z) (N o150 (N o226 Z Z) Z)) (N o96 (N o134 (N o207 Z Z) Z) (N o169 Z Z)))) (N o45 (N o57 (N o73 (N o111 (N o184 Z Z) Z) (N o146 (N o222 Z Z) Z)) (N o92 (N o127 (N o203 Z Z) Z) (N o165 (N o238 Z Z) Z))) (N o65 (N o219 (N o119 (N o192 Z Z) Z) (N o157 (N o230 Z Z) Z)) (N o100 (N o138 (N o211 Z Z) Z) (N o176 Z Z)))))) (N b2 (N b4 (N b8 (N o52 (N o68 (N o103 (N o179 Z Z) Z) (N o141 (N o214 Z Z) Z)) (N o84 (N o122 (N o198 Z Z) Z) (N o160 (N o233 Z Z) Z))) (N o60 (N o76 (N o114 (N o187 Z Z) Z) (N o149 (N o225 Z Z) Z)) (N o95 (N o133 (N o206 Z Z) Z) (N o168 Z Z)))) (N o218 (N o56 (N o72 (N o110 (N o183 Z Z) Z) (N o145 (N o221 Z Z) Z)) (N o91 (N o126 (N o202 Z Z) Z) (N o164 (N o237 Z Z) Z))) (N o64 (N o80 (N o118 (N o191 Z Z) Z) (N o156 (N o229 Z Z) Z)) (N o99 (N o137 (N o210 Z Z) Z) (N o172 Z Z))))) (N b6 (N b10 (N o54 (N o70 (N o105 (N o181 Z Z) Z) (N o143 (N o216 Z Z) Z)) (N o89 (N o124 (N o200 Z Z) Z) (N o162 (N o235 Z Z) Z))) (N o62 (N o78 (N o116 (N o189 Z Z) Z) (N o154 (N o227 Z Z) Z)) (N o97 (N o135 (N o208 Z Z) Z) (N o170 Z Z)))) (N o46 (N o58 (N o74 (N o112 (N o185 Z Z) Z) (N o147 (N o223 Z Z) Z)) (N o93 (N o128 (N o204 Z Z) Z) (N o166 Z Z))) (N o66 (N o82 (N o120 (N o193 Z Z) Z) (N o158 (N o231 Z Z) Z)) (N o101 (N o139 (N o212 Z Z) Z) (N o177 Z Z)))))))
def tree280:X->PySem.W.BT:=(N b0 (N b1 (N o239 (N b7 (N o51 (N o67 (N o102 (N o178 Z Z) (N o250 Z Z)) (N o140 (N o213 Z Z) Z)) (N o83 (N o121 (N o194 Z Z) (N o266 Z Z)) (N o159 (N o232 Z Z) Z))) (N o59 (N o75 (N o113 (N o186 Z Z) (N o258 Z Z)) (N o148 (N o224 Z Z) Z)) (N o94 (N o132 (N o205 Z Z) (N o274 Z Z)) (N o167 (N o242 Z Z) Z)))) (N o43 (N o55 (N o71 (N o106 (N o182 Z Z) (N o254 Z Z)) (N o144 (N o220 Z Z) Z)) (N o90 (N o125 (N o201 Z Z) (N o270 Z Z)) (N o163 (N o236 Z Z) Z))) (N o63 (N o79 (N o117 (N o190 Z Z) (N o262 Z Z)) (N o155 (N o228 Z Z) Z)) (N o98 (N o136 (N o209 Z Z) (N o278 Z Z)) (N o171 (N o246 Z Z) Z))))) (N b5 (N b9 (N o53 (N o69 (N o104 (N o180 Z Z) (N o252 Z Z)) (N o142 (N o215 Z Z) Z)) (N o88 (N o123 (N o199 Z Z) (N o268 Z Z)) (N o161 (N o234 Z Z) Z))) (N o61 (N o77 (N o115 (N o188 Z Z) (N o260 Z Z)) (N o150 (N o226 Z Z) Z)) (N o96 (N o134 (N o207 Z Z) (N o276 Z Z)) (N o169 (N o244 Z Z) Z)))) (N o45 (N o57 (N o73 (N o111 (N o184 Z Z) (N o256 Z Z)) (N o146 (N o222 Z Z) Z)) (N o92 (N o127 (N o203 Z Z) (N o272 Z Z)) (N o165 (N o238 Z Z) Z))) (N o65 (N o219 (N o119 (N o192 Z Z) (N o264 Z Z)) (N o157 (N o230 Z Z) Z)) (N o100 (N o138 (N o211 Z Z) (N o280 Z Z)) (N o176 (N o248 Z Z) Z)))))) (N b2 (N b4 (N b8 (N o52 (N o68 (N o103 (N o179 Z Z) (N o251 Z Z)) (N o141 (N o214 Z Z) Z)) (N o84 (N o122 (N o198 Z Z) (N o267 Z Z)) (N o160 (N o233 Z Z) Z))) (N o60 (N o76 (N o114 (N o187 Z Z) (N o259 Z Z)) (N o149 (N o225 Z Z) Z)) (N o95 (N o133 (N o206 Z Z) (N o275 Z Z)) (N o168 (N o243 Z Z) Z)))) (N o240 (N o56 (N o72 (N o110 (N o183 Z Z) (N o255 Z Z)) (N o145 (N o221 Z Z) Z)) (N o91 (N o126 (N o202 Z Z) (N o271 Z Z)) (N o164 (N o237 Z Z) Z))) (N o64 (N o80 (N o118 (N o191 Z Z) (N o263 Z Z)) (N o156 (N o229 Z Z) Z)) (N o99 (N o137 (N o210 Z Z) (N o279 Z Z)) (N o172 (N o247 Z Z) Z))))) (N b6 (N b10 (N o54 (N o70 (N o105 (N o181 Z Z) (N o253 Z Z)) (N o143 (N o216 Z Z) Z)) (N o89 (N o124 (N o200 Z Z) (N o269 Z Z)) (N o162 (N o235 Z Z) Z))) (N o62 (N o78 (N o116 (N o189 Z Z) (N o261 Z Z)) (N o154 (N o227 Z Z) Z)) (N o97 (N o135 (N o208 Z Z) (N o277 Z Z)) (N o170 (N o245 Z Z) Z)))) (N o46 (N o58 (N o74 (N o112 (N o185 Z Z) (N o257 Z Z)) (N o147 (N o223 Z Z) Z)) (N o93 (N o128 (N o204 Z Z) (N o273 Z Z)) (N o166 (N o241 Z Z) Z))) (N o66 (N o82 (N o120 (N o193 Z Z) (N o265 Z Z)) (N o158 (N o231 Z Z) Z)) (N o101 (N o139 (N o212 Z Z) Z) (N o177 (N o249 Z Z) Z)))))))
def tree329:X->PySem.W.BT:=(N b0 (N b1 (N o281 (N b7 (N o51 (N o67 (N o102 (N o178 (N o317 Z Z) Z) (N o250 Z Z)) (N o140 (N o213 Z Z) (N o285 Z Z))) (N o83 (N o121 (N o194 Z Z) (N o266 Z Z)) (N o159 (N o232 Z Z) (N o301 Z Z)))) (N o59 (N o75 (N o113 (N o186 (N o325 Z Z) Z) (N o258 Z Z)) (N o148 (N o224 Z Z) (N o293 Z Z))) (N o94 (N o132 (N o205 Z Z) (N o274 Z Z)) (N o167 (N o242 Z Z) (N o309 Z Z))))) (N o43 (N o55 (N o71 (N o106 (N o182 (N o321 Z Z) Z) (N o254 Z Z)) (N o144 (N o220 Z Z) (N o289 Z Z))) (N o90 (N o125 (N o201 Z Z) (N o270 Z Z)) (N o163 (N o236 Z Z) (N o305 Z Z)))) (N o63 (N o79 (N o117 (N o190 (N o329 Z Z) Z) (N o262 Z Z)) (N o155 (N o228 Z Z) (N o297 Z Z))) (N o98 (N o136 (N o209 Z Z) (N o278 Z Z)) (N o171 (N o246 Z Z) (N o313 Z Z)))))) (N b5 (N b9 (N o53 (N o69 (N o104 (N o180 (N o319 Z Z) Z) (N o252 Z Z)) (N o142 (N o215 Z Z) (N o287 Z Z))) (N o88 (N o123 (N o199 Z Z) (N o268 Z Z)) (N o161 (N o234 Z Z) (N o303 Z Z)))) (N o61 (N o77 (N o115 (N o188 (N o327 Z Z) Z) (N o260 Z Z)) (N o150 (N o226 Z Z) (N o295 Z Z))) (N o96 (N o134 (N o207 Z Z) (N o283 Z Z)) (N o169 (N o244 Z Z) (N o311 Z Z))))) (N o45 (N o57 (N o73 (N o111 (N o184 (N o323 Z Z) Z) (N o256 Z Z)) (N o146 (N o222 Z Z) (N o291 Z Z))) (N o92 (N o127 (N o203 Z Z) (N o272 Z Z)) (N o165 (N o238 Z Z) (N o307 Z Z)))) (N o65 (N o219 (N o119 (N o192 Z Z) (N o264 Z Z)) (N o157 (N o230 Z Z) (N o299 Z Z))) (N o100 (N o138 (N o211 Z Z) (N o280 Z Z)) (N o176 (N o248 Z Z) (N o315 Z Z))))))) (N b2 (N b4 (N b8 (N o52 (N o68 (N o103 (N o179 (N o318 Z Z) Z) (N o251 Z Z)) (N o141 (N o214 Z Z) (N o286 Z Z))) (N o84 (N o122 (N o198 Z Z) (N o267 Z Z)) (N o160 (N o233 Z Z) (N o302 Z Z)))) (N o60 (N o76 (N o114 (N o187 (N o326 Z Z) Z) (N o259 Z Z)) (N o149 (N o225 Z Z) (N o294 Z Z))) (N o95 (N o133 (N o206 Z Z) (N o275 Z Z)) (N o168 (N o243 Z Z) (N o310 Z Z))))) (N o282 (N o56 (N o72 (N o110 (N o183 (N o322 Z Z) Z) (N o255 Z Z)) (N o145 (N o221 Z Z) (N o290 Z Z))) (N o91 (N o126 (N o202 Z Z) (N o271 Z Z)) (N o164 (N o237 Z Z) (N o306 Z Z)))) (N o64 (N o80 (N o118 (N o191 Z Z) (N o263 Z Z)) (N o156 (N o229 Z Z) (N o298 Z Z))) (N o99 (N o137 (N o210 Z Z) (N o279 Z Z)) (N o172 (N o247 Z Z) (N o314 Z Z)))))) (N b6 (N b10 (N o54 (N o70 (N o105 (N o181 (N o320 Z Z) Z) (N o253 Z Z)) (N o143 (N o216 Z Z) (N o288 Z Z))) (N o89 (N o124 (N o200 Z Z) (N o269 Z Z)) (N o162 (N o235 Z Z) (N o304 Z Z)))) (N o62 (N o78 (N o116 (N o189 (N o328 Z Z) Z) (N o261 Z Z)) (N o154 (N o227 Z Z) (N o296 Z Z))) (N o97 (N o135 (N o208 Z Z) (N o277 Z Z)) (N o170 (N o245 Z Z) (N o312 Z Z))))) (N o46 (N o58 (N o74 (N o112 (N o185 (N o324 Z Z) Z) (N o257 Z Z)) (N o147 (N o223 Z Z) (N o292 Z Z))) (N o93 (N o128 (N o204 Z Z) (N o273 Z Z)) (N o166 (N o241 Z Z) (N o308 Z Z)))) (N o66 (N o82 (N o120 (N o193 Z Z) (N o265 Z Z)) (N o158 (N o231 Z Z) (N o300 Z Z))) (N o101 (N o139 (N o212 Z Z) (N o284 Z Z)) (N o177 (N o249 Z Z) (N o316 Z Z))))))))
def tree380:X->PySem.W.BT:=(N b0 (N b1 (N o330 (N b7 (N o51 (N o67 (N o102 (N o178 (N o317 Z Z) Z) (N o250 Z Z)) (N o140 (N o213 (N o352 Z Z) Z) (N o285 Z Z))) (N o83 (N o121 (N o194 (N o336 Z Z) Z) (N o266 Z Z)) (N o159 (N o232 (N o368 Z Z) Z) (N o301 Z Z)))) (N o59 (N o75 (N o113 (N o186 (N o325 Z Z) Z) (N o258 Z Z)) (N o148 (N o224 (N o360 Z Z) Z) (N o293 Z Z))) (N o94 (N o132 (N o205 (N o344 Z Z) Z) (N o274 Z Z)) (N o167 (N o242 (N o376 Z Z) Z) (N o309 Z Z))))) (N o43 (N o55 (N o71 (N o106 (N o182 (N o321 Z Z) Z) (N o254 Z Z)) (N o144 (N o220 (N o356 Z Z) Z) (N o289 Z Z))) (N o90 (N o125 (N o201 (N o340 Z Z) Z) (N o270 Z Z)) (N o163 (N o236 (N o372 Z Z) Z) (N o305 Z Z)))) (N o63 (N o79 (N o117 (N o190 (N o329 Z Z) Z) (N o262 Z Z)) (N o155 (N o228 (N o364 Z Z) Z) (N o297 Z Z))) (N o98 (N o136 (N o209 (N o348 Z Z) Z) (N o278 Z Z)) (N o171 (N o246 (N o380 Z Z) Z) (N o313 Z Z)))))) (N b5 (N b9 (N o53 (N o69 (N o104 (N o180 (N o319 Z Z) Z) (N o252 Z Z)) (N o142 (N o215 (N o354 Z Z) Z) (N o287 Z Z))) (N o88 (N o123 (N o199 (N o338 Z Z) Z) (N o268 Z Z)) (N o161 (N o234 (N o370 Z Z) Z) (N o303 Z Z)))) (N o61 (N o77 (N o115 (N o188 (N o327 Z Z) Z) (N o260 Z Z)) (N o150 (N o226 (N o362 Z Z) Z) (N o295 Z Z))) (N o96 (N o134 (N o207 (N o346 Z Z) Z) (N o332 Z Z)) (N o169 (N o244 (N o378 Z Z) Z) (N o311 Z Z))))) (N o45 (N o57 (N o73 (N o111 (N o184 (N o323 Z Z) Z) (N o256 Z Z)) (N o146 (N o222 (N o358 Z Z) Z) (N o291 Z Z))) (N o92 (N o127 (N o203 (N o342 Z Z) Z) (N o272 Z Z)) (N o165 (N o238 (N o374 Z Z) Z) (N o307 Z Z)))) (N o65 (N o219 (N o119 (N o192 (N o334 Z Z) Z) (N o264 Z Z)) (N o157 (N o230 (N o366 Z Z) Z) (N o299 Z Z))) (N o100 (N o138 (N o211 (N o350 Z Z) Z) (N o280 Z Z)) (N o176 (N o248 Z Z) (N o315 Z Z))))))) (N b2 (N b4 (N b8 (N o52 (N o68 (N o103 (N o179 (N o318 Z Z) Z) (N o251 Z Z)) (N o141 (N o214 (N o353 Z Z) Z) (N o286 Z Z))) (N o84 (N o122 (N o198 (N o337 Z Z) Z) (N o267 Z Z)) (N o160 (N o233 (N o369 Z Z) Z) (N o302 Z Z)))) (N o60 (N o76 (N o114 (N o187 (N o326 Z Z) Z) (N o259 Z Z)) (N o149 (N o225 (N o361 Z Z) Z) (N o294 Z Z))) (N o95 (N o133 (N o206 (N o345 Z Z) Z) (N o275 Z Z)) (N o168 (N o243 (N o377 Z Z) Z) (N o310 Z Z))))) (N o331 (N o56 (N o72 (N o110 (N o183 (N o322 Z Z) Z) (N o255 Z Z)) (N o145 (N o221 (N o357 Z Z) Z) (N o290 Z Z))) (N o91 (N o126 (N o202 (N o341 Z Z) Z) (N o271 Z Z)) (N o164 (N o237 (N o373 Z Z) Z) (N o306 Z Z)))) (N o64 (N o80 (N o118 (N o191 (N o333 Z Z) Z) (N o263 Z Z)) (N o156 (N o229 (N o365 Z Z) Z) (N o298 Z Z))) (N o99 (N o137 (N o210 (N o349 Z Z) Z) (N o279 Z Z)) (N o172 (N o247 Z Z) (N o314 Z Z)))))) (N b6 (N b10 (N o54 (N o70 (N o105 (N o181 (N o320 Z Z) Z) (N o253 Z Z)) (N o143 (N o216 (N o355 Z Z) Z) (N o288 Z Z))) (N o89 (N o124 (N o200 (N o339 Z Z) Z) (N o269 Z Z)) (N o162 (N o235 (N o371 Z Z) Z) (N o304 Z Z)))) (N o62 (N o78 (N o116 (N o189 (N o328 Z Z) Z) (N o261 Z Z)) (N o154 (N o227 (N o363 Z Z) Z) (N o296 Z Z))) (N o97 (N o135 (N o208 (N o347 Z Z) Z) (N o277 Z Z)) (N o170 (N o245 (N o379 Z Z) Z) (N o312 Z Z))))) (N o46 (N o58 (N o74 (N o112 (N o185 (N o324 Z Z) Z) (N o257 Z Z)) (N o147 (N o223 (N o359 Z Z) Z) (N o292 Z Z))) (N o93 (N o128 (N o204 (N o343 Z Z) Z) (N o273 Z Z)) (N o166 (N o241 (N o375 Z Z) Z) (N o308 Z Z)))) (N o66 (N o82 (N o120 (N o193 (N o335 Z Z) Z) (N o265 Z Z)) (N o158 (N o231 (N o367 Z Z) Z) (N o300 Z Z))) (N o101 (N o139 (N o212 (N o351 Z Z) Z) (N o284 Z Z)) (N o177 (N o249 Z Z) (N o316 Z Z))))))))
def tree394:X->PySem.W.BT:=(N b0 (N b1 (N o381 (N b7 (N o51 (N o67 (N o102 (N o178 (N o317 Z Z) Z) (N o250 (N o386 Z Z) Z)) (N o140 (N o213 (N o352 Z Z) Z) (N o285 Z Z))) (N o83 (N o121 (N o194 (N o336 Z Z) Z) (N o266 Z Z)) (N o159 (N o232 (N o368 Z Z) Z) (N o301 Z Z)))) (N o59 (N o75 (N o113 (N o186 (N o325 Z Z) Z) (N o258 (N o394 Z Z) Z)) (N o148 (N o224 (N o360 Z Z) Z) (N o293 Z Z))) (N o94 (N o132 (N o205 (N o344 Z Z) Z) (N o274 Z Z)) (N o167 (N o242 (N o376 Z Z) Z) (N o309 Z Z))))) (N o43 (N o55 (N o71 (N o106 (N o182 (N o321 Z Z) Z) (N o254 (N o390 Z Z) Z)) (N o144 (N o220 (N o356 Z Z) Z) (N o289 Z Z))) (N o90 (N o125 (N o201 (N o340 Z Z) Z) (N o270 Z Z)) (N o163 (N o236 (N o372 Z Z) Z) (N o305 Z Z)))) (N o63 (N o79 (N o117 (N o190 (N o329 Z Z) Z) (N o262 Z Z)) (N o155 (N o228 (N o364 Z Z) Z) (N o297 Z Z))) (N o98 (N o136 (N o209 (N o348 Z Z) Z) (N o278 Z Z)) (N o171 (N o246 (N o380 Z Z) Z) (N o313 Z Z)))))) (N b5 (N b9 (N o53 (N o69 (N o104 (N o180 (N o319 Z Z) Z) (N o252 (N o388 Z Z) Z)) (N o142 (N o215 (N o354 Z Z) Z) (N o287 Z Z))) (N o88 (N o123 (N o199 (N o338 Z Z) Z) (N o268 Z Z)) (N o161 (N o234 (N o370 Z Z) Z) (N o303 Z Z)))) (N o61 (N o77 (N o115 (N o188 (N o327 Z Z) Z) (N o260 Z Z)) (N o150 (N o226 (N o362 Z Z) Z) (N o295 Z Z))) (N o96 (N o134 (N o207 (N o346 Z Z) Z) (N o332 Z Z)) (N o169 (N o244 (N o378 Z Z) Z) (N o311 Z Z))))) (N o45 (N o57 (N o73 (N o111 (N o184 (N o323 Z Z) Z) (N o256 (N o392 Z Z) Z)) (N o146 (N o222 (N o358 Z Z) Z) (N o291 Z Z))) (N o92 (N o127 (N o203 (N o342 Z Z) Z) (N o272 Z Z)) (N o165 (N o238 (N o374 Z Z) Z) (N o307 Z Z)))) (N o65 (N o219 (N o119 (N o192 (N o334 Z Z) Z) (N o264 Z Z)) (N o157 (N o230 (N o366 Z Z) Z) (N o299 Z Z))) (N o100 (N o138 (N o211 (N o350 Z Z) Z) (N o280 Z Z)) (N o176 (N o248 (N o384 Z Z) Z) (N o315 Z Z))))))) (N b2 (N b4 (N b8 (N o52 (N o68 (N o103 (N o179 (N o318 Z Z) Z) (N o251 (N o387 Z Z) Z)) (N o141 (N o214 (N o353 Z Z) Z) (N o286 Z Z))) (N o84 (N o122 (N o198 (N o337 Z Z) Z) (N o267 Z Z)) (N o160 (N o233 (N o369 Z Z) Z) (N o302 Z Z)))) (N o60 (N o76 (N o114 (N o187 (N o326 Z Z) Z) (N o259 Z Z)) (N o149 (N o225 (N o361 Z Z) Z) (N o294 Z Z))) (N o95 (N o133 (N o206 (N o345 Z Z) Z) (N o275 Z Z)) (N o168 (N o243 (N o377 Z Z) Z) (N o310 Z Z))))) (N o382 (N o56 (N o72 (N o110 (N o183 (N o322 Z Z) Z) (N o255 (N o391 Z Z) Z)) (N o145 (N o221 (N o357 Z Z) Z) (N o290 Z Z))) (N o91 (N o126 (N o202 (N o341 Z Z) Z) (N o271 Z Z)) (N o164 (N o237 (N o373 Z Z) Z) (N o306 Z Z)))) (N o64 (N o80 (N o118 (N o191 (N o333 Z Z) Z) (N o263 Z Z)) (N o156 (N o229 (N o365 Z Z) Z) (N o298 Z Z))) (N o99 (N o137 (N o210 (N o349 Z Z) Z) (N o279 Z Z)) (N o172 (N o247 (N o383 Z Z) Z) (N o314 Z Z)))))) (N b6 (N b10 (N o54 (N o70 (N o105 (N o181 (N o320 Z Z) Z) (N o253 (N o389 Z Z) Z)) (N o143 (N o216 (N o355 Z Z) Z) (N o288 Z Z))) (N o89 (N o124 (N o200 (N o339 Z Z) Z) (N o269 Z Z)) (N o162 (N o235 (N o371 Z Z) Z) (N o304 Z Z)))) (N o62 (N o78 (N o116 (N o189 (N o328 Z Z) Z) (N o261 Z Z)) (N o154 (N o227 (N o363 Z Z) Z) (N o296 Z Z))) (N o97 (N o135 (N o208 (N o347 Z Z) Z) (N o277 Z Z)) (N o170 (N o245 (N o379 Z Z) Z) (N o312 Z Z))))) (N o46 (N o58 (N o74 (N o112 (N o185 (N o324 Z Z) Z) (N o257 (N o393 Z Z) Z)) (N o147 (N o223 (N o359 Z Z) Z) (N o292 Z Z))) (N o93 (N o128 (N o204 (N o343 Z Z) Z) (N o273 Z Z)) (N o166 (N o241 (N o375 Z Z) Z) (N o308 Z Z)))) (N o66 (N o82 (N o120 (N o193 (N o335 Z Z) Z) (N o265 Z Z)) (N o158 (N o231 (N o367 Z Z) Z) (N o300 Z Z))) (N o101 (N o139 (N o212 (N o351 Z Z) Z) (N o284 Z Z)) (N o177 (N o249 (N o385 Z Z) Z) (N o316 Z Z))))))))
def tree450:X->PySem.W.BT:=(N b0 (N b1 (N o395 (N b7 (N o51 (N o67 (N o102 (N o178 (N o317 Z Z) Z) (N o250 (N o386 Z Z) Z)) (N o140 (N o213 (N o352 Z Z) Z) (N o285 (N o420 Z Z) Z))) (N o83 (N o121 (N o194 (N o336 Z Z) Z) (N o266 (N o404 Z Z) Z)) (N o159 (N o232 (N o368 Z Z) Z) (N o301 (N o436 Z Z) Z)))) (N o59 (N o75 (N o113 (N o186 (N o325 Z Z) Z) (N o258 (N o394 Z Z) Z)) (N o148 (N o224 (N o360 Z Z) Z) (N o293 (N o428 Z Z) Z))) (N o94 (N o132 (N o205 (N o344 Z Z) Z) (N o274 (N o412 Z Z) Z)) (N o167 (N o242 (N o376 Z Z) Z) (N o309 (N o444 Z Z) Z))))) (N o43 (N o55 (N o71 (N o106 (N o182 (N o321 Z Z) Z) (N o254 (N o390 Z Z) Z)) (N o144 (N o220 (N o356 Z Z) Z) (N o289 (N o424 Z Z) Z))) (N o90 (N o125 (N o201 (N o340 Z Z) Z) (N o270 (N o408 Z Z) Z)) (N o163 (N o236 (N o372 Z Z) Z) (N o305 (N o440 Z Z) Z)))) (N o63 (N o79 (N o117 (N o190 (N o329 Z Z) Z) (N o262 (N o400 Z Z) Z)) (N o155 (N o228 (N o364 Z Z) Z) (N o297 (N o432 Z Z) Z))) (N o98 (N o136 (N o209 (N o348 Z Z) Z) (N o278 (N o416 Z Z) Z)) (N o171 (N o246 (N o380 Z Z) Z) (N o313 (N o448 Z Z) Z)))))) (N b5 (N b9 (N o53 (N o69 (N o104 (N o180 (N o319 Z Z) Z) (N o252 (N o388 Z Z) Z)) (N o142 (N o215 (N o354 Z Z) Z) (N o287 (N o422 Z Z) Z))) (N o88 (N o123 (N o199 (N o338 Z Z) Z) (N o268 (N o406 Z Z) Z)) (N o161 (N o234 (N o370 Z Z) Z) (N o303 (N o438 Z Z) Z)))) (N o61 (N o77 (N o115 (N o188 (N o327 Z Z) Z) (N o260 (N o398 Z Z) Z)) (N o150 (N o226 (N o362 Z Z) Z) (N o295 (N o430 Z Z) Z))) (N o96 (N o134 (N o207 (N o346 Z Z) Z) (N o332 (N o414 Z Z) Z)) (N o169 (N o244 (N o378 Z Z) Z) (N o311 (N o446 Z Z) Z))))) (N o45 (N o57 (N o73 (N o111 (N o184 (N o323 Z Z) Z) (N o256 (N o392 Z Z) Z)) (N o146 (N o222 (N o358 Z Z) Z) (N o291 (N o426 Z Z) Z))) (N o92 (N o127 (N o203 (N o342 Z Z) Z) (N o272 (N o410 Z Z) Z)) (N o165 (N o238 (N o374 Z Z) Z) (N o307 (N o442 Z Z) Z)))) (N o65 (N o219 (N o119 (N o192 (N o334 Z Z) Z) (N o264 (N o402 Z Z) Z)) (N o157 (N o230 (N o366 Z Z) Z) (N o299 (N o434 Z Z) Z))) (N o100 (N o138 (N o211 (N o350 Z Z) Z) (N o280 (N o418 Z Z) Z)) (N o176 (N o248 (N o384 Z Z) Z) (N o315 (N o450 Z Z) Z))))))) (N b2 (N b4 (N b8 (N o52 (N o68 (N o103 (N o179 (N o318 Z Z) Z) (N o251 (N o387 Z Z) Z)) (N o141 (N o214 (N o353 Z Z) Z) (N o286 (N o421 Z Z) Z))) (N o84 (N o122 (N o198 (N o337 Z Z) Z) (N o267 (N o405 Z Z) Z)) (N o160 (N o233 (N o369 Z Z) Z) (N o302 (N o437 Z Z) Z)))) (N o60 (N o76 (N o114 (N o187 (N o326 Z Z) Z) (N o259 (N o397 Z Z) Z)) (N o149 (N o225 (N o361 Z Z) Z) (N o294 (N o429 Z Z) Z))) (N o95 (N o133 (N o206 (N o345 Z Z) Z) (N o275 (N o413 Z Z) Z)) (N o168 (N o243 (N o377 Z Z) Z) (N o310 (N o445 Z Z) Z))))) (N o396 (N o56 (N o72 (N o110 (N o183 (N o322 Z Z) Z) (N o255 (N o391 Z Z) Z)) (N o145 (N o221 (N o357 Z Z) Z) (N o290 (N o425 Z Z) Z))) (N o91 (N o126 (N o202 (N o341 Z Z) Z) (N o271 (N o409 Z Z) Z)) (N o164 (N o237 (N o373 Z Z) Z) (N o306 (N o441 Z Z) Z)))) (N o64 (N o80 (N o118 (N o191 (N o333 Z Z) Z) (N o263 (N o401 Z Z) Z)) (N o156 (N o229 (N o365 Z Z) Z) (N o298 (N o433 Z Z) Z))) (N o99 (N o137 (N o210 (N o349 Z Z) Z) (N o279 (N o417 Z Z) Z)) (N o172 (N o247 (N o383 Z Z) Z) (N o314 (N o449 Z Z) Z)))))) (N b6 (N b10 (N o54 (N o70 (N o105 (N o181 (N o320 Z Z) Z) (N o253 (N o389 Z Z) Z)) (N o143 (N o216 (N o355 Z Z) Z) (N o288 (N o423 Z Z) Z))) (N o89 (N o124 (N o200 (N o339 Z Z) Z) (N o269 (N o407 Z Z) Z)) (N o162 (N o235 (N o371 Z Z) Z) (N o304 (N o439 Z Z) Z)))) (N o62 (N o78 (N o116 (N o189 (N o328 Z Z) Z) (N o261 (N o399 Z Z) Z)) (N o154 (N o227 (N o363 Z Z) Z) (N o296 (N o431 Z Z) Z))) (N o97 (N o135 (N o208 (N o347 Z Z) Z) (N o277 (N o415 Z Z) Z)) (N o170 (N o245 (N o379 Z Z) Z) (N o312 (N o447 Z Z) Z))))) (N o46 (N o58 (N o74 (N o112 (N o185 (N o324 Z Z) Z) (N o257 (N o393 Z Z) Z)) (N o147 (N o223 (N o359 Z Z) Z) (N o292 (N o427 Z Z) Z))) (N o93 (N o128 (N o204 (N o343 Z Z) Z) (N o273 (N o411 Z Z) Z)) (N o166 (N o241 (N o375 Z Z) Z) (N o308 (N o443 Z Z) Z)))) (N o66 (N o82 (N o120 (N o193 (N o335 Z Z) Z) (N o265 (N o403 Z Z) Z)) (N o158 (N o231 (N o367 Z Z) Z) (N o300 (N o435 Z Z) Z))) (N o101 (N o139 (N o212 (N o351 Z Z) Z) (N o284 (N o419 Z Z) Z)) (N o177 (N o249 (N o385 Z Z) Z) (N o316 Z Z))))))))
def tree516:X->PySem.W.BT:=(N b0 (N b1 (N o451 (N b7 (N o51 (N o67 (N o102 (N o178 (N o317 Z Z) (N o454 Z Z)) (N o250 (N o386 Z Z) Z)) (N o140 (N o213 (N o352 Z Z) (N o486 Z Z)) (N o285 (N o420 Z Z) Z))) (N o83 (N o121 (N o194 (N o336 Z Z) (N o470 Z Z)) (N o266 (N o404 Z Z) Z)) (N o159 (N o232 (N o368 Z Z) (N o502 Z Z)) (N o301 (N o436 Z Z) Z)))) (N o59 (N o75 (N o113 (N o186 (N o325 Z Z) (N o462 Z Z)) (N o258 (N o394 Z Z) Z)) (N o148 (N o224 (N o360 Z Z) (N o494 Z Z)) (N o293 (N o428 Z Z) Z))) (N o94 (N o132 (N o205 (N o344 Z Z) (N o478 Z Z)) (N o274 (N o412 Z Z) Z)) (N o167 (N o242 (N o376 Z Z) (N o510 Z Z)) (N o309 (N o444 Z Z) Z))))) (N o43 (N o55 (N o71 (N o106 (N o182 (N o321 Z Z) (N o458 Z Z)) (N o254 (N o390 Z Z) Z)) (N o144 (N o220 (N o356 Z Z) (N o490 Z Z)) (N o289 (N o424 Z Z) Z))) (N o90 (N o125 (N o201 (N o340 Z Z) (N o474 Z Z)) (N o270 (N o408 Z Z) Z)) (N o163 (N o236 (N o372 Z Z) (N o506 Z Z)) (N o305 (N o440 Z Z) Z)))) (N o63 (N o79 (N o117 (N o190 (N o329 Z Z) (N o466 Z Z)) (N o262 (N o400 Z Z) Z)) (N o155 (N o228 (N o364 Z Z) (N o498 Z Z)) (N o297 (N o432 Z Z) Z))) (N o98 (N o136 (N o209 (N o348 Z Z) (N o482 Z Z)) (N o278 (N o416 Z Z) Z)) (N o171 (N o246 (N o380 Z Z) (N o514 Z Z)) (N o313 (N o448 Z Z) Z)))))) (N b5 (N b9 (N o53 (N o69 (N o104 (N o180 (N o319 Z Z) (N o456 Z Z)) (N o252 (N o388 Z Z) Z)) (N o142 (N o215 (N o354 Z Z) (N o488 Z Z)) (N o287 (N o422 Z Z) Z))) (N o88 (N o123 (N o199 (N o338 Z Z) (N o472 Z Z)) (N o268 (N o406 Z Z) Z)) (N o161 (N o234 (N o370 Z Z) (N o504 Z Z)) (N o303 (N o438 Z Z) Z)))) (N o61 (N o77 (N o115 (N o188 (N o327 Z Z) (N o464 Z Z)) (N o260 (N o398 Z Z) Z)) (N o150 (N o226 (N o362 Z Z) (N o496 Z Z)) (N o295 (N o430 Z Z) Z))) (N o96 (N o134 (N o207 (N o346 Z Z) (N o480 Z Z)) (N o332 (N o414 Z Z) Z)) (N o169 (N o244 (N o378 Z Z) (N o512 Z Z)) (N o311 (N o446 Z Z) Z))))) (N o45 (N o57 (N o73 (N o111 (N o184 (N o323 Z Z) (N o460 Z Z)) (N o256 (N o392 Z Z) Z)) (N o146 (N o222 (N o358 Z Z) (N o492 Z Z)) (N o291 (N o426 Z Z) Z))) (N o92 (N o127 (N o203 (N o342 Z Z) (N o476 Z Z)) (N o272 (N o410 Z Z) Z)) (N o165 (N o238 (N o374 Z Z) (N o508 Z Z)) (N o307 (N o442 Z Z) Z)))) (N o65 (N o219 (N o119 (N o192 (N o334 Z Z) (N o468 Z Z)) (N o264 (N o402 Z Z) Z)) (N o157 (N o230 (N o366 Z Z) (N o500 Z Z)) (N o299 (N o434 Z Z) Z))) (N o100 (N o138 (N o211 (N o350 Z Z) (N o484 Z Z)) (N o280 (N o418 Z Z) Z)) (N o176 (N o248 (N o384 Z Z) (N o516 Z Z)) (N o315 (N o450 Z Z) Z))))))) (N b2 (N b4 (N b8 (N o52 (N o68 (N o103 (N o179 (N o318 Z Z) (N o455 Z Z)) (N o251 (N o387 Z Z) Z)) (N o141 (N o214 (N o353 Z Z) (N o487 Z Z)) (N o286 (N o421 Z Z) Z))) (N o84 (N o122 (N o198 (N o337 Z Z) (N o471 Z Z)) (N o267 (N o405 Z Z) Z)) (N o160 (N o233 (N o369 Z Z) (N o503 Z Z)) (N o302 (N o437 Z Z) Z)))) (N o60 (N o76 (N o114 (N o187 (N o326 Z Z) (N o463 Z Z)) (N o259 (N o397 Z Z) Z)) (N o149 (N o225 (N o361 Z Z) (N o495 Z Z)) (N o294 (N o429 Z Z) Z))) (N o95 (N o133 (N o206 (N o345 Z Z) (N o479 Z Z)) (N o275 (N o413 Z Z) Z)) (N o168 (N o243 (N o377 Z Z) (N o511 Z Z)) (N o310 (N o445 Z Z) Z))))) (N o452 (N o56 (N o72 (N o110 (N o183 (N o322 Z Z) (N o459 Z Z)) (N o255 (N o391 Z Z) Z)) (N o145 (N o221 (N o357 Z Z) (N o491 Z Z)) (N o290 (N o425 Z Z) Z))) (N o91 (N o126 (N o202 (N o341 Z Z) (N o475 Z Z)) (N o271 (N o409 Z Z) Z)) (N o164 (N o237 (N o373 Z Z) (N o507 Z Z)) (N o306 (N o441 Z Z) Z)))) (N o64 (N o80 (N o118 (N o191 (N o333 Z Z) (N o467 Z Z)) (N o263 (N o401 Z Z) Z)) (N o156 (N o229 (N o365 Z Z) (N o499 Z Z)) (N o298 (N o433 Z Z) Z))) (N o99 (N o137 (N o210 (N o349 Z Z) (N o483 Z Z)) (N o279 (N o417 Z Z) Z)) (N o172 (N o247 (N o383 Z Z) (N o515 Z Z)) (N o314 (N o449 Z Z) Z)))))) (N b6 (N b10 (N o54 (N o70 (N o105 (N o181 (N o320 Z Z) (N o457 Z Z)) (N o253 (N o389 Z Z) Z)) (N o143 (N o216 (N o355 Z Z) (N o489 Z Z)) (N o288 (N o423 Z Z) Z))) (N o89 (N o124 (N o200 (N o339 Z Z) (N o473 Z Z)) (N o269 (N o407 Z Z) Z)) (N o162 (N o235 (N o371 Z Z) (N o505 Z Z)) (N o304 (N o439 Z Z) Z)))) (N o62 (N o78 (N o116 (N o189 (N o328 Z Z) (N o465 Z Z)) (N o261 (N o399 Z Z) Z)) (N o154 (N o227 (N o363 Z Z) (N o497 Z Z)) (N o296 (N o431 Z Z) Z))) (N o97 (N o135 (N o208 (N o347 Z Z) (N o481 Z Z)) (N o277 (N o415 Z Z) Z)) (N o170 (N o245 (N o379 Z Z) (N o513 Z Z)) (N o312 (N o447 Z Z) Z))))) (N o46 (N o58 (N o74 (N o112 (N o185 (N o324 Z Z) (N o461 Z Z)) (N o257 (N o393 Z Z) Z)) (N o147 (N o223 (N o359 Z Z) (N o493 Z Z)) (N o292 (N o427 Z Z) Z))) (N o93 (N o128 (N o204 (N o343 Z Z) (N o477 Z Z)) (N o273 (N o411 Z Z) Z)) (N o166 (N o241 (N o375 Z Z) (N o509 Z Z)) (N o308 (N o443 Z Z) Z)))) (N o66 (N o82 (N o120 (N o193 (N o335 Z Z) (N o469 Z Z)) (N o265 (N o403 Z Z) Z)) (N o158 (N o231 (N o367 Z Z) (N o501 Z Z)) (N o300 (N o435 Z Z) Z))) (N o101 (N o139 (N o212 (N o351 Z Z) (N o485 Z Z)) (N o284 (N o419 Z Z) Z)) (N o177 (N o249 (N o385 Z Z) Z) (N o316 (N o453 Z Z) Z))))))))
def tree570:X->PySem.W.BT:=(N b0 (N b1 (N o519 (N b7 (N o51 (N o67 (N o102 (N o178 (N o317 Z Z) (N o454 Z Z)) (N o250 (N o386 Z Z) (N o522 Z Z))) (N o140 (N o213 (N o352 Z Z) (N o486 Z Z)) (N o285 (N o420 Z Z) (N o554 Z Z)))) (N o83 (N o121 (N o194 (N o336 Z Z) (N o470 Z Z)) (N o266 (N o404 Z Z) (N o538 Z Z))) (N o159 (N o232 (N o368 Z Z) (N o502 Z Z)) (N o301 (N o436 Z Z) (N o570 Z Z))))) (N o59 (N o75 (N o113 (N o186 (N o325 Z Z) (N o462 Z Z)) (N o258 (N o394 Z Z) (N o530 Z Z))) (N o148 (N o224 (N o360 Z Z) (N o494 Z Z)) (N o293 (N o428 Z Z) (N o562 Z Z)))) (N o94 (N o132 (N o205 (N o344 Z Z) (N o478 Z Z)) (N o274 (N o412 Z Z) (N o546 Z Z))) (N o167 (N o242 (N o376 Z Z) (N o510 Z Z)) (N o309 (N o444 Z Z) Z))))) (N o43 (N o55 (N o71 (N o106 (N o182 (N o321 Z Z) (N o458 Z Z)) (N o254 (N o390 Z Z) (N o526 Z Z))) (N o144 (N o220 (N o356 Z Z) (N o490 Z Z)) (N o289 (N o424 Z Z) (N o558 Z Z)))) (N o90 (N o125 (N o201 (N o340 Z Z) (N o474 Z Z)) (N o270 (N o408 Z Z) (N o542 Z Z))) (N o163 (N o236 (N o372 Z Z) (N o506 Z Z)) (N o305 (N o440 Z Z) Z)))) (N o63 (N o79 (N o117 (N o190 (N o329 Z Z) (N o466 Z Z)) (N o262 (N o400 Z Z) (N o534 Z Z))) (N o155 (N o228 (N o364 Z Z) (N o498 Z Z)) (N o297 (N o432 Z Z) (N o566 Z Z)))) (N o98 (N o136 (N o209 (N o348 Z Z) (N o482 Z Z)) (N o278 (N o416 Z Z) (N o550 Z Z))) (N o171 (N o246 (N o380 Z Z) (N o514 Z Z)) (N o313 (N o448 Z Z) Z)))))) (N b5 (N b9 (N o53 (N o69 (N o104 (N o180 (N o319 Z Z) (N o456 Z Z)) (N o252 (N o388 Z Z) (N o524 Z Z))) (N o142 (N o215 (N o354 Z Z) (N o488 Z Z)) (N o287 (N o422 Z Z) (N o556 Z Z)))) (N o88 (N o123 (N o199 (N o338 Z Z) (N o472 Z Z)) (N o268 (N o406 Z Z) (N o540 Z Z))) (N o161 (N o234 (N o370 Z Z) (N o504 Z Z)) (N o303 (N o438 Z Z) Z)))) (N o61 (N o77 (N o115 (N o188 (N o327 Z Z) (N o464 Z Z)) (N o260 (N o398 Z Z) (N o532 Z Z))) (N o150 (N o226 (N o362 Z Z) (N o496 Z Z)) (N o295 (N o430 Z Z) (N o564 Z Z)))) (N o96 (N o134 (N o207 (N o346 Z Z) (N o480 Z Z)) (N o332 (N o414 Z Z) (N o548 Z Z))) (N o169 (N o244 (N o378 Z Z) (N o512 Z Z)) (N o311 (N o446 Z Z) Z))))) (N o45 (N o57 (N o73 (N o111 (N o184 (N o323 Z Z) (N o460 Z Z)) (N o256 (N o392 Z Z) (N o528 Z Z))) (N o146 (N o222 (N o358 Z Z) (N o492 Z Z)) (N o291 (N o426 Z Z) (N o560 Z Z)))) (N o92 (N o127 (N o203 (N o342 Z Z) (N o476 Z Z)) (N o272 (N o410 Z Z) (N o544 Z Z))) (N o165 (N o238 (N o374 Z Z) (N o508 Z Z)) (N o307 (N o442 Z Z) Z)))) (N o65 (N o219 (N o119 (N o192 (N o334 Z Z) (N o468 Z Z)) (N o264 (N o402 Z Z) (N o536 Z Z))) (N o157 (N o230 (N o366 Z Z) (N o500 Z Z)) (N o299 (N o434 Z Z) (N o568 Z Z)))) (N o100 (N o138 (N o211 (N o350 Z Z) (N o484 Z Z)) (N o280 (N o418 Z Z) (N o552 Z Z))) (N o176 (N o248 (N o384 Z Z) (N o516 Z Z)) (N o315 (N o450 Z Z) Z))))))) (N b2 (N b4 (N b8 (N o52 (N o68 (N o103 (N o179 (N o318 Z Z) (N o455 Z Z)) (N o251 (N o387 Z Z) (N o523 Z Z))) (N o141 (N o214 (N o353 Z Z) (N o487 Z Z)) (N o286 (N o421 Z Z) (N o555 Z Z)))) (N o84 (N o122 (N o198 (N o337 Z Z) (N o471 Z Z)) (N o267 (N o405 Z Z) (N o539 Z Z))) (N o160 (N o233 (N o369 Z Z) (N o503 Z Z)) (N o302 (N o437 Z Z) Z)))) (N o60 (N o76 (N o114 (N o187 (N o326 Z Z) (N o463 Z Z)) (N o259 (N o397 Z Z) (N o531 Z Z))) (N o149 (N o225 (N o361 Z Z) (N o495 Z Z)) (N o294 (N o429 Z Z) (N o563 Z Z)))) (N o95 (N o133 (N o206 (N o345 Z Z) (N o479 Z Z)) (N o275 (N o413 Z Z) (N o547 Z Z))) (N o168 (N o243 (N o377 Z Z) (N o511 Z Z)) (N o310 (N o445 Z Z) Z))))) (N o520 (N o56 (N o72 (N o110 (N o183 (N o322 Z Z) (N o459 Z Z)) (N o255 (N o391 Z Z) (N o527 Z Z))) (N o145 (N o221 (N o357 Z Z) (N o491 Z Z)) (N o290 (N o425 Z Z) (N o559 Z Z)))) (N o91 (N o126 (N o202 (N o341 Z Z) (N o475 Z Z)) (N o271 (N o409 Z Z) (N o543 Z Z))) (N o164 (N o237 (N o373 Z Z) (N o507 Z Z)) (N o306 (N o441 Z Z) Z)))) (N o64 (N o80 (N o118 (N o191 (N o333 Z Z) (N o467 Z Z)) (N o263 (N o401 Z Z) (N o535 Z Z))) (N o156 (N o229 (N o365 Z Z) (N o499 Z Z)) (N o298 (N o433 Z Z) (N o567 Z Z)))) (N o99 (N o137 (N o210 (N o349 Z Z) (N o483 Z Z)) (N o279 (N o417 Z Z) (N o551 Z Z))) (N o172 (N o247 (N o383 Z Z) (N o515 Z Z)) (N o314 (N o449 Z Z) Z)))))) (N b6 (N b10 (N o54 (N o70 (N o105 (N o181 (N o320 Z Z) (N o457 Z Z)) (N o253 (N o389 Z Z) (N o525 Z Z))) (N o143 (N o216 (N o355 Z Z) (N o489 Z Z)) (N o288 (N o423 Z Z) (N o557 Z Z)))) (N o89 (N o124 (N o200 (N o339 Z Z) (N o473 Z Z)) (N o269 (N o407 Z Z) (N o541 Z Z))) (N o162 (N o235 (N o371 Z Z) (N o505 Z Z)) (N o304 (N o439 Z Z) Z)))) (N o62 (N o78 (N o116 (N o189 (N o328 Z Z) (N o465 Z Z)) (N o261 (N o399 Z Z) (N o533 Z Z))) (N o154 (N o227 (N o363 Z Z) (N o497 Z Z)) (N o296 (N o431 Z Z) (N o565 Z Z)))) (N o97 (N o135 (N o208 (N o347 Z Z) (N o481 Z Z)) (N o277 (N o415 Z Z) (N o549 Z Z))) (N o170 (N o245 (N o379 Z Z) (N o513 Z Z)) (N o312 (N o447 Z Z) Z))))) (N o46 (N o58 (N o74 (N o112 (N o185 (N o324 Z Z) (N o461 Z Z)) (N o257 (N o393 Z Z) (N o529 Z Z))) (N o147 (N o223 (N o359 Z Z) (N o493 Z Z)) (N o292 (N o427 Z Z) (N o561 Z Z)))) (N o93 (N o128 (N o204 (N o343 Z Z) (N o477 Z Z)) (N o273 (N o411 Z Z) (N o545 Z Z))) (N o166 (N o241 (N o375 Z Z) (N o509 Z Z)) (N o308 (N o443 Z Z) Z)))) (N o66 (N o82 (N o120 (N o193 (N o335 Z Z) (N o469 Z Z)) (N o265 (N o403 Z Z) (N o537 Z Z))) (N o158 (N o231 (N o367 Z Z) (N o501 Z Z)) (N o300 (N o435 Z Z) (N o569 Z Z)))) (N o101 (N o139 (N o212 (N o351 Z Z) (N o485 Z Z)) (N o284 (N o419 Z Z) (N o553 Z Z))) (N o177 (N o249 (N o385 Z Z) (N o521 Z Z)) (N o316 (N o453 Z Z) Z))))))))
def heap571:X->PySem.Heap:=fun x=>u39 (u40 ((Q b0 (Q b1 (Q b2 (Q o519 (Q b4 (Q b5 (Q b6 (Q b7 (Q b8 (Q b9 (Q b10 (Q o43 (Q o520 (Q o45 (Q o46 (Q o51 (Q o52 (Q o53 (Q o54 (Q o55 (Q o56 (Q o57 (Q o58 (Q o59 (Q o60 (Q o61 (Q o62 (Q o63 (Q o64 (Q o65 (Q o66 (Q o67 (Q o68 (Q o69 (Q o70 (Q o71 (Q o72 (Q o73 (Q o74 (Q o75 (Q o76 (Q o77 (Q o78 (Q o79 (Q o80 (Q o219 (Q o82 (Q o83 (Q o84 (Q o88 (Q o89 (Q o90 (Q o91 (Q o92 (Q o93 (Q o94 (Q o95 (Q o96 (Q o97 (Q o98 (Q o99 (Q o100 (Q o101 (Q o102 (Q o103 (Q o104 (Q o105 (Q o106 (Q o110 (Q o111 (Q o112 (Q o113 (Q o114 (Q o115 (Q o116 (Q o117 (Q o118 (Q o119 (Q o120 (Q o121 (Q o122 (Q o123 (Q o124 (Q o125 (Q o126 (Q o127 (Q o128 (Q o132 (Q o133 (Q o134 (Q o135 (Q o136 (Q o137 (Q o138 (Q o139 (Q o140 (Q o141 (Q o142 (Q o143 (Q o144 (Q o145 (Q o146 (Q o147 (Q o148 (Q o149 (Q o150 (Q o154 (Q o155 (Q o156 (Q o157 (Q o158 (Q o159 (Q o160 (Q o161 (Q o162 (Q o163 (Q o164 (Q o165 (Q o166 (Q o167 (Q o168 (Q o169 (Q o170 (Q o171 (Q o172 (Q o176 (Q o177 (Q o178 (Q o179 (Q o180 (Q o181 (Q o182 (Q o183 (Q o184 (Q o185 (Q o186 (Q o187 (Q o188 (Q o189 (Q o190 (Q o191 (Q o192 (Q o193 (Q o194 (Q o198 (Q o199 (Q o200 (Q o201 (Q o202 (Q o203 (Q o204 (Q o205 (Q o206 (Q o207 (Q o208 (Q o209 (Q o210 (Q o211 (Q o212 (Q o213 (Q o214 (Q o215 (Q o216 (Q o220 (Q o221 (Q o222 (Q o223 (Q o224 (Q o225 (Q o226 (Q o227 (Q o228 (Q o229 (Q o230 (Q o231 (Q o232 (Q o233 (Q o234 (Q o235 (Q o236 (Q o237 (Q o238 (Q o241 (Q o242 (Q o243 (Q o244 (Q o245 (Q o246 (Q o247 (Q o248 (Q o249 (Q o250 (Q o251 (Q o252 (Q o253 (Q o254 (Q o255 (Q o256 (Q o257 (Q o258 (Q o259 (Q o260 (Q o261 (Q o262 (Q o263 (Q o264 (Q o265 (Q o266 (Q o267 (Q o268 (Q o269 (Q o270 (Q o271 (Q o272 (Q o273 (Q o274 (Q o275 (Q o332 (Q o277 (Q o278 (Q o279 (Q o280 (Q o284 (Q o285 (Q o286 (Q o287 (Q o288 (Q o289 (Q o290 (Q o291 (Q o292 (Q o293 (Q o294 (Q o295 (Q o296 (Q o297 (Q o298 (Q o299 (Q o300 (Q o301 (Q o302 (Q o303 (Q o304 (Q o305 (Q o306 (Q o307 (Q o308 (Q o309 (Q o310 (Q o311 (Q o312 (Q o313 (Q o314 (Q o315 (Q o316 (Q o317 (Q o318 (Q o319 (Q o320 (Q o321 (Q o322 (Q o323 (Q o324 (Q o325 (Q o326 (Q o327 (Q o328 (Q o329 (Q o333 (Q o334 (Q o335 (Q o336 (Q o337 (Q o338 (Q o339 (Q o340 (Q o341 (Q o342 (Q o343 (Q o344 (Q o345 (Q o346 (Q o347 (Q o348 (Q o349 (Q o350 (Q o351 (Q o352 (Q o353 (Q o354 (Q o355 (Q o356 (Q o357 (Q o358 (Q o359 (Q o360 (Q o361 (Q o362 (Q o363 (Q o364 (Q o365 (Q o366 (Q o367 (Q o368 (Q o369 (Q o370 (Q o371 (Q o372 (Q o373 (Q o374 (Q o375 (Q o376 (Q o377 (Q o378 (Q o379 (Q o380 (Q o383 (Q o384 (Q o385 (Q o386 (Q o387 (Q o388 (Q o389 (Q o390 (Q o391 (Q o392 (Q o393 (Q o394 (Q o397 (Q o398 (Q o399 (Q o400 (Q o401 (Q o402 (Q o403 (Q o404 (Q o405 (Q o406 (Q o407 (Q o408 (Q o409 (Q o410 (Q o411 (Q o412 (Q o413 (Q o414 (Q o415 (Q o416 (Q o417 (Q o418 (Q o419 (Q o420 (Q o421 (Q o422 (Q o423 (Q o424 (Q o425 (Q o426 (Q o427 (Q o428 (Q o429 (Q o430 (Q o431 (Q o432 (Q o433 (Q o434 (Q o435 (Q o436 (Q o437 (Q o438 (Q o439 (Q o440 (Q o441 (Q o442 (Q o443 (Q o444 (Q o445 (Q o446 (Q o447 (Q o448 (Q o449 (Q o450 (Q o453 (Q o454 (Q o455 (Q o456 (Q o457 (Q o458 (Q o459 (Q o460 (Q o461 (Q o462 (Q o463 (Q o464 (Q o465 (Q o466 (Q o467 (Q o468 (Q o469 (Q o470 (Q o471 (Q o472 (Q o473 (Q o474 (Q o475 (Q o476 (Q o477 (Q o478 (Q o479 (Q o480 (Q o481 (Q o482 (Q o483 (Q o484 (Q o485 (Q o486 (Q o487 (Q o488 (Q o489 (Q o490 (Q o491 (Q o492 (Q o493 (Q o494 (Q o495 (Q o496 (Q o497 (Q o498 (Q o499 (Q o500 (Q o501 (Q o502 (Q o503 (Q o504 (Q o505 (Q o506 (Q o507 (Q o508 (Q o509 (Q o510 (Q o511 (Q o512 (Q o513 (Q o514 (Q o515 (Q o516 (Q o521 (Q o522 (Q o523 (Q o524 (Q o525 (Q o526 (Q o527 (Q o528 (Q o529 (Q o530 (Q o531 (Q o532 (Q o533 (Q o534 (Q o535 (Q o536 (Q o537 (Q o538 (Q o539 (Q o540 (Q o541 (Q o542 (Q o543 (Q o544 (Q o545 (Q o546 (Q o547 (Q o548 (Q o549 (Q o550 (Q o551 (Q o552 (Q o553 (Q o554 (Q o555 (Q o556 (Q o557 (Q o558 (Q o559 (Q o560 (Q o561 (Q o562 (Q o563 (Q o564 (Q o565 (Q o566 (Q o567 (Q o568 (Q o569 (Q o570 R)))))))))))))))))))))))))))))))))))))))))))))))))))))))))))))))))))))))))))))))))))))))))))))))))))))))))))))))))))))))))))))))))))))))))))))))))))))))))))))))))))))))))))))))))))))))))))))))))))))))))))))))))))))))))))))))))))))))))))))))))))))))))))))))))))))))))))))))))))))))))))))))))))))))))))))))))))))))))))))))))))))))))))))))))))))))))))))))))))))))))))))))))))))))))))))))))))))))))))))))))))))))))))))))))))))))))))))))))))))))))))))))))))))))))))))))))))))))))))))))))))))))))))))))) x)) (u43 u44 u44 u44 0 u45 u44 u15 (u46 u44) u44 0 u15 u15 u15 0 [2000,10,10] u15 0 u31 u44 u44 0 u15)
end
end Hd
noncomputable def PySem.W.Fast.tw5471099308694629467:PySem.Params->PySem.W.Frag:=fun P=>Hd.heap39 (PySem.W.Fast.tw13745409909519247493,P)
theorem PySem.W.Fast.te5471099308694629467:(fun P=>Hd.heap39 (Hd.hs,P)) = PySem.W.Fast.tw5471099308694629467:=congrArg (fun σ P=>Hd.heap39 (σ,P)) PySem.W.Fast.te13745409909519247493
noncomputable def PySem.W.Fast.tw4441671828118974531:PySem.Params->PySem.Heap:=fun P=>Hd.heap46 (PySem.W.Fast.tw13745409909519247493,P)
theorem PySem.W.Fast.te4441671828118974531:(fun P=>Hd.heap46 (Hd.hs,P)) = PySem.W.Fast.tw4441671828118974531:=congrArg (fun σ P=>Hd.heap46 (σ,P)) PySem.W.Fast.te13745409909519247493
noncomputable def PySem.W.Fast.tw9102423820145842769:PySem.Params->PySem.W.BT:=fun P=>Hd.tree47 (PySem.W.Fast.tw13745409909519247493,P)
theorem PySem.W.Fast.te9102423820145842769:(fun P=>Hd.tree47 (Hd.hs,P)) = PySem.W.Fast.tw9102423820145842769:=congrArg (fun σ P=>Hd.tree47 (σ,P)) PySem.W.Fast.te13745409909519247493
noncomputable def PySem.W.Fast.tw13957055156108318041:PySem.Params->PySem.W.BT:=fun P=>Hd.tree84 (PySem.W.Fast.tw13745409909519247493,P)
theorem PySem.W.Fast.te13957055156108318041:(fun P=>Hd.tree84 (Hd.hs,P)) = PySem.W.Fast.tw13957055156108318041:=congrArg (fun σ P=>Hd.tree84 (σ,P)) PySem.W.Fast.te13745409909519247493
noncomputable def PySem.W.Fast.tw15888119368859751097:PySem.Params->PySem.W.BT:=fun P=>Hd.tree106 (PySem.W.Fast.tw13745409909519247493,P)
theorem PySem.W.Fast.te15888119368859751097:(fun P=>Hd.tree106 (Hd.hs,P)) = PySem.W.Fast.tw15888119368859751097:=congrArg (fun σ P=>Hd.tree106 (σ,P)) PySem.W.Fast.te13745409909519247493
noncomputable def PySem.W.Fast.tw12458112874880537697:PySem.Params->PySem.W.BT:=fun P=>Hd.tree128 (PySem.W.Fast.tw13745409909519247493,P)
theorem PySem.W.Fast.te12458112874880537697:(fun P=>Hd.tree128 (Hd.hs,P)) = PySem.W.Fast.tw12458112874880537697:=congrArg (fun σ P=>Hd.tree128 (σ,P)) PySem.W.Fast.te13745409909519247493
noncomputable def PySem.W.Fast.tw12052196691538622555:PySem.Params->PySem.W.BT:=fun P=>Hd.tree150 (PySem.W.Fast.tw13745409909519247493,P)
theorem PySem.W.Fast.te12052196691538622555:(fun P=>Hd.tree150 (Hd.hs,P)) = PySem.W.Fast.tw12052196691538622555:=congrArg (fun σ P=>Hd.tree150 (σ,P)) PySem.W.Fast.te13745409909519247493
noncomputable def PySem.W.Fast.tw4596698480206529596:PySem.Params->PySem.W.BT:=fun P=>Hd.tree172 (PySem.W.Fast.tw13745409909519247493,P)
theorem PySem.W.Fast.te4596698480206529596:(fun P=>Hd.tree172 (Hd.hs,P)) = PySem.W.Fast.tw4596698480206529596:=congrArg (fun σ P=>Hd.tree172 (σ,P)) PySem.W.Fast.te13745409909519247493
noncomputable def PySem.W.Fast.tw14325437447208650633:PySem.Params->PySem.W.BT:=fun P=>Hd.tree194 (PySem.W.Fast.tw13745409909519247493,P)
theorem PySem.W.Fast.te14325437447208650633:(fun P=>Hd.tree194 (Hd.hs,P)) = PySem.W.Fast.tw14325437447208650633:=congrArg (fun σ P=>Hd.tree194 (σ,P)) PySem.W.Fast.te13745409909519247493
noncomputable def PySem.W.Fast.tw3548898965187820101:PySem.Params->PySem.W.BT:=fun P=>Hd.tree216 (PySem.W.Fast.tw13745409909519247493,P)
theorem PySem.W.Fast.te3548898965187820101:(fun P=>Hd.tree216 (Hd.hs,P)) = PySem.W.Fast.tw3548898965187820101:=congrArg (fun σ P=>Hd.tree216 (σ,P)) PySem.W.Fast.te13745409909519247493
noncomputable def PySem.W.Fast.tw6859898737644032064:PySem.Params->PySem.W.BT:=fun P=>Hd.tree238 (PySem.W.Fast.tw13745409909519247493,P)
theorem PySem.W.Fast.te6859898737644032064:(fun P=>Hd.tree238 (Hd.hs,P)) = PySem.W.Fast.tw6859898737644032064:=congrArg (fun σ P=>Hd.tree238 (σ,P)) PySem.W.Fast.te13745409909519247493
noncomputable def PySem.W.Fast.tw4342237475571273752:PySem.Params->PySem.W.BT:=fun P=>Hd.tree280 (PySem.W.Fast.tw13745409909519247493,P)
theorem PySem.W.Fast.te4342237475571273752:(fun P=>Hd.tree280 (Hd.hs,P)) = PySem.W.Fast.tw4342237475571273752:=congrArg (fun σ P=>Hd.tree280 (σ,P)) PySem.W.Fast.te13745409909519247493
noncomputable def PySem.W.Fast.tw10645477606411200346:PySem.Params->PySem.W.BT:=fun P=>Hd.tree329 (PySem.W.Fast.tw13745409909519247493,P)
theorem PySem.W.Fast.te10645477606411200346:(fun P=>Hd.tree329 (Hd.hs,P)) = PySem.W.Fast.tw10645477606411200346:=congrArg (fun σ P=>Hd.tree329 (σ,P)) PySem.W.Fast.te13745409909519247493
noncomputable def PySem.W.Fast.tw15672367233744302423:PySem.Params->PySem.W.BT:=fun P=>Hd.tree380 (PySem.W.Fast.tw13745409909519247493,P)
theorem PySem.W.Fast.te15672367233744302423:(fun P=>Hd.tree380 (Hd.hs,P)) = PySem.W.Fast.tw15672367233744302423:=congrArg (fun σ P=>Hd.tree380 (σ,P)) PySem.W.Fast.te13745409909519247493
noncomputable def PySem.W.Fast.tw8488000986628339756:PySem.Params->PySem.W.BT:=fun P=>Hd.tree394 (PySem.W.Fast.tw13745409909519247493,P)
theorem PySem.W.Fast.te8488000986628339756:(fun P=>Hd.tree394 (Hd.hs,P)) = PySem.W.Fast.tw8488000986628339756:=congrArg (fun σ P=>Hd.tree394 (σ,P)) PySem.W.Fast.te13745409909519247493
noncomputable def PySem.W.Fast.tw13867227602629273825:PySem.Params->PySem.W.BT:=fun P=>Hd.tree450 (PySem.W.Fast.tw13745409909519247493,P)
theorem PySem.W.Fast.te13867227602629273825:(fun P=>Hd.tree450 (Hd.hs,P)) = PySem.W.Fast.tw13867227602629273825:=congrArg (fun σ P=>Hd.tree450 (σ,P)) PySem.W.Fast.te13745409909519247493
noncomputable def PySem.W.Fast.tw2202719239769333101:PySem.Params->PySem.W.BT:=fun P=>Hd.tree516 (PySem.W.Fast.tw13745409909519247493,P)
theorem PySem.W.Fast.te2202719239769333101:(fun P=>Hd.tree516 (Hd.hs,P)) = PySem.W.Fast.tw2202719239769333101:=congrArg (fun σ P=>Hd.tree516 (σ,P)) PySem.W.Fast.te13745409909519247493
noncomputable def PySem.W.Fast.tw9996303157964649591:PySem.Params->PySem.W.BT:=fun P=>Hd.tree570 (PySem.W.Fast.tw13745409909519247493,P)
theorem PySem.W.Fast.te9996303157964649591:(fun P=>Hd.tree570 (Hd.hs,P)) = PySem.W.Fast.tw9996303157964649591:=congrArg (fun σ P=>Hd.tree570 (σ,P)) PySem.W.Fast.te13745409909519247493
noncomputable def PySem.W.Fast.tw6484356048550508464:PySem.Params->PySem.Heap:=fun P=>Hd.heap571 (PySem.W.Fast.tw13745409909519247493,P)
theorem PySem.W.Fast.te6484356048550508464:(fun P=>Hd.heap571 (Hd.hs,P)) = PySem.W.Fast.tw6484356048550508464:=congrArg (fun σ P=>Hd.heap571 (σ,P)) PySem.W.Fast.te13745409909519247493
set_option maxRecDepth 100000 in
set_option maxHeartbeats 0 in
theorem PySem.Challenge.cw_keepsakes_k19_whole_tables_carried_holds : PySem.Challenge.rw_keepsakes_k19_whole_tables_carried.Holds := by
  w_on; o_law; k_head; (case hw=>w_witness2)
  k_fill
  refine Mine.walk (l:=PySem.Challenge.rw_keepsakes_k19_whole_tables_carried) rfl rfl (fun w h Y=>PySem.W.kIn_of Y) ?F
  case F =>
    intro w mg fa h KX G hmg
    refine' Mine.all_mk KX G hmg ?g_W ?g_MOST_BLOCKS ?g_MOST_FIGURES ?g_MOST_DAY ?g_FIGURES ?g_CHECK_FIGURES ?a_KeepError ?a_NoWord ?a_NoTable ?a_NoPlace ?a_NoBlock ?a_NoDay ?a_NoBase ?a_NoLine ?a_Piece ?a_Whole ?a_Gain ?a_Days ?a_DAYS_TOLD ?gl_DAYS_TOLD ?gs_DAYS_TOLD ?clg ?clt ?xo_KeepError ?xs_KeepError ?xg_KeepError ?xh_KeepError ?xc_KeepError ?kc_KeepError ?xo_NoWord ?xs_NoWord ?xg_NoWord ?xh_NoWord ?xc_NoWord ?kc_NoWord ?n_NoWord_word ?xo_NoTable ?xs_NoTable ?xg_NoTable ?xh_NoTable ?xc_NoTable ?kc_NoTable ?n_NoTable_wide ?xo_NoPlace ?xs_NoPlace ?xg_NoPlace ?xh_NoPlace ?xc_NoPlace ?kc_NoPlace ?n_NoPlace_place ?xo_NoBlock ?xs_NoBlock ?xg_NoBlock ?xh_NoBlock ?xc_NoBlock ?kc_NoBlock ?n_NoBlock_block ?xo_NoDay ?xs_NoDay ?xg_NoDay ?xh_NoDay ?xc_NoDay ?kc_NoDay ?n_NoDay_day ?xo_NoBase ?xs_NoBase ?xg_NoBase ?xh_NoBase ?xc_NoBase ?kc_NoBase ?n_NoBase_base ?n_NoBase_day ?xo_NoLine ?xs_NoLine ?xg_NoLine ?xh_NoLine ?xc_NoLine ?kc_NoLine ?n_NoLine_line ?pg_Whole ?hd_Whole ?po_Whole ?sa_Whole ?mk_Whole ?kc_Whole ?n_Whole_day ?n_Whole_rows ?n_Whole_check ?n_Whole_fits ?pg_Gain ?hd_Gain ?po_Gain ?sa_Gain ?mk_Gain ?kc_Gain ?n_Gain_day ?n_Gain_rows ?n_Gain_check ?n_Gain_fits ?n_Gain_base ?pg_Days ?hd_Days ?po_Days ?sa_Days ?mk_Days ?kc_Days ?n_Days_wide ?n_Days_last ?n_Days_tables ?n_Days_set_places ?a0 ?l0 ?c0 ?k0 ?a1 ?l1 ?c1 ?k1 ?a2 ?i2 ?l2 ?c2 ?k2 ?a3 ?i3 ?l3 ?c3 ?k3 ?a4 ?i4 ?l4 ?c4 ?k4 ?a5 ?i5 ?l5 ?c5 ?k5 ?a6 ?i6 ?l6 ?c6 ?k6 ?a7 ?i7 ?l7 ?c7 ?k7 ?a8 ?i8 ?l8 ?c8 ?k8 ?a9 ?i9 ?l9 ?c9 ?k9 ?a10 ?i10 ?l10 ?c10 ?k10 ?a11 ?i11 ?l11 ?c11 ?k11 ?y11 ?a12 ?i12 ?l12 ?c12 ?k12 ?a13 ?i13 ?l13 ?c13 ?k13 ?a14 ?i14 ?l14 ?c14 ?k14 ?a15 ?i15 ?l15 ?c15 ?k15 ?y15 ?a16 ?i16 ?l16 ?c16 ?k16 ?a17 ?i17 ?l17 ?c17 ?k17 ?a18 ?i18 ?l18 ?c18 ?k18 ?a19 ?l19 ?c19 ?k19 ?a20 ?l20 ?c20 ?k20 ?a21 ?i21 ?l21 ?c21 ?k21 ?a22 ?i22 ?l22 ?c22 ?k22 ?a23 ?i23 ?l23 ?c23 ?k23 ?a24 ?i24 ?l24 ?c24 ?k24 ?a25 ?i25 ?l25 ?c25 ?k25 ?a26 ?i26 ?l26 ?c26 ?k26 ?a27 ?l27 ?c27 ?k27 ?a28 ?l28 ?c28 ?k28 ?a29 ?l29 ?c29 ?k29 ?a30 ?l30 ?c30 ?k30 ?a31 ?l31 ?c31 ?k31 ?a32 ?l32 ?c32 ?k32 ?a33 ?l33 ?c33 ?k33 ?a34 ?l34 ?c34 ?k34 ?a35 ?l35 ?c35 ?k35 ?a36 ?l36 ?c36 ?k36 ?a37 ?l37 ?c37 ?k37 ?a38 ?l38 ?c38 ?k38 ?a39 ?l39 ?c39 ?k39 ?a40 ?l40 ?c40 ?k40 ?a41 ?l41 ?c41 ?k41 ?a42 ?l42 ?c42 ?k42 ?a43 ?l43 ?c43 ?k43 ?a44 ?l44 ?c44 ?k44 ?a45 ?l45 ?c45 ?k45 ?h_Whole_is_good ?h_Gain_is_good ?ga_Piece ?rd_Piece ?fc_Piece___init__ ?z_len ?z_isinstance ?z_int ?z_bool ?z_str ?z_list ?z_tuple ?z_range ?z_min ?z_max ?z_sorted ?z_set ?z_zip ?z_all ?z_enumerate
    case g_W | g_MOST_BLOCKS | g_MOST_FIGURES | g_MOST_DAY | g_FIGURES | g_CHECK_FIGURES | a_KeepError | a_NoWord | a_NoTable | a_NoPlace | a_NoBlock | a_NoDay | a_NoBase | a_NoLine | a_Piece | a_Whole | a_Gain | a_Days | a_DAYS_TOLD | gl_DAYS_TOLD | gs_DAYS_TOLD | clg | clt | xo_KeepError | xs_KeepError | xg_KeepError | xh_KeepError | xc_KeepError | kc_KeepError | xo_NoWord | xs_NoWord | xg_NoWord | xh_NoWord | xc_NoWord | kc_NoWord | n_NoWord_word | xo_NoTable | xs_NoTable | xg_NoTable | xh_NoTable | xc_NoTable | kc_NoTable | n_NoTable_wide | xo_NoPlace | xs_NoPlace | xg_NoPlace | xh_NoPlace | xc_NoPlace | kc_NoPlace | n_NoPlace_place | xo_NoBlock | xs_NoBlock | xg_NoBlock | xh_NoBlock | xc_NoBlock | kc_NoBlock | n_NoBlock_block | xo_NoDay | xs_NoDay | xg_NoDay | xh_NoDay | xc_NoDay | kc_NoDay | n_NoDay_day | xo_NoBase | xs_NoBase | xg_NoBase | xh_NoBase | xc_NoBase | kc_NoBase | n_NoBase_base | n_NoBase_day | xo_NoLine | xs_NoLine | xg_NoLine | xh_NoLine | xc_NoLine | kc_NoLine | n_NoLine_line | pg_Whole | hd_Whole | po_Whole | sa_Whole | mk_Whole | kc_Whole | n_Whole_day | n_Whole_rows | n_Whole_check | n_Whole_fits | pg_Gain | hd_Gain | po_Gain | sa_Gain | mk_Gain | kc_Gain | n_Gain_day | n_Gain_rows | n_Gain_check | n_Gain_fits | n_Gain_base | pg_Days | hd_Days | po_Days | sa_Days | mk_Days | kc_Days | n_Days_wide | n_Days_last | n_Days_tables | n_Days_set_places | a0 | l0 | c0 | k0 | a1 | l1 | c1 | k1 | a2 | i2 | l2 | c2 | k2 | a3 | i3 | l3 | c3 | k3 | a4 | i4 | l4 | c4 | k4 | a5 | i5 | l5 | c5 | k5 | a6 | i6 | l6 | c6 | k6 | a7 | i7 | l7 | c7 | k7 | a8 | i8 | l8 | c8 | k8 | a9 | i9 | l9 | c9 | k9 | a10 | i10 | l10 | c10 | k10 | a11 | i11 | l11 | c11 | k11 | y11 | a12 | i12 | l12 | c12 | k12 | a13 | i13 | l13 | c13 | k13 | a14 | i14 | l14 | c14 | k14 | a15 | i15 | l15 | c15 | k15 | y15 | a16 | i16 | l16 | c16 | k16 | a17 | i17 | l17 | c17 | k17 | a18 | i18 | l18 | c18 | k18 | a19 | l19 | c19 | k19 | a20 | l20 | c20 | k20 | a21 | i21 | l21 | c21 | k21 | a22 | i22 | l22 | c22 | k22 | a23 | i23 | l23 | c23 | k23 | a24 | i24 | l24 | c24 | k24 | a25 | i25 | l25 | c25 | k25 | a26 | i26 | l26 | c26 | k26 | a27 | l27 | c27 | k27 | a28 | l28 | c28 | k28 | a29 | l29 | c29 | k29 | a30 | l30 | c30 | k30 | a31 | l31 | c31 | k31 | a32 | l32 | c32 | k32 | a33 | l33 | c33 | k33 | a34 | l34 | c34 | k34 | a35 | l35 | c35 | k35 | a36 | l36 | c36 | k36 | a37 | l37 | c37 | k37 | a38 | l38 | c38 | k38 | a39 | l39 | c39 | k39 | a40 | l40 | c40 | k40 | a41 | l41 | c41 | k41 | a42 | l42 | c42 | k42 | a43 | l43 | c43 | k43 | a44 | l44 | c44 | k44 | a45 | l45 | c45 | k45 | h_Whole_is_good | h_Gain_is_good | ga_Piece | rd_Piece | fc_Piece___init__ | z_len | z_isinstance | z_int | z_bool | z_str | z_list | z_tuple | z_range | z_min | z_max | z_sorted | z_set | z_zip | z_all | z_enumerate=>first | k_is | kit_is | kernel_rfl
