import PyProof.Rows.All
import Wide.All
import OpenK.AllK
import Wide.FinOn
import Lean
import PyProof.EqAt
import PyProof.EqKinds
import PyProof.TupleCall
import PyProof.AttrMissHeap
import PyProof.DictWalks
import KE.KDictObj
import KE.KEqDict
import KE.KUnpack
import PyProof.Rows.SetFrom
import KE.KRevIter
import KE.KDictSum
import KE.KFmtOwn
import PyProof.FactsAll.set_1
import PyProof.FactsAll.set_2
import PyProof.FactsAll.tuple_1
import PyProof.FactsAll.tuple_2
import KE.KSortTup
import PyProof.SetRoads
import PyProof.DictValues
import PyProof.FactsAll.dict_4
import PyProof.Rows.CallKwBuiltin
import PyProof.DictCopy
import KE.KDictList
import KE.KPairComp
import PyProof.DictItems
import PyProof.MinMaxWalk
import PyProof.WalkInts
import PyProof.RulesTry
import PySem.Challenge.RW_keepsakes_k54_whole_folds_walked
set_option Elab.async false
set_option linter.all false
set_option maxRecDepth 100000
namespace L2
open PySem PySem.Spec PyProof.Rows
abbrev Key:=Sum Int Str
def jO:Key->Value->Bool
 | .inl k,v=>Value.isInt k v
 | .inr x,v=>Value.isStrOf x v
def OZ (w:World):Key->Int
 | .inl k=>hashInt k
 | .inr x=>hashStr w x
theorem cy:∀ {k:Key} {v:Value},jO k v=true->(∃ i t,k=Sum.inl i /\ v=Value.int i t) ∨(∃ x t,k=Sum.inr x /\ v=Value.str x t)
 | .inl i,v,h=>by
  obtain⟨t,e⟩:=Value.isInt_shape (k:=i) (v:=v) h
  exact .inl ⟨i,t,rfl,e⟩
 | .inr x,v,h=>by
  obtain⟨t,e⟩:=Value.isStrOf_shape (x:=x) (v:=v) h
  exact .inr ⟨x,t,rfl,e⟩
theorem HM (i:Int) (t:Tok):jO (.inl i) (.int i t)=true:=by simp [jO,Value.isInt]
theorem Io (x:Str) (t:Tok):jO (.inr x) (.str x t)=true:=by simp [jO,Value.isStrOf]
theorem Nl (a b:Int):decide ((Sum.inl a:Key)=Sum.inl b) =(a == b):=by
 by_cases e:a=b
 ·subst e;simp
 ·have h:¬(Sum.inl a:Key)=Sum.inl b:=λ q=>e (Sum.inl.inj q)
  rw [decide_eq_false h]
  exact(beq_eq_false_iff_ne.mpr e).symm
theorem MS (a b:Str):decide ((Sum.inr a:Key)=Sum.inr b)=decide (a=b):=by
 by_cases e:a=b
 ·subst e;simp
 ·have h:¬(Sum.inr a:Key)=Sum.inr b:=λ q=>e (Sum.inr.inj q)
  rw [decide_eq_false h,decide_eq_false e]
theorem NB (a:Int) (b:Str):decide ((Sum.inl a:Key)=Sum.inr b)=false:=decide_eq_false (λ q=>nomatch q)
theorem Mp (a:Str) (b:Int):decide ((Sum.inr a:Key)=Sum.inl b)=false:=decide_eq_false (λ q=>nomatch q)
def bD (prog:Program) (w:World):PySem.KeyKind prog w Key where
 is:=jO
 hash:=OZ w
 inj:=λ v a b ha hb=>by
  rcases cy ha with⟨i,t,rfl,rfl⟩ |⟨x,t,rfl,rfl⟩
  ·rcases cy hb with⟨j,u,rfl,e⟩ |⟨y,u,rfl,e⟩
   ·injection e with e1 _;rw [e1]
   ·exact nomatch e
  ·rcases cy hb with⟨j,u,rfl,e⟩ |⟨y,u,rfl,e⟩
   ·exact nomatch e
   ·injection e with e1 _;rw [e1]
 byValue:=λ k v h=>by
  rcases cy h with⟨i,t,rfl,rfl⟩ |⟨x,t,rfl,rfl⟩ <;> rfl
 pyHash:=λ hv h=>by
  rcases cy hv with⟨i,t,rfl,rfl⟩ |⟨x,t,rfl,rfl⟩
  ·exact wpAny_pyHash_int h
  ·exact wpAny_pyHash_str h
 eqBool:=λ hu hv h=>by
  rcases cy hu with⟨i,t,rfl,rfl⟩ |⟨x,t,rfl,rfl⟩
  ·rcases cy hv with⟨j,u,rfl,rfl⟩ |⟨y,u,rfl,rfl⟩
   ·rw [Nl] at h;exact wpAny_eqBool_int h
   ·rw [NB] at h;exact SeqAt.EqAt.int_str i t y u _ _ _ _ h
  ·rcases cy hv with⟨j,u,rfl,rfl⟩ |⟨y,u,rfl,rfl⟩
   ·rw [Mp] at h;exact SeqAt.EqAt.str_int x t j u _ _ _ _ h
   ·rw [MS] at h;exact wpAny_eqBool_str h
 «strs»:=λ k x t v h=>by
  rcases cy h with⟨i,u,rfl,e⟩ |⟨y,u,rfl,e⟩
  ·exact nomatch e
  ·injection e with e1 _
   subst e1
   cases v <;> rfl
theorem Dy (prog:Program) (w:World) (i:Int) (t:Tok):(bD prog w).is (.inl i) (.int i t)=true:=HM i t
theorem Dq (prog:Program) (w:World) (x:Str) (t:Tok):(bD prog w).is (.inr x) (.str x t)=true:=Io x t
open PySem PySem.Spec PyProof.Rows
inductive V where
 | non | bl (b:Bool) | int (i:Int) | str (x:Str) | byt (b:Array UInt8) | flt (b:UInt64) | ref (a:Addr) | ty (n:String)
 deriving DecidableEq
def RelV:V->Value->Prop
 | .non,u=>u=Value.none
 | .bl b,u=>u=Value.bool b
 | .int i,u=>∃ t,u=Value.int i t
 | .str x,u=>∃ t,u=Value.str x t
 | .byt b,u=>∃ t,u=Value.bytes b t
 | .flt b,u=>∃ t,u=Value.float b t
 | .ref a,u=>u=Value.ref a
 | .ty n,u=>u=Value.type n
abbrev Vals:List V->List Value->Prop:=Paired RelV
theorem Vals.length {xs:List V} {us:List Value} (r:Vals xs us):xs.length=us.length:=Paired.length r
theorem Vals.get:∀ {xs:List V} {us:List Value} {i:Nat} {x:V},Vals xs us->xs[i]? = some x->∃ u,us[i]? = some u /\ RelV x u
 | _,_,_,_,.nil,e=>by simp at e
 | _,_,0,_,.cons r _,e=>by simp at e;subst e;exact⟨_,rfl,r⟩
 | _,_,i + 1,x,.cons _ t,e=>by
  obtain⟨u,h1,h2⟩:=Vals.get (i:=i) (x:=x) t (by simpa using e)
  exact⟨u,by simpa using h1,h2⟩
theorem Vals.set {x:V} {u:Value} (r:RelV x u):∀ {xs:List V} {us:List Value} (i:Nat),Vals xs us->Vals (xs.set i x) (us.set i u)
 | _,_,_,.nil=>.nil
 | _,_,0,.cons _ t=>.cons r t
 | _,_,i + 1,.cons q t=>.cons q (Vals.set r i t)
theorem Vals.append:∀ {xs ys:List V} {us ws:List Value},Vals xs us->Vals ys ws->Vals (xs ++ ys) (us ++ ws)
 | _,_,_,_,.nil,s=>s
 | _,_,_,_,.cons r t,s=>.cons r (Vals.append t s)
theorem Vals.take:∀ {xs:List V} {us:List Value} (n:Nat),Vals xs us->Vals (xs.take n) (us.take n)
 | _,_,0,_=>.nil
 | _,_,_ + 1,.nil=>.nil
 | _,_,n + 1,.cons r t=>.cons r (Vals.take n t)
theorem Vals.drop:∀ {xs:List V} {us:List Value} (n:Nat),Vals xs us->Vals (xs.drop n) (us.drop n)
 | _,_,0,r=>r
 | _,_,_ + 1,.nil=>.nil
 | _,_,n + 1,.cons _ t=>Vals.drop n t
def fD:Option V->Option Value->Prop
 | some v,some u=>RelV v u
 | none,none=>True
 | _,_=>False
def KV {κ:Type}:List (κ × V)->List (κ × Value)->Prop:=Paired λ(p:κ × V) (q:κ × Value)=>p.1=q.1 /\ RelV p.2 q.2
def kV:Key->V
 | .inl i=>.int i
 | .inr x=>.str x
inductive HO where
  | lst (xs:List V)
  | tup (xs:List V)
  | dK (kvs:List (Key × V)) | dT (kvs:List (List Key × V))
  | set (S:Int->Bool) (n:Nat)
  | ins (C dx:Addr) (fs:List (Str × V))
  | own (x:Addr)
  | xd (fs:List (Str × V))
  | met (f x:Addr)
  | rng (lo hi:Int)
  | frz (o:Obj) (u:HO)
  | tbl (ps:Array Value)
  | ext (φ:Heap->Prop)
abbrev Hp:=Addr->Option HO
def upd (H:Hp) (a:Addr) (o:HO):Hp:=λ b=>if b=a then some o else H b
theorem ah {H:Hp} {a:Addr} {o:HO}:upd H a o a=some o:=by unfold upd;rw [if_pos rfl]
theorem aq {H:Hp} {a b:Addr} {o:HO} (h:b ≠ a):upd H a o b=H b:=by unfold upd;rw [if_neg h]
theorem vc {H:Hp} {a:Addr} {o u:HO}:upd (upd H a o) a u=upd H a u:=by
 funext b;unfold upd;split <;> rfl
theorem bB {H:Hp} {a b:Addr} {o u:HO} (h:H a=some o) (h':H b=some u) (d:o ≠ u):a ≠ b:=by
 intro e;subst e;rw [h] at h';exact d (Option.some.inj h')
theorem au {H:Hp} {a b:Addr} {o:HO} (h:H a=some o) (h':H b=none):a ≠ b:=by
 intro e;subst e;rw [h] at h';cases h'
section
variable (P:Program) (w:World)
def bF (H:Hp) (h:Heap) (a:Addr):HO->Prop
 | .lst xs=>xs.length ≤ sizeLine /\ ∃(its:List Value) (n:Nat),Vals xs its /\ h.get? a=some { cls:=.type "list",data:=.seq its.toArray n }
 | .tup xs=>xs.length ≤ sizeLine /\ ∃ its:List Value,Vals xs its /\ IsTup h a its.toArray
 | .dK kvs=>kvs.length ≤ sizeLine /\(a == sysModules)=false /\ ∃ vs,KV kvs vs /\ h.DictOf (bD P w) a vs
 | .dT kvs=>kvs.length ≤ sizeLine /\(a == sysModules)=false /\ ∃ xs:List (List Key × Addr × Value),
   Paired (λ(p:List Key × V) (q:List Key × Addr × Value)=>p.1=q.1 /\ H q.2.1=some (.tup (p.1.map kV)) /\ RelV p.2 q.2.2) kvs xs ∧
   ∃ o es ep,h.get? a=some o /\ o.ExactDict /\ o.data = .dict es ep /\ es.toList=xs.map (entryOfKey (tupleKind (bD P w))) /\(xs.map (·.1)).Nodup
 | .set S n=>h.SetOf (intKind P w) a S n
 | .ins C dx fs=>H dx=some (.own a) /\ fs.length ≤ 1000 /\ dx ≠ a /\ h.get? a=some (PySem.W.instObj C dx) ∧
   ∃ mA,h.Ns1 dx mA /\(∀ f,fD (fs.lookup f) (mA f)) /\ PySem.Within mA (fs.map (·.1))
 | .own _=>∃ o,h.get? a=some o
 | .xd fs=>∃ mA,h.Ns1 a mA /\ ∀ f,fD (fs.lookup f) (mA f)
 | .rng lo hi=>∃ t u v,h.get? a=some { cls:=.type "range",data:=.fields #[.int lo t,.int hi u,.int 1 v] }
 | .frz o u=>h.get? a=some o /\ bF H h a u
 | .tbl ps=>h.get? a=some { cls:=.none,data:=.fields ps }
 | .met f x=>h.get? a=some (PySem.W.methodObj (.ref f) (.ref x))
 | .ext φ=>φ h /\(∃ o,h.get? a=some o) /\ ∀ h1 h2:Heap,φ h1->(∀ o,h1.get? a=some o->h2.get? a=some o)->φ h2
def HOk (H:Hp) (h:Heap):Prop:=∀ a o,H a=some o->bF P w H h a o
end
section
variable {P:Program} {w:World} {H H':Hp} {h h':Heap} {a:Addr} {o:HO}
theorem bF.lt (x:bF P w H h a o):a < h.objs.size:=by
 cases o with
 | lst xs=>obtain⟨_,_,_,_,e⟩:=x;exact Heap.lt_size e
 | tup xs=>obtain⟨_,_,_,p⟩:=x;exact p.lt
 | dK kvs=>obtain⟨_,_,_,_,o,_,_,e,_⟩:=x;exact Heap.lt_size e
 | dT kvs=>obtain⟨_,_,_,_,o,_,_,e,_⟩:=x;exact Heap.lt_size e
 | set S n=>obtain⟨o,_,_,_,e,_⟩:=x;exact Heap.lt_size e
 | ins C dx fs=>obtain⟨_,_,_,e,_⟩:=x;exact Heap.lt_size e
 | own y=>obtain⟨_,e⟩:=x;exact Heap.lt_size e
 | xd fs=>obtain⟨_,⟨_,_,_,e,_⟩,_⟩:=x;exact Heap.lt_size e
 | rng lo hi=>obtain⟨_,_,_,e⟩:=x;exact Heap.lt_size e
 | frz ob u=>obtain⟨e,_⟩:=x;exact Heap.lt_size e
 | tbl ps=>exact Heap.lt_size (show h.get? a=some _ from x)
 | met f y=>exact Heap.lt_size (show h.get? a=some _ from x)
 | ext φ=>obtain⟨_,⟨_,e⟩,_⟩:=x;exact Heap.lt_size e
theorem Paired.Jz {α β:Type} {F G:α->β->Prop}:∀ {l₁:List α} {l₂:List β},Paired F l₁ l₂->(∀ a b,F a b->G a b)->Paired G l₁ l₂
 | _,_,.nil,_=>.nil
 | _,_,.cons r t,f=>.cons (f _ _ r) (Paired.Jz t f)
theorem bF.stay (x:bF P w H h a o) (k:∀ b u,(b=a ∨ H b=some (.own a))->h.get? b=some u->h'.get? b=some u)
  (ho:∀ b,H b=some (.own a)->H' b=some (.own a)) (ht:∀ b xs,H b=some (.tup xs)->H' b=some (.tup xs)):bF P w H' h' a o:=by
 induction o with
 | lst xs=>obtain⟨z,its,n,r,e⟩:=x;exact⟨z,its,n,r,k _ _ (.inl rfl) e⟩
 | tup xs=>obtain⟨z,its,r,ob,e,c⟩:=x;exact⟨z,its,r,ob,k _ _ (.inl rfl) e,c⟩
 | dK kvs=>obtain⟨z,y,vs,r,ob,es,ep,e,c⟩:=x;exact⟨z,y,vs,r,ob,es,ep,k _ _ (.inl rfl) e,c⟩
 | dT kvs =>
  obtain⟨z,y,xs,r,ob,es,ep,e,c⟩:=x
  exact⟨z,y,xs,Paired.Jz r λ p q z=>⟨z.1,ht _ _ z.2.1,z.2.2⟩,ob,es,ep,k _ _ (.inl rfl) e,c⟩
 | set S n=>obtain⟨ob,es,ep,t,e,c⟩:=x;exact⟨ob,es,ep,t,k _ _ (.inl rfl) e,c⟩
 | ins C dx fs =>
  obtain⟨d,z,ne,e,mA,⟨od,es,ep,e2,c⟩,r⟩:=x
  exact⟨ho _ d,z,ne,k _ _ (.inl rfl) e,mA,⟨od,es,ep,k _ _ (.inr d) e2,c⟩,r⟩
 | own y=>obtain⟨ob,e⟩:=x;exact⟨ob,k _ _ (.inl rfl) e⟩
 | xd fs=>obtain⟨mA,⟨od,es,ep,e,c⟩,r⟩:=x;exact⟨mA,⟨od,es,ep,k _ _ (.inl rfl) e,c⟩,r⟩
 | rng lo hi=>obtain⟨t,u,v,e⟩:=x;exact⟨t,u,v,k _ _ (.inl rfl) e⟩
 | frz ob u ih=>obtain⟨e,q⟩:=x;exact⟨k _ _ (.inl rfl) e,ih q⟩
 | tbl ps =>
  have e:h.get? a=some { cls:=.none,data:=.fields ps }:=x
  show h'.get? a=some { cls:=.none,data:=.fields ps }
  exact k a _ (.inl rfl) e
 | met f y =>
  have e:h.get? a=some (PySem.W.methodObj (.ref f) (.ref y)):=x
  show h'.get? a=some (PySem.W.methodObj (.ref f) (.ref y))
  exact k a _ (.inl rfl) e
 | ext φ=>obtain⟨p,⟨o,e⟩,st⟩:=x;exact⟨st _ _ p λ o q=>k _ _ (.inl rfl) q,⟨o,k _ _ (.inl rfl) e⟩,st⟩
theorem HOk.lt (x:HOk P w H h) (e:H a=some o):a < h.objs.size:=(x a o e).lt
theorem HOk.fresh (x:HOk P w H h) (e:h.objs.size ≤ a):H a=none:=by
 cases q:H a with
 | none=>rfl
 | some u=>exact absurd (Nat.lt_of_lt_of_le (x.lt q) e) (Nat.lt_irrefl _)
theorem HOk.kept (x:HOk P w H h) (k:∀ b u,h.get? b=some u->h'.get? b=some u):HOk P w H h':=λ a o e =>
 (x a o e).stay (λ b u _ q=>k b u q) (λ _ q=>q) λ _ _ q=>q
theorem HOk.laid (x:HOk P w H h) (k:∀ b u,h.get? b=some u->h'.get? b=some u) (hp:h.objs.size ≤ a) (new:bF P w (upd H a o) h' a o):HOk P w (upd H a o) h':=λ b u e=>by
 have hn:=x.fresh hp
 by_cases hb:b=a
 ·subst hb;rw [ah] at e;cases e;exact new
 ·rw [aq hb] at e
  exact(x b u e).stay (λ c v _ q=>k c v q) (λ c q=>by rw [aq (au q hn)];exact q) λ c xs q=>by rw [aq (au q hn)];exact q
end
def Rd (H:Hp) (a:Addr) (u:HO):Prop:=H a=some u ∨ ∃ o,H a=some (.frz o u)
theorem Rd.of {H:Hp} {a:Addr} {u:HO} (h:H a=some u):Rd H a u:=.inl h
theorem Rd.ok {P:Program} {w:World} {H:Hp} {h:Heap} {a:Addr} {u:HO} (r:Rd H a u) (x:HOk P w H h):bF P w H h a u:=by
 rcases r with r |⟨o,r⟩
 ·exact x a u r
 ·obtain⟨_,q⟩:=x a _ r
  exact q
def Mut:Option HO->Prop
 | some (.lst _)=>True
 | some (.dK _)=>True
 | some (.dT _)=>True
 | some (.set _ _)=>True
 | some (.ins _ _ _)=>True
 | some (.ext _)=>True
 | _=>False
section
variable {P:Program} {w:World} {H:Hp} {h h':Heap} {x e:Addr} {o':HO}
theorem HOk.write (ok:HOk P w H h) (mu:Mut (H x)) (he:e=x ∨ H e=some (.own x)) (k:∀ b u,b ≠ e->h.get? b=some u->h'.get? b=some u) (heo:∃ u,h'.get? e=some u)
  (new:bF P w (upd H x o') h' x o'):HOk P w (upd H x o') h':=λ b u q=>by
 have nown:∀ c y,H c=some (.own y)->c ≠ x:=λ c y r z=>by subst z;rw [r] at mu;exact mu
 have ntup:∀ c xs,H c=some (.tup xs)->c ≠ x:=λ c xs r z=>by subst z;rw [r] at mu;exact mu
 by_cases hb:b=x
 ·subst hb;rw [ah] at q;cases q;exact new
 ·rw [aq hb] at q
  by_cases hbe:b=e
  ·have q':H b=some (.own x):=by
    rcases he with z | z
    ·exact absurd (hbe.trans z) hb
    ·rw [hbe];exact z
   rw [q] at q';cases q'
   obtain⟨v,hv⟩:=heo
   exact⟨v,by rw [hbe];exact hv⟩
  ·refine(ok b u q).stay (λ c v hc r=>k c v ?_ r) (λ c r=>by rw [aq (nown c b r)];exact r) λ c xs r=>by rw [aq (ntup c xs r)];exact r
   rcases hc with rfl | hc
   ·exact hbe
   ·rintro rfl
    rcases he with z | z
    ·exact nown c b hc z
    ·rw [hc] at z;cases z;exact hb rfl
end
structure Un (fs ex:List Addr) (H H':Hp) (h h':Heap):Prop where
 keep:∀ b o,h.get? b=some o->H b=none->b ∉ fs->b ∉ ex->h'.get? b=some o
 slot:∀ b o,h.get? b=some o->H b=none->b ∈ fs->b ∉ ex->∃ sl,h'.get? b=some { o with slots:=sl }
 free:∀ b o,h.get? b=some o->H b=none->b ∉ ex->H' b=none
 there:∀ b o,h.get? b=some o->b ∉ ex->∃ o',h'.get? b=some o'
 tups:∀ b xs,H b=some (.tup xs)->H' b=some (.tup xs)
 mw:∀ b o u,H b=some (.frz o u)->H' b=some (.frz o u)
 pC:∀ b ps,H b=some (.tbl ps)->∃ more,H' b=some (.tbl (ps ++ more))
section
variable {fs fs' ex ex':List Addr} {H H1 H2:Hp} {h h1 h2 h':Heap} {a x e:Addr} {o:HO}
theorem Un.any (u:Un fs ex H H1 h h1) {b:Addr} {ob:Obj} (q:h.get? b=some ob) (n:H b=none) (hx:b ∉ ex):∃ sl,h1.get? b=some { ob with slots:=sl }:=by
 by_cases hb:b ∈ fs
 ·exact u.slot b ob q n hb hx
 ·exact⟨ob.slots,u.keep b ob q n hb hx⟩
theorem Un.kept (k:∀ b u,h.get? b=some u->h'.get? b=some u):Un fs ex H H h h' :=
 ⟨λ b ob q _ _ _=>k b ob q,λ b ob q _ _ _=>⟨ob.slots,k b ob q⟩,λ _ _ _ n _=>n,λ b ob q _=>⟨ob,k b ob q⟩,λ _ _ q=>q,λ _ _ _ q=>q,λ _ ps q=>⟨#[],by rw [q];simp⟩⟩
theorem Un.refl:Un fs ex H H h h:=Un.kept λ _ _ q=>q
theorem Un.laid (k:∀ b u,h.get? b=some u->h'.get? b=some u) (hp:h.objs.size ≤ a) (hn:H a=none):Un fs ex H (upd H a o) h h' where
 keep:=λ b u q _ _ _=>k b u q
 slot:=λ b u q _ _ _=>⟨u.slots,k b u q⟩
 free:=λ b u q n _=>by rw [aq (Nat.ne_of_lt (Nat.lt_of_lt_of_le (Heap.lt_size q) hp))];exact n
 there:=λ b u q _=>⟨u,k b u q⟩
 tups:=λ b xs q=>by rw [aq (au q hn)];exact q
 mw:=λ b u xs q=>by rw [aq (au q hn)];exact q
 pC:=λ b ps q=>⟨#[],by rw [aq (au q hn),q];simp⟩
theorem Un.write (mu:Mut (H x)) (he:e=x ∨ H e=some (.own x)) (k:∀ b u,b ≠ e->h.get? b=some u->h'.get? b=some u) (heo:∃ u,h'.get? e=some u):Un fs ex H (upd H x o) h h':=by
 have hx:∀ b,H b=none->b ≠ x:=λ b n z=>by subst z;rw [n] at mu;exact mu
 have hb:∀ b,H b=none->b ≠ e:=λ b n z=>by
  subst z
  rcases he with r | r
  ·exact hx b n r
  ·rw [n] at r;cases r
 have hm:∀ b u,H b=some u->¬ Mut (some u)->b ≠ x:=λ b u q nm z=>by subst z;rw [q] at mu;exact nm mu
 refine⟨λ b u q n _ _=>k b u (hb b n) q,λ b u q n _ _=>⟨u.slots,k b u (hb b n) q⟩,λ b u q n _=>by rw [aq (hx b n)];exact n,λ b u q _=>?_,
  λ b xs q=>by rw [aq (hm b _ q λ z=>z)];exact q,λ b u xs q=>by rw [aq (hm b _ q λ z=>z)];exact q,λ b ps q=>⟨#[],by rw [aq (hm b _ q λ z=>z),q];simp⟩⟩
 by_cases hbe:b=e
 ·subst hbe;exact heo
 ·exact⟨u,k b u hbe q⟩
end
def trk (h:Heap) (H:Hp):List Addr:=(List.range h.objs.size).filter λ a=>(H a).isSome
def qX (h:Heap) (H:Hp):Heap:=PySem.W.hideAll h (trk h H)
theorem HG (h:Heap) (H:Hp):(qX h H).objs.size=h.objs.size:=PySem.W.hideAll_size _ _
theorem JN {h:Heap} {H:Hp} {b:Addr} {o:Obj} (e:h.get? b=some o) (n:H b=none):(qX h H).get? b=some o :=
 PySem.W.hideAll_get _ e λ hm=>by
  have q:(H b).isSome=true:=(List.mem_filter.mp hm).2
  rw [n] at q;simp at q
theorem LY {h:Heap} {H:Hp} {b:Addr} {o:Obj} (e:(qX h H).get? b=some o):h.get? b=some o /\ H b=none:=by
 have e':h.get? b=some o:=PySem.W.of_hideAll (trk h H) e
 refine⟨e',?_⟩
 cases q:H b with
 | none=>rfl
 | some x =>
  have hm:b ∈ trk h H:=List.mem_filter.mpr ⟨List.mem_range.mpr (Heap.lt_size e'),by simp [q]⟩
  have z:(qX h H).get? b=none:=PySem.W.hideAll_none (trk h H) hm
  rw [z] at e;cases e
def LO (g h:Heap) (L:Addr):List (Addr × Obj):=(List.range h.objs.size).filterMap λ a=>if a=L ∨(g.get? a).isSome=true then none else(h.get? a).map λ o=>(a,o)
def rest (g h:Heap) (L d:Addr):List (Addr × Obj):=(LO g h L).filter λ p=>decide (p.1 ≠ d)
open PySem PySem.Spec PyProof.Rows
structure Mod (K:PySem.W.Frag) (mg:Str->Option Value) (base:Heap):Prop where
 kin:K.In base
 glob:base.Ns mainGlobals mg
 blt:∃ mb,base.Ns builtinsNs mb /\ ∀ x:Str,x ≠ "__name__"->mb x=bootBuiltins x
 nolimit:base.NoLimit
structure Cx where
 prog:Program
 w:World
 K:PySem.W.Frag
 mg:Str->Option Value
 base:Heap
 A:Around
 N:List Str
 s₀:Shared
 H₀:Hp
 env:Env
 outer:List Env
 stack:List Env
 ex:List Addr
 fn:Str->Bool
 calm:Bool
 pn:List (Addr × Obj)
 xe:Value->Shared->Prop
def frs (l:List Env):List Addr:=l.filterMap (·.frame)
abbrev Cx.fs (X:Cx):List Addr:=frs X.outer
def Vis (sc:Scope) (x:Str):Prop:=sc.names.lookup x = some .local ∨ sc.names.lookup x = some .cell ∨ sc.names.lookup x = some .free
def Loc (sc:Scope) (x:Str):Prop:=sc.names.lookup x = some .local ∨ sc.names.lookup x = some .cell
def Look (env:Env) (h:Heap) (m:Str->Option Value) (x:Str) (u:Value):Prop :=
 (env.kindOf x = some .local /\ m x = some u) ∨ ((env.kindOf x = some .cell ∨ env.kindOf x = some .free) /\ ∃ c,env.cells.lookup x = some c /\ h.IsCell c (some u))
structure Cx.Ok (X:Cx):Prop where
 mod:Mod X.K X.mg X.base
 kind:X.env.scope.kind = .function
 glob:X.env.globals=mainGlobals
 blt:X.env.builtins=builtinsNs
 above:X.s₀.heap.objs.size ≤ X.env.locals
 inj:∀ x y c,X.env.cells.lookup x=some c->X.env.cells.lookup y=some c->x=y
 has:∀ x,(X.env.kindOf x=some .cell ∨ X.env.kindOf x=some .free)->∃ c,X.env.cells.lookup x=some c
 cab:∀ x c,X.fn x=true->X.env.cells.lookup x=some c->X.s₀.heap.objs.size ≤ c
 hd:X.calm=true->X.A.handled=none
 frames:X.A.frames=some X.stack
 stk:X.stack = X.outer ∨ (X.stack = X.env :: X.outer /\ X.env.frame = some X.env.locals)
 exf:∀ b ∈ X.ex,b ≠ X.env.locals /\ ∀ x c,X.env.cells.lookup x = some c->c ≠ b
 bs:∀ b o,X.base.get? b=some o->X.s₀.heap.get? b=some o /\ X.H₀ b=none
 bsz:X.base.objs.size ≤ X.s₀.heap.objs.size
 zw:∀ b o,X.base.get? b=some o->b ∉ X.ex
 Ah:∀ b ∈ X.ex,b ∉ X.fs
 jG:X.s₀.heap.FunFrames X.base X.outer
 frf:∀ b ∈ X.fs,X.H₀ b=none
structure Inv (X:Cx) (pins:List (Addr × Obj)) (σ:List (Option V)) (H:Hp) (s:Shared):Prop where
 ok:X.Ok
 os:s.os=X.s₀.os
 bare:AllBare s.gens
 base:Un X.fs X.ex X.H₀ H X.s₀.heap s.heap
 loc:∃ m,s.heap.Ns X.env.locals m /\ ∀ (i:Nat) (x:Str) (v:V),X.N[i]? = some x->σ[i]? = some (some v)->Vis X.env.scope x->∃ u,RelV v u /\ Look X.env s.heap m x u
 cell:∀ x c,X.env.cells.lookup x=some c->∃ v,s.heap.IsCell c v
 free:H X.env.locals = none
 iN:∀ x c,X.env.cells.lookup x=some c->H c=none
 pin:∀ p ∈ X.pn ++ pins,s.heap.get? p.1 = some p.2 /\ H p.1 = none /\ p.1 ≠ X.env.locals /\ p.1 ∉ X.fs /\ ∀ v,p.2.data ≠ .cell v
 hok:HOk X.prog X.w H s.heap
 len:σ.length=X.N.length
section
variable {X:Cx} {pins:List (Addr × Obj)} {σ:List (Option V)} {H H':Hp} {s:Shared} {h':Heap}
theorem Cx.Ok.Pe (ok:X.Ok) {b:Addr} {o:Obj} (e:X.base.get? b=some o):b ∉ X.fs:=λ hb=>by
 have:=(ok.jG.mem hb).1
 rw [e] at this;cases this
theorem Inv.bs (I:Inv X pins σ H s):∀ b o,X.base.get? b=some o->s.heap.get? b=some o /\ H b=none:=λ b o e =>
 ⟨I.base.keep b o (I.ok.bs b o e).1 (I.ok.bs b o e).2 (I.ok.Pe e) (I.ok.zw b o e),I.base.free b o (I.ok.bs b o e).1 (I.ok.bs b o e).2 (I.ok.zw b o e)⟩
theorem Inv.bk (I:Inv X pins σ H s):∀ b o,X.base.get? b=some o->s.heap.get? b=some o:=λ b o e=>(I.bs b o e).1
theorem Inv.mod (I:Inv X pins σ H s):Mod X.K X.mg X.base:=I.ok.mod
theorem Inv.kIn (I:Inv X pins σ H s):X.K.In s.heap:=I.ok.mod.kin.keeps I.bk
theorem Inv.lt (I:Inv X pins σ H s):X.env.locals < s.heap.objs.size:=let ⟨_,hn,_⟩:=I.loc; hn.lt
theorem Inv.sz (I:Inv X pins σ H s):X.s₀.heap.objs.size ≤ s.heap.objs.size:=Nat.le_trans I.ok.above (Nat.le_of_lt I.lt)
theorem Inv.Pu (I:Inv X pins σ H s) {a:Addr} (h:s.heap.objs.size ≤ a):a ∉ X.fs:=λ hb=>by
 obtain⟨_,o,ho,_⟩:=I.ok.jG.mem hb
 exact absurd (Nat.lt_of_lt_of_le (Heap.lt_size ho) (Nat.le_trans I.sz h)) (Nat.lt_irrefl _)
theorem Inv.cne (I:Inv X pins σ H s):∀ x c,X.env.cells.lookup x = some c->c ≠ X.env.locals:=fun x c e z=>by
 obtain⟨v,o,ho,hd⟩:=I.cell x c e
 obtain⟨m,⟨o',es,ep,ho',hd',_⟩,_⟩:=I.loc
 rw [z,ho'] at ho;cases ho;rw [hd'] at hd;cases hd
theorem Inv.jG (I:Inv X pins σ H s):s.heap.FunFrames X.base X.outer:=by
 have all:∀(l:List Env),(∀ b ∈ frs l,b ∈ X.fs)->X.s₀.heap.FunFrames X.base l->s.heap.FunFrames X.base l:=by
  intro l
  induction l with
  | nil=>intro _ _;trivial
  | cons env r ih =>
   intro hs hl
   obtain⟨hk,⟨L,o,hf,hn,ho,hd⟩,hr⟩:=hl
   have hL:L ∈ X.fs:=hs L (by unfold frs;rw [List.filterMap_cons,hf];exact List.mem_cons_self)
   obtain⟨sl,e⟩:=I.base.slot L o ho (I.ok.frf L hL) hL λ z=>I.ok.Ah L z hL
   exact⟨hk,⟨L,_,hf,hn,e,hd⟩,ih (λ b hb=>hs b (by unfold frs;rw [List.filterMap_cons,hf];exact List.mem_cons_of_mem _ hb)) hr⟩
 exact all X.outer (λ _ hb=>hb) I.ok.jG
theorem Inv.stack (I:Inv X pins σ H s):s.heap.FunFrames X.base X.stack:=by
 rcases I.ok.stk with e |⟨e,hf⟩
 ·rw [e];exact I.jG
 ·rw [e]
  obtain⟨m,hn,_⟩:=I.loc
  refine .cons (by rw [I.ok.kind];decide) hf hn ?_ I.jG
  exact Heap.get?_none_of_le (Nat.le_trans I.ok.bsz I.ok.above)
theorem Inv.Ca (I:Inv X pins σ H s):∀ b ∈ frs X.stack,b ∈ X.env.locals :: X.fs:=fun b hb=>by
 rcases I.ok.stk with e |⟨e,hf⟩
 ·rw [e] at hb;exact List.mem_cons_of_mem _ hb
 ·rw [e] at hb
  unfold frs at hb
  rw [List.filterMap_cons,hf] at hb
  exact hb
theorem Inv.zL (I:Inv X pins σ H s):∀ b ∈ frs X.stack,H b=none:=λ b hb=>by
 rcases List.mem_cons.mp (I.Ca b hb) with e | hb
 ·rw [e];exact I.free
 ·obtain⟨_,o,ho,_⟩:=I.ok.jG.mem hb
  exact I.base.free b o ho (I.ok.frf b hb) λ z=>I.ok.Ah b z hb
theorem Inv.step {g':Array GenState} {t':Nat} {d':Drawn} {ch:List Addr} (I:Inv X pins σ H s)
  (hch:∀ b ∈ ch,(b ∈ X.ex ∨ X.s₀.heap.objs.size ≤ b) /\ b ≠ X.env.locals /\ (∀ x c,X.env.cells.lookup x = some c->c ≠ b) /\ ∀ p ∈ X.pn ++ pins,p.1 ≠ b)
  (keep:∀ b o,b ≠ X.env.locals->b ∉ X.fs->b ∉ ch->s.heap.get? b = some o->H b = none->h'.get? b = some o)
  (slot:∀ b o,b ≠ X.env.locals->b ∈ X.fs->b ∉ ch->s.heap.get? b = some o->H b = none->∃ sl,h'.get? b = some { o with slots:=sl }) (free:∀ b o,b ∉ ch->s.heap.get? b = some o->H b = none->H' b = none)
  (there:∀ b o,b ∉ ch->s.heap.get? b=some o->∃ o',h'.get? b=some o')
  (tups:∀ b xs,H b=some (.tup xs)->H' b=some (.tup xs)) (mw:∀ b o u,H b=some (.frz o u)->H' b=some (.frz o u)) (pC:∀ b ps,H b=some (.tbl ps)->∃ more,H' b=some (.tbl (ps ++ more)))
  (ns:∀ m,s.heap.Ns X.env.locals m->h'.Ns X.env.locals m) (hok:HOk X.prog X.w H' h') (hg:AllBare g') :
  Inv X pins σ H' { s with heap:=h',gens:=g',drawn:=d',toks:=t' }:=by
 have neL:∀ b o,X.s₀.heap.get? b = some o->b ≠ X.env.locals:=fun b o e=>Nat.ne_of_lt (Nat.lt_of_lt_of_le (Heap.lt_size e) I.ok.above)
 have neC:∀ b o,X.s₀.heap.get? b=some o->b ∉ X.ex->b ∉ ch:=λ b o e hx hb=>by
  rcases(hch b hb).1 with z | z
  ·exact hx z
  ·exact absurd (Nat.lt_of_lt_of_le (Heap.lt_size e) z) (Nat.lt_irrefl _)
 have cellK:∀ x c,X.env.cells.lookup x=some c->∀ v,s.heap.IsCell c v->h'.IsCell c v:=λ x c e v ⟨o,ho,hd⟩=>by
  have nch:c ∉ ch:=λ z=>(hch c z).2.2.1 x c e rfl
  by_cases hc:c ∈ X.fs
  ·obtain⟨sl,q⟩:=slot c o (I.cne x c e) hc nch ho (I.iN x c e)
   exact⟨_,q,hd⟩
  ·exact⟨o,keep c o (I.cne x c e) hc nch ho (I.iN x c e),hd⟩
 refine⟨I.ok,I.os,hg,⟨λ b o e n hb hx=>?_,λ b o e n hb hx=>?_,λ b o e n hx=>?_,λ b o e hx=>?_,λ b xs e=>tups b xs (I.base.tups b xs e),λ b o xs e=>mw b o xs (I.base.mw b o xs e),λ b ps e=>?_⟩,?_,λ x c e=>?_,?_,λ x c e=>?_,λ p hp=>?_,hok,I.len⟩
 ·exact keep b o (neL b o e) hb (neC b o e hx) (I.base.keep b o e n hb hx) (I.base.free b o e n hx)
 ·obtain⟨sl,e1⟩:=I.base.slot b o e n hb hx
  obtain⟨sl',e2⟩:=slot b _ (neL b o e) hb (neC b o e hx) e1 (I.base.free b o e n hx)
  exact⟨sl',e2⟩
 ·obtain⟨o',e1⟩:=I.base.there b o e hx
  exact free b o' (neC b o e hx) e1 (I.base.free b o e n hx)
 ·obtain⟨o',e1⟩:=I.base.there b o e hx
  exact there b o' (neC b o e hx) e1
 ·obtain⟨m1,e1⟩:=I.base.pC b ps e
  obtain⟨m2,e2⟩:=pC b _ e1
  exact⟨m1 ++ m2,by rw [e2,Array.append_assoc]⟩
 ·obtain⟨m,hn,hl⟩:=I.loc
  refine⟨m,ns m hn,λ i x v e1 e2 e3=>?_⟩
  obtain⟨u,r,l⟩:=hl i x v e1 e2 e3
  refine⟨u,r,?_⟩
  rcases l with l |⟨k,c,e,z⟩
  ·exact .inl l
  ·exact .inr ⟨k,c,e,cellK x c e _ z⟩
 ·obtain⟨v,z⟩:=I.cell x c e
  exact⟨v,cellK x c e v z⟩
 ·obtain⟨m,⟨o,_,_,ho,_⟩,_⟩:=I.loc
  exact free _ o (λ z=>(hch _ z).2.1 rfl) ho I.free
 ·obtain⟨v,o,ho,hd⟩:=I.cell x c e
  exact free c o (λ z=>(hch c z).2.2.1 x c e rfl) ho (I.iN x c e)
 ·obtain⟨e,n,ne,nf,d⟩:=I.pin p hp
  have nch:p.1 ∉ ch:=λ z=>(hch p.1 z).2.2.2 p hp rfl
  exact⟨keep p.1 p.2 ne nf nch e n,free p.1 p.2 nch e n,ne,nf,d⟩
theorem Inv.un {t':Nat} (I:Inv X pins σ H s) (u:Un X.fs [] H H' s.heap h') (hok:HOk X.prog X.w H' h'):Inv X pins σ H' { s with heap:=h',toks:=t' }:=by
 obtain⟨m,⟨o,es,ep,ho,r⟩,_⟩:=id I.loc
 obtain⟨sl,hL⟩:=u.any ho I.free (by simp)
 exact I.step (g':=s.gens) (d':=s.drawn) (ch:=[]) (λ _ z=>nomatch z) (λ b o _ hb _ e n=>u.keep b o e n hb (by simp)) (λ b o _ hb _ e n=>u.slot b o e n hb (by simp)) (λ b o _ e n=>u.free b o e n (by simp)) (λ b o _ e=>u.there b o e (by simp)) u.tups u.mw u.pC (λ m' hm=>by
  obtain⟨o',es',ep',ho',r'⟩:=hm
  rw [ho] at ho';cases ho'
  exact⟨_,es',ep',hL,r'⟩) hok I.bare
theorem Inv.call {g':Array GenState} {t':Nat} {d':Drawn} {ch:List Addr} (I:Inv X pins σ H s) (u:Un (frs X.stack) ch H H' s.heap h') (hok:HOk X.prog X.w H' h') (hg:AllBare g')
  (hch:∀ b ∈ ch,(b ∈ X.ex ∨ X.s₀.heap.objs.size ≤ b) /\ b ≠ X.env.locals /\ (∀ x c,X.env.cells.lookup x = some c->c ≠ b) /\ ∀ p ∈ X.pn ++ pins,p.1 ≠ b) :
  Inv X pins σ H' { s with heap:=h',gens:=g',drawn:=d',toks:=t' }:=by
 obtain⟨m,⟨o,es,ep,ho,r⟩,_⟩:=id I.loc
 obtain⟨sl,hL⟩:=u.any ho I.free λ z=>(hch _ z).2.1 rfl
 exact I.step (ch:=ch) hch (λ b o hL hb hc e n=>u.keep b o e n (λ z=>(List.mem_cons.mp (I.Ca b z)).elim hL hb) hc) (λ b o _ _ hc e n=>u.any e n hc) (λ b o hc e n=>u.free b o e n hc) (λ b o hc e=>u.there b o e hc) u.tups u.mw u.pC (λ m' hm=>by
  obtain⟨o',es',ep',ho',r'⟩:=hm
  rw [ho] at ho';cases ho'
  exact⟨_,es',ep',hL,r'⟩) hok hg
theorem Inv.turned {t':Nat} {it:Addr} (I:Inv X pins σ H s) (k:∀ b o,b ≠ it->s.heap.get? b = some o->h'.get? b = some o) (hn:H it = none) (hL:it ≠ X.env.locals)
  (h1:it ∈ X.ex ∨ X.s₀.heap.objs.size ≤ it) (h2:∀ x c,X.env.cells.lookup x=some c->c ≠ it) (h3:∀ p ∈ X.pn ++ pins,p.1 ≠ it):Inv X pins σ H { s with heap:=h',toks:=t' }:=by
 have nit:∀ b u,H b=some u->b ≠ it:=λ b u e z=>by rw [z,hn] at e;cases e
 refine I.step (g':=s.gens) (d':=s.drawn) (ch:=[it]) (λ b hb=>?_) (λ b o _ _ hc e _=>k b o (λ z=>hc (by simp [z])) e) (λ b o _ _ hc e _=>⟨o.slots,k b o (λ z=>hc (by simp [z])) e⟩) (λ _ _ _ _ n=>n)
  (λ b o hc e=>⟨o,k b o (λ z=>hc (by simp [z])) e⟩) (λ _ _ e=>e) (λ _ _ _ e=>e) (λ b ps e=>⟨#[],by rw [e];simp⟩) (λ m hm=>?_) (λ b u e=>?_) I.bare
 ·have e:b=it:=by simpa using hb
  subst e
  exact⟨h1,hL,h2,h3⟩
 ·obtain⟨o,es,ep,ho,r⟩:=hm
  exact⟨o,es,ep,k _ o (Ne.symm hL) ho,r⟩
 ·refine(I.hok b u e).stay (λ c v hc q=>k c v ?_ q) (λ _ q=>q) λ _ _ q=>q
  rcases hc with z | z
  ·rw [z];exact nit b u e
  ·exact nit c _ z
theorem Inv.tok (I:Inv X pins σ H s) (t:Nat):Inv X pins σ H { s with toks:=t }:=I.un (h':=s.heap) (t':=t) Un.refl I.hok
theorem Inv.kept {t':Nat} (I:Inv X pins σ H s) (k:∀ b u,s.heap.get? b=some u->h'.get? b=some u):Inv X pins σ H { s with heap:=h',toks:=t' }:=I.un (Un.kept k) (I.hok.kept k)
theorem Inv.laid {a:Addr} {o:HO} {t':Nat} (I:Inv X pins σ H s) (k:∀ b u,s.heap.get? b=some u->h'.get? b=some u) (hp:s.heap.objs.size ≤ a) (new:bF X.prog X.w (upd H a o) h' a o) :
  Inv X pins σ (upd H a o) { s with heap:=h',toks:=t' }:=I.un (Un.laid k hp (I.hok.fresh hp)) (I.hok.laid k hp new)
theorem Inv.write {x e:Addr} {o:HO} {t':Nat} (I:Inv X pins σ H s) (mu:Mut (H x)) (he:e=x ∨ H e=some (.own x)) (k:∀ b u,b ≠ e->s.heap.get? b=some u->h'.get? b=some u) (heo:∃ u,h'.get? e=some u)
  (new:bF X.prog X.w (upd H x o) h' x o):Inv X pins σ (upd H x o) { s with heap:=h',toks:=t' }:=I.un (Un.write mu he k heo) (I.hok.write mu he k heo new)
theorem Inv.DQ {pins':List (Addr × Obj)} (I:Inv X pins σ H s) (h:∀ p ∈ pins',s.heap.get? p.1 = some p.2 /\ H p.1 = none /\ p.1 ≠ X.env.locals /\ p.1 ∉ X.fs /\ ∀ v,p.2.data ≠ .cell v):Inv X pins' σ H s :=
 ⟨I.ok,I.os,I.bare,I.base,I.loc,I.cell,I.free,I.iN,λ p hp=>(List.mem_append.mp hp).elim (λ z=>I.pin p (List.mem_append_left _ z)) (h p),I.hok,I.len⟩
theorem B8 {N:List Str} (hN:N.Nodup) {i j:Nat} {x:Str} (a:N[i]? = some x) (b:N[j]? = some x):i=j:=by
 obtain⟨h1,e1⟩:=List.getElem?_eq_some_iff.mp a
 obtain⟨h2,e2⟩:=List.getElem?_eq_some_iff.mp b
 exact(List.getElem_inj hN).mp (e1.trans e2.symm)
theorem Ax {M:Model} {A:Around} {E:Value->Shared->Prop} {i:Nat} {x:Str} {v:V} {u:Value} {Q:Unit->Shared->Prop} (I:Inv X pins σ H s) (hN:X.N.Nodup) (hi:X.N[i]? = some x) (hx:Loc X.env.scope x) (r:RelV v u)
  (h:∀ s',Inv X pins (σ.set i (some v)) H s'->(∃ a,Heap.SameBut a s.heap s'.heap /\ (a = X.env.locals ∨ X.env.cells.lookup x = some a))->Q () s') (hf:X.fn x = true ∨ X.env.scope.names.lookup x = some .local:=by first | exact .inl rfl | exact .inr rfl | assumption):wpAny M A (storeName X.env x u) Q E s:=by
 obtain⟨m,hn,hl⟩:=id I.loc
 have hcls:(X.env.scope.kind == .class || (X.env.scope.kind == .module && X.env.locals != X.env.globals)) = false:=by rw [I.ok.kind]; rfl
 have hiσ:i < σ.length:=by rw [I.len];exact(List.getElem?_eq_some_iff.mp hi).1
 have cne:=I.cne
 have tracked:∀ {a:Addr} {h':Heap},(∃ o,s.heap.get? a=some o /\ H a=none)->Heap.SameBut a s.heap h'->HOk X.prog X.w H h':=λ {a h'} ha hs b ob e=>by
  obtain⟨_,_,hfree⟩:=ha
  refine(I.hok b ob e).stay (λ c w' hc q=>(hs.2 c ?_).trans q) (λ _ q=>q) λ _ _ q=>q
  rintro rfl
  rcases hc with rfl | hc
  ·rw [hfree] at e;cases e
  ·rw [hfree] at hc;cases hc
 rcases hx with hk | hk
 ·refine wpAny_storeName_local hk hn (λ h' hn' hs=>?_) hcls
  obtain⟨oL,_,_,hoL,_⟩:=id hn
  refine h _ ⟨I.ok,I.os,I.bare,⟨λ b o e n hb hx=>?_,λ b o e n hb hx=>?_,I.base.free,λ b o e hx=>?_,I.base.tups,I.base.mw,I.base.pC⟩,⟨_,hn',λ j y v' e1 e2 e3=>?_⟩,λ y c e=>?_,I.free,I.iN,λ p hp=>?_,tracked ⟨oL,hoL,I.free⟩ hs,by simpa using I.len⟩ ⟨_,hs,.inl rfl⟩
  ·exact(hs.2 b (Nat.ne_of_lt (Nat.lt_of_lt_of_le (Heap.lt_size e) I.ok.above))).trans (I.base.keep b o e n hb hx)
  ·obtain⟨sl,e1⟩:=I.base.slot b o e n hb hx
   exact⟨sl,(hs.2 b (Nat.ne_of_lt (Nat.lt_of_lt_of_le (Heap.lt_size e) I.ok.above))).trans e1⟩
  ·obtain⟨o',e1⟩:=I.base.there b o e hx
   exact⟨o',(hs.2 b (Nat.ne_of_lt (Nat.lt_of_lt_of_le (Heap.lt_size e) I.ok.above))).trans e1⟩
  ·by_cases hj:j=i
   ·subst hj
    rw [hi] at e1;cases e1
    rw [List.getElem?_set_self hiσ] at e2
    cases e2
    exact⟨u,r,.inl ⟨hk,by simp⟩⟩
   ·rw [List.getElem?_set_ne (Ne.symm hj)] at e2
    obtain⟨u',r',q⟩:=hl j y v' e1 e2 e3
    refine⟨u',r',?_⟩
    rcases q with⟨k,e⟩ |⟨k,c,e,z⟩
    ·refine .inl ⟨k,?_⟩
     have:y ≠ x:=λ e=>hj (B8 hN e1 (e ▸ hi))
     simp [this,e]
    ·exact .inr ⟨k,c,e,z.sameBut hs (cne y c e)⟩
  ·obtain⟨w',z⟩:=I.cell y c e
   exact⟨w',z.sameBut hs (cne y c e)⟩
  ·obtain⟨e,n,ne,nf,d⟩:=I.pin p hp
   exact⟨(hs.2 p.1 ne).trans e,n,ne,nf,d⟩
 ·have hfn:X.fn x=true:=by
   rcases hf with z | z
   ·exact z
   ·rw [z] at hk;cases hk
  obtain⟨c,hc⟩:=I.ok.has x (.inl hk)
  obtain⟨w',z⟩:=I.cell x c hc
  refine wpAny_storeName_cell I.ok.kind hk hc z (λ h' hc' hs=>?_)
  obtain⟨oc,hoc,hocd⟩:=id z
  refine h { s with heap:=h' } ⟨I.ok,I.os,I.bare,⟨λ b o e n hb hx=>?_,λ b o e n hb hx=>?_,I.base.free,λ b o e hx=>?_,I.base.tups,I.base.mw,I.base.pC⟩,⟨m,hn.sameBut hs (Ne.symm (cne x c hc)),λ j y v' e1 e2 e3=>?_⟩,λ y c' e=>?_,I.free,I.iN,λ p hp=>?_,tracked ⟨oc,hoc,I.iN x c hc⟩ hs,by simpa using I.len⟩ ⟨c,hs,.inr hc⟩
  ·exact(hs.2 b (Nat.ne_of_lt (Nat.lt_of_lt_of_le (Heap.lt_size e) (I.ok.cab x c hfn hc)))).trans (I.base.keep b o e n hb hx)
  ·obtain⟨sl,e1⟩:=I.base.slot b o e n hb hx
   exact⟨sl,(hs.2 b (Nat.ne_of_lt (Nat.lt_of_lt_of_le (Heap.lt_size e) (I.ok.cab x c hfn hc)))).trans e1⟩
  ·obtain⟨o',e1⟩:=I.base.there b o e hx
   exact⟨o',(hs.2 b (Nat.ne_of_lt (Nat.lt_of_lt_of_le (Heap.lt_size e) (I.ok.cab x c hfn hc)))).trans e1⟩
  ·by_cases hj:j=i
   ·subst hj
    rw [hi] at e1;cases e1
    rw [List.getElem?_set_self hiσ] at e2
    cases e2
    exact⟨u,r,.inr ⟨.inl hk,c,hc,hc'⟩⟩
   ·rw [List.getElem?_set_ne (Ne.symm hj)] at e2
    obtain⟨u',r',q⟩:=hl j y v' e1 e2 e3
    refine⟨u',r',?_⟩
    rcases q with q |⟨k,c',e,z'⟩
    ·exact .inl q
    ·refine .inr ⟨k,c',e,z'.sameBut hs ?_⟩
     rintro rfl
     exact hj (B8 hN e1 (I.ok.inj _ _ _ e hc ▸ hi))
  ·by_cases hcc:c'=c
   ·subst hcc;exact⟨_,hc'⟩
   ·obtain⟨w2,z2⟩:=I.cell y c' e
    exact⟨w2,z2.sameBut hs hcc⟩
  ·obtain⟨e,n,ne,nf,d⟩:=I.pin p hp
   refine⟨(hs.2 p.1 ?_).trans e,n,ne,nf,d⟩
   intro q
   rw [q,hoc] at e
   have q':oc=p.2:=Option.some.inj e
   exact d w' (by rw [← q'];exact hocd)
theorem Df {M:Model} {A:Around} {E:Value->Shared->Prop} {i:Nat} {x:Str} {v:V} {u:Value} {Q:Unit->Shared->Prop} (I:Inv X pins σ H s) (hN:X.N.Nodup) (hi:X.N[i]? = some x) (hx:Loc X.env.scope x) (r:RelV v u)
  (h:∀ s',Inv X pins (σ.set i (some v)) H s'->Q () s') (hf:X.fn x = true ∨ X.env.scope.names.lookup x = some .local:=by first | exact .inl rfl | exact .inr rfl | assumption):wpAny M A (storeName X.env x u) Q E s :=
 Ax I hN hi hx r (λ s' I' _=>h s' I') hf
theorem Inv.GB {s':Shared} {ch:List Addr} (I:Inv X pins σ H s) (ho:s'.os=s.os) (u:Un (frs X.stack) ch H H' s.heap s'.heap) (hok:HOk X.prog X.w H' s'.heap) (hg:AllBare s'.gens)
  (hch:∀ b ∈ ch,(b ∈ X.ex ∨ X.s₀.heap.objs.size ≤ b) /\ b ≠ X.env.locals /\ (∀ x c,X.env.cells.lookup x = some c->c ≠ b) /\ ∀ p ∈ X.pn ++ pins,p.1 ≠ b):Inv X pins σ H' s':=by
 obtain⟨h',g',d',t',o'⟩:=s'
 have e:o'=s.os:=ho
 subst e
 exact I.call (g':=g') (t':=t') (d':=d') u hok hg hch
end
abbrev XK:=Value->Option Addr->Hp->Prop
abbrev St:=List (Option V)
abbrev VK:=V->Hp->Prop
abbrev TE:=St->Hp->VK->Prop
abbrev TT:=St->Hp->(Bool->Hp->Prop)->Prop
abbrev TA:=St->Hp->(List V->Hp->Prop)->Prop
structure Ends where
 nx:St->Hp->Prop
 rt:VK
 bk:St->Hp->Prop:=λ _ _=>False
 ct:St->Hp->Prop:=λ _ _=>False
abbrev TS:=Ends->St->Hp->Prop
def EP (X:Cx) (pins:List (Addr × Obj)) (σ:St) (Q:VK) (u:Value) (s':Shared):Prop:=∃ v H',Inv X pins σ H' s' /\ RelV v u /\ Q v H'
def TP (X:Cx) (pins:List (Addr × Obj)) (σ:St) (Q:Bool->Hp->Prop) (b:Bool) (s':Shared):Prop:=∃ H',Inv X pins σ H' s' /\ Q b H'
def AP (X:Cx) (pins:List (Addr × Obj)) (σ:St) (Q:List V->Hp->Prop) (us:List Value) (s':Shared):Prop:=∃ vs H',Inv X pins σ H' s' /\ Vals vs us /\ Q vs H'
def SP (X:Cx) (pins:List (Addr × Obj)) (D:Ends) (f:Flow) (s':Shared):Prop :=
 match f with
 | .next=>∃ σ' H',Inv X pins σ' H' s' /\ D.nx σ' H'
 | .brk=>∃ σ' H',Inv X pins σ' H' s' /\ D.bk σ' H'
 | .cont=>∃ σ' H',Inv X pins σ' H' s' /\ D.ct σ' H'
 | .ret u=>∃ v σ' H',Inv X pins σ' H' s' /\ RelV v u /\ D.rt v H'
def PE (X:Cx) (e:Expr) (t:TE):Prop :=
 ∀(pins:List (Addr × Obj)) (s:Shared) (σ:St) (H:Hp) (Q:VK),Inv X pins σ H s->t σ H Q->wpAny (model X.prog X.w) X.A (eval e X.env) (EP X pins σ Q) X.xe s
def PT (X:Cx) (e:Expr) (t:TT):Prop :=
 ∀(pins:List (Addr × Obj)) (s:Shared) (σ:St) (H:Hp) (Q:Bool->Hp->Prop),Inv X pins σ H s->t σ H Q->wpAny (model X.prog X.w) X.A (isTrue e X.env (eval e X.env)) (TP X pins σ Q) X.xe s
def PW (X:Cx) (e:Expr) (t:TT):Prop :=
 ∀(whole:Sem Value) (pins:List (Addr × Obj)) (s:Shared) (σ:St) (H:Hp) (Q:Bool->Hp->Prop),Inv X pins σ H s->t σ H Q->wpAny (model X.prog X.w) X.A (isTrue e X.env whole) (TP X pins σ Q) X.xe s
theorem PW.pt {X:Cx} {e:Expr} {t:TT} (h:PW X e t):PT X e t:=h _
def PA (X:Cx) (es:List Expr) (t:TA):Prop :=
 ∀(pos:Pos) (pins:List (Addr × Obj)) (s:Shared) (σ:St) (H:Hp) (Q:List V->Hp->Prop),Inv X pins σ H s->t σ H Q->wpAny (model X.prog X.w) X.A (spliced (backTo pos (starEach es X.env))) (AP X pins σ Q) X.xe s
def PS (X:Cx) (st:Stmt) (t:TS):Prop :=
 ∀(pins:List (Addr × Obj)) (s:Shared) (σ:St) (H:Hp) (D:Ends),Inv X pins σ H s->t D σ H->wpAny (model X.prog X.w) X.A (exec st X.env) (SP X pins D) X.xe s
def PSs (X:Cx) (st:List Stmt) (t:TS):Prop :=
 ∀(pins:List (Addr × Obj)) (s:Shared) (σ:St) (H:Hp) (D:Ends),Inv X pins σ H s->t D σ H->wpAny (model X.prog X.w) X.A (execs st X.env) (SP X pins D) X.xe s
theorem thn {α:Type} {t:Sem α} {Q Q':α->Shared->Prop} {M:Model} {A:Around} {E:Value->Shared->Prop} {s:Shared} (h:wpAny M A t Q E s) (hQ:∀ a s,Q a s->Q' a s):wpAny M A t Q' E s:=wpAny_mono h hQ λ _ _ x=>x
open PySem PySem.Spec PyProof.Rows
section
variable {X:Cx}
def d9 (i:Nat):TE:=λ σ H Q=>∃ v,σ[i]? = some (some v) /\ Q v H
def tC (v:V):TE:=λ _ H Q=>Q v H
theorem Ms {i:Nat} {x:Str} {pos:Pos} (hN:X.N[i]? = some x) (hv:Vis X.env.scope x) (hd:(x ==("__debug__":Str))=false:=by decide) (hcd:(x ==("__classdict__":Str))=false:=by decide):PE X (.Name x pos) (d9 i):=by
 intro pins s σ H Q I h
 obtain⟨v,e,h⟩:=h
 obtain⟨m,hn,hl⟩:=I.loc
 obtain⟨u,r,l⟩:=hl i x v hN e hv
 have fin:EP X pins σ Q u s:=⟨v,H,I,r,h⟩
 rcases l with⟨hk,hm⟩ |⟨hk,c,hc,hcell⟩
 ·exact wpAny_Name (wpAny_loadName_local I.ok.kind hk hn hm fin) hd
 ·rcases hk with hk | hk
  ·exact wpAny_Name (wpAny_loadName_cell I.ok.kind hk hc hcell fin) hd
  ·exact wpAny_Name (wpAny_loadName_free I.ok.kind hk hc hcell fin hcd) hd
theorem az {i j pos}:PE X (.Constant (.int i) j pos) (tC (.int i)):=λ _ _ _ H _ I h=>wpAny_Constant_int ⟨.int i,H,I.tok _,⟨_,rfl⟩,h⟩
theorem eO {b j pos}:PE X (.Constant (.bool b) j pos) (tC (.bl b)):=λ _ _ _ H _ I h=>Constant_bool ⟨.bl b,H,I,rfl,h⟩
theorem tM {j pos}:PE X (.Constant .none j pos) (tC .non):=λ _ _ _ H _ I h=>Constant_none ⟨.non,H,I,rfl,h⟩
theorem Co {x j pos}:PE X (.Constant (.str x) j pos) (tC (.str x)):=λ _ _ _ H _ I h=>Calls.Constant_str ⟨.str x,H,I.tok _,⟨_,rfl⟩,h⟩
def Gl (X:Cx) (x:Str):Prop:=X.env.kindOf x=some .globalImplicit
theorem kX {E:Value->Shared->Prop} {pins:List (Addr × Obj)} {s:Shared} {σ:St} {H:Hp} {x:Str} {u:Value} {pos:Pos} {Q:Value->Shared->Prop} (I:Inv X pins σ H s) (hg:Gl X x) (hm:X.mg x=some u) (h:Q u s)
  (hd:(x ==("__debug__":Str))=false:=by decide):wpAny (model X.prog X.w) X.A (eval (.Name x pos) X.env) Q E s :=
 Calls.Name_function_global I.ok.kind hg (Calls.loadGlobal_global (by rw [I.ok.glob];exact I.mod.glob.keeps I.bk) hm h) hd
theorem iE {E:Value->Shared->Prop} {pins:List (Addr × Obj)} {s:Shared} {σ:St} {H:Hp} {x:Str} {u:Value} {pos:Pos} {Q:Value->Shared->Prop} (I:Inv X pins σ H s) (hg:Gl X x) (hm:X.mg x=none) (hv:bootBuiltins x=some u) (h:Q u s)
  (hn:x ≠ "__name__":=by decide) (hd:(x ==("__debug__":Str))=false:=by decide):wpAny (model X.prog X.w) X.A (eval (.Name x pos) X.env) Q E s:=by
 obtain⟨mb,h1,h2⟩:=I.mod.blt
 exact Calls.Name_function_global I.ok.kind hg (Calls.loadGlobal_builtin (by rw [I.ok.glob];exact I.mod.glob.keeps I.bk) hm (by rw [I.ok.blt];exact h1.keeps I.bk) ((h2 x hn).trans hv) h) hd
theorem oO {x:Str} {v:V} {u:Value} {pos:Pos} (hg:Gl X x) (hm:X.mg x=some u) (r:RelV v u) (hd:(x ==("__debug__":Str))=false:=by decide):PE X (.Name x pos) (tC v) :=
 λ _ _ _ H _ I h=>kX I hg hm ⟨v,H,I,r,h⟩ hd
theorem jt {x:Str} {v:V} {u:Value} {pos:Pos} (hg:Gl X x) (hm:X.mg x=none) (hv:bootBuiltins x=some u) (r:RelV v u) (hn:x ≠ "__name__":=by decide) (hd:(x ==("__debug__":Str))=false:=by decide):PE X (.Name x pos) (tC v) :=
 λ _ _ _ H _ I h=>iE I hg hm hv ⟨v,H,I,r,h⟩ hn hd
variable {a b:Expr} {ta tb:TE} {pos:Pos}
def PC (X:Cx) (op:CmpOp) (a b:Expr) (t:TE):Prop :=
 ∀(pins:List (Addr × Obj)) (s:Shared) (σ:St) (H:Hp) (Q:VK),Inv X pins σ H s->t σ H Q →
  wpAny (model X.prog X.w) X.A (eval a X.env) (λ v s₁=>wpAny (model X.prog X.w) X.A (eval b X.env) (λ u s₂=>wpAny (model X.prog X.w) X.A (compareOp op v u) (EP X pins σ Q) X.xe s₂) X.xe s₁) X.xe s
theorem K6 (b:Expr) {op:CmpOp} (h:op ≠ .In) (h2:op ≠ .NotIn):behindInMarks op b=false:=by
 have e1:(op == CmpOp.In)=false:=by cases op <;> first | rfl | exact absurd rfl h
 have e2:(op == CmpOp.NotIn)=false:=by cases op <;> first | rfl | exact absurd rfl h2
 cases b <;> simp [behindInMarks,e1,e2]
def tB (t:TE):TT:=λ σ H Q=>t σ H λ x H1=>∃ c,x = .bl c /\ Q c H1
theorem Mt {op:CmpOp} {t:TE} (h:PC X op a b t) (h1:behindInMarks op b=false:=by first | exact K6 _ (by decide) (by decide) | rfl):PT X (.Compare a [op] [b] pos) (tB t):=by
 intro pins s σ H Q I hw
 refine wpAny_isTrue_Compare1 (thn (h pins s σ H _ I hw) λ v s1 h1=>thn h1 λ u s2 h2=>thn h2 λ c s3 ⟨x,H1,I1,r1,q1⟩=>?_) h1
 obtain⟨d,rfl,q⟩:=q1
 cases r1
 exact wpAny_truthy_bool ⟨H1,I1,q⟩
theorem cQ {e:Expr} {t:TE} (h:PE X e t) (he:∀ whole,isTrue e X.env whole =(do let v ← whole;standAt e.pos;holding [v] (truthy v)):=by intro _;rfl):PT X e (tB t):=by
 intro pins s σ H Q I hw
 refine isTrue_plain (thn (h pins s σ H _ I hw) λ v s1 ⟨x,H1,I1,r1,q1⟩=>?_) (he _)
 obtain⟨d,rfl,q⟩:=q1
 cases r1
 exact wpAny_truthy_bool ⟨H1,I1,q⟩
variable {tA tB':TT} {rest:List Expr}
def OP (t u:TT):TT:=λ σ H Q=>t σ H λ c H1=>if c=true then u σ H1 Q else Q false H1
def tOr (t u:TT):TT:=λ σ H Q=>t σ H λ c H1=>if c=true then Q true H1 else u σ H1 Q
def PR (t:TT):TT:=λ σ H Q=>t σ H λ c H1=>Q (!c) H1
theorem pw_and1 (ha:PT X a tA):PW X (.BoolOp .And [a] pos) tA:=by
 intro wh pins s σ H Q I h
 refine isTrue_and (thn (ha pins s σ H Q I h) λ c s1 e=>?_)
 cases c with
 | true=>exact isTrue_and_nil e
 | false=>exact e
theorem pw_or1 (ha:PT X a tA):PW X (.BoolOp .Or [a] pos) tA:=by
 intro wh pins s σ H Q I h
 refine isTrue_or (thn (ha pins s σ H Q I h) λ c s1 e=>?_)
 cases c with
 | false=>exact isTrue_or_nil e
 | true=>exact e
theorem pw_and (ha:PT X a tA) (hb:PW X (.BoolOp .And (b :: rest) pos) tB'):PW X (.BoolOp .And (a :: b :: rest) pos) (OP tA tB'):=by
 intro wh pins s σ H Q I h
 refine isTrue_and (thn (ha pins s σ H _ I h) λ c s1 ⟨H1,I1,q1⟩=>?_)
 cases c with
 | true=>exact hb wh pins s1 σ H1 Q I1 q1
 | false=>exact⟨H1,I1,q1⟩
theorem pw_or (ha:PT X a tA) (hb:PW X (.BoolOp .Or (b :: rest) pos) tB'):PW X (.BoolOp .Or (a :: b :: rest) pos) (tOr tA tB'):=by
 intro wh pins s σ H Q I h
 refine isTrue_or (thn (ha pins s σ H _ I h) λ c s1 ⟨H1,I1,q1⟩=>?_)
 cases c with
 | true=>exact⟨H1,I1,q1⟩
 | false=>exact hb wh pins s1 σ H1 Q I1 q1
theorem fq (ha:PT X a tA):PT X (.UnaryOp .Not a pos) (PR tA):=by
 intro pins s σ H Q I h
 exact isTrue_not (ha pins s σ H (λ c H1=>Q (!c) H1) I h)
def Oh (ta tb:TE):TE:=λ σ H Q=>ta σ H λ x H1=>∃ c,x = .bl c /\ if c=true then tb σ H1 Q else Q (.bl false) H1
def Nc (ta tb:TE):TE:=λ σ H Q=>ta σ H λ x H1=>∃ c,x = .bl c /\ if c=true then Q (.bl true) H1 else tb σ H1 Q
def Lu (ta:TE):TE:=λ σ H Q=>ta σ H λ x H1=>∃ c,x = .bl c /\ Q (.bl (!c)) H1
theorem Dj {op} {t:TE} (h:PE X a t):PE X (.BoolOp op [a] pos) t:=λ pins s σ H Q I hw=>BoolOp_one (h pins s σ H Q I hw)
theorem Ht (ha:PE X a ta) (hb:PE X (.BoolOp .And (b :: rest) pos) tb):PE X (.BoolOp .And (a :: b :: rest) pos) (Oh ta tb):=by
 intro pins s σ H Q I h
 refine BoolOp_and (thn (ha pins s σ H _ I h) λ v s1 ⟨x,H1,I1,r1,q1⟩=>?_)
 obtain⟨c,rfl,q1⟩:=q1
 cases r1
 refine wpAny_truthy_bool ?_
 cases c with
 | true=>exact hb pins s1 σ H1 Q I1 q1
 | false=>exact⟨.bl false,H1,I1,rfl,q1⟩
theorem Ow (ha:PE X a ta) (hb:PE X (.BoolOp .Or (b :: rest) pos) tb):PE X (.BoolOp .Or (a :: b :: rest) pos) (Nc ta tb):=by
 intro pins s σ H Q I h
 refine BoolOp_or (thn (ha pins s σ H _ I h) λ v s1 ⟨x,H1,I1,r1,q1⟩=>?_)
 obtain⟨c,rfl,q1⟩:=q1
 cases r1
 refine wpAny_truthy_bool ?_
 cases c with
 | false=>exact hb pins s1 σ H1 Q I1 q1
 | true=>exact⟨.bl true,H1,I1,rfl,q1⟩
theorem Hy (ha:PE X a ta):PE X (.UnaryOp .Not a pos) (Lu ta):=by
 intro pins s σ H Q I h
 refine UnaryOp_ (thn (ha pins s σ H _ I h) λ v s1 ⟨x,H1,I1,r1,q1⟩=>?_)
 obtain⟨c,rfl,q1⟩:=q1
 cases r1
 exact not_of (wpAny_truthy_bool ⟨.bl (!c),H1,I1,rfl,q1⟩)
def tIf (t:TT) (ta tb:TE):TE:=λ σ H Q=>t σ H λ c H1=>if c=true then ta σ H1 Q else tb σ H1 Q
theorem Le {c:Expr} (hc:PT X c tA) (ha:PE X a ta) (hb:PE X b tb):PE X (.IfExp c a b pos) (tIf tA ta tb):=by
 intro pins s σ H Q I h
 refine wpAny_IfExp (thn (hc pins s σ H _ I h) λ d s1 ⟨H1,I1,q1⟩=>?_)
 cases d with
 | true=>exact ha pins s1 σ H1 Q I1 q1
 | false=>exact hb pins s1 σ H1 Q I1 q1
end
open PySem PySem.Spec PyProof.Rows
def SqL (K:PySem.W.Frag) (H:Hp) (a:Addr) (xs:List V):Prop :=
 Rd H a (.lst xs) ∨
  ∃(o:Obj) (its:Array Value) (n:Nat),K.lookup a=some o /\ o.cls = .type "list" /\ o.dict=none /\ o.data = .seq its n /\ its.size ≤ sizeLine /\ Vals xs its.toList
def SqT (K:PySem.W.Frag) (H:Hp) (a:Addr) (xs:List V):Prop :=
 Rd H a (.tup xs) ∨
  ∃(o:Obj) (its:Array Value) (n:Nat),K.lookup a=some o /\ o.cls = .type "tuple" /\ o.data = .seq its n /\ its.size ≤ sizeLine /\ Vals xs its.toList
def Pn:Value->Option V
 | .none=>some .non
 | .bool b=>some (.bl b)
 | .int i _=>some (.int i)
 | .str x _=>some (.str x)
 | .bytes b _=>some (.byt b)
 | .float b _=>some (.flt b)
 | .ref a=>some (.ref a)
 | .type n=>some (.ty n)
 | _=>none
theorem RelV.abs {x:V} {u:Value} (r:RelV x u):Pn u=some x:=by
 cases x with
 | non=>cases r;rfl
 | bl _=>cases r;rfl
 | int _=>obtain⟨t,rfl⟩:=r;rfl
 | str _=>obtain⟨t,rfl⟩:=r;rfl
 | byt _=>obtain⟨t,rfl⟩:=r;rfl
 | flt _=>obtain⟨t,rfl⟩:=r;rfl
 | ref _=>cases r;rfl
 | ty _=>cases r;rfl
theorem RelV.inj {x y:V} {u:Value} (r:RelV x u) (q:RelV y u):x=y:=Option.some.inj (r.abs.symm.trans q.abs)
theorem Vals.inj:∀ {xs ys:List V} {us:List Value},Vals xs us->Vals ys us->xs=ys
 | _,_,_,.nil,.nil=>rfl
 | _,_,_,.cons r t,.cons r' t'=>by rw [r.inj r',Vals.inj t t']
section
variable {X:Cx} {pins:List (Addr × Obj)} {σ:St} {H:Hp} {s:Shared} {a:Addr} {xs ys:List V}
theorem SqL.of {K:PySem.W.Frag} (h:H a=some (.lst xs)):SqL K H a xs:=.inl (.inl h)
theorem SqT.of {K:PySem.W.Frag} (h:H a=some (.tup xs)):SqT K H a xs:=.inl (.inl h)
theorem Inv.list (I:Inv X pins σ H s) (h:SqL X.K H a xs):∃ its:List Value,Vals xs its /\ PlainL s.heap a its.toArray /\ xs.length ≤ sizeLine:=by
 rcases h with h |⟨o,its,n,hk,hc,hd,hs,hz,r⟩
 ·obtain⟨z,its,n,r,e⟩:=h.ok I.hok
  exact⟨its,r,⟨_,n,e,rfl,rfl,rfl⟩,z⟩
 ·refine⟨its.toList,r,⟨o,n,I.kIn a o hk,hc,hd,by simpa using hs⟩,?_⟩
  have e:=r.length
  simp only [Array.length_toList] at e
  omega
theorem Inv.tuple (I:Inv X pins σ H s) (h:SqT X.K H a xs):∃ its:List Value,Vals xs its /\ IsTup s.heap a its.toArray /\ xs.length ≤ sizeLine:=by
 rcases h with h |⟨o,its,n,hk,hc,hs,hz,r⟩
 ·obtain⟨z,its,r,p⟩:=h.ok I.hok
  exact⟨its,r,p,z⟩
 ·refine⟨its.toList,r,⟨o,I.kIn a o hk,hc,n,by simpa using hs⟩,?_⟩
  have e:=r.length
  simp only [Array.length_toList] at e
  omega
theorem Inv.C5 (I:Inv X pins σ H s) (h:SqL X.K H a xs) (h':SqL X.K H a ys):xs=ys:=by
 obtain⟨its,r,⟨o,n,e,_,_,d⟩,_⟩:=I.list h
 obtain⟨its',r',⟨o',n',e',_,_,d'⟩,_⟩:=I.list h'
 rw [e] at e';cases e'
 rw [d] at d'
 injection d' with d1 _
 have:its=its':=by simpa using congrArg Array.toList d1
 subst this
 exact r.inj r'
theorem Inv.Aw (I:Inv X pins σ H s) (h:SqT X.K H a xs) (h':SqT X.K H a ys):xs=ys:=by
 obtain⟨its,r,⟨o,e,_,n,d⟩,_⟩:=I.tuple h
 obtain⟨its',r',⟨o',e',_,n',d'⟩,_⟩:=I.tuple h'
 rw [e] at e';cases e'
 rw [d] at d'
 injection d' with d1 _
 have:its=its':=by simpa using congrArg Array.toList d1
 subst this
 exact r.inj r'
end
abbrev Cx.pQ (X:Cx) (E:Value->Shared->Prop):Cx:={ X with xe:=E }
abbrev Cx.nox (X:Cx):Cx:=X.pQ λ _ _=>False
theorem Cx.Ok.pQ {X:Cx} (ok:X.Ok) (E:Value->Shared->Prop):(X.pQ E).Ok :=
 ⟨ok.mod,ok.kind,ok.glob,ok.blt,ok.above,ok.inj,ok.has,ok.cab,ok.hd,ok.frames,ok.stk,ok.exf,ok.bs,ok.bsz,ok.zw,ok.Ah,ok.jG,ok.frf⟩
theorem Cx.Ok.C8 {X:Cx} {E:Value->Shared->Prop} (ok:(X.pQ E).Ok):X.Ok :=
 ⟨ok.mod,ok.kind,ok.glob,ok.blt,ok.above,ok.inj,ok.has,ok.cab,ok.hd,ok.frames,ok.stk,ok.exf,ok.bs,ok.bsz,ok.zw,ok.Ah,ok.jG,ok.frf⟩
section
variable {X:Cx} {pins:List (Addr × Obj)} {σ:St} {H:Hp} {s:Shared} {E:Value->Shared->Prop}
theorem Inv.pQ (I:Inv X pins σ H s) (E:Value->Shared->Prop):Inv (X.pQ E) pins σ H s:=⟨I.ok.pQ E,I.os,I.bare,I.base,I.loc,I.cell,I.free,I.iN,I.pin,I.hok,I.len⟩
theorem Inv.C8 (I:Inv (X.pQ E) pins σ H s):Inv X pins σ H s:=⟨I.ok.C8,I.os,I.bare,I.base,I.loc,I.cell,I.free,I.iN,I.pin,I.hok,I.len⟩
end
section
variable {X:Cx} {st:Stmt} {rest:List Stmt} {t u:TS} {e:Expr} {te:TE} {pos:Pos}
def iL:TS:=λ D σ H=>D.nx σ H
def Ez (t u:TS):TS:=λ D σ H=>t { D with nx:=u D } σ H
theorem bu:PSs X [] iL:=λ _ _ σ H _ I h=>wpAny_execs_nil ⟨σ,H,I,h⟩
theorem av (h1:PS X st t) (h2:PSs X rest u):PSs X (st :: rest) (Ez t u):=by
 intro pins s σ H D I h
 refine wpAny_execs_cons (thn (h1 pins s σ H { D with nx:=u D } I h) λ f s1 q=>?_)
 cases f with
 | next =>
  obtain⟨σ',H',I',q⟩:=q
  exact h2 pins s1 σ' H' D I' q
 | ret v=>exact q
 | brk=>exact q
 | cont=>exact q
theorem aD (h1:PS X st t):PSs X [st] t:=by
 intro pins s σ H D I h
 refine wpAny_execs_cons (thn (h1 pins s σ H D I h) λ f s1 q=>?_)
 cases f with
 | next=>exact wpAny_execs_nil q
 | ret v=>exact q
 | brk=>exact q
 | cont=>exact q
theorem Inv.quiet {pins:List (Addr × Obj)} {σ:St} {H:Hp} {s:Shared} (I:Inv X pins σ H s):interactive X.env=false:=by simp [interactive,I.ok.kind]
def vd (te:TE):TS:=λ D σ H=>te σ H λ _ H1=>D.nx σ H1
theorem bV (he:PE X e te) (hs:swapsWith e none pos.line X.env=pure false:=by rfl):PS X (.Expr e pos) (vd te):=by
 intro pins s σ H D I h
 exact wpAny_Expr_any (thn (he pins s σ H _ I h) λ v s1 ⟨x,H1,I1,r1,q1⟩=>⟨σ,H1,I1,q1⟩) I.quiet hs
def OR (te:TE):TS:=λ D σ H=>te σ H D.rt
theorem aQ (he:PE X e te):PS X (.Return (some e) pos) (OR te):=by
 intro pins s σ H D I h
 exact wpAny_Return_some (thn (he pins s σ H _ I h) λ v s1 ⟨x,H1,I1,r1,q1⟩=>⟨x,σ,H1,I1,r1,q1⟩)
def yI (c:TT) (t u:TS):TS:=λ D σ H=>c σ H λ b H1=>if b=true then t D σ H1 else u D σ H1
theorem bN {c:Expr} {a b:List Stmt} {tc:TT} (hc:PT X c tc) (ha:PSs X a t) (hb:PSs X b u):PS X (.If c a b pos) (yI tc t u):=by
 intro pins s σ H D I h
 refine wpAny_If (thn (hc pins s σ H _ I h) λ d s1 ⟨H1,I1,q1⟩=>?_)
 cases d with
 | true=>exact ha pins s1 σ H1 D I1 q1
 | false=>exact hb pins s1 σ H1 D I1 q1
end
abbrev TG:=V->St->Hp->(St->Hp->Prop)->Prop
abbrev TGs:=List V->St->Hp->(St->Hp->Prop)->Prop
def PG (X:Cx) (target:Expr) (t:TG):Prop :=
 ∀(pins:List (Addr × Obj)) (s:Shared) (σ:St) (H:Hp) (v:V) (u:Value) (Q:St->Hp->Prop),Inv X pins σ H s->RelV v u->t v σ H Q →
  wpAny (model X.prog X.w) X.A (assign target X.env u) (λ _ s'=>∃ σ' H',Inv X pins σ' H' s' /\ Q σ' H') X.xe s
def PGs (X:Cx) (ts:List Expr) (t:TGs):Prop :=
 ∀(pins:List (Addr × Obj)) (s:Shared) (σ:St) (H:Hp) (vs:List V) (us:List Value) (Q:St->Hp->Prop),Inv X pins σ H s->Vals vs us->t vs σ H Q →
  wpAny (model X.prog X.w) X.A (assignInOrder ((assignEach ts X.env).map (·.2)) us) (λ _ s'=>∃ σ' H',Inv X pins σ' H' s' /\ Q σ' H') X.xe s
abbrev Ky:=V->V->V->Hp->(Hp->Prop)->Prop
def NG (X:Cx) (t:Ky):Prop :=
 ∀(pins:List (Addr × Obj)) (s:Shared) (σ:St) (H:Hp) (o i v:V) (ov iv u:Value) (Q:Hp->Prop),Inv X pins σ H s->RelV o ov->RelV i iv->RelV v u->t o i v H Q →
  wpAny (model X.prog X.w) X.A (setItem ov iv u) (λ _ s'=>∃ H',Inv X pins σ H' s' /\ Q H') X.xe s
section
variable {X:Cx} {pos:Pos}
def qb (i:Nat):TG:=λ v σ H Q=>Q (σ.set i (some v)) H
theorem aT {i:Nat} {x:Str} (hN:X.N.Nodup) (hi:X.N[i]? = some x) (hx:Loc X.env.scope x) (hf:X.fn x = true ∨ X.env.scope.names.lookup x = some .local:=by first | exact .inl rfl | exact .inr rfl | assumption):PG X (.Name x pos) (qb i):=by
 intro pins s σ H v u Q I r h
 exact wpAny_assign_Name (Df I hN hi hx r (λ s' I'=>⟨_,H,I',h⟩) hf)
def PN:TGs:=λ vs σ H Q=>vs = [] /\ Q σ H
def NS (t:TG) (u:TGs):TGs:=λ vs σ H Q=>∃ v r,vs=v :: r /\ t v σ H λ σ' H'=>u r σ' H' Q
theorem ir:PGs X [] PN:=by
 intro pins s σ H vs us Q I r h
 obtain⟨e,h⟩:=h
 subst e
 cases r
 exact assignInOrder_nil ⟨σ,H,I,h⟩
theorem bL {e:Expr} {es:List Expr} {t:TG} {u:TGs} (h1:PG X e t) (h2:PGs X es u)
  (hs:(assignEach (e :: es) X.env).map (·.2)=assign e X.env ::(assignEach es X.env).map (·.2):=by rfl):PGs X (e :: es) (NS t u):=by
 intro pins s σ H vs us Q I r h
 obtain⟨v,vr,e1,h⟩:=h
 subst e1
 cases r with
 | cons r rr =>
  rw [hs]
  refine assignInOrder_cons (thn (h1 pins s σ H _ _ _ I r h) λ _ s1 ⟨σ1,H1,I1,q1⟩=>?_)
  exact h2 pins s1 σ1 H1 _ _ Q I1 rr q1
def MJ (K:PySem.W.Frag) (n:Nat) (t:TGs):TG:=λ v σ H Q=>∃ a xs,v = .ref a /\ SqT K H a xs /\ xs.length=n /\ t xs σ H Q
theorem jf {es:List Expr} {k:Nat} {t:TGs} {n:Nat} (hc:X.calm=true) (h:PGs X es t)
  (hn:(assignEach es X.env).length=n:=by rfl) (hst:(assignEach es X.env).findIdx? (·.1)=none:=by rfl):PG X (.Tuple es k pos) (MJ X.K n t):=by
 intro pins s σ H v u Q I r hw
 obtain⟨a,xs,e1,hq,hl,hw⟩:=hw
 subst e1
 cases r
 obtain⟨its,rv,ht,hz⟩:=I.tuple hq
 refine assign_Tuple_tuple (I.ok.hd hc) ht (by simp [hn,← hl,rv.length]) hst λ h' hx=>?_
 have I1:Inv X pins σ H { s with heap:=h' }:=I.kept (t':=s.toks) λ b o e=>hx b o (Nat.ne_of_lt (Heap.lt_size e)) e
 exact h pins _ σ H xs _ Q I1 (by simpa using rv) hw
def Pq (to ti:TE) (t:Ky):TG:=λ v σ H Q=>to σ H λ o H1=>ti σ H1 λ i H2=>t o i v H2 λ H3=>Q σ H3
theorem HP {o i:Expr} {to ti:TE} {t:Ky} (ho:PE X o to) (hi:PE X i ti) (hs:NG X t)
  (ha:∀ v,assign (.Subscript o i pos) X.env v =(do
   let ov ← holding [v] (eval o X.env)
   let iv ← holding [v,ov] (eval i X.env)
   standAt pos
   holding [v,ov,iv] (setItem ov iv v)
   release [v,ov,iv] []):=by intro _;rfl):PG X (.Subscript o i pos) (Pq to ti t):=by
 intro pins s σ H v u Q I r h
 rw [ha]
 refine wpAny_bind (wpAny_holding (thn (ho pins s σ H _ I h) λ ov s1 ⟨x,H1,I1,r1,q1⟩=>?_))
 refine wpAny_bind (wpAny_holding (thn (hi pins s1 σ H1 _ I1 q1) λ iv s2 ⟨y,H2,I2,r2,q2⟩=>?_))
 refine wpAny_bind (wpAny_standAt (wpAny_bind (wpAny_holding (thn (hs pins s2 σ H2 x y v ov iv u _ I2 r1 r2 r q2) λ _ s3 ⟨H3,I3,q3⟩=>?_))))
 exact wpAny_release ⟨σ,H3,I3,q3⟩
def Kw (te:TE) (g:TG):TS:=λ D σ H=>te σ H λ x H1=>g x σ H1 D.nx
theorem yl {tg e:Expr} {te:TE} {g:TG} (he:PE X e te) (hg:PG X tg g) (hs:swapsWithSole [tg] e pos.line X.env=pure false:=by rfl) (hw:swappedStores [tg] e X.env=pure none:=by rfl)
  (h1:(assignEach [tg] X.env).map (·.2) = [assign tg X.env]:=by rfl):PS X (.Assign [tg] e pos) (Kw te g):=by
 intro pins s σ H D I h
 refine wpAny_Assign_stores (thn (he pins s σ H _ I h) λ v s1 ⟨x,H1,I1,r1,q1⟩=>?_) hs hw
 rw [h1]
 exact thn (hg pins s1 σ H1 x v _ I1 r1 q1) λ _ s2 q=>q
theorem aN {i:Nat} {x:Str} {e:Expr} {te:TE} {pos':Pos} (hN:X.N.Nodup) (hi:X.N[i]? = some x) (hx:Loc X.env.scope x) (he:PE X e te) (hs:swapsWith e (some (.Name x pos')) pos.line X.env = pure false:=by rfl) (hf:X.fn x = true ∨ X.env.scope.names.lookup x = some .local:=by first | exact .inl rfl | exact .inr rfl | assumption) :
  PS X (.Assign [.Name x pos'] e pos) (Kw te (qb i)):=by
 intro pins s σ H D I h
 refine wpAny_Assign_Name (thn (he pins s σ H _ I h) λ v s1 ⟨y,H1,I1,r1,q1⟩=>?_) hs
 exact Df I1 hN hi hx r1 (λ s2 I2=>⟨_,H1,I2,q1⟩) hf
end
structure It where
 go:Nat->Hp->Prop
 yld:Nat->Hp->V->Hp->Prop
 stop:Nat->Hp->Prop
def gY (X:Cx) (pins:List (Addr × Obj)) (H:Hp) (b:Addr):Prop :=
 H b = none /\ b ≠ X.env.locals /\ b ∉ X.fs /\ (b ∈ X.ex ∨ X.s₀.heap.objs.size ≤ b) /\ (∀ x c,X.env.cells.lookup x = some c->c ≠ b) /\ ∀ p ∈ X.pn ++ pins,p.1 ≠ b
theorem Inv.rP {X:Cx} {pins:List (Addr × Obj)} {σ:St} {H H':Hp} {s:Shared} {b:Addr} (I:Inv X pins σ H s) (hb:s.heap.objs.size ≤ b) (hn:H' b=none):gY X pins H' b:=by
 refine⟨hn,Nat.ne_of_gt (Nat.lt_of_lt_of_le I.lt hb),I.Pu hb,.inr (Nat.le_trans I.sz hb),λ x c e z=>?_,λ p hp z=>?_⟩
 ·obtain⟨v,q⟩:=I.cell x c e
  exact absurd (Nat.lt_of_lt_of_le q.lt (by rw [z];exact hb)) (Nat.lt_irrefl _)
 ·exact absurd (Nat.lt_of_lt_of_le (Heap.lt_size (I.pin p hp).1) (by rw [z];exact hb)) (Nat.lt_irrefl _)
structure Turn (P:Program) (w:World) (K:PySem.W.Frag) (tg:Expr) (J:It) (fp:List Addr) (it:Addr) (tn:Nat->Heap->Prop):Prop where
 mem:it ∈ fp
 obj:∀ i h,tn i h->∀ b ∈ fp,∃ o,h.get? b=some o /\ ∀ v,o.data ≠ .cell v
 keep:∀ i h h',tn i h->(∀ b ∈ fp,∀ o,h.get? b=some o->h'.get? b=some o)->tn i h'
 item:∀(X:Cx),X.prog=P->X.w=w->X.K=K->X.calm=true->∀(i:Nat) (pins:List (Addr × Obj)) (s:Shared) (σ:St) (H:Hp) (E:Value->Shared->Prop),Inv X pins σ H s->(∀ b ∈ fp,gY X pins H b)->tn i s.heap->J.go i H →
  wpAny (model P w) X.A (pyNext (.ref it)) (λ r s1=>∃ u,r=some u ∧
   wpAny (model P w) X.A (letOwnedTupleGo tg (.ref it) u) (λ _ s2=>∃ x H',Inv X pins σ H' s2 /\ RelV x u /\ J.yld i H x H' /\ tn (i + 1) s2.heap /\ ∀ b ∈ fp,H' b=none) E s1) E s
 done:∀(X:Cx),X.prog=P->X.w=w->X.K=K->X.calm=true->∀(i:Nat) (pins:List (Addr × Obj)) (s:Shared) (σ:St) (H:Hp) (E:Value->Shared->Prop),Inv X pins σ H s->(∀ b ∈ fp,gY X pins H b)->tn i s.heap->J.stop i H →
  wpAny (model P w) X.A (pyNext (.ref it)) (λ r s1=>r=none /\ Inv X pins σ H s1) E s
 self:∀(A:Around) (i:Nat) (s:Shared) (Q:Value->Shared->Prop) (E:Value->Shared->Prop),tn i s.heap->Q (.ref it) s->wpAny (model P w) A (pyIter (.ref it)) Q E s
abbrev TI:=St->Hp->(It->Hp->Prop)->Prop
def PIE (X:Cx) (pins:List (Addr × Obj)) (σ:St) (tg:Expr) (R:It->Hp->Prop) (itv:Value) (s2:Shared):Prop :=
 ∃(it:Addr) (fp:List Addr) (tn:Nat->Heap->Prop) (J:It) (H':Hp),itv = .ref it /\ Inv X pins σ H' s2 /\ Turn X.prog X.w X.K tg J fp it tn /\ tn 0 s2.heap /\(∀ b ∈ fp,gY X pins H' b) /\ R J H'
def PI (X:Cx) (tg iter:Expr) (wi:TI):Prop :=
 ∀(pins:List (Addr × Obj)) (s:Shared) (σ:St) (H:Hp) (R:It->Hp->Prop),Inv X pins σ H s->wi σ H R →
  wpAny (model X.prog X.w) X.A (eval iter X.env) (λ v s1=>wpAny (model X.prog X.w) X.A (pyIter v) (PIE X pins σ tg R) X.xe s1) X.xe s
theorem Be {M:Model} {A:Around} {E:Value->Shared->Prop} {s:Shared} {tg:Expr} {it:Addr} {u:Value} {o:Obj} {n:String} {vs:Array Value} {Q:Unit->Shared->Prop} (ho:s.heap.get? it=some o) (hc:o.cls = .type n) (hd:o.data = .fields vs)
  (hn:["enumerate","zip","dict_itemiterator","dict_reverseitemiterator","odict_iterator","itertools.zip_longest","itertools.pairwise"].contains n=false) (hQ:Q () s):wpAny M A (letOwnedTupleGo tg (.ref it) u) Q E s:=by
 unfold letOwnedTupleGo
 cases tg <;> first
  | exact wpAny_pure hQ
  |(cases u <;> first
    | exact wpAny_pure hQ
    |(refine wpAny_bind (wpAny_load ho ?_)
      rw [hc,hd]
      show wpAny M A (if (["enumerate","zip","dict_itemiterator","dict_reverseitemiterator","odict_iterator","itertools.zip_longest","itertools.pairwise"].contains n && vs[0]? == some (rawInt _))=true then _ else _) Q E s
      rw [if_neg (by intro h;rw [hn,Bool.false_and] at h;cases h)]
      exact wpAny_pure hQ))
def Itl (K:PySem.W.Frag) (a:Addr):It :=
 ⟨λ i H=>∃ xs x,SqL K H a xs /\ xs[i]? = some x,λ i H x H'=>H'=H /\ ∀ xs,SqL K H a xs->xs[i]? = some x,λ i H=>∃ xs,SqL K H a xs /\ xs.length ≤ i⟩
def Itt (K:PySem.W.Frag) (a:Addr):It :=
 ⟨λ i H=>∃ xs x,SqT K H a xs /\ xs[i]? = some x,λ i H x H'=>H'=H /\ ∀ xs,SqT K H a xs->xs[i]? = some x,λ i H=>∃ xs,SqT K H a xs /\ xs.length ≤ i⟩
def Itr (lo:Int) (n:Nat):It:=⟨λ i _=>i < n,λ i H x H'=>H'=H /\ x = .int (lo + i),λ i _=>n ≤ i⟩
theorem Ij {P:Program} {w:World} {K:PySem.W.Frag} {tg:Expr} (a it:Addr):Turn P w K tg (Itl K a) [it] it (λ i h=>h.IsListIter it a i) where
 mem:=by simp
 obj:=λ i h st b hb=>by
  have e:b=it:=by simpa using hb
  subst e
  obtain⟨o,e,c,d⟩:=st
  exact⟨o,e,λ v z=>by rw [d] at z;cases z⟩
 keep:=λ i h h' st k=>st.at λ o e=>k it (by simp) o e
 item:=by
  intro X hP hw hK hc i pins s σ H E I hf st hg
  subst hP hw hK
  obtain⟨xs,x,hq,hx⟩:=hg
  obtain⟨its,rv,p,hz⟩:=I.list hq
  obtain⟨u,hu,ru⟩:=rv.get hx
  obtain⟨f0,f1,f2,f3,f4,f5⟩:=hf it (by simp)
  refine wpAny_pyNext_list_item st p.isList (x:=u) (by simpa using hu) λ h' st' sb=>?_
  have I1:Inv X pins σ H { s with heap:=h' }:=I.turned (t':=s.toks) (λ b o hb e=>(sb.2 b hb).trans e) f0 f1 f3 f4 f5
  obtain⟨o,e,c,d⟩:=id st'
  exact⟨u,rfl,Be (s:={ s with heap:=h' }) e c d (by decide) ⟨x,H,I1,ru,⟨rfl,λ ys hy=>by rw [I.C5 hy hq];exact hx⟩,st',λ b hb=>(hf b hb).1⟩⟩
 done:=by
  intro X hP hw hK hc i pins s σ H E I hf st hg
  subst hP hw hK
  obtain⟨xs,hq,hx⟩:=hg
  obtain⟨its,rv,p,hz⟩:=I.list hq
  obtain⟨f0,f1,f2,f3,f4,f5⟩:=hf it (by simp)
  have hl:=rv.length
  exact wpAny_pyNext_list_end (I.ok.hd hc) st p.isList (by simp;omega) λ h' eb=>⟨rfl,I.turned (t':=s.toks) (λ b o hb e=>eb b o hb e) f0 f1 f3 f4 f5⟩
 self:=λ _ _ _ _ _ st h=>wpAny_pyIter_listiter st h
theorem FP {P:Program} {w:World} {K:PySem.W.Frag} {tg:Expr} (a it:Addr):Turn P w K tg (Itt K a) [it] it (λ i h=>h.IsTupleIter it a i) where
 mem:=by simp
 obj:=λ i h st b hb=>by
  have e:b=it:=by simpa using hb
  subst e
  obtain⟨o,e,c,d⟩:=st
  exact⟨o,e,λ v z=>by rw [d] at z;cases z⟩
 keep:=λ i h h' st k=>st.at λ o e=>k it (by simp) o e
 item:=by
  intro X hP hw hK hc i pins s σ H E I hf st hg
  subst hP hw hK
  obtain⟨xs,x,hq,hx⟩:=hg
  obtain⟨its,rv,p,hz⟩:=I.tuple hq
  obtain⟨u,hu,ru⟩:=rv.get hx
  obtain⟨f0,f1,f2,f3,f4,f5⟩:=hf it (by simp)
  refine wpAny_pyNext_tuple_item st (show s.heap.IsTuple a its.toArray from p) (x:=u) (by simpa using hu) λ h' st' sb=>?_
  have I1:Inv X pins σ H { s with heap:=h' }:=I.turned (t':=s.toks) (λ b o hb e=>(sb.2 b hb).trans e) f0 f1 f3 f4 f5
  obtain⟨o,e,c,d⟩:=id st'
  exact⟨u,rfl,Be (s:={ s with heap:=h' }) e c d (by decide) ⟨x,H,I1,ru,⟨rfl,λ ys hy=>by rw [I.Aw hy hq];exact hx⟩,st',λ b hb=>(hf b hb).1⟩⟩
 done:=by
  intro X hP hw hK hc i pins s σ H E I hf st hg
  subst hP hw hK
  obtain⟨xs,hq,hx⟩:=hg
  obtain⟨its,rv,p,hz⟩:=I.tuple hq
  obtain⟨f0,f1,f2,f3,f4,f5⟩:=hf it (by simp)
  have hl:=rv.length
  exact wpAny_pyNext_tuple_end (I.ok.hd hc) st (show s.heap.IsTuple a its.toArray from p) (by simp;omega) λ h' eb=>⟨rfl,I.turned (t':=s.toks) (λ b o hb e=>eb b o hb e) f0 f1 f3 f4 f5⟩
 self:=λ _ _ _ _ _ st h=>wpAny_pyIter_tupleiter st h
theorem GP {P:Program} {w:World} {K:PySem.W.Frag} {tg:Expr} (it:Addr) (lo:Int) (n:Nat):Turn P w K tg (Itr lo n) [it] it (λ i h=>IsRangeIter h it (lo +(i:Nat) * 1) ((n:Int) -(i:Nat)) 1) where
 mem:=by simp
 obj:=λ i h st b hb=>by
  have e:b=it:=by simpa using hb
  subst e
  exact⟨_,st,λ v z=>by
   have z':Data.fields _=Data.cell v:=z
   cases z'⟩
 keep:=λ i h h' st k=>k it (by simp) _ st
 item:=by
  intro X hP hw hK hc i pins s σ H E I hf st hg
  subst hP hw hK
  obtain⟨f0,f1,f2,f3,f4,f5⟩:=hf it (by simp)
  have W:=Walks.range (prog:=X.prog) (w:=X.w) (I.ok.hd hc) it lo 1 n
  refine W.item i s _ _ hg st λ v h' tk hv st' kk=>?_
  obtain⟨t,rfl⟩:=hv
  have I1:Inv X pins σ H { s with heap:=h',toks:=tk }:=I.turned (λ b o hb e=>kk b o (by simpa using hb) e) f0 f1 f3 f4 f5
  refine⟨_,rfl,Be (s:={ s with heap:=h',toks:=tk }) (n:="range_iterator") st' rfl rfl (by decide) ⟨.int (lo + i),H,I1,⟨t,?_⟩,⟨rfl,rfl⟩,st',λ b hb=>(hf b hb).1⟩⟩
  rw [Int.mul_one]
 done:=by
  intro X hP hw hK hc i pins s σ H E I hf st hg
  subst hP hw hK
  obtain⟨f0,f1,f2,f3,f4,f5⟩:=hf it (by simp)
  exact wpAny_pyNext_range_end (I.ok.hd hc) st (by have:n ≤ i:=hg;omega) λ h' eb=>⟨rfl,I.turned (t':=s.toks) (λ b o hb e=>eb b o hb e) f0 f1 f3 f4 f5⟩
 self:=λ _ _ _ _ _ st h=>wpAny_pyIter_rangeiter st h
open PySem PySem.Spec PyProof.Rows
section
variable {X:Cx} {tg:Expr}
def Of (K:PySem.W.Frag) (tl:TE):TI:=λ σ H R=>tl σ H λ x H1=>∃ a,x = .ref a /\(∃ xs,SqL K H1 a xs) /\ R (Itl K a) H1
def OX (K:PySem.W.Frag) (tl:TE):TI:=λ σ H R=>tl σ H λ x H1=>∃ a,x = .ref a /\(∃ xs,SqT K H1 a xs) /\ R (Itt K a) H1
theorem cI {l:Expr} {tl:TE} (hl:PE X l tl):PI X tg l (Of X.K tl):=by
 intro pins s σ H R I h
 refine thn (hl pins s σ H _ I h) λ v s1 ⟨x,H1,I1,r1,q1⟩=>?_
 obtain⟨a,e,⟨xs,hq⟩,q⟩:=q1
 subst e
 cases r1
 obtain⟨its,rv,p,hz⟩:=I1.list hq
 refine wpAny_pyIter_list p.isList ?_
 refine⟨s1.heap.objs.size,[s1.heap.objs.size],_,_,H1,rfl,I1.kept (t':=s1.toks) λ b o e=>Heap.get?_push_of_some _ e,Ij a _,⟨_,Heap.get?_push_size _ rfl,rfl,rfl⟩,λ b hb=>?_,q⟩
 have e:b=s1.heap.objs.size:=by simpa using hb
 subst e
 exact I1.rP (Nat.le_refl _) (I1.hok.fresh (Nat.le_refl _))
theorem Dc {l:Expr} {tl:TE} (hl:PE X l tl):PI X tg l (OX X.K tl):=by
 intro pins s σ H R I h
 refine thn (hl pins s σ H _ I h) λ v s1 ⟨x,H1,I1,r1,q1⟩=>?_
 obtain⟨a,e,⟨xs,hq⟩,q⟩:=q1
 subst e
 cases r1
 obtain⟨its,rv,p,hz⟩:=I1.tuple hq
 refine wpAny_pyIter_tuple (show s1.heap.IsTuple a its.toArray from p) ?_
 refine⟨s1.heap.objs.size,[s1.heap.objs.size],_,_,H1,rfl,I1.kept (t':=s1.toks) λ b o e=>Heap.get?_push_of_some _ e,FP a _,⟨_,Heap.get?_push_size _ rfl,rfl,rfl⟩,λ b hb=>?_,q⟩
 have e:b=s1.heap.objs.size:=by simpa using hb
 subst e
 exact I1.rP (Nat.le_refl _) (I1.hok.fresh (Nat.le_refl _))
theorem KC {pins:List (Addr × Obj)} {σ:St} {H:Hp} {s:Shared} {R:It->Hp->Prop} {E:Value->Shared->Prop} {lo hi:Int} {t u v:Tok} {tk:Nat} (I:Inv X pins σ H s) (h1:-(2 ^ 62) ≤ lo) (h2:lo < 2 ^ 62) (h3:-(2 ^ 62) ≤ hi) (h4:hi < 2 ^ 62)
  (q:R (Itr lo (hi - lo).toNat) H):wpAny (model X.prog X.w) X.A (pyIter (.ref s.heap.objs.size)) (PIE X pins σ tg R) E { s with heap:=s.heap.push { cls:=.type "range",data:=.fields #[.int lo t,.int hi u,.int 1 v] },toks:=tk }:=by
 refine wpAny_pyIter_range (IsRange.new ..) (small_one h1 h2 h3 h4) ?_
 have I1:Inv X pins σ H { s with heap:=s.heap.push { cls:=.type "range",data:=.fields #[.int lo t,.int hi u,.int 1 v] },toks:=tk }:=I.kept λ b o e=>Heap.get?_push_of_some _ e
 refine⟨(s.heap.push { cls:=.type "range",data:=.fields #[.int lo t,.int hi u,.int 1 v] }).objs.size,[(s.heap.push { cls:=.type "range",data:=.fields #[.int lo t,.int hi u,.int 1 v] }).objs.size],_,_,H,rfl,
  I1.kept (t':=tk) λ b o e=>Heap.get?_push_of_some _ e,GP _ lo (hi - lo).toNat,?_,λ b hb=>?_,q⟩
 ·have e1:lo +((0:Nat):Int) * 1=lo:=by simp
  have e2:(((hi - lo).toNat:Nat):Int) -((0:Nat):Int)=Builtin.Range.rangeSize lo hi 1:=by rw [rangeSize_one];split <;> omega
  show IsRangeIter _ _ (lo +((0:Nat):Int) * 1) ((((hi - lo).toNat:Nat):Int) -((0:Nat):Int)) 1
  rw [e1,e2]
  exact Heap.get?_push_size _ rfl
 ·have e:b =(s.heap.push { cls:=.type "range",data:=.fields #[.int lo t,.int hi u,.int 1 v] }).objs.size:=by simpa using hb
  subst e
  exact I1.rP (Nat.le_refl _) (I1.hok.fresh (Nat.le_refl _))
def OB (ta:TA):TI:=λ σ H R=>ta σ H λ vs H1=>∃ j:Int,vs = [.int j] /\ -(2 ^ 62) ≤ j /\ j < 2 ^ 62 /\ R (Itr 0 j.toNat) H1
theorem jV {a:Expr} {ta:TA} {p pos:Pos} (hg:Gl X "range") (hm:X.mg "range" = none) (ha:PA X [a] ta) (hs:starEach [a] X.env = [(false,eval a X.env)]:=by rfl):PI X tg (.Call (.Name "range" p) [a] [] pos) (OB ta):=by
 intro pins s σ H R I h
 refine Call_ (iE I hg hm boot_range (PyProof.Rows.callWith_type1 (thn (ha pos pins s σ H _ I h) λ us s1 ⟨vs,H1,I1,r1,q1⟩=>?_) hs rfl))
 obtain⟨j,e,q1,q2,q⟩:=q1
 subst e
 cases r1 with
 | cons r rr =>
  cases rr
  obtain⟨t,rfl⟩:=r
  exact call_range_1 (KC I1 (by omega) (by omega) q1 q2 (by simpa using q))
def Pk (wi:TI) (g:TG) (tb:TS):TS:=λ D σ H=>wi σ H λ J H1=>∃ W:Nat->Nat->St->Hp->Prop,(∃ m,W 0 m σ H1) /\ ∀ i m σ H,W i m σ H →
 (J.stop i H /\ D.nx σ H) ∨(J.go i H /\ ∃ N:St->Hp->Prop,(∀ σ' H',N σ' H'->∃ m',m' < m /\ W (i + 1) m' σ' H') /\ ∀ x H',J.yld i H x H'->g x σ H' λ σ2 H2=>tb { D with nx:=N,ct:=N,bk:=D.nx } σ2 H2)
def tE (fp:List Addr) (h:Heap):List (Addr × Obj):=fp.filterMap λ b=>(h.get? b).map λ o=>(b,o)
theorem kM {fp:List Addr} {h:Heap} {b:Addr} {o:Obj} (hb:b ∈ fp) (e:h.get? b=some o):(b,o) ∈ tE fp h:=List.mem_filterMap.mpr ⟨b,hb,by rw [e];rfl⟩
theorem HD {fp:List Addr} {h:Heap} {p:Addr × Obj} (hp:p ∈ tE fp h):p.1 ∈ fp /\ h.get? p.1=some p.2:=by
 obtain⟨b,hb,e⟩:=List.mem_filterMap.mp hp
 cases q:h.get? b with
 | none=>rw [q] at e;cases e
 | some o =>
  rw [q] at e
  have e':(b,o)=p:=Option.some.inj e
  subst e'
  exact⟨hb,q⟩
theorem Inv.pinned {pins:List (Addr × Obj)} {σ:St} {H:Hp} {s:Shared} {fp:List Addr} (I:Inv X pins σ H s) (hf:∀ b ∈ fp,gY X pins H b) (ho:∀ b ∈ fp,∃ o,s.heap.get? b=some o /\ ∀ v,o.data ≠ .cell v):Inv X (pins ++ tE fp s.heap) σ H s :=
 I.DQ λ p hp=>(List.mem_append.mp hp).elim (λ z=>I.pin p (List.mem_append_right _ z)) λ z=>by
  obtain⟨hb,e⟩:=HD z
  obtain⟨f0,f1,f2,_⟩:=hf p.1 hb
  obtain⟨o,e',d⟩:=ho p.1 hb
  rw [e] at e';cases e'
  exact⟨e,f0,f1,f2,d⟩
theorem Inv.rO {pins pl:List (Addr × Obj)} {σ:St} {H:Hp} {s:Shared} (I:Inv X (pins ++ pl) σ H s):Inv X pins σ H s:=I.DQ λ p hp=>I.pin p (List.mem_append_right _ (List.mem_append_left _ hp))
theorem dW {iter:Expr} {body:List Stmt} {wi:TI} {g:TG} {tb:TS} {pos:Pos} (hp:PassesOwn (model X.prog X.w) X.A X.env X.xe) (hc:X.calm=true) (hi:PI X tg iter wi) (hg:PG X tg g) (hb:PSs X body tb)
  (hs:∀ x,foldedSetIterable iter X.env x=pure x:=by intro _;rfl):PS X (.For tg iter body [] pos) (Pk wi g tb):=by
 intro pins s σ H D I h
 refine wpAny_For (thn (hi pins s σ H _ I h) λ v s1 h1=>thn h1 λ itv s2 h2=>?_) hs
 obtain⟨it,fp,tn,J,H2,e,I2,T,st2,f2,W,⟨m0,w0⟩,turn⟩:=h2
 subst e
 have stat:∀ {H':Hp},(∀ b ∈ fp,H' b=none)->∀ b ∈ fp,gY X pins H' b:=λ hn b hb=>⟨hn b hb,(f2 b hb).2⟩
 refine codeAny_forLoop_any (λ n s'=>∃ i σ' H',Inv X pins σ' H' s' /\ tn i s'.heap /\(∀ b ∈ fp,H' b=none) /\ W i n σ' H') ?_ m0 ⟨0,σ,H2,I2,st2,λ b hb=>(f2 b hb).1,w0⟩
 rintro n s3 ⟨i,σ3,H3,I3,st3,fr3,w3⟩
 rcases turn i n σ3 H3 w3 with⟨stop,qn⟩ |⟨go,N,hN,step⟩
 ·refine wpAny_passesOwn hp (thn (T.done X rfl rfl rfl hc i pins s3 σ3 H3 X.xe I3 (stat fr3) st3 stop) λ r s4 ⟨hr,I4⟩=>?_)
  subst hr
  exact wpAny_execs_nil ⟨σ3,H3,I4,qn⟩
 ·refine wpAny_passesOwn hp (thn (T.item X rfl rfl rfl hc i pins s3 σ3 H3 X.xe I3 (stat fr3) st3 go) λ r s4 ⟨u,hr,h4⟩=>?_)
  subst hr
  refine wpAny_passesOwn hp (thn h4 λ _ s5 ⟨x,H5,I5,r5,y5,st5,fr5⟩=>?_)
  have I5':=I5.pinned (stat fr5) (T.obj _ _ st5)
  refine wpAny_passesOwn hp (thn (hg _ s5 σ3 H5 x u _ I5' r5 (step x H5 y5)) λ _ s6 ⟨σ6,H6,I6,q6⟩=>?_)
  refine wpAny_passesOwn hp (thn (hb _ s6 σ6 H6 _ I6 q6) λ f s7 q7=>?_)
  have again:∀ {σ7:St} {H7:Hp},Inv X (pins ++ tE fp s5.heap) σ7 H7 s7->N σ7 H7->∃ m,m < n /\ ∃ i σ' H',Inv X pins σ' H' s7 /\ tn i s7.heap /\(∀ b ∈ fp,H' b=none) /\ W i m σ' H':=λ {σ7 H7} I7 n7=>by
   obtain⟨m',hm,w7⟩:=hN σ7 H7 n7
   refine⟨m',hm,i + 1,σ7,H7,I7.rO,T.keep _ _ _ st5 λ b hb o e=>(I7.pin (b,o) (List.mem_append_right _ (List.mem_append_right _ (kM hb e)))).1,λ b hb=>?_,w7⟩
   obtain⟨o,e,d⟩:=T.obj _ _ st5 b hb
   exact(I7.pin (b,o) (List.mem_append_right _ (List.mem_append_right _ (kM hb e)))).2.1
  cases f with
  | next=>obtain⟨σ7,H7,I7,n7⟩:=q7;exact again I7 n7
  | cont=>obtain⟨σ7,H7,I7,n7⟩:=q7;exact again I7 n7
  | brk=>obtain⟨σ7,H7,I7,q7⟩:=q7;exact⟨σ7,H7,I7.rO,q7⟩
  | ret v=>obtain⟨x7,σ7,H7,I7,r7,q7⟩:=q7;exact⟨x7,σ7,H7,I7.rO,r7,q7⟩
end
theorem gf {K:PySem.W.Frag} {a:Addr} {xs:List V} {g:TG} {tb:TS} {D:Ends} {σ:St} {H:Hp} (Pv:Nat->St->Hp->Prop) (h0:Pv 0 σ H) (hl:∀ i σ H,i ≤ xs.length->Pv i σ H->SqL K H a xs)
  (hs:∀ i x σ H,xs[i]? = some x->Pv i σ H->g x σ H λ σ2 H2=>tb { D with nx:=Pv (i + 1),ct:=Pv (i + 1),bk:=D.nx } σ2 H2) (hd:∀ σ H,Pv xs.length σ H->D.nx σ H) :
  ∃ W:Nat->Nat->St->Hp->Prop,(∃ m,W 0 m σ H) /\ ∀ i m σ H,W i m σ H →
   ((Itl K a).stop i H /\ D.nx σ H) ∨((Itl K a).go i H /\ ∃ N:St->Hp->Prop,(∀ σ' H',N σ' H'->∃ m',m' < m /\ W (i + 1) m' σ' H') /\ ∀ x H',(Itl K a).yld i H x H'->g x σ H' λ σ2 H2=>tb { D with nx:=N,ct:=N,bk:=D.nx } σ2 H2):=by
 refine⟨λ i m σ H=>m=xs.length - i /\ i ≤ xs.length /\ Pv i σ H,⟨xs.length,by simp,Nat.zero_le _,h0⟩,?_⟩
 rintro i m σ H ⟨rfl,hi,p⟩
 have q:=hl i σ H hi p
 by_cases hlt:i < xs.length
 ·refine .inr ⟨⟨xs,xs[i],q,by simp [hlt]⟩,Pv (i + 1),λ σ' H' p'=>⟨xs.length -(i + 1),by omega,rfl,hlt,p'⟩,λ x H' y=>?_⟩
  obtain⟨e,y⟩:=y
  subst e
  exact hs i x σ _ (y xs q) p
 ·have e:i=xs.length:=by omega
  subst e
  exact .inl ⟨⟨xs,q,Nat.le_refl _⟩,hd σ H p⟩
theorem DV {K:PySem.W.Frag} {a:Addr} {xs:List V} {g:TG} {tb:TS} {D:Ends} {σ:St} {H:Hp} (Pv:Nat->St->Hp->Prop) (h0:Pv 0 σ H) (hl:∀ i σ H,i ≤ xs.length->Pv i σ H->SqT K H a xs)
  (hs:∀ i x σ H,xs[i]? = some x->Pv i σ H->g x σ H λ σ2 H2=>tb { D with nx:=Pv (i + 1),ct:=Pv (i + 1),bk:=D.nx } σ2 H2) (hd:∀ σ H,Pv xs.length σ H->D.nx σ H) :
  ∃ W:Nat->Nat->St->Hp->Prop,(∃ m,W 0 m σ H) /\ ∀ i m σ H,W i m σ H →
   ((Itt K a).stop i H /\ D.nx σ H) ∨((Itt K a).go i H /\ ∃ N:St->Hp->Prop,(∀ σ' H',N σ' H'->∃ m',m' < m /\ W (i + 1) m' σ' H') /\ ∀ x H',(Itt K a).yld i H x H'->g x σ H' λ σ2 H2=>tb { D with nx:=N,ct:=N,bk:=D.nx } σ2 H2):=by
 refine⟨λ i m σ H=>m=xs.length - i /\ i ≤ xs.length /\ Pv i σ H,⟨xs.length,by simp,Nat.zero_le _,h0⟩,?_⟩
 rintro i m σ H ⟨rfl,hi,p⟩
 have q:=hl i σ H hi p
 by_cases hlt:i < xs.length
 ·refine .inr ⟨⟨xs,xs[i],q,by simp [hlt]⟩,Pv (i + 1),λ σ' H' p'=>⟨xs.length -(i + 1),by omega,rfl,hlt,p'⟩,λ x H' y=>?_⟩
  obtain⟨e,y⟩:=y
  subst e
  exact hs i x σ _ (y xs q) p
 ·have e:i=xs.length:=by omega
  subst e
  exact .inl ⟨⟨xs,q,Nat.le_refl _⟩,hd σ H p⟩
theorem IG {lo:Int} {n:Nat} {g:TG} {tb:TS} {D:Ends} {σ:St} {H:Hp} (Pv:Nat->St->Hp->Prop) (h0:Pv 0 σ H)
  (hs:∀ i σ H,i < n->Pv i σ H->g (.int (lo + i)) σ H λ σ2 H2=>tb { D with nx:=Pv (i + 1),ct:=Pv (i + 1),bk:=D.nx } σ2 H2) (hd:∀ σ H,Pv n σ H->D.nx σ H) :
  ∃ W:Nat->Nat->St->Hp->Prop,(∃ m,W 0 m σ H) /\ ∀ i m σ H,W i m σ H →
   ((Itr lo n).stop i H /\ D.nx σ H) ∨((Itr lo n).go i H /\ ∃ N:St->Hp->Prop,(∀ σ' H',N σ' H'->∃ m',m' < m /\ W (i + 1) m' σ' H') /\ ∀ x H',(Itr lo n).yld i H x H'->g x σ H' λ σ2 H2=>tb { D with nx:=N,ct:=N,bk:=D.nx } σ2 H2):=by
 refine⟨λ i m σ H=>m=n - i /\ i ≤ n /\ Pv i σ H,⟨n,by simp,Nat.zero_le _,h0⟩,?_⟩
 rintro i m σ H ⟨rfl,hi,p⟩
 by_cases hlt:i < n
 ·refine .inr ⟨hlt,Pv (i + 1),λ σ' H' p'=>⟨n -(i + 1),by omega,rfl,hlt,p'⟩,λ x H' y=>?_⟩
  obtain⟨e,y⟩:=y
  subst e y
  exact hs i σ _ hlt p
 ·have e:i=n:=by omega
  subst e
  exact .inl ⟨Nat.le_refl _,hd σ H p⟩
open PySem PySem.Spec PyProof.Rows
abbrev R2:=V->V->Hp->VK->Prop
def OpR (X:Cx) (f:Value->Value->Sem Value) (r:R2):Prop :=
 ∀(pins:List (Addr × Obj)) (s:Shared) (σ:St) (H:Hp) (x y:V) (v u:Value) (Q:VK),Inv X pins σ H s->RelV x v->RelV y u->r x y H Q →
  wpAny (model X.prog X.w) X.A (f v u) (EP X pins σ Q) X.xe s
def UnR (X:Cx) (f:Value->Sem Value) (r:V->Hp->VK->Prop):Prop :=
 ∀(pins:List (Addr × Obj)) (s:Shared) (σ:St) (H:Hp) (x:V) (v:Value) (Q:VK),Inv X pins σ H s->RelV x v->r x H Q →
  wpAny (model X.prog X.w) X.A (f v) (EP X pins σ Q) X.xe s
def gG (X:Cx) (f:Value) (r:List V->Hp->VK->Prop):Prop :=
 ∀(pins:List (Addr × Obj)) (s:Shared) (σ:St) (H:Hp) (xs:List V) (us:List Value) (Q:VK),Inv X pins σ H s->Vals xs us->r xs H Q →
  wpAny (model X.prog X.w) X.A (call f us) (EP X pins σ Q) X.xe s
def tOp (r:R2) (ta tb:TE):TE:=λ σ H Q=>ta σ H λ x H1=>tb σ H1 λ y H2=>r x y H2 Q
def tUn (r:V->Hp->VK->Prop) (ta:TE):TE:=λ σ H Q=>ta σ H λ x H1=>r x H1 Q
def rI (C:Int->Int->Prop) (g:Int->Int->V):R2:=λ x y H Q=>∃ i j,x = .int i /\ y = .int j /\ C i j /\ Q (g i j) H
def rI0 (g:Int->Int->V):R2:=λ x y H Q=>∃ i j,x = .int i /\ y = .int j /\ Q (g i j) H
def rU (g:Int->V):V->Hp->VK->Prop:=λ x H Q=>∃ i,x = .int i /\ Q (g i) H
section
variable {X:Cx} {a b c:Expr} {ta tb tc:TE} {pos:Pos}
theorem JM (ha:PE X a ta) (hb:PE X b tb) {pins:List (Addr × Obj)} {s:Shared} {σ:St} {H:Hp} {R:V->V->Hp->Prop} (I:Inv X pins σ H s)
  (h:ta σ H λ x H1=>tb σ H1 λ y H2=>R x y H2) {Q:Value->Shared->Prop} {f:Value->Value->Sem Value}
  (hf:∀ v u s2 x y H2,Inv X pins σ H2 s2->RelV x v->RelV y u->R x y H2->wpAny (model X.prog X.w) X.A (f v u) Q X.xe s2) :
  wpAny (model X.prog X.w) X.A (eval a X.env) (λ v s₁=>wpAny (model X.prog X.w) X.A (eval b X.env) (λ u s₂=>wpAny (model X.prog X.w) X.A (f v u) Q X.xe s₂) X.xe s₁) X.xe s:=by
 refine thn (ha pins s σ H _ I h) λ v s1 ⟨x,H1,I1,r1,q1⟩=>?_
 refine thn (hb pins s1 σ H1 _ I1 q1) λ u s2 ⟨y,H2,I2,r2,q2⟩=>?_
 exact hf v u s2 x y H2 I2 r1 r2 q2
theorem aI {op:Operator} {r:R2} (ho:OpR X (binaryOp op) r) (ha:PE X a ta) (hb:PE X b tb):PE X (.BinOp a op b pos) (tOp r ta tb):=by
 intro pins s σ H Q I h
 exact wpAny_BinOp (JM ha hb I h λ v u s2 x y H2 I2 rx ry q=>ho pins s2 σ H2 x y v u Q I2 rx ry q)
theorem iH {op:UnaryOp} {r:V->Hp->VK->Prop} (ho:UnR X (unaryOp op) r) (ha:PE X a ta):PE X (.UnaryOp op a pos) (tUn r ta):=by
 intro pins s σ H Q I h
 exact UnaryOp_ (thn (ha pins s σ H _ I h) λ v s1 ⟨x,H1,I1,r1,q1⟩=>ho pins s1 σ H1 x v Q I1 r1 q1)
theorem opI {f:Value->Value->Sem Value} {C:Int->Int->Prop} {g:Int->Int->Int}
  (rule:∀(i j:Int) (t u:Tok) (s:Shared) (Q:Value->Shared->Prop) (E:Value->Shared->Prop),C i j->Q (.int (g i j) s.toks) { s with toks:=s.toks + 1 }->wpAny (model X.prog X.w) X.A (f (.int i t) (.int j u)) Q E s) :
  OpR X f (rI C λ i j=>.int (g i j)):=by
 intro pins s σ H x y v u Q I rx ry h
 obtain⟨i,j,rfl,rfl,hc,q⟩:=h
 obtain⟨t,rfl⟩:=rx
 obtain⟨t',rfl⟩:=ry
 exact rule i j t t' s _ _ hc ⟨.int (g i j),H,I.tok _,⟨_,rfl⟩,q⟩
theorem IP {f:Value->Value->Sem Value} {g:Int->Int->Int}
  (rule:∀(i j:Int) (t u:Tok) (s:Shared) (Q:Value->Shared->Prop) (E:Value->Shared->Prop),Q (.int (g i j) s.toks) { s with toks:=s.toks + 1 }->wpAny (model X.prog X.w) X.A (f (.int i t) (.int j u)) Q E s) :
  OpR X f (rI0 λ i j=>.int (g i j)):=by
 intro pins s σ H x y v u Q I rx ry h
 obtain⟨i,j,rfl,rfl,q⟩:=h
 obtain⟨t,rfl⟩:=rx
 obtain⟨t',rfl⟩:=ry
 exact rule i j t t' s _ _ ⟨.int (g i j),H,I.tok _,⟨_,rfl⟩,q⟩
theorem K3 {f:Value->Value->Sem Value} {g:Int->Int->Bool}
  (rule:∀(i j:Int) (t u:Tok) (s:Shared) (Q:Value->Shared->Prop) (E:Value->Shared->Prop),Q (.bool (g i j)) s->wpAny (model X.prog X.w) X.A (f (.int i t) (.int j u)) Q E s) :
  OpR X f (rI0 λ i j=>.bl (g i j)):=by
 intro pins s σ H x y v u Q I rx ry h
 obtain⟨i,j,rfl,rfl,q⟩:=h
 obtain⟨t,rfl⟩:=rx
 obtain⟨t',rfl⟩:=ry
 exact rule i j t t' s _ _ ⟨.bl (g i j),H,I,rfl,q⟩
def OO (i j:Int):Prop:=0 ≤ j /\ j ≤ 1000000 /\ i.natAbs < 2 ^ 64
def Lk (i j:Int):Prop:=(-(2 ^ 64) < i /\ i < 2 ^ 64) ∨(-(2 ^ 64) < j /\ j < 2 ^ 64)
theorem Lk.ok {i j:Int} (h:Lk i j):IntMulOk i j:=by
 rcases h with⟨h1,h2⟩ |⟨h1,h2⟩
 ·exact .of_left (intBits_le_64 h1 h2)
 ·exact .of_right (intBits_le_64 h1 h2)
theorem cg:OpR X (binaryOp .Add) (rI0 λ i j=>.int (i + j)):=IP λ _ _ _ _ _ _ _ q=>add_int q
theorem j4:OpR X (binaryOp .Sub) (rI0 λ i j=>.int (i - j)):=IP λ _ _ _ _ _ _ _ q=>sub_int q
theorem gJ:OpR X (binaryOp .Mult) (rI Lk λ i j=>.int (i * j)):=opI λ _ _ _ _ _ _ _ hc q=>mul_int q hc.ok
theorem bW:OpR X (binaryOp .Mod) (rI (λ _ j=>0 < j) λ i j=>.int (i % j)):=opI λ i j _ _ _ _ _ hc q=>by
 have h1:(0:Int) < j:=hc
 exact mod_int' (by omega) (by rw [Int.fmod_eq_emod_of_nonneg i (by omega)];exact q)
theorem MY:OpR X (binaryOp .Pow) (rI OO λ i j=>.int (i ^ j.toNat)):=opI λ _ _ _ _ _ _ _ hc q=>pow_int_small hc.1 hc.2.1 hc.2.2 q
theorem BJ:OpR X (binaryOp .BitXor) (rI0 λ i j=>.int (Builtin.bitXor i j)):=IP λ _ _ _ _ _ _ _ q=>xor_int q
theorem unI {f:Value->Sem Value} {g:Int->Int}
  (rule:∀(i:Int) (t:Tok) (s:Shared) (Q:Value->Shared->Prop) (E:Value->Shared->Prop),Q (.int (g i) s.toks) { s with toks:=s.toks + 1 }->wpAny (model X.prog X.w) X.A (f (.int i t)) Q E s) :
  UnR X f (rU λ i=>.int (g i)):=by
 intro pins s σ H x v Q I rx h
 obtain⟨i,rfl,q⟩:=h
 obtain⟨t,rfl⟩:=rx
 exact rule i t s _ _ ⟨.int (g i),H,I.tok _,⟨_,rfl⟩,q⟩
theorem gK:UnR X (unaryOp .USub) (rU λ i=>.int (-i)):=unI λ _ _ _ _ _ q=>neg_int q
end
def MD:V->V->Bool
 | .non,.non=>true | .non,.int _=>true | .int _,.non=>true | .non,.bl _=>true | .bl _,.non=>true | .non,.str _=>true | .str _,.non=>true
 | .int _,.int _=>true | .bl _,.bl _=>true | .str _,.str _=>true | .byt _,.byt _=>true
 | .int _,.str _=>true | .str _,.int _=>true | .bl _,.str _=>true | .str _,.bl _=>true
 | _,_=>false
def rEq:R2:=λ x y H Q=>MD x y=true /\ Q (.bl (decide (x=y))) H
def rNe:R2:=λ x y H Q=>MD x y=true /\ Q (.bl (!decide (x=y))) H
theorem D0 {i j:Int}:decide (V.int i=V.int j) =(i == j):=by
 rw [Bool.eq_iff_iff]
 simp
theorem II {i j:Bool}:decide (V.bl i=V.bl j) =(i == j):=by
 rw [Bool.eq_iff_iff]
 simp
theorem DE {i j:Str}:decide (V.str i=V.str j) =(i == j):=by
 rw [Bool.eq_iff_iff]
 simp
theorem D6 {i j:Array UInt8}:decide (V.byt i=V.byt j) =(i.toList == j.toList):=by
 rw [Bool.eq_iff_iff]
 cases i
 cases j
 simp
section
variable {X:Cx} {a b c:Expr} {ta tb tc:TE} {pos:Pos}
theorem bJ {pins:List (Addr × Obj)} {σ:St} {H:Hp} {s:Shared} {Q:VK} {k k':Bool} (I:Inv X pins σ H s) (q:Q (.bl k) H) (e:k=k'):EP X pins σ Q (.bool k') s:=by
 subst e
 exact⟨.bl k,H,I,rfl,q⟩
theorem dw:OpR X (compareOp .Eq) rEq:=by
 intro pins s σ H x y v u Q I rx ry h
 obtain⟨hs,q⟩:=h
 cases x with
 | non =>
  cases rx
  cases y with
  | non=>cases ry;exact PySem.EqNone.eq_none_none (bJ I q (by simp))
  | bl j=>cases ry;exact PySem.EqNone.eq_none_bool (bJ I q (by simp))
  | int j=>obtain⟨t',rfl⟩:=ry;exact PySem.EqNone.eq_none_int (bJ I q (by simp))
  | str j=>obtain⟨t',rfl⟩:=ry;exact PySem.EqNone.eq_none_str (bJ I q (by simp))
  | _=>exact absurd (show false=true from hs) Bool.false_ne_true
 | bl i =>
  cases rx
  cases y with
  | non=>cases ry;exact PySem.EqNone.eq_bool_none (bJ I q (by simp))
  | bl j=>cases ry;exact eq_bool (bJ I q II)
  | str j=>obtain⟨t',rfl⟩:=ry;exact PySem.EqMixed.eq_bool_str (bJ I q (by simp))
  | _=>exact absurd (show false=true from hs) Bool.false_ne_true
 | int i =>
  obtain⟨t,rfl⟩:=rx
  cases y with
  | non=>cases ry;exact PySem.EqNone.eq_int_none (bJ I q (by simp))
  | int j=>obtain⟨t',rfl⟩:=ry;exact eq_int (bJ I q D0)
  | str j=>obtain⟨t',rfl⟩:=ry;exact PySem.EqMixed.eq_int_str (bJ I q (by simp))
  | _=>exact absurd (show false=true from hs) Bool.false_ne_true
 | str i =>
  obtain⟨t,rfl⟩:=rx
  cases y with
  | non=>cases ry;exact PySem.EqNone.eq_str_none (bJ I q (by simp))
  | bl j=>cases ry;exact PySem.EqMixed.eq_str_bool (bJ I q (by simp))
  | int j=>obtain⟨t',rfl⟩:=ry;exact PySem.EqMixed.eq_str_int (bJ I q (by simp))
  | str j=>obtain⟨t',rfl⟩:=ry;exact eq_str (bJ I q DE)
  | _=>exact absurd (show false=true from hs) Bool.false_ne_true
 | byt i =>
  obtain⟨t,rfl⟩:=rx
  cases y with
  | byt j=>obtain⟨t',rfl⟩:=ry;exact PySem.W.eq_bytes (bJ I q D6)
  | _=>exact absurd (show false=true from hs) Bool.false_ne_true
 | _=>cases y <;> exact absurd (show false=true from hs) Bool.false_ne_true
theorem jm:OpR X (compareOp .NotEq) rNe:=by
 intro pins s σ H x y v u Q I rx ry h
 obtain⟨hs,q⟩:=h
 cases x with
 | non =>
  cases rx
  cases y with
  | non=>cases ry;exact PySem.EqNone.ne_none_none (bJ I q (by simp))
  | bl j=>cases ry;exact PySem.EqNone.ne_none_bool (bJ I q (by simp))
  | int j=>obtain⟨t',rfl⟩:=ry;exact PySem.EqNone.ne_none_int (bJ I q (by simp))
  | str j=>obtain⟨t',rfl⟩:=ry;exact PySem.EqNone.ne_none_str (bJ I q (by simp))
  | _=>exact absurd (show false=true from hs) Bool.false_ne_true
 | bl i =>
  cases rx
  cases y with
  | non=>cases ry;exact PySem.EqNone.ne_bool_none (bJ I q (by simp))
  | bl j=>cases ry;exact ne_bool (bJ I q (congrArg not II))
  | str j=>obtain⟨t',rfl⟩:=ry;exact PySem.EqMixed.ne_bool_str (bJ I q (by simp))
  | _=>exact absurd (show false=true from hs) Bool.false_ne_true
 | int i =>
  obtain⟨t,rfl⟩:=rx
  cases y with
  | non=>cases ry;exact PySem.EqNone.ne_int_none (bJ I q (by simp))
  | int j=>obtain⟨t',rfl⟩:=ry;exact ne_int (bJ I q (congrArg not D0))
  | str j=>obtain⟨t',rfl⟩:=ry;exact PySem.EqMixed.ne_int_str (bJ I q (by simp))
  | _=>exact absurd (show false=true from hs) Bool.false_ne_true
 | str i =>
  obtain⟨t,rfl⟩:=rx
  cases y with
  | non=>cases ry;exact PySem.EqNone.ne_str_none (bJ I q (by simp))
  | bl j=>cases ry;exact PySem.EqMixed.ne_str_bool (bJ I q (by simp))
  | int j=>obtain⟨t',rfl⟩:=ry;exact PySem.EqMixed.ne_str_int (bJ I q (by simp))
  | str j=>obtain⟨t',rfl⟩:=ry;exact ne_str (bJ I q (congrArg not DE))
  | _=>exact absurd (show false=true from hs) Bool.false_ne_true
 | byt i =>
  obtain⟨t,rfl⟩:=rx
  cases y with
  | byt j=>obtain⟨t',rfl⟩:=ry;exact PySem.W.ne_bytes (bJ I q (congrArg not D6))
  | _=>exact absurd (show false=true from hs) Bool.false_ne_true
 | _=>cases y <;> exact absurd (show false=true from hs) Bool.false_ne_true
theorem Bj:OpR X (compareOp .Lt) (rI0 λ i j=>.bl (decide (i < j))):=K3 λ _ _ _ _ _ _ _ q=>lt_int q
theorem rK:OpR X (compareOp .Gt) (rI0 λ i j=>.bl (decide (j < i))):=K3 λ _ _ _ _ _ _ _ q=>gt_int q
theorem NZ:OpR X (compareOp .GtE) (rI0 λ i j=>.bl (decide (j ≤ i))):=K3 λ _ _ _ _ _ _ _ q=>ge_int q
theorem yu:OpR X (compareOp .Is) (λ x y H Q=>y = .non /\ Q (.bl (decide (x = .non))) H):=by
 intro pins s σ H x y v u Q I rx ry h
 obtain⟨rfl,q⟩:=h
 cases ry
 refine is_none_gen (bJ I q ?_)
 cases x <;> first
  |(cases rx;rfl)
  |(obtain⟨t,rfl⟩:=rx;rfl)
theorem aU (b:Expr) {op:CmpOp} (h:op ≠ .In:=by decide) (h2:op ≠ .NotIn:=by decide):behindInMarks op b=false:=by
 have e1:(op == CmpOp.In)=false:=by cases op <;> first | rfl | exact absurd rfl h
 have e2:(op == CmpOp.NotIn)=false:=by cases op <;> first | rfl | exact absurd rfl h2
 cases b <;> simp [behindInMarks,e1,e2]
theorem iZ {op:CmpOp} {r:R2} (ho:OpR X (compareOp op) r) (ha:PE X a ta) (hb:PE X b tb) (hm:behindInMarks op b=false):PE X (.Compare a [op] [b] pos) (tOp r ta tb):=by
 intro pins s σ H Q I h
 exact wpAny_Compare1 (JM ha hb I h λ v u s2 x y H2 I2 rx ry q=>ho pins s2 σ H2 x y v u Q I2 rx ry q) hm
def NR (t:TE):TT:=λ σ H Q=>t σ H λ x H'=>∃ k,x = .bl k /\ Q k H'
theorem aR {op:CmpOp} {r:R2} (ho:OpR X (compareOp op) r) (ha:PE X a ta) (hb:PE X b tb) (hm:behindInMarks op b=false):PT X (.Compare a [op] [b] pos) (NR (tOp r ta tb)):=by
 intro pins s σ H Q I h
 refine wpAny_isTrue_Compare1 (thn (ha pins s σ H _ I h) λ v s1 ⟨x,H1,I1,r1,q1⟩=>thn (hb pins s1 σ H1 _ I1 q1) λ u s2 ⟨y,H2,I2,r2,q2⟩ =>
  thn (ho pins s2 σ H2 x y v u _ I2 r1 r2 q2) λ c s3 ⟨z,H3,I3,r3,k,e,q3⟩=>?_) hm
 subst e
 cases r3
 exact wpAny_truthy_bool ⟨H3,I3,q3⟩
theorem yf:(sizeLine:Nat) < 2 ^ 63:=by rw [sizeLine_eq];decide
theorem vals1 {x:V} {us:List Value} (r:Vals [x] us):∃ u,us = [u] /\ RelV x u:=by
 cases r with
 | cons r1 r2=>cases r2;exact⟨_,rfl,r1⟩
theorem vals2 {x y:V} {us:List Value} (r:Vals [x,y] us):∃ u w',us = [u,w'] /\ RelV x u /\ RelV y w':=by
 cases r with
 | cons r1 r2 =>
  cases r2 with
  | cons r3 r4=>cases r4;exact⟨_,_,rfl,r1,r3⟩
theorem tK (hc:X.calm=true):gG X (.builtin "max") (λ xs H Q=>∃ i j,xs = [.int i,.int j] /\ Q (.int (if j > i then j else i)) H):=by
 intro pins s σ H xs us Q I r h
 obtain⟨i,j,rfl,q⟩:=h
 obtain⟨u,w',rfl,⟨t,rfl⟩,⟨t',rfl⟩⟩:=vals2 r
 refine max_two_ints (I.ok.hd hc) λ h' tk k=>⟨_,H,I.kept k,?_,q⟩
 by_cases hj:j > i
 ·rw [if_pos hj,if_pos hj];exact⟨_,rfl⟩
 ·rw [if_neg hj,if_neg hj];exact⟨_,rfl⟩
theorem Ir (hc:X.calm=true):gG X (.builtin "min") (λ xs H Q=>∃ i j,xs = [.int i,.int j] /\ Q (.int (if j < i then j else i)) H):=by
 intro pins s σ H xs us Q I r h
 obtain⟨i,j,rfl,q⟩:=h
 obtain⟨u,w',rfl,⟨t,rfl⟩,⟨t',rfl⟩⟩:=vals2 r
 refine min_two_ints (I.ok.hd hc) λ h' tk k=>⟨_,H,I.kept k,?_,q⟩
 by_cases hj:j < i
 ·rw [if_pos hj,if_pos hj];exact⟨_,rfl⟩
 ·rw [if_neg hj,if_neg hj];exact⟨_,rfl⟩
end
open PySem PySem.Spec PyProof.Rows
structure xQ (h:Heap) (x dx C:Addr) (mA:Str->Option Value):Prop where
 obj:h.get? x=some (PySem.W.instObj C dx)
 ns:h.Ns1 dx mA
 ne:dx ≠ x
theorem AQ {h:Heap} {dx:Addr} {mA:Str->Option Value} (n:h.Ns1 dx mA):∃ od,h.get? dx=some od /\ ∀ name,PySem.W.lookIn name od=some (mA name):=by
 obtain⟨o,es,ep,ho,hd,hk,_,hm⟩:=n
 refine⟨o,ho,λ name=>?_⟩
 have e:=hm name
 unfold nsFind findBy at e
 rw [← Array.find?_toList] at e
 unfold PySem.W.lookIn
 rw [hd]
 dsimp only
 split
 ·rename_i y q
  rw [q] at e
  exact congrArg some e
 ·rename_i q
  rw [q] at e
  have a:es.toList.any (·.refKey)=false:=by
   rw [List.any_eq_false]
   intro y hy
   obtain⟨z,t,hkey⟩:=hk y (Array.mem_toList_iff.mp hy)
   simp [DictEntry.refKey,hkey]
  have a':¬ es.toList.any (·.refKey)=true:=by rw [a];exact Bool.false_ne_true
  rw [if_neg a']
  exact congrArg some e
theorem xQ.look {h:Heap} {x dx C:Addr} {mA:Str->Option Value} (I:xQ h x dx C mA):∃ od,PySem.W.InstAt h x (PySem.W.instObj C dx) C (some od) /\ ∀ name,PySem.W.lookIn name od=some (mA name) :=
 let ⟨od,ho,hl⟩:=AQ I.ns
 ⟨od,⟨I.obj,rfl,rfl,ho⟩,hl⟩
section
variable {prog:Program} {w:World} {A:Around} {E:Value->Shared->Prop} {s:Shared} {K:PySem.W.Frag} {x dx C f:Addr} {mA:Str->Option Value} {name:Str} {v:Value}
theorem get_map {expr:Bool} {Q:Value->Shared->Prop} (X:K.In s.heap) (I:xQ s.heap x dx C mA) (hg:PySem.W.plainGet K C name=true) (hh:PySem.W.hasDictIn K C=true)
  (ha:PySem.W.findIn K (.ref C) name=some none) (hv:mA name=some v) (hv':PySem.W.handedIn v=true) (h:Q v { s with toks:=s.toks + 1 }) :
  wpAny (model prog w) A (getAttr (.ref x) name expr) Q E s:=by
 obtain⟨od,J,hl⟩:=I.look
 exact PySem.W.get_value X J (PySem.W.plainGet_of hg).1 (PySem.W.findObj_own hh ha rfl (by rw [hl,hv])) hv' h
theorem K4 {pl:Sem Bool} {Q:Value × List Value->Shared->Prop} (X:K.In s.heap) (I:xQ s.heap x dx C mA) (hg:PySem.W.plainGet K C name=true)
  (hf:PySem.W.findIn K (.ref C) name=some (some (.ref f))) (ht:PySem.W.isFn K (.ref f)=true) (hv:mA name=none) (h:Q (.ref f,[.ref x]) s) :
  wpAny (model prog w) A (getMethod (.ref x) name pl) Q E s:=by
 obtain⟨od,J,hl⟩:=I.look
 exact PySem.W.method_fn X J (PySem.W.plainGet_of hg).1 (PySem.W.plainGet_of hg).2 hf (beq_iff_eq.mp ht) (by show(PySem.W.lookIn name od).map (·.isSome)=some false;rw [hl,hv];rfl) h
theorem L5 {ns:List Str} {Q:Unit->Shared->Prop} (X:K.In s.heap) (I:xQ s.heap x dx C mA)
  (hs:PySem.W.findIn K (.ref C) "__setattr__" = some (some (.builtin "object.__setattr__"))) (hp:PySem.W.plainOver K C=true) (ht:PySem.W.takerIn K C name=some none) (hh:PySem.W.hasDictIn K C=true)
  (hw:PySem.Within mA ns) (hsz:ns.length ≤ sizeLine)
  (h:∀ h',xQ h' x dx C (λ y=>if y=name then some v else mA y)->Heap.SameBut dx s.heap h'->Q () { s with heap:=h',toks:=s.toks + 2 }) :
  wpAny (model prog w) A (setAttr (.ref x) name v) Q E s:=by
 obtain⟨od,J,hl⟩:=I.look
 refine PySem.W.set_plain X J hs (PySem.W.osa_open (s:={ s with toks:=s.toks + 1 }) (r:=none) X J hp ht λ b=>?_)
 obtain⟨cd,hc,hd'⟩:=PySem.W.any_some hh
 have hx:s.heap.get? x=some ⟨.ref C,some dx,.plain,#[]⟩:=I.obj
 refine wpAny_bind (wpAny_pure (wpAny_bind (wpAny_bind (wpAny_loadPart hx (wpAny_bind (PySem.W.Looks.here (s:={ s with toks:=s.toks + 1 }) (PySem.W.looks_clsIn X hc) ?_))))))
 rw [hd']
 refine wpAny_pure (a:=some dx) (wpAny_bind (wpAny_pure (wpAny_bind ?_)))
 refine wpAny_nsSet1 (s:={ s with toks:=s.toks + 1 }) I.ns λ h' hn2 hs2=>?_
 obtain⟨oD,esD,epD,hoD,hdD,hcD⟩:=hn2.count (PySem.Within.cons name v hw)
 refine wpAny_bind (wpAny_lookBehind hoD (by rw [hdD];exact pastItsLine_dict (Nat.le_trans hcD (by rw [List.length_cons];omega))) ?_)
 exact wpAny_pure (h _ ⟨(hs2.2 _ (Ne.symm I.ne)).trans I.obj,hn2,I.ne⟩ hs2)
theorem Dh {R:Result->Shared->Prop} {vs:List Value} {kw:List (Str × Value)} (X:K.In s.heap) (hm:PySem.W.makesIn K C=true)
  (hi:PySem.W.findIn K (.ref C) "__init__" = some (some (.ref f))) (hf:PySem.W.typeIn K (.ref f)=some (.type "function"))
  (h:codeAny (model prog w) (A.under (.builtin "type.__call__" ⟨.ref C :: vs,kw⟩)) (.call (.ref f) ⟨.ref (s.heap.objs.size + 1) :: vs,kw⟩) (PySem.W.InitBack (s.heap.objs.size + 1) R)
   {s with heap:=(s.heap.push PySem.W.emptyDict).push (PySem.W.instObj C s.heap.objs.size) }) :
  codeAny (model prog w) A (.call (.ref C) ⟨vs,kw⟩) R s:=by
 obtain⟨hh,g,d,t,os⟩:=s
 exact PySem.W.make_core (PySem.W.makes_of X hm) (PySem.W.looks_findIn X hi) (λ self=>PySem.W.bind_fn X self hf) (.inl rfl) h
end
def cz (f:Str) (v:V):List (Str × V)->List (Str × V)
 | []=>[(f,v)]
 |(g,x) :: r=>if g=f then(g,v) :: r else(g,x) :: cz f v r
theorem oq (f g:Str) (v:V):∀ fs:List (Str × V),(cz f v fs).lookup g=if g=f then some v else fs.lookup g
 | []=>by
  show List.lookup g [(f,v)]=_
  by_cases h:g=f
  ·have hb:(g == f)=true:=beq_iff_eq.mpr h
   simp only [List.lookup,hb,if_pos h]
  ·have hb:(g == f)=false:=beq_eq_false_iff_ne.mpr h
   simp only [List.lookup,hb,if_neg h]
 |(k,x) :: r=>by
  have ih:=oq f g v r
  rw [show cz f v ((k,x) :: r) =(if k=f then(k,v) :: r else(k,x) :: cz f v r) from rfl]
  by_cases hk:k=f
  ·rw [if_pos hk]
   by_cases h:g=k
   ·have hb:(g == k)=true:=beq_iff_eq.mpr h
    simp only [List.lookup,hb,if_pos (h.trans hk)]
   ·have hb:(g == k)=false:=beq_eq_false_iff_ne.mpr h
    simp only [List.lookup,hb,if_neg (λ e:g=f=>h (e.trans hk.symm))]
  ·rw [if_neg hk]
   by_cases h:g=k
   ·have hb:(g == k)=true:=beq_iff_eq.mpr h
    simp only [List.lookup,hb,if_neg (λ e:g=f=>hk (h.symm.trans e))]
   ·have hb:(g == k)=false:=beq_eq_false_iff_ne.mpr h
    simp only [List.lookup,hb]
    exact ih
theorem jY (f:Str) (v:V):∀ fs:List (Str × V),f ∈(cz f v fs).map (·.1) /\ ∀ g,g ∈ fs.map (·.1)->g ∈(cz f v fs).map (·.1)
 | []=>⟨by simp [cz],λ g h=>by simp at h⟩
 |(k,x) :: r=>by
  obtain⟨i1,i2⟩:=jY f v r
  rw [show cz f v ((k,x) :: r) =(if k=f then(k,v) :: r else(k,x) :: cz f v r) from rfl]
  by_cases hk:k=f
  ·rw [if_pos hk]
   subst hk
   exact⟨by simp,λ g h=>by simpa using h⟩
  ·rw [if_neg hk]
   refine⟨?_,λ g h=>?_⟩
   ·rw [List.map_cons]
    exact List.mem_cons_of_mem _ i1
   ·rw [List.map_cons] at h ⊢
    rcases List.mem_cons.mp h with e | e
    ·exact List.mem_cons.mpr (.inl e)
    ·exact List.mem_cons_of_mem _ (i2 g e)
theorem vE (f:Str) (v:V):∀ fs:List (Str × V),(cz f v fs).length ≤ fs.length + 1
 | []=>by simp [cz]
 |(k,x) :: r=>by
  have ih:=vE f v r
  rw [show cz f v ((k,x) :: r) =(if k=f then(k,v) :: r else(k,x) :: cz f v r) from rfl]
  by_cases hk:k=f
  ·rw [if_pos hk,List.length_cons,List.length_cons];omega
  ·rw [if_neg hk,List.length_cons,List.length_cons];omega
theorem fD.some_of {v:V} {o:Option Value} (r:fD (some v) o):∃ u,o=some u /\ RelV v u:=by
 cases o with
 | none=>exact(show False from r).elim
 | some u=>exact⟨u,rfl,r⟩
theorem fD.none_of {o:Option Value} (r:fD none o):o=none:=by
 cases o with
 | none=>rfl
 | some u=>exact(show False from r).elim
theorem IJ {v:V} {u:Value} (r:RelV v u):PySem.W.handedIn u=true:=by
 cases v with
 | non=>cases (show u=Value.none from r);rfl
 | bl b=>cases (show u=Value.bool b from r);rfl
 | int i=>obtain⟨t,e⟩:=(show ∃ t,u=Value.int i t from r);cases e;rfl
 | str x=>obtain⟨t,e⟩:=(show ∃ t,u=Value.str x t from r);cases e;rfl
 | byt b=>obtain⟨t,e⟩:=(show ∃ t,u=Value.bytes b t from r);cases e;rfl
 | flt b=>obtain⟨t,e⟩:=(show ∃ t,u=Value.float b t from r);cases e;rfl
 | ref a=>cases (show u=Value.ref a from r);rfl
 | ty n=>cases (show u=Value.type n from r);rfl
section
variable {P:Program} {w:World} {H H':Hp} {h h':Heap} {a C dx:Addr} {fs fs':List (Str × V)}
theorem vf (hok:HOk P w H h) (e:H a=some (.ins C dx fs)):∃ mA,xQ h a dx C mA /\(∀ f,fD (fs.lookup f) (mA f)) /\ PySem.Within mA (fs.map (·.1)) /\ fs.length ≤ 1000 /\ H dx=some (.own a):=by
 obtain⟨d,z,ne,ob,mA,n,r,q⟩:=(show bF P w H h a (.ins C dx fs) from hok a _ e)
 exact⟨mA,⟨ob,n,ne⟩,r,q,z,d⟩
end
structure Cls (K:PySem.W.Frag) (C:Addr):Prop where
 pg:PySem.W.plainGet K C Str.empty=true
 hd:PySem.W.hasDictIn K C=true
 po:PySem.W.plainOver K C=true
 sa:PySem.W.findIn K (.ref C) "__setattr__" = some (some (.builtin "object.__setattr__"))
theorem Cls.get {K:PySem.W.Frag} {C:Addr} (c:Cls K C) (f:Str):PySem.W.plainGet K C f=true:=c.pg
def bw (K:PySem.W.Frag) (C:Addr) (f:Str):Prop:=PySem.W.findIn K (.ref C) f=some none
theorem bw.OA {K:PySem.W.Frag} {C:Addr} {f:Str} (n:bw K C f):PySem.W.takerIn K C f=some none:=by
 unfold PySem.W.takerIn
 rw [show PySem.W.findIn K (.ref C) f=some none from n]
 rfl
structure Meth (K:PySem.W.Frag) (C:Addr) (m:Str) (f:Addr):Prop where
 at_:PySem.W.findIn K (.ref C) m=some (some (.ref f))
 fn:PySem.W.isFn K (.ref f)=true
 kp:PySem.W.keepIn K (.ref f)=true
section
variable {X:Cx} {pins:List (Addr × Obj)} {σ:St} {H:Hp} {s:Shared} {a C dx:Addr} {fs:List (Str × V)} {f:Str} {v:V} {A:Around} {E:Value->Shared->Prop}
theorem EO {b:Bool} {Q:Value->Shared->Prop} (I:Inv X pins σ H s) (e:H a=some (.ins C dx fs)) (c:Cls X.K C) (n:bw X.K C f) (l:fs.lookup f=some v)
  (h:∀ u s',Inv X pins σ H s'->RelV v u->Q u s'):wpAny (model X.prog X.w) A (getAttr (.ref a) f b) Q E s:=by
 obtain⟨mA,O,r,_,_,_⟩:=vf I.hok e
 obtain⟨u,hu,ru⟩:=fD.some_of (v:=v) (o:=mA f) (by rw [← l];exact r f)
 exact get_map I.kIn O (c.get f) c.hd n hu (IJ ru) (h u _ (I.tok _) ru)
theorem yo {m:Str} {g:Addr} {pl:Sem Bool} {Q:Value × List Value->Shared->Prop} (I:Inv X pins σ H s) (e:H a=some (.ins C dx fs)) (c:Cls X.K C) (k:Meth X.K C m g) (l:fs.lookup m=none)
  (h:Q (.ref g,[.ref a]) s):wpAny (model X.prog X.w) A (getMethod (.ref a) m pl) Q E s:=by
 obtain⟨mA,O,r,_,_,_⟩:=vf I.hok e
 have hn:mA m=none:=fD.none_of (by rw [← l];exact r m)
 exact K4 I.kIn O (c.get m) k.at_ k.fn hn h
theorem Ed {y:V} {u:Value} {Q:Unit->Shared->Prop} (I:Inv X pins σ H s) (e:H a=some (.ins C dx fs)) (c:Cls X.K C) (n:bw X.K C f) (hl:fs.length < 1000) (ry:RelV y u)
  (h:∀ s',Inv X pins σ (upd H a (.ins C dx (cz f y fs))) s'->Q () s'):wpAny (model X.prog X.w) A (setAttr (.ref a) f u) Q E s:=by
 obtain⟨mA,O,r,wi,_,ho⟩:=vf I.hok e
 have hz:(fs.map (·.1)).length ≤ sizeLine:=by rw [List.length_map,sizeLine_eq];omega
 refine L5 I.kIn O c.sa c.po n.OA c.hd wi hz λ h' O' sb=>h _ ?_
 have hd:∃ o,h'.get? dx=some o:=let ⟨o,_,_,e',_⟩:=O'.ns;⟨o,e'⟩
 refine I.write (x:=a) (e:=dx) (by rw [e];exact True.intro) (.inr ho) (λ b q hb z=>(sb.2 b hb).trans z) hd ?_
 refine⟨by rw [aq O.ne];exact ho,?_,O.ne,O'.obj,_,O'.ns,λ g=>?_,λ g hg=>?_⟩
 ·have:=vE f y fs;omega
 ·show fD ((cz f y fs).lookup g) (if g=f then some u else mA g)
  rw [oq]
  by_cases q:g=f
  ·rw [if_pos q,if_pos q];exact ry
  ·rw [if_neg q,if_neg q];exact r g
 ·by_cases q:g=f
  ·rw [q];exact(jY f y fs).1
  ·refine(jY f y fs).2 g (wi g λ z=>hg ?_)
   show(if g=f then some u else mA g)=none
   rw [if_neg q];exact z
theorem Inv.made (I:Inv X pins σ H s):Inv X pins σ (upd (upd H s.heap.objs.size (.own (s.heap.objs.size + 1))) (s.heap.objs.size + 1) (.ins C s.heap.objs.size []))
  {s with heap:=(s.heap.push PySem.W.emptyDict).push (PySem.W.instObj C s.heap.objs.size) }:=by
 have e1:(s.heap.push PySem.W.emptyDict).get? s.heap.objs.size=some PySem.W.emptyDict:=Heap.get?_push_size s.heap rfl
 have e2:((s.heap.push PySem.W.emptyDict).push (PySem.W.instObj C s.heap.objs.size)).get? (s.heap.objs.size + 1)=some (PySem.W.instObj C s.heap.objs.size):=by
  have:=Heap.get?_push_size (s.heap.push PySem.W.emptyDict) (o:=PySem.W.instObj C s.heap.objs.size) rfl
  rwa [Heap.size_push] at this
 have e3:(s.heap.push PySem.W.emptyDict).Ns s.heap.objs.size (λ _=>none):=⟨PySem.W.emptyDict,#[],_,e1,rfl,(λ e he=>absurd he (by simp)),λ _=>rfl⟩
 have I1:=I.laid (a:=s.heap.objs.size) (o:=.own (s.heap.objs.size + 1)) (h':=s.heap.push PySem.W.emptyDict) (t':=s.toks) (λ b u q=>Heap.get?_push_of_some _ q) (Nat.le_refl _) ⟨_,e1⟩
 refine I1.laid (a:=s.heap.objs.size + 1) (o:=.ins C s.heap.objs.size []) (t':=s.toks) (λ b u q=>Heap.get?_push_of_some _ q) (Nat.le_of_eq (Heap.size_push _ _)) ?_
 have ne:s.heap.objs.size ≠ s.heap.objs.size + 1:=Nat.ne_of_lt (Nat.lt_succ_self _)
 refine⟨by rw [aq ne,ah],Nat.zero_le _,ne,e2,λ _=>none,(Heap.Ns1.of_empty e3).at λ o q=>Heap.get?_push_of_some _ q,λ _=>True.intro,λ y hy=>absurd rfl hy⟩
theorem LU {prog:Program} {w:World} {env:Env} {e:Expr} {f:Str} {pos:Pos} {s:Shared} {Q:Value->Shared->Prop} (hb:attributeBase e f env (eval e env)=eval e env)
  (h:wpAny (model prog w) A (eval e env) (λ o s₁=>wpAny (model prog w) A (getAttr o f true) Q E s₁) E s):wpAny (model prog w) A (eval (.Attribute e f pos) env) Q E s :=
 Attribute_any_ h (by rw [arm_eval_Attribute,hb])
end
def Js (K:PySem.W.Frag) (ta:TE) (f:Str):TE:=λ σ H Q=>ta σ H λ x H1=>∃ a C dx fs v,x = .ref a /\ H1 a=some (.ins C dx fs) /\ Cls K C /\ bw K C f /\ fs.lookup f=some v /\ Q v H1
def O5 (K:PySem.W.Frag) (ta tv:TE) (f:Str):TS:=λ D σ H=>tv σ H λ y H1=>ta σ H1 λ x H2=>∃ a C dx fs,x = .ref a /\ H2 a=some (.ins C dx fs) /\ Cls K C /\ bw K C f /\ fs.length < 1000 ∧
 D.nx σ (upd H2 a (.ins C dx (cz f y fs)))
section
variable {X:Cx} {o e value:Expr} {f:Str} {pos pos' tpos:Pos} {ta tv:TE}
theorem bH (he:PE X e ta) (hb:attributeBase e f X.env (eval e X.env)=eval e X.env):PE X (.Attribute e f pos) (Js X.K ta f):=by
 intro pins s σ H Q I h
 refine LU hb (thn (he pins s σ H _ I h) λ u s1 ⟨x,H1,I1,rx,a,C,dx,fs,v,ex,ea,c,n,l,q⟩=>?_)
 subst ex
 obtain rfl:u=Value.ref a:=rx
 exact EO I1 ea c n l λ u' s2 I2 ru=>⟨v,H1,I2,ru,q⟩
theorem iC (ha:PE X o ta) (hv:PE X value tv) (hs:swapsWith value (some (.Attribute o f pos')) pos.line X.env=pure false):PS X (.Assign [.Attribute o f pos'] value pos) (O5 X.K ta tv f):=by
 intro pins s σ H D I h
 refine plainObj_wpAny_Assign_Attribute (thn (hv pins s σ H _ I h) λ u s1 ⟨y,H1,I1,ry,q⟩=>thn (ha pins s1 σ H1 _ I1 q) λ ov s2 ⟨x,H2,I2,rx,a,C,dx,fs,ex,ea,c,n,l,q2⟩=>?_) hs
 subst ex
 obtain rfl:ov=Value.ref a:=rx
 exact Ed I2 ea c n l ry λ s3 I3=>⟨σ,_,I3,q2⟩
end
section
variable {X:Cx} {pins:List (Addr × Obj)} {σ:St} {H:Hp} {s:Shared} {A:Around} {E:Value->Shared->Prop} {Q:Value->Shared->Prop} {c:Value} {b:Bool}
inductive jI (K:PySem.W.Frag) (H:Hp):V->Value->Prop where
 | non:jI K H .non (.type "NoneType")
 | bl (x:Bool):jI K H (.bl x) (.type "bool")
 | int (i:Int):jI K H (.int i) (.type "int")
 | str (x:Str):jI K H (.str x) (.type "str")
 | flt (x:UInt64):jI K H (.flt x) (.type "float")
 | lst {a:Addr} {xs:List V} (e:H a=some (.lst xs)):jI K H (.ref a) (.type "list")
 | frz {a:Addr} {o:Obj} {xs:List V} (e:H a=some (.frz o (.lst xs))):jI K H (.ref a) (.type "list")
 | tup {a:Addr} {xs:List V} (e:H a=some (.tup xs)):jI K H (.ref a) (.type "tuple")
 | dK {a:Addr} {kvs:List (Key × V)} (e:H a=some (.dK kvs)):jI K H (.ref a) (.type "dict")
 | dT {a:Addr} {kvs:List (List Key × V)} (e:H a=some (.dT kvs)):jI K H (.ref a) (.type "dict")
 | ins {a C dx:Addr} {fs:List (Str × V)} (e:H a=some (.ins C dx fs)) (cl:Cls K C) (ha:PySem.W.findIn K (.ref C) "__class__" = some (some (.builtin "object.__class__")))
   (hn:PySem.W.specialIn K (.builtin "object.__class__") "__get__" = some (some (.builtin "getset_descriptor.__get__"))) (htk:PySem.W.takesIn K (.builtin "object.__class__")=some true)
   (hm:PySem.W.mroIn K C (.type "object")=some true):jI K H (.ref a) (.ref C)
theorem Hw {x:V} {u t:Value} (I:Inv X pins σ H s) (rx:RelV x u) (ty:jI X.K H x t) (e:PySem.W.kitOne X.K t c=some b) (h:∀ tk,Q (.bool b) { s with toks:=tk }) :
  wpAny (model X.prog X.w) A (call (.builtin "isinstance") [u,c]) Q E s:=by
 cases ty with
 | non=>cases (show u=Value.none from rx);exact PySem.W.kia_one PySem.W.kitx_none I.kIn True.intro e (λ z=>nomatch z) h
 | bl y=>cases (show u=Value.bool y from rx);exact PySem.W.kia_one PySem.W.kitx_bool I.kIn True.intro e (λ z=>nomatch z) h
 | int i=>obtain⟨t,q⟩:=(show ∃ t,u=Value.int i t from rx);cases q;exact PySem.W.kia_one PySem.W.kitx_int I.kIn True.intro e (λ z=>nomatch z) h
 | str y=>obtain⟨t,q⟩:=(show ∃ t,u=Value.str y t from rx);cases q;exact PySem.W.kia_one PySem.W.kitx_str I.kIn True.intro e (λ z=>nomatch z) h
 | flt y=>obtain⟨t,q⟩:=(show ∃ t,u=Value.float y t from rx);cases q;exact PySem.W.kia_one PySem.W.kitx_float I.kIn True.intro e (λ z=>nomatch z) h
 | @lst a xs ea =>
  cases (show u=Value.ref a from rx)
  obtain⟨_,_,n,_,h1⟩:=(show bF X.prog X.w H s.heap a (.lst xs) from I.hok a _ ea)
  exact PySem.W.kia_one PySem.W.kitx_list I.kIn ⟨_,h1,rfl⟩ e (λ z=>nomatch z) h
 | @frz a ob xs ea =>
  cases (show u=Value.ref a from rx)
  obtain⟨_,_,_,n,_,h1⟩:=(show bF X.prog X.w H s.heap a (.frz ob (.lst xs)) from I.hok a _ ea)
  exact PySem.W.kia_one PySem.W.kitx_list I.kIn ⟨_,h1,rfl⟩ e (λ z=>nomatch z) h
 | @tup a xs ea =>
  cases (show u=Value.ref a from rx)
  obtain⟨_,_,_,p⟩:=(show bF X.prog X.w H s.heap a (.tup xs) from I.hok a _ ea)
  obtain⟨o,h1,h2,_⟩:=p
  exact PySem.W.kia_one PySem.W.kitx_tuple I.kIn ⟨o,h1,h2⟩ e (λ z=>nomatch z) h
 | @dK a kvs ea =>
  cases (show u=Value.ref a from rx)
  obtain⟨_,_,vs,_,p⟩:=(show bF X.prog X.w H s.heap a (.dK kvs) from I.hok a _ ea)
  obtain⟨o,es,ep,h1,h2,_⟩:=p
  exact PySem.W.kia_one PySem.W.kitx_dict I.kIn ⟨o,h1,h2.1⟩ e (λ z=>nomatch z) h
 | @dT a kvs ea =>
  cases (show u=Value.ref a from rx)
  obtain⟨_,_,xs,_,o,es,ep,h1,h2,_⟩:=(show bF X.prog X.w H s.heap a (.dT kvs) from I.hok a _ ea)
  exact PySem.W.kia_one PySem.W.kitx_dict I.kIn ⟨o,h1,h2.1⟩ e (λ z=>nomatch z) h
 | @ins a C dx fs ea cl ha hn htk hm =>
  cases (show u=Value.ref a from rx)
  obtain⟨mA,O,_⟩:=vf I.hok ea
  obtain⟨od,J,_⟩:=O.look
  exact PySem.W.kia_one (PySem.W.kitx_own (cl.get _) cl.hd ha hn htk hm) I.kIn J e (λ z=>nomatch z) h
end
open PySem PySem.Spec PyProof.Rows
structure cL (k:Nat) (A:Around):Prop where
 hd:A.handled=none
 dp:A.depth + 3 * k + 5 < recursionLimit
 un:A.units + 16 * k + 200 < cLine
theorem cL.mono {j k:Nat} {A:Around} (r:cL k A) (h:j ≤ k):cL j A:=⟨r.hd,by have:=r.dp;omega,by have:=r.un;omega⟩
theorem cL.deeper {k:Nat} {A:Around} (r:cL (k + 1) A) (env:Env):cL k (A.deeper env) :=
 ⟨r.hd,by have:=r.dp;show A.depth + 1 + 3 * k + 5 < _;omega,by have:=r.un;show A.units + 3 + 16 * k + 200 < _;omega⟩
theorem Fo {A:Around} {C:Addr} {us:List Value} {kw:List (Str × Value)}:(A.under (.builtin "type.__call__" ⟨.ref C :: us,kw⟩)).depth=A.depth + 1:=by
 first | rfl | simp [Around.under,Code.weight,Code.isCreation,Code.isGuard,Code.isCaller,Code.frames,Code.isFrame,guardIds]
theorem GV {A:Around} {C:Addr} {us:List Value} {kw:List (Str × Value)}:(A.under (.builtin "type.__call__" ⟨.ref C :: us,kw⟩)).units=A.units + 1:=by
 first | rfl | simp [Around.under,Code.cUnits,Code.frames,Code.isFrame]
theorem cL.make {k:Nat} {A:Around} (r:cL (k + 1) A) (C:Addr) (us:List Value) (kw:List (Str × Value)):cL k (A.under (.builtin "type.__call__" ⟨.ref C :: us,kw⟩)) :=
 ⟨r.hd,by have:=r.dp;rw [Fo];omega,by have:=r.un;rw [GV];omega⟩
theorem cL.depth {k:Nat} {A:Around} (r:cL k A):A.depth < recursionLimit:=by have:=r.dp;omega
theorem cL.units {k:Nat} {A:Around} (r:cL k A):A.units + 64 < cLine:=by have:=r.un;omega
def fm:TA:=λ _ H Q=>Q [] H
def jN (ta:TE) (tr:TA):TA:=λ σ H Q=>ta σ H λ x H1=>tr σ H1 λ xs H2=>Q (x :: xs) H2
section
variable {X:Cx} {e:Expr} {es:List Expr} {te:TE} {t:TA} {pos:Pos}
theorem ay:PA X [] fm:=λ _ _ _ _ H Q I h=>Calls.spliced_nil ⟨[],H,I,.nil,h⟩
theorem aa (ha:PE X e te) (hr:PA X es t) (hs:starEach (e :: es) X.env =(false,eval e X.env) :: starEach es X.env:=by rfl):PA X (e :: es) (jN te t):=by
 intro pos pins s σ H Q I h
 rw [hs]
 show wpAny _ _ (spliced ((false,eval e X.env) :: backTo pos (starEach es X.env))) _ _ s
 refine Calls.spliced_cons (thn (ha pins s σ H _ I h) λ u s1 ⟨x,H1,I1,r1,q1⟩=>?_)
 exact thn (hr pos pins s1 σ H1 _ I1 q1) λ us s2 ⟨xs,H2,I2,r2,q2⟩=>⟨x :: xs,H2,I2,.cons r1 r2,q2⟩
def Kq (t:TA):TE:=λ σ H Q=>t σ H λ xs H1=>xs.length ≤ sizeLine /\ ∀ p,H1 p=none->Q (.ref p) (upd H1 p (.tup xs))
def Kc (t:TA):TE:=λ σ H Q=>t σ H λ xs H1=>xs.length ≤ sizeLine /\ ∀ p,H1 p=none->Q (.ref p) (upd H1 p (.lst xs))
theorem dS {x1} (h:PA X es t):PE X (.Tuple es x1 pos) (Kq t):=by
 intro pins s σ H Q I hq
 refine wpAny_Tuple_spliced (thn (h pos pins s σ H _ I hq) λ us s1 ⟨xs,H1,I1,r,z,q⟩=>⟨by rw [← r.length];exact z,?_⟩)
 have hf:H1 s1.heap.objs.size=none:=I1.hok.fresh (Nat.le_refl _)
 refine⟨.ref s1.heap.objs.size,upd H1 s1.heap.objs.size (.tup xs),I1.laid (t':=s1.toks) (λ b u e=>Heap.get?_push_of_some _ e) (Nat.le_refl _) ?_,rfl,q _ hf⟩
 exact⟨z,us,r,⟨_,Heap.get?_push_size _ rfl,rfl,_,rfl⟩⟩
theorem eF (h:PA X es t):PE X (.List es pos) (Kc t):=by
 intro pins s σ H Q I hq
 refine wpAny_List_spliced (thn (h pos pins s σ H _ I hq) λ us s1 ⟨xs,H1,I1,r,z,q⟩=>⟨by rw [← r.length];exact z,?_⟩)
 have hf:H1 s1.heap.objs.size=none:=I1.hok.fresh (Nat.le_refl _)
 refine⟨.ref s1.heap.objs.size,upd H1 s1.heap.objs.size (.lst xs),I1.laid (t':=s1.toks) (λ b u e=>Heap.get?_push_of_some _ e) (Nat.le_refl _) ?_,rfl,q _ hf⟩
 exact⟨z,us,0,r,Heap.get?_push_size _ rfl⟩
end
abbrev Sp:=List V->Hp->VK->XK->Prop
abbrev CXT:=List Env->Hp->Shared->XK->Value->Shared->Prop
structure wW (P:Program) (w:World) (K:PySem.W.Frag) (mg:Str->Option Value) (base:Heap) (A:Around) (outer:List Env) (s:Shared) (H:Hp):Prop where
 frames:A.frames=some outer
 mod:Mod K mg base
 bs:∀ b o,base.get? b=some o->s.heap.get? b=some o /\ H b=none
 bsz:base.objs.size ≤ s.heap.objs.size
 jG:s.heap.FunFrames base outer
 frf:∀ b ∈ frs outer,H b=none
 hok:HOk P w H s.heap
 bare:AllBare s.gens
def CE (outer:List Env) (P:Program) (w:World) (H:Hp) (s:Shared) (Q:VK) (u:Value) (s':Shared):Prop :=
 ∃ v H',s'.os=s.os /\ AllBare s'.gens /\ Un (frs outer) [] H H' s.heap s'.heap /\ HOk P w H' s'.heap /\ RelV v u /\ Q v H'
def CR (CX:CXT) (outer:List Env) (P:Program) (w:World) (H:Hp) (s:Shared) (Q:VK) (E:XK) (r:Result) (s':Shared):Prop :=
 match r with
 | .ok (.ret u)=>CE outer P w H s Q u s'
 | .ok _=>False
 | .error e=>CX outer H s E e s'
structure bq (P:Program) (w:World) (K:PySem.W.Frag) (mg:Str->Option Value) (base:Heap) (CX:CXT) (k:Nat) (f:Addr) (fd:FuncData) (ps:List Str) (sp:Sp):Prop where
 len:∀ vs H Q E,sp vs H Q E->vs.length=ps.length
 run:∀(A:Around) (outer:List Env) (s:Shared) (H:Hp) (args:Args) (us:List Value) (vs:List V) (Q:VK) (E:XK),cL k A->wW P w K mg base A outer s H->BindsTo s fd args (ps.zip us)->Vals vs us->sp vs H Q E →
  codeAny (model P w) A (.call (.ref f) args) (CR CX outer P w H s Q E) s
theorem wW.make {P:Program} {w:World} {K:PySem.W.Frag} {mg:Str->Option Value} {base:Heap} {A:Around} {outer:List Env} {s:Shared} {H:Hp} (e:wW P w K mg base A outer s H) (C:Addr) (us:List Value) (kw:List (Str × Value)) :
  wW P w K mg base (A.under (.builtin "type.__call__" ⟨.ref C :: us,kw⟩)) outer s H:=⟨by first | exact e.frames |(simpa [Around.under,Code.envs,Code.isFrame,pushEnvs] using e.frames),e.mod,e.bs,e.bsz,e.jG,e.frf,e.hok,e.bare⟩
section
variable {X:Cx} {pins:List (Addr × Obj)} {σ:St} {H:Hp} {s s':Shared}
theorem Inv.Gq (I:Inv X pins σ H s):wW X.prog X.w X.K X.mg X.base X.A X.stack s H :=
 ⟨I.ok.frames,I.ok.mod,I.bs,Nat.le_trans I.ok.bsz I.sz,I.stack,I.zL,I.hok,I.bare⟩
theorem Inv.after {Q:VK} {u:Value} (I:Inv X pins σ H s) (h:CE X.stack X.prog X.w H s Q u s'):EP X pins σ Q u s':=by
 obtain⟨v,H',os,bare,un,hok,r,q⟩:=h
 obtain⟨hh,g,d,t,os'⟩:=s'
 obtain rfl:os'=s.os:=os
 exact⟨v,H',I.call (h':=hh) (g':=g) (d':=d) (t':=t) (ch:=[]) un hok bare (λ b z=>absurd z (by simp)),r,q⟩
end
def Binds (K:PySem.W.Frag) (fd:FuncData) (ps:List Str) (ds:List Value):Prop :=
 ∀(s:Shared) (us:List Value),K.In s.heap->(us ++ ds).length=ps.length->BindsTo s fd ⟨us,[]⟩ (ps.zip (us ++ ds))
theorem Binds.all {K:PySem.W.Frag} {fd:FuncData} {ps:List Str} (h:∀ us:List Value,us.length=ps.length->bindArgs fd ⟨us,[]⟩=pure (ps.zip us)):Binds K fd ps []:=λ s us _ hl=>by
 rw [List.append_nil] at hl ⊢
 exact .of_eq (h us hl)
section
variable {X:Cx} {CX:CXT} {k:Nat} {f C:Addr} {fd:FuncData} {ps:List Str} {sp:Sp} {dvs:List V} {ds:List Value} {E:XK} {x m:Str} {p pos apos:Pos} {e o:Expr} {es:List Expr} {ta:TE} {t:TA}
structure Mk (K:PySem.W.Frag) (C f:Addr):Prop where
 makes:PySem.W.makesIn K C=true
 init:PySem.W.findIn K (.ref C) "__init__" = some (some (.ref f))
 fn:PySem.W.isFn K (.ref f)=true
 kp:PySem.W.keepIn K (.ref C)=true
end
structure aO (N P:List Str) (sc:Scope):Prop where
 kind:sc.kind = .function
 co:sc.isCoroutine=false
 gen:sc.isGenerator=false
 nd:N.Nodup
 pre:N.take P.length=P
 par:∀ x ∈ P,sc.names.lookup x = some .local ∨ sc.names.lookup x = some .cell
 MG:∀ y ∈ sc.names,y.2 ≠ .free
theorem AI {kindOf:Str->Option NameKind} {x:Str}:∀ {binds:List (Str × Value)} {m:Str->Option Value},(∀ v,(x,v) ∉ binds)->bindL kindOf binds m x=m x
 | [],_,_=>rfl
 |(n,v) :: r,m,h=>by
  unfold bindL
  rw [AI λ w hw=>h w (List.mem_cons_of_mem _ hw)]
  split
  ·have:x ≠ n:=by rintro rfl;exact h v List.mem_cons_self
   simp [this]
  ·rfl
theorem AO {kindOf:Str->Option NameKind} {x:Str}:∀ {binds:List (Str × Value)} {m:Str->Option Value},(∀ v,(x,v) ∉ binds)->bindC kindOf binds m x=m x
 | [],_,_=>rfl
 |(n,v) :: r,m,h=>by
  unfold bindC
  rw [AO λ w hw=>h w (List.mem_cons_of_mem _ hw)]
  split
  ·rfl
  ·have:x ≠ n:=by rintro rfl;exact h v List.mem_cons_self
   simp [this]
theorem AL {kindOf:Str->Option NameKind} {x:Str} {v:Value}:∀ {P:List Str} {vs:List Value} {i:Nat} {m:Str->Option Value},P.Nodup->P[i]? = some x->vs[i]? = some v->kindOf x = some .local →
  bindL kindOf (P.zip vs) m x=some v
 | [],_,_,_,_,h,_,_=>by simp at h
 | _ :: _,[],_,_,_,_,h,_=>by simp at h
 | p :: P,w :: vs,0,m,nd,h1,h2,hk=>by
  simp at h1 h2;subst h1;subst h2
  show bindL kindOf ((p,w) :: P.zip vs) m p=_
  unfold bindL
  rw [AI λ v hv=>(List.nodup_cons.mp nd).1 (List.of_mem_zip hv).1,if_pos hk]
  simp
 | p :: P,w :: vs,i + 1,m,nd,h1,h2,hk=>by
  show bindL kindOf ((p,w) :: P.zip vs) m x=_
  unfold bindL
  exact AL (i:=i) (List.nodup_cons.mp nd).2 (by simpa using h1) (by simpa using h2) hk
theorem Aq {kindOf:Str->Option NameKind} {x:Str} {v:Value}:∀ {P:List Str} {vs:List Value} {i:Nat} {m:Str->Option Value},P.Nodup->P[i]? = some x->vs[i]? = some v->kindOf x ≠ some .local →
  bindC kindOf (P.zip vs) m x=some v
 | [],_,_,_,_,h,_,_=>by simp at h
 | _ :: _,[],_,_,_,_,h,_=>by simp at h
 | p :: P,w :: vs,0,m,nd,h1,h2,hk=>by
  simp at h1 h2;subst h1;subst h2
  show bindC kindOf ((p,w) :: P.zip vs) m p=_
  unfold bindC
  rw [AO λ v hv=>(List.nodup_cons.mp nd).1 (List.of_mem_zip hv).1,if_neg hk]
  simp
 | p :: P,w :: vs,i + 1,m,nd,h1,h2,hk=>by
  show bindC kindOf ((p,w) :: P.zip vs) m x=_
  unfold bindC
  exact Aq (i:=i) (List.nodup_cons.mp nd).2 (by simpa using h1) (by simpa using h2) hk
def start (N:List Str) (vs:List V):St:=vs.map some ++ List.replicate (N.length - vs.length) none
def nH (CX:CXT) (P:Program) (w:World) (K:PySem.W.Frag) (mg:Str->Option Value) (base:Heap) (N:List Str) (qual:Str) (scope:Scope) (f:Addr) (cd:Value) (A:Around) (outer:List Env) (s:Shared) (H:Hp) (E:XK):Cx where
 prog:=P
 w:=w
 K:=K
 mg:=mg
 base:=base
 A:=A.deeper (envOfC qual scope s.heap.objs.size f cd)
 N:=N
 s₀:=s
 H₀:=H
 env:=envOfC qual scope s.heap.objs.size f cd
 outer:=outer
 stack:=envOfC qual scope s.heap.objs.size f cd :: outer
 ex:=[]
 calm:=true
 fn:=λ _=>true
 pn:=[]
 xe:=λ e s'=>wpAny (model P w) (A.deeper (envOfC qual scope s.heap.objs.size f cd)) (leaving (envOfC qual scope s.heap.objs.size f cd) e) (λ _ s''=>CX outer H s E e s'') (λ e' s''=>CX outer H s E e' s'') s'
theorem B7 {sc:Scope} {n:Nat} {x:Str} (h:sc.names.lookup x=some .cell):∃ c,(cellsFrom n sc.names []).lookup x=some c:=by
 have q:=PySem.W.cellsFrom_some sc.names n [] (.inl h)
 exact Option.isSome_iff_exists.mp q
theorem Ip {CX:CXT} {P:Program} {w:World} {K:PySem.W.Frag} {mg:Str->Option Value} {base:Heap} {N ps:List Str} {qual:Str} {scope:Scope} {f:Addr} {cd:Value} {A:Around} {outer:List Env} {s s1:Shared} {H:Hp} {E:XK} {us:List Value} {vs:List V}
  (S:aO N ps scope) (hd:A.handled=none) (e0:wW P w K mg base A outer s H) (hl:vs.length=ps.length) (r:Vals vs us)
  (x:InCallC s s.heap.objs.size (bindL (envOfC qual scope s.heap.objs.size f cd).kindOf (ps.zip us) λ _=>none) (cellsFrom (s.heap.objs.size + 1) scope.names []) (bindC (envOfC qual scope s.heap.objs.size f cd).kindOf (ps.zip us) λ _=>none) s1) :
  Inv (nH CX P w K mg base N qual scope f cd A outer s H E) [] (start N vs) H s1:=by
 have hpl:ps.length ≤ N.length:=by have:=congrArg List.length S.pre;rw [List.length_take] at this;omega
 obtain⟨h1,tk,rfl,hk⟩:=x.done
 have noA:∀ b:Addr,b ∉(nH CX P w K mg base N qual scope f cd A outer s H E).ex:=λ b z=>absurd (show b ∈([]:List Addr) from z) (by simp)
 refine⟨⟨e0.mod,S.kind,rfl,rfl,Nat.le_refl _,λ y z c h1 h2=>?_,λ y hy=>?_,λ y c _ h=>?_,λ _=>hd,Around.frames_deeper e0.frames,.inr ⟨rfl,rfl⟩,λ b z=>absurd z (noA b),e0.bs,e0.bsz,λ b _ _=>noA b,λ b z=>absurd z (noA b),e0.jG,e0.frf⟩,
  rfl,e0.bare,Un.kept hk,⟨_,x.toInCall.ns,λ i y v h1 h2 h3=>?_⟩,λ y c h=>⟨_,x.cell y c h⟩,e0.hok.fresh (Nat.le_refl _),λ y c h=>?_,λ p hp=>absurd (show p ∈([]:List (Addr × Obj)) from hp) (by simp),e0.hok.kept hk,?_⟩
 ·exact name_of_addr x.apart (PySem.mem_of_lookup h1) (PySem.mem_of_lookup h2)
 ·have hy:scope.names.lookup y=some .cell ∨ scope.names.lookup y=some .free:=hy
  rcases hy with hy | hy
  ·exact B7 hy
  ·exact absurd rfl (S.MG _ (PySem.mem_of_lookup hy))
 ·exact Nat.le_of_lt (x.above y c (PySem.mem_of_lookup h))
 ·have hi:i < vs.length:=by
   unfold start at h2
   by_cases hi:i < vs.length
   ·exact hi
   ·rw [List.getElem?_append_right (by simpa using hi)] at h2
    rw [List.getElem?_replicate] at h2
    split at h2 <;> cases h2
  have ha:vs[i]? = some v:=by
   unfold start at h2
   rw [List.getElem?_append_left (by simpa using hi),List.getElem?_map] at h2
   cases e:vs[i]? with
   | none=>rw [e] at h2;cases h2
   | some a=>rw [e] at h2;cases h2;rfl
  obtain⟨u,hu,rv⟩:=r.get ha
  have hp:ps[i]? = some y:=by
   rw [← S.pre,List.getElem?_take_of_lt (by omega)];exact h1
  have ndP:ps.Nodup:=by rw [← S.pre];exact S.nd.sublist (List.take_sublist _ _)
  refine⟨u,rv,?_⟩
  rcases S.par y (List.mem_of_getElem? hp) with k | k
  ·exact .inl ⟨k,AL ndP hp hu k⟩
  ·obtain⟨c,e⟩:=B7 (n:=s.heap.objs.size + 1) k
   refine .inr ⟨.inl k,c,e,?_⟩
   have q:=x.cell y c e
   rw [Aq ndP hp hu (by show scope.names.lookup y ≠ _;rw [k];decide)] at q
   exact q
 ·exact e0.hok.fresh (Nat.le_of_lt (x.above y c (PySem.mem_of_lookup h)))
 ·unfold start
  show _=N.length
  rw [List.length_append,List.length_map,List.length_replicate]
  omega
theorem Lr {CX:CXT} {P:Program} {w:World} {K:PySem.W.Frag} {mg:Str->Option Value} {base:Heap} {k:Nat} {f:Addr} {name qual:Str} {params:Arguments} {body:List Stmt} {scope:Scope} {dV kV doc pm cdv ct oc:Value} {an od:Option Addr}
  {osl:Array (Option Value)} {N ps:List Str} {sp:Sp} (lk:K.lookup f=some ⟨oc,od,.func (PySem.W.fnOf name qual params body scope dV kV doc pm an cdv ct),osl⟩) (hcd:PySem.W.codeIn K cdv qual=true) (S:aO N ps scope)
  (len:∀ vs H Q E,sp vs H Q E->vs.length=ps.length)
  (hbody:∀(A:Around) (outer:List Env) (s:Shared) (H:Hp) (vs:List V) (Q:VK) (E:XK),cL k (A.deeper (envOfC qual scope s.heap.objs.size f cdv))->sp vs H Q E →
   ∃ t,PSs (nH CX P w K mg base N qual scope f cdv A outer s H E) body t /\ t { nx:=λ _ H'=>Q .non H',rt:=Q } (start N vs) H) :
  bq P w K mg base CX (k + 1) f (PySem.W.fnOf name qual params body scope dV kV doc pm an cdv ct) ps sp:=by
 refine⟨len,λ A outer s H args us vs Q E hr e0 hb r hsp=>?_⟩
 have hl:=len _ _ _ _ hsp
 have KX:K.In s.heap:=e0.mod.kin.keeps λ b o e=>(e0.bs b o e).1
 have lim:s.heap.NoLimit:=e0.mod.nolimit.keeps λ b o e=>(e0.bs b o e).1
 have hkind:∀ y ∈ ps.zip us,scope.names.lookup y.1 = some .local ∨ (scope.names.lookup y.1 = some .cell /\ ((cellsFrom (s.heap.objs.size + 1) scope.names []).lookup y.1).isSome = true):=fun ⟨n,v⟩ hy=>by
  rcases S.par n (List.of_mem_zip hy).1 with q | q
  ·exact .inl q
  ·exact .inr ⟨q,PySem.W.cellsFrom_some _ _ _ (.inl q)⟩
 refine codeAny_call_function hr.depth (KX _ _ lk) rfl S.co S.gen rfl (PySem.W.codeRec_of KX hcd) (hb _ _ _ _ ?_)
 refine wpAny_newFunctionEnv_cells S.kind hkind λ env he s1 x=>?_
 subst he
 refine⟨lim.keeps x.toInCall.keep,codeAny_func ?_⟩
 obtain⟨t,ht,hq⟩:=hbody A outer s H vs Q E (hr.deeper _) hsp
 have I:Inv (nH CX P w K mg base N qual scope f cdv A outer s H E) [] (start N vs) H s1:=Ip S hr.hd e0 hl r x
 refine wpAny_mono (ht [] s1 (start N vs) H _ I hq) (λ fl s' hs=>?_) λ e s' hs=>hs
 have fin:∀ {σ':St} {H':Hp} {v:V} {u:Value},Inv (nH CX P w K mg base N qual scope f cdv A outer s H E) [] σ' H' s'->RelV v u->Q v H'->CE outer P w H s Q u s' :=
  λ {σ' H' v u} J rv q=>⟨v,H',J.os,J.bare,J.base,J.hok,rv,q⟩
 cases fl with
 | ret u =>
  obtain⟨v,σ',H',J,rv,q⟩:=hs
  exact fin J rv q
 | next =>
  obtain⟨σ',H',J,q⟩:=hs
  exact fin (v:=V.non) (u:=Value.none) J rfl q
 | brk =>
  obtain⟨_,_,_,q⟩:=hs
  exact False.elim q
 | cont =>
  obtain⟨_,_,_,q⟩:=hs
  exact False.elim q
open PySem PySem.Spec PyProof.Rows
section
variable {X:Cx} {x:Str} {p pos:Pos} {e:Expr} {es:List Expr} {t:TA} {id T:String} {r:List V->Hp->VK->Prop}
def tCB (r:List V->Hp->VK->Prop) (t:TA):TE:=λ σ H Q=>t σ H λ vs H1=>r vs H1 Q
theorem aY (hc:gG X (.builtin id) r) (hg:Gl X x) (hm:X.mg x=none) (hv:bootBuiltins x=some (.builtin id)) (ha:PA X (e :: es) t) (hn:x ≠ "__name__":=by decide) (hdb:(x ==("__debug__":Str))=false:=by decide)
  (he:starEach (e :: es) X.env =(false,eval e X.env) :: starEach es X.env:=by rfl) (hpl:(backTo pos (starEach es X.env)).any (·.1)=false:=by rfl):PE X (.Call (.Name x p) (e :: es) [] pos) (tCB r t):=by
 intro pins s σ H Q I h
 refine wpAny_Call_Name_kw (iE I hg hm hv ?_ hn hdb)
 exact PyProof.Rows.callWith_builtin1 (thn (ha pos pins s σ H _ I h) λ us s1 ⟨vs,H1,I1,r1,q1⟩=>hc pins s1 σ H1 vs us Q I1 r1 q1) he hpl
theorem eV (hc:gG X (.type T) r) (hg:Gl X x) (hm:X.mg x=none) (hv:bootBuiltins x=some (.type T)) (ha:PA X (e :: es) t) (hn:x ≠ "__name__":=by decide) (hdb:(x ==("__debug__":Str))=false:=by decide)
  (he:starEach (e :: es) X.env =(false,eval e X.env) :: starEach es X.env:=by rfl) (hpl:(backTo pos (starEach es X.env)).any (·.1)=false:=by rfl):PE X (.Call (.Name x p) (e :: es) [] pos) (tCB r t):=by
 intro pins s σ H Q I h
 refine wpAny_Call_Name_kw (iE I hg hm hv ?_ hn hdb)
 exact PyProof.Rows.callWith_type1 (thn (ha pos pins s σ H _ I h) λ us s1 ⟨vs,H1,I1,r1,q1⟩=>hc pins s1 σ H1 vs us Q I1 r1 q1) he hpl
end
end L2
namespace HT
open PySem PyProof.Rows
section
variable {prog:Program} {w:World} {A:Around} {E:Value->Shared->Prop} {s:Shared}
theorem LK {t b:Addr} {vs ws:List Value} {Q:Value->Shared->Prop} (ht:IsTup s.heap t vs.toArray) (hb:IsTup s.heap b ws.toArray) (hv:vs ≠ [])
  (h1:ws = []->Q (.ref t) s) (h2:ws ≠ []->Q (.ref s.heap.objs.size) { s with heap:=s.heap.push { cls:=.type "tuple",data:=.seq (vs ++ ws).toArray } })
  (hsz:vs.length + ws.length ≤ sizeLine):wpAny (model prog w) A (binaryOp .Add (.ref t) (.ref b)) Q E s:=by
 obtain⟨⟨cls,dd,data,sl⟩,ho,hc,n,hd⟩:=id ht
 obtain⟨⟨cls2,dd2,data2,sl2⟩,ho2,hc2,n2,hd2⟩:=id hb
 simp only at hc hd hc2 hd2
 subst hc hd hc2 hd2
 have e:vs.toArray ++ ws.toArray =(vs ++ ws).toArray:=by simp
 by_cases hw:ws = []
 ·exact concat_meets ⟨_,ho,rfl⟩ ⟨_,ho2,rfl⟩ noFill_tuple_add seq_tuple_add PySem.F.slot_tuple_add PySem.F.entry_tuple_add (PySem.F.args_tuple_add_2 _ _)
   (tuple_addW1 t b vs.toArray ws.toArray n n2 dd dd2 sl sl2 (by simpa using hv) (by simp [hw])) ⟨ho,ho2,h1 hw⟩
 ·refine concat_meets ⟨_,ho,rfl⟩ ⟨_,ho2,rfl⟩ noFill_tuple_add seq_tuple_add PySem.F.slot_tuple_add PySem.F.entry_tuple_add (PySem.F.args_tuple_add_2 _ _)
   (tuple_addW2 t b vs.toArray ws.toArray n n2 dd dd2 sl sl2 (by simpa using hv) (by simpa using hw) (by rw [List.size_toArray,List.size_toArray];exact hsz)) ⟨ho,ho2,?_⟩
  rw [e]
  exact h2 hw
def sIx (n d:Nat):Option Int->Nat
 | none=>d
 | some v=>if v < 0 then(v +(n:Int)).toNat else min v.toNat n
theorem DY (n d k:Nat):sIx n d (some (k:Int))=min k n:=by
 show(if (k:Int) < 0 then((k:Int) +(n:Int)).toNat else min (k:Int).toNat n)=min k n
 rw [if_neg (by omega),Int.toNat_natCast]
end
end HT
namespace L2
open PySem PySem.Spec PyProof.Rows
abbrev TO:=St->Hp->(Option Int->Hp->Prop)->Prop
def PO (X:Cx) (e:Option Expr) (t:TO):Prop :=
 ∀(pins:List (Addr × Obj)) (s:Shared) (σ:St) (H:Hp) (Q:Option Int->Hp->Prop),Inv X pins σ H s->t σ H Q →
  wpAny (model X.prog X.w) X.A (evalPart e X.env) (λ u s'=>∃ o H',Inv X pins σ H' s' /\ IsPart u o /\ Q o H') X.xe s
def LZ:TO:=λ _ H Q=>Q none H
def Ov (t:TE):TO:=λ σ H Q=>t σ H λ x H1=>∃ i,x = .int i /\ Q (some i) H1
theorem intsAre_of {ns:List Int}:∀ {us:List Value},Vals (ns.map V.int) us->IntsAre us ns:=by
 induction ns with
 | nil=>intro us r;rw [List.map_nil] at r;cases r;exact .nil
 | cons n ns ih =>
  intro us r
  rw [List.map_cons] at r
  cases r with
  | cons r1 r2 =>
   obtain⟨t,e⟩:=r1
   subst e
   exact .cons n t (ih r2)
section
variable {X:Cx} {e:Expr} {te:TE} {lo hi:Option Expr} {tl th:TO} {pos p2:Pos}
theorem DP:PO X none LZ:=by
 intro pins s σ H Q I h
 rw [evalPart_none]
 exact wpAny_pure ⟨none,H,I,.none,h⟩
theorem uY (h:PE X e te):PO X (some e) (Ov te):=by
 intro pins s σ H Q I hw
 rw [evalPart_some]
 refine thn (h pins s σ H _ I hw) λ u s1 ⟨x,H1,I1,r1,q1⟩=>?_
 obtain⟨i,rfl,q⟩:=q1
 obtain⟨t,rfl⟩:=r1
 exact⟨some i,H1,I1,.int i t,q⟩
def SlR (X:Cx) (r:V->Option Int->Option Int->Hp->VK->Prop):Prop :=
 ∀(pins:List (Addr × Obj)) (s:Shared) (σ:St) (H:Hp) (x:V) (v vl vu:Value) (lo hi:Option Int) (sl:Addr) (Q:VK),Inv X pins σ H s->RelV x v->s.heap.IsSliceOf sl vl vu .none->IsPart vl lo->IsPart vu hi->r x lo hi H Q →
  ∃ T id,typeLookup (.type T) "__getitem__" = pure (some (.builtin id)) /\ s.TypeIs v T /\ wpAny (model X.prog X.w) X.A (getItem v (.ref sl)) (EP X pins σ Q) X.xe s
def tSl (r:V->Option Int->Option Int->Hp->VK->Prop) (te:TE) (tl th:TO):TE:=λ σ H Q=>te σ H λ x H1=>tl σ H1 λ l H2=>th σ H2 λ u H3=>r x l u H3 Q
theorem xH {r:V->Option Int->Option Int->Hp->VK->Prop} (hr:SlR X r) (he:PE X e te) (hl:PO X lo tl) (hu:PO X hi th):PE X (.Subscript e (.Slice lo hi none p2) pos) (tSl r te tl th):=by
 intro pins s σ H Q I h
 refine Subscript_ (thn (he pins s σ H _ I h) λ v s1 ⟨x,H1,I1,r1,q1⟩=>?_)
 refine wpAny_Slice (thn (hl pins s1 σ H1 _ I1 q1) λ vl s2 ⟨l,H2,I2,pl,q2⟩=>thn (hu pins s2 σ H2 _ I2 q2) λ vu s3 ⟨u,H3,I3,pu,q3⟩=>?_)
 rw [evalPart_none]
 refine wpAny_pure ?_
 have I4:Inv X pins σ H3 { s3 with heap:=s3.heap.push { cls:=.type "slice",data:=.fields #[vl,vu,.none] } }:=I3.kept (t':=s3.toks) λ b ob q=>Heap.get?_push_of_some _ q
 obtain⟨T,id,hT,ht,hg⟩:=hr pins { s3 with heap:=s3.heap.push { cls:=.type "slice",data:=.fields #[vl,vu,.none] } } σ H3 x v vl vu l u s3.heap.objs.size Q I4 r1 (Heap.IsSliceOf.new ..) pl pu q3
 show wpAny (model X.prog X.w) X.A (subscriptTail e (.Slice lo hi none p2) v (.ref s3.heap.objs.size)) (EP X pins σ Q) X.xe { s3 with heap:=s3.heap.push { cls:=.type "slice",data:=.fields #[vl,vu,.none] } }
 exact tail_any (ops:=[.ref s3.heap.objs.size,v]) ht hT hg (by with_unfolding_all rfl)
def j8 (xs:List V) (lo hi:Option Int):List V:=(xs.drop (HT.sIx xs.length 0 lo)).take (HT.sIx xs.length xs.length hi - HT.sIx xs.length 0 lo)
theorem Dv (xs:List V) (lo hi:Option Int):(j8 xs lo hi).length ≤ xs.length:=by
 unfold j8
 rw [List.length_take,List.length_drop]
 omega
def Og (K:PySem.W.Frag):R2:=λ x y H Q=>∃ a b xs ys,x = .ref a /\ y = .ref b /\ SqT K H a xs /\ SqT K H b ys /\ xs ≠ [] /\ xs.length + ys.length ≤ sizeLine ∧
 (ys = []->Q (.ref a) H) /\(ys ≠ []->∀ p,H p=none->Q (.ref p) (upd H p (.tup (xs ++ ys))))
theorem Vals.Ad {xs:List V} {us:List Value} (r:Vals xs us):us = [] ↔ xs = []:=by
 cases r with
 | nil=>simp
 | cons _ _=>simp
theorem LR:OpR X (binaryOp .Add) (Og X.K):=by
 intro pins s σ H x y v u Q I rx ry h
 obtain⟨a,b,xs,ys,rfl,rfl,ha,hb,hx,hz,q1,q2⟩:=h
 cases rx
 cases ry
 obtain⟨its,r1,p1,_⟩:=I.tuple ha
 obtain⟨its2,r2,p2,_⟩:=I.tuple hb
 refine HT.LK p1 p2 (λ z=>hx (r1.Ad.mp z)) (λ z=>⟨.ref a,H,I,rfl,q1 (r2.Ad.mp z)⟩) (λ z=>?_) (by rw [← r1.length,← r2.length];exact hz)
 refine⟨.ref s.heap.objs.size,_,I.laid (t':=s.toks) (o:=.tup (xs ++ ys)) (λ b ob q=>Heap.get?_push_of_some _ q) (Nat.le_refl _) ?_,rfl,q2 (λ w=>z (r2.Ad.mpr w)) _ (I.hok.fresh (Nat.le_refl _))⟩
 exact⟨by rw [List.length_append];exact hz,_,r1.append r2,IsTup.new _ _⟩
end
open PySem PySem.Spec PyProof.Rows
def ixN (n:Nat) (i:Int):Option Nat:=if 0 ≤ i then(if i < n then some i.toNat else none) else if -(n:Int) ≤ i then some (i + n).toNat else none
def atI {α:Type} (xs:List α) (i:Int):Option α:=(ixN xs.length i).bind λ j=>xs[j]?
theorem DM {n:Nat} {i:Int} {j:Nat} (h:ixN n i=some j):seqIndex? i n=some j /\ j < n /\ -(n:Int) ≤ i /\ i < n:=by
 unfold ixN at h
 by_cases h0:0 ≤ i
 ·rw [if_pos h0] at h
  by_cases h1:i < n
  ·rw [if_pos h1] at h
   have e:i.toNat=j:=Option.some.inj h
   exact⟨by rw [seqIndex_of h0 h1,e],by omega,by omega,h1⟩
  ·rw [if_neg h1] at h;cases h
 ·rw [if_neg h0] at h
  by_cases h1:-(n:Int) ≤ i
  ·rw [if_pos h1] at h
   have e:(i + n).toNat=j:=Option.some.inj h
   exact⟨by rw [seqIndex_neg (by omega) h1,e],by omega,h1,by omega⟩
  ·rw [if_neg h1] at h;cases h
theorem DN {α:Type} {xs:List α} {i:Int} {v:α} (h:atI xs i=some v):∃ j,seqIndex? i xs.length=some j /\ xs[j]? = some v /\ j < xs.length /\ -(xs.length:Int) ≤ i /\ i < xs.length:=by
 unfold atI at h
 cases e:ixN xs.length i with
 | none=>rw [e] at h;cases h
 | some j =>
  rw [e] at h
  obtain⟨h1,h2,h3,h4⟩:=DM e
  exact⟨j,h1,h,h2,h3,h4⟩
theorem dY {α:Type} {xs:List α} {j:Nat} {v:α} (h:xs[j]? = some v):atI xs (j:Int)=some v:=by
 have hj:j < xs.length:=(List.getElem?_eq_some_iff.mp h).1
 have e:ixN xs.length (j:Int)=some j:=by
  unfold ixN
  rw [if_pos (by omega),if_pos (by omega)];simp
 unfold atI;rw [e];exact h
theorem BU {α:Type} (xs:List α) (v:α):atI (xs ++ [v]) (-1)=some v:=by
 have hl:(xs ++ [v]).length=xs.length + 1:=by simp
 have e:ixN (xs ++ [v]).length (-1)=some xs.length:=by
  unfold ixN
  rw [hl,if_neg (by decide),if_pos (by omega)]
  congr 1
  omega
 unfold atI
 rw [e]
 show(xs ++ [v])[xs.length]? = some v
 simp
def LX (b:Expr):Prop:=∀ o i,subscripted b false o i=operate [o,i] (getItem o i)
def IxR (X:Cx) (r:R2):Prop :=
 ∀(value slice:Expr) (pins:List (Addr × Obj)) (s:Shared) (σ:St) (H:Hp) (x y:V) (v u:Value) (Q:VK),Inv X pins σ H s->RelV x v->RelV y u->r x y H Q →
  subscripted slice false v u=operate [v,u] (getItem v u)->wpAny (model X.prog X.w) X.A (subscriptTail value slice v u) (EP X pins σ Q) X.xe s
def MtR (X:Cx) (id:String) (r:V->List V->Hp->VK->Prop):Prop :=
 ∀(pins:List (Addr × Obj)) (s:Shared) (σ:St) (H:Hp) (x:V) (xs:List V) (v:Value) (us:List Value) (Q:VK),Inv X pins σ H s->RelV x v->Vals xs us->r x xs H Q →
  wpAny (model X.prog X.w) X.A (call (.builtin id) (v :: us)) (EP X pins σ Q) X.xe s
section
variable {X:Cx} {a b:Expr} {ta tb:TE} {pos:Pos}
theorem bz {r:R2} (hr:IxR X r) (ha:PE X a ta) (hb:PE X b tb) (hs:LX b):PE X (.Subscript a b pos) (tOp r ta tb):=by
 intro pins s σ H Q I h
 exact Subscript_ (JM ha hb I h λ v u s2 x y H2 I2 rx ry q=>hr a b pins s2 σ H2 x y v u Q I2 rx ry q (hs _ _))
def JX (K:PySem.W.Frag):R2:=λ x y H Q=>∃ p xs i v,x = .ref p /\ y = .int i /\ SqL K H p xs /\ atI xs i=some v /\ Q v H
def Na (K:PySem.W.Frag):R2:=λ x y H Q=>∃ p xs i v,x = .ref p /\ y = .int i /\ SqT K H p xs /\ atI xs i=some v /\ Q v H
theorem cB:IxR X (JX X.K):=by
 intro value slice pins s σ H x y v u Q I rx ry h hs
 obtain⟨p,xs,i,z,rfl,rfl,hq,he,q⟩:=h
 cases rx
 obtain⟨t,rfl⟩:=ry
 obtain⟨its,r,pl,hz⟩:=I.list hq
 obtain⟨j,h1,h2,h3,h4,h5⟩:=DN he
 obtain⟨w,ew,rw'⟩:=r.get h2
 have hl:=r.length
 have hn:=yf
 have fin:EP X pins σ Q w s:=⟨z,H,I,rw',q⟩
 by_cases h0:0 ≤ i
 ·have hj:i.toNat=j:=by
   rw [seqIndex_of h0 h5] at h1
   exact Option.some.inj h1
  exact item_listR pl.isList h0 (by omega) (by rw [hj];simpa using ew) fin hs
 ·have hj:(i +(its.toArray.size:Int)).toNat=j:=by
   rw [seqIndex_neg (by omega) h4] at h1
   rw [List.size_toArray,← hl]
   exact Option.some.inj h1
  exact subscriptTail_builtinR (x:=w) pl.isList.typeIs slot_list_getitem.lookup
   (wpAny_getItem_list_neg (Q:=λ r s'=>r=w /\ EP X pins σ Q r s') pl.isList (by omega) (by rw [List.size_toArray] <;> omega) (by omega) (by rw [hj];simpa using ew) ⟨rfl,fin⟩) hs
theorem cj:IxR X (Na X.K):=by
 intro value slice pins s σ H x y v u Q I rx ry h hs
 obtain⟨p,xs,i,z,rfl,rfl,hq,he,q⟩:=h
 cases rx
 obtain⟨t,rfl⟩:=ry
 obtain⟨its,r,pl,hz⟩:=I.tuple hq
 obtain⟨j,h1,h2,h3,h4,h5⟩:=DN he
 obtain⟨w,ew,rw'⟩:=r.get h2
 have hl:=r.length
 have hn:=yf
 have fin:EP X pins σ Q w s:=⟨z,H,I,rw',q⟩
 exact subscriptTail_builtinR (x:=w) pl.typeIs slot_tuple_getitem.lookup
  (getItem_tuple (j:=j) (Q:=λ r s'=>r=w /\ EP X pins σ Q r s') pl (by omega) (by omega) (by rw [List.size_toArray,← hl];exact h1) (by simpa using ew) ⟨rfl,fin⟩) hs
theorem Es (its:List Value) (n j:Nat) (u:Value):Obj.mapSeq (·.setIfInBounds j u) { cls:=.type "list",data:=.seq its.toArray n } = { cls:=.type "list",data:=.seq (its.set j u).toArray n }:=by
 simp [Obj.mapSeq]
theorem Inv.lst {pins:List (Addr × Obj)} {σ:St} {H:Hp} {s:Shared} {p:Addr} {xs:List V} (I:Inv X pins σ H s) (h:H p=some (.lst xs)) :
  ∃(its:List Value) (n:Nat),Vals xs its /\ s.heap.get? p=some { cls:=.type "list",data:=.seq its.toArray n } /\ xs.length ≤ sizeLine:=by
 obtain⟨z,its,n,r,e⟩:=I.hok p _ h
 exact⟨its,n,r,e,z⟩
theorem Inv.NJ {pins:List (Addr × Obj)} {σ:St} {H:Hp} {s:Shared} {p:Addr} {xs ys:List V} {its its':List Value} {n n':Nat} {f:Obj->Obj} (I:Inv X pins σ H s) (h:H p=some (.lst xs))
  (ho:s.heap.get? p=some { cls:=.type "list",data:=.seq its.toArray n }) (hf:f { cls:=.type "list",data:=.seq its.toArray n } = { cls:=.type "list",data:=.seq its'.toArray n' }) (r:Vals ys its') (hz:ys.length ≤ sizeLine) (t:Nat) :
  Inv X pins σ (upd H p (.lst ys)) { s with heap:=s.heap.update p f,toks:=t }:=by
 have e:(s.heap.update p f).get? p=some { cls:=.type "list",data:=.seq its'.toArray n' }:=by
  rw [Heap.get?_update_self f ho (by rw [hf] <;> rfl),hf]
 refine I.write (x:=p) (e:=p) (by rw [h];trivial) (.inl rfl) (λ b u hb q=>(Heap.get?_update_other _ _ (Ne.symm hb)).trans q) ⟨_,e⟩ ?_
 exact⟨hz,its',n',r,e⟩
def Ox:V->V->V->Hp->(Hp->Prop)->Prop:=λ o i v H Q=>∃ p xs k j,o = .ref p /\ i = .int k /\ H p=some (.lst xs) /\ ixN xs.length k=some j /\ Q (upd H p (.lst (xs.set j v)))
theorem set_list:NG X Ox:=by
 intro pins s σ H o i v ov iv u Q I ro ri rv h
 obtain⟨p,xs,k,j,rfl,rfl,hp,hj,q⟩:=h
 cases ro
 obtain⟨t,rfl⟩:=ri
 obtain⟨its,n,r,ho,hz⟩:=I.lst hp
 obtain⟨h1,h2,h3,h4⟩:=DM hj
 have hl:=r.length
 have hn:=yf
 have I':Inv X pins σ (upd H p (.lst (xs.set j v))) { s with heap:=s.heap.update p (Obj.mapSeq (·.setIfInBounds j u)) } :=
  I.NJ hp ho (Es its n j u) (r.set rv j) (by rw [List.length_set];exact hz) s.toks
 by_cases h0:0 ≤ k
 ·have hk:k.toNat=j:=by
   rw [seqIndex_of h0 h4] at h1
   exact Option.some.inj h1
  exact PySem.W.ki_setAt ho h0 (by omega) (by rw [List.size_toArray,← hl];exact h4) (by rw [hk];exact⟨_,I',q⟩)
 ·have hk:(k +(its.toArray.size:Int)).toNat=j:=by
   rw [seqIndex_neg (by omega) h3] at h1
   rw [List.size_toArray,← hl]
   exact Option.some.inj h1
  exact PySem.W.ki_setBack ho (by omega) (by rw [List.size_toArray,← hl];exact h3) (by omega) (by rw [hk];exact⟨_,I',q⟩)
theorem Cj (lo hi:Option Int) (n:Nat):(sliceBounds lo hi none n).1 =((HT.sIx n 0 lo:Nat):Int) /\(sliceBounds lo hi none n).2.1 =((HT.sIx n n hi:Nat):Int) /\(sliceBounds lo hi none n).2.2=1:=by
 refine⟨?_,?_,rfl⟩
 ·cases lo with
  | none=>simp [sliceBounds,HT.sIx]
  | some i =>
   simp only [sliceBounds,HT.sIx,Option.getD_none,show(1:Int) > 0 by decide,if_true]
   by_cases h:i < 0
   ·simp only [h,if_true] <;> omega
   ·simp only [h,if_false] <;> omega
 ·cases hi with
  | none=>simp [sliceBounds,HT.sIx]
  | some i =>
   simp only [sliceBounds,HT.sIx,Option.getD_none,show(1:Int) > 0 by decide,if_true]
   by_cases h:i < 0
   ·simp only [h,if_true] <;> omega
   ·simp only [h,if_false] <;> omega
theorem Bb (its:List Value) (lo hi:Option Int):slicePick its.toArray lo hi none =((its.drop (HT.sIx its.length 0 lo)).take (HT.sIx its.length its.length hi - HT.sIx its.length 0 lo)).toArray:=by
 obtain⟨h1,h2,h3⟩:=Cj lo hi its.toArray.size
 unfold slicePick
 rw [h1,h2,h3]
 simp only [sliceRange_one,pick_run,List.size_toArray] <;> rfl
def ON (K:PySem.W.Frag):V->Option Int->Option Int->Hp->VK->Prop:=λ x lo hi H Q=>∃ a xs,x = .ref a /\ SqL K H a xs /\ ∀ p,H p=none->Q (.ref p) (upd H p (.lst (j8 xs lo hi)))
theorem z8:SlR X (ON X.K):=by
 intro pins s σ H x v vl vu lo hi sl Q I rx hs pl pu h
 obtain⟨a,xs,rfl,hx,q⟩:=h
 cases rx
 obtain⟨its,r,ht,hz⟩:=I.list hx
 have hlen:=r.length
 refine⟨"list",_,slot_list_getitem.lookup,ht.isList.typeIs,?_⟩
 refine wpAny_getItem_list_slice ht.isList hs pl pu .none (by simp) ?_ (by rw [List.size_toArray] <;> omega)
 rw [Bb,← hlen]
 refine⟨.ref s.heap.objs.size,_,I.laid (t':=s.toks) (o:=.lst (j8 xs lo hi)) (λ b ob q=>Heap.get?_push_of_some _ q) (Nat.le_refl _) ?_,rfl,q _ (I.hok.fresh (Nat.le_refl _))⟩
 exact⟨Nat.le_trans (Dv xs lo hi) hz,_,0,(r.drop (HT.sIx xs.length 0 lo)).take (HT.sIx xs.length xs.length hi - HT.sIx xs.length 0 lo),Heap.get?_push_size _ rfl⟩
def iM:V->Bool
 | .non=>true
 | .bl _=>true
 | .int _=>true
 | .str _=>true
 | _=>false
def eqV:V->V->Bool
 | .non,.non=>true
 | .bl a,.bl b=>a == b
 | .bl a,.int b=>(if a then 1 else 0) == b
 | .int a,.bl b=>a ==(if b then 1 else 0)
 | .int a,.int b=>a == b
 | .str a,.str b=>a == b
 | _,_=>false
theorem IE {A:Around} {s:Shared} {y x:V} {u v:Value} (ry:RelV y u) (rx:RelV x v) (fy:iM y=true) (fx:iM x=true):SeqAt.EqAt A s u v (eqV y x):=by
 cases y with
 | non =>
  cases ry
  cases x with
  | non=>cases rx;exact SeqAt.EqAt.same _
  | bl b=>cases rx;exact SeqAt.EqAt.none_bool b
  | int b=>obtain⟨t,rfl⟩:=rx;exact SeqAt.EqAt.none_int b t
  | str b=>obtain⟨t,rfl⟩:=rx;exact SeqAt.EqAt.none_str b t
  | _=>exact absurd (show false=true from fx) Bool.false_ne_true
 | bl a =>
  cases ry
  cases x with
  | non=>cases rx;exact SeqAt.EqAt.bool_none a
  | bl b=>cases rx;exact SeqAt.EqAt.bool_bool a b
  | int b=>obtain⟨t,rfl⟩:=rx;exact SeqAt.EqAt.bool_int a b t
  | str b=>obtain⟨t,rfl⟩:=rx;exact SeqAt.EqAt.bool_str a b t
  | _=>exact absurd (show false=true from fx) Bool.false_ne_true
 | int a =>
  obtain⟨t',rfl⟩:=ry
  cases x with
  | non=>cases rx;exact SeqAt.EqAt.int_none a t'
  | bl b=>cases rx;exact SeqAt.EqAt.int_bool a t' b
  | int b=>obtain⟨t,rfl⟩:=rx;exact SeqAt.EqAt.int_int a t' b t
  | str b=>obtain⟨t,rfl⟩:=rx;exact SeqAt.EqAt.int_str a t' b t
  | _=>exact absurd (show false=true from fx) Bool.false_ne_true
 | str a =>
  obtain⟨t',rfl⟩:=ry
  cases x with
  | non=>cases rx;exact SeqAt.EqAt.str_none a t'
  | bl b=>cases rx;exact SeqAt.EqAt.str_bool a t' b
  | int b=>obtain⟨t,rfl⟩:=rx;exact SeqAt.EqAt.str_int a t' b t
  | str b=>obtain⟨t,rfl⟩:=rx;exact SeqAt.EqAt.str_str a t' b t
  | _=>exact absurd (show false=true from fx) Bool.false_ne_true
 | _=>exact absurd (show false=true from fy) Bool.false_ne_true
def eqU (x:V) (u:Value):Bool:=match u with
 | .none=>eqV .non x
 | .bool b=>eqV (.bl b) x
 | .int i _=>eqV (.int i) x
 | .str z _=>eqV (.str z) x
 | _=>false
theorem Im {x y:V} {u:Value} (r:RelV y u) (f:iM y=true):eqU x u=eqV y x:=by
 cases y with
 | non=>cases r;rfl
 | bl b=>cases r;rfl
 | int i=>obtain⟨t,rfl⟩:=r;rfl
 | str z=>obtain⟨t,rfl⟩:=r;rfl
 | _=>exact absurd (show false=true from f) Bool.false_ne_true
theorem yQ {x:V}:∀ {xs:List V} {us:List Value},Vals xs us->xs.all iM=true->us.any (eqU x)=xs.any λ y=>eqV y x
 | _,_,.nil,_=>rfl
 | y :: xs,u :: us,.cons r t,f=>by
  rw [List.all_cons,Bool.and_eq_true] at f
  rw [List.any_cons,List.any_cons,Im r f.1,yQ t f.2]
theorem vO {A:Around} {s:Shared} {x:V} {v:Value} (rx:RelV x v) (fx:iM x=true):∀ {xs:List V} {us:List Value},Vals xs us->xs.all iM=true->∀ u ∈ us,SeqAt.EqAt A s u v (eqU x u)
 | _,_,.nil,_=>λ u hu=>by cases hu
 | y :: xs,u :: us,.cons r t,f=>λ u' hu=>by
  rw [List.all_cons,Bool.and_eq_true] at f
  rcases List.mem_cons.mp hu with rfl | hu
  ·rw [Im r f.1];exact IE r rx f.1 fx
  ·exact vO rx fx t f.2 u' hu
def inV (x:V) (xs:List V):Bool:=xs.any λ y=>eqV y x
def rIn (K:PySem.W.Frag) (neg:Bool):R2:=λ x y H Q=>∃ p xs,y = .ref p /\(SqL K H p xs ∨ SqT K H p xs) /\ iM x=true /\ xs.all iM=true /\ Q (.bl (if neg then !inV x xs else inV x xs)) H
theorem tP:OpR X (compareOp .NotIn) (rIn X.K true):=by
 intro pins s σ H x y v u Q I rx ry h
 obtain⟨p,xs,rfl,hq,fx,fs,q⟩:=h
 cases ry
 rcases hq with hq | hq
 ·obtain⟨its,r,pl,hz⟩:=I.list hq
  refine SeqAt.notIn_listAt (eqU x) pl.isList (λ w hw=>vO rx fx r fs w (by simpa using hw)) ⟨.bl _,H,I,rfl,?_⟩
  rw [show its.toArray.any (eqU x)=its.any (eqU x) by simp,yQ r fs]
  exact q
 ·obtain⟨its,r,pl,hz⟩:=I.tuple hq
  refine SeqAt.notIn_tupleAt (eqU x) pl (λ w hw=>vO rx fx r fs w (by simpa using hw)) ⟨.bl _,H,I,rfl,?_⟩
  rw [show its.toArray.any (eqU x)=its.any (eqU x) by simp,yQ r fs]
  exact q
theorem bK:gG X (.builtin "len") (λ xs H Q=>∃ p ys,xs = [.ref p] /\(SqL X.K H p ys ∨ SqT X.K H p ys) /\ Q (.int ys.length) H):=by
 intro pins s σ H xs us Q I r h
 obtain⟨p,ys,rfl,hq,q⟩:=h
 obtain⟨u,rfl,rx⟩:=vals1 r
 cases rx
 have hn:=yf
 rcases hq with hq | hq
 ·obtain⟨its,r',pl,hz⟩:=I.list hq
  have hlen:=r'.length
  exact Calls.call_len_list pl.isList (by simp only [List.size_toArray] <;> omega) ⟨.int ys.length,H,I.tok _,⟨s.toks + 1,by rw [List.size_toArray,hlen]⟩,q⟩
 ·obtain⟨its,r',pl,hz⟩:=I.tuple hq
  have hlen:=r'.length
  exact len_tuple pl (by simp only [List.size_toArray] <;> omega) ⟨.int ys.length,H,I.tok _,⟨s.toks + 1,by rw [List.size_toArray,hlen]⟩,q⟩
theorem mj:gG X (.type "list") (λ xs H Q=>∃ p ys,xs = [.ref p] /\(SqL X.K H p ys ∨ SqT X.K H p ys) /\ ∀ l,H l=none->Q (.ref l) (upd H l (.lst ys))):=by
 intro pins s σ H xs us Q I r h
 obtain⟨p,ys,rfl,hq,q⟩:=h
 obtain⟨u,rfl,rx⟩:=vals1 r
 cases rx
 have fin:∀(its:List Value),Vals ys its->ys.length ≤ sizeLine->∀(h':Heap) (c':Nat),(∀ b o',s.heap.get? b=some o'->h'.get? b=some o') →
   h'.get? s.heap.objs.size=some { cls:=.type "list",dict:=none,data:=.seq its.toArray c',slots:=#[] }->EP X pins σ Q (.ref s.heap.objs.size) { s with heap:=h' }:=λ its r' hz h' c' kp e =>
  ⟨.ref s.heap.objs.size,_,I.laid (t':=s.toks) kp (Nat.le_refl _) (show bF X.prog X.w _ h' _ (.lst ys) from⟨hz,its,c',r',e⟩),rfl,q _ (I.hok.fresh (Nat.le_refl _))⟩
 rcases hq with hq | hq
 ·obtain⟨its,r',pl,hz⟩:=I.list hq
  have hlen:=r'.length
  obtain⟨o,ho,hc,n,hd⟩:=pl.isList
  exact call_list_seq p (.inl rfl) ho hc hd (λ h' c' kp e=>fin its r' hz h' c' kp e) (by simp only [List.size_toArray] <;> omega)
 ·obtain⟨its,r',pl,hz⟩:=I.tuple hq
  have hlen:=r'.length
  obtain⟨o,ho,hc,n,hd⟩:=pl
  exact call_list_seq p (.inr rfl) ho hc hd (λ h' c' kp e=>fin its r' hz h' c' kp e) (by simp only [List.size_toArray] <;> omega)
def tyV (K:PySem.W.Frag) (T:String) (x:V) (H:Hp):Prop:=match x with
 | .str _=>T = "str"
 | .int _=>T = "int"
 | .ref p=>(T = "list" /\ ∃ xs,SqL K H p xs) ∨(T = "tuple" /\ ∃ o,K.lookup p=some o /\ o.cls = .type "tuple" /\ o.dict=none) ∨
   (T = "dict" /\((∃ kvs,H p=some (.dK kvs)) ∨ ∃ kvs,H p=some (.dT kvs))) ∨(T = "set" /\ ∃ S n,H p=some (.set S n))
 | _=>False
theorem MP {pins:List (Addr × Obj)} {σ:St} {H:Hp} {s:Shared} {T:String} {x:V} {v:Value} (I:Inv X pins σ H s) (r:RelV x v) (ty:tyV X.K T x H) :
  s.TypeIs v T /\ ∀ a,v = .ref a->∃ ob,s.heap.get? a=some ob /\ ob.dict=none:=by
 cases x with
 | str z =>
  obtain⟨t,rfl⟩:=r
  cases (show T = "str" from ty)
  exact⟨typeIs_str s z t,λ _ e=>nomatch e⟩
 | int i =>
  obtain⟨t,rfl⟩:=r
  cases (show T = "int" from ty)
  exact⟨typeIs_int s i t,λ _ e=>nomatch e⟩
 | ref p =>
  cases r
  rcases ty with⟨rfl,xs,hq⟩ |⟨rfl,o,hk,hc,hd⟩ |⟨rfl,hk⟩ |⟨rfl,S,n,hk⟩
  ·obtain⟨its,_,pl,_⟩:=I.list hq
   refine⟨pl.isList.typeIs,λ a e=>?_⟩
   cases e
   obtain⟨o,n,e,c,hd,_⟩:=pl
   exact⟨o,e,hd⟩
  ·refine⟨⟨o,I.kIn p o hk,hc⟩,λ a e=>?_⟩
   cases e
   exact⟨o,I.kIn _ o hk,hd⟩
  ·have z:∃ o,s.heap.get? p=some o /\ o.ExactDict:=by
    rcases hk with⟨kvs,hk⟩ |⟨kvs,hk⟩
    ·obtain⟨_,_,_,_,o,_,_,e,ex,_⟩:=I.hok p _ hk
     exact⟨o,e,ex⟩
    ·obtain⟨_,_,_,_,o,_,_,e,ex,_⟩:=I.hok p _ hk
     exact⟨o,e,ex⟩
   obtain⟨o,e,ex⟩:=z
   refine⟨⟨o,e,ex.1⟩,λ a e2=>?_⟩
   cases e2
   exact⟨o,e,ex.2.1⟩
  ·obtain⟨o,_,_,_,e,ex,_⟩:=I.hok p _ hk
   refine⟨⟨o,e,ex.1⟩,λ a e2=>?_⟩
   cases e2
   exact⟨o,e,ex.2.1⟩
 | _=>exact False.elim ty
def tBM (K:PySem.W.Frag) (T:String) (r:V->List V->Hp->VK->Prop) (to:TE) (t:TA):TE:=λ σ H Q=>to σ H λ x H1=>tyV K T x H1 /\ t σ H1 λ xs H2=>r x xs H2 Q
variable {o e:Expr} {es:List Expr} {to:TE} {t:TA} {name:Str} {apos cpos:Pos} {T id:String} {r:V->List V->Hp->VK->Prop}
theorem rL (pa:PlainAttrs T) (slot:Slot T name id) (hty:typeOf (.builtin id)=pure (.type "method_descriptor")) (hm:MtR X id r) (ho:PE X o to) (ha:PA X (e :: es) t)
  (hbase:attributeBase o name X.env (eval o X.env)=eval o X.env:=by rfl)
  (hfew:((backTo cpos (starEach (e :: es) X.env)).all (λ x=>!x.1) &&(backToKw cpos (keywordEach [] X.env)).all (λ x=>x.1.isSome)
   && decide ((e :: es).length +([]:List Keyword).length +(if ([]:List Keyword).isEmpty then 0 else 1) < 30))=true:=by rfl)
  (hline:(apos.endLine == cpos.line)=true:=by rfl) (hs:starEach (e :: es) X.env =(false,eval e X.env) :: starEach es X.env:=by rfl) (hplain:(backTo cpos (starEach es X.env)).any (·.1)=false:=by rfl) :
  PE X (.Call (.Attribute o name apos) (e :: es) [] cpos) (tBM X.K T r to t):=by
 intro pins s σ H Q I h
 refine wpAny_Call_method_late hbase hfew hline rfl (thn (ho pins s σ H _ I h) λ v s1 ⟨x,H1,I1,r1,ty,q1⟩=>?_)
 obtain⟨h1,h2⟩:=MP I1 r1 ty
 refine⟨T,id,pa,slot,hty,h1,h2,?_⟩
 have hA:=ha cpos pins s1 σ H1 _ I1 q1
 rw [hs] at hA ⊢
 refine Calls.callWith_builtin (by show(false ||(backTo cpos (starEach es X.env)).any (·.1))=false;rw [hplain] <;> rfl) (Calls.evalArgs_plain ?_)
 exact thn hA λ us s2 ⟨vs,H2,I2,r2,q2⟩=>hm pins s2 σ H2 x vs v us Q I2 r1 r2 q2
/- xs.append(e),list.index on a module's tuple .. are MtR facts of 06m -/
end
open PySem PySem.Spec PyProof.Rows
def MtM (X:Cx) (id:String) (r:V->List V->Hp->VK->Prop):Prop :=
 ∀(pins:List (Addr × Obj)) (s:Shared) (σ:St) (H:Hp) (x:V) (xs:List V) (v:Value) (us:List Value) (Q:VK),Inv X pins σ H s->RelV x v->Vals xs us->r x xs H Q →
  wpAny (model X.prog X.w) X.A (call (.builtin id) (v :: us)) (EP X pins σ Q) X.xe s
theorem Vals.one:∀ {x:V} {us:List Value},Vals [x] us->∃ u,us = [u] /\ RelV x u
 | _,_,.cons r .nil=>⟨_,rfl,r⟩
theorem Vals.reverse {xs:List V} {us:List Value} (h:Vals xs us):Vals xs.reverse us.reverse:=by
 induction h with
 | nil=>exact .nil
 | cons r t ih=>rw [List.reverse_cons,List.reverse_cons];exact Vals.append ih (.cons r .nil)
theorem Vals.rep {xs:List V} {us:List Value} (h:Vals xs us):∀ k:Nat,Vals (List.replicate k xs).flatten (List.replicate k us).flatten
 | 0=>.nil
 | k + 1=>by
  rw [List.replicate_succ,List.replicate_succ,List.flatten_cons,List.flatten_cons]
  exact Vals.append h (Vals.rep h k)
theorem foldl_rep (its:List Value):∀(k:Nat) (acc:List Value),
  List.foldl (λ x1 x2=>x1 ++ x2) acc.toArray (List.replicate k its.toArray) =(acc ++(List.replicate k its).flatten).toArray
 | 0,acc=>by simp
 | k + 1,acc=>by
  have e:acc.toArray ++ its.toArray =(acc ++ its).toArray:=by simp
  have e2:(acc ++ its) ++(List.replicate k its).flatten=acc ++(List.replicate (k + 1) its).flatten:=by
   rw [List.replicate_succ,List.flatten_cons,List.append_assoc]
  rw [← e2,← foldl_rep its k (acc ++ its),← e,List.replicate_succ,List.foldl_cons]
section
variable {X:Cx} {pins:List (Addr × Obj)} {σ:St} {H:Hp} {s:Shared} {l b:Addr} {xs ys zs:List V}
theorem Inv.K7 {its its':List Value} {n:Nat} {f:Array Value->Array Value} {t':Nat} (I:Inv X pins σ H s) (hH:H l=some (.lst xs))
  (e:s.heap.get? l=some { cls:=.type "list",data:=.seq its.toArray n }) (hf:f its.toArray=its'.toArray) (hv:Vals ys its') (hz:ys.length ≤ sizeLine) :
  Inv X pins σ (upd H l (.lst ys)) { s with heap:=s.heap.update l (Obj.mapSeq f),toks:=t' }:=by
 have q:=PySem.IsL.update e f
 rw [hf] at q
 refine I.write (x:=l) (e:=l) (by rw [hH];exact trivial) (.inl rfl) (λ b' u hb hu=>(Heap.get?_update_other s.heap (Obj.mapSeq f) (Ne.symm hb)).trans hu) ⟨_,q⟩ ?_
 exact⟨hz,its',_,hv,q⟩
theorem Inv.Mm {its:List Value} {t':Nat} (I:Inv X pins σ H s) (hv:Vals ys its) (hz:ys.length ≤ sizeLine) :
  Inv X pins σ (upd H s.heap.objs.size (.lst ys)) { s with heap:=s.heap.push { cls:=.type "list",data:=.seq its.toArray },toks:=t' } :=
 I.laid (λ _ _ q=>Heap.get?_push_of_some _ q) (Nat.le_refl _) ⟨hz,its,0,hv,Heap.get?_push_size _ rfl⟩
theorem Inv.fresh (I:Inv X pins σ H s):H s.heap.objs.size=none:=I.hok.fresh (Nat.le_refl _)
theorem Inv.xU (I:Inv X pins σ H s) (hH:H l=some (.lst xs)):xs.length ≤ sizeLine /\ ∃(its:List Value) (n:Nat),Vals xs its /\ xs.length=its.length /\ s.heap.get? l=some { cls:=.type "list",data:=.seq its.toArray n }:=by
 obtain⟨z,its,n,r,e⟩:=I.hok l _ hH
 exact⟨z,its,n,r,r.length,e⟩
theorem B6 {n:Nat} (h:n ≤ sizeLine):Builtin.List.listTooLong n=false:=by
 unfold Builtin.List.listTooLong
 exact decide_eq_false (by omega)
end
section
variable {X:Cx}
def ve:V->List V->Hp->VK->Prop:=λ x vs H Q=>∃ l xs y,x = .ref l /\ vs = [y] /\ H l=some (.lst xs) /\ xs.length < sizeLine /\ Q .non (upd H l (.lst (xs ++ [y])))
theorem g8:MtM X "list.append" ve:=by
 intro pins s σ H x vs v us Q I rx rv h
 obtain⟨l,xs,y,rfl,rfl,hH,hz,q⟩:=h
 cases rx
 obtain⟨u,rfl,ru⟩:=rv.one
 obtain⟨z,its,n,r,hl,e⟩:=I.xU hH
 refine call_meets F.slot_list_append ⟨_,e,rfl⟩ F.entry_list_append (F.args_list_append_2 _ _) (PySem.list_append l its.toArray n u (by rw [List.size_toArray];omega)) ⟨e,?_⟩
 refine⟨.non,_,I.K7 (its':=its ++ [u]) hH e (by simp) (r.append (.cons ru .nil)) ?_,rfl,q⟩
 rw [List.length_append,List.length_singleton]
 omega
def LP:V->List V->Hp->VK->Prop:=λ x vs H Q=>∃ l b xs zs,x = .ref l /\ vs = [.ref b] /\ H l=some (.lst xs) /\ H b=some (.lst zs) /\ xs.length + zs.length ≤ sizeLine /\ Q .non (upd H l (.lst (xs ++ zs)))
theorem Hz:MtM X "list.extend" LP:=by
 intro pins s σ H x vs v us Q I rx rv h
 obtain⟨l,b,xs,zs,rfl,rfl,hH,hB,hz,q⟩:=h
 cases rx
 obtain⟨u,rfl,ru⟩:=rv.one
 cases ru
 obtain⟨z,its,n,r,hl,e⟩:=I.xU hH
 obtain⟨z2,its2,n2,r2,hl2,e2⟩:=I.xU hB
 have hsz:its.toArray.size + its2.toArray.size ≤ sizeLine:=by rw [List.size_toArray,List.size_toArray];omega
 have hlong:¬(!its.toArray.isEmpty && Builtin.List.listTooLong (its.toArray.size + its2.toArray.size))=true:=by
  rw [B6 hsz,Bool.and_false]
  exact Bool.false_ne_true
 refine call_meets F.slot_list_extend ⟨_,e,rfl⟩ F.entry_list_extend (F.args_list_extend_2 _ _)
  (AutoSeq1.list_extend_list_list_0 l its.toArray n b its2.toArray n2 hlong (by rw [List.size_toArray];omega) (by omega)) ⟨e,e2,?_⟩
 refine⟨.non,_,I.K7 (its':=its ++ its2) hH e (by simp) (r.append r2) ?_,rfl,q⟩
 rw [List.length_append]
 omega
def O9:R2:=λ x y H Q=>∃ l b xs zs,x = .ref l /\ y = .ref b /\ H l=some (.lst xs) /\ H b=some (.lst zs) /\ xs.length + zs.length ≤ sizeLine /\ ∀ p,H p=none->Q (.ref p) (upd H p (.lst (xs ++ zs)))
theorem Bq:OpR X (binaryOp .Add) O9:=by
 intro pins s σ H x y v u Q I rx ry h
 obtain⟨l,b,xs,zs,rfl,rfl,hH,hB,hz,q⟩:=h
 cases rx
 cases ry
 obtain⟨z,its,n,r,hl,e⟩:=I.xU hH
 obtain⟨z2,its2,n2,r2,hl2,e2⟩:=I.xU hB
 refine PySem.P.add_list e e2 ?_ (by rw [List.size_toArray,List.size_toArray];omega)
 have ea:its.toArray ++ its2.toArray =(its ++ its2).toArray:=by simp
 rw [ea]
 exact⟨.ref _,_,I.Mm (t':=s.toks) (r.append r2) (by rw [List.length_append];omega),rfl,q _ I.fresh⟩
def OS:R2:=λ x y H Q=>∃ l k xs,x = .ref l /\ y = .int k /\ H l=some (.lst xs) /\ -(2 ^ 63) ≤ k /\ k < 2 ^ 63 /\ xs.length * k.toNat ≤ sizeLine ∧
 ∀ p,H p=none->Q (.ref p) (upd H p (.lst (List.replicate k.toNat xs).flatten))
theorem len_rep {α:Type} (xs:List α) (k:Nat):(List.replicate k xs).flatten.length=k * xs.length:=by
 induction k with
 | zero=>simp
 | succ k ih=>rw [List.replicate_succ,List.flatten_cons,List.length_append,ih,Nat.succ_mul,Nat.add_comm]
theorem MU:OpR X (binaryOp .Mult) OS:=by
 intro pins s σ H x y v u Q I rx ry h
 obtain⟨l,k,xs,rfl,rfl,hH,h1,h2,hz,q⟩:=h
 cases rx
 obtain⟨t,rfl⟩:=ry
 obtain⟨z,its,n,r,hl,e⟩:=I.xU hH
 have hlen:its.toArray.size * k.toNat ≤ sizeLine:=by rw [List.size_toArray,← hl];exact hz
 have hcap:¬ its.toArray.size * k.toNat >(2 ^ 63 - 1) / 8:=by
  have:(sizeLine:Nat) ≤(2 ^ 63 - 1) / 8:=by decide
  omega
 have hfit:¬(!Builtin.List.listFitsIndex k)=true:=by
  rw [fitsIndex_both h1 h2]
  exact Bool.false_ne_true
 have hlong:¬ Builtin.List.listTooLong (its.toArray.size * k.toNat)=true:=by
  rw [B6 hlen]
  exact Bool.false_ne_true
 have hnew:List.foldl (λ x1 x2=>x1 ++ x2) #[] (List.replicate (if its.toArray.isEmpty=true then 0 else k.toNat) its.toArray) =(List.replicate k.toNat its).flatten.toArray:=by
  have f0:∀ m:Nat,List.foldl (λ x1 x2=>x1 ++ x2) #[] (List.replicate m its.toArray) =(List.replicate m its).flatten.toArray:=λ m=>by
   have:=foldl_rep its m []
   rw [List.nil_append] at this
   exact this
  rw [f0]
  cases its with
  | nil=>simp
  | cons a r'=>rw [if_neg (by simp)]
 refine wpAny_binaryOp_repeat_ref (T:="list") (U:="int") (by decide) ⟨_,e,rfl⟩ (λ s'=>typeIs_int s' k t) noFill_list_mul F.fills_int_mul F.slot_int_rmul repeat_list F.slot_int_index.lookup
  (call_meets F.slot_int_rmul (typeIs_int s k t) F.entry_int_rmul (F.args_int_rmul_2 _ _) (int___rmul___int_list k t l its.toArray n)
   ⟨e,rfl,⟨_,e,rfl⟩,call_meets F.slot_list_mul ⟨_,e,rfl⟩ F.entry_list_mul (F.args_list_mul_2 _ _) (AutoListH.list___mul___list_int_3 l its.toArray n k t hfit hcap hlong) ⟨e,?_⟩⟩)
 rw [hnew]
 exact⟨.ref _,_,I.Mm (t':=s.toks) (r.rep k.toNat) (by rw [len_rep,Nat.mul_comm];exact hz),rfl,q _ I.fresh⟩
end
section
variable {prog:Program} {w:World} {A:Around} {E:Value->Shared->Prop} {s:Shared}
set_option maxRecDepth 100000 in
end
end L2
namespace Att
open PySem PySem.W PySem.Calls PyProof.Rows
theorem yv {P:Params} {h:Heap}:∀(ns:List Int) (vs:List Value),WellAll P h vs (ns.map WData.int)->IntsAre vs ns:=by
 intro ns
 induction ns with
 | nil =>
  intro vs w
  rw [List.map_nil] at w
  cases w
  exact .nil
 | cons n ns ih =>
  intro vs w
  rw [List.map_cons] at w
  cases w with
  | cons a b =>
   cases a
   exact .cons _ _ (ih _ b)
theorem Ic {l:OpenLaw} {n:Nat} (hn:l.most=some n) {P:Params} {h:Heap} {args:List WData} {vals:List Value}
  (hpre:l.row.toRowW.claim.pre args=true) (hwl:WellAll P h vals args) :
  ∃ a vs ns,vals = [Value.ref a] /\ args = [WData.list (ns.map WData.int)] /\ h.get? a=some { cls:=.type "list",data:=.seq vs.toArray } /\ IntsAre vs ns /\ ns.length ≤ n:=by
 have hsh:WShape.hasAll [] args [.list .int]=true:=(pre_splitW hpre).1
 have hc:l.pre.holds [] { args:=args } = true:=(pre_splitW hpre).2
 obtain⟨d,r,rfl,h1,h2⟩:=hasAllW_cons hsh
 obtain rfl:=hasAllW_nil h2
 obtain⟨xs,rfl,h3⟩:=hasW_list h1
 obtain⟨ns,rfl⟩:=items_int h3
 have hlen:ns.length ≤ n:=by
  unfold OpenLaw.pre at hc
  have h4:(WTm.not (.lt (.lit (.int (n:Int))) (.len (.arg 0)))).holds [] { args:=[.list (ns.map .int)] } = true:=by
   have h4:=(holds_andW hc).1
   rw [hn] at h4
   exact h4
  have h5:=condW_of h4 (w_not (w_lt w_lit (w_len_list (w_arg rfl))))
  rw [List.length_map] at h5
  refine Nat.le_of_not_lt λ q=>?_
  have q':(n:Int) <((ns.length:Nat):Int):=by omega
  first
   |(rw [decide_eq_true q'] at h5;exact absurd h5 (by decide))
   |(simp at h5;omega)
 cases hwl with
 | cons w1 w2 =>
  cases w2
  cases w1 with
  | list ho hall=>exact⟨_,_,ns,rfl,rfl,ho,yv ns _ hall,hlen⟩
theorem Ii (l:OpenLaw) (args:List WData):l.row.toRowW.claim.post args (.bool true) args=true :=
 postW_of (r:=l.row.toRowW) (X:=(true == true))
  (show WShape.has [] (.bool true) .bool=true by first | rfl | decide | simp [WShape.has,WShape.arms,WShape.armsAll])
  (show(WTm.eq .res (.lit (.bool true))).value [] { args:=args,res:=some (.bool true),after:=args } = some (.bool (true == true)) from w_eq_bool (w_res rfl) w_lit) rfl
theorem DB {l:OpenLaw} {n:Nat} {q:Program} {loose:List Str} {XP:(Str->Option Value)->Heap->Prop} {YP:World->Heap->Prop} {d:DefRec}
  (hn:l.most=some n) (hdf:d.params.defaults = [])
  (call:∀(w:World) (s₀ s₁:Shared) (mg mb:Str->Option Value) (fa:Addr) (o:Obj) (pm cd doc:Value) (a:Addr) (vs:List Value) (ns:List Int),
   Ground q loose [] XP w s₀ mg mb s₁.heap->YP w s₁.heap →
   s₁.heap.get? fa=some o->o.data = .func (docDef d.name d.params d.body d.scope pm cd doc)->s₁.heap.CodeRec cd d.name->mg d.name=some (.ref fa) →
   s₁.heap.get? a=some { cls:=.type "list",data:=.seq vs.toArray }->IntsAre vs ns->ns.length ≤ n->s₁.gens = #[] →
   codeAny (model l.prog w) callerA (.call (.ref fa) ⟨[.ref a],[]⟩) (λ r s'=>r = .ok (.ret (.bool true)) /\ OldK s₁.heap s'.heap /\ s'.os=s₁.os /\ AllBare s'.gens) s₁) :
  WalkO q loose XP YP l.row.toRowW d [] (λ f vs=>PySem.call f vs):=by
 intro w s₀ s₁ mg mb G Y fa o pm cd doc dV kV ho hd hcd hD hmg hg args vals as hpre hlay hrd hwl hlo
 obtain rfl:dV = .none:=Dflts.none hD hdf
 obtain rfl:kV = .none:=Dflts.noKw hD
 obtain⟨a,vs,ns,rfl,rfl,hobj,hints,hlen⟩:=Ic hn hpre hwl
 refine enter_call (codeAny_mono (call w s₀ s₁ mg mb fa o pm cd doc a vs ns G Y ho (fd_plain hd) hcd hmg hobj hints hlen hg) λ r s' hq=>?_)
 obtain⟨rfl,h2,h3,h4⟩:=hq
 exact⟨.inl ⟨.bool true,.bool true,[],rfl,λ _=>rfl,.bool true,Ii l _,λ _=>⟨List.Pairwise.nil,λ _ hm=>(nomatch hm)⟩⟩,h2,h3,h4⟩
section
variable {prog:Program} {w:World} {A:Around} {E:Value->Shared->Prop} {s:Shared} {K:Frag}
def ledger (h:Heap) (L d:Addr):List (Addr × Obj):=(List.range h.objs.size).filterMap λ a=>if a=L ∨ a=d then none else(h.get? a).map λ o=>(a,o)
end
end Att
namespace L2
open PySem PySem.Spec PyProof.Rows
theorem Au:∀ {vs:List Value} {ns:List Int},IntsAre vs ns->Vals (ns.map V.int) vs
 | _,_,.nil=>.nil
 | _,_,.cons n t h=>.cons ⟨t,rfl⟩ (Au h)
def Lh (H:Hp):Prop:=∀ b,H b=none ∨ ∃ o xs,H b=some (.frz o (.lst xs))
theorem Jd {P:Program} {w:World} {K:PySem.W.Frag} {mg mb:Str->Option Value} {CX:CXT} {k:Nat} {fa a:Addr} {fd:FuncData} {x:Str} {sp:Sp} {s₁:Shared} {vs:List Value} {ns:List Int}
  (KX:K.In s₁.heap) (hns:s₁.heap.Ns mainGlobals mg) (hb:s₁.heap.Ns builtinsNs mb) (hbb:∀ x:Str,x ≠ "__name__"->mb x=bootBuiltins x) (hlim:s₁.heap.NoLimit) (hg:s₁.gens = #[])
  (ha:s₁.heap.get? a=some { cls:=.type "list",data:=.seq vs.toArray }) (hi:IntsAre vs ns) (hl:ns.length ≤ sizeLine) (hr:cL k callerA)
  (F:∀ base:Heap,K.In base->base.Ns mainGlobals mg->bq P w K mg base CX k fa fd [x] sp) (hbind:∀(s:Shared) (u:Value),BindsTo s fd ⟨[u],[]⟩ [(x,u)])
  (hsp:∀ H:Hp,Lh H->SqL K H a (ns.map V.int)->sp [.ref a] H (λ v _=>v = .bl true) λ _ _ _=>False)
  (hCX:∀ H e s',CX [] H s₁ (λ _ _ _=>False) e s'->False) :
  codeAny (model P w) callerA (.call (.ref fa) ⟨[.ref a],[]⟩) (λ r s'=>r = .ok (.ret (.bool true)) /\ OldK s₁.heap s'.heap /\ s'.os=s₁.os /\ AllBare s'.gens) s₁:=by
 have rv:=Au hi
 have lenV:=hi.length
 have core:∀ H:Hp,Lh H->SqL K H a (ns.map V.int)->HOk P w H s₁.heap->(∀ b,H b ≠ none->b=a)->(H a ≠ none->K.lookup a=none) →
   codeAny (model P w) callerA (.call (.ref fa) ⟨[.ref a],[]⟩) (λ r s'=>r = .ok (.ret (.bool true)) /\ OldK s₁.heap s'.heap /\ s'.os=s₁.os /\ AllBare s'.gens) s₁:=by
  intro H hO hS hok hA hK
  have base_of:∀ {b:Addr} {o:Obj},s₁.heap.get? b=some o->H b=none->(qX s₁.heap H).get? b=some o:=λ e n=>JN e n
  have noA:∀ {b:Addr} {o:Obj} {es:Array DictEntry} {ep:Nat},s₁.heap.get? b=some o->o.data = .dict es ep->H b=none:=λ {b o es ep} e d=>by
   cases q:H b with
   | none=>rfl
   | some u =>
    have e':b=a:=hA b (by rw [q];simp)
    subst e'
    rw [ha] at e;cases e
    have d':Data.seq vs.toArray _=Data.dict es ep:=d
    cases d'
  have nsK:∀ {b:Addr} {m:Str->Option Value},s₁.heap.Ns b m->(qX s₁.heap H).Ns b m:=λ {b m} ⟨o,es,ep,e,d,r⟩=>⟨o,es,ep,base_of e (noA e d),d,r⟩
  have hKb:K.In (qX s₁.heap H):=λ b o e=>base_of (KX b o e) (by
   cases q:H b with
   | none=>rfl
   | some u =>
    have e':b=a:=hA b (by rw [q];simp)
    subst e'
    rw [hK (by rw [q];simp)] at e;cases e)
  have hM:Mod K mg (qX s₁.heap H):=⟨hKb,nsK hns,⟨mb,nsK hb,hbb⟩,let ⟨mc,h1,h2⟩:=hlim;⟨mc,nsK h1,h2⟩⟩
  have e0:wW P w K mg (qX s₁.heap H) callerA [] s₁ H:=⟨rfl,hM,λ b o e=>LY e,Nat.le_of_eq (HG _ _),trivial,λ b hb=>absurd (show b ∈([]:List Addr) from hb) (by simp),hok,.of_eq hg⟩
  refine codeAny_mono ((F _ hKb (nsK hns)).run callerA [] s₁ H ⟨[.ref a],[]⟩ [.ref a] [.ref a] _ _ hr e0 (hbind s₁ (.ref a)) (.cons rfl .nil) (hsp H hO hS)) λ r s' h=>?_
  cases r with
  | error e=>exact(hCX H e s' h).elim
  | ok fl =>
   cases fl with
   | next=>exact False.elim h
   | brk=>exact False.elim h
   | cont=>exact False.elim h
   | ret u =>
    obtain⟨v,H',os,bare,un,hok',r',q⟩:=h
    have q':v = .bl true:=q
    subst q'
    obtain rfl:u=Value.bool true:=r'
    refine⟨rfl,OldK.of_keep λ b o e=>?_,os,bare⟩
    cases q:H b with
    | none=>exact un.keep b o e q (by intro z;exact absurd (show b ∈([]:List Addr) from z) (by simp)) (by simp)
    | some u =>
     rcases hO b with z |⟨ob,xs,z⟩
     ·rw [q] at z;cases z
     ·have z2:=un.mw b ob _ z
      obtain⟨e1,_⟩:=hok b _ z
      obtain⟨e2,_⟩:=hok' b _ z2
      rw [e] at e1;cases e1
      exact e2
 cases hk:K.lookup a with
 | some o =>
  have e:=KX a o hk
  rw [ha] at e
  cases e
  refine core (λ _=>none) (λ _=>.inl rfl) (.inr ⟨_,vs.toArray,_,hk,rfl,rfl,rfl,by rw [List.size_toArray,lenV];exact hl,by simpa using rv⟩) (λ b u z=>by have z':(none:Option HO)=some u:=z;cases z') (λ b z=>absurd rfl z) λ z=>absurd rfl z
 | none =>
  refine core (λ b=>if b=a then some (.frz { cls:=.type "list",data:=.seq vs.toArray } (.lst (ns.map V.int))) else none) (λ b=>?_) (.inl (.inr ⟨{ cls:=.type "list",data:=.seq vs.toArray },if_pos rfl⟩)) (λ b u z=>?_) (λ b z=>?_) λ _=>hk
  ·by_cases hb:b=a
   ·exact .inr ⟨_,_,if_pos hb⟩
   ·exact .inl (if_neg hb)
  ·by_cases hb:b=a
   ·have z':=(if_pos hb).symm.trans z
    cases z'
    subst hb
    exact⟨ha,by rw [List.length_map];exact hl,vs,_,rv,ha⟩
   ·have z':=(if_neg hb).symm.trans z
    cases z'
  ·by_cases hb:b=a
   ·exact hb
   ·exact absurd (if_neg hb) z
open PySem PySem.Spec PyProof.Rows
abbrev KOf {K:PySem.W.Frag} {h:Heap} (_:K.In h):PySem.W.Frag:=K
theorem DZ {l:PySem.W.OpenLaw} {n k:Nat} {q:Program} {loose:List Str} {XP:(Str->Option Value)->Heap->Prop} {YP:World->Heap->Prop} {d:DefRec} {K:Params->PySem.W.Frag} {CX:World->CXT} {sp:World->Sp} {x:Str}
  (hn:l.most=some n) (hn2:n ≤ sizeLine) (hdf:d.params.defaults = []) (hr:cL k callerA)
  (hY:∀(w:World) (h:Heap),YP w h->(K w.params).In h)
  (F:∀(w:World) (mg:Str->Option Value) (fa:Addr) (h:Heap),(K w.params).In h->h.Ns mainGlobals mg->mg d.name=some (.ref fa) →
   ∃ fd:FuncData,(∀(s:Shared) (u:Value),BindsTo s fd ⟨[u],[]⟩ [(x,u)]) ∧
    ∀ base:Heap,(K w.params).In base->base.Ns mainGlobals mg->bq l.prog w (K w.params) mg base (CX w) k fa fd [x] (sp w))
  (hsp:∀(w:World) (H:Hp) (a:Addr) (ns:List Int),ns.length ≤ n->Lh H->SqL (K w.params) H a (ns.map V.int)->sp w [.ref a] H (λ v _=>v = .bl true) λ _ _ _=>False)
  (hCX:∀(w:World) (H:Hp) (s:Shared) (e:Value) (s':Shared),CX w [] H s (λ _ _ _=>False) e s'->False) :
  PySem.W.WalkO q loose XP YP l.row.toRowW d [] (λ f vs=>PySem.call f vs):=by
 refine Att.DB hn hdf λ w s₀ s₁ mg mb fa o pm cd doc a vs ns G Y ho hd hcd hmg hobj hints hlen hg=>?_
 have KX:=hY w _ Y
 obtain⟨fd,hb,hF⟩:=F w mg fa _ KX G.T.g hmg
 exact Jd KX G.T.g G.T.b G.T.builtins G.T.nolimit hg hobj hints (Nat.le_trans hlen hn2) hr hF hb (λ H hO hS=>hsp w H a ns hlen hO hS) λ H e s'=>hCX w H s₁ e s'
end L2
/- THE LAST THEOREM (shape;LID,My.* are yours):
  My.Adr: a structure of the addresses that your layer names (classes,functions);My.Txt K t: a structure (Prop) of the equations over K;
  My.txt_mk:{K} {implicit addresses ..} (e1:nsIn K mainGlobals "law" = some (some (.ref f))) (e2:K.lookup f=some ⟨oc,od,.func (fnOf "law" "law" params body scope dV kV doc pm an cdv ct),sl⟩) (e3:codeIn K cdv "law" = true) ..:∃ t,My.Txt K t
set_option maxRecDepth 100000 in
set_option maxHeartbeats 0 in
theorem PySem.Challenge.cw_LID_holds : PySem.Challenge.rw_LID.Holds := by
 w_on;o_law;k_head;(case hw=>w_witness2)
 k_fill
 refine L2.DZ (l:=PySem.Challenge.rw_LID) (n:=63) (k:=40) (x:="script") (CX:=λ w=>..) (sp:=λ _=>My.uo) rfl (by decide) rfl ⟨rfl,by decide,by decide⟩ (λ w h Y=>PySem.W.kIn_of Y) ?F ?S ?C
 case F =>
  intro w mg fa h KX G hmg
  have T:∃ t,My.Txt (L2.KOf KX) t:=by
   dsimp only [L2.KOf]                          -- K must stand as «<heap const> w.params» for k_is
   refine' My.txt_mk ?e1 ?e2 ?e3 ..
   (case e1=>PySem.W.k_is)                    -- in the order: a name -> its address -> its object -> its parts
   (case e2=>PySem.W.k_is)
   ..
  obtain⟨t,T⟩:=T
  have e0:=hmg.symm.trans (PySem.W.mg_of KX G T.law)
  cases e0                                       -- fa is the law's own address
  exact⟨_,λ s u=>.of_eq rfl,λ base kb nb=>My.law_fn T kb nb⟩     -- if «.of_eq rfl» comes too early: refine' ⟨_,?b,λ base kb nb=>My.law_fn T kb nb⟩;exact λ s u=>.of_eq rfl
 case S=>exact λ w H a ns hl hO hS=>..
 case C=>exact ..
(the tactic k_is has no namespace: write k_is) -/
namespace L2
open PySem PySem.Spec PyProof.Rows
def inClass (s:Stmt) (j:Nat):Stmt:=match s with
 | .ClassDef _ _ _ body _ _ _ _ _ _ _=>body.getD j (.Pass ⟨0,0,0,0⟩)
 | _=>.Pass ⟨0,0,0,0⟩
def aL (s:Stmt):Arguments:=match s with
 | .FunctionDef _ a _ _ _ _ _ _ _ _=>a
 | _=>{ posonlyargs:=[],args:=[],vararg:=none,kwonlyargs:=[],kw_defaults:=[],kwarg:=none,defaults:=[] }
def aK (s:Stmt):List Stmt:=match s with
 | .FunctionDef _ _ b _ _ _ _ _ _ _=>b
 | _=>[]
def aA (s:Stmt):Scope:=match s with
 | .FunctionDef _ _ _ _ _ _ sc _ _ _=>sc
 | _=>{ kind:=.function,names:=[],isGenerator:=false,isCoroutine:=false }
abbrev E0:XK:=λ _ _ _=>False
structure Fun (K:PySem.W.Frag) (x qual:Str) (st:Stmt) (f:Addr) (fd:FuncData):Prop where
 ex:∃(oc:Value) (od:Option Addr) (kV doc pm:Value) (an:Option Addr) (cdv ct:Value) (osl:Array (Option Value)),
  fd=PySem.W.fnOf x qual (aL st) (aK st) (aA st) .none kV doc pm an cdv ct /\ K.lookup f=some ⟨oc,od,.func fd,osl⟩ /\ PySem.W.codeIn K cdv qual=true
 kp:PySem.W.keepIn K (.ref f)=true
section
variable {P:Program} {w:World} {K:PySem.W.Frag} {mg:Str->Option Value} {base:Heap}
theorem Fun.binds {x qual:Str} {st:Stmt} {f:Addr} {fd:FuncData} {ps:List Str} (F:Fun K x qual st f fd)
  (h:∀(kV doc pm:Value) (an:Option Addr) (cdv ct:Value) (us:List Value),us.length=ps.length->bindArgs (PySem.W.fnOf x qual (aL st) (aK st) (aA st) .none kV doc pm an cdv ct) ⟨us,[]⟩=pure (ps.zip us)):Binds K fd ps []:=by
 obtain⟨oc,od,kV,doc,pm,an,cdv,ct,osl,rfl,lk,hcd⟩:=F.ex
 exact .all (h kV doc pm an cdv ct)
theorem bg {x qual:Str} {st:Stmt} {f:Addr} {oc:Value} {od an:Option Addr} {osl:Array (Option Value)} {kV doc pm cdv ct:Value} (l:K.lookup f=some ⟨oc,od,.func (PySem.W.fnOf x qual (aL st) (aK st) (aA st) .none kV doc pm an cdv ct),osl⟩)
  (c:PySem.W.codeIn K cdv qual=true) (k:PySem.W.keepIn K (.ref f)=true):Fun K x qual st f (PySem.W.fnOf x qual (aL st) (aK st) (aA st) .none kV doc pm an cdv ct):=⟨⟨oc,od,kV,doc,pm,an,cdv,ct,osl,rfl,l,c⟩,k⟩
end
theorem dO {A:Around} {k:Nat} (hr:cL k A):A.units + 1 < cLine:=Nat.lt_of_le_of_lt (Nat.add_le_add_left (by decide:1 ≤ 64) _) hr.units
theorem bh {n:Nat} (h:n ≤ 1000):n < sizeLine:=Nat.lt_of_le_of_lt h (by decide)
section
variable {X:Cx}
theorem pv (i:Nat) {x:Str} {pos:Pos} (hN:X.N[i]? = some x:=by rfl) (hv:Vis X.env.scope x:=by first | exact Or.inl rfl | exact Or.inr (Or.inl rfl) | exact Or.inr (Or.inr rfl)) (hd:(x ==("__debug__":Str))=false:=by decide)
  (hcd:(x ==("__classdict__":Str))=false:=by decide):PE X (.Name x pos) (d9 i):=Ms hN hv hd hcd
end
theorem dI {A B:Prop} (h:B):if false=true then A else B:=by
 rw [if_neg Bool.false_ne_true]
 exact h
theorem jb {A B:Prop} (h:A):if true=true then A else B:=by
 rw [if_pos rfl]
 exact h
theorem dF {c A B:Prop} [Decidable c] (h1:c->A) (h2:¬ c->B):if c then A else B:=by
 by_cases h:c
 ·rw [if_pos h]
  exact h1 h
 ·rw [if_neg h]
  exact h2 h
theorem kJ {c A B:Prop} [Decidable c] (hc:c) (h:B):if (!decide c)=true then A else B:=by
 rw [decide_eq_true hc]
 exact dI h
def ao (H H':Hp):Prop:=∀ b o,H b=some o->H' b=some o
theorem ao.refl (H:Hp):ao H H:=λ _ _ h=>h
theorem ao.trans {H H1 H2:Hp} (a:ao H H1) (b:ao H1 H2):ao H H2:=λ c o h=>b c o (a c o h)
theorem ao.free {H H':Hp} (e:ao H H') {l:Addr} (h:H' l=Option.none):H l=Option.none:=by
 cases q:H l with
 | none=>rfl
 | some o =>
  rw [e l o q] at h
  cases h
theorem ao.seq {K:PySem.W.Frag} {H H':Hp} {a:Addr} {xs:List V} (e:ao H H') (h:SqL K H a xs):SqL K H' a xs:=by
 rcases h with(h |⟨o,h⟩) | h
 ·exact .inl (.inl (e _ _ h))
 ·exact .inl (.inr ⟨o,e _ _ h⟩)
 ·exact .inr h
end L2
set_option maxHeartbeats 4000000
namespace L2
open PySem PySem.Spec PyProof.Rows
section
variable {κ:Type} [DecidableEq κ]
def aZ (kvs:List (κ × V)) (k:κ):Option V:=(kvs.find? λ kv=>decide (kv.1=k)).map (·.2)
def putK (kvs:List (κ × V)) (k:κ) (v:V):List (κ × V) :=
 if (kvs.any λ kv=>decide (kv.1=k))=true then kvs.map (λ kv=>if kv.1=k then(kv.1,v) else kv) else kvs ++ [(k,v)]
def bR (kvs:List (κ × V)) (k:κ):List (κ × V):=kvs.filter λ kv=>decide (kv.1 ≠ k)
theorem dc {p:κ × V} {r:List (κ × V)} {k:κ} (e:p.1=k):aZ (p :: r) k=some p.2:=by simp [aZ,List.find?_cons,e]
theorem cM {p:κ × V} {r:List (κ × V)} {k:κ} (e:¬ p.1=k):aZ (p :: r) k=aZ r k:=by simp [aZ,List.find?_cons,e]
theorem iP (k:κ):∀ kvs:List (κ × V),(kvs.any λ kv=>decide (kv.1=k)) =(aZ kvs k).isSome
 | []=>rfl
 | p :: r=>by
  rw [List.any_cons]
  by_cases e:p.1=k
  ·simp only [dc e,decide_eq_true e,Bool.true_or,Option.isSome_some]
  ·rw [cM e,decide_eq_false e,Bool.false_or];exact iP k r
theorem By (k j:κ) (y:V):∀ kvs:List (κ × V),aZ (kvs.map λ kv=>if kv.1=k then(kv.1,y) else kv) j =(aZ kvs j).map λ x=>if j=k then y else x
 | []=>rfl
 | p :: r=>by
  have ih:=By k j y r
  rw [List.map_cons]
  by_cases h:p.1=k
  ·rw [if_pos h]
   by_cases e:p.1=j
   ·rw [dc (p:=(p.1,y)) e,dc e,Option.map_some,if_pos (e.symm.trans h)]
   ·rw [cM (p:=(p.1,y)) e,cM e,ih]
  ·rw [if_neg h]
   by_cases e:p.1=j
   ·rw [dc (p:=p) e,dc e,Option.map_some,if_neg (λ z=>h (e.trans z))]
   ·rw [cM (p:=p) e,cM e,ih]
theorem Am (k j:κ) (y:V):∀ kvs:List (κ × V),aZ kvs k=none->aZ (kvs ++ [(k,y)]) j=if j=k then some y else aZ kvs j
 | [],_=>by
  by_cases e:k=j
  ·rw [if_pos e.symm];exact dc (p:=(k,y)) e
  ·rw [if_neg (λ z=>e z.symm)];exact cM (p:=(k,y)) e
 | p :: r,hn=>by
  rw [List.cons_append]
  have hk:¬ p.1=k:=λ z=>by rw [dc z] at hn;cases hn
  rw [cM hk] at hn
  have ih:=Am k j y r hn
  by_cases e:p.1=j
  ·rw [dc e,dc e,if_neg (λ z=>hk (e.trans z))]
  ·rw [cM e,cM e,ih]
theorem iS (kvs:List (κ × V)) (k j:κ) (y:V):aZ (putK kvs k y) j=if j=k then some y else aZ kvs j:=by
 unfold putK
 by_cases a:(kvs.any λ kv=>decide (kv.1=k))=true
 ·rw [if_pos a,By]
  rw [iP] at a
  by_cases e:j=k
  ·obtain⟨x,hx⟩:=Option.isSome_iff_exists.mp a
   rw [if_pos e,e,hx,Option.map_some,if_pos rfl]
  ·rw [if_neg e]
   cases aZ kvs j with
   | none=>rfl
   | some x=>rw [Option.map_some,if_neg e]
 ·rw [if_neg a]
  refine Am k j y kvs ?_
  rw [iP] at a
  cases q:aZ kvs k with
  | none=>rfl
  | some x=>rw [q] at a;exact(a rfl).elim
theorem cV (kvs:List (κ × V)) (k:κ) (v:V):(putK kvs k v).length ≤ kvs.length + 1:=by
 unfold putK
 split
 ·rw [List.length_map];omega
 ·rw [List.length_append,List.length_cons,List.length_nil];omega
theorem JZ {kvs:List (κ × V)} {k:κ} (v:V) (h:aZ kvs k=none):putK kvs k v=kvs ++ [(k,v)]:=by
 unfold putK
 rw [iP,h]
 exact if_neg (by decide)
theorem fD.tX {o:Option V} {u:Option Value} (r:fD o u):o.isSome=u.isSome:=by
 cases o with
 | none=>cases u with
  | none=>rfl
  | some _=>exact(show False from r).elim
 | some _=>cases u with
  | none=>exact(show False from r).elim
  | some _=>rfl
theorem fD.getD {o:Option V} {u:Option Value} {d:V} {d':Value} (r:fD o u) (rd:RelV d d'):RelV (o.getD d) (u.getD d'):=by
 cases o with
 | none=>cases u with
  | none=>exact rd
  | some _=>exact(show False from r).elim
 | some _=>cases u with
  | none=>exact(show False from r).elim
  | some _=>exact r
theorem KV.val {kvs:List (κ × V)} {vs:List (κ × Value)} (r:KV kvs vs) (k:κ):fD (aZ kvs k) (valueAt vs k):=by
 unfold KV at r
 induction r with
 | nil=>exact True.intro
 | @cons p q ps qs h t ih =>
  obtain⟨h1,h2⟩:=h
  by_cases e:p.1=k
  ·have e':q.1=k:=h1.symm.trans e
   have b:valueAt (q :: qs) k=some q.2:=by simp [valueAt,List.find?_cons,e']
   rw [dc e,b];exact h2
  ·have e':¬ q.1=k:=λ z=>e (h1.trans z)
   have b:valueAt (q :: qs) k=valueAt qs k:=by simp [valueAt,List.find?_cons,e']
   rw [cM e,b];exact ih
theorem KV.any {kvs:List (κ × V)} {vs:List (κ × Value)} (r:KV kvs vs) (k:κ):(kvs.any λ kv=>decide (kv.1=k))=vs.any λ kv=>decide (kv.1=k):=by
 unfold KV at r
 induction r with
 | nil=>rfl
 | cons h t ih=>rw [List.any_cons,List.any_cons,ih,h.1]
theorem KV.repl {kvs:List (κ × V)} {vs:List (κ × Value)} (r:KV kvs vs) (k:κ) {y:V} {u:Value} (ry:RelV y u) :
  KV (kvs.map λ kv=>if kv.1=k then(kv.1,y) else kv) (vs.map λ kv=>if kv.1=k then(kv.1,u) else kv):=by
 unfold KV at r ⊢
 induction r with
 | nil=>exact .nil
 | @cons p q ps qs h t ih =>
  rw [List.map_cons,List.map_cons]
  refine .cons ?_ ih
  obtain⟨h1,h2⟩:=h
  by_cases e:p.1=k
  ·rw [if_pos e,if_pos (h1.symm.trans e)];exact⟨h1,ry⟩
  ·rw [if_neg e,if_neg (λ z=>e (h1.trans z))];exact⟨h1,h2⟩
theorem KV.put {kvs:List (κ × V)} {vs:List (κ × Value)} (r:KV kvs vs) (k:κ) {y:V} {u:Value} (ry:RelV y u):KV (putK kvs k y) (stored vs k u):=by
 unfold putK stored
 rw [r.any k]
 by_cases e:(vs.any λ kv=>decide (kv.1=k))=true
 ·rw [if_pos e,if_pos e];exact r.repl k ry
 ·rw [if_neg e,if_neg e];exact Paired.snoc r ⟨rfl,ry⟩
theorem KV.drop {kvs:List (κ × V)} {vs:List (κ × Value)} (r:KV kvs vs) (k:κ):KV (bR kvs k) (without vs k):=by
 unfold KV at r ⊢
 unfold bR without
 induction r with
 | nil=>exact .nil
 | @cons p q ps qs h t ih =>
  obtain⟨h1,h2⟩:=h
  rw [List.filter_cons,List.filter_cons]
  by_cases e:p.1=k
  ·have a:¬ decide (p.1 ≠ k)=true:=by simp [e]
   have b:¬ decide (q.1 ≠ k)=true:=by simp [h1.symm.trans e]
   rw [if_neg a,if_neg b];exact ih
  ·have e':¬ q.1=k:=λ z=>e (h1.trans z)
   have a:decide (p.1 ≠ k)=true:=by simp [e]
   have b:decide (q.1 ≠ k)=true:=by simp [e']
   rw [if_pos a,if_pos b];exact .cons ⟨h1,h2⟩ ih
theorem KV.keys {kvs:List (κ × V)} {vs:List (κ × Value)} (r:KV kvs vs):kvs.map (·.1)=vs.map (·.1):=by
 unfold KV at r
 induction r with
 | nil=>rfl
 | cons h t ih=>rw [List.map_cons,List.map_cons,ih,h.1]
theorem KV.length {kvs:List (κ × V)} {vs:List (κ × Value)} (r:KV kvs vs):kvs.length=vs.length:=Paired.length r
theorem Kf (kvs:List (κ × V)) (k:κ):(bR kvs k).length ≤ kvs.length:=List.length_filter_le _ _
end
theorem mU {P:Program} {w:World} {k:Key} {u:Value} (r:RelV (kV k) u):(bD P w).is k u=true:=by
 cases k with
 | inl i=>obtain⟨t,e⟩:=(show ∃ t,u=Value.int i t from r);subst e;exact Dy P w i t
 | inr x=>obtain⟨t,e⟩:=(show ∃ t,u=Value.str x t from r);subst e;exact Dq P w x t
theorem Al {P:Program} {w:World}:∀ {ks:List Key} {us:List Value},Vals (ks.map kV) us->ItemsAre (bD P w) ks us
 | [],_,r=>by rw [List.map_nil] at r;cases r;exact .nil
 | k :: ks,_,r=>by
  rw [List.map_cons] at r
  cases r with
  | cons h t=>exact .cons (mU h) (Al t)
abbrev KT (H:Hp):List (List Key × V)->List (List Key × Addr × Value)->Prop:=Paired λ p q=>p.1=q.1 /\ H q.2.1=some (.tup (p.1.map kV)) /\ RelV p.2 q.2.2
theorem KT.val {H:Hp} {kvs:List (List Key × V)} {xs:List (List Key × Addr × Value)} (r:KT H kvs xs) (k:List Key):fD (aZ kvs k) ((atKey xs k).map (·.2)):=by
 induction r with
 | nil=>exact True.intro
 | @cons p q ps qs h t ih =>
  obtain⟨h1,_,h2⟩:=h
  by_cases e:p.1=k
  ·have e':q.1=k:=h1.symm.trans e
   have b:atKey (q :: qs) k=some q.2:=by simp [atKey,List.find?_cons,e']
   rw [dc e,b];exact h2
  ·have e':¬ q.1=k:=λ z=>e (h1.trans z)
   have b:atKey (q :: qs) k=atKey qs k:=by simp [atKey,List.find?_cons,e']
   rw [cM e,b];exact ih
theorem KT.repl {H:Hp} {kvs:List (List Key × V)} {xs:List (List Key × Addr × Value)} (r:KT H kvs xs) (k:List Key) {y:V} {u:Value} (ry:RelV y u) :
  KT H (kvs.map λ kv=>if kv.1=k then(kv.1,y) else kv) (xs.map (putAt k u)):=by
 induction r with
 | nil=>exact .nil
 | @cons p q ps qs h t ih =>
  rw [List.map_cons,List.map_cons]
  refine .cons ?_ ih
  obtain⟨h1,h2,h3⟩:=h
  unfold putAt
  by_cases e:p.1=k
  ·rw [if_pos e,if_pos (h1.symm.trans e)];exact⟨h1,h2,ry⟩
  ·rw [if_neg e,if_neg (λ z=>e (h1.trans z))];exact⟨h1,h2,h3⟩
theorem KT.put {H:Hp} {kvs:List (List Key × V)} {xs:List (List Key × Addr × Value)} (r:KT H kvs xs) (k:List Key) {b:Addr} {y:V} {u:Value} (hb:H b=some (.tup (k.map kV))) (ry:RelV y u) :
  KT H (putK kvs k y) (storedH xs k b u):=by
 have e:(kvs.any λ kv=>decide (kv.1=k)) =(atKey xs k).isSome:=by
  rw [iP,(r.val k).tX,Option.isSome_map]
 unfold putK storedH
 rw [e]
 by_cases q:(atKey xs k).isSome=true
 ·rw [if_pos q,if_pos q];exact r.repl k ry
 ·rw [if_neg q,if_neg q];exact Paired.snoc r ⟨rfl,hb,ry⟩
theorem KT.keeps {H H':Hp} {kvs:List (List Key × V)} {xs:List (List Key × Addr × Value)} (r:KT H kvs xs) (ht:∀ b ys,H b=some (.tup ys)->H' b=some (.tup ys)):KT H' kvs xs :=
 Paired.Jz r λ _ _ z=>⟨z.1,ht _ _ z.2.1,z.2.2⟩
section
variable {P:Program} {w:World} {H:Hp} {h:Heap} {a:Addr}
theorem Lx {u:HO} (ok:HOk P w H h) (e:Rd H a u):bF P w H h a u:=e.ok ok
theorem mQ {kvs:List (Key × V)} (ok:HOk P w H h) (e:Rd H a (.dK kvs)):kvs.length ≤ sizeLine /\(a == sysModules)=false /\ ∃ vs,KV kvs vs /\ h.DictOf (bD P w) a vs :=
 show bF P w H h a (.dK kvs) from Lx ok e
theorem mS {kvs:List (Key × V)} (ok:HOk P w H h) (e:H a=some (.dK kvs)):kvs.length ≤ sizeLine /\(a == sysModules)=false /\ ∃ vs,KV kvs vs /\ h.DictOf (bD P w) a vs:=mQ ok (.inl e)
theorem ua {ks:List Key} (ok:HOk P w H h) (e:H a=some (.tup (ks.map kV))):(tupleKind (bD P w)).is h ks a:=by
 obtain⟨_,its,r,o,h1,h2,n,h3⟩:=(show bF P w H h a (.tup (ks.map kV)) from ok a _ e)
 exact⟨o,its.toArray,n,h1,h2,h3,by simpa using Al r⟩
theorem uZ {kvs:List (List Key × V)} (ok:HOk P w H h) (e:Rd H a (.dT kvs)):kvs.length ≤ sizeLine /\(a == sysModules)=false ∧
  ∃ xs,KT H kvs xs /\ h.DictOfH (tupleKind (bD P w)) a xs:=by
 obtain⟨z,y,xs,r,o,es,ep,h1,h2,h3,h4,h5⟩:=(show bF P w H h a (.dT kvs) from Lx ok e)
 refine⟨z,y,xs,r,o,es,ep,h1,h2,h3,h4,λ x hx=>?_,h5⟩
 have all:∀ {l:List (List Key × V)} {m:List (List Key × Addr × Value)},KT H l m->∀ x ∈ m,(tupleKind (bD P w)).is h x.1 x.2.1:=by
  intro l m q
  induction q with
  | nil=>intro x hx;exact nomatch hx
  | @cons p q ps qs hq t ih =>
   intro x hx
   rcases List.mem_cons.mp hx with e | hx
   ·subst e
    exact ua ok (by rw [← hq.1];exact hq.2.1)
   ·exact ih x hx
 exact all r x hx
theorem Ou {kvs:List (List Key × V)} (ok:HOk P w H h) (e:H a=some (.dT kvs)):kvs.length ≤ sizeLine /\(a == sysModules)=false ∧
  ∃ xs,KT H kvs xs /\ h.DictOfH (tupleKind (bD P w)) a xs:=uZ ok (.inl e)
end
def gb (H:Hp) (a:Addr) (y:V) (r:Option V):Prop :=
 (∃ kvs k,Rd H a (.dK kvs) /\ y=kV k /\ r=aZ kvs k) ∨ ∃ kvs k b,Rd H a (.dT kvs) /\ y = .ref b /\ H b=some (.tup (k.map kV)) /\ r=aZ kvs k
def qW (H:Hp) (a:Addr) (y v:V) (H':Hp):Prop :=
 (∃ kvs k,H a=some (.dK kvs) /\ y=kV k /\ kvs.length < sizeLine /\ H'=upd H a (.dK (putK kvs k v))) ∨
 ∃ kvs k b,H a=some (.dT kvs) /\ y = .ref b /\ H b=some (.tup (k.map kV)) /\ kvs.length < sizeLine /\ H'=upd H a (.dT (putK kvs k v))
theorem gb.k {H:Hp} {a:Addr} {kvs:List (Key × V)} {k:Key} (e:H a=some (.dK kvs)):gb H a (kV k) (aZ kvs k):=.inl ⟨kvs,k,.inl e,rfl,rfl⟩
theorem qW.k {H:Hp} {a:Addr} {kvs:List (Key × V)} {k:Key} {v:V} (e:H a=some (.dK kvs)) (hl:kvs.length < sizeLine):qW H a (kV k) v (upd H a (.dK (putK kvs k v))):=.inl ⟨kvs,k,e,rfl,hl,rfl⟩
section
variable {X:Cx} {pins:List (Addr × Obj)} {σ:St} {H:Hp} {s:Shared} {a:Addr} {y v:V} {u r:Value} {o:Option V} {A:Around} {E:Value->Shared->Prop}
theorem Inv.big (I:Inv X pins σ H s):sysModules < s.heap.objs.size:=by
 have h:mainGlobals < s.heap.objs.size:=(I.mod.glob.keeps I.bk).lt
 exact Nat.lt_trans (by decide) h
theorem IK {Q:Value->Shared->Prop} (hu:A.units + 1 < cLine) (I:Inv X pins σ H s) (g:gb H a y (some v)) (ry:RelV y u) (h:∀ w' s',Inv X pins σ H s'->RelV v w'->Q w' s') :
  wpAny (model X.prog X.w) A (getItem (.ref a) u) Q E s:=by
 rcases g with⟨kvs,k,e,ey,l⟩ |⟨kvs,k,b,e,ey,eb,l⟩
 ·subst ey
  obtain⟨z,hd,vs,rel,dd⟩:=mQ I.hok e
  obtain⟨w',hw,rw'⟩:=fD.some_of (v:=v) (o:=valueAt vs k) (by rw [l];exact rel.val k)
  exact wpAny_getItem_of (mU ry) dd.mapOf hw (h w' _ (I.tok _) rw')
 ·subst ey
  cases (show u=Value.ref b from ry)
  obtain⟨z,hd,xs,rel,dd⟩:=uZ I.hok e
  obtain⟨w',hw,rw'⟩:=fD.some_of (v:=v) (o:=(atKey xs k).map (·.2)) (by rw [l];exact rel.val k)
  obtain⟨p,hp,hp2⟩:=Option.map_eq_some_iff.mp hw
  refine wpAny_getItem_heap (tupleKind_room_in1 hu) (ua I.hok eb) dd hp ?_
  rw [hp2]
  exact h w' _ (I.tok _) rw'
theorem LV {Q:Value->Shared->Prop} (hu:A.units + 1 < cLine) (I:Inv X pins σ H s) (g:gb H a y o) (ry:RelV y u) (h:∀ s',Inv X pins σ H s'->Q (.bool (!o.isSome)) s') :
  wpAny (model X.prog X.w) A (compareOp .NotIn u (.ref a)) Q E s:=by
 rcases g with⟨kvs,k,e,ey,l⟩ |⟨kvs,k,b,e,ey,eb,l⟩
 ·subst ey
  obtain⟨z,hd,vs,rel,dd⟩:=mQ I.hok e
  refine wpAny_notIn_of (mU ry) hd dd.mapOf ?_
  rw [← (rel.val k).tX,← l]
  exact h _ (I.tok _)
 ·subst ey
  cases (show u=Value.ref b from ry)
  obtain⟨z,hd,xs,rel,dd⟩:=uZ I.hok e
  refine wpAny_notIn_heap (tupleKind_room_in1 hu) (ua I.hok eb) hd dd ?_
  have q:=(rel.val k).tX
  rw [Option.isSome_map] at q
  rw [← q,← l]
  exact h _ (I.tok _)
theorem oH {h':Heap} {t':Nat} {ob:HO} (I:Inv X pins σ H s) (mu:Mut (H a)) (hs:Heap.SameBut a s.heap h') (he:∃ q,h'.get? a=some q) (new:bF X.prog X.w (upd H a ob) h' a ob) :
  Inv X pins σ (upd H a ob) { s with heap:=h',toks:=t' } :=
 I.write (x:=a) (e:=a) mu (.inl rfl) (λ b q hb z=>(hs.2 b hb).trans z) he new
theorem lM {P:Program} {w:World} {H':Hp} {h':Heap} {kvs:List (Key × V)} {vs:List (Key × Value)} (z:kvs.length ≤ sizeLine) (hd:(a == sysModules)=false) (rel:KV kvs vs) (dd:h'.DictOf (bD P w) a vs) :
  bF P w H' h' a (.dK kvs):=⟨z,hd,vs,rel,dd⟩
theorem HS {H':Hp} {Q:Unit->Shared->Prop} (hu:A.units + 1 < cLine) (I:Inv X pins σ H s) (g:qW H a y v H') (ry:RelV y u) (rv:RelV v r) (h:∀ s',Inv X pins σ H' s'->Q () s') :
  wpAny (model X.prog X.w) A (setItem (.ref a) u r) Q E s:=by
 rcases g with⟨kvs,k,e,ey,l,eH⟩ |⟨kvs,k,b,e,ey,eb,l,eH⟩
 ·subst ey eH
  obtain⟨z,hd,vs,rel,dd⟩:=mS I.hok e
  have hz:vs.length ≤ sizeLine:=by rw [← rel.length];exact z
  have hl:(putK kvs k v).length ≤ sizeLine:=by have:=cV kvs k v;omega
  refine wpAny_setItem_pairs (hsz:=hz) (mU ry) dd λ h' dd' hs=>h _ ?_
  have he:∃ q,h'.get? a=some q:=let ⟨q,_,_,hq,_⟩:=dd';⟨q,hq⟩
  exact oH I (by rw [e];exact True.intro) hs he (lM hl hd (rel.put k rv) dd')
 ·subst ey eH
  cases (show u=Value.ref b from ry)
  obtain⟨z,hd,xs,rel,dd⟩:=Ou I.hok e
  have hz:xs.length ≤ sizeLine:=by rw [← Paired.length rel];exact z
  have hl:(putK kvs k v).length ≤ sizeLine:=by have:=cV kvs k v;omega
  refine wpAny_setItem_heap (hsz:=hz) (tupleKind_room_in1 hu) (ua I.hok eb) dd λ h' dd' hs=>h _ ?_
  obtain⟨q,es,ep,hq,h2,h3,h4,_,h5⟩:=dd'
  refine oH I (by rw [e];exact True.intro) hs ⟨q,hq⟩ ⟨hl,hd,_,(rel.put k eb rv).keeps λ c ys ec=>?_,q,es,ep,hq,h2,h3,h4,h5⟩
  rw [aq (bB ec e (λ z=>nomatch z))]
  exact ec
end
section
variable {X:Cx} {pins:List (Addr × Obj)} {σ:St} {H:Hp} {s:Shared} {a:Addr} {kvs:List (Key × V)} {k:Key} {u:Value} {A:Around} {E:Value->Shared->Prop}
theorem OG {v:V} {more:List Value} {Q:Value->Shared->Prop} (I:Inv X pins σ H s) (e:H a=some (.dK kvs)) (ry:RelV (kV k) u) (l:aZ kvs k=some v) (hm:more = [] ∨ ∃ x,more = [x])
  (h:∀ w' s',Inv X pins σ (upd H a (.dK (bR kvs k))) s'->RelV v w'->Q w' s'):wpAny (model X.prog X.w) A (call (.builtin "dict.pop") (.ref a :: u :: more)) Q E s:=by
 obtain⟨z,hd,vs,rel,dd⟩:=mS I.hok e
 obtain⟨w',hw,rw'⟩:=fD.some_of (v:=v) (o:=valueAt vs k) (by rw [← l];exact rel.val k)
 have hp:(keyPart u).isSome=true:=by
  cases k with
  | inl i=>obtain⟨t,q⟩:=(show ∃ t,u=Value.int i t from ry);subst q;rfl
  | inr x=>obtain⟨t,q⟩:=(show ∃ t,u=Value.str x t from ry);subst q;rfl
 have ha:argsOk "dict.pop" ⟨.ref a :: u :: more,[]⟩:=by
  rcases hm with q |⟨x,q⟩
  ·subst q;exact PySem.F.args_dict_pop_2 _ _
  ·subst q;exact PySem.F.args_dict_pop_3 _ _ _
 refine call_meetsIn PySem.F.slot_dict_pop dd.typeIs PySem.F.entry_dict_pop ha (meets_dict_pop_there (bD X.prog X.w) a (mU ry) more hm hp)
  ⟨vs,w',dd,by rw [← rel.length];exact z,hw,λ h' dd' hs=>h w' _ ?_ rw'⟩
 have he:∃ q,h'.get? a=some q:=let ⟨q,_,_,hq,_⟩:=dd';⟨q,hq⟩
 exact oH I (by rw [e];exact True.intro) hs he (lM (Nat.le_trans (Kf kvs k) z) hd (rel.drop k) dd')
theorem Od {Q:Value->Shared->Prop} (I:Inv X pins σ H s) (e:Rd H a (.dK kvs)) (h:∀ t s',Inv X pins σ H s'->Q (.int kvs.length t) s'):wpAny (model X.prog X.w) A (call (.builtin "len") [.ref a]) Q E s:=by
 obtain⟨z,hd,vs,rel,dd⟩:=mQ I.hok e
 refine call_len_dict hd dd (by rw [← rel.length];rw [sizeLine_eq] at z;omega) ?_
 rw [← rel.length]
 exact h _ _ (I.tok _)
end
def MT (i:Expr):Prop:=∀ ov iv,subscripted i false ov iv=operate [ov,iv] (getItem ov iv)
theorem Ly {prog:Program} {w:World} {A:Around} {E:Value->Shared->Prop} {s:Shared} {env:Env} {value slice:Expr} {pos:Pos} {T id:String} {Q:Value->Shared->Prop}
  (hl:typeLookup (.type T) "__getitem__" = pure (some (.builtin id))) (hs:MT slice)
  (h:wpAny (model prog w) A (eval value env) (λ o s₁=>wpAny (model prog w) A (eval slice env) (λ i s₂=>s₂.TypeIs o T /\ wpAny (model prog w) A (getItem o i) Q E s₂) E s₁) E s) :
  wpAny (model prog w) A (eval (.Subscript value slice pos) env) Q E s:=by
 refine Subscript_ (wpAny_mono h (λ o s₁ h₁=>wpAny_mono h₁ (λ i s₂ h₂=>?_) λ _ _ x=>x) λ _ _ x=>x)
 obtain⟨hT,h₂⟩:=h₂
 unfold subscriptTail
 refine wpAny_bind ?_
 rw [getitemInPython_of_ne hT.not_modules]
 refine wpAny_bind (wpAny_specialOf hT hl ?_)
 have fin:wpAny (model prog w) A (subscripted slice false o i) (λ r s₃=>wpAny (model prog w) A (letTemporaryGo value o r >>= λ _=>pure r) Q E s₃) E s₂:=by
  rw [hs o i]
  exact wpAny_operating (wpAny_mono h₂ (λ r s₃ h₃=>wpAny_bind (wpAny_letTemporaryGo (wpAny_pure h₃))) λ _ _ x=>x)
 first
  | exact wpAny_pure (wpAny_bind fin)
  | exact wpAny_bind (wpAny_pure (wpAny_bind fin))
  | exact wpAny_bind fin
theorem Dw {X:Cx} {pins:List (Addr × Obj)} {σ:St} {H:Hp} {s:Shared} {a:Addr} {y:V} {o:Option V} (I:Inv X pins σ H s) (g:gb H a y o):s.TypeIs (.ref a) "dict":=by
 rcases g with⟨kvs,k,e,_,_⟩ |⟨kvs,k,b,e,_,_,_⟩
 ·obtain⟨_,_,vs,_,dd⟩:=mQ I.hok e
  exact dd.typeIs
 ·obtain⟨_,_,xs,_,dd⟩:=uZ I.hok e
  exact dd.typeIs
def OD (td ty:TE):TE:=λ σ H Q=>td σ H λ x H1=>ty σ H1 λ y H2=>∃ a v,x = .ref a /\ gb H2 a y (some v) /\ Q v H2
def LB (ty td:TE):TE:=λ σ H Q=>ty σ H λ y H1=>td σ H1 λ x H2=>∃ a o,x = .ref a /\ gb H2 a y o /\ Q (.bl (!o.isSome)) H2
def NT (td ty tv:TE):TS:=λ D σ H=>tv σ H λ v H1=>td σ H1 λ x H2=>ty σ H2 λ y H3=>∃ a H4,x = .ref a /\ qW H3 a y v H4 /\ D.nx σ H4
section
variable {X:Cx} {o i e value:Expr} {pos pos' tpos:Pos} {td ty tv:TE}
theorem dZ (hu:X.A.units + 1 < cLine) (ho:PE X o td) (hi:PE X i ty) (hs:MT i):PE X (.Subscript o i pos) (OD td ty):=by
 intro pins s σ H Q I h
 refine Ly PySem.F.slot_dict_getitem.lookup hs (thn (ho pins s σ H _ I h) λ u s1 ⟨x,H1,I1,rx,q1⟩=>thn (hi pins s1 σ H1 _ I1 q1) λ iv s2 ⟨y,H2,I2,ry,a,v,ex,g,q2⟩=>?_)
 subst ex
 obtain rfl:u=Value.ref a:=rx
 exact⟨Dw I2 g,IK hu I2 g ry λ w' s3 I3 rw'=>⟨v,H2,I3,rw',q2⟩⟩
theorem Iq (hu:X.A.units + 1 < cLine) (hi:PE X i ty) (ho:PE X o td):PC X .NotIn i o (LB ty td):=by
 intro pins s σ H Q I h
 refine thn (hi pins s σ H _ I h) λ iv s1 ⟨y,H1,I1,ry,q1⟩=>thn (ho pins s1 σ H1 _ I1 q1) λ u s2 ⟨x,H2,I2,rx,a,ov,ex,g,q2⟩=>?_
 subst ex
 obtain rfl:u=Value.ref a:=rx
 exact LV hu I2 g ry λ s3 I3=>⟨.bl (!ov.isSome),H2,I3,rfl,q2⟩
theorem oK (hu:X.A.units + 1 < cLine) (ho:PE X o td) (hi:PE X i ty) (hv:PE X value tv) (hs:swapsWith value (some (.Subscript o i pos')) pos.line X.env=pure false) :
  PS X (.Assign [.Subscript o i pos'] value pos) (NT td ty tv):=by
 intro pins s σ H D I h
 refine wpAny_Assign_Subscript (thn (hv pins s σ H _ I h) λ r s1 ⟨v,H1,I1,rv,q1⟩=>thn (ho pins s1 σ H1 _ I1 q1) λ u s2 ⟨x,H2,I2,rx,q2⟩=>thn (hi pins s2 σ H2 _ I2 q2) λ iv s3 ⟨y,H3,I3,ry,a,H4,ex,g,q3⟩=>?_) hs
 subst ex
 obtain rfl:u=Value.ref a:=rx
 exact HS hu I3 g ry rv λ s4 I4=>⟨σ,H4,I4,q3⟩
end
theorem JD {P:Program} {w:World} {H:Hp} (h:Heap) (hb:sysModules < h.objs.size):bF P w H (h.push { cls:=.type "dict",data:=.dict #[] }) h.objs.size (.dK []) :=
 ⟨Nat.zero_le _,beq_eq_false_iff_ne.mpr (Ne.symm (Nat.ne_of_lt hb)),[],.nil,Heap.DictOf.new h⟩
def MC:TE:=λ _ H Q=>∀ p,H p=none->Q (.ref p) (upd H p (.dK []))
section
variable {X:Cx} {pos:Pos}
theorem mh:PE X (.Dict [] [] pos) MC:=λ pins s σ H Q I h =>
 wpAny_Dict_empty ⟨.ref s.heap.objs.size,_,I.laid (a:=s.heap.objs.size) (o:=.dK []) (t':=s.toks) (λ _ _ q=>Heap.get?_push_of_some _ q) (Nat.le_refl _) (JD s.heap I.big),rfl,h _ (I.hok.fresh (Nat.le_refl _))⟩
end
def fX (kvs more:List (Key × V)):List (Key × V):=more.foldl (λ acc kv=>putK acc kv.1 kv.2) kvs
theorem KV.merge:∀ {more:List (Key × V)} {rs:List (Key × Value)} {kvs:List (Key × V)} {vs:List (Key × Value)},KV more rs->KV kvs vs->KV (fX kvs more) (merged vs rs):=by
 intro more rs kvs vs r
 unfold KV at r
 induction r generalizing kvs vs with
 | nil=>intro q;exact q
 | @cons p q ps qs h t ih =>
  intro r0
  have e:KV (putK kvs p.1 p.2) (stored vs q.1 q.2):=by
   have:=r0.put p.1 h.2
   rw [← h.1];exact this
  exact ih e
theorem iJ:∀(more kvs:List (Key × V)),(fX kvs more).length ≤ kvs.length + more.length
 | [],kvs=>by show kvs.length ≤ kvs.length + 0;omega
 | p :: r,kvs=>by
  have h1:=iJ r (putK kvs p.1 p.2)
  have h2:=cV kvs p.1 p.2
  show(fX (putK kvs p.1 p.2) r).length ≤ _
  rw [List.length_cons];omega
structure M1 (X:Cx) (o:Expr) (m:Str) (apos:Pos) (e:Expr) (cpos:Pos):Prop where
 base:attributeBase o m X.env (eval o X.env)=eval o X.env
 few:((backTo cpos (starEach [e] X.env)).all (λ x=>!x.1) &&(backToKw cpos (keywordEach [] X.env)).all (λ x=>x.1.isSome)
  && decide (([e]:List Expr).length +([]:List Keyword).length +(if ([]:List Keyword).isEmpty then 0 else 1) < 30))=true
 line:(apos.endLine == cpos.line)=true
 trees:backTo cpos (starEach [e] X.env) = [(false,eval e X.env)]
structure M2 (X:Cx) (o:Expr) (m:Str) (apos:Pos) (e f:Expr) (cpos:Pos):Prop where
 base:attributeBase o m X.env (eval o X.env)=eval o X.env
 few:((backTo cpos (starEach [e,f] X.env)).all (λ x=>!x.1) &&(backToKw cpos (keywordEach [] X.env)).all (λ x=>x.1.isSome)
  && decide (([e,f]:List Expr).length +([]:List Keyword).length +(if ([]:List Keyword).isEmpty then 0 else 1) < 30))=true
 line:(apos.endLine == cpos.line)=true
 trees:backTo cpos (starEach [e,f] X.env) = [(false,eval e X.env),(false,eval f X.env)]
def IsD (H:Hp) (a:Addr):Prop:=(∃ kvs,Rd H a (.dK kvs)) ∨ ∃ kvs,Rd H a (.dT kvs)
theorem yh {X:Cx} {pins:List (Addr × Obj)} {σ:St} {H:Hp} {s:Shared} {a:Addr} (I:Inv X pins σ H s) (d:IsD H a) :
  s.TypeIs (.ref a) "dict" /\(∀ b,Value.ref a = .ref b->∃ ob,s.heap.get? b=some ob /\ ob.dict=none) /\(a == sysModules)=false:=by
 rcases d with⟨kvs,e⟩ |⟨kvs,e⟩
 ·obtain⟨_,hd,vs,_,dd⟩:=mQ I.hok e
  refine⟨dd.typeIs,λ b q=>?_,hd⟩
  cases q
  obtain⟨ob,_,_,h1,h2,_⟩:=dd
  exact⟨ob,h1,h2.2.1⟩
 ·obtain⟨_,hd,xs,_,dd⟩:=uZ I.hok e
  refine⟨dd.typeIs,λ b q=>?_,hd⟩
  cases q
  obtain⟨ob,_,_,h1,h2,_⟩:=dd
  exact⟨ob,h1,h2.2.1⟩
section
variable {X:Cx} {pins:List (Addr × Obj)} {σ:St} {H:Hp} {s:Shared} {a:Addr} {y d:V} {u r:Value} {o:Option V} {A:Around} {E:Value->Shared->Prop}
theorem Mz {Q:Value->Shared->Prop} (hu:A.units + 1 < cLine) (I:Inv X pins σ H s) (g:gb H a y o) (ry:RelV y u) (rd:RelV d r) (h:∀ w' s',Inv X pins σ H s'->RelV (o.getD d) w'->Q w' s') :
  wpAny (model X.prog X.w) A (call (.builtin "dict.get") [.ref a,u,r]) Q E s:=by
 rcases g with⟨kvs,k,e,ey,l⟩ |⟨kvs,k,b,e,ey,eb,l⟩
 ·subst ey
  obtain⟨z,hd,vs,rel,dd⟩:=mQ I.hok e
  refine call_meetsIn PySem.F.slot_dict_get dd.typeIs PySem.F.entry_dict_get (PySem.F.args_dict_get_3 _ _ _) (meets_dict_get_default (bD X.prog X.w) a (mU ry) hd r) ⟨_,dd.mapOf,h _ _ (I.tok _) ?_⟩
  rw [l]
  exact(rel.val k).getD rd
 ·subst ey
  cases (show u=Value.ref b from ry)
  obtain⟨z,hd,xs,rel,dd⟩:=uZ I.hok e
  refine call_meetsIn PySem.F.slot_dict_get dd.typeIs PySem.F.entry_dict_get (PySem.F.args_dict_get_3 _ _ _) (meetsH_dict_get_default (tupleKind (bD X.prog X.w)) a b hd r) ⟨tupleKind_room_in1 hu,k,xs,ua I.hok eb,dd,h _ _ (I.tok _) ?_⟩
  rw [l]
  exact(rel.val k).getD rd
end
def Nn (td ty tx:TE):TE:=λ σ H Q=>td σ H λ x H1=>∃ a,x = .ref a /\ IsD H1 a /\ ty σ H1 λ y H2=>tx σ H2 λ z H3=>∃ o,gb H3 a y o /\ Q (o.getD z) H3
def Mf (td ty:TE):TE:=λ σ H Q=>td σ H λ x H1=>∃ a,x = .ref a /\ IsD H1 a /\ ty σ H1 λ y H2=>∃ kvs k v,H2 a=some (.dK kvs) /\ y=kV k /\ aZ kvs k=some v /\ Q v (upd H2 a (.dK (bR kvs k)))
section
variable {X:Cx} {o e f:Expr} {apos cpos:Pos} {td ty tx:TE}
theorem Kg (hu:X.A.units + 1 < cLine) (ho:PE X o td) (he:PE X e ty) (hf:PE X f tx) (m:M2 X o "get" apos e f cpos):PE X (.Call (.Attribute o "get" apos) [e,f] [] cpos) (Nn td ty tx):=by
 intro pins s σ H Q I h
 refine wpAny_Call_method m.base m.few m.line PySem.F.plainAttrs_dict PySem.F.slot_dict_get PySem.F.type_dict_get (thn (ho pins s σ H _ I h) λ u s1 ⟨x,H1,I1,rx,a,ex,d,q1⟩=>?_)
 subst ex
 obtain rfl:u=Value.ref a:=rx
 obtain⟨t1,t2,_⟩:=yh I1 d
 refine⟨t1,t2,?_⟩
 rw [m.trees]
 refine Calls.callWith_builtin rfl (Calls.evalArgs_plain (Calls.spliced_cons (thn (he pins s1 σ H1 _ I1 q1) λ iv s2 ⟨y,H2,I2,ry,q2⟩ =>
  Calls.spliced_cons (thn (hf pins s2 σ H2 _ I2 q2) λ fv s3 ⟨z,H3,I3,rz,ov,g,q3⟩=>Calls.spliced_nil ?_))))
 exact Mz hu I3 g ry rz λ w' s4 I4 rw'=>⟨_,H3,I4,rw',q3⟩
theorem pD (ho:PE X o td) (he:PE X e ty) (m:M1 X o "pop" apos e cpos):PE X (.Call (.Attribute o "pop" apos) [e] [] cpos) (Mf td ty):=by
 intro pins s σ H Q I h
 refine wpAny_Call_method m.base m.few m.line PySem.F.plainAttrs_dict PySem.F.slot_dict_pop PySem.F.type_dict_pop (thn (ho pins s σ H _ I h) λ u s1 ⟨x,H1,I1,rx,a,ex,d,q1⟩=>?_)
 subst ex
 obtain rfl:u=Value.ref a:=rx
 obtain⟨t1,t2,_⟩:=yh I1 d
 refine⟨t1,t2,?_⟩
 rw [m.trees]
 refine Calls.callWith_builtin rfl (Calls.evalArgs_plain (Calls.spliced_cons (thn (he pins s1 σ H1 _ I1 q1) λ iv s2 ⟨y,H2,I2,ry,kvs,k,v,ea,ey,l,q2⟩=>Calls.spliced_nil ?_)))
 subst ey
 exact OG I2 ea ry l (.inl rfl) λ w' s3 I3 rw'=>⟨v,_,I3,rw',q2⟩
end
section
variable {X:Cx} {pins:List (Addr × Obj)} {σ:St} {H:Hp} {s:Shared} {a:Addr} {kvs:List (Key × V)} {A:Around} {E:Value->Shared->Prop}
theorem Ko {Q:Value->Shared->Prop} (I:Inv X pins σ H s) (e:Rd H a (.dK kvs)) (h:∀ p s',H p=none->Inv X pins σ (upd H p (.dK kvs)) s'->Q (.ref p) s'):wpAny (model X.prog X.w) A (call (.type "dict") [.ref a]) Q E s:=by
 obtain⟨z,hd,vs,rel,dd⟩:=mQ I.hok e
 refine kt_call_dict hd dd (by rw [← rel.length];exact z) λ h' dd' hs=>?_
 refine h _ _ (I.hok.fresh (Nat.le_refl _)) (I.laid (a:=s.heap.objs.size) (o:=.dK kvs) (t':=s.toks) (λ b q hq=>?_) (Nat.le_refl _) (lM z (beq_eq_false_iff_ne.mpr (Ne.symm (Nat.ne_of_lt I.big))) rel dd'))
 exact(hs.2 b (Nat.ne_of_lt (Heap.lt_size hq))).trans (Heap.get?_push_of_some _ hq)
end
open PySem PySem.Spec PyProof.Rows
section
variable {X:Cx}
theorem sP:gG X (.builtin "len") (λ xs H Q=>∃ a kvs,xs = [V.ref a] /\ H a=some (.dK kvs) /\ Q (.int kvs.length) H):=by
 intro pins s σ H xs us Q I r h
 obtain⟨a,kvs,rfl,ha,q⟩:=h
 obtain⟨u,rfl,ru⟩:=vals1 r
 cases ru
 exact Od I (.inl ha) λ t s' I'=>⟨.int kvs.length,H,I',⟨t,rfl⟩,q⟩
end
section
variable {κ:Type} [DecidableEq κ]
theorem JR {kvs:List (κ × V)} {k:κ} (h:aZ kvs k=none):¬ k ∈ kvs.map (·.1):=by
 intro m
 obtain⟨p,hp,e⟩:=List.mem_map.mp m
 have q:(kvs.any λ kv=>decide (kv.1=k))=true:=List.any_eq_true.mpr ⟨p,hp,decide_eq_true e⟩
 rw [iP,h] at q
 exact absurd q (by simp)
theorem D3:∀ {l:List κ} {k:κ},l.Nodup->¬ k ∈ l->(l ++ [k]).Nodup
 | [],k,_,_=>by simp
 | a :: r,k,h,hk=>by
  obtain⟨h1,h2⟩:=List.nodup_cons.mp h
  show(a ::(r ++ [k])).Nodup
  refine List.nodup_cons.mpr ⟨λ m=>?_,D3 h2 λ m=>hk (List.mem_cons.mpr (Or.inr m))⟩
  rcases List.mem_append.mp m with q | q
  ·exact h1 q
  ·exact hk (List.mem_cons.mpr (Or.inl (List.mem_singleton.mp q).symm))
theorem L7 {kvs:List (κ × V)} {k:κ} (v:V) (hn:(kvs.map (·.1)).Nodup) (h:aZ kvs k=none):((putK kvs k v).map (·.1)).Nodup:=by
 rw [JZ v h,List.map_append]
 exact D3 hn (JR h)
theorem Ik {p:κ × V} {r:List (κ × V)} {k:κ} (e:p.1=k):bR (p :: r) k=bR r k:=by
 unfold bR
 rw [List.filter_cons,if_neg (by simp [e])]
theorem IC {p:κ × V} {r:List (κ × V)} {k:κ} (e:¬ p.1=k):bR (p :: r) k=p :: bR r k:=by
 unfold bR
 rw [List.filter_cons,if_pos (by simp [e])]
theorem Iz {kvs:List (κ × V)} {k:κ} {p:κ × V} (h:p ∈ bR kvs k):p ∈ kvs:=(List.mem_filter.mp h).1
theorem wV:∀ {kvs:List (κ × V)} {k:κ},(kvs.map (·.1)).Nodup->((bR kvs k).map (·.1)).Nodup
 | [],_,_=>List.nodup_nil
 | p :: r,k,h=>by
  have h:(p.1 :: r.map (·.1)).Nodup:=h
  obtain⟨h1,h2⟩:=List.nodup_cons.mp h
  by_cases e:p.1=k
  ·rw [Ik e]
   exact wV h2
  ·rw [IC e]
   show(p.1 ::(bR r k).map (·.1)).Nodup
   refine List.nodup_cons.mpr ⟨λ m=>h1 ?_,wV h2⟩
   obtain⟨q,hq,eq⟩:=List.mem_map.mp m
   exact List.mem_map.mpr ⟨q,Iz hq,eq⟩
end
end L2
namespace Chk
def T (n:Nat):Nat:=n * 128 % 2 ^ 64 + n / 2 ^ 57
def D (n:Nat):Nat:=if n * 2 ≥ 2 ^ 64 then n * 2 - 2 ^ 64 + 1 else n * 2
theorem LF:∀ a b:Nat,(a ^^^ b) + 2 * (a &&& b)=a + b:=by
 intro a
 induction a using Nat.strongRecOn with
 | ind a ih =>
  intro b
  by_cases ha:a=0
  ·subst ha;simp
  ·have h:=ih (a / 2) (by omega) (b / 2)
   have e1:(a ^^^ b) / 2=a / 2 ^^^ b / 2:=Nat.xor_div_two
   have e2:(a &&& b) / 2=a / 2 &&& b / 2:=Nat.and_div_two
   have m0:(a ^^^ b) % 2 =(a % 2) ^^^ (b % 2):=by
    have:=Nat.xor_mod_two_pow (a:=a) (b:=b) (n:=1)
    simpa using this
   have m1:(a ^^^ b) % 2 =(a + b) % 2:=by
    rw [m0]
    rcases Nat.mod_two_eq_zero_or_one a with h1 | h1 <;> rcases Nat.mod_two_eq_zero_or_one b with h2 | h2 <;> rw [h1,h2,Nat.add_mod,h1,h2] <;> rfl
   have m2:(a &&& b) % 2 =(a % 2) &&&(b % 2):=by
    have:=Nat.and_mod_two_pow (a:=a) (b:=b) (n:=1)
    simpa using this
   have m3:(a % 2) &&&(b % 2)=if a % 2=1 /\ b % 2=1 then 1 else 0:=by
    rcases Nat.mod_two_eq_zero_or_one a with h1 | h1 <;> rcases Nat.mod_two_eq_zero_or_one b with h2 | h2 <;> rw [h1,h2] <;> rfl
   rw [m3] at m2
   rw [← e1,← e2] at h
   split at m2 <;> omega
def stp (c n:Nat):Nat:=T c ^^^ n
def chk (l:List Nat):Nat:=l.foldl stp 0
theorem Gm {a b n:Nat} (h:a ^^^ n=b ^^^ n):a=b:=by
 have:(a ^^^ n) ^^^ n =(b ^^^ n) ^^^ n:=by rw [h]
 rwa [Nat.xor_assoc,Nat.xor_assoc,Nat.xor_self,Nat.xor_zero,Nat.xor_zero] at this
theorem vD {a b n:Nat} (h:n ^^^ a=n ^^^ b):a=b:=Gm (n:=n) (by rw [Nat.xor_comm a,Nat.xor_comm b];exact h)
end Chk
namespace L2
open PySem PySem.Spec PyProof.Rows
section
variable {X:Cx}
theorem eB:OpR X (binaryOp .FloorDiv) (rI (λ _ j=>0 < j /\ j.natAbs.log2 < 9000) λ i j=>.int (i / j)):=opI λ i j _ _ _ _ _ hc q=>by
 have h1:(0:Int) < j:=hc.1
 exact floordiv_int (by omega) (by rw [Int.fdiv_eq_ediv_of_nonneg i (by omega)];exact q) (.inl (PyProof.noPylong_of_log2 hc.2))
theorem kZ {a b n:Int} {j1 j2 p1 p2 pos} (h:0 ≤ b /\ b ≤ 1000000 /\ a.natAbs < 2 ^ 64:=by decide) (e:a ^ b.toNat=n:=by first | rfl | decide +kernel) :
  PE X (.BinOp (.Constant (.int a) j1 p1) .Pow (.Constant (.int b) j2 p2) pos) (tC (.int n)):=λ pins s σ H Q I hw =>
 aI MY az az pins s σ H Q I ⟨_,_,rfl,rfl,h,by subst e;exact hw⟩
def Mu:V->Option Value
 | .ty n=>some (.type n)
 | .ref a=>some (.ref a)
 | _=>none
theorem eT:gG X (.builtin "isinstance") (λ xs H Q=>∃ x c cv t b,xs = [x,c] /\ Mu c=some cv /\ jI X.K H x t /\ PySem.W.kitOne X.K t cv=some b /\ Q (.bl b) H):=by
 rintro pins s σ H xs us Q I r ⟨x,c,cv,t,b,rfl,hc,ty,e,q⟩
 obtain⟨u,v,rfl,ru,rv⟩:=vals2 r
 have hv:v=cv:=by
  cases c <;> simp [Mu] at hc <;> subst hc <;> exact rv
 subst hv
 exact Hw I ru ty e λ tk=>⟨.bl b,H,I.tok tk,rfl,q⟩
end
theorem Ag {c A B:Prop} [Decidable c] (hc:c) (h:A):if decide c=true then A else B:=by
 rw [if_pos (decide_eq_true hc)];exact h
theorem zl {c A B:Prop} [Decidable c] (hc:¬ c) (h:B):if decide c=true then A else B:=by
 rw [if_neg (by rw [decide_eq_false hc];decide)];exact h
open PySem
def clos (cells:List (Str × Addr)):List (Str × NameKind)->List (Str × Addr)->List (Str × Addr)
 | [],acc=>acc
 |(n,k) :: r,acc=>clos cells r (if k == .free then(n,(cells.lookup n).getD 0) :: acc else acc)
theorem sG {env:Env}:∀(l:List (Str × NameKind)) (acc:List (Str × Addr)),(∀ y ∈ l,y.2 = .free->∃ c,env.cells.lookup y.1=some c) →
  (forIn l acc λ(x:Str × NameKind) (cs:List (Str × Addr))=>if (x.2 == NameKind.free)=true then do let a ← cellOf env x.1;pure (ForInStep.yield ((x.1,a) :: cs)) else pure (ForInStep.yield cs):Sem (List (Str × Addr)))=pure (clos env.cells l acc)
 | [],acc,_=>by simp only [List.forIn_nil];rfl
 |(n,k) :: r,acc,h=>by
  simp only [List.forIn_cons]
  cases hk:(k == NameKind.free) with
  | false =>
   simp only [Bool.false_eq_true,if_false]
   have ih:=sG (env:=env) r acc λ y hy=>h y (List.mem_cons_of_mem _ hy)
   simp only [pure_bind,ih,clos,hk,Bool.false_eq_true,if_false]
  | true =>
   obtain⟨c,hc⟩:=h (n,k) List.mem_cons_self (by simpa using hk)
   have e:cellOf env n=pure c:=by
    unfold cellOf;rw [show env.cells.lookup n=some c from hc]
   simp only [if_true,e,pure_bind]
   have ih:=sG (env:=env) r ((n,c) :: acc) λ y hy=>h y (List.mem_cons_of_mem _ hy)
   rw [ih]
   simp only [clos,hk,if_true]
   rw [show env.cells.lookup n=some c from hc];rfl
theorem rR {scope:Scope} {env:Env} (h:∀ y ∈ scope.names,y.2 = .free->∃ c,env.cells.lookup y.1=some c):closureFor scope env=pure (clos env.cells scope.names []):=by
 have:=sG (env:=env) scope.names [] h
 unfold closureFor
 simp only [bind_pure]
 exact this
theorem Cm {cells:List (Str × Addr)}:∀ {names:List (Str × NameKind)} {acc:List (Str × Addr)},(∀ y ∈ names,y.2 = .free->∃ c,cells.lookup y.1=some c)->(∀ x c,acc.lookup x=some c->cells.lookup x=some c) →
  ∀ x c,(clos cells names acc).lookup x=some c->cells.lookup x=some c
 | [],_,_,ha,x,c,h=>ha x c h
 |(n,k) :: r,acc,hn,ha,x,c,h=>by
  refine Cm (names:=r) (λ y hy=>hn y (List.mem_cons_of_mem _ hy)) ?_ x c h
  intro x c h
  split at h
  ·rename_i hk
   obtain⟨d,hd⟩:=hn (n,k) List.mem_cons_self (by simpa using hk)
   rw [show cells.lookup n=some d from hd,List.lookup_cons] at h
   split at h
   ·rename_i e
    rw [eq_of_beq e,show cells.lookup n=some d from hd];exact h
   ·exact ha x c h
  ·exact ha x c h
theorem xh {cells:List (Str × Addr)}:∀ {names:List (Str × NameKind)} {acc:List (Str × Addr)} {x:Str},((x,NameKind.free) ∈ names ∨ ∃ c,acc.lookup x=some c)->∃ c,(clos cells names acc).lookup x=some c
 | [],acc,x,h=>by
  rcases h with h | h
  ·cases h
  ·exact h
 |(n,k) :: r,acc,x,h=>by
  refine xh (names:=r) ?_
  rcases h with h |⟨c,h⟩
  ·rcases List.mem_cons.mp h with h | h
   ·injection h with h1 h2
    subst h1;subst h2
    exact .inr ⟨(cells.lookup x).getD 0,by simp [List.lookup_cons]⟩
   ·exact .inl h
  ·right
   split
   ·rw [List.lookup_cons]
    split
    ·exact⟨_,rfl⟩
    ·exact⟨c,h⟩
   ·exact⟨c,h⟩
theorem mem_of_lookup {α:Type} {x:Str} {a:α}:∀ {l:List (Str × α)},l.lookup x=some a->(x,a) ∈ l
 | [],h=>by simp at h
 |(n,k) :: r,h=>by
  rw [List.lookup_cons] at h
  split at h
  ·rename_i e
   injection h with h
   rw [eq_of_beq e,h];exact List.mem_cons_self
  ·exact List.mem_cons_of_mem _ (mem_of_lookup h)
theorem oM {env:Env} {x:Str}:∀(names:List (Str × NameKind)),
  (names.map λ(n,k)=>if (k == NameKind.free && env.scope.kind == .function && env.kindOf n == some .cell) then(n,NameKind.cell) else(n,k)).lookup x =
   (names.lookup x).map λ k=>if (k == NameKind.free && env.scope.kind == .function && env.kindOf x == some .cell) then NameKind.cell else k
 | []=>rfl
 |(n,k) :: r=>by
  have ih:=oM (env:=env) (x:=x) r
  simp only [List.map_cons]
  by_cases e:x=n
  ·subst e
   split <;> rename_i hc
   ·simp only [List.lookup_cons,beq_self_eq_true,Option.map_some,hc,if_true]
   ·simp only [List.lookup_cons,beq_self_eq_true,Option.map_some]
    rw [if_neg hc]
  ·have e':(x == n)=false:=by simpa using e
   split <;> simp only [List.lookup_cons,e'] <;> exact ih
open PySem PySem.Spec PyProof.Rows
theorem rJ {a b n:Nat} (h1:a < n) (h2:n ≤ b):a ≠ b:=by omega
def Cx.comp (X:Cx) (scope:Scope) (N:List Str) (C:Addr) (s₀:Shared) (H₀:Hp) (ex:List Addr):Cx :=
 {X with N:=N,s₀:=s₀,H₀:=H₀,env:=compEnvC scope (clos X.env.cells scope.names []) C X.env,outer:=X.stack,stack:=X.stack,ex:=ex,fn:=λ _=>false,pn:=[] }
def st0 (k:Nat) (cap:List Nat) (σ:St):St:=List.replicate k none ++ cap.map λ j=>(σ[j]?).getD none
def yt (XN:List Str) (fs sc:Scope) (N:List Str) (k:Nat) (cap:List Nat):Bool :=
 decide (sc.kind = .function) && sc.names.all (fun y=>decide (y.2 ≠ .cell)) && sc.names.all (fun y=>decide (y.2 ≠ .local) || decide (sc.names.lookup y.1 = some .local)) &&
 sc.names.all (λ y=>decide (y.2 ≠ .free) || decide (fs.names.lookup y.1=some .cell)) && decide (N.length=k + cap.length) &&
 (cap.zip (N.drop k)).all (λ p=>decide (XN[p.1]? = some p.2) && decide (sc.names.lookup p.2=some .free))
structure mE (XN:List Str) (fs sc:Scope) (N:List Str) (k:Nat) (cap:List Nat):Prop where
 kind:sc.kind = .function
 Iv:∀ y ∈ sc.names,y.2 ≠ .cell
 locs:∀ y ∈ sc.names,y.2 = .local->sc.names.lookup y.1 = some .local
 frees:∀ y ∈ sc.names,y.2 = .free->fs.names.lookup y.1=some .cell
 len:N.length=k + cap.length
 caps:∀ p ∈ cap.zip (N.drop k),XN[p.1]? = some p.2 /\ sc.names.lookup p.2=some .free
theorem mE.of {XN:List Str} {fs sc:Scope} {N:List Str} {k:Nat} {cap:List Nat} (h:yt XN fs sc N k cap=true):mE XN fs sc N k cap:=by
 unfold yt at h
 simp only [Bool.and_eq_true,List.all_eq_true,decide_eq_true_eq,Bool.or_eq_true] at h
 obtain⟨⟨⟨⟨⟨h1,h2⟩,h3⟩,h4⟩,h5⟩,h6⟩:=h
 exact⟨h1,h2,λ y hy e=>(h3 y hy).resolve_left λ z=>z e,λ y hy e=>(h4 y hy).resolve_left λ z=>z e,h5,h6⟩
section
variable {X:Cx} {pins:List (Addr × Obj)} {σ:St} {H:Hp} {s:Shared} {scope:Scope} {N:List Str} {k:Nat} {cap:List Nat} {fp:List Addr}
theorem Cx.As {x:Str} {C:Addr} {s₀:Shared} {H₀:Hp} {ex:List Addr} (hk:X.env.scope.kind = .function) :
  (X.comp scope N C s₀ H₀ ex).env.kindOf x =(scope.names.lookup x).map λ k=>if (k == NameKind.free && X.env.kindOf x == some .cell) then NameKind.cell else k:=by
 show(relabel scope X.env).names.lookup x=_
 unfold relabel
 rw [oM]
 congr 1
 funext k
 rw [hk];simp
theorem Inv.sC (I:Inv X pins σ H s) (c:mE X.N X.env.scope scope N k cap):∀ y ∈ scope.names,y.2 = .free->∃ d,X.env.cells.lookup y.1=some d :=
 λ y hy e=>I.ok.has y.1 (.inl (c.frees y hy e))
theorem Inv.block (I:Inv X pins σ H s) (c:mE X.N X.env.scope scope N k cap) (hf:∀ b ∈ fp,gY X pins H b) (ho:∀ b ∈ fp,∃ o,s.heap.get? b=some o) {D C:Addr} {s1:Shared}
  (hD:s.heap.objs.size ≤ D) (hC:s.heap.objs.size ≤ C) (hDC:D ≠ C) (hos:s1.os=s.os) (hg:s1.gens=s.gens) (keep:∀ b o,s.heap.get? b=some o->s1.heap.get? b=some o)
  (hl:s1.heap.get? D=some { cls:=.type "list",data:=.seq #[] }) (hn:s1.heap.Ns C λ _=>none) :
  Inv (X.comp scope N C s H fp) [] (st0 k cap σ) (upd H D (.lst [])) s1:=by
 have hfc:=I.sC c
 have lt:∀ b ∈ fp,b < s.heap.objs.size:=λ b hb=>let ⟨o,e⟩:=ho b hb;Heap.lt_size e
 have clt:∀ x d,X.env.cells.lookup x=some d->d < s.heap.objs.size:=λ x d e=>let ⟨v,o,q,_⟩:=I.cell x d e;Heap.lt_size q
 have sub:=Cm (cells:=X.env.cells) (names:=scope.names) (acc:=[]) hfc (λ x c h=>by simp at h)
 have fresh:∀ a,s.heap.objs.size ≤ a->H a=none:=λ a h=>I.hok.fresh h
 have kindf:∀ x,((X.comp scope N C s H fp).env.kindOf x=some .cell ∨(X.comp scope N C s H fp).env.kindOf x=some .free)->(x,NameKind.free) ∈ scope.names:=λ x h=>by
  rw [Cx.As I.ok.kind] at h
  cases e:scope.names.lookup x with
  | none=>rw [e] at h;simp at h
  | some kd =>
   have m:=mem_of_lookup e
   rw [e] at h
   cases kd with
   | free=>exact m
   | cell=>exact absurd rfl (c.Iv _ m)
   | «local»=>simp at h
   | globalExplicit=>simp at h
   | globalImplicit=>simp at h
 have ok:(X.comp scope N C s H fp).Ok :=
  {mod:=I.ok.mod
   kind:=c.kind
   glob:=I.ok.glob
   blt:=I.ok.blt
   above:=hC
   inj:=λ x y d hx hy=>I.ok.inj x y d (sub x d hx) (sub y d hy)
   has:=λ x h=>xh (.inl (kindf x h))
   cab:=λ x d h=>by cases h
   hd:=I.ok.hd
   frames:=I.ok.frames
   stk:=.inl rfl
   exf:=λ b hb=>⟨λ z=>rJ (lt b hb) hC z,λ x d hx=>(hf b hb).2.2.2.2.1 x d (sub x d hx)⟩
   bs:=I.bs
   bsz:=Nat.le_trans I.ok.bsz I.sz
   zw:=λ b o e hb=>by
    rcases(hf b hb).2.2.2.1 with h | h
    ·exact I.ok.zw b o e h
    ·exact absurd (Heap.lt_size (I.ok.bs b o e).1) (Nat.not_lt.mpr h)
   Ah:=λ b hb hm=>by
    rcases List.mem_cons.mp (I.Ca b hm) with h | h
    ·exact(hf b hb).2.1 h
    ·exact(hf b hb).2.2.1 h
   jG:=I.stack
   frf:=I.zL }
 have nD:H D=none:=fresh D hD
 refine
  {ok:=ok
   os:=hos
   bare:=by rw [hg];exact I.bare
   base:=Un.laid keep hD nD
   loc:=⟨_,hn,?_⟩
   cell:=λ x d h=>let ⟨v,q⟩:=I.cell x d (sub x d h);⟨v,q.keeps keep⟩
   free:=by
    show upd H D _ C=none
    rw [aq (Ne.symm hDC)];exact fresh C hC
   iN:=λ x d h=>by
    have h':=sub x d h
    rw [aq (rJ (clt x d h') hD)];exact I.iN x d h'
   pin:=λ p hp=>by cases hp
   hok:=I.hok.laid keep hD ⟨Nat.zero_le _,[],0,.nil,hl⟩
   len:=by
    show(st0 k cap σ).length=N.length
    unfold st0;rw [List.length_append,List.length_replicate,List.length_map,c.len] }
 intro i x v hi hv _
 have hi:N[i]? = some x:=hi
 unfold st0 at hv
 by_cases hik:i < k
 ·rw [List.getElem?_append_left (by rw [List.length_replicate];exact hik),List.getElem?_replicate,if_pos hik] at hv
  cases hv
 ·rw [List.getElem?_append_right (by rw [List.length_replicate];omega),List.length_replicate,List.getElem?_map] at hv
  cases ej:cap[i - k]? with
  | none=>rw [ej] at hv;cases hv
  | some j =>
   rw [ej] at hv
   have hv:(σ[j]?).getD none=some v:=Option.some.inj hv
   have hσ:σ[j]? = some (some v):=by
    cases e:σ[j]? with
    | none=>rw [e] at hv;cases hv
    | some z=>rw [e] at hv;exact congrArg some hv
   have hm:(j,x) ∈ cap.zip (N.drop k):=by
    refine List.mem_iff_getElem?.mpr ⟨i - k,?_⟩
    rw [List.getElem?_zip_eq_some]
    refine⟨ej,?_⟩
    rw [List.getElem?_drop,show k +(i - k)=i by omega];exact hi
   obtain⟨hX,hfree⟩:=c.caps _ hm
   have mf:=mem_of_lookup hfree
   have hcell:=c.frees _ mf rfl
   obtain⟨m,_,q⟩:=I.loc
   obtain⟨u,ru,lk⟩:=q j x v hX hσ (.inr (.inl hcell))
   refine⟨u,ru,.inr ⟨.inl ?_,?_⟩⟩
   ·rw [Cx.As I.ok.kind,hfree]
    have:(X.env.kindOf x == some NameKind.cell)=true:=by
     show(X.env.scope.names.lookup x == some NameKind.cell)=true
     rw [hcell];rfl
    simp [this]
   ·rcases lk with⟨hloc,_⟩ |⟨_,d,hd,hcv⟩
    ·have hloc:X.env.scope.names.lookup x = some .local:=hloc
     rw [hcell] at hloc;cases hloc
    ·obtain⟨d',hd'⟩:=xh (cells:=X.env.cells) (acc:=[]) (.inl mf:(x,NameKind.free) ∈ scope.names ∨ _)
     have:=sub x d' hd'
     rw [hd] at this;cases this
     exact⟨d,hd',hcv.keeps keep⟩
theorem Inv.LM {H':Hp} {σ':St} {s1:Shared} {C:Addr} {ps:List (Addr × Obj)} (I:Inv X pins σ H s) (hf:∀ b ∈ fp,gY X pins H b) (J:Inv (X.comp scope N C s H fp) ps σ' H' s1):Inv X pins σ H' s1 :=
 I.GB (ch:=fp) J.os J.base J.hok J.bare λ b hb=>⟨(hf b hb).2.2.2.1,(hf b hb).2.1,(hf b hb).2.2.2.2.1,(hf b hb).2.2.2.2.2⟩
end
def Lw (k:Nat) (cap:List Nat) (wi:TI) (g:TG) (tt:TT) (te:TE):TE:=λ σ H Q=>wi σ H λ J H1=>∀ D,H1 D=none->∃ W:Nat->Nat->St->Hp->List V->Prop,
 (∃ m,W 0 m (st0 k cap σ) (upd H1 D (.lst [])) []) /\ ∀ i m σ' H' ys,W i m σ' H' ys->(J.stop i H' /\ Q (.ref D) H') ∨
  (J.go i H' /\ ∃ N:St->Hp->List V->Prop,(∀ σ' H' ys',N σ' H' ys'->∃ m',m' < m /\ W (i + 1) m' σ' H' ys') /\ ∀ x H2,J.yld i H' x H2->g x σ' H2 λ σ3 H3=>tt σ3 H3 λ b H4=>if b=true then
   te σ3 H4 λ y H5=>H5 D=some (.lst ys) /\ ys.length < sizeLine /\ N σ3 (upd H5 D (.lst (ys ++ [y]))) (ys ++ [y])
   else N σ3 H4 ys)
def PK:TT:=λ _ H Q=>Q true H
def PTs (X:Cx) (ifs:List Expr) (t:TT):Prop :=
 ∀(pins:List (Addr × Obj)) (s:Shared) (σ:St) (H:Hp) (Q:Bool->Hp->Prop),Inv X pins σ H s->t σ H Q →
  wpAny (model X.prog X.w) X.A (forIn ifs true λ c r=>if r=true then do let ok ← isTrue c X.env (eval c X.env);pure (ForInStep.yield ok) else pure (ForInStep.yield r)) (TP X pins σ Q) X.xe s
theorem jz {X:Cx}:PTs X [] PK:=λ _ _ _ H _ I h=>wpAny_tests_nil ⟨H,I,h⟩
theorem iT {X:Cx} {c:Expr} {t:TT} (h:PT X c t):PTs X [c] t:=λ pins s σ H Q I hw=>wpAny_tests_one (h pins s σ H Q I hw)
section
variable {prog:Program} {w:World} {A:Around} {R:Result->Shared->Prop} {s:Shared}
theorem rV {elt target iter:Expr} {ifs:List Expr} {scope:Scope} {pos:Pos} {it acc:Value} {env:Env} (I:Nat->Shared->Prop)
  (turn:∀ n s,I n s->wpAny (model prog w) A (pyNext it) (λ r s₁=>match r with
   | none=>R (.ok .next) s₁
   | some v=>wpAny (model prog w) A (letOwnedTupleGo target it v) (λ _ s₀=>wpAny (model prog w) A (assign target env v) (λ _ s₂ =>
     wpAny (model prog w) A (forIn ifs true λ c r=>if r=true then do let ok ← isTrue c env (eval c env);pure (ForInStep.yield ok) else pure (ForInStep.yield r)) (λ ok s₃ =>
      if ok=true then wpAny (model prog w) A (eval elt env) (λ x s₄ =>
       wpAny (model prog w) A (call (.builtin "list.append") [acc,x]) (λ _ s₅=>∃ m,m < n /\ I m s₅) (notedBy (model prog w) A env λ e s'=>R (.error e) s') s₄) (notedBy (model prog w) A env λ e s'=>R (.error e) s') s₃
      else ∃ m,m < n /\ I m s₃) (notedBy (model prog w) A env λ e s'=>R (.error e) s') s₂) (notedBy (model prog w) A env λ e s'=>R (.error e) s') s₀) (notedBy (model prog w) A env λ e s'=>R (.error e) s') s₁) (notedBy (model prog w) A env λ e s'=>R (.error e) s') s)
  (n:Nat) (h:I n s) :
  codeAny (model prog w) A (.compLoop (.ListComp elt [⟨target,iter,ifs,0⟩] scope pos) 0 it acc env) R s:=by
 refine codeAny_loop rfl I (λ n s hI=>?_) n h
 show wpAny _ A ((compTurn (.ListComp elt [⟨target,iter,ifs,0⟩] scope pos) 0 it acc env).onRaise (λ x=>do noteFrame x env;theTreesLotGoes x)) _ _ s
 refine wpAny_noted ?_
 rw [compTurn_list]
 refine wpAny_bind (wpAny_standAt (wpAny_bind (wpAny_mono (turn n s hI) (λ r s₁ h₁=>?_) λ _ _ h'=>h')))
 cases r with
 | none=>exact wpAny_pure h₁
 | some v =>
  refine wpAny_bind (wpAny_mono h₁ (λ _ s₀ h₀=>?_) λ _ _ h'=>h')
  refine wpAny_bind (wpAny_mono h₀ (λ _ s₂ h₂=>wpAny_bind (wpAny_mono h₂ (λ ok s₃ h₃=>?_) λ _ _ h'=>h')) λ _ _ h'=>h')
  cases ok with
  | false=>exact wpAny_pure ⟨rfl,h₃⟩
  | true =>
   exact wpAny_bind (wpAny_bind (wpAny_mono h₃ (λ x s₄ h₄=>wpAny_bind (wpAny_mono h₄ (λ _ s₅ h₅=>wpAny_pure (wpAny_pure ⟨rfl,h₅⟩)) λ _ _ h'=>h')) λ _ _ h'=>h'))
end
section
variable {X:Cx} {scope:Scope} {N:List Str} {k:Nat} {cap:List Nat} {tg iter elt:Expr} {ifs:List Expr} {wi:TI} {g:TG} {tt:TT} {te:TE} {pos:Pos}
theorem Ak {E:Value->Shared->Prop} {use:Option (Value->Sem Unit)} {QQ:Value->Shared->Prop} {pins:List (Addr × Obj)} {s:Shared} {σ:St} {H:Hp} {it:Addr} {fp:List Addr} {tn:Nat->Heap->Prop} {J:It} {Q:VK}
  (hc:X.calm=true) (c:mE X.N X.env.scope scope N k cap)
  (hg:∀ C s₀ H₀ ex,PG (X.comp scope N C s₀ H₀ ex).nox tg g) (ht:∀ C s₀ H₀ ex,PTs (X.comp scope N C s₀ H₀ ex).nox ifs tt) (he:∀ C s₀ H₀ ex,PE (X.comp scope N C s₀ H₀ ex).nox elt te)
  (I:Inv X pins σ H s) (T:Turn X.prog X.w X.K tg J fp it tn) (st:tn 0 s.heap) (hf:∀ b ∈ fp,gY X pins H b)
  (h:∀ D,H D=none->∃ W:Nat->Nat->St->Hp->List V->Prop,(∃ m,W 0 m (st0 k cap σ) (upd H D (.lst [])) []) /\ ∀ i m σ' H' ys,W i m σ' H' ys->(J.stop i H' /\ Q (.ref D) H') ∨
   (J.go i H' /\ ∃ N:St->Hp->List V->Prop,(∀ σ' H' ys',N σ' H' ys'->∃ m',m' < m /\ W (i + 1) m' σ' H' ys') /\ ∀ x H2,J.yld i H' x H2->g x σ' H2 λ σ3 H3=>tt σ3 H3 λ b H4=>if b=true then
    te σ3 H4 λ y H5=>H5 D=some (.lst ys) /\ ys.length < sizeLine /\ N σ3 (upd H5 D (.lst (ys ++ [y]))) (ys ++ [y])
    else N σ3 H4 ys))
  (hQ:∀ D C s1 H',Inv X pins σ H' s1->Q (.ref D) H'->(∃ m,s1.heap.Ns C m)->H' C = none->X.s₀.heap.objs.size ≤ C->C ≠ X.env.locals->(∀ x c,X.env.cells.lookup x = some c->c ≠ C)->(∀ p ∈ X.pn ++ pins,p.1 ≠ C) →
   compPost (model X.prog X.w) X.A E use QQ (.ref D) C (.ok .next) s1) :
  wpAny (model X.prog X.w) X.A (newList []) (λ acc s₃=>wpAny (model X.prog X.w) X.A (newFunctionEnv scope X.env.globals (clos X.env.cells scope.names []) [] X.env.qual none .none (some X.env)) (λ cenv s₄ =>
   codeAny (model X.prog X.w) X.A (.compStart (.ListComp elt [⟨tg,iter,ifs,0⟩] scope pos) 0 (.ref it) acc { cenv with scope:=relabel scope X.env }) (compPost (model X.prog X.w) X.A E use QQ acc cenv.locals) s₄) E s₃) E s:=by
 refine wpAny_newObj_type (wpAny_newFunctionEnv c.Iv (by intro y hy;simp at hy) (λ h₁ hns₁ hsb₁=>?_) c.kind)
 dsimp only at hns₁ hsb₁ ⊢
 generalize hH2:s.heap.push { cls:=.type "list",dict:=none,data:=.seq ([]:List Value).toArray } = H2 at hns₁ hsb₁ ⊢
 have hC:H2.objs.size=s.heap.objs.size + 1:=by rw [← hH2,Heap.size_push]
 have hDC:s.heap.objs.size ≠ H2.objs.size:=by rw [hC];exact Nat.ne_of_lt (Nat.lt_succ_self _)
 have hle:s.heap.objs.size ≤ H2.objs.size:=by rw [hC];exact Nat.le_succ _
 have keep:∀ b o,s.heap.get? b=some o->h₁.get? b=some o:=λ b o e=>by
  exact hsb₁.extBut b o (rJ (Heap.lt_size e) hle) (Heap.get?_push_of_some _ (hH2 ▸ Heap.get?_push_of_some _ e))
 have hl:h₁.get? s.heap.objs.size=some { cls:=.type "list",data:=.seq #[] }:=hsb₁.extBut _ _ hDC (Heap.get?_push_of_some _ (hH2 ▸ Heap.get?_push_size _ rfl))
 have nD:H s.heap.objs.size=none:=I.hok.fresh (Nat.le_refl _)
 obtain⟨W,⟨m0,w0⟩,turn⟩:=h _ nD
 have ho:∀ b ∈ fp,∃ o,s.heap.get? b=some o:=λ b hb=>let ⟨o,e,_⟩:=T.obj _ _ st b hb;⟨o,e⟩
 have hCs:X.s₀.heap.objs.size ≤ H2.objs.size:=Nat.le_trans I.sz hle
 have hCl:H2.objs.size ≠ X.env.locals:=(rJ I.lt hle).symm
 have hCc:∀ x d,X.env.cells.lookup x=some d->d ≠ H2.objs.size:=λ x d e=>by
  obtain⟨v,o,q,_⟩:=I.cell x d e
  exact rJ (Heap.lt_size q) hle
 have hCp:∀ p ∈ X.pn ++ pins,p.1 ≠ H2.objs.size:=λ p hp=>by
  exact rJ (Heap.lt_size (I.pin p hp).1) hle
 have loop:∀ s₃:Shared,s₃ = { s with heap:=h₁,toks:=s.toks +([]:List (Str × Value)).length } →
   codeAny (model X.prog X.w) X.A (.compLoop (.ListComp elt [⟨tg,iter,ifs,0⟩] scope pos) 0 (.ref it) (.ref s.heap.objs.size) (compEnvC scope (clos X.env.cells scope.names []) H2.objs.size X.env))
    (compPost (model X.prog X.w) X.A E use QQ (.ref s.heap.objs.size) H2.objs.size) s₃:=by
  rintro s₃ rfl
  have I0:Inv (X.comp scope N H2.objs.size s H fp) [] (st0 k cap σ) (upd H s.heap.objs.size (.lst [])) { s with heap:=h₁,toks:=s.toks +([]:List (Str × Value)).length } :=
   I.block c hf ho (Nat.le_refl _) hle hDC rfl rfl keep hl (by simpa using hns₁)
  have stat:∀ {H':Hp} {ps:List (Addr × Obj)},(∀ b ∈ fp,H' b=none)->ps = []->∀ b ∈ fp,gY (X.comp scope N H2.objs.size s H fp).nox ps H' b:=λ hn hp b hb=>by
   subst hp
   exact⟨hn b hb,(I0.ok.exf b hb).1,I0.ok.Ah b hb,.inl hb,(I0.ok.exf b hb).2,λ p hp=>by cases hp⟩
  have nok:∀ b ∈ fp,upd H s.heap.objs.size (.lst []) b=none:=λ b hb=>by
   obtain⟨o,e⟩:=ho b hb
   rw [aq (rJ (Heap.lt_size e) (Nat.le_refl _))];exact(hf b hb).1
  refine rV (λ n s'=>∃ i σ' H' ys,Inv (X.comp scope N H2.objs.size s H fp).nox [] σ' H' s' /\ tn i s'.heap /\(∀ b ∈ fp,H' b=none) /\ W i n σ' H' ys) ?_ m0
   ⟨0,_,_,[],I0.pQ _,T.keep _ _ _ st λ b _ o e=>keep b o e,nok,w0⟩
  rintro n s' ⟨i,σ',H',ys,I',st',fr',w'⟩
  rcases turn i n σ' H' ys w' with⟨stop,q⟩ |⟨go,NN,hNN,step⟩
  ·refine wpAny_mono (T.done (X.comp scope N H2.objs.size s H fp).nox rfl rfl rfl hc i [] s' σ' H' (λ _ _=>False) I' (stat fr' rfl) st' stop) (λ r s4 ⟨hr,I4⟩=>?_) (λ _ _ x=>x.elim)
   subst hr
   exact hQ _ _ s4 H' (I.LM hf I4.C8) q (let ⟨m,hn,_⟩:=I4.loc;⟨m,hn⟩) I4.free hCs hCl hCc hCp
  ·refine wpAny_mono (T.item (X.comp scope N H2.objs.size s H fp).nox rfl rfl rfl hc i [] s' σ' H' (λ _ _=>False) I' (stat fr' rfl) st' go) (λ r s4 ⟨u,hr,h4⟩=>?_) (λ _ _ x=>x.elim)
   subst hr
   refine wpAny_mono h4 (λ _ s5 ⟨x,H5,I5,r5,y5,st5,fr5⟩=>?_) (λ _ _ x=>x.elim)
   have I5':=I5.pinned (stat fr5 rfl) (T.obj _ _ st5)
   refine wpAny_mono (hg _ _ _ _ _ s5 σ' H5 x u _ I5' r5 (step x H5 y5)) (λ _ s6 ⟨σ6,H6,I6,q6⟩=>?_) (λ _ _ x=>x.elim)
   refine wpAny_mono (ht _ _ _ _ _ s6 σ6 H6 _ I6 q6) (λ ok s7 ⟨H7,I7,q7⟩=>?_) (λ _ _ x=>x.elim)
   have again:∀ {H8:Hp} {s8:Shared} {ys8:List V},Inv (X.comp scope N H2.objs.size s H fp).nox ([] ++ tE fp s5.heap) σ6 H8 s8->NN σ6 H8 ys8 →
     ∃ m,m < n /\ ∃ i σ' H' ys,Inv (X.comp scope N H2.objs.size s H fp).nox [] σ' H' s8 /\ tn i s8.heap /\(∀ b ∈ fp,H' b=none) /\ W i m σ' H' ys:=λ {H8 s8 ys8} I8 n8=>by
    obtain⟨m',hm,w8⟩:=hNN _ _ _ n8
    refine⟨m',hm,i + 1,σ6,H8,ys8,I8.rO,T.keep _ _ _ st5 λ b hb o e=>(I8.pin (b,o) (List.mem_append_right _ (List.mem_append_right _ (kM hb e)))).1,λ b hb=>?_,w8⟩
    obtain⟨o,e,d⟩:=T.obj _ _ st5 b hb
    exact(I8.pin (b,o) (List.mem_append_right _ (List.mem_append_right _ (kM hb e)))).2.1
   cases ok with
   | false=>exact again I7 q7
   | true =>
    refine wpAny_mono (he _ _ _ _ _ s7 σ6 H7 _ I7 q7) (λ y s8 ⟨v,H8,I8,rv,hD,hlen,w8⟩=>?_) (λ _ _ x=>x.elim)
    refine wpAny_mono (g8 (X:=(X.comp scope N H2.objs.size s H fp).nox) _ s8 σ6 H8 (.ref s.heap.objs.size) [v] (.ref s.heap.objs.size) [y] (λ _ H9=>H9=upd H8 s.heap.objs.size (.lst (ys ++ [v]))) I8 rfl (.cons rv .nil) ⟨_,ys,v,rfl,rfl,hD,hlen,rfl⟩) (λ _ s9 ⟨_,H9,I9,_,e9⟩=>?_) (λ _ _ x=>x.elim)
    subst e9
    exact again I9 w8
 exact codeAny_compStart_list (loop _ rfl) (T.self _ 0 _ _ _ (T.keep _ _ _ st λ b _ o e=>keep b o e) (loop _ rfl))
theorem iw (hc:X.calm=true) (hco:yt X.N X.env.scope scope N k cap=true) (hi:PI X tg iter wi)
  (hg:∀ C s₀ H₀ ex,PG (X.comp scope N C s₀ H₀ ex).nox tg g) (ht:∀ C s₀ H₀ ex,PTs (X.comp scope N C s₀ H₀ ex).nox ifs tt) (he:∀ C s₀ H₀ ex,PE (X.comp scope N C s₀ H₀ ex).nox elt te)
  (hs:∀ x,foldedSetIterable iter X.env x=pure x:=by intro _;rfl):PE X (.ListComp elt [⟨tg,iter,ifs,0⟩] scope pos) (Lw k cap wi g tt te):=by
 intro pins s σ H Q I h
 have c:=mE.of hco
 rw [eval_ListComp]
 refine wpAny_comprehension_free (use:=none) (cl:=clos X.env.cells scope.names []) rfl hs (rR (I.sC c)) c.kind c.locs (thn (hi pins s σ H _ I h) λ xv s₁ h₁=>thn h₁ λ itv s₂ h₂=>?_)
 obtain⟨it,fp,tn,J,H2,e,I2,T,st,hf,q⟩:=h₂
 subst e
 exact Ak (use:=none) hc c hg ht he I2 T st hf q λ D C s1 H' I1 q1 ⟨m,hn⟩ hCn hCs hCl hCc hCp =>
  ⟨m,hn,λ h' hs'=>⟨.ref D,H',I1.turned (t':=s1.toks) (λ b o hb e=>hs'.extBut b o hb e) hCn hCl (.inr hCs) hCc hCp,rfl,q1⟩⟩
theorem ie {i:Nat} {x:Str} {pos' spos:Pos} (hN:X.N.Nodup) (hi':X.N[i]? = some x) (hx:Loc X.env.scope x) (hc:X.calm=true) (hco:yt X.N X.env.scope scope N k cap=true) (hi:PI X tg iter wi)
  (hg:∀ C s₀ H₀ ex,PG (X.comp scope N C s₀ H₀ ex).nox tg g) (ht:∀ C s₀ H₀ ex,PTs (X.comp scope N C s₀ H₀ ex).nox ifs tt) (he:∀ C s₀ H₀ ex,PE (X.comp scope N C s₀ H₀ ex).nox elt te)
  (hsw:swapsWith (.ListComp elt [⟨tg,iter,ifs,0⟩] scope pos) (some (.Name x pos')) spos.line X.env=pure true:=by rfl)
  (hs:∀ x,foldedSetIterable iter X.env x = pure x:=by intro _; rfl) (hf':X.fn x = true ∨ X.env.scope.names.lookup x = some .local:=by first | exact .inl rfl | exact .inr rfl | assumption) :
  PS X (.Assign [.Name x pos'] (.ListComp elt [⟨tg,iter,ifs,0⟩] scope pos) spos) (Kw (Lw k cap wi g tt te) (qb i)):=by
 intro pins s σ H D I h
 have c:=mE.of hco
 rw [exec_Assign_Name_used _ _ _ _ hsw]
 refine wpAny_bind (wpAny_standAt (wpAny_bind ?_))
 show wpAny _ X.A (do let _ ← comprehension (.ListComp elt [⟨tg,iter,ifs,0⟩] scope pos) scope X.env _ (newList []) false (eval iter X.env) (some (assign (.Name x pos') X.env))) _ _ s
 refine wpAny_bind (wpAny_mono (wpAny_comprehension_free (use:=some (assign (.Name x pos') X.env)) (Q:=λ _ s'=>SP X pins D .next s') (cl:=clos X.env.cells scope.names []) rfl hs (rR (I.sC c)) c.kind c.locs
  (thn (hi pins s σ H _ I h) λ xv s₁ h₁=>thn h₁ λ itv s₂ h₂=>?_)) (λ _ s' hq=>wpAny_pure (wpAny_pure hq)) λ _ _ e=>e)
 obtain⟨it,fp,tn,J,H2,e,I2,T,st,hf,q⟩:=h₂
 subst e
 refine Ak (use:=some (assign (.Name x pos') X.env)) (Q:=λ v H1=>qb i v σ H1 D.nx) hc c hg ht he I2 T st hf q λ L C s1 H' I1 q1 ⟨m,hn⟩ hCn hCs hCl hCc hCp=>?_
 show wpAny _ X.A (assign (.Name x pos') X.env (.ref L)) _ _ s1
 refine wpAny_assign_Name (Ax (v:=.ref L) I1 hN hi' hx rfl (λ s2 I3 ⟨a,sb,ha⟩=>⟨m,?_,λ h' hs'=>?_⟩) hf')
 ·refine hn.sameBut sb ?_
  rcases ha with z | z
  ·rw [z];exact hCl
  ·exact(hCc _ _ z).symm
 ·exact⟨_,H',I3.turned (t':=s2.toks) (λ b o hb e=>hs'.extBut b o hb e) hCn hCl (.inr hCs) hCc hCp,q1⟩
end
theorem jT {K:PySem.W.Frag} {a:Addr} (D:Addr) {xs:List V} {g:TG} {tt:TT} {te:TE} {σ:St} {H:Hp} {R:Hp->Prop} (Pv:Nat->St->Hp->List V->Prop) (h0:Pv 0 σ H []) (hl:∀ i σ H ys,i ≤ xs.length->Pv i σ H ys->SqL K H a xs)
  (hs:∀ i x σ H ys,xs[i]? = some x->Pv i σ H ys->g x σ H λ σ3 H3=>tt σ3 H3 λ b H4=>if b=true then
   te σ3 H4 λ y H5=>H5 D=some (.lst ys) /\ ys.length < sizeLine /\ Pv (i + 1) σ3 (upd H5 D (.lst (ys ++ [y]))) (ys ++ [y]) else Pv (i + 1) σ3 H4 ys) (hd:∀ σ H ys,Pv xs.length σ H ys->R H) :
  ∃ W:Nat->Nat->St->Hp->List V->Prop,(∃ m,W 0 m σ H []) /\ ∀ i m σ' H' ys,W i m σ' H' ys->((Itl K a).stop i H' /\ R H') ∨
   ((Itl K a).go i H' /\ ∃ N:St->Hp->List V->Prop,(∀ σ' H' ys',N σ' H' ys'->∃ m',m' < m /\ W (i + 1) m' σ' H' ys') /\ ∀ x H2,(Itl K a).yld i H' x H2->g x σ' H2 λ σ3 H3=>tt σ3 H3 λ b H4=>if b=true then
    te σ3 H4 λ y H5=>H5 D=some (.lst ys) /\ ys.length < sizeLine /\ N σ3 (upd H5 D (.lst (ys ++ [y]))) (ys ++ [y])
    else N σ3 H4 ys):=by
 refine⟨λ i m σ H ys=>m=xs.length - i /\ i ≤ xs.length /\ Pv i σ H ys,⟨xs.length,by simp,Nat.zero_le _,h0⟩,?_⟩
 rintro i m σ H ys ⟨rfl,hi,p⟩
 have q:=hl i σ H ys hi p
 by_cases hlt:i < xs.length
 ·refine .inr ⟨⟨xs,xs[i],q,by simp [hlt]⟩,Pv (i + 1),λ σ' H' ys' p'=>⟨xs.length -(i + 1),by omega,rfl,hlt,p'⟩,λ x H' y=>?_⟩
  obtain⟨e,y⟩:=y
  subst e
  exact hs i x σ _ ys (y xs q) p
 ·have e:i=xs.length:=by omega
  subst e
  exact .inl ⟨⟨xs,q,Nat.le_refl _⟩,hd σ H ys p⟩
theorem kP {lo:Int} {n:Nat} (D:Addr) {g:TG} {tt:TT} {te:TE} {σ:St} {H:Hp} {R:Hp->Prop} (Pv:Nat->St->Hp->List V->Prop) (h0:Pv 0 σ H [])
  (hs:∀ i σ H ys,i < n->Pv i σ H ys->g (.int (lo + i)) σ H λ σ3 H3=>tt σ3 H3 λ b H4=>if b=true then
   te σ3 H4 λ y H5=>H5 D=some (.lst ys) /\ ys.length < sizeLine /\ Pv (i + 1) σ3 (upd H5 D (.lst (ys ++ [y]))) (ys ++ [y]) else Pv (i + 1) σ3 H4 ys) (hd:∀ σ H ys,Pv n σ H ys->R H) :
  ∃ W:Nat->Nat->St->Hp->List V->Prop,(∃ m,W 0 m σ H []) /\ ∀ i m σ' H' ys,W i m σ' H' ys->((Itr lo n).stop i H' /\ R H') ∨
   ((Itr lo n).go i H' /\ ∃ N:St->Hp->List V->Prop,(∀ σ' H' ys',N σ' H' ys'->∃ m',m' < m /\ W (i + 1) m' σ' H' ys') /\ ∀ x H2,(Itr lo n).yld i H' x H2->g x σ' H2 λ σ3 H3=>tt σ3 H3 λ b H4=>if b=true then
    te σ3 H4 λ y H5=>H5 D=some (.lst ys) /\ ys.length < sizeLine /\ N σ3 (upd H5 D (.lst (ys ++ [y]))) (ys ++ [y])
    else N σ3 H4 ys):=by
 refine⟨λ i m σ H ys=>m=n - i /\ i ≤ n /\ Pv i σ H ys,⟨n,by simp,Nat.zero_le _,h0⟩,?_⟩
 rintro i m σ H ys ⟨rfl,hi,p⟩
 by_cases hlt:i < n
 ·refine .inr ⟨hlt,Pv (i + 1),λ σ' H' ys' p'=>⟨n -(i + 1),by omega,rfl,hlt,p'⟩,λ x H' y=>?_⟩
  obtain⟨e,y⟩:=y
  subst e y
  exact hs i σ _ ys hlt p
 ·have e:i=n:=by omega
  subst e
  exact .inl ⟨Nat.le_refl _,hd σ H ys p⟩
section
variable {X:Cx} {K:PySem.W.Frag}
theorem LD {es:List Expr} {k:Nat} {t:TGs} {n:Nat} {pos:Pos} (hK:X.K=K) (hc:X.calm=true) (h:PGs X es t) (hn:(assignEach es X.env).length=n:=by rfl) (hst:(assignEach es X.env).findIdx? (·.1)=none:=by rfl) :
  PG X (.Tuple es k pos) (MJ K n t):=by subst hK;exact jf hc h hn hst
theorem C7 (hK:X.K=K):IxR X (JX K):=by subst hK;exact cB
theorem DG (hK:X.K=K):IxR X (Na K):=by subst hK;exact cj
end
open PySem PySem.Spec PyProof.Rows
theorem ao.new {H:Hp} {p:Addr} {o:HO} (h:H p=none):ao H (upd H p o):=λ b u e=>by rw [aq (au e h)];exact e
open PySem PySem.Spec PyProof.Rows PySem.SeqAt
def eK (K:PySem.W.Frag) (H:Hp) (R:V->V->Bool->Prop) (x y:V) (b:Bool):Prop :=
 ∃(a c:Addr) (xs ys:List V) (e:Nat->Bool),x = .ref a /\ y = .ref c ∧
  ((SqL K H a xs /\ SqL K H c ys /\ xs.length=ys.length /\(∀(j:Nat) x' y',xs[j]? = some x'->ys[j]? = some y'->R x' y' (e j)) /\ b =(List.range xs.length).all e) ∨
   (SqL K H a xs /\ SqL K H c ys /\ xs.length ≠ ys.length /\ b=false) ∨
   (SqT K H a xs /\ SqT K H c ys /\(∀(j:Nat) x' y',xs[j]? = some x'->ys[j]? = some y'->R x' y' (e j)) /\ b =((List.range (min xs.length ys.length)).all e && xs.length == ys.length)))
def EqI (K:PySem.W.Frag) (H:Hp):Nat->V->V->Bool->Prop
 | 0=>λ x y b=>(iM x=true /\ iM y=true /\ b=eqV x y) ∨ ∃ a,x = .ref a /\ y = .ref a /\ b=true
 | n + 1=>λ x y b=>EqI K H n x y b ∨(x ≠ y /\ eK K H (EqI K H n) x y b)
section
variable {X:Cx} {pins:List (Addr × Obj)} {σ:St} {H:Hp} {s:Shared} {A:Around}
theorem qG {xs ys:List V} {us vs:List Value} {R:V->V->Bool->Prop} {e:Nat->Bool} (r:Vals xs us) (q:Vals ys vs) (he:∀(j:Nat) x' y',xs[j]? = some x'->ys[j]? = some y'->R x' y' (e j))
  (hR:∀ x y b u v,R x y b->RelV x u->RelV y v->EqAt A s u v b):∀ j (h1:j < us.toArray.size) (h2:j < vs.toArray.size),EqAt A s us.toArray[j] vs.toArray[j] (e j):=λ j h1 h2=>by
 have h1':j < us.length:=by simpa using h1
 have h2':j < vs.length:=by simpa using h2
 have l1:=r.length
 have l2:=q.length
 have ex:xs[j]? = some (xs[j]'(by omega)):=List.getElem?_eq_getElem (by omega)
 have ey:ys[j]? = some (ys[j]'(by omega)):=List.getElem?_eq_getElem (by omega)
 obtain⟨u,eu,ru⟩:=Vals.get r ex
 obtain⟨v,ev,rv⟩:=Vals.get q ey
 have e1:us.toArray[j]=u:=by
  have:=(List.getElem?_eq_some_iff.mp eu).2
  simpa using this
 have e2:vs.toArray[j]=v:=by
  have:=(List.getElem?_eq_some_iff.mp ev).2
  simpa using this
 rw [e1,e2]
 exact hR _ _ _ _ _ (he j _ _ ex ey) ru rv
theorem eK.rc {R:V->V->Bool->Prop} {x y:V} {b:Bool} {u v:Value} (I:Inv X pins σ H s) (hR:∀ x y b u v,R x y b->RelV x u->RelV y v->EqAt A.in1 s u v b) (hu:A.units < cLine)
  (h:eK X.K H R x y b) (rx:RelV x u) (ry:RelV y v):RcAt A s u v b:=by
 obtain⟨a,c,xs,ys,e,rfl,rfl,h⟩:=h
 cases rx
 cases ry
 rcases h with⟨h1,h2,hl,he,rfl⟩ |⟨h1,h2,hl,rfl⟩ |⟨h1,h2,he,rfl⟩
 ·obtain⟨us,r,p,_⟩:=I.list h1
  obtain⟨vs,q,p2,_⟩:=I.list h2
  have l1:=r.length
  have l2:=q.length
  have z:=RcAt.lists (A:=A) (e:=e) p.isList p2.isList (by simp;omega) hu (qG r q he hR)
  rw [show us.toArray.size=xs.length by simp;omega] at z
  exact z
 ·obtain⟨us,r,p,_⟩:=I.list h1
  obtain⟨vs,q,p2,_⟩:=I.list h2
  have l1:=r.length
  have l2:=q.length
  exact RcAt.lists_lengths p.isList p2.isList (by simp;omega) hu
 ·obtain⟨us,r,p,_⟩:=I.tuple h1
  obtain⟨vs,q,p2,_⟩:=I.tuple h2
  have l1:=r.length
  have l2:=q.length
  have z:=RcAt.tuples (A:=A) (e:=e) (show s.heap.IsTuple a us.toArray from p) (show s.heap.IsTuple c vs.toArray from p2) hu (qG r q he hR)
  rw [show us.toArray.size=xs.length by simp;omega,show vs.toArray.size=ys.length by simp;omega] at z
  exact z
theorem eK.Pd {R:V->V->Bool->Prop} {x y:V} {b:Bool} {u v:Value} (I:Inv X pins σ H s) (hR:∀ x y b u v,R x y b->RelV x u->RelV y v->EqAt A.in1 s u v b) (hu:A.units < cLine)
  (h:eK X.K H R x y b) (rx:RelV x u) (ry:RelV y v):RcNeAt A s u v (!b):=by
 obtain⟨a,c,xs,ys,e,rfl,rfl,h⟩:=h
 cases rx
 cases ry
 rcases h with⟨h1,h2,hl,he,rfl⟩ |⟨h1,h2,hl,rfl⟩ |⟨h1,h2,he,rfl⟩
 ·obtain⟨us,r,p,_⟩:=I.list h1
  obtain⟨vs,q,p2,_⟩:=I.list h2
  have l1:=r.length
  have l2:=q.length
  have z:=RcNeAt.lists (A:=A) (e:=e) p.isList p2.isList (by simp;omega) hu (qG r q he hR)
  rw [show us.toArray.size=xs.length by simp;omega] at z
  exact z
 ·obtain⟨us,r,p,_⟩:=I.list h1
  obtain⟨vs,q,p2,_⟩:=I.list h2
  have l1:=r.length
  have l2:=q.length
  exact RcNeAt.lists_lengths p.isList p2.isList (by simp;omega) hu
 ·obtain⟨us,r,p,_⟩:=I.tuple h1
  obtain⟨vs,q,p2,_⟩:=I.tuple h2
  have l1:=r.length
  have l2:=q.length
  have z:=RcNeAt.tuples (A:=A) (e:=e) (show s.heap.IsTuple a us.toArray from p) (show s.heap.IsTuple c vs.toArray from p2) hu (qG r q he hR)
  rw [show us.toArray.size=xs.length by simp;omega,show vs.toArray.size=ys.length by simp;omega] at z
  exact z
theorem EqI.at (I:Inv X pins σ H s):∀(n:Nat) {A:Around} {x y:V} {b:Bool} {u v:Value},A.units + n < cLine->EqI X.K H n x y b->RelV x u->RelV y v->EqAt A s u v b
 | 0,A,x,y,b,u,v,hu,h,rx,ry=>by
  rcases h with⟨fx,fy,rfl⟩ |⟨a,rfl,rfl,rfl⟩
  ·exact IE rx ry fx fy
  ·cases rx
   cases ry
   exact EqAt.same _
 | n + 1,A,x,y,b,u,v,hu,h,rx,ry=>by
  rcases h with h |⟨hne,h⟩
  ·exact EqI.at I n (by omega) h rx ry
  ·have z:=eK.rc (A:=A) I (λ x y b u v h rx ry=>EqI.at I n (A:=A.in1) (by show A.units + 1 + n < cLine;omega) h rx ry) (by omega) h rx ry
   obtain⟨a,c,xs,ys,e,rfl,rfl,_⟩:=h
   cases rx
   cases ry
   exact EqAt.of_refs (λ e=>hne (by rw [e])) z
def ML (K:PySem.W.Frag):R2:=λ x y H Q=>∃(n:Nat) (b:Bool),n ≤ 8 /\ eK K H (EqI K H n) x y b /\ Q (.bl b) H
def Pj (K:PySem.W.Frag):R2:=λ x y H Q=>∃(n:Nat) (b:Bool),n ≤ 8 /\ eK K H (EqI K H n) x y b /\ Q (.bl (!b)) H
theorem AA (hu:X.A.units + 64 < cLine):OpR X (compareOp .Eq) (ML X.K):=by
 rintro pins s σ H x y v u Q I rx ry ⟨n,b,hn,h,q⟩
 exact eK.rc (A:=X.A) I (λ x y b u v h rx ry=>EqI.at I n (A:=X.A.in1) (by show X.A.units + 1 + n < cLine;omega) h rx ry) (by omega) h rx ry X.prog X.w X.xe _ ⟨.bl b,H,I,rfl,q⟩
theorem m5 (hu:X.A.units + 64 < cLine):OpR X (compareOp .NotEq) (Pj X.K):=by
 rintro pins s σ H x y v u Q I rx ry ⟨n,b,hn,h,q⟩
 exact eK.Pd (A:=X.A) I (λ x y b u v h rx ry=>EqI.at I n (A:=X.A.in1) (by show X.A.units + 1 + n < cLine;omega) h rx ry) (by omega) h rx ry X.prog X.w X.xe _ ⟨.bl (!b),H,I,rfl,q⟩
end
theorem eK.EI {K:PySem.W.Frag} {H:Hp} {a c:Addr} {xs:List V} (h1:SqL K H a xs) (h2:SqL K H c xs) (hx:∀ x ∈ xs,EqI K H n x x true):eK K H (EqI K H n) (.ref a) (.ref c) true :=
 ⟨a,c,xs,xs,λ _=>true,rfl,rfl,.inl ⟨h1,h2,rfl,λ j x y e1 e2=>by
  rw [e1] at e2;cases e2
  exact hx x (List.mem_of_getElem? e1),by simp⟩⟩
theorem eK.Ls {K:PySem.W.Frag} {H:Hp} {a c:Addr} {xs:List V} (h1:SqT K H a xs) (h2:SqT K H c xs) (hx:∀ x ∈ xs,EqI K H n x x true):eK K H (EqI K H n) (.ref a) (.ref c) true :=
 ⟨a,c,xs,xs,λ _=>true,rfl,rfl,.inr (.inr ⟨h1,h2,λ j x y e1 e2=>by
  rw [e1] at e2;cases e2
  exact hx x (List.mem_of_getElem? e1),by simp⟩)⟩
theorem DX {K:PySem.W.Frag} {H:Hp} (i:Int):EqI K H 0 (.int i) (.int i) true:=.inl ⟨rfl,rfl,by simp [eqV]⟩
theorem CJ {a b n:Nat} (h1:a < n) (h2:n ≤ b):a ≠ b:=by omega
open PySem PySem.Spec PyProof.Rows
theorem Inv.yr {X:Cx} {pins:List (Addr × Obj)} {σ:St} {H:Hp} {s:Shared} {h':Heap} {t':Nat} {ch:List Addr} (I:Inv X pins σ H s) (k:∀ b o,b ∉ ch->s.heap.get? b=some o->h'.get? b=some o) (hf:∀ b ∈ ch,gY X pins H b) :
  Inv X pins σ H { s with heap:=h',toks:=t' }:=by
 have nit:∀ b u,H b=some u->b ∉ ch:=λ b u e z=>by rw [(hf b z).1] at e;cases e
 refine I.step (g':=s.gens) (d':=s.drawn) (ch:=ch) (λ b hb=>⟨(hf b hb).2.2.2.1,(hf b hb).2.1,(hf b hb).2.2.2.2.1,(hf b hb).2.2.2.2.2⟩) (λ b o _ _ hc e _=>k b o hc e) (λ b o _ _ hc e _=>⟨o.slots,k b o hc e⟩) (λ _ _ _ _ n=>n)
  (λ b o hc e=>⟨o,k b o hc e⟩) (λ _ _ e=>e) (λ _ _ _ e=>e) (λ b ps e=>⟨#[],by rw [e];simp⟩) (λ m hm=>?_) (λ b u e=>?_) I.bare
 ·obtain⟨o,es,ep,ho,r⟩:=hm
  exact⟨o,es,ep,k _ o (λ z=>(hf _ z).2.1 rfl) ho,r⟩
 ·refine(I.hok b u e).stay (λ c v hc q=>k c v ?_ q) (λ _ q=>q) λ _ _ q=>q
  rcases hc with z | z
  ·rw [z];exact nit b u e
  ·exact nit c _ z
theorem Inv.yj {X:Cx} {pins:List (Addr × Obj)} {σ:St} {H:Hp} {s:Shared} {h':Heap} {t':Nat} {ch:List Addr} {T:Addr} {u:HO} (I:Inv X pins σ H s) (k:∀ b o,b ∉ ch->s.heap.get? b=some o->h'.get? b=some o) (hf:∀ b ∈ ch,gY X pins H b)
  (hT:s.heap.objs.size ≤ T) (new:bF X.prog X.w (upd H T u) h' T u):Inv X pins σ (upd H T u) { s with heap:=h',toks:=t' }:=by
 have hn:H T=none:=I.hok.fresh hT
 have nit:∀ b u,H b=some u->b ∉ ch:=λ b u e z=>by rw [(hf b z).1] at e;cases e
 have nT:∀ b o,s.heap.get? b=some o->b ≠ T:=λ b o e=>CJ (Heap.lt_size e) hT
 refine I.step (g':=s.gens) (d':=s.drawn) (ch:=ch) (λ b hb=>⟨(hf b hb).2.2.2.1,(hf b hb).2.1,(hf b hb).2.2.2.2.1,(hf b hb).2.2.2.2.2⟩) (λ b o _ _ hc e _=>k b o hc e) (λ b o _ _ hc e _=>⟨o.slots,k b o hc e⟩) (λ b o _ e n=>by rw [aq (nT b o e)];exact n)
  (λ b o hc e=>⟨o,k b o hc e⟩) (λ b xs e=>by rw [aq (au e hn)];exact e) (λ b o xs e=>by rw [aq (au e hn)];exact e) (λ b ps e=>⟨#[],by rw [aq (au e hn),e];simp⟩) (λ m hm=>?_) (λ b v e=>?_) I.bare
 ·obtain⟨o,es,ep,ho,r⟩:=hm
  exact⟨o,es,ep,k _ o (λ z=>(hf _ z).2.1 rfl) ho,r⟩
 ·by_cases hb:b=T
  ·subst hb;rw [ah] at e;cases e;exact new
  ·rw [aq hb] at e
   refine(I.hok b v e).stay (λ c v hc q=>k c v ?_ q) (λ c q=>by rw [aq (au q hn)];exact q) λ c xs q=>by rw [aq (au q hn)];exact q
   rcases hc with z | z
   ·rw [z];exact nit b _ e
   ·exact nit c _ z
theorem ID {n l1 l2:Nat} (h1:l1 < n) (h2:l2 < n):ZipApart (n + 4) (n + 2) (n + 3) n (n + 1) l1 l2:=by
 constructor <;>(show ¬(_:Nat)=_) <;> omega
open PySem PySem.Spec PyProof.Rows
def jQ:List Value:=[.type "ValueError",.type "Exception",.type "BaseException",.type "object"]
def IM:Value->Bool
 | .ref _=>true
 | _=>false
def dU (l:List Value):Bool:=l.dropWhile IM == jQ
theorem ud {l:List Value} (h:dU l=true):∃ rs:List Addr,l=rs.map Value.ref ++ jQ:=by
 induction l with
 | nil=>exact absurd h (by decide)
 | cons x r ih =>
  unfold dU at h
  by_cases hx:IM x=true
  ·rw [List.dropWhile_cons,if_pos hx] at h
   obtain⟨rs,e⟩:=ih h
   cases x <;> first | cases hx | skip
   rename_i a
   exact⟨a :: rs,by rw [e];rfl⟩
  ·rw [List.dropWhile_cons,if_neg hx] at h
   exact⟨[],by rw [beq_iff_eq.mp h];rfl⟩
theorem yk {T:String} (hT:jQ.contains (.type T)=true) {l:List Value} (h:dU l=true):l.contains (.type T)=true:=by
 obtain⟨rs,rfl⟩:=ud h
 rw [List.contains_eq_mem]
 simp only [List.contains_eq_mem,decide_eq_true_eq] at hT ⊢
 exact List.mem_append_right _ hT
theorem HZ {l:List Value} (h:dU l=true):l.isEmpty=false:=by
 cases l with
 | nil=>exact absurd h (by decide)
 | cons _ _=>rfl
theorem Hh (self:Value) {l:List Value} (h:dU l=true):refuseLoop self "__setattr__" l=pure ():=by
 obtain⟨rs,rfl⟩:=ud h
 induction rs with
 | nil=>exact PySem.F.store_ValueError.passes self
 | cons a r ih =>
  show refuseLoop self "__setattr__" (.ref a ::(r.map Value.ref ++ jQ))=_
  rw [refuseLoop_ref]
  refine ih ?_
  have:∀ r:List Addr,dU (r.map Value.ref ++ jQ)=true:=λ r=>by
   induction r with
   | nil=>decide
   | cons b r ih=>exact ih
  exact this r
def jU (K:PySem.W.Frag) (C:Addr):Bool:=match K.lookup C with
 | some ⟨.type "type",_,.cls cd,sl⟩=>(match cd.mro,sl.toList with
  | .ref D :: bm,[_,_,_,_,some (.builtin n),_]=>D == C && !cd.hasDel && dU bm && n == "ValueError.__new__" && cd.hasDict
  | _,_=>false)
 | _=>false
structure Kv (h:Heap) (C:Addr):Prop where
 ex:∃ nm q N bs bm sn sub ab col dd k0 k1 k2 k3 k5,h.get? C=some (excClassObj nm q C N bs bm true sn sub ab col dd k0 k1 k2 k3 k5 "ValueError.__new__") /\ dU bm=true
theorem DT {K:PySem.W.Frag} {C:Addr} (q:jU K C=true):∃ nm qn N bs bm sn sub ab col dd k0 k1 k2 k3 k5,K.lookup C=some (excClassObj nm qn C N bs bm true sn sub ab col dd k0 k1 k2 k3 k5 "ValueError.__new__") /\ dU bm=true:=by
 unfold jU at q
 split at q
 ·rename_i dd cd sl ho
  split at q
  ·rename_i D bm k0 k1 k2 k3 n k5 hm hs
   simp only [Bool.and_eq_true,beq_iff_eq,Bool.not_eq_true'] at q
   obtain⟨⟨⟨⟨rfl,hdel⟩,hb⟩,rfl⟩,hd⟩:=q
   obtain⟨nm,bs,mro,ns,qn,hd',sn,sub,ab,col,del⟩:=cd
   dsimp only at hm hdel hd
   subst hm hdel hd
   have hsl:sl = #[k0,k1,k2,k3,some (.builtin "ValueError.__new__"),k5]:=by
    obtain⟨l⟩:=sl
    simp only at hs
    rw [hs]
   subst hsl
   exact⟨nm,qn,ns,bs,bm,sn,sub,ab,col,dd,k0,k1,k2,k3,k5,ho,hb⟩
  ·cases q
 ·cases q
structure ee (K:PySem.W.Frag) (C:Addr):Prop where
 obj:jU K C=true
 sa:PySem.W.findIn K (.ref C) "__setattr__" = some (some (.builtin "object.__setattr__"))
 ga:PySem.W.findIn K (.ref C) "__getattribute__" = some (some (.builtin "BaseException.__getattribute__"))
 gh:PySem.W.findIn K (.ref C) "__getattr__" = some none
 cl:PySem.W.findIn K (.ref C) "__class__" = some (some (.builtin "object.__class__"))
 clg:PySem.W.specialIn K (.builtin "object.__class__") "__get__" = some (some (.builtin "getset_descriptor.__get__"))
 clt:PySem.W.takesIn K (.builtin "object.__class__")=some true
theorem Dz {C:Addr} {bm:List Value} (h:dU bm=true):dU (.ref C :: bm)=true:=h
theorem ee.mro {K:PySem.W.Frag} {C:Addr} (c:ee K C):∃ cd,PySem.W.clsIn K C=some cd /\ dU cd.mro=true /\ cd.hasDict=true:=by
 obtain⟨nm,qn,N,bs,bm,sn,sub,ab,col,dd,k0,k1,k2,k3,k5,ho,hb⟩:=DT c.obj
 refine⟨{ name:=nm,bases:=bs,mro:=.ref C :: bm,ns:=N,qualname:=qn,hasDict:=true,slotNames:=sn,subclasses:=sub,abstract:=ab,collection:=col,hasDel:=false },?_,Dz (C:=C) hb,rfl⟩
 unfold PySem.W.clsIn
 rw [ho]
theorem ee.at {K:PySem.W.Frag} {C:Addr} {h:Heap} (c:ee K C) (X:K.In h):Kv h C:=by
 obtain⟨nm,qn,N,bs,bm,sn,sub,ab,col,dd,k0,k1,k2,k3,k5,ho,hb⟩:=DT c.obj
 exact⟨nm,qn,N,bs,bm,sn,sub,ab,col,dd,k0,k1,k2,k3,k5,X _ _ ho,hb⟩
theorem ee.has {K:PySem.W.Frag} {C:Addr} (c:ee K C) {T:String} (hT:jQ.contains (.type T)=true):PySem.W.mroIn K C (.type T)=some true:=by
 obtain⟨cd,h1,h2,_⟩:=c.mro
 unfold PySem.W.mroIn
 rw [h1,Option.bind_some,if_neg (by rw [HZ h2];decide),yk hT h2]
open PySem PySem.Spec PyProof.Rows
section
variable {prog:Program} {w:World} {A:Around} {E:Value->Shared->Prop} {s:Shared} {K:PySem.W.Frag} {x C:Addr} {ox:Obj} {od:Option Obj} {name:Str} {v:Value}
theorem AK {Q:Unit->Shared->Prop} (X:K.In s.heap) (I:PySem.W.InstAt s.heap x ox C od) (c:ee K C) (n:bw K C name)
  (h:∀ b,wpAny (model prog w) A.in1 (Builtin.ObjectAttr.storeInOwnDict (.ref x) (.ref C) (.str name s.toks) name v b)
   (λ fin s'=>match fin with | .done (.ret _)=>Q () s' | _=>False) (λ e s'=>E e s') { s with toks:=s.toks + 1 }) :
  wpAny (model prog w) A (setAttr (.ref x) name v) Q E s:=by
 obtain⟨hp,g,d,t,os⟩:=s
 have SF:=PySem.F.store_ValueError
 obtain⟨cd,hc,ho,_⟩:=c.mro
 refine PySem.W.set_plain X I c.sa ?_
 have sub:PySem.W.Looks (model prog w) hp (isInstance (.ref x) (.type "object")) true:=I.type.andThen (PySem.W.looks_mroIn X (c.has (by decide)))
 refine codeAny_call_builtin SF.slot.plain SF.entry (@PySem.W.check_slot (model prog w) _ _ _ "object.__setattr__" "object" "__setattr__" (.ref x) [.str name t,v] [] _ SF.kind SF.split sub (SF.args (.ref x) (.str name t) v) ?_)
 have hm:PySem.W.Looks (model prog w) hp (mroOf (.ref C)) cd.mro:=(PySem.W.looks_clsIn X hc).andThen .now
 have LN:=PySem.W.looks_findIn (M:=model prog w) X (show PySem.W.findIn K (.ref C) name=some none from n)
 rw [PySem.W.osa_eq,refuse_eq]
 refine wpAny_bind (wpAny_bind (I.type.at (wpAny_bind (hm.at ?_))))
 rw [Hh _ ho]
 refine wpAny_pure (wpAny_bind (I.type.at (wpAny_bind (LN.at (wpAny_bind (wpAny_pure ?_))))))
 refine wpAny_mono (h false) (λ fin s' z=>?_) λ _ _ z=>z
 rcases fin with(_ | _ | _ | _) | _ <;> first | exact z | exact z.elim
theorem Hj {vs:Array Value} {sl:Array (Option Value)} {Q:Unit->Shared->Prop} (X:K.In s.heap) (hx:s.heap.get? x=some ⟨.ref C,none,.fields vs,sl⟩) (c:ee K C) (n:bw K C name)
  (h:∀ h' tk',h'.get? x=some ⟨.ref C,some s.heap.objs.size,.fields vs,sl⟩->h'.Ns1 s.heap.objs.size (λ y=>if y=name then some v else none)->(∀ b o,b ≠ x->s.heap.get? b=some o->h'.get? b=some o) →
   Q () { s with heap:=h',toks:=tk' }) :
  wpAny (model prog w) A (setAttr (.ref x) name v) Q E s:=by
 have I:PySem.W.InstAt s.heap x ⟨.ref C,none,.fields vs,sl⟩ C none:=⟨hx,rfl,rfl,trivial⟩
 refine AK X I c n λ b=>?_
 obtain⟨hp,g,d,t,os⟩:=s
 obtain⟨cd,hc,ho,hd⟩:=c.mro
 have LC:=PySem.W.looks_clsIn (M:=model prog w) X hc
 unfold Builtin.ObjectAttr.storeInOwnDict
 refine wpAny_bind (wpAny_pure ?_)
 refine wpAny_bind (m:=Builtin.ObjectAttr.ownDictForStores _) ?_
 show wpAny _ _ (instanceDict x true) _ _ _
 unfold instanceDict
 refine wpAny_bind (wpAny_loadPart hx ?_)
 dsimp only
 refine wpAny_bind (LC.at ?_)
 rw [hd]
 have hx1:(hp.push { cls:=.type "dict",data:=.dict #[] }).get? x=some ⟨.ref C,none,.fields vs,sl⟩:=Heap.get?_push_of_some _ hx
 have hxs:x ≠ hp.objs.size:=Nat.ne_of_lt (Heap.lt_size hx)
 show wpAny _ _ (do let dd ← alloc { cls:=.type "dict",data:=.dict #[] };update x (λ o=>{ o with dict:=some dd });dictMade (.ref C) x dd) _ _ _
 refine wpAny_bind (wpAny_alloc' ?_)
 refine wpAny_bind (wpAny_update' hx1 ?_)
 refine wpAny_pure ?_
 have hgd:((hp.push { cls:=.type "dict",data:=.dict #[] }).update x λ o=>{ o with dict:=some hp.objs.size }).get? hp.objs.size=some { cls:=.type "dict",data:=.dict #[] } :=
  (Heap.get?_update_ne _ _ _ _ hxs.symm).trans (Heap.get?_push_at rfl rfl)
 have hnd:((hp.push { cls:=.type "dict",data:=.dict #[] }).update x λ o=>{ o with dict:=some hp.objs.size }).Ns hp.objs.size (λ _=>none):=⟨_,#[],_,hgd,rfl,λ e he=>absurd he (by simp),λ _=>rfl⟩
 show wpAny _ _ (Builtin.ObjectAttr.storeInDict hp.objs.size (.str name t) name v) _ _ _
 unfold Builtin.ObjectAttr.storeInDict Builtin.ObjectAttr.newKeyGuard
 refine wpAny_bind (wpAny_pure (wpAny_bind (wpAny_nsSet1 (Heap.Ns1.of_empty hnd) λ h' hn' hs=>?_)))
 obtain⟨oD,esD,epD,hoD,hdD,hcD⟩:=hn'.count (Within.cons name v Within.nil)
 refine wpAny_bind (wpAny_lookBehind hoD (by rw [hdD];exact pastItsLine_dict (Nat.le_trans hcD (by rw [List.length_cons,List.length_nil,sizeLine_eq];omega))) ?_)
 refine wpAny_pure (h h' _ ?_ hn' λ b o hb e=>?_)
 ·exact(hs.2 x hxs).trans (Heap.get?_update_self _ hx1 rfl)
 ·exact(hs.2 b (Nat.ne_of_lt (Heap.lt_size e))).trans ((Heap.get?_update_ne _ _ _ _ hb).trans (Heap.get?_push_of_some _ e))
theorem HR {dx:Addr} {vs:Array Value} {sl:Array (Option Value)} {mA:Str->Option Value} {ns:List Str} {Q:Unit->Shared->Prop} (X:K.In s.heap) (hx:s.heap.get? x=some ⟨.ref C,some dx,.fields vs,sl⟩) (hn:s.heap.Ns1 dx mA) (c:ee K C) (n:bw K C name)
  (hw:PySem.Within mA ns) (hsz:ns.length ≤ sizeLine)
  (h:∀ h' tk',h'.Ns1 dx (λ y=>if y=name then some v else mA y)->Heap.SameBut dx s.heap h'->Q () { s with heap:=h',toks:=tk' }) :
  wpAny (model prog w) A (setAttr (.ref x) name v) Q E s:=by
 obtain⟨od,hod,_⟩:=AQ hn
 have I:PySem.W.InstAt s.heap x ⟨.ref C,some dx,.fields vs,sl⟩ C (some od):=⟨hx,rfl,rfl,hod⟩
 refine AK X I c n λ b=>?_
 obtain⟨hp,g,d,t,os⟩:=s
 obtain⟨cd,hc,ho,hd⟩:=c.mro
 have LC:=PySem.W.looks_clsIn (M:=model prog w) X hc
 unfold Builtin.ObjectAttr.storeInOwnDict
 refine wpAny_bind (wpAny_pure ?_)
 refine wpAny_bind (m:=Builtin.ObjectAttr.ownDictForStores _) ?_
 show wpAny _ _ (instanceDict x true) _ _ _
 unfold instanceDict
 refine wpAny_bind (wpAny_loadPart hx ?_)
 dsimp only
 refine wpAny_bind (LC.at ?_)
 rw [hd]
 refine wpAny_pure (a:=some dx) ?_
 show wpAny _ _ (Builtin.ObjectAttr.storeInDict dx (.str name t) name v) _ _ _
 unfold Builtin.ObjectAttr.storeInDict Builtin.ObjectAttr.newKeyGuard
 refine wpAny_bind (wpAny_pure (wpAny_bind (wpAny_nsSet1 hn λ h' hn' hs=>?_)))
 obtain⟨oD,esD,epD,hoD,hdD,hcD⟩:=hn'.count (Within.cons name v hw)
 refine wpAny_bind (wpAny_lookBehind hoD (by rw [hdD];exact pastItsLine_dict (Nat.le_trans hcD (by rw [List.length_cons];omega))) ?_)
 exact wpAny_pure (h h' _ hn' hs)
end
open PySem PySem.Spec PyProof.Rows
abbrev jn (C t:Addr):Obj:={ cls:=.ref C,data:=.fields #[.ref t,.none,.none,.none,.bool false,.none] }
abbrev jZ (rest:List Value):Obj:={ cls:=.type "tuple",data:=.seq rest.toArray }
theorem yG {C:Addr} {bm:List Value} (hb:dU bm=true) {T:String} (hT:jQ.contains (.type T)=true):(Value.ref C :: bm).contains (.type T)=true:=by
 rw [List.contains_cons,yk hT hb,Bool.or_true]
theorem DJ {C:Addr} {bm:List Value} (hb:dU bm=true) {T:String} (hT:jQ.contains (.type T)=false):(Value.ref C :: bm).contains (.type T)=false:=by
 obtain⟨rs,rfl⟩:=ud hb
 rw [List.contains_cons,List.contains_eq_mem,decide_eq_false,Bool.or_false]
 ·rfl
 ·intro hm
  rcases List.mem_append.mp hm with h | h
  ·obtain⟨a,_,e⟩:=List.mem_map.mp h
   cases e
  ·rw [List.contains_eq_mem] at hT
   exact(of_decide_eq_false hT) h
section
variable {prog:Program} {w:World} {A:Around} {E:Value->Shared->Prop} {h:Heap} {g:Array GenState} {d:Drawn} {t:Nat} {os:OsState} {K:PySem.W.Frag} {C f:Addr}
variable {nm q:Str} {N:Addr} {bs bm:List Value} {sn:List Str} {sub:List Value} {ab:Bool} {col:Option Bool} {dd:Option Addr} {k0 k1 k2 k3 k5:Option Value}
theorem En {M:Model} {rest:List Value} {Q:Unit->Shared->Prop} (hb:dU bm=true) (hC:h.get? C=some (excClassObj nm q C N bs bm true sn sub ab col dd k0 k1 k2 k3 k5 "ValueError.__new__")) (hq:Q () ⟨h,g,d,t,os⟩) :
  wpAny M A (checkBuiltinCall "ValueError.__new__" ⟨.ref C :: rest,[]⟩) Q E ⟨h,g,d,t,os⟩:=by
 have F:=PySem.F.excBase_ValueError
 have hcont:=yG (C:=C) hb (T:="ValueError") (by decide)
 have hstar:=F.noStar
 simp only [checkBuiltinCall,F.newKind,F.newSplit,F.newRow]
 repeat (first
  | refine wpAny_loadPart_at hC ?_
  |(refine wpAny_isSubtype_exc hC ?_;rw [hcont])
  | refine wpAny_staticBase_exc hC ?_
  | refine wpAny_madeBy_exc hC ?_
  | simp only [bne_self_eq_false,Bool.false_eq_true,if_false]
  | wp_step)
 exact hq
theorem Hr {R:Result->Shared->Prop} {rest:List Value} (hb:dU bm=true) (hC:h.get? C=some (excClassObj nm q C N bs bm true sn sub ab col dd k0 k1 k2 k3 k5 "ValueError.__new__")) (hrest:rest.length ≤ sizeLine)
  (hq:R (.ok (.ret (.ref (h.objs.size + 1)))) ⟨(h.push (jZ rest)).push (jn C h.objs.size),g,d,t,os⟩) :
  codeAny (model prog w) A (.builtin "ValueError.__new__" ⟨.ref C :: rest,[]⟩) R ⟨h,g,d,t,os⟩:=by
 have F:=PySem.F.excBase_ValueError
 have hends:=F.ends
 have hcB:=yG (C:=C) hb (T:="ValueError") (by decide)
 have hcA:=DJ (C:=C) hb (T:="AttributeError") (by decide)
 have hcN:=DJ (C:=C) hb (T:="NameError") (by decide)
 refine codeAny_builtinAt F.entry ?_
 unfold Builtin.«BaseException.__new__»
 refine PySem.wpAt_bind ?_
 show PySem.wpAt _ _ _ (stack >>= _) _ _ _
 refine PySem.wpAt_bind (PySem.wpAt_stack λ p below=>PySem.wpAt_of_wpAny ?_)
 wp_walk
 refine PySem.wpAt_of_wpAny ?_
 rw [F.owner]
 repeat (first
  | with_reducible refine wpAny_madeHere_exc F.canon hC ?_
  | with_reducible refine wpAny_loadPart_at hC ?_
  |(with_reducible refine wpAny_isSubtype_exc hC ?_;first | rw [hcB] | rw [hcA] | rw [hcN])
  | wp_step)
 show R _ _
 rw [Heap.size_push]
 exact hq
theorem CM {rest:List Value}:∀ b o,h.get? b=some o->((h.push (jZ rest)).push (jn C h.objs.size)).get? b=some o:=λ b o e=>Heap.get?_push_of_some _ (Heap.get?_push_of_some _ e)
theorem DF {rest:List Value}:((h.push (jZ rest)).push (jn C h.objs.size)).get? (h.objs.size + 1)=some (jn C h.objs.size):=by
 have:=Heap.get?_push_size (h.push (jZ rest)) (o:=jn C h.objs.size) rfl
 rwa [Heap.size_push] at this
theorem EF {rest:List Value} {Q:Fin->Shared->Prop} (hb:dU bm=true) (hC:h.get? C=some (excClassObj nm q C N bs bm true sn sub ab col dd k0 k1 k2 k3 k5 "ValueError.__new__")) (hrest:rest.length ≤ sizeLine) (X:K.In h)
  (hi:PySem.W.findIn K (.ref C) "__init__" = some (some (.ref f))) (hf:PySem.W.typeIn K (.ref f)=some (.type "function"))
  (hq:wpAny (model prog w) A (call (.ref f) (.ref (h.objs.size + 1) :: rest)) (λ r s'=>r = .none /\ Q (.done (.ret (.ref (h.objs.size + 1)))) s') E ⟨(h.push (jZ rest)).push (jn C h.objs.size),g,d,t,os⟩) :
  wpAny (model prog w) A (Builtin.«type.__call__» ⟨.ref C :: rest,[]⟩) Q E ⟨h,g,d,t,os⟩:=by
 have F:=PySem.F.excBase_ValueError
 repeat (first | with_reducible refine wpAny_loadPart_at hC ?_ | with_reducible refine wpAny_madeBy_exc hC ?_ | wp_step)
 refine codeAny_call_builtin_code (Code.quiet_builtin _ F.quiet) (En hb hC ?_)
 refine Hr hb hC hrest ?_
 show wpAny _ _ _ _ _ _
 have X1:K.In ((h.push (jZ rest)).push (jn C h.objs.size)):=X.keeps CM
 have hC1:=CM (C:=C) (rest:=rest) _ _ hC
 have hcC:(Value.ref C :: bm).contains (.ref C)=true:=by simp
 have L1:=PySem.W.looks_findIn (M:=model prog w) X1 hi
 have L2:=PySem.W.bind_fn (M:=model prog w) X1 (.ref (h.objs.size + 1)) hf
 unfold isInstance
 repeat (first | with_reducible refine wpAny_loadPart_at DF ?_ |(with_reducible refine wpAny_isSubtype_exc hC1 ?_;rw [hcC]) | wp_step)
 show wpAny _ _ (typeLookup (.ref C) _) _ _ _
 refine L1.at ?_
 refine wpAny_holding (wpAny_bind (L2.at ?_))
 refine wpAny_bind (wpAny_mono hq (λ r s' hr=>?_) λ _ _ x=>x)
 obtain⟨rfl,hQ⟩:=hr
 wp_walk
 exact hQ
theorem G3 {rest:List Value} {Q:Value->Shared->Prop} (X:K.In h) (c:ee K C) (hrest:rest.length ≤ sizeLine)
  (hi:PySem.W.findIn K (.ref C) "__init__" = some (some (.ref f))) (hf:PySem.W.typeIn K (.ref f)=some (.type "function"))
  (hq:wpAny (model prog w) (A.under (.builtin "type.__call__" ⟨.ref C :: rest,[]⟩)) (call (.ref f) (.ref (h.objs.size + 1) :: rest)) (λ r s'=>r = .none /\ Q (.ref (h.objs.size + 1)) s') E ⟨(h.push (jZ rest)).push (jn C h.objs.size),g,d,t,os⟩) :
  wpAny (model prog w) A (call (.ref C) rest) Q E ⟨h,g,d,t,os⟩:=by
 obtain⟨nm,qn,N,bs,bm,sn,sub,ab,col,dd,k0,k1,k2,k3,k5,hC,hb⟩:=(c.at X).ex
 have f1:=tc_lookup
 have f2:=tc_bind (.ref C)
 have hT:(⟨h,g,d,t,os⟩:Shared).TypeIs (.ref C) "type":=⟨_,hC,rfl⟩
 refine wpAny_call (codeAny_of_tree ?_)
 show wpAny _ _ (callAny (.ref C) _) _ _ _
 repeat (any_goals (first | assumption | with_reducible refine wpAny_loadPart_at hC ?_ | wp_step))
 refine⟨rfl,?_⟩
 exact codeAny_call_builtin_at (Code.quiet_builtin _ (by decide +kernel)) entry_typeCall (wpAny_check_type_call_sub hC (EF hb hC hrest X hi hf hq))
end
open PySem PySem.Spec PyProof.Rows
def yg (raw:Bool) (e C:Addr) (od:Option Addr) (h:Heap):Prop:=∃ vs sl,h.get? e=some ⟨.ref C,od,.fields vs,sl⟩ /\ vs.size=6 /\(raw=true->vs[1]? = some .none)
def GJ (dx:Addr) (fs:List (Str × V)) (h:Heap):Prop:=∃ mA,h.Ns1 dx mA /\(∀ f,fD (fs.lookup f) (mA f)) /\ PySem.Within mA (fs.map (·.1))
abbrev exO (raw:Bool) (e C:Addr) (od:Option Addr):HO:=.ext (yg raw e C od)
abbrev xdO (dx:Addr) (fs:List (Str × V)):HO:=.ext (GJ dx fs)
def ExcAt (H:Hp) (e C:Addr) (fs:List (Str × V)):Prop:=∃ raw od,H e=some (exO raw e C od) /\ match od with
 | none=>fs = []
 | some dx=>H dx=some (xdO dx fs) /\ dx ≠ e
section
variable {P:Program} {w:World} {H:Hp} {h:Heap} {e C dx:Addr} {od:Option Addr} {raw:Bool} {fs:List (Str × V)}
theorem tY (x:yg raw e C od h):bF P w H h e (exO raw e C od):=by
 refine⟨x,?_,?_⟩
 ·obtain⟨vs,sl,q,_⟩:=x
  exact⟨_,q⟩
 ·rintro h1 h2 ⟨vs,sl,q,r⟩ k
  exact⟨vs,sl,k _ q,r⟩
theorem BY (x:GJ dx fs h):bF P w H h dx (xdO dx fs):=by
 refine⟨x,?_,?_⟩
 ·obtain⟨mA,⟨o,es,ep,q,_⟩,_⟩:=x
  exact⟨o,q⟩
 ·rintro h1 h2 ⟨mA,⟨o,es,ep,q,r⟩,z⟩ k
  exact⟨mA,⟨o,es,ep,k _ q,r⟩,z⟩
theorem ux (x:HOk P w H h) (q:H e=some (exO raw e C od)):yg raw e C od h:=(x e _ q).1
theorem Oe (x:HOk P w H h) (q:H dx=some (xdO dx fs)):GJ dx fs h:=(x dx _ q).1
end
section
variable {X:Cx} {pins:List (Addr × Obj)} {σ:St} {H:Hp} {s:Shared} {a C dx:Addr} {od:Option Addr} {raw:Bool} {fs:List (Str × V)} {f:Str} {v:V} {A:Around} {E:Value->Shared->Prop}
theorem zD {y:V} {u:Value} {Q:Unit->Shared->Prop} (I:Inv X pins σ H s) (e:H a=some (exO raw a C none)) (c:ee X.K C) (n:bw X.K C f) (ry:RelV y u)
  (h:∀ dx s',H dx=none->Inv X pins σ (upd (upd H dx (xdO dx [(f,y)])) a (exO raw a C (some dx))) s'->Q () s'):wpAny (model X.prog X.w) A (setAttr (.ref a) f u) Q E s:=by
 obtain⟨vs,sl,q,hv⟩:=ux I.hok e
 refine Hj I.kIn q c n λ h' tk' h1 h2 h3=>?_
 have hn:H s.heap.objs.size=none:=I.hok.fresh (Nat.le_refl _)
 have hna:a ≠ s.heap.objs.size:=Nat.ne_of_lt (Heap.lt_size q)
 refine h s.heap.objs.size _ hn ?_
 have hd2:GJ s.heap.objs.size [(f,y)] h':=by
  refine⟨_,h2,λ g=>?_,λ g hg=>?_⟩
  ·show fD (List.lookup g [(f,y)]) (if g=f then some u else none)
   rw [List.lookup_cons]
   by_cases z:g=f
   ·subst z;rw [if_pos rfl];simp;exact ry
   ·rw [if_neg z,show(g == f)=false by simpa using z];exact True.intro
  ·by_cases z:g=f
   ·subst z;simp
   ·exact absurd (if_neg z) hg
 have hE:yg raw a C (some s.heap.objs.size) h':=⟨vs,sl,h1,hv⟩
 have hu:Un X.fs [] H (upd (upd H s.heap.objs.size (xdO s.heap.objs.size [(f,y)])) a (exO raw a C (some s.heap.objs.size))) s.heap h':=by
  have nn:∀ b o,s.heap.get? b=some o->b ≠ s.heap.objs.size:=λ b o e=>Nat.ne_of_lt (Heap.lt_size e)
  refine⟨λ b o e' n' _ _=>h3 b o (λ z=>by rw [z,e] at n';cases n') e',λ b o e' n' _ _=>⟨o.slots,h3 b o (λ z=>by rw [z,e] at n';cases n') e'⟩,λ b o e' n' _=>?_,λ b o e' _=>?_,λ b xs e'=>?_,λ b o u' e'=>?_,λ b ps e'=>⟨#[],?_⟩⟩
  ·rw [aq (λ z=>by rw [z,e] at n';cases n'),aq (nn b o e')];exact n'
  ·by_cases z:b=a
   ·subst z;exact⟨_,h1⟩
   ·exact⟨o,h3 b o z e'⟩
  ·rw [aq (λ z=>by rw [z,e] at e';cases e'),aq (au e' hn)];exact e'
  ·rw [aq (λ z=>by rw [z,e] at e';cases e'),aq (au e' hn)];exact e'
  ·rw [aq (λ z=>by rw [z,e] at e';cases e'),aq (au e' hn),e'];simp
 refine I.un hu λ b o e'=>?_
 by_cases z:b=a
 ·subst z;rw [ah] at e';cases e';exact tY hE
 ·rw [aq z] at e'
  by_cases z2:b=s.heap.objs.size
  ·subst z2;rw [ah] at e';cases e';exact BY hd2
  ·rw [aq z2] at e'
   refine(I.hok b o e').stay (λ c' v' hc q'=>h3 c' v' ?_ q') (λ c' q'=>?_) λ c' xs q'=>?_
   ·rcases hc with hc | hc
    ·rw [hc];exact z
    ·intro z3;rw [z3,e] at hc;cases hc
   ·rw [aq (λ z3=>by rw [z3,e] at q';cases q'),aq (au q' hn)];exact q'
   ·rw [aq (λ z3=>by rw [z3,e] at q';cases q'),aq (au q' hn)];exact q'
theorem A3 {y:V} {u:Value} {Q:Unit->Shared->Prop} (I:Inv X pins σ H s) (e:H a=some (exO raw a C (some dx))) (ed:H dx=some (xdO dx fs)) (c:ee X.K C) (n:bw X.K C f) (hl:fs.length < 1000) (ry:RelV y u)
  (h:∀ s',Inv X pins σ (upd H dx (xdO dx (cz f y fs))) s'->Q () s'):wpAny (model X.prog X.w) A (setAttr (.ref a) f u) Q E s:=by
 obtain⟨vs,sl,q,hv⟩:=ux I.hok e
 obtain⟨mA,hn,r,wi⟩:=Oe I.hok ed
 have hz:(fs.map (·.1)).length ≤ sizeLine:=by rw [List.length_map,sizeLine_eq];omega
 refine HR I.kIn q hn c n wi hz λ h' tk' h1 sb=>h _ ?_
 refine I.write (x:=dx) (e:=dx) (by rw [ed];exact True.intro) (.inl rfl) (λ b o hb z=>(sb.2 b hb).trans z) (let ⟨o,_,_,e',_⟩:=h1;⟨o,e'⟩) (BY ⟨_,h1,λ g=>?_,λ g hg=>?_⟩)
 ·show fD ((cz f y fs).lookup g) (if g=f then some u else mA g)
  rw [oq]
  by_cases q:g=f
  ·rw [if_pos q,if_pos q];exact ry
  ·rw [if_neg q,if_neg q];exact r g
 ·by_cases q:g=f
  ·rw [q];exact(jY f y fs).1
  ·refine(jY f y fs).2 g (wi g λ z=>hg ?_)
   show(if g=f then some u else mA g)=none
   rw [if_neg q];exact z
end
def Nj (K:PySem.W.Frag) (ta tv:TE) (f:Str):TS:=λ D σ H=>tv σ H λ y H1=>ta σ H1 λ x H2=>∃ a C raw,x = .ref a /\ H2 a=some (exO raw a C none) /\ ee K C /\ bw K C f ∧
 ∀ dx,H2 dx=none->D.nx σ (upd (upd H2 dx (xdO dx [(f,y)])) a (exO raw a C (some dx)))
def MR (K:PySem.W.Frag) (ta tv:TE) (f:Str):TS:=λ D σ H=>tv σ H λ y H1=>ta σ H1 λ x H2=>∃ a C raw dx fs,x = .ref a /\ H2 a=some (exO raw a C (some dx)) /\ H2 dx=some (xdO dx fs) /\ ee K C /\ bw K C f /\ fs.length < 1000 ∧
 D.nx σ (upd H2 dx (xdO dx (cz f y fs)))
section
variable {X:Cx} {o e value:Expr} {f:Str} {pos pos':Pos} {ta tv:TE}
theorem pJ (ha:PE X o ta) (hv:PE X value tv) (hs:swapsWith value (some (.Attribute o f pos')) pos.line X.env=pure false):PS X (.Assign [.Attribute o f pos'] value pos) (Nj X.K ta tv f):=by
 intro pins s σ H D I h
 refine plainObj_wpAny_Assign_Attribute (thn (hv pins s σ H _ I h) λ u s1 ⟨y,H1,I1,ry,q⟩=>thn (ha pins s1 σ H1 _ I1 q) λ ov s2 ⟨x,H2,I2,rx,a,C,raw,ex,ea,c,n,q2⟩=>?_) hs
 subst ex
 obtain rfl:ov=Value.ref a:=rx
 exact zD I2 ea c n ry λ dx s3 hdx I3=>⟨σ,_,I3,q2 dx hdx⟩
theorem JI (ha:PE X o ta) (hv:PE X value tv) (hs:swapsWith value (some (.Attribute o f pos')) pos.line X.env=pure false):PS X (.Assign [.Attribute o f pos'] value pos) (MR X.K ta tv f):=by
 intro pins s σ H D I h
 refine plainObj_wpAny_Assign_Attribute (thn (hv pins s σ H _ I h) λ u s1 ⟨y,H1,I1,ry,q⟩=>thn (ha pins s1 σ H1 _ I1 q) λ ov s2 ⟨x,H2,I2,rx,a,C,raw,dx,fs,ex,ea,ed,c,n,l,q2⟩=>?_) hs
 subst ex
 obtain rfl:ov=Value.ref a:=rx
 exact A3 I2 ea ed c n l ry λ s3 I3=>⟨σ,_,I3,q2⟩
end
open PySem PySem.Spec PyProof.Rows
def Fly (h:Heap) (e T:Addr) (fl:Value):Prop:=∃ oe vs oT ts,h.get? e=some oe /\ oe.data = .fields vs /\ vs[1]? = some (.ref T) /\ h.get? T=some oT /\ oT.data = .fields ts /\ ts[3]? = some fl /\ T ≠ e
structure kO (fs ch:List Addr) (e T:Addr) (fl:Value) (h h':Heap):Prop where
 keep:∀ b o,b ∉ fs->b ∉ ch->b ≠ e->h.get? b=some o->h'.get? b=some o
 slot:∀ b o,b ∈ fs->b ∉ ch->b ≠ e->h.get? b=some o->∃ sl,h'.get? b=some { o with slots:=sl }
 new:h.objs.size ≤ T
 exc:∀ oe vs,h.get? e=some oe->oe.data = .fields vs->h'.get? e=some (oe.mapFields (·.setIfInBounds 1 (.ref T)))
 fly:Fly h' e T fl
section
variable {M:Model} {A:Around} {E:Value->Shared->Prop} {s:Shared} {base:Heap} {env:Env} {outer:List Env} {L e:Addr} {oe:Obj} {vs:Array Value} {Q:Unit->Shared->Prop}
theorem BB {head:Value} {b:Bool} (hfr:A.frames=some (env :: outer)) (hl:s.heap.FunFrames base (env :: outer)) (hf:env.frame=some L) (he:s.heap.get? e=some oe) (hd:oe.data = .fields vs) (hsz:1 < vs.size)
  (h:∀ h' T,kO (frs (env :: outer)) [] e T (rawInt L) s.heap h'->Q () { s with heap:=h' }) :
  wpAny M A (do let a ← frameOf env;let pl ← entryPlaceOf L b;let x ← EntryCells.newEntry head a .none (rawInt L) .none pl;setField (.ref e) 1 x) Q E s:=by
 have hene:e ∉ frs (env :: outer):=λ hm=>by
  obtain⟨_,o,ho,hnf⟩:=hl.mem hm
  rw [he] at ho
  cases ho
  exact hnf vs hd
 refine wpAny_bind (wpAny_frameOf_fun hfr hl hf λ h1 hs=>?_)
 refine wpAny_bind (wpAny_entryPlaceOf λ pl hpl=>?_)
 unfold EntryCells.newEntry newFields
 refine wpAny_bind (wpAny_newObj_type ?_ (hpl.sizeOk5 _ _ _ _ _))
 have he1:h1.get? e=some oe:=(hs.2.1 e hene).trans he
 generalize hT:({ cls:=.type "traceback",dict:=none,data:=.fields ([head,.ref L,.none,rawInt L,.none] ++(if pl.isEmpty then List.replicate 6 Value.none else pl)).toArray }:Obj)=oT
 have he2:=Heap.get?_push_of_some (h:=h1) oT he1
 refine wpAny_setField he2 hd hsz (h _ h1.objs.size ?_)
 have hTe:h1.objs.size ≠ e:=Nat.ne_of_gt (Heap.lt_size he1)
 have hd3:=Obj.data_mapFields hd (·.setIfInBounds 1 (Value.ref h1.objs.size))
 have he3:=Heap.get?_update_self (Obj.mapFields (·.setIfInBounds 1 (Value.ref h1.objs.size))) he2 (Obj.isFreed_of_fields hd3)
 have hT3:((h1.push oT).update e (Obj.mapFields (·.setIfInBounds 1 (Value.ref h1.objs.size)))).get? h1.objs.size=some oT :=
  (Heap.get?_update_other _ _ (Ne.symm hTe)).trans (Heap.get?_push_size h1 (by rw [← hT];rfl))
 have keep:∀ b o,b ≠ e->h1.get? b=some o->((h1.push oT).update e (Obj.mapFields (·.setIfInBounds 1 (Value.ref h1.objs.size)))).get? b=some o:=λ b o hb q=>by
  rw [Heap.get?_update_other _ _ (Ne.symm hb)]
  exact Heap.get?_push_of_some _ q
 refine⟨λ b o hb _ hbe q=>keep b o hbe ((hs.2.1 b hb).trans q),λ b o hb _ hbe q=>?_,?_,λ oe' vs' q' d'=>?_,?_⟩
 ·obtain⟨sl,z⟩:=hs.2.2 b o q
  exact⟨sl,keep b _ hbe z⟩
 ·rw [hs.1];exact Nat.le_refl _
 ·rw [he] at q';cases q';exact he3
 ·refine⟨_,_,oT,_,he3,hd3,by simp [hsz],hT3,by rw [← hT],?_,hTe⟩
  simp
theorem Jq (hfr:A.frames=some (env :: outer)) (hl:s.heap.FunFrames base (env :: outer)) (hf:env.frame=some L) (he:s.heap.get? e=some oe) (hd:oe.data = .fields vs) (h1:vs[1]? = some .none)
  (h:∀ h' T,kO (frs (env :: outer)) [] e T (rawInt L) s.heap h'->Q () { s with heap:=h' }):wpAny M A (noteFrame (.ref e) env) Q E s:=by
 unfold noteFrame
 simp only [hf]
 refine wpAny_bind (wpAny_field he hd h1 ?_)
 rw [if_neg (by decide)]
 exact BB hfr hl hf he hd (Array.getElem?_eq_some_iff.mp h1).1 h
theorem HK {T:Addr} (hfr:A.frames=some (env :: outer)) (hl:s.heap.FunFrames base (env :: outer)) (hf:env.frame=some L) (hF:Fly s.heap e T .none)
  (h:∀ h' T',kO (frs (env :: outer)) [T] e T' (rawInt L) s.heap h'->Q () { s with heap:=h' }):wpAny M A (noteFrame (.ref e) env) Q E s:=by
 obtain⟨oe,vs,oT,ts,he,hd,h1,hT,hdT,h3,hTe⟩:=hF
 unfold noteFrame
 simp only [hf]
 refine wpAny_bind (wpAny_field he hd h1 ?_)
 rw [if_pos (show(Value.ref T != Value.none)=true from by simp)]
 refine wpAny_bind (wpAny_field hT hdT h3 ?_)
 rw [if_neg (show ¬((Value.none == rawInt L)=true) from by simp [rawInt])]
 refine wpAny_bind (wpAny_setField hT hdT (Array.getElem?_eq_some_iff.mp h3).1 ?_)
 have other:∀ b,b ≠ T->(s.heap.update T (Obj.mapFields (·.setIfInBounds 3 Value.none))).get? b=s.heap.get? b:=λ b hb=>Heap.get?_update_other _ _ (Ne.symm hb)
 have nrec:∀ b o,s.heap.get? b=some o->(∀ vs,o.data ≠ .fields vs)->b ≠ T:=λ b o hb hnf q=>by
  rw [q,hT] at hb
  cases hb
  exact hnf ts hdT
 have sz:(s.heap.update T (Obj.mapFields (·.setIfInBounds 3 Value.none))).objs.size=s.heap.objs.size:=Heap.size_after_update _ _ _
 refine BB hfr (hl.of_keeps λ b o hb hnf=>⟨o,(other b (nrec b o hb hnf)).trans hb,rfl⟩) hf ((other e (Ne.symm hTe)).trans he) hd (Array.getElem?_eq_some_iff.mp h1).1 λ h' T' N=>h h' T' ?_
 dsimp only at N
 refine⟨λ b o hb hc hbe q=>N.keep b o hb (by simp) hbe ((other b (by simpa using hc)).trans q),λ b o hb hc hbe q=>N.slot b o hb (by simp) hbe ((other b (by simpa using hc)).trans q),?_,λ oe' vs' q d=>N.exc oe' vs' ((other e (Ne.symm hTe)).trans q) d,N.fly⟩
 rw [← sz];exact N.new
theorem vF {T:Addr} {fl:Value} (hF:Fly s.heap e T fl) (h:∀ h',(∀ b o,b ≠ T->s.heap.get? b=some o->h'.get? b=some o)->h'.objs.size=s.heap.objs.size->Fly h' e T .none->Q () { s with heap:=h' }):wpAny M A (setFlight (.ref e) none) Q E s:=by
 obtain⟨oe,vs,oT,ts,he,hd,h1,hT,hdT,h3,hTe⟩:=hF
 have hsz:3 < ts.size:=(Array.getElem?_eq_some_iff.mp h3).1
 have other:∀ b,b ≠ T->(s.heap.update T (Obj.mapFields (·.setIfInBounds 3 ((none:Option Addr).elim Value.none λ f=>rawInt f)))).get? b=s.heap.get? b:=λ b hb=>Heap.get?_update_other _ _ (Ne.symm hb)
 unfold setFlight
 refine wpAny_bind (wpAny_field he hd h1 ?_)
 rw [if_pos (show(Value.ref T != Value.none)=true from by simp)]
 refine wpAny_setField hT hdT hsz (h _ (λ b o hb q=>(other b hb).trans q) (Heap.size_after_update _ _ _) ?_)
 exact⟨oe,vs,_,_,(other e (Ne.symm hTe)).trans he,hd,h1,Heap.get?_update_self _ hT (Obj.isFreed_of_fields (Obj.data_mapFields hdT _)),Obj.data_mapFields hdT _,by simp [hsz],hTe⟩
theorem kO.landed {fs ch:List Addr} {T:Addr} {fl:Value} {h h1 h2:Heap} (N:kO fs ch e T fl h h1) (k:∀ b o,b ≠ T->h1.get? b=some o->h2.get? b=some o) (F:Fly h2 e T .none):kO fs ch e T .none h h2:=by
 have nT:∀ b o,h.get? b=some o->b ≠ T:=λ b o q=>Nat.ne_of_lt (Nat.lt_of_lt_of_le (Heap.lt_size q) N.new)
 refine⟨λ b o hb hc hbe q=>k b o (nT b o q) (N.keep b o hb hc hbe q),λ b o hb hc hbe q=>?_,N.new,λ oe vs q d=>k e _ (nT e oe q) (N.exc oe vs q d),F⟩
 obtain⟨sl,z⟩:=N.slot b o hb hc hbe q
 exact⟨sl,k b _ (nT b o q) z⟩
theorem leave_new (hfr:A.frames=some (env :: outer)) (hl:s.heap.FunFrames base (env :: outer)) (hf:env.frame=some L) (he:s.heap.get? e=some oe) (hd:oe.data = .fields vs) (h1:vs[1]? = some .none)
  (h:∀ h' T,kO (frs (env :: outer)) [] e T .none s.heap h'->Q () { s with heap:=h' }):wpAny M A (leaving env (.ref e)) Q E s:=by
 unfold leaving
 exact wpAny_bind (Jq hfr hl hf he hd h1 λ h' T N=>vF (s:={ s with heap:=h' }) N.fly λ h2 k _ F=>h h2 T (N.landed k F))
theorem EY {T:Addr} (hfr:A.frames=some (env :: outer)) (hl:s.heap.FunFrames base (env :: outer)) (hf:env.frame=some L) (hF:Fly s.heap e T .none)
  (h:∀ h' T',kO (frs (env :: outer)) [T] e T' .none s.heap h'->Q () { s with heap:=h' }):wpAny M A (leaving env (.ref e)) Q E s:=by
 unfold leaving
 exact wpAny_bind (HK hfr hl hf hF λ h' T' N=>vF (s:={ s with heap:=h' }) N.fly λ h2 k _ F=>h h2 T' (N.landed k F))
end
open PySem PySem.Spec PyProof.Rows
section
variable {X:Cx} {pins:List (Addr × Obj)} {σ:St} {H:Hp} {s:Shared} {e C T:Addr} {od:Option Addr} {raw:Bool} {fl:Value} {h':Heap} {ch:List Addr}
theorem Nm {o:HO} (q:H e=some o):upd H e o=H:=by
 funext b
 unfold upd
 split
 ·rename_i z;rw [z];exact q.symm
 ·rfl
theorem Inv.noted (I:Inv X pins σ H s) (q:H e=some (exO raw e C od)) (N:kO (frs X.stack) ch e T fl s.heap h') (hc:∀ b ∈ ch,gY X pins H b) :
  Inv X pins σ (upd H e (exO false e C od)) { s with heap:=h' }:=by
 obtain⟨vs,sl,g,hz,_⟩:=ux I.hok q
 have ne:∀ b,H b=none->b ≠ e:=λ b n z=>by rw [z,q] at n;cases n
 have tfs:∀ b o,H b=some o->b ∉ frs X.stack:=λ b o z hm=>by rw [I.zL b hm] at z;cases z
 have tch:∀ b o,H b=some o->b ∉ ch:=λ b o z hm=>by rw [(hc b hm).1] at z;cases z
 have hE:yg false e C od h':=by
  have:=N.exc _ vs g rfl
  refine⟨vs.setIfInBounds 1 (.ref T),sl,this,by simpa using hz,λ z=>by cases z⟩
 refine I.GB (s':={ s with heap:=h' }) (ch:=ch) rfl ⟨λ b o e' n hf hx=>N.keep b o hf hx (ne b n) e',λ b o e' n hf hx=>N.slot b o hf hx (ne b n) e',λ b o e' n hx=>?_,λ b o e' hx=>?_,λ b xs e'=>?_,λ b o u e'=>?_,λ b ps e'=>⟨#[],?_⟩⟩ (λ b o e'=>?_) I.bare λ b hb=>⟨(hc b hb).2.2.2.1,(hc b hb).2.1,(hc b hb).2.2.2.2.1,(hc b hb).2.2.2.2.2⟩
 ·rw [aq (ne b n)];exact n
 ·by_cases z:b=e
  ·subst z;obtain⟨vs',sl',g',_⟩:=hE;exact⟨_,g'⟩
  ·by_cases hf:b ∈ frs X.stack
   ·obtain⟨sl',g'⟩:=N.slot b o hf hx z e';exact⟨_,g'⟩
   ·exact⟨o,N.keep b o hf hx z e'⟩
 ·rw [aq (λ z=>by rw [z,q] at e';cases e')];exact e'
 ·rw [aq (λ z=>by rw [z,q] at e';cases e')];exact e'
 ·rw [aq (λ z=>by rw [z,q] at e';cases e'),e'];simp
 ·by_cases z:b=e
  ·subst z;rw [ah] at e';cases e';exact tY hE
  ·rw [aq z] at e'
   refine(I.hok b o e').stay (λ c v hcv g'=>?_) (λ c g'=>?_) λ c xs g'=>?_
   ·have hcH:∃ u,H c=some u:=by
     rcases hcv with z | z
     ·exact⟨o,by rw [z];exact e'⟩
     ·exact⟨_,z⟩
    obtain⟨u,hu⟩:=hcH
    have hce:c ≠ e:=by
     rcases hcv with z' | z'
     ·rw [z'];exact z
     ·intro z2;rw [z2,q] at z';cases z'
    exact N.keep c v (tfs c u hu) (tch c u hu) hce g'
   ·rw [aq (λ z2=>by rw [z2,q] at g';cases g')];exact g'
   ·rw [aq (λ z2=>by rw [z2,q] at g';cases g')];exact g'
end
def CXx (P:Program) (w:World):CXT:=λ outer H s E v s'=>∃ e C od T H',v = .ref e /\ s'.os=s.os /\ AllBare s'.gens /\ Un (frs outer) [] H H' s.heap s'.heap /\ HOk P w H' s'.heap ∧
 H' e=some (exO false e C od) /\ s.heap.objs.size ≤ T /\ H' T=none /\ Fly s'.heap e T .none /\ E (.ref C) (some e) H'
abbrev XS:=St->XK
def fN (X:Cx) (E:XS):Prop:=∀(pins:List (Addr × Obj)) (σ:St) (H:Hp) (s:Shared) (v:Value) (s':Shared),Inv X pins σ H s->CXx X.prog X.w X.stack H s (E σ) v s'->X.xe v s'
def DU (X:Cx) (E:XS):Prop:=∀(pins:List (Addr × Obj)) (σ:St) (H:Hp) (s:Shared) (e C:Addr) (od:Option Addr),Inv X pins σ H s->H e=some (exO true e C od)->E σ (.ref C) (some e) (upd H e (exO false e C od))->X.xe (.ref e) s
theorem aE {X:Cx}:fN X (λ _=>E0):=λ _ _ _ _ _ _ _ ⟨_,_,_,_,_,_,_,_,_,_,_,_,_,_,h⟩=>h.elim
section
variable {P:Program} {w:World} {K:PySem.W.Frag} {mg:Str->Option Value} {base:Heap} {N:List Str} {qual:Str} {scope:Scope} {f:Addr} {cd:Value} {A:Around} {outer:List Env} {s₀:Shared} {H₀:Hp} {E:XK}
theorem Mb:fN (nH (CXx P w) P w K mg base N qual scope f cd A outer s₀ H₀ E) (λ _=>E):=by
 rintro pins σ H s v s' I ⟨e,C,od,T,H',rfl,os,bare,un,hok,he,hT,nT,fly,hE⟩
 have I':=I.GB (ch:=[]) os un hok bare (λ b z=>absurd z (by simp))
 have hTn:gY (nH (CXx P w) P w K mg base N qual scope f cd A outer s₀ H₀ E) pins H' T:=I.rP hT nT
 show wpAny _ _ (leaving _ (.ref e)) _ _ _
 refine EY I.ok.frames I'.stack rfl fly λ h2 T2 Nd=>?_
 have J:=I'.noted (ch:=[T]) he Nd (λ b hb=>by have:=List.mem_singleton.mp hb;subst this;exact hTn)
 rw [Nm he] at J
 exact⟨e,C,od,T2,H',rfl,J.os,J.bare,J.base,J.hok,he,Nat.le_trans I'.sz Nd.new,I'.hok.fresh Nd.new,Nd.fly,hE⟩
theorem vm:DU (nH (CXx P w) P w K mg base N qual scope f cd A outer s₀ H₀ E) (λ _=>E):=by
 rintro pins σ H s e C od I he hE
 obtain⟨vs,sl,g,hz,hr⟩:=ux I.hok he
 show wpAny _ _ (leaving _ (.ref e)) _ _ _
 refine leave_new I.ok.frames I.stack rfl g rfl (hr rfl) λ h2 T2 Nd=>?_
 have J:=I.noted (ch:=[]) he Nd (λ b hb=>by cases hb)
 exact⟨e,C,od,T2,_,rfl,J.os,J.bare,J.base,J.hok,ah,Nat.le_trans I.sz Nd.new,by rw [aq (λ z=>by rw [← z] at g;exact absurd (Heap.lt_size g) (Nat.not_lt.mpr Nd.new))];exact I.hok.fresh Nd.new,Nd.fly,hE⟩
theorem Fun.okX {x qual:Str} {st:Stmt} {f:Addr} {fd:FuncData} {N ps:List Str} {k:Nat} {sp:Sp} (F:Fun K x qual st f fd) (S:aO N ps (aA st)) (len:∀ vs H Q E,sp vs H Q E->vs.length=ps.length)
  (hbody:∀(cdv:Value) (A:Around) (outer:List Env) (s:Shared) (H:Hp) (vs:List V) (Q:VK) (E:XK),cL k (A.deeper (envOfC qual (aA st) s.heap.objs.size f cdv))->sp vs H Q E →
   ∃ t,PSs (nH (CXx P w) P w K mg base N qual (aA st) f cdv A outer s H E) (aK st) t /\ t { nx:=λ _ H'=>Q .non H',rt:=Q } (start N vs) H):bq P w K mg base (CXx P w) (k + 1) f fd ps sp:=by
 obtain⟨oc,od,kV,doc,pm,an,cdv,ct,osl,rfl,lk,hcd⟩:=F.ex
 exact Lr lk hcd S len λ A outer s H vs Q E hr hsp=>hbody cdv A outer s H vs Q E hr hsp
end
open PySem PySem.Spec PyProof.Rows
section
variable (P:Program) (w:World) (K:PySem.W.Frag) (mg:Str->Option Value) (base:Heap)
structure DefX (x:Str) (k:Nat) (ps:List Str) (sp:Sp):Prop where
 ex:∃(f:Addr) (fd:FuncData),mg x=some (.ref f) /\ bq P w K mg base (CXx P w) k f fd ps sp /\ PySem.W.keepIn K (.ref f)=true /\ Binds K fd ps []
structure bf (C:Addr) (m:Str) (k:Nat) (ps:List Str) (sp:Sp):Prop where
 ex:∃(f:Addr) (fd:FuncData),Meth K C m f /\ bq P w K mg base (CXx P w) k f fd ps sp /\ Binds K fd ps []
structure kQ (x:Str) (C:Addr) (k:Nat) (ps:List Str) (sp:Sp):Prop where
 ex:∃(f:Addr) (fd:FuncData),mg x=some (.ref C) /\ Mk K C f /\ bq P w K mg base (CXx P w) k f fd ps sp /\ Binds K fd ps []
structure XMk (K:PySem.W.Frag) (C f:Addr):Prop where
 cls:ee K C
 init:PySem.W.findIn K (.ref C) "__init__" = some (some (.ref f))
 fn:PySem.W.isFn K (.ref f)=true
 kp:PySem.W.keepIn K (.ref C)=true
structure pB (x:Str) (C:Addr) (k:Nat) (ps:List Str) (sp:Sp):Prop where
 ex:∃(f:Addr) (fd:FuncData),mg x=some (.ref C) /\ XMk K C f /\ bq P w K mg base (CXx P w) k f fd ps sp /\ Binds K fd ps []
end
def HY (sp:Sp) (E:XS) (t:TA):TE:=λ σ H Q=>t σ H λ vs H1=>sp vs H1 Q (E σ)
def eE (C:Addr) (m:Str) (sp:Sp) (E:XS) (ta:TE) (t:TA):TE:=λ σ H Q=>ta σ H λ x H1=>∃ a dx fs,x = .ref a /\ H1 a=some (.ins C dx fs) /\ fs.lookup m=none /\ t σ H1 λ vs H2=>sp (x :: vs) H2 Q (E σ)
def Iw (C:Addr) (sp:Sp) (E:XS) (t:TA):TE:=λ σ H Q=>t σ H λ vs H1=>∀ x dx,H1 x=none->H1 dx=none->dx ≠ x →
 sp (.ref x :: vs) (upd (upd H1 dx (.own x)) x (.ins C dx [])) (λ v H2=>v = .non /\ Q (.ref x) H2) (E σ)
def O0 (C:Addr) (sp:Sp) (t:TA):TE:=λ σ H Q=>t σ H λ vs H1=>vs.length ≤ sizeLine /\ ∀ x,H1 x=none->sp (.ref x :: vs) (upd H1 x (exO true x C none)) (λ v H2=>v = .non /\ Q (.ref x) H2) E0
section
variable {X:Cx} {k:Nat} {f C:Addr} {fd:FuncData} {ps:List Str} {sp:Sp} {E:XS} {x m:Str} {p pos apos:Pos} {e o:Expr} {es:List Expr} {ta:TE} {t:TA}
theorem uX {pins:List (Addr × Obj)} {σ:St} {H:Hp} {s:Shared} {Q:VK} {us:List Value} {vs:List V} (F:bq X.prog X.w X.K X.mg X.base (CXx X.prog X.w) k f fd ps sp) (hr:cL k X.A) (hb:Binds X.K fd ps []) (hx:fN X E)
  (I:Inv X pins σ H s) (r:Vals vs us) (h:sp vs H Q (E σ)):wpAny (model X.prog X.w) X.A (call (.ref f) us) (EP X pins σ Q) X.xe s:=by
 have hl:us.length=ps.length:=by rw [← r.length];exact F.len _ _ _ _ h
 have hb':=hb s us I.kIn (by rw [List.append_nil];exact hl)
 rw [List.append_nil] at hb'
 refine wpAny_call (codeAny_mono (F.run X.A X.stack s H ⟨us,[]⟩ us vs Q (E σ) hr I.Gq hb' r h) λ r s' hq=>?_)
 cases r with
 | error e=>exact hx pins σ H s e s' I hq
 | ok fl =>
  cases fl with
  | ret u=>exact I.after hq
  | next=>exact False.elim hq
  | brk=>exact False.elim hq
  | cont=>exact False.elim hq
theorem aW (D:DefX X.prog X.w X.K X.mg X.base x k ps sp) (hx:fN X E) (hr:cL k X.A) (hg:Gl X x) (ha:PA X (e :: es) t)
  (hdb:(x ==("__debug__":Str))=false:=by decide) (he:starEach (e :: es) X.env =(false,eval e X.env) :: starEach es X.env:=by rfl) (hpl:(backTo pos (starEach es X.env)).any (·.1)=false:=by rfl) :
  PE X (.Call (.Name x p) (e :: es) [] pos) (HY sp E t):=by
 obtain⟨f,fd,m,F,kp,b⟩:=D.ex
 intro pins s σ H Q I h
 refine wpAny_Call_Name_kw (kX I hg m ?_ hdb)
 refine PySem.W.callWith_K (h₀:=X.base) I.ok.mod.kin kp (thn (ha pos pins s σ H _ I h) λ us s1 ⟨vs,H1,I1,r,q⟩=>⟨I1.kIn,?_⟩) he hpl
 exact uX F hr b hx I1 r q
theorem bM {pl:Sem Bool} (he:PE X o ta) (c:Cls X.K C) (D:bf X.prog X.w X.K X.mg X.base C m k ps sp) (hx:fN X E) (hr:cL k X.A) (ha:PA X (e :: es) t)
  (hst:starEach (e :: es) X.env =(false,eval e X.env) :: starEach es X.env:=by rfl) (hpl:(backTo pos (starEach es X.env)).any (·.1)=false:=by rfl)
  (ht:eval (.Call (.Attribute o m apos) (e :: es) [] pos) X.env =(do
   let ov ← eval o X.env
   standAt apos.atName
   let (f,first) ← holding [ov] (getMethod ov m pl)
   callWith pos f first (backTo pos (starEach (e :: es) X.env)) (backToKw pos (keywordEach [] X.env))):=by rfl) :
  PE X (.Call (.Attribute o m apos) (e :: es) [] pos) (eE C m sp E ta t):=by
 obtain⟨f,fd,hm,F,b⟩:=D.ex
 intro pins s σ H Q I h
 refine PySem.W.methodCall_KW (pl:=pl) (thn (he pins s σ H _ I h) λ u s1 ⟨x,H1,I1,rx,a,dx,fs,ex,ea,l,q⟩=>?_) ht
 subst ex
 obtain rfl:u=Value.ref a:=rx
 refine yo I1 ea c hm l ?_
 refine PySem.W.callWith_K (first:=[.ref a]) (h₀:=X.base) I.ok.mod.kin hm.kp (thn (ha pos pins s1 σ H1 _ I1 q) λ us s2 ⟨vs,H2,I2,r,q2⟩=>⟨I2.kIn,?_⟩) hst hpl
 exact uX (us:=.ref a :: us) (vs:=.ref a :: vs) F hr b hx I2 (.cons rfl r) q2
theorem br {pl:Sem Bool} (he:PE X o ta) (c:Cls X.K C) (D:bf X.prog X.w X.K X.mg X.base C m k ps sp) (hx:fN X E) (hr:cL k X.A)
  (ht:eval (.Call (.Attribute o m apos) [] [] pos) X.env =(do
   let ov ← eval o X.env
   standAt apos.atName
   let (f,first) ← holding [ov] (getMethod ov m pl)
   callWith pos f first (backTo pos (starEach [] X.env)) (backToKw pos (keywordEach [] X.env))):=by rfl) :
  PE X (.Call (.Attribute o m apos) [] [] pos) (eE C m sp E ta fm):=by
 obtain⟨f,fd,hm,F,b⟩:=D.ex
 intro pins s σ H Q I h
 refine PySem.W.methodCall_KW (pl:=pl) (thn (he pins s σ H _ I h) λ u s1 ⟨x,H1,I1,rx,a,dx,fs,ex,ea,l,q⟩=>?_) ht
 subst ex
 obtain rfl:u=Value.ref a:=rx
 refine yo I1 ea c hm l ?_
 exact PySem.W.callWith_K0 (first:=[.ref a]) I1.kIn hm.kp (uX (us:=[.ref a]) (vs:=[.ref a]) F hr b hx I1 (.cons rfl .nil) q)
theorem AB {pins:List (Addr × Obj)} {σ:St} {H:Hp} {s:Shared} {Q:VK} {us:List Value} {vs:List V} (M:Mk X.K C f) (F:bq X.prog X.w X.K X.mg X.base (CXx X.prog X.w) k f fd ps sp) (hr:cL (k + 1) X.A) (hb:Binds X.K fd ps [])
  (hx:fN X E) (I:Inv X pins σ H s) (r:Vals vs us)
  (h:∀ x dx,H x=none->H dx=none->dx ≠ x->sp (.ref x :: vs) (upd (upd H dx (.own x)) x (.ins C dx [])) (λ v H2=>v = .non /\ Q (.ref x) H2) (E σ)) :
  wpAny (model X.prog X.w) X.A (call (.ref C) us) (EP X pins σ Q) X.xe s:=by
 have hq:=h (s.heap.objs.size + 1) s.heap.objs.size (I.hok.fresh (Nat.le_succ _)) (I.hok.fresh (Nat.le_refl _)) (Nat.ne_of_lt (Nat.lt_succ_self _))
 have I2:=Inv.made (C:=C) I
 have r2:Vals (V.ref (s.heap.objs.size + 1) :: vs) (Value.ref (s.heap.objs.size + 1) :: us):=.cons rfl r
 have hl:(Value.ref (s.heap.objs.size + 1) :: us).length=ps.length:=by
  have e:=r2.length
  rw [F.len _ _ _ _ hq] at e
  exact e.symm
 have hb':=hb _ (Value.ref (s.heap.objs.size + 1) :: us) I2.kIn (by rw [List.append_nil];exact hl)
 rw [List.append_nil] at hb'
 refine wpAny_call (Dh (f:=f) I.kIn M.makes M.init (beq_iff_eq.mp M.fn) (codeAny_mono (F.run _ X.stack _ _ ⟨Value.ref (s.heap.objs.size + 1) :: us,[]⟩ (Value.ref (s.heap.objs.size + 1) :: us) _ _ (E σ) (hr.make C us [])
  (I2.Gq.make C us []) hb' r2 hq) λ r s' hq'=>?_))
 cases r with
 | error e=>exact hx pins σ _ _ e s' I2 hq'
 | ok fl =>
  cases fl with
  | ret u =>
   obtain⟨v,H',I3,rv,ev,q3⟩:=I2.after hq'
   subst ev
   exact⟨rv,⟨V.ref (s.heap.objs.size + 1),H',I3,rfl,q3⟩⟩
  | next=>exact False.elim hq'
  | brk=>exact False.elim hq'
  | cont=>exact False.elim hq'
theorem Bp (D:kQ X.prog X.w X.K X.mg X.base x C k ps sp) (hx:fN X E) (hr:cL (k + 1) X.A) (hg:Gl X x) (ha:PA X (e :: es) t)
  (hdb:(x ==("__debug__":Str))=false:=by decide) (he:starEach (e :: es) X.env =(false,eval e X.env) :: starEach es X.env:=by rfl) (hpl:(backTo pos (starEach es X.env)).any (·.1)=false:=by rfl) :
  PE X (.Call (.Name x p) (e :: es) [] pos) (Iw C sp E t):=by
 obtain⟨f,fd,m,M,F,b⟩:=D.ex
 intro pins s σ H Q I h
 refine wpAny_Call_Name_kw (kX I hg m ?_ hdb)
 refine PySem.W.callWith_K (h₀:=X.base) I.ok.mod.kin M.kp (thn (ha pos pins s σ H _ I h) λ us s1 ⟨vs,H1,I1,r,q⟩=>⟨I1.kIn,?_⟩) he hpl
 exact AB M F hr b hx I1 r q
theorem AH (D:kQ X.prog X.w X.K X.mg X.base x C k ps sp) (hx:fN X E) (hr:cL (k + 1) X.A) (hg:Gl X x) (hdb:(x ==("__debug__":Str))=false:=by decide):PE X (.Call (.Name x p) [] [] pos) (Iw C sp E fm):=by
 obtain⟨f,fd,m,M,F,b⟩:=D.ex
 intro pins s σ H Q I h
 refine wpAny_Call_Name_kw (kX I hg m ?_ hdb)
 exact PySem.W.callWith_K0 I.kIn M.kp (AB (us:=[]) M F hr b hx I .nil h)
theorem Inv.Ot {pins:List (Addr × Obj)} {σ:St} {H:Hp} {s:Shared} {rest:List Value} (I:Inv X pins σ H s) :
  Inv X pins σ (upd H (s.heap.objs.size + 1) (exO true (s.heap.objs.size + 1) C none)) { s with heap:=(s.heap.push (jZ rest)).push (jn C s.heap.objs.size) }:=by
 refine I.laid (a:=s.heap.objs.size + 1) (t':=s.toks) (λ b u q=>CM b u q) (Nat.le_succ _) (tY ⟨_,_,DF,rfl,λ _=>rfl⟩)
theorem Me {pins:List (Addr × Obj)} {σ:St} {H:Hp} {s:Shared} {Q:VK} {us:List Value} {vs:List V} (M:XMk X.K C f) (F:bq X.prog X.w X.K X.mg X.base (CXx X.prog X.w) k f fd ps sp) (hr:cL (k + 1) X.A) (hb:Binds X.K fd ps [])
  (I:Inv X pins σ H s) (r:Vals vs us) (hlen:vs.length ≤ sizeLine) (h:∀ x,H x=none->sp (.ref x :: vs) (upd H x (exO true x C none)) (λ v H2=>v = .non /\ Q (.ref x) H2) E0) :
  wpAny (model X.prog X.w) X.A (call (.ref C) us) (EP X pins σ Q) X.xe s:=by
 have hq:=h (s.heap.objs.size + 1) (I.hok.fresh (Nat.le_succ _))
 have I2:=Inv.Ot (C:=C) (rest:=us) I
 have r2:Vals (V.ref (s.heap.objs.size + 1) :: vs) (Value.ref (s.heap.objs.size + 1) :: us):=.cons rfl r
 have hl:(Value.ref (s.heap.objs.size + 1) :: us).length=ps.length:=by
  have e:=r2.length
  rw [F.len _ _ _ _ hq] at e
  exact e.symm
 have hb':=hb _ (Value.ref (s.heap.objs.size + 1) :: us) I2.kIn (by rw [List.append_nil];exact hl)
 rw [List.append_nil] at hb'
 have run:=F.run _ X.stack _ _ ⟨Value.ref (s.heap.objs.size + 1) :: us,[]⟩ (Value.ref (s.heap.objs.size + 1) :: us) _ _ E0 (hr.make C us []) (I2.Gq.make C us []) hb' r2 hq
 obtain⟨hp,g,d,t,os⟩:=s
 refine G3 I.kIn M.cls (by rw [← r.length];exact hlen) M.init (beq_iff_eq.mp M.fn) (wpAny_call (codeAny_mono run λ r s' hq'=>?_))
 cases r with
 | error e =>
  obtain⟨_,_,_,_,_,_,_,_,_,_,_,_,_,_,z⟩:=hq'
  exact z.elim
 | ok fl =>
  cases fl with
  | ret u =>
   obtain⟨v,H',I3,rv,ev,q3⟩:=I2.after hq'
   subst ev
   exact⟨rv,⟨V.ref (hp.objs.size + 1),H',I3,rfl,q3⟩⟩
  | next=>exact False.elim hq'
  | brk=>exact False.elim hq'
  | cont=>exact False.elim hq'
theorem yw (D:pB X.prog X.w X.K X.mg X.base x C k ps sp) (hr:cL (k + 1) X.A) (hg:Gl X x) (ha:PA X (e :: es) t)
  (hdb:(x ==("__debug__":Str))=false:=by decide) (he:starEach (e :: es) X.env =(false,eval e X.env) :: starEach es X.env:=by rfl) (hpl:(backTo pos (starEach es X.env)).any (·.1)=false:=by rfl) :
  PE X (.Call (.Name x p) (e :: es) [] pos) (O0 C sp t):=by
 obtain⟨f,fd,m,M,F,b⟩:=D.ex
 intro pins s σ H Q I h
 refine wpAny_Call_Name_kw (kX I hg m ?_ hdb)
 refine PySem.W.callWith_K (h₀:=X.base) I.ok.mod.kin M.kp (thn (ha pos pins s σ H _ I h) λ us s1 ⟨vs,H1,I1,r,hlen,q⟩=>⟨I1.kIn,?_⟩) he hpl
 exact Me M F hr b I1 r hlen q
end
def Nh (K:PySem.W.Frag) (te:TE) (E:XS):TS:=λ _ σ H=>te σ H λ v H1=>∃ e C od,v = .ref e /\ H1 e=some (exO true e C od) /\ ee K C /\ E σ (.ref C) (some e) (upd H1 e (exO false e C od))
section
variable {X:Cx} {x:Expr} {te:TE} {E:XS} {pos:Pos}
theorem IY {M:Model} {A:Around} {E:Value->Shared->Prop} {env:Env} {s:Shared} {x:Sem Value} {Q:Flow->Shared->Prop} (hh:A.handled=none)
  (h:wpAny M A x (λ v s₁=>∃ e vs sl C od,v = .ref e /\ s₁.heap.get? e=some ⟨.ref C,od,.fields vs,sl⟩ /\ vs[1]? = some .none /\ Kv s₁.heap C /\ E (.ref e) s₁) E s) :
  wpAny M A (raiseStmt env (some x) none) Q E s:=by
 unfold raiseStmt
 refine wpAny_bind (wpAny_mono h (λ v s₁ h₁=>?_) λ _ _ x=>x)
 obtain⟨e,vs,sl,C,od,rfl,he,h1,hC,hE⟩:=h₁
 obtain⟨nm,qn,N,bs,bm,sn,sub,ab,col,dd,k0,k1,k2,k3,k5,hC,hb⟩:=hC.ex
 have hcB:=yG (C:=C) hb (T:="BaseException") (by decide)
 obtain⟨hp,g,d,tk,os⟩:=s₁
 repeat (first
  | with_reducible refine wpAny_loadPart_at he ?_
  | with_reducible refine wpAny_loadPart_at hC ?_
  |(with_reducible refine wpAny_isSubtype_exc hC ?_;rw [hcB])
  | with_reducible refine wpAny_field he rfl h1 ?_
  | wp_step)
 exact wpAny_raiseNew_none hh hE
theorem qE (hc:X.calm=true) (hx:DU X E) (he:PE X x te):PS X (.Raise (some x) none pos) (Nh X.K te E):=by
 intro pins s σ H D I h
 rw [arm_exec_Raise]
 have hh:=I.ok.hd hc
 have key:wpAny (model X.prog X.w) X.A (eval x X.env) (λ v s₁=>∃ e vs sl C od,v = .ref e /\ s₁.heap.get? e=some ⟨.ref C,od,.fields vs,sl⟩ /\ vs[1]? = some .none /\ Kv s₁.heap C /\ X.xe (.ref e) s₁) X.xe s:=by
  refine thn (he pins s σ H _ I h) λ u s1 ⟨v,H1,I1,rv,e,C,od,ev,eo,hcl,hE⟩=>?_
  subst ev
  cases (show u=Value.ref e from rv)
  obtain⟨vs,sl,g,hz,hr⟩:=ux I1.hok eo
  exact⟨e,vs,sl,C,od,rfl,g,hr rfl,hcl.at I1.kIn,hx pins σ H1 s1 e C od I1 eo hE⟩
 exact wpAny_bind (wpAny_standAt (IY hh (wpAny_bind (wpAny_mono key (λ v s₁ h₁=>wpAny_bind (wpAny_standAt (wpAny_pure h₁))) λ _ _ x=>x))))
end
open PySem PySem.Spec PyProof.Rows
abbrev TH:=Addr->Addr->TS
def hPl (K:PySem.W.Frag) (DC:Addr) (ts:Addr->List (Addr × Obj)->TS) (tr:TH):TH:=λ e C D σ H=>∃ b,PySem.W.mroIn K C (.ref DC)=some b /\ if b=true then(∀ pn,ts e pn D σ H) else tr e C D σ H
open PySem PySem.Spec PyProof.Rows
theorem Np {P:Program} {w:World} {o:List Env} {H:Hp} {s s':Shared} {e:Value} (h:CXx P w o H s (λ _ _ _=>False) e s'):False:=by
 obtain⟨_,_,_,_,_,_,_,_,_,_,_,_,_,_,z⟩:=h
 exact z
def jP (C:Addr) (f:Str):Sp:=λ vs H Q _=>∃ p y,vs = [.ref p,y] /\ H p=some (exO true p C none) /\ ∀ dx,H dx=none->Q .non (upd (upd H dx (xdO dx [(f,y)])) p (exO true p C (some dx)))
def Bh (C:Addr) (f g:Str):Sp:=λ vs H Q _=>∃ p y z,vs = [.ref p,y,z] /\ H p=some (exO true p C none) /\ ∀ dx,H dx=none->Q .non (upd (upd H dx (xdO dx [(f,y),(g,z)])) p (exO true p C (some dx)))
theorem L6 {H:Hp} {p dx C:Addr} {f g:Str} {y z:V} {Q:Hp->Prop} (hne:p ≠ dx) (hfg:¬ f=g) (h:Q (upd (upd H dx (xdO dx [(f,y),(g,z)])) p (exO true p C (some dx)))) :
  Q (upd (upd (upd H dx (xdO dx [(f,y)])) p (exO true p C (some dx))) dx (xdO dx (cz g z [(f,y)]))):=by
 have e:cz g z [(f,y)] = [(f,y),(g,z)]:=by
  show(if f=g then _ else _)=_
  rw [if_neg hfg];rfl
 rw [e]
 have:upd (upd (upd H dx (xdO dx [(f,y)])) p (exO true p C (some dx))) dx (xdO dx [(f,y),(g,z)])=upd (upd H dx (xdO dx [(f,y),(g,z)])) p (exO true p C (some dx)):=by
  funext b
  unfold upd
  by_cases h1:b=dx
  ·subst h1;simp [hne.symm]
  ·by_cases h2:b=p <;> simp [h1,h2,hne]
 rw [this];exact h
section
variable {K:PySem.W.Frag} {C:Addr} {f g:Str} {y z:V} {H1:Hp} {E:XK}
theorem yc {H1:Hp} {x dx C:Addr} {fs:List (Str × V)} (hx:H1 x=none) (hdx:upd H1 x (exO true x C none) dx=none) :
  ExcAt (upd (upd (upd (upd H1 x (exO true x C none)) dx (xdO dx fs)) x (exO true x C (some dx))) x (exO false x C (some dx))) x C fs /\ ao H1 (upd (upd (upd (upd H1 x (exO true x C none)) dx (xdO dx fs)) x (exO true x C (some dx))) x (exO false x C (some dx))):=by
 have hne:dx ≠ x:=λ e=>by rw [e,ah] at hdx;cases hdx
 have hn:H1 dx=none:=by rw [aq hne] at hdx;exact hdx
 refine⟨⟨false,some dx,ah,?_,hne⟩,λ b o q=>?_⟩
 ·rw [aq hne,aq hne,ah]
 ·have h1:=au q hx
  have h2:=au q hn
  rw [aq h1,aq h1,aq h2,aq h1];exact q
theorem lK (c:ee K C) (h:∀ e H',ExcAt H' e C [(f,y)]->ao H1 H'->E (.ref C) (some e) H') :
  [y].length ≤ sizeLine /\ ∀ x,H1 x=none->jP C f (.ref x :: [y]) (upd H1 x (exO true x C none)) (λ v H2=>v = .non /\ ∃ e C' od,V.ref x = .ref e /\ H2 e=some (exO true e C' od) /\ ee K C' /\ E (.ref C') (some e) (upd H2 e (exO false e C' od))) E0 :=
 ⟨by show 1 ≤ sizeLine;decide,λ x hx=>⟨x,y,rfl,ah,λ dx hdx=>⟨rfl,x,C,some dx,rfl,ah,c,let ⟨a,b⟩:=yc hx hdx;h x _ a b⟩⟩⟩
theorem Nr (c:ee K C) (h:∀ e H',ExcAt H' e C [(f,y),(g,z)]->ao H1 H'->E (.ref C) (some e) H') :
  [y,z].length ≤ sizeLine /\ ∀ x,H1 x=none->Bh C f g (.ref x :: [y,z]) (upd H1 x (exO true x C none)) (λ v H2=>v = .non /\ ∃ e C' od,V.ref x = .ref e /\ H2 e=some (exO true e C' od) /\ ee K C' /\ E (.ref C') (some e) (upd H2 e (exO false e C' od))) E0 :=
 ⟨by show 2 ≤ sizeLine;decide,λ x hx=>⟨x,y,z,rfl,ah,λ dx hdx=>⟨rfl,x,C,some dx,rfl,ah,c,let ⟨a,b⟩:=yc hx hdx;h x _ a b⟩⟩⟩
end
open PySem
theorem pe {i j:Int} (h:decide (V.int i=V.int j)=true):i=j:=V.int.inj (of_decide_eq_true h)
theorem qd {i j:Int} (h:¬ decide (V.int i=V.int j)=true):¬ i=j:=λ e=>h (decide_eq_true (congrArg V.int e))
theorem Bw (n:Nat):(List.replicate n [V.int 0]).flatten =(List.replicate n (0:Int)).map V.int:=by
 induction n with
 | zero=>rfl
 | succ n ih=>rw [List.replicate_succ,List.flatten_cons,ih];rfl
theorem fK {f g:Str} {v x:V} {r:List (Str × V)} (h:¬ g=f):cz f v ((g,x) :: r) =(g,x) :: cz f v r:=by
 show(if g=f then _ else _)=_
 rw [if_neg h]
theorem L4 {f:Str} {v x:V} {r:List (Str × V)}:cz f v ((f,x) :: r) =(f,v) :: r:=by
 show(if f=f then _ else _)=_
 rw [if_pos rfl]
def bE (F:List Addr) (H H':Hp):Prop:=∀ b o,H b=some o->b ∉ F->H' b=some o
theorem bE.of_same {F:List Addr} {H H':Hp} (h:ao H H'):bE F H H':=λ b o e _=>h b o e
theorem gZ {F:List Addr} {H H':Hp} {p:Addr} {o:HO} (s:bE F H H') (h:p ∈ F ∨ H p=none):bE F H (upd H' p o):=λ b u e hb=>by
 rw [aq]
 ·exact s b u e hb
 ·rintro rfl
  rcases h with h | h
  ·exact hb h
  ·rw [h] at e;cases e
theorem bE.refl {F:List Addr} {H:Hp}:bE F H H:=λ _ _ e _=>e
structure Rows (H:Hp) (L:List Addr) (xss:List (List Int)):Prop where
 len:L.length=xss.length
 get:∀(i:Nat) a xs,L[i]? = some a->xss[i]? = some xs->H a=some (.lst (xs.map V.int))
theorem Rows.mono {H H':Hp} {L:List Addr} {xss:List (List Int)} (R:Rows H L xss) (h:∀ a ∈ L,∀ o,H a=some o->H' a=some o):Rows H' L xss :=
 ⟨R.len,λ i a xs e1 e2=>h a (List.mem_of_getElem? e1) _ (R.get i a xs e1 e2)⟩
theorem Rows.snoc {H:Hp} {L:List Addr} {xss:List (List Int)} (R:Rows H L xss) {a:Addr} {xs:List Int} (h:H a=some (.lst (xs.map V.int))):Rows H (L ++ [a]) (xss ++ [xs]) :=
 ⟨by simp [R.len],λ i b ys e1 e2=>by
  have l:=R.len
  by_cases hi:i < L.length
  ·rw [List.getElem?_append_left hi] at e1
   rw [List.getElem?_append_left (by omega)] at e2
   exact R.get i b ys e1 e2
  ·rw [List.getElem?_append_right (by omega)] at e1
   rw [List.getElem?_append_right (by omega)] at e2
   have hi2:i - L.length=0:=by
    have:=(List.getElem?_eq_some_iff.mp e1).1
    simp at this;omega
   rw [hi2] at e1
   rw [show i - xss.length=0 by omega] at e2
   have e1:a=b:=by simpa using e1
   have e2:xs=ys:=by simpa using e2
   rw [← e1,← e2];exact h⟩
theorem Rows.at_ {H:Hp} {L:List Addr} {xss:List (List Int)} (R:Rows H L xss) {i:Nat} {xs:List Int} (h:xss[i]? = some xs):∃ a,L[i]? = some a /\ a ∈ L /\ H a=some (.lst (xs.map V.int)):=by
 have hi:i < L.length:=by rw [R.len];exact(List.getElem?_eq_some_iff.mp h).1
 exact⟨L[i],List.getElem?_eq_getElem hi,List.getElem_mem hi,R.get i _ xs (List.getElem?_eq_getElem hi) h⟩
structure jA (H:Hp) (L:List V) (chs:List (Int × Int)):Prop where
 len:L.length=chs.length
 get:∀(i:Nat) v,L[i]? = some v->∃ t r,v=V.ref t /\ chs[i]? = some r /\ H t=some (.tup [.int r.1,.int r.2])
theorem jA.nil {H:Hp}:jA H [] []:=⟨rfl,λ i v e=>by simp at e⟩
theorem jA.mono {H H':Hp} {L:List V} {chs:List (Int × Int)} (R:jA H L chs) (h:∀ t xs,H t=some (.tup xs)->H' t=some (.tup xs)):jA H' L chs :=
 ⟨R.len,λ i v e=>let ⟨t,r,a,b,c⟩:=R.get i v e;⟨t,r,a,b,h t _ c⟩⟩
theorem jA.snoc {H:Hp} {L:List V} {chs:List (Int × Int)} (R:jA H L chs) {t:Addr} {r:Int × Int} (h:H t=some (.tup [.int r.1,.int r.2])):jA H (L ++ [.ref t]) (chs ++ [r]) :=
 ⟨by simp [R.len],λ i v e=>by
  by_cases hi:i < L.length
  ·rw [List.getElem?_append_left hi] at e
   obtain⟨t,r,a,b,c⟩:=R.get i v e
   exact⟨t,r,a,by rw [List.getElem?_append_left (by rw [← R.len];exact hi)];exact b,c⟩
  ·rw [List.getElem?_append_right (by omega)] at e
   have hi2:i - L.length=0:=by
    have:=(List.getElem?_eq_some_iff.mp e).1
    simp at this;omega
   rw [hi2] at e
   have e:V.ref t=v:=by simpa using e
   refine⟨t,r,e.symm,?_,h⟩
   rw [List.getElem?_append_right (by rw [← R.len];omega),← R.len,hi2];rfl⟩
def fl (wd ls:Int) (ta sa:Addr):List (Str × V):=[("wide",.int wd),("last",.int ls),("tables",.ref ta),("set_places",.ref sa)]
theorem s1:¬(("wide":Str) = "last"):=by decide +kernel
theorem s2:¬(("wide":Str) = "tables"):=by decide +kernel
theorem s3:¬(("wide":Str) = "set_places"):=by decide +kernel
theorem s4:¬(("last":Str) = "tables"):=by decide +kernel
theorem s5:¬(("last":Str) = "set_places"):=by decide +kernel
theorem s6:¬(("tables":Str) = "set_places"):=by decide +kernel
def nextT (tab:List Int) (chs:List (Int × Int)):List Int:=chs.foldl (λ t c=>t.set c.1.toNat c.2) tab
theorem HU (chs:List (Int × Int)):∀ tab:List Int,(nextT tab chs).length=tab.length:=by
 induction chs with
 | nil=>intro tab;rfl
 | cons c r ih=>intro tab;show(nextT (tab.set c.1.toNat c.2) r).length=_;rw [ih,List.length_set]
theorem Fl (tab:List Int) (chs:List (Int × Int)) (c:Int × Int):nextT tab (chs ++ [c]) =(nextT tab chs).set c.1.toNat c.2:=by
 unfold nextT;rw [List.foldl_append];rfl
open PySem PySem.Spec PyProof.Rows
structure wB (K:PySem.W.Frag) (x qual:Str) (st:Stmt) (f:Addr) (fd:FuncData) (dV:Value):Prop where
 ex:∃(oc:Value) (od:Option Addr) (kV doc pm:Value) (an:Option Addr) (cdv ct:Value) (osl:Array (Option Value)),
  fd=PySem.W.fnOf x qual (aL st) (aK st) (aA st) dV kV doc pm an cdv ct /\ K.lookup f=some ⟨oc,od,.func fd,osl⟩ /\ PySem.W.codeIn K cdv qual=true
 kp:PySem.W.keepIn K (.ref f)=true
section
variable {P:Program} {w:World} {K:PySem.W.Frag} {mg:Str->Option Value} {base:Heap}
theorem wB.okX {x qual:Str} {st:Stmt} {f:Addr} {fd:FuncData} {dV:Value} {N ps:List Str} {k:Nat} {sp:Sp} (F:wB K x qual st f fd dV) (S:aO N ps (aA st)) (len:∀ vs H Q E,sp vs H Q E->vs.length=ps.length)
  (hbody:∀(cdv:Value) (A:Around) (outer:List Env) (s:Shared) (H:Hp) (vs:List V) (Q:VK) (E:XK),cL k (A.deeper (envOfC qual (aA st) s.heap.objs.size f cdv))->sp vs H Q E →
   ∃ t,PSs (nH (CXx P w) P w K mg base N qual (aA st) f cdv A outer s H E) (aK st) t /\ t { nx:=λ _ H'=>Q .non H',rt:=Q } (start N vs) H):bq P w K mg base (CXx P w) (k + 1) f fd ps sp:=by
 obtain⟨oc,od,kV,doc,pm,an,cdv,ct,osl,rfl,lk,hcd⟩:=F.ex
 exact Lr lk hcd S len λ A outer s H vs Q E hr hsp=>hbody cdv A outer s H vs Q E hr hsp
theorem D8 {x qual:Str} {st:Stmt} {f:Addr} {oc dV:Value} {od an:Option Addr} {osl:Array (Option Value)} {kV doc pm cdv ct:Value} (l:K.lookup f=some ⟨oc,od,.func (PySem.W.fnOf x qual (aL st) (aK st) (aA st) dV kV doc pm an cdv ct),osl⟩)
  (c:PySem.W.codeIn K cdv qual=true) (k:PySem.W.keepIn K (.ref f)=true):wB K x qual st f (PySem.W.fnOf x qual (aL st) (aK st) (aA st) dV kV doc pm an cdv ct) dV:=⟨⟨oc,od,kV,doc,pm,an,cdv,ct,osl,rfl,l,c⟩,k⟩
theorem wB.binds {x qual:Str} {st:Stmt} {f T:Addr} {fd:FuncData} {ps:List Str} {o:Obj} {its:Array Value} {n:Nat} {ds:List Value} (F:wB K x qual st f fd (.ref T)) (ho:K.lookup T=some o) (hs:o.data = .seq its n)
  (h:∀(kV doc pm:Value) (an:Option Addr) (cdv ct:Value) (us:List Value),us.length + ds.length=ps.length->∃ k:Option (Array Value)->Sem (List (Str × Value)),
   bindArgs (PySem.W.fnOf x qual (aL st) (aK st) (aA st) (.ref T) kV doc pm an cdv ct) ⟨us,[]⟩=seqItems? (.ref T) >>= k /\ k (some its)=pure (ps.zip (us ++ ds))):Binds K fd ps ds:=by
 obtain⟨oc,od,kV,doc,pm,an,cdv,ct,osl,rfl,lk,hcd⟩:=F.ex
 intro s us X hl
 obtain⟨k,h1,h2⟩:=h kV doc pm an cdv ct us (by rw [← List.length_append];exact hl)
 exact PySem.W.binds_K X rfl ho hs h1 h2
end
section
variable (P:Program) (w:World) (K:PySem.W.Frag) (mg:Str->Option Value) (base:Heap)
structure jS (x:Str) (C:Addr) (k:Nat) (ps:List Str) (ds:List Value) (sp:Sp):Prop where
 ex:∃(f:Addr) (fd:FuncData),mg x=some (.ref C) /\ Mk K C f /\ bq P w K mg base (CXx P w) k f fd ps sp /\ Binds K fd ps ds
structure Om (C:Addr) (m:Str) (f:Addr):Prop where
 ga:PySem.W.specialIn K (.ref C) "__getattribute__" = some (some (.builtin "type.__getattribute__"))
 rd:PySem.W.readsIn K C (.type "type")=true
 fc:PySem.W.findCls K (.ref C) (.type "type") m=some (.val (.ref f))
 kp:PySem.W.keepIn K (.ref f)=true
structure Hl (x:Str) (C:Addr) (m:Str) (k:Nat) (ps:List Str) (sp:Sp):Prop where
 ex:∃(f:Addr) (fd:FuncData),mg x=some (.ref C) /\ Om K C m f /\ bq P w K mg base (CXx P w) k f fd ps sp /\ Binds K fd ps []
end
def LH (C:Addr) (sp:Sp) (E:XS) (dvs:List V) (t:TA):TE:=λ σ H Q=>t σ H λ vs H1=>∀ x dx,H1 x=none->H1 dx=none->dx ≠ x →
 sp (.ref x ::(vs ++ dvs)) (upd (upd H1 dx (.own x)) x (.ins C dx [])) (λ v H2=>v = .non /\ Q (.ref x) H2) (E σ)
def kY (t1 t2:TE):TE:=λ σ H Q=>t1 σ H Q ∨ t2 σ H Q
section
variable {X:Cx} {k:Nat} {f C:Addr} {fd:FuncData} {ps:List Str} {sp:Sp} {E:XS} {x m:Str} {p pos apos:Pos} {e o:Expr} {es:List Expr} {ta:TE} {t:TA} {ds:List Value} {dvs:List V}
theorem g7 {t1 t2:TE} (h1:PE X e t1) (h2:PE X e t2):PE X e (kY t1 t2):=λ pins s σ H Q I h=>h.elim (h1 pins s σ H Q I) (h2 pins s σ H Q I)
theorem Gn {pins:List (Addr × Obj)} {σ:St} {H:Hp} {s:Shared} {Q:VK} {us:List Value} {vs:List V} (M:Mk X.K C f) (F:bq X.prog X.w X.K X.mg X.base (CXx X.prog X.w) k f fd ps sp) (hr:cL (k + 1) X.A) (hb:Binds X.K fd ps ds) (rd:Vals dvs ds)
  (hx:fN X E) (I:Inv X pins σ H s) (r:Vals vs us)
  (h:∀ x dx,H x=none->H dx=none->dx ≠ x->sp (.ref x ::(vs ++ dvs)) (upd (upd H dx (.own x)) x (.ins C dx [])) (λ v H2=>v = .non /\ Q (.ref x) H2) (E σ)) :
  wpAny (model X.prog X.w) X.A (call (.ref C) us) (EP X pins σ Q) X.xe s:=by
 have hq:=h (s.heap.objs.size + 1) s.heap.objs.size (I.hok.fresh (Nat.le_succ _)) (I.hok.fresh (Nat.le_refl _)) (Nat.ne_of_lt (Nat.lt_succ_self _))
 have I2:=Inv.made (C:=C) I
 have r2:Vals (V.ref (s.heap.objs.size + 1) ::(vs ++ dvs)) (Value.ref (s.heap.objs.size + 1) :: us ++ ds):=.cons rfl (Vals.append r rd)
 have hl:(Value.ref (s.heap.objs.size + 1) :: us ++ ds).length=ps.length:=by
  have e:=r2.length
  rw [F.len _ _ _ _ hq] at e
  exact e.symm
 have hb':=hb _ (Value.ref (s.heap.objs.size + 1) :: us) I2.kIn hl
 refine wpAny_call (Dh (f:=f) I.kIn M.makes M.init (beq_iff_eq.mp M.fn) (codeAny_mono (F.run _ X.stack _ _ ⟨Value.ref (s.heap.objs.size + 1) :: us,[]⟩ (Value.ref (s.heap.objs.size + 1) :: us ++ ds) _ _ (E σ) (hr.make C us [])
  (I2.Gq.make C us []) hb' r2 hq) λ r s' hq'=>?_))
 cases r with
 | error e=>exact hx pins σ _ _ e s' I2 hq'
 | ok fl =>
  cases fl with
  | ret u =>
   obtain⟨v,H',I3,rv,ev,q3⟩:=I2.after hq'
   subst ev
   exact⟨rv,⟨V.ref (s.heap.objs.size + 1),H',I3,rfl,q3⟩⟩
  | next=>exact False.elim hq'
  | brk=>exact False.elim hq'
  | cont=>exact False.elim hq'
theorem jX (D:jS X.prog X.w X.K X.mg X.base x C k ps ds sp) (rd:Vals dvs ds) (hx:fN X E) (hr:cL (k + 1) X.A) (hg:Gl X x) (ha:PA X (e :: es) t)
  (hdb:(x ==("__debug__":Str))=false:=by decide) (he:starEach (e :: es) X.env =(false,eval e X.env) :: starEach es X.env:=by rfl) (hpl:(backTo pos (starEach es X.env)).any (·.1)=false:=by rfl) :
  PE X (.Call (.Name x p) (e :: es) [] pos) (LH C sp E dvs t):=by
 obtain⟨f,fd,m,M,F,b⟩:=D.ex
 intro pins s σ H Q I h
 refine wpAny_Call_Name_kw (kX I hg m ?_ hdb)
 refine PySem.W.callWith_K (h₀:=X.base) I.ok.mod.kin M.kp (thn (ha pos pins s σ H _ I h) λ us s1 ⟨vs,H1,I1,r,q⟩=>⟨I1.kIn,?_⟩) he hpl
 exact Gn M F hr b rd hx I1 r q
theorem DS {pl:Sem Bool} (he:PE X o (tC (.ref C))) (D:Hl X.prog X.w X.K X.mg X.base x C m k ps sp) (hx:fN X E) (hr:cL k X.A) (ha:PA X (e :: es) t)
  (hst:starEach (e :: es) X.env =(false,eval e X.env) :: starEach es X.env:=by rfl) (hpl:(backTo pos (starEach es X.env)).any (·.1)=false:=by rfl)
  (ht:eval (.Call (.Attribute o m apos) (e :: es) [] pos) X.env =(do
   let ov ← eval o X.env
   standAt apos.atName
   let (f,first) ← holding [ov] (getMethod ov m pl)
   callWith pos f first (backTo pos (starEach (e :: es) X.env)) (backToKw pos (keywordEach [] X.env))):=by rfl) :
  PE X (.Call (.Attribute o m apos) (e :: es) [] pos) (HY sp E t):=by
 obtain⟨f,fd,_,c,F,b⟩:=D.ex
 intro pins s σ H Q I h
 refine PySem.W.methodCall_KW (pl:=pl) (thn (he pins s σ H (λ v H'=>v = .ref C /\ H'=H) I ⟨rfl,rfl⟩) λ u s1 ⟨x,H1,I1,rx,ex,eH⟩=>?_) ht
 subst ex eH
 obtain rfl:u=Value.ref C:=rx
 refine PySem.W.method_cls I1.kIn c.ga (PySem.W.cls_value I1.kIn c.rd c.fc rfl ?_)
 refine PySem.W.callWith_K (first:=[]) (h₀:=X.base) I.ok.mod.kin c.kp (thn (ha pos pins _ σ H1 _ (I1.tok _) h) λ us s2 ⟨vs,H2,I2,r,q2⟩=>⟨I2.kIn,?_⟩) hst hpl
 exact uX F hr b hx I2 r q2
end
open PySem PySem.Spec PyProof.Rows
def Src (i l:Addr) (its:Array Value) (k:Nat) (h:Heap):Prop:=(h.IsListIter i l k /\ h.IsList l its) ∨(h.IsTupleIter i l k /\ h.IsTuple l its)
theorem Src.mv {i l:Addr} {its:Array Value} {k:Nat} {h h':Heap} (x:Src i l its k h) (e1:∀ o,h.get? i=some o->h'.get? i=some o) (e2:∀ o,h.get? l=some o->h'.get? l=some o):Src i l its k h':=by
 rcases x with⟨⟨o,a,b⟩,⟨p,c,d⟩⟩ |⟨⟨o,a,b⟩,⟨p,c,d⟩⟩
 ·exact .inl ⟨⟨o,e1 o a,b⟩,⟨p,e2 p c,d⟩⟩
 ·exact .inr ⟨⟨o,e1 o a,b⟩,⟨p,e2 p c,d⟩⟩
section
variable {prog:Program} {w:World} {A:Around} {E:Value->Shared->Prop} {s:Shared} {i l:Addr} {its:Array Value} {k:Nat}
theorem Km {x:Value} {Q:Value->Shared->Prop} (h1:s.heap.IsTupleIter i l k) (h2:s.heap.IsTuple l its) (hx:its[k]? = some x) (hQ:∀ h',h'.IsTupleIter i l (k + 1)->Heap.SameBut i s.heap h'->Q x { s with heap:=h' }) :
  wpAny (model prog w) A (Builtin.SmallTypes.nextOf (.ref i)) Q E s:=by
 obtain⟨o,ho,hc,hd⟩:=id h1
 obtain⟨ot,hot,_,nt,hdt⟩:=h2
 have S:=PySem.F.slot_tuple_iterator_next
 unfold Builtin.SmallTypes.nextOf
 refine wpAny_bind (wpAny_callSpecial?_slot (name:=Str.ofString "__next__") h1.typeIs S (wpAny_call_entry S h1.typeIs PySem.F.entry_tuple_iterator_next ?_ (PySem.F.args_tuple_iterator_next_1 _)))
 show wpAny _ _ (field (Value.ref i) 0 >>= _) _ _ s
 refine wpAny_bind (wpAny_field ho hd (x:=Value.ref l) rfl ?_)
 show wpAny _ _ (if (Value.ref l == .none)=true then _ else _) _ _ s
 rw [if_neg (by simp)]
 show wpAny _ _ (field (Value.ref i) 1 >>= _) _ _ s
 refine wpAny_bind (wpAny_field ho hd (x:=Value.int k 0) rfl ?_)
 show wpAny _ _ (seqItems? (Value.ref l) >>= _) _ _ s
 refine wpAny_bind (wpAny_seqItems hot hdt ?_)
 simp only [Int.toNat_natCast,hx]
 refine wpAny_bind (wpAny_setField ho hd (by simp) (wpAny_pure ⟨x,rfl,wpAny_pure (hQ _ ⟨_,Heap.get?_update_self _ ho (Obj.isFreed_of_fields (Obj.data_mapFields hd _)),(Obj.cls_mapFields ..).trans hc,?_⟩ (Heap.SameBut.update ..))⟩))
 rw [Obj.data_mapFields hd]
 simp [rawInt]
theorem LQ {Q:Value->Shared->Prop} (hh:A.handled=none) (h1:s.heap.IsTupleIter i l k) (h2:s.heap.IsTuple l its) (hx:its[k]? = none) (hE:∀ h' e,Heap.ExtBut i s.heap h'->(∃ o,h'.get? e=some o /\ o.cls = .type "StopIteration")->E (.ref e) { s with heap:=h' }) :
  wpAny (model prog w) A (Builtin.SmallTypes.nextOf (.ref i)) Q E s:=by
 obtain⟨o,ho,hc,hd⟩:=id h1
 obtain⟨ot,hot,_,nt,hdt⟩:=h2
 have S:=PySem.F.slot_tuple_iterator_next
 unfold Builtin.SmallTypes.nextOf
 refine wpAny_bind (wpAny_callSpecial?_slot (name:=Str.ofString "__next__") h1.typeIs S (wpAny_call_entry S h1.typeIs PySem.F.entry_tuple_iterator_next ?_ (PySem.F.args_tuple_iterator_next_1 _)))
 show wpAny _ _ (field (Value.ref i) 0 >>= _) _ _ s
 refine wpAny_bind (wpAny_field ho hd (x:=Value.ref l) rfl ?_)
 show wpAny _ _ (if (Value.ref l == .none)=true then _ else _) _ _ s
 rw [if_neg (by simp)]
 show wpAny _ _ (field (Value.ref i) 1 >>= _) _ _ s
 refine wpAny_bind (wpAny_field ho hd (x:=Value.int k 0) rfl ?_)
 show wpAny _ _ (seqItems? (Value.ref l) >>= _) _ _ s
 refine wpAny_bind (wpAny_seqItems hot hdt ?_)
 simp only [Int.toNat_natCast,hx]
 refine wpAny_bind (wpAny_rule (wpAny_bind (wpAny_setField ho hd (by simp) ?_)))
 show wpAny _ _ (newExc (Value.type "StopIteration") [] >>= _) _ _ _
 refine wpAny_bind ?_
 simp only [newExc,newTuple]
 refine wpAny_bind (wpAny_newObj_type ?_ (by size_fits))
 refine wpAny_bind (m:=firstArgMember _ _) (wpAny_of_eq (a:=Value.none) (by simp only [firstArgMember];rfl) (wpAny_newObj_type ?_ (by size_fits)))
 simp only [raiseNew]
 refine wpAny_bind (wpAny_handled ?_)
 rw [show A.in1.handled=none from hh]
 exact wpAny_bind (wpAny_pure (wpAny_throw (hE _ _ (((Heap.SameBut.update ..).extBut.push _).push _) ⟨_,Heap.get?_push_size _ rfl,rfl⟩)))
theorem Src.item {x:Value} {Q:Value->Shared->Prop} (S:Src i l its k s.heap) (ne:l ≠ i) (hx:its[k]? = some x) (hQ:∀ h',Src i l its (k + 1) h'->Heap.SameBut i s.heap h'->Q x { s with heap:=h' }) :
  wpAny (model prog w) A (Builtin.SmallTypes.nextOf (.ref i)) Q E s:=by
 rcases S with⟨a,b⟩ |⟨a,b⟩
 ·exact wpAny_nextOf_list_item a b hx λ h' a' sb=>hQ h' (.inl ⟨a',let ⟨p,c,d⟩:=b;⟨p,sb.extBut _ _ ne c,d⟩⟩) sb
 ·exact Km a b hx λ h' a' sb=>hQ h' (.inr ⟨a',let ⟨p,c,d⟩:=b;⟨p,sb.extBut _ _ ne c,d⟩⟩) sb
theorem Src.fin {Q:Value->Shared->Prop} (hh:A.handled=none) (S:Src i l its k s.heap) (hx:its[k]? = none) (hE:∀ h' e,Heap.ExtBut i s.heap h'->(∃ o,h'.get? e=some o /\ o.cls = .type "StopIteration")->E (.ref e) { s with heap:=h' }) :
  wpAny (model prog w) A (Builtin.SmallTypes.nextOf (.ref i)) Q E s:=by
 rcases S with⟨a,b⟩ |⟨a,b⟩
 ·exact wpAny_nextOf_list_end hh a b hx hE
 ·exact LQ hh a b hx hE
end
section
variable {prog:Program} {w:World} {A:Around} {E:Value->Shared->Prop} {s:Shared} {z TI TO i1 i2 l1 l2:Addr} {k1 k2:Nat} {xs ys:Array Value} {x y a b:Value}
theorem IL {Q:Value->Shared->Prop} (D:ZipApart z TI TO i1 i2 l1 l2) (hz:IsZip s.heap z TI TO .none) (hI:IsPair s.heap TI (.ref i1) (.ref i2)) (hO:IsPair s.heap TO a b) (S1:Src i1 l1 xs k1 s.heap) (S2:Src i2 l2 ys k2 s.heap) (hx:xs[k1]? = some x) (hy:ys[k2]? = some y)
  (hQ:∀ h',IsZip h' z TI TO (rawInt s.heap.objs.size)->IsPair h' TO x y->Src i1 l1 xs (k1 + 1) h'->Src i2 l2 ys (k2 + 1) h'->IsPair h' s.heap.objs.size x y->h'.objs.size=s.heap.objs.size + 1->(∀ c o,c ≠ z->c ≠ TO->c ≠ i1->c ≠ i2->s.heap.get? c=some o->h'.get? c=some o)->Q (.ref s.heap.objs.size) { s with heap:=h' }) :
  wpAny (model prog w) A (Builtin.«zip.__next__» ⟨[.ref z],[]⟩) (λ fin s'=>∃ v,fin = .done (.ret v) /\ Q v s') E s:=by
 show wpAny _ _ (field (Value.ref z) 2 >>= _) _ _ s
 refine wpAny_bind (wpAny_field hz rfl (x:=Value.bool false) rfl ?_)
 show wpAny _ _ (field (Value.ref z) 3 >>= _) _ _ s
 refine wpAny_bind (wpAny_field hz rfl (x:=Value.ref TI) rfl (wpAny_bind (wpAny_seqItems hI rfl ?_)))
 show wpAny _ _ (Builtin.SmallTypes.ownedTupleIsFree (Value.ref z) >>= _) _ _ s
 unfold Builtin.SmallTypes.ownedTupleIsFree
 refine wpAny_bind (wpAny_bind (wpAny_field hz rfl (x:=Value.none) rfl (wpAny_pure ?_)))
 simp only [if_true]
 refine wpAny_bind (wpAny_rule (wpAny_bind (wpAny_field hz rfl (x:=Value.ref TO) rfl (wpAny_bind (wpAny_setField_rec hz (by simp) λ h1 hz1 b1=>?_)))))
 replace hz1:IsZip h1 z TI TO Value.ellipsis:=hz1
 refine wpAny_bind ?_
 simp only [List.zipIdx_cons,List.zipIdx_nil,List.forIn_cons,List.forIn_nil]
 refine wpAny_bind (wpAny_bind (wpAny_onRaise ?_))
 show wpAny _ _ (Builtin.SmallTypes.nextOf (Value.ref i1) >>= _) _ _ _
 refine wpAny_bind (Src.item (S1.mv (λ o e=>b1.extBut _ _ D.i1z e) λ o e=>b1.extBut _ _ D.l1z e) D.l1i1 hx λ h2 S12 b2=>wpAny_pure ?_)
 have hO2:IsPair h2 TO a b:=b2.extBut _ _ D.TOi1 (b1.extBut _ _ D.TOz hO)
 refine wpAny_bind (wpAny_seqItems hO2 rfl (wpAny_bind (wpAny_updateSeq_pair hO2 λ h3 hO3 b3=>?_)))
 replace hO3:IsPair h3 TO x b:=hO3
 refine wpAny_bind (wpAny_letGo (wpAny_pure (wpAny_bind (wpAny_bind (wpAny_onRaise ?_)))))
 show wpAny _ _ (Builtin.SmallTypes.nextOf (Value.ref i2) >>= _) _ _ _
 refine wpAny_bind (Src.item (S2.mv (λ o e=>b3.extBut _ _ D.TOi2.symm (b2.extBut _ _ D.i12.symm (b1.extBut _ _ D.i2z e))) λ o e=>b3.extBut _ _ D.l2TO (b2.extBut _ _ D.l2i1 (b1.extBut _ _ D.l2z e))) D.l2i2 hy λ h4 S24 b4=>wpAny_pure ?_)
 have hO4:IsPair h4 TO x b:=b4.extBut _ _ D.TOi2 hO3
 refine wpAny_bind (wpAny_seqItems hO4 rfl (wpAny_bind (wpAny_updateSeq_pair hO4 λ h5 hO5 b5=>?_)))
 replace hO5:IsPair h5 TO x y:=hO5
 refine wpAny_bind (wpAny_letGo (wpAny_pure (wpAny_pure (wpAny_bind (wpAny_seqItems hO5 rfl (wpAny_bind (wpAny_newTuple ?_)))))))
 have sz:h5.objs.size=s.heap.objs.size:=by rw [b5.1,b4.1,b3.1,b2.1,b1.1]
 have hz5:IsZip h5 z TI TO Value.ellipsis:=b5.extBut _ _ D.TOz.symm (b4.extBut _ _ D.i2z.symm (b3.extBut _ _ D.TOz.symm (b2.extBut _ _ D.i1z.symm hz1)))
 have k5:∀ c o,c ≠ z->c ≠ TO->c ≠ i1->c ≠ i2->s.heap.get? c=some o->h5.get? c=some o:=λ c o n1 n2 n3 n4 e=>b5.extBut _ _ n2 (b4.extBut _ _ n4 (b3.extBut _ _ n2 (b2.extBut _ _ n3 (b1.extBut _ _ n1 e))))
 have S15:Src i1 l1 xs (k1 + 1) h5:=S12.mv (λ o e=>b5.extBut _ _ D.TOi1.symm (b4.extBut _ _ D.i12 (b3.extBut _ _ D.TOi1.symm e))) λ o e=>b5.extBut _ _ D.l1TO (b4.extBut _ _ D.l1i2 (b3.extBut _ _ D.l1TO e))
 have S25:Src i2 l2 ys (k2 + 1) h5:=S24.mv (λ o e=>b5.extBut _ _ D.TOi2.symm e) λ o e=>b5.extBut _ _ D.l2TO e
 have zlt:=Heap.lt_size hz5
 show wpAny _ _ (Builtin.SmallTypes.ownedTupleHandOut (Value.ref z) (Value.ref h5.objs.size) >>= _) _ _ _
 unfold Builtin.SmallTypes.ownedTupleHandOut
 have hz6:IsZip (h5.push { cls:=.type "tuple",data:=.seq #[x,y] }) z TI TO Value.ellipsis:=Heap.get?_push_of_some _ hz5
 refine wpAny_bind (wpAny_bind (wpAny_setField_rec hz6 (by simp) λ h7 hz7 b7=>?_))
 replace hz7:IsZip h7 z TI TO (rawInt h5.objs.size):=hz7
 refine wpAny_setField_rec hz7 (by simp) λ h8 hz8 b8=>?_
 replace hz8:IsZip h8 z TI TO (rawInt h5.objs.size):=hz8
 have up:∀ c o,c ≠ z->h5.get? c=some o->h8.get? c=some o:=λ c o n1 e=>b8.extBut _ _ n1 (b7.extBut _ _ n1 (Heap.get?_push_of_some _ e))
 have hT8:IsPair h8 h5.objs.size x y:=b8.extBut _ _ (Nat.ne_of_gt zlt) (b7.extBut _ _ (Nat.ne_of_gt zlt) (Heap.get?_push_size _ rfl))
 have sz8:h8.objs.size=h5.objs.size + 1:=by rw [b8.1,b7.1,Heap.size_push]
 rw [sz] at hz8 hT8 sz8
 refine wpAny_pure ⟨_,rfl,?_⟩
 show Q (Value.ref h5.objs.size) _
 rw [sz]
 exact hQ h8 hz8 (up _ _ D.TOz hO5) (S15.mv (λ o e=>up _ o D.i1z e) λ o e=>up _ o D.l1z e) (S25.mv (λ o e=>up _ o D.i2z e) λ o e=>up _ o D.l2z e) hT8 sz8 λ c o n1 n2 n3 n4 e=>up c o n1 (k5 c o n1 n2 n3 n4 e)
theorem Jw {Q:Fin->Shared->Prop} (hh:A.handled=none) (D:ZipApart z TI TO i1 i2 l1 l2) (hz:IsZip s.heap z TI TO .none) (hI:IsPair s.heap TI (.ref i1) (.ref i2)) (hO:IsPair s.heap TO a b) (S1:Src i1 l1 xs k1 s.heap) (S2:Src i2 l2 ys k2 s.heap) (hend:xs[k1]? = none ∨ ys[k2]? = none)
  (hE:∀ h' e,(∀ c o,c ≠ z->c ≠ TO->c ≠ i1->c ≠ i2->s.heap.get? c=some o->h'.get? c=some o)->(∃ o,h'.get? e=some o /\ o.cls = .type "StopIteration")->E (.ref e) { s with heap:=h' }) :
  wpAny (model prog w) A (Builtin.«zip.__next__» ⟨[.ref z],[]⟩) Q E s:=by
 show wpAny _ _ (field (Value.ref z) 2 >>= _) _ _ s
 refine wpAny_bind (wpAny_field hz rfl (x:=Value.bool false) rfl ?_)
 show wpAny _ _ (field (Value.ref z) 3 >>= _) _ _ s
 refine wpAny_bind (wpAny_field hz rfl (x:=Value.ref TI) rfl (wpAny_bind (wpAny_seqItems hI rfl ?_)))
 show wpAny _ _ (Builtin.SmallTypes.ownedTupleIsFree (Value.ref z) >>= _) _ _ s
 unfold Builtin.SmallTypes.ownedTupleIsFree
 refine wpAny_bind (wpAny_bind (wpAny_field hz rfl (x:=Value.none) rfl (wpAny_pure ?_)))
 simp only [if_true]
 refine wpAny_bind (wpAny_rule (wpAny_bind (wpAny_field hz rfl (x:=Value.ref TO) rfl (wpAny_bind (wpAny_setField_rec hz (by simp) λ h1 hz1 b1=>?_)))))
 replace hz1:IsZip h1 z TI TO Value.ellipsis:=hz1
 refine wpAny_bind ?_
 simp only [List.zipIdx_cons,List.zipIdx_nil,List.forIn_cons,List.forIn_nil]
 refine wpAny_bind (wpAny_bind (wpAny_onRaise ?_))
 show wpAny _ _ (Builtin.SmallTypes.nextOf (Value.ref i1) >>= _) _ _ _
 have S1':=S1.mv (h':=h1) (λ o e=>b1.extBut _ _ D.i1z e) λ o e=>b1.extBut _ _ D.l1z e
 cases hx:xs[k1]? with
 | none =>
  refine wpAny_bind (Src.fin hh S1' hx λ h2 e b2 he=>?_)
  obtain⟨oe,hoe,hce⟩:=he
  have hz2:IsZip h2 z TI TO Value.ellipsis:=b2 _ _ D.i1z.symm hz1
  have hez:e ≠ z:=λ q=>by rw [q,hz2] at hoe;cases hoe;simp at hce
  exact wpAny_setField_rec hz2 (by simp) λ h3 _ b3=>hE h3 e (λ c o n1 _ n3 _ q=>b3.extBut _ _ n1 (b2 _ _ n3 (b1.extBut _ _ n1 q))) ⟨oe,b3.extBut _ _ hez hoe,hce⟩
 | some x =>
  have hy:ys[k2]? = none:=hend.resolve_left λ h=>by rw [hx] at h;cases h
  refine wpAny_bind (Src.item S1' D.l1i1 hx λ h2 S12 b2=>wpAny_pure ?_)
  have hO2:IsPair h2 TO a b:=b2.extBut _ _ D.TOi1 (b1.extBut _ _ D.TOz hO)
  refine wpAny_bind (wpAny_seqItems hO2 rfl (wpAny_bind (wpAny_updateSeq_pair hO2 λ h3 hO3 b3=>?_)))
  refine wpAny_bind (wpAny_letGo (wpAny_pure (wpAny_bind (wpAny_bind (wpAny_onRaise ?_)))))
  show wpAny _ _ (Builtin.SmallTypes.nextOf (Value.ref i2) >>= _) _ _ _
  refine wpAny_bind (Src.fin hh (S2.mv (λ o e=>b3.extBut _ _ D.TOi2.symm (b2.extBut _ _ D.i12.symm (b1.extBut _ _ D.i2z e))) λ o e=>b3.extBut _ _ D.l2TO (b2.extBut _ _ D.l2i1 (b1.extBut _ _ D.l2z e))) hy λ h4 e b4 he=>?_)
  obtain⟨oe,hoe,hce⟩:=he
  have hz4:IsZip h4 z TI TO Value.ellipsis:=b4 _ _ D.i2z.symm (b3.extBut _ _ D.TOz.symm (b2.extBut _ _ D.i1z.symm hz1))
  have hez:e ≠ z:=λ q=>by rw [q,hz4] at hoe;cases hoe;simp at hce
  exact wpAny_setField_rec hz4 (by simp) λ h5 _ b5=>hE h5 e (λ c o n1 n2 n3 n4 q=>b5.extBut _ _ n1 (b4 _ _ n4 (b3.extBut _ _ n2 (b2.extBut _ _ n3 (b1.extBut _ _ n1 q))))) ⟨oe,b5.extBut _ _ hez hoe,hce⟩
theorem Eo {Q:Option Value->Shared->Prop} (D:ZipApart z TI TO i1 i2 l1 l2) (hz:IsZip s.heap z TI TO .none) (hI:IsPair s.heap TI (.ref i1) (.ref i2)) (hO:IsPair s.heap TO a b) (S1:Src i1 l1 xs k1 s.heap) (S2:Src i2 l2 ys k2 s.heap) (hx:xs[k1]? = some x) (hy:ys[k2]? = some y)
  (hQ:∀ h',IsZip h' z TI TO (rawInt s.heap.objs.size)->IsPair h' TO x y->Src i1 l1 xs (k1 + 1) h'->Src i2 l2 ys (k2 + 1) h'->IsPair h' s.heap.objs.size x y->h'.objs.size=s.heap.objs.size + 1->(∀ c o,c ≠ z->c ≠ TO->c ≠ i1->c ≠ i2->s.heap.get? c=some o->h'.get? c=some o)->Q (some (.ref s.heap.objs.size)) { s with heap:=h' }) :
  wpAny (model prog w) A (pyNext (.ref z)) Q E s:=by
 have T:s.TypeIs (.ref z) "zip":=⟨_,hz,rfl⟩
 have S:=PySem.F.slot_zip_next
 unfold pyNext
 exact wpAny_bind (wpAny_attempt (wpAny_callSpecial?_slot (name:=Str.ofString "__next__") T S (wpAny_call_entry S T PySem.F.entry_zip_next (IL D hz hI hO S1 S2 hx hy λ h' a1 a2 a3 a4 a5 a6 a7=>wpAny_pure (hQ h' a1 a2 a3 a4 a5 a6 a7)) (PySem.F.args_zip_next_1 _))))
theorem IA {Q:Option Value->Shared->Prop} (hh:A.handled=none) (D:ZipApart z TI TO i1 i2 l1 l2) (hz:IsZip s.heap z TI TO .none) (hI:IsPair s.heap TI (.ref i1) (.ref i2)) (hO:IsPair s.heap TO a b) (S1:Src i1 l1 xs k1 s.heap) (S2:Src i2 l2 ys k2 s.heap) (hend:xs[k1]? = none ∨ ys[k2]? = none)
  (hQ:∀ h',(∀ c o,c ≠ z->c ≠ TO->c ≠ i1->c ≠ i2->s.heap.get? c=some o->h'.get? c=some o)->Q none { s with heap:=h' }):wpAny (model prog w) A (pyNext (.ref z)) Q E s:=by
 have T:s.TypeIs (.ref z) "zip":=⟨_,hz,rfl⟩
 have S:=PySem.F.slot_zip_next
 unfold pyNext
 refine wpAny_bind (wpAny_attempt (wpAny_callSpecial?_slot (name:=Str.ofString "__next__") T S (wpAny_call_entry S T PySem.F.entry_zip_next (Jw hh D hz hI hO S1 S2 hend λ h' e hk he=>?_) (PySem.F.args_zip_next_1 _))))
 obtain⟨o,ho,hc⟩:=he
 exact wpAny_bind (wpAny_isInstance (T:="StopIteration") (b:=true) ⟨o,ho,hc⟩ isSubtype_stop (wpAny_pure (hQ _ hk)))
end
abbrev zS1 (h:Heap) (t:Addr):Heap:=h.push { cls:=.type "tuple_iterator",data:=.fields #[.ref t,.int 0 0] }
abbrev zS2 (h:Heap) (t l:Addr):Heap:=(zS1 h t).push { cls:=.type "list_iterator",data:=.fields #[.ref l,.int 0 0] }
abbrev zS3 (h:Heap) (t l:Addr):Heap:=(zS2 h t l).push { cls:=.type "tuple",data:=.seq #[.ref h.objs.size,.ref (zS1 h t).objs.size] }
abbrev zS4 (h:Heap) (t l:Addr):Heap:=(zS3 h t l).push { cls:=.type "tuple",data:=.seq #[.none,.none] }
abbrev zS5 (h:Heap) (t l:Addr):Heap:=(zS4 h t l).push { cls:=.type "zip",data:=.fields #[.none,.bool false,.bool false,.ref (zS2 h t l).objs.size,.ref (zS3 h t l).objs.size] }
theorem K2 (t l:Addr) (xs ys:Array Value):Meets (Builtin.«zip.__new__» ⟨[.type "zip",.ref t,.ref l],[]⟩) (λ _ R s=>s.heap.IsTuple t xs /\ s.heap.IsList l ys /\ R (.ok (.ret (.ref (zS4 s.heap t l).objs.size))) { s with heap:=zS5 s.heap t l }) :=
 .of_wp λ prog w A R s hyp=>by
  obtain⟨hp,g,d,tk,os⟩:=s
  obtain⟨ht,hl,q⟩:=hyp
  have hsub:=sub_zip
  have hT:Heap.IsTuple (Shared.heap ⟨hp,g,d,tk,os⟩) t xs:=ht
  have hL:Heap.IsList (Shared.heap ⟨hp.push { cls:=.type "tuple_iterator",data:=.fields #[.ref t,.int 0 0] },g,d,tk,os⟩) l ys:=Heap.IsList.push hl _
  wp_walk using wpAny_pyIter_tuple hT,wpAny_pyIter_list hL
  exact⟨_,rfl,q⟩
theorem Ib {prog:Program} {w:World} {A:Around} {E:Value->Shared->Prop} {s:Shared} {t l:Addr} {xs ys:Array Value} {Q:Value->Shared->Prop} (ht:s.heap.IsTuple t xs) (hl:s.heap.IsList l ys)
  (h:∀ h',IsZip h' (s.heap.objs.size + 4) (s.heap.objs.size + 2) (s.heap.objs.size + 3) .none->IsPair h' (s.heap.objs.size + 2) (.ref s.heap.objs.size) (.ref (s.heap.objs.size + 1))->IsPair h' (s.heap.objs.size + 3) .none .none->Src s.heap.objs.size t xs 0 h'->Src (s.heap.objs.size + 1) l ys 0 h' →
   (∀ c o,s.heap.get? c=some o->h'.get? c=some o)->Q (.ref (s.heap.objs.size + 4)) { s with heap:=h' }):wpAny (model prog w) A (call (.type "zip") [.ref t,.ref l]) Q E s:=by
 refine callType_new PySem.F.called_zip (by decide) (PySem.F.typeCall_zip_2 _ _) (PySem.F.newCall_zip_2 _ _) (λ obj=>PySem.F.args_object_init_3 obj _ _) PySem.F.entry_zip_new (K2 t l xs ys) ⟨ht,hl,?_⟩
 have n1:(zS1 s.heap t).objs.size=s.heap.objs.size + 1:=Heap.size_push ..
 have n2:(zS2 s.heap t l).objs.size=s.heap.objs.size + 2:=by rw [Heap.size_push,n1]
 have n3:(zS3 s.heap t l).objs.size=s.heap.objs.size + 3:=by rw [Heap.size_push,n2]
 have n4:(zS4 s.heap t l).objs.size=s.heap.objs.size + 4:=by rw [Heap.size_push,n3]
 have up:∀ c o,s.heap.get? c=some o->(zS5 s.heap t l).get? c=some o:=λ c o e=>Heap.get?_push_of_some _ (Heap.get?_push_of_some _ (Heap.get?_push_of_some _ (Heap.get?_push_of_some _ (Heap.get?_push_of_some _ e))))
 have g5:(zS5 s.heap t l).get? (zS4 s.heap t l).objs.size=some _:=Heap.get?_push_size _ rfl
 have g4:(zS5 s.heap t l).get? (zS3 s.heap t l).objs.size=some _:=Heap.get?_push_of_some _ (Heap.get?_push_size _ rfl)
 have g3:(zS5 s.heap t l).get? (zS2 s.heap t l).objs.size=some _:=Heap.get?_push_of_some _ (Heap.get?_push_of_some _ (Heap.get?_push_size _ rfl))
 have g2:(zS5 s.heap t l).get? (zS1 s.heap t).objs.size=some _:=Heap.get?_push_of_some _ (Heap.get?_push_of_some _ (Heap.get?_push_of_some _ (Heap.get?_push_size _ rfl)))
 have g1:(zS5 s.heap t l).get? s.heap.objs.size=some _:=Heap.get?_push_of_some _ (Heap.get?_push_of_some _ (Heap.get?_push_of_some _ (Heap.get?_push_of_some _ (Heap.get?_push_size _ rfl))))
 rw [n2,n3,n4] at g5
 rw [n1,n2] at g3
 rw [n3] at g4
 rw [n1] at g2
 obtain⟨ot,het,rt⟩:=ht
 obtain⟨ol,hel,rl⟩:=hl
 show _ /\ _
 rw [n4]
 exact⟨⟨_,g5,rfl⟩,h _ g5 g3 g4 (.inr ⟨⟨_,g1,rfl,rfl⟩,⟨ot,up _ _ het,rt⟩⟩) (.inl ⟨⟨_,g2,rfl,rfl⟩,⟨ol,up _ _ hel,rl⟩⟩) up⟩
theorem Src.tup {i l:Addr} {its us:Array Value} {k:Nat} {h:Heap} (x:Src i l its k h) (t:h.IsTuple l us):h.IsTupleIter i l k:=by
 rcases x with⟨_,⟨p,c,d,_⟩⟩ |⟨a,_⟩
 ·obtain⟨q,e,f,_⟩:=t
  rw [c] at e;cases e;rw [d] at f;simp at f
 ·exact a
theorem Src.lst {i l:Addr} {its us:Array Value} {k:Nat} {h:Heap} (x:Src i l its k h) (t:h.IsList l us):h.IsListIter i l k:=by
 rcases x with⟨a,_⟩ |⟨_,⟨p,c,d,_⟩⟩
 ·exact a
 ·obtain⟨q,e,f,_⟩:=t
  rw [c] at e;cases e;rw [d] at f;simp at f
def BO (K:PySem.W.Frag) (l1 l2:Addr):It :=
 ⟨λ i H=>∃ xs ys x y,SqT K H l1 xs /\ SqL K H l2 ys /\ xs[i]? = some x /\ ys[i]? = some y,
  λ i H v H'=>∃ T x y,H T=none /\ v = .ref T /\ H'=upd H T (.tup [x,y]) /\(∀ xs,SqT K H l1 xs->xs[i]? = some x) /\ ∀ ys,SqL K H l2 ys->ys[i]? = some y,
  λ i H=>∃ xs ys,SqT K H l1 xs /\ SqL K H l2 ys /\(xs.length ≤ i ∨ ys.length ≤ i)⟩
def Mr (z TI TO i1 i2 l1 l2:Addr) (i:Nat) (h:Heap):Prop :=
 IsZip h z TI TO .none /\ IsPair h TI (.ref i1) (.ref i2) /\(∃ a b,IsPair h TO a b) /\ h.IsTupleIter i1 l1 i /\ h.IsListIter i2 l2 i
theorem Ig {P:Program} {w:World} {K:PySem.W.Frag} {es:List Expr} {x1} {tp:Pos} (z TI TO i1 i2 l1 l2:Addr) (D:ZipApart z TI TO i1 i2 l1 l2) :
  Turn P w K (.Tuple es x1 tp) (BO K l1 l2) [z,TI,TO,i1,i2] z (Mr z TI TO i1 i2 l1 l2) where
 mem:=by simp
 obj:=λ i h st b hb=>by
  obtain⟨h1,h2,⟨_,_,h3⟩,h4,h5⟩:=st
  simp only [List.mem_cons,List.not_mem_nil,or_false] at hb
  rcases hb with rfl | rfl | rfl | rfl | rfl
  ·exact⟨_,h1,λ v q=>nomatch q⟩
  ·exact⟨_,h2,λ v q=>nomatch q⟩
  ·exact⟨_,h3,λ v q=>nomatch q⟩
  ·obtain⟨o,e,_,d⟩:=h4
   exact⟨o,e,λ v q=>by rw [d] at q;cases q⟩
  ·obtain⟨o,e,_,d⟩:=h5
   exact⟨o,e,λ v q=>by rw [d] at q;cases q⟩
 keep:=λ i h h' st k=>by
  obtain⟨h1,h2,⟨a,b,h3⟩,⟨o4,e4,r4⟩,⟨o5,e5,r5⟩⟩:=st
  exact⟨k z (by simp) _ h1,k TI (by simp) _ h2,⟨a,b,k TO (by simp) _ h3⟩,⟨o4,k i1 (by simp) _ e4,r4⟩,⟨o5,k i2 (by simp) _ e5,r5⟩⟩
 item:=by
  intro X hP hw hK hc i pins s σ H E I hf st hg
  subst hP hw hK
  obtain⟨h1,h2,⟨a,b,h3⟩,h4,h5⟩:=st
  obtain⟨xs,ys,x,y,hx,hy,ex,ey⟩:=hg
  obtain⟨us,rx,px,_⟩:=I.tuple hx
  obtain⟨vs,ry,py,_⟩:=I.list hy
  obtain⟨u,eu,ru⟩:=Vals.get rx ex
  obtain⟨v,ev,rv⟩:=Vals.get ry ey
  have px':s.heap.IsTuple l1 us.toArray:=px
  refine Eo D h1 h2 h3 (.inr ⟨h4,px'⟩) (.inl ⟨h5,py.isList⟩) (by simpa using eu) (by simpa using ev) λ h' z1 z2 z3 z4 z5 z6 kk=>?_
  have px2:h'.IsTuple l1 us.toArray:=let ⟨o,e,r⟩:=px';⟨o,kk _ o D.l1z D.l1TO D.l1i1 D.l1i2 e,r⟩
  have py2:h'.IsList l2 vs.toArray:=let ⟨o,e,r⟩:=py.isList;⟨o,kk _ o D.l2z D.l2TO D.l2i1 D.l2i2 e,r⟩
  replace z3:=z3.tup px2
  replace z4:=z4.lst py2
  refine⟨_,rfl,wpAny_letOwnedTupleGo_zip z1 λ h'' y1 sb=>?_⟩
  have lt:∀ b ∈ [z,TI,TO,i1,i2],b < s.heap.objs.size:=λ b hb=>by
   simp only [List.mem_cons,List.not_mem_nil,or_false] at hb
   rcases hb with rfl | rfl | rfl | rfl | rfl
   ·exact Heap.lt_size h1
   ·exact Heap.lt_size h2
   ·exact Heap.lt_size h3
   ·obtain⟨o,e,_⟩:=h4;exact Heap.lt_size e
   ·obtain⟨o,e,_⟩:=h5;exact Heap.lt_size e
  have nz:s.heap.objs.size ≠ z:=(CJ (lt z (by simp)) (Nat.le_refl _)).symm
  have keep:∀ c o,c ∉ [z,TI,TO,i1,i2]->s.heap.get? c=some o->h''.get? c=some o:=λ c o hc e=>by
   simp only [List.mem_cons,List.not_mem_nil,or_false,not_or] at hc
   exact sb.extBut c o hc.1 (kk c o hc.1 hc.2.2.1 hc.2.2.2.1 hc.2.2.2.2 e)
  have nT:H s.heap.objs.size=none:=I.hok.fresh (Nat.le_refl _)
  have hT:h''.get? s.heap.objs.size=some { cls:=.type "tuple",data:=.seq #[u,v] }:=sb.extBut _ _ nz z5
  have I2:Inv X pins σ (upd H s.heap.objs.size (.tup [x,y])) { s with heap:=h'',toks:=s.toks } :=
   I.yj (ch:=[z,TI,TO,i1,i2]) keep hf (Nat.le_refl _) ⟨by show 2 ≤ sizeLine;decide,[u,v],.cons ru (.cons rv .nil),⟨_,hT,rfl,0,rfl⟩⟩
  refine⟨.ref s.heap.objs.size,_,I2,rfl,⟨_,x,y,nT,rfl,rfl,λ xs' h=>?_,λ ys' h=>?_⟩,⟨y1,?_,⟨u,v,?_⟩,?_,?_⟩,λ b hb=>?_⟩
  ·rw [I.Aw h hx];exact ex
  ·rw [I.C5 h hy];exact ey
  ·exact sb.extBut _ _ D.TIz (kk _ _ D.TIz D.TITO D.TIi1 D.TIi2 h2)
  ·exact sb.extBut _ _ D.TOz z2
  ·obtain⟨o,e,r⟩:=z3;exact⟨o,sb.extBut _ _ D.i1z e,r⟩
  ·obtain⟨o,e,r⟩:=z4;exact⟨o,sb.extBut _ _ D.i2z e,r⟩
  ·rw [aq (CJ (lt b hb) (Nat.le_refl _))];exact(hf b hb).1
 done:=by
  intro X hP hw hK hc i pins s σ H E I hf st hg
  subst hP hw hK
  obtain⟨h1,h2,⟨a,b,h3⟩,h4,h5⟩:=st
  obtain⟨xs,ys,hx,hy,hl⟩:=hg
  obtain⟨us,rx,px,_⟩:=I.tuple hx
  obtain⟨vs,ry,py,_⟩:=I.list hy
  have le1:=rx.length
  have le2:=ry.length
  have px':s.heap.IsTuple l1 us.toArray:=px
  refine IA (I.ok.hd hc) D h1 h2 h3 (.inr ⟨h4,px'⟩) (.inl ⟨h5,py.isList⟩) (by simp;omega) λ h' kk=>⟨rfl,?_⟩
  exact I.yr (t':=s.toks) (ch:=[z,TI,TO,i1,i2]) (λ c o hc e=>by
   simp only [List.mem_cons,List.not_mem_nil,or_false,not_or] at hc
   exact kk c o hc.1 hc.2.2.1 hc.2.2.2.1 hc.2.2.2.2 e) hf
 self:=λ _ _ _ _ _ st h=>wpAny_pyIter_zip st.1 h
def Oo (K:PySem.W.Frag) (ta:TA):TI:=λ σ H R=>ta σ H λ vs H1=>∃ l1 l2,vs = [.ref l1,.ref l2] /\(∃ xs,SqT K H1 l1 xs) /\(∃ ys,SqL K H1 l2 ys) /\ R (BO K l1 l2) H1
theorem LG {X:Cx} {a b:Expr} {ta:TA} {p pos:Pos} {es:List Expr} {x1} {tp:Pos} (hg:Gl X "zip") (hm:X.mg "zip" = none) (ha:PA X [a,b] ta) (hs:starEach [a,b] X.env =(false,eval a X.env) :: starEach [b] X.env:=by rfl) (hs2:(backTo pos (starEach [b] X.env)).any (·.1)=false:=by rfl) :
  PI X (.Tuple es x1 tp) (.Call (.Name "zip" p) [a,b] [] pos) (Oo X.K ta):=by
 intro pins s σ H R I h
 refine Call_ (iE I hg hm boot_zip (PyProof.Rows.callWith_type1 (thn (ha pos pins s σ H _ I h) λ us s1 ⟨vs,H1,I1,r1,q1⟩=>?_) hs hs2))
 obtain⟨l1,l2,e,⟨xs,hx⟩,⟨ys,hy⟩,q⟩:=q1
 subst e
 obtain⟨u,v,rfl,ru,rv⟩:=vals2 r1
 cases ru
 cases rv
 obtain⟨us1,rx,px,_⟩:=I1.tuple hx
 have px':s1.heap.IsTuple l1 us1.toArray:=px
 obtain⟨vs1,ry,py,_⟩:=I1.list hy
 have ll1:l1 < s1.heap.objs.size:=by obtain⟨o,e,_⟩:=px';exact Heap.lt_size e
 have ll2:l2 < s1.heap.objs.size:=by obtain⟨o,e,_⟩:=py.isList;exact Heap.lt_size e
 refine Ib px' py.isList λ h' z1 z2 z3 z4 z5 kk=>?_
 replace z4:=z4.tup (let ⟨o,e,r⟩:=px';⟨o,kk _ o e,r⟩)
 replace z5:=z5.lst (let ⟨o,e,r⟩:=py.isList;⟨o,kk _ o e,r⟩)
 refine wpAny_pyIter_zip z1 ?_
 have I2:Inv X pins σ H1 { s1 with heap:=h',toks:=s1.toks }:=I1.kept kk
 refine⟨s1.heap.objs.size + 4,_,_,_,H1,rfl,I2,Ig (s1.heap.objs.size + 4) (s1.heap.objs.size + 2) (s1.heap.objs.size + 3) s1.heap.objs.size (s1.heap.objs.size + 1) l1 l2 (ID ll1 ll2),⟨z1,z2,⟨_,_,z3⟩,z4,z5⟩,λ b hb=>?_,q⟩
 have hbs:s1.heap.objs.size ≤ b:=by
  simp only [List.mem_cons,List.not_mem_nil,or_false] at hb
  rcases hb with h | h | h | h | h <;> rw [h] <;> first | exact Nat.le_refl _ | exact Nat.le_add_right _ _
 exact I1.rP hbs (I1.hok.fresh hbs)
theorem KI {K:PySem.W.Frag} {l1 l2:Addr} {xs ys:List V} {g:TG} {tb:TS} {D:Ends} {σ:St} {H:Hp} (Pv:Nat->St->Hp->Prop) (h0:Pv 0 σ H) (hl:∀ i σ H,Pv i σ H->SqT K H l1 xs /\ SqL K H l2 ys) (hlen:xs.length=ys.length)
  (hs:∀ i x y σ H T,xs[i]? = some x->ys[i]? = some y->Pv i σ H->H T=none->g (.ref T) σ (upd H T (.tup [x,y])) λ σ2 H2=>tb { D with nx:=Pv (i + 1),ct:=Pv (i + 1),bk:=D.nx } σ2 H2) (hd:∀ σ H,Pv xs.length σ H->D.nx σ H) :
  ∃ W:Nat->Nat->St->Hp->Prop,(∃ m,W 0 m σ H) /\ ∀ i m σ H,W i m σ H →
   ((BO K l1 l2).stop i H /\ D.nx σ H) ∨((BO K l1 l2).go i H /\ ∃ N:St->Hp->Prop,(∀ σ' H',N σ' H'->∃ m',m' < m /\ W (i + 1) m' σ' H') /\ ∀ x H',(BO K l1 l2).yld i H x H'->g x σ H' λ σ2 H2=>tb { D with nx:=N,ct:=N,bk:=D.nx } σ2 H2):=by
 refine⟨λ i m σ H=>m=xs.length - i /\ i ≤ xs.length /\ Pv i σ H,⟨xs.length,by simp,Nat.zero_le _,h0⟩,?_⟩
 rintro i m σ H ⟨rfl,hi,p⟩
 obtain⟨q1,q2⟩:=hl i σ H p
 by_cases hlt:i < xs.length
 ·have ex:xs[i]? = some xs[i]:=List.getElem?_eq_getElem hlt
  have ey:ys[i]? = some (ys[i]'(by omega)):=List.getElem?_eq_getElem (by omega)
  refine .inr ⟨⟨xs,ys,_,_,q1,q2,ex,ey⟩,Pv (i + 1),λ σ' H' p'=>⟨xs.length -(i + 1),by omega,rfl,hlt,p'⟩,?_⟩
  rintro v H' ⟨T,x,y,nT,rfl,rfl,hx,hy⟩
  exact hs i x y σ H T (hx xs q1) (hy ys q2) p nT
 ·have e:i=xs.length:=by omega
  subst e
  exact .inl ⟨⟨xs,ys,q1,q2,.inl (Nat.le_refl _)⟩,hd σ H p⟩
open PySem PySem.Spec PyProof.Rows
theorem JJ {K:PySem.W.Frag} {a:Addr} (D:Addr) {xs:List V} {g:TG} {tt:TT} {te:TE} {σ:St} {H:Hp} {R:Hp->Prop} (Pv:Nat->St->Hp->List V->Prop) (h0:Pv 0 σ H []) (hl:∀ i σ H ys,i ≤ xs.length->Pv i σ H ys->SqT K H a xs)
  (hs:∀ i x σ H ys,xs[i]? = some x->Pv i σ H ys->g x σ H λ σ3 H3=>tt σ3 H3 λ b H4=>if b=true then
   te σ3 H4 λ y H5=>H5 D=some (.lst ys) /\ ys.length < sizeLine /\ Pv (i + 1) σ3 (upd H5 D (.lst (ys ++ [y]))) (ys ++ [y]) else Pv (i + 1) σ3 H4 ys) (hd:∀ σ H ys,Pv xs.length σ H ys->R H) :
  ∃ W:Nat->Nat->St->Hp->List V->Prop,(∃ m,W 0 m σ H []) /\ ∀ i m σ' H' ys,W i m σ' H' ys->((Itt K a).stop i H' /\ R H') ∨
   ((Itt K a).go i H' /\ ∃ N:St->Hp->List V->Prop,(∀ σ' H' ys',N σ' H' ys'->∃ m',m' < m /\ W (i + 1) m' σ' H' ys') /\ ∀ x H2,(Itt K a).yld i H' x H2->g x σ' H2 λ σ3 H3=>tt σ3 H3 λ b H4=>if b=true then
    te σ3 H4 λ y H5=>H5 D=some (.lst ys) /\ ys.length < sizeLine /\ N σ3 (upd H5 D (.lst (ys ++ [y]))) (ys ++ [y])
    else N σ3 H4 ys):=by
 refine⟨λ i m σ H ys=>m=xs.length - i /\ i ≤ xs.length /\ Pv i σ H ys,⟨xs.length,by simp,Nat.zero_le _,h0⟩,?_⟩
 rintro i m σ H ys ⟨rfl,hi,p⟩
 have q:=hl i σ H ys hi p
 by_cases hlt:i < xs.length
 ·refine .inr ⟨⟨xs,xs[i],q,by simp [hlt]⟩,Pv (i + 1),λ σ' H' ys' p'=>⟨xs.length -(i + 1),by omega,rfl,hlt,p'⟩,λ x H' y=>?_⟩
  obtain⟨e,y⟩:=y
  subst e
  exact hs i x σ _ ys (y xs q) p
 ·have e:i=xs.length:=by omega
  subst e
  exact .inl ⟨⟨xs,q,Nat.le_refl _⟩,hd σ H ys p⟩
def tI (n:Int):Int:=n * 128 % 18446744073709551616 + n / 144115188075855872
theorem MK (n:Nat):tI (n:Int) =(Chk.T n:Nat):=by
 unfold tI Chk.T;omega
theorem uU (a b:Nat):Builtin.bitXor (a:Int) (b:Int) =((a ^^^ b:Nat):Int):=by
 rw [PyProof.Rows.bitXor_and]
 have e:Builtin.bitAnd (a:Int) (b:Int) =((a &&& b:Nat):Int):=by
  unfold Builtin.bitAnd
  simp
 rw [e]
 have:=Chk.LF a b
 omega
def flat (rows:List (Nat × Nat)):List Nat:=rows.flatMap λ r=>[r.1,r.2]
theorem tw (rows:List (Nat × Nat)) (r:Nat × Nat):flat (rows ++ [r])=flat rows ++ [r.1,r.2]:=by simp [flat]
structure bG (H:Hp) (L:List V) (rows:List (Nat × Nat)):Prop where
 len:L.length=rows.length
 get:∀(i:Nat) v,L[i]? = some v->∃ t r,v=V.ref t /\ rows[i]? = some r /\ H t=some (.tup [.int (r.1:Int),.int (r.2:Int)])
theorem bG.mono {H H':Hp} {L:List V} {rows:List (Nat × Nat)} (R:bG H L rows) (h:∀ t xs,H t=some (.tup xs)->H' t=some (.tup xs)):bG H' L rows :=
 ⟨R.len,λ i v e=>let ⟨t,r,a,b,c⟩:=R.get i v e;⟨t,r,a,b,h t _ c⟩⟩
theorem bG.snoc {H:Hp} {L:List V} {rows:List (Nat × Nat)} (R:bG H L rows) {t:Addr} {r:Nat × Nat} (h:H t=some (.tup [.int (r.1:Int),.int (r.2:Int)])):bG H (L ++ [.ref t]) (rows ++ [r]) :=
 ⟨by simp [R.len],λ i v e=>by
  by_cases hi:i < L.length
  ·rw [List.getElem?_append_left hi] at e
   obtain⟨t,r,a,b,c⟩:=R.get i v e
   exact⟨t,r,a,by rw [List.getElem?_append_left (by rw [← R.len];exact hi)];exact b,c⟩
  ·rw [List.getElem?_append_right (by omega)] at e
   have hi2:i - L.length=0:=by
    have:=(List.getElem?_eq_some_iff.mp e).1
    simp at this;omega
   rw [hi2] at e
   have e:V.ref t=v:=by simpa using e
   refine⟨t,r,e.symm,?_,h⟩
   rw [List.getElem?_append_right (by rw [← R.len];omega),← R.len,hi2];rfl⟩
theorem Kz (l:List (Nat × Nat)):(flat l).length=2 * l.length:=by
 induction l with
 | nil=>rfl
 | cons r l ih =>
  have:flat (r :: l)=r.1 :: r.2 :: flat l:=rfl
  rw [this];simp only [List.length_cons,ih];omega
theorem KN {x v:V}:cz "rows" v [("day",x)] =([("day",x),("rows",v)]:List (Str × V)):=by
 rw [fK (by decide +kernel)];rfl
theorem AE {x y v:V}:cz "check" v [("day",x),("rows",y)] =([("day",x),("rows",y),("check",v)]:List (Str × V)):=by
 rw [fK (by decide +kernel),fK (by decide +kernel)];rfl
theorem Jy {x y z v:V}:cz "fits" v [("day",x),("rows",y),("check",z)] =([("day",x),("rows",y),("check",z),("fits",v)]:List (Str × V)):=by
 rw [fK (by decide +kernel),fK (by decide +kernel),fK (by decide +kernel)];rfl
theorem IV {x y z f v:V}:cz "base" v [("day",x),("rows",y),("check",z),("fits",f)] =([("day",x),("rows",y),("check",z),("fits",f),("base",v)]:List (Str × V)):=by
 rw [fK (by decide +kernel),fK (by decide +kernel),fK (by decide +kernel),fK (by decide +kernel)];rfl
theorem BQ {x:V} {r:List (Str × V)}:List.lookup ("day":Str) (("day",x) :: r)=some x:=by rw [List.lookup_cons];simp
theorem lg {x y:V} {r:List (Str × V)}:List.lookup ("rows":Str) (("day",x) ::("rows",y) :: r)=some y:=by
 rw [List.lookup_cons,show(("rows":Str) == "day")=false by decide +kernel,List.lookup_cons];simp
theorem pV {x y z:V} {r:List (Str × V)}:List.lookup ("check":Str) (("day",x) ::("rows",y) ::("check",z) :: r)=some z:=by
 rw [List.lookup_cons,show(("check":Str) == "day")=false by decide +kernel,List.lookup_cons,show(("check":Str) == "rows")=false by decide +kernel,List.lookup_cons];simp
theorem DR {x y z f:V} {r:List (Str × V)}:List.lookup ("fits":Str) (("day",x) ::("rows",y) ::("check",z) ::("fits",f) :: r)=some f:=by
 rw [List.lookup_cons,show(("fits":Str) == "day")=false by decide +kernel,List.lookup_cons,show(("fits":Str) == "rows")=false by decide +kernel,List.lookup_cons,show(("fits":Str) == "check")=false by decide +kernel,List.lookup_cons];simp
theorem zU {x y z f v:V} {r:List (Str × V)}:List.lookup ("base":Str) (("day",x) ::("rows",y) ::("check",z) ::("fits",f) ::("base",v) :: r)=some v:=by
 rw [List.lookup_cons,show(("base":Str) == "day")=false by decide +kernel,List.lookup_cons,show(("base":Str) == "rows")=false by decide +kernel,List.lookup_cons,show(("base":Str) == "check")=false by decide +kernel,List.lookup_cons,show(("base":Str) == "fits")=false by decide +kernel,List.lookup_cons];simp
def pfs (wh:Bool) (b d:Nat) (r:Addr) (c:Int) (f:Bool):List (Str × V):=match wh with
 | true=>[("day",V.int (d:Int)),("rows",V.ref r),("check",V.int c),("fits",V.bl f)]
 | false=>[("day",V.int (d:Int)),("rows",V.ref r),("check",V.int c),("fits",V.bl f),("base",V.int (b:Int))]
theorem Fy {m:Str} {wh:Bool} {b d:Nat} {r:Addr} {c:Int} {f:Bool} (h1:(m == "day")=false) (h2:(m == "rows")=false) (h3:(m == "check")=false) (h4:(m == "base")=false) (h5:(m == "fits")=false:=by decide +kernel):List.lookup m (pfs wh b d r c f)=none:=by
 cases wh
 ·show List.lookup m [_,_,_,_,_]=none
  rw [List.lookup_cons,h1,List.lookup_cons,h2,List.lookup_cons,h3,List.lookup_cons,h5,List.lookup_cons,h4];rfl
 ·show List.lookup m [_,_,_,_]=none
  rw [List.lookup_cons,h1,List.lookup_cons,h2,List.lookup_cons,h3,List.lookup_cons,h5];rfl
def stN (wh:Bool) (b:Nat):Nat:=cond wh 0 (b + 1)
def fz (wh:Bool) (b d:Nat) (rows:List (Nat × Nat)):Nat:=Chk.chk (stN wh b :: d :: flat rows)
theorem eU {H H':Hp} {x dx:Addr} {o:HO} (hx:H x=none) (hd:H dx=none) (k:bE [x] (upd (upd H dx (.own x)) x o) H'):ao H H':=λ b u e=>by
 have n1:=au e hx
 have n2:=au e hd
 exact k b u (by rw [aq n1,aq n2];exact e) (by simpa using n1)
theorem O6 {i j:Int}:decide (V.int i=V.int j)=decide (i=j):=decide_eq_decide.mpr ⟨V.int.inj,λ e=>by rw [e]⟩
def tQ:Sp:=λ vs H Q _=>∃ n:Int,vs = [.int n] /\ Q (.int (tI n)) H
def gE:Sp:=λ vs H Q _=>∃ p:Addr,vs = [.ref p] /\ Q (.int (-1)) H
def qI:Sp:=λ vs H Q _=>∃ p:Addr,vs = [.ref p] /\ Q (.str (Str.ofString "whole")) H
def qL:Sp:=λ vs H Q _=>∃ p:Addr,vs = [.ref p] /\ Q (.str (Str.ofString "gain")) H
open PySem PySem.Spec PyProof.Rows
theorem Ai:∀ {us:List Value} {ns:List Int},IntsAre us ns->Vals (ns.map V.int) us
 | _,_,.nil=>.nil
 | _,_,.cons _ t r=>.cons ⟨t,rfl⟩ (Ai r)
theorem Lg {us:List Value} {ns:List Int} (h:IntsAre us ns):us.length=ns.length:=by
 have:=(Ai h).length
 rw [List.length_map] at this
 exact this.symm
theorem Ds {P:Program} {w:World} {H:Hp} {h:Heap} {a:Addr} {o:HO} (x:bF P w H h a o):∃ ob,h.get? a=some ob:=by
 cases o with
 | lst xs=>obtain⟨_,_,_,_,e⟩:=x;exact⟨_,e⟩
 | tup xs=>obtain⟨_,_,_,ob,e,_⟩:=x;exact⟨_,e⟩
 | dK kvs=>obtain⟨_,_,_,_,o,_,_,e,_⟩:=x;exact⟨_,e⟩
 | dT kvs=>obtain⟨_,_,_,_,o,_,_,e,_⟩:=x;exact⟨_,e⟩
 | set S n=>obtain⟨o,_,_,_,e,_⟩:=x;exact⟨_,e⟩
 | ins C dx fs=>obtain⟨_,_,_,e,_⟩:=x;exact⟨_,e⟩
 | own y=>exact x
 | xd fs=>obtain⟨_,⟨_,_,_,e,_⟩,_⟩:=x;exact⟨_,e⟩
 | rng lo hi=>obtain⟨_,_,_,e⟩:=x;exact⟨_,e⟩
 | frz ob u=>exact⟨_,x.1⟩
 | tbl ps=>exact⟨_,x⟩
 | met f y=>exact⟨_,x⟩
 | ext φ=>exact x.2.1
section
variable {X:Cx} {pins:List (Addr × Obj)} {σ:St} {H:Hp} {s:Shared}
theorem Inv.MO {a:Addr} {h':Heap} {t':Nat} {vs:List V} (I:Inv X pins σ H s) (hn:s.heap.get? a=none) (k:∀ b o,s.heap.get? b=some o->h'.get? b=some o) (new:bF X.prog X.w (upd H a (.lst vs)) h' a (.lst vs)) :
  ∃ _:H a=none,Inv X pins σ (upd H a (.lst vs)) { s with heap:=h',toks:=t' } /\ True:=by
 have hHn:H a=none:=by
  cases z:H a with
  | none=>rfl
  | some o =>
   obtain⟨ob,hob⟩:=Ds (I.hok a o z)
   rw [hn] at hob;cases hob
 refine⟨hHn,?_,trivial⟩
 have na:∀ b o,s.heap.get? b=some o->b ≠ a:=λ b o e z=>by rw [z,hn] at e;cases e
 have hu:Un X.fs [] H (upd H a (.lst vs)) s.heap h':=by
  refine⟨λ b o e _ _ _=>k b o e,λ b o e _ _ _=>⟨o.slots,k b o e⟩,λ b o e n _=>?_,λ b o e _=>⟨o,k b o e⟩,λ b xs e=>?_,λ b o u e=>?_,λ b ps e=>⟨#[],?_⟩⟩
  ·rw [aq (na b o e)];exact n
  ·rw [aq (au e hHn)];exact e
  ·rw [aq (au e hHn)];exact e
  ·rw [aq (au e hHn),e];simp
 refine I.un hu λ b o e=>?_
 by_cases z:b=a
 ·subst z;rw [ah] at e;cases e;exact new
 ·rw [aq z] at e
  exact(I.hok b o e).stay (λ c v _ q=>k c v q) (λ c q=>by rw [aq (au q hHn)];exact q) λ c xs q=>by rw [aq (au q hHn)];exact q
end
section
variable {X:Cx}
theorem gq (hc:X.calm=true):gG X (.builtin "sorted") (λ xs H Q=>∃(a:Addr) (kvs:List (Key × V)) (ns:List Int),xs = [.ref a] /\ H a=some (.dK kvs) /\ kvs.map (·.1)=ns.map Sum.inl /\ ns.length < 64 ∧
  ∀(l:Addr) (ns':List Int),H l=none->ns'.Perm ns->ns'.Pairwise (· ≤ ·)->Q (.ref l) (upd H l (.lst (ns'.map V.int)))):=by
 rintro pins s σ H xs us Q I r ⟨a,kvs,ns,rfl,hD,hk,h64,q⟩
 obtain⟨u,rfl,ru⟩:=vals1 r
 cases (show u=Value.ref a from ru)
 obtain⟨hsz,lo,vs,kv,hd⟩:=mS I.hok hD
 obtain⟨ep,hat⟩:=hd.dictAt
 have hkeys:=kv.keys
 have hvl:vs.length=ns.length:=by
  have:=congrArg List.length (hkeys.symm.trans hk)
  simpa using this
 refine Calls.call_function_entry kind_sorted plain_sorted entry_sorted (args_sorted1 _) ?_
 unfold Builtin.«sorted»
 refine wpAny_bind (m:=checkCount "sorted" 1 1 _) (wpAny_pure ?_)
 refine wpAny_bind (PySem.W.kdu_collect (A:=X.A.in1) (PySem.W.kdl_dict (knd:=bD X.prog X.w) (kvs:=vs) (ep:=ep) lo) (I.ok.hd hc) hat (by rw [hvl];exact Nat.le_of_lt (bh (by omega))) λ h' tk acc keep hacc=>?_)
 have hI:IntsAre acc.toList ns:=by
  refine intsAre_of ?_
  have hal:acc.toList.length=ns.length:=by rw [Array.length_toList,hacc.1,hvl]
  have key:∀(j:Nat) v,acc.toList[j]? = some v->∃ n t,ns[j]? = some n /\ v=Value.int n t:=λ j v e=>by
   obtain⟨k,x,h1,h2⟩:=hacc.2 j v (by rw [← Array.getElem?_toList];exact e)
   have e1:(vs.map (·.1))[j]? = some k:=by rw [List.getElem?_map,h1];rfl
   rw [← hkeys,hk,List.getElem?_map] at e1
   obtain⟨n,e2,e3⟩:=Option.map_eq_some_iff.mp e1
   subst e3
   have h2:jO (Sum.inl n) v=true:=h2
   rcases cy h2 with⟨i,t,e5,e4⟩ |⟨y,t,e5,e4⟩
   ·first |(cases e4;subst e5;exact⟨n,t,e2,rfl⟩) |(cases e5;subst e4;exact⟨n,t,e2,rfl⟩)
   ·first |(cases e4;done) |(cases e5;done)
  clear hacc
  generalize acc.toList=us at hal key
  clear hk hvl h64 q
  induction us generalizing ns with
  | nil=>cases ns with
   | nil=>exact .nil
   | cons n ns=>simp at hal
  | cons u us ih=>cases ns with
   | nil=>simp at hal
   | cons n ns =>
    obtain⟨m,t,e1,e2⟩:=key 0 u rfl
    have e1:n=m:=by simpa using e1
    subst e1
    exact .cons ⟨t,e2⟩ (ih (ns:=ns) (by simpa using hal) λ j v e=>by
     obtain⟨m,t,a1,a2⟩:=key (j + 1) v (by simpa using e)
     exact⟨m,t,by simpa using a1,a2⟩)
 have hal:acc.toList.length < 64:=by rw [Lg hI];exact h64
 refine wpAny_bind (wpAny_newList ?_ (Nat.le_of_lt (bh (by omega))))
 have hoL:(h'.push (seqObj "list" acc.toList.toArray 0)).get? h'.objs.size=some (seqObj "list" acc.toList.toArray 0):=Heap.get?_push_size _ rfl
 refine wpAny_bind (wpAny_holding (wpAny_call_entry slot_list_sort ⟨_,hoL,rfl⟩ entry_list_sort (list_sort_tree hoL hI hal λ out ns' b1 b2 b3=>⟨_,rfl,?_⟩) (args_list_sort _)))
 refine wpAny_pure ⟨_,rfl,?_⟩
 obtain⟨e,hat2⟩:=sortedHeap_at (out:=out) hoL
 have hno:s.heap.get? h'.objs.size=none:=by
  cases z:s.heap.get? h'.objs.size with
  | none=>rfl
  | some o=>exact absurd (Heap.lt_size (keep _ _ z)) (Nat.lt_irrefl _)
 have hlen:ns'.length ≤ sizeLine:=by rw [b2.length_eq];exact Nat.le_of_lt (bh (by omega))
 have keep2:∀ b o,s.heap.get? b=some o->(sortedHeap (h'.push (seqObj "list" acc.toList.toArray 0)) h'.objs.size acc.toList out).get? b=some o:=λ b o z=>by
  have hb:=keep b o z
  have hlt:=Heap.lt_size hb
  rw [sortedHeap_old (Nat.ne_of_lt hlt) (by rw [size_push'];exact Nat.lt_succ_of_lt hlt)]
  exact Heap.get?_push_of_some _ hb
 obtain⟨H',I',_⟩:=I.MO (t':=tk) (vs:=ns'.map V.int) hno keep2 ⟨by rw [List.length_map];exact hlen,out.toList,e,Ai b1,by simpa using hat2⟩
 exact⟨.ref h'.objs.size,_,I',rfl,q _ ns' H' b2 b3⟩
end
open PySem PySem.Spec PyProof.Rows
def sfs (d:Addr) (fl:Int):List (Str × V):=[("pieces",V.ref d),("follows",V.int fl)]
theorem Dp {x v:V}:cz "follows" v [("pieces",x)] =([("pieces",x),("follows",v)]:List (Str × V)):=by
 rw [fK (by decide +kernel)];rfl
theorem ug {d:Addr} {fl m:Int}:cz "follows" (.int m) (sfs d fl)=sfs d m:=by
 unfold sfs;rw [fK (by decide +kernel),L4]
theorem iW {d:Addr} {fl:Int}:List.lookup ("pieces":Str) (sfs d fl)=some (V.ref d):=by
 unfold sfs;rw [List.lookup_cons];simp
theorem kI {d:Addr} {fl:Int}:List.lookup ("follows":Str) (sfs d fl)=some (V.int fl):=by
 unfold sfs;rw [List.lookup_cons,show(("follows":Str) == "pieces")=false by decide +kernel,List.lookup_cons];simp
theorem cS {m:Str} {d:Addr} {fl:Int} (h1:(m == "pieces")=false) (h2:(m == "follows")=false):List.lookup m (sfs d fl)=none:=by
 unfold sfs;rw [List.lookup_cons,h1,List.lookup_cons,h2];rfl
def bO (C:Addr) (H:Hp) (p d:Addr) (fl:Int) (kvs:List (Key × V)):Prop:=∃ dx,H p=some (.ins C dx (sfs d fl)) /\ H d=some (.dK kvs)
theorem bO.keep {C:Addr} {H H':Hp} {p d:Addr} {fl:Int} {kvs:List (Key × V)} (h:bO C H p d fl kvs) (s:ao H H'):bO C H' p d fl kvs:=by
 obtain⟨dx,h1,h2⟩:=h
 exact⟨dx,s _ _ h1,s _ _ h2⟩
def pS (C:Addr):Sp:=λ vs H Q _=>∃(p dx:Addr),vs = [.ref p] /\ H p=some (.ins C dx []) /\ ∀ d H',bO C H' p d 0 []->H d=none->bE [p] H H'->Q .non H'
def yq (C:Addr):Sp:=λ vs H Q _=>∃(p d:Addr) (fl:Int) (kvs:List (Key × V)) (n:Int) (a:Addr),vs = [.ref p,.int n,.ref a] /\ bO C H p d fl kvs /\ kvs.length < 1000 ∧
 ∀ H',bO C H' p d (if n + 1 > fl then n + 1 else fl) (putK kvs (.inl n) (.ref a))->bE [p,d] H H'->Q .non H'
def oY (C:Addr):Sp:=λ vs H Q _=>∃(p d:Addr) (fl:Int) (kvs:List (Key × V)) (a:Addr),vs = [.ref p,.ref a] /\ bO C H p d fl kvs /\ kvs.length < 1000 ∧
 ∀ H',bO C H' p d (fl + 1) (putK kvs (.inl fl) (.ref a))->bE [p,d] H H'->Q (.int fl) H'
def iQ (C CN:Addr):Sp:=λ vs H Q E=>∃(p d:Addr) (fl:Int) (kvs:List (Key × V)) (n:Int),vs = [.ref p,.int n] /\ bO C H p d fl kvs /\(∀ v,aZ kvs (.inl n)=some v->Q v H) ∧
 (aZ kvs (.inl n)=none->∀ e H',ExcAt H' e CN [("number",.int n)]->ao H H'->E (.ref CN) (some e) H')
def kR (C CN:Addr):Sp:=λ vs H Q E=>∃(p d:Addr) (fl:Int) (kvs:List (Key × V)) (n:Int),vs = [.ref p,.int n] /\ bO C H p d fl kvs ∧
 (∀ v,aZ kvs (.inl n)=some v->∀ H',bO C H' p d fl (bR kvs (.inl n))->bE [p,d] H H'->Q v H') ∧
 (aZ kvs (.inl n)=none->∀ e H',ExcAt H' e CN [("number",.int n)]->ao H H'->E (.ref CN) (some e) H')
open PySem PySem.Spec PyProof.Rows
theorem GX {c A B:Prop} [Decidable c] (hc:¬ c) (h:A):if (!decide c)=true then A else B:=by
 rw [decide_eq_false hc,if_pos (by decide)];exact h
theorem uM (kvs:List (Key × V)) (k j:Key):aZ (bR kvs k) j=if j=k then none else aZ kvs j:=by
 induction kvs with
 | nil=>show none=_;split <;> rfl
 | cons p r ih =>
  have e:bR (p :: r) k=if p.1=k then bR r k else p :: bR r k:=by
   unfold bR;rw [List.filter_cons];by_cases h:p.1=k <;> simp [h]
  rw [e]
  by_cases h:p.1=k
  ·rw [if_pos h,ih]
   by_cases hj:j=k
   ·rw [if_pos hj,if_pos hj]
   ·rw [if_neg hj,if_neg hj,cM (λ z=>hj (z.symm.trans h))]
  ·rw [if_neg h]
   by_cases hp:p.1=j
   ·rw [dc hp,dc hp,if_neg (λ z=>h (hp.trans z))]
   ·rw [cM hp,cM hp,ih]
def jx (lkv:List (Key × V)):Prop:=∀ kv ∈ lkv,∃ n:Int,kv.1=Sum.inl n
theorem jx.nil:jx []:=λ _ h=>by cases h
theorem jx.put {kvs:List (Key × V)} (h:jx kvs) (n:Int) (v:V):jx (putK kvs (Sum.inl n) v):=λ kv hm=>by
 unfold putK at hm
 split at hm
 ·obtain⟨kv',h1,rfl⟩:=List.mem_map.mp hm
  obtain⟨m,e⟩:=h kv' h1
  split
  ·exact⟨m,e⟩
  ·exact⟨m,e⟩
 ·rcases List.mem_append.mp hm with h1 | h1
  ·exact h kv h1
  ·have:kv =(Sum.inl n,v):=by simpa using h1
   exact⟨n,by rw [this]⟩
theorem jx.drop {kvs:List (Key × V)} (h:jx kvs) (k:Key):jx (bR kvs k):=λ kv hm=>h kv (List.mem_filter.mp hm).1
def bZ (H:Hp) (F:List Addr):Prop:=∀ x ∈ F,(∃ kv,H x=some (.dK kv)) ∨(∃ C dx d fl,H x=some (.ins C dx (sfs d fl)))
theorem bZ.tup {H:Hp} {F:List Addr} (h:bZ H F) {t:Addr} {xs:List V} (e:H t=some (.tup xs)):t ∉ F:=λ hm=>by
 rcases h t hm with⟨kv,e'⟩ |⟨C,dx,d,fl,e'⟩ <;>(rw [e] at e';cases e')
theorem bZ.lst {H:Hp} {F:List Addr} (h:bZ H F) {t:Addr} {xs:List V} (e:H t=some (.lst xs)):t ∉ F:=λ hm=>by
 rcases h t hm with⟨kv,e'⟩ |⟨C,dx,d,fl,e'⟩ <;>(rw [e] at e';cases e')
theorem bZ.one {H:Hp} {a:Addr} {kv:List (Key × V)} (h:H a=some (.dK kv)):bZ H [a]:=λ x hx=>by
 have:x=a:=by simpa using hx
 subst this;exact .inl ⟨_,h⟩
theorem Ck (xs:List Int) (h:xs ≠ []):j8 (xs.map V.int) none (some (-1))=xs.dropLast.map V.int:=by
 have hl:0 < xs.length:=List.length_pos_iff.mpr h
 unfold j8
 show List.take ((if (-1:Int) < 0 then((-1:Int) +((xs.map V.int).length:Int)).toNat else min (-1:Int).toNat (xs.map V.int).length) - 0) (List.drop 0 (xs.map V.int))=_
 rw [if_pos (by decide),List.drop_zero,← List.map_take,List.dropLast_eq_take,List.length_map]
 congr 2
 omega
theorem int_at {xs:List Int} {j:Nat} {y:V} (h:(xs.map V.int)[j]? = some y):∃ n,xs[j]? = some n /\ V.int n=y:=by
 rw [List.getElem?_map] at h
 obtain⟨c,h1,h2⟩:=Option.map_eq_some_iff.mp h
 exact⟨c,h1,h2⟩
open PySem PySem.Spec PyProof.Rows
theorem EH:typeLookup (.type "list") "keys" = pure none:=by rw [typeLookup_type,builtinLookup_eq_fast];kernel_rfl
theorem Fc:typeLookup (.type "tuple") "keys" = pure none:=by rw [typeLookup_type,builtinLookup_eq_fast];kernel_rfl
section
variable {prog:Program} {w:World} {A:Around} {E:Value->Shared->Prop} {s:Shared} {a:Addr} {its:Array Value} {n:Nat} {sl:Array (Option Value)}
theorem Gz {Q:Option Value->Shared->Prop} (hx:s.heap.get? a=some { cls:=.type "list",dict:=none,data:=.seq its n,slots:=sl }) (hA:A.handled=none)
  (h:∀ h' tk,(∀ b ob,s.heap.get? b=some ob->h'.get? b=some ob)->Q none { s with heap:=h',toks:=tk }):wpAny (model prog w) A (getAttr? (.ref a) "keys") Q E s:=by
 obtain⟨hp,g,dr,tk,os⟩:=s
 have hT:∀ tk',(⟨hp,g,dr,tk',os⟩:Shared).TypeIs (.ref a) "list":=λ _=>⟨_,hx,rfl⟩
 have u1:=sub_AttributeError
 have u2:=F.slot_list_getattribute.lookup
 have u3:=F.slot_list_getattribute.bind (.ref a)
 have u4:=am_list_getattr_none
 unfold getAttr? getAttrBy? getAttrBy
 repeat (any_goals first |((with_reducible show wpAny _ _ (call (Value.builtin "list.__getattribute__") _ _) _ _ _);refine call_meets F.slot_list_getattribute (hT _) am_entry_list_getattribute (F.args_list_getattribute_2 _ _) (meets_getattribute_miss_list a its n sl "keys" _ EH (by decide +kernel)) ⟨hx,hA,λ h' tk' e hx'=>?_⟩) | exact hT _ | wp_step | assumption)
 obtain⟨t',u',he⟩:=hx'.there
 show wpAny _ _ (getattributeRaised _ _ _ _ _ _ _) _ _ _
 unfold getattributeRaised
 repeat (any_goals first | wp_step | assumption)
 exact h _ _ hx'.keeps
theorem Gj {Q:Option Value->Shared->Prop} (hx:s.heap.get? a=some { cls:=.type "tuple",dict:=none,data:=.seq its n,slots:=sl }) (hA:A.handled=none)
  (h:∀ h' tk,(∀ b ob,s.heap.get? b=some ob->h'.get? b=some ob)->Q none { s with heap:=h',toks:=tk }):wpAny (model prog w) A (getAttr? (.ref a) "keys") Q E s:=by
 obtain⟨hp,g,dr,tk,os⟩:=s
 have hT:∀ tk',(⟨hp,g,dr,tk',os⟩:Shared).TypeIs (.ref a) "tuple":=λ _=>⟨_,hx,rfl⟩
 have u1:=sub_AttributeError
 have u2:=F.slot_tuple_getattribute.lookup
 have u3:=F.slot_tuple_getattribute.bind (.ref a)
 have u4:=am_tuple_getattr_none
 unfold getAttr? getAttrBy? getAttrBy
 repeat (any_goals first |((with_reducible show wpAny _ _ (call (Value.builtin "tuple.__getattribute__") _ _) _ _ _);refine call_meets F.slot_tuple_getattribute (hT _) am_entry_tuple_getattribute (F.args_tuple_getattribute_2 _ _) (meets_getattribute_miss_tuple a its n sl "keys" _ Fc (by decide +kernel)) ⟨hx,hA,λ h' tk' e hx'=>?_⟩) | exact hT _ | wp_step | assumption)
 obtain⟨t',u',he⟩:=hx'.there
 show wpAny _ _ (getattributeRaised _ _ _ _ _ _ _) _ _ _
 unfold getattributeRaised
 repeat (any_goals first | wp_step | assumption)
 exact h _ _ hx'.keeps
end
theorem AM:entryFor table "dict.update.loop" = some Builtin.«dict.update.loop»:=entryFor_of_tree (by kernel_rfl)
theorem j3:plainId "dict.update.loop" = true:=by decide +kernel
section
variable {prog:Program} {w:World} {κ:Type} [DecidableEq κ] {knd:KeyKind prog w κ} {A:Around} {R:Result->Shared->Prop} {I l d:Addr} {its:Array Value} {St:Nat->Heap->Prop}
def uS (knd:KeyKind prog w κ) (its:Array Value) (ps:List (κ × Value)) (h:Heap):Prop:=∀(i:Nat) (v:Value),its[i]? = some v->∃ t key x n ob k,v = .ref t /\ h.get? t=some ob /\ ob.cls = .type "tuple" /\ ob.data = .seq #[key,x] n /\ ps[i]? = some (k,x) /\ knd.is k key=true
theorem BI (W:Walks prog w A.in1 I [I,l] [I] its.size (λ i v=>its[i]? = some v) St) (hI:∀ i h,St i h->∃ o,h.get? I=some o /\ o.cls ≠ .type "tuple") (hdI:d ≠ I) (hdl:d ≠ l) {ps:List (κ × Value)} (hps:ps.length=its.size) :
  ∀(k i:Nat) (s:Shared) (kvs:List (κ × Value)),its.size - i=k->i ≤ its.size->St i s.heap->s.heap.DictOf knd d kvs->uS knd its ps s.heap->kvs.length + its.size ≤ sizeLine + i →
  (∀ h' tk,(∀ b o,b ≠ I->b ≠ d->s.heap.get? b=some o->h'.get? b=some o)->h'.DictOf knd d (merged kvs (ps.drop i))->R (.ok (.ret .none)) { s with heap:=h',toks:=tk }) →
  codeAny (model prog w) A (.builtin "dict.update.loop" ⟨[.ref d,.ref I,rawInt i,.none],[]⟩) R s:=by
 intro k
 induction k with
 | zero =>
  intro i s kvs hk hi hst hD hP hsz hR
  have e:i=its.size:=by omega
  subst e
  refine codeAny_builtin AM ?_
  rw [Around.under_plainId j3 _]
  show wpAny _ A.in1 (pyNext (.ref I) >>= _) _ _ s
  refine wpAny_bind (W.done s _ _ hst λ h' tk hk'=>?_)
  refine wpAny_bind (wpAny_pure ?_)
  refine wpAny_pure (hR h' tk (λ b o n1 _ e=>hk' b o (by simpa using n1) e) ?_)
  rw [List.drop_of_length_le (by omega)]
  obtain⟨o,es,ep,ho,r⟩:=hD
  exact⟨o,es,ep,hk' _ _ (by simpa using hdI) ho,r⟩
 | succ k ih =>
  intro i s kvs hk hi hst hD hP hsz hR
  have hlt:i < its.size:=by omega
  refine codeAny_builtin AM ?_
  rw [Around.under_plainId j3 _]
  show wpAny _ A.in1 (pyNext (.ref I) >>= _) _ _ s
  refine wpAny_bind (W.item i s _ _ hlt hst λ v h' tk hv hst' hk'=>?_)
  obtain⟨t,key,x,n,ob,kk,rfl,ht,hc,hdt,hpi,hkey⟩:=hP i v hv
  obtain⟨oI,hoI,hcI⟩:=hI i _ hst
  have ntI:t ≠ I:=λ z=>by subst z;rw [ht] at hoI;cases hoI;exact hcI hc
  obtain⟨od,es,ep,hod,hcd,hdd,r⟩:=id hD
  have hD':h'.DictOf knd d kvs:=⟨od,es,ep,hk' _ _ (by simpa using hdI) hod,hcd,hdd,r⟩
  have ht':=hk' t _ (by simpa using ntI) ht
  refine wpAny_bind (wpAny_holding ?_)
  refine wpAny_bind (wpAny_tryCatch ?_)
  unfold Builtin.Dict.pairItems
  have hTt:({ s with heap:=h',toks:=tk }:Shared).TypeIs (.ref t) "tuple":=⟨ob,ht',hc⟩
  refine wpAny_bind (wpAny_typeOf hTt ?_)
  rw [if_pos (by decide)]
  refine wpAny_bind (wpAny_seqItems ht' hdt (wpAny_pure ?_))
  show wpAny _ A.in1 (holding [key,x] (dictSet d key x)) _ _ _
  refine wpAny_holding (wpAny_dictSet_pairs hkey hD' (λ h2 hD2 sb=>?_) (by omega))
  refine wpAny_pure ⟨plainId_quiet j3 _,?_⟩
  have ndt:t ≠ d:=λ z=>by
   subst z
   rw [ht] at hod;cases hod
   rw [hdt] at hdd;cases hdd
  have up:∀ b o,b ≠ I->b ≠ d->s.heap.get? b=some o->h2.get? b=some o:=λ b o n1 n2 e=>sb.extBut b o n2 (hk' b o (by simpa using n1) e)
  refine ih (i + 1) _ (stored kvs kk x) (by omega) (by omega) ?_ hD2 ?_ ?_ ?_
  ·refine W.frame (i + 1) h' h2 hst' λ b hb o e=>sb.extBut b o (λ z=>?_) e
   subst z
   simp only [List.mem_cons,List.not_mem_nil,or_false] at hb
   rcases hb with h | h
   ·exact hdI h
   ·exact hdl h
  ·intro j v hj
   obtain⟨t2,key2,x2,n2,ob2,k2,rfl,a1,a2,a3,a4,a5⟩:=hP j v hj
   refine⟨t2,key2,x2,n2,ob2,k2,rfl,up t2 ob2 (λ z=>?_) (λ z=>?_) a1,a2,a3,a4,a5⟩
   ·subst z;rw [a1] at hoI;cases hoI;exact hcI a2
   ·subst z;rw [a1] at hod;cases hod;rw [a3] at hdd;cases hdd
  ·have:(stored kvs kk x).length ≤ kvs.length + 1:=by unfold stored;split <;> simp
   omega
  ·intro h3 tk3 hk3 hD3
   refine hR h3 tk3 (λ b o n1 n2 e=>hk3 b o n1 n2 (up b o n1 n2 e)) ?_
   have e:ps.drop i =(kk,x) :: ps.drop (i + 1):=by
    have hil:i < ps.length:=by omega
    rw [List.drop_eq_getElem_cons hil]
    rw [List.getElem?_eq_getElem hil] at hpi
    rw [Option.some.inj hpi]
   rw [e]
   exact hD3
end
theorem qJ {P:Program} {w:World} {H:Hp} {h:Heap} (ok:HOk P w H h):∀ {L:List V} {its:List Value} {ps:List (Key × V)},Vals L its->L.length=ps.length->(∀(i:Nat) v,L[i]? = some v->∃ t k x,v=V.ref t /\ H t=some (.tup [kV k,x]) /\ ps[i]? = some (k,x))->∃ pv,KV ps pv /\ uS (bD P w) its.toArray pv h
 | [],_,[],.nil,_,_=>⟨[],.nil,λ i v e=>by simp at e⟩
 | [],_,_ :: _,_,hl,_=>by simp at hl
 | _ :: _,_,[],_,hl,_=>by simp at hl
 | v :: L,u :: its,p :: ps,.cons r rr,hl,hp=>by
  obtain⟨t,k,x,rfl,ht,e0⟩:=hp 0 v rfl
  have e0:p =(k,x):=by simpa using e0
  subst e0
  have r:u=Value.ref t:=r
  subst r
  obtain⟨pv,kv,pin⟩:=qJ ok rr (by simpa using hl) (λ i v e=>by
   obtain⟨t,k,x,a,b,c⟩:=hp (i + 1) v (by simpa using e)
   exact⟨t,k,x,a,b,by simpa using c⟩)
  obtain⟨_,its2,r2,ob,h1,h2,n,h3⟩:=(show bF P w H h t (.tup [kV k,x]) from ok t _ ht)
  cases r2 with
  | @cons _ ku _ _ ra rb =>
   cases rb with
   | @cons _ xu _ _ rx rn =>
    cases rn
    refine⟨(k,xu) :: pv,.cons ⟨rfl,rx⟩ kv,λ i v e=>?_⟩
    cases i with
    | zero =>
     have e:Value.ref t=v:=by simpa using e
     exact⟨t,ku,xu,n,ob,k,e.symm,h1,h2,h3,rfl,mU ra⟩
    | succ i =>
     obtain⟨t2,k2,x2,n2,o2,kk,a1,a2,a3,a4,a5,a6⟩:=pin i v (by simpa using e)
     exact⟨t2,k2,x2,n2,o2,kk,a1,a2,a3,a4,by simpa using a5,a6⟩
open PySem PySem.Spec PyProof.Rows
theorem Fb {prog:Program} {w:World} {κ:Type} [DecidableEq κ] {knd:KeyKind prog w κ} {A:Around} {E:Value->Shared->Prop} {s:Shared} {a:Addr} {its:Array Value} {n:Nat} {sl:Array (Option Value)} {ps:List (κ × Value)} {Q:Value->Shared->Prop}
  (hx:s.heap.get? a=some { cls:=.type "list",dict:=none,data:=.seq its n,slots:=sl }) (hA:A.handled=none) (hP:uS knd its ps s.heap) (hps:ps.length=its.size) (hsz:its.size ≤ sizeLine)
  (h:∀ h' tk,(∀ b o,s.heap.get? b=some o->h'.get? b=some o)->h'.DictOf knd s.heap.objs.size (merged [] ps)->Q (.ref s.heap.objs.size) { s with heap:=h',toks:=tk }) :
  wpAny (model prog w) A (call (.type "dict") [.ref a]) Q E s:=by
 refine callType_codes (Q₁:=λ obj s₁=>obj = .ref s.heap.objs.size /\ s₁ = { s with heap:=s.heap.push { cls:=.type "dict",data:=.dict #[] } }) F.kt_called_dict (F.kt_typeCall_dict_1 _) F.entry_dict_init (kt_code_dict_new _ ⟨rfl,rfl⟩) ?_
 rintro obj s₁ ⟨rfl,rfl⟩
 have hnew:(s.heap.push { cls:=.type "dict",data:=.dict #[] }).DictOf knd s.heap.objs.size []:=Heap.DictOf.new s.heap
 have hx1:=Heap.get?_push_of_some { cls:=.type "dict",data:=.dict #[] } hx
 have hlt:a < s.heap.objs.size:=Heap.lt_size hx
 refine⟨hnew.typeIs,F.args_dict_init_2 _ _,?_⟩
 unfold Builtin.«dict.__init__»
 refine wpAny_bind ?_
 unfold Builtin.Dict.selfAndRest
 refine wpAny_bind (wpAny_notOrdered_dict hnew.typeIs (wpAny_pure ?_))
 show wpAny _ _ (Builtin.Dict.updateFrom "dict.__init__" s.heap.objs.size (.ref a) [] .none) _ _ _
 unfold Builtin.Dict.updateFrom
 have hTl:({ s with heap:=s.heap.push { cls:=.type "dict",data:=.dict #[] } }:Shared).TypeIs (.ref a) "list":=⟨_,hx1,rfl⟩
 refine wpAny_bind (wpAny_typeOf hTl ?_)
 rw [if_pos (by decide)]
 refine wpAny_bind (Gz hx1 hA λ h2 tk2 hk2=>?_)
 rw [if_pos (show(none:Option Value).isNone=true from rfl)]
 refine wpAny_bind (wpAny_rule ?_)
 have hx2:=hk2 _ _ hx1
 refine wpAny_bind (wpAny_pyIter_list (items:=its) ⟨_,hx2,rfl,_,rfl⟩ ?_)
 have hnew2:h2.DictOf knd s.heap.objs.size []:=by
  obtain⟨o,es,ep,ho,r⟩:=hnew
  exact⟨o,es,ep,hk2 _ _ ho,r⟩
 obtain⟨od,es,ep,hod,hcd,hdd,r⟩:=id hnew2
 have hltd:s.heap.objs.size < h2.objs.size:=Heap.lt_size hod
 have hlta:a < h2.objs.size:=Heap.lt_size hx2
 refine wpAny_pure ⟨plainId_quiet j3 _,?_⟩
 refine BI (A:=A.in1) (its:=its) (knd:=knd) (I:=h2.objs.size) (l:=a) (Walks.list (prog:=prog) (w:=w) (A:=A.in1.in1) (show A.in1.in1.handled=none from hA) h2.objs.size a (Nat.ne_of_lt hlta) its) ?_ (Nat.ne_of_lt hltd) (λ z=>by subst z;exact absurd hlt (Nat.lt_irrefl _)) hps its.size 0 _ [] (by omega) (by omega) ⟨?_,?_⟩ ?_ ?_ (by simp;omega) ?_
 ·rintro i h ⟨⟨o,ho,hc,_⟩,_⟩
  exact⟨o,ho,by rw [hc];decide⟩
 ·exact⟨_,Heap.get?_push_size _ rfl,rfl,rfl⟩
 ·exact⟨_,Heap.get?_push_of_some _ hx2,rfl,_,rfl⟩
 ·exact⟨od,es,ep,Heap.get?_push_of_some _ hod,hcd,hdd,r⟩
 ·intro i v hv
  obtain⟨t,key,x,n,ob,k,e1,e2,r⟩:=hP i v hv
  exact⟨t,key,x,n,ob,k,e1,Heap.get?_push_of_some _ (hk2 _ _ (Heap.get?_push_of_some _ e2)),r⟩
 ·intro h' tk hk hD
  refine⟨rfl,h h' tk (λ b o e=>hk b o (λ z=>?_) (λ z=>?_) (Heap.get?_push_of_some _ (hk2 _ _ (Heap.get?_push_of_some _ e)))) (by simpa using hD)⟩
  ·subst z
   exact Nat.lt_asymm hltd (Heap.lt_size e)
  ·subst z
   exact Nat.lt_irrefl _ (Heap.lt_size e)
theorem uz:∀ {L:List V} {its:List Value},Vals L its->its.length=L.length
 | _,_,.nil=>rfl
 | _,_,.cons _ r=>by simp [uz r]
theorem KV.len':∀ {ps:List (Key × V)} {pv:List (Key × Value)},KV ps pv->pv.length=ps.length
 | _,_,.nil=>rfl
 | _,_,.cons _ r=>by simp [KV.len' r]
theorem Ff {X:Cx} (hc:X.calm=true):gG X (.type "dict") (λ xs H Q=>∃(a:Addr) (L:List V) (ps:List (Key × V)),xs = [.ref a] /\ H a=some (.lst L) /\ L.length=ps.length /\(∀(i:Nat) v,L[i]? = some v->∃ t k x,v=V.ref t /\ H t=some (.tup [kV k,x]) /\ ps[i]? = some (k,x)) ∧
  ∀ d,H d=none->Q (.ref d) (upd H d (.dK (fX [] ps)))):=by
 rintro pins s σ H xs us Q I r ⟨a,L,ps,rfl,hL,hl,hp,q⟩
 obtain⟨u,rfl,ru⟩:=vals1 r
 cases (show u=Value.ref a from ru)
 obtain⟨hsz,its,n,rv,hx⟩:=(show bF X.prog X.w H s.heap a (.lst L) from I.hok a _ hL)
 obtain⟨pv,kv,pin⟩:=qJ I.hok rv hl hp
 have e1:=uz rv
 have e2:=KV.len' kv
 refine Fb (knd:=bD X.prog X.w) (ps:=pv) hx (I.ok.hd hc) pin (by simp;omega) (by simp;omega) λ h' tk keep hD=>?_
 have hno:=I.hok.fresh (Nat.le_refl s.heap.objs.size)
 refine⟨.ref s.heap.objs.size,_,I.laid (a:=s.heap.objs.size) (o:=.dK (fX [] ps)) (t':=tk) keep (Nat.le_refl _) (lM ?_ (beq_eq_false_iff_ne.mpr (Ne.symm (Nat.ne_of_lt I.big))) (KV.merge kv .nil) hD),rfl,q _ hno⟩
 have:=iJ ps []
 simp at this
 omega
open PySem PySem.Spec PyProof.Rows
theorem LL {X:Cx} {K:PySem.W.Frag} {e:Expr} {ta:TE} {f:Str} {pos:Pos} (hK:X.K=K) (he:PE X e ta) (hb:attributeBase e f X.env (eval e X.env)=eval e X.env):PE X (.Attribute e f pos) (Js K ta f):=by subst hK;exact bH he hb
open PySem PySem.Spec PyProof.Rows
def Mw (ob:Obj):Prop:=∃(its:Array Value) (n:Nat) (sl:Array (Option Value)),ob = { cls:=.type "tuple",dict:=none,data:=.seq its n,slots:=sl }
def FT (H:Hp) (a:Addr) (xs:List V):Prop:=∃ ob,Mw ob /\ H a=some (.frz ob (.tup xs))
theorem FT.sq {K:PySem.W.Frag} {H:Hp} {a:Addr} {xs:List V} (h:FT H a xs):SqT K H a xs:=let ⟨ob,_,e⟩:=h;.inl (.inr ⟨ob,e⟩)
theorem FT.keep {H H':Hp} {a:Addr} {xs:List V} (s:ao H H') (h:FT H a xs):FT H' a xs:=let ⟨ob,t,e⟩:=h;⟨ob,t,s _ _ e⟩
section
variable {X:Cx}
theorem zH:gG X (.type "tuple") (λ xs H Q=>∃ p ys,xs = [.ref p] /\ SqL X.K H p ys /\ ∀ l ob,H l=none->Mw ob->Q (.ref l) (upd H l (.frz ob (.tup ys)))):=by
 intro pins s σ H xs us Q I r h
 obtain⟨p,ys,rfl,hq,q⟩:=h
 obtain⟨u,rfl,rx⟩:=vals1 r
 cases rx
 obtain⟨its,r',pl,hz⟩:=I.list hq
 have hlen:=r'.length
 refine call_tuple_list pl.isList (λ h' kp=>?_) (by simp only [List.size_toArray] <;> omega)
 have I1:Inv X pins σ H { s with heap:=h' }:=I.kept (t':=s.toks) kp
 refine⟨.ref h'.objs.size,_,I1.laid (t':=s.toks) (o:=.frz { cls:=.type "tuple",data:=.seq its.toArray } (.tup ys)) (λ b o e=>Heap.get?_push_of_some _ e) (Nat.le_refl _) ⟨Heap.get?_push_size _ rfl,hz,its,r',IsTup.new _ _⟩,rfl,q _ _ (I1.hok.fresh (Nat.le_refl _)) ⟨_,_,_,rfl⟩⟩
end
theorem FI {prog:Program} {w:World} {κ:Type} [DecidableEq κ] {knd:KeyKind prog w κ} {A:Around} {E:Value->Shared->Prop} {s:Shared} {a:Addr} {its:Array Value} {n:Nat} {sl:Array (Option Value)} {ps:List (κ × Value)} {Q:Value->Shared->Prop}
  (hx:s.heap.get? a=some { cls:=.type "tuple",dict:=none,data:=.seq its n,slots:=sl }) (hA:A.handled=none) (hP:uS knd its ps s.heap) (hps:ps.length=its.size) (hsz:its.size ≤ sizeLine)
  (h:∀ h' tk,(∀ b o,s.heap.get? b=some o->h'.get? b=some o)->h'.DictOf knd s.heap.objs.size (merged [] ps)->Q (.ref s.heap.objs.size) { s with heap:=h',toks:=tk }) :
  wpAny (model prog w) A (call (.type "dict") [.ref a]) Q E s:=by
 refine callType_codes (Q₁:=λ obj s₁=>obj = .ref s.heap.objs.size /\ s₁ = { s with heap:=s.heap.push { cls:=.type "dict",data:=.dict #[] } }) F.kt_called_dict (F.kt_typeCall_dict_1 _) F.entry_dict_init (kt_code_dict_new _ ⟨rfl,rfl⟩) ?_
 rintro obj s₁ ⟨rfl,rfl⟩
 have hnew:(s.heap.push { cls:=.type "dict",data:=.dict #[] }).DictOf knd s.heap.objs.size []:=Heap.DictOf.new s.heap
 have hx1:=Heap.get?_push_of_some { cls:=.type "dict",data:=.dict #[] } hx
 have hlt:a < s.heap.objs.size:=Heap.lt_size hx
 refine⟨hnew.typeIs,F.args_dict_init_2 _ _,?_⟩
 unfold Builtin.«dict.__init__»
 refine wpAny_bind ?_
 unfold Builtin.Dict.selfAndRest
 refine wpAny_bind (wpAny_notOrdered_dict hnew.typeIs (wpAny_pure ?_))
 show wpAny _ _ (Builtin.Dict.updateFrom "dict.__init__" s.heap.objs.size (.ref a) [] .none) _ _ _
 unfold Builtin.Dict.updateFrom
 have hTl:({ s with heap:=s.heap.push { cls:=.type "dict",data:=.dict #[] } }:Shared).TypeIs (.ref a) "tuple":=⟨_,hx1,rfl⟩
 refine wpAny_bind (wpAny_typeOf hTl ?_)
 rw [if_pos (by decide)]
 refine wpAny_bind (Gj hx1 hA λ h2 tk2 hk2=>?_)
 rw [if_pos (show(none:Option Value).isNone=true from rfl)]
 refine wpAny_bind (wpAny_rule ?_)
 have hx2:=hk2 _ _ hx1
 have hT2:h2.IsTuple a its:=⟨_,hx2,rfl,_,rfl⟩
 refine wpAny_bind (wpAny_pyIter_tuple (items:=its) hT2 ?_)
 have hnew2:h2.DictOf knd s.heap.objs.size []:=by
  obtain⟨o,es,ep,ho,r⟩:=hnew
  exact⟨o,es,ep,hk2 _ _ ho,r⟩
 obtain⟨od,es,ep,hod,hcd,hdd,r⟩:=id hnew2
 have hltd:s.heap.objs.size < h2.objs.size:=Heap.lt_size hod
 have hlta:a < h2.objs.size:=Heap.lt_size hx2
 refine wpAny_pure ⟨plainId_quiet j3 _,?_⟩
 refine BI (A:=A.in1) (its:=its) (knd:=knd) (I:=h2.objs.size) (l:=a) (Walks.tuple (prog:=prog) (w:=w) (A:=A.in1.in1) (show A.in1.in1.handled=none from hA) h2.objs.size a (Nat.ne_of_lt hlta) its) ?_ (Nat.ne_of_lt hltd) (λ z=>by subst z;exact absurd hlt (Nat.lt_irrefl _)) hps its.size 0 _ [] (by omega) (by omega) ⟨?_,?_⟩ ?_ ?_ (by simp;omega) ?_
 ·rintro i h ⟨⟨o,ho,hc,_⟩,_⟩
  exact⟨o,ho,by rw [hc];decide⟩
 ·exact⟨_,Heap.get?_push_size _ rfl,rfl,rfl⟩
 ·exact⟨_,Heap.get?_push_of_some _ hx2,rfl,_,rfl⟩
 ·exact⟨od,es,ep,Heap.get?_push_of_some _ hod,hcd,hdd,r⟩
 ·intro i v hv
  obtain⟨t,key,x,n,ob,k,e1,e2,r⟩:=hP i v hv
  exact⟨t,key,x,n,ob,k,e1,Heap.get?_push_of_some _ (hk2 _ _ (Heap.get?_push_of_some _ e2)),r⟩
 ·intro h' tk hk hD
  refine⟨rfl,h h' tk (λ b o e=>hk b o (λ z=>?_) (λ z=>?_) (Heap.get?_push_of_some _ (hk2 _ _ (Heap.get?_push_of_some _ e)))) (by simpa using hD)⟩
  ·subst z
   exact Nat.lt_asymm hltd (Heap.lt_size e)
  ·subst z
   exact Nat.lt_irrefl _ (Heap.lt_size e)
theorem vG {X:Cx} (hc:X.calm=true):gG X (.type "dict") (λ xs H Q=>∃(a:Addr) (L:List V) (ps:List (Key × V)),xs = [.ref a] /\ FT H a L /\ L.length=ps.length /\(∀(i:Nat) v,L[i]? = some v->∃ t k x,v=V.ref t /\ H t=some (.tup [kV k,x]) /\ ps[i]? = some (k,x)) ∧
  ∀ d,H d=none->Q (.ref d) (upd H d (.dK (fX [] ps)))):=by
 rintro pins s σ H xs us Q I r ⟨a,L,ps,rfl,hL,hl,hp,q⟩
 obtain⟨u,rfl,ru⟩:=vals1 r
 cases (show u=Value.ref a from ru)
 obtain⟨ob,⟨its,n,sl,rfl⟩,hLa⟩:=hL
 obtain⟨hx,hsz,its2,rv,⟨o2,ho2,hc2,n2,hd2⟩⟩:=(show bF X.prog X.w H s.heap a (.frz _ (.tup L)) from I.hok a _ hLa)
 rw [hx] at ho2
 cases ho2
 have hd2:(Data.seq its n) = .seq its2.toArray n2:=hd2
 cases hd2
 obtain⟨pv,kv,pin⟩:=qJ I.hok rv hl hp
 have e1:=uz rv
 have e2:=KV.len' kv
 refine FI (knd:=bD X.prog X.w) (ps:=pv) hx (I.ok.hd hc) pin (by simp;omega) (by simp;omega) λ h' tk keep hD=>?_
 have hno:=I.hok.fresh (Nat.le_refl s.heap.objs.size)
 refine⟨.ref s.heap.objs.size,_,I.laid (a:=s.heap.objs.size) (o:=.dK (fX [] ps)) (t':=tk) keep (Nat.le_refl _) (lM ?_ (beq_eq_false_iff_ne.mpr (Ne.symm (Nat.ne_of_lt I.big))) (KV.merge kv .nil) hD),rfl,q _ hno⟩
 have:=iJ ps []
 simp at this
 omega
section
variable {X:Cx} {o e:Expr} {apos cpos:Pos} {td ty:TE}
def Oq (td ty:TE):TE:=λ σ H Q=>td σ H λ x H1=>∃ a,x = .ref a /\ IsD H1 a /\ ty σ H1 λ y H2=>∃ b kvs more,y = .ref b /\ a ≠ b /\ H2 a=some (.dK kvs) /\ H2 b=some (.dK more) /\ kvs.length + more.length ≤ sizeLine /\ Q .non (upd H2 a (.dK (fX kvs more)))
theorem Ob {pins:List (Addr × Obj)} {σ:St} {H:Hp} {s:Shared} {a b:Addr} {kvs more:List (Key × V)} {A:Around} {E:Value->Shared->Prop} {Q:Value->Shared->Prop} (I:Inv X pins σ H s) (n:a ≠ b) (ea:H a=some (.dK kvs)) (eb:H b=some (.dK more)) (hz:kvs.length + more.length ≤ sizeLine)
  (h:∀ s',Inv X pins σ (upd H a (.dK (fX kvs more))) s'->Q .none s'):wpAny (model X.prog X.w) A (call (.builtin "dict.update") [.ref a,.ref b]) Q E s:=by
 obtain⟨za,hda,vs,rel,dd⟩:=mS I.hok ea
 obtain⟨zb,hdb,ws,rel2,dd2⟩:=mS I.hok eb
 refine call_meetsIn PySem.F.slot_dict_update dd.typeIs PySem.F.entry_dict_update (PySem.F.args_dict_update_2 _ _) (meets_dict_update (bD X.prog X.w) a b n hdb) ⟨vs,ws,dd,dd2,by rw [← rel.length,← rel2.length];exact hz,λ h' d1 d2 hs=>h _ ?_⟩
 have he:∃ q,h'.get? a=some q:=let ⟨q,_,_,hq,_⟩:=d1;⟨q,hq⟩
 exact oH I (by rw [ea];exact True.intro) hs he (lM (by have:=iJ more kvs;omega) hda (KV.merge rel2 rel) d1)
theorem LW (ho:PE X o td) (he:PE X e ty) (m:M1 X o "update" apos e cpos):PE X (.Call (.Attribute o "update" apos) [e] [] cpos) (Oq td ty):=by
 intro pins s σ H Q I h
 refine wpAny_Call_method m.base m.few m.line PySem.F.plainAttrs_dict PySem.F.slot_dict_update PySem.F.type_dict_update (thn (ho pins s σ H _ I h) λ u s1 ⟨x,H1,I1,rx,a,ex,d,q1⟩=>?_)
 subst ex
 obtain rfl:u=Value.ref a:=rx
 obtain⟨t1,t2,_⟩:=yh I1 d
 refine⟨t1,t2,?_⟩
 rw [m.trees]
 refine Calls.callWith_builtin rfl (Calls.evalArgs_plain (Calls.spliced_cons (thn (he pins s1 σ H1 _ I1 q1) λ iv s2 ⟨y,H2,I2,ry,b,kvs,more,ey,n,ea,eb,hz,q2⟩=>Calls.spliced_nil ?_)))
 subst ey
 obtain rfl:iv=Value.ref b:=ry
 exact Ob I2 n ea eb hz λ s3 I3=>⟨.non,_,I3,rfl,q2⟩
end
open PySem PySem.Spec PyProof.Rows
def kvR (rs:List (Nat × Nat)):List (Key × V):=rs.map λ r=>(Sum.inl (r.1:Int),V.int (r.2:Int))
def iB (rs:List (Nat × Nat)) (k v:Nat):List (Nat × Nat):=if (rs.any λ r=>decide (r.1=k))=true then rs.map (λ r=>if r.1=k then(r.1,v) else r) else rs ++ [(k,v)]
def aV (rs more:List (Nat × Nat)):List (Nat × Nat):=more.foldl (λ acc r=>iB acc r.1 r.2) rs
def dm (rs:List (Nat × Nat)) (k:Nat):Option Nat:=(rs.find? λ r=>decide (r.1=k)).map (·.2)
theorem vJ {a b:Nat}:((Sum.inl (a:Int):Key)=Sum.inl (b:Int)) ↔ a=b:=⟨λ h=>by have:=Sum.inl.inj h;omega,λ h=>by rw [h]⟩
theorem zT (rs:List (Nat × Nat)) (k v:Nat):putK (kvR rs) (Sum.inl (k:Int)) (V.int (v:Int))=kvR (iB rs k v):=by
 unfold putK iB kvR
 have e:((rs.map λ r=>((Sum.inl (r.1:Int):Key),V.int (r.2:Int))).any λ kv=>decide (kv.1=Sum.inl (k:Int)))=rs.any λ r=>decide (r.1=k):=by
  rw [List.any_map]
  congr 1
  funext r
  show decide ((Sum.inl (r.1:Int):Key)=Sum.inl (k:Int))=decide (r.1=k)
  by_cases h:r.1=k
  ·rw [decide_eq_true h,decide_eq_true (vJ.mpr h)]
  ·rw [decide_eq_false h,decide_eq_false (λ z=>h (vJ.mp z))]
 rw [e]
 split
 ·rw [List.map_map,List.map_map]
  apply List.map_congr_left
  intro r _
  show(if (Sum.inl (r.1:Int):Key)=Sum.inl (k:Int) then _ else _)=_
  by_cases h:r.1=k
  ·rw [if_pos (vJ.mpr h)]
   simp [h]
  ·rw [if_neg (λ z=>h (vJ.mp z))]
   simp [h]
 ·rw [List.map_append];rfl
theorem jR:∀(more rs:List (Nat × Nat)),fX (kvR rs) (kvR more)=kvR (aV rs more)
 | [],rs=>rfl
 | r :: more,rs=>by
  show fX (putK (kvR rs) (Sum.inl (r.1:Int)) (V.int (r.2:Int))) (kvR more)=kvR (aV (iB rs r.1 r.2) more)
  rw [zT,jR more]
theorem IZ (rs:List (Nat × Nat)) (k v:Nat):(iB rs k v).length ≤ rs.length + 1:=by
 unfold iB
 split
 ·rw [List.length_map];omega
 ·rw [List.length_append];exact Nat.le_refl _
theorem jl:∀(more rs:List (Nat × Nat)),(aV rs more).length ≤ rs.length + more.length
 | [],rs=>Nat.le_refl _
 | r :: more,rs=>by
  have h1:=jl more (iB rs r.1 r.2)
  have h2:=IZ rs r.1 r.2
  show(aV (iB rs r.1 r.2) more).length ≤ _
  rw [List.length_cons];omega
theorem Ao (rs:List (Nat × Nat)) (k v:Nat):(iB rs k v).map (·.1)=if k ∈ rs.map (·.1) then rs.map (·.1) else rs.map (·.1) ++ [k]:=by
 unfold iB
 have e:(rs.any λ r=>decide (r.1=k))=decide (k ∈ rs.map (·.1)):=by
  rw [Bool.eq_iff_iff,List.any_eq_true,decide_eq_true_eq,List.mem_map]
  constructor
  ·rintro⟨r,hr,h⟩;exact⟨r,hr,of_decide_eq_true h⟩
  ·rintro⟨r,hr,h⟩;exact⟨r,hr,decide_eq_true h⟩
 rw [e]
 by_cases h:k ∈ rs.map (·.1)
 ·rw [if_pos (decide_eq_true h),if_pos h,List.map_map]
  apply List.map_congr_left
  intro r _
  show(if r.1=k then(r.1,v) else r).1=r.1
  split <;> rfl
 ·rw [if_neg (by simpa using h),if_neg h,List.map_append];rfl
theorem Gk {rs:List (Nat × Nat)} (h:(rs.map (·.1)).Nodup) (k v:Nat):((iB rs k v).map (·.1)).Nodup:=by
 rw [Ao]
 split
 ·exact h
 ·rename_i hk
  rw [List.nodup_append]
  exact⟨h, by simp, λ a ha b hb => by have : b=k := by simpa using hb
                                      rw [this];exact λ e => hk (e ▸ ha)⟩
theorem ck:∀(more:List (Nat × Nat)) {rs:List (Nat × Nat)},(rs.map (·.1)).Nodup->((aV rs more).map (·.1)).Nodup
 | [],_,h=>h
 | r :: more,_,h=>ck more (Gk h r.1 r.2)
theorem xy {rs:List (Nat × Nat)} (hn:(rs.map (·.1)).Nodup) {r:Nat × Nat} (h:r ∈ rs):dm rs r.1=some r.2:=by
 induction rs with
 | nil=>simp at h
 | cons x rs ih =>
  rw [List.map_cons,List.nodup_cons] at hn
  unfold dm
  rw [List.find?_cons]
  by_cases e:x.1=r.1
  ·rw [decide_eq_true e]
   rcases List.mem_cons.mp h with h | h
   ·rw [h];rfl
   ·exact absurd (e ▸ List.mem_map_of_mem (f:=(·.1)) h) hn.1
  ·rw [decide_eq_false e]
   rcases List.mem_cons.mp h with h | h
   ·exact absurd (by rw [h]) e
   ·exact ih hn.2 h
theorem qV (rs:List (Nat × Nat)) (k:Nat):aZ (kvR rs) (Sum.inl (k:Int)) =(dm rs k).map λ v=>V.int (v:Int):=by
 induction rs with
 | nil=>rfl
 | cons x rs ih =>
  show aZ (((Sum.inl (x.1:Int):Key),V.int (x.2:Int)) :: kvR rs) _=_
  unfold dm
  rw [List.find?_cons]
  by_cases e:x.1=k
  ·rw [dc (by simp [e]),decide_eq_true e];rfl
  ·rw [cM (λ z=>e (vJ.mp z)),decide_eq_false e,ih];rfl
def cO (rs:List (Nat × Nat)) (ks:List Int):List (Nat × Nat):=ks.map λ n=>(n.toNat,(dm rs n.toNat).getD 0)
theorem vH {rs:List (Nat × Nat)} {ks:List Int} (hn:(rs.map (·.1)).Nodup) (hp:ks.Perm (rs.map λ r=>(r.1:Int))):(cO rs ks).Perm rs:=by
 have h:=hp.map (λ n:Int=>(n.toNat,(dm rs n.toNat).getD 0))
 rw [List.map_map] at h
 have e:rs.map ((λ n:Int=>(n.toNat,(dm rs n.toNat).getD 0)) ∘ λ r=>(r.1:Int))=rs:=by
  conv=>rhs;rw [← List.map_id rs]
  apply List.map_congr_left
  intro r hr
  show(((r.1:Int)).toNat,(dm rs ((r.1:Int)).toNat).getD 0)=r
  rw [Int.toNat_natCast,xy hn hr];rfl
 rw [e] at h
 exact h
theorem AJ {rs:List (Nat × Nat)} {ks:List Int} (hn:(rs.map (·.1)).Nodup) (hp:ks.Perm (rs.map λ r=>(r.1:Int))) {n:Int} (h:n ∈ ks):∃ k v:Nat,n =(k:Int) /\(k,v) ∈ rs /\ dm rs k=some v:=by
 obtain⟨r,hr,e⟩:=List.mem_map.mp (hp.mem_iff.mp h)
 exact⟨r.1,r.2,e.symm,hr,xy hn hr⟩
theorem Bv (rs:List (Nat × Nat)):(kvR rs).map (·.1) =(rs.map λ r=>(r.1:Int)).map Sum.inl:=by unfold kvR;rw [List.map_map,List.map_map];rfl
def Bg (rows1 rows2 rows:List (Nat × Nat)):Prop:=rows.Perm (aV (aV [] rows1) (aV [] rows2)) /\(rows.map (·.1)).Pairwise (· ≤ ·)
def ef (CW CG:Addr) (H:Hp) (p:Addr) (wh:Bool) (b d:Nat) (rows:List (Nat × Nat)) (c:Int):Prop :=
 ∃ dx r R,H p=some (.ins (cond wh CW CG) dx (pfs wh b d r c (decide (c =(fz wh b d rows:Nat))))) /\ FT H r R /\ bG H R rows
theorem ef.keep {CW CG:Addr} {H H':Hp} {p:Addr} {wh:Bool} {b d:Nat} {rows:List (Nat × Nat)} {c:Int} (h:ef CW CG H p wh b d rows c) (s:ao H H'):ef CW CG H' p wh b d rows c:=by
 obtain⟨dx,r,R,h1,h2,h3⟩:=h
 exact⟨dx,r,R,s _ _ h1,h2.keep s,h3.mono λ t xs e=>s _ _ e⟩
def ur:Sp:=λ vs H Q _=>∃(s d:Nat) (a:Addr) (L:List V) (rows:List (Nat × Nat)),vs = [.int ((s:Int) - 1),.int (d:Int),.ref a] /\ FT H a L /\ bG H L rows /\ rows.length ≤ 100 /\ ∀ H',ao H H'->Q (.int (Chk.chk (s :: d :: flat rows):Nat)) H'
def mZ (K:PySem.W.Frag):Sp:=λ vs H Q _=>∃(p C dx a:Addr) (s d:Nat) (L:List V) (rows:List (Nat × Nat)) (cv:V) (c:Int),vs = [.ref p,.int ((s:Int) - 1),.int (d:Int),.ref a,cv] /\ H p=some (.ins C dx []) /\ Cls K C /\ bw K C "day" /\ bw K C "rows" /\ bw K C "check" /\ bw K C "fits" ∧
 H a=some (.lst L) /\ bG H L rows /\ rows.length ≤ 100 /\((cv = .non /\ c =(Chk.chk (s :: d :: flat rows):Nat)) ∨ cv = .int c) ∧
 ∀ r R H',H' p=some (.ins C dx [("day",V.int (d:Int)),("rows",V.ref r),("check",V.int c),("fits",V.bl (decide (c =(Chk.chk (s :: d :: flat rows):Nat))))])->FT H' r R->bG H' R rows->bE [p] H H'->Q .non H'
def g9 (CW CG:Addr):Sp:=λ vs H Q _=>∃(p dx a:Addr) (d:Nat) (L:List V) (rows:List (Nat × Nat)) (cv:V) (c:Int),vs = [.ref p,.int (d:Int),.ref a,cv] /\ H p=some (.ins CW dx []) ∧
 H a=some (.lst L) /\ bG H L rows /\ rows.length ≤ 100 /\((cv = .non /\ c =(fz true 0 d rows:Nat)) ∨ cv = .int c) /\ ∀ H',ef CW CG H' p true 0 d rows c->bE [p] H H'->Q .non H'
def Ia (CW CG:Addr):Sp:=λ vs H Q _=>∃(p dx a:Addr) (b d:Nat) (L:List V) (rows:List (Nat × Nat)) (cv:V) (c:Int),vs = [.ref p,.int (b:Int),.int (d:Int),.ref a,cv] /\ H p=some (.ins CG dx []) ∧
 H a=some (.lst L) /\ bG H L rows /\ rows.length ≤ 100 /\((cv = .non /\ c =(fz false b d rows:Nat)) ∨ cv = .int c) /\ ∀ H',ef CW CG H' p false b d rows c->bE [p] H H'->Q .non H'
def dM (CW CG:Addr):Sp:=λ vs H Q _=>∃(p:Addr) (wh:Bool) (b d:Nat) (rows:List (Nat × Nat)) (c:Int),vs = [.ref p] /\ ef CW CG H p wh b d rows c /\ Q (.bl (decide (c =(fz wh b d rows:Nat)))) H
def fV (CW CG:Addr):Sp:=λ vs H Q _=>∃(p:Addr) (b d:Nat) (rows:List (Nat × Nat)) (c:Int),vs = [.ref p] /\ ef CW CG H p false b d rows c /\ Q (.int (b:Int)) H
def stI (wh:Bool) (b:Nat):Int:=cond wh (-1) (b:Int)
theorem gO {m:Str} {wh:Bool} {b d:Nat} {r:Addr} {c:Int} {f:Bool} (h1:(m == "day")=false:=by decide +kernel) (h2:(m == "rows")=false:=by decide +kernel) (h3:(m == "check")=false:=by decide +kernel) (h4:(m == "base")=false:=by decide +kernel) (h5:(m == "fits")=false:=by decide +kernel):List.lookup m (pfs wh b d r c f)=none:=Fy h1 h2 h3 h4 h5
theorem jB {wh:Bool} {b d:Nat} {r:Addr} {c:Int} {f:Bool}:List.lookup ("day":Str) (pfs wh b d r c f)=some (V.int (d:Int)):=by cases wh <;> exact BQ
theorem vM {wh:Bool} {b d:Nat} {r:Addr} {c:Int} {f:Bool}:List.lookup ("rows":Str) (pfs wh b d r c f)=some (V.ref r):=by cases wh <;> exact lg
theorem pK {H:Hp} {L:List V} {rows:List (Nat × Nat)} (R:bG H L rows):∀(i:Nat) v,L[i]? = some v->∃ t k x,v=V.ref t /\ H t=some (.tup [kV k,x]) /\(kvR rows)[i]? = some (k,x):=λ i v h=>by
 obtain⟨t,r,e,hr,ht⟩:=R.get i v h
 exact⟨t,Sum.inl (r.1:Int),V.int (r.2:Int),e,ht,by unfold kvR;rw [List.getElem?_map,hr];rfl⟩
open PySem PySem.Spec PyProof.Rows
def dQ (rows:List (Nat × Nat)) (k:Nat):Option Nat:=rows.foldl (λ o r=>if r.1=k then some r.2 else o) none
theorem kH (k:Nat):∀(rows:List (Nat × Nat)) (o:Option Nat),rows.foldl (λ o r=>if r.1=k then some r.2 else o) o =(dQ rows k).or o
 | [],o=>by cases o <;> rfl
 | r :: rows,o=>by
  unfold dQ
  rw [List.foldl_cons,List.foldl_cons,kH k rows,kH k rows]
  by_cases h:r.1=k
  ·rw [if_pos h,if_pos h];cases dQ rows k <;> rfl
  ·rw [if_neg h,if_neg h];cases dQ rows k <;> rfl
theorem qt (r:Nat × Nat) (rows:List (Nat × Nat)) (k:Nat):dQ (r :: rows) k =(dQ rows k).or (if r.1=k then some r.2 else none):=by
 show rows.foldl _ (if r.1=k then some r.2 else none)=_
 rw [kH]
theorem AG (a b:List (Nat × Nat)) (k:Nat):dQ (a ++ b) k =(dQ b k).or (dQ a k):=by
 show(a ++ b).foldl _ none=_
 rw [List.foldl_append,kH];rfl
theorem KY (rs:List (Nat × Nat)) (k v j:Nat):dm (iB rs k v) j=if j=k then some v else dm rs j:=by
 have h:=iS (kvR rs) (Sum.inl (k:Int)) (Sum.inl (j:Int)) (V.int (v:Int))
 rw [zT,qV,qV] at h
 by_cases e:j=k
 ·rw [if_pos e]
  rw [if_pos (vJ.mpr e)] at h
  cases hg:dm (iB rs k v) j with
  | none=>rw [hg] at h;cases h
  | some x =>
   rw [hg] at h
   have:V.int (x:Int)=V.int (v:Int):=Option.some.inj h
   have:=V.int.inj this
   congr 1;omega
 ·rw [if_neg e]
  rw [if_neg (λ z=>e (vJ.mp z))] at h
  cases hg:dm (iB rs k v) j with
  | none =>
   rw [hg] at h
   cases hh:dm rs j with
   | none=>rfl
   | some y=>rw [hh] at h;cases h
  | some x =>
   rw [hg] at h
   cases hh:dm rs j with
   | none=>rw [hh] at h;cases h
   | some y =>
    rw [hh] at h
    have:V.int (x:Int)=V.int (y:Int):=Option.some.inj h
    have:=V.int.inj this
    congr 1;omega
theorem kN:∀(more rs:List (Nat × Nat)) (k:Nat),dm (aV rs more) k =(dQ more k).or (dm rs k)
 | [],rs,k=>rfl
 | r :: more,rs,k=>by
  show dm (aV (iB rs r.1 r.2) more) k=_
  rw [kN more,KY,qt]
  by_cases e:k=r.1
  ·rw [if_pos e,if_pos e.symm];cases dQ more k <;> rfl
  ·rw [if_neg e,if_neg (λ z=>e z.symm)];cases dQ more k <;> rfl
theorem xF (rows:List (Nat × Nat)) (k:Nat):dm (aV [] rows) k=dQ rows k:=by
 rw [kN];cases dQ rows k <;> rfl
theorem Av:∀ {rows:List (Nat × Nat)} {k:Nat},(rows.map (·.1)).Nodup->dQ rows k=dm rows k
 | [],_,_=>rfl
 | r :: rows,k,hn=>by
  rw [List.map_cons,List.nodup_cons] at hn
  rw [qt,Av hn.2]
  unfold dm
  rw [List.find?_cons]
  by_cases e:r.1=k
  ·rw [if_pos e,decide_eq_true e]
   have:rows.find? (λ r=>decide (r.1=k))=none:=by
    rw [List.find?_eq_none]
    intro x hx hd
    exact hn.1 (by rw [e,← of_decide_eq_true hd];exact List.mem_map_of_mem (f:=(·.1)) hx)
   rw [this];rfl
  ·rw [if_neg e,decide_eq_false e]
   cases (List.find? (λ r=>decide (r.1=k)) rows).map (·.2) <;> rfl
theorem KL (rows1 rows2:List (Nat × Nat)) (k:Nat):dm (aV (aV [] rows1) (aV [] rows2)) k=dQ (rows1 ++ rows2) k:=by
 rw [kN,xF,Av (ck rows2 (rs:=[]) (by simp)),xF,AG]
theorem JW {rs:List (Nat × Nat)} (hn:(rs.map (·.1)).Nodup) {k v:Nat}:dm rs k=some v ↔ (k,v) ∈ rs:=by
 refine⟨λ h=>?_,λ h=>xy hn h⟩
 unfold dm at h
 obtain⟨r,hr,e⟩:=Option.map_eq_some_iff.mp h
 have h1:=List.find?_some hr
 have h2:=List.mem_of_find?_eq_some hr
 have h1:r.1=k:=of_decide_eq_true h1
 rw [← h1,← e];exact h2
theorem NH {l:List Nat} (h:l.Pairwise (· ≤ ·)) (hn:l.Nodup):l.Pairwise (· < ·):=by
 induction l with
 | nil=>exact List.Pairwise.nil
 | cons a r ih =>
  obtain⟨ha,hr⟩:=List.pairwise_cons.mp h
  obtain⟨na,nr⟩:=List.nodup_cons.mp hn
  refine List.pairwise_cons.mpr ⟨λ b hb=>?_,ih hr nr⟩
  have:=ha b hb
  have:a ≠ b:=λ e=>na (by rw [e];exact hb)
  omega
theorem Ce:∀ {l m:List (Nat × Nat)},(l.map (·.1)).Pairwise (· < ·)->(m.map (·.1)).Pairwise (· < ·)->(∀ a,a ∈ l ↔ a ∈ m)->l=m
 | [],[],_,_,_=>rfl
 | [],b :: m,_,_,h=>by have:=(h b).mpr (by simp);simp at this
 | a :: l,[],_,_,h=>by have:=(h a).mp (by simp);simp at this
 | a :: l,b :: m,hl,hm,h=>by
  rw [List.map_cons] at hl hm
  obtain⟨la,ll⟩:=List.pairwise_cons.mp hl
  obtain⟨mb,mm⟩:=List.pairwise_cons.mp hm
  have e:a=b:=by
   rcases List.mem_cons.mp ((h a).mp (by simp)) with e | e
   ·exact e
   ·rcases List.mem_cons.mp ((h b).mpr (by simp)) with e' | e'
    ·exact e'.symm
    ·have:=la b.1 (List.mem_map_of_mem (f:=(·.1)) e');have:=mb a.1 (List.mem_map_of_mem (f:=(·.1)) e);omega
  subst e
  rw [Ce ll mm λ c=>?_]
  constructor
  ·intro hc
   rcases List.mem_cons.mp ((h c).mp (List.mem_cons_of_mem _ hc)) with e | e
   ·have:=la c.1 (List.mem_map_of_mem (f:=(·.1)) hc);rw [e] at this;omega
   ·exact e
  ·intro hc
   rcases List.mem_cons.mp ((h c).mpr (List.mem_cons_of_mem _ hc)) with e | e
   ·have:=mb c.1 (List.mem_map_of_mem (f:=(·.1)) hc);rw [e] at this;omega
   ·exact e
def isM (all rows:List (Nat × Nat)):Prop:=(rows.map (·.1)).Pairwise (· < ·) /\ ∀ k v,(k,v) ∈ rows ↔ dQ all k=some v
theorem isM.eq {all a b:List (Nat × Nat)} (h1:isM all a) (h2:isM all b):a=b:=Ce h1.1 h2.1 λ r=>by rw [show r =(r.1,r.2) from rfl,h1.2,h2.2]
theorem G7 {rs rows:List (Nat × Nat)} (hp:rows.Perm rs) (hn:(rs.map (·.1)).Nodup):(rows.map (·.1)).Nodup:=(hp.map (·.1)).nodup_iff.mpr hn
theorem IF {all rs rows:List (Nat × Nat)} (hn:(rs.map (·.1)).Nodup) (hg:∀ k,dm rs k=dQ all k) (hp:rows.Perm rs) (hs:(rows.map (·.1)).Pairwise (· ≤ ·)):isM all rows :=
 ⟨NH hs (G7 hp hn),λ k v=>by rw [hp.mem_iff,← JW hn,hg]⟩
theorem Bg.isM {rows1 rows2 rows:List (Nat × Nat)} (h:Bg rows1 rows2 rows):isM (rows1 ++ rows2) rows :=
 IF (ck _ (ck rows1 (rs:=[]) (by simp))) (KL rows1 rows2) h.1 h.2
theorem JV {rows:List (Nat × Nat)} {k v:Nat} (h:dQ rows k=some v):(k,v) ∈ rows:=by
 induction rows with
 | nil=>cases h
 | cons r rows ih =>
  rw [qt] at h
  cases e:dQ rows k with
  | some x=>rw [e] at h;cases h;exact List.mem_cons_of_mem _ (ih e)
  | none =>
   rw [e] at h
   by_cases hk:r.1=k
   ·rw [if_pos hk] at h
    have h:some r.2=some v:=h
    cases h
    rw [← hk];simp
   ·rw [if_neg hk] at h;cases h
theorem iV:∀(more rs:List (Nat × Nat)) (k:Nat),k ∈(aV rs more).map (·.1)->k ∈ rs.map (·.1) ∨ k ∈ more.map (·.1)
 | [],rs,k,h=>.inl h
 | r :: more,rs,k,h=>by
  rcases iV more (iB rs r.1 r.2) k h with h | h
  ·rw [Ao] at h
   split at h
   ·exact .inl h
   ·rcases List.mem_append.mp h with h | h
    ·exact .inl h
    ·exact .inr (by have : k=r.1 := by simpa using h
                    rw [this];simp)
  ·exact .inr (by rw [List.map_cons];exact List.mem_cons_of_mem _ h)
theorem A9 {X:Cx}:gG X (.builtin "isinstance") (λ xs H Q=>∃ a L,xs = [.ref a,.ty "tuple"] /\ FT H a L /\ Q (.bl true) H):=by
 rintro pins s σ H xs us Q I r ⟨a,L,rfl,⟨ob,⟨its,n,sl,rfl⟩,e⟩,q⟩
 obtain⟨u,v,rfl,ru,rv⟩:=vals2 r
 cases (show u=Value.ref a from ru)
 cases (show v=Value.type "tuple" from rv)
 obtain⟨h1,_⟩:=(show bF X.prog X.w H s.heap a (.frz _ (.tup L)) from I.hok a _ e)
 exact PySem.W.kia_one PySem.W.kitx_tuple I.kIn ⟨_,h1,rfl⟩ (show PySem.W.kitOne X.K (.type "tuple") (.type "tuple")=some true from rfl) (λ z=>nomatch z) λ tk=>⟨.bl true,H,I.tok _,rfl,q⟩
open PySem PySem.Spec PyProof.Rows
section
variable {X:Cx} {pins:List (Addr × Obj)} {σ:List (Option V)} {H:Hp} {s:Shared} {d:Addr} {u u':HO}
theorem Inv.swap (I:Inv X pins σ H s) (e:H d=some u) (nt:∀ xs,u ≠ .tup xs) (no:∀ y,u ≠ .own y) (nb:∀ ps,u ≠ .tbl ps) (nf:∀ o v,u = .frz o v->X.H₀ d ≠ some (.frz o v)) (new:bF X.prog X.w (upd H d u') s.heap d u'):Inv X pins σ (upd H d u') s:=by
 have hn:∀ b,H b=none->upd H d u' b=none:=λ b h=>by rw [aq (λ z=>by subst z;rw [h] at e;cases e)];exact h
 have hs:∀ b v,H b=some v->v ≠ u->upd H d u' b=some v:=λ b v h n=>by rw [aq (λ z=>by subst z;rw [h] at e;cases e;exact n rfl)];exact h
 refine⟨I.ok,I.os,I.bare,⟨I.base.keep,I.base.slot,λ b o q n hx=>hn b (I.base.free b o q n hx),I.base.there,λ b xs q=>hs b _ (I.base.tups b xs q) (λ z=>nt xs z.symm),λ b o v q=>?_,λ b ps q=>?_⟩,I.loc,I.cell,hn _ I.free,λ x c q=>hn _ (I.iN x c q),λ p hp=>?_,λ a o q=>?_,I.len⟩
 ·have h1:=I.base.mw b o v q
  by_cases hb:b=d
  ·subst hb
   rw [e] at h1
   exact absurd q (nf o v (Option.some.inj h1))
  ·rw [aq hb];exact h1
 ·obtain⟨more,h1⟩:=I.base.pC b ps q
  exact⟨more,hs b _ h1 (λ z=>nb _ z.symm)⟩
 ·obtain⟨a1,a2,a3⟩:=I.pin p hp
  exact⟨a1,hn _ a2,a3⟩
 ·by_cases hb:a=d
  ·subst hb;rw [ah] at q;cases q;exact new
  ·rw [aq hb] at q
   exact(I.hok a o q).stay (λ _ _ _ r=>r) (λ b r=>hs b _ r (λ z=>no a z.symm)) λ b xs r=>hs b _ r (λ z=>nt xs z.symm)
def NF (H₀:Hp) (d:Addr):Prop:=∀ o v,H₀ d ≠ some (.frz o v)
theorem Inv.freeze {kvs:List (Key × V)} (I:Inv X pins σ H s) (e:H d=some (.dK kvs)):NF X.H₀ d /\ ∃ o,s.heap.get? d=some o /\ Inv X pins σ (upd H d (.frz o (.dK kvs))) s:=by
 have nf:NF X.H₀ d:=λ o v q=>by have:=I.base.mw d o v q;rw [e] at this;cases this
 have ok:=I.hok d _ e
 obtain⟨z,y,vs,r,ob,es,ep,e2,c⟩:=(show bF X.prog X.w H s.heap d (.dK kvs) from ok)
 exact⟨nf,ob,e2,I.swap e (λ _=>nofun) (λ _=>nofun) (λ _=>nofun) (λ _ _=>nofun) ⟨e2,z,y,vs,r,ob,es,ep,e2,c⟩⟩
theorem Inv.NL {kvs:List (Key × V)} {o:Obj} (I:Inv X pins σ H s) (e:H d=some (.frz o (.dK kvs))) (nf:NF X.H₀ d):Inv X pins σ (upd H d (.dK kvs)) s:=by
 obtain⟨e2,z,y,vs,r,ob,es,ep,e3,c⟩:=(show bF X.prog X.w H s.heap d (.frz o (.dK kvs)) from I.hok d _ e)
 exact I.swap e (λ _=>nofun) (λ _=>nofun) (λ _=>nofun) (λ o v _=>nf o v) ⟨z,y,vs,r,ob,es,ep,e3,c⟩
end
def Itd (d:Addr) (o:Obj) (kvs:List (Key × V)):It :=
 ⟨λ i H=>i < kvs.length /\ H d=some (.frz o (.dK kvs)),λ i H x H'=>H'=H /\ ∃ k v,kvs[i]? = some (k,v) /\ x=kV k,λ i H=>kvs.length ≤ i /\ H d=some (.frz o (.dK kvs))⟩
def OC (H₀:Hp) (td:TE):TI:=λ σ H R=>td σ H λ x H1=>∃ d kvs,x = .ref d /\ H1 d=some (.dK kvs) /\ ∀ o,NF H₀ d->R (Itd d o kvs) (upd H1 d (.frz o (.dK kvs)))
theorem KV.get {kvs:List (Key × V)} {vs:List (Key × Value)} (r:KV kvs vs):∀ {i:Nat} {k:Key} {v:V},kvs[i]? = some (k,v)->∃ u,vs[i]? = some (k,u):=by
 induction r with
 | nil=>intro i k v h;simp at h
 | cons a b ih =>
  intro i k v h
  cases i with
  | zero=>simp at h;subst h;exact⟨_,by simp;exact Prod.ext a.1.symm rfl⟩
  | succ i=>obtain⟨u,hu⟩:=ih (by simpa using h);exact⟨u,by simpa using hu⟩
theorem O3 {k:Key} {u:Value} (h:jO k u=true):RelV (kV k) u:=by
 rcases cy h with⟨i,t,e5,e4⟩ |⟨y,t,e5,e4⟩
 ·first |(subst e5;subst e4;exact⟨t,rfl⟩) |(subst e4;subst e5;exact⟨t,rfl⟩)
 ·first |(subst e5;subst e4;exact⟨t,rfl⟩) |(subst e4;subst e5;exact⟨t,rfl⟩)
theorem DW {P:Program} {w:World} {H:Hp} {h:Heap} {d:Addr} {o:Obj} {kvs:List (Key × V)} {es:Array DictEntry} {ep:Nat} (ok:bF P w H h d (.frz o (.dK kvs))) (hdat:o.data = .dict es ep):∃ vs,KV kvs vs /\ h.DictAt (bD P w) d vs ep:=by
 obtain⟨e2,z,y,vs,r,ob,es2,ep2,e3,c,hd,q⟩:=ok
 rw [e2] at e3;cases e3
 rw [hdat] at hd;cases hd
 exact⟨vs,r,_,_,e2,c,hdat,q⟩
theorem AN {P:Program} {w:World} {K:PySem.W.Frag} {tg:Expr} {d it:Addr} {o:Obj} {kvs:List (Key × V)} {es:Array DictEntry} {ep:Nat} (hdat:o.data = .dict es ep) :
  Turn P w K tg (Itd d o kvs) [it] it (λ i h=>h.IsKeyIter it d i kvs.length ep) where
 mem:=by simp
 obj:=λ i h st b hb=>by
  have e:b=it:=by simpa using hb
  subst e
  obtain⟨o,e,c,d⟩:=st
  exact⟨o,e,λ v z=>by rw [d] at z;cases z⟩
 keep:=λ i h h' st k=>by
  obtain⟨o,e,r⟩:=st
  exact⟨o,k it (by simp) o e,r⟩
 item:=by
  intro X hP hw hK hc i pins s σ H E I hf st hg
  subst hP hw hK
  obtain⟨hlt,hfz⟩:=hg
  obtain⟨vs,rv,hat⟩:=DW (I.hok d _ hfz) hdat
  obtain⟨k,v,hkv⟩:∃ k v,kvs[i]? = some (k,v):=⟨_,_,List.getElem?_eq_getElem hlt⟩
  obtain⟨u,hu⟩:=rv.get hkv
  obtain⟨f0,f1,f2,f3,f4,f5⟩:=hf it (by simp)
  have hlen:=KV.len' rv
  refine wpAny_pyNext_dict_item (knd:=bD X.prog X.w) (by rw [hlen];exact st) hat hu λ key h' hk st' sb=>?_
  rw [hlen] at st'
  have I1:Inv X pins σ H { s with heap:=h' }:=I.turned (t':=s.toks) (λ b o hb e=>(sb.2 b hb).trans e) f0 f1 f3 f4 f5
  obtain⟨o2,e,c,d2⟩:=id st'
  exact⟨key,rfl,Be (s:={ s with heap:=h' }) e c d2 (by decide) ⟨kV k,H,I1,O3 hk,⟨rfl,k,v,hkv,rfl⟩,st',λ b hb=>(hf b hb).1⟩⟩
 done:=by
  intro X hP hw hK hc i pins s σ H E I hf st hg
  subst hP hw hK
  obtain⟨hle,hfz⟩:=hg
  obtain⟨vs,rv,hat⟩:=DW (I.hok d _ hfz) hdat
  obtain⟨f0,f1,f2,f3,f4,f5⟩:=hf it (by simp)
  have hlen:=KV.len' rv
  exact wpAny_pyNext_dict_end (knd:=bD X.prog X.w) (I.ok.hd hc) (by rw [hlen];exact st) hat (List.getElem?_eq_none (by omega)) λ h' eb=>⟨rfl,I.turned (t':=s.toks) (λ b o hb e=>eb b o hb e) f0 f1 f3 f4 f5⟩
 self:=λ _ _ _ _ _ st h=>wpAny_pyIter_keyiter st h
section
variable {X:Cx} {tg:Expr}
theorem zV {l:Expr} {tl:TE} (hl:PE X l tl):PI X tg l (OC X.H₀ tl):=by
 intro pins s σ H R I h
 refine thn (hl pins s σ H _ I h) λ v s1 ⟨x,H1,I1,r1,q1⟩=>?_
 obtain⟨d,kvs,e,hd,q⟩:=q1
 subst e
 cases (show v=Value.ref d from r1)
 obtain⟨nf,o,ho,I2⟩:=I1.freeze hd
 obtain⟨z,y,vs,r,ob,es,ep,e2,c,hdat,rest⟩:=(show bF X.prog X.w H1 s1.heap d (.dK kvs) from I1.hok d _ hd)
 rw [ho] at e2;cases e2
 have hlen:=KV.len' r
 refine wpAny_pyIter_dict (knd:=bD X.prog X.w) (kvs:=vs) (ep:=ep) y ⟨o,es,ho,c,hdat,rest⟩ ?_
 refine⟨s1.heap.objs.size,[s1.heap.objs.size],_,_,_,rfl,I2.kept (t':=s1.toks) λ b o e=>Heap.get?_push_of_some _ e,AN hdat,⟨_,Heap.get?_push_size _ rfl,rfl,by rw [hlen];rfl⟩,λ b hb=>?_,q o nf⟩
 have e:b=s1.heap.objs.size:=by simpa using hb
 subst e
 exact I2.rP (Nat.le_refl _) (I2.hok.fresh (Nat.le_refl _))
def Ol (H₀:Hp) (t:TS):TS:=λ D σ H=>t { D with nx:=λ σ' H'=>∃ d o kvs,H' d=some (.frz o (.dK kvs)) /\ NF H₀ d /\ D.nx σ' (upd H' d (.dK kvs)),rt:=λ v H'=>∃ d o kvs,H' d=some (.frz o (.dK kvs)) /\ NF H₀ d /\ D.rt v (upd H' d (.dK kvs)) } σ H
theorem zF {st:Stmt} {t:TS} (h:PS X st t):PS X st (Ol X.H₀ t):=by
 intro pins s σ H D I q
 refine thn (h pins s σ H _ I q) λ f s' hq=>?_
 cases f with
 | next=>obtain⟨σ',H',I',d,o,kvs,e,nf,q'⟩:=hq;exact⟨σ',_,I'.NL e nf,q'⟩
 | brk=>exact hq
 | cont=>exact hq
 | ret u=>obtain⟨v,σ',H',I',r,d,o,kvs,e,nf,q'⟩:=hq;exact⟨v,σ',_,I'.NL e nf,r,q'⟩
end
theorem wX {d:Addr} {o:Obj} {kvs:List (Key × V)} {g:TG} {tb:TS} {D:Ends} {σ:St} {H:Hp} (Pv:Nat->St->Hp->Prop) (h0:Pv 0 σ H) (hl:∀ i σ H,i ≤ kvs.length->Pv i σ H->H d=some (.frz o (.dK kvs)))
  (hs:∀ i k v σ H,kvs[i]? = some (k,v)->Pv i σ H->g (kV k) σ H λ σ2 H2=>tb { D with nx:=Pv (i + 1),ct:=Pv (i + 1),bk:=D.nx } σ2 H2) (hd:∀ σ H,Pv kvs.length σ H->D.nx σ H) :
  ∃ W:Nat->Nat->St->Hp->Prop,(∃ m,W 0 m σ H) /\ ∀ i m σ H,W i m σ H →
   ((Itd d o kvs).stop i H /\ D.nx σ H) ∨((Itd d o kvs).go i H /\ ∃ N:St->Hp->Prop,(∀ σ' H',N σ' H'->∃ m',m' < m /\ W (i + 1) m' σ' H') /\ ∀ x H',(Itd d o kvs).yld i H x H'->g x σ H' λ σ2 H2=>tb { D with nx:=N,ct:=N,bk:=D.nx } σ2 H2):=by
 refine⟨λ i m σ H=>m=kvs.length - i /\ i ≤ kvs.length /\ Pv i σ H,⟨kvs.length,by simp,Nat.zero_le _,h0⟩,?_⟩
 rintro i m σ H ⟨rfl,hi,p⟩
 have q:=hl i σ H hi p
 by_cases hlt:i < kvs.length
 ·refine .inr ⟨⟨hlt,q⟩,Pv (i + 1),λ σ' H' p'=>⟨kvs.length -(i + 1),by omega,rfl,hlt,p'⟩,λ x H' y=>?_⟩
  obtain⟨e,k,v,hkv,rfl⟩:=y
  subst e
  exact hs i k v σ _ hkv p
 ·have e:i=kvs.length:=by omega
  subst e
  exact .inl ⟨⟨Nat.le_refl _,q⟩,hd σ H p⟩
theorem yp {X:Cx}:gG X (.type "dict") (λ xs H Q=>∃(a:Addr) (kvs:List (Key × V)),xs = [.ref a] /\ H a=some (.dK kvs) /\ ∀ d,H d=none->Q (.ref d) (upd H d (.dK kvs))):=by
 rintro pins s σ H xs us Q I r ⟨a,kvs,rfl,hL,q⟩
 obtain⟨u,rfl,ru⟩:=vals1 r
 cases (show u=Value.ref a from ru)
 exact Ko I (.inl hL) λ p s' hp I'=>⟨.ref p,_,I',rfl,q p hp⟩
open PySem PySem.Spec PyProof.Rows
section
variable {X:Cx} {pins:List (Addr × Obj)} {σ:St} {H:Hp} {s:Shared} {a:Addr} {kvs:List (Key × V)} {k:Key} {u r:Value} {z:V} {A:Around} {E:Value->Shared->Prop}
theorem JL {Q:Value->Shared->Prop} (I:Inv X pins σ H s) (e:H a=some (.dK kvs)) (ry:RelV (kV k) u) (rz:RelV z r) (hl:kvs.length < sizeLine)
  (h1:∀ v w' s',aZ kvs k=some v->Inv X pins σ H s'->RelV v w'->Q w' s') (h2:aZ kvs k=none->∀ s',Inv X pins σ (upd H a (.dK (putK kvs k z))) s'->Q r s') :
  wpAny (model X.prog X.w) A (call (.builtin "dict.setdefault") [.ref a,u,r]) Q E s:=by
 obtain⟨z0,hd,vs,rel,dd⟩:=mS I.hok e
 have hz:vs.length ≤ sizeLine:=by rw [← rel.length];exact z0
 have hl2:(putK kvs k z).length ≤ sizeLine:=by have:=cV kvs k z;omega
 refine call_meetsIn PySem.F.slot_dict_setdefault dd.typeIs PySem.F.entry_dict_setdefault (PySem.F.args_dict_setdefault_3 _ _ _) (PySem.kt_meets_setdefault (bD X.prog X.w) a (mU ry) hd r) ⟨vs,dd,hz,λ v hv=>?_,λ hv h' dd' hs=>?_⟩
 ·have:=rel.val k
  rw [hv] at this
  cases hvv:aZ kvs k with
  | none=>rw [hvv] at this;exact this.elim
  | some v'=>rw [hvv] at this;exact h1 v' v _ hvv (I.tok _) this
 ·have hn:aZ kvs k=none:=by
   have:=rel.val k
   rw [hv] at this
   cases hvv:aZ kvs k with
   | none=>rfl
   | some v'=>rw [hvv] at this;exact this.elim
  have he:∃ q,h'.get? a=some q:=let ⟨q,_,_,hq,_⟩:=dd';⟨q,hq⟩
  exact h2 hn _ (oH I (by rw [e];exact True.intro) hs he (lM hl2 hd (rel.put k rz) dd'))
end
def Hs (td ty tx:TE):TE:=λ σ H Q=>td σ H λ x H1=>∃ a,x = .ref a /\ IsD H1 a /\ ty σ H1 λ y H2=>tx σ H2 λ z H3=>∃ kvs k,H3 a=some (.dK kvs) /\ y=kV k /\ kvs.length < sizeLine ∧
 (∀ v,aZ kvs k=some v->Q v H3) /\(aZ kvs k=none->Q z (upd H3 a (.dK (putK kvs k z))))
theorem Cz {X:Cx} {o e f:Expr} {apos cpos:Pos} {td ty tx:TE} (ho:PE X o td) (he:PE X e ty) (hf:PE X f tx) (m:M2 X o "setdefault" apos e f cpos):PE X (.Call (.Attribute o "setdefault" apos) [e,f] [] cpos) (Hs td ty tx):=by
 intro pins s σ H Q I h
 refine wpAny_Call_method m.base m.few m.line PySem.F.plainAttrs_dict PySem.F.slot_dict_setdefault PySem.F.type_dict_setdefault (thn (ho pins s σ H _ I h) λ u s1 ⟨x,H1,I1,rx,a,ex,d,q1⟩=>?_)
 subst ex
 obtain rfl:u=Value.ref a:=rx
 obtain⟨t1,t2,_⟩:=yh I1 d
 refine⟨t1,t2,?_⟩
 rw [m.trees]
 refine Calls.callWith_builtin rfl (Calls.evalArgs_plain (Calls.spliced_cons (thn (he pins s1 σ H1 _ I1 q1) λ iv s2 ⟨y,H2,I2,ry,q2⟩ =>
  Calls.spliced_cons (thn (hf pins s2 σ H2 _ I2 q2) λ fv s3 ⟨z,H3,I3,rz,kvs,k,ea,ey,hl,q3,q4⟩=>Calls.spliced_nil ?_))))
 subst ey
 exact JL I3 ea ry rz hl (λ v w' s' hv I' rv=>⟨v,H3,I',rv,q3 v hv⟩) λ hv s' I'=>⟨z,_,I',rz,q4 hv⟩
open PySem
structure Leg where
 num:Int
 start:Int
 to:Int
 bad:Int
 cost:Int
def ahead (legs:List Leg) (P:Int->Option (List Int)):Nat:=(legs.filter λ g=>(P g.start).isNone).length
open PySem
theorem kK {kvs:List (Key × V)} {k:Key}:(aZ kvs k).isSome=true ↔ k ∈ kvs.map (·.1):=by
 unfold aZ
 rw [Option.isSome_map,List.find?_isSome,List.mem_map]
 constructor
 ·rintro⟨x,hx,e⟩;exact⟨x,hx,by simpa using e⟩
 ·rintro⟨x,hx,e⟩;exact⟨x,hx,by simpa using e⟩
theorem DO:∀ {kvs:List (Key × V)} {k:Key} {v:V},(kvs.map (·.1)).Nodup->(k,v) ∈ kvs->aZ kvs k=some v
 | [],_,_,_,h=>by cases h
 |(k',v') :: r,k,v,hn,h=>by
  rw [List.map_cons,List.nodup_cons] at hn
  unfold aZ
  rw [List.find?_cons]
  rcases List.mem_cons.mp h with e | h
  ·cases e;simp
  ·have hne:k' ≠ k:=λ e=>hn.1 (by rw [e];exact List.mem_map.mpr ⟨_,h,rfl⟩)
   simp only [hne,decide_false]
   exact DO hn.2 h
theorem HE {kvs:List (Key × V)} {k:Key} (v:V) (hn:(kvs.map (·.1)).Nodup):((putK kvs k v).map (·.1)).Nodup:=by
 cases h:aZ kvs k with
 | none=>exact L7 v hn h
 | some y =>
  unfold putK
  rw [iP,h]
  simp only [Option.isSome_some,if_true,List.map_map]
  rw [show((λ x:Key × V=>x.1) ∘ λ kv:Key × V=>if kv.1=k then(kv.1,v) else kv)=λ x=>x.1 from funext λ kv=>by simp only [Function.comp];split <;> rfl]
  exact hn
open PySem PySem.Spec PyProof.Rows
section
variable {prog:Program} {w:World} {A:Around} {E:Value->Shared->Prop} {s:Shared}
theorem KP {r:Addr} {Q:Bool->Shared->Prop} (hT:s.TypeIs (.ref r) "list_reverseiterator") (h:Q false s):wpAny (model prog w) A (Builtin.List.listLengthHint (.ref r)) Q E s:=by
 unfold Builtin.List.listLengthHint
 refine wpAny_bind (wpAny_specialOf hT (r:=none) (by kernel_rfl) ?_)
 dsimp only
 refine wpAny_ite_split (λ hab=>absurd hab (by decide)) (λ _=>?_)
 refine wpAny_ite_split (λ hab=>absurd hab (by decide)) (λ _=>?_)
 refine wpAny_bind (wpAny_specialOf hT (r:=some (.builtin "list_reverseiterator.__length_hint__")) (by kernel_rfl) ?_)
 dsimp only
 generalize hid:("list_reverseiterator.__length_hint__":String)=id0
 rw [show splitId id0=some ("list_reverseiterator","__length_hint__") from by subst hid;decide +kernel]
 subst hid
 dsimp only
 refine wpAny_bind (wpAny_isInstance (T:="list_reverseiterator") (b:=true) hT (by rw [isSubtype_type];kernel_rfl) ?_)
 refine wpAny_ite_split (λ hab=>absurd hab (by decide)) (λ _=>?_)
 refine wpAny_ite_split (λ _=>?_) (λ hab=>absurd (by decide +kernel) hab)
 refine wpAny_ite_split (λ hab=>absurd hab (by decide +kernel)) (λ _=>?_)
 exact wpAny_pure h
theorem AW {l I:Addr} {items:Array Value} {Q:Value->Shared->Prop} (hh:A.handled=none) (hit:s.heap.IsRevIter I l ((items.size:Int) - 1)) (hl:s.heap.IsList l items) (hne:l ≠ I) (hsz:items.size ≤ sizeLine)
  (h:∀(h':Heap) (tk:Nat) (acc:Array Value) (c':Nat),s.toks ≤ tk->(∀ b o,b ≠ I->s.heap.get? b=some o->h'.get? b=some o)->h'.get? s.heap.objs.size=some { cls:=.type "list",dict:=none,data:=.seq acc c',slots:=#[] }->ItemsOf (λ i v=>items[items.size - 1 - i]? = some v) acc items.size->Q (.ref s.heap.objs.size) { s with heap:=h',toks:=tk }) :
  wpAny (model prog w) A (call (.type "list") [.ref I]) Q E s:=by
 refine callType_codes PySem.F.called_list (PySem.F.typeCall_list_1 _) PySem.F.entry_list_init (code_list_new (.ref I) (Q₁:=λ obj s₁=>obj = .ref s.heap.objs.size /\ s₁ = { s with heap:=s.heap.push { cls:=.type "list",dict:=none,data:=.seq #[] 0,slots:=#[] } }) ⟨rfl,rfl⟩) λ obj s₁ hq=>?_
 obtain⟨h1,h2⟩:=hq
 subst h1 h2
 have hS:(s.heap.push { cls:=.type "list",dict:=none,data:=.seq #[] 0,slots:=#[] }).get? s.heap.objs.size=some { cls:=.type "list",dict:=none,data:=.seq #[] 0,slots:=#[] }:=Heap.get?_push_size _ rfl
 refine⟨⟨_,hS,rfl⟩,PySem.F.args_list_init_2 _ _,?_⟩
 have hitp:(s.heap.push { cls:=.type "list",dict:=none,data:=.seq #[] 0,slots:=#[] }).IsRevIter I l ((items.size:Int) - 1):=hit.at λ o e=>Heap.get?_push_of_some _ e
 have hlp:=hl.push { cls:=.type "list",dict:=none,data:=.seq #[] 0,slots:=#[] }
 have hIlt:I < s.heap.objs.size:=by obtain⟨o,ho,_⟩:=hit;exact Heap.lt_size ho
 have hllt:l < s.heap.objs.size:=by obtain⟨o,ho,_⟩:=hl;exact Heap.lt_size ho
 unfold Builtin.«list.__init__»
 generalize hX:Builtin.List.listExtendWith=X
 wp_walk
 subst hX
 have hS2:((s.heap.push { cls:=.type "list",dict:=none,data:=.seq #[] 0,slots:=#[] }).update s.heap.objs.size (Obj.mapSeq λ x=>#[])).get? s.heap.objs.size=some { cls:=.type "list",dict:=none,data:=.seq #[] 0,slots:=#[] }:=Heap.get?_update_self _ hS rfl
 have kp:∀ b o,b ≠ s.heap.objs.size->s.heap.get? b=some o->((s.heap.push { cls:=.type "list",dict:=none,data:=.seq #[] 0,slots:=#[] }).update s.heap.objs.size (Obj.mapSeq λ x=>#[])).get? b=some o:=λ b o hb e=>Heap.get?_update_of_ne _ (Ne.symm hb) (Heap.get?_push_of_some _ e)
 generalize (s.heap.push { cls:=.type "list",dict:=none,data:=.seq #[] 0,slots:=#[] }).update s.heap.objs.size (Obj.mapSeq λ x=>#[])=h2 at hS2 kp ⊢
 have hit2:h2.IsRevIter I l ((items.size:Int) - 1):=hit.at λ o e=>kp I o (Nat.ne_of_lt hIlt) e
 have hl2:h2.IsList l items:=by
  obtain⟨o,ho,r⟩:=hl
  exact⟨o,kp l o (Nat.ne_of_lt hllt) ho,r⟩
 unfold Builtin.List.listExtendWith
 refine wpAny_bind (wpAny_typeOf (Heap.IsRevIter.typeIs (s:={ s with heap:=h2 }) hit2) ?_)
 have hsr:Builtin.List.listSameRef (Value.ref s.heap.objs.size) (Value.ref I)=false:=by
  unfold Builtin.List.listSameRef
  simp
  exact Nat.ne_of_gt hIlt
 refine wpAny_ite_split (λ hab=>absurd hab (by rw [hsr];decide)) (λ _=>?_)
 refine wpAny_bind (wpAny_pyIter_revIter hit2 ?_)
 refine wpAny_bind (wpAny_holding (KP (Heap.IsRevIter.typeIs (s:={ s with heap:=h2 }) hit2) ?_))
 dsimp only
 refine wpAny_ite_split (λ hab=>absurd hab (by decide +kernel)) (λ _=>?_)
 have hh3:A.in1.in1.handled=none:=by simp [hh]
 refine wpAny_pure ⟨Code.quiet_builtin _ (by decide +kernel),codeAny_extend_loopS ((Walks.listRev hh3 I l hne items).toS) hsz s.heap.objs.size ?_ .none items.size 0 _ #[] 0 (by omega) (Nat.zero_le _) ⟨Nat.zero_le _,by simpa using hit2,hl2⟩ hS2 ⟨rfl,λ j v e=>by simp at e⟩ λ s' acc' c' hm hS' hi=>?_⟩
 ·simp only [List.mem_cons,List.not_mem_nil,or_false,not_or]
  exact⟨Nat.ne_of_gt hIlt,Nat.ne_of_gt hllt⟩
 ·obtain⟨h',g',d',tk',os'⟩:=s'
  have e1:=hm.gens
  have e2:=hm.drawn
  have e3:=hm.os
  have e4:=hm.toks
  simp only at e1 e2 e3 e4
  subst e1 e2 e3
  refine⟨rfl,h h' tk' acc' c' e4 (λ b o hb e=>?_) hS' hi⟩
  have hbS:b ≠ s.heap.objs.size:=Nat.ne_of_lt (Heap.lt_size e)
  exact hm.heap b o (by simp [hb,hbS]) (kp b o hbS e)
end
section
variable {X:Cx}
def Oc (K:PySem.W.Frag) (te:TE):TE:=λ σ H Q=>te σ H λ v H1=>∃(l:Addr) (xs:List V),v = .ref l /\ SqL K H1 l xs /\ ∀ r,H1 r=none->Q (.ref r) (upd H1 r (.lst xs.reverse))
theorem Kp:∀ {xs:List V} {us:List Value} {ys:List Value},Vals xs us->ys.length=us.length->(∀(j:Nat) v,ys[j]? = some v->us[us.length - 1 - j]? = some v)->Vals xs.reverse ys:=by
 intro xs us ys r hl h
 have e:ys=us.reverse:=by
  refine List.ext_getElem? λ j=>?_
  by_cases hj:j < ys.length
  ·rw [List.getElem?_eq_getElem hj,List.getElem?_reverse (by omega)]
   exact(h j _ (List.getElem?_eq_getElem hj)).symm
  ·rw [List.getElem?_eq_none (by omega),List.getElem?_eq_none (by simp;omega)]
 subst e
 exact r.reverse
theorem Gw {e:Expr} {te:TE} {p1 p2 pos1 pos2:Pos} (hc:X.calm=true) (hg1:Gl X "list") (hm1:X.mg "list" = none) (hg2:Gl X "reversed") (hm2:X.mg "reversed" = none) (he:PE X e te)
  (hs1:starEach [Expr.Call (.Name "reversed" p2) [e] [] pos2] X.env = [(false,eval (Expr.Call (.Name "reversed" p2) [e] [] pos2) X.env)]:=by rfl) (hs2:starEach [e] X.env = [(false,eval e X.env)]:=by rfl) :
  PE X (.Call (.Name "list" p1) [.Call (.Name "reversed" p2) [e] [] pos2] [] pos1) (Oc X.K te):=by
 intro pins s σ H Q I h
 refine wpAny_Call_Name_kw (iE I hg1 hm1 boot_list ?_)
 refine PyProof.Rows.callWith_type1 ?_ hs1 rfl
 rw [hs1]
 show wpAny _ _ (spliced ((false,eval (Expr.Call (.Name "reversed" p2) [e] [] pos2) X.env) :: backTo pos1 [])) _ _ s
 refine Calls.spliced_cons ?_
 refine wpAny_Call_Name_kw (iE I hg2 hm2 boot_reversed ?_)
 refine PyProof.Rows.callWith_type1 ?_ hs2 rfl
 rw [hs2]
 show wpAny _ _ (spliced ((false,eval e X.env) :: backTo pos2 [])) _ _ s
 refine Calls.spliced_cons (thn (he pins s σ H _ I h) λ u s1 ⟨x,H1,I1,r1,q1⟩=>?_)
 obtain⟨l,xs,rfl,hl,q⟩:=q1
 cases r1
 refine Calls.spliced_nil ?_
 obtain⟨its,rv,pl,hz⟩:=I1.list hl
 have hlen:=rv.length
 have hlt:l < s1.heap.objs.size:=by obtain⟨o,ho,_⟩:=pl.isList;exact Heap.lt_size ho
 refine call_reversed_list pl.isList ?_
 refine Calls.spliced_nil ?_
 refine AW (s:={ s1 with heap:=s1.heap.push (revObj l ((its.toArray.size:Int) - 1)) }) (items:=its.toArray) (I1.ok.hd hc) ⟨_,Heap.get?_push_size _ rfl,rfl,rfl⟩ (pl.isList.push _) (Nat.ne_of_lt hlt) (by rw [List.size_toArray];omega) λ h' tk acc c' htk keep hS hi=>?_
 have hsz:(s1.heap.push (revObj l ((its.toArray.size:Int) - 1))).objs.size=s1.heap.objs.size + 1:=Heap.size_push ..
 simp only [hsz] at hS ⊢
 refine⟨.ref (s1.heap.objs.size + 1),_,I1.laid (t':=tk) (o:=.lst xs.reverse) (λ b ob z=>keep b ob (Nat.ne_of_lt (Heap.lt_size z)) (Heap.get?_push_of_some _ z)) (Nat.le_succ _) ⟨by rw [List.length_reverse];exact hz,acc.toList,c',?_,by simpa using hS⟩,rfl,q _ (I1.hok.fresh (Nat.le_succ _))⟩
 refine Kp rv (by rw [Array.length_toList,hi.1,List.size_toArray]) λ j v ev=>?_
 have:=hi.2 j v (by rw [← Array.getElem?_toList];exact ev)
 simpa using this
end
open PySem PySem.Spec PyProof.Rows
def tfs (a b c:Addr):List (Str × V):=[("sizes",V.ref a),("weights",V.ref b),("rates",V.ref c)]
open PySem PySem.Spec PyProof.Rows
section
variable {nx:List PySem.Str->List PySem.Str} {bd:List PySem.Str->Int}
variable {n:Nat} (hn:∀ ws,nx ws = [] ↔ n ≤ ws.length)
include hn
end
theorem Bc {c:TT} {t u:TS} {D:Ends} {σ:St} {H:Hp} (hc:∀ Q:Bool->Hp->Prop,Q false H->c σ H Q) (h:u D σ H):yI c t u D σ H:=hc _ (dI h)
theorem HA {c:TT} {t u:TS} {D:Ends} {σ:St} {H:Hp} (hc:∀ Q:Bool->Hp->Prop,Q true H->c σ H Q) (h:t D σ H):yI c t u D σ H:=hc _ (jb h)
open PySem PySem.Spec PyProof.Rows
section
variable {prog:Program} {w:World} {A:Around} {E:Value->Shared->Prop} {s:Shared}
set_option maxHeartbeats 6400000 in
end
open PySem PySem.Spec PyProof.Rows
section
variable {X:Cx}
def dd (ns:List Int):List Int:=firstMet (λ i=>ns.getD i 0) ns.length
end
open PySem PySem.Spec PyProof.Rows
theorem Cf:∀ {l m:List Int},l.Pairwise (· < ·)->m.Pairwise (· < ·)->(∀ a,a ∈ l ↔ a ∈ m)->l=m
 | [],[],_,_,_=>rfl
 | [],b :: m,_,_,h=>absurd ((h b).mpr (by simp)) (by simp)
 | a :: l,[],_,_,h=>absurd ((h a).mp (by simp)) (by simp)
 | a :: l,b :: m,hl,hm,h=>by
  rw [List.pairwise_cons] at hl hm
  have e:a=b:=by
   rcases List.mem_cons.mp ((h a).mp (by simp)) with e | h1
   ·exact e
   ·rcases List.mem_cons.mp ((h b).mpr (by simp)) with e | h2
    ·exact e.symm
    ·have:=hm.1 a h1;have:=hl.1 b h2;omega
  subst e
  rw [Cf hl.2 hm.2 λ c=>⟨λ hc=>?_,λ hc=>?_⟩]
  ·rcases List.mem_cons.mp ((h c).mp (by simp [hc])) with e | h1
   ·subst e;have:=hl.1 c hc;omega
   ·exact h1
  ·rcases List.mem_cons.mp ((h c).mpr (by simp [hc])) with e | h1
   ·subst e;have:=hm.1 c hc;omega
   ·exact h1
open PySem PySem.Spec PyProof.Rows
theorem Il {d:Addr} {o:Obj} {kvs:List (Key × V)} (D:Addr) {g:TG} {tt:TT} {te:TE} {σ:St} {H:Hp} {R:Hp->Prop} (Pv:Nat->St->Hp->List V->Prop) (h0:Pv 0 σ H []) (hl:∀ i σ H ys,i ≤ kvs.length->Pv i σ H ys->H d=some (.frz o (.dK kvs)))
  (hs:∀ i k v σ H ys,kvs[i]? = some (k,v)->Pv i σ H ys->g (kV k) σ H λ σ3 H3=>tt σ3 H3 λ b H4=>if b=true then
   te σ3 H4 λ y H5=>H5 D=some (.lst ys) /\ ys.length < sizeLine /\ Pv (i + 1) σ3 (upd H5 D (.lst (ys ++ [y]))) (ys ++ [y]) else Pv (i + 1) σ3 H4 ys) (hd:∀ σ H ys,Pv kvs.length σ H ys->R H) :
  ∃ W:Nat->Nat->St->Hp->List V->Prop,(∃ m,W 0 m σ H []) /\ ∀ i m σ' H' ys,W i m σ' H' ys->((Itd d o kvs).stop i H' /\ R H') ∨
   ((Itd d o kvs).go i H' /\ ∃ N:St->Hp->List V->Prop,(∀ σ' H' ys',N σ' H' ys'->∃ m',m' < m /\ W (i + 1) m' σ' H' ys') /\ ∀ x H2,(Itd d o kvs).yld i H' x H2->g x σ' H2 λ σ3 H3=>tt σ3 H3 λ b H4=>if b=true then
    te σ3 H4 λ y H5=>H5 D=some (.lst ys) /\ ys.length < sizeLine /\ N σ3 (upd H5 D (.lst (ys ++ [y]))) (ys ++ [y])
    else N σ3 H4 ys):=by
 refine⟨λ i m σ H ys=>m=kvs.length - i /\ i ≤ kvs.length /\ Pv i σ H ys,⟨kvs.length,by simp,Nat.zero_le _,h0⟩,?_⟩
 rintro i m σ H ys ⟨rfl,hi,p⟩
 have q:=hl i σ H ys hi p
 by_cases hlt:i < kvs.length
 ·refine .inr ⟨⟨hlt,q⟩,Pv (i + 1),λ σ' H' ys' p'=>⟨kvs.length -(i + 1),by omega,rfl,hlt,p'⟩,λ x H' y=>?_⟩
  obtain⟨e,k,v,hkv,rfl⟩:=y
  subst e
  exact hs i k _ σ _ ys hkv p
 ·have e:i=kvs.length:=by omega
  subst e
  exact .inl ⟨⟨Nat.le_refl _,q⟩,hd σ H ys p⟩
open PySem PySem.Spec PyProof.Rows
abbrev Bd:=Int->Option (Int × Int × Bool)
def okG (gd g:Bool):Prop:=g=true ∨ gd=false
instance (gd g:Bool):Decidable (okG gd g):=inferInstanceAs (Decidable (_ ∨ _))
inductive Rk (M:Bd) (gd:Bool):Nat->Int->Prop
 | zero:Rk M gd 0 (-1)
 | step {k:Nat} {n s d:Int} {g:Bool}:M n=some (s,d,g)->okG gd g->Rk M gd k s->Rk M gd (k + 1) d
def Rch (M:Bd) (gd:Bool) (d:Int):Prop:=∃ k,Rk M gd k d
section
variable {M:Bd} {gd:Bool}
def RdL (M:Bd) (gd:Bool) (ns:List Int):Prop:=ns.Pairwise (· < ·) /\ ∀ x,x ∈ ns ↔ Rch M gd x /\ x ≠ -1
end
open PySem PySem.Spec PyProof.Rows
def Oa:Option Value->Array Value
 | none=>#[]
 | some v=>#[v,v]
def HB (P:Nat->Value->Prop) (f:Nat->Int) (j:Nat):Option Value->Prop
 | none=>j=0
 | some v=>∃ i,i < j /\ P i v /\ ∀ i',i' < j->f i' ≤ f i
section
variable {prog:Program} {w:World} {A:Around} {R:Result->Shared->Prop} {It:Addr} {fp wr:List Addr} {n:Nat} {P:Nat->Value->Prop} {St:Nat->Heap->Prop} {f:Nat->Int} {dv:Value}
theorem HV (W:Walks prog w A.in1 It fp wr n P St) (hval:∀ i v,P i v->∃ t,v=Value.int (f i) t) (Z:Addr) (hZ:Z ∉ fp) :
  ∀(k j:Nat) (s:Shared) (ob:Option Value) (c:Nat),n - j=k->j ≤ n->St j s.heap->HB P f j ob →
  s.heap.get? Z=some { cls:=.type "list",dict:=none,data:=.seq (Oa ob) c,slots:=#[] } →
  (∀ v h2 tk,((n=0 /\ v=dv) ∨ HB P f n (some v))->(∀ b o,b ∉ wr->b ≠ Z->s.heap.get? b=some o->h2.get? b=some o)->R (.ok (.ret v)) { s with heap:=h2,toks:=tk }) →
  codeAny (model prog w) A (.builtin "max.loop" ⟨[.ref It,.none,.ref Z],[(Str.ofString "default",dv)]⟩) R s:=by
 have hcmp:=CmpOf.ints_gt (prog:=prog) (w:=w) (A:=A.in1) f hval
 have nZ:Z ∉ wr:=λ h=>hZ (W.sub _ h)
 have nm:(toString "max" ++ toString ".loop":String) = "max.loop":=by decide
 intro k
 induction k with
 | zero =>
  intro j s ob c ek hj st hB hS hR
  have ej:j=n:=by omega
  subst ej
  refine codeAny_builtin F.entry_max_loop ?_
  rw [Around.under_plainId F.plain_max_loop _]
  show wpAny _ A.in1 (seqItems? (.ref Z) >>= _) _ _ s
  refine wpAny_bind (wpAny_seqItems hS rfl ?_)
  show wpAny _ A.in1 (tryCatch (pyNext (.ref It)) _ >>= _) _ _ s
  refine wpAny_bind (wpAny_tryCatch (W.done s _ _ st λ h2 tk hk=>?_))
  have hS2:=hk Z _ nZ hS
  cases ob with
  | none =>
   refine wpAny_bind (wpAny_rule (wpAny_pure ?_))
   exact hR dv h2 tk (.inl ⟨hB,rfl⟩) λ b o hb _ e=>hk b o hb e
  | some vb =>
   replace hS2:h2.get? Z=some { cls:=.type "list",dict:=none,data:=.seq #[vb,vb] c,slots:=#[] }:=hS2
   show wpAny _ A.in1 (updateSeq Z (λ _=>#[]) >>= _) _ _ _
   refine wpAny_bind ?_
   refine wpAny_updateSeq hS2 rfl (wpAny_bind (wpAny_letGo (wpAny_pure ?_)))
   exact hR vb _ tk (.inr hB) λ b o hb hbZ e=>(Heap.get?_update_other _ _ (Ne.symm hbZ)).trans (hk b o hb e)
 | succ k ih =>
  intro j s ob c ek hj st hB hS hR
  have hlt:j < n:=by omega
  refine codeAny_builtin F.entry_max_loop ?_
  rw [Around.under_plainId F.plain_max_loop _]
  show wpAny _ A.in1 (seqItems? (.ref Z) >>= _) _ _ s
  refine wpAny_bind (wpAny_seqItems hS rfl ?_)
  show wpAny _ A.in1 (tryCatch (pyNext (.ref It)) _ >>= _) _ _ s
  refine wpAny_bind (wpAny_tryCatch (W.item j s _ _ hlt st λ v h2 tk hP st2 hk=>?_))
  have hS2:=hk Z _ nZ hS
  cases ob with
  | none =>
   have j0:j=0:=hB
   subst j0
   replace hS2:h2.get? Z=some { cls:=.type "list",dict:=none,data:=.seq #[] c,slots:=#[] }:=hS2
   show wpAny _ A.in1 (updateSeq Z (λ _=>#[v,v]) >>= _) _ _ _
   refine wpAny_bind ?_
   refine wpAny_updateSeq hS2 rfl ?_
   rw [nm]
   refine wpAny_pure ⟨plainId_quiet F.plain_max_loop _,ih 1 _ (some v) _ (by omega) hlt (W.frame _ _ _ st2 λ b hb o e=>?_) ⟨0,by omega,hP,λ i hi=>by rw [show i=0 by omega];exact Int.le_refl _⟩ (Heap.get?_update_self _ hS2 rfl) λ v3 h3 tk3 hP3 hk3=>?_⟩
   ·exact(Heap.get?_update_other _ _ (λ h:Z=b=>hZ (by rw [h];exact hb))).trans e
   ·exact hR v3 h3 tk3 hP3 λ b o hb hbZ e=>hk3 b o hb hbZ ((Heap.get?_update_other _ _ (Ne.symm hbZ)).trans (hk b o hb e))
  | some vb =>
   obtain⟨i,hi,hPi,hmax⟩:=hB
   replace hS2:h2.get? Z=some { cls:=.type "list",dict:=none,data:=.seq #[vb,vb] c,slots:=#[] }:=hS2
   show wpAny _ A.in1 (tryCatch (holding [v,v] (richCompare .Gt v vb >>= _)) _ >>= _) _ _ _
   refine wpAny_bind (wpAny_tryCatch (wpAny_holding (wpAny_bind (hcmp j i v vb _ _ _ hP hPi ?_))))
   refine wpAny_bind (wpAny_holding (wpAny_truthy_bool ?_))
   refine wpAny_bind (wpAny_letGo (wpAny_pure ?_))
   by_cases hb:f j > f i
   ·simp only [show decide (f j > f i)=true from decide_eq_true hb,if_true]
    refine wpAny_bind ?_
    refine wpAny_updateSeq hS2 rfl (wpAny_bind (wpAny_letGo ?_))
    rw [nm]
    refine wpAny_pure ⟨plainId_quiet F.plain_max_loop _,ih (j + 1) _ (some v) _ (by omega) hlt (W.frame _ _ _ st2 λ b hb o e=>?_) ⟨j,by omega,hP,λ i' hi'=>?_⟩ (Heap.get?_update_self _ hS2 rfl) λ v3 h3 tk3 hP3 hk3=>?_⟩
    ·exact(Heap.get?_update_other _ _ (λ h:Z=b=>hZ (by rw [h];exact hb))).trans e
    ·by_cases e:i'=j
     ·rw [e];exact Int.le_refl _
     ·have:=hmax i' (by omega);omega
    ·exact hR v3 h3 tk3 hP3 λ b o hb hbZ e=>hk3 b o hb hbZ ((Heap.get?_update_other _ _ (Ne.symm hbZ)).trans (hk b o hb e))
   ·simp only [show decide (f j > f i)=false from decide_eq_false hb,Bool.false_eq_true,if_false]
    refine wpAny_bind (wpAny_letGo ?_)
    rw [nm]
    refine wpAny_pure ⟨plainId_quiet F.plain_max_loop _,ih (j + 1) _ (some vb) c (by omega) hlt st2 ⟨i,by omega,hPi,λ i' hi'=>?_⟩ hS2 λ v3 h3 tk3 hP3 hk3=>?_⟩
    ·by_cases e:i'=j
     ·rw [e];omega
     ·exact hmax i' (by omega)
    ·exact hR v3 h3 tk3 hP3 λ b o hb hbZ e=>hk3 b o hb hbZ (hk b o hb e)
end
theorem HN (a d:Value):argsOk "max" ⟨[a],[(Str.ofString "default",d)]⟩:=by unfold argsOk;kernel_rfl
theorem HJ (dv:Value):Builtin.Builtins.bindParams "max" ["key","default"] 0 ⟨[],[(Str.ofString "default",dv)]⟩=pure [none,some dv]:=by kernel_rfl
def maxD (d:V):List Int->V
 | []=>d
 | x :: r=>.int (r.foldl max x)
theorem foldl_max:∀(r:List Int) (x:Int),(r.foldl max x=x ∨ r.foldl max x ∈ r) /\ x ≤ r.foldl max x /\ ∀ y ∈ r,y ≤ r.foldl max x
 | [],x=>⟨.inl rfl,Int.le_refl _,by simp⟩
 | y :: r,x=>by
  rw [List.foldl_cons]
  obtain⟨h1,h2,h3⟩:=foldl_max r (max x y)
  refine⟨?_,by omega,λ z hz=>?_⟩
  ·rcases h1 with h1 | h1
   ·rcases(show max x y=x ∨ max x y=y by omega) with e | e
    ·exact .inl (h1.trans e)
    ·exact .inr (by rw [h1,e];simp)
   ·exact .inr (List.mem_cons_of_mem _ h1)
  ·rcases List.mem_cons.mp hz with rfl | hz
   ·omega
   ·exact h3 z hz
theorem DH {d:V} {ns:List Int} {m:Int} (hm:m ∈ ns) (h:∀ y ∈ ns,y ≤ m):maxD d ns = .int m:=by
 cases ns with
 | nil=>simp at hm
 | cons x r =>
  obtain⟨h1,h2,h3⟩:=foldl_max r x
  have a:r.foldl max x ≤ m:=by
   rcases h1 with e | e
   ·rw [e];exact h x (by simp)
   ·exact h _ (List.mem_cons_of_mem _ e)
  have b:m ≤ r.foldl max x:=by
   rcases List.mem_cons.mp hm with rfl | e
   ·exact h2
   ·exact h3 m e
  show V.int (r.foldl max x) = .int m
  congr 1
  omega
theorem kU (d:Int):∀ L:List Int,inV (.int d) (L.map V.int)=decide (d ∈ L)
 | []=>by simp [inV]
 | x :: r=>by
  have ih:=kU d r
  unfold inV at ih ⊢
  rw [List.map_cons,List.any_cons,ih]
  by_cases h:x=d
  ·subst h;simp [eqV]
  ·have h2:¬ d=x:=λ e=>h e.symm
   simp [eqV,h,h2]
theorem mV:∀ L:List Int,(L.map V.int).all iM=true
 | []=>rfl
 | x :: r=>by rw [List.map_cons,List.all_cons,mV r];rfl
open PySem PySem.Spec PyProof.Rows
section
variable {α:Type}
def gX (M:Int->Option α) (n:Int) (x:Option α):Int->Option α:=λ m=>if m=n then x else M m
theorem jr {M:Int->Option α} {n:Int} {x:Option α}:gX M n x n=x:=if_pos rfl
theorem eY {M:Int->Option α} {n m:Int} {x:Option α} (h:m ≠ n):gX M n x m=M m:=if_neg h
structure aX (Pr:V->α->Prop) (kvs:List (Key × V)) (M:Int->Option α):Prop where
 nd:(kvs.map (·.1)).Nodup
 gH:jx kvs
 none_:∀ n,M n=none->aZ kvs (Sum.inl n)=none
 dz:∀ n u,M n=some u->∃ v,aZ kvs (Sum.inl n)=some v /\ Pr v u
variable {Pr Pr':V->α->Prop} {kvs:List (Key × V)} {M:Int->Option α}
theorem aX.nil:aX Pr [] (λ _=>none):=⟨List.nodup_nil,jx.nil,λ n _=>rfl,λ n u e=>by cases e⟩
theorem aX.mono (h:aX Pr kvs M) (k:∀ v u,Pr v u->Pr' v u):aX Pr' kvs M:=⟨h.nd,h.gH,h.none_,λ n u e=>let ⟨v,h1,h2⟩:=h.dz n u e;⟨v,h1,k v u h2⟩⟩
theorem aX.has (h:aX Pr kvs M) {n:Int} {v:V} (e:aZ kvs (Sum.inl n)=some v):∃ u,M n=some u /\ Pr v u:=by
 cases eM:M n with
 | none=>rw [h.none_ n eM] at e;cases e
 | some u=>obtain⟨v',h1,h2⟩:=h.dz n u eM;rw [h1] at e;cases e;exact⟨u,rfl,h2⟩
theorem aX.put (h:aX Pr kvs M) {n:Int} {v:V} {u:α} (hv:Pr v u):aX Pr (putK kvs (Sum.inl n) v) (gX M n (some u)):=by
 refine⟨HE _ h.nd,h.gH.put n _,λ m e=>?_,λ m u' e=>?_⟩
 ·by_cases em:m=n
  ·subst em;rw [jr] at e;cases e
  ·rw [eY em] at e;rw [iS,if_neg (λ z=>em (Sum.inl.inj z))];exact h.none_ m e
 ·by_cases em:m=n
  ·subst em;rw [jr] at e;cases e;exact⟨v,by rw [iS,if_pos rfl],hv⟩
  ·rw [eY em] at e;rw [iS,if_neg (λ z=>em (Sum.inl.inj z))];exact h.dz m u' e
theorem aX.drop (h:aX Pr kvs M) (n:Int):aX Pr (bR kvs (Sum.inl n)) (gX M n none):=by
 refine⟨wV h.nd,h.gH.drop _,λ m e=>?_,λ m u' e=>?_⟩
 ·by_cases em:m=n
  ·subst em;rw [uM,if_pos rfl]
  ·rw [eY em] at e;rw [uM,if_neg (λ z=>em (Sum.inl.inj z))];exact h.none_ m e
 ·by_cases em:m=n
  ·subst em;rw [jr] at e;cases e
  ·rw [eY em] at e;rw [uM,if_neg (λ z=>em (Sum.inl.inj z))];exact h.dz m u' e
theorem aX.at_ (h:aX Pr kvs M) {i:Nat} {k:Key} {v:V} (e:kvs[i]? = some (k,v)):∃ n u,k=Sum.inl n /\ M n=some u /\ Pr v u /\ aZ kvs (Sum.inl n)=some v:=by
 have hm:=List.mem_of_getElem? e
 obtain⟨n,hn⟩:=h.gH _ hm
 have hv:=DO h.nd (k:=k) (v:=v) hm
 rw [show k=Sum.inl n from hn] at hv
 obtain⟨u,h1,h2⟩:=h.has hv
 exact⟨n,u,hn,h1,h2,hv⟩
theorem aX.ix (h:aX Pr kvs M) {n:Int} {u:α} (e:M n=some u):∃(i:Nat) (v:V),kvs[i]? = some ((Sum.inl n:Key),v):=by
 obtain⟨v,h1,_⟩:=h.dz n u e
 have:=kK.mp (show(aZ kvs (Sum.inl n)).isSome=true by rw [h1];rfl)
 obtain⟨kv,hkv,e1⟩:=List.mem_map.mp this
 obtain⟨i,hi⟩:=List.mem_iff_getElem?.mp hkv
 exact⟨i,kv.2,by rw [hi,← e1]⟩
theorem aX.keys (h:aX Pr kvs M) {ns:List Int} (e:kvs.map (·.1)=ns.map Sum.inl) (n:Int):n ∈ ns ↔ (M n).isSome=true:=by
 have:n ∈ ns ↔ (aZ kvs (Sum.inl n)).isSome=true:=by
  rw [kK,e,List.mem_map]
  exact⟨λ h=>⟨n,h,rfl⟩,λ⟨y,h,z⟩=>by cases z;exact h⟩
 rw [this]
 cases eM:M n with
 | none=>rw [h.none_ n eM];simp
 | some u=>obtain⟨v,h1,_⟩:=h.dz n u eM;rw [h1];rfl
theorem aX.sorted {Pr2:V->α->Prop} {kvs2:List (Key × V)} (h:aX Pr kvs M) (h2:aX Pr2 kvs2 M) {ns ns2 ms ms2:List Int} (e:kvs.map (·.1)=ns.map Sum.inl) (e2:kvs2.map (·.1)=ns2.map Sum.inl) (p:ms.Perm ns) (p2:ms2.Perm ns2) (s:ms.Pairwise (· ≤ ·)) (s2:ms2.Pairwise (· ≤ ·)):ms=ms2:=by
 have nd1:∀ {kvs:List (Key × V)} {ns ms:List Int},(kvs.map (·.1)).Nodup->kvs.map (·.1)=ns.map Sum.inl->ms.Perm ns->ms.Pairwise (· ≤ ·)->ms.Pairwise (· < ·):=λ {kvs ns ms} hn e p s=>by
  rw [e] at hn
  have:ns.Nodup:=(List.pairwise_map.mp hn).imp λ a b=>a (congrArg Sum.inl b)
  have hm:ms.Nodup:=p.nodup_iff.mpr this
  exact(s.and hm).imp λ⟨a,b⟩=>by omega
 exact Cf (nd1 h.nd e p s) (nd1 h2.nd e2 p2 s2) λ x=>by rw [p.mem_iff,p2.mem_iff,h.keys e,h2.keys e2]
end
structure PZ where
 wh:Bool
 b:Nat
 d:Nat
 rows:List (Nat × Nat)
 bits:Nat
open PySem PySem.Spec PyProof.Rows
structure PcU where
 wh:Bool
 b:Nat
 d:Nat
 rows:List (Nat × Nat)
 c:Int
open PySem PySem.Spec PyProof.Rows
section
variable {X:Cx}
theorem Az:∀ {kvs:List (Key × V)} {us:List Value},us.length=kvs.length->(∀(j:Nat) v,us[j]? = some v->∃ kv,kvs[j]? = some kv /\ jO kv.1 v=true)->Vals (kvs.map λ kv=>kV kv.1) us
 | [],[],_,_=>.nil
 | [],_ :: _,h,_=>by simp at h
 | _ :: _,[],h,_=>by simp at h
 | kv :: r,u :: us,h,hk=>by
  obtain⟨kv',e,hi⟩:=hk 0 u rfl
  have e:kv=kv':=by simpa using e
  subst e
  refine .cons ?_ (Az (by simpa using h) λ j v e=>?_)
  ·obtain⟨k,x⟩:=kv
   rcases cy hi with⟨i,t,e1,e2⟩ |⟨y,t,e1,e2⟩
   ·subst e2
    have e1:k=Sum.inl i:=e1
    subst e1
    exact⟨t,rfl⟩
   ·subst e2
    have e1:k=Sum.inr y:=e1
    subst e1
    exact⟨t,rfl⟩
  ·obtain⟨kv2,a1,a2⟩:=hk (j + 1) v (by simpa using e)
   exact⟨kv2,by simpa using a1,a2⟩
theorem GC (hc:X.calm=true):gG X (.type "list") (λ xs H Q=>∃(a:Addr) (kvs:List (Key × V)),xs = [.ref a] /\ H a=some (.dK kvs) /\ ∀ l,H l=none->Q (.ref l) (upd H l (.lst (kvs.map λ kv=>kV kv.1)))):=by
 rintro pins s σ H xs us Q I r ⟨a,kvs,rfl,hD,q⟩
 obtain⟨u,rfl,ru⟩:=vals1 r
 cases (show u=Value.ref a from ru)
 obtain⟨hsz,lo,vs,kv,hd⟩:=mS I.hok hD
 obtain⟨ep,hat⟩:=hd.dictAt
 have hkeys:=kv.keys
 have hvl:vs.length=kvs.length:=by
  have:=congrArg List.length hkeys
  simpa using this.symm
 refine PySem.W.kdl_call (A:=X.A) (PySem.W.kdl_dict (knd:=bD X.prog X.w) (kvs:=vs) (ep:=ep) lo) (I.ok.hd hc) hat (by rw [hvl];exact hsz) λ h' tk acc c' kp e hacc=>?_
 have hv:Vals (kvs.map λ kv=>kV kv.1) acc.toList:=by
  refine Az (by rw [Array.length_toList,hacc.1,hvl]) λ j v ev=>?_
  obtain⟨k,x,h1,h2⟩:=hacc.2 j v (by rw [← Array.getElem?_toList];exact ev)
  have e1:(vs.map (·.1))[j]? = some k:=by rw [List.getElem?_map,h1];rfl
  rw [← hkeys,List.getElem?_map] at e1
  obtain⟨kv2,e2,e3⟩:=Option.map_eq_some_iff.mp e1
  exact⟨kv2,e2,by rw [e3];exact h2⟩
 exact⟨.ref s.heap.objs.size,_,I.laid (t':=tk) kp (Nat.le_refl _) (show bF X.prog X.w _ h' _ (.lst (kvs.map λ kv=>kV kv.1)) from⟨by rw [List.length_map];exact hsz,acc.toList,c',hv,by simpa using e⟩),rfl,q _ (I.hok.fresh (Nat.le_refl _))⟩
end
open PySem PySem.Spec PySem.Calls PyProof.Rows
abbrev jo (h:Heap) (e it:Addr) (i:Int) (item:Value) (a:Addr) (f:Bool):Prop :=
 h.get? e=some { cls:=.type "enumerate",dict:=none,data:=.fields #[rawInt a,.bool f,.ref it,rawInt i,.none,item],slots:=#[] }
section
variable {prog:Program} {w:World} {A:Around} {E:Value->Shared->Prop} {s:Shared}
theorem Hu {a:Addr} {o:Obj} {Q:Option Obj->Shared->Prop} (ho:s.heap.get? a=some o) (h:Q (some o) s):wpAny (model prog w) A (loadIfAlive a) Q E s:=by
 have h':Q (s.heap.get? a) s:=by rw [ho];exact h
 exact λ _ _ _=>h'
theorem B0 {e it l a:Addr} {f:Bool} {oa:Obj} {i:Nat} {items:Array Value} {x item:Value} {Q:Option Value->Shared->Prop}
  (he:jo s.heap e it i item a f) (ha:s.heap.get? a=some oa) (hae:a ≠ e) (hai:a ≠ it) (hit:s.heap.IsListIter it l i) (hl:s.heap.IsList l items) (hx:items[i]? = some x) (hne:e ≠ it)
  (hQ:∀ h',jo h' e it ((i:Int) + 1) item a true->h'.IsListIter it l (i + 1)->h'.get? s.heap.objs.size=some { cls:=.type "tuple",data:=.seq #[.int i s.toks,x] }->h'.objs.size=s.heap.objs.size + 1 →
   (∀ b o,b ≠ e->b ≠ it->s.heap.get? b=some o->h'.get? b=some o)->Q (some (.ref s.heap.objs.size)) { s with heap:=h',toks:=s.toks + 1 }) :
  wpAny (model prog w) A (pyNext (.ref e)) Q E s:=by
 have hT:s.TypeIs (.ref e) "enumerate":=⟨_,he,rfl⟩
 unfold pyNext
 refine wpAny_bind (wpAny_attempt (wpAny_callSpecial?_slot (name:=Str.ofString "__next__") hT PySem.F.slot_enumerate_next
  (wpAny_call_entry PySem.F.slot_enumerate_next hT PySem.F.entry_enumerate_next ?_ (PySem.F.args_enumerate_next_1 _))))
 obtain⟨hp,g,d,tk,os⟩:=s
 show wpAny _ _ (field (.ref e) 2 >>= _) _ _ _
 refine wpAny_bind (wpAny_field he rfl (x:=.ref it) rfl ?_)
 refine wpAny_bind (wpAny_nextOf_list_item hit hl hx λ h₁ hit₁ hs₁=>?_)
 replace hs₁:Heap.SameBut it hp h₁:=hs₁
 have he₁:jo h₁ e it i item a f:=(hs₁.2 e hne).trans he
 show wpAny _ _ (field (.ref e) 3 >>= _) _ _ ⟨h₁,g,d,tk,os⟩
 refine wpAny_bind (wpAny_field he₁ rfl (x:=rawInt i) rfl ?_)
 show wpAny _ _ (field (.ref e) 4 >>= _) _ _ ⟨h₁,g,d,tk,os⟩
 refine wpAny_bind (wpAny_field he₁ rfl (x:=.none) rfl ?_)
 show wpAny _ _ (mkInt i >>= _) _ _ ⟨h₁,g,d,tk,os⟩
 refine wpAny_bind (wpAny_mkInt ?_)
 show wpAny _ _ (setField (.ref e) 3 (rawInt ((i:Int) + 1)) >>= _) _ _ ⟨h₁,g,d,tk + 1,os⟩
 refine wpAny_bind (wpAny_setField_rec he₁ (by simp) λ h₂ he₂ hs₂=>?_)
 replace hs₂:Heap.SameBut e h₁ h₂:=hs₂
 replace he₂:jo h₂ e it ((i:Int) + 1) item a f:=he₂
 show wpAny _ _ (setField (.ref e) 4 .none >>= _) _ _ ⟨h₂,g,d,tk + 1,os⟩
 refine wpAny_bind (wpAny_setField_rec he₂ (by simp) λ h₃ he₃ hs₃=>?_)
 replace hs₃:Heap.SameBut e h₂ h₃:=hs₃
 replace he₃:jo h₃ e it ((i:Int) + 1) item a f:=he₃
 show wpAny _ _ (newTuple [.int i tk,x] >>= _) _ _ ⟨h₃,g,d,tk + 1,os⟩
 refine wpAny_bind (wpAny_newTuple ?_)
 have he₄:jo (h₃.push { cls:=.type "tuple",data:=.seq #[.int i tk,x] }) e it ((i:Int) + 1) item a f:=Heap.get?_push_of_some _ he₃
 generalize hh₄:h₃.push { cls:=.type "tuple",data:=.seq #[.int i tk,x] } = h₄ at he₄
 have hsz:h₃.objs.size=hp.objs.size:=by rw [hs₃.1,hs₂.1,hs₁.1]
 have hel:e < hp.objs.size:=Heap.lt_size he
 have ht₄:h₄.get? hp.objs.size=some { cls:=.type "tuple",data:=.seq #[.int i tk,x] }:=by rw [← hh₄,← hsz];exact Heap.get?_push_size _ rfl
 have hz₄:h₄.objs.size=hp.objs.size + 1:=by rw [← hh₄,Heap.size_push,hsz]
 have hk₄:∀ b o,b ≠ e->b ≠ it->hp.get? b=some o->h₄.get? b=some o:=λ b o hbe hbi hb=>by
  rw [← hh₄];exact Heap.get?_push_of_some _ (hs₃.extBut b o hbe (hs₂.extBut b o hbe (hs₁.extBut b o hbi hb)))
 have hit₄:h₄.IsListIter it l (i + 1):=by
  rw [← hh₄];obtain⟨o,ho,r⟩:=(hit₁.extBut hs₂.extBut (Ne.symm hne)).extBut hs₃.extBut (Ne.symm hne);exact⟨o,Heap.get?_push_of_some _ ho,r⟩
 show wpAny _ _ (Builtin.SmallTypes.ownedTupleIsFree (.ref e) >>= _) _ _ ⟨h₄,g,d,tk + 1,os⟩
 rw [hsz]
 clear hh₄ he₃ hs₃ he₂ hs₂ he₁ hs₁ hit₁ hsz h₃ h₂ h₁
 have ha₄:h₄.get? a=some oa:=hk₄ a oa hae hai ha
 refine wpAny_bind ?_
 unfold Builtin.SmallTypes.ownedTupleIsFree
 refine wpAny_bind (wpAny_field he₄ rfl (x:=rawInt a) rfl ?_)
 show wpAny _ _ (loadIfAlive ((a:Int).toNat) >>= _) _ _ _
 rw [Int.toNat_natCast]
 refine wpAny_bind (Hu ha₄ ?_)
 simp only [Option.isNone_some,Bool.false_eq_true,if_false]
 refine wpAny_bind (wpAny_field he₄ rfl (x:=.bool f) rfl ?_)
 have fin:∀ h₅:Heap,jo h₅ e it ((i:Int) + 1) item a true->Heap.SameBut e h₄ h₅->Q (some (.ref hp.objs.size)) ⟨h₅,g,d,tk + 1,os⟩:=λ h₅ he₅ hs₅ =>
  hQ h₅ he₅ (hit₄.extBut hs₅.extBut (Ne.symm hne)) (hs₅.extBut _ _ (Nat.ne_of_gt hel) ht₄) (by show h₅.objs.size=hp.objs.size + 1;rw [hs₅.1,hz₄]) λ b o hb hi e=>hs₅.extBut b o hb (hk₄ b o hb hi e)
 cases f with
 | true =>
  rw [if_neg (show ¬((Value.bool true != Value.bool true)=true) from Bool.false_ne_true)]
  refine wpAny_pure ?_
  simp only [Bool.false_eq_true,if_false]
  exact wpAny_pure ⟨_,rfl,wpAny_pure (fin h₄ he₄ (Heap.SameBut.refl _ _))⟩
 | false =>
  rw [if_pos (show(Value.bool false != Value.bool true)=true from rfl)]
  refine wpAny_bind (wpAny_setField_rec he₄ (by simp) λ h₅ he₅ hs₅=>?_)
  replace hs₅:Heap.SameBut e h₄ h₅:=hs₅
  replace he₅:jo h₅ e it ((i:Int) + 1) item a true:=he₅
  refine wpAny_pure ?_
  simp only [Bool.false_eq_true,if_false]
  exact wpAny_pure ⟨_,rfl,wpAny_pure (fin h₅ he₅ hs₅)⟩
theorem Dt {e it l a:Addr} {f:Bool} {i:Nat} {items:Array Value} {item:Value} {Q:Option Value->Shared->Prop} (hh:A.handled=none)
  (he:jo s.heap e it i item a f) (hit:s.heap.IsListIter it l i) (hl:s.heap.IsList l items) (hx:items[i]? = none)
  (hQ:∀ h',Heap.ExtBut it s.heap h'->Q none { s with heap:=h' }):wpAny (model prog w) A (pyNext (.ref e)) Q E s:=by
 have hT:s.TypeIs (.ref e) "enumerate":=⟨_,he,rfl⟩
 unfold pyNext
 refine wpAny_bind (wpAny_attempt (wpAny_callSpecial?_slot (name:=Str.ofString "__next__") hT PySem.F.slot_enumerate_next
  (wpAny_call_entry PySem.F.slot_enumerate_next hT PySem.F.entry_enumerate_next ?_ (PySem.F.args_enumerate_next_1 _))))
 show wpAny _ _ (field (.ref e) 2 >>= _) _ _ _
 refine wpAny_bind (wpAny_field he rfl (x:=.ref it) rfl ?_)
 refine wpAny_bind (wpAny_nextOf_list_end hh hit hl hx λ h' x he' hx'=>?_)
 obtain⟨o,ho,hc⟩:=hx'
 refine wpAny_bind (wpAny_isInstance (T:="StopIteration") (b:=true) ⟨o,ho,hc⟩ isSubtype_stop ?_)
 exact wpAny_pure (hQ _ he')
theorem Hv:typeLookup (.type "enumerate") "__len__" = pure none:=by rw [typeLookup_type,builtinLookup_eq_fast];kernel_rfl
theorem FA:typeLookup (.type "enumerate") "__length_hint__" = pure none:=by rw [typeLookup_type,builtinLookup_eq_fast];kernel_rfl
def G6 (h:Heap) (e it:Addr) (i:Nat) (Pa:Addr->Prop):Prop:=(i=0 /\ IsEnum h e it 0 .none) ∨ ∃ item a f oa,jo h e it i item a f /\ h.get? a=some oa /\ a ≠ e /\ a ≠ it /\ Pa a
theorem Ll {e it l:Addr} {i:Nat} {items:Array Value} {x:Value} {Pa:Addr->Prop} {Q:Option Value->Shared->Prop}
  (st:G6 s.heap e it i Pa) (hit:s.heap.IsListIter it l i) (hl:s.heap.IsList l items) (hx:items[i]? = some x) (hne:e ≠ it)
  (hQ:∀ h' item a f,jo h' e it ((i:Int) + 1) item a f->((i=0 /\ a=s.heap.objs.size) ∨ Pa a)->h'.IsListIter it l (i + 1)->h'.get? s.heap.objs.size=some { cls:=.type "tuple",data:=.seq #[.int i s.toks,x] }->h'.objs.size=s.heap.objs.size + 1 →
   (∀ b o,b ≠ e->b ≠ it->s.heap.get? b=some o->h'.get? b=some o)->Q (some (.ref s.heap.objs.size)) { s with heap:=h',toks:=s.toks + 1 }) :
  wpAny (model prog w) A (pyNext (.ref e)) Q E s:=by
 rcases st with⟨rfl,he⟩ |⟨item,a,f,oa,he,ha,hae,hai,pa⟩
 ·exact wpAny_pyNext_enum_item (i:=0) he hit hl hx hne λ h' a b c d k=>hQ h' x _ false a (.inl ⟨rfl,rfl⟩) b c d k
 ·exact B0 he ha hae hai hit hl hx hne λ h' a b c d k=>hQ h' item _ true a (.inr pa) b c d k
theorem JT {e it l:Addr} {i:Nat} {items:Array Value} {Pa:Addr->Prop} {Q:Option Value->Shared->Prop} (hh:A.handled=none)
  (st:G6 s.heap e it i Pa) (hit:s.heap.IsListIter it l i) (hl:s.heap.IsList l items) (hx:items[i]? = none)
  (hQ:∀ h',Heap.ExtBut it s.heap h'->Q none { s with heap:=h' }):wpAny (model prog w) A (pyNext (.ref e)) Q E s:=by
 rcases st with⟨rfl,he⟩ |⟨item,a,f,oa,he,ha,hae,hai,pa⟩
 ·exact wpAny_pyNext_enum_end (i:=0) hh he hit hl hx hQ
 ·exact Dt hh he hit hl hx hQ
end
theorem nK {a b:Nat} (h:a < b ∨ b < a):a ≠ b:=by omega
def EnL (H0 H:Hp) (xs:List V) (ts:List Addr):Prop:=∀(j:Nat) (t:Addr),ts[j]? = some t->H0 t=none /\ ∃ x,xs[j]? = some x /\ H t=some (.tup [.int (j:Int),x])
theorem Ju {X:Cx} {pins:List (Addr × Obj)} {σ:St} {A:Around} (hh:A.handled=none) {S e it l:Addr} {xs:List V} {us:List Value} (rv:Vals xs us) (hei:e ≠ it) (hle:l ≠ e) (hli:l ≠ it) (hSe:S ≠ e) (hSi:S ≠ it) (hSl:l ≠ S) (hz:xs.length ≤ sizeLine) (res:Value) {R:Result->Shared->Prop} {H0:Hp}
  (hR:∀ H' s' ts,Inv X pins σ H' s'->(∀ b o,b ≠ S->H0 b=some o->H' b=some o)->ts.length=xs.length->H' S=some (.lst (ts.map V.ref))->EnL H0 H' xs ts->R (.ok (.ret res)) s') :
  ∀(k i:Nat) (H:Hp) (s:Shared) (ts:List Addr),xs.length - i=k->i ≤ xs.length->Inv X pins σ H s->gY X pins H e->gY X pins H it->G6 s.heap e it i (λ a=>ts[0]? = some a)->s.heap.IsListIter it l i->s.heap.IsList l us.toArray->(∀ b o,b ≠ S->H0 b=some o->H b=some o)->H S=some (.lst (ts.map V.ref))->ts.length=i->EnL H0 H xs ts →
   codeAny (model X.prog X.w) A (.builtin "list.extend.loop" ⟨[.ref S,.ref e,res],[]⟩) R s:=by
 intro k
 induction k with
 | zero =>
  intro i H s ts hk hi I fe fi st hit hl hkp hS hal hE
  have hnone:us.toArray[i]? = none:=by have:=rv.length;simp;omega
  refine codeAny_builtin PySem.F.entry_extend_loop ?_
  rw [Around.under_plainId PySem.F.plain_extend_loop _]
  show wpAny _ A.in1 (pyNext (.ref e) >>= _) _ _ s
  refine wpAny_bind (JT (A:=A.in1) hh st hit hl hnone λ h' ex=>?_)
  refine wpAny_pure (hR H _ ts (I.yr (t':=s.toks) (ch:=[it]) (λ b o hb q=>ex b o (by simpa using hb) q) λ b hb=>?_) hkp (by omega) hS hE)
  have e1:b=it:=by simpa using hb
  rw [e1];exact fi
 | succ k ih =>
  intro i H s ts hk hi I fe fi st hit hl hkp hS hal hE
  have hlt:i < xs.length:=by omega
  obtain⟨x,hx⟩:∃ x,xs[i]? = some x:=⟨_,List.getElem?_eq_getElem hlt⟩
  obtain⟨u,eu,ru⟩:=Vals.get rv hx
  have eu':us.toArray[i]? = some u:=by simpa using eu
  refine codeAny_builtin PySem.F.entry_extend_loop ?_
  rw [Around.under_plainId PySem.F.plain_extend_loop _]
  show wpAny _ A.in1 (pyNext (.ref e) >>= _) _ _ s
  refine wpAny_bind (Ll (A:=A.in1) st hit hl eu' hei λ h' item a f hk' hpa hit' ht hsz kk=>?_)
  have nT:H s.heap.objs.size=none:=I.hok.fresh (Nat.le_refl _)
  have I2:Inv X pins σ (upd H s.heap.objs.size (.tup [.int (i:Int),x])) { s with heap:=h',toks:=s.toks + 1 } :=
   I.yj (ch:=[e,it]) (λ b o hb q=>by
    simp only [List.mem_cons,List.not_mem_nil,or_false,not_or] at hb
    exact kk b o hb.1 hb.2 q) (λ b hb=>by
    simp only [List.mem_cons,List.not_mem_nil,or_false] at hb
    rcases hb with rfl | rfl
    ·exact fe
    ·exact fi) (Nat.le_refl _) ⟨by show 2 ≤ sizeLine;decide,[Value.int (i:Int) s.toks,u],.cons ⟨s.toks,rfl⟩ (.cons ru .nil),⟨_,ht,rfl,0,rfl⟩⟩
  have nST:S ≠ s.heap.objs.size:=au hS nT
  have hS2:upd H s.heap.objs.size (.tup [.int (i:Int),x]) S=some (.lst (ts.map V.ref)):=by rw [aq nST];exact hS
  obtain⟨_,its,n,rS,lS,eS⟩:=I2.xU hS2
  have hil:its.length=i:=by rw [← lS,List.length_map,hal]
  have I3:=I2.K7 (t':=s.toks + 1) hS2 eS (f:=(·.push (Value.ref s.heap.objs.size))) (its':=its ++ [Value.ref s.heap.objs.size]) (ys:=(ts ++ [s.heap.objs.size]).map V.ref) (by simp) (by rw [List.map_append];exact Vals.append rS (.cons rfl .nil)) (by rw [List.length_map,List.length_append,hal];show i + 1 ≤ sizeLine;omega)
  have up:∀ b o,b ≠ S->h'.get? b=some o->(h'.update S (Obj.mapSeq (·.push (Value.ref s.heap.objs.size)))).get? b=some o:=λ b o hb e=>(Heap.get?_update_other _ _ (Ne.symm hb)).trans e
  have elt:e < s.heap.objs.size:=by
   rcases st with⟨_,he⟩ |⟨_,_,_,_,he,_⟩
   ·exact Heap.lt_size he
   ·exact Heap.lt_size he
  have ilt:it < s.heap.objs.size:=by obtain⟨o,ho,_⟩:=hit;exact Heap.lt_size ho
  have old:∀ b,b < s.heap.objs.size->b ≠ S->upd (upd H s.heap.objs.size (.tup [.int (i:Int),x])) S (.lst ((ts ++ [s.heap.objs.size]).map V.ref)) b=H b:=λ b hb hs=>by
   rw [aq hs,aq (Nat.ne_of_lt hb)]
  have hT3:upd (upd H s.heap.objs.size (.tup [.int (i:Int),x])) S (.lst ((ts ++ [s.heap.objs.size]).map V.ref)) s.heap.objs.size=some (.tup [.int (i:Int),x]):=by rw [aq nST.symm,ah]
  have old':∀ b o,b ≠ S->H b=some o->upd (upd H s.heap.objs.size (.tup [.int (i:Int),x])) S (.lst ((ts ++ [s.heap.objs.size]).map V.ref)) b=some o:=λ b o hb eb=>by rw [aq hb,aq (au eb nT)];exact eb
  have h0T:H0 s.heap.objs.size=none:=by
   cases z:H0 s.heap.objs.size with
   | none=>rfl
   | some o=>have:=hkp _ _ nST.symm z;rw [nT] at this;cases this
  show wpAny _ A.in1 (updateSeq S (·.push (Value.ref s.heap.objs.size)) >>= _) _ _ _
  refine wpAny_bind (wpAny_updateSeq eS rfl (wpAny_pure ⟨plainId_quiet PySem.F.plain_extend_loop _,ih (i + 1) _ _ (ts ++ [s.heap.objs.size]) (by omega) hlt I3 ⟨(old e elt hSe.symm).trans fe.1,fe.2⟩ ⟨(old it ilt hSi.symm).trans fi.1,fi.2⟩ (.inr ?_) (by
   obtain⟨o,ho,r⟩:=hit'
   exact⟨o,up it o hSi.symm ho,r⟩) (by
   obtain⟨o,ho,r⟩:=hl
   exact⟨o,up l o hSl (kk l o hle hli ho),r⟩) (λ b o hb eb=>old' b o hb (hkp b o hb eb)) ah (by rw [List.length_append,hal];rfl) λ j t ej=>?_⟩) (by rw [List.size_toArray,hil];omega) (by show(its.toArray.push _).size ≤ sizeLine + 1;rw [Array.size_push,List.size_toArray,hil];omega))
  ·have first:(ts ++ [s.heap.objs.size])[0]? = some a:=by
    rcases hpa with⟨rfl,rfl⟩ | ha
    ·have:ts = []:=List.eq_nil_of_length_eq_zero hal
     rw [this];rfl
    ·have:0 < ts.length:=(List.getElem?_eq_some_iff.mp ha).1
     rw [List.getElem?_append_left this];exact ha
   have live:∃ oa,(h'.update S (Obj.mapSeq (·.push (Value.ref s.heap.objs.size)))).get? a=some oa /\ a ≠ e /\ a ≠ it:=by
    rcases hpa with⟨_,rfl⟩ | ha
    ·exact⟨_,up _ _ nST.symm ht,Nat.ne_of_gt elt,Nat.ne_of_gt ilt⟩
    ·obtain⟨_,y,_,hy⟩:=hE 0 a ha
     have aS:a ≠ S:=λ z=>by rw [z,hS] at hy;cases hy
     obtain⟨_,its',_,o,ho,_⟩:=I3.hok a _ (old' a _ aS hy)
     exact⟨o,ho,au hy fe.1,au hy fi.1⟩
   obtain⟨oa,l1,l2,l3⟩:=live
   refine⟨item,a,f,oa,?_,l1,l2,l3,first⟩
   have e2:((i + 1:Nat):Int) =(i:Int) + 1:=by omega
   rw [e2]
   exact up e _ hSe.symm hk'
  ·rcases Nat.lt_trichotomy j ts.length with h1 | h1 | h1
   ·rw [List.getElem?_append_left h1] at ej
    obtain⟨a1,y,a2,a3⟩:=hE j t ej
    have tS:t ≠ S:=λ z=>by rw [z,hS] at a3;cases a3
    exact⟨a1,y,a2,old' t _ tS a3⟩
   ·subst h1
    have ej:s.heap.objs.size=t:=by simpa using ej
    subst ej
    refine⟨h0T,x,by rw [hal];exact hx,?_⟩
    rw [hal];exact hT3
   ·have hnone:(ts ++ [s.heap.objs.size])[j]? = none:=List.getElem?_eq_none (by rw [List.length_append,List.length_singleton];omega)
    rw [hnone] at ej;cases ej
section
variable {X:Cx}
def Px (K:PySem.W.Frag) (te:TE):TE:=λ σ H Q=>te σ H λ v H1=>∃(l:Addr) (xs:List V),v = .ref l /\ SqL K H1 l xs /\ ∀(r:Addr) (ts:List Addr) (H2:Hp),H1 r=none->ao H1 H2->ts.length=xs.length->H2 r=some (.lst (ts.map V.ref))->EnL H1 H2 xs ts->Q (.ref r) H2
theorem Dr {e:Expr} {te:TE} {p1 p2 pos1 pos2:Pos} (hc:X.calm=true) (hg1:Gl X "list") (hm1:X.mg "list" = none) (hg2:Gl X "enumerate") (hm2:X.mg "enumerate" = none) (he:PE X e te)
  (hs1:starEach [Expr.Call (.Name "enumerate" p2) [e] [] pos2] X.env = [(false,eval (Expr.Call (.Name "enumerate" p2) [e] [] pos2) X.env)]:=by rfl) (hs2:starEach [e] X.env = [(false,eval e X.env)]:=by rfl) :
  PE X (.Call (.Name "list" p1) [.Call (.Name "enumerate" p2) [e] [] pos2] [] pos1) (Px X.K te):=by
 intro pins s σ H Q I h
 refine wpAny_Call_Name_kw (iE I hg1 hm1 boot_list ?_)
 refine PyProof.Rows.callWith_type1 ?_ hs1 rfl
 rw [hs1]
 show wpAny _ _ (spliced ((false,eval (Expr.Call (.Name "enumerate" p2) [e] [] pos2) X.env) :: backTo pos1 [])) _ _ s
 refine Calls.spliced_cons ?_
 refine wpAny_Call_Name_kw (iE I hg2 hm2 boot_enumerate ?_)
 refine PyProof.Rows.callWith_type1 ?_ hs2 rfl
 rw [hs2]
 show wpAny _ _ (spliced ((false,eval e X.env) :: backTo pos2 [])) _ _ s
 refine Calls.spliced_cons (thn (he pins s σ H _ I h) λ u s1 ⟨x,H1,I1,r1,q1⟩=>?_)
 obtain⟨l,xs,rfl,hl,q⟩:=q1
 cases r1
 refine Calls.spliced_nil ?_
 obtain⟨us,rv,pl,hz⟩:=I1.list hl
 have ll:l < s1.heap.objs.size:=by obtain⟨o,ho,_⟩:=pl.isList;exact Heap.lt_size ho
 refine call_enumerate_list pl.isList λ h' z1 z2 zs kk=>?_
 refine Calls.spliced_nil ?_
 have I2:Inv X pins σ H1 { s1 with heap:=h',toks:=s1.toks }:=I1.kept kk
 have fe:gY X pins H1 (s1.heap.objs.size + 1):=I1.rP (Nat.le_succ _) (I1.hok.fresh (Nat.le_succ _))
 have fi:gY X pins H1 s1.heap.objs.size:=I1.rP (Nat.le_refl _) (I1.hok.fresh (Nat.le_refl _))
 have hl':h'.IsList l us.toArray:=by obtain⟨o,ho,r⟩:=pl.isList;exact⟨o,kk l o ho,r⟩
 obtain⟨e0,he0⟩:∃ e0,s1.heap.objs.size + 1=e0:=⟨_,rfl⟩
 rw [he0] at z1 fe ⊢
 obtain⟨i0,hi0⟩:∃ i0,s1.heap.objs.size=i0:=⟨_,rfl⟩
 rw [hi0] at z1 z2 fi he0 zs ll
 have hS0:h'.objs.size=i0 + 2:=zs
 refine callType_codes PySem.F.called_list (PySem.F.typeCall_list_1 _) PySem.F.entry_list_init (code_list_new (.ref e0) (Q₁:=λ obj s₁=>obj = .ref h'.objs.size /\ s₁ = { s1 with heap:=h'.push { cls:=.type "list",dict:=none,data:=.seq #[] 0,slots:=#[] } }) ⟨rfl,rfl⟩) λ obj s₁ hq=>?_
 obtain⟨h1,h2⟩:=hq
 subst h1 h2
 have hS:(h'.push { cls:=.type "list",dict:=none,data:=.seq #[] 0,slots:=#[] }).get? h'.objs.size=some { cls:=.type "list",dict:=none,data:=.seq #[] 0,slots:=#[] }:=Heap.get?_push_size _ rfl
 refine⟨⟨_,hS,rfl⟩,PySem.F.args_list_init_2 _ _,?_⟩
 unfold Builtin.«list.__init__»
 generalize hX:Builtin.List.listExtendWith=XX
 wp_walk
 subst hX
 have hS2:((h'.push { cls:=.type "list",dict:=none,data:=.seq #[] 0,slots:=#[] }).update h'.objs.size (Obj.mapSeq λ x=>#[])).get? h'.objs.size=some { cls:=.type "list",dict:=none,data:=.seq #[] 0,slots:=#[] }:=Heap.get?_update_self _ hS rfl
 have kp:∀ b o,h'.get? b=some o->((h'.push { cls:=.type "list",dict:=none,data:=.seq #[] 0,slots:=#[] }).update h'.objs.size (Obj.mapSeq λ x=>#[])).get? b=some o:=λ b o e=>Heap.get?_update_of_ne _ (Nat.ne_of_gt (Heap.lt_size e)) (Heap.get?_push_of_some _ e)
 generalize (h'.push { cls:=.type "list",dict:=none,data:=.seq #[] 0,slots:=#[] }).update h'.objs.size (Obj.mapSeq λ x=>#[])=h2 at hS2 kp ⊢
 obtain⟨S,hSn⟩:∃ S,h'.objs.size=S:=⟨_,rfl⟩
 rw [hSn] at hS2 hS0 ⊢
 have e2:IsEnum h2 e0 i0 0 .none:=kp _ _ z1
 have hT:Shared.TypeIs { s1 with heap:=h2 } (.ref e0) "enumerate":=⟨_,e2,rfl⟩
 unfold Builtin.List.listExtendWith
 refine wpAny_bind (wpAny_typeOf hT ?_)
 have hsr:Builtin.List.listSameRef (Value.ref S) (Value.ref e0)=false:=by
  unfold Builtin.List.listSameRef
  simp
  exact nK (by omega)
 refine wpAny_ite_split (λ hab=>absurd hab (by rw [hsr];decide)) (λ _=>?_)
 refine wpAny_bind (wpAny_pyIter_enum (s:={ s1 with heap:=h2 }) e2 ?_)
 refine wpAny_bind (wpAny_holding ?_)
 unfold Builtin.List.listLengthHint
 refine wpAny_bind (wpAny_specialOf hT Hv ?_)
 show wpAny _ _ (specialOf (Value.ref e0) (Str.ofString "__length_hint__") >>= _) _ _ _
 refine wpAny_bind (wpAny_specialOf hT FA ?_)
 refine wpAny_pure ?_
 show wpAny _ _ (rule "list.extend.makes-room" >>= λ _=>Builtin.List.listTouch (.ref S) >>= λ _ =>
  again (.builtin "list.extend.loop" ⟨[.ref S,.ref e0,_],[]⟩)) _ _ _
 refine wpAny_bind (wpAny_rule ?_)
 refine wpAny_bind ?_
 show wpAny _ _ (updateSeq S (·.push .none) >>= λ _=>updateSeq S (·.pop)) _ _ _
 refine wpAny_bind (wpAny_updateSeq hS2 rfl ?_)
 have hS3:=Heap.get?_update_self (Obj.mapSeq (·.push Value.none)) hS2 rfl
 refine wpAny_updateSeq hS3 rfl ?_
 have hS4:=Heap.get?_update_self (Obj.mapSeq (·.pop)) hS3 rfl
 have kp4:∀ b o,h'.get? b=some o->((h2.update S (Obj.mapSeq (·.push Value.none))).update S (Obj.mapSeq (·.pop))).get? b=some o:=λ b o e=>by
  have hb:S ≠ b:=nK (by have hb:@LT.lt Nat _ b h'.objs.size:=Heap.lt_size e;have hs:h'.objs.size=S:=hSn;omega)
  exact(Heap.get?_update_other _ _ hb).trans ((Heap.get?_update_other _ _ hb).trans (kp b o e))
 generalize (h2.update S (Obj.mapSeq (·.push Value.none))).update S (Obj.mapSeq (·.pop))=h4 at hS4 kp4 ⊢
 have hlen:=rv.length
 have nS:H1 S=none:=I2.hok.fresh (by show h'.objs.size ≤ S;omega)
 have I4:Inv X pins σ (upd H1 S (.lst [])) { s1 with heap:=h4,toks:=s1.toks }:=I2.laid (t':=s1.toks) (h':=h4) kp4 (by show h'.objs.size ≤ S;omega) ⟨Nat.zero_le _,[],_,.nil,hS4⟩
 have hh:X.A.handled=none:=I1.ok.hd hc
 have ll':@LT.lt Nat _ l i0:=ll
 refine wpAny_pure ⟨Code.quiet_builtin _ (by decide +kernel),Ju (X:=X) (pins:=pins) (σ:=σ) (H0:=upd H1 S (.lst [])) (by simp [hh]) rv (S:=S) (e:=e0) (it:=i0) (l:=l) (nK (by omega)) (nK (by omega)) (nK (by omega)) (nK (by omega)) (nK (by omega)) (nK (by omega)) hz _ (λ H' s' ts I' k' tl hS' hE=>?_) xs.length 0 (upd H1 S (.lst [])) _ [] (by omega) (Nat.zero_le _) I4 ⟨by rw [aq (nK (by omega))];exact fe.1,fe.2⟩ ⟨by rw [aq (nK (by omega))];exact fi.1,fi.2⟩ (.inl ⟨rfl,kp4 _ _ z1⟩) (by
  obtain⟨o,ho,r⟩:=z2
  exact⟨o,kp4 _ _ ho,r⟩) (by
  obtain⟨o,ho,r⟩:=hl'
  exact⟨o,kp4 _ _ ho,r⟩) (λ b o _ e=>e) ah rfl (λ j t e=>by simp at e)⟩
 refine⟨rfl,.ref S,H',I',rfl,q S ts H' nS (λ b o eb=>k' b o (au eb nS) (by rw [aq (au eb nS)];exact eb)) tl hS' λ j t ej=>?_⟩
 obtain⟨a1,a2⟩:=hE j t ej
 refine⟨?_,a2⟩
 by_cases ht:t=S
 ·rw [ht,ah] at a1;cases a1
 ·rw [aq ht] at a1;exact a1
end
open PySem PySem.Spec PyProof.Rows
def Mx (td:TE):TI:=λ σ H R=>td σ H λ x H1=>∃ d o kvs,x = .ref d /\ H1 d=some (.frz o (.dK kvs)) /\ R (Itd d o kvs) H1
theorem CH {X:Cx} {tg:Expr} {l:Expr} {tl:TE} (hl:PE X l tl):PI X tg l (Mx tl):=by
 intro pins s σ H R I h
 refine thn (hl pins s σ H _ I h) λ v s1 ⟨x,H1,I1,r1,q1⟩=>?_
 obtain⟨d,o,kvs,e,hd,q⟩:=q1
 subst e
 cases (show v=Value.ref d from r1)
 obtain⟨ho,z,y,vs,r,ob,es,ep,e2,c,hdat,rest⟩:=(show bF X.prog X.w H1 s1.heap d (.frz o (.dK kvs)) from I1.hok d _ hd)
 rw [ho] at e2;cases e2
 have hlen:=KV.len' r
 refine wpAny_pyIter_dict (knd:=bD X.prog X.w) (kvs:=vs) (ep:=ep) y ⟨o,es,ho,c,hdat,rest⟩ ?_
 refine⟨s1.heap.objs.size,[s1.heap.objs.size],_,_,_,rfl,I1.kept (t':=s1.toks) λ b o e=>Heap.get?_push_of_some _ e,AN hdat,⟨_,Heap.get?_push_size _ rfl,rfl,by rw [hlen];rfl⟩,λ b hb=>?_,q⟩
 have e:b=s1.heap.objs.size:=by simpa using hb
 subst e
 exact I1.rP (Nat.le_refl _) (I1.hok.fresh (Nat.le_refl _))
theorem A1 {X:Cx} {K:PySem.W.Frag} (e:X.K=K):OpR X (compareOp .NotIn) (rIn K true):=by subst e;exact tP
section
variable {X:Cx} {x:Str} {p pos kpos:Pos} {e de:Expr} {t:TA} {td:TE}
def MQ (t:TA) (td:TE):TE:=λ σ H Q=>t σ H λ vs H1=>td σ H1 λ d H2=>∃(a:Addr) (kvs:List (Key × V)) (ns:List Int),vs = [.ref a] /\ H2 a=some (.dK kvs) /\ kvs.map (·.1)=ns.map Sum.inl /\ Q (maxD d ns) H2
theorem HL {pins:List (Addr × Obj)} {σ:St} {H:Hp} {s:Shared} {Q:VK} {a:Addr} {kvs:List (Key × V)} {ns:List Int} {d:V} {dv:Value} (hc:X.calm=true) (I:Inv X pins σ H s) (hD:H a=some (.dK kvs)) (hk:kvs.map (·.1)=ns.map Sum.inl) (rd:RelV d dv) (q:Q (maxD d ns) H) :
  wpAny (model X.prog X.w) X.A (call (.builtin "max") [.ref a] [(Str.ofString "default",dv)]) (EP X pins σ Q) X.xe s:=by
 obtain⟨hsz,lo,vs,kv,hd⟩:=mS I.hok hD
 obtain⟨ep,hat⟩:=hd.dictAt
 have hkeys:=kv.keys
 have hvl:vs.length=ns.length:=by
  have:=congrArg List.length (hkeys.symm.trans hk)
  simpa using this
 have hval:∀ i v,(∃ k x,vs[i]? = some (k,x) /\(bD X.prog X.w).is k v=true)->∃ t,v=Value.int (ns.getD i 0) t:=λ i v ⟨k,x,h1,h2⟩=>by
  have e1:(vs.map (·.1))[i]? = some k:=by rw [List.getElem?_map,h1];rfl
  rw [← hkeys,hk,List.getElem?_map] at e1
  obtain⟨n,e2,e3⟩:=Option.map_eq_some_iff.mp e1
  subst e3
  have h2:jO (Sum.inl n) v=true:=h2
  rcases cy h2 with⟨i',t,e5,e4⟩ |⟨y,t,e5,e4⟩
  ·first |(cases e4;subst e5) |(cases e5;subst e4)
   exact⟨t,by rw [List.getD_eq_getElem?_getD,e2];rfl⟩
  ·first |(cases e4;done) |(cases e5;done)
 have hlt:a < s.heap.objs.size:=hat.lt_size
 have hne2:a ≠ s.heap.objs.size:=Nat.ne_of_lt hlt
 have nm:(toString "max" ++ toString ".loop":String) = "max.loop":=by decide
 refine kmk_tree F.kind_max F.plain_max F.entry_max (HN _ _) ?_
 show wpAny _ X.A.in1 (Builtin.Builtins.bindParams "max" ["key","default"] 0 ⟨[],[(Str.ofString "default",dv)]⟩ >>= _) _ _ s
 refine wpAny_bind (wpAny_of_eq (HJ dv) ?_)
 refine wpAny_bind (wpAny_pure ?_)
 refine wpAny_bind (wpAny_pyIter_dict lo hat ?_)
 refine wpAny_bind (wpAny_newObj_type ?_)
 rw [nm]
 have W:=Walks.dictKeys (prog:=X.prog) (w:=X.w) (A:=X.A.in1) (knd:=bD X.prog X.w) (I.ok.hd hc) s.heap.objs.size a hne2 vs ep
 refine wpAny_pure ⟨plainId_quiet F.plain_max_loop _,HV (f:=λ i=>ns.getD i 0) (dv:=dv) W hval ((s.heap.push { cls:=.type "dict_keyiterator",data:=.fields #[.ref a,.int 0 0,.int (vs.length:Int) 0,.int (ep:Int) 0] }).objs.size) (λ hm=>?_) vs.length 0 _ none _ rfl (Nat.zero_le _) ⟨⟨_,Heap.get?_push_of_some _ (Heap.get?_push_size _ rfl),rfl,rfl⟩,(hat.push _).push _⟩ rfl (Heap.get?_push_size _ rfl) λ v h2 tk hv hkk=>?_⟩
 ·rw [Heap.size_push] at hm
  simp only [List.mem_cons,List.not_mem_nil,or_false] at hm
  rcases hm with hm | hm
  ·exact absurd hm (Nat.succ_ne_self _)
  ·exact absurd hlt (by rw [← hm];exact Nat.not_lt_of_le (Nat.le_succ _))
 ·refine⟨maxD d ns,H,I.kept λ b o e=>hkk b o (λ hm=>?_) (λ hz=>?_) (Heap.get?_push_of_some _ (Heap.get?_push_of_some _ e)),?_,q⟩
  ·have:b=s.heap.objs.size:=by simpa using hm
   exact absurd (Heap.lt_size e) (by rw [this];exact Nat.lt_irrefl _)
  ·rw [Heap.size_push] at hz
   exact absurd (Heap.lt_size e) (by rw [hz];exact Nat.not_lt_of_le (Nat.le_succ _))
  ·rcases hv with⟨h0,rfl⟩ |⟨i,hi,hP,hmax⟩
   ·have:ns = []:=List.length_eq_zero_iff.mp (by omega)
    subst this
    exact rd
   ·obtain⟨t,rfl⟩:=hval i v hP
    have hb:i < ns.length:=by omega
    have e:ns.getD i 0=ns[i]:=by rw [List.getD_eq_getElem?_getD,List.getElem?_eq_getElem hb,Option.getD_some]
    rw [DH (m:=ns.getD i 0) (by rw [e];exact List.getElem_mem hb) (λ y hy=>?_)]
    ·exact⟨t,rfl⟩
    ·obtain⟨j,hj⟩:=List.mem_iff_getElem?.mp hy
     have hjl:j < ns.length:=(List.getElem?_eq_some_iff.mp hj).1
     have:ns.getD j 0 ≤ ns.getD i 0:=hmax j (by omega)
     rw [show ns.getD j 0=y by rw [List.getD_eq_getElem?_getD,hj];rfl] at this
     exact this
theorem JK (hc:X.calm=true) (hg:Gl X "max") (hm:X.mg "max" = none) (ha:PA X [e] t) (hd:PE X de td)
  (he:backTo pos (starEach [e] X.env) =(false,eval e X.env) :: backTo pos (starEach [] X.env):=by rfl) (hpl:(backTo pos (starEach [e] X.env)).any (·.1)=false:=by rfl):PE X (.Call (.Name "max" p) [e] [⟨some "default",de,kpos⟩] pos) (MQ t td):=by
 intro pins s σ H Q I h
 refine wpAny_Call_Name_kw (iE I hg hm boot_max ?_ (by decide) (by decide))
 refine callWith_kw (he:=he) (hplain:=hpl) (thn (ha pos pins s σ H _ I h) λ us s1 ⟨vs,H1,I1,r1,q1⟩=>?_)
 refine kws_cons (thn (hd pins s1 σ H1 _ I1 q1) λ dv s2 ⟨d,H2,I2,rd,a,kvs,ns,e1,hD,hk,q⟩=>kws_nil ?_)
 subst e1
 obtain⟨u,rfl,ru⟩:=vals1 r1
 cases (show u=Value.ref a from ru)
 exact HL hc I2 hD hk rd q
end
end L2
namespace Mine
open PySem L2
def top (i:Nat):Stmt:=PySem.Challenge.pw_keepsakes_k54_whole_folds_walked.main.body.getD i (.Pass ⟨0,0,0,0⟩)
abbrev cN:Stmt:=inClass (top 3) 0
abbrev cP:Stmt:=inClass (top 4) 0
abbrev cH:Stmt:=inClass (top 5) 0
abbrev cR:Stmt:=inClass (top 6) 0
abbrev jL:Stmt:=top 9
abbrev ig:Stmt:=top 10
abbrev dN:Stmt:=inClass (top 12) 0
abbrev d8:Stmt:=inClass (top 12) 2
abbrev eX:Stmt:=inClass (top 12) 3
abbrev dJ:Stmt:=inClass (top 13) 0
abbrev fR:Stmt:=inClass (top 13) 1
abbrev gk:Stmt:=inClass (top 13) 2
abbrev dj:Stmt:=inClass (top 13) 4
abbrev d7:Stmt:=inClass (top 14) 0
abbrev gx:Stmt:=inClass (top 14) 1
abbrev gT:Stmt:=inClass (top 14) 2
abbrev dB:Stmt:=inClass (top 14) 4
abbrev jD:Stmt:=top 16
abbrev jJ:Stmt:=top 17
abbrev gz:Stmt:=top 18
abbrev fG:Stmt:=top 19
abbrev iY:Stmt:=top 20
abbrev dG:Stmt:=inClass (top 22) 0
abbrev gR:Stmt:=inClass (top 22) 1
abbrev gU:Stmt:=inClass (top 22) 2
abbrev fH:Stmt:=inClass (top 22) 3
abbrev gy:Stmt:=inClass (top 22) 4
abbrev dX:Stmt:=inClass (top 22) 5
abbrev di:Stmt:=inClass (top 22) 6
abbrev e7:Stmt:=inClass (top 22) 7
abbrev gW:Stmt:=top 24
abbrev gp:Stmt:=top 25
abbrev gQ:Stmt:=top 26
abbrev gw:Stmt:=top 27
abbrev dD:Stmt:=top 28
abbrev e8:Stmt:=top 29
abbrev fJ:Stmt:=top 30
abbrev eW:Stmt:=top 31
abbrev gA:Stmt:=top 32
abbrev fL:Stmt:=top 33
abbrev gD:Stmt:=top 34
abbrev gr:Stmt:=top 35
abbrev gC:Stmt:=top 36
abbrev fQ:Stmt:=top 37
abbrev fO:Stmt:=top 38
abbrev gV:Stmt:=top 39
abbrev gv:Stmt:=top 40
abbrev kL:Stmt:=top 41
theorem rT:aO ["self","place"] ["self","place"] (aA cN):=⟨rfl,rfl,rfl,by decide +kernel,rfl,by decide +kernel,by decide +kernel⟩
theorem r8:aO ["self","number"] ["self","number"] (aA cP):=⟨rfl,rfl,rfl,by decide +kernel,rfl,by decide +kernel,by decide +kernel⟩
theorem pP:aO ["self","day"] ["self","day"] (aA cH):=⟨rfl,rfl,rfl,by decide +kernel,rfl,by decide +kernel,by decide +kernel⟩
theorem r6:aO ["self","day","base"] ["self","day","base"] (aA cR):=⟨rfl,rfl,rfl,by decide +kernel,rfl,by decide +kernel,by decide +kernel⟩
theorem Ih:aO ["number"] ["number"] (aA jL):=⟨rfl,rfl,rfl,by decide +kernel,rfl,by decide +kernel,by decide +kernel⟩
theorem fZ:aO ["start","day","rows","numbers","place","block","check","number"] ["start","day","rows"] (aA ig):=⟨rfl,rfl,rfl,by decide +kernel,rfl,by decide +kernel,by decide +kernel⟩
theorem kC:aO ["self","start","day","rows","check","fitting"] ["self","start","day","rows","check"] (aA dN):=⟨rfl,rfl,rfl,by decide +kernel,rfl,by decide +kernel,by decide +kernel⟩
theorem xG:aO ["self"] ["self"] (aA d8):=⟨rfl,rfl,rfl,by decide +kernel,rfl,by decide +kernel,by decide +kernel⟩
theorem jd:aO ["self","at","bits","rows","row"] ["self","at","bits"] (aA eX):=⟨rfl,rfl,rfl,by decide +kernel,rfl,by decide +kernel,by decide +kernel⟩
theorem vB:aO ["self","day","rows","check"] ["self","day","rows","check"] (aA dJ):=⟨rfl,rfl,rfl,by decide +kernel,rfl,by decide +kernel,by decide +kernel⟩
theorem yL:aO ["self"] ["self"] (aA fR):=⟨rfl,rfl,rfl,by decide +kernel,rfl,by decide +kernel,by decide +kernel⟩
theorem AX:aO ["self"] ["self"] (aA gk):=⟨rfl,rfl,rfl,by decide +kernel,rfl,by decide +kernel,by decide +kernel⟩
theorem uw:aO ["self","rows"] ["self","rows"] (aA dj):=⟨rfl,rfl,rfl,by decide +kernel,rfl,by decide +kernel,by decide +kernel⟩
theorem xD:aO ["self","base","day","rows","check"] ["self","base","day","rows","check"] (aA d7):=⟨rfl,rfl,rfl,by decide +kernel,rfl,by decide +kernel,by decide +kernel⟩
theorem A8:aO ["self"] ["self"] (aA gx):=⟨rfl,rfl,rfl,by decide +kernel,rfl,by decide +kernel,by decide +kernel⟩
theorem BV:aO ["self"] ["self"] (aA gT):=⟨rfl,rfl,rfl,by decide +kernel,rfl,by decide +kernel,by decide +kernel⟩
theorem vt:aO ["self","rows"] ["self","rows"] (aA dB):=⟨rfl,rfl,rfl,by decide +kernel,rfl,by decide +kernel,by decide +kernel⟩
theorem m6:aO ["first","second","piece","blocks","rows"] ["first","second"] (aA jD):=⟨rfl,rfl,rfl,by decide +kernel,rfl,by decide +kernel,by decide +kernel⟩
theorem mX:aO ["shelf","wanted","left","folds","day"] ["shelf","wanted"] (aA jJ):=⟨rfl,rfl,rfl,by decide +kernel,rfl,by decide +kernel,by decide +kernel⟩
theorem fF:aO ["shelf","wanted","leading","starting","number","piece","unwanted"] ["shelf","wanted"] (aA gz):=⟨rfl,rfl,rfl,by decide +kernel,rfl,by decide +kernel,by decide +kernel⟩
theorem zB:aO ["pieces"] ["pieces"] (aA fG):=⟨rfl,rfl,rfl,by decide +kernel,rfl,by decide +kernel,by decide +kernel⟩
theorem ji:aO ["shelf","day","numbers","one","other","new"] ["shelf","day"] (aA iY):=⟨rfl,rfl,rfl,by decide +kernel,rfl,by decide +kernel,by decide +kernel⟩
theorem vA:aO ["self"] ["self"] (aA dG):=⟨rfl,rfl,rfl,by decide +kernel,rfl,by decide +kernel,by decide +kernel⟩
theorem r9:aO ["self","piece","number"] ["self","piece"] (aA gR):=⟨rfl,rfl,rfl,by decide +kernel,rfl,by decide +kernel,by decide +kernel⟩
theorem BA:aO ["self","number","piece"] ["self","number","piece"] (aA gU):=⟨rfl,rfl,rfl,by decide +kernel,rfl,by decide +kernel,by decide +kernel⟩
theorem yJ:aO ["self","number"] ["self","number"] (aA fH):=⟨rfl,rfl,rfl,by decide +kernel,rfl,by decide +kernel,by decide +kernel⟩
theorem rQ:aO ["self","number","piece"] ["self","number"] (aA gy):=⟨rfl,rfl,rfl,by decide +kernel,rfl,by decide +kernel,by decide +kernel⟩
theorem wR:aO ["self"] ["self"] (aA dX):=⟨rfl,rfl,rfl,by decide +kernel,rfl,by decide +kernel,by decide +kernel⟩
theorem sO:aO ["self"] ["self"] (aA di):=⟨rfl,rfl,rfl,by decide +kernel,rfl,by decide +kernel,by decide +kernel⟩
theorem mY:aO ["self","other"] ["self"] (aA e7):=⟨rfl,rfl,rfl,by decide +kernel,rfl,by decide +kernel,by decide +kernel⟩
theorem Cg:aO ["_law_script","_law_k"] ["_law_script","_law_k"] (aA gW):=⟨rfl,rfl,rfl,by decide +kernel,rfl,by decide +kernel,by decide +kernel⟩
theorem A0:aO ["_law_found"] ["_law_found"] (aA gp):=⟨rfl,rfl,rfl,by decide +kernel,rfl,by decide +kernel,by decide +kernel⟩
theorem sZ:aO ["_law_cell_here","_law_k","_law_number"] ["_law_cell_here","_law_k"] (aA gQ):=⟨rfl,rfl,rfl,by decide +kernel,rfl,by decide +kernel,by decide +kernel⟩
theorem A7:aO ["_law_cell_here","_law_k"] ["_law_cell_here","_law_k"] (aA gw):=⟨rfl,rfl,rfl,by decide +kernel,rfl,by decide +kernel,by decide +kernel⟩
theorem iA:aO ["_law_found","_law_rows","_law_one","_law_row"] ["_law_found","_law_rows"] (aA dD):=⟨rfl,rfl,rfl,by decide +kernel,rfl,by decide +kernel,by decide +kernel⟩
theorem yd:aO ["_law_cell_here","_law_wide"] ["_law_cell_here","_law_wide"] (aA e8):=⟨rfl,rfl,rfl,by decide +kernel,rfl,by decide +kernel,by decide +kernel⟩
theorem eZ:aO ["_law_wide","_law_changes_here","_law_tables_here","_law_row","_law_table","_law_place","_law_block_here"] ["_law_wide","_law_changes_here"] (aA fJ):=⟨rfl,rfl,rfl,by decide +kernel,rfl,by decide +kernel,by decide +kernel⟩
theorem fS:aO ["_law_changes_here","_law_tables_here","_law_start","_law_day","_law_places","_law_row","_law_place","_law_block_here"] ["_law_changes_here","_law_tables_here","_law_start","_law_day"] (aA eW):=⟨rfl,rfl,rfl,by decide +kernel,rfl,by decide +kernel,by decide +kernel⟩
theorem fE:aO ["_law_script","_law_many","_law_ends","_law_day","_law_cell_here","_law_start"] ["_law_script","_law_many"] (aA gA):=⟨rfl,rfl,rfl,by decide +kernel,rfl,by decide +kernel,by decide +kernel⟩
theorem jK:aO ["_law_cell_here","_law_many","_law_step","_law_days"] ["_law_cell_here","_law_many","_law_step"] (aA fL):=⟨rfl,rfl,rfl,by decide +kernel,rfl,by decide +kernel,by decide +kernel⟩
theorem bX:aO ["_law_script","_law_many","_law_changes_here","_law_tables_here","_law_cell_here","_law_step","_law_far","_law_lying_here","_law_start","_law_day","_law_harm","_law_rows","_law_number"] ["_law_script","_law_many","_law_changes_here","_law_tables_here"] (aA gD):=⟨rfl,rfl,rfl,by decide +kernel,rfl,by decide +kernel,by decide +kernel⟩
theorem cF:aO ["_law_lying_here","_law_shelf_here","_law_number","_law_start","_law_day","_law_rows","_law_good","_law_piece"] ["_law_lying_here"] (aA gr):=⟨rfl,rfl,rfl,by decide +kernel,rfl,by decide +kernel,by decide +kernel⟩
theorem eg:aO ["_law_lying_here","_law_wanted_here","_law_best","_law_one","_law_day","_law_to","_law_away"] ["_law_lying_here","_law_wanted_here"] (aA gC):=⟨rfl,rfl,rfl,by decide +kernel,rfl,by decide +kernel,by decide +kernel⟩
theorem iu:aO ["_law_first","_law_second","_law_blocks","_law_place","_law_block_here"] ["_law_first","_law_second"] (aA fQ):=⟨rfl,rfl,rfl,by decide +kernel,rfl,by decide +kernel,by decide +kernel⟩
theorem ic:aO ["_law_lying_here","_law_folds","_law_wanted_here","_law_onward","_law_fold","_law_pair"] ["_law_lying_here","_law_folds","_law_wanted_here","_law_onward"] (aA fO):=⟨rfl,rfl,rfl,by decide +kernel,rfl,by decide +kernel,by decide +kernel⟩
theorem dR:aO ["_law_shelf_here","_law_lying_here","_law_onward","_law_number","_law_start","_law_day","_law_rows","_law_good","_law_piece"] ["_law_shelf_here","_law_lying_here","_law_onward"] (aA gV):=⟨rfl,rfl,rfl,by decide +kernel,rfl,by decide +kernel,by decide +kernel⟩
theorem kB:aO ["_law_shelf_here","_law_left","_law_kept","_law_onward","_law_wide","_law_fresh","_law_there"] ["_law_shelf_here","_law_left","_law_kept","_law_onward","_law_wide"] (aA gv):=⟨rfl,rfl,rfl,by decide +kernel,rfl,by decide +kernel,by decide +kernel⟩
theorem fW:aO ["_law_script","_law_first","_law_wide","_law_many","_law_changes_here","_law_lying_here","_law_onward","_law_shelf_here","_law_gone","_law_number","_law_wanted_here","_law_handed","_law_told","_law_kept"] ["_law_script"] (aA kL):=⟨rfl,rfl,rfl,by decide +kernel,rfl,by decide +kernel,by decide +kernel⟩
theorem bA {k:Nat} {x:V} {σ:St} (σ':St) {H:Hp} {N:St->Hp->Prop} (h:N σ' H) (e:σ.set k (some x)=σ':=by rfl):qb k x σ H N:=by subst e;exact h
theorem bU {S1 R:TS} {D:Ends} {σ:St} {H:Hp} (Post:St->Hp->Prop) (h:∀ N:St->Hp->Prop,(∀ σ' H',Post σ' H'->N σ' H')->S1 { D with nx:=N } σ H) (hr:∀ σ' H',Post σ' H'->R D σ' H'):Ez S1 R D σ H:=h (R D) hr
theorem HA {c:TT} {t u:TS} {D:Ends} {σ:St} {H:Hp} (hc:∀ Q:Bool->Hp->Prop,Q true H->c σ H Q) (h:t D σ H):yI c t u D σ H:=hc _ (jb h)
theorem Bc {c:TT} {t u:TS} {D:Ends} {σ:St} {H:Hp} (hc:∀ Q:Bool->Hp->Prop,Q false H->c σ H Q) (h:u D σ H):yI c t u D σ H:=hc _ (dI h)
theorem fP:∀ {fk:List (Key × V)},jx fk->∃ ns:List Int,fk.map (·.1)=ns.map Sum.inl
 | [],_=>⟨[],rfl⟩
 | kv :: r,h=>by
  obtain⟨n,hn⟩:=h kv (by simp)
  obtain⟨ns,e⟩:=fP (fk:=r) λ x hx=>h x (by simp [hx])
  exact⟨n :: ns,by rw [List.map_cons,List.map_cons,e,hn]⟩
theorem MB {x y k:Int} (h0:0 ≤ k) (h1:k < 2):∃ z,atI [V.int x,V.int y] k=some (V.int z) /\(z=x ∨ z=y):=by
 have:k=0 ∨ k=1:=by omega
 rcases this with rfl | rfl
 ·exact⟨x,rfl,.inl rfl⟩
 ·exact⟨y,rfl,.inr rfl⟩
theorem xT {x y w k:Int} (h0:0 ≤ k) (h1:k < 3):∃ z,atI [V.int x,V.int y,V.int w] k=some (V.int z) /\(z=x ∨ z=y ∨ z=w):=by
 have:k=0 ∨ k=1 ∨ k=2:=by omega
 rcases this with rfl | rfl | rfl
 ·exact⟨x,rfl,.inl rfl⟩
 ·exact⟨y,rfl,.inr (.inl rfl)⟩
 ·exact⟨w,rfl,.inr (.inr rfl)⟩
theorem L8 {ds:List Int} {k:Int} (h0:0 ≤ k) (h1:k <(ds.length:Int)):∃ z,atI (ds.map V.int) k=some (V.int z) /\ z ∈ ds:=by
 obtain⟨j,rfl⟩:∃ j:Nat,k =(j:Int):=⟨k.toNat,by omega⟩
 have hj:j < ds.length:=by omega
 exact⟨ds[j],dY (by rw [List.getElem?_map,List.getElem?_eq_getElem hj];rfl),List.getElem_mem hj⟩
def qu:Sp:=λ vs H Q _=>∃ n:Int,vs = [.int n] /\ Q (.bl true) H
def gF (C:Addr):Sp:=λ vs H Q _=>∃(p d:Addr) (fl:Int) (kvs:List (Key × V)) (ns:List Int),vs = [.ref p] /\ bO C H p d fl kvs /\ kvs.map (·.1)=ns.map Sum.inl /\ ns.length < 64 ∧
 ∀(l:Addr) (ns':List Int),H l=none->ns'.Perm ns->ns'.Pairwise (· ≤ ·)->Q (.ref l) (upd H l (.lst (ns'.map V.int)))
def jq (C:Addr):Sp:=λ vs H Q _=>∃(p d:Addr) (fl:Int) (kvs:List (Key × V)),vs = [.ref p] /\ bO C H p d fl kvs /\ Q (.int fl) H
def sd (C:Addr):Sp:=λ vs H Q _=>∃(p d:Addr) (fl:Int) (kvs:List (Key × V)),vs = [.ref p] /\ bO C H p d fl kvs /\ ∀ p2 d2 H',bO C H' p2 d2 fl kvs->H p2=none->H d2=none->ao H H'->Q (.ref p2) H'
theorem Lq {H H':Hp} {d:Addr} {u:HO} (s:ao (upd H d u) H'):bE [d] H H':=λ b o e hb=>s b o (by rw [aq (by simpa using hb)];exact e)
theorem eqZ {x:V} (ns:List Int) (hx:x ∈ ns.map V.int) {K:PySem.W.Frag} {H:Hp}:EqI K H 0 x x true:=by obtain⟨z,_,rfl⟩:=List.mem_map.mp hx;exact DX z
def oZ (sets:List (List Int)) (lo hi:Int) (k:Int):Prop:=∃(d:Nat) (xs:List Int),lo <(d:Int) /\(d:Int) ≤ hi /\ sets[d]? = some xs /\ k ∈ xs
structure uK (wd:Nat) (sets:List (List Int)):Prop where
 most:wd ≤ 40
 day:∀ xs ∈ sets,xs.length ≤ 300 /\ ∀ x ∈ xs,0 ≤ x /\ x <(wd:Int)
theorem nc:∀(m:Nat) (l:List Int),l.Nodup->(∀ x ∈ l,0 ≤ x /\ x <(m:Int))->l.length ≤ m
 | 0,l,_,h=>by
  cases l with
  | nil=>exact Nat.le_refl _
  | cons x r=>have:=h x (by simp);omega
 | m + 1,l,hn,h=>by
  have ih:=nc m (l.erase (m:Int)) (hn.erase _) λ x hx=>by
   have h1:=h x (List.mem_of_mem_erase hx)
   have h2:x ≠(m:Int):=λ z=>by rw [z] at hx;exact(List.Nodup.not_mem_erase hn) hx
   omega
  by_cases hm:(m:Int) ∈ l
  ·rw [List.length_erase_of_mem hm] at ih;omega
  ·rw [List.erase_of_not_mem hm] at ih;omega
def jj (ns:List Int) (k:Int):Int:=if k <(ns.length:Int) then ns.getD k.toNat 0 else 37 * k + 11
def iG (c k:Int):Int:=(c + 7919 * k) * 48271 % 2147483647 * ((c + 7919 * k) * 48271 % 2147483647) % 2147483629
def gB (c k:Int):Int:=if (c + k) % 4=0 then(c / 4 + k) % 3 else if (c + k) % 4=1 then 18446744073709551616 - 1 -(c / 4 + k) % 3 else if (c + k) % 4=2 then c % 18446744073709551616 else
 (iG c k * 8589934592 + iG c (k + 50)) % 18446744073709551616
theorem Jl (c k:Int):0 ≤ gB c k /\ gB c k < 2 ^ 64:=by
 unfold gB
 split
 ·omega
 ·split
  ·omega
  ·split
   ·omega
   ·exact⟨Int.emod_nonneg _ (by first | decide |(dsimp only;decide)),Int.emod_lt_of_pos _ (by first | decide |(dsimp only;decide))⟩
def oS (K:PySem.W.Frag):Sp:=λ vs H Q _=>∃(a:Addr) (ns:List Int) (k:Nat),vs = [.ref a,.int (k:Int)] /\ SqL K H a (ns.map V.int) /\ Q (.int (jj ns k)) H
def oN:Sp:=λ vs H Q _=>∃ c k:Int,vs = [.int c,.int k] /\ Q (.int (iG c k)) H
def vK:Sp:=λ vs H Q _=>∃ c k:Int,vs = [.int c,.int k] /\ Q (.int (gB c k)) H
theorem Nt {α:Type} {xs:List α} {v:α} (h:xs[xs.length - 1]? = some v):atI xs (-1)=some v:=by
 have hl:=(List.getElem?_eq_some_iff.mp h).1
 unfold atI ixN
 rw [if_neg (by omega),if_pos (by omega),show((-1:Int) +(xs.length:Int)).toNat=xs.length - 1 by omega]
 exact h
def vX (wd:Nat) (chs:List (Int × Int)):Prop:=chs.length ≤ 3 /\ ∀ x ∈ chs,0 ≤ x.1 /\ x.1 <(wd:Int) /\ 0 ≤ x.2 /\ x.2 < 2 ^ 64
def mO:Sp:=λ vs H Q _=>∃(c:Int) (wd:Nat),vs = [.int c,.int (wd:Int)] /\ 0 < wd /\ ∀ l L chs H',H' l=some (.lst L)->H l=none->jA H' L chs->vX wd chs->ao H H'->Q (.ref l) H'
structure iK (H:Hp) (RL:List Addr) (chss:List (List (Int × Int))):Prop where
 len:RL.length=chss.length
 get:∀(i:Nat) a cs,RL[i]? = some a->chss[i]? = some cs->∃ L,H a=some (.lst L) /\ jA H L cs
theorem iK.mono {H H':Hp} {RL:List Addr} {chss:List (List (Int × Int))} (R:iK H RL chss) (h1:∀ a ∈ RL,∀ o,H a=some o->H' a=some o) (h2:∀ t xs,H t=some (.tup xs)->H' t=some (.tup xs)):iK H' RL chss :=
 ⟨R.len,λ i a cs e1 e2=>let ⟨L,x,y⟩:=R.get i a cs e1 e2;⟨L,h1 a (List.mem_of_getElem? e1) _ x,y.mono h2⟩⟩
theorem iK.same {H H':Hp} {RL:List Addr} {chss:List (List (Int × Int))} (R:iK H RL chss) (s:ao H H'):iK H' RL chss:=R.mono (λ a _ o e=>s a o e) λ t _ e=>s t _ e
theorem iK.snoc {H:Hp} {RL:List Addr} {chss:List (List (Int × Int))} (R:iK H RL chss) {a:Addr} {L:List V} {cs:List (Int × Int)} (h:H a=some (.lst L)) (c:jA H L cs):iK H (RL ++ [a]) (chss ++ [cs]) :=
 ⟨by simp [R.len],λ i b ds e1 e2=>by
  by_cases hi:i < RL.length
  ·rw [List.getElem?_append_left hi] at e1
   rw [List.getElem?_append_left (by rw [← R.len];exact hi)] at e2
   exact R.get i b ds e1 e2
  ·have hlt:=(List.getElem?_eq_some_iff.mp e1).1
   have:i=RL.length:=by simp at hlt;omega
   subst this
   rw [List.getElem?_append_right (Nat.le_refl _)] at e1
   rw [R.len,List.getElem?_append_right (Nat.le_refl _)] at e2
   simp at e1 e2
   subst e1 e2
   exact⟨L,h,c⟩⟩
def pL (ts:List (List Int)):List Int:=(ts[ts.length - 1]?).getD []
def oU (ts:List (List Int)) (chss:List (List (Int × Int))):List (List Int):=chss.foldl (λ ts c=>ts ++ [nextT (pL ts) c]) ts
def eG (wd:Nat) (chss:List (List (Int × Int))):List (List Int):=oU [List.replicate wd 0] chss
def jk (chss:List (List (Int × Int))):List (List Int):=[] :: chss.map (List.map Prod.fst)
theorem Hq (wd:Nat) (chss:List (List (Int × Int))) (c:List (Int × Int)):eG wd (chss ++ [c])=eG wd chss ++ [nextT (pL (eG wd chss)) c]:=by
 unfold eG oU;rw [List.foldl_append];rfl
theorem ym:∀(chss:List (List (Int × Int))) (ts:List (List Int)),(oU ts chss).length=ts.length + chss.length
 | [],ts=>rfl
 | c :: r,ts=>by
  show(oU (ts ++ [nextT (pL ts) c]) r).length=_
  rw [ym r];simp;omega
theorem Br (wd:Nat) (chss:List (List (Int × Int))):(eG wd chss).length=chss.length + 1:=by unfold eG;rw [ym];simp;omega
theorem D4 {ts:List (List Int)} {t:List Int} (h:ts[ts.length - 1]? = some t):pL ts=t:=by unfold pL;rw [h];rfl
def TabOk (wd:Nat) (t:List Int):Prop:=t.length=wd /\ ∀ v ∈ t,0 ≤ v
theorem D7 {wd:Nat}:∀ {chs:List (Int × Int)} {t:List Int},TabOk wd t->(∀ c ∈ chs,0 ≤ c.2)->TabOk wd (nextT t chs)
 | [],t,h,_=>h
 | c :: r,t,h,hc=>by
  show TabOk wd (nextT (t.set c.1.toNat c.2) r)
  refine D7 ⟨by rw [List.length_set];exact h.1,λ v hv=>?_⟩ λ x hx=>hc x (by simp [hx])
  rcases List.mem_or_eq_of_mem_set hv with z | z
  ·exact h.2 v z
  ·rw [z];exact hc c (by simp)
theorem LI {wd:Nat} {ts:List (List Int)} (h:∀ t ∈ ts,TabOk wd t) (h0:ts ≠ []):TabOk wd (pL ts):=by
 have hl:ts.length - 1 < ts.length:=by have:=List.length_pos_iff.mpr h0;omega
 rw [D4 (List.getElem?_eq_getElem hl)]
 exact h _ (List.getElem_mem hl)
theorem An {wd:Nat}:∀ {chss:List (List (Int × Int))} {ts:List (List Int)},(∀ cs ∈ chss,vX wd cs)->(∀ t ∈ ts,TabOk wd t)->ts ≠ []->∀ t ∈ oU ts chss,TabOk wd t
 | [],ts,_,h,_=>h
 | c :: r,ts,hc,h,h0=>by
  show ∀ t ∈ oU (ts ++ [nextT (pL ts) c]) r,TabOk wd t
  refine An (λ cs hcs=>hc cs (by simp [hcs])) (λ t ht=>?_) (by simp)
  rcases List.mem_append.mp ht with z | z
  ·exact h t z
  ·rw [List.mem_singleton.mp z]
   exact D7 (LI h h0) λ x hx=>((hc c (by simp)).2 x hx).2.2.1
theorem tabs_ok {wd:Nat} {chss:List (List (Int × Int))} (h:∀ cs ∈ chss,vX wd cs):∀ t ∈ eG wd chss,TabOk wd t:=An h (λ t ht=>by
 rw [List.mem_singleton.mp ht]
 exact⟨List.length_replicate,λ v hv=>by rw [(List.mem_replicate.mp hv).2];exact Int.le_refl _⟩) (by simp)
theorem D5 {wd:Nat} {chss:List (List (Int × Int))} (hw:wd ≤ 40) (h:∀ cs ∈ chss,vX wd cs):uK wd (jk chss):=⟨hw,λ xs hx=>by
 unfold jk at hx
 rcases List.mem_cons.mp hx with rfl | hx
 ·exact⟨by simp,λ x h=>by cases h⟩
 ·obtain⟨cs,hcs,rfl⟩:=List.mem_map.mp hx
  refine⟨by rw [List.length_map];have:=(h cs hcs).1;omega,λ x hx=>?_⟩
  obtain⟨c,hc,rfl⟩:=List.mem_map.mp hx
  have:=(h cs hcs).2 c hc
  omega⟩
def qP (tab:List Int):List (Nat × Nat):=tab.zipIdx.map λ q=>(q.2,q.1.toNat)
theorem Ar (tab:List Int):(qP tab).length=tab.length:=by unfold qP;simp
theorem Cc {tab:List Int} {i:Nat} {v:Int} (h:tab[i]? = some v):(qP tab)[i]? = some (i,v.toNat):=by
 unfold qP
 rw [List.getElem?_map,List.getElem?_zipIdx,h]
 simp
theorem enum_rows {H0 H:Hp} {tab:List Int} {ts:List Addr} (h:EnL H0 H (tab.map V.int) ts) (hl:ts.length =(tab.map V.int).length) (h0:∀ v ∈ tab,0 ≤ v):bG H (ts.map V.ref) (qP tab) :=
 ⟨by rw [List.length_map,hl,List.length_map,Ar],λ i v e=>by
  rw [List.getElem?_map] at e
  obtain⟨t,ht,rfl⟩:=Option.map_eq_some_iff.mp e
  obtain⟨_,x,hx,hH⟩:=h i t ht
  rw [List.getElem?_map] at hx
  obtain⟨z,hz,rfl⟩:=Option.map_eq_some_iff.mp hx
  have:=h0 z (List.mem_of_getElem? hz)
  refine⟨t,_,rfl,Cc hz,?_⟩
  rw [hH]
  show some (HO.tup [V.int (i:Int),V.int z])=some (HO.tup [V.int (i:Int),V.int (z.toNat:Int)])
  rw [Int.toNat_of_nonneg this]⟩
def jc (ns tab:List Int):List (Nat × Nat):=ns.map λ k=>(k.toNat,(tab.getD k.toNat 0).toNat)
theorem Gi {ns tab:List Int} {k:Int}:jc (ns ++ [k]) tab=jc ns tab ++ [(k.toNat,(tab.getD k.toNat 0).toNat)]:=by unfold jc;rw [List.map_append];rfl
theorem sH {ns tab:List Int}:(jc ns tab).length=ns.length:=by unfold jc;rw [List.length_map]
theorem Cn {wd:Nat} {ns:List Int} (h:ns.Pairwise (· < ·)) (hx:∀ x ∈ ns,0 ≤ x /\ x <(wd:Int)):ns.length ≤ wd:=nc wd ns (h.imp λ a=>by omega) hx
theorem vh {wd:Nat} {sets:List (List Int)} (h:uK wd sets) {lo hi k:Int} (hk:oZ sets lo hi k):0 ≤ k /\ k <(wd:Int):=by
 obtain⟨d,xs,_,_,e,hx⟩:=hk
 exact(h.day xs (List.mem_of_getElem? e)).2 k hx
structure vV (H:Hp) (cl:Addr) (wd:Nat) (chss:List (List (Int × Int))):Prop where
 ex:∃ RL:List Addr,H cl=some (.lst (RL.map V.ref)) /\ iK H RL chss
 ok:∀ cs ∈ chss,vX wd cs
 w:0 < wd /\ wd ≤ 40
 n:chss.length ≤ 61
theorem vV.keep {H H':Hp} {cl:Addr} {wd:Nat} {chss:List (List (Int × Int))} (h:vV H cl wd chss) (s:ao H H'):vV H' cl wd chss:=let ⟨RL,a,b⟩:=h.ex;⟨⟨RL,s _ _ a,b.same s⟩,h.ok,h.w,h.n⟩
def Bm (H:Hp) (tl:Addr) (tabs:List (List Int)):Prop:=∃ LT:List Addr,H tl=some (.lst (LT.map V.ref)) /\ Rows H LT tabs
theorem Bm.keep {H H':Hp} {tl:Addr} {tabs:List (List Int)} (h:Bm H tl tabs) (s:ao H H'):Bm H' tl tabs:=let ⟨LT,a,b⟩:=h;⟨LT,s _ _ a,b.mono λ _ _ _ e=>s _ _ e⟩
def nY:Sp:=λ vs H Q _=>∃(cl:Addr) (wd:Nat) (chss:List (List (Int × Int))),vs = [.int (wd:Int),.ref cl] /\ vV H cl wd chss /\ ∀ tl LT H',H' tl=some (.lst (LT.map V.ref))->Rows H' LT (eG wd chss)->H tl=none->(∀ b ∈ LT,H b=none)->ao H H'->Q (.ref tl) H'
theorem C0 {Pr:V->Unit->Prop} {kvs:List (Key × V)} {M:Int->Option Unit} (h:aX Pr kvs M) {ns:List Int} (e:kvs.map (·.1)=ns.map Sum.inl):ns.Nodup:=by
 have hn:=h.nd
 rw [e] at hn
 exact(List.pairwise_map.mp hn).imp λ a b=>a (congrArg Sum.inl b)
theorem Ay {Pr:V->Unit->Prop} {kvs:List (Key × V)} {M:Int->Option Unit} {wd:Nat} (h:aX Pr kvs M) (hb:∀ k,(M k).isSome=true->0 ≤ k /\ k <(wd:Int)):kvs.length ≤ wd:=by
 obtain⟨ns,e⟩:=fP h.gH
 have hl:kvs.length=ns.length:=by have:=congrArg List.length e;simpa using this
 rw [hl]
 exact nc wd ns (C0 h e) λ x hx=>hb x ((h.keys e x).mp hx)
def InP (wd:Nat) (sets:List (List Int)) (s:Int) (d:Nat) (k:Int):Prop:=(s = -1 /\ 0 ≤ k /\ k <(wd:Int)) ∨(0 ≤ s /\ oZ sets s d k)
def SpR (wd:Nat) (tabs sets:List (List Int)) (s:Int) (d:Nat) (rows:List (Nat × Nat)):Prop:=∃ ns tab,tabs[d]? = some tab /\ ns.Pairwise (· < ·) /\(∀ k,k ∈ ns ↔ InP wd sets s d k) /\ rows=jc ns tab
theorem Ie {wd:Nat} {sets:List (List Int)} (h:uK wd sets) {s:Int} {d:Nat} {k:Int} (hk:InP wd sets s d k):0 ≤ k /\ k <(wd:Int):=by
 rcases hk with⟨_,h1⟩ |⟨_,h1⟩
 ·exact h1
 ·exact vh h h1
theorem SpR.len {wd:Nat} {tabs sets:List (List Int)} (hs:uK wd sets) {s:Int} {d:Nat} {rows:List (Nat × Nat)} (h:SpR wd tabs sets s d rows):rows.length ≤ wd:=by
 obtain⟨ns,tab,a1,a2,a3,rfl⟩:=h
 rw [sH]
 exact Cn a2 λ k hk=>Ie hs ((a3 k).mp hk)
theorem SpR.whole {wd:Nat} {tabs sets:List (List Int)} {d:Nat} {tab:List Int} (h:tabs[d]? = some tab) (hT:TabOk wd tab):SpR wd tabs sets (-1) d (qP tab):=by
 refine⟨(List.range wd).map λ k:Nat=>(k:Int),tab,h,?_,λ k=>?_,?_⟩
 ·rw [List.pairwise_map]
  exact List.pairwise_lt_range.imp λ h=>by omega
 ·rw [List.mem_map]
  constructor
  ·rintro⟨j,hj,rfl⟩
   have:=List.mem_range.mp hj
   exact .inl ⟨rfl,by omega,by omega⟩
  ·rintro(⟨_,h1,h2⟩ |⟨h1,_⟩)
   ·exact⟨k.toNat,List.mem_range.mpr (by omega),by omega⟩
   ·omega
 ·apply List.ext_getElem?
  intro i
  by_cases hi:i < wd
  ·have hi':i < tab.length:=by rw [hT.1];exact hi
   rw [Cc (List.getElem?_eq_getElem hi')]
   unfold jc
   rw [List.map_map,List.getElem?_map,List.getElem?_range hi]
   show _=some (((i:Int).toNat),(tab.getD ((i:Int).toNat) 0).toNat)
   rw [Int.toNat_natCast,List.getD_eq_getElem?_getD,List.getElem?_eq_getElem hi'];rfl
  ·rw [List.getElem?_eq_none (by rw [Ar,hT.1];omega),List.getElem?_eq_none (by rw [sH];simp;omega)]
def uG (CW CG CN CB:Addr):Sp:=λ vs H Q E=>∃(p1 p2:Addr) (w1 w2:Bool) (b1 d1 b2 d2:Nat) (rows1 rows2:List (Nat × Nat)) (c1 c2:Int),vs = [.ref p1,.ref p2] /\ ef CW CG H p1 w1 b1 d1 rows1 c1 /\ ef CW CG H p2 w2 b2 d2 rows2 c2 /\(rows1.length ≤ 100 /\ rows2.length ≤ 100 /\(aV (aV [] rows1) (aV [] rows2)).length < 64) ∧
 (stI w2 b2 ≠(d1:Int)->∀ e H',ExcAt H' e CN [("day",.int (d1:Int)),("base",.int (stI w2 b2))]->ao H H'->E (.ref CN) (some e) H') ∧
 (stI w2 b2 =(d1:Int)->c1 ≠(fz w1 b1 d1 rows1:Nat)->∀ e H',ExcAt H' e CB [("day",.int (d1:Int))]->ao H H'->E (.ref CB) (some e) H') ∧
 (stI w2 b2 =(d1:Int)->c1 =(fz w1 b1 d1 rows1:Nat)->c2 ≠(fz w2 b2 d2 rows2:Nat)->∀ e H',ExcAt H' e CB [("day",.int (d2:Int))]->ao H H'->E (.ref CB) (some e) H') ∧
 (stI w2 b2 =(d1:Int)->c1 =(fz w1 b1 d1 rows1:Nat)->c2 =(fz w2 b2 d2 rows2:Nat)->∀ x b rows H',(w1=false->b=b1)->Bg rows1 rows2 rows->ef CW CG H' x w1 b d2 rows (fz w1 b d2 rows:Nat)->ao H H'->Q (.ref x) H')
def xO:Sp:=λ vs H Q _=>∃(f l:Addr) (R L:List V) (rows:List (Nat × Nat)),vs = [.ref f,.ref l] /\ FT H f R /\ H l=some (.lst L) /\ bG H R rows /\ bG H L rows /\ ∀ H',ao H H'->Q (.bl true) H'
theorem yT {wd:Nat} {l:List Nat} (hn:l.Nodup) (h:∀ x ∈ l,x < wd):l.length ≤ wd:=by
 have:=nc wd (l.map λ k:Nat=>(k:Int)) (List.pairwise_map.mpr (hn.imp λ h e=>h (by omega))) λ x hx=>by
  obtain⟨k,hk,rfl⟩:=List.mem_map.mp hx
  have:=h k hk;omega
 simpa using this
theorem HC {wd:Nat} {r1 r2:List (Nat × Nat)} (h1:∀ r ∈ r1,r.1 < wd) (h2:∀ r ∈ r2,r.1 < wd):(aV (aV [] r1) (aV [] r2)).length ≤ wd:=by
 have hn:=ck (aV [] r2) (ck r1 (rs:=[]) (by simp))
 have:=yT hn λ x hx=>by
  rcases iV _ _ _ hx with h | h
  ·rcases iV _ _ _ h with h | h
   ·simp at h
   ·obtain⟨r,hr,rfl⟩:=List.mem_map.mp h;exact h1 r hr
  ·rcases iV _ _ _ h with h | h
   ·simp at h
   ·obtain⟨r,hr,rfl⟩:=List.mem_map.mp h;exact h2 r hr
 simpa using this
theorem SpR.lt {wd:Nat} {tabs sets:List (List Int)} (hs:uK wd sets) {s:Int} {d:Nat} {rows:List (Nat × Nat)} (h:SpR wd tabs sets s d rows):∀ r ∈ rows,r.1 < wd:=by
 obtain⟨ns,tab,a1,a2,a3,rfl⟩:=h
 intro r hr
 unfold jc at hr
 obtain⟨k,hk,rfl⟩:=List.mem_map.mp hr
 have:=Ie hs ((a3 k).mp hk)
 show k.toNat < wd
 omega
def nU:Sp:=λ vs H Q _=>∃(cl tl:Addr) (wd d:Nat) (s:Int) (chss:List (List (Int × Int))),vs = [.ref cl,.ref tl,.int s,.int (d:Int)] /\ vV H cl wd chss /\ Bm H tl (eG wd chss) /\(s = -1 ∨(0 ≤ s /\ s ≤(d:Int))) /\ d ≤ chss.length /\ ∀ l L rows H',H' l=some (.lst L)->bG H' L rows->SpR wd (eG wd chss) (jk chss) s d rows->ao H H'->Q (.ref l) H'
def gi (rows:List (Nat × Nat)) (i bt:Nat):List (Nat × Nat):=rows.modify i λ r=>(r.1,r.2 ^^^ bt)
theorem AD (rows:List (Nat × Nat)) (i bt:Nat):(gi rows i bt).length=rows.length:=by simp [gi]
theorem uh {rows:List (Nat × Nat)} {i bt:Nat} {r:Nat × Nat} (h:rows[i]? = some r):gi rows i bt=rows.set i (r.1,r.2 ^^^ bt):=by
 unfold gi
 apply List.ext_getElem?
 intro j
 rw [List.getElem?_modify,List.getElem?_set]
 by_cases e:i=j
 ·subst e
  obtain⟨hl,he⟩:=List.getElem?_eq_some_iff.mp h
  simp [hl,he]
 ·simp [e]
theorem C2 {H:Hp} {L:List V} {rows:List (Nat × Nat)} (R:bG H L rows) {t:Addr} {r:Nat × Nat} {i:Nat} (h:H t=some (.tup [.int (r.1:Int),.int (r.2:Int)])):bG H (L.set i (.ref t)) (rows.set i r) :=
 ⟨by simp [R.len],λ j v e=>by
  rw [List.getElem?_set] at e
  by_cases ej:i=j
  ·subst ej
   rw [if_pos rfl] at e
   split at e
   ·rename_i hl
    have e:V.ref t=v:=by simpa using e
    exact⟨t,r,e.symm,by rw [List.getElem?_set,if_pos rfl,if_pos (by rw [← R.len];exact hl)],h⟩
   ·cases e
  ·rw [if_neg ej] at e
   obtain⟨u,r',a,b,c⟩:=R.get j v e
   exact⟨u,r',a,by rw [List.getElem?_set,if_neg ej];exact b,c⟩⟩
def oV (CW CG:Addr) (wh:Bool):Sp:=λ vs H Q _=>∃(p:Addr) (b d:Nat) (rows:List (Nat × Nat)) (c:Int) (l:Addr) (L:List V) (rows2:List (Nat × Nat)),vs = [.ref p,.ref l] /\ ef CW CG H p wh b d rows c /\ H l=some (.lst L) /\ bG H L rows2 /\ rows2.length ≤ 100 /\ ∀ p2 H',ef CW CG H' p2 wh b d rows2 c->H p2=none->ao H H'->Q (.ref p2) H'
def mG (CW CG CN:Addr):Sp:=λ vs H Q E=>∃(p:Addr) (wh:Bool) (b d:Nat) (rows:List (Nat × Nat)) (c ai:Int) (bt:Nat),vs = [.ref p,.int ai,.int (bt:Int)] /\ ef CW CG H p wh b d rows c /\ rows.length ≤ 100 ∧
 (∀ i:Nat,ai =(i:Int)->i < rows.length->∀ p2 H',ef CW CG H' p2 wh b d (gi rows i bt) c->H p2=none->ao H H'->Q (.ref p2) H') ∧
 (¬(0 ≤ ai /\ ai <(rows.length:Int))->∀ e H',ExcAt H' e CN [("place",.int ai)]->ao H H'->E (.ref CN) (some e) H')
theorem ef.of0 {CW CG:Addr} {H:Hp} {p:Addr} {b d:Nat} {rows:List (Nat × Nat)} {c:Int} (h:ef CW CG H p true 0 d rows c):ef CW CG H p true b d rows c:=h
structure Q54 where
 st:Int
 d:Nat
 rows:List (Nat × Nat)
 good:Bool
def shown (q:Q54):List (Nat × Nat):=if q.good=true then q.rows else gi q.rows (q.rows.length - 1) 5
abbrev M54:=Int->Option Q54
def PcF (CW CG:Addr) (H:Hp) (v:V) (q:Q54):Prop:=∃(a:Addr) (wh:Bool) (b:Nat) (c:Int),v = .ref a /\ ef CW CG H a wh b q.d (shown q) c /\ stI wh b=q.st /\ decide (c =(fz wh b q.d (shown q):Nat))=q.good
def dH (H:Hp) (v:V) (q:Q54):Prop:=∃(t l:Addr) (L:List V),v = .ref t /\ H t=some (.tup [.int q.st,.int (q.d:Int),.ref l,.bl q.good]) /\ H l=some (.lst L) /\ bG H L q.rows
theorem FT.cC {H H':Hp} {F:List Addr} {a:Addr} {xs:List V} (h:FT H a xs) (k:bE F H H') (hF:bZ H F):FT H' a xs:=by
 obtain⟨ob,t,e⟩:=h
 refine⟨ob,t,k _ _ e λ hm=>?_⟩
 rcases hF _ hm with⟨kv,h⟩ |⟨C,dx,d,fl,h⟩ <;>(rw [h] at e;cases e)
theorem bZ.pc {H:Hp} {F:List Addr} (hF:bZ H F) {p:Addr} {C dx:Addr} {wh f:Bool} {b d:Nat} {r:Addr} {c:Int} (e:H p=some (.ins C dx (pfs wh b d r c f))):p ∉ F:=λ hm=>by
 rcases hF _ hm with⟨kv,h⟩ |⟨C,dx,d',fl,h⟩
 ·rw [h] at e;cases e
 ·rw [h] at e
  have e:=(HO.ins.inj (Option.some.inj e)).2.2
  have h5:("pieces":Str) = "day":=by
   cases wh
   ·exact(Prod.mk.inj (List.cons.inj (show(("pieces":Str),V.ref d') :: _ =(("day":Str),V.int (d:Int)) :: _ from e)).1).1
   ·exact(Prod.mk.inj (List.cons.inj (show(("pieces":Str),V.ref d') :: _ =(("day":Str),V.int (d:Int)) :: _ from e)).1).1
  exact absurd h5 (by decide +kernel)
theorem PcF.keep {CW CG:Addr} {H H':Hp} {v:V} {q:Q54} (h:PcF CW CG H v q) (s:ao H H'):PcF CW CG H' v q:=let ⟨a,wh,b,c,h1,h2,h3⟩:=h;⟨a,wh,b,c,h1,h2.keep s,h3⟩
theorem PcF.cC {CW CG:Addr} {H H':Hp} {F:List Addr} {v:V} {q:Q54} (h:PcF CW CG H v q) (k:bE F H H') (hF:bZ H F):PcF CW CG H' v q:=by
 obtain⟨a,wh,b,c,h1,⟨dx,r,R,g1,g2,g3⟩,h3⟩:=h
 exact⟨a,wh,b,c,h1,⟨dx,r,R,k _ _ g1 (bZ.pc hF g1),FT.cC g2 k hF,g3.mono λ t xs e=>k _ _ e (hF.tup e)⟩,h3⟩
theorem PcF.NX {CW CG:Addr} {H H':Hp} {F:List Addr} {v:V} {q:Q54} (h:PcF CW CG H v q) (k:bE F H H') (hF:∀ f ∈ F,∃ xs,H f=some (.lst xs)):PcF CW CG H' v q:=by
 have no:∀ {x:Addr} {o:HO},H x=some o->(∀ xs,o ≠ .lst xs)->x ∉ F:=λ e h z=>by
  obtain⟨xs,hx⟩:=hF _ z
  rw [hx] at e;cases e;exact h xs rfl
 obtain⟨a,wh,b,c,h1,⟨dx,r,R,g1,⟨ob,t,g2⟩,g3⟩,h3⟩:=h
 exact⟨a,wh,b,c,h1,⟨dx,r,R,k _ _ g1 (no g1 λ _ z=>by cases z),⟨ob,t,k _ _ g2 (no g2 λ _ z=>by cases z)⟩,g3.mono λ t xs e=>k _ _ e (no e λ _ z=>by cases z)⟩,h3⟩
theorem dH.keep {H H':Hp} {v:V} {q:Q54} (h:dH H v q) (s:ao H H'):dH H' v q:=let ⟨t,l,L,h1,h2,h3,h4⟩:=h;⟨t,l,L,h1,s _ _ h2,s _ _ h3,h4.mono λ t xs e=>s _ _ e⟩
theorem dH.cC {H H':Hp} {F:List Addr} {v:V} {q:Q54} (h:dH H v q) (k:bE F H H') (hF:bZ H F):dH H' v q:=let ⟨t,l,L,h1,h2,h3,h4⟩:=h;⟨t,l,L,h1,k _ _ h2 (hF.tup h2),k _ _ h3 (hF.lst h3),h4.mono λ t xs e=>k _ _ e (hF.tup e)⟩
structure Rdy (M:M54) (x:Int) (n n':Int) (q q':Q54):Prop where
 h1:M n=some q
 h2:M n'=some q'
 d1:(q.d:Int)=x
 d2:q'.st=x
 g1:q.good=true
 g2:q'.good=true
 u1:∀ m w,M m=some w->(w.d:Int)=x->m=n
 u2:∀ m w,M m=some w->w.st=x->m=n'
def Rd (M:M54) (wt:List Int) (x:Int):Prop:=x ∉ wt /\ ∃ n n' q q',Rdy M x n n' q q'
structure Wf (wd:Nat) (M:M54) (fl:Int):Prop where
 lt:∀ n q,M n=some q->q.st <(q.d:Int)
 nf:∀ n q,M n=some q->n < fl
 rw:∀ n q,M n=some q->(∀ r ∈ q.rows,r.1 < wd) /\ q.rows.length ≤ 40
 w:wd ≤ 40
def fj (M:M54) (n n' fl:Int) (qn:Q54):M54:=gX (gX (gX M fl (some qn)) n none) n' none
theorem Rdy.ne {M:M54} {x n n':Int} {q q':Q54} {wd:Nat} {fl:Int} (h:Rdy M x n n' q q') (W:Wf wd M fl):n ≠ n':=λ e=>by
 have h2:=h.h2
 rw [← e,h.h1] at h2
 cases h2
 have:=W.lt _ _ h.h1
 have:=h.d1
 have:=h.d2
 omega
theorem fold_at {M:M54} {n n' fl:Int} {qn:Q54} {wd:Nat} {x:Int} {q q':Q54} (h:Rdy M x n n' q q') (W:Wf wd M fl) (m:Int):fj M n n' fl qn m=if m=n ∨ m=n' then none else if m=fl then some qn else M m:=by
 have a1:=W.nf _ _ h.h1
 have a2:=W.nf _ _ h.h2
 unfold fj gX
 by_cases e1:m=n'
 ·rw [if_pos e1,if_pos (.inr e1)]
 ·rw [if_neg e1]
  by_cases e2:m=n
  ·rw [if_pos e2,if_pos (.inl e2)]
  ·rw [if_neg e2,if_neg (show ¬(m=n ∨ m=n') from λ z=>z.elim e2 e1)]
theorem Nf {all rows:List (Nat × Nat)} (h:isM all rows) {wd:Nat} (hl:∀ r ∈ all,r.1 < wd):(∀ r ∈ rows,r.1 < wd) /\ rows.length ≤ wd:=by
 have key:∀ r ∈ rows,r.1 < wd:=λ r hr=>by
  have:=(h.2 r.1 r.2).mp hr
  exact hl _ (JV this)
 refine⟨key,?_⟩
 have hn:(rows.map (·.1)).Nodup:=h.1.imp λ h=>by omega
 have:=yT hn λ x hx=>by
  obtain⟨r,hr,rfl⟩:=List.mem_map.mp hx
  exact key r hr
 simpa using this
theorem Wf.fold {M:M54} {n n' fl x:Int} {q q':Q54} {rows:List (Nat × Nat)} {wd:Nat} (W:Wf wd M fl) (h:Rdy M x n n' q q') (hm:isM (q.rows ++ q'.rows) rows):Wf wd (fj M n n' fl ⟨q.st,q'.d,rows,true⟩) (fl + 1):=by
 have l1:=W.lt _ _ h.h1
 have l2:=W.lt _ _ h.h2
 have e1:=h.d1
 have e2:=h.d2
 have hw:=W.w
 have hr:=Nf hm (wd:=wd) λ r hr=>by
  rcases List.mem_append.mp hr with z | z
  ·exact(W.rw _ _ h.h1).1 r z
  ·exact(W.rw _ _ h.h2).1 r z
 refine⟨λ m w e=>?_,λ m w e=>?_,λ m w e=>?_,hw⟩ <;> rw [fold_at h W] at e <;> split at e
 ·cases e
 ·split at e
  ·cases e;show q.st <(q'.d:Int);omega
  ·exact W.lt m w e
 ·cases e
 ·split at e
  ·omega
  ·have:=W.nf m w e;omega
 ·cases e
 ·split at e
  ·cases e;exact⟨hr.1,by show rows.length ≤ 40;omega⟩
  ·exact W.rw m w e
theorem LS {M:M54} {wt:List Int} {n n' fl x:Int} {q q':Q54} {rows:List (Nat × Nat)} {wd:Nat} (W:Wf wd M fl) (h:Rdy M x n n' q q') (y:Int):Rd (fj M n n' fl ⟨q.st,q'.d,rows,true⟩) wt y ↔ Rd M wt y /\ y ≠ x:=by
 have l1:=W.lt _ _ h.h1
 have l2:=W.lt _ _ h.h2
 have e1:=h.d1
 have e2:=h.d2
 have nf1:=W.nf _ _ h.h1
 have nf2:=W.nf _ _ h.h2
 have ff:=fold_at (qn:=⟨q.st,q'.d,rows,true⟩) h W
 have hfl:M fl=none:=by
  cases e:M fl with
  | none=>rfl
  | some w=>have:=W.nf _ _ e;omega
 constructor
 ·rintro⟨hw,m,m',w,w',R⟩
  have hyx:y ≠ x:=by
   rintro rfl
   have hm:=R.h1
   rw [ff] at hm
   split at hm
   ·cases hm
   ·rename_i hne
    split at hm
    ·cases hm
     have:=R.d1
     have:((q'.d:Nat):Int)=y:=this
     omega
    ·exact hne (.inl (h.u1 m w hm R.d1))
  refine⟨⟨hw,?_⟩,hyx⟩
  obtain⟨m1,w1,a1,a2,a3,a4⟩:∃ m1 w1,M m1=some w1 /\(w1.d:Int)=y /\ w1.good=true /\ ∀ k v,M k=some v->(v.d:Int)=y->k=m1:=by
   have hm:=R.h1
   rw [ff] at hm
   split at hm
   ·cases hm
   ·rename_i hne
    split at hm
    ·rename_i hmf
     cases hm
     have hd:((q'.d:Nat):Int)=y:=R.d1
     refine⟨n',q',h.h2,hd,h.g2,λ k v ek ev=>?_⟩
     apply Classical.byContradiction
     intro hk
     have hkn:k ≠ n:=λ z=>by rw [z,h.h1] at ek;cases ek;omega
     have hkf:k ≠ fl:=λ z=>by rw [z,hfl] at ek;cases ek
     have:=R.u1 k v (by rw [ff,if_neg (by omega),if_neg hkf];exact ek) ev
     omega
    ·refine⟨m,w,hm,R.d1,R.g1,λ k v ek ev=>?_⟩
     apply Classical.byContradiction
     intro hk
     have hkf:k ≠ fl:=λ z=>by rw [z,hfl] at ek;cases ek
     by_cases hkn:k=n ∨ k=n'
     ·rcases hkn with rfl | rfl
      ·rw [h.h1] at ek;cases ek;omega
      ·rw [h.h2] at ek;cases ek
       have:=R.u1 fl ⟨q.st,q'.d,rows,true⟩ (by rw [ff,if_neg (by omega),if_pos rfl]) ev
       omega
     ·have:=R.u1 k v (by rw [ff,if_neg hkn,if_neg hkf];exact ek) ev
      omega
  obtain⟨m2,w2,b1,b2,b3,b4⟩:∃ m2 w2,M m2=some w2 /\ w2.st=y /\ w2.good=true /\ ∀ k v,M k=some v->v.st=y->k=m2:=by
   have hm:=R.h2
   rw [ff] at hm
   split at hm
   ·cases hm
   ·rename_i hne
    split at hm
    ·rename_i hmf
     cases hm
     have hd:q.st=y:=R.d2
     refine⟨n,q,h.h1,hd,h.g1,λ k v ek ev=>?_⟩
     apply Classical.byContradiction
     intro hk
     have hkn:k ≠ n':=λ z=>by rw [z,h.h2] at ek;cases ek;omega
     have hkf:k ≠ fl:=λ z=>by rw [z,hfl] at ek;cases ek
     have:=R.u2 k v (by rw [ff,if_neg (by omega),if_neg hkf];exact ek) ev
     omega
    ·refine⟨m',w',hm,R.d2,R.g2,λ k v ek ev=>?_⟩
     apply Classical.byContradiction
     intro hk
     have hkf:k ≠ fl:=λ z=>by rw [z,hfl] at ek;cases ek
     by_cases hkn:k=n ∨ k=n'
     ·rcases hkn with rfl | rfl
      ·rw [h.h1] at ek;cases ek
       have:=R.u2 fl ⟨q.st,q'.d,rows,true⟩ (by rw [ff,if_neg (by omega),if_pos rfl]) ev
       omega
      ·rw [h.h2] at ek;cases ek;omega
     ·have:=R.u2 k v (by rw [ff,if_neg hkn,if_neg hkf];exact ek) ev
      omega
  exact⟨m1,m2,w1,w2,a1,b1,a2,b2,a3,b3,a4,b4⟩
 ·rintro⟨⟨hw,m,m',w,w',R⟩,hyx⟩
  refine⟨hw,?_⟩
  have hmn:m ≠ n:=λ z=>by
   have:=R.h1
   rw [z,h.h1] at this;cases this
   have:=R.d1
   omega
  have hmn':m' ≠ n':=λ z=>by
   have:=R.h2
   rw [z,h.h2] at this;cases this
   have:=R.d2
   omega
  have hfm:∀ k v,M k=some v->k ≠ fl:=λ k v e z=>by rw [z,hfl] at e;cases e
  obtain⟨m1,w1,a1,a2,a3,a4⟩:∃ m1 w1,fj M n n' fl ⟨q.st,q'.d,rows,true⟩ m1=some w1 /\(w1.d:Int)=y /\ w1.good=true /\ ∀ k v,fj M n n' fl ⟨q.st,q'.d,rows,true⟩ k=some v->(v.d:Int)=y->k=m1:=by
   by_cases hm:m=n'
   ·have hd:((q'.d:Nat):Int)=y:=by
     have:=R.h1
     rw [hm,h.h2] at this;cases this
     exact R.d1
    refine⟨fl,⟨q.st,q'.d,rows,true⟩,by rw [ff,if_neg (by omega),if_pos rfl],hd,rfl,λ k v ek ev=>?_⟩
    rw [ff] at ek
    split at ek
    ·cases ek
    ·rename_i hne
     split at ek
     ·assumption
     ·have:=R.u1 k v ek ev;omega
   ·refine⟨m,w,by rw [ff,if_neg (by omega),if_neg (hfm _ _ R.h1)];exact R.h1,R.d1,R.g1,λ k v ek ev=>?_⟩
    rw [ff] at ek
    split at ek
    ·cases ek
    ·rename_i hne
     split at ek
     ·cases ek
      have:=R.u1 n' q' h.h2 ev
      omega
     ·exact R.u1 k v ek ev
  obtain⟨m2,w2,b1,b2,b3,b4⟩:∃ m2 w2,fj M n n' fl ⟨q.st,q'.d,rows,true⟩ m2=some w2 /\ w2.st=y /\ w2.good=true /\ ∀ k v,fj M n n' fl ⟨q.st,q'.d,rows,true⟩ k=some v->v.st=y->k=m2:=by
   by_cases hm:m'=n
   ·have hd:q.st=y:=by
     have:=R.h2
     rw [hm,h.h1] at this;cases this
     exact R.d2
    refine⟨fl,⟨q.st,q'.d,rows,true⟩,by rw [ff,if_neg (by omega),if_pos rfl],hd,rfl,λ k v ek ev=>?_⟩
    rw [ff] at ek
    split at ek
    ·cases ek
    ·rename_i hne
     split at ek
     ·assumption
     ·have:=R.u2 k v ek ev;omega
   ·refine⟨m',w',by rw [ff,if_neg (by omega),if_neg (hfm _ _ R.h2)];exact R.h2,R.d2,R.g2,λ k v ek ev=>?_⟩
    rw [ff] at ek
    split at ek
    ·cases ek
    ·rename_i hne
     split at ek
     ·cases ek
      have:=R.u2 n q h.h1 ev
      omega
     ·exact R.u2 k v ek ev
  exact⟨m1,m2,w1,w2,a1,b1,a2,b2,a3,b3,a4,b4⟩
theorem Rdy.uniq {M:M54} {x n n' m m':Int} {q q' w w':Q54} (h:Rdy M x n n' q q') (h':Rdy M x m m' w w'):n=m /\ n'=m' /\ q=w /\ q'=w':=by
 have e1:=h'.u1 n q h.h1 h.d1
 have e2:=h'.u2 n' q' h.h2 h.d2
 subst e1 e2
 have a1:=h.h1
 have a2:=h.h2
 rw [h'.h1] at a1
 rw [h'.h2] at a2
 exact⟨rfl,rfl,(Option.some.inj a1).symm,(Option.some.inj a2).symm⟩
inductive cK (wt:List Int):M54->Int->List Int->M54->Int->List (Int × Int × Int)->Prop
 | nil {M fl}:cK wt M fl [] M fl []
 | cons {M fl x n n' q q' rows RL M' fl' FL}:Rdy M x n n' q q'->isM (q.rows ++ q'.rows) rows->cK wt (fj M n n' fl ⟨q.st,q'.d,rows,true⟩) (fl + 1) RL M' fl' FL->cK wt M fl (x :: RL) M' fl' ((n,n',fl) :: FL)
theorem cK.snoc {wt:List Int} {M M':M54} {fl fl':Int} {RL:List Int} {FL:List (Int × Int × Int)} {x n n':Int} {q q':Q54} {rows:List (Nat × Nat)} (W:cK wt M fl RL M' fl' FL) (h:Rdy M' x n n' q q') (hm:isM (q.rows ++ q'.rows) rows):cK wt M fl (RL ++ [x]) (fj M' n n' fl' ⟨q.st,q'.d,rows,true⟩) (fl' + 1) (FL ++ [(n,n',fl')]):=by
 induction W with
 | nil=>exact .cons h hm .nil
 | cons a b _ ih=>exact .cons a b (ih h)
structure RdL (M:M54) (wt:List Int) (RL:List Int):Prop where
 rise:RL.Pairwise (· < ·)
 iff:∀ y,y ∈ RL ↔ Rd M wt y
theorem RdL.tail {M:M54} {wt:List Int} {x n n' fl:Int} {q q':Q54} {rows:List (Nat × Nat)} {wd:Nat} {RL:List Int} (h:RdL M wt (x :: RL)) (W:Wf wd M fl) (hr:Rdy M x n n' q q'):RdL (fj M n n' fl ⟨q.st,q'.d,rows,true⟩) wt RL:=by
 refine⟨(List.pairwise_cons.mp h.rise).2,λ y=>?_⟩
 rw [LS W hr,← h.iff y]
 constructor
 ·intro hy
  have:=(List.pairwise_cons.mp h.rise).1 y hy
  exact⟨by simp [hy],by omega⟩
 ·rintro⟨hy,hne⟩
  rcases List.mem_cons.mp hy with e | e
  ·exact absurd e hne
  ·exact e
theorem cK.len {wt:List Int} {M M':M54} {fl fl':Int} {RL:List Int} {FL:List (Int × Int × Int)} (W:cK wt M fl RL M' fl' FL):fl'=fl +(FL.length:Int) /\ FL.length=RL.length:=by
 induction W with
 | nil=>exact⟨by simp,rfl⟩
 | cons a b _ ih=>obtain⟨h1,h2⟩:=ih;exact⟨by rw [h1];simp;omega,by simp [h2]⟩
def Lv (H:Hp) (v:V) (f:Int × Int × Int):Prop:=∃ t,v = .ref t /\ H t=some (.tup ([f.1,f.2.1,f.2.2].map V.int))
structure Folds (H:Hp) (L:List V) (FL:List (Int × Int × Int)):Prop where
 len:L.length=FL.length
 get:∀(i:Nat) v f,L[i]? = some v->FL[i]? = some f->Lv H v f
theorem Folds.mono {H H':Hp} {L:List V} {FL:List (Int × Int × Int)} (h:Folds H L FL) (k:∀ t xs,H t=some (.tup xs)->H' t=some (.tup xs)):Folds H' L FL:=⟨h.len,λ i v f e1 e2=>let ⟨t,a,b⟩:=h.get i v f e1 e2;⟨t,a,k _ _ b⟩⟩
theorem Folds.snoc {H:Hp} {L:List V} {FL:List (Int × Int × Int)} {v:V} {f:Int × Int × Int} (h:Folds H L FL) (hv:Lv H v f):Folds H (L ++ [v]) (FL ++ [f]) :=
 ⟨by simp [h.len],λ i w g e1 e2=>by
  by_cases hi:i < L.length
  ·rw [List.getElem?_append_left hi] at e1
   rw [List.getElem?_append_left (by rw [← h.len];exact hi)] at e2
   exact h.get i w g e1 e2
  ·have hlt:=(List.getElem?_eq_some_iff.mp e1).1
   have:i=L.length:=by simp at hlt;omega
   subst this
   rw [List.getElem?_append_right (Nat.le_refl _)] at e1
   rw [h.len,List.getElem?_append_right (Nat.le_refl _)] at e2
   simp at e1 e2
   subst e1 e2
   exact hv⟩
def xM (CW CG:Addr):Sp:=λ vs H Q _=>∃(l:Addr) (L:List V),vs = [.ref l] /\ H l=some (.lst L) /\((∃ v q,L = [v] /\ PcF CW CG H v q /\ Q (.bl q.good) H) ∨(L.length ≠ 1 /\ Q (.bl false) H))
def wK (C CW CG:Addr):Sp:=λ vs H Q _=>∃(p d w:Addr) (fl:Int) (kvs:List (Key × V)) (M:M54) (wt:List Int),vs = [.ref p,.ref w] /\ bO C H p d fl kvs /\ aX (PcF CW CG H) kvs M /\ kvs.length < 60 /\ H w=some (.lst (wt.map V.int)) /\ wt.length ≤ 1000 ∧
 ∀(l:Addr) (RL:List Int) (H':Hp),H' l=some (.lst (RL.map V.int))->RdL M wt RL->RL.length ≤ 60->H l=none->ao H H'->Q (.ref l) H'
def tD (C CW CG:Addr):Sp:=λ vs H Q _=>∃(p d:Addr) (fl:Int) (kvs:List (Key × V)) (M:M54) (x n n':Int) (q q':Q54) (wd:Nat),vs = [.ref p,.int x] /\ bO C H p d fl kvs /\ aX (PcF CW CG H) kvs M /\ kvs.length < 60 /\ Wf wd M fl /\ Rdy M x n n' q q' ∧
 ∀(t:Addr) (rows:List (Nat × Nat)) (kvs':List (Key × V)) (H':Hp),isM (q.rows ++ q'.rows) rows->H' t=some (.tup [.int n,.int n',.int fl])->H t=none->bO C H' p d (fl + 1) kvs'->aX (PcF CW CG H') kvs' (fj M n n' fl ⟨q.st,q'.d,rows,true⟩)->kvs'.length ≤ kvs.length->bE [p,d] H H'->Q (.ref t) H'
def sV (C CW CG:Addr):Sp:=λ vs H Q _=>∃(p d w:Addr) (fl:Int) (kvs:List (Key × V)) (M:M54) (wt:List Int) (wd:Nat),vs = [.ref p,.ref w] /\ bO C H p d fl kvs /\ aX (PcF CW CG H) kvs M /\ kvs.length < 60 /\ Wf wd M fl /\ H w=some (.lst (wt.map V.int)) /\ wt.length ≤ 1000 ∧
 ∀(t p2 d2 l:Addr) (L:List V) (FL:List (Int × Int × Int)) (RL:List Int) (fl':Int) (M':M54) (kvs':List (Key × V)) (H':Hp),H' t=some (.tup [.ref p2,.ref l])->H' l=some (.lst L)->Folds H' L FL->RdL M wt RL->cK wt M fl RL M' fl' FL->RL.length ≤ 60->bO C H' p2 d2 fl' kvs'->aX (PcF CW CG H') kvs' M'->kvs'.length < 60->H p2=none->H d2=none->ao H H'->Q (.ref t) H'
structure E54 where
 s:Int
 d:Nat
 h:Bool
def EAt (H:Hp) (v:V) (e:E54):Prop:=∃ t,v = .ref t /\ H t=some (.tup [.int e.s,.int (e.d:Int),.bl e.h])
def pR (K:PySem.W.Frag):Sp:=λ vs H Q _=>∃(a:Addr) (ns:List Int) (m:Nat),vs = [.ref a,.int (m:Int)] /\ SqL K H a (ns.map V.int) /\ 4 ≤ m /\ m ≤ 12 ∧
 ∀(l:Addr) (L:List V) (es:List E54) (H':Hp),H' l=some (.lst L)->L.length=es.length->(∀(i:Nat) v e,L[i]? = some v->es[i]? = some e->EAt H' v e)->(∀ e ∈ es,e.d ≤ m /\(e.s = -1 ∨ 0 ≤ e.s) /\ e.s <(e.d:Int))->0 < es.length->es.length ≤ 26->ao H H'->Q (.ref l) H'
def nX:Sp:=λ vs H Q _=>∃(c:Int) (m:Nat) (sp:Int),vs = [.int c,.int (m:Int),.int sp] /\ m ≤ 12 /\ 0 < sp /\ sp ≤ 80000000 /\ ∀(l:Addr) (ws:List Int) (H':Hp),H' l=some (.lst (ws.map V.int))->ws.length ≤ 40->H l=none->ao H H'->Q (.ref l) H'
def qi (K:PySem.W.Frag):Sp:=λ vs H Q _=>∃(a cl tl:Addr) (ns:List Int) (m wd:Nat) (chss:List (List (Int × Int))),vs = [.ref a,.int (m:Int),.ref cl,.ref tl] /\ SqL K H a (ns.map V.int) /\ 4 ≤ m /\ m ≤ 12 /\ chss.length=m /\ vV H cl wd chss /\ Bm H tl (eG wd chss) ∧
 ∀(ld:Addr) (lkv:List (Key × V)) (M:M54) (H':Hp),H' ld=some (.dK lkv)->aX (dH H') lkv M->(∀ n q,M n=some q->0 ≤ n /\ n ≤ 100000000 /\ q.st <(q.d:Int) /\(q.st = -1 ∨ 0 ≤ q.st) /\ q.d ≤ 1000000000 /\(∀ r ∈ q.rows,r.1 < wd) /\ q.rows.length ≤ wd /\(q.good=false->q.rows ≠ []))->lkv ≠ []->lkv.length ≤ 26->H ld=none->ao H H'->Q (.ref ld) H'
def GA (wd:Nat) (M:M54):Prop:=∀ n q,M n=some q->0 ≤ n /\ n ≤ 100000000 /\ q.st <(q.d:Int) /\(q.st = -1 ∨ 0 ≤ q.st) /\ q.d ≤ 1000000000 /\(∀ r ∈ q.rows,r.1 < wd) /\ q.rows.length ≤ wd /\(q.good=false->q.rows ≠ [])
def p8 (C CW CG:Addr):Sp:=λ vs H Q _=>∃(ld:Addr) (lkv:List (Key × V)) (M:M54) (wd:Nat) (ks:List Int),vs = [.ref ld] /\ H ld=some (.dK lkv) /\ aX (dH H) lkv M /\ GA wd M /\ wd ≤ 40 /\ lkv.length ≤ 26 /\ lkv.map (·.1)=ks.map Sum.inl ∧
 ∀(p d:Addr) (kvs:List (Key × V)) (fl:Int) (H':Hp),bO C H' p d fl kvs->aX (PcF CW CG H') kvs M->kvs.length ≤ 26->(∀ n ∈ ks,n < fl)->(fl=0 ∨ fl - 1 ∈ ks)->0 ≤ fl->H p=none->H d=none->ao H H'->Q (.ref p) H'
def qH:Sp:=λ vs H Q _=>∃(ld w:Addr) (lkv:List (Key × V)) (M:M54) (wt:List Int),vs = [.ref ld,.ref w] /\ H ld=some (.dK lkv) /\ aX (dH H) lkv M /\ lkv.length < 100 /\ H w=some (.lst (wt.map V.int)) ∧
 ((∀ x,¬ Rd M wt x)->∀ H',ao H H'->Q .non H') /\(∀ x n n' q q',x ∉ wt->Rdy M x n n' q q'->(∀ y,Rd M wt y->x ≤ y)->∀ t H',H' t=some (.tup ([n,n'].map V.int))->ao H H'->Q (.ref t) H') /\((∀ x,¬ Rd M wt x) ∨ ∃ x,Rd M wt x /\ ∀ y,Rd M wt y->x ≤ y)
def ny:Sp:=λ vs H Q _=>∃(v v':V) (q q':Q54) (wd:Nat),vs = [v,v'] /\ dH H v q /\ dH H v' q' /\(∀ r ∈ q.rows ++ q'.rows,r.1 < wd) /\ wd ≤ 40 /\ q.rows.length ≤ 40 /\ q'.rows.length ≤ 40 ∧
 ∀ u rows H',isM (q.rows ++ q'.rows) rows->dH H' u ⟨q.st,q'.d,rows,true⟩->ao H H'->Q u H'
def nW:Sp:=λ vs H Q _=>∃(ld l w:Addr) (lkv:List (Key × V)) (M M':M54) (fl fl':Int) (wt RL:List Int) (L:List V) (FL:List (Int × Int × Int)) (wd:Nat),vs = [.ref ld,.ref l,.ref w,.int fl] /\ H ld=some (.dK lkv) /\ aX (dH H) lkv M /\ lkv.length < 60 /\ Wf wd M fl /\ H l=some (.lst L) /\ Folds H L FL /\ H w=some (.lst (wt.map V.int)) /\ RdL M wt RL /\ cK wt M fl RL M' fl' FL /\ RL.length ≤ 60 ∧
 ∀ lkv' H',H' ld=some (.dK lkv')->aX (dH H') lkv' M'->lkv'.length < 60->bE [ld] H H'->Q (.bl true) H'
def mR (C CW CG:Addr):Sp:=λ vs H Q _=>∃(p d ld:Addr) (fl:Int) (kvs lkv:List (Key × V)) (M:M54),vs = [.ref p,.ref ld,.int fl] /\ bO C H p d fl kvs /\ aX (PcF CW CG H) kvs M /\ kvs.length < 60 /\ H ld=some (.dK lkv) /\ aX (dH H) lkv M /\ lkv.length < 60 /\ d ≠ ld /\(∀ n q,M n=some q->q.rows.length ≤ 40 /\ -1 ≤ q.st /\(q.good=false->q.rows ≠ [])) /\ ∀ H',ao H H'->Q (.bl true) H'
def qQ (C CW CG:Addr):Sp:=λ vs H Q _=>∃(p d p2 d2 ld:Addr) (fl fl2:Int) (kvs kvs2 lkv:List (Key × V)) (M M2:M54) (wd:Nat),vs = [.ref p,.ref p2,.ref ld,.int fl,.int (wd:Int)] /\ bO C H p d fl kvs /\ aX (PcF CW CG H) kvs M /\ kvs.length < 60 /\ bO C H p2 d2 fl2 kvs2 /\ aX (PcF CW CG H) kvs2 M2 /\ kvs2.length < 60 /\ H ld=some (.dK lkv) /\ aX (dH H) lkv M /\ lkv.length < 60 /\ p ≠ p2 /\ d ≠ d2 /\ d ≠ ld /\ d2 ≠ ld /\ wd ≤ 40 /\(∀ n q,M n=some q->q.rows.length ≤ 40 /\ -1 ≤ q.st /\(q.good=false->q.rows ≠ [])) /\ ∀ H',Q (.bl true) H'
def uo (K:PySem.W.Frag):Sp:=λ vs H Q _=>∃(a:Addr) (ns:List Int),vs = [.ref a] /\ SqL K H a (ns.map V.int) /\ ns.length ≤ 63 /\ ∀ H',Q (.bl true) H'
theorem kU (d:Int):∀ L:List Int,inV (.int d) (L.map V.int)=decide (d ∈ L)
 | []=>rfl
 | x :: r=>by
  have ih:=kU d r
  unfold inV at ih ⊢
  rw [List.map_cons,List.any_cons,ih]
  show((x == d) || decide (d ∈ r))=decide (d ∈ x :: r)
  by_cases h:x=d
  ·subst h;simp
  ·rw [beq_eq_false_iff_ne.mpr h]
   simp [List.mem_cons,Ne.symm h]
theorem mV (L:List Int):(L.map V.int).all iM=true:=by
 rw [List.all_eq_true];intro x hx;obtain⟨z,_,rfl⟩:=List.mem_map.mp hx;rfl
theorem yZ {C CN:Addr} {σ:St} {H:Hp} {i j:Nat} {p d:Addr} {fl:Int} {kvs:List (Key × V)} {n:Int} {v:V} {Qc:VK} (hi:σ[i]? = some (some (.ref p))) (hj:σ[j]? = some (some (.int n))) (hS:bO C H p d fl kvs) (hv:aZ kvs (Sum.inl n)=some v) (q:Qc v H):eE C "piece" (iQ C CN) (λ _=>E0) (d9 i) (jN (d9 j) fm) σ H Qc:=by
 obtain⟨dx,h1,h2⟩:=id hS
 refine⟨_,hi,p,dx,_,rfl,h1,cS (by decide +kernel) (by decide +kernel),_,hj,p,d,fl,kvs,n,rfl,hS,λ v' hv'=>?_,λ hv'=>?_⟩
 ·rw [hv] at hv';cases hv';exact q
 ·rw [hv] at hv';cases hv'
theorem EA {K:PySem.W.Frag} {CW CG:Addr} (hcl:∀ w,Cls K (cond w CW CG)) (hn:∀ w,bw K (cond w CW CG) "day") {te:TE} {σ:St} {H:Hp} {v:V} {q:Q54} {Qc:VK} (he:∀ Q:VK,Q v H->te σ H Q) (hP:PcF CW CG H v q) (k:Qc (.int (q.d:Int)) H):Js K te "day" σ H Qc:=by
 obtain⟨a,wh,b,c,rfl,⟨dx,r,R,g1,g2,g3⟩,h3⟩:=hP
 exact he _ ⟨a,_,dx,_,_,rfl,g1,hcl wh,hn wh,jB,k⟩
theorem Lo {CW CG:Addr} {te:TE} {σ:St} {H:Hp} {v:V} {q:Q54} {Qc:VK} (he:∀ Q:VK,Q v H->te σ H Q) (hP:PcF CW CG H v q) (k:Qc (.int q.st) H):kY (eE CW "start" gE (λ _=>E0) te fm) (eE CG "start" (fV CW CG) (λ _=>E0) te fm) σ H Qc:=by
 obtain⟨a,wh,b,c,rfl,hP,h3,h4⟩:=hP
 obtain⟨dx,r,R,g1,g2,g3⟩:=id hP
 rw [← h3] at k
 cases wh
 ·exact .inr (he _ ⟨a,dx,_,rfl,g1,gO,a,b,_,_,c,rfl,hP,k⟩)
 ·exact .inl (he _ ⟨a,dx,_,rfl,g1,gO,a,rfl,k⟩)
theorem HW {CW CG:Addr} {te:TE} {σ:St} {H:Hp} {v:V} {q:Q54} {Qc:VK} (he:∀ Q:VK,Q v H->te σ H Q) (hP:PcF CW CG H v q) (k:Qc (.bl q.good) H):kY (eE CW "is_good" (dM CW CG) (λ _=>E0) te fm) (eE CG "is_good" (dM CW CG) (λ _=>E0) te fm) σ H Qc:=by
 obtain⟨a,wh,b,c,rfl,hP,h3,h4⟩:=hP
 obtain⟨dx,r,R,g1,g2,g3⟩:=id hP
 rw [← h4] at k
 cases wh
 ·exact .inr (he _ ⟨a,dx,_,rfl,g1,gO,a,false,b,_,_,c,rfl,hP,k⟩)
 ·exact .inl (he _ ⟨a,dx,_,rfl,g1,gO,a,true,b,_,_,c,rfl,hP,k⟩)
theorem mW {K:PySem.W.Frag} {a:Addr} (D:Addr) {zs:List Int} {ρ σ:St} {tt:TT} {H:Hp} {R:Hp->Prop} (p:Int->Bool) (hσ:σ=none :: ρ) (hn:zs.length ≤ 1000) (ha:H a=some (.lst (zs.map V.int))) (hD:H D=none)
  (ht:∀ z ∈ zs,∀ H',ao H H'->∀ Q:Bool->Hp->Prop,(∀ H'',ao H' H''->Q (p z) H'')->tt (some (.int z) :: ρ) H' Q)
  (hd:∀ H',ao H H'->H' D=some (.lst ((zs.filter p).map V.int))->R H') :
  ∃ W:Nat->Nat->St->Hp->List V->Prop,(∃ m,W 0 m σ (upd H D (.lst [])) []) /\ ∀ i m σ' H' ys,W i m σ' H' ys->((Itl K a).stop i H' /\ R H') ∨
   ((Itl K a).go i H' /\ ∃ N:St->Hp->List V->Prop,(∀ σ' H' ys',N σ' H' ys'->∃ m',m' < m /\ W (i + 1) m' σ' H' ys') /\ ∀ x H2,(Itl K a).yld i H' x H2->(qb 0) x σ' H2 λ σ3 H3=>tt σ3 H3 λ b H4=>if b=true then
    (d9 0) σ3 H4 λ y H5=>H5 D=some (.lst ys) /\ ys.length < sizeLine /\ N σ3 (upd H5 D (.lst (ys ++ [y]))) (ys ++ [y])
    else N σ3 H4 ys):=by
 refine jT D (K:=K) (a:=a) (xs:=zs.map V.int) (λ i σ H5 ys=>∃ v:Option V,σ=v :: ρ /\ ao H H5 /\ H5 D=some (.lst ys) /\ ys =((zs.take i).filter p).map V.int) ⟨none,hσ,ao.new hD,ah,rfl⟩ (λ i σ H5 ys _ z0=>by obtain⟨_,_,s5,_⟩:=z0;exact SqL.of (s5 _ _ ha)) ?_ ?_
 ·rintro i x σ H5 ys hi ⟨v,rfl,s5,hy,rfl⟩
  rw [List.getElem?_map] at hi
  obtain⟨z,hz,rfl⟩:=Option.map_eq_some_iff.mp hi
  have hm:=List.mem_of_getElem? hz
  refine ht z hm H5 s5 _ λ H6 s6=>?_
  have e:(zs.take (i + 1)).filter p =(zs.take i).filter p ++(if p z=true then [z] else []):=by
   rw [List.take_add_one,hz,List.filter_append]
   cases hp:p z <;> simp [List.filter_cons,hp]
  cases hp:p z
  ·exact dI ⟨_,rfl,s5.trans s6,s6 _ _ hy,by rw [e,hp];simp⟩
  ·refine jb ⟨_,rfl,s6 _ _ hy,bh ?_,_,rfl,λ b o eb=>by rw [aq (au eb hD)];exact s6 _ _ (s5 _ _ eb),ah,by rw [e,hp];simp⟩
   rw [List.length_map]
   have:=List.length_filter_le p (zs.take i)
   have:=List.length_take_le i zs
   have:=List.length_take (i:=i) (l:=zs)
   omega
 ·rintro σ H5 ys ⟨v,rfl,s5,hy,rfl⟩
  rw [List.take_of_length_le (by simp)] at hy
  exact hd H5 s5 hy
theorem DL {d:Addr} {o:Obj} {kvs:List (Key × V)} (D:Addr) {ks:List Int} {ρ σ:St} {tt:TT} {H:Hp} {R:Hp->Prop} (p:Int->Bool) (hσ:σ=none :: ρ) (hk:kvs.map (·.1)=ks.map Sum.inl) (hn:ks.length ≤ 1000) (ha:H d=some (.frz o (.dK kvs))) (hD:H D=none)
  (ht:∀ z ∈ ks,∀ H',ao H H'->∀ Q:Bool->Hp->Prop,(∀ H'',ao H' H''->Q (p z) H'')->tt (some (.int z) :: ρ) H' Q)
  (hd:∀ H',ao H H'->H' D=some (.lst ((ks.filter p).map V.int))->R H') :
  ∃ W:Nat->Nat->St->Hp->List V->Prop,(∃ m,W 0 m σ (upd H D (.lst [])) []) /\ ∀ i m σ' H' ys,W i m σ' H' ys->((Itd d o kvs).stop i H' /\ R H') ∨
   ((Itd d o kvs).go i H' /\ ∃ N:St->Hp->List V->Prop,(∀ σ' H' ys',N σ' H' ys'->∃ m',m' < m /\ W (i + 1) m' σ' H' ys') /\ ∀ x H2,(Itd d o kvs).yld i H' x H2->(qb 0) x σ' H2 λ σ3 H3=>tt σ3 H3 λ b H4=>if b=true then
    (d9 0) σ3 H4 λ y H5=>H5 D=some (.lst ys) /\ ys.length < sizeLine /\ N σ3 (upd H5 D (.lst (ys ++ [y]))) (ys ++ [y])
    else N σ3 H4 ys):=by
 have hkl:kvs.length=ks.length:=by have:=congrArg List.length hk;simpa using this
 refine Il D (Pv:=λ i σ H5 ys=>∃ v:Option V,σ=v :: ρ /\ ao H H5 /\ H5 D=some (.lst ys) /\ ys =((ks.take i).filter p).map V.int) ⟨none,hσ,ao.new hD,ah,rfl⟩ (λ i σ H5 ys _ z0=>by obtain⟨_,_,s5,_⟩:=z0;exact s5 _ _ ha) ?_ ?_
 ·rintro i k v0 σ H5 ys hi ⟨v,rfl,s5,hy,rfl⟩
  have hz':(kvs.map (·.1))[i]? = some k:=by rw [List.getElem?_map,hi];rfl
  rw [hk,List.getElem?_map] at hz'
  obtain⟨z,hz,rfl⟩:=Option.map_eq_some_iff.mp hz'
  have hm:=List.mem_of_getElem? hz
  refine ht z hm H5 s5 _ λ H6 s6=>?_
  have e:(ks.take (i + 1)).filter p =(ks.take i).filter p ++(if p z=true then [z] else []):=by
   rw [List.take_add_one,hz,List.filter_append]
   cases hp:p z <;> simp [List.filter_cons,hp]
  cases hp:p z
  ·exact dI ⟨_,rfl,s5.trans s6,s6 _ _ hy,by rw [e,hp];simp⟩
  ·refine jb ⟨_,rfl,s6 _ _ hy,bh ?_,_,rfl,λ b o eb=>by rw [aq (au eb hD)];exact s6 _ _ (s5 _ _ eb),ah,by rw [e,hp];simp;rfl⟩
   rw [List.length_map]
   have:=List.length_filter_le p (ks.take i)
   have:=List.length_take (i:=i) (l:=ks)
   omega
 ·rintro σ H5 ys ⟨v,rfl,s5,hy,rfl⟩
  rw [List.take_of_length_le (by omega)] at hy
  exact hd H5 s5 hy
theorem qx {ns:List Int} {p:Int->Bool} {n:Int} (hn:ns.Nodup) (hm:n ∈ ns) (hp:p n=true) (hu:∀ m ∈ ns,p m=true->m=n):ns.filter p = [n]:=by
 have h1:(ns.filter p).Nodup:=List.Pairwise.sublist List.filter_sublist hn
 have h2:∀ m ∈ ns.filter p,m=n:=λ m h=>hu m (List.mem_filter.mp h).1 (List.mem_filter.mp h).2
 have h3:n ∈ ns.filter p:=List.mem_filter.mpr ⟨hm,hp⟩
 match e:ns.filter p with
 | []=>rw [e] at h3;cases h3
 | [x]=>rw [e] at h2;rw [h2 x (by simp)]
 | x :: y :: l =>
  rw [e] at h1 h2
  have a:=h2 x (by simp)
  have b:=h2 y (by simp)
  have:=(List.pairwise_cons.mp h1).1 y (by simp)
  omega
theorem G0 {Pr:V->Q54->Prop} {kvs:List (Key × V)} {M:M54} (h:aX Pr kvs M) {ks:List Int} (e:kvs.map (·.1)=ks.map Sum.inl):ks.Nodup:=by
 have:=h.nd
 rw [e] at this
 exact(List.pairwise_map.mp this).imp λ h z=>h (by rw [z])
theorem Mh {ns:List Int} (h:ns.Pairwise (· ≤ ·)) (hn:ns.Nodup):ns.Pairwise (· < ·):=(h.and hn).imp λ⟨a,b⟩=>by have:¬ _=_:=b;omega
def iy (PL:List (V × Int)) (d:Int):List V:=(PL.filter λ x=>decide (x.2=d)).map (·.1)
theorem jW (PL:List (V × Int)) (v:V) (x d:Int):iy (PL ++ [(v,x)]) d=iy PL d ++(if x=d then [v] else []):=by
 unfold iy
 rw [List.filter_append,List.map_append]
 congr 1
 by_cases h:x=d
 ·rw [if_pos h];simp [List.filter_cons,h]
 ·rw [if_neg h];simp [List.filter_cons,h]
theorem KZ (PL:List (V × Int)) (d:Int):(iy PL d).length ≤ PL.length:=by unfold iy;rw [List.length_map];exact List.length_filter_le _ _
def upB {α:Type} (f:Bool->α) (b0:Bool) (y:α):Bool->α:=λ b=>if b=b0 then y else f b
theorem fT {α:Type} {f:Bool->α} {b0:Bool} {y:α}:upB f b0 y b0=y:=if_pos rfl
theorem iF {α:Type} {f:Bool->α} {b0 b:Bool} {y:α} (h:b ≠ b0):upB f b0 y b=f b:=if_neg h
structure G2 (H0 H:Hp) (s:Bool->Addr) (kvs:Bool->List (Key × V)) (PL:Bool->List (V × Int)):Prop where
 at_:∀ b,H (s b)=some (.dK (kvs b))
 ne:s true ≠ s false
 len:∀ b,(kvs b).length ≤(PL b).length
 nd:∀ b,((kvs b).map (·.1)).Nodup
 gH:∀ b,jx (kvs b)
 val:∀ b d,(∃ l,aZ (kvs b) (Sum.inl d)=some (.ref l) /\ H l=some (.lst (iy (PL b) d))) ∨(aZ (kvs b) (Sum.inl d)=none /\ iy (PL b) d = [])
 ex:∀ b d,(aZ (kvs b) (Sum.inl d)).isSome=true->iy (PL b) d ≠ []
 fr:∀ b d l,aZ (kvs b) (Sum.inl d)=some (.ref l)->H0 l=none
 inj:∀ b d b' d' l,aZ (kvs b) (Sum.inl d)=some (.ref l)->aZ (kvs b') (Sum.inl d')=some (.ref l)->b=b' /\ d=d'
 same:ao H0 H
 sf:∀ b,H0 (s b)=none
theorem mT {PL:Bool->List (V × Int)} {b0 b:Bool} {v:V} {x d:Int} (h:¬(b=b0 /\ d=x)):iy (upB PL b0 (PL b0 ++ [(v,x)]) b) d=iy (PL b) d:=by
 by_cases hb:b=b0
 ·subst hb
  rw [fT,jW,if_neg (λ z=>h ⟨rfl,z.symm⟩),List.append_nil]
 ·rw [iF hb]
theorem DI {K:PySem.W.Frag} {D:Ends} {σ:St} {H0 H:Hp} {s:Bool->Addr} {kvs:Bool->List (Key × V)} {PL:Bool->List (V × Int)} (b0:Bool) {i j:Nat} {v:V} {x:Int} {tk:TE} (G:G2 H0 H s kvs PL) (hi:σ[i]? = some (some (.ref (s b0)))) (hj:σ[j]? = some (some v)) (hk:∀ Qc:VK,Qc (.int x) H->tk σ H Qc) (hl:∀ b,(PL b).length ≤ 900) (q:∀ H' kvs',G2 H0 H' s kvs' (upB PL b0 (PL b0 ++ [(v,x)]))->D.nx σ H') :
  vd (tBM K "list" ve (Hs (d9 i) tk (Kc fm)) (jN (d9 j) fm)) D σ H:=by
 refine⟨_,hi,s b0,rfl,.inl ⟨kvs b0,.inl (G.at_ b0)⟩,hk _ ⟨Nat.zero_le _,λ e he=>?_⟩⟩
 have s3:ao H (upd H e (.lst [])):=ao.new he
 have he3:upd H e (.lst []) e=some (.lst []):=ah
 generalize upd H e (.lst [])=H3 at s3 he3 ⊢
 have hs3:∀ b,H3 (s b)=some (.dK (kvs b)):=λ b=>s3 _ _ (G.at_ b)
 have nes:∀ b,s b ≠ e:=λ b=>au (G.at_ b) he
 have hlen:∀(kv:Bool->List (Key × V)),(∀ b,b ≠ b0->kv b=kvs b)->(kv b0).length ≤(kvs b0).length + 1->∀ b,(kv b).length ≤(upB PL b0 (PL b0 ++ [(v,x)]) b).length:=λ kv h1 h2 b=>by
  have:=G.len b
  by_cases hb:b=b0
  ·subst hb;rw [fT];simp;omega
  ·rw [iF hb,h1 b hb];exact this
 refine⟨kvs b0,Sum.inl x,hs3 b0,rfl,bh (by have:=G.len b0;have:=hl b0;omega),λ w' hw=>?_,λ hn=>?_⟩
 ·rcases G.val b0 x with⟨l,hl1,hl2⟩ |⟨hl1,_⟩
  case inr=>rw [hl1] at hw;cases hw
  rw [hl1] at hw
  cases hw
  have hl3:=s3 _ _ hl2
  have nls:∀ b,l ≠ s b:=λ b=>bB hl3 (hs3 b) (by intro z;cases z)
  refine⟨.inl ⟨rfl,_,SqL.of hl3⟩,_,hj,l,_,_,rfl,rfl,hl3,bh (by have:=KZ (PL b0) x;have:=hl b0;omega),?_⟩
  refine q _ kvs ⟨λ b=>by rw [aq (nls b).symm];exact hs3 b,G.ne,hlen kvs (λ _ _=>rfl) (by omega),G.nd,G.gH,λ b d=>?_,λ b d h=>?_,G.fr,G.inj,λ b' o eb=>?_,G.sf⟩
  ·by_cases hb:b=b0 /\ d=x
   ·obtain⟨rfl,rfl⟩:=hb
    exact .inl ⟨l,hl1,by rw [ah,fT,jW,if_pos rfl]⟩
   ·rw [mT hb]
    rcases G.val b d with⟨l',a1,a2⟩ | h
    ·refine .inl ⟨l',a1,?_⟩
     rw [aq (show l' ≠ l from λ z=>hb (G.inj b d b0 x l (by rw [← z];exact a1) hl1))]
     exact s3 _ _ a2
    ·exact .inr h
  ·by_cases hb:b=b0 /\ d=x
   ·obtain⟨rfl,rfl⟩:=hb
    rw [fT,jW,if_pos rfl];simp
   ·rw [mT hb];exact G.ex b d h
  ·rw [aq (au eb (G.fr _ _ _ hl1))];exact s3 _ _ (G.same _ _ eb)
 ·have he4:upd H3 (s b0) (.dK (putK (kvs b0) (Sum.inl x) (.ref e))) e=some (.lst []):=by rw [aq (nes b0).symm];exact he3
  refine⟨.inl ⟨rfl,_,SqL.of he4⟩,_,hj,e,_,_,rfl,rfl,he4,by decide,?_⟩
  have heH:H0 e=none:=G.same.free he
  have hno:∀ b d l,aZ (kvs b) (Sum.inl d)=some (.ref l)->l ≠ e:=λ b d l h z=>by
   rcases G.val b d with⟨l',hl',hl2'⟩ |⟨h',_⟩
   ·rw [hl'] at h;cases h
    rw [z,he] at hl2';cases hl2'
   ·rw [h'] at h;cases h
  have hv0:∀ d,aZ (upB kvs b0 (putK (kvs b0) (Sum.inl x) (.ref e)) b0) (Sum.inl d)=if (Sum.inl d:Key)=Sum.inl x then some (.ref e) else aZ (kvs b0) (Sum.inl d):=λ d=>by rw [fT,iS]
  have hv:∀ b d,¬(b=b0 /\ d=x)->aZ (upB kvs b0 (putK (kvs b0) (Sum.inl x) (.ref e)) b) (Sum.inl d)=aZ (kvs b) (Sum.inl d):=λ b d h=>by
   by_cases hb:b=b0
   ·subst hb;rw [hv0,if_neg (λ z=>h ⟨rfl,Sum.inl.inj z⟩)]
   ·rw [iF hb]
  have hvx:aZ (upB kvs b0 (putK (kvs b0) (Sum.inl x) (.ref e)) b0) (Sum.inl x)=some (.ref e):=by rw [hv0,if_pos rfl]
  have hsel:iy (PL b0) x = []:=by
   rcases G.val b0 x with⟨l,hl',_⟩ |⟨_,h⟩
   ·rw [hl'] at hn;cases hn
   ·exact h
  refine q _ (upB kvs b0 (putK (kvs b0) (Sum.inl x) (.ref e))) ⟨λ b=>?_,G.ne,hlen _ (λ b hb=>iF hb) (by rw [fT];exact cV _ _ _),λ b=>?_,λ b=>?_,λ b d=>?_,λ b d h=>?_,λ b d l h=>?_,λ b d b' d' l h h'=>?_,λ b' o eb=>?_,G.sf⟩
  ·rw [aq (nes b)]
   by_cases hb:b=b0
   ·subst hb;rw [ah,fT]
   ·have:s b ≠ s b0:=λ z=>by
     have:=G.ne
     cases b <;> cases b0
     ·exact hb rfl
     ·exact this z.symm
     ·exact this z
     ·exact hb rfl
    rw [aq this,iF hb];exact hs3 b
  ·by_cases hb:b=b0
   ·subst hb;rw [fT];exact HE _ (G.nd b)
   ·rw [iF hb];exact G.nd b
  ·by_cases hb:b=b0
   ·subst hb;rw [fT];exact(G.gH b).put x _
   ·rw [iF hb];exact G.gH b
  ·by_cases hb:b=b0 /\ d=x
   ·obtain⟨rfl,rfl⟩:=hb
    exact .inl ⟨e,hvx,by rw [ah,fT,jW,if_pos rfl,hsel]⟩
   ·rw [mT hb,hv b d hb]
    rcases G.val b d with⟨l',a1,a2⟩ | h
    ·refine .inl ⟨l',a1,?_⟩
     rw [aq (hno _ _ _ a1),aq (bB (s3 _ _ a2) (hs3 b0) (by intro z;cases z))]
     exact s3 _ _ a2
    ·exact .inr h
  ·by_cases hb:b=b0 /\ d=x
   ·obtain⟨rfl,rfl⟩:=hb
    rw [fT,jW,if_pos rfl];simp
   ·rw [hv b d hb] at h
    rw [mT hb];exact G.ex b d h
  ·by_cases hb:b=b0 /\ d=x
   ·obtain⟨rfl,rfl⟩:=hb
    rw [hvx] at h;cases h;exact heH
   ·rw [hv b d hb] at h;exact G.fr _ _ _ h
  ·by_cases hb:b=b0 /\ d=x
   ·by_cases hb':b'=b0 /\ d'=x
    ·exact⟨hb.1.trans hb'.1.symm,hb.2.trans hb'.2.symm⟩
    ·rw [hv b' d' hb'] at h'
     obtain⟨rfl,rfl⟩:=hb
     rw [hvx] at h;cases h
     exact absurd rfl (hno _ _ _ h')
   ·rw [hv b d hb] at h
    by_cases hb':b'=b0 /\ d'=x
    ·obtain⟨rfl,rfl⟩:=hb'
     rw [hvx] at h';cases h'
     exact absurd rfl (hno _ _ _ h)
    ·rw [hv b' d' hb'] at h';exact G.inj _ _ _ _ _ h h'
  ·rw [aq (au eb heH),aq (au eb (G.sf b0))];exact s3 _ _ (G.same _ _ eb)
structure PQs (Pr:V->Q54->Prop) (M:M54) (PQ:List (Int × V × Q54)):Prop where
 nd:(PQ.map (·.1)).Nodup
 inM:∀ t ∈ PQ,M t.1=some t.2.2 /\ Pr t.2.1 t.2.2
 all:∀ m w,M m=some w->∃ v,(m,v,w) ∈ PQ
theorem PQs.of {Pr:V->Q54->Prop} {kvs:List (Key × V)} {M:M54} (h:aX Pr kvs M) {ns:List Int} (hn:ns.Nodup) (hm:∀ n,n ∈ ns ↔ (M n).isSome=true):∃ PQ:List (Int × V × Q54),PQs Pr M PQ /\ PQ.map (·.1)=ns /\ ∀ t ∈ PQ,aZ kvs (Sum.inl t.1)=some t.2.1:=by
 have key:∀ l:List Int,(∀ n ∈ l,(M n).isSome=true)->∃ PQ:List (Int × V × Q54),PQ.map (·.1)=l /\ ∀ t ∈ PQ,M t.1=some t.2.2 /\ Pr t.2.1 t.2.2 /\ aZ kvs (Sum.inl t.1)=some t.2.1:=by
  intro l
  induction l with
  | nil=>intro _;exact⟨[],rfl,λ t h=>by cases h⟩
  | cons a l ih =>
   intro hl
   obtain⟨PQ,h1,h2⟩:=ih λ n hn=>hl n (List.mem_cons_of_mem _ hn)
   obtain⟨u,hu⟩:=Option.isSome_iff_exists.mp (hl a (by simp))
   obtain⟨v,hv,hp⟩:=h.dz a u hu
   refine⟨(a,v,u) :: PQ,by simp [h1],λ t ht=>?_⟩
   rcases List.mem_cons.mp ht with rfl | ht
   ·exact⟨hu,hp,hv⟩
   ·exact h2 t ht
 obtain⟨PQ,h1,h2⟩:=key ns λ n hn=>(hm n).mp hn
 refine⟨PQ,⟨by rw [h1];exact hn,λ t ht=>⟨(h2 t ht).1,(h2 t ht).2.1⟩,λ m w e=>?_⟩,h1,λ t ht=>(h2 t ht).2.2⟩
 have:m ∈ ns:=(hm m).mpr (by rw [e];rfl)
 rw [← h1] at this
 obtain⟨t,ht,rfl⟩:=List.mem_map.mp this
 have:=(h2 t ht).1
 rw [e] at this
 exact⟨t.2.1,by rw [Option.some.inj this];exact ht⟩
theorem PQs.one {Pr:V->Q54->Prop} {M:M54} {PQ:List (Int × V × Q54)} (h:PQs Pr M PQ) (f:Q54->Int) (x:Int) :
  (∃ n v q,iy (PQ.map λ t=>(t.2.1,f t.2.2)) x = [v] /\ Pr v q /\ M n=some q /\ f q=x /\ ∀ m w,M m=some w->f w=x->m=n) ∨
  ((iy (PQ.map λ t=>(t.2.1,f t.2.2)) x).length ≠ 1 /\ ∀ n q,M n=some q->f q=x->∃ m w,M m=some w /\ f w=x /\ m ≠ n):=by
 have e:iy (PQ.map λ t=>(t.2.1,f t.2.2)) x =(PQ.filter λ t=>decide (f t.2.2=x)).map (·.2.1):=by
  unfold iy
  rw [List.filter_map,List.map_map];rfl
 rw [e]
 have hin:∀ t ∈ PQ.filter (λ t=>decide (f t.2.2=x)),t ∈ PQ /\ f t.2.2=x:=λ t ht=>⟨(List.mem_filter.mp ht).1,by simpa using (List.mem_filter.mp ht).2⟩
 have hnd:((PQ.filter λ t=>decide (f t.2.2=x)).map (·.1)).Nodup:=List.Pairwise.sublist (List.filter_sublist.map _) h.nd
 have hall:∀ m w,M m=some w->f w=x->∃ v,(m,v,w) ∈ PQ.filter (λ t=>decide (f t.2.2=x)):=λ m w e1 e2=>by
  obtain⟨v,hv⟩:=h.all m w e1
  exact⟨v,List.mem_filter.mpr ⟨hv,by simpa using e2⟩⟩
 generalize PQ.filter (λ t=>decide (f t.2.2=x))=F at hin hnd hall
 match F with
 | []=>exact .inr ⟨by simp,λ n q e1 e2=>by obtain⟨v,hv⟩:=hall n q e1 e2;cases hv⟩
 | [t] =>
  have ht:=hin t (by simp)
  refine .inl ⟨t.1,t.2.1,t.2.2,rfl,(h.inM t ht.1).2,(h.inM t ht.1).1,ht.2,λ m w e1 e2=>?_⟩
  obtain⟨v,hv⟩:=hall m w e1 e2
  have:=List.mem_singleton.mp hv
  rw [← this]
 | t :: u :: F =>
  refine .inr ⟨by simp,λ n q e1 e2=>?_⟩
  have ht:=hin t (by simp)
  have hu:=hin u (by simp)
  have hne:t.1 ≠ u.1:=(List.pairwise_cons.mp hnd).1 _ (by simp)
  by_cases z:t.1=n
  ·exact⟨u.1,u.2.2,(h.inM u hu.1).1,hu.2,λ z'=>hne (z.trans z'.symm)⟩
  ·exact⟨t.1,t.2.2,(h.inM t ht.1).1,ht.2,z⟩
def onM (M:M54) (f:Q54->Bool) (z:Int):Bool:=((M z).map f).getD false
theorem dg {M:M54} {f:Q54->Bool} {z:Int} {w:Q54} (h:M z=some w):onM M f z=f w:=by unfold onM;rw [h];rfl
theorem dV (a b:Int):decide (V.int a=V.int b)=decide (a=b):=by
 by_cases h:a=b
 ·rw [h,decide_eq_true rfl,decide_eq_true rfl]
 ·rw [decide_eq_false h,decide_eq_false λ z=>h (V.int.inj z)]
theorem jv {C:Addr} {H:Hp} {p d:Addr} {fl:Int} {kvs:List (Key × V)} (h:bO C H p d fl kvs):bZ H [p,d]:=λ x hx=>by
 obtain⟨dx,h1,h2⟩:=h
 simp only [List.mem_cons,List.not_mem_nil,or_false] at hx
 rcases hx with rfl | rfl
 ·exact .inr ⟨_,_,_,_,h1⟩
 ·exact .inl ⟨_,h2⟩
theorem iR {kvs:List (Key × V)} {k:Key} {v:V} (h:aZ kvs k=some v):(bR kvs k).length < kvs.length:=by
 have:=kK.mp (show(aZ kvs k).isSome=true by rw [h];rfl)
 obtain⟨kv,hkv,e⟩:=List.mem_map.mp this
 unfold bR
 rw [List.length_filter_lt_length_iff_exists]
 exact⟨kv,hkv,by simp [e]⟩
structure ES (H:Hp) (L:List V) (es:List E54):Prop where
 len:L.length=es.length
 get:∀(i:Nat) v e,L[i]? = some v->es[i]? = some e->EAt H v e
theorem ES.snoc {H:Hp} {L:List V} {es:List E54} {v:V} {e:E54} (h:ES H L es) (hv:EAt H v e):ES H (L ++ [v]) (es ++ [e]) :=
 ⟨by simp [h.len],λ i w g e1 e2=>by
  by_cases hi:i < L.length
  ·rw [List.getElem?_append_left hi] at e1
   rw [List.getElem?_append_left (by rw [← h.len];exact hi)] at e2
   exact h.get i w g e1 e2
  ·have hlt:=(List.getElem?_eq_some_iff.mp e1).1
   have:i=L.length:=by simp at hlt;omega
   subst this
   rw [List.getElem?_append_right (Nat.le_refl _)] at e1
   rw [h.len,List.getElem?_append_right (Nat.le_refl _)] at e2
   simp at e1 e2
   subst e1 e2
   exact hv⟩
def OkE (m:Nat) (e:E54):Prop:=e.d ≤ m /\(e.s = -1 ∨ 0 ≤ e.s) /\ e.s <(e.d:Int)
theorem ES.add {H0 H:Hp} {l t:Addr} {L:List V} {es:List E54} (e:E54) (h0:H0 l=none) (s:ao H0 H) (hl:H l=some (.lst L)) (h:ES H L es) (ht:H t=none) :
  ao H0 (upd (upd H t (.tup [.int e.s,.int (e.d:Int),.bl e.h])) l (.lst (L ++ [V.ref t]))) /\ upd (upd H t (.tup [.int e.s,.int (e.d:Int),.bl e.h])) l (.lst (L ++ [V.ref t])) l=some (.lst (L ++ [V.ref t])) /\ ES (upd (upd H t (.tup [.int e.s,.int (e.d:Int),.bl e.h])) l (.lst (L ++ [V.ref t]))) (L ++ [V.ref t]) (es ++ [e]):=by
 have nlt:l ≠ t:=au hl ht
 refine⟨λ b o eb=>?_,ah,ES.snoc ⟨h.len,λ i v e' e1 e2=>?_⟩ ⟨t,rfl,by rw [aq nlt.symm,ah]⟩⟩
 ·rw [aq (au eb h0),aq (au (s _ _ eb) ht)];exact s _ _ eb
 ·obtain⟨t',a,b⟩:=h.get i v e' e1 e2
  exact⟨t',a,by rw [aq (bB b hl (by intro z;cases z)),aq (au b ht)];exact b⟩
theorem apE {K:PySem.W.Frag} {D:Ends} {σ:St} {H:Hp} {tA:TA} {l:Addr} {L:List V} {s d:Int} {h:Bool} (hi:σ[2]? = some (some (.ref l))) (hl:H l=some (.lst L)) (hL:L.length ≤ 900) (hA:∀ Q:List V->Hp->Prop,Q [.int s,.int d,.bl h] H->tA σ H Q)
  (q:∀ t,H t=none->D.nx σ (upd (upd H t (.tup [.int s,.int d,.bl h])) l (.lst (L ++ [V.ref t])))):vd (tBM K "list" ve (d9 2) (jN (Kq tA) fm)) D σ H :=
 ⟨_,hi,.inl ⟨rfl,_,SqL.of hl⟩,hA _ ⟨(by show 3 ≤ sizeLine;decide),λ t ht=>⟨l,L,.ref t,rfl,rfl,(by rw [aq (au hl ht)];exact hl),bh (by omega),q t ht⟩⟩⟩
theorem OF {K:PySem.W.Frag} {σ:St} {H:Hp} {i j:Nat} {h:Bool} {rl:Addr} {RL:List V} {rows:List (Nat × Nat)} (hi:σ[i]? = some (some (.bl h))) (hj:σ[j]? = some (some (.ref rl))) (hl:H rl=some (.lst RL)) (hlen:RL.length=rows.length) {Qc:VK} (q:∀ g H',ao H H'->(g=false->rows ≠ [])->Qc (.bl g) H'):Nc (Lu (d9 i)) (tOp (ML K) (d9 j) (Kc fm)) σ H Qc:=by
 refine⟨_,hi,_,rfl,_,rfl,dF (λ _=>q true H (ao.refl _) (λ z=>by cases z)) (λ _=>⟨_,hj,Nat.zero_le _,λ z hz=>?_⟩)⟩
 have s1:ao H (upd H z (.lst [])):=ao.new hz
 by_cases hr:rows = []
 ·refine⟨0,true,by omega,⟨rl,z,RL,[],λ _=>true,rfl,rfl,.inl ⟨SqL.of (s1 _ _ hl),SqL.of ah,by rw [hlen,hr];rfl,λ j x' y' _ e=>by simp at e,by rw [hlen,hr];rfl⟩⟩,q true _ s1 λ z=>by cases z⟩
 ·refine⟨0,false,by omega,⟨rl,z,RL,[],λ _=>true,rfl,rfl,.inr (.inl ⟨SqL.of (s1 _ _ hl),SqL.of ah,?_,rfl⟩)⟩,q false _ s1 λ _=>hr⟩
  rw [hlen]
  intro e
  exact hr (List.length_eq_zero_iff.mp e)
theorem IU (ns:List Int) (lo hi:Option Int):∃ cs:List Int,j8 (ns.map V.int) lo hi=cs.map V.int /\ cs.length ≤ ns.length:=by
 unfold j8
 refine⟨(ns.drop (HT.sIx (ns.map V.int).length 0 lo)).take (HT.sIx (ns.map V.int).length (ns.map V.int).length hi - HT.sIx (ns.map V.int).length 0 lo),by rw [List.map_take,List.map_drop],?_⟩
 rw [List.length_take,List.length_drop];omega
theorem EJ {wd:Nat} {r1 r2:List (Nat × Nat)} (h:∀ r ∈ r1 ++ r2,r.1 < wd):(aV (aV [] r1) r2).length ≤ wd:=by
 have hn:=ck r2 (ck r1 (rs:=[]) (by simp))
 have:=yT hn λ x hx=>by
  rcases iV _ _ _ hx with h' | h'
  ·rcases iV _ _ _ h' with h' | h'
   ·simp at h'
   ·obtain⟨r,hr,rfl⟩:=List.mem_map.mp h';exact h r (by simp [hr])
  ·obtain⟨r,hr,rfl⟩:=List.mem_map.mp h';exact h r (by simp [hr])
 simpa using this
theorem KQ (r1 r2:List (Nat × Nat)) (k:Nat):dm (aV (aV [] r1) r2) k=dQ (r1 ++ r2) k:=by
 rw [kN,xF,AG]
theorem B9 {M:M54} {ks:List Int} {f:Q54->Bool} (hm:∀ n,n ∈ ks ↔ (M n).isSome=true) (h:(ks.filter (onM M f)).length=1):∃ n q,M n=some q /\ f q=true /\(∀ m w,M m=some w->f w=true->m=n) /\ ks.filter (onM M f) = [n]:=by
 obtain⟨n,hn⟩:=List.length_eq_one_iff.mp h
 have h1:n ∈ ks.filter (onM M f):=by rw [hn];simp
 obtain⟨q,hq⟩:=Option.isSome_iff_exists.mp ((hm n).mp (List.mem_filter.mp h1).1)
 have h2:=(List.mem_filter.mp h1).2
 rw [dg hq] at h2
 refine⟨n,q,hq,h2,λ m w e1 e2=>?_,hn⟩
 have:m ∈ ks.filter (onM M f):=List.mem_filter.mpr ⟨(hm m).mpr (by rw [e1];rfl),by rw [dg e1];exact e2⟩
 rw [hn] at this
 exact List.mem_singleton.mp this
theorem jg {c:TT} {t u:TS} {D:Ends} {σ:St} {H:Hp} (PF:Hp->Prop) (hc:∀ Q:Bool->Hp->Prop,(∀ H',PF H'->Q false H')->c σ H Q) (hu:∀ H',PF H'->u D σ H'):yI c t u D σ H:=hc _ λ H' p=>dI (hu H' p)
theorem AF {rows:List (Nat × Nat)} (h:rows ≠ []):∃ ri r,rows=ri ++ [r]:=⟨rows.dropLast,rows.getLast h,(List.dropLast_concat_getLast h).symm⟩
theorem Dl (ri:List (Nat × Nat)) (r:Nat × Nat):gi (ri ++ [r]) ((ri ++ [r]).length - 1) 5=ri ++ [(r.1,r.2 ^^^ 5)]:=by
 rw [show(ri ++ [r]).length - 1=ri.length by simp,uh (r:=r) (by simp)]
 simp
theorem Bt {H:Hp} {L:List V} {ri:List (Nat × Nat)} {r:Nat × Nat} (R:bG H L (ri ++ [r])):∃ Li t,L=Li ++ [V.ref t] /\ H t=some (.tup [.int (r.1:Int),.int (r.2:Int)]) /\ bG H Li ri:=by
 have hl:L.length=ri.length + 1:=by have:=R.len;simpa using this
 have hne:L ≠ []:=λ z=>by rw [z] at hl;simp at hl
 obtain⟨Li,x,rfl⟩:∃ Li x,L=Li ++ [x]:=⟨L.dropLast,L.getLast hne,(List.dropLast_concat_getLast hne).symm⟩
 have hdl:Li.length=ri.length:=by simpa using hl
 obtain⟨t,r',e1,e2,e3⟩:=R.get ri.length x (by rw [← hdl];simp)
 have:r'=r:=by simpa using e2.symm
 subst this
 refine⟨Li,t,by rw [e1],e3,hdl,λ i v hv=>?_⟩
 have hi:=(List.getElem?_eq_some_iff.mp hv).1
 obtain⟨t,q,a1,a2,a3⟩:=R.get i v (by rw [List.getElem?_append_left hi];exact hv)
 exact⟨t,q,a1,by rw [List.getElem?_append_left (by omega)] at a2;exact a2,a3⟩
theorem Ck (Li:List V) (x:V):j8 (Li ++ [x]) none (some (-1))=Li:=by
 have e:HT.sIx (Li ++ [x]).length (Li ++ [x]).length (some (-1))=Li.length:=by
  unfold HT.sIx;simp;omega
 unfold j8
 rw [e]
 simp [HT.sIx]
theorem LA {wh:Bool} {b d:Nat} {rows:List (Nat × Nat)} (h:rows ≠ []):fz wh b d (gi rows (rows.length - 1) 5) ≠ fz wh b d rows:=by
 obtain⟨ri,r,rfl⟩:=AF h
 rw [Dl]
 unfold fz Chk.chk
 rw [tw,tw]
 intro e
 simp only [← List.cons_append,List.foldl_append,List.foldl_cons,List.foldl_nil] at e
 unfold Chk.stp at e
 have:=Chk.vD e
 have h2:r.2 ^^^ 5=r.2 ^^^ 0:=by rw [Nat.xor_zero];exact this
 have:=Chk.vD h2
 omega
theorem cK.inv {wt:List Int} {M M':M54} {fl fl':Int} {x:Int} {RL:List Int} {f:Int × Int × Int} {FL:List (Int × Int × Int)} (h:cK wt M fl (x :: RL) M' fl' (f :: FL)):∃ n n' q q' rows,f =(n,n',fl) /\ Rdy M x n n' q q' /\ isM (q.rows ++ q'.rows) rows /\ cK wt (fj M n n' fl ⟨q.st,q'.d,rows,true⟩) (fl + 1) RL M' fl' FL:=by
 cases h with
 | cons a b c=>exact⟨_,_,_,_,_,rfl,a,b,c⟩
theorem cK.PJ {wt:List Int} {M M':M54} {fl fl':Int} {FL:List (Int × Int × Int)} (h:cK wt M fl [] M' fl' FL):M'=M /\ fl'=fl:=by
 cases h with
 | nil=>exact⟨rfl,rfl⟩
def ja (CW CG:Addr):Sp:=λ vs H Q E=>∃(p0 a0:Addr) (st0 d0:Int) (cv0:V),vs = [.ref p0,.int st0,.int d0,.ref a0,cv0] /\(Ia CW CG vs H Q E ∨ ∃(p dx a:Addr) (d:Nat) (L:List V) (rows:List (Nat × Nat)),vs = [.ref p,.int (-1),.int (d:Int),.ref a,.non] /\ H p=some (.ins CG dx []) /\ H a=some (.lst L) /\ bG H L rows /\ rows.length ≤ 100 /\ ∀ H',bE [p] H H'->Q .non H')
theorem PcF.Oz {CW CG:Addr} {H H':Hp} {v:V} {q:Q54} {ld:Addr} {o:Obj} {lkv:List (Key × V)} (h:PcF CW CG H v q) (k:bE [ld] H H') (hz:H ld=some (.frz o (.dK lkv))):PcF CW CG H' v q:=by
 have no:∀ {x:Addr} {ho:HO},H x=some ho->ho ≠ .frz o (.dK lkv)->x ∉ [ld]:=λ e h z=>by
  have:_=ld:=List.mem_singleton.mp z
  rw [this,hz] at e;cases e;exact h rfl
 obtain⟨a,wh,b,c,h1,⟨dx,r,R,g1,⟨ob,t,g2⟩,g3⟩,h3⟩:=h
 exact⟨a,wh,b,c,h1,⟨dx,r,R,k _ _ g1 (no g1 (by intro z;cases z)),⟨ob,t,k _ _ g2 (no g2 (by intro z;cases z))⟩,g3.mono λ t xs e=>k _ _ e (no e (by intro z;cases z))⟩,h3⟩
def uJ (M:M54) (l:List Int):M54:=λ n=>if n ∈ l then M n else none
theorem HH {M:M54} {l:List Int} {n:Int} {u:Q54} (h:M n=some u):uJ M (l ++ [n])=gX (uJ M l) n (some u):=by
 funext m
 show(if m ∈ l ++ [n] then M m else none) =(if m=n then some u else if m ∈ l then M m else none)
 by_cases e:m=n
 ·subst e;rw [if_pos (by simp),if_pos rfl,h]
 ·rw [if_neg e]
  by_cases hm:m ∈ l
  ·rw [if_pos (by simp [hm]),if_pos hm]
  ·rw [if_neg (by simp [hm,e]),if_neg hm]
theorem DK {K:PySem.W.Frag} {C CN:Addr} {D:Ends} {σ:St} {H:Hp} {i j:Nat} {p d x:Addr} {fl:Int} {kvs:List (Key × V)} {M:M54} {R:TS} (hi:σ[i]? = some (some (.ref p))) (hj:σ[j]? = some (some (.ref x))) (hS:bO C H p d fl kvs) (hR:aX (λ _ _=>True) kvs M) (hl:kvs.length < 61)
  (q:∀ H' kvs' (M':M54),bO C H' p d (fl + 1) kvs'->aX (λ _ _=>True) kvs' M'->kvs'.length < 62->bE [p,d] H H'->R D σ H') :
  Ez (vd (eE C "put" (oY C) (λ _=>E0) (d9 i) (jN (d9 j) fm))) (Ez (vd (eE C "drop" (kR C CN) (λ _=>E0) (d9 i) (jN (tOp (JX K) (eE C "numbers" (gF C) (λ _=>E0) (d9 i) fm) (tC (V.int 0))) fm))) R) D σ H:=by
 obtain⟨dx,g1,g2⟩:=id hS
 refine⟨_,hi,p,dx,_,rfl,g1,cS (by decide +kernel) (by decide +kernel),_,hj,p,d,fl,kvs,x,rfl,hS,by omega,λ H1 hS1 k1=>?_⟩
 have hR1:=aX.put (v:=.ref x) (n:=fl) (u:=(⟨0,0,[],true⟩:Q54)) hR trivial
 have hl1:=cV kvs (Sum.inl fl) (V.ref x)
 have hv1:aZ (putK kvs (Sum.inl fl) (V.ref x)) (Sum.inl fl)=some (V.ref x):=by rw [iS,if_pos rfl]
 generalize putK kvs (Sum.inl fl) (V.ref x)=kv1 at hS1 hR1 hl1 hv1
 obtain⟨dx1,g11,g21⟩:=id hS1
 obtain⟨ks,hks⟩:=fP hR1.gH
 have hkl:ks.length=kv1.length:=by have:=congrArg List.length hks;simpa using this.symm
 have hin:fl ∈ ks:=by rw [hR1.keys hks,jr];rfl
 refine⟨_,hi,p,dx1,_,rfl,g11,cS (by decide +kernel) (by decide +kernel),_,hi,p,dx1,_,rfl,g11,cS (by decide +kernel) (by decide +kernel),p,d,fl + 1,kv1,ks,rfl,hS1,hks,by omega,λ l ns hl2 hp hs=>?_⟩
 have s2:ao H1 (upd H1 l (.lst (ns.map V.int))):=ao.new hl2
 have e2:upd H1 l (.lst (ns.map V.int)) l=some (.lst (ns.map V.int)):=ah
 generalize upd H1 l (.lst (ns.map V.int))=H2 at s2 e2 ⊢
 have hfn:fl ∈ ns:=hp.mem_iff.mpr hin
 obtain⟨n0,ns',rfl⟩:∃ n0 ns',ns=n0 :: ns':=by
  cases ns with
  | nil=>cases hfn
  | cons a r=>exact⟨a,r,rfl⟩
 obtain⟨u0,hu0⟩:=Option.isSome_iff_exists.mp ((hR1.keys hks n0).mp (hp.mem_iff.mp (by simp)))
 obtain⟨v0,hv0,_⟩:=hR1.dz n0 u0 hu0
 refine⟨l,_,0,V.int n0,rfl,rfl,SqL.of e2,dY (xs:=(n0 :: ns').map V.int) (j:=0) rfl,p,d,fl + 1,kv1,n0,rfl,hS1.keep s2,λ v hv H3 hS3 k3=>?_,λ hv=>absurd (hv0.symm.trans hv) (by intro z;cases z)⟩
 exact q H3 _ _ hS3 (hR1.drop n0) (by have:=iR hv0;omega) λ b o e hb=>k3 b o (s2 _ _ (k1 b o e hb)) hb
theorem cK.Pf {wt:List Int} {M M':M54} {fl fl':Int} {RL:List Int} {FL:List (Int × Int × Int)} {wd:Nat} (h:cK wt M fl RL M' fl' FL) (W:Wf wd M fl) (hq:∀ n q,M n=some q->q.rows.length ≤ 40 /\ -1 ≤ q.st /\(q.good=false->q.rows ≠ [])):∀ n q,M' n=some q->q.rows.length ≤ 40 /\ -1 ≤ q.st /\(q.good=false->q.rows ≠ []):=by
 induction h with
 | nil=>exact hq
 | cons R hm _ ih =>
  refine ih (W.fold R hm) λ m w e=>?_
  have W2:=W.fold R hm
  have hr:=(W2.rw m w e).2
  rw [fold_at R W] at e
  split at e
  ·cases e
  ·split at e
   ·cases e
    exact⟨hr,(hq _ _ R.h1).2.1,λ z=>by cases z⟩
   ·exact hq m w e
theorem LJ {lkv:List (Key × V)} {ks:List Int} (h:lkv.map (·.1)=ks.map Sum.inl):lkv.map (λ kv=>kV kv.1)=ks.map V.int:=by
 have:lkv.map (λ kv=>kV kv.1) =(lkv.map (·.1)).map kV:=by rw [List.map_map];rfl
 rw [this,h,List.map_map];rfl
theorem Iu:∀ {ks:List Int},ks ≠ []->∃ mx,mx ∈ ks /\ ∀ y ∈ ks,y ≤ mx
 | [],h=>absurd rfl h
 | [x],_=>⟨x,by simp,λ y hy=>by rw [List.mem_singleton.mp hy];exact Int.le_refl _⟩
 | x :: z :: r,_=>by
  obtain⟨mx,h1,h2⟩:=Iu (ks:=z :: r) (by simp)
  by_cases h:x ≤ mx
  ·exact⟨mx,by simp only [List.mem_cons] at h1 ⊢;exact .inr h1,λ y hy=>by rcases List.mem_cons.mp hy with rfl | hy;exact h;exact h2 y hy⟩
  ·exact⟨x,by simp,λ y hy=>by rcases List.mem_cons.mp hy with rfl | hy;exact Int.le_refl _;have:=h2 y hy;omega⟩
theorem IB {d:V} {ks:List Int} (h:ks ≠ []):∃ mx,maxD d ks=V.int mx /\ mx ∈ ks /\ ∀ y ∈ ks,y ≤ mx:=by
 obtain⟨mx,h1,h2⟩:=Iu h
 exact⟨mx,DH h1 h2,h1,h2⟩
structure Txt (K:PySem.W.Frag) (mg:Str->Option Value) (t_W:Tok) (aH:Addr) (aG:Addr) (aC:Addr) (aB:Addr) (aF:Addr) (aJ:Addr) (af:Addr) (ak:Addr) (aj:Addr):Prop where
 m_W:mg "W" = some (.int 18446744073709551615 t_W)
 Mq:mg "KeepError" = some (.ref aH)
 NP:ee K aH
 Oi:mg "NoPlace" = some (.ref aG)
 iX:ee K aG
 fU:bw K aG "place"
 NY:mg "NoPiece" = some (.ref aC)
 sJ:ee K aC
 fh:bw K aC "number"
 NQ:mg "BadPiece" = some (.ref aB)
 kF:ee K aB
 gu:bw K aB "day"
 NU:mg "NoMerge" = some (.ref aF)
 ng:ee K aF
 gP:bw K aF "day"
 gn:bw K aF "base"
 CC:mg "Piece" = some (.ref aJ)
 JH:mg "Whole" = some (.ref af)
 bT:Cls K af
 cU:bw K af "day"
 cY:bw K af "rows"
 fM:bw K af "check"
 gm:bw K af "fits"
 Ma:mg "Gain" = some (.ref ak)
 bI:Cls K ak
 cZ:bw K ak "day"
 cT:bw K ak "rows"
 fu:bw K ak "check"
 gc:bw K ak "fits"
 dP:bw K ak "base"
 PD:mg "Shelf" = some (.ref aj)
 aP:Cls K aj
 bQ:bw K aj "pieces"
 bS:bw K aj "follows"
 fC:mg "len" = none
 cX:mg "isinstance" = none
 NW:mg "int" = none
 Nq:mg "bool" = none
 mz:mg "list" = none
 oQ:mg "tuple" = none
 oX:mg "range" = none
 OE:mg "min" = none
 Bf:mg "max" = none
 jF:mg "sorted" = none
 NV:mg "zip" = none
 DA:mg "enumerate" = none
 sR:mg "dict" = none
 Hg:mg "reversed" = none
 Ml:mg "ValueError" = none
 yz:PySem.W.specialIn K (.builtin "object.__class__") "__get__" = some (some (.builtin "getset_descriptor.__get__"))
 zj:PySem.W.takesIn K (.builtin "object.__class__")=some true
 lQ:PySem.W.findIn K (.ref af) "__class__" = some (some (.builtin "object.__class__"))
 mH:PySem.W.mroIn K af (.type "object")=some true
 gM:PySem.W.kitOne K (.ref af) (.ref af)=some true
 ia:PySem.W.kitOne K (.ref af) (.ref ak)=some false
 oR:PySem.W.findIn K (.ref ak) "__class__" = some (some (.builtin "object.__class__"))
 oW:PySem.W.mroIn K ak (.type "object")=some true
 g6:PySem.W.kitOne K (.ref ak) (.ref af)=some false
 iD:PySem.W.kitOne K (.ref ak) (.ref ak)=some true
section
variable {P:Program} {w:World} {K:PySem.W.Frag} {mg:Str->Option Value} {base:Heap} {t_W:Tok} {aH:Addr} {aG:Addr} {aC:Addr} {aB:Addr} {aF:Addr} {aJ:Addr} {af:Addr} {ak:Addr} {aj:Addr}
theorem rY {f:Addr} {fd:FuncData} (F:Fun K "__init__" "NoPlace.__init__" cN f fd) (T:Txt K mg t_W aH aG aC aB aF aJ af ak aj):bq P w K mg base (CXx P w) 1 f fd ["self","place"] (jP aG "place"):=by
 refine F.okX rT (λ vs H Q E h=>?_) (λ cdv A outer s H vs Q E hr h=>?_)
 ·obtain⟨p,y0,rfl,hp,q⟩:=h;rfl
 ·obtain⟨p,y0,rfl,hp,q⟩:=h
  refine⟨_,(aD (pJ (pv 0) (pv 1) rfl)),?_⟩
  exact⟨_,rfl,_,rfl,p,aG,true,rfl,hp,T.iX,T.fU,λ dx hdx=>q dx hdx⟩
theorem rZ {f:Addr} {fd:FuncData} (F:Fun K "__init__" "NoPiece.__init__" cP f fd) (T:Txt K mg t_W aH aG aC aB aF aJ af ak aj):bq P w K mg base (CXx P w) 1 f fd ["self","number"] (jP aC "number"):=by
 refine F.okX r8 (λ vs H Q E h=>?_) (λ cdv A outer s H vs Q E hr h=>?_)
 ·obtain⟨p,y0,rfl,hp,q⟩:=h;rfl
 ·obtain⟨p,y0,rfl,hp,q⟩:=h
  refine⟨_,(aD (pJ (pv 0) (pv 1) rfl)),?_⟩
  exact⟨_,rfl,_,rfl,p,aC,true,rfl,hp,T.sJ,T.fh,λ dx hdx=>q dx hdx⟩
theorem pM {f:Addr} {fd:FuncData} (F:Fun K "__init__" "BadPiece.__init__" cH f fd) (T:Txt K mg t_W aH aG aC aB aF aJ af ak aj):bq P w K mg base (CXx P w) 1 f fd ["self","day"] (jP aB "day"):=by
 refine F.okX pP (λ vs H Q E h=>?_) (λ cdv A outer s H vs Q E hr h=>?_)
 ·obtain⟨p,y0,rfl,hp,q⟩:=h;rfl
 ·obtain⟨p,y0,rfl,hp,q⟩:=h
  refine⟨_,(aD (pJ (pv 0) (pv 1) rfl)),?_⟩
  exact⟨_,rfl,_,rfl,p,aB,true,rfl,hp,T.kF,T.gu,λ dx hdx=>q dx hdx⟩
theorem rX {f:Addr} {fd:FuncData} (F:Fun K "__init__" "NoMerge.__init__" cR f fd) (T:Txt K mg t_W aH aG aC aB aF aJ af ak aj):bq P w K mg base (CXx P w) 1 f fd ["self","day","base"] (Bh aF "day" "base"):=by
 refine F.okX r6 (λ vs H Q E h=>?_) (λ cdv A outer s H vs Q E hr h=>?_)
 ·obtain⟨p,y0,y1,rfl,hp,q⟩:=h;rfl
 ·obtain⟨p,y0,y1,rfl,hp,q⟩:=h
  refine⟨_,(av (pJ (pv 0) (pv 1) rfl)
   (aD (JI (pv 0) (pv 2) rfl))),?_⟩
  refine⟨_,rfl,_,rfl,p,aF,true,rfl,hp,T.ng,T.gP,λ dx hdx=>?_⟩
  refine⟨_,rfl,_,rfl,p,aF,true,dx,_,rfl,ah,by rw [aq (au hp hdx).symm,ah],T.ng,T.gn,(by show 1 < 1000;decide),?_⟩
  exact L6 (au hp hdx) (by decide +kernel) (q dx hdx)
theorem HF {f:Addr} {fd:FuncData} (F:Fun K "turned" "turned" jL f fd) (T:Txt K mg t_W aH aG aC aB aF aJ af ak aj) :bq P w K mg base (CXx P w) 1 f fd ["number"] (tQ):=by
 refine F.okX Ih (λ vs H Q E h=>?_) (λ cdv A outer s H vs Q E hr h=>?_)
 ·obtain⟨n,rfl,q⟩:=h;rfl
 obtain⟨n,rfl,q⟩:=h
 refine⟨_,(aD (aQ (aI cg (aI bW (aI gJ (pv 0) az) (aI cg (oO (v:=.int 18446744073709551615) rfl T.m_W ⟨_,rfl⟩) az)) (aI eB (pv 0) (kZ (n:=144115188075855872)))))),?_⟩
 refine⟨_,rfl,_,_,rfl,rfl,.inr ⟨by first | decide |(dsimp only;decide),by first | decide |(dsimp only;decide)⟩,_,_,rfl,rfl,_,_,rfl,rfl,(by first | decide |(dsimp only;decide)),_,rfl,_,_,rfl,rfl,⟨by first | decide |(dsimp only;decide),by first | decide |(dsimp only;decide)⟩,_,_,rfl,rfl,?_⟩
 exact q
theorem Du {f:Addr} {fd:FuncData} (F:Fun K "check_of" "check_of" ig f fd) (T:Txt K mg t_W aH aG aC aB aF aJ af ak aj) (wA:DefX P w K mg base "turned" 1 ["number"] tQ):bq P w K mg base (CXx P w) 2 f fd ["start","day","rows"] (ur):=by
 refine F.okX fZ (λ vs H Q E h=>?_) (λ cdv A outer s H vs Q E hr h=>?_)
 ·obtain⟨s1,d,a,L,rows,rfl,hA,R,hlen,q⟩:=h;rfl
 obtain⟨s1,d,a,L,rows,rfl,hA,R,hlen,q⟩:=h
 refine⟨_,(av (aN (i:=3) fZ.nd rfl (Or.inl rfl) (eF (aa (aI cg (pv 0) az) (aa (pv 1) ay))))
   (av (dW PassesOwn.leaving rfl (Dc (pv 2)) (jf rfl (bL (aT (i:=4) fZ.nd rfl (Or.inl rfl)) (bL (aT (i:=5) fZ.nd rfl (Or.inl rfl)) ir)))
   (aD (bV (rL PySem.F.plainAttrs_list PySem.F.slot_list_extend PySem.F.type_list_extend Hz (pv 3) (aa (eF (aa (pv 4) (aa (pv 5) ay))) ay)))))
   (av (aN (i:=6) fZ.nd rfl (Or.inl rfl) az)
   (av (dW PassesOwn.leaving rfl (cI (pv 3)) (aT (i:=7) fZ.nd rfl (Or.inl rfl))
   (aD (aN (i:=6) fZ.nd rfl (Or.inl rfl) (aI BJ (aW wA aE (hr.mono (by decide)) rfl (aa (pv 6) ay)) (pv 7)))))
   (aD (aQ (pv 6))))))),?_⟩
 refine⟨_,rfl,_,_,rfl,rfl,_,rfl,(by show 2 ≤ sizeLine;decide),λ m hm=>?_⟩
 refine⟨_,rfl,a,rfl,⟨_,(hA.keep (ao.new hm)).sq⟩,DV (K:=K) (a:=a) (xs:=L) (λ i σ H2=>∃ v4 v5:Option V,σ = [some (.int ((s1:Int) - 1)),some (.int (d:Int)),some (.ref a),some (.ref m),v4,v5,none,none] /\ ao H H2 ∧
  H2 m=some (.lst ((s1 :: d :: flat (rows.take i)).map λ z:Nat=>V.int (z:Int))))
 ⟨none,none,rfl,ao.new hm,by rw [ah];show some (HO.lst [V.int ((s1:Int) - 1 + 1),V.int (d:Int)])=_;rw [Int.sub_add_cancel];rfl⟩ (λ i σ H2 _ z0=>by obtain⟨_,_,_,s2,_⟩:=z0;exact(hA.keep s2).sq) ?_ ?_⟩
 ·rintro i v σ H2 hi ⟨v4,v5,rfl,s2,h2⟩
  obtain⟨t,r,rfl,hr2,ht⟩:=R.get i v hi
  have hil:i < rows.length:=(List.getElem?_eq_some_iff.mp hr2).1
  refine⟨t,_,rfl,SqT.of (s2 t _ ht),rfl,_,_,rfl,_,_,rfl,rfl,?_⟩
  refine⟨_,rfl,.inl ⟨rfl,_,SqL.of h2⟩,_,rfl,_,rfl,(by show 2 ≤ sizeLine;decide),λ l hl=>?_⟩
  have nml:m ≠ l:=au h2 hl
  have hml:H l=none:=s2.free hl
  refine⟨m,l,_,_,rfl,rfl,(by rw [aq nml];exact h2),ah,?_,?_⟩
  ·have e1:(flat (rows.take i)).length=2 * i:=by rw [Kz,List.length_take];omega
   show _ ≤ sizeLine
   simp only [List.length_map,List.length_cons,e1,List.length_nil]
   exact Nat.le_of_lt (bh (by omega))
  ·refine⟨_,_,rfl,λ b o e=>?_,?_⟩
   ·rw [aq (au e hm),aq (au e hml)];exact s2 b o e
   ·rw [ah]
    have e:rows.take (i + 1)=rows.take i ++ [r]:=by rw [List.take_add_one,hr2];rfl
    rw [e,tw];simp
 ·rintro σ H2 ⟨v4,v5,rfl,s2,h2⟩
  have h2:H2 m=some (.lst ((s1 :: d :: flat rows).map λ z:Nat=>V.int (z:Int))):=by
   rw [h2,R.len,List.take_length]
  refine⟨_,rfl,m,rfl,⟨_,SqL.of h2⟩,gf (K:=K) (a:=m) (xs:=(s1 :: d :: flat rows).map λ z:Nat=>V.int (z:Int)) (λ i σ H3=>∃ v7:Option V,σ = [some (.int ((s1:Int) - 1)),some (.int (d:Int)),some (.ref a),some (.ref m),v4,v5,some (.int ((((s1 :: d :: flat rows).take i).foldl Chk.stp 0:Nat):Int)),v7] /\ H3=H2)
   ⟨none,rfl,rfl⟩ (λ i σ H3 _ z0=>by obtain⟨_,_,e⟩:=z0;exact by rw [e];exact SqL.of h2) ?_ ?_⟩
  ·rintro i v σ H3 hi ⟨v7,rfl,rfl⟩
   rw [List.getElem?_map] at hi
   cases ez:(s1 :: d :: flat rows)[i]? with
   | none=>rw [ez] at hi;cases hi
   | some z =>
    rw [ez] at hi
    have hi:V.int (z:Int)=v:=Option.some.inj hi
    subst hi
    refine⟨_,rfl,_,rfl,_,rfl,_,_,rfl,rfl,?_⟩
    have e:Builtin.bitXor (tI ((((s1 :: d :: flat rows).take i).foldl Chk.stp 0:Nat):Int)) (z:Int) =((((s1 :: d :: flat rows).take (i + 1)).foldl Chk.stp 0:Nat):Int):=by
     rw [MK,uU,List.take_add_one,ez]
     simp only [Option.toList,List.foldl_append,List.foldl_cons,List.foldl_nil]
     rfl
    exact⟨some (V.int (z:Int)),by rw [← e];rfl,rfl⟩
  ·rintro σ H3 ⟨v7,rfl,rfl⟩
   refine⟨_,rfl,?_⟩
   rw [List.length_map,List.take_length]
   exact q H3 s2
theorem vq {f:Addr} {fd:FuncData} (F:Fun K "__init__" "Piece.__init__" dN f fd) (T:Txt K mg t_W aH aG aC aB aF aJ af ak aj) (pG:DefX P w K mg base "check_of" 2 ["start","day","rows"] ur):bq P w K mg base (CXx P w) 3 f fd ["self","start","day","rows","check"] (mZ K):=by
 refine F.okX kC (λ vs H Q E h=>?_) (λ cdv A outer s H vs Q E hr h=>?_)
 ·obtain⟨p,C,dx,a,s1,d,L,rows,cv,c,rfl,hp,cl,n1,n2,n3,n4,hA,R,hlen,hcv,q⟩:=h;rfl
 obtain⟨p,C,dx,a,s1,d,L,rows,cv,c,rfl,hp,cl,n1,n2,n3,n4,hA,R,hlen,hcv,q⟩:=h
 refine⟨_,(av (iC (pv 0) (pv 2) rfl)
   (av (iC (pv 0) (eV zH (by rfl) T.oQ PyProof.Rows.boot_tuple (aa (iw (N:=["place","block"]) (k:=2) (cap:=[]) rfl rfl (cI (pv 3)) (λ _ _ _ _=>(LD (K:=K) (n:=2) rfl rfl (bL (aT (i:=0) (show(["place","block"]:List Str).Nodup from by decide +kernel) rfl (Or.inl rfl) (.inr rfl)) (bL (aT (i:=1) (show(["place","block"]:List Str).Nodup from by decide +kernel) rfl (Or.inl rfl) (.inr rfl)) ir)))) (λ _ _ _ _=>jz) (λ _ _ _ _=>(dS (aa (pv 0) (aa (pv 1) ay))))) ay)) rfl)
   (av (aN (i:=5) kC.nd rfl (Or.inl rfl) (aW pG aE (hr.mono (by decide)) rfl (aa (pv 1) (aa (pv 2) (aa (bH (pv 0) rfl) ay)))))
   (av (iC (pv 0) (Le (aR yu (pv 4) tM (aU _)) (pv 5) (pv 4)) rfl)
   (aD (iC (pv 0) (iZ dw (bH (pv 0) rfl) (pv 5) (aU _)) rfl)))))),?_⟩
 have npa:a ≠ p:=bB hA hp (by intro z;cases z)
 refine⟨_,rfl,_,rfl,p,C,dx,_,rfl,hp,cl,n1,(by show 0 < 1000;decide),?_⟩
 have hp1:upd H p (.ins C dx (cz "day" (V.int (d:Int)) [])) p=some (.ins C dx [("day",V.int (d:Int))]):=ah
 have k1:bE [p] H (upd H p (.ins C dx (cz "day" (V.int (d:Int)) []))):=gZ bE.refl (.inl (by simp))
 generalize upd H p (.ins C dx (cz "day" (V.int (d:Int)) []))=H1 at hp1 k1
 have hA1:H1 a=some (.lst L):=k1 a _ hA (by simpa using npa)
 have R1:bG H1 L rows:=R.mono λ t xs e=>k1 t _ e (by have:=bB e hp (by intro z;cases z);simpa using this)
 refine⟨_,rfl,a,rfl,⟨_,SqL.of hA1⟩,λ D hD=>?_⟩
 refine jT D (K:=K) (a:=a) (xs:=L) (λ i σ H5 ys=>∃ v v':Option V,σ = [v,v'] /\ ao H1 H5 /\ H5 D=some (.lst ys) /\ bG H5 ys (rows.take i)) ⟨none,none,rfl,ao.new hD,ah,⟨rfl,λ i v e=>by simp at e⟩⟩ (λ i σ H5 ys _ z0=>by obtain⟨_,_,_,s5,_⟩:=z0;exact SqL.of (s5 a _ hA1)) ?_ ?_
 ·rintro i x σ H5 ys hi ⟨v,v',rfl,s5,hy,R5⟩
  obtain⟨t,r,rfl,hr2,ht⟩:=R1.get i x hi
  refine⟨t,_,rfl,SqT.of (s5 t _ ht),rfl,_,_,rfl,_,_,rfl,rfl,_,rfl,_,rfl,(by show 2 ≤ sizeLine;decide),λ t2 ht2=>?_⟩
  have nD:D ≠ t2:=au hy ht2
  refine⟨by rw [aq nD];exact hy,(by rw [R5.len,List.length_take];exact bh (by omega)),_,_,rfl,λ b o e=>?_,ah,?_⟩
  ·rw [aq (au e hD)];exact ao.new ht2 b _ (s5 b _ e)
  ·rw [List.take_add_one,hr2]
   refine(R5.mono λ b xs e=>?_).snoc ?_
   ·rw [aq (bB e hy (by intro z;cases z))];exact ao.new ht2 b _ e
   ·rw [aq nD.symm,ah]
 ·rintro σ H5 ys ⟨v,v',rfl,s5,hy,R5⟩
  rw [show rows.take L.length=rows by rw [R1.len,List.take_length]] at R5
  refine⟨D,_,rfl,SqL.of hy,λ r ob hr hob=>?_⟩
  have hp5:=s5 p _ hp1
  have npr:p ≠ r:=au hp5 hr
  refine⟨_,rfl,p,C,dx,_,rfl,ao.new hr p _ hp5,cl,n2,(by show 1 < 1000;decide),?_⟩
  rw [KN]
  have hp6:upd (upd H5 r (.frz ob (.tup ys))) p (.ins C dx [("day",V.int (d:Int)),("rows",V.ref r)]) p=some (.ins C dx [("day",V.int (d:Int)),("rows",V.ref r)]):=ah
  have hr6:upd (upd H5 r (.frz ob (.tup ys))) p (.ins C dx [("day",V.int (d:Int)),("rows",V.ref r)]) r=some (.frz ob (.tup ys)):=by rw [aq npr.symm,ah]
  have k6:bE [p] H5 (upd (upd H5 r (.frz ob (.tup ys))) p (.ins C dx [("day",V.int (d:Int)),("rows",V.ref r)])):=gZ (bE.of_same (ao.new hr)) (.inl (by simp))
  have R6:bG (upd (upd H5 r (.frz ob (.tup ys))) p (.ins C dx [("day",V.int (d:Int)),("rows",V.ref r)])) ys rows:=R5.mono λ t xs e=>k6 t _ e (by have:=bB e hp5 (by intro z;cases z);simpa using this)
  generalize upd (upd H5 r (.frz ob (.tup ys))) p (.ins C dx [("day",V.int (d:Int)),("rows",V.ref r)])=H6 at hp6 hr6 k6 R6
  have k06:bE [p] H H6:=λ b o e hb=>k6 b o (s5 b o (k1 b o e hb)) hb
  have npr6:r ≠ p:=npr.symm
  refine⟨_,rfl,_,rfl,_,rfl,p,C,dx,_,_,rfl,hp6,cl,n2,lg,s1,d,r,ys,rows,rfl,⟨ob,hob,hr6⟩,R6,hlen,λ H7 s7=>?_⟩
  have last:Q V.non (upd (upd H7 p (.ins C dx [("day",V.int (d:Int)),("rows",V.ref r),("check",V.int c)])) p (.ins C dx (cz "fits" (V.bl (decide (V.int c=V.int ((Chk.chk (s1 :: d :: flat rows):Nat):Int)))) [("day",V.int (d:Int)),("rows",V.ref r),("check",V.int c)]))):=by
   rw [Jy,vc,O6]
   refine q r ys _ ah ⟨ob,hob,by rw [aq npr6];exact s7 r _ hr6⟩ (R6.mono λ t xs e=>?_) λ b o e hb=>?_
   ·rw [aq (bB e hp6 (by intro z;cases z))];exact s7 t _ e
   ·rw [aq (by simpa using hb)];exact s7 b _ (k06 b o e hb)
  rcases hcv with⟨rfl,hc⟩ | rfl
  ·subst hc
   refine⟨_,rfl,rfl,_,rfl,?_⟩
   refine Ag rfl ?_
   refine⟨_,rfl,_,rfl,p,C,dx,_,rfl,s7 p _ hp6,cl,n3,(by show 2 < 1000;decide),?_⟩
   rw [AE]
   refine⟨_,rfl,p,C,dx,_,_,rfl,ah,cl,n3,pV,_,rfl,rfl,_,rfl,p,C,dx,_,rfl,ah,cl,n4,(by show 3 < 1000;decide),?_⟩
   exact last
  ·refine⟨_,rfl,rfl,_,rfl,?_⟩
   refine zl (by intro h;cases h) ?_
   refine⟨_,rfl,_,rfl,p,C,dx,_,rfl,s7 p _ hp6,cl,n3,(by show 2 < 1000;decide),?_⟩
   rw [AE]
   refine⟨_,rfl,p,C,dx,_,_,rfl,ah,cl,n3,pV,_,rfl,rfl,_,rfl,p,C,dx,_,rfl,ah,cl,n4,(by show 3 < 1000;decide),?_⟩
   exact last
theorem kD {f:Addr} {fd:FuncData} {dV:Value} (F:wB K "__init__" "Whole.__init__" dJ f fd dV) (T:Txt K mg t_W aH aG aC aB aF aJ af ak aj) (cD:Hl P w K mg base "Piece" aJ "__init__" 3 ["self","start","day","rows","check"] (mZ K)):bq P w K mg base (CXx P w) 4 f fd ["self","day","rows","check"] (g9 af ak):=by
 refine F.okX vB (λ vs H Q E h=>?_) (λ cdv A outer s H vs Q E hr h=>?_)
 ·obtain⟨p,dx,a,d,L,rows,cv,c,rfl,hp,hA,R,hlen,hcv,q⟩:=h;rfl
 obtain⟨p,dx,a,d,L,rows,cv,c,rfl,hp,hA,R,hlen,hcv,q⟩:=h
 refine⟨_,(aD (bV (DS (oO (v:=.ref aJ) rfl T.CC rfl) cD aE (hr.mono (by decide)) (aa (pv 0) (aa (iH gK az) (aa (pv 1) (aa (pv 2) (aa (pv 3) ay)))))))),?_⟩
 refine⟨_,rfl,_,rfl,_,rfl,_,rfl,_,rfl,p,af,dx,a,0,d,L,rows,cv,c,rfl,hp,T.bT,T.cU,T.cY,T.fM,T.gm,hA,R,hlen,hcv,λ r Rr H1 h1 h2 h3 k1=>?_⟩
 exact q H1 ⟨dx,r,Rr,h1,h2,h3⟩ k1
theorem mq {f:Addr} {fd:FuncData} {dV:Value} (F:wB K "__init__" "Gain.__init__" d7 f fd dV) (T:Txt K mg t_W aH aG aC aB aF aJ af ak aj) (cD:Hl P w K mg base "Piece" aJ "__init__" 3 ["self","start","day","rows","check"] (mZ K)):bq P w K mg base (CXx P w) 4 f fd ["self","base","day","rows","check"] (ja af ak):=by
 refine F.okX xD (λ vs H Q E h=>?_) (λ cdv A outer s H vs Q E hr h=>?_)
 ·obtain⟨p0,a0,st0,d0,cv0,rfl,h0⟩:=h;rfl
 obtain⟨p0,a0,st0,d0,cv0,rfl,h0⟩:=h
 refine⟨_,(av (bV (DS (oO (v:=.ref aJ) rfl T.CC rfl) cD aE (hr.mono (by decide)) (aa (pv 0) (aa (pv 1) (aa (pv 2) (aa (pv 3) (aa (pv 4) ay)))))))
   (aD (iC (pv 0) (pv 1) rfl))),?_⟩
 rcases h0 with⟨p,dx,a,b,d,L,rows,cv,c,e0,hp,hA,R,hlen,hcv,q⟩ |⟨p,dx,a,d,L,rows,e0,hp,hA,R,hlen,q⟩ <;> cases e0
 ·refine⟨_,rfl,_,rfl,_,rfl,_,rfl,_,rfl,p0,ak,dx,a0,b + 1,d,L,rows,cv0,c,(by rw [show(((b + 1:Nat):Int) - 1) =(b:Int) by omega]),hp,T.bI,T.cZ,T.cT,T.fu,T.gc,hA,R,hlen,hcv,λ r Rr H1 h1 h2 h3 k1=>?_⟩
  refine⟨_,rfl,_,rfl,p0,ak,dx,_,rfl,h1,T.bI,T.dP,(by show 4 < 1000;decide),?_⟩
  rw [IV]
  refine q _ ⟨dx,r,Rr,ah,?_,h3.mono λ t xs e=>?_⟩ (gZ k1 (.inl (by simp)))
  ·obtain⟨ob,hob,h2⟩:=h2
   exact⟨ob,hob,by rw [aq (bB h2 h1 (by intro z;cases z))];exact h2⟩
  ·rw [aq (bB e h1 (by intro z;cases z))];exact e
 ·refine⟨_,rfl,_,rfl,_,rfl,_,rfl,_,rfl,p0,ak,dx,a0,0,d,L,rows,.non,_,rfl,hp,T.bI,T.cZ,T.cT,T.fu,T.gc,hA,R,hlen,.inl ⟨rfl,rfl⟩,λ r Rr H1 h1 h2 h3 k1=>?_⟩
  refine⟨_,rfl,_,rfl,p0,ak,dx,_,rfl,h1,T.bI,T.dP,(by show 4 < 1000;decide),?_⟩
  exact q _ (gZ k1 (.inl (by simp)))
theorem zZ {f:Addr} {fd:FuncData} (F:Fun K "start" "Whole.start" fR f fd) (T:Txt K mg t_W aH aG aC aB aF aJ af ak aj) :bq P w K mg base (CXx P w) 1 f fd ["self"] (gE):=by
 refine F.okX yL (λ vs H Q E h=>?_) (λ cdv A outer s H vs Q E hr h=>?_)
 ·obtain⟨p,rfl,q⟩:=h;rfl
 obtain⟨p,rfl,q⟩:=h
 refine⟨_,(aD (aQ (iH gK az))),?_⟩
 exact⟨_,rfl,q⟩
theorem AU {f:Addr} {fd:FuncData} (F:Fun K "kind" "Whole.kind" gk f fd) (T:Txt K mg t_W aH aG aC aB aF aJ af ak aj) :bq P w K mg base (CXx P w) 1 f fd ["self"] (qI):=by
 refine F.okX AX (λ vs H Q E h=>?_) (λ cdv A outer s H vs Q E hr h=>?_)
 ·obtain⟨p,rfl,q⟩:=h;rfl
 obtain⟨p,rfl,q⟩:=h
 refine⟨_,(aD (aQ Co)),?_⟩
 exact q
theorem A5 {f:Addr} {fd:FuncData} (F:Fun K "start" "Gain.start" gx f fd) (T:Txt K mg t_W aH aG aC aB aF aJ af ak aj) :bq P w K mg base (CXx P w) 1 f fd ["self"] (fV af ak):=by
 refine F.okX A8 (λ vs H Q E h=>?_) (λ cdv A outer s H vs Q E hr h=>?_)
 ·obtain⟨p,b,d,rows,c,rfl,⟨dx,r,R,h1,h2,h3⟩,q⟩:=h;rfl
 obtain⟨p,b,d,rows,c,rfl,⟨dx,r,R,h1,h2,h3⟩,q⟩:=h
 refine⟨_,(aD (aQ (bH (pv 0) rfl))),?_⟩
 exact⟨_,rfl,p,ak,dx,_,_,rfl,h1,T.bI,T.dP,zU,q⟩
theorem Cq {f:Addr} {fd:FuncData} (F:Fun K "kind" "Gain.kind" gT f fd) (T:Txt K mg t_W aH aG aC aB aF aJ af ak aj) :bq P w K mg base (CXx P w) 1 f fd ["self"] (qL):=by
 refine F.okX BV (λ vs H Q E h=>?_) (λ cdv A outer s H vs Q E hr h=>?_)
 ·obtain⟨p,rfl,q⟩:=h;rfl
 obtain⟨p,rfl,q⟩:=h
 refine⟨_,(aD (aQ Co)),?_⟩
 exact q
theorem lu {f:Addr} {fd:FuncData} (F:Fun K "is_good" "Piece.is_good" d8 f fd) (T:Txt K mg t_W aH aG aC aB aF aJ af ak aj) :bq P w K mg base (CXx P w) 3 f fd ["self"] (dM af ak):=by
 refine F.okX xG (λ vs H Q E h=>?_) (λ cdv A outer s H vs Q E hr h=>?_)
 ·obtain⟨p,wh,b,d,rows,c,rfl,hP,q⟩:=h;rfl
 obtain⟨p,wh,b,d,rows,c,rfl,hP,q⟩:=h
 refine⟨_,(aD (aQ (bH (pv 0) rfl))),?_⟩
 obtain⟨dx,r,R,h1,h2,h3⟩:=id hP
 cases wh
 ·exact⟨_,rfl,p,ak,dx,_,_,rfl,h1,T.bI,T.gc,DR,q⟩
 ·exact⟨_,rfl,p,af,dx,_,_,rfl,h1,T.bT,T.gm,DR,q⟩
theorem uy {f:Addr} {fd:FuncData} (F:Fun K "with_rows" "Whole.with_rows" dj f fd) (T:Txt K mg t_W aH aG aC aB aF aJ af ak aj) (yN:kQ P w K mg base "Whole" af 4 ["self","day","rows","check"] (g9 af ak)):bq P w K mg base (CXx P w) 6 f fd ["self","rows"] (oV af ak true):=by
 refine F.okX uw (λ vs H Q E h=>?_) (λ cdv A outer s H vs Q E hr h=>?_)
 ·obtain⟨p,b,d,rows,c,l,L,rows2,rfl,hP,hl,R,hlen,q⟩:=h;rfl
 obtain⟨p,b,d,rows,c,l,L,rows2,rfl,hP,hl,R,hlen,q⟩:=h
 refine⟨_,(aD (aQ (Bp yN aE (hr.mono (by decide)) rfl (aa (bH (pv 0) rfl) (aa (pv 1) (aa (bH (pv 0) rfl) ay)))))),?_⟩
 have up:∀ {x dx:Addr} {o:HO},H x=none->H dx=none->∀ t o',H t=some o'->upd (upd H dx (.own x)) x o t=some o':=λ hx hd t o' e=>by rw [aq (au e hx),aq (au e hd)];exact e
 obtain⟨dx,r,Rr,h1,h2,h3⟩:=id hP
 exact⟨_,rfl,p,af,dx,_,_,rfl,h1,T.bT,T.cU,BQ,_,rfl,_,rfl,p,af,dx,_,_,rfl,h1,T.bT,T.fM,pV,λ x dx2 hx hd ne=>⟨x,dx2,l,d,L,rows2,.int c,c,rfl,ah,(up hx hd l _ hl),R.mono (λ t xs e=>up hx hd t _ e),hlen,.inr rfl,λ H1 hP2 k1=>⟨rfl,q x H1 (ef.of0 hP2) hx (eU hx hd k1)⟩⟩⟩
theorem vo {f:Addr} {fd:FuncData} (F:Fun K "with_rows" "Gain.with_rows" dB f fd) (T:Txt K mg t_W aH aG aC aB aF aJ af ak aj) (BR:kQ P w K mg base "Gain" ak 4 ["self","base","day","rows","check"] (ja af ak)):bq P w K mg base (CXx P w) 6 f fd ["self","rows"] (oV af ak false):=by
 refine F.okX vt (λ vs H Q E h=>?_) (λ cdv A outer s H vs Q E hr h=>?_)
 ·obtain⟨p,b,d,rows,c,l,L,rows2,rfl,hP,hl,R,hlen,q⟩:=h;rfl
 obtain⟨p,b,d,rows,c,l,L,rows2,rfl,hP,hl,R,hlen,q⟩:=h
 refine⟨_,(aD (aQ (Bp BR aE (hr.mono (by decide)) rfl (aa (bH (pv 0) rfl) (aa (bH (pv 0) rfl) (aa (pv 1) (aa (bH (pv 0) rfl) ay))))))),?_⟩
 have up:∀ {x dx:Addr} {o:HO},H x=none->H dx=none->∀ t o',H t=some o'->upd (upd H dx (.own x)) x o t=some o':=λ hx hd t o' e=>by rw [aq (au e hx),aq (au e hd)];exact e
 obtain⟨dx,r,Rr,h1,h2,h3⟩:=id hP
 exact⟨_,rfl,p,ak,dx,_,_,rfl,h1,T.bI,T.dP,zU,_,rfl,p,ak,dx,_,_,rfl,h1,T.bI,T.cZ,BQ,_,rfl,_,rfl,p,ak,dx,_,_,rfl,h1,T.bI,T.fu,pV,λ x dx2 hx hd ne=>⟨_,_,_,_,_,rfl,.inl ⟨x,dx2,l,b,d,L,rows2,.int c,c,rfl,ah,(up hx hd l _ hl),R.mono (λ t xs e=>up hx hd t _ e),hlen,.inr rfl,λ H1 hP2 k1=>⟨rfl,q x H1 hP2 hx (eU hx hd k1)⟩⟩⟩⟩
theorem m9 {f:Addr} {fd:FuncData} (F:Fun K "harmed" "Piece.harmed" eX f fd) (T:Txt K mg t_W aH aG aC aB aF aJ af ak aj) (m7:pB P w K mg base "NoPlace" aG 1 ["self","place"] (jP aG "place")) (gI:bf P w K mg base ak "with_rows" 6 ["self","rows"] (oV af ak false)) (gg:bf P w K mg base af "with_rows" 6 ["self","rows"] (oV af ak true)):bq P w K mg base (CXx P w) 7 f fd ["self","at","bits"] (mG af ak aG):=by
 refine F.okX jd (λ vs H Q E h=>?_) (λ cdv A outer s H vs Q E hr h=>?_)
 ·obtain⟨p,wh,b,d,rows,c,ai,bt,rfl,hP,hlen,q1,q2⟩:=h;rfl
 obtain⟨p,wh,b,d,rows,c,ai,bt,rfl,hP,hlen,q1,q2⟩:=h
 refine⟨_,(av (bN (PW.pt (pw_or (aR Bj (pv 1) az (aU _)) (pw_or1 (aR NZ (pv 1) (aY bK (by rfl) T.fC PySem.boot_len (aa (bH (pv 0) rfl) ay)) (aU _))))) (aD (qE rfl vm (yw m7 (hr.mono (by decide)) rfl (aa (pv 1) ay)))) bu)
   (av (aN (i:=3) jd.nd rfl (Or.inl rfl) (eV mj (by rfl) T.mz PyProof.Rows.boot_list (aa (bH (pv 0) rfl) ay)))
   (av (aN (i:=4) jd.nd rfl (Or.inl rfl) (bz cB (pv 3) (pv 1) (λ _ _=>rfl)))
   (av (yl (dS (aa (bz cj (pv 4) az (λ _ _=>rfl)) (aa (aI BJ (bz cj (pv 4) az (λ _ _=>rfl)) (pv 2)) ay))) (HP (pv 3) (pv 1) set_list))
   (aD (aQ (g7 (bM (pv 0) T.bT gg aE (hr.mono (by decide)) (aa (pv 3) ay)) (bM (pv 0) T.bI gI aE (hr.mono (by decide)) (aa (pv 3) ay))))))))),?_⟩
 obtain⟨dx,r,Rr,h1,h2,h3⟩:=id hP
 cases wh
 ·refine⟨_,rfl,_,_,rfl,rfl,_,rfl,?_⟩
  by_cases a0:ai < 0
  ·refine Ag a0 ?_
   refine jb ?_
   exact⟨_,rfl,lK (E:=E) T.iX λ e H' he hs=>q2 (by omega) e H' he hs⟩
  refine zl a0 ?_
  refine⟨_,rfl,_,rfl,p,ak,dx,_,_,rfl,h1,T.bI,T.cT,lg,r,Rr,rfl,.inr (h2.sq),_,_,rfl,rfl,_,rfl,?_⟩
  by_cases a1:ai ≥(Rr.length:Int)
  ·refine Ag a1 ?_
   rw [h3.len] at a1
   exact⟨_,rfl,lK (E:=E) T.iX λ e H' he hs=>q2 (by omega) e H' he hs⟩
  refine zl a1 ?_
  rw [h3.len] at a1
  obtain⟨i,rfl⟩:∃ i:Nat,ai =(i:Int):=⟨ai.toNat,by omega⟩
  have hi:i < rows.length:=by omega
  obtain⟨v,hv⟩:∃ v,Rr[i]? = some v:=⟨_,List.getElem?_eq_getElem (by rw [h3.len];exact hi)⟩
  obtain⟨t,rw1,rfl,hrw,ht⟩:=h3.get i v hv
  refine⟨_,rfl,p,ak,dx,_,_,rfl,h1,T.bI,T.cT,lg,r,Rr,rfl,.inr (h2.sq),λ l hl=>?_⟩
  have s1:ao H (upd H l (.lst Rr)):=ao.new hl
  have hl1:upd H l (.lst Rr) l=some (.lst Rr):=ah
  generalize upd H l (.lst Rr)=H1 at s1 hl1
  refine⟨_,rfl,_,rfl,l,_,_,V.ref t,rfl,rfl,SqL.of hl1,dY hv,?_⟩
  have ht1:=s1 t _ ht
  refine⟨_,rfl,t,_,_,V.int (rw1.1:Int),rfl,rfl,SqT.of ht1,dY (j:=0) rfl,_,rfl,t,_,_,V.int (rw1.2:Int),rfl,rfl,SqT.of ht1,dY (j:=1) rfl,_,rfl,_,_,rfl,rfl,(by show 2 ≤ sizeLine;decide),λ t2 ht2=>?_⟩
  have nlt:l ≠ t2:=au hl1 ht2
  refine⟨_,rfl,_,rfl,l,_,_,i,rfl,rfl,ao.new ht2 l _ hl1,?_,?_⟩
  ·unfold ixN;rw [if_pos (by omega),if_pos (by rw [h3.len];omega)];simp
  have ex:gi rows i bt=rows.set i (rw1.1,rw1.2 ^^^ bt):=uh hrw
  have hl3:upd (upd H1 t2 (.tup [V.int (rw1.1:Int),V.int (Builtin.bitXor (rw1.2:Int) (bt:Int))])) l (.lst (Rr.set i (V.ref t2))) l=some (.lst (Rr.set i (V.ref t2))):=ah
  have s3:ao H (upd (upd H1 t2 (.tup [V.int (rw1.1:Int),V.int (Builtin.bitXor (rw1.2:Int) (bt:Int))])) l (.lst (Rr.set i (V.ref t2)))):=λ b o e=>by rw [aq (au e hl)];exact ao.new ht2 b _ (s1 b _ e)
  have ht3:upd (upd H1 t2 (.tup [V.int (rw1.1:Int),V.int (Builtin.bitXor (rw1.2:Int) (bt:Int))])) l (.lst (Rr.set i (V.ref t2))) t2=some (.tup [V.int (rw1.1:Int),V.int ((rw1.2 ^^^ bt:Nat):Int)]):=by rw [aq nlt.symm,ah,uU]
  generalize upd (upd H1 t2 (.tup [V.int (rw1.1:Int),V.int (Builtin.bitXor (rw1.2:Int) (bt:Int))])) l (.lst (Rr.set i (V.ref t2)))=H3 at hl3 s3 ht3
  have R3:bG H3 (Rr.set i (V.ref t2)) (gi rows i bt):=by rw [ex];exact C2 (h3.mono λ t xs e=>s3 t _ e) ht3
  have h1:=s3 _ _ h1
  refine .inr ⟨_,rfl,p,dx,_,rfl,h1,Fy (wh:=false) (by decide +kernel) (by decide +kernel) (by decide +kernel) (by decide +kernel),_,rfl,p,b,d,rows,c,l,_,gi rows i bt,rfl,hP.keep s3,hl3,R3,by rw [AD];exact hlen,λ p2 H4 hP2 hn s4=>?_⟩
  exact q1 i rfl hi p2 H4 hP2 (s3.free hn) (s3.trans s4)
 ·refine⟨_,rfl,_,_,rfl,rfl,_,rfl,?_⟩
  by_cases a0:ai < 0
  ·refine Ag a0 ?_
   refine jb ?_
   exact⟨_,rfl,lK (E:=E) T.iX λ e H' he hs=>q2 (by omega) e H' he hs⟩
  refine zl a0 ?_
  refine⟨_,rfl,_,rfl,p,af,dx,_,_,rfl,h1,T.bT,T.cY,lg,r,Rr,rfl,.inr (h2.sq),_,_,rfl,rfl,_,rfl,?_⟩
  by_cases a1:ai ≥(Rr.length:Int)
  ·refine Ag a1 ?_
   rw [h3.len] at a1
   exact⟨_,rfl,lK (E:=E) T.iX λ e H' he hs=>q2 (by omega) e H' he hs⟩
  refine zl a1 ?_
  rw [h3.len] at a1
  obtain⟨i,rfl⟩:∃ i:Nat,ai =(i:Int):=⟨ai.toNat,by omega⟩
  have hi:i < rows.length:=by omega
  obtain⟨v,hv⟩:∃ v,Rr[i]? = some v:=⟨_,List.getElem?_eq_getElem (by rw [h3.len];exact hi)⟩
  obtain⟨t,rw1,rfl,hrw,ht⟩:=h3.get i v hv
  refine⟨_,rfl,p,af,dx,_,_,rfl,h1,T.bT,T.cY,lg,r,Rr,rfl,.inr (h2.sq),λ l hl=>?_⟩
  have s1:ao H (upd H l (.lst Rr)):=ao.new hl
  have hl1:upd H l (.lst Rr) l=some (.lst Rr):=ah
  generalize upd H l (.lst Rr)=H1 at s1 hl1
  refine⟨_,rfl,_,rfl,l,_,_,V.ref t,rfl,rfl,SqL.of hl1,dY hv,?_⟩
  have ht1:=s1 t _ ht
  refine⟨_,rfl,t,_,_,V.int (rw1.1:Int),rfl,rfl,SqT.of ht1,dY (j:=0) rfl,_,rfl,t,_,_,V.int (rw1.2:Int),rfl,rfl,SqT.of ht1,dY (j:=1) rfl,_,rfl,_,_,rfl,rfl,(by show 2 ≤ sizeLine;decide),λ t2 ht2=>?_⟩
  have nlt:l ≠ t2:=au hl1 ht2
  refine⟨_,rfl,_,rfl,l,_,_,i,rfl,rfl,ao.new ht2 l _ hl1,?_,?_⟩
  ·unfold ixN;rw [if_pos (by omega),if_pos (by rw [h3.len];omega)];simp
  have ex:gi rows i bt=rows.set i (rw1.1,rw1.2 ^^^ bt):=uh hrw
  have hl3:upd (upd H1 t2 (.tup [V.int (rw1.1:Int),V.int (Builtin.bitXor (rw1.2:Int) (bt:Int))])) l (.lst (Rr.set i (V.ref t2))) l=some (.lst (Rr.set i (V.ref t2))):=ah
  have s3:ao H (upd (upd H1 t2 (.tup [V.int (rw1.1:Int),V.int (Builtin.bitXor (rw1.2:Int) (bt:Int))])) l (.lst (Rr.set i (V.ref t2)))):=λ b o e=>by rw [aq (au e hl)];exact ao.new ht2 b _ (s1 b _ e)
  have ht3:upd (upd H1 t2 (.tup [V.int (rw1.1:Int),V.int (Builtin.bitXor (rw1.2:Int) (bt:Int))])) l (.lst (Rr.set i (V.ref t2))) t2=some (.tup [V.int (rw1.1:Int),V.int ((rw1.2 ^^^ bt:Nat):Int)]):=by rw [aq nlt.symm,ah,uU]
  generalize upd (upd H1 t2 (.tup [V.int (rw1.1:Int),V.int (Builtin.bitXor (rw1.2:Int) (bt:Int))])) l (.lst (Rr.set i (V.ref t2)))=H3 at hl3 s3 ht3
  have R3:bG H3 (Rr.set i (V.ref t2)) (gi rows i bt):=by rw [ex];exact C2 (h3.mono λ t xs e=>s3 t _ e) ht3
  have h1:=s3 _ _ h1
  refine .inl ⟨_,rfl,p,dx,_,rfl,h1,Fy (wh:=true) (by decide +kernel) (by decide +kernel) (by decide +kernel) (by decide +kernel),_,rfl,p,b,d,rows,c,l,_,gi rows i bt,rfl,hP.keep s3,hl3,R3,by rw [AD];exact hlen,λ p2 H4 hP2 hn s4=>?_⟩
  exact q1 i rfl hi p2 H4 hP2 (s3.free hn) (s3.trans s4)
theorem vv {f:Addr} {fd:FuncData} (F:Fun K "__init__" "Shelf.__init__" dG f fd) (T:Txt K mg t_W aH aG aC aB aF aJ af ak aj) :bq P w K mg base (CXx P w) 1 f fd ["self"] (pS aj):=by
 refine F.okX vA (λ vs H Q E h=>?_) (λ cdv A outer s H vs Q E hr h=>?_)
 ·obtain⟨p,dx,rfl,hp,q⟩:=h;rfl
 obtain⟨p,dx,rfl,hp,q⟩:=h
 refine⟨_,(av (iC (pv 0) mh rfl)
   (aD (iC (pv 0) az rfl))),?_⟩
 refine λ d hd=>?_
 have npd:p ≠ d:=au hp hd
 refine⟨_,rfl,p,aj,dx,_,rfl,ao.new hd p _ hp,T.aP,T.bQ,(by show 0 < 1000;decide),?_⟩
 refine⟨_,rfl,p,aj,dx,_,rfl,ah,T.aP,T.bS,(by show 1 < 1000;decide),?_⟩
 rw [vc,show cz "pieces" (V.ref d) [] =([("pieces",V.ref d)]:List (Str × V)) from rfl,Dp]
 refine q d _ ⟨dx,ah,by rw [aq npd.symm,ah]⟩ hd ?_
 exact gZ (bE.of_same (ao.new hd)) (.inl (by simp))
theorem CD {f:Addr} {fd:FuncData} (F:Fun K "lay" "Shelf.lay" gU f fd) (T:Txt K mg t_W aH aG aC aB aF aJ af ak aj) :bq P w K mg base (CXx P w) 1 f fd ["self","number","piece"] (yq aj):=by
 refine F.okX BA (λ vs H Q E h=>?_) (λ cdv A outer s H vs Q E hr h=>?_)
 ·obtain⟨p,d,fl,kvs,n,a,rfl,⟨dx,h1,h2⟩,hlen,q⟩:=h;rfl
 obtain⟨p,d,fl,kvs,n,a,rfl,⟨dx,h1,h2⟩,hlen,q⟩:=h
 refine⟨_,(av (oK (dO hr) (bH (pv 0) rfl) (pv 1) (pv 2) rfl)
   (aD (iC (pv 0) (aY (tK rfl) (by rfl) T.Bf PyProof.Rows.boot_max (aa (bH (pv 0) rfl) (aa (aI cg (pv 1) az) ay))) rfl))),?_⟩
 have npd:p ≠ d:=bB h1 h2 (by intro z;cases z)
 refine⟨_,rfl,_,rfl,p,aj,dx,_,_,rfl,h1,T.aP,T.bQ,iW,_,rfl,d,_,rfl,qW.k (k:=Sum.inl n) h2 (bh (by omega)),?_⟩
 have h1':upd H d (.dK (putK kvs (Sum.inl n) (V.ref a))) p=some (.ins aj dx (sfs d fl)):=by rw [aq npd];exact h1
 refine⟨_,rfl,p,aj,dx,_,_,rfl,h1',T.aP,T.bS,kI,?_⟩
 repeat (first | refine⟨_,rfl,?_⟩ | refine⟨_,_,rfl,rfl,?_⟩ | refine⟨(by first | decide |(dsimp only;decide) |(show 2 ≤ sizeLine;decide) |(show 1 ≤ sizeLine;decide) |(show 3 ≤ sizeLine;decide) |(show 4 ≤ sizeLine;decide)),?_⟩ | refine⟨.inl ⟨by first | decide |(dsimp only;decide),by first | decide |(dsimp only;decide)⟩,?_⟩ | refine⟨.inr ⟨by first | decide |(dsimp only;decide),by first | decide |(dsimp only;decide)⟩,?_⟩ | refine⟨⟨by first | decide |(dsimp only;decide),by first | decide |(dsimp only;decide)⟩,?_⟩ | refine⟨rfl,?_⟩ | refine⟨_,_,rfl,?_⟩)
 refine⟨p,aj,dx,_,rfl,h1',T.aP,T.bS,(by show 2 < 1000;decide),?_⟩
 rw [ug]
 refine q _ ⟨dx,ah,by rw [aq npd.symm,ah]⟩ ?_
 exact gZ (gZ bE.refl (.inl (by simp))) (.inl (by simp))
theorem Dg {f:Addr} {fd:FuncData} (F:Fun K "put" "Shelf.put" gR f fd) (T:Txt K mg t_W aH aG aC aB aF aJ af ak aj) (gS:bf P w K mg base aj "lay" 1 ["self","number","piece"] (yq aj)):bq P w K mg base (CXx P w) 2 f fd ["self","piece"] (oY aj):=by
 refine F.okX r9 (λ vs H Q E h=>?_) (λ cdv A outer s H vs Q E hr h=>?_)
 ·obtain⟨p,d,fl,kvs,a,rfl,⟨dx,h1,h2⟩,hlen,q⟩:=h;rfl
 obtain⟨p,d,fl,kvs,a,rfl,⟨dx,h1,h2⟩,hlen,q⟩:=h
 refine⟨_,(av (aN (i:=2) r9.nd rfl (Or.inl rfl) (bH (pv 0) rfl))
   (av (bV (bM (pv 0) T.aP gS aE (hr.mono (by decide)) (aa (pv 2) (aa (pv 1) ay))))
   (aD (aQ (pv 2))))),?_⟩
 refine⟨_,rfl,p,aj,dx,_,_,rfl,h1,T.aP,T.bS,kI,?_⟩
 refine⟨_,rfl,p,dx,_,rfl,h1,cS (by decide +kernel) (by decide +kernel),_,rfl,_,rfl,p,d,fl,kvs,fl,a,rfl,⟨dx,h1,h2⟩,hlen,λ H1 hS k1=>?_⟩
 rw [if_pos (by omega)] at hS
 exact⟨_,rfl,q H1 hS k1⟩
theorem zS {f:Addr} {fd:FuncData} (F:Fun K "piece" "Shelf.piece" fH f fd) (T:Txt K mg t_W aH aG aC aB aF aJ af ak aj) (sL:pB P w K mg base "NoPiece" aC 1 ["self","number"] (jP aC "number")):bq P w K mg base (CXx P w) 3 f fd ["self","number"] (iQ aj aC):=by
 refine F.okX yJ (λ vs H Q E h=>?_) (λ cdv A outer s H vs Q E hr h=>?_)
 ·obtain⟨p,d,fl,kvs,n,rfl,⟨dx,h1,h2⟩,q1,q2⟩:=h;rfl
 obtain⟨p,d,fl,kvs,n,rfl,⟨dx,h1,h2⟩,q1,q2⟩:=h
 refine⟨_,(av (bN (Mt (Iq (dO hr) (pv 1) (bH (pv 0) rfl))) (aD (qE rfl vm (yw sL (hr.mono (by decide)) rfl (aa (pv 1) ay)))) bu)
   (aD (aQ (dZ (dO hr) (bH (pv 0) rfl) (pv 1) (λ _ _=>rfl))))),?_⟩
 refine⟨_,rfl,_,rfl,p,aj,dx,_,_,rfl,h1,T.aP,T.bQ,iW,d,_,rfl,gb.k (k:=Sum.inl n) h2,_,rfl,?_⟩
 cases hv:aZ kvs (Sum.inl n) with
 | none =>
  refine jb ?_
  exact⟨_,rfl,lK (E:=E) T.sJ λ e H' he hs=>q2 hv e H' he hs⟩
 | some v =>
  refine dI ?_
  exact⟨_,rfl,p,aj,dx,_,_,rfl,h1,T.aP,T.bQ,iW,_,rfl,d,v,rfl,hv ▸ gb.k (k:=Sum.inl n) h2,q1 v hv⟩
theorem Ba {f:Addr} {fd:FuncData} (F:Fun K "drop" "Shelf.drop" gy f fd) (T:Txt K mg t_W aH aG aC aB aF aJ af ak aj) (bC:bf P w K mg base aj "piece" 3 ["self","number"] (iQ aj aC)):bq P w K mg base (CXx P w) 4 f fd ["self","number"] (kR aj aC):=by
 refine F.okX rQ (λ vs H Q E h=>?_) (λ cdv A outer s H vs Q E hr h=>?_)
 ·obtain⟨p,d,fl,kvs,n,rfl,⟨dx,h1,h2⟩,q1,q2⟩:=h;rfl
 obtain⟨p,d,fl,kvs,n,rfl,⟨dx,h1,h2⟩,q1,q2⟩:=h
 refine⟨_,(av (aN (i:=2) rQ.nd rfl (Or.inl rfl) (bM (pv 0) T.aP bC Mb (hr.mono (by decide)) (aa (pv 1) ay)))
   (av (bV (pD (bH (pv 0) rfl) (pv 1) ⟨rfl,rfl,rfl,rfl⟩))
   (aD (aQ (pv 2))))),?_⟩
 have npd:p ≠ d:=bB h1 h2 (by intro z;cases z)
 refine⟨_,rfl,p,dx,_,rfl,h1,cS (by decide +kernel) (by decide +kernel),_,rfl,p,d,fl,kvs,n,rfl,⟨dx,h1,h2⟩,λ v hv=>?_,λ hv e H' he hs=>q2 hv e H' he hs⟩
 refine⟨_,rfl,p,aj,dx,_,_,rfl,h1,T.aP,T.bQ,iW,d,rfl,.inl ⟨_,.inl h2⟩,_,rfl,kvs,Sum.inl n,v,h2,rfl,hv,?_⟩
 refine⟨_,rfl,q1 v hv _ ⟨dx,by rw [aq npd];exact h1,ah⟩ ?_⟩
 exact gZ bE.refl (.inl (by simp))
theorem wk {f:Addr} {fd:FuncData} (F:Fun K "numbers" "Shelf.numbers" dX f fd) (T:Txt K mg t_W aH aG aC aB aF aJ af ak aj) :bq P w K mg base (CXx P w) 1 f fd ["self"] (gF aj):=by
 refine F.okX wR (λ vs H Q E h=>?_) (λ cdv A outer s H vs Q E hr h=>?_)
 ·obtain⟨p,d,fl,kvs,ns,rfl,⟨dx,h1,h2⟩,hns,h64,q⟩:=h;rfl
 obtain⟨p,d,fl,kvs,ns,rfl,⟨dx,h1,h2⟩,hns,h64,q⟩:=h
 refine⟨_,(aD (aQ (aY (gq rfl) (by rfl) T.jF PyProof.Rows.boot_sorted (aa (bH (pv 0) rfl) ay)))),?_⟩
 exact⟨_,rfl,p,aj,dx,_,_,rfl,h1,T.aP,T.bQ,iW,d,kvs,ns,rfl,h2,hns,by omega,λ l ns' hl hp hs=>q l ns' hl hp hs⟩
theorem su {f:Addr} {fd:FuncData} (F:Fun K "following" "Shelf.following" di f fd) (T:Txt K mg t_W aH aG aC aB aF aJ af ak aj) :bq P w K mg base (CXx P w) 1 f fd ["self"] (jq aj):=by
 refine F.okX sO (λ vs H Q E h=>?_) (λ cdv A outer s H vs Q E hr h=>?_)
 ·obtain⟨p,d,fl,kvs,rfl,⟨dx,h1,h2⟩,q⟩:=h;rfl
 obtain⟨p,d,fl,kvs,rfl,⟨dx,h1,h2⟩,q⟩:=h
 refine⟨_,(aD (aQ (bH (pv 0) rfl))),?_⟩
 exact⟨_,rfl,p,aj,dx,_,_,rfl,h1,T.aP,T.bS,kI,q⟩
theorem yb {f:Addr} {fd:FuncData} (F:Fun K "copied" "Shelf.copied" e7 f fd) (T:Txt K mg t_W aH aG aC aB aF aJ af ak aj) (kT:kQ P w K mg base "Shelf" aj 1 ["self"] (pS aj)):bq P w K mg base (CXx P w) 3 f fd ["self"] (sd aj):=by
 refine F.okX mY (λ vs H Q E h=>?_) (λ cdv A outer s H vs Q E hr h=>?_)
 ·obtain⟨p,d,fl,kvs,rfl,⟨dx,h1,h2⟩,q⟩:=h;rfl
 obtain⟨p,d,fl,kvs,rfl,⟨dx,h1,h2⟩,q⟩:=h
 refine⟨_,(av (aN (i:=1) mY.nd rfl (Or.inl rfl) (AH kT aE (hr.mono (by decide)) rfl))
   (av (iC (pv 1) (eV yp (by rfl) T.sR PyProof.Rows.boot_dict (aa (bH (pv 0) rfl) ay)) rfl)
   (av (iC (pv 1) (bH (pv 0) rfl) rfl)
   (aD (aQ (pv 1)))))),?_⟩
 refine λ x dx0 hx hdx hne=>⟨x,dx0,rfl,ah,λ d2 H1 hS2 hd2 k1=>⟨rfl,?_⟩⟩
 have s1:ao H H1:=eU hx hdx k1
 obtain⟨dx2,g1,g2⟩:=hS2
 have npx:p ≠ x:=au h1 hx
 refine⟨_,rfl,p,aj,dx,_,_,rfl,s1 p _ h1,T.aP,T.bQ,iW,d,kvs,rfl,s1 d _ h2,λ d3 hd3=>?_⟩
 have n3:d3 ≠ x:=λ z=>by rw [z,g1] at hd3;cases hd3
 have g3:upd H1 d3 (.dK kvs) x=some (.ins aj dx2 (sfs d2 0)):=ao.new hd3 x _ g1
 refine⟨_,rfl,x,aj,dx2,_,rfl,g3,T.aP,T.bQ,(by show 2 < 1000;decide),?_⟩
 have h3:upd (upd H1 d3 (.dK kvs)) x (.ins aj dx2 (cz "pieces" (V.ref d3) (sfs d2 0))) p=some (.ins aj dx (sfs d fl)):=by rw [aq npx];exact ao.new hd3 p _ (s1 p _ h1)
 refine⟨_,rfl,p,aj,dx,_,_,rfl,h3,T.aP,T.bS,kI,_,rfl,x,aj,dx2,_,rfl,ah,T.aP,T.bS,(by show 2 < 1000;decide),?_⟩
 rw [vc,show cz "pieces" (V.ref d3) (sfs d2 0)=sfs d3 0 from rfl,ug]
 refine⟨_,rfl,q x d3 _ ⟨dx2,ah,by rw [aq n3,ah]⟩ hx (s1.free hd3) (λ b o e=>?_)⟩
 rw [aq (au e hx),aq (au (s1 b _ e) hd3)];exact s1 b _ e
theorem CP {f:Addr} {fd:FuncData} (F:Fun K "_law_cell" "_law_cell" gW f fd) (T:Txt K mg t_W aH aG aC aB aF aJ af ak aj) :bq P w K mg base (CXx P w) 1 f fd ["_law_script","_law_k"] (oS K):=by
 refine F.okX Cg (λ vs H Q E h=>?_) (λ cdv A outer s H vs Q E hr h=>?_)
 ·obtain⟨a,ns,k,rfl,hS,q⟩:=h;rfl
 obtain⟨a,ns,k,rfl,hS,q⟩:=h
 refine⟨_,(av (bN (aR Bj (pv 1) (aY bK (by rfl) T.fC PySem.boot_len (aa (pv 0) ay)) (aU _)) (aD (aQ (bz cB (pv 0) (pv 1) (λ _ _=>rfl)))) bu)
   (aD (aQ (aI cg (aI gJ az (pv 1)) az)))),?_⟩
 refine⟨_,rfl,_,rfl,a,_,rfl,.inl hS,_,_,rfl,rfl,_,rfl,?_⟩
 refine dF (λ h=>?_) (λ h=>?_)
 ·have h:k < ns.length:=by simpa using h
  refine⟨_,rfl,_,rfl,a,_,_,V.int (ns.getD k 0),rfl,rfl,hS,dY ?_,?_⟩
  ·simp [h]
  ·have e:jj ns k=ns.getD k 0:=by unfold jj;rw [if_pos (by omega)];rfl
   rw [e] at q;exact q
 ·have h:¬ k < ns.length:=by simpa using h
  refine⟨_,rfl,_,_,rfl,rfl,.inl ⟨by first | decide |(dsimp only;decide),by first | decide |(dsimp only;decide)⟩,_,_,rfl,rfl,?_⟩
  have e:jj ns k=37 * k + 11:=by unfold jj;rw [if_neg (by omega)]
  rw [e] at q;exact q
theorem AY {f:Addr} {fd:FuncData} (F:Fun K "_law_whole" "_law_whole" gp f fd) (T:Txt K mg t_W aH aG aC aB aF aJ af ak aj) :bq P w K mg base (CXx P w) 1 f fd ["_law_found"] (qu):=by
 refine F.okX A0 (λ vs H Q E h=>?_) (λ cdv A outer s H vs Q E hr h=>?_)
 ·obtain⟨n,rfl,q⟩:=h;rfl
 obtain⟨n,rfl,q⟩:=h
 refine⟨_,(aD (aQ (Ht (aY eT (by rfl) T.cX PyProof.Rows.boot_isinstance (aa (pv 0) (aa (jt (v:=.ty "int") rfl T.NW PyProof.Rows.boot_int rfl) ay))) (Dj (Hy (aY eT (by rfl) T.cX PyProof.Rows.boot_isinstance (aa (pv 0) (aa (jt (v:=.ty "bool") rfl T.Nq PyProof.Rows.boot_bool rfl) ay)))))))),?_⟩
 refine⟨_,rfl,_,_,_,_,true,rfl,rfl,.int _,rfl,_,rfl,?_⟩
 refine jb ?_
 refine⟨_,rfl,_,_,_,_,false,rfl,rfl,.int _,(by with_unfolding_all rfl),_,rfl,?_⟩
 exact q
theorem BN {f:Addr} {fd:FuncData} (F:Fun K "_law_stir" "_law_stir" gQ f fd) (T:Txt K mg t_W aH aG aC aB aF aJ af ak aj) :bq P w K mg base (CXx P w) 1 f fd ["_law_cell_here","_law_k"] (oN):=by
 refine F.okX sZ (λ vs H Q E h=>?_) (λ cdv A outer s H vs Q E hr h=>?_)
 ·obtain⟨c,k,rfl,q⟩:=h;rfl
 obtain⟨c,k,rfl,q⟩:=h
 refine⟨_,(av (aN (i:=2) sZ.nd rfl (Or.inl rfl) (aI bW (aI gJ (aI cg (pv 0) (aI gJ az (pv 1))) az) az))
   (aD (aQ (aI bW (aI gJ (pv 2) (pv 2)) az)))),?_⟩
 refine⟨_,rfl,_,rfl,_,_,rfl,rfl,.inl ⟨by first | decide |(dsimp only;decide),by first | decide |(dsimp only;decide)⟩,_,_,rfl,rfl,_,_,rfl,rfl,.inr ⟨by first | decide |(dsimp only;decide),by first | decide |(dsimp only;decide)⟩,_,_,rfl,rfl,(by first | decide |(dsimp only;decide)),?_⟩
 have h1:0 ≤(c + 7919 * k) * 48271 % 2147483647:=Int.emod_nonneg _ (by first | decide |(dsimp only;decide))
 have h2:(c + 7919 * k) * 48271 % 2147483647 < 2147483647:=Int.emod_lt_of_pos _ (by first | decide |(dsimp only;decide))
 refine⟨_,rfl,_,rfl,_,_,rfl,rfl,.inl ⟨by omega,by omega⟩,_,_,rfl,rfl,(by first | decide |(dsimp only;decide)),?_⟩
 exact q
theorem A2 {f:Addr} {fd:FuncData} (F:Fun K "_law_block" "_law_block" gw f fd) (T:Txt K mg t_W aH aG aC aB aF aJ af ak aj) (cJ:DefX P w K mg base "_law_stir" 1 ["_law_cell_here","_law_k"] oN):bq P w K mg base (CXx P w) 2 f fd ["_law_cell_here","_law_k"] (vK):=by
 refine F.okX A7 (λ vs H Q E h=>?_) (λ cdv A outer s H vs Q E hr h=>?_)
 ·obtain⟨c,k,rfl,q⟩:=h;rfl
 obtain⟨c,k,rfl,q⟩:=h
 refine⟨_,(av (bN (aR dw (aI bW (aI cg (pv 0) (pv 1)) az) az (aU _)) (aD (aQ (aI bW (aI cg (aI eB (pv 0) az) (pv 1)) az))) bu)
   (av (bN (aR dw (aI bW (aI cg (pv 0) (pv 1)) az) az (aU _)) (aD (aQ (aI j4 (aI j4 (kZ (n:=18446744073709551616)) az) (aI bW (aI cg (aI eB (pv 0) az) (pv 1)) az)))) bu)
   (av (bN (aR dw (aI bW (aI cg (pv 0) (pv 1)) az) az (aU _)) (aD (aQ (aI bW (pv 0) (kZ (n:=18446744073709551616))))) bu)
   (aD (aQ (aI bW (aI cg (aI gJ (aW cJ aE (hr.mono (by decide)) rfl (aa (pv 0) (aa (pv 1) ay))) (kZ (n:=8589934592))) (aW cJ aE (hr.mono (by decide)) rfl (aa (pv 0) (aa (aI cg (pv 1) az) ay)))) (kZ (n:=18446744073709551616)))))))),?_⟩
 refine⟨_,rfl,_,rfl,_,_,rfl,rfl,_,_,rfl,rfl,(by first | decide |(dsimp only;decide)),rfl,_,rfl,?_⟩
 refine dF (λ h=>?_) (λ h=>?_)
 ·have h:=pe h
  refine⟨_,rfl,_,_,rfl,rfl,⟨by first | decide |(dsimp only;decide),by first | decide |(dsimp only;decide)⟩,_,rfl,_,_,rfl,rfl,_,_,rfl,rfl,(by first | decide |(dsimp only;decide)),?_⟩
  have e:gB c k =(c / 4 + k) % 3:=by unfold gB;rw [if_pos h]
  rw [e] at q;exact q
 have h:=qd h
 refine⟨_,rfl,_,rfl,_,_,rfl,rfl,_,_,rfl,rfl,(by first | decide |(dsimp only;decide)),rfl,_,rfl,?_⟩
 refine dF (λ h1=>?_) (λ h1=>?_)
 ·have h1:=pe h1
  refine⟨_,_,rfl,rfl,_,rfl,_,_,rfl,rfl,⟨by first | decide |(dsimp only;decide),by first | decide |(dsimp only;decide)⟩,_,rfl,_,_,rfl,rfl,_,_,rfl,rfl,(by first | decide |(dsimp only;decide)),_,_,rfl,rfl,?_⟩
  have e:gB c k=18446744073709551616 - 1 -(c / 4 + k) % 3:=by unfold gB;rw [if_neg h,if_pos h1]
  rw [e] at q;exact q
 have h1:=qd h1
 refine⟨_,rfl,_,rfl,_,_,rfl,rfl,_,_,rfl,rfl,(by first | decide |(dsimp only;decide)),rfl,_,rfl,?_⟩
 refine dF (λ h2=>?_) (λ h2=>?_)
 ·have h2:=pe h2
  refine⟨_,rfl,_,_,rfl,rfl,(by first | decide |(dsimp only;decide)),?_⟩
  have e:gB c k=c % 18446744073709551616:=by unfold gB;rw [if_neg h,if_neg h1,if_pos h2]
  rw [e] at q;exact q
 have h2:=qd h2
 refine⟨_,rfl,_,rfl,_,_,rfl,_,_,rfl,rfl,.inr ⟨by first | decide |(dsimp only;decide),by first | decide |(dsimp only;decide)⟩,_,rfl,_,rfl,_,_,rfl,rfl,_,_,rfl,_,_,rfl,rfl,_,_,rfl,rfl,(by first | decide |(dsimp only;decide)),?_⟩
 have e:gB c k =(iG c k * 8589934592 + iG c (k + 50)) % 18446744073709551616:=by unfold gB;rw [if_neg h,if_neg h1,if_neg h2]
 rw [e] at q;exact q
theorem stE {C_W C_G:Addr} {σ:St} {H:Hp} {i:Nat} {p:Addr} {w:Bool} {b d:Nat} {rows:List (Nat × Nat)} {c:Int} {Qc:VK} (hv:σ[i]? = some (some (.ref p))) (hP:ef C_W C_G H p w b d rows c) (q:Qc (.int (stI w b)) H):kY (eE C_W "start" gE (λ _=>E0) (d9 i) fm) (eE C_G "start" (fV C_W C_G) (λ _=>E0) (d9 i) fm) σ H Qc:=by
 obtain⟨dx,r,R,h1,h2,h3⟩:=id hP
 cases w
 ·exact .inr ⟨_,hv,p,dx,_,rfl,h1,gO,p,b,d,rows,c,rfl,hP,q⟩
 ·exact .inl ⟨_,hv,p,dx,_,rfl,h1,gO,p,rfl,q⟩
theorem gdE {C_W C_G:Addr} {σ:St} {H:Hp} {i:Nat} {p:Addr} {w:Bool} {b d:Nat} {rows:List (Nat × Nat)} {c:Int} {Qc:VK} (hv:σ[i]? = some (some (.ref p))) (hP:ef C_W C_G H p w b d rows c) (q:Qc (.bl (decide (c =(fz w b d rows:Nat)))) H):kY (eE C_W "is_good" (dM C_W C_G) (λ _=>E0) (d9 i) fm) (eE C_G "is_good" (dM C_W C_G) (λ _=>E0) (d9 i) fm) σ H Qc:=by
 obtain⟨dx,r,R,h1,h2,h3⟩:=id hP
 cases w
 ·exact .inr ⟨_,hv,p,dx,_,rfl,h1,gO,p,false,b,d,rows,c,rfl,hP,q⟩
 ·exact .inl ⟨_,hv,p,dx,_,rfl,h1,gO,p,true,b,d,rows,c,rfl,hP,q⟩
def kdS (w:Bool):Str:=cond w (Str.ofString "whole") (Str.ofString "gain")
theorem kdE {C_W C_G:Addr} {σ:St} {H:Hp} {i:Nat} {p:Addr} {w:Bool} {b d:Nat} {rows:List (Nat × Nat)} {c:Int} {Qc:VK} (hv:σ[i]? = some (some (.ref p))) (hP:ef C_W C_G H p w b d rows c) (q:Qc (.str (kdS w)) H):kY (eE C_W "kind" qI (λ _=>E0) (d9 i) fm) (eE C_G "kind" qL (λ _=>E0) (d9 i) fm) σ H Qc:=by
 obtain⟨dx,r,R,h1,h2,h3⟩:=id hP
 cases w
 ·exact .inr ⟨_,hv,p,dx,_,rfl,h1,gO,p,rfl,q⟩
 ·exact .inl ⟨_,hv,p,dx,_,rfl,h1,gO,p,rfl,q⟩
theorem Oj {H H2:Hp} {r:Addr} (s:ao H H2) (h:H2 r=none):H r=none:=by
 cases e:H r with
 | none=>rfl
 | some o=>rw [s r o e] at h;cases h
theorem HX {f:Addr} {fd:FuncData} (F:Fun K "merged" "merged" jD f fd) (T:Txt K mg t_W aH aG aC aB aF aJ af ak aj) (bY:bf P w K mg base ak "start" 1 ["self"] (fV af ak)) (bP:bf P w K mg base af "start" 1 ["self"] gE) (sE:pB P w K mg base "NoMerge" aF 1 ["self","day","base"] (Bh aF "day" "base")) (cG:bf P w K mg base ak "is_good" 3 ["self"] (dM af ak)) (cA:bf P w K mg base af "is_good" 3 ["self"] (dM af ak)) (qp:pB P w K mg base "BadPiece" aB 1 ["self","day"] (jP aB "day")) (n6:bf P w K mg base ak "kind" 1 ["self"] qL) (ly:bf P w K mg base af "kind" 1 ["self"] qI) (eN:jS P w K mg base "Whole" af 4 ["self","day","rows","check"] [Value.none] (g9 af ak)) (iU:jS P w K mg base "Gain" ak 4 ["self","base","day","rows","check"] [Value.none] (ja af ak)):bq P w K mg base (CXx P w) 6 f fd ["first","second"] (uG af ak aF aB):=by
 refine F.okX m6 (λ vs H Q E h=>?_) (λ cdv A outer s H vs Q E hr h=>?_)
 ·obtain⟨p1,p2,w1,w2,b1,d1,b2,d2,rows1,rows2,c1,c2,rfl,hP1,hP2,hlen,qa,qb1,qb2,qg⟩:=h;rfl
 obtain⟨p1,p2,w1,w2,b1,d1,b2,d2,rows1,rows2,c1,c2,rfl,hP1,hP2,hlen,qa,qb1,qb2,qg⟩:=h
 refine⟨_,(av (bN (aR jm (g7 (br (pv 1) T.bT bP aE (hr.mono (by decide))) (br (pv 1) T.bI bY aE (hr.mono (by decide)))) (bH (pv 0) rfl) (aU _)) (aD (qE rfl vm (yw sE (hr.mono (by decide)) rfl (aa (bH (pv 0) rfl) (aa (g7 (br (pv 1) T.bT bP aE (hr.mono (by decide))) (br (pv 1) T.bI bY aE (hr.mono (by decide)))) ay))))) bu)
   (av (dW PassesOwn.leaving rfl (Dc (dS (aa (pv 0) (aa (pv 1) ay)))) (aT (i:=2) m6.nd rfl (Or.inl rfl))
   (aD (bN (fq (cQ (g7 (br (pv 2) T.bT cA aE (hr.mono (by decide))) (br (pv 2) T.bI cG aE (hr.mono (by decide)))))) (aD (qE rfl vm (yw qp (hr.mono (by decide)) rfl (aa (bH (pv 2) rfl) ay)))) bu)))
   (av (aN (i:=3) m6.nd rfl (Or.inr rfl) (eV (vG rfl) (by rfl) T.sR PyProof.Rows.boot_dict (aa (bH (pv 0) rfl) ay)))
   (av (bV (LW (pv 3) (eV (vG rfl) (by rfl) T.sR PyProof.Rows.boot_dict (aa (bH (pv 1) rfl) ay)) ⟨rfl,rfl,rfl,rfl⟩))
   (av (ie (i:=4) m6.nd rfl (Or.inl rfl) (N:=["place","blocks"]) (k:=1) (cap:=[3]) rfl rfl (cI (aY (gq rfl) (by rfl) T.jF PyProof.Rows.boot_sorted (aa (pv 3) ay))) (λ _ _ _ _=>(aT (i:=0) (show(["place","blocks"]:List Str).Nodup from by decide +kernel) rfl (Or.inl rfl) (.inr rfl))) (λ _ _ _ _=>jz) (λ _ _ _ _=>(dS (aa (pv 0) (aa (dZ (dO hr) (pv 1) (pv 0) (λ _ _=>rfl)) ay)))))
   (av (bN (aR dw (g7 (br (pv 0) T.bT ly aE (hr.mono (by decide))) (br (pv 0) T.bI n6 aE (hr.mono (by decide)))) Co (aU _)) (aD (aQ (jX (dvs:=[V.non]) eN (Paired.cons rfl Paired.nil) aE (hr.mono (by decide)) rfl (aa (bH (pv 1) rfl) (aa (pv 4) ay))))) bu)
   (aD (aQ (jX (dvs:=[V.non]) iU (Paired.cons rfl Paired.nil) aE (hr.mono (by decide)) rfl (aa (bH (pv 0) rfl) (aa (bH (pv 1) rfl) (aa (pv 4) ay)))))))))))),?_⟩
 have hcl:∀ w,Cls K (cond w af ak):=λ w=>by cases w;exact T.bI;exact T.bT
 have nday:∀ w,bw K (cond w af ak) "day":=λ w=>by cases w;exact T.cZ;exact T.cU
 have nrows:∀ w,bw K (cond w af ak) "rows":=λ w=>by cases w;exact T.cT;exact T.cY
 obtain⟨dx1,r1,R1,h1,f1,hr1⟩:=id hP1
 obtain⟨dx2,r2,R2,h2,f2,hr2⟩:=id hP2
 refine stE (i:=1) rfl hP2 ?_
 refine⟨_,rfl,p1,_,dx1,_,_,rfl,h1,hcl w1,nday w1,jB,rfl,_,rfl,?_⟩
 by_cases hst:stI w2 b2 =(d1:Int)
 rotate_left
 ·refine GX (λ h=>hst (V.int.inj h)) ?_
  exact⟨_,rfl,p1,_,dx1,_,_,rfl,h1,hcl w1,nday w1,jB,stE (i:=1) rfl hP2 (Nr (E:=E) T.ng (qa hst))⟩
 refine kJ (by rw [hst]) ?_
 refine⟨_,rfl,_,rfl,(by show 2 ≤ sizeLine;decide),λ tp htp=>?_⟩
 refine⟨tp,rfl,⟨_,SqT.of ah⟩,DV (K:=K) (a:=tp) (xs:=[V.ref p1,V.ref p2]) (λ i σ H2=>∃ v:Option V,σ = [some (.ref p1),some (.ref p2),v,none,none] /\ ao H H2 /\ H2 tp=some (.tup [V.ref p1,V.ref p2]) /\(1 ≤ i->c1 =(fz w1 b1 d1 rows1:Nat)) /\(2 ≤ i->c2 =(fz w2 b2 d2 rows2:Nat))) ⟨none,rfl,ao.new htp,ah,λ h=>absurd h (by omega),λ h=>absurd h (by omega)⟩ (λ i σ H2 _ z0=>by obtain⟨_,_,_,t2,_⟩:=z0;exact SqT.of t2) ?_ ?_⟩
 ·rintro i y σ H2 hi ⟨v,rfl,s2,ht2,g1,g2⟩
  match i,hi with
  | 0,hi =>
   have:V.ref p1=y:=by simpa using hi
   subst this
   refine gdE (i:=2) rfl (hP1.keep s2) ⟨_,rfl,?_⟩
   by_cases hc:c1 =(fz w1 b1 d1 rows1:Nat)
   ·refine kJ hc ?_
    exact⟨_,rfl,s2,ht2,λ _=>hc,λ h=>absurd h (by omega)⟩
   ·refine GX hc ?_
    exact⟨_,rfl,p1,_,dx1,_,_,rfl,s2 p1 _ h1,hcl w1,nday w1,jB,lK (E:=E) T.kF λ e H' he hs=>qb1 hst hc e H' he (s2.trans hs)⟩
  | 1,hi =>
   have:V.ref p2=y:=by simpa using hi
   subst this
   refine gdE (i:=2) rfl (hP2.keep s2) ⟨_,rfl,?_⟩
   by_cases hc:c2 =(fz w2 b2 d2 rows2:Nat)
   ·refine kJ hc ?_
    exact⟨_,rfl,s2,ht2,λ _=>g1 (by omega),λ _=>hc⟩
   ·refine GX hc ?_
    exact⟨_,rfl,p2,_,dx2,_,_,rfl,s2 p2 _ h2,hcl w2,nday w2,jB,lK (E:=E) T.kF λ e H' he hs=>qb2 hst (g1 (by omega)) hc e H' he (s2.trans hs)⟩
  | i + 2,hi=>simp at hi
 rintro σ H2 ⟨v,rfl,s2,ht2,g1,g2⟩
 have hc1:=g1 (by show 1 ≤ 2;omega)
 have hc2:=g2 (by show 2 ≤ 2;omega)
 have en:([]:List (Key × V))=kvR []:=rfl
 refine⟨_,rfl,p1,_,dx1,_,_,rfl,s2 p1 _ h1,hcl w1,nrows w1,vM,r1,R1,kvR rows1,rfl,f1.keep s2,(by unfold kvR;rw [List.length_map];exact hr1.len),pK (hr1.mono λ t xs e=>s2 t _ e),λ dd hdd=>?_⟩
 rw [show fX [] (kvR rows1)=kvR (aV [] rows1) from jR rows1 []]
 have s3:ao H2 (upd H2 dd (.dK (kvR (aV [] rows1)))):=ao.new hdd
 have hd3:upd H2 dd (.dK (kvR (aV [] rows1))) dd=some (.dK (kvR (aV [] rows1))):=ah
 generalize upd H2 dd (.dK (kvR (aV [] rows1)))=H3 at s3 hd3
 have s03:=s2.trans s3
 have fdd:H dd=none:=Oj s2 hdd
 have l1:=jl rows1 []
 have l2:=jl rows2 []
 simp only [List.length_nil,Nat.zero_add] at l1 l2
 refine⟨_,rfl,dd,rfl,.inl ⟨_,Rd.of hd3⟩,_,rfl,p2,_,dx2,_,_,rfl,s03 p2 _ h2,hcl w2,nrows w2,vM,r2,R2,kvR rows2,rfl,f2.keep s03,(by unfold kvR;rw [List.length_map];exact hr2.len),pK (hr2.mono λ t xs e=>s03 t _ e),λ de hde=>?_⟩
 rw [show fX [] (kvR rows2)=kvR (aV [] rows2) from jR rows2 []]
 have nde:dd ≠ de:=au hd3 hde
 refine⟨de,_,_,rfl,nde,ao.new hde dd _ hd3,ah,(by unfold kvR;rw [List.length_map,List.length_map];exact Nat.le_of_lt (bh (by have:=hlen.1;have:=hlen.2.1;omega))),?_⟩
 rw [jR]
 have hrs:(aV (aV [] rows1) (aV [] rows2)).length < 64:=hlen.2.2
 obtain⟨hlen1,hlen2,_⟩:=id hlen
 have hnd:=ck (aV [] rows2) (ck rows1 (rs:=[]) (by simp))
 generalize hgrs:aV (aV [] rows1) (aV [] rows2)=rs at hrs hnd
 have s04:ao H (upd (upd H3 de (.dK (kvR (aV [] rows2)))) dd (.dK (kvR rs))):=λ b o e=>by rw [aq (au e fdd),aq (au (s03 b _ e) hde)];exact s03 b _ e
 have hd4:upd (upd H3 de (.dK (kvR (aV [] rows2)))) dd (.dK (kvR rs)) dd=some (.dK (kvR rs)):=ah
 generalize upd (upd H3 de (.dK (kvR (aV [] rows2)))) dd (.dK (kvR rs))=H4 at s04 hd4
 refine⟨_,rfl,dd,kvR rs,rs.map (λ r=>(r.1:Int)),rfl,hd4,Bv rs,(by rw [List.length_map,← hgrs];exact hlen.2.2),λ l ks hl hperm hsort=>?_⟩
 have s5:ao H4 (upd H4 l (.lst (ks.map V.int))):=ao.new hl
 have hl5:upd H4 l (.lst (ks.map V.int)) l=some (.lst (ks.map V.int)):=ah
 generalize upd H4 l (.lst (ks.map V.int))=H5 at s5 hl5
 have hd5:=s5 dd _ hd4
 have hkl:ks.length=rs.length:=by rw [hperm.length_eq,List.length_map]
 refine⟨l,rfl,⟨_,SqL.of hl5⟩,λ D hD=>?_⟩
 refine jT D (K:=K) (a:=l) (xs:=ks.map V.int) (λ j σ H6 ys=>∃(v:Option V),σ = [v,some (.ref dd)] /\ ao H5 H6 /\ H6 D=some (.lst ys) /\ bG H6 ys ((cO rs ks).take j)) ⟨none,rfl,ao.new hD,ah,⟨rfl,λ i v e=>by simp at e⟩⟩ (λ j σ H6 ys _ z0=>by obtain⟨_,_,s6,_⟩:=z0;exact SqL.of (s6 l _ hl5)) ?_ ?_
 ·rintro j y σ H6 ys hj ⟨v,rfl,s6,hy,Rj⟩
  obtain⟨n,hnj,rfl⟩:=int_at hj
  have hjl:j < ks.length:=(List.getElem?_eq_some_iff.mp hnj).1
  obtain⟨k,bl,rfl,_,hg⟩:=AJ hnd hperm (List.mem_of_getElem? hnj)
  have hval:aZ (kvR rs) (Sum.inl (k:Int))=some (V.int (bl:Int)):=by rw [qV,hg];rfl
  have hrow:(cO rs ks)[j]? = some (k,bl):=by unfold cO;rw [List.getElem?_map,hnj];show some (((k:Int)).toNat,(dm rs ((k:Int)).toNat).getD 0)=_;rw [Int.toNat_natCast,hg];rfl
  refine⟨_,rfl,_,rfl,_,rfl,dd,V.int (bl:Int),rfl,hval ▸ gb.k (k:=Sum.inl (k:Int)) (s6 dd _ hd5),(by show 2 ≤ sizeLine;decide),λ t2 ht2=>?_⟩
  have nD:D ≠ t2:=au hy ht2
  refine⟨by rw [aq nD];exact hy,(by rw [Rj.len,List.length_take];exact bh (by omega)),_,rfl,λ b o e=>?_,ah,?_⟩
  ·rw [aq (au e hD)];exact ao.new ht2 b _ (s6 b _ e)
  ·rw [List.take_add_one,hrow]
   refine(Rj.mono λ b xs e=>?_).snoc ?_
   ·rw [aq (bB e hy (by intro z;cases z))];exact ao.new ht2 b _ e
   ·rw [aq nD.symm,ah]
 rintro σ H6 ys ⟨v',rfl,s6,hy,Rj⟩
 have hrl:(cO rs ks).length=ks.length:=by unfold cO;rw [List.length_map]
 rw [List.length_map,List.take_of_length_le (by omega)] at Rj
 have s06:=(s04.trans s5).trans s6
 have hmo:Bg rows1 rows2 (cO rs ks):=by
  refine⟨by rw [hgrs];exact vH hnd hperm,?_⟩
  have e:(cO rs ks).map (·.1)=ks.map Int.toNat:=by unfold cO;rw [List.map_map];rfl
  rw [e,List.pairwise_map]
  exact hsort.imp (λ h=>by omega)
 refine kdE (i:=0) rfl (hP1.keep s06) ?_
 refine⟨rfl,_,rfl,?_⟩
 cases w1
 ·refine zl (λ h=>absurd (V.str.inj h) (by decide +kernel)) ?_
  refine⟨_,rfl,p1,_,dx1,_,_,rfl,s06 p1 _ h1,T.bI,T.dP,zU,_,rfl,p2,_,dx2,_,_,rfl,s06 p2 _ h2,hcl w2,nday w2,jB,_,rfl,λ x dx hx hdx hne=>?_⟩
  have sM:ao H6 (upd (upd H6 dx (.own x)) x (.ins ak dx [])):=(ao.new hdx).trans (ao.new (by rw [aq hne.symm];exact hx))
  refine⟨_,_,_,_,_,rfl,.inl ⟨x,dx,D,b1,d2,ys,cO rs ks,.non,_,rfl,ah,sM D _ hy,Rj.mono (λ t xs e=>sM t _ e),by omega,.inl ⟨rfl,rfl⟩,λ H7 hPx kp=>⟨rfl,?_⟩⟩⟩
  exact qg hst hc1 hc2 x b1 _ H7 (λ _=>rfl) hmo hPx (s06.trans (eU hx hdx kp))
 ·refine Ag rfl ?_
  refine⟨_,rfl,p2,_,dx2,_,_,rfl,s06 p2 _ h2,hcl w2,nday w2,jB,_,rfl,λ x dx hx hdx hne=>?_⟩
  have sM:ao H6 (upd (upd H6 dx (.own x)) x (.ins af dx [])):=(ao.new hdx).trans (ao.new (by rw [aq hne.symm];exact hx))
  refine⟨x,dx,D,d2,ys,cO rs ks,.non,_,rfl,ah,sM D _ hy,Rj.mono (λ t xs e=>sM t _ e),by omega,.inl ⟨rfl,rfl⟩,λ H7 hPx kp=>⟨rfl,?_⟩⟩
  exact qg hst hc1 hc2 x 0 _ H7 (λ h=>by cases h) hmo hPx (s06.trans (eU hx hdx kp))
theorem ye {f:Addr} {fd:FuncData} (F:Fun K "_law_changes" "_law_changes" e8 f fd) (T:Txt K mg t_W aH aG aC aB aF aJ af ak aj) (cJ:DefX P w K mg base "_law_stir" 1 ["_law_cell_here","_law_k"] oN) (mK:DefX P w K mg base "_law_block" 2 ["_law_cell_here","_law_k"] vK):bq P w K mg base (CXx P w) 3 f fd ["_law_cell_here","_law_wide"] (mO):=by
 refine F.okX yd (λ vs H Q E h=>?_) (λ cdv A outer s H vs Q E hr h=>?_)
 ·obtain⟨c,wd,rfl,hw,q⟩:=h;rfl
 obtain⟨c,wd,rfl,hw,q⟩:=h
 refine⟨_,(aD (aQ (iw (N:=["_law_k","_law_wide","_law_cell_here"]) (k:=1) (cap:=[1,0]) rfl rfl (jV rfl T.oX (aa (aI bW (aW cJ aE (hr.mono (by decide)) rfl (aa (pv 0) (aa az ay))) az) ay)) (λ _ _ _ _=>(aT (i:=0) (show(["_law_k","_law_wide","_law_cell_here"]:List Str).Nodup from by decide +kernel) rfl (Or.inl rfl) (.inr rfl))) (λ _ _ _ _=>jz) (λ _ _ _ _=>(dS (aa (aI bW (aW cJ aE (hr.mono (by decide)) rfl (aa (pv 2) (aa (aI cg az (pv 0)) ay))) (pv 1)) (aa (aW mK aE (hr.mono (by decide)) rfl (aa (pv 2) (aa (pv 0) ay))) ay))))))),?_⟩
 obtain⟨m,hm,hm4⟩:∃ m:Nat,iG c 69 % 4 =(m:Int) /\ m < 4:=⟨(iG c 69 % 4).toNat,by omega,by omega⟩
 refine⟨_,rfl,c,69,rfl,_,_,rfl,rfl,(by first | decide |(dsimp only;decide)),iG c 69 % 4,rfl,by omega,by omega,λ D' hD'=>?_⟩
 refine kP (lo:=0) (n:=(iG c 69 % 4).toNat) D' (λ i σ H2 ys=>∃(v:Option V) (chs:List (Int × Int)),σ = [v,some (.int (wd:Int)),some (.int c)] /\ ao H H2 /\ H2 D'=some (.lst ys) /\ jA H2 ys chs /\ chs.length=i /\ ∀ x ∈ chs,0 ≤ x.1 /\ x.1 <(wd:Int) /\ 0 ≤ x.2 /\ x.2 < 2 ^ 64) ⟨none,[],rfl,ao.new hD',ah,jA.nil,rfl,λ x h=>by cases h⟩ ?_ ?_
 ·rintro i σ H2 ys hi ⟨v,chs,rfl,s2,hD2,R,hcl,hcb⟩
  have hi4:i < 4:=by omega
  refine⟨_,rfl,_,rfl,_,_,rfl,rfl,c,_,rfl,_,rfl,_,_,rfl,rfl,(by show(0:Int) <(wd:Int);omega),_,rfl,_,rfl,c,_,rfl,(by show 2 ≤ sizeLine;decide),λ t ht=>?_⟩
  dsimp only
  have nDt:D' ≠ t:=au hD2 ht
  have h1:=Int.emod_nonneg (iG c (70 +(0 +(i:Int)))) (show(wd:Int) ≠ 0 by omega)
  have h2:=Int.emod_lt_of_pos (iG c (70 +(0 +(i:Int)))) (show(0:Int) < wd by omega)
  have h3:=Jl c (0 +(i:Int))
  refine⟨by rw [aq nDt];exact hD2,by rw [R.len,hcl];exact bh (by omega),_,chs ++ [(iG c (70 +(0 +(i:Int))) % (wd:Int),gB c (0 +(i:Int)))],rfl,λ b o e=>?_,ah,?_,by simp [hcl],λ x hx=>?_⟩
  ·rw [aq (au e hD')];exact ao.new ht b o (s2 b o e)
  ·refine(R.mono λ b xs e=>?_).snoc ?_
   ·rw [aq (bB e hD2 (by intro z;cases z))];exact ao.new ht b _ e
   ·rw [aq nDt.symm,ah]
  ·rcases List.mem_append.mp hx with h | h
   ·exact hcb x h
   ·rw [List.mem_singleton.mp h];exact⟨h1,h2,h3⟩
 ·rintro σ H2 ys ⟨v,chs,rfl,s2,hD2,R,hcl,hcb⟩
  exact q D' ys chs H2 hD2 hD' R ⟨by omega,hcb⟩ s2
theorem zI {f:Addr} {fd:FuncData} (F:Fun K "_law_tables" "_law_tables" fJ f fd) (T:Txt K mg t_W aH aG aC aB aF aJ af ak aj) :bq P w K mg base (CXx P w) 1 f fd ["_law_wide","_law_changes_here"] (nY):=by
 refine F.okX eZ (λ vs H Q E h=>?_) (λ cdv A outer s H vs Q E hr h=>?_)
 ·obtain⟨cl,wd,chss,rfl,hC,q⟩:=h;rfl
 obtain⟨cl,wd,chss,rfl,hC,q⟩:=h
 refine⟨_,(av (aN (i:=2) eZ.nd rfl (Or.inl rfl) (eF (aa (aI MU (eF (aa az ay)) (pv 0)) ay)))
   (av (dW PassesOwn.leaving rfl (cI (pv 1)) (aT (i:=3) eZ.nd rfl (Or.inl rfl))
   (av (aN (i:=4) eZ.nd rfl (Or.inl rfl) (eV mj (by rfl) T.mz PyProof.Rows.boot_list (aa (bz cB (pv 2) (iH gK az) (λ _ _=>rfl)) ay)))
   (av (dW PassesOwn.leaving rfl (cI (pv 3)) (jf rfl (bL (aT (i:=5) eZ.nd rfl (Or.inl rfl)) (bL (aT (i:=6) eZ.nd rfl (Or.inl rfl)) ir)))
   (aD (yl (pv 6) (HP (pv 4) (pv 5) set_list))))
   (aD (bV (rL PySem.F.plainAttrs_list PySem.F.slot_list_append PySem.F.type_list_append g8 (pv 2) (aa (pv 4) ay)))))))
   (aD (aQ (pv 2))))),?_⟩
 obtain⟨RL,hcl,hRC⟩:=hC.ex
 obtain⟨hw0,hw40⟩:=hC.w
 have hn61:=hC.n
 refine⟨(by show 1 ≤ sizeLine;decide),λ z hz=>⟨_,rfl,z,(wd:Int),_,rfl,rfl,ah,by omega,by omega,(by show 1 * _ ≤ sizeLine;exact Nat.le_of_lt (bh (by omega))),λ t ht=>⟨(by show 1 ≤ sizeLine;decide),λ tl htl=>?_⟩⟩⟩
 have s1:ao H (upd H z (.lst [V.int 0])):=ao.new hz
 generalize upd H z (.lst [V.int 0])=G1 at s1 ht htl ⊢
 rw [show((wd:Int)).toNat=wd by omega,Bw]
 rw [show((wd:Int)).toNat=wd by omega,Bw] at htl
 have s2:ao G1 (upd G1 t (.lst ((List.replicate wd 0).map V.int))):=ao.new ht
 have ht2:upd G1 t (.lst ((List.replicate wd 0).map V.int)) t=some (.lst ((List.replicate wd 0).map V.int)):=ah
 generalize upd G1 t (.lst ((List.replicate wd 0).map V.int))=G2 at s2 ht2 htl ⊢
 have s3:ao G2 (upd G2 tl (.lst [V.ref t])):=ao.new htl
 have htl3:upd G2 tl (.lst [V.ref t]) tl=some (.lst ([t].map V.ref)):=ah
 generalize upd G2 tl (.lst [V.ref t])=H1 at s3 htl3 ⊢
 have s01:=s1.trans (s2.trans s3)
 have ntl:H tl=none:=(s1.trans s2).free htl
 have nt:H t=none:=s1.free ht
 have ntt:tl ≠ t:=(au ht2 htl).symm
 refine bA [some (.int (wd:Int)),some (.ref cl),some (.ref tl),none,none,none,none] ?_
 dsimp only
 refine bU (λ σ H'=>∃(v3 v4 v5 v6:Option V) (LT:List Addr),σ = [some (.int (wd:Int)),some (.ref cl),some (.ref tl),v3,v4,v5,v6] /\ ao H H' /\ H' tl=some (.lst (LT.map V.ref)) /\ Rows H' LT (eG wd chss) /\ ∀ b ∈ LT,H b=none) (λ N hN=>?_) ?_
 ·refine⟨_,rfl,cl,rfl,⟨_,SqL.of (s01 _ _ hcl)⟩,gf (K:=K) (a:=cl) (xs:=RL.map V.ref) (λ i σ H'=>∃(v3 v4 v5 v6:Option V) (LT:List Addr),σ = [some (.int (wd:Int)),some (.ref cl),some (.ref tl),v3,v4,v5,v6] /\ ao H H' /\ H' tl=some (.lst (LT.map V.ref)) /\ Rows H' LT (eG wd (chss.take i)) /\(∀ b ∈ LT,H b=none) /\ tl ∉ LT) ⟨none,none,none,none,[t],rfl,s01,htl3,⟨rfl,λ i b xs e1 e2=>?_⟩,λ b hb=>by rw [List.mem_singleton.mp hb];exact nt,by simpa using ntt⟩ (λ i σ H' _ z0=>by obtain⟨_,_,_,_,_,_,s',_⟩:=z0;exact SqL.of (s' _ _ hcl)) ?_ ?_⟩
  ·cases i with
   | zero=>cases e1;cases e2;exact s3 _ _ ht2
   | succ i=>cases e1
  ·rintro i v σ H2 hi ⟨v3,v4,v5,v6,LT,rfl,s4,htl4,hLT,hfr,htn⟩
   rw [List.getElem?_map] at hi
   obtain⟨ra,hra,rfl⟩:=Option.map_eq_some_iff.mp hi
   have hil:i < chss.length:=by rw [← hRC.len];exact(List.getElem?_eq_some_iff.mp hra).1
   obtain⟨cs,hcs⟩:∃ cs,chss[i]? = some cs:=⟨_,List.getElem?_eq_getElem hil⟩
   have hok:=hC.ok cs (List.mem_of_getElem? hcs)
   obtain⟨L,hL0,hCh0⟩:=hRC.get i ra cs hra hcs
   have hL:=s4 _ _ hL0
   have htk:chss.take (i + 1)=chss.take i ++ [cs]:=by rw [List.take_add_one,hcs];rfl
   have htl':=Br wd (chss.take i)
   have hLl:=hLT.len
   have hlen:LT.length=i + 1:=by rw [hLl,htl',List.length_take];omega
   obtain⟨tab,htab⟩:∃ tab,(eG wd (chss.take i))[(eG wd (chss.take i)).length - 1]? = some tab:=⟨_,List.getElem?_eq_getElem (by omega)⟩
   have hTab:TabOk wd tab:=tabs_ok (λ cs hc=>hC.ok cs (List.mem_of_mem_take hc)) tab (List.mem_of_getElem? htab)
   obtain⟨la,hla,hlm,hlaH⟩:=hLT.at_ htab
   refine bA [some (.int (wd:Int)),some (.ref cl),some (.ref tl),some (.ref ra),v4,v5,v6] ?_
   dsimp only
   refine⟨_,rfl,_,rfl,tl,_,_,V.ref la,rfl,rfl,SqL.of htl4,Nt (by rw [List.length_map,hLl,List.getElem?_map,hla];rfl),la,_,rfl,.inl (SqL.of hlaH),λ n hn=>?_⟩
   refine bA [some (.int (wd:Int)),some (.ref cl),some (.ref tl),some (.ref ra),some (.ref n),v5,v6] ?_
   dsimp only
   have nn:H n=none:=s4.free hn
   have nra:ra ≠ n:=au hL hn
   have ntn:tl ≠ n:=au htl4 hn
   refine bU (λ σ H'=>∃ v5 v6:Option V,σ = [some (.int (wd:Int)),some (.ref cl),some (.ref tl),some (.ref ra),some (.ref n),v5,v6] /\ H'=upd H2 n (.lst ((nextT tab cs).map V.int))) (λ N2 hN2=>?_) ?_
   ·refine⟨_,rfl,ra,rfl,⟨_,SqL.of (by rw [aq nra];exact hL)⟩,gf (K:=K) (a:=ra) (xs:=L) (λ j σ H3=>∃ v5 v6:Option V,σ = [some (.int (wd:Int)),some (.ref cl),some (.ref tl),some (.ref ra),some (.ref n),v5,v6] /\ H3=upd H2 n (.lst ((nextT tab (cs.take j)).map V.int))) ⟨v5,v6,rfl,rfl⟩ (λ j σ H3 _ z0=>by obtain⟨_,_,_,e⟩:=z0;exact by rw [e];exact SqL.of (by rw [aq nra];exact hL)) ?_ ?_⟩
    ·rintro j v σ H3 hj ⟨v5,v6,rfl,rfl⟩
     obtain⟨t',r,rfl,hr2,ht'⟩:=hCh0.get j v hj
     have hb:=hok.2 r (List.mem_of_getElem? hr2)
     have ht2':=s4 _ _ ht'
     refine⟨t',_,rfl,SqT.of (by rw [aq (au ht2' hn)];exact ht2'),rfl,_,_,rfl,_,_,rfl,rfl,?_⟩
     refine⟨_,rfl,_,rfl,_,rfl,n,_,_,r.1.toNat,rfl,rfl,ah,?_,?_⟩
     ·rw [List.length_map,HU,hTab.1];unfold ixN;rw [if_pos (by omega),if_pos (by omega)]
     ·refine⟨_,_,rfl,?_⟩
      rw [vc]
      have e:cs.take (j + 1)=cs.take j ++ [r]:=by rw [List.take_add_one,hr2];rfl
      rw [e,Fl,List.map_set]
    ·rintro σ H3 ⟨v5,v6,rfl,rfl⟩
     rw [show cs.take L.length=cs by rw [hCh0.len,List.take_length]]
     exact hN2 _ _ ⟨v5,v6,rfl,rfl⟩
   rintro σ H3 ⟨v5,v6,rfl,rfl⟩
   have s5:ao H2 (upd H2 n (.lst ((nextT tab cs).map V.int))):=ao.new hn
   have hn5:upd H2 n (.lst ((nextT tab cs).map V.int)) n=some (.lst ((nextT tab cs).map V.int)):=ah
   generalize upd H2 n (.lst ((nextT tab cs).map V.int))=H5 at s5 hn5 ⊢
   have htl5:=s5 _ _ htl4
   refine⟨_,rfl,.inl ⟨rfl,_,SqL.of htl5⟩,_,rfl,tl,_,_,rfl,rfl,htl5,by rw [List.length_map,hlen];exact bh (by omega),?_⟩
   refine⟨_,_,_,_,LT ++ [n],rfl,λ b o e=>?_,by rw [ah,List.map_append];rfl,?_,λ b hb=>?_,?_⟩
   ·rw [aq (au e ntl)];exact s5 b o (s4 b o e)
   ·rw [htk,Hq,D4 htab]
    refine((hLT.mono λ b _ o e=>s5 b o e).mono λ b hb o e=>?_).snoc ?_
    ·rw [aq (show b ≠ tl from λ z=>htn (by rw [← z];exact hb))];exact e
    ·rw [aq ntn.symm];exact hn5
   ·rcases List.mem_append.mp hb with h | h
    ·exact hfr b h
    ·rw [List.mem_singleton.mp h];exact nn
   ·simp only [List.mem_append,List.mem_singleton,not_or]
    exact⟨htn,ntn⟩
  ·rintro σ H2 ⟨v3,v4,v5,v6,LT,rfl,s4,htl4,hLT,hfr,htn⟩
   rw [List.length_map,hRC.len,List.take_length] at hLT
   exact hN _ _ ⟨v3,v4,v5,v6,LT,rfl,s4,htl4,hLT,hfr⟩
 rintro σ H2 ⟨v3,v4,v5,v6,LT,rfl,s4,htl4,hLT,hfr⟩
 exact⟨_,rfl,q tl LT H2 htl4 hLT ntl hfr s4⟩
theorem vC {f:Addr} {fd:FuncData} (F:Fun K "_law_same_rows" "_law_same_rows" dD f fd) (T:Txt K mg t_W aH aG aC aB aF aJ af ak aj) (fB:DefX P w K mg base "_law_whole" 1 ["_law_found"] qu):bq P w K mg base (CXx P w) 2 f fd ["_law_found","_law_rows"] (xO):=by
 refine F.okX iA (λ vs H Q E h=>?_) (λ cdv A outer s H vs Q E hr h=>?_)
 ·obtain⟨f,l,R,L,rows,rfl,hf,hl,R1,R2,q⟩:=h;rfl
 obtain⟨f,l,R,L,rows,rfl,hf,hl,R1,R2,q⟩:=h
 refine⟨_,(av (bN (PW.pt (pw_or (fq (cQ (aY A9 (by rfl) T.cX PyProof.Rows.boot_isinstance (aa (pv 0) (aa (jt (v:=.ty "tuple") rfl T.oQ PyProof.Rows.boot_tuple rfl) ay))))) (pw_or1 (aR jm (aY bK (by rfl) T.fC PySem.boot_len (aa (pv 0) ay)) (aY bK (by rfl) T.fC PySem.boot_len (aa (pv 1) ay)) (aU _))))) (aD (aQ eO)) bu)
   (av (dW PassesOwn.leaving rfl (LG rfl T.NV (aa (pv 0) (aa (pv 1) ay))) (jf rfl (bL (aT (i:=2) iA.nd rfl (Or.inl rfl)) (bL (aT (i:=3) iA.nd rfl (Or.inl rfl)) ir)))
   (av (bN (PW.pt (pw_or (fq (cQ (aY eT (by rfl) T.cX PyProof.Rows.boot_isinstance (aa (pv 2) (aa (jt (v:=.ty "tuple") rfl T.oQ PyProof.Rows.boot_tuple rfl) ay))))) (pw_or (aR jm (aY bK (by rfl) T.fC PySem.boot_len (aa (pv 2) ay)) az (aU _)) (pw_or1 (aR (m5 hr.units) (pv 2) (pv 3) (aU _)))))) (aD (aQ eO)) bu)
   (aD (bN (PW.pt (pw_or (fq (cQ (aW fB aE (hr.mono (by decide)) rfl (aa (bz cj (pv 2) az (λ _ _=>rfl)) ay)))) (pw_or1 (fq (cQ (aW fB aE (hr.mono (by decide)) rfl (aa (bz cj (pv 2) az (λ _ _=>rfl)) ay))))))) (aD (aQ eO)) bu))))
   (aD (aQ eO)))),?_⟩
 refine⟨_,rfl,f,R,rfl,hf,_,rfl,?_⟩
 refine dI ?_
 refine⟨_,rfl,f,_,rfl,.inr (hf.sq),_,rfl,l,_,rfl,.inl (SqL.of hl),rfl,_,rfl,?_⟩
 refine kJ (by rw [R1.len,R2.len]) ?_
 refine⟨_,rfl,_,rfl,f,l,rfl,⟨_,hf.sq⟩,⟨_,SqL.of hl⟩,KI (K:=K) (l1:=f) (l2:=l) (xs:=R) (ys:=L) (λ i σ H2=>∃ v2 v3:Option V,σ = [some (.ref f),some (.ref l),v2,v3] /\ ao H H2) ⟨none,none,rfl,ao.refl _⟩ (λ i σ H2 ⟨_,_,_,s2⟩=>⟨(hf.keep s2).sq,SqL.of (s2 l _ hl)⟩) (by rw [R1.len,R2.len]) ?_ ?_⟩
 ·rintro i x y σ H2 TT hx hy ⟨v2,v3,rfl,s2⟩ hT
  obtain⟨t1,r,rfl,hr,ht1⟩:=R1.get i x hx
  obtain⟨t2,r2,rfl,hr2,ht2⟩:=R2.get i y hy
  rw [hr] at hr2;cases hr2
  have s3:=s2.trans (ao.new (o:=.tup [V.ref t1,V.ref t2]) hT)
  have hT3:upd H2 TT (.tup [V.ref t1,V.ref t2]) TT=some (.tup [V.ref t1,V.ref t2]):=ah
  generalize upd H2 TT (.tup [V.ref t1,V.ref t2])=H3 at s3 hT3
  have ht1':=s3 t1 _ ht1
  have ht2':=s3 t2 _ ht2
  refine⟨TT,_,rfl,SqT.of hT3,rfl,_,_,rfl,_,_,rfl,rfl,?_⟩
  refine⟨_,rfl,_,_,_,_,true,rfl,rfl,.tup ht1',rfl,_,rfl,?_⟩
  refine dI ?_
  refine⟨_,rfl,t1,_,rfl,.inr (SqT.of ht1'),rfl,_,rfl,?_⟩
  refine kJ rfl ?_
  refine⟨_,rfl,_,rfl,0,true,by decide,eK.Ls (SqT.of ht1') (SqT.of ht2') (λ x hx=>?_),_,rfl,?_⟩
  ·simp only [List.mem_cons,List.not_mem_nil,or_false] at hx
   rcases hx with rfl | rfl <;> exact DX _
  refine dI ?_
  refine⟨_,rfl,t1,_,_,V.int (r.1:Int),rfl,rfl,SqT.of ht1',dY (j:=0) rfl,_,rfl,_,rfl,?_⟩
  refine dI ?_
  refine⟨_,rfl,t1,_,_,V.int (r.2:Int),rfl,rfl,SqT.of ht1',dY (j:=1) rfl,_,rfl,_,rfl,?_⟩
  refine dI ?_
  exact⟨_,_,rfl,s3⟩
 ·rintro σ H2 ⟨v2,v3,rfl,s2⟩
  exact q H2 s2
theorem yi {f:Addr} {fd:FuncData} (F:Fun K "_law_rows_of" "_law_rows_of" eW f fd) (T:Txt K mg t_W aH aG aC aB aF aJ af ak aj) :bq P w K mg base (CXx P w) 1 f fd ["_law_changes_here","_law_tables_here","_law_start","_law_day"] (nU):=by
 refine F.okX fS (λ vs H Q E h=>?_) (λ cdv A outer s H vs Q E hr h=>?_)
 ·obtain⟨cl,tl,wd,d,s,chss,rfl,hC,hT,hs,hdl,q⟩:=h;rfl
 obtain⟨cl,tl,wd,d,s,chss,rfl,hC,hT,hs,hdl,q⟩:=h
 refine⟨_,(av (bN (aR dw (pv 2) (iH gK az) (aU _)) (aD (aQ (Dr rfl rfl T.mz rfl T.DA (bz cB (pv 1) (pv 3) (λ _ _=>rfl))))) bu)
   (av (aN (i:=4) fS.nd rfl (Or.inl rfl) mh)
   (av (dW PassesOwn.leaving rfl (cI (xH z8 (pv 0) (uY (pv 2)) (uY (pv 3)))) (aT (i:=5) fS.nd rfl (Or.inl rfl))
   (aD (dW PassesOwn.leaving rfl (cI (pv 5)) (jf rfl (bL (aT (i:=6) fS.nd rfl (Or.inl rfl)) (bL (aT (i:=7) fS.nd rfl (Or.inl rfl)) ir)))
   (aD (oK (dO hr) (pv 4) (pv 6) eO rfl)))))
   (aD (aQ (iw (N:=["_law_place","_law_tables_here","_law_day"]) (k:=1) (cap:=[1,3]) rfl rfl (cI (aY (gq rfl) (by rfl) T.jF PyProof.Rows.boot_sorted (aa (pv 4) ay))) (λ _ _ _ _=>(aT (i:=0) (show(["_law_place","_law_tables_here","_law_day"]:List Str).Nodup from by decide +kernel) rfl (Or.inl rfl) (.inr rfl))) (λ _ _ _ _=>jz) (λ _ _ _ _=>(dS (aa (pv 0) (aa (bz (C7 (K:=K) rfl) (bz (C7 (K:=K) rfl) (pv 1) (pv 2) (λ _ _=>rfl)) (pv 0) (λ _ _=>rfl)) ay)))))))))),?_⟩
 obtain⟨RL,hcl,hRC⟩:=hC.ex
 obtain⟨hw0,hw40⟩:=hC.w
 have hn61:=hC.n
 have hSin:=D5 hw40 hC.ok
 have hRl:=hRC.len
 obtain⟨LT,htl,hLT⟩:=hT
 obtain⟨tab,htab⟩:∃ tab,(eG wd chss)[d]? = some tab:=⟨_,List.getElem?_eq_getElem (by rw [Br];omega)⟩
 have hTab:TabOk wd tab:=tabs_ok hC.ok tab (List.mem_of_getElem? htab)
 obtain⟨ta,hta,_,htaH⟩:=hLT.at_ htab
 rcases hs with rfl |⟨hs0,hsd⟩
 ·refine HA (λ Qb hq=>?_) ?_
  ·exact⟨_,rfl,_,rfl,rfl,_,rfl,hq⟩
  exact⟨_,rfl,_,rfl,tl,_,_,V.ref ta,rfl,rfl,SqL.of htl,dY (by rw [List.getElem?_map,hta];rfl),ta,_,rfl,SqL.of htaH,λ r ts H2 hr0 s2 hts hr2 hEn=>q r _ (qP tab) H2 hr2 (enum_rows hEn hts hTab.2) (SpR.whole htab hTab) s2⟩
 obtain⟨b,rfl⟩:∃ b:Nat,s =(b:Int):=⟨s.toNat,by omega⟩
 have hbd:b ≤ d:=by omega
 refine Bc (λ Qb hq=>?_) ?_
 ·refine⟨_,rfl,_,rfl,rfl,_,rfl,?_⟩
  rw [decide_eq_false (λ z=>by have:=V.int.inj z;omega)];exact hq
 unfold iL
 dsimp only
 refine λ e he=>?_
 have s1:ao H (upd H e (.dK [])):=ao.new he
 have he1:upd H e (.dK []) e=some (.dK []):=ah
 generalize upd H e (.dK [])=H1 at s1 he1 ⊢
 refine bA [some (.ref cl),some (.ref tl),some (.int (b:Int)),some (.int (d:Int)),some (.ref e),none,none,none] ?_
 dsimp only
 refine bU (λ σ H'=>∃(v5 v6 v7:Option V) (ek:List (Key × V)) (M:Int->Option Unit),σ = [some (.ref cl),some (.ref tl),some (.int (b:Int)),some (.int (d:Int)),some (.ref e),v5,v6,v7] /\ ao H H' /\ H' e=some (.dK ek) /\ aX (λ _ _=>True) ek M /\ ∀ k,(M k).isSome=true ↔ oZ (jk chss) b d k) (λ N hN=>?_) ?_
 ·refine⟨_,rfl,_,rfl,_,rfl,_,rfl,_,rfl,cl,_,rfl,SqL.of (s1 _ _ hcl),λ sl hsl=>?_⟩
  have hcut:j8 (RL.map V.ref) (some (b:Int)) (some (d:Int)) =((RL.drop b).take (d - b)).map V.ref:=by
   unfold j8
   rw [HT.DY,HT.DY,List.length_map,show min b RL.length=b by omega,show min d RL.length=d by omega,← List.map_drop,← List.map_take]
  rw [hcut]
  have s2:ao H1 (upd H1 sl (.lst (((RL.drop b).take (d - b)).map V.ref))):=ao.new hsl
  have hsl2:upd H1 sl (.lst (((RL.drop b).take (d - b)).map V.ref)) sl=some (.lst (((RL.drop b).take (d - b)).map V.ref)):=ah
  have nse:sl ≠ e:=(au he1 hsl).symm
  generalize upd H1 sl (.lst (((RL.drop b).take (d - b)).map V.ref))=H2 at s2 hsl2 ⊢
  refine⟨sl,rfl,⟨_,SqL.of hsl2⟩,gf (K:=K) (a:=sl) (xs:=((RL.drop b).take (d - b)).map V.ref) (λ i σ H'=>∃(v5 v6 v7:Option V) (ek:List (Key × V)) (M:Int->Option Unit),σ = [some (.ref cl),some (.ref tl),some (.int (b:Int)),some (.int (d:Int)),some (.ref e),v5,v6,v7] /\ ao H H' /\ H' sl=some (.lst (((RL.drop b).take (d - b)).map V.ref)) /\ H' e=some (.dK ek) /\ aX (λ _ _=>True) ek M /\ ∀ k,(M k).isSome=true ↔ oZ (jk chss) b (b + i:Nat) k) ⟨none,none,none,[],λ _=>none,rfl,s1.trans s2,hsl2,s2 _ _ he1,aX.nil,λ k=>⟨(λ h=>by cases h),λ⟨d',xs,a,b',_⟩=>by omega⟩⟩ (λ i σ H' _ z0=>by obtain⟨_,_,_,_,_,_,_,h,_⟩:=z0;exact SqL.of h) ?_ ?_⟩
  ·rintro i v σ H3 hi ⟨v5,v6,v7,ek,M,rfl,s3,hsl3,he3,hE,hM⟩
   rw [List.getElem?_map] at hi
   obtain⟨ra,hra,rfl⟩:=Option.map_eq_some_iff.mp hi
   have hid:i < d - b:=by
    have:=(List.getElem?_eq_some_iff.mp hra).1
    rw [List.length_take] at this;omega
   rw [List.getElem?_take,if_pos hid,List.getElem?_drop] at hra
   obtain⟨cs,hcs⟩:∃ cs,chss[b + i]? = some cs:=⟨_,List.getElem?_eq_getElem (by omega)⟩
   have hok:=hC.ok cs (List.mem_of_getElem? hcs)
   obtain⟨L,hL0,hCh0⟩:=hRC.get _ ra cs hra hcs
   have hset:(jk chss)[b + i + 1]? = some (cs.map Prod.fst):=by unfold jk;rw [List.getElem?_cons_succ,List.getElem?_map,hcs];rfl
   refine bA [some (.ref cl),some (.ref tl),some (.int (b:Int)),some (.int (d:Int)),some (.ref e),some (.ref ra),v6,v7] ?_
   dsimp only
   refine⟨_,rfl,ra,rfl,⟨_,SqL.of (s3 _ _ hL0)⟩,gf (K:=K) (a:=ra) (xs:=L) (λ j σ H'=>∃(v6 v7:Option V) (ek:List (Key × V)) (M:Int->Option Unit),σ = [some (.ref cl),some (.ref tl),some (.int (b:Int)),some (.int (d:Int)),some (.ref e),some (.ref ra),v6,v7] /\ ao H H' /\ H' sl=some (.lst (((RL.drop b).take (d - b)).map V.ref)) /\ H' e=some (.dK ek) /\ aX (λ _ _=>True) ek M /\ ∀ k,(M k).isSome=true ↔ (oZ (jk chss) b (b + i:Nat) k ∨ k ∈(cs.take j).map Prod.fst)) ⟨v6,v7,ek,M,rfl,s3,hsl3,he3,hE,λ k=>by rw [hM k];simp⟩ (λ j σ H' _ z0=>by obtain⟨_,_,_,_,_,s',_⟩:=z0;exact SqL.of (s' _ _ hL0)) ?_ ?_⟩
   ·rintro j v σ H4 hj ⟨v6,v7,ek,M,rfl,s4,hsl4,he4,hE4,hM4⟩
    obtain⟨t',r,rfl,hr2,ht'⟩:=hCh0.get j v hj
    have htk:cs.take (j + 1)=cs.take j ++ [r]:=by rw [List.take_add_one,hr2];rfl
    have hel:ek.length ≤ wd:=Ay hE4 λ k hk=>by
     rcases(hM4 k).mp hk with h | h
     ·exact vh hSin h
     ·obtain⟨c,hc,rfl⟩:=List.mem_map.mp h
      have:=hok.2 c (List.mem_of_mem_take hc);omega
    refine⟨t',_,rfl,SqT.of (s4 _ _ ht'),rfl,_,_,rfl,_,_,rfl,rfl,?_⟩
    dsimp only
    refine⟨_,rfl,_,rfl,e,_,rfl,qW.k (k:=Sum.inl r.1) he4 (bh (by omega)),?_⟩
    refine⟨_,_,putK ek (Sum.inl r.1) (.bl true),gX M r.1 (some ()),rfl,λ b' o eb=>by rw [aq (au eb he)];exact s4 b' o eb,by rw [aq nse];exact hsl4,ah,hE4.put trivial,λ k=>?_⟩
    rw [htk,List.map_append]
    by_cases hk:k=r.1
    ·subst hk;rw [jr];simp
    ·rw [eY hk,hM4 k];simp [hk]
   ·rintro σ H4 ⟨v6,v7,ek,M,rfl,s4,hsl4,he4,hE4,hM4⟩
    refine⟨_,v6,v7,ek,M,rfl,s4,hsl4,he4,hE4,λ k=>?_⟩
    rw [hM4 k,hCh0.len,List.take_length]
    constructor
    ·rintro(⟨d',xs,a,b',c,h⟩ | h)
     ·exact⟨d',xs,a,by omega,c,h⟩
     ·exact⟨b + i + 1,_,by omega,by omega,hset,h⟩
    ·rintro⟨d',xs,a,b',c,h⟩
     by_cases z:d'=b + i + 1
     ·subst z;rw [hset] at c;cases c;exact .inr h
     ·exact .inl ⟨d',xs,a,by omega,c,h⟩
  ·rintro σ H3 ⟨v5,v6,v7,ek,M,rfl,s3,hsl3,he3,hE,hM⟩
   rw [show b +(((RL.drop b).take (d - b)).map V.ref).length=d by rw [List.length_map,List.length_take,List.length_drop];omega] at hM
   exact hN _ _ ⟨v5,v6,v7,ek,M,rfl,s3,he3,hE,hM⟩
 rintro σ H2 ⟨v5,v6,v7,ek,M,rfl,s2,he2,hE,hM⟩
 obtain⟨ks,hks⟩:=fP hE.gH
 have hkl:ek.length=ks.length:=by have:=congrArg List.length hks;simpa using this
 have hel:ek.length ≤ wd:=Ay hE λ k hk=>vh hSin ((hM k).mp hk)
 refine⟨_,rfl,e,ek,ks,rfl,he2,hks,by omega,λ l0 ns hl0 hp hs=>?_⟩
 have hrise:ns.Pairwise (· < ·):=(hs.and (hp.nodup_iff.mpr (C0 hE hks))).imp λ⟨a,b⟩=>by omega
 have hmem:∀ k,k ∈ ns ↔ oZ (jk chss) b d k:=λ k=>by rw [hp.mem_iff,hE.keys hks k,hM k]
 have hin:∀ k ∈ ns,0 ≤ k /\ k <(wd:Int):=λ k hk=>vh hSin ((hmem k).mp hk)
 have hnl:=Cn hrise hin
 have s3:ao H2 (upd H2 l0 (.lst (ns.map V.int))):=ao.new hl0
 have hl3:upd H2 l0 (.lst (ns.map V.int)) l0=some (.lst (ns.map V.int)):=ah
 generalize upd H2 l0 (.lst (ns.map V.int))=H3 at s3 hl3 ⊢
 have s03:=s2.trans s3
 have ht3:=s03 _ _ htaH
 have htl3:=s03 _ _ htl
 refine⟨l0,rfl,⟨_,SqL.of hl3⟩,λ D' hD'=>?_⟩
 refine jT D' (K:=K) (a:=l0) (xs:=ns.map V.int) (λ i σ H4 ys=>∃ v:Option V,σ = [v,some (.ref tl),some (.int (d:Int))] /\ ao H3 H4 /\ H4 D'=some (.lst ys) /\ bG H4 ys (jc (ns.take i) tab)) ⟨none,rfl,ao.new hD',ah,⟨rfl,λ i v e=>by simp at e⟩⟩ (λ i σ H4 ys _ z0=>by obtain⟨_,_,s4,_⟩:=z0;exact SqL.of (s4 _ _ hl3)) ?_ ?_
 ·rintro i v σ H4 ys hi ⟨v0,rfl,s4,hD4,R4⟩
  rw [List.getElem?_map] at hi
  obtain⟨k,hk,rfl⟩:=Option.map_eq_some_iff.mp hi
  have hkb:=hin k (List.mem_of_getElem? hk)
  have hkt:k.toNat < tab.length:=by rw [hTab.1];omega
  have tk:ns.take (i + 1)=ns.take i ++ [k]:=by rw [List.take_add_one,hk];rfl
  have hz0:=hTab.2 tab[k.toNat] (List.getElem_mem hkt)
  have hgd:tab.getD k.toNat 0=tab[k.toNat]:=by rw [List.getD_eq_getElem?_getD,List.getElem?_eq_getElem hkt];rfl
  refine⟨_,rfl,_,rfl,_,rfl,tl,_,_,V.ref ta,rfl,rfl,SqL.of (s4 _ _ htl3),dY (by rw [List.getElem?_map,hta];rfl),_,rfl,ta,_,_,V.int tab[k.toNat],rfl,rfl,SqL.of (s4 _ _ ht3),?_,(by show 2 ≤ sizeLine;decide),λ t2 ht2=>?_⟩
  ·obtain⟨j,rfl⟩:∃ j:Nat,k =(j:Int):=⟨k.toNat,by omega⟩
   have hj:j < tab.length:=hkt
   exact dY (by rw [List.getElem?_map,List.getElem?_eq_getElem hj];rfl)
  have nD:D' ≠ t2:=au hD4 ht2
  refine⟨by rw [aq nD];exact hD4,by rw [R4.len,sH,List.length_take];exact bh (by omega),_,rfl,λ b' o e=>?_,ah,?_⟩
  ·rw [aq (au e hD')];exact ao.new ht2 b' _ (s4 b' _ e)
  ·rw [tk,Gi]
   refine(R4.mono λ b' xs e=>?_).snoc ?_
   ·rw [aq (bB e hD4 (by intro z;cases z))];exact ao.new ht2 b' _ e
   ·rw [aq nD.symm,ah]
    show some (HO.tup [V.int k,V.int tab[k.toNat]])=some (HO.tup [V.int (k.toNat:Int),V.int ((tab.getD k.toNat 0).toNat:Int)])
    rw [hgd,Int.toNat_of_nonneg hkb.1,Int.toNat_of_nonneg hz0]
 ·rintro σ H4 ys ⟨v0,rfl,s4,hD4,R4⟩
  rw [List.length_map,List.take_length] at R4
  exact q D' ys _ H4 hD4 R4 ⟨ns,tab,htab,hrise,λ k=>(hmem k).trans ⟨λ z=>.inr ⟨by omega,z⟩,λ z=>by
   rcases z with⟨z,_⟩ |⟨_,z⟩
   ·omega
   ·exact z⟩,rfl⟩ (s03.trans s4)
theorem yH {f:Addr} {fd:FuncData} (F:Fun K "is_one_good" "is_one_good" fG f fd) (T:Txt K mg t_W aH aG aC aB aF aJ af ak aj) (cG:bf P w K mg base ak "is_good" 3 ["self"] (dM af ak)) (cA:bf P w K mg base af "is_good" 3 ["self"] (dM af ak)):bq P w K mg base (CXx P w) 4 f fd ["pieces"] (xM af ak):=by
 refine F.okX zB (λ vs H Q E h=>?_) (λ cdv A outer s H vs Q E hr h=>?_)
 ·obtain⟨l,L,rfl,hl,hq⟩:=h;rfl
 obtain⟨l,L,rfl,hl,hq⟩:=h
 refine⟨_,(aD (aQ (Ht (iZ dw (aY bK (by rfl) T.fC PySem.boot_len (aa (pv 0) ay)) az (aU _)) (Dj (g7 (br (bz cB (pv 0) az (λ _ _=>rfl)) T.bT cA aE (hr.mono (by decide))) (br (bz cB (pv 0) az (λ _ _=>rfl)) T.bI cG aE (hr.mono (by decide)))))))),?_⟩
 rcases hq with⟨v,q,rfl,hP,qq⟩ |⟨hne,qq⟩
 ·refine⟨_,rfl,l,_,rfl,.inl (SqL.of hl),rfl,_,rfl,?_⟩
  rw [if_pos (decide_eq_true (show V.int (([v].length:Nat):Int)=V.int 1 from rfl))]
  exact HW (λ Q k=>⟨_,rfl,l,[v],0,v,rfl,rfl,SqL.of hl,rfl,k⟩) hP qq
 ·refine⟨_,rfl,l,_,rfl,.inl (SqL.of hl),rfl,_,rfl,?_⟩
  rw [if_neg (show ¬ decide (V.int ((L.length:Nat):Int)=V.int 1)=true from λ z=>hne (by have:=pe z;omega))]
  exact qq
theorem AV {f:Addr} {fd:FuncData} (F:Fun K "ready_days" "ready_days" gz f fd) (T:Txt K mg t_W aH aG aC aB aF aJ af ak aj) (bx:bf P w K mg base aj "numbers" 1 ["self"] (gF aj)) (bC:bf P w K mg base aj "piece" 3 ["self","number"] (iQ aj aC)) (bY:bf P w K mg base ak "start" 1 ["self"] (fV af ak)) (bP:bf P w K mg base af "start" 1 ["self"] gE) (iI:DefX P w K mg base "is_one_good" 4 ["pieces"] (xM af ak)):bq P w K mg base (CXx P w) 5 f fd ["shelf","wanted"] (wK aj af ak):=by
 refine F.okX fF (λ vs H Q E h=>?_) (λ cdv A outer s H vs Q E hr h=>?_)
 ·obtain⟨p,d,w,fl,kvs,M,wt,rfl,hS,hR,h60,hw,hwl,q⟩:=h;rfl
 obtain⟨p,d,w,fl,kvs,M,wt,rfl,hS,hR,h60,hw,hwl,q⟩:=h
 refine⟨_,(av (aN (i:=2) fF.nd rfl (Or.inr rfl) mh)
   (av (aN (i:=3) fF.nd rfl (Or.inr rfl) mh)
   (av (dW PassesOwn.leaving rfl (cI (br (pv 0) T.aP bx aE (hr.mono (by decide)))) (aT (i:=4) fF.nd rfl (Or.inl rfl))
   (av (aN (i:=5) fF.nd rfl (Or.inl rfl) (bM (pv 0) T.aP bC aE (hr.mono (by decide)) (aa (pv 4) ay)))
   (av (bV (rL PySem.F.plainAttrs_list PySem.F.slot_list_append PySem.F.type_list_append g8 (Cz (pv 2) (bH (pv 5) rfl) (eF ay) ⟨rfl,rfl,rfl,rfl⟩) (aa (pv 5) ay)))
   (aD (bV (rL PySem.F.plainAttrs_list PySem.F.slot_list_append PySem.F.type_list_append g8 (Cz (pv 3) (g7 (br (pv 5) T.bT bP aE (hr.mono (by decide))) (br (pv 5) T.bI bY aE (hr.mono (by decide)))) (eF ay) ⟨rfl,rfl,rfl,rfl⟩) (aa (pv 5) ay)))))))
   (av (ie (i:=6) fF.nd rfl (Or.inl rfl) (N:=["day","wanted"]) (k:=1) (cap:=[1]) rfl rfl (cI (aY (gq rfl) (by rfl) T.jF PyProof.Rows.boot_sorted (aa (pv 2) ay))) (λ _ _ _ _=>(aT (i:=0) (show(["day","wanted"]:List Str).Nodup from by decide +kernel) rfl (Or.inl rfl) (.inr rfl))) (λ _ _ _ _=>(iT (aR (A1 (K:=K) rfl) (pv 0) (pv 1) (by with_unfolding_all rfl)))) (λ _ _ _ _=>(pv 0)))
   (aD (aQ (iw (N:=["day","leading","starting"]) (k:=1) (cap:=[2,3]) rfl rfl (cI (pv 6)) (λ _ _ _ _=>(aT (i:=0) (show(["day","leading","starting"]:List Str).Nodup from by decide +kernel) rfl (Or.inl rfl) (.inr rfl))) (λ _ _ _ _=>(iT (PW.pt (pw_and (cQ (aW iI aE (hr.mono (by decide)) rfl (aa (dZ (dO hr) (pv 1) (pv 0) (λ _ _=>rfl)) ay))) (pw_and1 (cQ (aW iI aE (hr.mono (by decide)) rfl (aa (Kg (dO hr) (pv 2) (pv 0) (eF ay) ⟨rfl,rfl,rfl,rfl⟩) ay)))))))) (λ _ _ _ _=>(pv 0))))))))),?_⟩
 have hcl:∀ w,Cls K (cond w af ak):=λ w=>by cases w;exact T.bI;exact T.bT
 have nday:∀ w,bw K (cond w af ak) "day":=λ w=>by cases w;exact T.cZ;exact T.cU
 obtain⟨ks,hks⟩:=fP hR.gH
 have hkl:ks.length < 64:=by have:=congrArg List.length hks;simp at this;omega
 refine λ a1 ha1=>?_
 refine bA [some (.ref p),some (.ref w),some (.ref a1),none,none,none,none] ?_
 refine λ a2 ha2=>?_
 refine bA [some (.ref p),some (.ref w),some (.ref a1),some (.ref a2),none,none,none] ?_
 have n12:a1 ≠ a2:=au ah ha2
 have h02:H a2=none:=(ao.new ha1).free ha2
 have s1:ao H (upd (upd H a1 (.dK [])) a2 (.dK [])):=(ao.new ha1).trans (ao.new ha2)
 have e1:upd (upd H a1 (.dK [])) a2 (.dK []) a1=some (.dK []):=by rw [aq n12];exact ah
 have e2:upd (upd H a1 (.dK [])) a2 (.dK []) a2=some (.dK []):=ah
 generalize upd (upd H a1 (.dK [])) a2 (.dK [])=H1 at s1 e1 e2 ⊢
 have hS1:=hS.keep s1
 obtain⟨dx,g1,g2⟩:=id hS1
 dsimp only
 refine bU (λ σ H'=>∃(v4 v5:Option V) (kv:Bool->List (Key × V)) (PQ:List (Int × V × Q54)) (H0:Hp),σ = [some (.ref p),some (.ref w),some (.ref a1),some (.ref a2),v4,v5,none] /\ PQs (PcF af ak H) M PQ /\ PQ.length < 60 /\ ao H H0 /\ G2 H0 H' (λ b=>cond b a1 a2) kv (λ b=>PQ.map λ t=>(t.2.1,cond b (t.2.2.d:Int) t.2.2.st))) (λ N hN=>?_) ?_
 ·refine⟨_,rfl,p,dx,_,rfl,g1,cS (by decide +kernel) (by decide +kernel),p,d,fl,kvs,ks,rfl,hS1,hks,hkl,λ l ns hl hp hs=>?_⟩
  have s2:ao H1 (upd H1 l (.lst (ns.map V.int))):=ao.new hl
  have hl2:upd H1 l (.lst (ns.map V.int)) l=some (.lst (ns.map V.int)):=ah
  have hlH:=s1.free hl
  have nl1:a1 ≠ l:=au e1 hl
  have nl2:a2 ≠ l:=au e2 hl
  have s02:ao (upd H l (.lst (ns.map V.int))) (upd H1 l (.lst (ns.map V.int))):=λ b o e=>by
   by_cases hb:b=l
   ·subst hb;rw [ah] at e ⊢;exact e
   ·rw [aq hb] at e ⊢;exact s1 _ _ e
  have sH0:ao H (upd H l (.lst (ns.map V.int))):=ao.new hlH
  have hl0:upd H l (.lst (ns.map V.int)) l=some (.lst (ns.map V.int)):=ah
  have z1:upd H l (.lst (ns.map V.int)) a1=none:=by rw [aq nl1];exact ha1
  have z2:upd H l (.lst (ns.map V.int)) a2=none:=by rw [aq nl2];exact h02
  generalize upd H l (.lst (ns.map V.int))=H0 at s02 sH0 hl0 z1 z2
  have e1':=s2 _ _ e1
  have e2':=s2 _ _ e2
  generalize upd H1 l (.lst (ns.map V.int))=H2 at s2 hl2 s02 e1' e2' ⊢
  have hnd:ns.Nodup:=hp.nodup_iff.mpr (G0 hR hks)
  obtain⟨PQ,hPQ,hPn,hPv⟩:=PQs.of hR hnd (λ n=>by rw [hp.mem_iff];exact hR.keys hks n)
  have hlen:PQ.length=ns.length:=by have:=congrArg List.length hPn;simpa using this
  have hnl:ns.length < 60:=by rw [hp.length_eq];have:=congrArg List.length hks;simp at this;omega
  refine⟨l,rfl,⟨_,SqL.of hl2⟩,gf (K:=K) (a:=l) (xs:=ns.map V.int) (λ i σ H'=>∃(v4 v5:Option V) (kv:Bool->List (Key × V)),σ = [some (.ref p),some (.ref w),some (.ref a1),some (.ref a2),v4,v5,none] /\ G2 H0 H' (λ b=>cond b a1 a2) kv (λ b=>(PQ.take i).map λ t=>(t.2.1,cond b (t.2.2.d:Int) t.2.2.st)))
   ⟨none,none,λ _=>[],rfl,λ b=>(by cases b;exact e2';exact e1'),n12,λ b=>Nat.zero_le _,λ b=>List.nodup_nil,λ b=>jx.nil,λ b d=>.inr ⟨rfl,rfl⟩,λ b d h=>(by cases h),λ b d l h=>(by cases h),λ b d b' d' l h=>(by cases h),s02,λ b=>(by cases b;exact z2;exact z1)⟩ (λ i σ H' _ z0=>by obtain⟨_,_,_,_,G⟩:=z0;exact SqL.of (G.same _ _ hl0)) ?_ ?_⟩
  ·rintro i x σ H3 hi ⟨v4,v5,kv,rfl,G⟩
   rw [List.getElem?_map] at hi
   obtain⟨n,hn,rfl⟩:=Option.map_eq_some_iff.mp hi
   rw [← hPn,List.getElem?_map] at hn
   obtain⟨t,ht,rfl⟩:=Option.map_eq_some_iff.mp hn
   have htm:=List.mem_of_getElem? ht
   have hv:=hPv t htm
   have hP:=(hPQ.inM t htm).2
   have sH3:ao H H3:=sH0.trans G.same
   refine bA [some (.ref p),some (.ref w),some (.ref a1),some (.ref a2),some (.int t.1),v5,none] ?_
   dsimp only
   refine bU (λ σ H'=>σ = [some (.ref p),some (.ref w),some (.ref a1),some (.ref a2),some (.int t.1),some t.2.1,none] /\ H3=H') (λ N2 hN2=>yZ (i:=0) (j:=4) rfl rfl (hS.keep sH3) hv (hN2 _ _ ⟨rfl,rfl⟩)) ?_
   rintro σ _ ⟨rfl,rfl⟩
   have hl9:∀ b,((PQ.take i).map λ t=>(t.2.1,cond b (t.2.2.d:Int) t.2.2.st)).length ≤ 900:=λ b=>by rw [List.length_map,List.length_take];omega
   refine DI true (i:=2) (j:=5) G rfl rfl (λ Q k=>EA hcl nday (λ Q k=>⟨_,rfl,k⟩) (hP.keep sH3) k) hl9 (λ H4 kv4 G4=>?_)
   refine DI false (i:=3) (j:=5) G4 rfl rfl (λ Q k=>Lo (λ Q k=>⟨_,rfl,k⟩) (hP.keep (sH0.trans G4.same)) k) (λ b=>?_) (λ H5 kv5 G5=>?_)
   ·cases b
    ·rw [iF (by decide)];exact hl9 _
    ·rw [fT];simp;omega
   ·refine⟨_,_,kv5,rfl,?_⟩
    have e:(λ b=>(PQ.take (i + 1)).map λ t=>(t.2.1,cond b (t.2.2.d:Int) t.2.2.st))=upB (upB (λ b=>(PQ.take i).map λ t=>(t.2.1,cond b (t.2.2.d:Int) t.2.2.st)) true (((PQ.take i).map λ t=>(t.2.1,cond true (t.2.2.d:Int) t.2.2.st)) ++ [(t.2.1,(t.2.2.d:Int))])) false ((upB (λ b=>(PQ.take i).map λ t=>(t.2.1,cond b (t.2.2.d:Int) t.2.2.st)) true (((PQ.take i).map λ t=>(t.2.1,cond true (t.2.2.d:Int) t.2.2.st)) ++ [(t.2.1,(t.2.2.d:Int))])) false ++ [(t.2.1,t.2.2.st)]):=by
     funext b
     rw [List.take_add_one,ht,List.map_append]
     cases b
     ·rw [fT,iF (by decide)];rfl
     ·rw [iF (by decide),fT];rfl
    rw [e];exact G5
  ·rintro σ H3 ⟨v4,v5,kv,rfl,G⟩
   rw [List.take_of_length_le (by rw [hlen];simp)] at G
   exact hN _ _ ⟨v4,v5,kv,PQ,H0,rfl,hPQ,by omega,sH0,G⟩
 rintro σ H3 ⟨v4,v5,kv,PQ,H0,rfl,hPQ,hPl,sH0,G⟩
 obtain⟨ds,hds⟩:=fP (G.gH true)
 have hdl:ds.length < 64:=by have:=congrArg List.length hds;have:=G.len true;simp at *;omega
 have hdn:ds.Nodup:=by
  have:=G.nd true
  rw [hds] at this
  exact(List.pairwise_map.mp this).imp λ h z=>h (by rw [z])
 have sH3:ao H H3:=sH0.trans G.same
 refine bU (λ σ H'=>∃(u:Addr) (ds':List Int),σ = [some (.ref p),some (.ref w),some (.ref a1),some (.ref a2),v4,v5,some (.ref u)] /\ ao H3 H' /\ ds'.Perm ds /\ ds'.Pairwise (· ≤ ·) /\ H' u=some (.lst ((ds'.filter λ z=>!decide (z ∈ wt)).map V.int))) (λ N hN=>?_) ?_
 ·refine⟨_,rfl,a1,kv true,ds,rfl,G.at_ true,hds,hdl,λ l ds' hl hp hs=>?_⟩
  have s4:ao H3 (upd H3 l (.lst (ds'.map V.int))):=ao.new hl
  have hl4:upd H3 l (.lst (ds'.map V.int)) l=some (.lst (ds'.map V.int)):=ah
  generalize upd H3 l (.lst (ds'.map V.int))=H4 at s4 hl4 ⊢
  refine⟨l,rfl,⟨_,SqL.of hl4⟩,λ D hD=>mW D (λ z=>!decide (z ∈ wt)) rfl (by rw [hp.length_eq];omega) hl4 hD (λ z _ H5 s5 Q k=>?_) (λ H5 s5 h5=>hN _ _ ⟨D,ds',rfl,s4.trans s5,hp,hs,h5⟩)⟩
  have k':Q (!decide (z ∈ wt)) H5:=k H5 (ao.refl _)
  rw [← kU] at k'
  exact⟨_,rfl,_,rfl,w,_,rfl,.inl (SqL.of (s5 _ _ (s4 _ _ (sH3 _ _ hw)))),rfl,mV wt,_,rfl,k'⟩
 rintro σ H4 ⟨u,ds',rfl,s4,hp,hs,hu⟩
 have hdm:∀ y,y ∈ ds' ↔ (aZ (kv true) (Sum.inl y)).isSome=true:=λ y=>by
  rw [hp.mem_iff,kK,hds,List.mem_map]
  exact⟨λ h=>⟨y,h,rfl⟩,λ⟨z,h,e⟩=>by cases e;exact h⟩
 have hfl:(ds'.filter λ z=>!decide (z ∈ wt)).length ≤ 63:=by have:=List.length_filter_le (λ z=>!decide (z ∈ wt)) ds';have:=hp.length_eq;omega
 refine⟨_,rfl,u,rfl,⟨_,SqL.of hu⟩,λ D hD=>mW D (λ z=>@decide (∃ n n' q q',Rdy M z n n' q q') (Classical.propDecidable _)) rfl (by omega) hu hD (λ z hz H5 s5 Q k=>?_) (λ H5 s5 h5=>?_)⟩
 ·have hT:(∃ n n' q q',Rdy M z n n' q q')->Q true H5 /\ ∀ H6,ao H5 H6->Q true H6:=λ h=>by
   have e:@decide (∃ n n' q q',Rdy M z n n' q q') (Classical.propDecidable _)=true:=@decide_eq_true _ (Classical.propDecidable _) h
   have k2:∀ H'',ao H5 H''->Q (@decide (∃ n n' q q',Rdy M z n n' q q') (Classical.propDecidable _)) H'':=k
   rw [e] at k2
   exact⟨k2 _ (ao.refl _),k2⟩
  have hF:(¬ ∃ n n' q q',Rdy M z n n' q q')->∀ H6,ao H5 H6->Q false H6:=λ h=>by
   have e:@decide (∃ n n' q q',Rdy M z n n' q q') (Classical.propDecidable _)=false:=@decide_eq_false _ (Classical.propDecidable _) h
   have k2:∀ H'',ao H5 H''->Q (@decide (∃ n n' q q',Rdy M z n n' q q') (Classical.propDecidable _)) H'':=k
   rw [e] at k2
   exact k2
  have hPQ5:PQs (PcF af ak H5) M PQ:=⟨hPQ.nd,λ t ht=>⟨(hPQ.inM t ht).1,((hPQ.inM t ht).2.keep sH3).keep (s4.trans s5)⟩,hPQ.all⟩
  have hzd:=(hdm z).mp (List.mem_filter.mp hz).1
  obtain⟨l,hl1,hl2⟩:∃ l,aZ (kv true) (Sum.inl z)=some (.ref l) /\ H3 l=some (.lst (iy (PQ.map λ t=>(t.2.1,(t.2.2.d:Int))) z)):=by
   rcases G.val true z with h |⟨h,_⟩
   ·exact h
   ·rw [h] at hzd;cases hzd
  refine⟨_,rfl,_,rfl,a1,.ref l,rfl,hl1 ▸ gb.k (k:=Sum.inl z) (s5 _ _ (s4 _ _ (G.at_ true))),?_⟩
  refine⟨l,_,rfl,s5 _ _ (s4 _ _ hl2),?_⟩
  rcases hPQ5.one (λ q=>(q.d:Int)) z with⟨n,v,q1,hsel,hPv,hM1,hd1,hu1⟩ |⟨hne,hno⟩
  rotate_left
  ·refine .inr ⟨hne,_,rfl,dI (hF (λ⟨n,n',q,q',R⟩=>?_) _ (ao.refl _))⟩
   obtain⟨m,w',a,b,c⟩:=hno n q R.h1 R.d1
   exact c (R.u1 m w' a b)
  refine .inl ⟨v,q1,hsel,hPv,_,rfl,?_⟩
  cases hg:q1.good
  ·refine dI (hF (λ⟨n,n',q,q',R⟩=>?_) _ (ao.refl _))
   have:=R.u1 _ _ hM1 hd1
   subst this
   have:=R.h1
   rw [hM1] at this;cases this
   have:=R.g1
   rw [hg] at this;cases this
  refine jb ?_
  refine⟨_,rfl,a2,rfl,.inl ⟨_,.inl (s5 _ _ (s4 _ _ (G.at_ false)))⟩,_,rfl,Nat.zero_le _,λ e he=>?_⟩
  have s6:ao H5 (upd H5 e (.lst [])):=ao.new he
  have he6:upd H5 e (.lst []) e=some (.lst []):=ah
  generalize upd H5 e (.lst [])=H6 at s6 he6 ⊢
  have hPQ6:PQs (PcF af ak H6) M PQ:=⟨hPQ.nd,λ t ht=>⟨(hPQ.inM t ht).1,(hPQ5.inM t ht).2.keep s6⟩,hPQ.all⟩
  have at6:=s6 _ _ (s5 _ _ (s4 _ _ (G.at_ false)))
  have hone:=hPQ6.one (λ q=>q.st) z
  rcases G.val false z with⟨l2,hv2,hl2'⟩ |⟨hv2,hsel2⟩
  ·refine⟨some (.ref l2),hv2 ▸ gb.k (k:=Sum.inl z) at6,l2,_,rfl,s6 _ _ (s5 _ _ (s4 _ _ hl2')),?_⟩
   rcases hone with⟨n2,v2,q2,hsel2,hPv2,hM2,hd2,hu2⟩ |⟨hne2,hno2⟩
   rotate_left
   ·refine .inr ⟨hne2,_,rfl,hF (λ⟨n,n',q,q',R⟩=>?_) _ s6⟩
    obtain⟨m,w',a,b,c⟩:=hno2 n' q' R.h2 R.d2
    exact c (R.u2 m w' a b)
   refine .inl ⟨v2,q2,hsel2,hPv2,_,rfl,?_⟩
   cases hg2:q2.good
   ·refine hF (λ⟨n,n',q,q',R⟩=>?_) _ s6
    have:=R.u2 _ _ hM2 hd2
    subst this
    have:=R.h2
    rw [hM2] at this;cases this
    have:=R.g2
    rw [hg2] at this;cases this
   ·exact(hT ⟨n,n2,q1,q2,hM1,hM2,hd1,hd2,hg,hg2,hu1,hu2⟩).2 _ s6
  ·refine⟨none,hv2 ▸ gb.k (k:=Sum.inl z) at6,e,[],rfl,he6,.inr ⟨by simp,_,rfl,hF (λ⟨n,n',q,q',R⟩=>?_) _ s6⟩⟩
   rcases hone with⟨n2,v2,q2,hsel3,_⟩ |⟨hne2,hno2⟩
   ·have:=hsel3.symm.trans hsel2
    cases this
   ·obtain⟨m,w',a,b,c⟩:=hno2 n' q' R.h2 R.d2
    exact c (R.u2 m w' a b)
 ·have hlt:=Mh hs (hp.nodup_iff.mpr hdn)
  refine q D _ H5 h5 ⟨List.Pairwise.sublist List.filter_sublist (List.Pairwise.sublist List.filter_sublist hlt),λ y=>?_⟩ ?_ ((sH3.trans s4).free hD) ((sH3.trans s4).trans s5)
  ·rw [List.mem_filter,List.mem_filter]
   constructor
   ·rintro⟨⟨h1,h2⟩,h3⟩
    exact⟨by simpa using h2,@of_decide_eq_true _ (Classical.propDecidable _) h3⟩
   ·rintro⟨h1,h2⟩
    refine⟨⟨(hdm y).mpr ?_,by simpa using h1⟩,@decide_eq_true _ (Classical.propDecidable _) h2⟩
    obtain⟨n,n',q,q',R⟩:=h2
    rcases hPQ.one (λ q=>(q.d:Int)) y with⟨n2,v2,q2,hsel3,_⟩ |⟨hne2,hno2⟩
    ·rcases G.val true y with⟨l,a,_⟩ |⟨_,a⟩
     ·rw [a];rfl
     ·have:=hsel3.symm.trans a
      cases this
    ·obtain⟨m,w',a,b,c⟩:=hno2 n q R.h1 R.d1
     exact absurd (R.u1 m w' a b) c
  ·have:=List.length_filter_le (λ z=>@decide (∃ n n' q q',Rdy M z n n' q q') (Classical.propDecidable _)) (ds'.filter λ z=>!decide (z ∈ wt))
   have h2:=List.length_filter_le (λ z=>!decide (z ∈ wt)) ds'
   have h3:=hp.length_eq
   have h4:ds.length =(kv true).length:=by have:=congrArg List.length hds;simpa using this.symm
   have h5:=G.len true
   rw [List.length_map] at h5
   omega
theorem Ga {f:Addr} {fd:FuncData} (F:Fun K "fold_at" "fold_at" iY f fd) (T:Txt K mg t_W aH aG aC aB aF aJ af ak aj) (bx:bf P w K mg base aj "numbers" 1 ["self"] (gF aj)) (bC:bf P w K mg base aj "piece" 3 ["self","number"] (iQ aj aC)) (bY:bf P w K mg base ak "start" 1 ["self"] (fV af ak)) (bP:bf P w K mg base af "start" 1 ["self"] gE) (cW:bf P w K mg base aj "put" 2 ["self","piece"] (oY aj)) (wG:DefX P w K mg base "merged" 6 ["first","second"] (uG af ak aF aB)) (cE:bf P w K mg base aj "drop" 4 ["self","number"] (kR aj aC)):bq P w K mg base (CXx P w) 7 f fd ["shelf","day"] (tD aj af ak):=by
 refine F.okX ji (λ vs H Q E h=>?_) (λ cdv A outer s H vs Q E hr h=>?_)
 ·obtain⟨p,d,fl,kvs,M,x,n,n',q0,q1,wd,rfl,hS,hR,h60,W,hr',q⟩:=h;rfl
 obtain⟨p,d,fl,kvs,M,x,n,n',q0,q1,wd,rfl,hS,hR,h60,W,hr',q⟩:=h
 refine⟨_,(av (aN (i:=2) ji.nd rfl (Or.inl rfl) (br (pv 0) T.aP bx aE (hr.mono (by decide))))
   (av (aN (i:=3) ji.nd rfl (Or.inl rfl) (bz cB (iw (N:=["number","day","shelf"]) (k:=1) (cap:=[1,0]) rfl rfl (cI (pv 2)) (λ _ _ _ _=>(aT (i:=0) (show(["number","day","shelf"]:List Str).Nodup from by decide +kernel) rfl (Or.inl rfl) (.inr rfl))) (λ _ _ _ _=>(iT (aR dw (LL (K:=K) rfl (bM (pv 2) T.aP bC aE (hr.mono (by decide)) (aa (pv 0) ay)) rfl) (pv 1) (aU _)))) (λ _ _ _ _=>(pv 0))) az (λ _ _=>rfl)))
   (av (aN (i:=4) ji.nd rfl (Or.inl rfl) (bz cB (iw (N:=["number","day","shelf"]) (k:=1) (cap:=[1,0]) rfl rfl (cI (pv 2)) (λ _ _ _ _=>(aT (i:=0) (show(["number","day","shelf"]:List Str).Nodup from by decide +kernel) rfl (Or.inl rfl) (.inr rfl))) (λ _ _ _ _=>(iT (aR dw (g7 (br (bM (pv 2) T.aP bC aE (hr.mono (by decide)) (aa (pv 0) ay)) T.bT bP aE (hr.mono (by decide))) (br (bM (pv 2) T.aP bC aE (hr.mono (by decide)) (aa (pv 0) ay)) T.bI bY aE (hr.mono (by decide)))) (pv 1) (aU _)))) (λ _ _ _ _=>(pv 0))) az (λ _ _=>rfl)))
   (av (aN (i:=5) ji.nd rfl (Or.inl rfl) (bM (pv 0) T.aP cW aE (hr.mono (by decide)) (aa (aW wG aE (hr.mono (by decide)) rfl (aa (bM (pv 0) T.aP bC aE (hr.mono (by decide)) (aa (pv 3) ay)) (aa (bM (pv 0) T.aP bC aE (hr.mono (by decide)) (aa (pv 4) ay)) ay))) ay)))
   (av (bV (bM (pv 0) T.aP cE aE (hr.mono (by decide)) (aa (pv 3) ay)))
   (av (bV (bM (pv 0) T.aP cE aE (hr.mono (by decide)) (aa (pv 4) ay)))
   (aD (aQ (dS (aa (pv 3) (aa (pv 4) (aa (pv 5) ay)))))))))))),?_⟩
 have hcl:∀ w,Cls K (cond w af ak):=λ w=>by cases w;exact T.bI;exact T.bT
 have nday:∀ w,bw K (cond w af ak) "day":=λ w=>by cases w;exact T.cZ;exact T.cU
 have R:=hr'
 obtain⟨ks,hks⟩:=fP hR.gH
 have hkl:ks.length < 64:=by have:=congrArg List.length hks;simp at this;omega
 obtain⟨dx,g1,g2⟩:=id hS
 refine⟨_,rfl,p,dx,_,rfl,g1,cS (by decide +kernel) (by decide +kernel),p,d,fl,kvs,ks,rfl,hS,hks,hkl,λ l ns hl hp hs=>?_⟩
 have s1:ao H (upd H l (.lst (ns.map V.int))):=ao.new hl
 have hl1:upd H l (.lst (ns.map V.int)) l=some (.lst (ns.map V.int)):=ah
 generalize upd H l (.lst (ns.map V.int))=H1 at s1 hl1 ⊢
 refine bA [some (.ref p),some (.int x),some (.ref l),none,none,none] ?_
 dsimp only
 have hnd:ns.Nodup:=hp.nodup_iff.mpr (G0 hR hks)
 have hmem:∀ m,m ∈ ns ↔ (M m).isSome=true:=λ m=>by rw [hp.mem_iff];exact hR.keys hks m
 have hnl:ns.length ≤ 1000:=by rw [hp.length_eq];omega
 refine bU (λ σ H'=>σ = [some (.ref p),some (.int x),some (.ref l),some (.int n),none,none] /\ ao H1 H') (λ N hN=>?_) ?_
 ·refine⟨_,rfl,l,rfl,⟨_,SqL.of hl1⟩,λ D hD=>mW D (onM M λ w=>decide ((w.d:Int)=x)) rfl hnl hl1 hD (λ z hz H2 s2 Q k=>?_) (λ H2 s2 h2=>?_)⟩
  ·obtain⟨u,hu⟩:=Option.isSome_iff_exists.mp ((hmem z).mp hz)
   obtain⟨v,hv,hP⟩:=hR.dz z u hu
   have k':=k H2 (ao.refl _)
   rw [dg hu,← dV] at k'
   exact EA hcl nday (λ Q k=>yZ (i:=2) (j:=0) rfl rfl (hS.keep (s1.trans s2)) hv k) (hP.keep (s1.trans s2)) ⟨_,rfl,rfl,_,rfl,k'⟩
  ·rw [qx hnd ((hmem n).mpr (by rw [R.h1];rfl)) (by rw [dg R.h1];exact decide_eq_true R.d1) (λ m hm h=>by
    obtain⟨u,hu⟩:=Option.isSome_iff_exists.mp ((hmem m).mp hm)
    rw [dg hu] at h
    exact R.u1 m u hu (of_decide_eq_true h))] at h2
   exact⟨D,[V.int n],0,V.int n,rfl,rfl,SqL.of h2,rfl,hN _ _ ⟨rfl,s2⟩⟩
 rintro σ H2 ⟨rfl,s2⟩
 have hl2:=s2 _ _ hl1
 have s12:=s1.trans s2
 refine bU (λ σ H'=>σ = [some (.ref p),some (.int x),some (.ref l),some (.int n),some (.int n'),none] /\ ao H2 H') (λ N hN=>?_) ?_
 ·refine⟨_,rfl,l,rfl,⟨_,SqL.of hl2⟩,λ D hD=>mW D (onM M λ w=>decide (w.st=x)) rfl hnl hl2 hD (λ z hz H3 s3 Q k=>?_) (λ H3 s3 h2=>?_)⟩
  ·obtain⟨u,hu⟩:=Option.isSome_iff_exists.mp ((hmem z).mp hz)
   obtain⟨v,hv,hP⟩:=hR.dz z u hu
   have k':=k H3 (ao.refl _)
   rw [dg hu,← dV] at k'
   exact Lo (λ Q k=>yZ (i:=2) (j:=0) rfl rfl (hS.keep (s12.trans s3)) hv k) (hP.keep (s12.trans s3)) ⟨_,rfl,rfl,_,rfl,k'⟩
  ·rw [qx hnd ((hmem n').mpr (by rw [R.h2];rfl)) (by rw [dg R.h2];exact decide_eq_true R.d2) (λ m hm h=>by
    obtain⟨u,hu⟩:=Option.isSome_iff_exists.mp ((hmem m).mp hm)
    rw [dg hu] at h
    exact R.u2 m u hu (of_decide_eq_true h))] at h2
   exact⟨D,[V.int n'],0,V.int n',rfl,rfl,SqL.of h2,rfl,hN _ _ ⟨rfl,s3⟩⟩
 rintro σ H3 ⟨rfl,s3⟩
 have sH3:ao H H3:=s12.trans s3
 obtain⟨v1,hv1,hP1⟩:=hR.dz n q0 R.h1
 obtain⟨v2,hv2,hP2⟩:=hR.dz n' q1 R.h2
 have hS3:=hS.keep sH3
 obtain⟨dx3,g13,g23⟩:=id hS3
 have e1:shown q0=q0.rows:=if_pos R.g1
 have e2:shown q1=q1.rows:=if_pos R.g2
 obtain⟨a1,w1,b1,c1,rfl,hA1,hst1,hc1⟩:=hP1.keep sH3
 obtain⟨a2,w2,b2,c2,rfl,hA2,hst2,hc2⟩:=hP2.keep sH3
 rw [e1] at hA1 hc1
 rw [e2] at hA2 hc2
 rw [R.g1] at hc1
 rw [R.g2] at hc2
 have hc1:=of_decide_eq_true hc1
 have hc2:=of_decide_eq_true hc2
 have rw1:=W.rw _ _ R.h1
 have rw2:=W.rw _ _ R.h2
 have nf1:=W.nf _ _ R.h1
 have nf2:=W.nf _ _ R.h2
 have nn:=R.ne W
 refine bU (λ σ H'=>∃(kvs':List (Key × V)) (rows:List (Nat × Nat)),σ = [some (.ref p),some (.int x),some (.ref l),some (.int n),some (.int n'),some (.int fl)] /\ isM (q0.rows ++ q1.rows) rows /\ bO aj H' p d (fl + 1) kvs' /\ aX (PcF af ak H') kvs' (gX M fl (some ⟨q0.st,q1.d,rows,true⟩)) /\ kvs'.length ≤ kvs.length + 1 /\ bE [p,d] H H') (λ N hN=>?_) ?_
 ·refine⟨_,rfl,p,dx3,_,rfl,g13,cS (by decide +kernel) (by decide +kernel),yZ (i:=0) (j:=3) rfl rfl hS3 hv1 (yZ (i:=0) (j:=4) rfl rfl hS3 hv2 ?_)⟩
  refine⟨a1,a2,w1,w2,b1,_,b2,_,_,_,c1,c2,rfl,hA1,hA2,⟨by omega,by omega,?_⟩,λ h=>absurd (hst2.trans (R.d2.trans R.d1.symm)) h,λ _ h=>absurd hc1 h,λ _ _ h=>absurd hc2 h,λ _ _ _ y b rows H4 hb hm hPy s4=>?_⟩
  ·have:=HC rw1.1 rw2.1
   have:=W.w
   omega
  refine⟨p,d,fl,kvs,y,rfl,hS3.keep s4,by omega,λ H5 hS5 k5=>?_⟩
  have hno:=jv (hS3.keep s4)
  have hR5:aX (PcF af ak H5) kvs M:=hR.mono λ v u z=>(z.keep (sH3.trans s4)).cC k5 hno
  have hy4:PcF af ak H4 (.ref y) ⟨q0.st,q1.d,rows,true⟩:=by
   refine⟨y,w1,b,_,rfl,hPy,?_,decide_eq_true rfl⟩
   show stI w1 b=q0.st
   rw [← hst1]
   cases w1
   ·rw [hb rfl]
   ·rfl
  exact hN _ _ ⟨_,rows,rfl,hm.isM,hS5,hR5.put (hy4.cC k5 hno),cV _ _ _,λ b o e hb=>k5 b o (s4 _ _ (sH3 b o e)) hb⟩
 rintro σ H4 ⟨kvs',rows,rfl,hm,hS4,hR4,hl4,k4⟩
 refine bU (λ σ H'=>∃(kvs5:List (Key × V)),σ = [some (.ref p),some (.int x),some (.ref l),some (.int n),some (.int n'),some (.int fl)] /\ bO aj H' p d (fl + 1) kvs5 /\ aX (PcF af ak H') kvs5 (gX (gX M fl (some ⟨q0.st,q1.d,rows,true⟩)) n none) /\ kvs5.length < kvs'.length /\ bE [p,d] H H') (λ N hN=>?_) ?_
 ·obtain⟨dx4,g14,g24⟩:=id hS4
  obtain⟨vn,hvn,_⟩:=hR4.dz n q0 (by rw [eY (by omega)];exact R.h1)
  refine⟨_,rfl,p,dx4,_,rfl,g14,cS (by decide +kernel) (by decide +kernel),_,rfl,p,d,fl + 1,kvs',n,rfl,hS4,λ v hv H5 hS5 k5=>?_,λ hv=>absurd (hvn.symm.trans hv) (by intro z;cases z)⟩
  exact hN _ _ ⟨_,rfl,hS5,(hR4.mono λ v u z=>z.cC k5 (jv hS4)).drop n,iR hvn,λ b o e hb=>k5 b o (k4 b o e hb) hb⟩
 rintro σ H5 ⟨kvs5,rfl,hS5,hR5,hl5,k5⟩
 refine bU (λ σ H'=>∃(kvs6:List (Key × V)),σ = [some (.ref p),some (.int x),some (.ref l),some (.int n),some (.int n'),some (.int fl)] /\ bO aj H' p d (fl + 1) kvs6 /\ aX (PcF af ak H') kvs6 (fj M n n' fl ⟨q0.st,q1.d,rows,true⟩) /\ kvs6.length < kvs5.length /\ bE [p,d] H H') (λ N hN=>?_) ?_
 ·obtain⟨dx5,g15,g25⟩:=id hS5
  obtain⟨vn,hvn,_⟩:=hR5.dz n' q1 (by rw [eY (Ne.symm nn),eY (by omega)];exact R.h2)
  refine⟨_,rfl,p,dx5,_,rfl,g15,cS (by decide +kernel) (by decide +kernel),_,rfl,p,d,fl + 1,kvs5,n',rfl,hS5,λ v hv H6 hS6 k6=>?_,λ hv=>absurd (hvn.symm.trans hv) (by intro z;cases z)⟩
  exact hN _ _ ⟨_,rfl,hS6,(hR5.mono λ v u z=>z.cC k6 (jv hS5)).drop n',iR hvn,λ b o e hb=>k6 b o (k5 b o e hb) hb⟩
 rintro σ H6 ⟨kvs6,rfl,hS6,hR6,hl6,k6⟩
 refine⟨_,rfl,_,rfl,_,rfl,(by show 3 ≤ sizeLine;decide),λ t ht=>?_⟩
 have s7:ao H6 (upd H6 t (.tup [.int n,.int n',.int fl])):=ao.new ht
 refine q t rows kvs6 _ hm ah ?_ (hS6.keep s7) (hR6.mono λ v u z=>z.keep s7) (by omega) λ b o e hb=>s7 _ _ (k6 b o e hb)
 cases e:H t with
 | none=>rfl
 | some o =>
  by_cases hb:t ∈ [p,d]
  ·obtain⟨dx6,g16,g26⟩:=id hS6
   simp only [List.mem_cons,List.not_mem_nil,or_false] at hb
   rcases hb with rfl | rfl
   ·rw [g16] at ht;cases ht
   ·rw [g26] at ht;cases ht
  ·rw [k6 t o e hb] at ht;cases ht
theorem HQ {f:Addr} {fd:FuncData} (F:Fun K "folded" "folded" jJ f fd) (T:Txt K mg t_W aH aG aC aB aF aJ af ak aj) (jM:bf P w K mg base aj "copied" 3 ["self"] (sd aj)) (lI:DefX P w K mg base "ready_days" 5 ["shelf","wanted"] (wK aj af ak)) (sS:DefX P w K mg base "fold_at" 7 ["shelf","day"] (tD aj af ak)):bq P w K mg base (CXx P w) 8 f fd ["shelf","wanted"] (sV aj af ak):=by
 refine F.okX mX (λ vs H Q E h=>?_) (λ cdv A outer s H vs Q E hr h=>?_)
 ·obtain⟨p,d,w,fl,kvs,M,wt,wd,rfl,hS,hR,h60,W,hw,hwl,q⟩:=h;rfl
 obtain⟨p,d,w,fl,kvs,M,wt,wd,rfl,hS,hR,h60,W,hw,hwl,q⟩:=h
 refine⟨_,(av (aN (i:=2) mX.nd rfl (Or.inl rfl) (br (pv 0) T.aP jM aE (hr.mono (by decide))))
   (av (aN (i:=3) mX.nd rfl (Or.inl rfl) (eF ay))
   (av (dW PassesOwn.leaving rfl (cI (aW lI aE (hr.mono (by decide)) rfl (aa (pv 0) (aa (pv 1) ay)))) (aT (i:=4) mX.nd rfl (Or.inl rfl))
   (aD (bV (rL PySem.F.plainAttrs_list PySem.F.slot_list_append PySem.F.type_list_append g8 (pv 3) (aa (aW sS aE (hr.mono (by decide)) rfl (aa (pv 2) (aa (pv 4) ay))) ay)))))
   (aD (aQ (dS (aa (pv 2) (aa (pv 3) ay)))))))),?_⟩
 obtain⟨dx,g1,g2⟩:=id hS
 refine⟨_,rfl,p,dx,_,rfl,g1,cS (by decide +kernel) (by decide +kernel),p,d,fl,kvs,rfl,hS,λ p2 d2 H1 hS1 hp2 hd2 s1=>?_⟩
 refine bA [some (.ref p),some (.ref w),some (.ref p2),none,none] ?_
 refine⟨Nat.zero_le _,λ l hl=>?_⟩
 refine bA [some (.ref p),some (.ref w),some (.ref p2),some (.ref l),none] ?_
 have s2:ao H1 (upd H1 l (.lst [])):=ao.new hl
 have hl2:upd H1 l (.lst []) l=some (.lst []):=ah
 generalize upd H1 l (.lst [])=H2 at s2 hl2 ⊢
 have hlH:=s1.free hl
 have sH2:=s1.trans s2
 dsimp only
 refine bU (λ σ H'=>∃(v4:Option V) (RL:List Int) (L:List V) (FL:List (Int × Int × Int)) (flc:Int) (Mc:M54) (kvc:List (Key × V)),σ = [some (.ref p),some (.ref w),some (.ref p2),some (.ref l),v4] /\ H' l=some (.lst L) /\ Folds H' L FL /\ RdL M wt RL /\ RL.length ≤ 60 /\ cK wt M fl RL Mc flc FL /\ bO aj H' p2 d2 flc kvc /\ aX (PcF af ak H') kvc Mc /\ kvc.length < 60 /\ ao H H') (λ N hN=>?_) ?_
 ·refine⟨_,rfl,_,rfl,p,d,w,fl,kvs,M,wt,rfl,hS.keep sH2,hR.mono λ v u z=>z.keep sH2,h60,sH2 _ _ hw,hwl,λ rl RL H3 hrl hRL hRll nrl s3=>?_⟩
  have sH3:=sH2.trans s3
  refine⟨rl,rfl,⟨_,SqL.of hrl⟩,gf (K:=K) (a:=rl) (xs:=RL.map V.int) (λ i σ H'=>∃(v4:Option V) (L:List V) (FL:List (Int × Int × Int)) (flc:Int) (Mc:M54) (kvc:List (Key × V)),σ = [some (.ref p),some (.ref w),some (.ref p2),some (.ref l),v4] /\ H' l=some (.lst L) /\ Folds H' L FL /\ cK wt M fl (RL.take i) Mc flc FL /\ bO aj H' p2 d2 flc kvc /\ aX (PcF af ak H') kvc Mc /\ kvc.length < 60 /\ Wf wd Mc flc /\ RdL Mc wt (RL.drop i) /\ H' rl=some (.lst (RL.map V.int)) /\ ao H H')
   ⟨none,[],[],fl,M,kvs,rfl,s3 _ _ hl2,⟨rfl,λ i v f e=>by simp at e⟩,.nil,(hS1.keep s2).keep s3,hR.mono λ v u z=>z.keep sH3,h60,W,hRL,hrl,sH3⟩ (λ i σ H' _ z0=>by obtain⟨_,_,_,_,_,_,_,_,_,_,_,_,_,_,_,e,_⟩:=z0;exact SqL.of e) ?_ ?_⟩
  ·rintro i y σ H4 hi ⟨v4,L,FL,flc,Mc,kvc,rfl,hl4,hF,hW,hSc,hRc,hkc,Wc,hRd,hrl4,sH4⟩
   rw [List.getElem?_map] at hi
   obtain⟨x,hx,rfl⟩:=Option.map_eq_some_iff.mp hi
   have hil:=(List.getElem?_eq_some_iff.mp hx).1
   have edrop:RL.drop i=x :: RL.drop (i + 1):=by
    rw [List.drop_eq_getElem_cons hil]
    rw [(List.getElem?_eq_some_iff.mp hx).2]
   rw [edrop] at hRd
   obtain⟨hxw,n,n',q0,q1,R⟩:=(hRd.iff x).mp (by simp)
   refine bA [some (.ref p),some (.ref w),some (.ref p2),some (.ref l),some (.int x)] ?_
   refine⟨_,rfl,.inl ⟨rfl,_,SqL.of hl4⟩,_,rfl,_,rfl,p2,d2,flc,kvc,Mc,x,n,n',q0,q1,wd,rfl,hSc,hRc,hkc,Wc,R,λ t rows kvs' H5 hm ht nt hS5 hR5 hkl k5=>?_⟩
   obtain⟨dxc,c1,c2⟩:=id hSc
   obtain⟨dx5,c15,c25⟩:=id hS5
   have nlp:l ≠ p2:=bB hl4 c1 (by intro z;cases z)
   have nld:l ≠ d2:=bB hl4 c2 (by intro z;cases z)
   have nrp:rl ≠ p2:=bB hrl4 c1 (by intro z;cases z)
   have nrd:rl ≠ d2:=bB hrl4 c2 (by intro z;cases z)
   have nrl':rl ≠ l:=(au hl2 nrl).symm
   have hl5:=k5 _ _ hl4 (by simp [nlp,nld])
   refine⟨l,L,.ref t,rfl,rfl,hl5,bh (by rw [hF.len,hW.len.2,List.length_take];omega),?_⟩
   have kl:bE [l] H5 (upd H5 l (.lst (L ++ [V.ref t]))):=λ b o e hb=>by rw [aq (by simpa using hb)];exact e
   have htl:t ≠ l:=bB ht hl5 (by intro z;cases z)
   refine⟨_,_,_,_,_,kvs',rfl,ah,(hF.mono λ t' xs e=>?_).snoc (f:=(n,n',flc)) ⟨t,rfl,by rw [aq htl];exact ht⟩,?_,⟨dx5,by rw [aq nlp.symm];exact c15,by rw [aq nld.symm];exact c25⟩,hR5.mono λ v u z=>z.NX kl (λ f hf=>?_),by omega,Wc.fold R hm,hRd.tail Wc R,?_,λ b o e=>?_⟩
   ·rw [aq (bB e hl4 (by intro z;cases z))]
    refine k5 _ _ e ?_
    simp only [List.mem_cons,List.not_mem_nil,or_false,not_or]
    exact⟨bB e c1 (by intro z;cases z),bB e c2 (by intro z;cases z)⟩
   ·rw [List.take_add_one,hx]
    exact hW.snoc R hm
   ·have:f=l:=by simpa using hf
    subst this
    exact⟨_,hl5⟩
   ·rw [aq nrl'];exact k5 _ _ hrl4 (by simp [nrp,nrd])
   ·rw [aq (au e hlH)]
    exact k5 _ _ (sH4 _ _ e) (by simp [au e hp2,au e hd2])
  ·rintro σ H4 ⟨v4,L,FL,flc,Mc,kvc,rfl,hl4,hF,hW,hSc,hRc,hkc,Wc,hRd,hrl4,sH4⟩
   rw [List.take_of_length_le (by simp)] at hW
   exact hN _ _ ⟨v4,RL,L,FL,flc,Mc,kvc,rfl,hl4,hF,hRL,hRll,hW,hSc,hRc,hkc,sH4⟩
 rintro σ H4 ⟨v4,RL,L,FL,flc,Mc,kvc,rfl,hl4,hF,hRL,hRll,hW,hSc,hRc,hkc,sH4⟩
 refine⟨_,rfl,_,rfl,(by show 2 ≤ sizeLine;decide),λ t ht=>?_⟩
 have s5:ao H4 (upd H4 t (.tup [.ref p2,.ref l])):=ao.new ht
 exact q t p2 d2 l L FL RL flc Mc kvc _ ah (s5 _ _ hl4) (hF.mono λ t xs e=>s5 _ _ e) hRL hW hRll (hSc.keep s5) (hRc.mono λ v u z=>z.keep s5) hkc hp2 hd2 (sH4.trans s5)
theorem AZ {f:Addr} {fd:FuncData} (F:Fun K "_law_drawn" "_law_drawn" gA f fd) (T:Txt K mg t_W aH aG aC aB aF aJ af ak aj) (cu:DefX P w K mg base "_law_cell" 1 ["_law_script","_law_k"] (oS K)):bq P w K mg base (CXx P w) 2 f fd ["_law_script","_law_many"] (pR K):=by
 refine F.okX fE (λ vs H Q E h=>?_) (λ cdv A outer s H vs Q E hr h=>?_)
 ·obtain⟨a,ns,m,rfl,hS,hm0,hm,q⟩:=h;rfl
 obtain⟨a,ns,m,rfl,hS,hm0,hm,q⟩:=h
 refine⟨_,(av (aN (i:=2) fE.nd rfl (Or.inl rfl) (eF ay))
   (av (dW PassesOwn.leaving rfl (jV rfl T.oX (aa (aI cg (pv 1) az) ay)) (aT (i:=3) fE.nd rfl (Or.inl rfl))
   (av (aN (i:=4) fE.nd rfl (Or.inl rfl) (aW cu aE (hr.mono (by decide)) rfl (aa (pv 0) (aa (aI cg az (pv 3)) ay))))
   (av (aN (i:=5) fE.nd rfl (Or.inl rfl) (iH gK az))
   (av (bN (PW.pt (pw_and (aR rK (aI bW (pv 4) az) az (aU _)) (pw_and1 (aR rK (pv 3) az (aU _))))) (aD (aN (i:=5) fE.nd rfl (Or.inl rfl) (aY (tK rfl) (by rfl) T.Bf PyProof.Rows.boot_max (aa az (aa (aI j4 (aI j4 (pv 3) az) (aI bW (aI eB (pv 4) az) az)) ay))))) bu)
   (av (bN (PW.pt (pw_or (aR rK (aI bW (aI eB (pv 4) az) az) az (aU _)) (pw_or1 (aR rK (aI bW (aI eB (pv 4) az) az) az (aU _))))) (aD (bV (rL PySem.F.plainAttrs_list PySem.F.slot_list_append PySem.F.type_list_append g8 (pv 2) (aa (dS (aa (pv 5) (aa (pv 3) (aa (iZ dw (aI bW (aI eB (pv 4) az) az) az (aU _)) ay)))) ay)))) bu)
   (aD (bN (PW.pt (pw_and (aR dw (aI bW (aI eB (pv 4) az) az) az (aU _)) (pw_and1 (aR rK (pv 3) az (aU _))))) (aD (bV (rL PySem.F.plainAttrs_list PySem.F.slot_list_append PySem.F.type_list_append g8 (pv 2) (aa (dS (aa (aI j4 (aI bW (aI eB (pv 4) az) (aI cg (pv 3) az)) az) (aa (pv 3) (aa eO ay)))) ay)))) bu)))))))
   (aD (aQ (pv 2))))),?_⟩
 refine⟨Nat.zero_le _,λ l hl=>?_⟩
 refine bA [some (.ref a),some (.int (m:Int)),some (.ref l),none,none,none] ?_
 have s1:ao H (upd H l (.lst [])):=ao.new hl
 have hl1:upd H l (.lst []) l=some (.lst []):=ah
 generalize upd H l (.lst [])=H1 at s1 hl1 ⊢
 dsimp only
 refine bU (λ σ H'=>∃(v3 v4 v5:Option V) (L:List V) (es:List E54),σ = [some (.ref a),some (.int (m:Int)),some (.ref l),v3,v4,v5] /\ ao H H' /\ H' l=some (.lst L) /\ ES H' L es /\(∀ e ∈ es,OkE m e) /\ 0 < es.length /\ es.length ≤ 2 * (m + 1)) (λ N hN=>?_) ?_
 ·refine⟨_,rfl,_,_,rfl,rfl,_,rfl,by omega,by omega,IG (lo:=0) (n:=((m:Int) + 1).toNat) (λ i σ H'=>∃(v3 v4 v5:Option V) (L:List V) (es:List E54),σ = [some (.ref a),some (.int (m:Int)),some (.ref l),v3,v4,v5] /\ ao H H' /\ H' l=some (.lst L) /\ ES H' L es /\(∀ e ∈ es,OkE m e) /\(1 < i->0 < es.length) /\ es.length ≤ 2 * i) ⟨none,none,none,[],[],rfl,s1,hl1,⟨rfl,λ i v e e1=>by simp at e1⟩,(λ e h=>by cases h),λ h=>absurd h (by omega),by simp⟩ ?_ ?_⟩
  ·rintro i σ H2 hi ⟨v3,v4,v5,L,es,rfl,s2,hl2,hE,hok,hne,hlen⟩
   have him:i ≤ m:=by omega
   refine bA [some (.ref a),some (.int (m:Int)),some (.ref l),some (.int (0 +(i:Int))),v4,v5] ?_
   dsimp only
   refine bU (λ σ H'=>∃ c:Int,σ = [some (.ref a),some (.int (m:Int)),some (.ref l),some (.int (0 +(i:Int))),some (.int c),v5] /\ H2=H') (λ N hN=>⟨_,rfl,_,rfl,_,_,rfl,rfl,a,ns,_,rfl,s2.seq hS,hN _ _ ⟨_,rfl,rfl⟩⟩) ?_
   rintro σ _ ⟨c,rfl,rfl⟩
   refine⟨_,rfl,?_⟩
   refine bA [some (.ref a),some (.int (m:Int)),some (.ref l),some (.int (0 +(i:Int))),some (.int c),some (.int (-1))] ?_
   dsimp only
   refine bU (λ σ H'=>∃ st:Int,σ = [some (.ref a),some (.int (m:Int)),some (.ref l),some (.int (0 +(i:Int))),some (.int c),some (.int st)] /\(st = -1 ∨ 0 ≤ st) /\ st <(i:Int) /\ H2=H') (λ N hN=>?_) ?_
   ·refine⟨_,rfl,_,_,rfl,rfl,(by first | decide |(dsimp only;decide)),_,_,rfl,rfl,_,rfl,dF (λ h1=>?_) (λ h1=>?_)⟩
    ·refine⟨_,rfl,_,_,rfl,rfl,_,rfl,dF (λ h2=>?_) (λ h2=>?_)⟩
     ·have h2:=of_decide_eq_true h2
      refine⟨_,rfl,_,_,rfl,rfl,_,rfl,_,_,rfl,rfl,⟨by first | decide |(dsimp only;decide),by first | decide |(dsimp only;decide)⟩,_,_,rfl,rfl,(by first | decide |(dsimp only;decide)),_,_,rfl,rfl,_,_,rfl,hN _ _ ⟨_,rfl,?_,?_,rfl⟩⟩
      ·right;split <;> omega
      ·split <;> omega
     ·exact hN _ _ ⟨-1,rfl,.inl rfl,by omega,rfl⟩
    ·exact dI (hN _ _ ⟨-1,rfl,.inl rfl,by omega,rfl⟩)
   rintro σ _ ⟨st,rfl,hst0,hst1,rfl⟩
   have hi0:(0:Int) +(i:Int) =((i:Nat):Int):=by omega
   rw [hi0]
   refine bU (λ σ H'=>∃(L:List V) (es:List E54),σ = [some (.ref a),some (.int (m:Int)),some (.ref l),some (.int (i:Int)),some (.int c),some (.int st)] /\ ao H H' /\ H' l=some (.lst L) /\ ES H' L es /\(∀ e ∈ es,OkE m e) /\(1 < i->0 < es.length) /\(0 < es.length ∨ c / 15 % 4=0) /\ es.length ≤ 2 * i + 1) (λ N hN=>?_) ?_
   ·have yes:vd (tBM K "list" ve (d9 2) (jN (Kq (jN (d9 5) (jN (d9 3) (jN (tOp rEq (tOp (rI (λ x j=>0 < j) λ i j=>V.int (i % j)) (tOp (rI (λ x j=>0 < j /\ j.natAbs.log2 < 9000) λ i j=>V.int (i / j)) (d9 4) (tC (V.int 60))) (tC (V.int 6))) (tC (V.int 0))) fm)))) fm)) { nx:=N,rt:=Q } [some (.ref a),some (.int (m:Int)),some (.ref l),some (.int (i:Int)),some (.int c),some (.int st)] H2:=by
     refine apE rfl hl2 (by rw [hE.len];omega) (λ Q k=>⟨_,rfl,_,rfl,_,rfl,_,_,rfl,rfl,⟨by first | decide |(dsimp only;decide),by first | decide |(dsimp only;decide)⟩,_,_,rfl,rfl,(by first | decide |(dsimp only;decide)),rfl,k⟩) λ t ht=>?_
     obtain⟨z1,z2,z3⟩:=ES.add ⟨st,i,decide (V.int (c / 60 % 6)=V.int 0)⟩ hl s2 hl2 hE ht
     refine hN _ _ ⟨_,_,rfl,z1,z2,z3,λ e he=>?_,λ _=>by simp,.inl (by simp),by simp;omega⟩
     rcases List.mem_append.mp he with h | h
     ·exact hok e h
     ·rw [List.mem_singleton.mp h];exact⟨him,hst0,hst1⟩
    refine⟨_,rfl,_,_,rfl,rfl,⟨by first | decide |(dsimp only;decide),by first | decide |(dsimp only;decide)⟩,_,_,rfl,rfl,(by first | decide |(dsimp only;decide)),_,_,rfl,rfl,_,rfl,dF (λ h1=>jb yes) (λ h1=>?_)⟩
    have h1:¬(0 < c / 15 % 4):=λ z=>h1 (decide_eq_true z)
    refine⟨_,rfl,_,_,rfl,rfl,⟨by first | decide |(dsimp only;decide),by first | decide |(dsimp only;decide)⟩,_,_,rfl,rfl,(by first | decide |(dsimp only;decide)),_,_,rfl,rfl,_,rfl,dF (λ h2=>yes) (λ h2=>?_)⟩
    exact hN _ _ ⟨L,es,rfl,s2,hl2,hE,hok,hne,.inr (by omega),by omega⟩
   rintro σ H3 ⟨L3,es3,rfl,s3,hl3,hE3,hok3,hne3,hor,hlen3⟩
   refine⟨_,rfl,_,_,rfl,rfl,⟨by first | decide |(dsimp only;decide),by first | decide |(dsimp only;decide)⟩,_,_,rfl,rfl,(by first | decide |(dsimp only;decide)),rfl,_,rfl,dF (λ h1=>?_) (λ h1=>dI ?_)⟩
   ·have h1:=pe h1
    refine⟨_,rfl,_,_,rfl,rfl,_,rfl,dF (λ h2=>?_) (λ h2=>?_)⟩
    ·have h2:=of_decide_eq_true h2
     have b0:=Int.emod_nonneg (c / 360) (show(i:Int) + 1 ≠ 0 by omega)
     have b1:=Int.emod_lt_of_pos (c / 360) (show(0:Int) <(i:Int) + 1 by omega)
     refine apE rfl hl3 (by rw [hE3.len];omega) (λ Q k=>⟨_,rfl,_,_,rfl,rfl,⟨by first | decide |(dsimp only;decide),by first | decide |(dsimp only;decide)⟩,_,rfl,_,_,rfl,rfl,_,_,rfl,rfl,(by show(0:Int) <(i:Int) + 1;omega),_,_,rfl,rfl,_,rfl,k⟩) λ t ht=>?_
     obtain⟨z1,z2,z3⟩:=ES.add ⟨c / 360 % ((i:Int) + 1) - 1,i,false⟩ hl s3 hl3 hE3 ht
     refine⟨_,_,_,_,_,rfl,z1,z2,z3,λ e he=>?_,λ _=>by simp,by simp;omega⟩
     rcases List.mem_append.mp he with h | h
     ·exact hok3 e h
     ·rw [List.mem_singleton.mp h];exact⟨him,by show c / 360 % ((i:Int) + 1) - 1 = -1 ∨ 0 ≤ c / 360 % ((i:Int) + 1) - 1;omega,by show c / 360 % ((i:Int) + 1) - 1 <(i:Int);omega⟩
    ·have h2:¬(0 <(i:Int)):=λ z=>h2 (decide_eq_true z)
     exact⟨_,_,_,L3,es3,rfl,s3,hl3,hE3,hok3,λ h=>absurd h (by omega),by omega⟩
   ·have h1:=qd h1
    exact⟨_,_,_,L3,es3,rfl,s3,hl3,hE3,hok3,λ _=>hor.resolve_right h1,by omega⟩
  ·rintro σ H2 ⟨v3,v4,v5,L,es,rfl,s2,hl2,hE,hok,hne,hlen⟩
   exact hN _ _ ⟨v3,v4,v5,L,es,rfl,s2,hl2,hE,hok,hne (by omega),by omega⟩
 rintro σ H2 ⟨v3,v4,v5,L,es,rfl,s2,hl2,hE,hok,hne,hlen⟩
 exact⟨_,rfl,q l L es H2 hl2 hE.len hE.get hok hne (by omega) s2⟩
theorem z7 {f:Addr} {fd:FuncData} (F:Fun K "_law_wanted" "_law_wanted" fL f fd) (T:Txt K mg t_W aH aG aC aB aF aJ af ak aj) (cJ:DefX P w K mg base "_law_stir" 1 ["_law_cell_here","_law_k"] oN):bq P w K mg base (CXx P w) 2 f fd ["_law_cell_here","_law_many","_law_step"] (nX):=by
 refine F.okX jK (λ vs H Q E h=>?_) (λ cdv A outer s H vs Q E hr h=>?_)
 ·obtain⟨c,m,sp,rfl,hm,hs0,hs,q⟩:=h;rfl
 obtain⟨c,m,sp,rfl,hm,hs0,hs,q⟩:=h
 refine⟨_,(av (ie (i:=3) jK.nd rfl (Or.inl rfl) (N:=["_law_day","_law_step","_law_cell_here"]) (k:=1) (cap:=[2,0]) rfl rfl (jV rfl T.oX (aa (aI cg (pv 1) az) ay)) (λ _ _ _ _=>(aT (i:=0) (show(["_law_day","_law_step","_law_cell_here"]:List Str).Nodup from by decide +kernel) rfl (Or.inl rfl) (.inr rfl))) (λ _ _ _ _=>(iT (aR dw (aI bW (aW cJ aE (hr.mono (by decide)) rfl (aa (pv 2) (aa (pv 0) ay))) az) az (aU _)))) (λ _ _ _ _=>(aI gJ (pv 0) (pv 1))))
   (av (bN (aR dw (aI bW (pv 0) az) az (aU _)) (aD (aN (i:=3) jK.nd rfl (Or.inl rfl) (aI Bq (aI Bq (Gw rfl rfl T.mz rfl T.Hg (pv 3)) (xH z8 (pv 3) DP (uY az))) (eF (aa (kZ (n:=1000000000)) ay))))) bu)
   (aD (aQ (pv 3))))),?_⟩
 refine bU (λ σ H'=>∃(l:Addr) (ws:List Int),σ = [some (.int c),some (.int (m:Int)),some (.int sp),some (.ref l)] /\ ws.length ≤ 13 /\ H l=none /\ ao H H' /\ H' l=some (.lst (ws.map V.int))) (λ N hN=>?_) ?_
 ·refine⟨_,rfl,_,_,rfl,rfl,_,rfl,by omega,by omega,λ D hD=>kP (lo:=0) (n:=((m:Int) + 1).toNat) D (λ i σ H5 ys=>∃(v:Option V) (ws:List Int),σ = [v,some (.int sp),some (.int c)] /\ ao H H5 /\ H5 D=some (.lst ys) /\ ys=ws.map V.int /\ ws.length ≤ i) ⟨none,[],rfl,ao.new hD,ah,rfl,Nat.le_refl _⟩ ?_ ?_⟩
  ·rintro i σ H5 ys hi ⟨v,ws,rfl,s5,hy,rfl,hl⟩
   refine⟨_,rfl,_,rfl,c,_,rfl,_,_,rfl,rfl,(by first | decide |(dsimp only;decide)),rfl,_,rfl,dF (λ h=>?_) (λ h=>⟨_,ws,rfl,s5,hy,rfl,by omega⟩)⟩
   refine⟨_,rfl,_,rfl,_,_,rfl,rfl,.inr ⟨by omega,by omega⟩,hy,by rw [List.length_map];exact bh (by omega),_,ws ++ [(0 +(i:Int)) * sp],rfl,λ b o e=>?_,ah,by simp,by simp;omega⟩
   rw [aq (au e hD)];exact s5 _ _ e
  ·rintro σ H5 ys ⟨v,ws,rfl,s5,hy,rfl,hl⟩
   exact hN _ _ ⟨D,ws,rfl,by omega,hD,s5,hy⟩
 rintro σ H1 ⟨l,ws,rfl,hwl,hl,s1,hl1⟩
 refine bU (λ σ H'=>∃(l:Addr) (ws:List Int),σ = [some (.int c),some (.int (m:Int)),some (.int sp),some (.ref l)] /\ ws.length ≤ 40 /\ H l=none /\ ao H H' /\ H' l=some (.lst (ws.map V.int))) (λ N hN=>?_) ?_
 ·refine⟨_,rfl,_,_,rfl,rfl,(by first | decide |(dsimp only;decide)),rfl,_,rfl,dF (λ h=>?_) (λ h=>hN _ _ ⟨l,ws,rfl,by omega,hl,s1,hl1⟩)⟩
  refine⟨_,rfl,l,_,rfl,SqL.of hl1,λ r hr=>?_⟩
  have s2:ao H1 (upd H1 r (.lst (ws.map V.int).reverse)):=ao.new hr
  have hr2:upd H1 r (.lst (ws.map V.int).reverse) r=some (.lst (ws.map V.int).reverse):=ah
  generalize upd H1 r (.lst (ws.map V.int).reverse)=H2 at s2 hr2 ⊢
  obtain⟨cs,hcs,hcl⟩:=IU ws none (some 2)
  refine⟨_,rfl,2,rfl,l,_,rfl,SqL.of (s2 _ _ hl1),λ u hu=>?_⟩
  rw [hcs]
  have s3:ao H2 (upd H2 u (.lst (cs.map V.int))):=ao.new hu
  have hu3:upd H2 u (.lst (cs.map V.int)) u=some (.lst (cs.map V.int)):=ah
  generalize upd H2 u (.lst (cs.map V.int))=H3 at s3 hu3 ⊢
  refine⟨r,u,_,_,rfl,rfl,s3 _ _ hr2,hu3,by simp;exact Nat.le_of_lt (bh (by omega)),λ x hx=>?_⟩
  have s4:ao H3 (upd H3 x (.lst ((ws.map V.int).reverse ++ cs.map V.int))):=ao.new hx
  have hx4:upd H3 x (.lst ((ws.map V.int).reverse ++ cs.map V.int)) x=some (.lst ((ws.map V.int).reverse ++ cs.map V.int)):=ah
  generalize upd H3 x (.lst ((ws.map V.int).reverse ++ cs.map V.int))=H4 at s4 hx4 ⊢
  refine⟨(by show 1 ≤ sizeLine;decide),λ z hz=>⟨x,z,_,_,rfl,rfl,ao.new hz _ _ hx4,ah,by simp;exact Nat.le_of_lt (bh (by omega)),λ f hf=>?_⟩⟩
  have s14:=s1.trans (s2.trans (s3.trans s4))
  have s5:ao H4 (upd H4 z (.lst [V.int 1000000000])):=ao.new hz
  refine hN _ _ ⟨f,ws.reverse ++ cs ++ [1000000000],rfl,by simp;omega,(s14.trans s5).free hf,(s14.trans s5).trans (ao.new hf),?_⟩
  rw [ah];simp
 rintro σ H2 ⟨l2,ws2,rfl,hwl2,hl2,s2,hl3⟩
 exact⟨_,rfl,q l2 ws2 H2 hl3 hwl2 hl2 s2⟩
theorem A4 {f:Addr} {fd:FuncData} (F:Fun K "_law_lying" "_law_lying" gD f fd) (T:Txt K mg t_W aH aG aC aB aF aJ af ak aj) (cu:DefX P w K mg base "_law_cell" 1 ["_law_script","_law_k"] (oS K)) (lA:DefX P w K mg base "_law_drawn" 2 ["_law_script","_law_many"] (pR K)) (jw:DefX P w K mg base "_law_rows_of" 1 ["_law_changes_here","_law_tables_here","_law_start","_law_day"] nU):bq P w K mg base (CXx P w) 3 f fd ["_law_script","_law_many","_law_changes_here","_law_tables_here"] (qi K):=by
 refine F.okX bX (λ vs H Q E h=>?_) (λ cdv A outer s H vs Q E hr h=>?_)
 ·obtain⟨a,cl,tl,ns,m,wd,chss,rfl,hS,hm0,hm,hcm,hC,hT,q⟩:=h;rfl
 obtain⟨a,cl,tl,ns,m,wd,chss,rfl,hS,hm0,hm,hcm,hC,hT,q⟩:=h
 refine⟨_,(av (aN (i:=4) bX.nd rfl (Or.inl rfl) (aW cu aE (hr.mono (by decide)) rfl (aa (pv 0) (aa az ay))))
   (av (aN (i:=5) bX.nd rfl (Or.inl rfl) (bz cB (eF (aa az (aa az (aa az ay)))) (aI bW (pv 4) az) (λ _ _=>rfl)))
   (av (aN (i:=6) bX.nd rfl (Or.inl rfl) (bz cB (eF (aa az (aa az (aa az ay)))) (aI bW (aI eB (pv 4) az) az) (λ _ _=>rfl)))
   (av (aN (i:=7) bX.nd rfl (Or.inl rfl) mh)
   (av (dW PassesOwn.leaving rfl (cI (aW lA aE (hr.mono (by decide)) rfl (aa (pv 0) (aa (pv 1) ay)))) (jf rfl (bL (aT (i:=8) bX.nd rfl (Or.inl rfl)) (bL (aT (i:=9) bX.nd rfl (Or.inl rfl)) (bL (aT (i:=10) bX.nd rfl (Or.inl rfl)) ir))))
   (av (aN (i:=11) bX.nd rfl (Or.inl rfl) (aW jw aE (hr.mono (by decide)) rfl (aa (pv 2) (aa (pv 3) (aa (pv 8) (aa (pv 9) ay))))))
   (av (aN (i:=12) bX.nd rfl (Or.inl rfl) (aY sP (by rfl) T.fC PySem.boot_len (aa (pv 7) ay)))
   (av (bN (aR rK (pv 6) az (aU _)) (aD (aN (i:=12) bX.nd rfl (Or.inl rfl) (aI gJ (aI bW (aI cg (aI gJ az (pv 12)) (aI eB (pv 4) az)) az) (pv 6)))) bu)
   (av (bN (aR rK (pv 8) az (aU _)) (aD (aN (i:=8) bX.nd rfl (Or.inl rfl) (aI gJ (pv 8) (pv 5)))) bu)
   (aD (oK (dO hr) (pv 7) (pv 12) (dS (aa (pv 8) (aa (aI gJ (pv 9) (pv 5)) (aa (pv 11) (aa (Ow (Hy (pv 10)) (Dj (iZ (AA hr.units) (pv 11) (eF ay) (aU _)))) ay))))) rfl)))))))
   (aD (aQ (pv 7)))))))),?_⟩
 refine⟨_,rfl,a,ns,3,rfl,hS,?_⟩
 generalize jj ns ((3:Nat):Int)=c
 refine bA [some (.ref a),some (.int (m:Int)),some (.ref cl),some (.ref tl),some (.int c),none,none,none,none,none,none,none,none] ?_
 obtain⟨z1,e1,hz1⟩:=xT (x:=1) (y:=7) (w:=80000000) (k:=c % 3) (by omega) (by omega)
 refine⟨(by show 3 ≤ sizeLine;decide),λ g1 hg1=>⟨_,rfl,_,_,rfl,rfl,(by first | decide |(dsimp only;decide)),g1,_,_,V.int z1,rfl,rfl,SqL.of ah,e1,?_⟩⟩
 have s1:ao H (upd H g1 (.lst [V.int 1,V.int 7,V.int 80000000])):=ao.new hg1
 generalize upd H g1 (.lst [V.int 1,V.int 7,V.int 80000000])=H1 at s1 ⊢
 refine bA [some (.ref a),some (.int (m:Int)),some (.ref cl),some (.ref tl),some (.int c),some (.int z1),none,none,none,none,none,none,none] ?_
 obtain⟨z2,e2,hz2⟩:=xT (x:=0) (y:=1) (w:=900000) (k:=c / 3 % 3) (by omega) (by omega)
 refine⟨(by show 3 ≤ sizeLine;decide),λ g2 hg2=>⟨_,rfl,_,_,rfl,rfl,⟨by first | decide |(dsimp only;decide),by first | decide |(dsimp only;decide)⟩,_,_,rfl,rfl,(by first | decide |(dsimp only;decide)),g2,_,_,V.int z2,rfl,rfl,SqL.of ah,e2,?_⟩⟩
 have s2:ao H1 (upd H1 g2 (.lst [V.int 0,V.int 1,V.int 900000])):=ao.new hg2
 generalize upd H1 g2 (.lst [V.int 0,V.int 1,V.int 900000])=H2 at s2 ⊢
 refine bA [some (.ref a),some (.int (m:Int)),some (.ref cl),some (.ref tl),some (.int c),some (.int z1),some (.int z2),none,none,none,none,none,none] ?_
 refine λ ld hld=>?_
 have s3:ao H2 (upd H2 ld (.dK [])):=ao.new hld
 have hld3:upd H2 ld (.dK []) ld=some (.dK []):=ah
 generalize upd H2 ld (.dK [])=H3 at s3 hld3 ⊢
 have s12:=s1.trans s2
 have sH3:=s12.trans s3
 have hldH:=s12.free hld
 refine bA [some (.ref a),some (.int (m:Int)),some (.ref cl),some (.ref tl),some (.int c),some (.int z1),some (.int z2),some (.ref ld),none,none,none,none,none] ?_
 dsimp only
 obtain⟨sN,hsN,hs0,hs8⟩:∃ sN:Nat,z1 =(sN:Int) /\ 0 < sN /\ sN ≤ 80000000:=⟨z1.toNat,by omega,by omega,by omega⟩
 subst hsN
 refine bU (λ σ H'=>∃(v8 v9 v10 v11 v12:Option V) (lkv:List (Key × V)) (M:M54),σ = [some (.ref a),some (.int (m:Int)),some (.ref cl),some (.ref tl),some (.int c),some (.int (sN:Int)),some (.int z2),some (.ref ld),v8,v9,v10,v11,v12] /\ ao H H' /\ H' ld=some (.dK lkv) /\ aX (dH H') lkv M /\ GA wd M /\ lkv ≠ [] /\ lkv.length ≤ 26) (λ N hN=>?_) ?_
 ·refine⟨_,rfl,_,rfl,a,ns,m,rfl,sH3.seq hS,hm0,hm,λ l L es H4 hl4 hLe hES hok hne hlen s4=>?_⟩
  have sH4:=sH3.trans s4
  have hld4:=s4 _ _ hld3
  have nll:l ≠ ld:=bB hl4 hld4 (by intro z;cases z)
  refine⟨l,rfl,⟨_,SqL.of hl4⟩,gf (K:=K) (a:=l) (xs:=L) (λ i σ H'=>∃(v8 v9 v10 v11 v12:Option V) (lkv:List (Key × V)) (M:M54),σ = [some (.ref a),some (.int (m:Int)),some (.ref cl),some (.ref tl),some (.int c),some (.int (sN:Int)),some (.int z2),some (.ref ld),v8,v9,v10,v11,v12] /\ bE [ld] H4 H' /\ H' ld=some (.dK lkv) /\ aX (dH H') lkv M /\ GA wd M /\(0 < i->lkv ≠ []) /\ lkv.length ≤ i) ⟨none,none,none,none,none,[],_,rfl,bE.refl,hld4,aX.nil,(λ n q h=>by cases h),λ h=>absurd h (by omega),Nat.le_refl _⟩ (λ i σ H' _ z0=>by obtain⟨_,_,_,_,_,_,_,_,k,_⟩:=z0;exact SqL.of (k _ _ hl4 (by simp [nll]))) ?_ ?_⟩
  ·rintro i v σ H5 hi ⟨v8,v9,v10,v11,v12,lkv,M,rfl,k5,hld5,hD5,hok5,hne5,hlen5⟩
   have hil:=(List.getElem?_eq_some_iff.mp hi).1
   have hie:i < es.length:=by omega
   obtain⟨t,rfl,ht⟩:=hES i v es[i] hi (List.getElem?_eq_getElem hie)
   obtain⟨ed,es1,es2⟩:=hok es[i] (List.getElem_mem hie)
   generalize es[i]=e at ht ed es1 es2
   have sH5:ao H H5:=λ b o eb=>k5 b o (sH4 b o eb) (by simp;exact au eb hldH)
   have ht5:=k5 _ _ ht (by simp;exact bB ht hld4 (by intro z;cases z))
   refine⟨t,_,rfl,SqT.of ht5,rfl,_,_,rfl,_,_,rfl,_,_,rfl,rfl,?_⟩
   refine⟨_,rfl,_,rfl,_,rfl,_,rfl,cl,tl,wd,e.d,e.s,chss,rfl,hC.keep sH5,hT.keep sH5,by omega,by omega,λ rl RL rows H6 hrl hR6 hSp s6=>?_⟩
   refine bA [some (.ref a),some (.int (m:Int)),some (.ref cl),some (.ref tl),some (.int c),some (.int (sN:Int)),some (.int z2),some (.ref ld),some (.int e.s),some (.int (e.d:Int)),some (.bl e.h),some (.ref rl),v12] ?_
   have hld6:=s6 _ _ hld5
   refine⟨_,rfl,ld,lkv,rfl,hld6,?_⟩
   refine bA [some (.ref a),some (.int (m:Int)),some (.ref cl),some (.ref tl),some (.int c),some (.int (sN:Int)),some (.int z2),some (.ref ld),some (.int e.s),some (.int (e.d:Int)),some (.bl e.h),some (.ref rl),some (.int (lkv.length:Int))] ?_
   dsimp only
   refine bU (λ σ H'=>∃ num:Int,σ = [some (.ref a),some (.int (m:Int)),some (.ref cl),some (.ref tl),some (.int c),some (.int (sN:Int)),some (.int z2),some (.ref ld),some (.int e.s),some (.int (e.d:Int)),some (.bl e.h),some (.ref rl),some (.int num)] /\ 0 ≤ num /\ num ≤ 100000000 /\ H6=H') (λ N hN=>?_) ?_
   ·refine⟨_,rfl,_,_,rfl,rfl,_,rfl,dF (λ h=>?_) (λ h=>hN _ _ ⟨_,rfl,by omega,by omega,rfl⟩)⟩
    have b0:=Int.emod_nonneg (37 * (lkv.length:Int) + c / 9) (show(101:Int) ≠ 0 by decide)
    have b1:=Int.emod_lt_of_pos (37 * (lkv.length:Int) + c / 9) (show(0:Int) < 101 by decide)
    refine⟨_,rfl,_,_,rfl,rfl,.inl ⟨by first | decide |(dsimp only;decide),by first | decide |(dsimp only;decide)⟩,_,rfl,_,_,rfl,rfl,⟨by first | decide |(dsimp only;decide),by first | decide |(dsimp only;decide)⟩,_,_,rfl,rfl,_,_,rfl,rfl,(by first | decide |(dsimp only;decide)),_,rfl,_,_,rfl,rfl,.inl ⟨by omega,by omega⟩,hN _ _ ⟨_,rfl,?_,?_,rfl⟩⟩
    ·rcases hz2 with rfl | rfl | rfl <;> omega
    ·rcases hz2 with rfl | rfl | rfl <;> omega
   rintro σ _ ⟨num,rfl,hn0,hn1,rfl⟩
   refine bU (λ σ H'=>∃ st:Int,σ = [some (.ref a),some (.int (m:Int)),some (.ref cl),some (.ref tl),some (.int c),some (.int (sN:Int)),some (.int z2),some (.ref ld),some (.int st),some (.int (e.d:Int)),some (.bl e.h),some (.ref rl),some (.int num)] /\(st = -1 ∨ 0 ≤ st) /\ st <(e.d:Int) * (sN:Int) /\ H6=H') (λ N hN=>?_) ?_
   ·refine⟨_,rfl,_,_,rfl,rfl,_,rfl,dF (λ h=>?_) (λ h=>hN _ _ ⟨_,rfl,es1,?_,rfl⟩)⟩
    ·have h:=of_decide_eq_true h
     refine⟨_,rfl,_,rfl,_,_,rfl,rfl,.inr ⟨by omega,by omega⟩,hN _ _ ⟨_,rfl,.inr (Int.mul_nonneg (by omega) (by omega)),?_,rfl⟩⟩
     exact Int.mul_lt_mul_of_pos_right es2 (by omega)
    ·have h:¬(0 < e.s):=λ z=>h (decide_eq_true z)
     have hmul:(0:Int) ≤(e.d:Int) * (sN:Int):=Int.mul_nonneg (by omega) (by omega)
     rcases es1 with h1 | h1
     ·omega
     ·have:(0:Int) <(e.d:Int) * (sN:Int):=Int.mul_pos (by omega) (by omega)
      omega
   rintro σ _ ⟨st,rfl,hst0,hst1,rfl⟩
   have hdn:(e.d:Int) * (sN:Int) =((e.d * sN:Nat):Int):=by simp
   refine⟨_,rfl,_,rfl,_,rfl,_,_,rfl,rfl,.inr ⟨by omega,by omega⟩,_,rfl,OF (i:=10) (j:=11) rfl rfl hrl hR6.len (λ g H7 s7 hg=>⟨(by show 4 ≤ sizeLine;decide),λ t2 ht2=>?_⟩)⟩
   have s8:ao H7 (upd H7 t2 (.tup [.int st,.int ((e.d:Int) * (sN:Int)),.ref rl,.bl g])):=ao.new ht2
   have ht8:upd H7 t2 (.tup [.int st,.int ((e.d:Int) * (sN:Int)),.ref rl,.bl g]) t2=some (.tup [.int st,.int ((e.d:Int) * (sN:Int)),.ref rl,.bl g]):=ah
   generalize upd H7 t2 (.tup [.int st,.int ((e.d:Int) * (sN:Int)),.ref rl,.bl g])=H8 at s8 ht8 ⊢
   have s58:=s6.trans (s7.trans s8)
   have hld8:=s58 _ _ hld5
   refine⟨_,rfl,_,rfl,ld,_,rfl,qW.k (k:=Sum.inl num) hld8 (bh (by omega)),?_⟩
   have kl:bE [ld] H8 (upd H8 ld (.dK (putK lkv (Sum.inl num) (.ref t2)))):=λ b o e hb=>by rw [aq (by simpa using hb)];exact e
   have np:bZ H8 [ld]:=bZ.one hld8
   have hli:dH H8 (.ref t2) ⟨st,e.d * sN,rows,g⟩:=⟨t2,rl,RL,rfl,by rw [ht8,hdn],(s7.trans s8) _ _ hrl,hR6.mono λ t xs e=>(s7.trans s8) _ _ e⟩
   have hsi:=D5 hC.w.2 hC.ok
   refine⟨_,_,_,_,_,_,gX M num (some ⟨st,e.d * sN,rows,g⟩),rfl,λ b o eb hb=>kl b o (s58 _ _ (k5 b o eb hb)) hb,ah,aX.put (hD5.mono λ v u z=>(z.keep s58).cC kl np) (hli.cC kl np),λ n q hq=>?_,λ _ z=>?_,by have:=cV lkv (Sum.inl num) (V.ref t2);omega⟩
   ·by_cases en:n=num
    ·subst en
     rw [jr] at hq
     cases hq
     refine⟨hn0,hn1,by rw [← hdn];exact hst1,hst0,?_,SpR.lt hsi hSp,SpR.len hsi hSp,hg⟩
     show e.d * sN ≤ 1000000000
     have:e.d * sN ≤ 12 * 80000000:=Nat.mul_le_mul (by omega) hs8
     omega
    ·rw [eY en] at hq;exact hok5 n q hq
   ·have:aZ (putK lkv (Sum.inl num) (V.ref t2)) (Sum.inl num)=some (V.ref t2):=by rw [iS,if_pos rfl]
    rw [z] at this
    cases this
  ·rintro σ H5 ⟨v8,v9,v10,v11,v12,lkv,M,rfl,k5,hld5,hD5,hok5,hne5,hlen5⟩
   exact hN _ _ ⟨v8,v9,v10,v11,v12,lkv,M,rfl,λ b o eb=>k5 b o (sH4 b o eb) (by simp;exact au eb hldH),hld5,hD5,hok5,hne5 (by omega),by omega⟩
 rintro σ H5 ⟨v8,v9,v10,v11,v12,lkv,M,rfl,s5,hld5,hD5,hok5,hne5,hlen5⟩
 exact⟨_,rfl,q ld lkv M H5 hld5 hD5 hok5 hne5 hlen5 hldH s5⟩
theorem A6 {f:Addr} {fd:FuncData} (F:Fun K "_law_shelf" "_law_shelf" gr f fd) (T:Txt K mg t_W aH aG aC aB aF aJ af ak aj) (kT:kQ P w K mg base "Shelf" aj 1 ["self"] (pS aj)) (iU:jS P w K mg base "Gain" ak 4 ["self","base","day","rows","check"] [Value.none] (ja af ak)) (eN:jS P w K mg base "Whole" af 4 ["self","day","rows","check"] [Value.none] (g9 af ak)) (kr:bf P w K mg base ak "harmed" 7 ["self","at","bits"] (mG af ak aG)) (jC:bf P w K mg base af "harmed" 7 ["self","at","bits"] (mG af ak aG)) (dh:bf P w K mg base aj "following" 1 ["self"] (jq aj)) (cW:bf P w K mg base aj "put" 2 ["self","piece"] (oY aj)) (gS:bf P w K mg base aj "lay" 1 ["self","number","piece"] (yq aj)):bq P w K mg base (CXx P w) 8 f fd ["_law_lying_here"] (p8 aj af ak):=by
 refine F.okX cF (λ vs H Q E h=>?_) (λ cdv A outer s H vs Q E hr h=>?_)
 ·obtain⟨ld,lkv,M,wd,ks,rfl,hld,hL,hok,hw,h26,hks,q⟩:=h;rfl
 obtain⟨ld,lkv,M,wd,ks,rfl,hld,hL,hok,hw,h26,hks,q⟩:=h
 refine⟨_,(av (aN (i:=1) cF.nd rfl (Or.inl rfl) (AH kT aE (hr.mono (by decide)) rfl))
   (av (zF (dW PassesOwn.leaving rfl (zV (pv 0)) (aT (i:=2) cF.nd rfl (Or.inl rfl))
   (av (yl (dZ (dO hr) (pv 0) (pv 2) (λ _ _=>rfl)) (jf rfl (bL (aT (i:=3) cF.nd rfl (Or.inl rfl)) (bL (aT (i:=4) cF.nd rfl (Or.inl rfl)) (bL (aT (i:=5) cF.nd rfl (Or.inl rfl)) (bL (aT (i:=6) cF.nd rfl (Or.inl rfl)) ir))))))
   (av (aN (i:=7) cF.nd rfl (Or.inl rfl) (jX (dvs:=[V.non]) iU (Paired.cons rfl Paired.nil) aE (hr.mono (by decide)) rfl (aa (pv 3) (aa (pv 4) (aa (pv 5) ay)))))
   (av (bN (aR dw (pv 3) (iH gK az) (aU _)) (aD (aN (i:=7) cF.nd rfl (Or.inl rfl) (jX (dvs:=[V.non]) eN (Paired.cons rfl Paired.nil) aE (hr.mono (by decide)) rfl (aa (pv 4) (aa (pv 5) ay))))) bu)
   (av (bN (fq (cQ (pv 6))) (aD (aN (i:=7) cF.nd rfl (Or.inl rfl) (g7 (bM (pv 7) T.bT jC aE (hr.mono (by decide)) (aa (aI j4 (aY bK (by rfl) T.fC PySem.boot_len (aa (pv 5) ay)) az) (aa az ay))) (bM (pv 7) T.bI kr aE (hr.mono (by decide)) (aa (aI j4 (aY bK (by rfl) T.fC PySem.boot_len (aa (pv 5) ay)) az) (aa az ay)))))) bu)
   (aD (bN (aR dw (pv 2) (br (pv 1) T.aP dh aE (hr.mono (by decide))) (aU _)) (aD (bV (bM (pv 1) T.aP cW aE (hr.mono (by decide)) (aa (pv 7) ay)))) (aD (bV (bM (pv 1) T.aP gS aE (hr.mono (by decide)) (aa (pv 2) (aa (pv 7) ay)))))))))))))
   (aD (aQ (pv 1))))),?_⟩
 refine λ p dp hp hdp hne=>⟨p,dp,rfl,ah,λ d H1 hS1 hd1 k1=>⟨rfl,?_⟩⟩
 have s1:ao H H1:=eU hp hdp k1
 have hdH:H d=none:=by
  by_cases e:d=p
  ·rw [e];exact hp
  ·rw [aq e] at hd1
   by_cases e2:d=dp
   ·rw [e2];exact hdp
   ·rw [aq e2] at hd1;exact hd1
 have npl:ld ≠ p:=au hld hp
 have ndl:ld ≠ d:=au hld hdH
 have hld1:=s1 _ _ hld
 have hL1:=hL.mono λ v u z=>z.keep s1
 refine bA [some (.ref ld),some (.ref p),none,none,none,none,none,none] ?_
 dsimp only
 have hkl:ks.length=lkv.length:=by have:=congrArg List.length hks;simpa using this.symm
 refine bU (λ σ H'=>∃(v2 v3 v4 v5 v6 v7:Option V) (fl:Int) (kvs:List (Key × V)),σ = [some (.ref ld),some (.ref p),v2,v3,v4,v5,v6,v7] /\ ao H H' /\ bO aj H' p d fl kvs /\ aX (PcF af ak H') kvs M /\ kvs.length ≤ 26 /\(∀ n ∈ ks,n < fl) /\(fl=0 ∨ fl - 1 ∈ ks) /\ 0 ≤ fl) (λ N hN=>?_) ?_
 ·refine⟨_,rfl,ld,lkv,rfl,hld1,λ o nf=>?_⟩
  have kf:bE [ld] H1 (upd H1 ld (.frz o (.dK lkv))):=λ b ob e hb=>by rw [aq (by simpa using hb)];exact e
  have hLf:=hL1.mono λ v u z=>z.cC kf (bZ.one hld1)
  have hfz:upd H1 ld (.frz o (.dK lkv)) ld=some (.frz o (.dK lkv)):=ah
  have sf:∀ b ob,H b=some ob->b ≠ ld->upd H1 ld (.frz o (.dK lkv)) b=some ob:=λ b ob e hb=>by rw [aq hb];exact s1 _ _ e
  have hSf:bO aj (upd H1 ld (.frz o (.dK lkv))) p d 0 []:=by
   obtain⟨dx,g1,g2⟩:=id hS1
   exact⟨dx,by rw [aq npl.symm];exact g1,by rw [aq ndl.symm];exact g2⟩
  generalize upd H1 ld (.frz o (.dK lkv))=Hf at hLf hfz sf hSf
  have npf:=jv hSf
  refine wX (d:=ld) (o:=o) (kvs:=lkv) (λ i σ H'=>∃(v2 v3 v4 v5 v6 v7:Option V) (fl:Int) (kvs:List (Key × V)),σ = [some (.ref ld),some (.ref p),v2,v3,v4,v5,v6,v7] /\ bE [p,d] Hf H' /\ bO aj H' p d fl kvs /\ aX (PcF af ak H') kvs (uJ M (ks.take i)) /\ kvs.length ≤ i /\(∀ n ∈ ks.take i,n < fl) /\(fl=0 ∨ fl - 1 ∈ ks.take i) /\ 0 ≤ fl) ⟨none,none,none,none,none,none,0,[],rfl,bE.refl,hSf,?_,Nat.le_refl _,(λ n h=>by simp at h),.inl rfl,Int.le_refl _⟩ (λ i σ H' _ z0=>by obtain⟨_,_,_,_,_,_,_,_,_,k,_⟩:=z0;exact k _ _ hfz (by simp [npl,ndl])) ?_ ?_
  ·have:uJ M (ks.take 0)=λ _=>none:=by funext n;simp [uJ]
   rw [this];exact aX.nil
  ·rintro i k v σ H2 hi ⟨v2,v3,v4,v5,v6,v7,fl,kvs,rfl,k2,hS2,hR2,hkv,hlt,hor,hfl0⟩
   obtain⟨n,u,rfl,eM,hLi,hvl⟩:=hLf.at_ hi
   obtain⟨t,l,L,rfl,ht,hl,R⟩:=hLi.cC k2 npf
   have hfz2:=k2 _ _ hfz (by simp [npl,ndl])
   obtain⟨hn0,hn1,hsd,hst0,hd9,hrw,hrl,hgr⟩:=hok n u eM
   have hil:=(List.getElem?_eq_some_iff.mp hi).1
   have hg:gb H2 ld (.int n) (some (V.ref t)):=.inl ⟨lkv,Sum.inl n,.inr ⟨o,hfz2⟩,rfl,hvl.symm⟩
   have hin:ks[i]? = some n:=by
    have:(lkv.map (·.1))[i]? = some (Sum.inl n):=by rw [List.getElem?_map,hi];rfl
    rw [hks,List.getElem?_map] at this
    obtain⟨m,h1,h2⟩:=Option.map_eq_some_iff.mp this
    cases h2;exact h1
   have htk:ks.take (i + 1)=ks.take i ++ [n]:=by rw [List.take_add_one,hin];rfl
   refine bA [some (.ref ld),some (.ref p),some (.int n),v3,v4,v5,v6,v7] ?_
   dsimp only
   refine bU (λ σ H'=>σ = [some (.ref ld),some (.ref p),some (.int n),some (.int u.st),some (.int (u.d:Int)),some (.ref l),some (.bl u.good),v7] /\ H2=H') (λ N2 hN2=>?_) ?_
   ·exact⟨_,rfl,_,rfl,ld,V.ref t,rfl,hg,t,_,rfl,SqT.of ht,rfl,_,_,rfl,_,_,rfl,_,_,rfl,_,_,rfl,rfl,hN2 _ _ ⟨rfl,rfl⟩⟩
   rintro σ _ ⟨rfl,rfl⟩
   have sm:∀ {Ha:Hp} {x dx:Addr} {ho:HO},Ha x=none->Ha dx=none->dx ≠ x->ao Ha (upd (upd Ha dx (.own x)) x ho):=λ hx hdx hne=>(ao.new hdx).trans (ao.new (by rw [aq hne.symm];exact hx))
   refine bU (λ σ H'=>∃ x:Addr,σ = [some (.ref ld),some (.ref p),some (.int n),some (.int u.st),some (.int (u.d:Int)),some (.ref l),some (.bl u.good),some (.ref x)] /\ ao H2 H' /\ ∀ b:Nat,u.st =(b:Int)->ef af ak H' x false b u.d u.rows (fz false b u.d u.rows:Nat)) (λ N2 hN2=>?_) ?_
   ·refine⟨_,rfl,_,rfl,_,rfl,λ x dx hx hdx hne=>⟨x,l,u.st,_,_,rfl,?_⟩⟩
    have sM:=sm (ho:=.ins ak dx []) hx hdx hne
    rcases hst0 with h1 | h1
    ·refine .inr ⟨x,dx,l,u.d,L,u.rows,by rw [h1];rfl,ah,sM _ _ hl,R.mono (λ t xs e=>sM t _ e),by omega,λ H5 k5=>⟨rfl,hN2 _ _ ⟨x,rfl,eU hx hdx k5,λ b hb=>?_⟩⟩⟩
     omega
    ·obtain⟨b,hb⟩:∃ b:Nat,u.st =(b:Int):=⟨u.st.toNat,by omega⟩
     refine .inl ⟨x,dx,l,b,u.d,L,u.rows,.non,_,by rw [hb];rfl,ah,sM _ _ hl,R.mono (λ t xs e=>sM t _ e),by omega,.inl ⟨rfl,rfl⟩,λ H5 hP5 k5=>⟨rfl,hN2 _ _ ⟨x,rfl,eU hx hdx k5,λ b' hb'=>?_⟩⟩⟩
     have:b'=b:=by omega
     subst this;exact hP5
   rintro σ H3 ⟨x,rfl,s3,hPx⟩
   have hl3:=s3 _ _ hl
   have R3:=R.mono λ t xs e=>s3 t _ e
   refine bU (λ σ H'=>∃(x:Addr) (wh:Bool) (b:Nat),σ = [some (.ref ld),some (.ref p),some (.int n),some (.int u.st),some (.int (u.d:Int)),some (.ref l),some (.bl u.good),some (.ref x)] /\ ao H3 H' /\ ef af ak H' x wh b u.d u.rows (fz wh b u.d u.rows:Nat) /\ stI wh b=u.st) (λ N2 hN2=>?_) ?_
   ·refine⟨_,rfl,_,rfl,rfl,_,rfl,dF (λ h=>?_) (λ h=>?_)⟩
    ·have h:u.st = -1:=pe h
     refine⟨_,rfl,_,rfl,λ y dy hy hdy hne=>?_⟩
     have sM:=sm (ho:=.ins af dy []) hy hdy hne
     exact⟨y,dy,l,u.d,L,u.rows,.non,_,rfl,ah,sM _ _ hl3,R3.mono (λ t xs e=>sM t _ e),by omega,.inl ⟨rfl,rfl⟩,λ H5 hP5 k5=>⟨rfl,hN2 _ _ ⟨y,true,0,rfl,eU hy hdy k5,hP5,by rw [h];rfl⟩⟩⟩
    ·have h:¬ u.st = -1:=qd h
     obtain⟨b,hb⟩:∃ b:Nat,u.st =(b:Int):=⟨u.st.toNat,by omega⟩
     exact hN2 _ _ ⟨x,false,b,rfl,ao.refl _,hPx b hb,hb.symm⟩
   rintro σ H4 ⟨y,wh,b,rfl,s4,hPy,hsty⟩
   have hl4:=s4 _ _ hl3
   refine bU (λ σ H'=>∃ z:Addr,σ = [some (.ref ld),some (.ref p),some (.int n),some (.int u.st),some (.int (u.d:Int)),some (.ref l),some (.bl u.good),some (.ref z)] /\ ao H4 H' /\ PcF af ak H' (.ref z) u) (λ N2 hN2=>?_) ?_
   ·refine⟨_,rfl,_,rfl,?_⟩
    cases hg':u.good
    ·refine jb ?_
     have hne:=hgr hg'
     have hlr:0 < u.rows.length:=List.length_pos_iff.mpr hne
     have hshown:shown u=gi u.rows (u.rows.length - 1) 5:=if_neg (by rw [hg'];decide)
     have fin:∀(z:Addr) (H5:Hp),ef af ak H5 z wh b u.d (gi u.rows (u.rows.length - 1) 5) (fz wh b u.d u.rows:Nat)->ao H4 H5->N2 [some (.ref ld),some (.ref p),some (.int n),some (.int u.st),some (.int (u.d:Int)),some (.ref l),some (.bl false),some (.ref z)] H5:=λ z H5 hP5 s5=>by
      refine hN2 _ _ ⟨z,by rw [hg'],s5,z,wh,b,_,rfl,by rw [hshown];exact hP5,hsty,?_⟩
      rw [hg',hshown]
      exact decide_eq_false λ e=>LA hne (Int.ofNat_inj.mp e).symm
     obtain⟨dxy,ry,Ry,y1,y2,y3⟩:=id hPy
     have hlen:L.length=u.rows.length:=R.len
     cases wh
     ·refine .inr ⟨_,rfl,y,dxy,_,rfl,y1,gO,_,rfl,l,_,rfl,.inl (SqL.of hl4),_,_,rfl,rfl,y,false,b,u.d,u.rows,_,_,5,rfl,hPy,by omega,λ j ej hj z H5 hP5 hz s5=>?_,λ h=>absurd (by omega) h⟩
      have:j=u.rows.length - 1:=by omega
      subst this
      exact fin z H5 hP5 s5
     ·refine .inl ⟨_,rfl,y,dxy,_,rfl,y1,gO,_,rfl,l,_,rfl,.inl (SqL.of hl4),_,_,rfl,rfl,y,true,b,u.d,u.rows,_,_,5,rfl,hPy,by omega,λ j ej hj z H5 hP5 hz s5=>?_,λ h=>absurd (by omega) h⟩
      have:j=u.rows.length - 1:=by omega
      subst this
      exact fin z H5 hP5 s5
    ·refine dI (hN2 _ _ ⟨y,by rw [hg'],ao.refl _,y,wh,b,((fz wh b u.d u.rows:Nat):Int),rfl,?_,hsty,?_⟩)
     ·rw [show shown u=u.rows from if_pos hg'];exact hPy
     ·rw [hg',show shown u=u.rows from if_pos hg'];exact decide_eq_true rfl
   rintro σ H5 ⟨z,rfl,s5,hPz⟩
   have s25:=s3.trans (s4.trans s5)
   have hS5:=hS2.keep s25
   have hR5:=hR2.mono λ v u z=>z.keep s25
   obtain⟨dx5,g15,g25⟩:=id hS5
   have np5:=jv hS5
   have fin:∀(H6:Hp) (fl':Int),bO aj H6 p d fl' (putK kvs (Sum.inl n) (.ref z))->bE [p,d] H5 H6->n < fl'->fl ≤ fl'->(fl'=fl ∨ fl'=n + 1)->∃(v2 v3 v4 v5 v6 v7:Option V) (fl:Int) (kvs:List (Key × V)),[some (V.ref ld),some (.ref p),some (.int n),some (.int u.st),some (.int (u.d:Int)),some (.ref l),some (.bl u.good),some (.ref z)] = [some (.ref ld),some (.ref p),v2,v3,v4,v5,v6,v7] /\ bE [p,d] Hf H6 /\ bO aj H6 p d fl kvs /\ aX (PcF af ak H6) kvs (uJ M (ks.take (i + 1))) /\ kvs.length ≤ i + 1 /\(∀ n ∈ ks.take (i + 1),n < fl) /\(fl=0 ∨ fl - 1 ∈ ks.take (i + 1)) /\ 0 ≤ fl:=λ H6 fl' hS6 k6 h1 h2 h3=>by
    refine⟨_,_,_,_,_,_,fl',_,rfl,λ b o e hb=>k6 b o (s25 _ _ (k2 b o e hb)) hb,hS6,?_,by have:=cV kvs (Sum.inl n) (V.ref z);omega,λ m hm=>?_,?_,by omega⟩
    ·rw [htk,HH eM]
     exact aX.put (hR5.mono λ v u z=>z.cC k6 np5) (hPz.cC k6 np5)
    ·rw [htk] at hm
     rcases List.mem_append.mp hm with h | h
     ·have:=hlt m h;omega
     ·rw [List.mem_singleton.mp h];exact h1
    ·rw [htk]
     rcases h3 with h3 | h3
     ·rcases hor with h4 | h4
      ·omega
      ·exact .inr (by rw [h3];exact List.mem_append_left _ h4)
     ·exact .inr (by rw [h3];simp)
   refine⟨_,rfl,_,rfl,p,dx5,_,rfl,g15,cS (by decide +kernel) (by decide +kernel),p,d,fl,kvs,rfl,hS5,rfl,_,rfl,dF (λ h=>?_) (λ h=>?_)⟩
   ·have h:=pe h
    refine⟨_,rfl,p,dx5,_,rfl,g15,cS (by decide +kernel) (by decide +kernel),_,rfl,p,d,fl,kvs,z,rfl,hS5,by omega,λ H6 hS6 k6=>fin H6 (fl + 1) (by rw [h];exact hS6) k6 (by omega) (by omega) (by omega)⟩
   ·refine⟨_,rfl,p,dx5,_,rfl,g15,cS (by decide +kernel) (by decide +kernel),_,rfl,_,rfl,p,d,fl,kvs,n,z,rfl,hS5,by omega,λ H6 hS6 k6=>fin H6 _ hS6 k6 (by split <;> omega) (by split <;> omega) (by split <;> omega)⟩
  ·rintro σ H2 ⟨v2,v3,v4,v5,v6,v7,fl,kvs,rfl,k2,hS2,hR2,hkv,hlt,hor,hfl0⟩
   have hfz2:=k2 _ _ hfz (by simp [npl,ndl])
   rw [List.take_of_length_le (by omega)] at hR2 hlt hor
   have eM:uJ M ks=M:=by
    funext m
    unfold uJ
    split
    ·rfl
    ·rename_i h
     cases e:M m with
     | none=>rfl
     | some u=>exact absurd ((hL.keys hks m).mpr (by rw [e];rfl)) h
   rw [eM] at hR2
   have kz:bE [ld] H2 (upd H2 ld (.dK lkv)):=λ b ob e hb=>by rw [aq (by simpa using hb)];exact e
   obtain⟨dx2,g12,g22⟩:=id hS2
   refine⟨ld,o,lkv,hfz2,nf,hN _ _ ⟨v2,v3,v4,v5,v6,v7,fl,kvs,rfl,λ b ob e=>?_,⟨dx2,kz _ _ g12 (by simp [npl.symm]),kz _ _ g22 (by simp [ndl.symm])⟩,hR2.mono λ v u z=>z.Oz kz hfz2,by omega,hlt,hor,hfl0⟩⟩
   by_cases hbl:b=ld
   ·subst hbl;rw [hld] at e;cases e;exact ah
   ·rw [aq hbl]
    exact k2 _ _ (sf b ob e hbl) (by simp [au e hp,au e hdH])
 rintro σ H2 ⟨v2,v3,v4,v5,v6,v7,fl,kvs,rfl,s2,hS2,hR2,hkv,hlt,hor,hfl0⟩
 exact⟨_,rfl,q p d kvs fl H2 hS2 hR2 hkv hlt hor hfl0 hp hdH s2⟩
theorem AR {f:Addr} {fd:FuncData} (F:Fun K "_law_ready" "_law_ready" gC f fd) (T:Txt K mg t_W aH aG aC aB aF aJ af ak aj) :bq P w K mg base (CXx P w) 1 f fd ["_law_lying_here","_law_wanted_here"] (qH):=by
 refine F.okX eg (λ vs H Q E h=>?_) (λ cdv A outer s H vs Q E hr h=>?_)
 ·obtain⟨ld,w,lkv,M,wt,rfl,hld,hL,h100,hw,q0,q1,hex⟩:=h;rfl
 obtain⟨ld,w,lkv,M,wt,rfl,hld,hL,h100,hw,q0,q1,hex⟩:=h
 refine⟨_,(av (aN (i:=2) eg.nd rfl (Or.inl rfl) tM)
   (av (zF (dW PassesOwn.leaving rfl (zV (pv 0)) (aT (i:=3) eg.nd rfl (Or.inl rfl))
   (av (aN (i:=4) eg.nd rfl (Or.inr rfl) (bz cj (dZ (dO hr) (pv 0) (pv 3) (λ _ _=>rfl)) az (λ _ _=>rfl)))
   (av (ie (i:=5) eg.nd rfl (Or.inl rfl) (N:=["_law_number","_law_day","_law_lying_here"]) (k:=1) (cap:=[4,0]) rfl rfl (CH (pv 0)) (λ _ _ _ _=>(aT (i:=0) (show(["_law_number","_law_day","_law_lying_here"]:List Str).Nodup from by decide +kernel) rfl (Or.inl rfl) (.inr rfl))) (λ _ _ _ _=>(iT (aR dw (bz (DG (K:=K) rfl) (dZ (dO hr) (pv 2) (pv 0) (λ _ _=>rfl)) az (λ _ _=>rfl)) (pv 1) (aU _)))) (λ _ _ _ _=>(pv 0)))
   (av (ie (i:=6) eg.nd rfl (Or.inl rfl) (N:=["_law_number","_law_day","_law_lying_here"]) (k:=1) (cap:=[4,0]) rfl rfl (CH (pv 0)) (λ _ _ _ _=>(aT (i:=0) (show(["_law_number","_law_day","_law_lying_here"]:List Str).Nodup from by decide +kernel) rfl (Or.inl rfl) (.inr rfl))) (λ _ _ _ _=>(iT (aR dw (bz (DG (K:=K) rfl) (dZ (dO hr) (pv 2) (pv 0) (λ _ _=>rfl)) az (λ _ _=>rfl)) (pv 1) (aU _)))) (λ _ _ _ _=>(pv 0)))
   (aD (bN (PW.pt (pw_and (aR tP (pv 4) (pv 1) (by with_unfolding_all rfl)) (pw_and (aR dw (aY bK (by rfl) T.fC PySem.boot_len (aa (pv 5) ay)) az (aU _)) (pw_and (aR dw (aY bK (by rfl) T.fC PySem.boot_len (aa (pv 6) ay)) az (aU _)) (pw_and (cQ (bz cj (dZ (dO hr) (pv 0) (pv 3) (λ _ _=>rfl)) az (λ _ _=>rfl))) (pw_and1 (cQ (bz cj (dZ (dO hr) (pv 0) (bz cB (pv 6) az (λ _ _=>rfl)) (λ _ _=>rfl)) az (λ _ _=>rfl))))))))) (aD (bN (PW.pt (pw_or (aR yu (pv 2) tM (aU _)) (pw_or1 (aR Bj (pv 4) (bz cj (dZ (dO hr) (pv 0) (bz cj (pv 2) az (λ _ _=>rfl)) (λ _ _=>rfl)) az (λ _ _=>rfl)) (aU _))))) (aD (aN (i:=2) eg.nd rfl (Or.inl rfl) (dS (aa (pv 3) (aa (bz cB (pv 6) az (λ _ _=>rfl)) ay))))) bu)) bu)))))))
   (aD (aQ (pv 2))))),?_⟩
 obtain⟨ks,hks⟩:=fP hL.gH
 have hkl:ks.length < 100:=by have:=congrArg List.length hks;simp at this;omega
 have hkn:=G0 hL hks
 have hmem:=hL.keys hks
 refine bA [some (.ref ld),some (.ref w),some .non,none,none,none,none] ?_
 dsimp only
 refine bU (λ σ H'=>∃(v3 v4 v5 v6:Option V) (bv:V),σ = [some (.ref ld),some (.ref w),some bv,v3,v4,v5,v6] /\ ao H H' /\((bv = .non /\ ∀ x,¬ Rd M wt x) ∨ ∃ x n n' q q' t,bv = .ref t /\ H' t=some (.tup ([n,n'].map V.int)) /\ x ∉ wt /\ Rdy M x n n' q q' /\ ∀ y,Rd M wt y->x ≤ y)) (λ N hN=>?_) ?_
 ·refine⟨_,rfl,ld,lkv,rfl,hld,λ o nf=>wX (d:=ld) (o:=o) (kvs:=lkv) (λ i σ H'=>∃(v3 v4 v5 v6:Option V) (bv:V),σ = [some (.ref ld),some (.ref w),some bv,v3,v4,v5,v6] /\ ao (upd H ld (.frz o (.dK lkv))) H' /\((bv = .non /\ ∀ j m v u,j < i->lkv[j]? = some (Sum.inl m,v)->M m=some u->¬ Rd M wt (u.d:Int)) ∨ ∃ x n n' q q' t,bv = .ref t /\ H' t=some (.tup ([n,n'].map V.int)) /\ x ∉ wt /\ Rdy M x n n' q q' /\ ∀ j m v u,j < i->lkv[j]? = some (Sum.inl m,v)->M m=some u->Rd M wt (u.d:Int)->x ≤(u.d:Int))) ⟨none,none,none,none,.non,rfl,ao.refl _,.inl ⟨rfl,λ j m v u h=>absurd h (by omega)⟩⟩ (λ i σ H' _ z0=>by obtain⟨_,_,_,_,_,_,s',_⟩:=z0;exact s' _ _ ah) ?_ ?_⟩
  ·rintro i k v σ H1 hi ⟨v3,v4,v5,v6,bv,rfl,s1,hb⟩
   obtain⟨n,u,rfl,eM,⟨t,l,L,rfl,ht,hl,R⟩,hvl⟩:=hL.at_ hi
   have kp:=Lq s1
   have hfz:=s1 _ _ ah
   have hat:∀ {H2:Hp},ao H1 H2->∀ z q,M z=some q->∃ tz lz,gb H2 ld (.int z) (some (V.ref tz)) /\ H2 tz=some (.tup [.int q.st,.int (q.d:Int),.ref lz,.bl q.good]):=λ s z q hq=>by
    obtain⟨vz,hvz,tz,lz,Lz,rfl,htz,_⟩:=hL.dz z q hq
    exact⟨tz,lz,.inl ⟨lkv,Sum.inl z,.inr ⟨o,s _ _ hfz⟩,rfl,hvz.symm⟩,s _ _ (kp _ _ htz (by simp;exact bB htz hld (by intro z;cases z)))⟩
   obtain⟨tn,ln,hgn,htn⟩:=hat (ao.refl _) n u eM
   refine bA [some (.ref ld),some (.ref w),some bv,some (.int n),v4,v5,v6] ?_
   refine⟨_,rfl,_,rfl,ld,V.ref tn,rfl,hgn,tn,_,_,V.int (u.d:Int),rfl,rfl,SqT.of htn,rfl,?_⟩
   refine bA [some (.ref ld),some (.ref w),some bv,some (.int n),some (.int (u.d:Int)),v5,v6] ?_
   dsimp only
   refine bU (λ σ H'=>∃ D1:Addr,σ = [some (.ref ld),some (.ref w),some bv,some (.int n),some (.int (u.d:Int)),some (.ref D1),v6] /\ ao H1 H' /\ H' D1=some (.lst ((ks.filter (onM M λ w=>decide ((w.d:Int) =(u.d:Int)))).map V.int))) (λ N hN=>?_) ?_
   ·refine⟨_,rfl,ld,o,lkv,rfl,hfz,λ D hD=>DL D (onM M λ w=>decide ((w.d:Int) =(u.d:Int))) rfl hks (by omega) hfz hD (λ z hz H2 s2 Q k=>?_) (λ H2 s2 h2=>hN _ _ ⟨D,rfl,s2,h2⟩)⟩
    obtain⟨qz,hqz⟩:=Option.isSome_iff_exists.mp ((hmem z).mp hz)
    obtain⟨tz,lz,hgz,htz⟩:=hat s2 z qz hqz
    have k':=k H2 (ao.refl _)
    rw [dg hqz,← dV] at k'
    exact⟨_,rfl,_,rfl,ld,V.ref tz,rfl,hgz,tz,_,_,V.int (qz.d:Int),rfl,rfl,SqT.of htz,rfl,_,rfl,rfl,_,rfl,k'⟩
   rintro σ H2 ⟨D1,rfl,s2,hD1⟩
   refine bU (λ σ H'=>∃ D2:Addr,σ = [some (.ref ld),some (.ref w),some bv,some (.int n),some (.int (u.d:Int)),some (.ref D1),some (.ref D2)] /\ ao H2 H' /\ H' D2=some (.lst ((ks.filter (onM M λ w=>decide (w.st =(u.d:Int)))).map V.int))) (λ N hN=>?_) ?_
   ·refine⟨_,rfl,ld,o,lkv,rfl,s2 _ _ hfz,λ D hD=>DL D (onM M λ w=>decide (w.st =(u.d:Int))) rfl hks (by omega) (s2 _ _ hfz) hD (λ z hz H3 s3 Q k=>?_) (λ H3 s3 h3=>hN _ _ ⟨D,rfl,s3,h3⟩)⟩
    obtain⟨qz,hqz⟩:=Option.isSome_iff_exists.mp ((hmem z).mp hz)
    obtain⟨tz,lz,hgz,htz⟩:=hat (s2.trans s3) z qz hqz
    have k':=k H3 (ao.refl _)
    rw [dg hqz,← dV] at k'
    exact⟨_,rfl,_,rfl,ld,V.ref tz,rfl,hgz,tz,_,_,V.int qz.st,rfl,rfl,SqT.of htz,rfl,_,rfl,rfl,_,rfl,k'⟩
   rintro σ H3 ⟨D2,rfl,s3,hD2⟩
   have s13:=s2.trans s3
   have hD13:=s3 _ _ hD1
   have hmm:∀ m q,M m=some q->m ∈ ks:=λ m q h=>(hmem m).mpr (by rw [h];rfl)
   have hlt:∀ {j:Nat} {m:Int} {vj:V} {uj:Q54},j < i + 1->lkv[j]? = some (Sum.inl m,vj)->M m=some uj->j < i ∨ uj=u:=λ {j m vj uj} h e1 e2=>by
    by_cases hj:j=i
    ·subst hj
     rw [hi] at e1
     cases e1
     rw [eM] at e2
     cases e2
     exact .inr rfl
    ·exact .inl (by omega)
   have no:¬ Rd M wt (u.d:Int)->∃(v3 v4 v5 v6:Option V) (bv':V),[some (V.ref ld),some (.ref w),some bv,some (.int n),some (.int (u.d:Int)),some (.ref D1),some (.ref D2)] = [some (V.ref ld),some (.ref w),some bv',v3,v4,v5,v6] /\ ao (upd H ld (.frz o (.dK lkv))) H3 /\((bv' = .non /\ ∀ j m v u,j < i + 1->lkv[j]? = some (Sum.inl m,v)->M m=some u->¬ Rd M wt (u.d:Int)) ∨ ∃ x n n' q q' t,bv' = .ref t /\ H3 t=some (.tup ([n,n'].map V.int)) /\ x ∉ wt /\ Rdy M x n n' q q' /\ ∀ j m v u,j < i + 1->lkv[j]? = some (Sum.inl m,v)->M m=some u->Rd M wt (u.d:Int)->x ≤(u.d:Int)):=λ hno=>by
    refine⟨_,_,_,_,bv,rfl,s1.trans s13,?_⟩
    rcases hb with⟨hb,h⟩ |⟨x,n0,n',q,q',tb,hb,htb,hx,hRy,h⟩
    ·refine .inl ⟨hb,λ j m v uj hj e1 e2=>?_⟩
     rcases hlt hj e1 e2 with hj | rfl
     ·exact h j m v uj hj e1 e2
     ·exact hno
    ·refine .inr ⟨x,n0,n',q,q',tb,hb,s13 _ _ htb,hx,hRy,λ j m v uj hj e1 e2 hR=>?_⟩
     rcases hlt hj e1 e2 with hj | rfl
     ·exact h j m v uj hj e1 e2 hR
     ·exact absurd hR hno
   refine⟨_,rfl,_,rfl,w,_,rfl,.inl (SqL.of (s13 _ _ (kp _ _ hw (by simp;exact bB hw hld (by intro z;cases z))))),rfl,mV wt,_,rfl,dF (λ h1=>?_) (λ h1=>?_)⟩
   rotate_left
   ·have h1:¬(!inV (.int (u.d:Int)) (wt.map V.int))=true:=h1
    rw [kU] at h1
    exact dI (no λ⟨z,_⟩=>h1 (by simpa using z))
   have h1:(!inV (.int (u.d:Int)) (wt.map V.int))=true:=h1
   rw [kU] at h1
   have h1:(u.d:Int) ∉ wt:=by simpa using h1
   refine⟨_,rfl,D1,_,rfl,.inl (SqL.of hD13),rfl,_,rfl,dF (λ h2=>?_) (λ h2=>?_)⟩
   rotate_left
   ·have h2:=qd h2
    refine dI (no λ⟨_,n0,n',q,q',hRy⟩=>h2 ?_)
    rw [qx hkn (hmm _ _ hRy.h1) (by rw [dg hRy.h1];exact decide_eq_true hRy.d1) (λ m hm h=>by
     obtain⟨qm,hqm⟩:=Option.isSome_iff_exists.mp ((hmem m).mp hm)
     rw [dg hqm] at h
     exact hRy.u1 m qm hqm (of_decide_eq_true h))]
    rfl
   have h2:=pe h2
   refine⟨_,rfl,D2,_,rfl,.inl (SqL.of hD2),rfl,_,rfl,dF (λ h3=>?_) (λ h3=>?_)⟩
   rotate_left
   ·have h3:=qd h3
    refine dI (no λ⟨_,n0,n',q,q',hRy⟩=>h3 ?_)
    rw [qx hkn (hmm _ _ hRy.h2) (by rw [dg hRy.h2];exact decide_eq_true hRy.d2) (λ m hm h=>by
     obtain⟨qm,hqm⟩:=Option.isSome_iff_exists.mp ((hmem m).mp hm)
     rw [dg hqm] at h
     exact hRy.u2 m qm hqm (of_decide_eq_true h))]
    rfl
   have h3:=pe h3
   rw [List.length_map] at h2 h3
   obtain⟨n',q',hn',hst',huq,hF2⟩:=B9 (f:=λ w=>decide (w.st =(u.d:Int))) hmem (show(ks.filter (onM M λ w=>decide (w.st =(u.d:Int)))).length=1 by omega)
   obtain⟨n0,q0',hn0,hd0,hud,hF1⟩:=B9 (f:=λ w=>decide ((w.d:Int) =(u.d:Int))) hmem (show(ks.filter (onM M λ w=>decide ((w.d:Int) =(u.d:Int)))).length=1 by omega)
   have en0:n=n0:=hud n u eM (decide_eq_true rfl)
   subst en0
   have hst':=of_decide_eq_true hst'
   rw [hF2] at hD2
   obtain⟨t3,l3,hg3,ht3⟩:=hat s13 n u eM
   refine⟨_,rfl,_,rfl,ld,V.ref t3,rfl,hg3,t3,_,_,V.bl u.good,rfl,rfl,SqT.of ht3,rfl,_,rfl,dF (λ h4=>?_) (λ h4=>?_)⟩
   rotate_left
   ·refine dI (no λ⟨_,m,m',q,q',hRy⟩=>h4 ?_)
    have:=hRy.u1 n u eM rfl
    subst this
    have:=hRy.h1
    rw [eM] at this;cases this
    exact hRy.g1
   obtain⟨t4,l4,hg4,ht4⟩:=hat s13 n' q' hn'
   refine⟨_,rfl,_,rfl,D2,_,0,V.int n',rfl,rfl,SqL.of hD2,rfl,ld,V.ref t4,rfl,hg4,t4,_,_,V.bl q'.good,rfl,rfl,SqT.of ht4,rfl,_,rfl,dF (λ h5=>?_) (λ h5=>?_)⟩
   rotate_left
   ·refine no λ⟨_,m,m',q,q2,hRy⟩=>h5 ?_
    have:=hRy.u2 n' q' hn' hst'
    subst this
    have:=hRy.h2
    rw [hn'] at this;cases this
    exact hRy.g2
   have hRy:Rdy M (u.d:Int) n n' u q':=⟨eM,hn',rfl,hst',h4,h5,λ m w e1 e2=>(hud m w e1 (decide_eq_true e2)),λ m w e1 e2=>huq m w e1 (decide_eq_true e2)⟩
   have new:∀ tb,H3 tb=none->(∀ j m v uj,j < i->lkv[j]? = some (Sum.inl m,v)->M m=some uj->Rd M wt (uj.d:Int)->(u.d:Int) ≤(uj.d:Int))->∃(v3 v4 v5 v6:Option V) (bv':V),[some (V.ref ld),some (.ref w),some (V.ref tb),some (.int n),some (.int (u.d:Int)),some (.ref D1),some (.ref D2)] = [some (V.ref ld),some (.ref w),some bv',v3,v4,v5,v6] /\ ao (upd H ld (.frz o (.dK lkv))) (upd H3 tb (.tup [.int n,.int n'])) /\((bv' = .non /\ ∀ j m v u,j < i + 1->lkv[j]? = some (Sum.inl m,v)->M m=some u->¬ Rd M wt (u.d:Int)) ∨ ∃ x nA nB q q' t,bv' = .ref t /\ upd H3 tb (.tup [.int n,.int n']) t=some (.tup ([nA,nB].map V.int)) /\ x ∉ wt /\ Rdy M x nA nB q q' /\ ∀ j m v u,j < i + 1->lkv[j]? = some (Sum.inl m,v)->M m=some u->Rd M wt (u.d:Int)->x ≤(u.d:Int)):=λ tb htb h=>by
    refine⟨_,_,_,_,.ref tb,rfl,(s1.trans s13).trans (ao.new htb),.inr ⟨_,n,n',u,q',tb,rfl,ah,h1,hRy,λ j m v uj hj e1 e2 hR=>?_⟩⟩
    rcases hlt hj e1 e2 with hj | rfl
    ·exact h j m v uj hj e1 e2 hR
    ·exact Int.le_refl _
   rcases hb with⟨rfl,h⟩ |⟨x,n1,n1',q1',q2',tb,rfl,htb,hx,hRx,h⟩
   ·refine⟨_,rfl,rfl,_,rfl,dF (λ _=>jb ?_) (λ z=>absurd (decide_eq_true rfl) z)⟩
    refine⟨_,rfl,_,rfl,D2,_,0,V.int n',rfl,rfl,SqL.of hD2,rfl,(by show 2 ≤ sizeLine;decide),λ tb htb=>?_⟩
    refine bA [some (V.ref ld),some (.ref w),some (V.ref tb),some (.int n),some (.int (u.d:Int)),some (.ref D1),some (.ref D2)] ?_
    exact new tb htb λ j m v uj hj e1 e2 hR=>absurd hR (h j m v uj hj e1 e2)
   ·refine⟨_,rfl,rfl,_,rfl,dF (λ z=>absurd (of_decide_eq_true z) (by intro y;cases y)) (λ _=>?_)⟩
    obtain⟨t6,l6,hg6,ht6⟩:=hat s13 n1 q1' hRx.h1
    refine⟨_,rfl,_,rfl,_,rfl,tb,_,_,V.int n1,rfl,rfl,SqT.of (s13 _ _ htb),rfl,ld,V.ref t6,rfl,hg6,t6,_,_,V.int (q1'.d:Int),rfl,rfl,SqT.of ht6,rfl,_,_,rfl,rfl,_,rfl,dF (λ h6=>?_) (λ h6=>?_)⟩
    ·have h6:=of_decide_eq_true h6
     have hd:=hRx.d1
     refine⟨_,rfl,_,rfl,D2,_,0,V.int n',rfl,rfl,SqL.of hD2,rfl,(by show 2 ≤ sizeLine;decide),λ tb htb=>?_⟩
     refine bA [some (V.ref ld),some (.ref w),some (V.ref tb),some (.int n),some (.int (u.d:Int)),some (.ref D1),some (.ref D2)] ?_
     exact new tb htb λ j m v uj hj e1 e2 hR=>by have:=h j m v uj hj e1 e2 hR;omega
    ·have h6:¬((u.d:Int) <(q1'.d:Int)):=λ z=>h6 (decide_eq_true z)
     have hd:=hRx.d1
     refine⟨_,_,_,_,.ref tb,rfl,s1.trans s13,.inr ⟨x,n1,n1',q1',q2',tb,rfl,s13 _ _ htb,hx,hRx,λ j m v uj hj e1 e2 hR=>?_⟩⟩
     rcases hlt hj e1 e2 with hj | rfl
     ·exact h j m v uj hj e1 e2 hR
     ·omega
  ·rintro σ H1 ⟨v3,v4,v5,v6,bv,rfl,s1,hb⟩
   have hfz:=s1 _ _ ah
   have hkey:∀ y,Rd M wt y->∃ j m v u,j < lkv.length /\ lkv[j]? = some (Sum.inl m,v) /\ M m=some u /\(u.d:Int)=y:=λ y ⟨_,m,m',q,q',hRy⟩=>by
    obtain⟨j,v,hj⟩:=hL.ix hRy.h1
    exact⟨j,m,v,q,(List.getElem?_eq_some_iff.mp hj).1,hj,hRy.h1,hRy.d1⟩
   refine⟨ld,o,lkv,hfz,nf,hN _ _ ⟨v3,v4,v5,v6,bv,rfl,λ b ob e=>?_,?_⟩⟩
   ·by_cases hbl:b=ld
    ·subst hbl;rw [hld] at e;cases e;exact ah
    ·rw [aq hbl];exact s1 _ _ (by rw [aq hbl];exact e)
   ·rcases hb with⟨rfl,h⟩ |⟨x,n1,n1',q1',q2',tb,rfl,htb,hx,hRx,h⟩
    ·refine .inl ⟨rfl,λ y hy=>?_⟩
     obtain⟨j,m,v,u,a1,a2,a3,a4⟩:=hkey y hy
     exact h j m v u a1 a2 a3 (by rw [a4];exact hy)
    ·refine .inr ⟨x,n1,n1',q1',q2',tb,rfl,by rw [aq (bB htb hfz (by intro z;cases z))];exact htb,hx,hRx,λ y hy=>?_⟩
     obtain⟨j,m,v,u,a1,a2,a3,a4⟩:=hkey y hy
     rw [← a4]
     exact h j m v u a1 a2 a3 (by rw [a4];exact hy)
 rintro σ H1 ⟨v3,v4,v5,v6,bv,rfl,s1,hb⟩
 rcases hb with⟨rfl,h⟩ |⟨x,n1,n1',q1',q2',tb,rfl,htb,hx,hRx,h⟩
 ·exact⟨_,rfl,q0 h H1 s1⟩
 ·exact⟨_,rfl,q1 x n1 n1' q1' q2' hx hRx h tb H1 htb s1⟩
theorem yR {f:Addr} {fd:FuncData} (F:Fun K "_law_joined" "_law_joined" fQ f fd) (T:Txt K mg t_W aH aG aC aB aF aJ af ak aj) :bq P w K mg base (CXx P w) 1 f fd ["_law_first","_law_second"] (ny):=by
 refine F.okX iu (λ vs H Q E h=>?_) (λ cdv A outer s H vs Q E hr h=>?_)
 ·obtain⟨v,v',q0,q1,wd,rfl,h0,h1,hwd,hw,hl0,hl1,q⟩:=h;rfl
 obtain⟨v,v',q0,q1,wd,rfl,h0,h1,hwd,hw,hl0,hl1,q⟩:=h
 refine⟨_,(av (aN (i:=2) iu.nd rfl (Or.inr rfl) (eV (Ff rfl) (by rfl) T.sR PyProof.Rows.boot_dict (aa (bz cj (pv 0) az (λ _ _=>rfl)) ay)))
   (av (dW PassesOwn.leaving rfl (cI (bz cj (pv 1) az (λ _ _=>rfl))) (jf rfl (bL (aT (i:=3) iu.nd rfl (Or.inl rfl)) (bL (aT (i:=4) iu.nd rfl (Or.inl rfl)) ir)))
   (aD (oK (dO hr) (pv 2) (pv 3) (pv 4) rfl)))
   (aD (aQ (dS (aa (bz cj (pv 0) az (λ _ _=>rfl)) (aa (bz cj (pv 1) az (λ _ _=>rfl)) (aa (iw (N:=["_law_place","_law_blocks"]) (k:=1) (cap:=[2]) rfl rfl (cI (aY (gq rfl) (by rfl) T.jF PyProof.Rows.boot_sorted (aa (pv 2) ay))) (λ _ _ _ _=>(aT (i:=0) (show(["_law_place","_law_blocks"]:List Str).Nodup from by decide +kernel) rfl (Or.inl rfl) (.inr rfl))) (λ _ _ _ _=>jz) (λ _ _ _ _=>(dS (aa (pv 0) (aa (dZ (dO hr) (pv 1) (pv 0) (λ _ _=>rfl)) ay))))) (aa eO ay))))))))),?_⟩
 obtain⟨t0,l0,L0,rfl,ht0,hl0',R0⟩:=h0
 obtain⟨t1,l1,L1,rfl,ht1,hl1',R1⟩:=h1
 refine⟨_,rfl,t0,_,_,V.ref l0,rfl,rfl,SqT.of ht0,rfl,l0,L0,kvR q0.rows,rfl,hl0',(by unfold kvR;rw [List.length_map];exact R0.len),pK R0,λ dd hdd=>?_⟩
 rw [show fX [] (kvR q0.rows)=kvR (aV [] q0.rows) from jR q0.rows []]
 have s1:ao H (upd H dd (.dK (kvR (aV [] q0.rows)))):=ao.new hdd
 have hd1:upd H dd (.dK (kvR (aV [] q0.rows))) dd=some (.dK (kvR (aV [] q0.rows))):=ah
 generalize upd H dd (.dK (kvR (aV [] q0.rows)))=H1 at s1 hd1 ⊢
 refine bA [some (.ref t0),some (.ref t1),some (.ref dd),none,none] ?_
 dsimp only
 have m1:=jl q0.rows []
 simp only [List.length_nil,Nat.zero_add] at m1
 refine bU (λ σ H'=>∃(v3 v4:Option V),σ = [some (.ref t0),some (.ref t1),some (.ref dd),v3,v4] /\ ao H H' /\ H' dd=some (.dK (kvR (aV (aV [] q0.rows) q1.rows)))) (λ N hN=>?_) ?_
 ·refine⟨_,rfl,t1,_,_,V.ref l1,rfl,rfl,SqT.of (s1 _ _ ht1),rfl,l1,rfl,⟨_,SqL.of (s1 _ _ hl1')⟩,gf (K:=K) (a:=l1) (xs:=L1) (λ i σ H'=>∃(v3 v4:Option V),σ = [some (.ref t0),some (.ref t1),some (.ref dd),v3,v4] /\ ao H H' /\ H' dd=some (.dK (kvR (aV (aV [] q0.rows) (q1.rows.take i))))) ⟨none,none,rfl,s1,hd1⟩ (λ i σ H' _ z0=>by obtain⟨_,_,_,s,_⟩:=z0;exact SqL.of (s _ _ hl1')) ?_ ?_⟩
  ·rintro i v σ H2 hi ⟨v3,v4,rfl,s2,hd2⟩
   obtain⟨t,r,rfl,hr,ht⟩:=R1.get i v hi
   refine⟨t,_,rfl,SqT.of (s2 _ _ ht),rfl,_,_,rfl,_,_,rfl,rfl,?_⟩
   have m2:=jl (q1.rows.take i) (aV [] q0.rows)
   have m3:=List.length_take (i:=i) (l:=q1.rows)
   refine⟨_,rfl,_,rfl,_,rfl,dd,_,rfl,qW.k (k:=Sum.inl (r.1:Int)) hd2 (bh (by unfold kvR;rw [List.length_map];omega)),?_⟩
   refine⟨_,_,rfl,λ b o e=>?_,?_⟩
   ·rw [aq (au e hdd)];exact s2 _ _ e
   ·rw [ah,zT,List.take_add_one,hr]
    unfold aV
    rw [List.foldl_append];rfl
  ·rintro σ H2 ⟨v3,v4,rfl,s2,hd2⟩
   rw [R1.len,List.take_length] at hd2
   exact hN _ _ ⟨v3,v4,rfl,s2,hd2⟩
 rintro σ H2 ⟨v3,v4,rfl,s2,hd2⟩
 have hnd:=ck q1.rows (ck q0.rows (rs:=[]) (by simp))
 have hfew:=EJ hwd
 have hget:=KQ q0.rows q1.rows
 generalize aV (aV [] q0.rows) q1.rows=rs at hd2 hnd hfew hget
 refine⟨_,rfl,t0,_,_,V.int q0.st,rfl,rfl,SqT.of (s2 _ _ ht0),rfl,_,rfl,t1,_,_,V.int (q1.d:Int),rfl,rfl,SqT.of (s2 _ _ ht1),rfl,?_⟩
 refine⟨_,rfl,dd,kvR rs,rs.map (λ r=>(r.1:Int)),rfl,hd2,Bv rs,(by rw [List.length_map];omega),λ l ks hl hperm hsort=>?_⟩
 have s5:ao H2 (upd H2 l (.lst (ks.map V.int))):=ao.new hl
 have hl5:upd H2 l (.lst (ks.map V.int)) l=some (.lst (ks.map V.int)):=ah
 generalize upd H2 l (.lst (ks.map V.int))=H5 at s5 hl5 ⊢
 have hd5:=s5 dd _ hd2
 have hkl:ks.length=rs.length:=by rw [hperm.length_eq,List.length_map]
 refine⟨l,rfl,⟨_,SqL.of hl5⟩,λ D hD=>?_⟩
 refine jT D (K:=K) (a:=l) (xs:=ks.map V.int) (λ j σ H6 ys=>∃(v:Option V),σ = [v,some (.ref dd)] /\ ao H5 H6 /\ H6 D=some (.lst ys) /\ bG H6 ys ((cO rs ks).take j)) ⟨none,rfl,ao.new hD,ah,⟨rfl,λ i v e=>by simp at e⟩⟩ (λ j σ H6 ys _ z0=>by obtain⟨_,_,s6,_⟩:=z0;exact SqL.of (s6 l _ hl5)) ?_ ?_
 ·rintro j y σ H6 ys hj ⟨v,rfl,s6,hy,Rj⟩
  obtain⟨n,hnj,rfl⟩:=int_at hj
  have hjl:j < ks.length:=(List.getElem?_eq_some_iff.mp hnj).1
  obtain⟨k,bl,rfl,_,hg⟩:=AJ hnd hperm (List.mem_of_getElem? hnj)
  have hval:aZ (kvR rs) (Sum.inl (k:Int))=some (V.int (bl:Int)):=by rw [qV,hg];rfl
  have hrow:(cO rs ks)[j]? = some (k,bl):=by unfold cO;rw [List.getElem?_map,hnj];show some (((k:Int)).toNat,(dm rs ((k:Int)).toNat).getD 0)=_;rw [Int.toNat_natCast,hg];rfl
  refine⟨_,rfl,_,rfl,_,rfl,dd,V.int (bl:Int),rfl,hval ▸ gb.k (k:=Sum.inl (k:Int)) (s6 dd _ hd5),(by show 2 ≤ sizeLine;decide),λ t2 ht2=>?_⟩
  have nD:D ≠ t2:=au hy ht2
  refine⟨by rw [aq nD];exact hy,(by rw [Rj.len,List.length_take];exact bh (by omega)),_,rfl,λ b o e=>?_,ah,?_⟩
  ·rw [aq (au e hD)];exact ao.new ht2 b _ (s6 b _ e)
  ·rw [List.take_add_one,hrow]
   refine(Rj.mono λ b xs e=>?_).snoc ?_
   ·rw [aq (bB e hy (by intro z;cases z))];exact ao.new ht2 b _ e
   ·rw [aq nD.symm,ah]
 rintro σ H6 ys ⟨v',rfl,s6,hy,Rj⟩
 have hrl:(cO rs ks).length=ks.length:=by unfold cO;rw [List.length_map]
 rw [List.length_map,List.take_of_length_le (by omega)] at Rj
 have hiM:isM (q0.rows ++ q1.rows) (cO rs ks):=by
  refine IF hnd hget (vH hnd hperm) ?_
  have e:(cO rs ks).map (·.1)=ks.map Int.toNat:=by unfold cO;rw [List.map_map];rfl
  rw [e,List.pairwise_map]
  exact hsort.imp (λ h=>by omega)
 refine⟨(by show 4 ≤ sizeLine;decide),λ t ht=>?_⟩
 have s7:ao H6 (upd H6 t (.tup [.int q0.st,.int (q1.d:Int),.ref D,.bl true])):=ao.new ht
 exact q _ (cO rs ks) _ hiM ⟨t,D,ys,rfl,ah,s7 _ _ hy,Rj.mono λ b xs e=>s7 _ _ e⟩ ((s2.trans s5).trans (s6.trans s7))
theorem zO {f:Addr} {fd:FuncData} (F:Fun K "_law_walked" "_law_walked" fO f fd) (T:Txt K mg t_W aH aG aC aB aF aJ af ak aj) (je:DefX P w K mg base "_law_ready" 1 ["_law_lying_here","_law_wanted_here"] qH) (fB:DefX P w K mg base "_law_whole" 1 ["_law_found"] qu) (kh:DefX P w K mg base "_law_joined" 1 ["_law_first","_law_second"] ny):bq P w K mg base (CXx P w) 2 f fd ["_law_lying_here","_law_folds","_law_wanted_here","_law_onward"] (nW):=by
 refine F.okX ic (λ vs H Q E h=>?_) (λ cdv A outer s H vs Q E hr h=>?_)
 ·obtain⟨ld,l,w,lkv,M,M',fl,fl',wt,RL,L,FL,wd,rfl,hld,hL,h60,W,hl,hF,hw,hRL,hW,hRl,q⟩:=h;rfl
 obtain⟨ld,l,w,lkv,M,M',fl,fl',wt,RL,L,FL,wd,rfl,hld,hL,h60,W,hl,hF,hw,hRL,hW,hRl,q⟩:=h
 refine⟨_,(av (dW PassesOwn.leaving rfl (cI (pv 1)) (aT (i:=4) ic.nd rfl (Or.inl rfl))
   (av (aN (i:=5) ic.nd rfl (Or.inl rfl) (aW je aE (hr.mono (by decide)) rfl (aa (pv 0) (aa (pv 2) ay))))
   (av (bN (PW.pt (pw_or (aR yu (pv 5) tM (aU _)) (pw_or (fq (cQ (aY eT (by rfl) T.cX PyProof.Rows.boot_isinstance (aa (pv 4) (aa (jt (v:=.ty "tuple") rfl T.oQ PyProof.Rows.boot_tuple rfl) ay))))) (pw_or (aR jm (aY bK (by rfl) T.fC PySem.boot_len (aa (pv 4) ay)) az (aU _)) (pw_or1 (aR (m5 hr.units) (pv 4) (aI LR (pv 5) (dS (aa (pv 3) ay))) (aU _))))))) (aD (aQ eO)) bu)
   (av (bN (aR jm (aY bK (by rfl) T.fC PySem.boot_len (aa (iw (N:=["_law_number"]) (k:=1) (cap:=[]) rfl rfl (Dc (pv 4)) (λ _ _ _ _=>(aT (i:=0) (show(["_law_number"]:List Str).Nodup from by decide +kernel) rfl (Or.inl rfl) (.inr rfl))) (λ _ _ _ _=>(iT (cQ (aW fB aE (hr.mono (by decide)) rfl (aa (pv 0) ay))))) (λ _ _ _ _=>(pv 0))) ay)) az (aU _)) (aD (aQ eO)) bu)
   (av (oK (dO hr) (pv 0) (pv 3) (aW kh aE (hr.mono (by decide)) rfl (aa (dZ (dO hr) (pv 0) (bz cj (pv 5) az (λ _ _=>rfl)) (λ _ _=>rfl)) (aa (dZ (dO hr) (pv 0) (bz cj (pv 5) az (λ _ _=>rfl)) (λ _ _=>rfl)) ay))) rfl)
   (av (bV (pD (pv 0) (bz cj (pv 5) az (λ _ _=>rfl)) ⟨rfl,rfl,rfl,rfl⟩))
   (av (bV (pD (pv 0) (bz cj (pv 5) az (λ _ _=>rfl)) ⟨rfl,rfl,rfl,rfl⟩))
   (aD (aN (i:=3) ic.nd rfl (Or.inl rfl) (aI cg (pv 3) az))))))))))
   (aD (aQ (iZ yu (aW je aE (hr.mono (by decide)) rfl (aa (pv 0) (aa (pv 2) ay))) tM (aU _))))),?_⟩
 have hlen:=hF.len
 have hWl:=hW.len.2
 refine bU (λ σ H'=>∃(v4 v5:Option V) (lkvc:List (Key × V)) (flc:Int),σ = [some (.ref ld),some (.ref l),some (.ref w),some (.int flc),v4,v5] /\ H' ld=some (.dK lkvc) /\ aX (dH H') lkvc M' /\ lkvc.length < 60 /\(∀ x,¬ Rd M' wt x) /\ bE [ld] H H') (λ N hN=>?_) ?_
 ·refine⟨_,rfl,l,rfl,⟨_,SqL.of hl⟩,gf (K:=K) (a:=l) (xs:=L) (λ i σ H'=>∃(v4 v5:Option V) (lkvc:List (Key × V)) (Mc:M54) (flc:Int),σ = [some (.ref ld),some (.ref l),some (.ref w),some (.int flc),v4,v5] /\ H' ld=some (.dK lkvc) /\ aX (dH H') lkvc Mc /\ lkvc.length < 60 /\ Wf wd Mc flc /\ RdL Mc wt (RL.drop i) /\ cK wt Mc flc (RL.drop i) M' fl' (FL.drop i) /\ bE [ld] H H') ⟨none,none,lkv,M,fl,rfl,hld,hL,h60,W,hRL,hW,bE.refl⟩ (λ i σ H' _ z0=>by obtain⟨_,_,_,_,_,_,_,_,_,_,_,_,k⟩:=z0;exact SqL.of (k _ _ hl (by simp;exact bB hl hld (by intro z;cases z)))) ?_ ?_⟩
  ·rintro i v σ H1 hi ⟨v4,v5,lkvc,Mc,flc,rfl,hld1,hL1,h601,W1,hRd,hWk,k1⟩
   have hil:=(List.getElem?_eq_some_iff.mp hi).1
   have hiR:i < RL.length:=by omega
   have hiF:i < FL.length:=by omega
   obtain⟨t,rfl,ht⟩:=hF.get i v FL[i] hi (List.getElem?_eq_getElem hiF)
   rw [List.drop_eq_getElem_cons hiR] at hRd hWk
   rw [List.drop_eq_getElem_cons hiF] at hWk
   generalize RL[i]=x at hRd hWk
   generalize FL[i]=f at ht hWk
   have hRx:=(hRd.iff x).mp (by simp)
   have hmin:∀ y,Rd Mc wt y->x ≤ y:=λ y hy=>by
    rcases List.mem_cons.mp ((hRd.iff y).mpr hy) with e | e
    ·omega
    ·have:=(List.pairwise_cons.mp hRd.rise).1 y e;omega
   generalize eRL:RL.drop (i + 1)=RL' at hRd hWk
   generalize eFL:FL.drop (i + 1)=FL' at hWk
   obtain⟨n,n',q0,q1,rows,rfl,R,hm,hrest⟩:=hWk.inv
   have np1:=bZ.one hld1
   have tk:∀ {b:Addr} {xs:List V},H b=some (.tup xs)->H1 b=some (.tup xs):=λ e=>k1 _ _ e (by simp;exact bB e hld (by intro z;cases z))
   have ht1:=tk ht
   refine bA [some (.ref ld),some (.ref l),some (.ref w),some (.int flc),some (.ref t),v5] ?_
   dsimp only
   refine bU (λ σ H'=>∃ tp:Addr,σ = [some (.ref ld),some (.ref l),some (.ref w),some (.int flc),some (.ref t),some (.ref tp)] /\ H' tp=some (.tup ([n,n'].map V.int)) /\ ao H1 H') (λ N hN=>?_) ?_
   ·refine⟨_,rfl,_,rfl,ld,w,lkvc,Mc,wt,rfl,hld1,hL1,by omega,k1 _ _ hw (by simp;exact bB hw hld (by intro z;cases z)),λ hno=>absurd hRx (hno x),λ x2 n2 n2' q2 q2' hx2 R2 hmin2 tp H3 htp s3=>?_,.inr ⟨x,hRx,hmin⟩⟩
    have e1:=hmin2 x hRx
    have e2:=hmin x2 ⟨hx2,_,_,_,_,R2⟩
    have e:x2=x:=by omega
    subst e
    obtain⟨a1,a2,a3,a4⟩:=R2.uniq R
    subst a1 a2 a3 a4
    exact hN _ _ ⟨tp,rfl,htp,s3⟩
   rintro σ H2 ⟨tp,rfl,htp,s2⟩
   have ht2:=s2 _ _ ht1
   refine jg (λ H'=>ao H2 H') (λ Qb hq=>?_) (λ H3 s3=>?_)
   ·refine⟨_,rfl,rfl,_,rfl,dF (λ h=>absurd (of_decide_eq_true h) (by intro z;cases z)) (λ _=>?_)⟩
    refine⟨_,rfl,_,_,_,_,true,rfl,rfl,.tup ht2,rfl,_,rfl,dI ?_⟩
    refine⟨_,rfl,t,_,rfl,.inr (SqT.of ht2),rfl,_,rfl,kJ rfl ?_⟩
    refine⟨_,rfl,_,rfl,_,rfl,(by show 1 ≤ sizeLine;decide),λ z hz=>?_⟩
    have s3:ao H2 (upd H2 z (.tup [V.int flc])):=ao.new hz
    refine⟨tp,z,_,_,rfl,rfl,SqT.of (s3 _ _ htp),SqT.of ah,by simp,(by show 3 ≤ sizeLine;decide),λ h=>absurd h (by simp),λ _ c hc=>?_⟩
    have s4:ao (upd H2 z (.tup [V.int flc])) (upd (upd H2 z (.tup [V.int flc])) c (.tup ([n,n'].map V.int ++ [V.int flc]))):=ao.new hc
    refine⟨0,true,by omega,eK.Ls (xs:=[n,n',flc].map V.int) (SqT.of (s4 _ _ (s3 _ _ ht2))) (SqT.of ah) (λ y hy=>eqZ _ hy),_,rfl,hq _ (s3.trans s4)⟩
   try unfold iL
   try dsimp only
   have ht3:=s3 _ _ ht2
   have htp3:=s3 _ _ htp
   refine jg (λ H'=>ao H3 H') (λ Qb hq=>?_) (λ H4 s4=>?_)
   ·refine⟨_,rfl,t,rfl,⟨_,SqT.of ht3⟩,λ D hD=>JJ D (K:=K) (a:=t) (xs:=[n,n',flc].map V.int) (λ i σ H5 ys=>∃ v:Option V,σ = [v] /\ ao H3 H5 /\ H5 D=some (.lst ys) /\ ys =([n,n',flc].map V.int).take i) ⟨none,rfl,ao.new hD,ah,rfl⟩ (λ i σ H5 ys _ z0=>by obtain⟨_,_,s5,_⟩:=z0;exact SqT.of (s5 _ _ ht3)) ?_ ?_⟩
    ·rintro i y σ H5 ys hi ⟨v,rfl,s5,hy,rfl⟩
     have hi':=hi
     rw [List.getElem?_map] at hi
     obtain⟨z,hz,rfl⟩:=Option.map_eq_some_iff.mp hi
     refine⟨_,rfl,z,rfl,_,rfl,jb ⟨_,rfl,hy,bh (by rw [List.length_take];simp;omega),_,rfl,λ b o e=>?_,ah,by rw [List.take_add_one,hi'];rfl⟩⟩
     rw [aq (au e hD)];exact s5 b o e
    ·rintro σ H5 ys ⟨v,rfl,s5,hy,rfl⟩
     rw [List.take_length] at hy
     refine⟨D,_,rfl,.inl (SqL.of hy),rfl,_,rfl,?_⟩
     exact hq _ s5
   try unfold iL
   try dsimp only
   have s14:=s2.trans (s3.trans s4)
   have hld4:=s14 _ _ hld1
   have htp4:=s4 _ _ htp3
   have hL4:=hL1.mono λ v u z=>z.keep s14
   obtain⟨v1,hv1,hp1⟩:=hL4.dz n q0 R.h1
   obtain⟨v2,hv2,hp2⟩:=hL4.dz n' q1 R.h2
   have rw1:=W1.rw _ _ R.h1
   have rw2:=W1.rw _ _ R.h2
   have nf1:=W1.nf _ _ R.h1
   have nf2:=W1.nf _ _ R.h2
   have nn:=R.ne W1
   have hw40:=W1.w
   refine⟨_,rfl,_,rfl,tp,_,_,V.int n,rfl,rfl,SqT.of htp4,rfl,ld,v1,rfl,hv1 ▸ gb.k (k:=Sum.inl n) hld4,_,rfl,_,rfl,tp,_,_,V.int n',rfl,rfl,SqT.of htp4,rfl,ld,v2,rfl,hv2 ▸ gb.k (k:=Sum.inl n') hld4,v1,v2,q0,q1,wd,rfl,hp1,hp2,λ r hr=>?_,hw40,rw1.2,rw2.2,λ u rows' H6 hm' hLi s6=>?_⟩
   ·rcases List.mem_append.mp hr with h | h
    ·exact rw1.1 r h
    ·exact rw2.1 r h
   have er:=hm'.eq hm
   subst er
   have hld6:=s6 _ _ hld4
   have htp6:=s6 _ _ htp4
   refine⟨_,rfl,_,rfl,ld,_,rfl,qW.k (k:=Sum.inl flc) hld6 (bh (by omega)),?_⟩
   have kl:∀ {Ha:Hp} {kv:List (Key × V)},bE [ld] Ha (upd Ha ld (.dK kv)):=λ b o e hb=>by rw [aq (by simpa using hb)];exact e
   have tpl:tp ≠ ld:=bB htp6 hld6 (by intro z;cases z)
   have hL7:aX (dH (upd H6 ld (.dK (putK lkvc (Sum.inl flc) u)))) (putK lkvc (Sum.inl flc) u) (gX Mc flc (some ⟨q0.st,q1.d,rows',true⟩)):=aX.put (hL4.mono λ v u z=>(z.keep s6).cC kl (bZ.one hld6)) (hLi.cC kl (bZ.one hld6))
   have hld7:upd H6 ld (.dK (putK lkvc (Sum.inl flc) u)) ld=some (.dK (putK lkvc (Sum.inl flc) u)):=ah
   have htp7:upd H6 ld (.dK (putK lkvc (Sum.inl flc) u)) tp=some (.tup ([n,n'].map V.int)):=by rw [aq tpl];exact htp6
   have k7:bE [ld] H (upd H6 ld (.dK (putK lkvc (Sum.inl flc) u))):=λ b o e hb=>kl b o (s6 _ _ (s14 _ _ (k1 b o e hb))) hb
   have hlen7:=cV lkvc (Sum.inl flc) u
   generalize upd H6 ld (.dK (putK lkvc (Sum.inl flc) u))=H7 at hL7 hld7 htp7 k7 ⊢
   generalize putK lkvc (Sum.inl flc) u=lk7 at hL7 hld7 hlen7 ⊢
   obtain⟨w1,hw1,_⟩:=hL7.dz n q0 (by rw [eY (by omega)];exact R.h1)
   refine⟨_,rfl,ld,rfl,.inl ⟨_,.inl hld7⟩,_,rfl,tp,_,_,V.int n,rfl,rfl,SqT.of htp7,rfl,lk7,Sum.inl n,w1,hld7,rfl,hw1,?_⟩
   have hL8:aX (dH (upd H7 ld (.dK (bR lk7 (Sum.inl n))))) (bR lk7 (Sum.inl n)) (gX (gX Mc flc (some ⟨q0.st,q1.d,rows',true⟩)) n none):=aX.drop (hL7.mono λ v u z=>z.cC kl (bZ.one hld7)) n
   have hld8:upd H7 ld (.dK (bR lk7 (Sum.inl n))) ld=some (.dK (bR lk7 (Sum.inl n))):=ah
   have htp8:upd H7 ld (.dK (bR lk7 (Sum.inl n))) tp=some (.tup ([n,n'].map V.int)):=by rw [aq tpl];exact htp7
   have k8:bE [ld] H (upd H7 ld (.dK (bR lk7 (Sum.inl n)))):=λ b o e hb=>kl b o (k7 b o e hb) hb
   have hlen8:=iR hw1
   generalize upd H7 ld (.dK (bR lk7 (Sum.inl n)))=H8 at hL8 hld8 htp8 k8 ⊢
   generalize bR lk7 (Sum.inl n)=lk8 at hL8 hld8 hlen8 ⊢
   obtain⟨w2,hw2,_⟩:=hL8.dz n' q1 (by rw [eY (Ne.symm nn),eY (by omega)];exact R.h2)
   refine⟨_,rfl,ld,rfl,.inl ⟨_,.inl hld8⟩,_,rfl,tp,_,_,V.int n',rfl,rfl,SqT.of htp8,rfl,lk8,Sum.inl n',w2,hld8,rfl,hw2,?_⟩
   have hL9:aX (dH (upd H8 ld (.dK (bR lk8 (Sum.inl n'))))) (bR lk8 (Sum.inl n')) (fj Mc n n' flc ⟨q0.st,q1.d,rows',true⟩):=aX.drop (hL8.mono λ v u z=>z.cC kl (bZ.one hld8)) n'
   have hlen9:=iR hw2
   refine⟨_,rfl,_,_,rfl,rfl,?_⟩
   exact⟨_,_,_,_,_,rfl,ah,hL9,by omega,W1.fold R hm,hRd.tail W1 R,hrest,λ b o e hb=>kl b o (k8 b o e hb) hb⟩
  ·rintro σ H1 ⟨v4,v5,lkvc,Mc,flc,rfl,hld1,hL1,h601,W1,hRd,hWk,k1⟩
   rw [List.drop_eq_nil_of_le (by omega)] at hRd hWk
   rw [List.drop_eq_nil_of_le (by omega)] at hWk
   obtain⟨eM,_⟩:=hWk.PJ
   subst eM
   refine hN _ _ ⟨v4,v5,lkvc,flc,rfl,hld1,hL1,h601,λ x hx=>?_,k1⟩
   have:=(hRd.iff x).mpr hx
   cases this
 rintro σ H1 ⟨v4,v5,lkvc,flc,rfl,hld1,hL1,h601,hno,k1⟩
 refine⟨_,rfl,_,rfl,ld,w,lkvc,M',wt,rfl,hld1,hL1,by omega,k1 _ _ hw (by simp;exact bB hw hld (by intro z;cases z)),λ _ H2 s2=>⟨rfl,?_⟩,λ x n n' q q' hx R=>absurd ⟨hx,n,n',q,q',R⟩ (hno x),.inl hno⟩
 rw [decide_eq_true rfl]
 exact q lkvc H2 (s2 _ _ hld1) (hL1.mono λ v u z=>z.keep s2) h601 λ b o e hb=>s2 _ _ (k1 b o e hb)
theorem BW {f:Addr} {fd:FuncData} (F:Fun K "_law_lies" "_law_lies" gV f fd) (T:Txt K mg t_W aH aG aC aB aF aJ af ak aj) (dh:bf P w K mg base aj "following" 1 ["self"] (jq aj)) (bx:bf P w K mg base aj "numbers" 1 ["self"] (gF aj)) (bC:bf P w K mg base aj "piece" 3 ["self","number"] (iQ aj aC)) (iO:DefX P w K mg base "_law_same_rows" 2 ["_law_found","_law_rows"] xO) (bY:bf P w K mg base ak "start" 1 ["self"] (fV af ak)) (bP:bf P w K mg base af "start" 1 ["self"] gE) (cG:bf P w K mg base ak "is_good" 3 ["self"] (dM af ak)) (cA:bf P w K mg base af "is_good" 3 ["self"] (dM af ak)):bq P w K mg base (CXx P w) 4 f fd ["_law_shelf_here","_law_lying_here","_law_onward"] (mR aj af ak):=by
 refine F.okX dR (λ vs H Q E h=>?_) (λ cdv A outer s H vs Q E hr h=>?_)
 ·obtain⟨p,d,ld,fl,kvs,lkv,M,rfl,hS,hR,h60,hld,hL,h60',ndl,hq,q⟩:=h;rfl
 obtain⟨p,d,ld,fl,kvs,lkv,M,rfl,hS,hR,h60,hld,hL,h60',ndl,hq,q⟩:=h
 refine⟨_,(av (bN (PW.pt (pw_or (aR (m5 hr.units) (br (pv 0) T.aP bx aE (hr.mono (by decide))) (aY (gq rfl) (by rfl) T.jF PyProof.Rows.boot_sorted (aa (pv 1) ay)) (aU _)) (pw_or1 (aR jm (br (pv 0) T.aP dh aE (hr.mono (by decide))) (pv 2) (aU _))))) (aD (aQ eO)) bu)
   (av (zF (dW PassesOwn.leaving rfl (zV (pv 1)) (aT (i:=3) dR.nd rfl (Or.inl rfl))
   (av (yl (dZ (dO hr) (pv 1) (pv 3) (λ _ _=>rfl)) (jf rfl (bL (aT (i:=4) dR.nd rfl (Or.inl rfl)) (bL (aT (i:=5) dR.nd rfl (Or.inl rfl)) (bL (aT (i:=6) dR.nd rfl (Or.inl rfl)) (bL (aT (i:=7) dR.nd rfl (Or.inl rfl)) ir))))))
   (av (aN (i:=8) dR.nd rfl (Or.inl rfl) (bM (pv 0) T.aP bC aE (hr.mono (by decide)) (aa (pv 3) ay)))
   (av (bN (PW.pt (pw_or (aR jm (aY eT (by rfl) T.cX PyProof.Rows.boot_isinstance (aa (pv 8) (aa (oO (v:=.ref af) rfl T.JH rfl) ay))) (iZ dw (pv 4) (iH gK az) (aU _)) (aU _)) (pw_or1 (aR dw (aY eT (by rfl) T.cX PyProof.Rows.boot_isinstance (aa (pv 8) (aa (oO (v:=.ref ak) rfl T.Ma rfl) ay))) (iZ dw (pv 4) (iH gK az) (aU _)) (aU _))))) (aD (aQ eO)) bu)
   (av (bN (fq (cQ (pv 7))) (aD (aN (i:=6) dR.nd rfl (Or.inl rfl) (aI Bq (xH z8 (pv 6) DP (uY (iH gK az))) (eF (aa (dS (aa (bz cj (bz cB (pv 6) (iH gK az) (λ _ _=>rfl)) az (λ _ _=>rfl)) (aa (aI BJ (bz cj (bz cB (pv 6) (iH gK az) (λ _ _=>rfl)) az (λ _ _=>rfl)) az) ay))) ay))))) bu)
   (av (bN (PW.pt (pw_or (aR jm (g7 (br (pv 8) T.bT bP aE (hr.mono (by decide))) (br (pv 8) T.bI bY aE (hr.mono (by decide)))) (pv 4) (aU _)) (pw_or (aR jm (bH (pv 8) rfl) (pv 5) (aU _)) (pw_or1 (fq (cQ (aW iO aE (hr.mono (by decide)) rfl (aa (bH (pv 8) rfl) (aa (pv 6) ay))))))))) (aD (aQ eO)) bu)
   (aD (bN (aR jm (g7 (br (pv 8) T.bT cA aE (hr.mono (by decide))) (br (pv 8) T.bI cG aE (hr.mono (by decide)))) (pv 7) (aU _)) (aD (aQ eO)) bu)))))))))
   (aD (aQ eO)))),?_⟩
 have hcl:∀ w,Cls K (cond w af ak):=λ w=>by cases w;exact T.bI;exact T.bT
 have nday:∀ w,bw K (cond w af ak) "day":=λ w=>by cases w;exact T.cZ;exact T.cU
 have nrows:∀ w,bw K (cond w af ak) "rows":=λ w=>by cases w;exact T.cT;exact T.cY
 have hic:∀ w,PySem.W.findIn K (.ref (cond w af ak)) "__class__" = some (some (.builtin "object.__class__")):=λ w=>by cases w;exact T.oR;exact T.lQ
 have hio:∀ w,PySem.W.mroIn K (cond w af ak) (.type "object")=some true:=λ w=>by cases w;exact T.oW;exact T.mH
 have kW:∀ w,PySem.W.kitOne K (.ref (cond w af ak)) (.ref af)=some w:=λ w=>by cases w;exact T.g6;exact T.gM
 have kG:∀ w,PySem.W.kitOne K (.ref (cond w af ak)) (.ref ak)=some (!w):=λ w=>by cases w;exact T.iD;exact T.ia
 obtain⟨ks,hks⟩:=fP hR.gH
 obtain⟨ks2,hks2⟩:=fP hL.gH
 have hkl:ks.length < 64:=by have:=congrArg List.length hks;simp at this;omega
 have hkl2:ks2.length < 64:=by have:=congrArg List.length hks2;simp at this;omega
 refine jg (λ H'=>ao H H') (λ Qb hq'=>?_) (λ H1 s1=>?_)
 ·obtain⟨dx,g1,g2⟩:=id hS
  refine⟨_,rfl,p,dx,_,rfl,g1,cS (by decide +kernel) (by decide +kernel),p,d,fl,kvs,ks,rfl,hS,hks,hkl,λ l1 ms hl1 hp1 hs1=>?_⟩
  have s1:ao H (upd H l1 (.lst (ms.map V.int))):=ao.new hl1
  have e1:upd H l1 (.lst (ms.map V.int)) l1=some (.lst (ms.map V.int)):=ah
  generalize upd H l1 (.lst (ms.map V.int))=H1 at s1 e1 ⊢
  refine⟨_,rfl,ld,lkv,ks2,rfl,s1 _ _ hld,hks2,hkl2,λ l2 ms2 hl2 hp2 hs2=>?_⟩
  have em:=hR.sorted hL hks hks2 hp1 hp2 hs1 hs2
  subst em
  have s2:ao H1 (upd H1 l2 (.lst (ms.map V.int))):=ao.new hl2
  refine⟨0,true,by omega,eK.EI (SqL.of (s2 _ _ e1)) (SqL.of ah) (λ y hy=>eqZ _ hy),_,rfl,dI ?_⟩
  have hS2:=hS.keep (s1.trans s2)
  obtain⟨dx2,g12,g22⟩:=id hS2
  refine⟨_,rfl,p,dx2,_,rfl,g12,cS (by decide +kernel) (by decide +kernel),p,d,fl,kvs,rfl,hS2,_,rfl,rfl,_,rfl,?_⟩
  rw [show(!decide (V.int fl=V.int fl))=false by rw [decide_eq_true rfl];rfl]
  exact hq' _ (s1.trans s2)
 try unfold iL
 try dsimp only
 have hld1:=s1 _ _ hld
 have hS1:=hS.keep s1
 have hR1:=hR.mono λ v u z=>z.keep s1
 have hL1:=hL.mono λ v u z=>z.keep s1
 refine bU (λ σ H'=>ao H H') (λ N hN=>?_) ?_
 ·refine⟨_,rfl,ld,lkv,rfl,hld1,λ o nf=>wX (d:=ld) (o:=o) (kvs:=lkv) (λ i σ H'=>∃ v3 v4 v5 v6 v7 v8:Option V,σ = [some (.ref p),some (.ref ld),some (.int fl),v3,v4,v5,v6,v7,v8] /\ ao (upd H1 ld (.frz o (.dK lkv))) H') ⟨none,none,none,none,none,none,rfl,ao.refl _⟩ (λ i σ H' _ z0=>by obtain⟨_,_,_,_,_,_,_,s'⟩:=z0;exact s' _ _ ah) ?_ ?_⟩
  ·rintro i k v σ H2 hi ⟨v3,v4,v5,v6,v7,v8,rfl,s2⟩
   obtain⟨n,u,rfl,eM,hLi,hvl⟩:=hL1.at_ hi
   have kp:=Lq s2
   have np:=bZ.one hld1
   have hfz:=s2 _ _ ah
   obtain⟨t,l,L,rfl,ht,hl,R⟩:=hLi.cC kp np
   obtain⟨pv,hpv,hPc⟩:=hR1.dz n u eM
   have hPc2:=hPc.cC kp np
   obtain⟨dx,g1,g2⟩:=id hS1
   have hS2:bO aj H2 p d fl kvs:=⟨dx,kp _ _ g1 (by simp;exact bB g1 hld1 (by intro z;cases z)),kp _ _ g2 (by simp;exact ndl)⟩
   have hg:gb H2 ld (.int n) (some (V.ref t)):=.inl ⟨lkv,Sum.inl n,.inr ⟨o,hfz⟩,rfl,hvl.symm⟩
   refine bA [some (.ref p),some (.ref ld),some (.int fl),some (.int n),v4,v5,v6,v7,v8] ?_
   dsimp only
   refine bU (λ σ H'=>σ = [some (.ref p),some (.ref ld),some (.int fl),some (.int n),some (.int u.st),some (.int (u.d:Int)),some (.ref l),some (.bl u.good),v8] /\ H2=H') (λ N2 hN2=>?_) ?_
   ·exact⟨_,rfl,_,rfl,ld,V.ref t,rfl,hg,t,_,rfl,SqT.of ht,rfl,_,_,rfl,_,_,rfl,_,_,rfl,_,_,rfl,rfl,hN2 _ _ ⟨rfl,rfl⟩⟩
   rintro σ _ ⟨rfl,rfl⟩
   refine bU (λ σ H'=>σ = [some (.ref p),some (.ref ld),some (.int fl),some (.int n),some (.int u.st),some (.int (u.d:Int)),some (.ref l),some (.bl u.good),some pv] /\ H2=H') (λ N2 hN2=>yZ (i:=0) (j:=3) rfl rfl hS2 hpv (hN2 _ _ ⟨rfl,rfl⟩)) ?_
   rintro σ _ ⟨rfl,rfl⟩
   obtain⟨a,wh,b,c,rfl,hP,hst,hgd⟩:=id hPc2
   obtain⟨dxa,r,Rr,h1,f1,r1⟩:=id hP
   have est:decide (V.int u.st=V.int (-1))=wh:=by
    rw [← hst]
    cases wh
    ·exact decide_eq_false λ z=>by have:=V.int.inj z;simp [L2.stI] at this
    ·exact decide_eq_true rfl
   refine jg (λ H'=>H2=H') (λ Qb hq'=>?_) (λ H3 e3=>?_)
   ·refine⟨_,rfl,_,_,_,_,wh,rfl,rfl,.ins h1 (hcl wh) (hic wh) T.yz T.zj (hio wh),kW wh,_,rfl,_,rfl,rfl,rfl,_,rfl,?_⟩
    show if (!decide (V.bl wh=V.bl (decide (V.int u.st=V.int (-1)))))=true then _ else _
    rw [est,decide_eq_true (show V.bl wh=V.bl wh from rfl)]
    refine dI ?_
    refine⟨_,rfl,_,_,_,_,!wh,rfl,rfl,.ins h1 (hcl wh) (hic wh) T.yz T.zj (hio wh),kG wh,_,rfl,_,rfl,rfl,rfl,_,rfl,?_⟩
    show Qb (decide (V.bl (!wh)=V.bl (decide (V.int u.st=V.int (-1))))) H2
    rw [est,decide_eq_false (show ¬ V.bl (!wh)=V.bl wh from λ z=>by cases wh <;> cases z)]
    exact hq' _ rfl
   subst e3
   try unfold iL
   try dsimp only
   refine bU (λ σ H'=>∃(rl:Addr) (RL:List V),σ = [some (.ref p),some (.ref ld),some (.int fl),some (.int n),some (.int u.st),some (.int (u.d:Int)),some (.ref rl),some (.bl u.good),some (.ref a)] /\ ao H2 H' /\ H' rl=some (.lst RL) /\ bG H' RL (shown u)) (λ N hN=>?_) ?_
   ·refine⟨_,rfl,_,rfl,?_⟩
    cases hg':u.good
    ·refine jb ?_
     obtain⟨ri,rr,er⟩:=AF ((hq n u eM).2.2 hg')
     obtain⟨Li,tr,eL,htr,hRi⟩:=Bt (er ▸ R)
     subst eL
     have hsh:shown u=ri ++ [(rr.1,rr.2 ^^^ 5)]:=by
      unfold shown
      rw [if_neg (by rw [hg'];decide),er]
      exact Dl ri rr
     refine⟨_,rfl,_,rfl,_,rfl,l,_,rfl,SqL.of hl,λ c1 hc1=>?_⟩
     rw [Ck]
     have s3:ao H2 (upd H2 c1 (.lst Li)):=ao.new hc1
     have e3:upd H2 c1 (.lst Li) c1=some (.lst Li):=ah
     generalize upd H2 c1 (.lst Li)=H3 at s3 e3 ⊢
     refine⟨_,rfl,_,rfl,l,_,_,V.ref tr,rfl,rfl,SqL.of (s3 _ _ hl),BU _ _,tr,_,_,V.int (rr.1:Int),rfl,rfl,SqT.of (s3 _ _ htr),rfl,_,rfl,_,rfl,l,_,_,V.ref tr,rfl,rfl,SqL.of (s3 _ _ hl),BU _ _,tr,_,_,V.int (rr.2:Int),rfl,rfl,SqT.of (s3 _ _ htr),rfl,_,_,rfl,rfl,(by show 2 ≤ sizeLine;decide),λ t2 ht2=>⟨(by show 1 ≤ sizeLine;decide),λ z hz=>?_⟩⟩
     have s4:ao H3 (upd H3 t2 (.tup [V.int (rr.1:Int),V.int (Builtin.bitXor (rr.2:Int) 5)])):=ao.new ht2
     have e4:upd H3 t2 (.tup [V.int (rr.1:Int),V.int (Builtin.bitXor (rr.2:Int) 5)]) t2=some (.tup [V.int (rr.1:Int),V.int ((rr.2 ^^^ 5:Nat):Int)]):=by rw [ah,show Builtin.bitXor (rr.2:Int) 5 =((rr.2 ^^^ 5:Nat):Int) from uU rr.2 5]
     generalize upd H3 t2 (.tup [V.int (rr.1:Int),V.int (Builtin.bitXor (rr.2:Int) 5)])=H4 at s4 e4 hz ⊢
     have s5:ao H4 (upd H4 z (.lst [V.ref t2])):=ao.new hz
     have e5:upd H4 z (.lst [V.ref t2]) z=some (.lst [V.ref t2]):=ah
     generalize upd H4 z (.lst [V.ref t2])=H5 at s5 e5 ⊢
     have hlL:Li.length ≤ 40:=by have h1:=(hq n u eM).1;have h2:=hRi.len;rw [er] at h1;simp at h1;omega
     refine⟨c1,z,_,_,rfl,rfl,s5 _ _ (s4 _ _ e3),e5,by simp;exact Nat.le_of_lt (bh (by omega)),λ ff hff=>hN _ _ ⟨ff,_,by rw [hg'];rfl,(s3.trans s4).trans (s5.trans (ao.new hff)),ah,?_⟩⟩
     rw [hsh]
     have s6:ao H5 (upd H5 ff (.lst (Li ++ [V.ref t2]))):=ao.new hff
     exact(hRi.mono λ t xs e=>s6 _ _ (s5 _ _ (s4 _ _ (s3 _ _ e)))).snoc (s6 _ _ (s5 _ _ e4))
    ·refine dI (hN _ _ ⟨l,L,by rw [hg'],ao.refl _,hl,?_⟩)
     rw [show shown u=u.rows from if_pos hg'];exact R
   rintro σ H3 ⟨rl,RL,rfl,s3,hrl,hRR⟩
   have hP3:=hPc2.keep s3
   obtain⟨dxa3,r3,Rr3,h13,f13,r13⟩:=id (hP.keep s3)
   refine jg (λ H'=>ao H3 H') (λ Qb hq'=>?_) (λ H4 s4=>?_)
   ·refine Lo (λ Q k=>⟨_,rfl,k⟩) hP3 ⟨_,rfl,rfl,_,rfl,kJ rfl ?_⟩
    refine EA hcl nday (λ Q k=>⟨_,rfl,k⟩) hP3 ⟨_,rfl,rfl,_,rfl,kJ rfl ?_⟩
    exact⟨_,rfl,a,_,dxa3,_,_,rfl,h13,hcl wh,nrows wh,vM,_,rfl,r3,rl,Rr3,RL,shown u,rfl,f13,hrl,r13,hRR,λ H4 s4=>⟨_,rfl,hq' _ s4⟩⟩
   try unfold iL
   try dsimp only
   refine Bc (λ Qb hq'=>?_) ⟨_,_,_,_,_,_,rfl,s2.trans (s3.trans s4)⟩
   refine HW (λ Q k=>⟨_,rfl,k⟩) (hP3.keep s4) ⟨_,rfl,rfl,_,rfl,?_⟩
   rw [show(!decide (V.bl u.good=V.bl u.good))=false by rw [decide_eq_true rfl];rfl]
   exact hq'
  ·rintro σ H2 ⟨v3,v4,v5,v6,v7,v8,rfl,s2⟩
   refine⟨ld,o,lkv,s2 _ _ ah,nf,hN _ _ λ b ob e=>?_⟩
   by_cases hbl:b=ld
   ·subst hbl;rw [hld] at e;cases e;exact ah
   ·rw [aq hbl];exact s2 _ _ (by rw [aq hbl];exact s1 _ _ e)
 rintro σ H2 s2
 exact q H2 s2
theorem AS {f:Addr} {fd:FuncData} (F:Fun K "_law_apart" "_law_apart" gv f fd) (T:Txt K mg t_W aH aG aC aB aF aJ af ak aj) (eN:jS P w K mg base "Whole" af 4 ["self","day","rows","check"] [Value.none] (g9 af ak)) (cW:bf P w K mg base aj "put" 2 ["self","piece"] (oY aj)) (cE:bf P w K mg base aj "drop" 4 ["self","number"] (kR aj aC)) (bx:bf P w K mg base aj "numbers" 1 ["self"] (gF aj)) (fY:DefX P w K mg base "_law_lies" 4 ["_law_shelf_here","_law_lying_here","_law_onward"] (mR aj af ak)):bq P w K mg base (CXx P w) 6 f fd ["_law_shelf_here","_law_left","_law_kept","_law_onward","_law_wide"] (qQ aj af ak):=by
 refine F.okX kB (λ vs H Q E h=>?_) (λ cdv A outer s H vs Q E hr h=>?_)
 ·obtain⟨p,d,p2,d2,ld,fl,fl2,kvs,kvs2,lkv,M,M2,wd,rfl,hS,hR,h60,hS2,hR2,h602,hld,hL,h60',n1,n2,n3,n4,hw,hq,q⟩:=h;rfl
 obtain⟨p,d,p2,d2,ld,fl,fl2,kvs,kvs2,lkv,M,M2,wd,rfl,hS,hR,h60,hS2,hR2,h602,hld,hL,h60',n1,n2,n3,n4,hw,hq,q⟩:=h
 refine⟨_,(av (aN (i:=5) kB.nd rfl (Or.inl rfl) (jX (dvs:=[V.non]) eN (Paired.cons rfl Paired.nil) aE (hr.mono (by decide)) rfl (aa az (aa (iw (N:=["_law_k"]) (k:=1) (cap:=[]) rfl rfl (jV rfl T.oX (aa (pv 4) ay)) (λ _ _ _ _=>(aT (i:=0) (show(["_law_k"]:List Str).Nodup from by decide +kernel) rfl (Or.inl rfl) (.inr rfl))) (λ _ _ _ _=>jz) (λ _ _ _ _=>(dS (aa (pv 0) (aa az ay))))) ay))))
   (av (bV (bM (pv 1) T.aP cW aE (hr.mono (by decide)) (aa (pv 5) ay)))
   (av (bV (bM (pv 1) T.aP cE aE (hr.mono (by decide)) (aa (bz cB (br (pv 1) T.aP bx aE (hr.mono (by decide))) az (λ _ _=>rfl)) ay)))
   (av (bN (fq (cQ (aW fY aE (hr.mono (by decide)) rfl (aa (pv 0) (aa (pv 2) (aa (pv 3) ay)))))) (aD (aQ eO)) bu)
   (av (aN (i:=6) kB.nd rfl (Or.inl rfl) (br (pv 1) T.aP bx aE (hr.mono (by decide))))
   (av (bV (bM (pv 0) T.aP cW aE (hr.mono (by decide)) (aa (pv 5) ay)))
   (av (bV (bM (pv 0) T.aP cE aE (hr.mono (by decide)) (aa (bz cB (br (pv 0) T.aP bx aE (hr.mono (by decide))) az (λ _ _=>rfl)) ay)))
   (aD (aQ (iZ (AA hr.units) (br (pv 1) T.aP bx aE (hr.mono (by decide))) (pv 6) (aU _))))))))))),?_⟩
 obtain⟨dx,g1,g2⟩:=id hS
 obtain⟨dx2,g12,g22⟩:=id hS2
 have npd2:p ≠ d2:=bB g1 g22 (by intro z;cases z)
 have ndp2:d ≠ p2:=bB g2 g12 (by intro z;cases z)
 have nlp2:ld ≠ p2:=bB hld g12 (by intro z;cases z)
 refine bU (λ σ H'=>∃(x:Addr),σ = [some (.ref p),some (.ref p2),some (.ref ld),some (.int fl),some (.int (wd:Int)),some (.ref x),none] /\ ao H H') (λ N hN=>?_) ?_
 ·refine⟨_,rfl,(wd:Int),rfl,by omega,by omega,λ D hD=>kP (lo:=0) (n:=(wd:Int).toNat) D (λ i σ H5 ys=>∃(v:Option V) (rows:List (Nat × Nat)),σ = [v] /\ ao H H5 /\ H5 D=some (.lst ys) /\ bG H5 ys rows /\ rows.length=i) ⟨none,[],rfl,ao.new hD,ah,⟨rfl,λ i v e=>by simp at e⟩,rfl⟩ ?_ ?_⟩
  ·rintro i σ H5 ys hi ⟨v,rows,rfl,s5,hy,R,hl⟩
   refine⟨_,rfl,(by show 2 ≤ sizeLine;decide),λ t ht=>?_⟩
   have nD:D ≠ t:=au hy ht
   refine⟨by rw [aq nD];exact hy,(by rw [R.len];exact bh (by omega)),_,rows ++ [(i,1)],rfl,λ b o e=>?_,ah,?_,by simp [hl]⟩
   ·rw [aq (au e hD)];exact ao.new ht b _ (s5 b _ e)
   ·refine(R.mono λ b xs e=>?_).snoc ?_
    ·rw [aq (bB e hy (by intro z;cases z))];exact ao.new ht b _ e
    ·rw [aq nD.symm,ah]
     show some (HO.tup [V.int (0 +(i:Int)),V.int 1])=some (HO.tup [V.int (i:Int),V.int 1])
     rw [Int.zero_add]
  ·rintro σ H5 ys ⟨v,rows,rfl,s5,hy,R,hl⟩
   refine λ x dx hx hdx hne=>?_
   have sM:ao H5 (upd (upd H5 dx (.own x)) x (.ins af dx [])):=(ao.new hdx).trans (ao.new (by rw [aq hne.symm];exact hx))
   exact⟨x,dx,D,0,ys,rows,.non,_,rfl,ah,sM _ _ hy,R.mono (λ t xs e=>sM t _ e),by omega,.inl ⟨rfl,rfl⟩,λ H6 hP6 k6=>⟨rfl,hN _ _ ⟨x,rfl,s5.trans (eU hx hdx k6)⟩⟩⟩
 rintro σ H1 ⟨x,rfl,s1⟩
 refine DK (i:=1) (j:=5) rfl rfl (hS2.keep s1) (hR2.mono λ _ _ _=>trivial) (by omega) λ H2 kv2 M2' hS22 hR22 hl22 k2=>?_
 have np:=jv (hS2.keep s1)
 have hSp:bO aj H2 p d fl kvs:=⟨dx,k2 _ _ (s1 _ _ g1) (by simp [n1,npd2]),k2 _ _ (s1 _ _ g2) (by simp [ndp2,n2])⟩
 refine jg (λ H'=>ao H2 H') (λ Qb hq'=>?_) (λ H3 s3=>?_)
 ·exact⟨_,rfl,_,rfl,_,rfl,p,d,ld,fl,kvs,lkv,M,rfl,hSp,hR.mono (λ v u z=>(z.keep s1).cC k2 np),h60,k2 _ _ (s1 _ _ hld) (by simp [nlp2,n4.symm]),hL.mono (λ v u z=>(z.keep s1).cC k2 np),h60',n3,hq,λ H3 s3=>⟨_,rfl,hq' _ s3⟩⟩
 try unfold iL
 try dsimp only
 obtain⟨ks2,hks2⟩:=fP hR22.gH
 have hkl2:ks2.length < 64:=by have:=congrArg List.length hks2;simp at this;omega
 have hS23:=hS22.keep s3
 obtain⟨dx3,g13,g23⟩:=id hS23
 refine⟨_,rfl,p2,dx3,_,rfl,g13,cS (by decide +kernel) (by decide +kernel),p2,d2,_,kv2,ks2,rfl,hS23,hks2,hkl2,λ l ns hl hp hs=>?_⟩
 have s4:ao H3 (upd H3 l (.lst (ns.map V.int))):=ao.new hl
 have e4:upd H3 l (.lst (ns.map V.int)) l=some (.lst (ns.map V.int)):=ah
 generalize upd H3 l (.lst (ns.map V.int))=H4 at s4 e4 ⊢
 refine bA [some (.ref p),some (.ref p2),some (.ref ld),some (.int fl),some (.int (wd:Int)),some (.ref x),some (.ref l)] ?_
 dsimp only
 have hSp4:=hSp.keep (s3.trans s4)
 refine DK (i:=0) (j:=5) rfl rfl hSp4 (hR.mono λ _ _ _=>trivial) (by omega) λ H5 kv5 M5 hS5 hR5 hl5 k5=>?_
 obtain⟨dxp,gp1,gp2⟩:=id hSp4
 have hS24:=hS23.keep s4
 obtain⟨dx4,g14,g24⟩:=id hS24
 have hS25:bO aj H5 p2 d2 (fl2 + 1) kv2:=⟨dx4,k5 _ _ g14 (by simp [n1.symm,ndp2.symm]),k5 _ _ g24 (by simp [npd2.symm,n2.symm])⟩
 have e5:=k5 _ _ e4 (by simp [bB e4 gp1 (by intro z;cases z),bB e4 gp2 (by intro z;cases z)])
 obtain⟨dx5,g15,g25⟩:=id hS25
 refine⟨_,rfl,p2,dx5,_,rfl,g15,cS (by decide +kernel) (by decide +kernel),p2,d2,_,kv2,ks2,rfl,hS25,hks2,hkl2,λ l6 ns6 hl6 hp6 hs6=>?_⟩
 have en:=hR22.sorted hR22 hks2 hks2 hp hp6 hs hs6
 subst en
 exact⟨_,rfl,0,true,by omega,eK.EI (SqL.of ah) (SqL.of (ao.new hl6 _ _ e5)) (λ y hy=>eqZ _ hy),q _⟩
theorem ME {f:Addr} {fd:FuncData} (F:Fun K "law" "law" kL f fd) (T:Txt K mg t_W aH aG aC aB aF aJ af ak aj) (cu:DefX P w K mg base "_law_cell" 1 ["_law_script","_law_k"] (oS K)) (ju:DefX P w K mg base "_law_changes" 3 ["_law_cell_here","_law_wide"] mO) (lE:DefX P w K mg base "_law_lying" 3 ["_law_script","_law_many","_law_changes_here","_law_tables_here"] (qi K)) (j6:DefX P w K mg base "_law_tables" 1 ["_law_wide","_law_changes_here"] nY) (lO:DefX P w K mg base "_law_shelf" 8 ["_law_lying_here"] (p8 aj af ak)) (cE:bf P w K mg base aj "drop" 4 ["self","number"] (kR aj aC)) (j7:DefX P w K mg base "_law_wanted" 2 ["_law_cell_here","_law_many","_law_step"] nX) (wH:DefX P w K mg base "folded" 8 ["shelf","wanted"] (sV aj af ak)) (fY:DefX P w K mg base "_law_lies" 4 ["_law_shelf_here","_law_lying_here","_law_onward"] (mR aj af ak)) (j9:DefX P w K mg base "_law_walked" 2 ["_law_lying_here","_law_folds","_law_wanted_here","_law_onward"] nW) (lX:DefX P w K mg base "_law_apart" 6 ["_law_shelf_here","_law_left","_law_kept","_law_onward","_law_wide"] (qQ aj af ak)):bq P w K mg base (CXx P w) 10 f fd ["_law_script"] (uo K):=by
 refine F.okX fW (λ vs H Q E h=>?_) (λ cdv A outer s H vs Q E hr h=>?_)
 ·obtain⟨a,ns,rfl,hS,hlen,q⟩:=h;rfl
 obtain⟨a,ns,rfl,hS,hlen,q⟩:=h
 refine⟨_,(av (aN (i:=1) fW.nd rfl (Or.inl rfl) (aW cu aE (hr.mono (by decide)) rfl (aa (pv 0) (aa az ay))))
   (av (aN (i:=2) fW.nd rfl (Or.inr rfl) (aI cg az (aI bW (aI eB (pv 1) az) (bz cB (eF (aa az (aa az ay))) (aI bW (pv 1) az) (λ _ _=>rfl)))))
   (av (aN (i:=3) fW.nd rfl (Or.inl rfl) (aY (tK rfl) (by rfl) T.Bf PyProof.Rows.boot_max (aa az (aa (aY (Ir rfl) (by rfl) T.OE PyProof.Rows.boot_min (aa (aI j4 (aY bK (by rfl) T.fC PySem.boot_len (aa (pv 0) ay)) az) (aa az ay))) ay))))
   (av (ie (i:=4) fW.nd rfl (Or.inl rfl) (N:=["_law_k","_law_wide","_law_script"]) (k:=1) (cap:=[2,0]) rfl rfl (jV rfl T.oX (aa (pv 3) ay)) (λ _ _ _ _=>(aT (i:=0) (show(["_law_k","_law_wide","_law_script"]:List Str).Nodup from by decide +kernel) rfl (Or.inl rfl) (.inr rfl))) (λ _ _ _ _=>jz) (λ _ _ _ _=>(aW ju aE (hr.mono (by decide)) rfl (aa (aW cu aE (hr.mono (by decide)) rfl (aa (pv 2) (aa (aI cg az (pv 0)) ay))) (aa (pv 1) ay)))))
   (av (aN (i:=5) fW.nd rfl (Or.inl rfl) (aW lE aE (hr.mono (by decide)) rfl (aa (pv 0) (aa (pv 3) (aa (pv 4) (aa (aW j6 aE (hr.mono (by decide)) rfl (aa (pv 2) (aa (pv 4) ay))) ay))))))
   (av (aN (i:=6) fW.nd rfl (Or.inl rfl) (aI cg (JK rfl rfl T.Bf (aa (pv 5) ay) (iH gK az)) az))
   (av (aN (i:=7) fW.nd rfl (Or.inl rfl) (aW lO aE (hr.mono (by decide)) rfl (aa (pv 5) ay)))
   (av (aN (i:=8) fW.nd rfl (Or.inl rfl) (aI bW (aW cu aE (hr.mono (by decide)) rfl (aa (pv 0) (aa az ay))) (aI cg (aI gJ az (aY sP (by rfl) T.fC PySem.boot_len (aa (pv 5) ay))) az)))
   (av (bN (aR Bj (pv 8) (aY sP (by rfl) T.fC PySem.boot_len (aa (pv 5) ay)) (aU _)) (av (aN (i:=9) fW.nd rfl (Or.inl rfl) (bz cB (eV (GC rfl) (by rfl) T.mz PyProof.Rows.boot_list (aa (pv 5) ay)) (pv 8) (λ _ _=>rfl)))
   (av (bV (bM (pv 7) T.aP cE aE (hr.mono (by decide)) (aa (pv 9) ay)))
   (aD (bV (pD (pv 5) (pv 9) ⟨rfl,rfl,rfl,rfl⟩))))) bu)
   (av (aN (i:=10) fW.nd rfl (Or.inl rfl) (aW j7 aE (hr.mono (by decide)) rfl (aa (aW cu aE (hr.mono (by decide)) rfl (aa (pv 0) (aa az ay))) (aa (pv 3) (aa (bz cB (eF (aa az (aa az (aa az ay)))) (aI bW (aW cu aE (hr.mono (by decide)) rfl (aa (pv 0) (aa az ay))) az) (λ _ _=>rfl)) ay)))))
   (av (aN (i:=11) fW.nd rfl (Or.inl rfl) (eV mj (by rfl) T.mz PyProof.Rows.boot_list (aa (pv 10) ay)))
   (av (aN (i:=12) fW.nd rfl (Or.inl rfl) (aW wH aE (hr.mono (by decide)) rfl (aa (pv 7) (aa (pv 11) ay))))
   (av (bN (PW.pt (pw_or (fq (cQ (aY eT (by rfl) T.cX PyProof.Rows.boot_isinstance (aa (pv 12) (aa (jt (v:=.ty "tuple") rfl T.oQ PyProof.Rows.boot_tuple rfl) ay))))) (pw_or (aR jm (aY bK (by rfl) T.fC PySem.boot_len (aa (pv 12) ay)) az (aU _)) (pw_or (fq (cQ (aY eT (by rfl) T.cX PyProof.Rows.boot_isinstance (aa (bz cj (pv 12) az (λ _ _=>rfl)) (aa (jt (v:=.ty "list") rfl T.mz PyProof.Rows.boot_list rfl) ay))))) (pw_or1 (aR (m5 hr.units) (pv 11) (pv 10) (aU _))))))) (aD (aQ eO)) bu)
   (av (bN (fq (cQ (aW fY aE (hr.mono (by decide)) rfl (aa (pv 7) (aa (pv 5) (aa (pv 6) ay)))))) (aD (aQ eO)) bu)
   (av (aN (i:=13) fW.nd rfl (Or.inl rfl) (eV yp (by rfl) T.sR PyProof.Rows.boot_dict (aa (pv 5) ay)))
   (av (bN (fq (cQ (aW j9 aE (hr.mono (by decide)) rfl (aa (pv 5) (aa (bz cj (pv 12) az (λ _ _=>rfl)) (aa (pv 10) (aa (pv 6) ay))))))) (aD (aQ eO)) bu)
   (av (bN (fq (cQ (aW fY aE (hr.mono (by decide)) rfl (aa (bz cj (pv 12) az (λ _ _=>rfl)) (aa (pv 5) (aa (aI cg (pv 6) (aY bK (by rfl) T.fC PySem.boot_len (aa (bz cj (pv 12) az (λ _ _=>rfl)) ay))) ay)))))) (aD (aQ eO)) bu)
   (aD (aQ (aW lX aE (hr.mono (by decide)) rfl (aa (pv 7) (aa (bz cj (pv 12) az (λ _ _=>rfl)) (aa (pv 13) (aa (pv 6) (aa (pv 2) ay))))))))))))))))))))))))),?_⟩
 have hSc:∀ {Hx:Hp},ao H Hx->SqL K Hx a (ns.map V.int):=λ s=>s.seq hS
 refine⟨_,rfl,a,ns,0,rfl,hS,?_⟩
 generalize jj ns ((0:Nat):Int)=c0
 refine bA [some (.ref a),some (.int c0),none,none,none,none,none,none,none,none,none,none,none,none] ?_
 dsimp only
 obtain⟨z,ez,hz⟩:=MB (x:=5) (y:=40) (k:=c0 % 2) (by omega) (by omega)
 have hz0:0 < z /\ z ≤ 40:=by rcases hz with rfl | rfl <;> omega
 have hm0:=Int.emod_nonneg (c0 / 2) (show z ≠ 0 by omega)
 have hm1:=Int.emod_lt_of_pos (c0 / 2) hz0.1
 obtain⟨wd,hwd,hw0,hw40⟩:∃ wd:Nat,1 + c0 / 2 % z =(wd:Int) /\ 0 < wd /\ wd ≤ 40:=⟨(1 + c0 / 2 % z).toNat,by omega,by omega,by omega⟩
 refine⟨_,rfl,_,_,rfl,rfl,⟨by first | decide |(dsimp only;decide),by first | decide |(dsimp only;decide)⟩,(by show 2 ≤ sizeLine;decide),λ g hg=>⟨_,rfl,_,_,rfl,rfl,(by first | decide |(dsimp only;decide)),g,_,_,V.int z,rfl,rfl,SqL.of ah,ez,_,_,rfl,rfl,hz0.1,_,_,rfl,rfl,?_⟩⟩
 have s1:ao H (upd H g (.lst [V.int 5,V.int 40])):=ao.new hg
 generalize upd H g (.lst [V.int 5,V.int 40])=H1 at s1 ⊢
 have hS1:=hSc s1
 refine bA [some (.ref a),some (.int c0),some (.int (wd:Int)),none,none,none,none,none,none,none,none,none,none,none] ?_ (by rw [← hwd];rfl)
 dsimp only
 obtain⟨m,ecn,hm4,hm12⟩:∃ m:Nat,(if (if (12:Int) <((ns.map V.int).length:Int) - 4 then(12:Int) else((ns.map V.int).length:Int) - 4) > 4 then(if (12:Int) <((ns.map V.int).length:Int) - 4 then(12:Int) else((ns.map V.int).length:Int) - 4) else 4) =(m:Int) /\ 4 ≤ m /\ m ≤ 12:=by
  refine⟨(if (if (12:Int) <((ns.map V.int).length:Int) - 4 then(12:Int) else((ns.map V.int).length:Int) - 4) > 4 then(if (12:Int) <((ns.map V.int).length:Int) - 4 then(12:Int) else((ns.map V.int).length:Int) - 4) else 4).toNat,?_,?_,?_⟩ <;>(split <;> split <;> omega)
 refine⟨_,rfl,a,_,rfl,.inl hS1,_,_,rfl,rfl,_,_,rfl,_,_,rfl,?_⟩
 refine bA [some (.ref a),some (.int c0),some (.int (wd:Int)),some (.int (m:Int)),none,none,none,none,none,none,none,none,none,none] ?_ (by rw [← ecn];rfl)
 dsimp only
 refine bU (λ σ H'=>∃(cl:Addr) (RL:List Addr) (chss:List (List (Int × Int))),σ = [some (.ref a),some (.int c0),some (.int (wd:Int)),some (.int (m:Int)),some (.ref cl),none,none,none,none,none,none,none,none,none] /\ ao H1 H' /\ H' cl=some (.lst (RL.map V.ref)) /\ iK H' RL chss /\(∀ cs ∈ chss,vX wd cs) /\ chss.length=m) (λ N hN=>?_) ?_
 ·refine⟨_,rfl,(m:Int),rfl,by omega,by omega,λ D' hD'=>?_⟩
  refine kP (lo:=0) (n:=((m:Int)).toNat) D' (λ i σ H2 ys=>∃(v:Option V) (RL:List Addr) (chss:List (List (Int × Int))),σ = [v,some (.int (wd:Int)),some (.ref a)] /\ ao H1 H2 /\ H2 D'=some (.lst ys) /\ ys=RL.map V.ref /\ iK H2 RL chss /\(∀ cs ∈ chss,vX wd cs) /\ chss.length=i /\ D' ∉ RL) ⟨none,[],[],rfl,ao.new hD',ah,rfl,⟨rfl,λ i a cs e=>by simp at e⟩,(λ cs h=>by cases h),rfl,by simp⟩ ?_ ?_
  ·rintro i σ H2 ys hi ⟨v,RL,chss,rfl,s2,hD2,rfl,hR,hok,hcl,hnD⟩
   refine⟨_,rfl,_,rfl,_,_,rfl,rfl,a,ns,4 + i,?_,s2.seq hS1,_,rfl,_,wd,rfl,hw0,λ l L chs H3 hl nl hCh hcok s3=>?_⟩
   ·show [V.ref a,V.int (4 +(0 +(i:Int)))] = [V.ref a,V.int ((4 + i:Nat):Int)]
    rw [show(4:Int) +(0 +(i:Int)) =((4 + i:Nat):Int) by omega]
   have hD3:=s3 _ _ hD2
   have nlD:l ≠ D':=λ z=>by rw [z,hD2] at nl;cases nl
   have hRl:RL.length=i:=by rw [hR.len,hcl]
   have hi40:i < 40:=by omega
   refine⟨hD3,by rw [List.length_map,hRl];exact bh (by omega),_,RL ++ [l],chss ++ [chs],rfl,λ b o e=>?_,ah,by simp,?_,λ cs h=>?_,by simp [hcl],?_⟩
   ·rw [aq (au e hD')];exact s3 b o (s2 b o e)
   ·have tk:∀ t xs,H3 t=some (.tup xs)->upd H3 D' (.lst (RL.map V.ref ++ [V.ref l])) t=some (.tup xs):=λ t xs e=>by rw [aq (bB e hD3 (by intro z;cases z))];exact e
    refine((hR.same s3).mono (λ b hb o e=>?_) tk).snoc (L:=L) ?_ (hCh.mono tk)
    ·rw [aq (show b ≠ D' from λ z=>hnD (by rw [← z];exact hb))];exact e
    ·rw [aq nlD];exact hl
   ·rcases List.mem_append.mp h with h | h
    ·exact hok cs h
    ·rw [List.mem_singleton.mp h];exact hcok
   ·simp only [List.mem_append,List.mem_singleton,not_or];exact⟨hnD,nlD.symm⟩
  ·rintro σ H2 L ⟨v,RL,chss,rfl,s2,hD2,rfl,hR,hok,hcl,hnD⟩
   exact hN _ _ ⟨D',RL,chss,rfl,s2,hD2,hR,hok,by rw [hcl];rfl⟩
 rintro σ H2 ⟨cl,RLc,chss,rfl,s2,hcl2,hR2,hokc,hcn⟩
 have sH2:=s1.trans s2
 have hChs:vV H2 cl wd chss:=⟨⟨RLc,hcl2,hR2⟩,hokc,⟨hw0,hw40⟩,by omega⟩
 refine bU (λ σ H'=>∃(ld:Addr) (lkv:List (Key × V)) (M:M54),σ = [some (.ref a),some (.int c0),some (.int (wd:Int)),some (.int (m:Int)),some (.ref cl),some (.ref ld),none,none,none,none,none,none,none,none] /\ ao H H' /\ H' ld=some (.dK lkv) /\ aX (dH H') lkv M /\ GA wd M /\ lkv ≠ [] /\ lkv.length ≤ 26 /\ H ld=none) (λ N hN=>?_) ?_
 ·exact⟨_,rfl,_,rfl,_,rfl,_,rfl,_,rfl,cl,wd,chss,rfl,hChs,λ tl LT H3 htl hTb ntl nLT s3=>⟨a,cl,tl,ns,m,wd,chss,rfl,hSc (sH2.trans s3),hm4,hm12,hcn,hChs.keep s3,⟨LT,htl,hTb⟩,λ ld lkv M H4 hld hL hok hne hlen nld s4=>hN _ _ ⟨ld,lkv,M,rfl,(sH2.trans s3).trans s4,hld,hL,hok,hne,hlen,(sH2.trans s3).free nld⟩⟩⟩
 rintro σ H3 ⟨ld,lkv,M,rfl,s3,hld,hL,hok,hne,hlen,nld⟩
 obtain⟨ks,hks⟩:=fP hL.gH
 have hkl:ks.length=lkv.length:=by have:=congrArg List.length hks;simpa using this.symm
 have hmem:=hL.keys hks
 have hkne:ks ≠ []:=λ z=>by rw [z] at hkl;exact hne (List.length_eq_zero_iff.mp hkl.symm)
 obtain⟨mx,emx,hmx,hmxle⟩:=IB (d:=V.int (-1)) hkne
 have hk0:∀ n ∈ ks,0 ≤ n:=λ n hn=>by
  obtain⟨u,hu⟩:=Option.isSome_iff_exists.mp ((hmem n).mp hn)
  exact(hok n u hu).1
 refine⟨_,rfl,_,rfl,ld,lkv,ks,rfl,hld,hks,mx,1,emx,rfl,?_⟩
 refine bA [some (.ref a),some (.int c0),some (.int (wd:Int)),some (.int (m:Int)),some (.ref cl),some (.ref ld),some (.int (mx + 1)),none,none,none,none,none,none,none] ?_
 dsimp only
 refine bU (λ σ H'=>∃(p d:Addr) (kvs:List (Key × V)),σ = [some (.ref a),some (.int c0),some (.int (wd:Int)),some (.int (m:Int)),some (.ref cl),some (.ref ld),some (.int (mx + 1)),some (.ref p),none,none,none,none,none,none] /\ ao H3 H' /\ bO aj H' p d (mx + 1) kvs /\ aX (PcF af ak H') kvs M /\ kvs.length ≤ 26 /\ H3 p=none /\ H3 d=none) (λ N hN=>?_) ?_
 ·refine⟨_,rfl,ld,lkv,M,wd,ks,rfl,hld,hL,hok,hw40,hlen,hks,λ p d kvs fl H5 hS5 hR5 hk5 hlt hor hfl0 np nd s5=>?_⟩
  have efl:fl=mx + 1:=by
   have h1:=hlt mx hmx
   rcases hor with h | h
   ·have:=hk0 mx hmx;omega
   ·have:=hmxle _ h;omega
  subst efl
  exact hN _ _ ⟨p,d,kvs,rfl,s5,hS5,hR5,hk5,np,nd⟩
 rintro σ H4 ⟨p,d,kvs,rfl,s4,hS4,hR4,hk4,np,nd⟩
 have sH4:=s3.trans s4
 have hld4:=s4 _ _ hld
 have hL4:=hL.mono λ v u z=>z.keep s4
 have nld_p:ld ≠ p:=au hld np
 have nld_d:ld ≠ d:=au hld nd
 have hpH:=s3.free np
 have hdH:=s3.free nd
 have hlp:(0:Int) < 2 * (lkv.length:Int) + 1:=by omega
 refine⟨_,rfl,a,ns,1,rfl,hSc sH4,_,rfl,ld,lkv,rfl,hld4,_,_,rfl,rfl,.inl ⟨by first | decide |(dsimp only;decide),by first | decide |(dsimp only;decide)⟩,_,_,rfl,rfl,_,_,rfl,rfl,hlp,?_⟩
 have hg0:=Int.emod_nonneg (jj ns ((1:Nat):Int)) (show 2 * (lkv.length:Int) + 1 ≠ 0 by omega)
 refine bA [some (.ref a),some (.int c0),some (.int (wd:Int)),some (.int (m:Int)),some (.ref cl),some (.ref ld),some (.int (mx + 1)),some (.ref p),some (.int (jj ns ((1:Nat):Int) % (2 * (lkv.length:Int) + 1))),none,none,none,none,none] ?_
 generalize jj ns ((1:Nat):Int) % (2 * (lkv.length:Int) + 1)=g at hg0 ⊢
 dsimp only
 refine bU (λ σ H'=>∃(v9:Option V) (lk:List (Key × V)) (kv:List (Key × V)) (MM:M54),σ = [some (.ref a),some (.int c0),some (.int (wd:Int)),some (.int (m:Int)),some (.ref cl),some (.ref ld),some (.int (mx + 1)),some (.ref p),some (.int g),v9,none,none,none,none] /\ ao H H' /\ H' ld=some (.dK lk) /\ aX (dH H') lk MM /\ bO aj H' p d (mx + 1) kv /\ aX (PcF af ak H') kv MM /\ lk.length ≤ 26 /\ kv.length ≤ 26 /\(∀ n q,MM n=some q->M n=some q)) (λ N hN=>?_) ?_
 ·refine⟨_,rfl,_,rfl,ld,lkv,rfl,hld4,_,_,rfl,rfl,_,rfl,dF (λ h=>?_) (λ h=>hN _ _ ⟨none,lkv,kvs,M,rfl,sH4,hld4,hL4,hS4,hR4,hlen,hk4,λ n q h=>h⟩)⟩
  have h:=of_decide_eq_true h
  obtain⟨n,hn,hnm⟩:=L8 (ds:=ks) hg0 (by omega)
  refine⟨_,rfl,ld,lkv,rfl,hld4,λ l hl=>?_⟩
  rw [LJ hks]
  have s5:ao H4 (upd H4 l (.lst (ks.map V.int))):=ao.new hl
  have hl5:upd H4 l (.lst (ks.map V.int)) l=some (.lst (ks.map V.int)):=ah
  generalize upd H4 l (.lst (ks.map V.int))=H5 at s5 hl5 ⊢
  refine⟨_,rfl,l,_,g,V.int n,rfl,rfl,SqL.of hl5,hn,?_⟩
  obtain⟨u,hu⟩:=Option.isSome_iff_exists.mp ((hmem n).mp hnm)
  obtain⟨vp,hvp,_⟩:=hR4.dz n u hu
  obtain⟨vl,hvl,_⟩:=hL4.dz n u hu
  have hS5:=hS4.keep s5
  obtain⟨dx5,g15,g25⟩:=id hS5
  refine⟨_,rfl,p,dx5,_,rfl,g15,cS (by decide +kernel) (by decide +kernel),_,rfl,p,d,mx + 1,kvs,n,rfl,hS5,λ v hv H7 hS7 k7=>?_,λ hv=>absurd (hvp.symm.trans hv) (by intro z;cases z)⟩
  have np5:=jv hS5
  have hld7:=k7 _ _ (s5 _ _ hld4) (by simp [nld_p,nld_d])
  have hL7:=hL4.mono λ v u z=>(z.keep s5).cC k7 np5
  have hR7:=(hR4.mono λ v u z=>(z.keep s5).cC k7 np5).drop n
  have sH7:ao H H7:=λ b o e=>k7 _ _ (s5 _ _ (sH4 _ _ e)) (by simp [au e hpH,au e hdH])
  refine⟨_,rfl,ld,rfl,.inl ⟨_,.inl hld7⟩,_,rfl,lkv,Sum.inl n,vl,hld7,rfl,hvl,?_⟩
  have kl:bE [ld] H7 (upd H7 ld (.dK (bR lkv (Sum.inl n)))):=λ b o e hb=>by rw [aq (by simpa using hb)];exact e
  obtain⟨dx7,g17,g27⟩:=id hS7
  refine hN _ _ ⟨_,_,_,gX M n none,rfl,λ b o e=>kl _ _ (sH7 _ _ e) (by simp [au e nld]),ah,aX.drop (hL7.mono λ v u z=>z.cC kl (bZ.one hld7)) n,⟨dx7,kl _ _ g17 (by simp [nld_p.symm]),kl _ _ g27 (by simp [nld_d.symm])⟩,hR7.mono λ v u z=>z.cC kl (bZ.one hld7),by have:=iR hvl;omega,by have:=iR hvp;omega,λ m q hm=>?_⟩
  by_cases em:m=n
  ·subst em;rw [jr] at hm;cases hm
  ·rw [eY em] at hm;exact hm
 rintro σ H5 ⟨v9,lk,kv,MM,rfl,sH5,hld5,hL5,hS5,hR5,hlk,hkv,hsub⟩
 have hWf:Wf wd MM (mx + 1):=⟨λ n q h=>(hok n q (hsub n q h)).2.2.1,λ n q h=>by have:=hmxle n ((hmem n).mpr (by rw [hsub n q h];rfl));omega,λ n q h=>⟨(hok n q (hsub n q h)).2.2.2.2.2.1,by have:=(hok n q (hsub n q h)).2.2.2.2.2.2.1;omega⟩,hw40⟩
 have hPq:∀ n q,MM n=some q->q.rows.length ≤ 40 /\ -1 ≤ q.st /\(q.good=false->q.rows ≠ []):=λ n q h=>by
  obtain⟨_,_,_,h4,_,_,h7,h8⟩:=hok n q (hsub n q h)
  exact⟨by omega,by omega,h8⟩
 clear hL4 hR4 hS4 hld4
 obtain⟨z1,e1,hz1⟩:=xT (x:=1) (y:=7) (w:=80000000) (k:=jj ns ((3:Nat):Int) % 3) (by omega) (by omega)
 refine bU (λ σ H'=>∃(wl:Addr) (ws:List Int),σ = [some (.ref a),some (.int c0),some (.int (wd:Int)),some (.int (m:Int)),some (.ref cl),some (.ref ld),some (.int (mx + 1)),some (.ref p),some (.int g),v9,some (.ref wl),none,none,none] /\ ao H5 H' /\ H' wl=some (.lst (ws.map V.int)) /\ ws.length ≤ 40) (λ N hN=>?_) ?_
 ·refine⟨_,rfl,a,ns,2,rfl,hSc sH5,_,rfl,(by show 3 ≤ sizeLine;decide),λ g2 hg2=>?_⟩
  have s6:ao H5 (upd H5 g2 (.lst [V.int 1,V.int 7,V.int 80000000])):=ao.new hg2
  refine⟨_,rfl,a,ns,3,rfl,hSc (sH5.trans s6),_,_,rfl,rfl,(by first | decide |(dsimp only;decide)),g2,_,_,V.int z1,rfl,rfl,SqL.of ah,e1,_,m,z1,rfl,hm12,by omega,by omega,λ wl ws H6 hwl hwlen nwl s7=>hN _ _ ⟨wl,ws,rfl,s6.trans s7,hwl,hwlen⟩⟩
 rintro σ H6 ⟨wl,ws,rfl,s6,hwl,hwlen⟩
 refine⟨_,rfl,wl,_,rfl,.inl (SqL.of hwl),λ hd hhd=>?_⟩
 have s7:ao H6 (upd H6 hd (.lst (ws.map V.int))):=ao.new hhd
 have hhd7:upd H6 hd (.lst (ws.map V.int)) hd=some (.lst (ws.map V.int)):=ah
 generalize upd H6 hd (.lst (ws.map V.int))=H7 at s7 hhd7 ⊢
 refine bA [some (.ref a),some (.int c0),some (.int (wd:Int)),some (.int (m:Int)),some (.ref cl),some (.ref ld),some (.int (mx + 1)),some (.ref p),some (.int g),v9,some (.ref wl),some (.ref hd),none,none] ?_
 dsimp only
 have s57:=s6.trans s7
 have hwl7:=s7 _ _ hwl
 refine bU (λ σ H'=>∃(t p2 d2 l:Addr) (L:List V) (FL:List (Int × Int × Int)) (RL:List Int) (fl':Int) (MF:M54) (kvF:List (Key × V)),σ = [some (.ref a),some (.int c0),some (.int (wd:Int)),some (.int (m:Int)),some (.ref cl),some (.ref ld),some (.int (mx + 1)),some (.ref p),some (.int g),v9,some (.ref wl),some (.ref hd),some (.ref t),none] /\ H' t=some (.tup [.ref p2,.ref l]) /\ H' l=some (.lst L) /\ Folds H' L FL /\ RdL MM ws RL /\ cK ws MM (mx + 1) RL MF fl' FL /\ RL.length ≤ 60 /\ bO aj H' p2 d2 fl' kvF /\ aX (PcF af ak H') kvF MF /\ kvF.length < 60 /\ H7 p2=none /\ H7 d2=none /\ ao H7 H') (λ N hN=>?_) ?_
 ·exact⟨_,rfl,_,rfl,p,d,hd,mx + 1,kv,MM,ws,wd,rfl,hS5.keep s57,hR5.mono (λ v u z=>z.keep s57),by omega,hWf,hhd7,by omega,λ t p2 d2 l L FL RL fl' MF kvF H8 h1 h2 h3 h4 h5 h6 h7 h8 h9 h10 h11 h12=>hN _ _ ⟨t,p2,d2,l,L,FL,RL,fl',MF,kvF,rfl,h1,h2,h3,h4,h5,h6,h7,h8,h9,h10,h11,h12⟩⟩
 rintro σ H8 ⟨t,p2,d2,l,L,FL,RL,fl',MF,kvF,rfl,ht,hl,hF,hRL,hWk,hRLl,hSF,hRF,hkF,np2,nd2,s8⟩
 have s58:=s57.trans s8
 have hld8:=s58 _ _ hld5
 have hL8:=hL5.mono λ v u z=>z.keep s58
 have hS8:=hS5.keep s58
 have hR8:=hR5.mono λ v u z=>z.keep s58
 have hwl8:=s8 _ _ hwl7
 have hhd8:=s8 _ _ hhd7
 obtain⟨dx8,g18,g28⟩:=id hS8
 obtain⟨dxF,gF1,gF2⟩:=id hSF
 have hld7:=s57 _ _ hld5
 have nld_p2:ld ≠ p2:=au hld7 np2
 have nld_d2:ld ≠ d2:=au hld7 nd2
 have npp2:p ≠ p2:=by
  obtain⟨dx,x1,x2⟩:=hS5.keep s57
  exact au x1 np2
 have ndd2:d ≠ d2:=by
  obtain⟨dx,x1,x2⟩:=hS5.keep s57
  exact au x2 nd2
 refine Bc (λ Qb hq=>?_) ?_
 ·refine⟨_,rfl,_,_,_,_,true,rfl,rfl,.tup ht,rfl,_,rfl,dI ?_⟩
  refine⟨_,rfl,t,_,rfl,.inr (SqT.of ht),rfl,_,rfl,kJ rfl ?_⟩
  refine⟨_,rfl,t,_,_,V.ref l,rfl,rfl,SqT.of ht,rfl,_,_,_,_,true,rfl,rfl,.lst hl,rfl,_,rfl,dI ?_⟩
  exact⟨_,rfl,_,rfl,0,true,by omega,eK.EI (SqL.of hhd8) (SqL.of hwl8) (λ y hy=>eqZ _ hy),_,rfl,hq⟩
 try unfold iL
 try dsimp only
 refine jg (λ H'=>ao H8 H') (λ Qb hq=>?_) (λ H9 s9=>?_)
 ·exact⟨_,rfl,_,rfl,_,rfl,p,d,ld,mx + 1,kv,lk,MM,rfl,hS8,hR8,by omega,hld8,hL8,by omega,nld_d.symm,hPq,λ H9 s9=>⟨_,rfl,hq _ s9⟩⟩
 try unfold iL
 try dsimp only
 have hld9:=s9 _ _ hld8
 refine⟨_,rfl,ld,lk,rfl,hld9,λ kd hkd=>?_⟩
 have s10:ao H9 (upd H9 kd (.dK lk)):=ao.new hkd
 have hkd10:upd H9 kd (.dK lk) kd=some (.dK lk):=ah
 generalize upd H9 kd (.dK lk)=H10 at s10 hkd10 ⊢
 refine bA [some (.ref a),some (.int c0),some (.int (wd:Int)),some (.int (m:Int)),some (.ref cl),some (.ref ld),some (.int (mx + 1)),some (.ref p),some (.int g),v9,some (.ref wl),some (.ref hd),some (.ref t),some (.ref kd)] ?_
 dsimp only
 have sA:=s9.trans s10
 have hld10:=sA _ _ hld8
 have nkl:kd ≠ ld:=λ z=>by rw [z,hld9] at hkd;cases hkd
 have hL10:=hL8.mono λ v u z=>z.keep sA
 have ht10:=sA _ _ ht
 have hl10:=sA _ _ hl
 have hF10:=hF.mono λ t xs e=>sA _ _ e
 have hwl10:=sA _ _ hwl8
 refine jg (λ H'=>∃ lkF,H' ld=some (.dK lkF) /\ aX (dH H') lkF MF /\ lkF.length < 60 /\ bE [ld] H10 H') (λ Qb hq=>?_) (λ H11 hx=>?_)
 ·exact⟨_,rfl,_,rfl,t,_,_,V.ref l,rfl,rfl,SqT.of ht10,rfl,_,rfl,_,rfl,ld,l,wl,lk,MM,MF,mx + 1,fl',ws,RL,L,FL,wd,rfl,hld10,hL10,by omega,hWf,hl10,hF10,hwl10,hRL,hWk,hRLl,λ lkF H11 h1 h2 h3 h4=>⟨_,rfl,hq _ ⟨lkF,h1,h2,h3,h4⟩⟩⟩
 obtain⟨lkF,hld11,hL11,hlF,k11⟩:=hx
 try unfold iL
 try dsimp only
 have np10:=bZ.one hld10
 have kk:∀ {b:Addr} {o:HO},H8 b=some o->b ≠ ld->H11 b=some o:=λ e hb=>k11 _ _ (sA _ _ e) (by simpa using hb)
 have ht11:=kk ht (bB ht hld8 (by intro z;cases z))
 have hl11:=kk hl (bB hl hld8 (by intro z;cases z))
 have hSF11:bO aj H11 p2 d2 fl' kvF:=⟨dxF,kk gF1 nld_p2.symm,kk gF2 nld_d2.symm⟩
 have hRF11:=hRF.mono λ v u z=>(z.keep sA).cC k11 np10
 have hPF:=hWk.Pf hWf hPq
 have hfl:mx + 1 +(L.length:Int)=fl':=by rw [hF.len];exact hWk.len.1.symm
 refine jg (λ H'=>ao H11 H') (λ Qb hq=>?_) (λ H12 s12=>?_)
 ·refine⟨_,rfl,t,_,_,V.ref p2,rfl,rfl,SqT.of ht11,rfl,_,rfl,_,rfl,_,rfl,t,_,_,V.ref l,rfl,rfl,SqT.of ht11,rfl,l,L,rfl,.inl (SqL.of hl11),_,_,rfl,rfl,p2,d2,ld,fl',kvF,lkF,MF,by show [V.ref p2,V.ref ld,V.int (mx + 1 +(L.length:Int))]=_;rw [hfl],hSF11,hRF11,hkF,hld11,hL11,hlF,nld_d2.symm,hPF,λ H12 s12=>⟨_,rfl,hq _ s12⟩⟩
 try unfold iL
 try dsimp only
 have kk2:∀ {b:Addr} {o:HO},H8 b=some o->b ≠ ld->H12 b=some o:=λ e hb=>s12 _ _ (kk e hb)
 have hkd12:=s12 _ _ (k11 _ _ hkd10 (by simpa using nkl))
 have ndk:d ≠ kd:=λ z=>by have:=s9 _ _ g28;rw [z,hkd] at this;cases this
 have nd2k:d2 ≠ kd:=λ z=>by have:=s9 _ _ gF2;rw [z,hkd] at this;cases this
 refine⟨_,rfl,_,rfl,t,_,_,V.ref p2,rfl,rfl,SqT.of (s12 _ _ ht11),rfl,_,rfl,_,rfl,_,rfl,p,d,p2,d2,kd,mx + 1,fl',kv,kvF,lk,MM,MF,wd,rfl,⟨dx8,kk2 g18 nld_p.symm,kk2 g28 nld_d.symm⟩,hR8.mono λ v u z=>((z.keep sA).cC k11 np10).keep s12,by omega,hSF11.keep s12,hRF11.mono λ v u z=>z.keep s12,hkF,hkd12,hL10.mono λ v u z=>(z.cC k11 np10).keep s12,by omega,npp2,ndd2,ndk,nd2k,hw40,hPq,q⟩
end
@[elab_as_elim] theorem ln0 {P:List Value->Prop} (us:List Value) (hl:us.length=0) (h:P []):P us:=match us,hl with
 | [],_=>h 
@[elab_as_elim] theorem ln1 {P:List Value->Prop} (us:List Value) (hl:us.length=1) (h:∀ a,P [a]):P us:=match us,hl with
 | [a],_=>h a
@[elab_as_elim] theorem ln2 {P:List Value->Prop} (us:List Value) (hl:us.length=2) (h:∀ a b,P [a,b]):P us:=match us,hl with
 | [a,b],_=>h a b
@[elab_as_elim] theorem ln3 {P:List Value->Prop} (us:List Value) (hl:us.length=3) (h:∀ a b c,P [a,b,c]):P us:=match us,hl with
 | [a,b,c],_=>h a b c
@[elab_as_elim] theorem ln4 {P:List Value->Prop} (us:List Value) (hl:us.length=4) (h:∀ a b c d,P [a,b,c,d]):P us:=match us,hl with
 | [a,b,c,d],_=>h a b c d
@[elab_as_elim] theorem ln5 {P:List Value->Prop} (us:List Value) (hl:us.length=5) (h:∀ a b c d e,P [a,b,c,d,e]):P us:=match us,hl with
 | [a,b,c,d,e],_=>h a b c d e
@[elab_as_elim] theorem ln6 {P:List Value->Prop} (us:List Value) (hl:us.length=6) (h:∀ a b c d e f,P [a,b,c,d,e,f]):P us:=match us,hl with
 | [a,b,c,d,e,f],_=>h a b c d e f
@[elab_as_elim] theorem ln7 {P:List Value->Prop} (us:List Value) (hl:us.length=7) (h:∀ a b c d e f g,P [a,b,c,d,e,f,g]):P us:=match us,hl with
 | [a,b,c,d,e,f,g],_=>h a b c d e f g
theorem all_mk {l:PySem.W.OpenLaw} {w:World} {K:PySem.W.Frag} {h:Heap} {mg:Str->Option Value} {fa:Addr} (X:K.In h) (G:h.Ns mainGlobals mg) (hfa:mg "law" = some (.ref fa))
  {t_W:Tok} (g_W:PySem.W.nsIn K mainGlobals "W" = some (some (.int 18446744073709551615 t_W)))
  {aH:Addr} (nP:PySem.W.nsIn K mainGlobals "KeepError" = some (some (.ref aH)))
  {aG:Addr} (m8:PySem.W.nsIn K mainGlobals "NoPlace" = some (some (.ref aG)))
  {aC:Addr} (mP:PySem.W.nsIn K mainGlobals "NoPiece" = some (some (.ref aC)))
  {aB:Addr} (kE:PySem.W.nsIn K mainGlobals "BadPiece" = some (some (.ref aB)))
  {aF:Addr} (nh:PySem.W.nsIn K mainGlobals "NoMerge" = some (some (.ref aF)))
  {aJ:Addr} (uV:PySem.W.nsIn K mainGlobals "Piece" = some (some (.ref aJ)))
  {af:Addr} (oJ:PySem.W.nsIn K mainGlobals "Whole" = some (some (.ref af)))
  {ak:Addr} (tL:PySem.W.nsIn K mainGlobals "Gain" = some (some (.ref ak)))
  {aj:Addr} (vg:PySem.W.nsIn K mainGlobals "Shelf" = some (some (.ref aj)))
  (clg:PySem.W.specialIn K (.builtin "object.__class__") "__get__" = some (some (.builtin "getset_descriptor.__get__"))) (clt:PySem.W.takesIn K (.builtin "object.__class__")=some true)
  (lB:jU K aH=true) (lP:PySem.W.findIn K (.ref aH) "__setattr__" = some (some (.builtin "object.__setattr__"))) (lD:PySem.W.findIn K (.ref aH) "__getattribute__" = some (some (.builtin "BaseException.__getattribute__"))) (lC:PySem.W.findIn K (.ref aH) "__getattr__" = some none) (lN:PySem.W.findIn K (.ref aH) "__class__" = some (some (.builtin "object.__class__"))) (tH:PySem.W.keepIn K (.ref aH)=true)
  (qT:jU K aG=true) (qZ:PySem.W.findIn K (.ref aG) "__setattr__" = some (some (.builtin "object.__setattr__"))) (pI:PySem.W.findIn K (.ref aG) "__getattribute__" = some (some (.builtin "BaseException.__getattribute__"))) (qR:PySem.W.findIn K (.ref aG) "__getattr__" = some none) (qA:PySem.W.findIn K (.ref aG) "__class__" = some (some (.builtin "object.__class__"))) (qB:PySem.W.keepIn K (.ref aG)=true)
  (fU:PySem.W.findIn K (.ref aG) "place" = some none)
  (rH:jU K aC=true) (qw:PySem.W.findIn K (.ref aC) "__setattr__" = some (some (.builtin "object.__setattr__"))) (qv:PySem.W.findIn K (.ref aC) "__getattribute__" = some (some (.builtin "BaseException.__getattribute__"))) (p9:PySem.W.findIn K (.ref aC) "__getattr__" = some none) (qO:PySem.W.findIn K (.ref aC) "__class__" = some (some (.builtin "object.__class__"))) (qe:PySem.W.keepIn K (.ref aC)=true)
  (fh:PySem.W.findIn K (.ref aC) "number" = some none)
  (nq:jU K aB=true) (nQ:PySem.W.findIn K (.ref aB) "__setattr__" = some (some (.builtin "object.__setattr__"))) (om:PySem.W.findIn K (.ref aB) "__getattribute__" = some (some (.builtin "BaseException.__getattribute__"))) (oF:PySem.W.findIn K (.ref aB) "__getattr__" = some none) (ni:PySem.W.findIn K (.ref aB) "__class__" = some (some (.builtin "object.__class__"))) (oj:PySem.W.keepIn K (.ref aB)=true)
  (gu:PySem.W.findIn K (.ref aB) "day" = some none)
  (p5:jU K aF=true) (rF:PySem.W.findIn K (.ref aF) "__setattr__" = some (some (.builtin "object.__setattr__"))) (qN:PySem.W.findIn K (.ref aF) "__getattribute__" = some (some (.builtin "BaseException.__getattribute__"))) (rj:PySem.W.findIn K (.ref aF) "__getattr__" = some none) (qK:PySem.W.findIn K (.ref aF) "__class__" = some (some (.builtin "object.__class__"))) (qh:PySem.W.keepIn K (.ref aF)=true)
  (gP:PySem.W.findIn K (.ref aF) "day" = some none)
  (gn:PySem.W.findIn K (.ref aF) "base" = some none)
  (xR:PySem.W.plainGet K af Str.empty=true) (xS:PySem.W.hasDictIn K af=true) (xW:PySem.W.plainOver K af=true) (xr:PySem.W.findIn K (.ref af) "__setattr__" = some (some (.builtin "object.__setattr__"))) (pq:PySem.W.makesIn K af=true) (pH:PySem.W.keepIn K (.ref af)=true)
  (cU:PySem.W.findIn K (.ref af) "day" = some none)
  (cY:PySem.W.findIn K (.ref af) "rows" = some none)
  (fM:PySem.W.findIn K (.ref af) "check" = some none)
  (gm:PySem.W.findIn K (.ref af) "fits" = some none)
  (zf:PySem.W.plainGet K ak Str.empty=true) (zh:PySem.W.hasDictIn K ak=true) (zJ:PySem.W.plainOver K ak=true) (Af:PySem.W.findIn K (.ref ak) "__setattr__" = some (some (.builtin "object.__setattr__"))) (uW:PySem.W.makesIn K ak=true) (uT:PySem.W.keepIn K (.ref ak)=true)
  (cZ:PySem.W.findIn K (.ref ak) "day" = some none)
  (cT:PySem.W.findIn K (.ref ak) "rows" = some none)
  (fu:PySem.W.findIn K (.ref ak) "check" = some none)
  (gc:PySem.W.findIn K (.ref ak) "fits" = some none)
  (dP:PySem.W.findIn K (.ref ak) "base" = some none)
  (xE:PySem.W.plainGet K aj Str.empty=true) (xV:PySem.W.hasDictIn K aj=true) (vY:PySem.W.plainOver K aj=true) (xB:PySem.W.findIn K (.ref aj) "__setattr__" = some (some (.builtin "object.__setattr__"))) (x9:PySem.W.makesIn K aj=true) (wY:PySem.W.keepIn K (.ref aj)=true)
  (bQ:PySem.W.findIn K (.ref aj) "pieces" = some none)
  (bS:PySem.W.findIn K (.ref aj) "follows" = some none)
  {f0:Addr} {od0 an0:Option Addr} {sl0:Array (Option Value)} {oc0 kV0 dc0 pm0 cd0 ct0:Value}
  (a0:PySem.W.findIn K (.ref aG) "__init__" = some (some (.ref f0))) (i0:PySem.W.isFn K (.ref f0)=true)
  (l0:K.lookup f0=some ⟨oc0,od0,.func (PySem.W.fnOf "__init__" "NoPlace.__init__" (aL cN) (aK cN) (aA cN) .none kV0 dc0 pm0 an0 cd0 ct0),sl0⟩) (c0:PySem.W.codeIn K cd0 "NoPlace.__init__" = true) (k0:PySem.W.keepIn K (.ref f0)=true)
  {f1:Addr} {od1 an1:Option Addr} {sl1:Array (Option Value)} {oc1 kV1 dc1 pm1 cd1 ct1:Value}
  (a1:PySem.W.findIn K (.ref aC) "__init__" = some (some (.ref f1))) (i1:PySem.W.isFn K (.ref f1)=true)
  (l1:K.lookup f1=some ⟨oc1,od1,.func (PySem.W.fnOf "__init__" "NoPiece.__init__" (aL cP) (aK cP) (aA cP) .none kV1 dc1 pm1 an1 cd1 ct1),sl1⟩) (c1:PySem.W.codeIn K cd1 "NoPiece.__init__" = true) (k1:PySem.W.keepIn K (.ref f1)=true)
  {f2:Addr} {od2 an2:Option Addr} {sl2:Array (Option Value)} {oc2 kV2 dc2 pm2 cd2 ct2:Value}
  (a2:PySem.W.findIn K (.ref aB) "__init__" = some (some (.ref f2))) (i2:PySem.W.isFn K (.ref f2)=true)
  (l2:K.lookup f2=some ⟨oc2,od2,.func (PySem.W.fnOf "__init__" "BadPiece.__init__" (aL cH) (aK cH) (aA cH) .none kV2 dc2 pm2 an2 cd2 ct2),sl2⟩) (c2:PySem.W.codeIn K cd2 "BadPiece.__init__" = true) (k2:PySem.W.keepIn K (.ref f2)=true)
  {f3:Addr} {od3 an3:Option Addr} {sl3:Array (Option Value)} {oc3 kV3 dc3 pm3 cd3 ct3:Value}
  (a3:PySem.W.findIn K (.ref aF) "__init__" = some (some (.ref f3))) (i3:PySem.W.isFn K (.ref f3)=true)
  (l3:K.lookup f3=some ⟨oc3,od3,.func (PySem.W.fnOf "__init__" "NoMerge.__init__" (aL cR) (aK cR) (aA cR) .none kV3 dc3 pm3 an3 cd3 ct3),sl3⟩) (c3:PySem.W.codeIn K cd3 "NoMerge.__init__" = true) (k3:PySem.W.keepIn K (.ref f3)=true)
  {f4:Addr} {od4 an4:Option Addr} {sl4:Array (Option Value)} {oc4 kV4 dc4 pm4 cd4 ct4:Value}
  (a4:PySem.W.nsIn K mainGlobals "turned" = some (some (.ref f4)))
  (l4:K.lookup f4=some ⟨oc4,od4,.func (PySem.W.fnOf "turned" "turned" (aL jL) (aK jL) (aA jL) .none kV4 dc4 pm4 an4 cd4 ct4),sl4⟩) (c4:PySem.W.codeIn K cd4 "turned" = true) (k4:PySem.W.keepIn K (.ref f4)=true)
  {f5:Addr} {od5 an5:Option Addr} {sl5:Array (Option Value)} {oc5 kV5 dc5 pm5 cd5 ct5:Value}
  (a5:PySem.W.nsIn K mainGlobals "check_of" = some (some (.ref f5)))
  (l5:K.lookup f5=some ⟨oc5,od5,.func (PySem.W.fnOf "check_of" "check_of" (aL ig) (aK ig) (aA ig) .none kV5 dc5 pm5 an5 cd5 ct5),sl5⟩) (c5:PySem.W.codeIn K cd5 "check_of" = true) (k5:PySem.W.keepIn K (.ref f5)=true)
  {f6:Addr} {od6 an6:Option Addr} {sl6:Array (Option Value)} {oc6 kV6 dc6 pm6 cd6 ct6:Value}
  (a6:PySem.W.findIn K (.ref aJ) "__init__" = some (some (.ref f6))) (i6:PySem.W.isFn K (.ref f6)=true)
  (l6:K.lookup f6=some ⟨oc6,od6,.func (PySem.W.fnOf "__init__" "Piece.__init__" (aL dN) (aK dN) (aA dN) .none kV6 dc6 pm6 an6 cd6 ct6),sl6⟩) (c6:PySem.W.codeIn K cd6 "Piece.__init__" = true) (k6:PySem.W.keepIn K (.ref f6)=true)
  {f7:Addr} {od7 an7:Option Addr} {sl7:Array (Option Value)} {oc7 kV7 dc7 pm7 cd7 ct7:Value}
  (a7:PySem.W.findIn K (.ref aJ) "is_good" = some (some (.ref f7))) (i7:PySem.W.isFn K (.ref f7)=true)
  (l7:K.lookup f7=some ⟨oc7,od7,.func (PySem.W.fnOf "is_good" "Piece.is_good" (aL d8) (aK d8) (aA d8) .none kV7 dc7 pm7 an7 cd7 ct7),sl7⟩) (c7:PySem.W.codeIn K cd7 "Piece.is_good" = true) (k7:PySem.W.keepIn K (.ref f7)=true)
  {f8:Addr} {od8 an8:Option Addr} {sl8:Array (Option Value)} {oc8 kV8 dc8 pm8 cd8 ct8:Value}
  (a8:PySem.W.findIn K (.ref aJ) "harmed" = some (some (.ref f8))) (i8:PySem.W.isFn K (.ref f8)=true)
  (l8:K.lookup f8=some ⟨oc8,od8,.func (PySem.W.fnOf "harmed" "Piece.harmed" (aL eX) (aK eX) (aA eX) .none kV8 dc8 pm8 an8 cd8 ct8),sl8⟩) (c8:PySem.W.codeIn K cd8 "Piece.harmed" = true) (k8:PySem.W.keepIn K (.ref f8)=true)
  {f9:Addr} {od9 an9:Option Addr} {sl9:Array (Option Value)} {oc9 kV9 dc9 pm9 cd9 ct9:Value}
  (a9:PySem.W.findIn K (.ref af) "__init__" = some (some (.ref f9))) (i9:PySem.W.isFn K (.ref f9)=true)
  {td9:Addr} {yc9:Value} {yd9:Option Addr} {yn9:Nat} {yl9:Array (Option Value)}
  (l9:K.lookup f9=some ⟨oc9,od9,.func (PySem.W.fnOf "__init__" "Whole.__init__" (aL dJ) (aK dJ) (aA dJ) (.ref td9) kV9 dc9 pm9 an9 cd9 ct9),sl9⟩) (c9:PySem.W.codeIn K cd9 "Whole.__init__" = true) (k9:PySem.W.keepIn K (.ref f9)=true)
  (y9:K.lookup td9=some ⟨yc9,yd9,.seq #[.none] yn9,yl9⟩)
  {f10:Addr} {od10 an10:Option Addr} {sl10:Array (Option Value)} {oc10 kV10 dc10 pm10 cd10 ct10:Value}
  (a10:PySem.W.findIn K (.ref af) "start" = some (some (.ref f10))) (i10:PySem.W.isFn K (.ref f10)=true)
  (l10:K.lookup f10=some ⟨oc10,od10,.func (PySem.W.fnOf "start" "Whole.start" (aL fR) (aK fR) (aA fR) .none kV10 dc10 pm10 an10 cd10 ct10),sl10⟩) (c10:PySem.W.codeIn K cd10 "Whole.start" = true) (k10:PySem.W.keepIn K (.ref f10)=true)
  {f11:Addr} {od11 an11:Option Addr} {sl11:Array (Option Value)} {oc11 kV11 dc11 pm11 cd11 ct11:Value}
  (a11:PySem.W.findIn K (.ref af) "kind" = some (some (.ref f11))) (i11:PySem.W.isFn K (.ref f11)=true)
  (l11:K.lookup f11=some ⟨oc11,od11,.func (PySem.W.fnOf "kind" "Whole.kind" (aL gk) (aK gk) (aA gk) .none kV11 dc11 pm11 an11 cd11 ct11),sl11⟩) (c11:PySem.W.codeIn K cd11 "Whole.kind" = true) (k11:PySem.W.keepIn K (.ref f11)=true)
  {f12:Addr} {od12 an12:Option Addr} {sl12:Array (Option Value)} {oc12 kV12 dc12 pm12 cd12 ct12:Value}
  (a12:PySem.W.findIn K (.ref af) "with_rows" = some (some (.ref f12))) (i12:PySem.W.isFn K (.ref f12)=true)
  (l12:K.lookup f12=some ⟨oc12,od12,.func (PySem.W.fnOf "with_rows" "Whole.with_rows" (aL dj) (aK dj) (aA dj) .none kV12 dc12 pm12 an12 cd12 ct12),sl12⟩) (c12:PySem.W.codeIn K cd12 "Whole.with_rows" = true) (k12:PySem.W.keepIn K (.ref f12)=true)
  {f13:Addr} {od13 an13:Option Addr} {sl13:Array (Option Value)} {oc13 kV13 dc13 pm13 cd13 ct13:Value}
  (a13:PySem.W.findIn K (.ref ak) "__init__" = some (some (.ref f13))) (i13:PySem.W.isFn K (.ref f13)=true)
  {td13:Addr} {yc13:Value} {yd13:Option Addr} {yn13:Nat} {yl13:Array (Option Value)}
  (l13:K.lookup f13=some ⟨oc13,od13,.func (PySem.W.fnOf "__init__" "Gain.__init__" (aL d7) (aK d7) (aA d7) (.ref td13) kV13 dc13 pm13 an13 cd13 ct13),sl13⟩) (c13:PySem.W.codeIn K cd13 "Gain.__init__" = true) (k13:PySem.W.keepIn K (.ref f13)=true)
  (y13:K.lookup td13=some ⟨yc13,yd13,.seq #[.none] yn13,yl13⟩)
  {f14:Addr} {od14 an14:Option Addr} {sl14:Array (Option Value)} {oc14 kV14 dc14 pm14 cd14 ct14:Value}
  (a14:PySem.W.findIn K (.ref ak) "start" = some (some (.ref f14))) (i14:PySem.W.isFn K (.ref f14)=true)
  (l14:K.lookup f14=some ⟨oc14,od14,.func (PySem.W.fnOf "start" "Gain.start" (aL gx) (aK gx) (aA gx) .none kV14 dc14 pm14 an14 cd14 ct14),sl14⟩) (c14:PySem.W.codeIn K cd14 "Gain.start" = true) (k14:PySem.W.keepIn K (.ref f14)=true)
  {f15:Addr} {od15 an15:Option Addr} {sl15:Array (Option Value)} {oc15 kV15 dc15 pm15 cd15 ct15:Value}
  (a15:PySem.W.findIn K (.ref ak) "kind" = some (some (.ref f15))) (i15:PySem.W.isFn K (.ref f15)=true)
  (l15:K.lookup f15=some ⟨oc15,od15,.func (PySem.W.fnOf "kind" "Gain.kind" (aL gT) (aK gT) (aA gT) .none kV15 dc15 pm15 an15 cd15 ct15),sl15⟩) (c15:PySem.W.codeIn K cd15 "Gain.kind" = true) (k15:PySem.W.keepIn K (.ref f15)=true)
  {f16:Addr} {od16 an16:Option Addr} {sl16:Array (Option Value)} {oc16 kV16 dc16 pm16 cd16 ct16:Value}
  (a16:PySem.W.findIn K (.ref ak) "with_rows" = some (some (.ref f16))) (i16:PySem.W.isFn K (.ref f16)=true)
  (l16:K.lookup f16=some ⟨oc16,od16,.func (PySem.W.fnOf "with_rows" "Gain.with_rows" (aL dB) (aK dB) (aA dB) .none kV16 dc16 pm16 an16 cd16 ct16),sl16⟩) (c16:PySem.W.codeIn K cd16 "Gain.with_rows" = true) (k16:PySem.W.keepIn K (.ref f16)=true)
  {f17:Addr} {od17 an17:Option Addr} {sl17:Array (Option Value)} {oc17 kV17 dc17 pm17 cd17 ct17:Value}
  (a17:PySem.W.nsIn K mainGlobals "merged" = some (some (.ref f17)))
  (l17:K.lookup f17=some ⟨oc17,od17,.func (PySem.W.fnOf "merged" "merged" (aL jD) (aK jD) (aA jD) .none kV17 dc17 pm17 an17 cd17 ct17),sl17⟩) (c17:PySem.W.codeIn K cd17 "merged" = true) (k17:PySem.W.keepIn K (.ref f17)=true)
  {f18:Addr} {od18 an18:Option Addr} {sl18:Array (Option Value)} {oc18 kV18 dc18 pm18 cd18 ct18:Value}
  (a18:PySem.W.nsIn K mainGlobals "folded" = some (some (.ref f18)))
  (l18:K.lookup f18=some ⟨oc18,od18,.func (PySem.W.fnOf "folded" "folded" (aL jJ) (aK jJ) (aA jJ) .none kV18 dc18 pm18 an18 cd18 ct18),sl18⟩) (c18:PySem.W.codeIn K cd18 "folded" = true) (k18:PySem.W.keepIn K (.ref f18)=true)
  {f19:Addr} {od19 an19:Option Addr} {sl19:Array (Option Value)} {oc19 kV19 dc19 pm19 cd19 ct19:Value}
  (a19:PySem.W.nsIn K mainGlobals "ready_days" = some (some (.ref f19)))
  (l19:K.lookup f19=some ⟨oc19,od19,.func (PySem.W.fnOf "ready_days" "ready_days" (aL gz) (aK gz) (aA gz) .none kV19 dc19 pm19 an19 cd19 ct19),sl19⟩) (c19:PySem.W.codeIn K cd19 "ready_days" = true) (k19:PySem.W.keepIn K (.ref f19)=true)
  {f20:Addr} {od20 an20:Option Addr} {sl20:Array (Option Value)} {oc20 kV20 dc20 pm20 cd20 ct20:Value}
  (a20:PySem.W.nsIn K mainGlobals "is_one_good" = some (some (.ref f20)))
  (l20:K.lookup f20=some ⟨oc20,od20,.func (PySem.W.fnOf "is_one_good" "is_one_good" (aL fG) (aK fG) (aA fG) .none kV20 dc20 pm20 an20 cd20 ct20),sl20⟩) (c20:PySem.W.codeIn K cd20 "is_one_good" = true) (k20:PySem.W.keepIn K (.ref f20)=true)
  {f21:Addr} {od21 an21:Option Addr} {sl21:Array (Option Value)} {oc21 kV21 dc21 pm21 cd21 ct21:Value}
  (a21:PySem.W.nsIn K mainGlobals "fold_at" = some (some (.ref f21)))
  (l21:K.lookup f21=some ⟨oc21,od21,.func (PySem.W.fnOf "fold_at" "fold_at" (aL iY) (aK iY) (aA iY) .none kV21 dc21 pm21 an21 cd21 ct21),sl21⟩) (c21:PySem.W.codeIn K cd21 "fold_at" = true) (k21:PySem.W.keepIn K (.ref f21)=true)
  {f22:Addr} {od22 an22:Option Addr} {sl22:Array (Option Value)} {oc22 kV22 dc22 pm22 cd22 ct22:Value}
  (a22:PySem.W.findIn K (.ref aj) "__init__" = some (some (.ref f22))) (i22:PySem.W.isFn K (.ref f22)=true)
  (l22:K.lookup f22=some ⟨oc22,od22,.func (PySem.W.fnOf "__init__" "Shelf.__init__" (aL dG) (aK dG) (aA dG) .none kV22 dc22 pm22 an22 cd22 ct22),sl22⟩) (c22:PySem.W.codeIn K cd22 "Shelf.__init__" = true) (k22:PySem.W.keepIn K (.ref f22)=true)
  {f23:Addr} {od23 an23:Option Addr} {sl23:Array (Option Value)} {oc23 kV23 dc23 pm23 cd23 ct23:Value}
  (a23:PySem.W.findIn K (.ref aj) "put" = some (some (.ref f23))) (i23:PySem.W.isFn K (.ref f23)=true)
  (l23:K.lookup f23=some ⟨oc23,od23,.func (PySem.W.fnOf "put" "Shelf.put" (aL gR) (aK gR) (aA gR) .none kV23 dc23 pm23 an23 cd23 ct23),sl23⟩) (c23:PySem.W.codeIn K cd23 "Shelf.put" = true) (k23:PySem.W.keepIn K (.ref f23)=true)
  {f24:Addr} {od24 an24:Option Addr} {sl24:Array (Option Value)} {oc24 kV24 dc24 pm24 cd24 ct24:Value}
  (a24:PySem.W.findIn K (.ref aj) "lay" = some (some (.ref f24))) (i24:PySem.W.isFn K (.ref f24)=true)
  (l24:K.lookup f24=some ⟨oc24,od24,.func (PySem.W.fnOf "lay" "Shelf.lay" (aL gU) (aK gU) (aA gU) .none kV24 dc24 pm24 an24 cd24 ct24),sl24⟩) (c24:PySem.W.codeIn K cd24 "Shelf.lay" = true) (k24:PySem.W.keepIn K (.ref f24)=true)
  {f25:Addr} {od25 an25:Option Addr} {sl25:Array (Option Value)} {oc25 kV25 dc25 pm25 cd25 ct25:Value}
  (a25:PySem.W.findIn K (.ref aj) "piece" = some (some (.ref f25))) (i25:PySem.W.isFn K (.ref f25)=true)
  (l25:K.lookup f25=some ⟨oc25,od25,.func (PySem.W.fnOf "piece" "Shelf.piece" (aL fH) (aK fH) (aA fH) .none kV25 dc25 pm25 an25 cd25 ct25),sl25⟩) (c25:PySem.W.codeIn K cd25 "Shelf.piece" = true) (k25:PySem.W.keepIn K (.ref f25)=true)
  {f26:Addr} {od26 an26:Option Addr} {sl26:Array (Option Value)} {oc26 kV26 dc26 pm26 cd26 ct26:Value}
  (a26:PySem.W.findIn K (.ref aj) "drop" = some (some (.ref f26))) (i26:PySem.W.isFn K (.ref f26)=true)
  (l26:K.lookup f26=some ⟨oc26,od26,.func (PySem.W.fnOf "drop" "Shelf.drop" (aL gy) (aK gy) (aA gy) .none kV26 dc26 pm26 an26 cd26 ct26),sl26⟩) (c26:PySem.W.codeIn K cd26 "Shelf.drop" = true) (k26:PySem.W.keepIn K (.ref f26)=true)
  {f27:Addr} {od27 an27:Option Addr} {sl27:Array (Option Value)} {oc27 kV27 dc27 pm27 cd27 ct27:Value}
  (a27:PySem.W.findIn K (.ref aj) "numbers" = some (some (.ref f27))) (i27:PySem.W.isFn K (.ref f27)=true)
  (l27:K.lookup f27=some ⟨oc27,od27,.func (PySem.W.fnOf "numbers" "Shelf.numbers" (aL dX) (aK dX) (aA dX) .none kV27 dc27 pm27 an27 cd27 ct27),sl27⟩) (c27:PySem.W.codeIn K cd27 "Shelf.numbers" = true) (k27:PySem.W.keepIn K (.ref f27)=true)
  {f28:Addr} {od28 an28:Option Addr} {sl28:Array (Option Value)} {oc28 kV28 dc28 pm28 cd28 ct28:Value}
  (a28:PySem.W.findIn K (.ref aj) "following" = some (some (.ref f28))) (i28:PySem.W.isFn K (.ref f28)=true)
  (l28:K.lookup f28=some ⟨oc28,od28,.func (PySem.W.fnOf "following" "Shelf.following" (aL di) (aK di) (aA di) .none kV28 dc28 pm28 an28 cd28 ct28),sl28⟩) (c28:PySem.W.codeIn K cd28 "Shelf.following" = true) (k28:PySem.W.keepIn K (.ref f28)=true)
  {f29:Addr} {od29 an29:Option Addr} {sl29:Array (Option Value)} {oc29 kV29 dc29 pm29 cd29 ct29:Value}
  (a29:PySem.W.findIn K (.ref aj) "copied" = some (some (.ref f29))) (i29:PySem.W.isFn K (.ref f29)=true)
  (l29:K.lookup f29=some ⟨oc29,od29,.func (PySem.W.fnOf "copied" "Shelf.copied" (aL e7) (aK e7) (aA e7) .none kV29 dc29 pm29 an29 cd29 ct29),sl29⟩) (c29:PySem.W.codeIn K cd29 "Shelf.copied" = true) (k29:PySem.W.keepIn K (.ref f29)=true)
  {f30:Addr} {od30 an30:Option Addr} {sl30:Array (Option Value)} {oc30 kV30 dc30 pm30 cd30 ct30:Value}
  (a30:PySem.W.nsIn K mainGlobals "_law_cell" = some (some (.ref f30)))
  (l30:K.lookup f30=some ⟨oc30,od30,.func (PySem.W.fnOf "_law_cell" "_law_cell" (aL gW) (aK gW) (aA gW) .none kV30 dc30 pm30 an30 cd30 ct30),sl30⟩) (c30:PySem.W.codeIn K cd30 "_law_cell" = true) (k30:PySem.W.keepIn K (.ref f30)=true)
  {f31:Addr} {od31 an31:Option Addr} {sl31:Array (Option Value)} {oc31 kV31 dc31 pm31 cd31 ct31:Value}
  (a31:PySem.W.nsIn K mainGlobals "_law_whole" = some (some (.ref f31)))
  (l31:K.lookup f31=some ⟨oc31,od31,.func (PySem.W.fnOf "_law_whole" "_law_whole" (aL gp) (aK gp) (aA gp) .none kV31 dc31 pm31 an31 cd31 ct31),sl31⟩) (c31:PySem.W.codeIn K cd31 "_law_whole" = true) (k31:PySem.W.keepIn K (.ref f31)=true)
  {f32:Addr} {od32 an32:Option Addr} {sl32:Array (Option Value)} {oc32 kV32 dc32 pm32 cd32 ct32:Value}
  (a32:PySem.W.nsIn K mainGlobals "_law_stir" = some (some (.ref f32)))
  (l32:K.lookup f32=some ⟨oc32,od32,.func (PySem.W.fnOf "_law_stir" "_law_stir" (aL gQ) (aK gQ) (aA gQ) .none kV32 dc32 pm32 an32 cd32 ct32),sl32⟩) (c32:PySem.W.codeIn K cd32 "_law_stir" = true) (k32:PySem.W.keepIn K (.ref f32)=true)
  {f33:Addr} {od33 an33:Option Addr} {sl33:Array (Option Value)} {oc33 kV33 dc33 pm33 cd33 ct33:Value}
  (a33:PySem.W.nsIn K mainGlobals "_law_block" = some (some (.ref f33)))
  (l33:K.lookup f33=some ⟨oc33,od33,.func (PySem.W.fnOf "_law_block" "_law_block" (aL gw) (aK gw) (aA gw) .none kV33 dc33 pm33 an33 cd33 ct33),sl33⟩) (c33:PySem.W.codeIn K cd33 "_law_block" = true) (k33:PySem.W.keepIn K (.ref f33)=true)
  {f34:Addr} {od34 an34:Option Addr} {sl34:Array (Option Value)} {oc34 kV34 dc34 pm34 cd34 ct34:Value}
  (a34:PySem.W.nsIn K mainGlobals "_law_same_rows" = some (some (.ref f34)))
  (l34:K.lookup f34=some ⟨oc34,od34,.func (PySem.W.fnOf "_law_same_rows" "_law_same_rows" (aL dD) (aK dD) (aA dD) .none kV34 dc34 pm34 an34 cd34 ct34),sl34⟩) (c34:PySem.W.codeIn K cd34 "_law_same_rows" = true) (k34:PySem.W.keepIn K (.ref f34)=true)
  {f35:Addr} {od35 an35:Option Addr} {sl35:Array (Option Value)} {oc35 kV35 dc35 pm35 cd35 ct35:Value}
  (a35:PySem.W.nsIn K mainGlobals "_law_changes" = some (some (.ref f35)))
  (l35:K.lookup f35=some ⟨oc35,od35,.func (PySem.W.fnOf "_law_changes" "_law_changes" (aL e8) (aK e8) (aA e8) .none kV35 dc35 pm35 an35 cd35 ct35),sl35⟩) (c35:PySem.W.codeIn K cd35 "_law_changes" = true) (k35:PySem.W.keepIn K (.ref f35)=true)
  {f36:Addr} {od36 an36:Option Addr} {sl36:Array (Option Value)} {oc36 kV36 dc36 pm36 cd36 ct36:Value}
  (a36:PySem.W.nsIn K mainGlobals "_law_tables" = some (some (.ref f36)))
  (l36:K.lookup f36=some ⟨oc36,od36,.func (PySem.W.fnOf "_law_tables" "_law_tables" (aL fJ) (aK fJ) (aA fJ) .none kV36 dc36 pm36 an36 cd36 ct36),sl36⟩) (c36:PySem.W.codeIn K cd36 "_law_tables" = true) (k36:PySem.W.keepIn K (.ref f36)=true)
  {f37:Addr} {od37 an37:Option Addr} {sl37:Array (Option Value)} {oc37 kV37 dc37 pm37 cd37 ct37:Value}
  (a37:PySem.W.nsIn K mainGlobals "_law_rows_of" = some (some (.ref f37)))
  (l37:K.lookup f37=some ⟨oc37,od37,.func (PySem.W.fnOf "_law_rows_of" "_law_rows_of" (aL eW) (aK eW) (aA eW) .none kV37 dc37 pm37 an37 cd37 ct37),sl37⟩) (c37:PySem.W.codeIn K cd37 "_law_rows_of" = true) (k37:PySem.W.keepIn K (.ref f37)=true)
  {f38:Addr} {od38 an38:Option Addr} {sl38:Array (Option Value)} {oc38 kV38 dc38 pm38 cd38 ct38:Value}
  (a38:PySem.W.nsIn K mainGlobals "_law_drawn" = some (some (.ref f38)))
  (l38:K.lookup f38=some ⟨oc38,od38,.func (PySem.W.fnOf "_law_drawn" "_law_drawn" (aL gA) (aK gA) (aA gA) .none kV38 dc38 pm38 an38 cd38 ct38),sl38⟩) (c38:PySem.W.codeIn K cd38 "_law_drawn" = true) (k38:PySem.W.keepIn K (.ref f38)=true)
  {f39:Addr} {od39 an39:Option Addr} {sl39:Array (Option Value)} {oc39 kV39 dc39 pm39 cd39 ct39:Value}
  (a39:PySem.W.nsIn K mainGlobals "_law_wanted" = some (some (.ref f39)))
  (l39:K.lookup f39=some ⟨oc39,od39,.func (PySem.W.fnOf "_law_wanted" "_law_wanted" (aL fL) (aK fL) (aA fL) .none kV39 dc39 pm39 an39 cd39 ct39),sl39⟩) (c39:PySem.W.codeIn K cd39 "_law_wanted" = true) (k39:PySem.W.keepIn K (.ref f39)=true)
  {f40:Addr} {od40 an40:Option Addr} {sl40:Array (Option Value)} {oc40 kV40 dc40 pm40 cd40 ct40:Value}
  (a40:PySem.W.nsIn K mainGlobals "_law_lying" = some (some (.ref f40)))
  (l40:K.lookup f40=some ⟨oc40,od40,.func (PySem.W.fnOf "_law_lying" "_law_lying" (aL gD) (aK gD) (aA gD) .none kV40 dc40 pm40 an40 cd40 ct40),sl40⟩) (c40:PySem.W.codeIn K cd40 "_law_lying" = true) (k40:PySem.W.keepIn K (.ref f40)=true)
  {f41:Addr} {od41 an41:Option Addr} {sl41:Array (Option Value)} {oc41 kV41 dc41 pm41 cd41 ct41:Value}
  (a41:PySem.W.nsIn K mainGlobals "_law_shelf" = some (some (.ref f41)))
  (l41:K.lookup f41=some ⟨oc41,od41,.func (PySem.W.fnOf "_law_shelf" "_law_shelf" (aL gr) (aK gr) (aA gr) .none kV41 dc41 pm41 an41 cd41 ct41),sl41⟩) (c41:PySem.W.codeIn K cd41 "_law_shelf" = true) (k41:PySem.W.keepIn K (.ref f41)=true)
  {f42:Addr} {od42 an42:Option Addr} {sl42:Array (Option Value)} {oc42 kV42 dc42 pm42 cd42 ct42:Value}
  (a42:PySem.W.nsIn K mainGlobals "_law_ready" = some (some (.ref f42)))
  (l42:K.lookup f42=some ⟨oc42,od42,.func (PySem.W.fnOf "_law_ready" "_law_ready" (aL gC) (aK gC) (aA gC) .none kV42 dc42 pm42 an42 cd42 ct42),sl42⟩) (c42:PySem.W.codeIn K cd42 "_law_ready" = true) (k42:PySem.W.keepIn K (.ref f42)=true)
  {f43:Addr} {od43 an43:Option Addr} {sl43:Array (Option Value)} {oc43 kV43 dc43 pm43 cd43 ct43:Value}
  (a43:PySem.W.nsIn K mainGlobals "_law_joined" = some (some (.ref f43)))
  (l43:K.lookup f43=some ⟨oc43,od43,.func (PySem.W.fnOf "_law_joined" "_law_joined" (aL fQ) (aK fQ) (aA fQ) .none kV43 dc43 pm43 an43 cd43 ct43),sl43⟩) (c43:PySem.W.codeIn K cd43 "_law_joined" = true) (k43:PySem.W.keepIn K (.ref f43)=true)
  {f44:Addr} {od44 an44:Option Addr} {sl44:Array (Option Value)} {oc44 kV44 dc44 pm44 cd44 ct44:Value}
  (a44:PySem.W.nsIn K mainGlobals "_law_walked" = some (some (.ref f44)))
  (l44:K.lookup f44=some ⟨oc44,od44,.func (PySem.W.fnOf "_law_walked" "_law_walked" (aL fO) (aK fO) (aA fO) .none kV44 dc44 pm44 an44 cd44 ct44),sl44⟩) (c44:PySem.W.codeIn K cd44 "_law_walked" = true) (k44:PySem.W.keepIn K (.ref f44)=true)
  {f45:Addr} {od45 an45:Option Addr} {sl45:Array (Option Value)} {oc45 kV45 dc45 pm45 cd45 ct45:Value}
  (a45:PySem.W.nsIn K mainGlobals "_law_lies" = some (some (.ref f45)))
  (l45:K.lookup f45=some ⟨oc45,od45,.func (PySem.W.fnOf "_law_lies" "_law_lies" (aL gV) (aK gV) (aA gV) .none kV45 dc45 pm45 an45 cd45 ct45),sl45⟩) (c45:PySem.W.codeIn K cd45 "_law_lies" = true) (k45:PySem.W.keepIn K (.ref f45)=true)
  {f46:Addr} {od46 an46:Option Addr} {sl46:Array (Option Value)} {oc46 kV46 dc46 pm46 cd46 ct46:Value}
  (a46:PySem.W.nsIn K mainGlobals "_law_apart" = some (some (.ref f46)))
  (l46:K.lookup f46=some ⟨oc46,od46,.func (PySem.W.fnOf "_law_apart" "_law_apart" (aL gv) (aK gv) (aA gv) .none kV46 dc46 pm46 an46 cd46 ct46),sl46⟩) (c46:PySem.W.codeIn K cd46 "_law_apart" = true) (k46:PySem.W.keepIn K (.ref f46)=true)
  {f47:Addr} {od47 an47:Option Addr} {sl47:Array (Option Value)} {oc47 kV47 dc47 pm47 cd47 ct47:Value}
  (a47:PySem.W.nsIn K mainGlobals "law" = some (some (.ref f47)))
  (l47:K.lookup f47=some ⟨oc47,od47,.func (PySem.W.fnOf "law" "law" (aL kL) (aK kL) (aA kL) .none kV47 dc47 pm47 an47 cd47 ct47),sl47⟩) (c47:PySem.W.codeIn K cd47 "law" = true) (k47:PySem.W.keepIn K (.ref f47)=true)
  (jh:PySem.W.findIn K (.ref af) "is_good" = some (some (.ref f7)))
  (jH:PySem.W.findIn K (.ref ak) "is_good" = some (some (.ref f7)))
  (jy:PySem.W.findIn K (.ref af) "harmed" = some (some (.ref f8)))
  (kg:PySem.W.findIn K (.ref ak) "harmed" = some (some (.ref f8)))
  (xC:PySem.W.specialIn K (.ref aJ) "__getattribute__" = some (some (.builtin "type.__getattribute__"))) (wQ:PySem.W.readsIn K aJ (.type "type")=true) (iz:PySem.W.findCls K (.ref aJ) (.type "type") "__init__" = some (.val (.ref f6)))
  (GW:PySem.W.nsIn K mainGlobals "len" = some none)
  (mL:PySem.W.nsIn K mainGlobals "isinstance" = some none)
  (GK:PySem.W.nsIn K mainGlobals "int" = some none)
  (BD:PySem.W.nsIn K mainGlobals "bool" = some none)
  (Cu:PySem.W.nsIn K mainGlobals "list" = some none)
  (zM:PySem.W.nsIn K mainGlobals "tuple" = some none)
  (yU:PySem.W.nsIn K mainGlobals "range" = some none)
  (FN:PySem.W.nsIn K mainGlobals "min" = some none)
  (FY:PySem.W.nsIn K mainGlobals "max" = some none)
  (xg:PySem.W.nsIn K mainGlobals "sorted" = some none)
  (FD:PySem.W.nsIn K mainGlobals "zip" = some none)
  (oi:PySem.W.nsIn K mainGlobals "enumerate" = some none)
  (Ct:PySem.W.nsIn K mainGlobals "dict" = some none)
  (qM:PySem.W.nsIn K mainGlobals "reversed" = some none)
  (lV:PySem.W.nsIn K mainGlobals "ValueError" = some none)
  (yz:PySem.W.specialIn K (.builtin "object.__class__") "__get__" = some (some (.builtin "getset_descriptor.__get__")))
  (zj:PySem.W.takesIn K (.builtin "object.__class__")=some true)
  (lQ:PySem.W.findIn K (.ref af) "__class__" = some (some (.builtin "object.__class__")))
  (mH:PySem.W.mroIn K af (.type "object")=some true)
  (gM:PySem.W.kitOne K (.ref af) (.ref af)=some true)
  (ia:PySem.W.kitOne K (.ref af) (.ref ak)=some false)
  (oR:PySem.W.findIn K (.ref ak) "__class__" = some (some (.builtin "object.__class__")))
  (oW:PySem.W.mroIn K ak (.type "object")=some true)
  (g6:PySem.W.kitOne K (.ref ak) (.ref af)=some false)
  (iD:PySem.W.kitOne K (.ref ak) (.ref ak)=some true)
  :∃ fd:FuncData,(∀(s:Shared) (v:Value),BindsTo s fd ⟨[v],[]⟩ [("_law_script",v)]) /\ ∀ base:Heap,K.In base->base.Ns mainGlobals mg->bq l.prog w K mg base (CXx l.prog w) 10 fa fd ["_law_script"] (uo K):=by
 have e:=hfa.symm.trans (PySem.W.mg_of X G a47)
 cases e
 have T:Txt K mg t_W aH aG aC aB aF aJ af ak aj:=⟨PySem.W.mg_of X G g_W,PySem.W.mg_of X G nP,⟨lB,lP,lD,lC,lN,clg,clt⟩,PySem.W.mg_of X G m8,⟨qT,qZ,pI,qR,qA,clg,clt⟩,fU,PySem.W.mg_of X G mP,⟨rH,qw,qv,p9,qO,clg,clt⟩,fh,PySem.W.mg_of X G kE,⟨nq,nQ,om,oF,ni,clg,clt⟩,gu,PySem.W.mg_of X G nh,⟨p5,rF,qN,rj,qK,clg,clt⟩,gP,gn,PySem.W.mg_of X G uV,PySem.W.mg_of X G oJ,⟨xR,xS,xW,xr⟩,cU,cY,fM,gm,PySem.W.mg_of X G tL,⟨zf,zh,zJ,Af⟩,cZ,cT,fu,gc,dP,PySem.W.mg_of X G vg,⟨xE,xV,vY,xB⟩,bQ,bS,PySem.W.mg_none_of X G GW,PySem.W.mg_none_of X G mL,PySem.W.mg_none_of X G GK,PySem.W.mg_none_of X G BD,PySem.W.mg_none_of X G Cu,PySem.W.mg_none_of X G zM,PySem.W.mg_none_of X G yU,PySem.W.mg_none_of X G FN,PySem.W.mg_none_of X G FY,PySem.W.mg_none_of X G xg,PySem.W.mg_none_of X G FD,PySem.W.mg_none_of X G oi,PySem.W.mg_none_of X G Ct,PySem.W.mg_none_of X G qM,PySem.W.mg_none_of X G lV,yz,zj,lQ,mH,gM,ia,oR,oW,g6,iD⟩
 have F0:=bg (st:=cN) l0 c0 k0
 have b0:=F0.binds (ps:=["self","place"]) λ _ _ _ _ _ _ us hl=>ln2 us hl λ _ _=>rfl
 have F1:=bg (st:=cP) l1 c1 k1
 have b1:=F1.binds (ps:=["self","number"]) λ _ _ _ _ _ _ us hl=>ln2 us hl λ _ _=>rfl
 have F2:=bg (st:=cH) l2 c2 k2
 have b2:=F2.binds (ps:=["self","day"]) λ _ _ _ _ _ _ us hl=>ln2 us hl λ _ _=>rfl
 have F3:=bg (st:=cR) l3 c3 k3
 have b3:=F3.binds (ps:=["self","day","base"]) λ _ _ _ _ _ _ us hl=>ln3 us hl λ _ _ _=>rfl
 have F4:=bg (st:=jL) l4 c4 k4
 have b4:=F4.binds (ps:=["number"]) λ _ _ _ _ _ _ us hl=>ln1 us hl λ _=>rfl
 have F5:=bg (st:=ig) l5 c5 k5
 have b5:=F5.binds (ps:=["start","day","rows"]) λ _ _ _ _ _ _ us hl=>ln3 us hl λ _ _ _=>rfl
 have F6:=bg (st:=dN) l6 c6 k6
 have b6:=F6.binds (ps:=["self","start","day","rows","check"]) λ _ _ _ _ _ _ us hl=>ln5 us hl λ _ _ _ _ _=>rfl
 have F7:=bg (st:=d8) l7 c7 k7
 have b7:=F7.binds (ps:=["self"]) λ _ _ _ _ _ _ us hl=>ln1 us hl λ _=>rfl
 have F8:=bg (st:=eX) l8 c8 k8
 have b8:=F8.binds (ps:=["self","at","bits"]) λ _ _ _ _ _ _ us hl=>ln3 us hl λ _ _ _=>rfl
 have F9:=D8 (st:=dJ) l9 c9 k9
 have b9:=F9.binds (ps:=["self","day","rows","check"]) (ds:=[]) y9 rfl λ _ _ _ _ _ _ us hl=>ln4 us hl λ _ _ _ _=>⟨_,rfl,rfl⟩
 have rW:=F9.binds (ps:=["self","day","rows","check"]) (ds:=[Value.none]) y9 rfl λ _ _ _ _ _ _ us hl=>ln3 us (by simpa using hl) λ _ _ _=>⟨_,rfl,rfl⟩
 have F10:=bg (st:=fR) l10 c10 k10
 have b10:=F10.binds (ps:=["self"]) λ _ _ _ _ _ _ us hl=>ln1 us hl λ _=>rfl
 have F11:=bg (st:=gk) l11 c11 k11
 have b11:=F11.binds (ps:=["self"]) λ _ _ _ _ _ _ us hl=>ln1 us hl λ _=>rfl
 have F12:=bg (st:=dj) l12 c12 k12
 have b12:=F12.binds (ps:=["self","rows"]) λ _ _ _ _ _ _ us hl=>ln2 us hl λ _ _=>rfl
 have F13:=D8 (st:=d7) l13 c13 k13
 have b13:=F13.binds (ps:=["self","base","day","rows","check"]) (ds:=[]) y13 rfl λ _ _ _ _ _ _ us hl=>ln5 us hl λ _ _ _ _ _=>⟨_,rfl,rfl⟩
 have tu:=F13.binds (ps:=["self","base","day","rows","check"]) (ds:=[Value.none]) y13 rfl λ _ _ _ _ _ _ us hl=>ln4 us (by simpa using hl) λ _ _ _ _=>⟨_,rfl,rfl⟩
 have F14:=bg (st:=gx) l14 c14 k14
 have b14:=F14.binds (ps:=["self"]) λ _ _ _ _ _ _ us hl=>ln1 us hl λ _=>rfl
 have F15:=bg (st:=gT) l15 c15 k15
 have b15:=F15.binds (ps:=["self"]) λ _ _ _ _ _ _ us hl=>ln1 us hl λ _=>rfl
 have F16:=bg (st:=dB) l16 c16 k16
 have b16:=F16.binds (ps:=["self","rows"]) λ _ _ _ _ _ _ us hl=>ln2 us hl λ _ _=>rfl
 have F17:=bg (st:=jD) l17 c17 k17
 have b17:=F17.binds (ps:=["first","second"]) λ _ _ _ _ _ _ us hl=>ln2 us hl λ _ _=>rfl
 have F18:=bg (st:=jJ) l18 c18 k18
 have b18:=F18.binds (ps:=["shelf","wanted"]) λ _ _ _ _ _ _ us hl=>ln2 us hl λ _ _=>rfl
 have F19:=bg (st:=gz) l19 c19 k19
 have b19:=F19.binds (ps:=["shelf","wanted"]) λ _ _ _ _ _ _ us hl=>ln2 us hl λ _ _=>rfl
 have F20:=bg (st:=fG) l20 c20 k20
 have b20:=F20.binds (ps:=["pieces"]) λ _ _ _ _ _ _ us hl=>ln1 us hl λ _=>rfl
 have F21:=bg (st:=iY) l21 c21 k21
 have b21:=F21.binds (ps:=["shelf","day"]) λ _ _ _ _ _ _ us hl=>ln2 us hl λ _ _=>rfl
 have F22:=bg (st:=dG) l22 c22 k22
 have b22:=F22.binds (ps:=["self"]) λ _ _ _ _ _ _ us hl=>ln1 us hl λ _=>rfl
 have F23:=bg (st:=gR) l23 c23 k23
 have b23:=F23.binds (ps:=["self","piece"]) λ _ _ _ _ _ _ us hl=>ln2 us hl λ _ _=>rfl
 have F24:=bg (st:=gU) l24 c24 k24
 have b24:=F24.binds (ps:=["self","number","piece"]) λ _ _ _ _ _ _ us hl=>ln3 us hl λ _ _ _=>rfl
 have F25:=bg (st:=fH) l25 c25 k25
 have b25:=F25.binds (ps:=["self","number"]) λ _ _ _ _ _ _ us hl=>ln2 us hl λ _ _=>rfl
 have F26:=bg (st:=gy) l26 c26 k26
 have b26:=F26.binds (ps:=["self","number"]) λ _ _ _ _ _ _ us hl=>ln2 us hl λ _ _=>rfl
 have F27:=bg (st:=dX) l27 c27 k27
 have b27:=F27.binds (ps:=["self"]) λ _ _ _ _ _ _ us hl=>ln1 us hl λ _=>rfl
 have F28:=bg (st:=di) l28 c28 k28
 have b28:=F28.binds (ps:=["self"]) λ _ _ _ _ _ _ us hl=>ln1 us hl λ _=>rfl
 have F29:=bg (st:=e7) l29 c29 k29
 have b29:=F29.binds (ps:=["self"]) λ _ _ _ _ _ _ us hl=>ln1 us hl λ _=>rfl
 have F30:=bg (st:=gW) l30 c30 k30
 have b30:=F30.binds (ps:=["_law_script","_law_k"]) λ _ _ _ _ _ _ us hl=>ln2 us hl λ _ _=>rfl
 have F31:=bg (st:=gp) l31 c31 k31
 have b31:=F31.binds (ps:=["_law_found"]) λ _ _ _ _ _ _ us hl=>ln1 us hl λ _=>rfl
 have F32:=bg (st:=gQ) l32 c32 k32
 have b32:=F32.binds (ps:=["_law_cell_here","_law_k"]) λ _ _ _ _ _ _ us hl=>ln2 us hl λ _ _=>rfl
 have F33:=bg (st:=gw) l33 c33 k33
 have b33:=F33.binds (ps:=["_law_cell_here","_law_k"]) λ _ _ _ _ _ _ us hl=>ln2 us hl λ _ _=>rfl
 have F34:=bg (st:=dD) l34 c34 k34
 have b34:=F34.binds (ps:=["_law_found","_law_rows"]) λ _ _ _ _ _ _ us hl=>ln2 us hl λ _ _=>rfl
 have F35:=bg (st:=e8) l35 c35 k35
 have b35:=F35.binds (ps:=["_law_cell_here","_law_wide"]) λ _ _ _ _ _ _ us hl=>ln2 us hl λ _ _=>rfl
 have F36:=bg (st:=fJ) l36 c36 k36
 have b36:=F36.binds (ps:=["_law_wide","_law_changes_here"]) λ _ _ _ _ _ _ us hl=>ln2 us hl λ _ _=>rfl
 have F37:=bg (st:=eW) l37 c37 k37
 have b37:=F37.binds (ps:=["_law_changes_here","_law_tables_here","_law_start","_law_day"]) λ _ _ _ _ _ _ us hl=>ln4 us hl λ _ _ _ _=>rfl
 have F38:=bg (st:=gA) l38 c38 k38
 have b38:=F38.binds (ps:=["_law_script","_law_many"]) λ _ _ _ _ _ _ us hl=>ln2 us hl λ _ _=>rfl
 have F39:=bg (st:=fL) l39 c39 k39
 have b39:=F39.binds (ps:=["_law_cell_here","_law_many","_law_step"]) λ _ _ _ _ _ _ us hl=>ln3 us hl λ _ _ _=>rfl
 have F40:=bg (st:=gD) l40 c40 k40
 have b40:=F40.binds (ps:=["_law_script","_law_many","_law_changes_here","_law_tables_here"]) λ _ _ _ _ _ _ us hl=>ln4 us hl λ _ _ _ _=>rfl
 have F41:=bg (st:=gr) l41 c41 k41
 have b41:=F41.binds (ps:=["_law_lying_here"]) λ _ _ _ _ _ _ us hl=>ln1 us hl λ _=>rfl
 have F42:=bg (st:=gC) l42 c42 k42
 have b42:=F42.binds (ps:=["_law_lying_here","_law_wanted_here"]) λ _ _ _ _ _ _ us hl=>ln2 us hl λ _ _=>rfl
 have F43:=bg (st:=fQ) l43 c43 k43
 have b43:=F43.binds (ps:=["_law_first","_law_second"]) λ _ _ _ _ _ _ us hl=>ln2 us hl λ _ _=>rfl
 have F44:=bg (st:=fO) l44 c44 k44
 have b44:=F44.binds (ps:=["_law_lying_here","_law_folds","_law_wanted_here","_law_onward"]) λ _ _ _ _ _ _ us hl=>ln4 us hl λ _ _ _ _=>rfl
 have F45:=bg (st:=gV) l45 c45 k45
 have b45:=F45.binds (ps:=["_law_shelf_here","_law_lying_here","_law_onward"]) λ _ _ _ _ _ _ us hl=>ln3 us hl λ _ _ _=>rfl
 have F46:=bg (st:=gv) l46 c46 k46
 have b46:=F46.binds (ps:=["_law_shelf_here","_law_left","_law_kept","_law_onward","_law_wide"]) λ _ _ _ _ _ _ us hl=>ln5 us hl λ _ _ _ _ _=>rfl
 have F47:=bg (st:=kL) l47 c47 k47
 have b47:=F47.binds (ps:=["_law_script"]) λ _ _ _ _ _ _ us hl=>ln1 us hl λ _=>rfl
 refine⟨PySem.W.fnOf "law" "law" (aL kL) (aK kL) (aA kL) .none kV47 dc47 pm47 an47 cd47 ct47,λ s v=>.of_eq rfl,λ base _ _=>?_⟩
 have m7:pB l.prog w K mg base "NoPlace" aG 1 ["self","place"] (jP aG "place"):=⟨_,_,PySem.W.mg_of X G m8,⟨T.iX,a0,i0,qB⟩,rY F0 T ,b0⟩
 have sL:pB l.prog w K mg base "NoPiece" aC 1 ["self","number"] (jP aC "number"):=⟨_,_,PySem.W.mg_of X G mP,⟨T.sJ,a1,i1,qe⟩,rZ F1 T ,b1⟩
 have qp:pB l.prog w K mg base "BadPiece" aB 1 ["self","day"] (jP aB "day"):=⟨_,_,PySem.W.mg_of X G kE,⟨T.kF,a2,i2,oj⟩,pM F2 T ,b2⟩
 have sE:pB l.prog w K mg base "NoMerge" aF 1 ["self","day","base"] (Bh aF "day" "base"):=⟨_,_,PySem.W.mg_of X G nh,⟨T.ng,a3,i3,qh⟩,rX F3 T ,b3⟩
 have wA:DefX l.prog w K mg base "turned" 1 ["number"] tQ:=⟨_,_,PySem.W.mg_of X G a4,HF F4 T ,k4,b4⟩
 have pG:DefX l.prog w K mg base "check_of" 2 ["start","day","rows"] ur:=⟨_,_,PySem.W.mg_of X G a5,Du F5 T wA,k5,b5⟩
 have cD:Hl l.prog w K mg base "Piece" aJ "__init__" 3 ["self","start","day","rows","check"] (mZ K):=⟨_,_,PySem.W.mg_of X G uV,⟨xC,wQ,iz,k6⟩,vq F6 T pG,b6⟩
 have cA:bf l.prog w K mg base af "is_good" 3 ["self"] (dM af ak):=⟨_,_,⟨jh,i7,k7⟩,lu F7 T ,b7⟩
 have cG:bf l.prog w K mg base ak "is_good" 3 ["self"] (dM af ak):=⟨_,_,⟨jH,i7,k7⟩,lu F7 T ,b7⟩
 have BR:kQ l.prog w K mg base "Gain" ak 4 ["self","base","day","rows","check"] (ja af ak):=⟨_,_,PySem.W.mg_of X G tL,⟨uW,a13,i13,uT⟩,mq F13 T cD,b13⟩
 have iU:jS l.prog w K mg base "Gain" ak 4 ["self","base","day","rows","check"] [Value.none] (ja af ak):=⟨_,_,PySem.W.mg_of X G tL,⟨uW,a13,i13,uT⟩,mq F13 T cD,tu⟩
 have gI:bf l.prog w K mg base ak "with_rows" 6 ["self","rows"] (oV af ak false):=⟨_,_,⟨a16,i16,k16⟩,vo F16 T BR,b16⟩
 have yN:kQ l.prog w K mg base "Whole" af 4 ["self","day","rows","check"] (g9 af ak):=⟨_,_,PySem.W.mg_of X G oJ,⟨pq,a9,i9,pH⟩,kD F9 T cD,b9⟩
 have eN:jS l.prog w K mg base "Whole" af 4 ["self","day","rows","check"] [Value.none] (g9 af ak):=⟨_,_,PySem.W.mg_of X G oJ,⟨pq,a9,i9,pH⟩,kD F9 T cD,rW⟩
 have gg:bf l.prog w K mg base af "with_rows" 6 ["self","rows"] (oV af ak true):=⟨_,_,⟨a12,i12,k12⟩,uy F12 T yN,b12⟩
 have jC:bf l.prog w K mg base af "harmed" 7 ["self","at","bits"] (mG af ak aG):=⟨_,_,⟨jy,i8,k8⟩,m9 F8 T m7 gI gg,b8⟩
 have kr:bf l.prog w K mg base ak "harmed" 7 ["self","at","bits"] (mG af ak aG):=⟨_,_,⟨kg,i8,k8⟩,m9 F8 T m7 gI gg,b8⟩
 have bP:bf l.prog w K mg base af "start" 1 ["self"] gE:=⟨_,_,⟨a10,i10,k10⟩,zZ F10 T ,b10⟩
 have ly:bf l.prog w K mg base af "kind" 1 ["self"] qI:=⟨_,_,⟨a11,i11,k11⟩,AU F11 T ,b11⟩
 have bY:bf l.prog w K mg base ak "start" 1 ["self"] (fV af ak):=⟨_,_,⟨a14,i14,k14⟩,A5 F14 T ,b14⟩
 have n6:bf l.prog w K mg base ak "kind" 1 ["self"] qL:=⟨_,_,⟨a15,i15,k15⟩,Cq F15 T ,b15⟩
 have wG:DefX l.prog w K mg base "merged" 6 ["first","second"] (uG af ak aF aB):=⟨_,_,PySem.W.mg_of X G a17,HX F17 T bY bP sE cG cA qp n6 ly eN iU,k17,b17⟩
 have kT:kQ l.prog w K mg base "Shelf" aj 1 ["self"] (pS aj):=⟨_,_,PySem.W.mg_of X G vg,⟨x9,a22,i22,wY⟩,vv F22 T ,b22⟩
 have jM:bf l.prog w K mg base aj "copied" 3 ["self"] (sd aj):=⟨_,_,⟨a29,i29,k29⟩,yb F29 T kT,b29⟩
 have bx:bf l.prog w K mg base aj "numbers" 1 ["self"] (gF aj):=⟨_,_,⟨a27,i27,k27⟩,wk F27 T ,b27⟩
 have bC:bf l.prog w K mg base aj "piece" 3 ["self","number"] (iQ aj aC):=⟨_,_,⟨a25,i25,k25⟩,zS F25 T sL,b25⟩
 have iI:DefX l.prog w K mg base "is_one_good" 4 ["pieces"] (xM af ak):=⟨_,_,PySem.W.mg_of X G a20,yH F20 T cG cA,k20,b20⟩
 have lI:DefX l.prog w K mg base "ready_days" 5 ["shelf","wanted"] (wK aj af ak):=⟨_,_,PySem.W.mg_of X G a19,AV F19 T bx bC bY bP iI,k19,b19⟩
 have gS:bf l.prog w K mg base aj "lay" 1 ["self","number","piece"] (yq aj):=⟨_,_,⟨a24,i24,k24⟩,CD F24 T ,b24⟩
 have cW:bf l.prog w K mg base aj "put" 2 ["self","piece"] (oY aj):=⟨_,_,⟨a23,i23,k23⟩,Dg F23 T gS,b23⟩
 have cE:bf l.prog w K mg base aj "drop" 4 ["self","number"] (kR aj aC):=⟨_,_,⟨a26,i26,k26⟩,Ba F26 T bC,b26⟩
 have sS:DefX l.prog w K mg base "fold_at" 7 ["shelf","day"] (tD aj af ak):=⟨_,_,PySem.W.mg_of X G a21,Ga F21 T bx bC bY bP cW wG cE,k21,b21⟩
 have wH:DefX l.prog w K mg base "folded" 8 ["shelf","wanted"] (sV aj af ak):=⟨_,_,PySem.W.mg_of X G a18,HQ F18 T jM lI sS,k18,b18⟩
 have dh:bf l.prog w K mg base aj "following" 1 ["self"] (jq aj):=⟨_,_,⟨a28,i28,k28⟩,su F28 T ,b28⟩
 have cu:DefX l.prog w K mg base "_law_cell" 1 ["_law_script","_law_k"] (oS K):=⟨_,_,PySem.W.mg_of X G a30,CP F30 T ,k30,b30⟩
 have fB:DefX l.prog w K mg base "_law_whole" 1 ["_law_found"] qu:=⟨_,_,PySem.W.mg_of X G a31,AY F31 T ,k31,b31⟩
 have cJ:DefX l.prog w K mg base "_law_stir" 1 ["_law_cell_here","_law_k"] oN:=⟨_,_,PySem.W.mg_of X G a32,BN F32 T ,k32,b32⟩
 have mK:DefX l.prog w K mg base "_law_block" 2 ["_law_cell_here","_law_k"] vK:=⟨_,_,PySem.W.mg_of X G a33,A2 F33 T cJ,k33,b33⟩
 have iO:DefX l.prog w K mg base "_law_same_rows" 2 ["_law_found","_law_rows"] xO:=⟨_,_,PySem.W.mg_of X G a34,vC F34 T fB,k34,b34⟩
 have ju:DefX l.prog w K mg base "_law_changes" 3 ["_law_cell_here","_law_wide"] mO:=⟨_,_,PySem.W.mg_of X G a35,ye F35 T cJ mK,k35,b35⟩
 have j6:DefX l.prog w K mg base "_law_tables" 1 ["_law_wide","_law_changes_here"] nY:=⟨_,_,PySem.W.mg_of X G a36,zI F36 T ,k36,b36⟩
 have jw:DefX l.prog w K mg base "_law_rows_of" 1 ["_law_changes_here","_law_tables_here","_law_start","_law_day"] nU:=⟨_,_,PySem.W.mg_of X G a37,yi F37 T ,k37,b37⟩
 have lA:DefX l.prog w K mg base "_law_drawn" 2 ["_law_script","_law_many"] (pR K):=⟨_,_,PySem.W.mg_of X G a38,AZ F38 T cu,k38,b38⟩
 have j7:DefX l.prog w K mg base "_law_wanted" 2 ["_law_cell_here","_law_many","_law_step"] nX:=⟨_,_,PySem.W.mg_of X G a39,z7 F39 T cJ,k39,b39⟩
 have lE:DefX l.prog w K mg base "_law_lying" 3 ["_law_script","_law_many","_law_changes_here","_law_tables_here"] (qi K):=⟨_,_,PySem.W.mg_of X G a40,A4 F40 T cu lA jw,k40,b40⟩
 have lO:DefX l.prog w K mg base "_law_shelf" 8 ["_law_lying_here"] (p8 aj af ak):=⟨_,_,PySem.W.mg_of X G a41,A6 F41 T kT iU eN kr jC dh cW gS,k41,b41⟩
 have je:DefX l.prog w K mg base "_law_ready" 1 ["_law_lying_here","_law_wanted_here"] qH:=⟨_,_,PySem.W.mg_of X G a42,AR F42 T ,k42,b42⟩
 have kh:DefX l.prog w K mg base "_law_joined" 1 ["_law_first","_law_second"] ny:=⟨_,_,PySem.W.mg_of X G a43,yR F43 T ,k43,b43⟩
 have j9:DefX l.prog w K mg base "_law_walked" 2 ["_law_lying_here","_law_folds","_law_wanted_here","_law_onward"] nW:=⟨_,_,PySem.W.mg_of X G a44,zO F44 T je fB kh,k44,b44⟩
 have fY:DefX l.prog w K mg base "_law_lies" 4 ["_law_shelf_here","_law_lying_here","_law_onward"] (mR aj af ak):=⟨_,_,PySem.W.mg_of X G a45,BW F45 T dh bx bC iO bY bP cG cA,k45,b45⟩
 have lX:DefX l.prog w K mg base "_law_apart" 6 ["_law_shelf_here","_law_left","_law_kept","_law_onward","_law_wide"] (qQ aj af ak):=⟨_,_,PySem.W.mg_of X G a46,AS F46 T eN cW cE bx fY,k46,b46⟩
 exact ME F47 T cu ju lE j6 lO cE j7 wH fY j9 lX
theorem walk {l:PySem.W.OpenLaw} {q:Program} {loose:List Str} {XP:(Str->Option Value)->Heap->Prop} {YP:World->Heap->Prop} {d:DefRec} {K:Params->PySem.W.Frag} (hn:l.most=some 63) (hdf:d.params.defaults = [])
  (hY:∀(w:World) (h:Heap),YP w h->(K w.params).In h)
  (F:∀(w:World) (mg:Str->Option Value) (fa:Addr) (h:Heap),(K w.params).In h->h.Ns mainGlobals mg->mg d.name=some (.ref fa) →
   ∃ fd:FuncData,(∀(s:Shared) (u:Value),BindsTo s fd ⟨[u],[]⟩ [("_law_script",u)]) /\ ∀ base:Heap,(K w.params).In base->base.Ns mainGlobals mg->bq l.prog w (K w.params) mg base (CXx l.prog w) 10 fa fd ["_law_script"] (uo (K w.params))) :
  PySem.W.WalkO q loose XP YP l.row.toRowW d [] (λ f vs=>PySem.call f vs) :=
 L2.DZ (n:=63) (k:=10) (x:="_law_script") (CX:=λ w=>CXx l.prog w) (sp:=λ w=>uo (K w.params)) hn (by decide) hdf ⟨rfl,by decide,by decide⟩ hY F (λ _ _ a ns hl _ hS=>⟨a,ns,rfl,hS,hl,λ _=>rfl⟩) λ _ _ _ _ _ z=>L2.Np z
end Mine
open PySem PySem.W PyProof.Rows
noncomputable def PySem.W.Fast.tw9983349102000853959:PySem.Program:=PySem.Challenge.pw_keepsakes_k54_whole_folds_walked
theorem PySem.W.Fast.te9983349102000853959:PySem.Challenge.pw_keepsakes_k54_whole_folds_walked=PySem.W.Fast.tw9983349102000853959:=rfl
namespace Hd
noncomputable section
open PySem
abbrev h0:=(((((Str.ofString "<module>",Str.ofString "/claim/cut.py"),Str.ofString "__main__"),((Str.ofString "__name__",Str.ofString "keepsakes.errors"),Str.ofString "__doc__")),(((Str.ofString "__package__",Str.ofString "__loader__"),Str.ofString "__spec__"),((Str.ofString "__annotations__",Str.ofString "__builtins__"),Str.ofString "__file__"))),((((Str.ofString "__cached__",Str.ofString "_wall"),Str.ofString "KeepError"),((Str.ofString "k",Str.ofString "__module__"),Str.ofString "__qualname__")),(((Str.ofString "__firstlineno__",Str.ofString "__static_attributes__"),Str.ofString "__weakref__"),((Str.ofString "NoPlace",Str.ofString "__init__"),Str.ofString "self"))))
abbrev h1:=(((((Str.ofString "place",Str.ofString "NoPlace.__init__"),Str.ofString "NoPiece"),((Str.ofString "number",Str.ofString "NoPiece.__init__"),Str.ofString "BadPiece")),(((Str.ofString "day",Str.ofString "BadPiece.__init__"),Str.ofString "keepsakes.pieces"),((Str.ofString "NoMerge",Str.ofString "W"),Str.ofString "turned"))),((((Str.ofString "check_of",Str.ofString "base"),Str.ofString "NoMerge.__init__"),((Str.ofString "keepsakes.checks",Str.ofString "start"),Str.ofString "rows")),(((Str.ofString "numbers",Str.ofString "block"),Str.ofString "check"),((Str.ofString "Piece",Str.ofString "size"),Str.ofString "is_good"))))
abbrev h2:=(((((Str.ofString "harmed",Str.ofString "Piece.__init__"),Str.ofString "Piece.size"),((Str.ofString "Piece.is_good",Str.ofString "at"),Str.ofString "bits")),(((Str.ofString "row",Str.ofString "Piece.harmed"),Str.ofString "fits"),((Str.ofString "__dict__",Str.ofString "Whole"),Str.ofString "kind"))),((((Str.ofString "laid",Str.ofString "with_rows"),Str.ofString "Whole.__init__"),((Str.ofString "Whole.start",Str.ofString "Whole.kind"),Str.ofString "table")),(((Str.ofString "Whole.laid",Str.ofString "Whole.with_rows"),Str.ofString "keepsakes.merging"),((Str.ofString "Gain",Str.ofString "Gain.__init__"),Str.ofString "Gain.start"))))
abbrev h3:=(((((Str.ofString "Gain.kind",Str.ofString "Gain.laid"),Str.ofString "Gain.with_rows"),((Str.ofString "keepsakes.shelves",Str.ofString "merged"),Str.ofString "folded")),(((Str.ofString "ready_days",Str.ofString "is_one_good"),Str.ofString "fold_at"),((Str.ofString "shelf",Str.ofString "wanted"),Str.ofString "left"))),((((Str.ofString "folds",Str.ofString "pieces"),Str.ofString "Shelf"),((Str.ofString "put",Str.ofString "lay"),Str.ofString "piece")),(((Str.ofString "drop",Str.ofString "following"),Str.ofString "copied"),((Str.ofString "last_whole",Str.ofString "Shelf.__init__"),Str.ofString "Shelf.put"))))
abbrev h4:=(((((Str.ofString "Shelf.lay",Str.ofString "Shelf.piece"),Str.ofString "Shelf.drop"),((Str.ofString "Shelf.numbers",Str.ofString "Shelf.following"),Str.ofString "other")),(((Str.ofString "Shelf.copied",Str.ofString "Shelf.last_whole"),Str.ofString "follows"),((Str.ofString "law_keepsakes_k54_whole_folds_walked",Str.ofString "_law_cell"),Str.ofString "_law_whole"))),((((Str.ofString "_law_stir",Str.ofString "_law_block"),Str.ofString "_law_same_rows"),((Str.ofString "_law_changes",Str.ofString "_law_tables"),Str.ofString "_law_rows_of")),(((Str.ofString "_law_drawn",Str.ofString "_law_wanted"),Str.ofString "_law_lying"),((Str.ofString "_law_shelf",Str.ofString "_law_script"),Str.ofString "_law_k"))))
abbrev h5:=(((((Str.ofString "_law_found",Str.ofString "_law_cell_here"),Str.ofString "_law_number"),((Str.ofString "_law_rows",Str.ofString "_law_one"),Str.ofString "_law_row")),(((Str.ofString "_law_wide",Str.ofString "_law_changes_here"),Str.ofString "_law_tables_here"),((Str.ofString "_law_table",Str.ofString "_law_place"),Str.ofString "_law_block_here"))),((((Str.ofString "_law_many",Str.ofString "_law_ends"),Str.ofString "_law_day"),((Str.ofString "_law_start",Str.ofString "_law_step"),Str.ofString "_law_far")),(((Str.ofString "_law_lying_here",Str.ofString "_law_harm"),Str.ofString "_law_shelf_here"),((Str.ofString "_law_good",Str.ofString "_law_piece"),Str.ofString "_law_ready"))))
abbrev h6:=(((Str.ofString "_law_joined",Str.ofString "_law_walked"),Str.ofString "_law_lies"),((Str.ofString "_law_apart",Str.ofString "law"),Str.ofString "_law_onward"))
abbrev h7:=((((("tuple","code"),"frame"),(("dict","__main__.__loader__#opaque"),"function")),((("ValueError","builtin_function_or_method"),"type.__prepare__"),("type","Exception"))),(((("BaseException","object"),"ValueError.__new__"),("getset_descriptor","ExceptionGroup.__weakref__")),((("super","object.__init_subclass__"),"object.__new__"),("function.__dict__","function.__dict__#set"))))
abbrev X:Type:=(((((((((Str × Str) × Str) ×((Str × Str) × Str)) ×(((Str × Str) × Str) ×((Str × Str) × Str))) ×((((Str × Str) × Str) ×((Str × Str) × Str)) ×(((Str × Str) × Str) ×((Str × Str) × Str)))) ×(((((Str × Str) × Str) ×((Str × Str) × Str)) ×(((Str × Str) × Str) ×((Str × Str) × Str))) ×((((Str × Str) × Str) ×((Str × Str) × Str)) ×(((Str × Str) × Str) ×((Str × Str) × Str))))) ×(((((Str × Str) × Str) ×((Str × Str) × Str)) ×(((Str × Str) × Str) ×((Str × Str) × Str))) ×((((Str × Str) × Str) ×((Str × Str) × Str)) ×(((Str × Str) × Str) ×((Str × Str) × Str))))) ×((((((Str × Str) × Str) ×((Str × Str) × Str)) ×(((Str × Str) × Str) ×((Str × Str) × Str))) ×((((Str × Str) × Str) ×((Str × Str) × Str)) ×(((Str × Str) × Str) ×((Str × Str) × Str)))) ×(((((Str × Str) × Str) ×((Str × Str) × Str)) ×(((Str × Str) × Str) ×((Str × Str) × Str))) ×((((Str × Str) × Str) ×((Str × Str) × Str)) ×(((Str × Str) × Str) ×((Str × Str) × Str)))))) ×(((((((Str × Str) × Str) ×((Str × Str) × Str)) ×(((Str × Str) × Str) ×((Str × Str) × Str))) ×((((Str × Str) × Str) ×((Str × Str) × Str)) ×(((Str × Str) × Str) ×((Str × Str) × Str)))) ×(((Str × Str) × Str) ×((Str × Str) × Str))) ×((((((String × String) × String) ×((String × String) × String)) ×(((String × String) × String) ×(String × String))) ×((((String × String) × String) ×(String × String)) ×(((String × String) × String) ×(String × String)))) × PySem.Program))) × PySem.Params
abbrev hs:=((((h0,h1),h2),(h3,h4)),((h5,h6),(h7,PySem.Challenge.pw_keepsakes_k54_whole_folds_walked)))
lay_quick h0 h1 h2 h3 h4 h5 h6 h7 PySem.Challenge.pw_keepsakes_k54_whole_folds_walked
lay_quick hs
abbrev s0 (x:X):=x.1.1.1.1.1.1.1.1.1.1
abbrev s1 (x:X):=x.1.1.1.1.1.1.1.1.1.2
abbrev s2 (x:X):=x.1.1.1.1.1.1.1.1.2
abbrev s3 (x:X):=x.1.1.1.1.1.1.1.2.1.1
abbrev s4 (x:X):=x.1.1.1.1.1.1.1.2.1.2
abbrev s5 (x:X):=x.1.1.1.1.1.1.1.2.2
abbrev s6 (x:X):=x.1.1.1.1.1.1.2.1.1.1
abbrev s7 (x:X):=x.1.1.1.1.1.1.2.1.1.2
abbrev s8 (x:X):=x.1.1.1.1.1.1.2.1.2
abbrev s9 (x:X):=x.1.1.1.1.1.1.2.2.1.1
abbrev s10 (x:X):=x.1.1.1.1.1.1.2.2.1.2
abbrev s11 (x:X):=x.1.1.1.1.1.1.2.2.2
abbrev s12 (x:X):=x.1.1.1.1.1.2.1.1.1.1
abbrev s13 (x:X):=x.1.1.1.1.1.2.1.1.1.2
abbrev s14 (x:X):=x.1.1.1.1.1.2.1.1.2
abbrev s15 (x:X):=x.1.1.1.1.1.2.1.2.1.1
abbrev s16 (x:X):=x.1.1.1.1.1.2.1.2.1.2
abbrev s17 (x:X):=x.1.1.1.1.1.2.1.2.2
abbrev s18 (x:X):=x.1.1.1.1.1.2.2.1.1.1
abbrev s19 (x:X):=x.1.1.1.1.1.2.2.1.1.2
abbrev s20 (x:X):=x.1.1.1.1.1.2.2.1.2
abbrev s21 (x:X):=x.1.1.1.1.1.2.2.2.1.1
abbrev s22 (x:X):=x.1.1.1.1.1.2.2.2.1.2
abbrev s23 (x:X):=x.1.1.1.1.1.2.2.2.2
abbrev s24 (x:X):=x.1.1.1.1.2.1.1.1.1.1
abbrev s25 (x:X):=x.1.1.1.1.2.1.1.1.1.2
abbrev s26 (x:X):=x.1.1.1.1.2.1.1.1.2
abbrev s27 (x:X):=x.1.1.1.1.2.1.1.2.1.1
abbrev s28 (x:X):=x.1.1.1.1.2.1.1.2.1.2
abbrev s29 (x:X):=x.1.1.1.1.2.1.1.2.2
abbrev s30 (x:X):=x.1.1.1.1.2.1.2.1.1.1
abbrev s31 (x:X):=x.1.1.1.1.2.1.2.1.1.2
abbrev s32 (x:X):=x.1.1.1.1.2.1.2.1.2
abbrev s33 (x:X):=x.1.1.1.1.2.1.2.2.1.1
abbrev s34 (x:X):=x.1.1.1.1.2.1.2.2.1.2
abbrev s35 (x:X):=x.1.1.1.1.2.1.2.2.2
abbrev s36 (x:X):=x.1.1.1.1.2.2.1.1.1.1
abbrev s37 (x:X):=x.1.1.1.1.2.2.1.1.1.2
abbrev s38 (x:X):=x.1.1.1.1.2.2.1.1.2
abbrev s39 (x:X):=x.1.1.1.1.2.2.1.2.1.1
abbrev s40 (x:X):=x.1.1.1.1.2.2.1.2.1.2
abbrev s41 (x:X):=x.1.1.1.1.2.2.1.2.2
abbrev s42 (x:X):=x.1.1.1.1.2.2.2.1.1.1
abbrev s43 (x:X):=x.1.1.1.1.2.2.2.1.1.2
abbrev s44 (x:X):=x.1.1.1.1.2.2.2.1.2
abbrev s45 (x:X):=x.1.1.1.1.2.2.2.2.1.1
abbrev s46 (x:X):=x.1.1.1.1.2.2.2.2.1.2
abbrev s47 (x:X):=x.1.1.1.1.2.2.2.2.2
abbrev s48 (x:X):=x.1.1.1.2.1.1.1.1.1
abbrev s49 (x:X):=x.1.1.1.2.1.1.1.1.2
abbrev s50 (x:X):=x.1.1.1.2.1.1.1.2
abbrev s51 (x:X):=x.1.1.1.2.1.1.2.1.1
abbrev s52 (x:X):=x.1.1.1.2.1.1.2.1.2
abbrev s53 (x:X):=x.1.1.1.2.1.1.2.2
abbrev s54 (x:X):=x.1.1.1.2.1.2.1.1.1
abbrev s55 (x:X):=x.1.1.1.2.1.2.1.1.2
abbrev s56 (x:X):=x.1.1.1.2.1.2.1.2
abbrev s57 (x:X):=x.1.1.1.2.1.2.2.1.1
abbrev s58 (x:X):=x.1.1.1.2.1.2.2.1.2
abbrev s59 (x:X):=x.1.1.1.2.1.2.2.2
abbrev s60 (x:X):=x.1.1.1.2.2.1.1.1.1
abbrev s61 (x:X):=x.1.1.1.2.2.1.1.1.2
abbrev s62 (x:X):=x.1.1.1.2.2.1.1.2
abbrev s63 (x:X):=x.1.1.1.2.2.1.2.1.1
abbrev s64 (x:X):=x.1.1.1.2.2.1.2.1.2
abbrev s65 (x:X):=x.1.1.1.2.2.1.2.2
abbrev s66 (x:X):=x.1.1.1.2.2.2.1.1.1
abbrev s67 (x:X):=x.1.1.1.2.2.2.1.1.2
abbrev s68 (x:X):=x.1.1.1.2.2.2.1.2
abbrev s69 (x:X):=x.1.1.1.2.2.2.2.1.1
abbrev s70 (x:X):=x.1.1.1.2.2.2.2.1.2
abbrev s71 (x:X):=x.1.1.1.2.2.2.2.2
abbrev s72 (x:X):=x.1.1.2.1.1.1.1.1.1
abbrev s73 (x:X):=x.1.1.2.1.1.1.1.1.2
abbrev s74 (x:X):=x.1.1.2.1.1.1.1.2
abbrev s75 (x:X):=x.1.1.2.1.1.1.2.1.1
abbrev s76 (x:X):=x.1.1.2.1.1.1.2.1.2
abbrev s77 (x:X):=x.1.1.2.1.1.1.2.2
abbrev s78 (x:X):=x.1.1.2.1.1.2.1.1.1
abbrev s79 (x:X):=x.1.1.2.1.1.2.1.1.2
abbrev s80 (x:X):=x.1.1.2.1.1.2.1.2
abbrev s81 (x:X):=x.1.1.2.1.1.2.2.1.1
abbrev s82 (x:X):=x.1.1.2.1.1.2.2.1.2
abbrev s83 (x:X):=x.1.1.2.1.1.2.2.2
abbrev s84 (x:X):=x.1.1.2.1.2.1.1.1.1
abbrev s85 (x:X):=x.1.1.2.1.2.1.1.1.2
abbrev s86 (x:X):=x.1.1.2.1.2.1.1.2
abbrev s87 (x:X):=x.1.1.2.1.2.1.2.1.1
abbrev s88 (x:X):=x.1.1.2.1.2.1.2.1.2
abbrev s89 (x:X):=x.1.1.2.1.2.1.2.2
abbrev s90 (x:X):=x.1.1.2.1.2.2.1.1.1
abbrev s91 (x:X):=x.1.1.2.1.2.2.1.1.2
abbrev s92 (x:X):=x.1.1.2.1.2.2.1.2
abbrev s93 (x:X):=x.1.1.2.1.2.2.2.1.1
abbrev s94 (x:X):=x.1.1.2.1.2.2.2.1.2
abbrev s95 (x:X):=x.1.1.2.1.2.2.2.2
abbrev s96 (x:X):=x.1.1.2.2.1.1.1.1.1
abbrev s97 (x:X):=x.1.1.2.2.1.1.1.1.2
abbrev s98 (x:X):=x.1.1.2.2.1.1.1.2
abbrev s99 (x:X):=x.1.1.2.2.1.1.2.1.1
abbrev Jm (x:X):=x.1.1.2.2.1.1.2.1.2
abbrev PX (x:X):=x.1.1.2.2.1.1.2.2
abbrev Jo (x:X):=x.1.1.2.2.1.2.1.1.1
abbrev Lf (x:X):=x.1.1.2.2.1.2.1.1.2
abbrev PU (x:X):=x.1.1.2.2.1.2.1.2
abbrev gj (x:X):=x.1.1.2.2.1.2.2.1.1
abbrev Ae (x:X):=x.1.1.2.2.1.2.2.1.2
abbrev yP (x:X):=x.1.1.2.2.1.2.2.2
abbrev zo (x:X):=x.1.1.2.2.2.1.1.1.1
abbrev Aa (x:X):=x.1.1.2.2.2.1.1.1.2
abbrev Eh (x:X):=x.1.1.2.2.2.1.1.2
abbrev Fx (x:X):=x.1.1.2.2.2.1.2.1.1
abbrev EV (x:X):=x.1.1.2.2.2.1.2.1.2
abbrev ET (x:X):=x.1.1.2.2.2.1.2.2
abbrev Aj (x:X):=x.1.1.2.2.2.2.1.1.1
abbrev EZ (x:X):=x.1.1.2.2.2.2.1.1.2
abbrev yV (x:X):=x.1.1.2.2.2.2.1.2
abbrev zA (x:X):=x.1.1.2.2.2.2.2.1.1
abbrev Jt (x:X):=x.1.1.2.2.2.2.2.1.2
abbrev KU (x:X):=x.1.1.2.2.2.2.2.2
abbrev Nk (x:X):=x.1.2.1.1.1.1.1.1.1
abbrev EN (x:X):=x.1.2.1.1.1.1.1.1.2
abbrev Gx (x:X):=x.1.2.1.1.1.1.1.2
abbrev Eu (x:X):=x.1.2.1.1.1.1.2.1.1
abbrev OW (x:X):=x.1.2.1.1.1.1.2.1.2
abbrev Nz (x:X):=x.1.2.1.1.1.1.2.2
abbrev Pb (x:X):=x.1.2.1.1.1.2.1.1.1
abbrev Mn (x:X):=x.1.2.1.1.1.2.1.1.2
abbrev Ng (x:X):=x.1.2.1.1.1.2.1.2
abbrev OM (x:X):=x.1.2.1.1.1.2.2.1.1
abbrev OV (x:X):=x.1.2.1.1.1.2.2.1.2
abbrev Ph (x:X):=x.1.2.1.1.1.2.2.2
abbrev MA (x:X):=x.1.2.1.1.2.1.1.1.1
abbrev OH (x:X):=x.1.2.1.1.2.1.1.1.2
abbrev EE (x:X):=x.1.2.1.1.2.1.1.2
abbrev Gg (x:X):=x.1.2.1.1.2.1.2.1.1
abbrev O1 (x:X):=x.1.2.1.1.2.1.2.1.2
abbrev O4 (x:X):=x.1.2.1.1.2.1.2.2
abbrev KS (x:X):=x.1.2.1.1.2.2.1.1.1
abbrev PV (x:X):=x.1.2.1.1.2.2.1.1.2
abbrev MZ (x:X):=x.1.2.1.1.2.2.1.2
abbrev MH (x:X):=x.1.2.1.1.2.2.2.1.1
abbrev Ny (x:X):=x.1.2.1.1.2.2.2.1.2
abbrev CO (x:X):=x.1.2.1.1.2.2.2.2
abbrev Jg (x:X):=x.1.2.1.2.1.1.1
abbrev KR (x:X):=x.1.2.1.2.1.1.2
abbrev Bl (x:X):=x.1.2.1.2.1.2
abbrev B5 (x:X):=x.1.2.1.2.2.1.1
abbrev BG (x:X):=x.1.2.1.2.2.1.2
abbrev PB (x:X):=x.1.2.1.2.2.2
abbrev l0 (x:X):=x.1.2.2.1.1.1.1.1.1
abbrev l1 (x:X):=x.1.2.2.1.1.1.1.1.2
abbrev l2 (x:X):=x.1.2.2.1.1.1.1.2
abbrev l3 (x:X):=x.1.2.2.1.1.1.2.1.1
abbrev l4 (x:X):=x.1.2.2.1.1.1.2.1.2
abbrev l5 (x:X):=x.1.2.2.1.1.1.2.2
abbrev l6 (x:X):=x.1.2.2.1.1.2.1.1.1
abbrev l7 (x:X):=x.1.2.2.1.1.2.1.1.2
abbrev l8 (x:X):=x.1.2.2.1.1.2.1.2
abbrev l9 (x:X):=x.1.2.2.1.1.2.2.1
abbrev l10 (x:X):=x.1.2.2.1.1.2.2.2
abbrev l11 (x:X):=x.1.2.2.1.2.1.1.1.1
abbrev l12 (x:X):=x.1.2.2.1.2.1.1.1.2
abbrev l13 (x:X):=x.1.2.2.1.2.1.1.2
abbrev l14 (x:X):=x.1.2.2.1.2.1.2.1
abbrev l15 (x:X):=x.1.2.2.1.2.1.2.2
abbrev l16 (x:X):=x.1.2.2.1.2.2.1.1.1
abbrev l17 (x:X):=x.1.2.2.1.2.2.1.1.2
abbrev l18 (x:X):=x.1.2.2.1.2.2.1.2
abbrev l19 (x:X):=x.1.2.2.1.2.2.2.1
abbrev l20 (x:X):=x.1.2.2.1.2.2.2.2
abbrev b0 (x:X):=PySem.W.boot_o_0 x.2
abbrev b1 (x:X):=PySem.W.boot_o_1 x.2
abbrev b2 (x:X):=PySem.W.boot_o_2 x.2
abbrev b3 (x:X):=PySem.W.boot_o_3 x.2
abbrev b4 (x:X):=PySem.W.boot_o_4 x.2
abbrev b5 (x:X):=PySem.W.boot_o_5 x.2
abbrev b6 (x:X):=PySem.W.boot_o_6 x.2
abbrev b7 (x:X):=PySem.W.boot_o_7 x.2
abbrev b8 (x:X):=PySem.W.boot_o_8 x.2
abbrev b9 (x:X):=PySem.W.boot_o_9 x.2
abbrev b10 (x:X):=PySem.W.boot_o_10 x.2
abbrev pg (x:X):PySem.Program:=x.1.2.2.2
def nth:List PySem.Stmt->Nat->PySem.Stmt:=λ l=>@List.rec PySem.Stmt (λ _=>Nat->PySem.Stmt) (λ _=>.Pass ⟨0,0,0,0⟩) (λ a _ ih n=>@Nat.rec (λ _=>PySem.Stmt) a (λ m _=>ih m) n) l
abbrev st (x:X) (k:Nat):PySem.Stmt:=nth (pg x).main.body k
def cb:PySem.Stmt->List PySem.Stmt | .ClassDef _ _ _ y _ _ _ _ _ _ _=>y | _=>[]
abbrev sm (x:X) (k m:Nat):PySem.Stmt:=nth (cb (st x k)) m
def f0:PySem.Stmt->Str | .FunctionDef y _ _ _ _ _ _ _ _ _=>y | _=>default
def f1:PySem.Stmt->Arguments | .FunctionDef _ y _ _ _ _ _ _ _ _=>y | _=>default
def f2:PySem.Stmt->List Stmt | .FunctionDef _ _ y _ _ _ _ _ _ _=>y | _=>[]
def f6:PySem.Stmt->Scope | .FunctionDef _ _ _ _ _ _ y _ _ _=>y | _=>default
abbrev u0:=@PySem.Obj.mk
abbrev u1:=@PySem.Value.type
abbrev u2:=@Option.none.{0} (@Nat)
abbrev u3:=@PySem.Data.seq
abbrev u4:=@List.toArray.{0} (@PySem.Value)
abbrev u5:=@List.nil.{0} (@PySem.Value)
abbrev u6:=@List.toArray.{0} (@Option.{0} (@PySem.Value))
abbrev u7:=@List.nil.{0} (@Option.{0} (@PySem.Value))
abbrev u8:=@PySem.Value.none
abbrev u9:=@PySem.Data.fields
abbrev u10:=@List.cons.{0} (@PySem.Value)
abbrev u11:=@PySem.Value.str
abbrev u12:=@PySem.Value.int
abbrev u13:=@PySem.Value.ref
abbrev u14:=@PySem.Value.bool
abbrev u15:=@Bool.false
abbrev u16:=@PySem.Data.plain
abbrev u17:=@List.cons.{0} (@Option.{0} (@PySem.Value))
abbrev u18:=@Option.some.{0} (@PySem.Value)
abbrev u19:=@Option.none.{0} (@PySem.Value)
abbrev u20:=@PySem.Data.dict
abbrev u21:=@List.toArray.{0} (@PySem.DictEntry)
abbrev u22:=@List.cons.{0} (@PySem.DictEntry)
abbrev u23:=@PySem.DictEntry.mk
abbrev u24:=@PySem.PyData.keyHash
abbrev u25:=@PySem.Value.builtin
abbrev u26:=@List.nil.{0} (@PySem.DictEntry)
abbrev u27:=@PySem.Data.func
abbrev u28:=@PySem.FuncData.mk
abbrev u29:=@PySem.FuncBody.stmts
abbrev u30:=@List.nil.{0} (@Prod.{0,0} (@PySem.Str) (@Nat))
abbrev u31:=@Bool.true
abbrev u32:=@PySem.Data.cls
abbrev u33:=@PySem.ClassData.mk
abbrev u34:=@List.nil.{0} (@PySem.Str)
abbrev u35:=@Option.none.{0} (@Bool)
abbrev u36:=@List.cons.{0} (@Prod.{0,0} (@Nat) (@PySem.Obj))
abbrev u37:=@Prod.mk.{0,0} (@Nat) (@PySem.Obj)
abbrev u38:=@List.nil.{0} (@Prod.{0,0} (@Nat) (@PySem.Obj))
abbrev u39:=@PySem.Heap.mk
abbrev u40:=@Array.mk.{0} (@PySem.Obj)
abbrev u41:=@List.cons.{0} (@PySem.Obj)
abbrev u42:=@List.nil.{0} (@PySem.Obj)
abbrev u43:=@PySem.Life.mk
abbrev u44:=@List.nil.{0} (@Nat)
abbrev u45:=@List.nil.{0} (@Prod.{0,0} (@Nat) (@Nat))
abbrev u46:=@List.toArray.{0} (@Nat)
abbrev u47:=@List.cons.{0} (@Int)
abbrev u48:=@List.nil.{0} (@Int)
abbrev u49:=@PySem.W.BT.node
abbrev u50:=@PySem.W.BT.nil
abbrev M (c:PySem.Value) (d:PySem.Data):PySem.Obj:=PySem.Obj.mk c none d #[]
abbrev E (x:X) (s:PySem.Str) (n:Nat) (v:PySem.Value):PySem.DictEntry:=⟨PySem.PyData.keyHash x.2 s,.str s n,v⟩
abbrev N (o:X->PySem.Obj) (l r:X->PySem.W.BT):X->PySem.W.BT:=λ x=>.node (o x) (l x) (r x)
abbrev Z:X->PySem.W.BT:=λ _=>.nil
abbrev Q (o:X->PySem.Obj) (l:X->List PySem.Obj):X->List PySem.Obj:=λ x=>o x :: l x
abbrev R:X->List PySem.Obj:=λ _=>[]
abbrev J (k:Nat) (o:X->PySem.Obj) (l:X->List (Nat × PySem.Obj)):X->List (Nat × PySem.Obj):=λ x=>(k,o x) :: l x
abbrev I:X->List (Nat × PySem.Obj):=λ _=>[]
def k0 (x:X):PySem.Obj:=(M (u1 (l0 x)) (u3 (u4 u5) 0))
def k1 (x:X) (a0:PySem.Str) (a1 a2 a3:Nat) (a4:Int) (a5 a6:Nat) (a7:Int) (a8:Nat):PySem.Obj:=(M (u1 (l1 x)) (u9 (u4 [(u11 a0 a1),(u11 a0 a2),(u11 (s1 x) a3),(u12 a4 0),(u12 0 0),(u12 0 0),(u12 0 0),(u12 0 0),(u13 a5),(u14 u15),(u12 181 0),(u13 a6),u8,u8,u8,u8,(u12 a7 0),(u12 a4 0),(u11 (s1 x) a8)])))
def k2 (x:X) (a0 a1:Nat) (a2:PySem.Str) (a3:Nat):PySem.Obj:=(u0 (u1 (l2 x)) u2 u16 (u6 [(u18 (u13 a0)),(u18 (u13 3)),(u18 (u13 a1)),u19,(u18 (u11 a2 a3)),u19,(u18 (u13 0))]))
def k3 (x:X) (a0:PySem.Str) (a1:Nat):PySem.Obj:=(M (u1 (l0 x)) (u3 (u4 [(u11 a0 a1)]) 0))
def k4 (x:X) (a0:PySem.Str) (a1:PySem.Stmt):PySem.Obj:=(M u8 (u27 (u28 a0 a0 (f1 a1) (u29 (f2 a1)) (f6 a1) 0 u30 u8 u8 u8 u8 u2 u8 u8 0)))
def k5 (x:X) (a0:PySem.Str) (a1:Nat) (a2:PySem.Str) (a3 a4:Nat) (a5 a6:Int) (a7 a8 a9 a10 a11:Nat) (a12:Int) (a13:Nat):PySem.Obj:=(M (u1 (l1 x)) (u9 (u4 [(u11 a0 a1),(u11 a2 a3),(u11 (s1 x) a4),(u12 a5 0),(u12 a6 0),(u12 0 0),(u12 0 0),(u12 3 0),(u13 a7),(u14 u31),(u12 181 0),(u13 a8),u8,(u13 a9),(u13 a10),(u13 a11),(u12 a12 0),(u12 a5 0),(u11 (s1 x) a13)])))
def k6 (x:X) (a0:PySem.Str) (a1:PySem.Stmt) (a2:PySem.Str) (a3 a4:Nat):PySem.Obj:=(M (u1 (l5 x)) (u27 (u28 a0 a0 (f1 a1) (u29 (f2 a1)) (f6 a1) 3 u30 u8 u8 u8 (u11 a2 a3) u2 (u13 a4) u8 0)))
def k7 (x:X):PySem.Obj:=(M (u1 (l7 x)) (u9 (u4 [(u25 (l8 x)),(u1 (l9 x))])))
def k8 (x:X) (a0 a1:Nat) (a2:Int) (a3:Nat) (a4:PySem.Str) (a5 a6:Nat) (a7:PySem.Str) (a8 a9 a10 a11:Nat):PySem.Obj:=(M (u1 (l3 x)) (u20 (u21 [(E x (s16 x) a0 (u11 (s4 x) 194)),(E x (s18 x) a1 (u12 a2 a3)),(E x a4 a5 (u13 a6)),(E x a7 a8 (u13 a9)),(E x (s5 x) a10 u8)]) a11))
def k9 (x:X) (a0 a1:Nat):PySem.Obj:=(M (u1 (l14 x)) (u9 (u4 [(u11 (s20 x) a0),(u13 a1),(u25 (l15 x)),u8])))
def k10 (x:X) (a0:Nat):PySem.Obj:=(M (u1 (l16 x)) (u9 (u4 [(u13 a0),(u13 a0),(u13 a0)])))
def k11 (x:X) (a0:Nat):PySem.Obj:=(M (u1 (l7 x)) (u9 (u4 [(u25 (l17 x)),(u13 a0)])))
def k12 (x:X) (a0:Nat):PySem.Obj:=(M (u1 (l0 x)) (u3 (u4 [(u13 a0)]) 0))
def k13 (x:X) (a0 a1:Nat) (a2:PySem.Str) (a3 a4:Nat) (a5:Int) (a6 a7 a8 a9 a10:Nat):PySem.Obj:=(M (u1 (l3 x)) (u20 (u21 [(E x (s16 x) a0 (u11 (s4 x) 194)),(E x (s17 x) a1 (u11 a2 a3)),(E x (s18 x) a4 (u12 a5 a6)),(E x (s22 x) a7 (u13 a8)),(E x (s19 x) a9 (u13 a10))]) 5))
def k14 (x:X) (a0:Int) (a1:Nat):PySem.Obj:=(M u8 (u9 (u4 [(u12 a0 0),(u12 4 0),(u13 a1)])))
def k15 (x:X) (a0:PySem.Str) (a1:Nat) (a2:PySem.Str) (a3:Nat):PySem.Obj:=(M (u1 (l0 x)) (u3 (u4 [(u11 a0 a1),(u11 a2 a3)]) 0))
def k16 (x:X) (a0 a1:PySem.Str) (a2 a3:PySem.Stmt):PySem.Obj:=(M u8 (u27 (u28 a0 a1 (f1 a2) (u29 (f2 a2)) (f6 a3) 0 u30 u8 u8 u8 u8 u2 u8 u8 0)))
def k17 (x:X) (a0 a1:PySem.Str) (a2 a3:PySem.Stmt) (a4:PySem.Str) (a5 a6:Nat):PySem.Obj:=(M (u1 (l5 x)) (u27 (u28 a0 a1 (f1 a2) (u29 (f2 a2)) (f6 a3) 3 u30 u8 u8 u8 (u11 a4 a5) u2 (u13 a6) u8 0)))
def k18 (x:X) (a0:PySem.Str) (a1 a2 a3 a4 a5:Nat):PySem.Obj:=(u0 (u1 (l9 x)) u2 (u32 (u33 a0 [(u13 31)] [(u13 a1),(u13 31),(u1 (l6 x)),(u1 (l10 x)),(u1 (l11 x)),(u1 (l12 x))] a2 a0 u31 u34 u5 u15 u35 u15)) (u6 [(u18 (u13 a3)),u19,(u18 (u11 a0 a4)),(u18 (u11 a0 a5)),(u18 (u25 (l13 x))),(u18 (u14 u31))]))
def k19 (x:X) (a0 a1:Int) (a2:Nat) (a3:Int) (a4:Nat) (a5:Int) (a6:Nat) (a7:Int) (a8:Nat) (a9:Int) (a10:Nat):PySem.Obj:=(M u8 (u9 (u4 [(u12 a0 0),(u12 a1 0),(u13 a2),(u12 a3 0),(u12 a1 0),(u13 a4),(u12 a5 0),(u12 a1 0),(u13 a6),(u12 a7 0),(u12 a1 0),(u13 a8),(u12 a9 0),(u12 a1 0),(u13 a10)])))
def k20 (x:X) (a0:PySem.Str) (a1:Nat) (a2:PySem.Str) (a3:Nat) (a4:PySem.Str) (a5:Nat):PySem.Obj:=(M (u1 (l0 x)) (u3 (u4 [(u11 a0 a1),(u11 a2 a3),(u11 a4 a5)]) 0))
def k21 (x:X) (a0:PySem.Str) (a1:Nat) (a2:PySem.Str) (a3 a4:Nat) (a5 a6:Int) (a7 a8 a9:Nat) (a10:Int) (a11:Nat):PySem.Obj:=(M (u1 (l1 x)) (u9 (u4 [(u11 a0 a1),(u11 a2 a3),(u11 (s1 x) a4),(u12 a5 0),(u12 a6 0),(u12 0 0),(u12 0 0),(u12 3 0),(u13 a7),(u14 u31),(u12 181 0),(u13 a8),u8,u8,u8,(u13 a9),(u12 a10 0),(u12 a5 0),(u11 (s1 x) a11)])))
def k22 (x:X) (a0:PySem.Str) (a1:Nat) (a2:PySem.Str) (a3:Nat) (a4:PySem.Str) (a5:Nat) (a6:PySem.Str) (a7:Nat) (a8:PySem.Str) (a9:Nat):PySem.Obj:=(M (u1 (l0 x)) (u3 (u4 [(u11 a0 a1),(u11 a2 a3),(u11 a4 a5),(u11 a6 a7),(u11 a8 a9)]) 0))
def k23 (x:X) (a0:PySem.Str) (a1:Nat) (a2:PySem.Str) (a3:Nat) (a4:PySem.Str) (a5:Nat) (a6:PySem.Str) (a7:Nat):PySem.Obj:=(M (u1 (l0 x)) (u3 (u4 [(u11 a0 a1),(u11 a2 a3),(u11 a4 a5),(u11 a6 a7)]) 0))
def k24 (x:X) (a0:PySem.Stmt):PySem.Obj:=(M u8 (u27 (u28 (f0 a0) (f0 a0) (f1 a0) (u29 (f2 a0)) (f6 a0) 0 u30 u8 u8 u8 u8 u2 u8 u8 0)))
def k25 (x:X) (a0:PySem.Stmt) (a1:PySem.Str) (a2 a3:Nat):PySem.Obj:=(M (u1 (l5 x)) (u27 (u28 (f0 a0) (f0 a0) (f1 a0) (u29 (f2 a0)) (f6 a0) 3 u30 u8 u8 u8 (u11 a1 a2) u2 (u13 a3) u8 0)))
variable (x:X)
def o43:=k0 x 
def o44 (x:X):Obj:=(M u8 (u9 (u4 u5)))
def o45:=k1 x (s0 x) 182 183 184 1 11 12 185 186
def o46:=k2 x 13 3 (s2 x) 164
def o49:=(M (u1 (l3 x)) (u20 (u21 [(E x (s3 x) 165 (u11 (s4 x) 194)),(E x (s5 x) 166 u8),(E x (s6 x) 167 u8),(E x (s7 x) 168 (u25 (l4 x))),(E x (s8 x) 169 u8),(E x (s9 x) 170 (u13 6)),(E x (s10 x) 171 (u13 4)),(E x (s11 x) 173 (u11 (s1 x) 172)),(E x (s12 x) 174 u8),(E x (s13 x) 193 (u13 21)),(E x (s14 x) 213 (u13 31))]) 11))
def o50 (x:X):Obj:=(M u8 (u9 (u4 [(u12 1 0),(u12 0 0),(u13 20),(u12 5 0),(u12 0 0),(u13 27)])))
def o51:=k0 x 
def o52 (x:X):Obj:=(M u8 (u9 (u4 u5)))
def o53:=k3 x (s15 x) 190
def o54:=k0 x 
def o55:=k4 x (s13 x) (st x 0)
def o56:=k5 x (s13 x) 187 (s13 x) 188 189 1 1 15 16 17 18 19 191 192
def o57:=k6 x (s13 x) (st x 0) (s2 x) 164 20
def o58:=(M (u1 (l0 x)) (u3 (u4 [(u1 (l6 x))]) 0))
def o59:=k7 x 
def o60:=(M (u1 (l3 x)) (u20 (u21 [(E x (s16 x) 203 (u11 (s4 x) 194)),(E x (s17 x) 205 (u11 (s14 x) 204)),(E x (s18 x) 207 (u12 5 206)),(E x (s19 x) 208 (u13 29))]) 4))
def o61:=k0 x 
def o62 (x:X):Obj:=(M u8 (u9 (u4 u5)))
def o63:=k1 x (s14 x) 198 199 200 5 25 26 201 202
def o64:=k2 x 27 24 (s4 x) 194
def o65:=k0 x 
def o66:=k8 x 203 207 5 206 (s19 x) 208 29 (s20 x) 210 32 211 3
def o67:=(u0 (u1 (l9 x)) u2 (u32 (u33 (s14 x) [(u1 (l6 x))] [(u13 31),(u1 (l6 x)),(u1 (l10 x)),(u1 (l11 x)),(u1 (l12 x))] 30 (s14 x) u31 u34 u5 u15 u35 u15)) (u6 [(u18 (u13 22)),u19,(u18 (u11 (s14 x) 196)),(u18 (u11 (s14 x) 204)),(u18 (u25 (l13 x))),(u18 (u14 u31))]))
def o68:=k9 x 209 31
def o69:=k10 x 31
def o70:=k11 x 31
def o71:=(M (u1 (l3 x)) (u20 (u21 [(E x (s3 x) 165 (u11 (s4 x) 194)),(E x (s5 x) 166 u8),(E x (s6 x) 167 u8),(E x (s7 x) 168 (u25 (l4 x))),(E x (s8 x) 169 u8),(E x (s9 x) 170 (u13 6)),(E x (s10 x) 171 (u13 4)),(E x (s11 x) 173 (u11 (s1 x) 172)),(E x (s12 x) 174 u8),(E x (s13 x) 193 (u13 21)),(E x (s14 x) 213 (u13 31)),(E x (s21 x) 238 (u13 51))]) 12))
def o72 (x:X):Obj:=(M u8 (u9 (u4 [(u12 1 0),(u12 0 0),(u13 20),(u12 5 0),(u12 0 0),(u13 27),(u12 7 0),(u12 0 0),(u13 40)])))
def o73:=(u0 (u1 (l9 x)) u2 (u32 (u33 (s14 x) [(u1 (l6 x))] [(u13 31),(u1 (l6 x)),(u1 (l10 x)),(u1 (l11 x)),(u1 (l12 x))] 30 (s14 x) u31 u34 [(u13 51)] u15 u35 u15)) (u6 [(u18 (u13 22)),u19,(u18 (u11 (s14 x) 196)),(u18 (u11 (s14 x) 204)),(u18 (u25 (l13 x))),(u18 (u14 u31))]))
def o74:=k12 x 31
def o75:=k7 x 
def o76:=k13 x 221 223 (s21 x) 222 225 7 224 233 48 235 49
def o77:=k0 x 
def o78:=k14 x 9 47
def o79:=k1 x (s21 x) 216 217 218 7 38 39 219 220
def o80:=k2 x 40 37 (s4 x) 194
def o81:=k0 x 
def o82 (x:X):Obj:=(M u8 (u9 (u4 u5)))
def o83:=k15 x (s23 x) 229 (s24 x) 230
def o84:=k0 x 
def o85:=k16 x (s22 x) (s25 x) (sm x 3 0) (sm x 3 0)
def o86:=k5 x (s22 x) 226 (s25 x) 227 228 9 2 42 43 44 45 46 231 232
def o87:=k17 x (s22 x) (s25 x) (sm x 3 0) (sm x 3 0) (s4 x) 194 47
def o88:=k3 x (s24 x) 234
def o89:=k8 x 221 225 7 224 (s22 x) 233 48 (s19 x) 235 49 236 2
def o90:=k18 x (s21 x) 51 50 35 214 222
def o91:=k10 x 51
def o92:=k11 x 51
def o93:=(M (u1 (l3 x)) (u20 (u21 [(E x (s3 x) 165 (u11 (s4 x) 194)),(E x (s5 x) 166 u8),(E x (s6 x) 167 u8),(E x (s7 x) 168 (u25 (l4 x))),(E x (s8 x) 169 u8),(E x (s9 x) 170 (u13 6)),(E x (s10 x) 171 (u13 4)),(E x (s11 x) 173 (u11 (s1 x) 172)),(E x (s12 x) 174 u8),(E x (s13 x) 193 (u13 21)),(E x (s14 x) 213 (u13 31)),(E x (s21 x) 238 (u13 51)),(E x (s26 x) 263 (u13 70))]) 13))
def o94 (x:X):Obj:=(M u8 (u9 (u4 [(u12 1 0),(u12 0 0),(u13 20),(u12 5 0),(u12 0 0),(u13 27),(u12 7 0),(u12 0 0),(u13 40),(u12 11 0),(u12 0 0),(u13 59)])))
def o95:=(u0 (u1 (l9 x)) u2 (u32 (u33 (s14 x) [(u1 (l6 x))] [(u13 31),(u1 (l6 x)),(u1 (l10 x)),(u1 (l11 x)),(u1 (l12 x))] 30 (s14 x) u31 u34 [(u13 51),(u13 70)] u15 u35 u15)) (u6 [(u18 (u13 22)),u19,(u18 (u11 (s14 x) 196)),(u18 (u11 (s14 x) 204)),(u18 (u25 (l13 x))),(u18 (u14 u31))]))
def o96:=k12 x 31
def o97:=k7 x 
def o98:=k13 x 246 248 (s26 x) 247 250 11 249 258 67 260 68
def o99:=k0 x 
def mC:=k14 x 13 66
def lU:=k1 x (s26 x) 241 242 243 11 57 58 244 245
def mD:=k2 x 59 56 (s4 x) 194
def lH:=k0 x 
def lT (x:X):Obj:=(M u8 (u9 (u4 u5)))
def ki:=k15 x (s23 x) 254 (s27 x) 255
def lq:=k0 x 
def lY:=k16 x (s22 x) (s28 x) (sm x 4 0) (sm x 4 0)
def kq:=k5 x (s22 x) 251 (s28 x) 252 253 13 2 61 62 63 64 65 256 257
def kj:=k17 x (s22 x) (s28 x) (sm x 4 0) (sm x 4 0) (s4 x) 194 66
def j5:=k3 x (s27 x) 259
def ko:=k8 x 246 250 11 249 (s22 x) 258 67 (s19 x) 260 68 261 2
def kc:=k18 x (s26 x) 70 69 54 239 247
def mF:=k10 x 70
def lW:=k11 x 70
def OJ:=(M (u1 (l3 x)) (u20 (u21 [(E x (s3 x) 165 (u11 (s4 x) 194)),(E x (s5 x) 166 u8),(E x (s6 x) 167 u8),(E x (s7 x) 168 (u25 (l4 x))),(E x (s8 x) 169 u8),(E x (s9 x) 170 (u13 6)),(E x (s10 x) 171 (u13 4)),(E x (s11 x) 173 (u11 (s1 x) 172)),(E x (s12 x) 174 u8),(E x (s13 x) 193 (u13 21)),(E x (s14 x) 213 (u13 31)),(E x (s21 x) 238 (u13 51)),(E x (s26 x) 263 (u13 70)),(E x (s29 x) 288 (u13 89))]) 14))
def Pz:=k19 x 1 0 20 5 27 7 40 11 59 15 78
def OY:=(u0 (u1 (l9 x)) u2 (u32 (u33 (s14 x) [(u1 (l6 x))] [(u13 31),(u1 (l6 x)),(u1 (l10 x)),(u1 (l11 x)),(u1 (l12 x))] 30 (s14 x) u31 u34 [(u13 51),(u13 70),(u13 89)] u15 u35 u15)) (u6 [(u18 (u13 22)),u19,(u18 (u11 (s14 x) 196)),(u18 (u11 (s14 x) 204)),(u18 (u25 (l13 x))),(u18 (u14 u31))]))
def nu:=k12 x 31
def oA:=k7 x 
def oz:=k13 x 271 273 (s29 x) 272 275 15 274 283 86 285 87
def nL:=k0 x 
def nR:=k14 x 17 85
def oh:=k1 x (s29 x) 266 267 268 15 76 77 269 270
def nJ:=k2 x 78 75 (s4 x) 194
def oE:=k0 x 
def nG (x:X):Obj:=(M u8 (u9 (u4 u5)))
def lF:=k15 x (s23 x) 279 (s30 x) 280
def nk:=k0 x 
def nF:=k16 x (s22 x) (s31 x) (sm x 5 0) (sm x 5 0)
def lG:=k5 x (s22 x) 276 (s31 x) 277 278 17 2 80 81 82 83 84 281 282
def lZ:=k17 x (s22 x) (s31 x) (sm x 5 0) (sm x 5 0) (s4 x) 194 85
def lR:=k3 x (s30 x) 284
def mJ:=k8 x 271 275 15 274 (s22 x) 283 86 (s19 x) 285 87 286 2
def lJ:=k18 x (s29 x) 89 88 73 264 272
def nI:=k10 x 89
def nM:=k11 x 89
def Pp:=(M (u1 (l3 x)) (u20 (u21 [(E x (s3 x) 165 (u11 (s32 x) 341)),(E x (s5 x) 166 u8),(E x (s6 x) 167 u8),(E x (s7 x) 168 (u25 (l4 x))),(E x (s8 x) 169 u8),(E x (s9 x) 170 (u13 6)),(E x (s10 x) 171 (u13 4)),(E x (s11 x) 173 (u11 (s1 x) 172)),(E x (s12 x) 174 u8),(E x (s13 x) 193 (u13 21)),(E x (s14 x) 213 (u13 31)),(E x (s21 x) 238 (u13 51)),(E x (s26 x) 263 (u13 70)),(E x (s29 x) 288 (u13 89)),(E x (s33 x) 315 (u13 108)),(E x (s34 x) 317 (u12 18446744073709551615 316)),(E x (s35 x) 326 (u13 117)),(E x (s36 x) 340 (u13 124))]) 18))
def OU (x:X):Obj:=(M u8 (u9 (u4 [(u12 1 0),(u12 0 0),(u13 20),(u12 5 0),(u12 0 0),(u13 27),(u12 7 0),(u12 0 0),(u13 40),(u12 11 0),(u12 0 0),(u13 59),(u12 15 0),(u12 0 0),(u13 78),(u12 19 0),(u12 0 0),(u13 97),(u12 26 0),(u12 0 0),(u13 116),(u12 28 0),(u12 0 0),(u13 123)])))
def nv:=(u0 (u1 (l9 x)) u2 (u32 (u33 (s14 x) [(u1 (l6 x))] [(u13 31),(u1 (l6 x)),(u1 (l10 x)),(u1 (l11 x)),(u1 (l12 x))] 30 (s14 x) u31 u34 [(u13 51),(u13 70),(u13 89),(u13 108)] u15 u35 u15)) (u6 [(u18 (u13 22)),u19,(u18 (u11 (s14 x) 196)),(u18 (u11 (s14 x) 204)),(u18 (u25 (l13 x))),(u18 (u14 u31))]))
def jE:=k12 x 31
def rN:=k7 x 
def pO:=k13 x 296 298 (s33 x) 297 300 19 299 309 105 312 106
def pT:=k0 x 
def qS:=k14 x 21 104
def pW:=k1 x (s33 x) 291 292 293 19 95 96 294 295
def qo:=k2 x 97 94 (s4 x) 194
def rA:=k0 x 
def p6 (x:X):Obj:=(M u8 (u9 (u4 u5)))
def nV:=k20 x (s23 x) 304 (s30 x) 305 (s37 x) 306
def pZ:=k0 x 
def pU:=k16 x (s22 x) (s38 x) (sm x 6 0) (sm x 6 0)
def oB:=k5 x (s22 x) 301 (s38 x) 302 303 21 3 99 100 101 102 103 307 308
def nC:=k17 x (s22 x) (s38 x) (sm x 6 0) (sm x 6 0) (s4 x) 194 104
def nE:=k15 x (s37 x) 310 (s30 x) 311
def nj:=k8 x 296 300 19 299 (s22 x) 309 105 (s19 x) 312 106 313 2
def ou:=k18 x (s33 x) 108 107 92 289 297
def rm:=k10 x 108
def rD:=k11 x 108
def rM:=k0 x 
def qk (x:X):Obj:=(M u8 (u9 (u4 u5)))
def n9:=k3 x (s27 x) 323
def qj:=k0 x 
def qC:=k4 x (s35 x) (st x 9)
def nN:=k5 x (s35 x) 320 (s35 x) 321 322 26 1 111 112 113 114 115 324 325
def ow:=k6 x (s35 x) (st x 9) (s39 x) 318 116
def pN:=k0 x 
def qF (x:X):Obj:=(M u8 (u9 (u4 u5)))
def n5:=(M (u1 (l0 x)) (u3 (u4 [(u11 (s40 x) 330),(u11 (s30 x) 331),(u11 (s41 x) 332),(u11 (s42 x) 333),(u11 (s24 x) 334),(u11 (s43 x) 335),(u11 (s44 x) 336),(u11 (s27 x) 337)]) 0))
def pX:=k0 x 
def qf:=k4 x (s36 x) (st x 10)
def oG:=k5 x (s36 x) 327 (s36 x) 328 329 28 3 118 119 120 121 122 338 339
def nO:=k6 x (s36 x) (st x 10) (s39 x) 318 123
def Pg:=(M (u1 (l3 x)) (u20 (u21 [(E x (s3 x) 165 (u11 (s32 x) 341)),(E x (s5 x) 166 u8),(E x (s6 x) 167 u8),(E x (s7 x) 168 (u25 (l4 x))),(E x (s8 x) 169 u8),(E x (s9 x) 170 (u13 6)),(E x (s10 x) 171 (u13 4)),(E x (s11 x) 173 (u11 (s1 x) 172)),(E x (s12 x) 174 u8),(E x (s13 x) 193 (u13 21)),(E x (s14 x) 213 (u13 31)),(E x (s21 x) 238 (u13 51)),(E x (s26 x) 263 (u13 70)),(E x (s29 x) 288 (u13 89)),(E x (s33 x) 315 (u13 108)),(E x (s34 x) 317 (u12 18446744073709551615 316)),(E x (s35 x) 326 (u13 117)),(E x (s36 x) 340 (u13 124)),(E x (s45 x) 397 (u13 160))]) 19))
def OQ (x:X):Obj:=(M u8 (u9 (u4 [(u12 1 0),(u12 0 0),(u13 20),(u12 5 0),(u12 0 0),(u13 27),(u12 7 0),(u12 0 0),(u13 40),(u12 11 0),(u12 0 0),(u13 59),(u12 15 0),(u12 0 0),(u13 78),(u12 19 0),(u12 0 0),(u13 97),(u12 26 0),(u12 0 0),(u13 116),(u12 28 0),(u12 0 0),(u13 123),(u12 37 0),(u12 0 0),(u13 130)])))
def ue:=k0 x 
def tR:=k7 x 
def sW:=(M (u1 (l3 x)) (u20 (u21 [(E x (s16 x) 350 (u11 (s32 x) 341)),(E x (s17 x) 352 (u11 (s45 x) 351)),(E x (s18 x) 354 (u12 37 353)),(E x (s22 x) 360 (u13 136)),(E x (s46 x) 367 (u13 143)),(E x (s47 x) 374 (u13 150)),(E x (s48 x) 385 (u13 157)),(E x (s19 x) 390 (u13 158))]) 8))
def uP:=k0 x 
def uA (x:X):Obj:=(M u8 (u9 (u4 [(u12 39 0),(u12 4 0),(u13 135),(u12 46 0),(u12 4 0),(u13 142),(u12 49 0),(u12 4 0),(u13 149),(u12 52 0),(u12 4 0),(u13 156)])))
def uc:=k1 x (s45 x) 345 346 347 37 128 129 348 349
def uu:=k2 x 130 127 (s32 x) 341
def uN:=k0 x 
def tU (x:X):Obj:=(M u8 (u9 (u4 u5)))
def tZ:=k16 x (s22 x) (s49 x) (sm x 12 0) (sm x 12 0)
def qY:=k21 x (s22 x) 355 (s49 x) 356 357 39 5 132 133 134 358 359
def qy:=k17 x (s22 x) (s49 x) (sm x 12 0) (sm x 12 0) (s32 x) 341 135
def tV:=k0 x 
def uI (x:X):Obj:=(M u8 (u9 (u4 u5)))
def pA:=k3 x (s23 x) 364
def sY:=k0 x 
def uQ:=k16 x (s46 x) (s50 x) (sm x 12 1) (sm x 12 1)
def pF:=k5 x (s46 x) 361 (s50 x) 362 363 46 1 137 138 139 140 141 365 366
def qc:=k17 x (s46 x) (s50 x) (sm x 12 1) (sm x 12 1) (s32 x) 341 142
def uE:=k0 x 
def tT (x:X):Obj:=(M u8 (u9 (u4 u5)))
def qD:=k3 x (s23 x) 371
def sj:=k0 x 
def tF:=k16 x (s47 x) (s51 x) (sm x 12 2) (sm x 12 2)
def rC:=k5 x (s47 x) 368 (s51 x) 369 370 49 1 144 145 146 147 148 372 373
def qU:=k17 x (s47 x) (s51 x) (sm x 12 2) (sm x 12 2) (s32 x) 341 149
def uv:=k0 x 
def sU (x:X):Obj:=(M u8 (u9 (u4 u5)))
def rG:=k22 x (s23 x) 378 (s52 x) 379 (s53 x) 380 (s41 x) 381 (s54 x) 382
def uL:=k0 x 
def sQ:=k16 x (s48 x) (s55 x) (sm x 12 3) (sm x 12 3)
def p7:=k5 x (s48 x) 375 (s55 x) 376 377 52 3 151 152 153 154 155 383 384
def ql:=k17 x (s48 x) (s55 x) (sm x 12 3) (sm x 12 3) (s32 x) 341 156
def rE:=k23 x (s44 x) 386 (s30 x) 387 (s56 x) 388 (s41 x) 389
def rq:=(M (u1 (l3 x)) (u20 (u21 [(E x (s16 x) 350 (u11 (s32 x) 341)),(E x (s18 x) 354 (u12 37 353)),(E x (s22 x) 360 (u13 136)),(E x (s46 x) 367 (u13 143)),(E x (s47 x) 374 (u13 150)),(E x (s48 x) 385 (u13 157)),(E x (s19 x) 390 (u13 158)),(E x (s57 x) 392 (u13 161)),(E x (s20 x) 394 (u13 162)),(E x (s5 x) 395 u8)]) 4))
def PY:=(u0 (u1 (l9 x)) u2 (u32 (u33 (s45 x) [(u1 (l12 x))] [(u13 160),(u1 (l12 x))] 159 (s45 x) u31 u34 u5 u15 u35 u15)) (u6 [u19,u19,(u18 (u11 (s45 x) 343)),(u18 (u11 (s45 x) 351)),(u18 (u25 (l18 x))),(u18 (u14 u31))]))
def pY:=(M (u1 (l14 x)) (u9 (u4 [(u11 (s57 x) 391),(u13 160),(u25 (l19 x)),(u25 (l20 x))])))
def rB:=k9 x 393 160
def uf:=k10 x 160
def uF:=k11 x 160
def Pw:=(M (u1 (l3 x)) (u20 (u21 [(E x (s3 x) 165 (u11 (s32 x) 341)),(E x (s5 x) 166 u8),(E x (s6 x) 167 u8),(E x (s7 x) 168 (u25 (l4 x))),(E x (s8 x) 169 u8),(E x (s9 x) 170 (u13 6)),(E x (s10 x) 171 (u13 4)),(E x (s11 x) 173 (u11 (s1 x) 172)),(E x (s12 x) 174 u8),(E x (s13 x) 193 (u13 21)),(E x (s14 x) 213 (u13 31)),(E x (s21 x) 238 (u13 51)),(E x (s26 x) 263 (u13 70)),(E x (s29 x) 288 (u13 89)),(E x (s33 x) 315 (u13 108)),(E x (s34 x) 317 (u12 18446744073709551615 316)),(E x (s35 x) 326 (u13 117)),(E x (s36 x) 340 (u13 124)),(E x (s45 x) 397 (u13 160)),(E x (s58 x) 453 (u13 210))]) 20))
def O2 (x:X):Obj:=(M u8 (u9 (u4 [(u12 1 0),(u12 0 0),(u13 20),(u12 5 0),(u12 0 0),(u13 27),(u12 7 0),(u12 0 0),(u13 40),(u12 11 0),(u12 0 0),(u13 59),(u12 15 0),(u12 0 0),(u13 78),(u12 19 0),(u12 0 0),(u13 97),(u12 26 0),(u12 0 0),(u13 116),(u12 28 0),(u12 0 0),(u13 123),(u12 37 0),(u12 0 0),(u13 130),(u12 59 0),(u12 0 0),(u13 170)])))
def OT:=(u0 (u1 (l9 x)) u2 (u32 (u33 (s45 x) [(u1 (l12 x))] [(u13 160),(u1 (l12 x))] 159 (s45 x) u31 u34 [(u13 210)] u15 u35 u15)) (u6 [u19,u19,(u18 (u11 (s45 x) 343)),(u18 (u11 (s45 x) 351)),(u18 (u25 (l18 x))),(u18 (u14 u31))]))
def wc:=k12 x 160
def xN:=k7 x 
def w5:=(M (u1 (l3 x)) (u20 (u21 [(E x (s16 x) 405 (u11 (s32 x) 341)),(E x (s17 x) 407 (u11 (s58 x) 406)),(E x (s18 x) 409 (u12 59 408)),(E x (s22 x) 419 (u13 179)),(E x (s40 x) 426 (u13 186)),(E x (s59 x) 433 (u13 193)),(E x (s60 x) 441 (u13 200)),(E x (s61 x) 449 (u13 207)),(E x (s19 x) 450 (u13 208))]) 9))
def wC:=k0 x 
def vW:=k19 x 61 4 178 64 185 67 192 70 199 73 206
def xZ:=k1 x (s58 x) 400 401 402 59 168 169 403 404
def w9:=k2 x 170 167 (s32 x) 341
def vI:=(M (u1 (l0 x)) (u3 (u4 [u8]) 0))
def vN:=k0 x 
def wo (x:X):Obj:=(M u8 (u9 (u4 u5)))
def tO:=k23 x (s23 x) 413 (s30 x) 414 (s41 x) 415 (s44 x) 416
def xj:=k0 x 
def xJ:=k16 x (s22 x) (s62 x) (sm x 13 0) (sm x 13 0)
def um:=k5 x (s22 x) 410 (s62 x) 411 412 61 4 173 174 175 176 177 417 418
def uO:=(M (u1 (l5 x)) (u27 (u28 (s22 x) (s62 x) (f1 (sm x 13 0)) (u29 (f2 (sm x 13 0))) (f6 (sm x 13 0)) 3 u30 (u13 172) u8 u8 (u11 (s32 x) 341) u2 (u13 178) u8 0)))
def xq:=k0 x 
def xw (x:X):Obj:=(M u8 (u9 (u4 u5)))
def uB:=k3 x (s23 x) 423
def xo:=k0 x 
def xY:=k16 x (s40 x) (s63 x) (sm x 13 1) (sm x 12 2)
def tW:=k5 x (s40 x) 420 (s63 x) 421 422 64 1 180 181 182 183 184 424 425
def tG:=k17 x (s40 x) (s63 x) (sm x 13 1) (sm x 12 2) (s32 x) 341 185
def vL:=k0 x 
def w4 (x:X):Obj:=(M u8 (u9 (u4 u5)))
def sI:=k3 x (s23 x) 430
def xA:=k0 x 
def wz:=k16 x (s59 x) (s64 x) (sm x 13 2) (sm x 12 2)
def sy:=k5 x (s59 x) 427 (s64 x) 428 429 67 1 187 188 189 190 191 431 432
def sF:=k17 x (s59 x) (s64 x) (sm x 13 2) (sm x 12 2) (s32 x) 341 192
def wm:=k0 x 
def vQ (x:X):Obj:=(M u8 (u9 (u4 u5)))
def uR:=k15 x (s23 x) 437 (s65 x) 438
def ya:=k0 x 
def x6:=k16 x (s60 x) (s66 x) (sm x 13 3) (sm x 13 3)
def sr:=k5 x (s60 x) 434 (s66 x) 435 436 70 2 194 195 196 197 198 439 440
def uH:=k17 x (s60 x) (s66 x) (sm x 13 3) (sm x 13 3) (s32 x) 341 199
def wD:=k0 x 
def we (x:X):Obj:=(M u8 (u9 (u4 u5)))
def sX:=k15 x (s23 x) 445 (s41 x) 446
def wg:=k0 x 
def wF:=k16 x (s61 x) (s67 x) (sm x 13 4) (sm x 13 4)
def se:=k5 x (s61 x) 442 (s67 x) 443 444 73 2 201 202 203 204 205 447 448
def uq:=k17 x (s61 x) (s67 x) (sm x 13 4) (sm x 13 4) (s32 x) 341 206
def vR:=k0 x 
def uC:=(M (u1 (l3 x)) (u20 (u21 [(E x (s16 x) 405 (u11 (s32 x) 341)),(E x (s18 x) 409 (u12 59 408)),(E x (s22 x) 419 (u13 179)),(E x (s40 x) 426 (u13 186)),(E x (s59 x) 433 (u13 193)),(E x (s60 x) 441 (u13 200)),(E x (s61 x) 449 (u13 207)),(E x (s19 x) 450 (u13 208)),(E x (s5 x) 451 u8)]) 2))
def tN:=(u0 (u1 (l9 x)) u2 (u32 (u33 (s58 x) [(u13 160)] [(u13 210),(u13 160),(u1 (l12 x))] 209 (s58 x) u31 u34 u5 u15 u35 u15)) (u6 [(u18 (u13 165)),u19,(u18 (u11 (s58 x) 398)),(u18 (u11 (s58 x) 406)),(u18 (u25 (l18 x))),(u18 (u14 u31))]))
def vS:=k10 x 210
def xP:=k11 x 210
def Py:=(M (u1 (l3 x)) (u20 (u21 [(E x (s3 x) 165 (u11 (s68 x) 512)),(E x (s5 x) 166 u8),(E x (s6 x) 167 u8),(E x (s7 x) 168 (u25 (l4 x))),(E x (s8 x) 169 u8),(E x (s9 x) 170 (u13 6)),(E x (s10 x) 171 (u13 4)),(E x (s11 x) 173 (u11 (s1 x) 172)),(E x (s12 x) 174 u8),(E x (s13 x) 193 (u13 21)),(E x (s14 x) 213 (u13 31)),(E x (s21 x) 238 (u13 51)),(E x (s26 x) 263 (u13 70)),(E x (s29 x) 288 (u13 89)),(E x (s33 x) 315 (u13 108)),(E x (s34 x) 317 (u12 18446744073709551615 316)),(E x (s35 x) 326 (u13 117)),(E x (s36 x) 340 (u13 124)),(E x (s45 x) 397 (u13 160)),(E x (s58 x) 453 (u13 210)),(E x (s69 x) 511 (u13 258))]) 21))
def O7 (x:X):Obj:=(M u8 (u9 (u4 [(u12 1 0),(u12 0 0),(u13 20),(u12 5 0),(u12 0 0),(u13 27),(u12 7 0),(u12 0 0),(u13 40),(u12 11 0),(u12 0 0),(u13 59),(u12 15 0),(u12 0 0),(u13 78),(u12 19 0),(u12 0 0),(u13 97),(u12 26 0),(u12 0 0),(u13 116),(u12 28 0),(u12 0 0),(u13 123),(u12 37 0),(u12 0 0),(u13 130),(u12 59 0),(u12 0 0),(u13 170),(u12 75 0),(u12 0 0),(u13 218)])))
def wJ:=(u0 (u1 (l9 x)) u2 (u32 (u33 (s45 x) [(u1 (l12 x))] [(u13 160),(u1 (l12 x))] 159 (s45 x) u31 u34 [(u13 210),(u13 258)] u15 u35 u15)) (u6 [u19,u19,(u18 (u11 (s45 x) 343)),(u18 (u11 (s45 x) 351)),(u18 (u25 (l18 x))),(u18 (u14 u31))]))
def sD:=k12 x 160
def zW:=k7 x 
def zq:=(M (u1 (l3 x)) (u20 (u21 [(E x (s16 x) 461 (u11 (s32 x) 341)),(E x (s17 x) 463 (u11 (s69 x) 462)),(E x (s18 x) 465 (u12 75 464)),(E x (s22 x) 476 (u13 227)),(E x (s40 x) 483 (u13 234)),(E x (s59 x) 490 (u13 241)),(E x (s60 x) 498 (u13 248)),(E x (s61 x) 506 (u13 255)),(E x (s19 x) 508 (u13 256))]) 9))
def zv:=k0 x 
def yE:=k19 x 77 4 226 81 233 84 240 87 247 90 254
def zK:=k1 x (s69 x) 456 457 458 75 216 217 459 460
def z9:=k2 x 218 215 (s32 x) 341
def uD:=(M (u1 (l0 x)) (u3 (u4 [u8]) 0))
def zQ:=k0 x 
def zN (x:X):Obj:=(M u8 (u9 (u4 u5)))
def wI:=k22 x (s23 x) 469 (s37 x) 470 (s30 x) 471 (s41 x) 472 (s44 x) 473
def zG:=k0 x 
def zR:=k16 x (s22 x) (s70 x) (sm x 14 0) (sm x 14 0)
def w6:=k5 x (s22 x) 466 (s70 x) 467 468 77 5 221 222 223 224 225 474 475
def vP:=(M (u1 (l5 x)) (u27 (u28 (s22 x) (s70 x) (f1 (sm x 14 0)) (u29 (f2 (sm x 14 0))) (f6 (sm x 14 0)) 3 u30 (u13 220) u8 u8 (u11 (s32 x) 341) u2 (u13 226) u8 0)))
def zy:=k0 x 
def yF (x:X):Obj:=(M u8 (u9 (u4 u5)))
def xX:=k3 x (s23 x) 480
def zu:=k0 x 
def yM:=k16 x (s40 x) (s71 x) (sm x 14 1) (sm x 12 2)
def xm:=k5 x (s40 x) 477 (s71 x) 478 479 81 1 228 229 230 231 232 481 482
def wU:=k17 x (s40 x) (s71 x) (sm x 14 1) (sm x 12 2) (s32 x) 341 233
def yx:=k0 x 
def zC (x:X):Obj:=(M u8 (u9 (u4 u5)))
def wO:=k3 x (s23 x) 487
def zx:=k0 x 
def zd:=k16 x (s59 x) (s72 x) (sm x 14 2) (sm x 12 2)
def wj:=k5 x (s59 x) 484 (s72 x) 485 486 84 1 235 236 237 238 239 488 489
def wZ:=k17 x (s59 x) (s72 x) (sm x 14 2) (sm x 12 2) (s32 x) 341 240
def yS:=k0 x 
def yK (x:X):Obj:=(M u8 (u9 (u4 u5)))
def wL:=k15 x (s23 x) 494 (s65 x) 495
def zP:=k0 x 
def zE:=k16 x (s60 x) (s73 x) (sm x 14 3) (sm x 13 3)
def vZ:=k5 x (s60 x) 491 (s73 x) 492 493 87 2 242 243 244 245 246 496 497
def xK:=k17 x (s60 x) (s73 x) (sm x 14 3) (sm x 13 3) (s32 x) 341 247
def zk:=k0 x 
def ze (x:X):Obj:=(M u8 (u9 (u4 u5)))
def vU:=k15 x (s23 x) 502 (s41 x) 503
def yW:=k0 x 
def yD:=k16 x (s61 x) (s74 x) (sm x 14 4) (sm x 14 4)
def wu:=k5 x (s61 x) 499 (s74 x) 500 501 90 2 249 250 251 252 253 504 505
def x8:=k17 x (s61 x) (s74 x) (sm x 14 4) (sm x 14 4) (s32 x) 341 254
def wN:=k3 x (s37 x) 507
def xx:=(M (u1 (l3 x)) (u20 (u21 [(E x (s16 x) 461 (u11 (s32 x) 341)),(E x (s18 x) 465 (u12 75 464)),(E x (s22 x) 476 (u13 227)),(E x (s40 x) 483 (u13 234)),(E x (s59 x) 490 (u13 241)),(E x (s60 x) 498 (u13 248)),(E x (s61 x) 506 (u13 255)),(E x (s19 x) 508 (u13 256)),(E x (s5 x) 509 u8)]) 2))
def wM:=(u0 (u1 (l9 x)) u2 (u32 (u33 (s69 x) [(u13 160)] [(u13 258),(u13 160),(u1 (l12 x))] 257 (s69 x) u31 u34 u5 u15 u35 u15)) (u6 [(u18 (u13 213)),u19,(u18 (u11 (s69 x) 454)),(u18 (u11 (s69 x) 462)),(u18 (u25 (l18 x))),(u18 (u14 u31))]))
def zz:=k10 x 258
def zp:=k11 x 258
def Pc:=(M (u1 (l3 x)) (u20 (u21 [(E x (s3 x) 165 (u11 (s75 x) 550)),(E x (s5 x) 166 u8),(E x (s6 x) 167 u8),(E x (s7 x) 168 (u25 (l4 x))),(E x (s8 x) 169 u8),(E x (s9 x) 170 (u13 6)),(E x (s10 x) 171 (u13 4)),(E x (s11 x) 173 (u11 (s1 x) 172)),(E x (s12 x) 174 u8),(E x (s13 x) 193 (u13 21)),(E x (s14 x) 213 (u13 31)),(E x (s21 x) 238 (u13 51)),(E x (s26 x) 263 (u13 70)),(E x (s29 x) 288 (u13 89)),(E x (s33 x) 315 (u13 108)),(E x (s34 x) 317 (u12 18446744073709551615 316)),(E x (s35 x) 326 (u13 117)),(E x (s36 x) 340 (u13 124)),(E x (s45 x) 397 (u13 160)),(E x (s58 x) 453 (u13 210)),(E x (s69 x) 511 (u13 258)),(E x (s76 x) 519 (u13 265)),(E x (s77 x) 530 (u13 272)),(E x (s78 x) 536 (u13 277)),(E x (s79 x) 543 (u13 284)),(E x (s80 x) 549 (u13 289))]) 26))
def OI (x:X):Obj:=(M u8 (u9 (u4 (u10 (u12 1 0) (u10 (u12 0 0) (u10 (u13 20) (u10 (u12 5 0) (u10 (u12 0 0) (u10 (u13 27) (u10 (u12 7 0) (u10 (u12 0 0) [(u13 40),(u12 11 0),(u12 0 0),(u13 59),(u12 15 0),(u12 0 0),(u13 78),(u12 19 0),(u12 0 0),(u13 97),(u12 26 0),(u12 0 0),(u13 116),(u12 28 0),(u12 0 0),(u13 123),(u12 37 0),(u12 0 0),(u13 130),(u12 59 0),(u12 0 0),(u13 170),(u12 75 0),(u12 0 0),(u13 218),(u12 93 0),(u12 0 0),(u13 264),(u12 105 0),(u12 0 0),(u13 271),(u12 111 0),(u12 0 0),(u13 276),(u12 120 0),(u12 0 0),(u13 283),(u12 122 0),(u12 0 0),(u13 288)])))))))))))
def Bu:=k0 x 
def C6 (x:X):Obj:=(M u8 (u9 (u4 u5)))
def C3:=k4 x (s76 x) (st x 16)
def yy:=k21 x (s76 x) 514 (s76 x) 515 516 93 2 261 262 263 517 518
def Ab:=k6 x (s76 x) (st x 16) (s68 x) 512 264
def Bs:=k0 x 
def CQ (x:X):Obj:=(M u8 (u9 (u4 u5)))
def zc:=k22 x (s81 x) 523 (s82 x) 524 (s83 x) 525 (s84 x) 526 (s30 x) 527
def CY:=k0 x 
def BF:=k4 x (s77 x) (st x 17)
def zY:=k5 x (s77 x) 520 (s77 x) 521 522 105 2 266 267 268 269 270 528 529
def Ac:=k6 x (s77 x) (st x 17) (s68 x) 512 271
def Dn:=k0 x 
def BZ (x:X):Obj:=(M u8 (u9 (u4 u5)))
def BX:=k4 x (s78 x) (st x 18)
def zg:=k21 x (s78 x) 531 (s78 x) 532 533 111 2 273 274 275 534 535
def yY:=k6 x (s78 x) (st x 18) (s68 x) 512 276
def CA:=k0 x 
def Cv (x:X):Obj:=(M u8 (u9 (u4 u5)))
def yC:=k3 x (s85 x) 540
def Cr:=k0 x 
def Cd:=k24 x (st x 19)
def yX:=k5 x (s79 x) 537 (s79 x) 538 539 120 1 278 279 280 281 282 541 542
def zm:=k25 x (st x 19) (s68 x) 512 283
def CT:=k0 x 
def Di (x:X):Obj:=(M u8 (u9 (u4 u5)))
def CS:=k4 x (s80 x) (st x 20)
def zX:=k21 x (s80 x) 544 (s80 x) 545 546 122 2 285 286 287 547 548
def yO:=k6 x (s80 x) (st x 20) (s68 x) 512 288
def PM:=(M (u1 (l3 x)) (u20 (u21 [(E x (s3 x) 165 (u11 (s75 x) 550)),(E x (s5 x) 166 u8),(E x (s6 x) 167 u8),(E x (s7 x) 168 (u25 (l4 x))),(E x (s8 x) 169 u8),(E x (s9 x) 170 (u13 6)),(E x (s10 x) 171 (u13 4)),(E x (s11 x) 173 (u11 (s1 x) 172)),(E x (s12 x) 174 u8),(E x (s13 x) 193 (u13 21)),(E x (s14 x) 213 (u13 31)),(E x (s21 x) 238 (u13 51)),(E x (s26 x) 263 (u13 70)),(E x (s29 x) 288 (u13 89)),(E x (s33 x) 315 (u13 108)),(E x (s34 x) 317 (u12 18446744073709551615 316)),(E x (s35 x) 326 (u13 117)),(E x (s36 x) 340 (u13 124)),(E x (s45 x) 397 (u13 160)),(E x (s58 x) 453 (u13 210)),(E x (s69 x) 511 (u13 258)),(E x (s76 x) 519 (u13 265)),(E x (s77 x) 530 (u13 272)),(E x (s78 x) 536 (u13 277)),(E x (s79 x) 543 (u13 284)),(E x (s80 x) 549 (u13 289)),(E x (s86 x) 644 (u13 362))]) 27))
def OL (x:X):Obj:=(M u8 (u9 (u4 (u10 (u12 1 0) (u10 (u12 0 0) (u10 (u13 20) (u10 (u12 5 0) (u10 (u12 0 0) (u10 (u13 27) (u10 (u12 7 0) (u10 (u12 0 0) (u10 (u13 40) (u10 (u12 11 0) (u10 (u12 0 0) [(u13 59),(u12 15 0),(u12 0 0),(u13 78),(u12 19 0),(u12 0 0),(u13 97),(u12 26 0),(u12 0 0),(u13 116),(u12 28 0),(u12 0 0),(u13 123),(u12 37 0),(u12 0 0),(u13 130),(u12 59 0),(u12 0 0),(u13 170),(u12 75 0),(u12 0 0),(u13 218),(u12 93 0),(u12 0 0),(u13 264),(u12 105 0),(u12 0 0),(u13 271),(u12 111 0),(u12 0 0),(u13 276),(u12 120 0),(u12 0 0),(u13 283),(u12 122 0),(u12 0 0),(u13 288),(u12 131 0),(u12 0 0),(u13 295)]))))))))))))))
def Fd:=k0 x 
def GR:=k7 x 
def Eg:=(M (u1 (l3 x)) (u20 (u21 [(E x (s16 x) 559 (u11 (s75 x) 550)),(E x (s17 x) 561 (u11 (s86 x) 560)),(E x (s18 x) 563 (u12 131 562)),(E x (s22 x) 570 (u13 303)),(E x (s87 x) 579 (u13 310)),(E x (s88 x) 588 (u13 317)),(E x (s89 x) 596 (u13 324)),(E x (s90 x) 605 (u13 331)),(E x (s42 x) 612 (u13 338)),(E x (s91 x) 619 (u13 345)),(E x (s92 x) 627 (u13 352)),(E x (s93 x) 634 (u13 359)),(E x (s19 x) 637 (u13 360))]) 13))
def EC:=k0 x 
def FF (x:X):Obj:=(M u8 (u9 (u4 [(u12 133 0),(u12 4 0),(u13 302),(u12 137 0),(u12 4 0),(u13 309),(u12 142 0),(u12 4 0),(u13 316),(u12 146 0),(u12 4 0),(u13 323),(u12 151 0),(u12 4 0),(u13 330),(u12 156 0),(u12 4 0),(u13 337),(u12 159 0),(u12 4 0),(u13 344),(u12 162 0),(u12 4 0),(u13 351),(u12 168 0),(u12 4 0),(u13 358)])))
def Fv:=k1 x (s86 x) 554 555 556 131 293 294 557 558
def Er:=k2 x 295 292 (s75 x) 550
def Ec:=k0 x 
def GN (x:X):Obj:=(M u8 (u9 (u4 u5)))
def Cb:=k3 x (s23 x) 567
def Ek:=k0 x 
def GL:=k16 x (s22 x) (s94 x) (sm x 22 0) (sm x 12 2)
def BE:=k5 x (s22 x) 564 (s94 x) 565 566 133 1 297 298 299 300 301 568 569
def Ci:=k17 x (s22 x) (s94 x) (sm x 22 0) (sm x 12 2) (s75 x) 550 302
def GF:=k0 x 
def EU (x:X):Obj:=(M u8 (u9 (u4 u5)))
def Bk:=k20 x (s23 x) 574 (s89 x) 575 (s27 x) 576
def G8:=k0 x 
def ER:=k16 x (s87 x) (s95 x) (sm x 22 1) (sm x 22 1)
def Dd:=k5 x (s87 x) 571 (s95 x) 572 573 137 2 304 305 306 307 308 577 578
def BC:=k17 x (s87 x) (s95 x) (sm x 22 1) (sm x 22 1) (s75 x) 550 309
def EB:=k0 x 
def Fw (x:X):Obj:=(M u8 (u9 (u4 u5)))
def CF:=k20 x (s23 x) 583 (s27 x) 584 (s89 x) 585
def Ho:=k0 x 
def Fp:=k16 x (s88 x) (s96 x) (sm x 22 2) (sm x 22 2)
def B3:=k5 x (s88 x) 580 (s96 x) 581 582 142 3 311 312 313 314 315 586 587
def C9:=k17 x (s88 x) (s96 x) (sm x 22 2) (sm x 22 2) (s75 x) 550 316
def EG:=k0 x 
def EK (x:X):Obj:=(M u8 (u9 (u4 u5)))
def CI:=k15 x (s23 x) 592 (s27 x) 593
def G9:=k0 x 
def EL:=k16 x (s89 x) (s97 x) (sm x 22 3) (sm x 22 3)
def BL:=k5 x (s89 x) 589 (s97 x) 590 591 146 2 318 319 320 321 322 594 595
def Dk:=k17 x (s89 x) (s97 x) (sm x 22 3) (sm x 22 3) (s75 x) 550 323
def FJ:=k0 x 
def Fg (x:X):Obj:=(M u8 (u9 (u4 u5)))
def CL:=k20 x (s23 x) 600 (s27 x) 601 (s89 x) 602
def Ft:=k0 x 
def Ef:=k16 x (s90 x) (s98 x) (sm x 22 4) (sm x 22 4)
def B4:=k5 x (s90 x) 597 (s98 x) 598 599 151 2 325 326 327 328 329 603 604
def C4:=k17 x (s90 x) (s98 x) (sm x 22 4) (sm x 22 4) (s75 x) 550 330
def EM:=k0 x 
def GQ (x:X):Obj:=(M u8 (u9 (u4 u5)))
def Dm:=k3 x (s23 x) 609
def GS:=k0 x 
def Ea:=k16 x (s42 x) (s99 x) (sm x 22 5) (sm x 22 5)
def CZ:=k5 x (s42 x) 606 (s99 x) 607 608 156 1 332 333 334 335 336 610 611
def BP:=k17 x (s42 x) (s99 x) (sm x 22 5) (sm x 22 5) (s75 x) 550 337
def FG:=k0 x 
def Gu (x:X):Obj:=(M u8 (u9 (u4 u5)))
def BS:=k3 x (s23 x) 616
def GD:=k0 x 
def GI:=k16 x (s91 x) (Jm x) (sm x 22 6) (sm x 12 2)
def C1:=k5 x (s91 x) 613 (Jm x) 614 615 159 1 339 340 341 342 343 617 618
def Cs:=k17 x (s91 x) (Jm x) (sm x 22 6) (sm x 12 2) (s75 x) 550 344
def Ey:=k0 x 
def Gd (x:X):Obj:=(M u8 (u9 (u4 u5)))
def CV:=k15 x (s23 x) 623 (PX x) 624
def EX:=k0 x 
def FE:=k16 x (s92 x) (Jo x) (sm x 22 7) (sm x 22 7)
def Cp:=k5 x (s92 x) 620 (Jo x) 621 622 162 1 346 347 348 349 350 625 626
def CK:=k17 x (s92 x) (Jo x) (sm x 22 7) (sm x 22 7) (s75 x) 550 351
def GU:=k0 x 
def Gr (x:X):Obj:=(M u8 (u9 (u4 u5)))
def BK:=k3 x (s23 x) 631
def Ej:=k0 x 
def Ew:=k16 x (s93 x) (Lf x) (sm x 22 8) (sm x 12 1)
def Bo:=k5 x (s93 x) 628 (Lf x) 629 630 168 1 353 354 355 356 357 632 633
def De:=k17 x (s93 x) (Lf x) (sm x 22 8) (sm x 12 1) (s75 x) 550 358
def BH:=k15 x (PU x) 635 (s85 x) 636
def CU:=(M (u1 (l3 x)) (u20 (u21 [(E x (s16 x) 559 (u11 (s75 x) 550)),(E x (s18 x) 563 (u12 131 562)),(E x (s22 x) 570 (u13 303)),(E x (s87 x) 579 (u13 310)),(E x (s88 x) 588 (u13 317)),(E x (s89 x) 596 (u13 324)),(E x (s90 x) 605 (u13 331)),(E x (s42 x) 612 (u13 338)),(E x (s91 x) 619 (u13 345)),(E x (s92 x) 627 (u13 352)),(E x (s93 x) 634 (u13 359)),(E x (s19 x) 637 (u13 360)),(E x (s57 x) 639 (u13 363)),(E x (s20 x) 641 (u13 364)),(E x (s5 x) 642 u8)]) 4))
def Cw:=(u0 (u1 (l9 x)) u2 (u32 (u33 (s86 x) [(u1 (l12 x))] [(u13 362),(u1 (l12 x))] 361 (s86 x) u31 u34 u5 u15 u35 u15)) (u6 [u19,u19,(u18 (u11 (s86 x) 552)),(u18 (u11 (s86 x) 560)),(u18 (u25 (l18 x))),(u18 (u14 u31))]))
def Bx:=(M (u1 (l14 x)) (u9 (u4 [(u11 (s57 x) 638),(u13 362),(u25 (l19 x)),(u25 (l20 x))])))
def Cy:=k9 x 640 362
def Fi:=k10 x 362
def FH:=k11 x 362
def O8:=(M (u1 (l3 x)) (u20 (u21 [(E x (s3 x) 165 (u11 (gj x) 645)),(E x (s5 x) 166 u8),(E x (s6 x) 167 u8),(E x (s7 x) 168 (u25 (l4 x))),(E x (s8 x) 169 u8),(E x (s9 x) 170 (u13 6)),(E x (s10 x) 171 (u13 4)),(E x (s11 x) 173 (u11 (s1 x) 172)),(E x (s12 x) 174 u8),(E x (s13 x) 193 (u13 21)),(E x (s14 x) 213 (u13 31)),(E x (s21 x) 238 (u13 51)),(E x (s26 x) 263 (u13 70)),(E x (s29 x) 288 (u13 89)),(E x (s33 x) 315 (u13 108)),(E x (s34 x) 317 (u12 18446744073709551615 316)),(E x (s35 x) 326 (u13 117)),(E x (s36 x) 340 (u13 124)),(E x (s45 x) 397 (u13 160)),(E x (s58 x) 453 (u13 210)),(E x (s69 x) 511 (u13 258)),(E x (s76 x) 519 (u13 265)),(E x (s77 x) 530 (u13 272)),(E x (s78 x) 536 (u13 277)),(E x (s79 x) 543 (u13 284)),(E x (s80 x) 549 (u13 289)),(E x (s86 x) 644 (u13 362)),(E x (Ae x) 654 (u13 373)),(E x (yP x) 661 (u13 380)),(E x (zo x) 670 (u13 387)),(E x (Aa x) 678 (u13 394)),(E x (Eh x) 688 (u13 401)),(E x (Fx x) 694 (u13 406)),(E x (EV x) 707 (u13 413)),(E x (ET x) 713 (u13 418)),(E x (Aj x) 725 (u13 425)),(E x (EZ x) 731 (u13 430)),(E x (yV x) 750 (u13 437)),(E x (zA x) 764 (u13 444))]) 39))
def Po (x:X):Obj:=(M u8 (u9 (u4 (u10 (u12 1 0) (u10 (u12 0 0) (u10 (u13 20) (u10 (u12 5 0) (u10 (u12 0 0) (u10 (u13 27) (u10 (u12 7 0) (u10 (u12 0 0) (u10 (u13 40) (u10 (u12 11 0) (u10 (u12 0 0) (u10 (u13 59) (u10 (u12 15 0) (u10 (u12 0 0) (u10 (u13 78) (u10 (u12 19 0) (u10 (u12 0 0) (u10 (u13 97) (u10 (u12 26 0) (u10 (u12 0 0) (u10 (u13 116) (u10 (u12 28 0) (u10 (u12 0 0) (u10 (u13 123) (u10 (u12 37 0) (u10 (u12 0 0) (u10 (u13 130) (u10 (u12 59 0) (u10 (u12 0 0) (u10 (u13 170) (u10 (u12 75 0) (u10 (u12 0 0) (u10 (u13 218) (u10 (u12 93 0) (u10 (u12 0 0) (u10 (u13 264) (u10 (u12 105 0) (u10 (u12 0 0) (u10 (u13 271) (u10 (u12 111 0) (u10 (u12 0 0) (u10 (u13 276) (u10 (u12 120 0) (u10 (u12 0 0) (u10 (u13 283) (u10 (u12 122 0) (u10 (u12 0 0) [(u13 288),(u12 131 0),(u12 0 0),(u13 295),(u12 171 0),(u12 0 0),(u13 372),(u12 175 0),(u12 0 0),(u13 379),(u12 177 0),(u12 0 0),(u13 386),(u12 180 0),(u12 0 0),(u13 393),(u12 188 0),(u12 0 0),(u13 400),(u12 197 0),(u12 0 0),(u13 405),(u12 199 0),(u12 0 0),(u13 412),(u12 207 0),(u12 0 0),(u13 417),(u12 215 0),(u12 0 0),(u13 424),(u12 227 0),(u12 0 0),(u13 429),(u12 232 0),(u12 0 0),(u13 436),(u12 246 0),(u12 0 0),(u13 443)]))))))))))))))))))))))))))))))))))))))))))))))))))
def Jv:=k0 x 
def JA (x:X):Obj:=(M u8 (u9 (u4 u5)))
def FO:=k15 x (Jt x) 650 (KU x) 651
def Jx:=k0 x 
def IT:=k4 x (Ae x) (st x 24)
def Em:=k5 x (Ae x) 647 (Ae x) 648 649 171 2 367 368 369 370 371 652 653
def FW:=k6 x (Ae x) (st x 24) (gj x) 645 372
def Kd:=k0 x 
def Ld (x:X):Obj:=(M u8 (u9 (u4 u5)))
def Fe:=k3 x (Nk x) 658
def Je:=k0 x 
def JS:=k4 x (yP x) (st x 25)
def Ei:=k5 x (yP x) 655 (yP x) 656 657 175 1 374 375 376 377 378 659 660
def FZ:=k6 x (yP x) (st x 25) (gj x) 645 379
def Jr:=k0 x 
def K9 (x:X):Obj:=(M u8 (u9 (u4 u5)))
def Gs:=k20 x (EN x) 665 (KU x) 666 (Gx x) 667
def Ji:=k0 x 
def Jp:=k4 x (zo x) (st x 26)
def Et:=k5 x (zo x) 662 (zo x) 663 664 177 2 381 382 383 384 385 668 669
def GZ:=k6 x (zo x) (st x 26) (gj x) 645 386
def IW:=k0 x 
def JQ (x:X):Obj:=(M u8 (u9 (u4 u5)))
def El:=k15 x (EN x) 674 (KU x) 675
def KO:=k0 x 
def KG:=k4 x (Aa x) (st x 27)
def Fj:=k5 x (Aa x) 671 (Aa x) 672 673 180 2 388 389 390 391 392 676 677
def Fq:=k6 x (Aa x) (st x 27) (gj x) 645 393
def JO:=k0 x 
def JF (x:X):Obj:=(M u8 (u9 (u4 u5)))
def Gv:=k23 x (Nk x) 682 (Eu x) 683 (OW x) 684 (Nz x) 685
def Jj:=k0 x 
def Ke:=k24 x (st x 28)
def GG:=k5 x (Eh x) 679 (Eh x) 680 681 188 2 395 396 397 398 399 686 687
def Ge:=k25 x (st x 28) (gj x) 645 400
def JC:=k0 x 
def JB (x:X):Obj:=(M u8 (u9 (u4 u5)))
def K5:=k24 x (st x 29)
def Gb:=k21 x (Fx x) 689 (Fx x) 690 691 197 2 402 403 404 692 693
def Eb:=k25 x (st x 29) (gj x) 645 405
def K8:=k0 x 
def IQ (x:X):Obj:=(M u8 (u9 (u4 u5)))
def Gp:=(M (u1 (l0 x)) (u3 (u4 [(u11 (Pb x) 698),(u11 (Mn x) 699),(u11 (Ng x) 700),(u11 (Nz x) 701),(u11 (OM x) 702),(u11 (OV x) 703),(u11 (Ph x) 704)]) 0))
def Lj:=k0 x 
def Jk:=k24 x (st x 30)
def GH:=k5 x (EV x) 695 (EV x) 696 697 199 2 407 408 409 410 411 705 706
def Gf:=k25 x (st x 30) (gj x) 645 412
def KD:=k0 x 
def KA (x:X):Obj:=(M u8 (u9 (u4 u5)))
def Jc:=k24 x (st x 31)
def Ex:=k21 x (ET x) 708 (ET x) 709 710 207 4 414 415 416 711 712
def Gy:=k25 x (st x 31) (gj x) 645 417
def Ja:=k0 x 
def K0 (x:X):Obj:=(M u8 (u9 (u4 u5)))
def Hi:=(M (u1 (l0 x)) (u3 (u4 [(u11 (Jt x) 717),(u11 (MA x) 718),(u11 (OH x) 719),(u11 (EE x) 720),(u11 (EN x) 721),(u11 (Gg x) 722)]) 0))
def JP:=k0 x 
def Kn:=k4 x (Aj x) (st x 32)
def EW:=k5 x (Aj x) 714 (Aj x) 715 716 215 2 419 420 421 422 423 723 724
def Gh:=k6 x (Aj x) (st x 32) (gj x) 645 424
def Lc:=k0 x 
def La (x:X):Obj:=(M u8 (u9 (u4 u5)))
def KW:=k24 x (st x 33)
def ED:=k21 x (EZ x) 726 (EZ x) 727 728 227 3 426 427 428 729 730
def FU:=k25 x (st x 33) (gj x) 645 429
def IS:=k0 x 
def K1 (x:X):Obj:=(M u8 (u9 (u4 u5)))
def FQ:=(M (u1 (l0 x)) (u3 (u4 [(u11 (Jt x) 735),(u11 (MA x) 736),(u11 (Mn x) 737),(u11 (Ng x) 738),(u11 (EN x) 739),(u11 (O1 x) 740),(u11 (O4 x) 741),(u11 (KS x) 742),(u11 (Gg x) 743),(u11 (EE x) 744),(u11 (PV x) 745),(u11 (Eu x) 746),(u11 (Gx x) 747)]) 0))
def Ln:=k0 x 
def Lb:=k4 x (yV x) (st x 34)
def D9:=k5 x (yV x) 732 (yV x) 733 734 232 4 431 432 433 434 435 748 749
def GY:=k6 x (yV x) (st x 34) (gj x) 645 436
def JU:=k0 x 
def Kl (x:X):Obj:=(M u8 (u9 (u4 u5)))
def GO:=(M (u1 (l0 x)) (u3 (u4 [(u11 (KS x) 754),(u11 (MZ x) 755),(u11 (Gx x) 756),(u11 (Gg x) 757),(u11 (EE x) 758),(u11 (Eu x) 759),(u11 (MH x) 760),(u11 (Ny x) 761)]) 0))
def Kr:=k0 x 
def JY:=k4 x (zA x) (st x 35)
def Fz:=k5 x (zA x) 751 (zA x) 752 753 246 1 438 439 440 441 442 762 763
def Ep:=k6 x (zA x) (st x 35) (gj x) 645 443
def Ka:=(M (u1 (l3 x)) (u20 (u21 (u22 (E x (s3 x) 165 (u11 (gj x) 645)) (u22 (E x (s5 x) 166 u8) (u22 (E x (s6 x) 167 u8) (u22 (E x (s7 x) 168 (u25 (l4 x))) (u22 (E x (s8 x) 169 u8) [(E x (s9 x) 170 (u13 6)),(E x (s10 x) 171 (u13 4)),(E x (s11 x) 173 (u11 (s1 x) 172)),(E x (s12 x) 174 u8),(E x (s13 x) 193 (u13 21)),(E x (s14 x) 213 (u13 31)),(E x (s21 x) 238 (u13 51)),(E x (s26 x) 263 (u13 70)),(E x (s29 x) 288 (u13 89)),(E x (s33 x) 315 (u13 108)),(E x (s34 x) 317 (u12 18446744073709551615 316)),(E x (s35 x) 326 (u13 117)),(E x (s36 x) 340 (u13 124)),(E x (s45 x) 397 (u13 160)),(E x (s58 x) 453 (u13 210)),(E x (s69 x) 511 (u13 258)),(E x (s76 x) 519 (u13 265)),(E x (s77 x) 530 (u13 272)),(E x (s78 x) 536 (u13 277)),(E x (s79 x) 543 (u13 284)),(E x (s80 x) 549 (u13 289)),(E x (s86 x) 644 (u13 362)),(E x (Ae x) 654 (u13 373)),(E x (yP x) 661 (u13 380)),(E x (zo x) 670 (u13 387)),(E x (Aa x) 678 (u13 394)),(E x (Eh x) 688 (u13 401)),(E x (Fx x) 694 (u13 406)),(E x (EV x) 707 (u13 413)),(E x (ET x) 713 (u13 418)),(E x (Aj x) 725 (u13 425)),(E x (EZ x) 731 (u13 430)),(E x (yV x) 750 (u13 437)),(E x (zA x) 764 (u13 444)),(E x (CO x) 770 (u13 449)),(E x (Jg x) 776 (u13 454)),(E x (KR x) 782 (u13 459)),(E x (Bl x) 797 (u13 466)),(E x (B5 x) 803 (u13 471)),(E x (BG x) 809 (u13 476))])))))) 45))
def Ni (x:X):Obj:=(M u8 (u9 (u4 (u10 (u12 1 0) (u10 (u12 0 0) (u10 (u13 20) (u10 (u12 5 0) (u10 (u12 0 0) (u10 (u13 27) (u10 (u12 7 0) (u10 (u12 0 0) (u10 (u13 40) (u10 (u12 11 0) (u10 (u12 0 0) (u10 (u13 59) (u10 (u12 15 0) (u10 (u12 0 0) (u10 (u13 78) (u10 (u12 19 0) (u10 (u12 0 0) (u10 (u13 97) (u10 (u12 26 0) (u10 (u12 0 0) (u10 (u13 116) (u10 (u12 28 0) (u10 (u12 0 0) (u10 (u13 123) (u10 (u12 37 0) (u10 (u12 0 0) (u10 (u13 130) (u10 (u12 59 0) (u10 (u12 0 0) (u10 (u13 170) (u10 (u12 75 0) (u10 (u12 0 0) (u10 (u13 218) (u10 (u12 93 0) (u10 (u12 0 0) (u10 (u13 264) (u10 (u12 105 0) (u10 (u12 0 0) (u10 (u13 271) (u10 (u12 111 0) (u10 (u12 0 0) (u10 (u13 276) (u10 (u12 120 0) (u10 (u12 0 0) (u10 (u13 283) (u10 (u12 122 0) (u10 (u12 0 0) (u10 (u13 288) (u10 (u12 131 0) (u10 (u12 0 0) (u10 (u13 295) (u10 (u12 171 0) (u10 (u12 0 0) (u10 (u13 372) (u10 (u12 175 0) (u10 (u12 0 0) (u10 (u13 379) (u10 (u12 177 0) (u10 (u12 0 0) (u10 (u13 386) (u10 (u12 180 0) (u10 (u12 0 0) (u10 (u13 393) (u10 (u12 188 0) (u10 (u12 0 0) [(u13 400),(u12 197 0),(u12 0 0),(u13 405),(u12 199 0),(u12 0 0),(u13 412),(u12 207 0),(u12 0 0),(u13 417),(u12 215 0),(u12 0 0),(u13 424),(u12 227 0),(u12 0 0),(u13 429),(u12 232 0),(u12 0 0),(u13 436),(u12 246 0),(u12 0 0),(u13 443),(u12 260 0),(u12 0 0),(u13 448),(u12 270 0),(u12 0 0),(u13 453),(u12 275 0),(u12 0 0),(u13 458),(u12 287 0),(u12 0 0),(u13 465),(u12 302 0),(u12 0 0),(u13 470),(u12 312 0),(u12 0 0),(u13 475)]))))))))))))))))))))))))))))))))))))))))))))))))))))))))))))))))))))
def Mv:=k0 x 
def NI (x:X):Obj:=(M u8 (u9 (u4 u5)))
def Nx:=k4 x (CO x) (st x 36)
def Kh:=k21 x (CO x) 765 (CO x) 766 767 260 2 445 446 447 768 769
def KH:=k6 x (CO x) (st x 36) (gj x) 645 448
def Mi:=k0 x 
def Mj (x:X):Obj:=(M u8 (u9 (u4 u5)))
def NC:=k24 x (st x 37)
def Jf:=k21 x (Jg x) 771 (Jg x) 772 773 270 2 450 451 452 774 775
def JE:=k25 x (st x 37) (gj x) 645 453
def NO:=k0 x 
def Nv (x:X):Obj:=(M u8 (u9 (u4 u5)))
def MI:=k24 x (st x 38)
def KJ:=k21 x (KR x) 777 (KR x) 778 779 275 4 455 456 457 780 781
def Lp:=k25 x (st x 38) (gj x) 645 458
def ND:=k0 x 
def MN (x:X):Obj:=(M u8 (u9 (u4 u5)))
def Ku:=(M (u1 (l0 x)) (u3 (u4 [(u11 (MZ x) 786),(u11 (KS x) 787),(u11 (PB x) 788),(u11 (Gx x) 789),(u11 (Gg x) 790),(u11 (EE x) 791),(u11 (Eu x) 792),(u11 (MH x) 793),(u11 (Ny x) 794)]) 0))
def Mg:=k0 x 
def MW:=k4 x (Bl x) (st x 39)
def Jh:=k5 x (Bl x) 783 (Bl x) 784 785 287 3 460 461 462 463 464 795 796
def Ks:=k6 x (Bl x) (st x 39) (gj x) 645 465
def MX:=k0 x 
def MV (x:X):Obj:=(M u8 (u9 (u4 u5)))
def NK:=k4 x (B5 x) (st x 40)
def Jb:=k21 x (B5 x) 798 (B5 x) 799 800 302 5 467 468 469 801 802
def Lm:=k6 x (B5 x) (st x 40) (gj x) 645 470
def aM:=k0 x 
def Nb (x:X):Obj:=(M u8 (u9 (u4 u5)))
def Nu:=k4 x (BG x) (st x 41)
def JG:=k21 x (BG x) 804 (BG x) 805 806 312 1 472 473 474 807 808
def IX:=k6 x (BG x) (st x 41) (gj x) 645 475
def q1 (x:X):PySem.Obj:=(M u8 (u20 (u21 u26) 0))
def heap39:X->PySem.W.Frag:=(J 2 q1 (J 3 Ka (J 15 aM (J 17 o53 (J 18 aM (J 20 o56 (J 21 o57 (J 22 o58 (J 29 aM (J 30 o66 (J 31 nv (J 32 o68 (J 35 jE (J 42 aM (J 44 o83 (J 45 aM (J 47 o86 (J 48 o87 (J 49 o88 (J 50 o89 (J 51 o90 (J 54 jE (J 61 aM (J 63 ki (J 64 aM (J 66 kq (J 67 kj (J 68 j5 (J 69 ko (J 70 kc (J 73 jE (J 80 aM (J 82 lF (J 83 aM (J 85 lG (J 86 lZ (J 87 lR (J 88 mJ (J 89 lJ (J 92 jE (J 99 aM (J 101 nV (J 102 aM (J 104 oB (J 105 nC (J 106 nE (J 107 nj (J 108 ou (J 111 aM (J 113 n9 (J 114 aM (J 116 nN (J 117 ow (J 118 aM (J 120 n5 (J 121 aM (J 123 oG (J 124 nO (J 132 aM (J 135 qY (J 136 qy (J 137 aM (J 139 pA (J 140 aM (J 142 pF (J 143 qc (J 144 aM (J 146 qD (J 147 aM (J 149 rC (J 150 qU (J 151 aM (J 153 rG (J 154 aM (J 156 p7 (J 157 ql (J 158 rE (J 159 rq (J 160 wJ (J 161 pY (J 162 rB (J 165 sD (J 172 uD (J 173 aM (J 175 tO (J 176 aM (J 178 um (J 179 uO (J 180 aM (J 182 uB (J 183 aM (J 185 tW (J 186 tG (J 187 aM (J 189 sI (J 190 aM (J 192 sy (J 193 sF (J 194 aM (J 196 uR (J 197 aM (J 199 sr (J 200 uH (J 201 aM (J 203 sX (J 204 aM (J 206 se (J 207 uq (J 208 aM (J 209 uC (J 210 tN (J 213 sD (J 220 uD (J 221 aM (J 223 wI (J 224 aM (J 226 w6 (J 227 vP (J 228 aM (J 230 xX (J 231 aM (J 233 xm (J 234 wU (J 235 aM (J 237 wO (J 238 aM (J 240 wj (J 241 wZ (J 242 aM (J 244 wL (J 245 aM (J 247 vZ (J 248 xK (J 249 aM (J 251 vU (J 252 aM (J 254 wu (J 255 x8 (J 256 wN (J 257 xx (J 258 wM (J 261 aM (J 264 yy (J 265 Ab (J 266 aM (J 268 zc (J 269 aM (J 271 zY (J 272 Ac (J 273 aM (J 276 zg (J 277 yY (J 278 aM (J 280 yC (J 281 aM (J 283 yX (J 284 zm (J 285 aM (J 288 zX (J 289 yO (J 297 aM (J 299 Cb (J 300 aM (J 302 BE (J 303 Ci (J 304 aM (J 306 Bk (J 307 aM (J 309 Dd (J 310 BC (J 311 aM (J 313 CF (J 314 aM (J 316 B3 (J 317 C9 (J 318 aM (J 320 CI (J 321 aM (J 323 BL (J 324 Dk (J 325 aM (J 327 CL (J 328 aM (J 330 B4 (J 331 C4 (J 332 aM (J 334 Dm (J 335 aM (J 337 CZ (J 338 BP (J 339 aM (J 341 BS (J 342 aM (J 344 C1 (J 345 Cs (J 346 aM (J 348 CV (J 349 aM (J 351 Cp (J 352 CK (J 353 aM (J 355 BK (J 356 aM (J 358 Bo (J 359 De (J 360 BH (J 361 CU (J 362 Cw (J 363 Bx (J 364 Cy (J 367 aM (J 369 FO (J 370 aM (J 372 Em (J 373 FW (J 374 aM (J 376 Fe (J 377 aM (J 379 Ei (J 380 FZ (J 381 aM (J 383 Gs (J 384 aM (J 386 Et (J 387 GZ (J 388 aM (J 390 El (J 391 aM (J 393 Fj (J 394 Fq (J 395 aM (J 397 Gv (J 398 aM (J 400 GG (J 401 Ge (J 402 aM (J 405 Gb (J 406 Eb (J 407 aM (J 409 Gp (J 410 aM (J 412 GH (J 413 Gf (J 414 aM (J 417 Ex (J 418 Gy (J 419 aM (J 421 Hi (J 422 aM (J 424 EW (J 425 Gh (J 426 aM (J 429 ED (J 430 FU (J 431 aM (J 433 FQ (J 434 aM (J 436 D9 (J 437 GY (J 438 aM (J 440 GO (J 441 aM (J 443 Fz (J 444 Ep (J 445 aM (J 448 Kh (J 449 KH (J 450 aM (J 453 Jf (J 454 JE (J 455 aM (J 458 KJ (J 459 Lp (J 460 aM (J 462 Ku (J 463 aM (J 465 Jh (J 466 Ks (J 467 aM (J 470 Jb (J 471 Lm (J 472 aM (J 475 JG (J 476 IX I))))))))))))))))))))))))))))))))))))))))))))))))))))))))))))))))))))))))))))))))))))))))))))))))))))))))))))))))))))))))))))))))))))))))))))))))))))))))))))))))))))))))))))))))))))))))))))))))))))))))))))))))))))))))))))))))))))))))))))))))))))))))))))))))))))))))))))))))))))))))))))
def heap46:X->PySem.Heap:=λ x=>u39 (u40 ((Q b0 (Q b1 (Q b2 (Q b3 (Q b4 (Q b5 (Q b6 (Q b7 (Q b8 (Q b9 (Q b10 (Q o43 (Q o44 (Q o45 (Q o46 R))))))))))))))) x)) (u43 u44 u44 u44 0 u45 u44 u15 (u46 u44) u44 0 u15 u15 u15 0 [2000,10,10] u15 0 u31 u44 u44 0 u15)
def tree47:X->PySem.W.BT:=(N b0 (N b1 (N b3 (N b7 Z Z) (N o43 Z Z)) (N b5 (N b9 Z Z) (N o45 Z Z))) (N b2 (N b4 (N b8 Z Z) (N o44 Z Z)) (N b6 (N b10 Z Z) (N o46 Z Z))))
def tree70:X->PySem.W.BT:=(N b0 (N b1 (N o49 (N b7 (N o51 (N o67 Z Z) Z) (N o59 Z Z)) (N o43 (N o55 Z Z) (N o63 Z Z))) (N b5 (N b9 (N o53 (N o69 Z Z) Z) (N o61 Z Z)) (N o45 (N o57 Z Z) (N o65 Z Z)))) (N b2 (N b4 (N b8 (N o52 (N o68 Z Z) Z) (N o60 Z Z)) (N o50 (N o56 Z Z) (N o64 Z Z))) (N b6 (N b10 (N o54 (N o70 Z Z) Z) (N o62 Z Z)) (N o46 (N o58 Z Z) (N o66 Z Z)))))
def tree92:X->PySem.W.BT:=(N b0 (N b1 (N o71 (N b7 (N o51 (N o73 Z Z) (N o86 Z Z)) (N o59 (N o78 Z Z) Z)) (N o43 (N o55 (N o74 Z Z) (N o90 Z Z)) (N o63 (N o82 Z Z) Z))) (N b5 (N b9 (N o53 (N o69 Z Z) (N o88 Z Z)) (N o61 (N o80 Z Z) Z)) (N o45 (N o57 (N o76 Z Z) (N o92 Z Z)) (N o65 (N o84 Z Z) Z)))) (N b2 (N b4 (N b8 (N o52 (N o68 Z Z) (N o87 Z Z)) (N o60 (N o79 Z Z) Z)) (N o72 (N o56 (N o75 Z Z) (N o91 Z Z)) (N o64 (N o83 Z Z) Z))) (N b6 (N b10 (N o54 (N o70 Z Z) (N o89 Z Z)) (N o62 (N o81 Z Z) Z)) (N o46 (N o58 (N o77 Z Z) Z) (N o66 (N o85 Z Z) Z)))))
def tree114:X->PySem.W.BT:=(N b0 (N b1 (N o93 (N b7 (N o51 (N o95 (N ki Z Z) Z) (N o86 Z Z)) (N o59 (N o78 (N mF Z Z) Z) (N o97 Z Z))) (N o43 (N o55 (N o74 (N kj Z Z) Z) (N o90 Z Z)) (N o63 (N o82 Z Z) (N lU Z Z)))) (N b5 (N b9 (N o53 (N o69 (N lY Z Z) Z) (N o88 Z Z)) (N o61 (N o80 Z Z) (N o99 Z Z))) (N o45 (N o57 (N o76 (N ko Z Z) Z) (N o92 Z Z)) (N o65 (N o84 Z Z) (N lH Z Z))))) (N b2 (N b4 (N b8 (N o52 (N o68 (N lq Z Z) Z) (N o87 Z Z)) (N o60 (N o79 (N lW Z Z) Z) (N o98 Z Z))) (N o94 (N o56 (N o75 (N j5 Z Z) Z) (N o91 Z Z)) (N o64 (N o83 Z Z) (N mD Z Z)))) (N b6 (N b10 (N o54 (N o70 (N kq Z Z) Z) (N o89 Z Z)) (N o62 (N o81 Z Z) (N mC Z Z))) (N o46 (N o58 (N o77 (N kc Z Z) Z) (N o96 Z Z)) (N o66 (N o85 Z Z) (N lT Z Z))))))
def tree136:X->PySem.W.BT:=(N b0 (N b1 (N OJ (N b7 (N o51 (N OY (N ki Z Z) Z) (N o86 (N nJ Z Z) Z)) (N o59 (N o78 (N mF Z Z) Z) (N o97 (N lR Z Z) Z))) (N o43 (N o55 (N o74 (N kj Z Z) Z) (N o90 (N nk Z Z) Z)) (N o63 (N o82 (N oz Z Z) Z) (N lU (N nM Z Z) Z)))) (N b5 (N b9 (N o53 (N o69 (N lY Z Z) Z) (N o88 (N nG Z Z) Z)) (N o61 (N o80 (N nu Z Z) Z) (N o99 (N lJ Z Z) Z))) (N o45 (N o57 (N o76 (N ko Z Z) Z) (N o92 (N lG Z Z) Z)) (N o65 (N o84 (N nR Z Z) Z) (N lH Z Z))))) (N b2 (N b4 (N b8 (N o52 (N o68 (N lq Z Z) Z) (N o87 (N oE Z Z) Z)) (N o60 (N o79 (N lW Z Z) Z) (N o98 (N mJ Z Z) Z))) (N Pz (N o56 (N o75 (N j5 Z Z) Z) (N o91 (N nF Z Z) Z)) (N o64 (N o83 (N nL Z Z) Z) (N mD Z Z)))) (N b6 (N b10 (N o54 (N o70 (N kq Z Z) Z) (N o89 (N lF Z Z) Z)) (N o62 (N o81 (N oA Z Z) Z) (N mC (N nI Z Z) Z))) (N o46 (N o58 (N o77 (N kc Z Z) Z) (N o96 (N lZ Z Z) Z)) (N o66 (N o85 (N oh Z Z) Z) (N lT Z Z))))))
def tree172:X->PySem.W.BT:=(N b0 (N b1 (N Pp (N b7 (N o51 (N nv (N ki Z Z) (N pT Z Z)) (N o86 (N nJ Z Z) (N rM Z Z))) (N o59 (N o78 (N mF Z Z) (N pU Z Z)) (N o97 (N lR Z Z) (N qF Z Z)))) (N o43 (N o55 (N o74 (N kj Z Z) (N rA Z Z)) (N o90 (N nk Z Z) (N qC Z Z))) (N o63 (N o82 (N oz Z Z) (N nj Z Z)) (N lU (N nM Z Z) (N oG Z Z))))) (N b5 (N b9 (N o53 (N o69 (N lY Z Z) (N pW Z Z)) (N o88 (N nG Z Z) (N n9 Z Z))) (N o61 (N o80 (N nu Z Z) (N nC Z Z)) (N o99 (N lJ Z Z) (N pX Z Z)))) (N o45 (N o57 (N o76 (N ko Z Z) (N nV Z Z)) (N o92 (N lG Z Z) (N ow Z Z))) (N o65 (N o84 (N nR Z Z) (N rm Z Z)) (N lH (N rN Z Z) Z))))) (N b2 (N b4 (N b8 (N o52 (N o68 (N lq Z Z) (N qS Z Z)) (N o87 (N oE Z Z) (N qk Z Z))) (N o60 (N o79 (N lW Z Z) (N oB Z Z)) (N o98 (N mJ Z Z) (N n5 Z Z)))) (N OU (N o56 (N o75 (N j5 Z Z) (N p6 Z Z)) (N o91 (N nF Z Z) (N nN Z Z))) (N o64 (N o83 (N nL Z Z) (N ou Z Z)) (N mD (N jE Z Z) (N nO Z Z))))) (N b6 (N b10 (N o54 (N o70 (N kq Z Z) (N qo Z Z)) (N o89 (N lF Z Z) (N qj Z Z))) (N o62 (N o81 (N oA Z Z) (N nE Z Z)) (N mC (N nI Z Z) (N qf Z Z)))) (N o46 (N o58 (N o77 (N kc Z Z) (N pZ Z Z)) (N o96 (N lZ Z Z) (N pN Z Z))) (N o66 (N o85 (N oh Z Z) (N rD Z Z)) (N lT (N pO Z Z) Z))))))
def tree214:X->PySem.W.BT:=(N b0 (N b1 (N Pg (N b7 (N o51 (N nv (N ki (N sW Z Z) Z) (N pT (N rq Z Z) Z)) (N o86 (N nJ (N qc Z Z) Z) (N rM Z Z))) (N o59 (N o78 (N mF (N qY Z Z) Z) (N pU Z Z)) (N o97 (N lR (N uv Z Z) Z) (N qF Z Z)))) (N o43 (N o55 (N o74 (N kj (N uu Z Z) Z) (N rA (N uf Z Z) Z)) (N o90 (N nk (N sj Z Z) Z) (N qC Z Z))) (N o63 (N o82 (N oz (N pA Z Z) Z) (N nj Z Z)) (N lU (N nM (N sQ Z Z) Z) (N oG Z Z))))) (N b5 (N b9 (N o53 (N o69 (N lY (N uA Z Z) Z) (N pW (N pY Z Z) Z)) (N o88 (N nG (N tT Z Z) Z) (N n9 Z Z))) (N o61 (N o80 (N nu (N tV Z Z) Z) (N nC Z Z)) (N o99 (N lJ (N rG Z Z) Z) (N pX Z Z)))) (N o45 (N o57 (N o76 (N ko (N tU Z Z) Z) (N nV Z Z)) (N o92 (N lG (N rC Z Z) Z) (N ow Z Z))) (N o65 (N o84 (N nR (N uQ Z Z) Z) (N rm Z Z)) (N lH (N rN (N ql Z Z) Z) (N ue Z Z)))))) (N b2 (N b4 (N b8 (N o52 (N o68 (N lq (N uP Z Z) Z) (N qS (N PY Z Z) Z)) (N o87 (N oE (N uE Z Z) Z) (N qk Z Z))) (N o60 (N o79 (N lW (N qy Z Z) Z) (N oB Z Z)) (N o98 (N mJ (N sU Z Z) Z) (N n5 Z Z)))) (N OQ (N o56 (N o75 (N j5 (N uN Z Z) Z) (N p6 (N uF Z Z) Z)) (N o91 (N nF (N tF Z Z) Z) (N nN Z Z))) (N o64 (N o83 (N nL (N sY Z Z) Z) (N ou Z Z)) (N mD (N jE (N p7 Z Z) Z) (N nO Z Z))))) (N b6 (N b10 (N o54 (N o70 (N kq (N uc Z Z) Z) (N qo (N rB Z Z) Z)) (N o89 (N lF (N qD Z Z) Z) (N qj Z Z))) (N o62 (N o81 (N oA (N uI Z Z) Z) (N nE Z Z)) (N mC (N nI (N uL Z Z) Z) (N qf Z Z)))) (N o46 (N o58 (N o77 (N kc (N tZ Z Z) Z) (N pZ Z Z)) (N o96 (N lZ (N qU Z Z) Z) (N pN Z Z))) (N o66 (N o85 (N oh (N pF Z Z) Z) (N rD Z Z)) (N lT (N pO (N rE Z Z) Z) (N tR Z Z)))))))
def tree265:X->PySem.W.BT:=(N b0 (N b1 (N Pw (N b7 (N o51 (N nv (N ki (N sW Z Z) (N wz Z Z)) (N pT (N rq Z Z) Z)) (N o86 (N nJ (N qc Z Z) (N uq Z Z)) (N rM (N tO Z Z) Z))) (N o59 (N o78 (N mF (N qY Z Z) (N sr Z Z)) (N pU (N w5 Z Z) Z)) (N o97 (N lR (N uv Z Z) Z) (N qF (N xo Z Z) Z)))) (N o43 (N o55 (N o74 (N kj (N uu Z Z) (N vQ Z Z)) (N rA (N uf Z Z) Z)) (N o90 (N nk (N sj Z Z) (N vS Z Z)) (N qC (N uO Z Z) Z))) (N o63 (N o82 (N oz (N pA Z Z) (N sX Z Z)) (N nj (N w9 Z Z) Z)) (N lU (N nM (N sQ Z Z) Z) (N oG (N vL Z Z) Z))))) (N b5 (N b9 (N o53 (N o69 (N lY (N uA Z Z) (N sF Z Z)) (N pW (N pY Z Z) Z)) (N o88 (N nG (N tT Z Z) (N uC Z Z)) (N n9 (N xJ Z Z) Z))) (N o61 (N o80 (N nu (N tV Z Z) (N wD Z Z)) (N nC (N vW Z Z) Z)) (N o99 (N lJ (N rG Z Z) Z) (N pX (N tW Z Z) Z)))) (N o45 (N o57 (N o76 (N ko (N tU Z Z) (N ya Z Z)) (N nV (N wc Z Z) Z)) (N o92 (N lG (N rC Z Z) Z) (N ow (N xw Z Z) Z))) (N o65 (N o84 (N nR (N uQ Z Z) (N wF Z Z)) (N rm (N vN Z Z) Z)) (N lH (N rN (N ql Z Z) Z) (N ue (N sI Z Z) Z)))))) (N b2 (N b4 (N b8 (N o52 (N o68 (N lq (N uP Z Z) (N sy Z Z)) (N qS (N OT Z Z) Z)) (N o87 (N oE (N uE Z Z) (N vR Z Z)) (N qk (N xj Z Z) Z))) (N o60 (N o79 (N lW (N qy Z Z) (N uH Z Z)) (N oB (N wC Z Z) Z)) (N o98 (N mJ (N sU Z Z) Z) (N n5 (N xY Z Z) Z)))) (N O2 (N o56 (N o75 (N j5 (N uN Z Z) (N uR Z Z)) (N p6 (N uF Z Z) Z)) (N o91 (N nF (N tF Z Z) (N xP Z Z)) (N nN (N xq Z Z) Z))) (N o64 (N o83 (N nL (N sY Z Z) (N wg Z Z)) (N ou (N vI Z Z) Z)) (N mD (N jE (N p7 Z Z) Z) (N nO (N w4 Z Z) Z))))) (N b6 (N b10 (N o54 (N o70 (N kq (N uc Z Z) (N wm Z Z)) (N qo (N rB Z Z) Z)) (N o89 (N lF (N qD Z Z) (N tN Z Z)) (N qj (N um Z Z) Z))) (N o62 (N o81 (N oA (N uI Z Z) (N we Z Z)) (N nE (N xZ Z Z) Z)) (N mC (N nI (N uL Z Z) Z) (N qf (N tG Z Z) Z)))) (N o46 (N o58 (N o77 (N kc (N tZ Z Z) (N x6 Z Z)) (N pZ (N xN Z Z) Z)) (N o96 (N lZ (N qU Z Z) Z) (N pN (N uB Z Z) Z))) (N o66 (N o85 (N oh (N pF Z Z) (N se Z Z)) (N rD (N wo Z Z) Z)) (N lT (N pO (N rE Z Z) Z) (N tR (N xA Z Z) Z)))))))
def tree316:X->PySem.W.BT:=(N b0 (N b1 (N Py (N b7 (N o51 (N nv (N ki (N sW (N x8 Z Z) Z) (N wz Z Z)) (N pT (N rq Z Z) (N wI Z Z))) (N o86 (N nJ (N qc Z Z) (N uq Z Z)) (N rM (N tO Z Z) (N zd Z Z)))) (N o59 (N o78 (N mF (N qY Z Z) (N sr Z Z)) (N pU (N w5 Z Z) (N zu Z Z))) (N o97 (N lR (N uv Z Z) (N zq Z Z)) (N qF (N xo Z Z) (N vZ Z Z))))) (N o43 (N o55 (N o74 (N kj (N uu (N zz Z Z) Z) (N vQ Z Z)) (N rA (N uf Z Z) (N vP Z Z))) (N o90 (N nk (N sj Z Z) (N vS Z Z)) (N qC (N uO Z Z) (N yK Z Z)))) (N o63 (N o82 (N oz (N pA Z Z) (N sX Z Z)) (N nj (N w9 Z Z) (N yx Z Z))) (N lU (N nM (N sQ Z Z) (N z9 Z Z)) (N oG (N vL Z Z) (N vU Z Z)))))) (N b5 (N b9 (N o53 (N o69 (N lY (N uA (N xx Z Z) Z) (N sF Z Z)) (N pW (N pY Z Z) (N zR Z Z))) (N o88 (N nG (N tT Z Z) (N uC Z Z)) (N n9 (N xJ Z Z) (N wZ Z Z)))) (N o61 (N o80 (N nu (N tV Z Z) (N wD Z Z)) (N nC (N vW Z Z) (N xm Z Z))) (N o99 (N lJ (N rG Z Z) (N yE Z Z)) (N pX (N tW Z Z) (N zk Z Z))))) (N o45 (N o57 (N o76 (N ko (N tU Z Z) (N ya Z Z)) (N nV (N wc Z Z) (N yF Z Z))) (N o92 (N lG (N rC Z Z) (N sD Z Z)) (N ow (N xw Z Z) (N zP Z Z)))) (N o65 (N o84 (N nR (N uQ Z Z) (N wF Z Z)) (N rm (N vN Z Z) (N wO Z Z))) (N lH (N rN (N ql Z Z) (N zQ Z Z)) (N ue (N sI Z Z) (N yD Z Z))))))) (N b2 (N b4 (N b8 (N o52 (N o68 (N lq (N uP (N wN Z Z) Z) (N sy Z Z)) (N qS (N wJ Z Z) (N zG Z Z))) (N o87 (N oE (N uE Z Z) (N vR Z Z)) (N qk (N xj Z Z) (N wj Z Z)))) (N o60 (N o79 (N lW (N qy Z Z) (N uH Z Z)) (N oB (N wC Z Z) (N yM Z Z))) (N o98 (N mJ (N sU Z Z) (N zv Z Z)) (N n5 (N xY Z Z) (N xK Z Z))))) (N O7 (N o56 (N o75 (N j5 (N uN (N zp Z Z) Z) (N uR Z Z)) (N p6 (N uF Z Z) (N zy Z Z))) (N o91 (N nF (N tF Z Z) (N xP Z Z)) (N nN (N xq Z Z) (N wL Z Z)))) (N o64 (N o83 (N nL (N sY Z Z) (N wg Z Z)) (N ou (N vI Z Z) (N zC Z Z))) (N mD (N jE (N p7 Z Z) (N uD Z Z)) (N nO (N w4 Z Z) (N yW Z Z)))))) (N b6 (N b10 (N o54 (N o70 (N kq (N uc (N wM Z Z) Z) (N wm Z Z)) (N qo (N rB Z Z) (N w6 Z Z))) (N o89 (N lF (N qD Z Z) (N tN Z Z)) (N qj (N um Z Z) (N yS Z Z)))) (N o62 (N o81 (N oA (N uI Z Z) (N we Z Z)) (N nE (N xZ Z Z) (N wU Z Z))) (N mC (N nI (N uL Z Z) (N zK Z Z)) (N qf (N tG Z Z) (N ze Z Z))))) (N o46 (N o58 (N o77 (N kc (N tZ Z Z) (N x6 Z Z)) (N pZ (N xN Z Z) (N xX Z Z))) (N o96 (N lZ (N qU Z Z) (N zW Z Z)) (N pN (N uB Z Z) (N zE Z Z)))) (N o66 (N o85 (N oh (N pF Z Z) (N se Z Z)) (N rD (N wo Z Z) (N zx Z Z))) (N lT (N pO (N rE Z Z) (N zN Z Z)) (N tR (N xA Z Z) (N wu Z Z))))))))
def tree347:X->PySem.W.BT:=(N b0 (N b1 (N Pc (N b7 (N o51 (N nv (N ki (N sW (N x8 Z Z) Z) (N wz Z Z)) (N pT (N rq (N CS Z Z) Z) (N wI Z Z))) (N o86 (N nJ (N qc (N zY Z Z) Z) (N uq Z Z)) (N rM (N tO Z Z) (N zd Z Z)))) (N o59 (N o78 (N mF (N qY (N C3 Z Z) Z) (N sr Z Z)) (N pU (N w5 Z Z) (N zu Z Z))) (N o97 (N lR (N uv (N Cv Z Z) Z) (N zq Z Z)) (N qF (N xo Z Z) (N vZ Z Z))))) (N o43 (N o55 (N o74 (N kj (N uu (N zz Z Z) Z) (N vQ Z Z)) (N rA (N uf Z Z) (N vP Z Z))) (N o90 (N nk (N sj (N BX Z Z) Z) (N vS Z Z)) (N qC (N uO Z Z) (N yK Z Z)))) (N o63 (N o82 (N oz (N pA (N CQ Z Z) Z) (N sX Z Z)) (N nj (N w9 Z Z) (N yx Z Z))) (N lU (N nM (N sQ (N yX Z Z) Z) (N z9 Z Z)) (N oG (N vL Z Z) (N vU Z Z)))))) (N b5 (N b9 (N o53 (N o69 (N lY (N uA (N xx Z Z) Z) (N sF Z Z)) (N pW (N pY (N yO Z Z) Z) (N zR Z Z))) (N o88 (N nG (N tT (N Dn Z Z) Z) (N uC Z Z)) (N n9 (N xJ Z Z) (N wZ Z Z)))) (N o61 (N o80 (N nu (N tV (N Ab Z Z) Z) (N wD Z Z)) (N nC (N vW Z Z) (N xm Z Z))) (N o99 (N lJ (N rG (N Cr Z Z) Z) (N yE Z Z)) (N pX (N tW Z Z) (N zk Z Z))))) (N o45 (N o57 (N o76 (N ko (N tU (N Bu Z Z) Z) (N ya Z Z)) (N nV (N wc Z Z) (N yF Z Z))) (N o92 (N lG (N rC (N yY Z Z) Z) (N sD Z Z)) (N ow (N xw Z Z) (N zP Z Z)))) (N o65 (N o84 (N nR (N uQ (N CY Z Z) Z) (N wF Z Z)) (N rm (N vN Z Z) (N wO Z Z))) (N lH (N rN (N ql (N CT Z Z) Z) (N zQ Z Z)) (N ue (N sI Z Z) (N yD Z Z))))))) (N b2 (N b4 (N b8 (N o52 (N o68 (N lq (N uP (N wN Z Z) Z) (N sy Z Z)) (N qS (N wJ (N zX Z Z) Z) (N zG Z Z))) (N o87 (N oE (N uE (N Ac Z Z) Z) (N vR Z Z)) (N qk (N xj Z Z) (N wj Z Z)))) (N o60 (N o79 (N lW (N qy (N yy Z Z) Z) (N uH Z Z)) (N oB (N wC Z Z) (N yM Z Z))) (N o98 (N mJ (N sU (N yC Z Z) Z) (N zv Z Z)) (N n5 (N xY Z Z) (N xK Z Z))))) (N OI (N o56 (N o75 (N j5 (N uN (N zp Z Z) Z) (N uR Z Z)) (N p6 (N uF Z Z) (N zy Z Z))) (N o91 (N nF (N tF (N zg Z Z) Z) (N xP Z Z)) (N nN (N xq Z Z) (N wL Z Z)))) (N o64 (N o83 (N nL (N sY (N zc Z Z) Z) (N wg Z Z)) (N ou (N vI Z Z) (N zC Z Z))) (N mD (N jE (N p7 (N zm Z Z) Z) (N uD Z Z)) (N nO (N w4 Z Z) (N yW Z Z)))))) (N b6 (N b10 (N o54 (N o70 (N kq (N uc (N wM Z Z) Z) (N wm Z Z)) (N qo (N rB Z Z) (N w6 Z Z))) (N o89 (N lF (N qD (N BZ Z Z) Z) (N tN Z Z)) (N qj (N um Z Z) (N yS Z Z)))) (N o62 (N o81 (N oA (N uI (N Bs Z Z) Z) (N we Z Z)) (N nE (N xZ Z Z) (N wU Z Z))) (N mC (N nI (N uL (N Cd Z Z) Z) (N zK Z Z)) (N qf (N tG Z Z) (N ze Z Z))))) (N o46 (N o58 (N o77 (N kc (N tZ (N C6 Z Z) Z) (N x6 Z Z)) (N pZ (N xN Z Z) (N xX Z Z))) (N o96 (N lZ (N qU (N CA Z Z) Z) (N zW Z Z)) (N pN (N uB Z Z) (N zE Z Z)))) (N o66 (N o85 (N oh (N pF (N BF Z Z) Z) (N se Z Z)) (N rD (N wo Z Z) (N zx Z Z))) (N lT (N pO (N rE (N Di Z Z) Z) (N zN Z Z)) (N tR (N xA Z Z) (N wu Z Z))))))))
def tree426:X->PySem.W.BT:=(N b0 (N b1 (N PM (N b7 (N o51 (N nv (N ki (N sW (N x8 Z Z) Z) (N wz (N EK Z Z) Z)) (N pT (N rq (N CS Z Z) Z) (N wI (N Cp Z Z) Z))) (N o86 (N nJ (N qc (N zY Z Z) Z) (N uq (N GS Z Z) Z)) (N rM (N tO (N Ci Z Z) Z) (N zd Z Z)))) (N o59 (N o78 (N mF (N qY (N C3 Z Z) Z) (N sr (N CL Z Z) Z)) (N pU (N w5 (N Fv Z Z) Z) (N zu (N De Z Z) Z))) (N o97 (N lR (N uv (N Cv Z Z) Z) (N zq (N GI Z Z) Z)) (N qF (N xo (N EB Z Z) Z) (N vZ Z Z))))) (N o43 (N o55 (N o74 (N kj (N uu (N zz Z Z) Z) (N vQ (N BL Z Z) Z)) (N rA (N uf (N GR Z Z) Z) (N vP (N BK Z Z) Z))) (N o90 (N nk (N sj (N BX Z Z) Z) (N vS (N FG Z Z) Z)) (N qC (N uO (N G8 Z Z) Z) (N yK Z Z)))) (N o63 (N o82 (N oz (N pA (N CQ Z Z) Z) (N sX (N C4 Z Z) Z)) (N nj (N w9 (N Cb Z Z) Z) (N yx (N Bx Z Z) Z))) (N lU (N nM (N sQ (N yX Z Z) Z) (N z9 (N Gd Z Z) Z)) (N oG (N vL (N Fp Z Z) Z) (N vU Z Z)))))) (N b5 (N b9 (N o53 (N o69 (N lY (N uA (N xx Z Z) Z) (N sF (N G9 Z Z) Z)) (N pW (N pY (N yO Z Z) Z) (N zR (N GU Z Z) Z))) (N o88 (N nG (N tT (N Dn Z Z) Z) (N uC (N CZ Z Z) Z)) (N n9 (N xJ (N EU Z Z) Z) (N wZ Z Z)))) (N o61 (N o80 (N nu (N tV (N Ab Z Z) Z) (N wD (N Ef Z Z) Z)) (N nC (N vW (N Ec Z Z) Z) (N xm (N CU Z Z) Z))) (N o99 (N lJ (N rG (N Cr Z Z) Z) (N yE (N Cs Z Z) Z)) (N pX (N tW (N CF Z Z) Z) (N zk Z Z))))) (N o45 (N o57 (N o76 (N ko (N tU (N Bu Z Z) Z) (N ya (N FJ Z Z) Z)) (N nV (N wc (N EC Z Z) Z) (N yF (N Ew Z Z) Z))) (N o92 (N lG (N rC (N yY Z Z) Z) (N sD (N BS Z Z) Z)) (N ow (N xw (N Dd Z Z) Z) (N zP Z Z)))) (N o65 (N o84 (N nR (N uQ (N CY Z Z) Z) (N wF (N GQ Z Z) Z)) (N rm (N vN (N GL Z Z) Z) (N wO (N Fi Z Z) Z))) (N lH (N rN (N ql (N CT Z Z) Z) (N zQ (N EX Z Z) Z)) (N ue (N sI (N C9 Z Z) Z) (N yD Z Z))))))) (N b2 (N b4 (N b8 (N o52 (N o68 (N lq (N uP (N wN Z Z) Z) (N sy (N CI Z Z) Z)) (N qS (N wJ (N zX Z Z) Z) (N zG (N CK Z Z) Z))) (N o87 (N oE (N uE (N Ac Z Z) Z) (N vR (N Ea Z Z) Z)) (N qk (N xj (N GF Z Z) Z) (N wj Z Z)))) (N o60 (N o79 (N lW (N qy (N yy Z Z) Z) (N uH (N Ft Z Z) Z)) (N oB (N wC (N Er Z Z) Z) (N yM (N BH Z Z) Z))) (N o98 (N mJ (N sU (N yC Z Z) Z) (N zv (N C1 Z Z) Z)) (N n5 (N xY (N Fw Z Z) Z) (N xK Z Z))))) (N OL (N o56 (N o75 (N j5 (N uN (N zp Z Z) Z) (N uR (N Dk Z Z) Z)) (N p6 (N uF (N Eg Z Z) Z) (N zy (N Ej Z Z) Z))) (N o91 (N nF (N tF (N zg Z Z) Z) (N xP (N Gu Z Z) Z)) (N nN (N xq (N ER Z Z) Z) (N wL Z Z)))) (N o64 (N o83 (N nL (N sY (N zc Z Z) Z) (N wg (N EM Z Z) Z)) (N ou (N vI (N Ek Z Z) Z) (N zC (N Cy Z Z) Z))) (N mD (N jE (N p7 (N zm Z Z) Z) (N uD (N CV Z Z) Z)) (N nO (N w4 (N B3 Z Z) Z) (N yW Z Z)))))) (N b6 (N b10 (N o54 (N o70 (N kq (N uc (N wM Z Z) Z) (N wm (N EL Z Z) Z)) (N qo (N rB (N Fd Z Z) Z) (N w6 (N Gr Z Z) Z))) (N o89 (N lF (N qD (N BZ Z Z) Z) (N tN (N BP Z Z) Z)) (N qj (N um (N Bk Z Z) Z) (N yS Z Z)))) (N o62 (N o81 (N oA (N uI (N Bs Z Z) Z) (N we (N B4 Z Z) Z)) (N nE (N xZ (N GN Z Z) Z) (N wU (N Cw Z Z) Z))) (N mC (N nI (N uL (N Cd Z Z) Z) (N zK (N Ey Z Z) Z)) (N qf (N tG (N Ho Z Z) Z) (N ze Z Z))))) (N o46 (N o58 (N o77 (N kc (N tZ (N C6 Z Z) Z) (N x6 (N Fg Z Z) Z)) (N pZ (N xN (N FF Z Z) Z) (N xX (N Bo Z Z) Z))) (N o96 (N lZ (N qU (N CA Z Z) Z) (N zW (N GD Z Z) Z)) (N pN (N uB (N BC Z Z) Z) (N zE Z Z)))) (N o66 (N o85 (N oh (N pF (N BF Z Z) Z) (N se (N Dm Z Z) Z)) (N rD (N wo (N BE Z Z) Z) (N zx (N FH Z Z) Z))) (N lT (N pO (N rE (N Di Z Z) Z) (N zN (N FE Z Z) Z)) (N tR (N xA (N EG Z Z) Z) (N wu Z Z))))))))
def tree506:X->PySem.W.BT:=(N b0 (N b1 (N O8 (N b7 (N o51 (N nv (N ki (N sW (N x8 Z Z) (N Gs Z Z)) (N wz (N EK Z Z) Z)) (N pT (N rq (N CS Z Z) (N KA Z Z)) (N wI (N Cp Z Z) Z))) (N o86 (N nJ (N qc (N zY Z Z) (N Ke Z Z)) (N uq (N GS Z Z) Z)) (N rM (N tO (N Ci Z Z) (N IS Z Z)) (N zd (N Jv Z Z) Z)))) (N o59 (N o78 (N mF (N qY (N C3 Z Z) (N KO Z Z)) (N sr (N CL Z Z) Z)) (N pU (N w5 (N Fv Z Z) (N Kn Z Z)) (N zu (N De Z Z) Z))) (N o97 (N lR (N uv (N Cv Z Z) (N K8 Z Z)) (N zq (N GI Z Z) Z)) (N qF (N xo (N EB Z Z) (N Kl Z Z)) (N vZ (N Ld Z Z) Z))))) (N o43 (N o55 (N o74 (N kj (N uu (N zz Z Z) (N GZ Z Z)) (N vQ (N BL Z Z) Z)) (N rA (N uf (N GR Z Z) (N Ja Z Z)) (N vP (N BK Z Z) Z))) (N o90 (N nk (N sj (N BX Z Z) (N JB Z Z)) (N vS (N FG Z Z) Z)) (N qC (N uO (N G8 Z Z) (N Lb Z Z)) (N yK (N IT Z Z) Z)))) (N o63 (N o82 (N oz (N pA (N CQ Z Z) (N JO Z Z)) (N sX (N C4 Z Z) Z)) (N nj (N w9 (N Cb Z Z) (N La Z Z)) (N yx (N Bx Z Z) Z))) (N lU (N nM (N sQ (N yX Z Z) (N Jk Z Z)) (N z9 (N Gd Z Z) Z)) (N oG (N vL (N Fp Z Z) (N Fz Z Z)) (N vU (N Ei Z Z) Z)))))) (N b5 (N b9 (N o53 (N o69 (N lY (N uA (N xx Z Z) (N Jp Z Z)) (N sF (N G9 Z Z) Z)) (N pW (N pY (N yO Z Z) (N Ex Z Z)) (N zR (N GU Z Z) Z))) (N o88 (N nG (N tT (N Dn Z Z) (N Ge Z Z)) (N uC (N CZ Z Z) Z)) (N n9 (N xJ (N EU Z Z) (N FQ Z Z)) (N wZ (N FO Z Z) Z)))) (N o61 (N o80 (N nu (N tV (N Ab Z Z) (N Fj Z Z)) (N wD (N Ef Z Z) Z)) (N nC (N vW (N Ec Z Z) (N Gh Z Z)) (N xm (N CU Z Z) Z))) (N o99 (N lJ (N rG (N Cr Z Z) (N Gp Z Z)) (N yE (N Cs Z Z) Z)) (N pX (N tW (N CF Z Z) (N Kr Z Z)) (N zk (N Je Z Z) Z))))) (N o45 (N o57 (N o76 (N ko (N tU (N Bu Z Z) (N JQ Z Z)) (N ya (N FJ Z Z) Z)) (N nV (N wc (N EC Z Z) (N Hi Z Z)) (N yF (N Ew Z Z) Z))) (N o92 (N lG (N rC (N yY Z Z) (N Gb Z Z)) (N sD (N BS Z Z) Z)) (N ow (N xw (N Dd Z Z) (N GY Z Z)) (N zP (N FW Z Z) Z)))) (N o65 (N o84 (N nR (N uQ (N CY Z Z) (N Gv Z Z)) (N wF (N GQ Z Z) Z)) (N rm (N vN (N GL Z Z) (N ED Z Z)) (N wO (N Fi Z Z) Z))) (N lH (N rN (N ql (N CT Z Z) (N Gf Z Z)) (N zQ (N EX Z Z) Z)) (N ue (N sI (N C9 Z Z) Z) (N yD (N Jr Z Z) Z))))))) (N b2 (N b4 (N b8 (N o52 (N o68 (N lq (N uP (N wN Z Z) (N Ji Z Z)) (N sy (N CI Z Z) Z)) (N qS (N wJ (N zX Z Z) (N Jc Z Z)) (N zG (N CK Z Z) Z))) (N o87 (N oE (N uE (N Ac Z Z) (N GG Z Z)) (N vR (N Ea Z Z) Z)) (N qk (N xj (N GF Z Z) (N K1 Z Z)) (N wj (N JA Z Z) Z)))) (N o60 (N o79 (N lW (N qy (N yy Z Z) (N KG Z Z)) (N uH (N Ft Z Z) Z)) (N oB (N wC (N Er Z Z) (N EW Z Z)) (N yM (N BH Z Z) Z))) (N o98 (N mJ (N sU (N yC Z Z) (N IQ Z Z)) (N zv (N C1 Z Z) Z)) (N n5 (N xY (N Fw Z Z) (N GO Z Z)) (N xK (N Fe Z Z) Z))))) (N Po (N o56 (N o75 (N j5 (N uN (N zp Z Z) (N IW Z Z)) (N uR (N Dk Z Z) Z)) (N p6 (N uF (N Eg Z Z) (N K0 Z Z)) (N zy (N Ej Z Z) Z))) (N o91 (N nF (N tF (N zg Z Z) (N K5 Z Z)) (N xP (N Gu Z Z) Z)) (N nN (N xq (N ER Z Z) (N D9 Z Z)) (N wL (N Em Z Z) Z)))) (N o64 (N o83 (N nL (N sY (N zc Z Z) (N JF Z Z)) (N wg (N EM Z Z) Z)) (N ou (N vI (N Ek Z Z) (N KW Z Z)) (N zC (N Cy Z Z) Z))) (N mD (N jE (N p7 (N zm Z Z) (N GH Z Z)) (N uD (N CV Z Z) Z)) (N nO (N w4 (N B3 Z Z) (N Ep Z Z)) (N yW (N FZ Z Z) Z)))))) (N b6 (N b10 (N o54 (N o70 (N kq (N uc (N wM Z Z) (N Et Z Z)) (N wm (N EL Z Z) Z)) (N qo (N rB (N Fd Z Z) (N Gy Z Z)) (N w6 (N Gr Z Z) Z))) (N o89 (N lF (N qD (N BZ Z Z) (N JC Z Z)) (N tN (N BP Z Z) Z)) (N qj (N um (N Bk Z Z) (N Ln Z Z)) (N yS (N Jx Z Z) Z)))) (N o62 (N o81 (N oA (N uI (N Bs Z Z) (N Fq Z Z)) (N we (N B4 Z Z) Z)) (N nE (N xZ (N GN Z Z) (N Lc Z Z)) (N wU (N Cw Z Z) Z))) (N mC (N nI (N uL (N Cd Z Z) (N Lj Z Z)) (N zK (N Ey Z Z) Z)) (N qf (N tG (N Ho Z Z) (N JY Z Z)) (N ze (N JS Z Z) Z))))) (N o46 (N o58 (N o77 (N kc (N tZ (N C6 Z Z) (N El Z Z)) (N x6 (N Fg Z Z) Z)) (N pZ (N xN (N FF Z Z) (N JP Z Z)) (N xX (N Bo Z Z) Z))) (N o96 (N lZ (N qU (N CA Z Z) (N Eb Z Z)) (N zW (N GD Z Z) Z)) (N pN (N uB (N BC Z Z) (N JU Z Z)) (N zE (N Kd Z Z) Z)))) (N o66 (N o85 (N oh (N pF (N BF Z Z) (N Jj Z Z)) (N se (N Dm Z Z) Z)) (N rD (N wo (N BE Z Z) (N FU Z Z)) (N zx (N FH Z Z) Z))) (N lT (N pO (N rE (N Di Z Z) (N KD Z Z)) (N zN (N FE Z Z) Z)) (N tR (N xA (N EG Z Z) Z) (N wu (N K9 Z Z) Z))))))))
def tree540:X->PySem.W.BT:=(N b0 (N b1 (N Ka (N b7 (N o51 (N nv (N ki (N sW (N x8 Z Z) (N Gs Z Z)) (N wz (N EK Z Z) (N Nx Z Z))) (N pT (N rq (N CS Z Z) (N KA Z Z)) (N wI (N Cp Z Z) Z))) (N o86 (N nJ (N qc (N zY Z Z) (N Ke Z Z)) (N uq (N GS Z Z) (N Mg Z Z))) (N rM (N tO (N Ci Z Z) (N IS Z Z)) (N zd (N Jv Z Z) Z)))) (N o59 (N o78 (N mF (N qY (N C3 Z Z) (N KO Z Z)) (N sr (N CL Z Z) (N NO Z Z))) (N pU (N w5 (N Fv Z Z) (N Kn Z Z)) (N zu (N De Z Z) Z))) (N o97 (N lR (N uv (N Cv Z Z) (N K8 Z Z)) (N zq (N GI Z Z) (N Lm Z Z))) (N qF (N xo (N EB Z Z) (N Kl Z Z)) (N vZ (N Ld Z Z) Z))))) (N o43 (N o55 (N o74 (N kj (N uu (N zz Z Z) (N GZ Z Z)) (N vQ (N BL Z Z) (N Mj Z Z))) (N rA (N uf (N GR Z Z) (N Ja Z Z)) (N vP (N BK Z Z) Z))) (N o90 (N nk (N sj (N BX Z Z) (N JB Z Z)) (N vS (N FG Z Z) (N MX Z Z))) (N qC (N uO (N G8 Z Z) (N Lb Z Z)) (N yK (N IT Z Z) Z)))) (N o63 (N o82 (N oz (N pA (N CQ Z Z) (N JO Z Z)) (N sX (N C4 Z Z) (N Lp Z Z))) (N nj (N w9 (N Cb Z Z) (N La Z Z)) (N yx (N Bx Z Z) Z))) (N lU (N nM (N sQ (N yX Z Z) (N Jk Z Z)) (N z9 (N Gd Z Z) (N JG Z Z))) (N oG (N vL (N Fp Z Z) (N Fz Z Z)) (N vU (N Ei Z Z) Z)))))) (N b5 (N b9 (N o53 (N o69 (N lY (N uA (N xx Z Z) (N Jp Z Z)) (N sF (N G9 Z Z) (N KH Z Z))) (N pW (N pY (N yO Z Z) (N Ex Z Z)) (N zR (N GU Z Z) Z))) (N o88 (N nG (N tT (N Dn Z Z) (N Ge Z Z)) (N uC (N CZ Z Z) (N Jh Z Z))) (N n9 (N xJ (N EU Z Z) (N FQ Z Z)) (N wZ (N FO Z Z) Z)))) (N o61 (N o80 (N nu (N tV (N Ab Z Z) (N Fj Z Z)) (N wD (N Ef Z Z) (N MI Z Z))) (N nC (N vW (N Ec Z Z) (N Gh Z Z)) (N xm (N CU Z Z) Z))) (N o99 (N lJ (N rG (N Cr Z Z) (N Gp Z Z)) (N yE (N Cs Z Z) (N Nb Z Z))) (N pX (N tW (N CF Z Z) (N Kr Z Z)) (N zk (N Je Z Z) Z))))) (N o45 (N o57 (N o76 (N ko (N tU (N Bu Z Z) (N JQ Z Z)) (N ya (N FJ Z Z) (N Jf Z Z))) (N nV (N wc (N EC Z Z) (N Hi Z Z)) (N yF (N Ew Z Z) Z))) (N o92 (N lG (N rC (N yY Z Z) (N Gb Z Z)) (N sD (N BS Z Z) (N NK Z Z))) (N ow (N xw (N Dd Z Z) (N GY Z Z)) (N zP (N FW Z Z) Z)))) (N o65 (N o84 (N nR (N uQ (N CY Z Z) (N Gv Z Z)) (N wF (N GQ Z Z) (N MN Z Z))) (N rm (N vN (N GL Z Z) (N ED Z Z)) (N wO (N Fi Z Z) Z))) (N lH (N rN (N ql (N CT Z Z) (N Gf Z Z)) (N zQ (N EX Z Z) Z)) (N ue (N sI (N C9 Z Z) (N Mv Z Z)) (N yD (N Jr Z Z) Z))))))) (N b2 (N b4 (N b8 (N o52 (N o68 (N lq (N uP (N wN Z Z) (N Ji Z Z)) (N sy (N CI Z Z) (N Kh Z Z))) (N qS (N wJ (N zX Z Z) (N Jc Z Z)) (N zG (N CK Z Z) Z))) (N o87 (N oE (N uE (N Ac Z Z) (N GG Z Z)) (N vR (N Ea Z Z) (N MW Z Z))) (N qk (N xj (N GF Z Z) (N K1 Z Z)) (N wj (N JA Z Z) Z)))) (N o60 (N o79 (N lW (N qy (N yy Z Z) (N KG Z Z)) (N uH (N Ft Z Z) (N Nv Z Z))) (N oB (N wC (N Er Z Z) (N EW Z Z)) (N yM (N BH Z Z) Z))) (N o98 (N mJ (N sU (N yC Z Z) (N IQ Z Z)) (N zv (N C1 Z Z) (N aM Z Z))) (N n5 (N xY (N Fw Z Z) (N GO Z Z)) (N xK (N Fe Z Z) Z))))) (N Ni (N o56 (N o75 (N j5 (N uN (N zp Z Z) (N IW Z Z)) (N uR (N Dk Z Z) (N NC Z Z))) (N p6 (N uF (N Eg Z Z) (N K0 Z Z)) (N zy (N Ej Z Z) Z))) (N o91 (N nF (N tF (N zg Z Z) (N K5 Z Z)) (N xP (N Gu Z Z) (N MV Z Z))) (N nN (N xq (N ER Z Z) (N D9 Z Z)) (N wL (N Em Z Z) Z)))) (N o64 (N o83 (N nL (N sY (N zc Z Z) (N JF Z Z)) (N wg (N EM Z Z) (N ND Z Z))) (N ou (N vI (N Ek Z Z) (N KW Z Z)) (N zC (N Cy Z Z) Z))) (N mD (N jE (N p7 (N zm Z Z) (N GH Z Z)) (N uD (N CV Z Z) (N IX Z Z))) (N nO (N w4 (N B3 Z Z) (N Ep Z Z)) (N yW (N FZ Z Z) Z)))))) (N b6 (N b10 (N o54 (N o70 (N kq (N uc (N wM Z Z) (N Et Z Z)) (N wm (N EL Z Z) (N Mi Z Z))) (N qo (N rB (N Fd Z Z) (N Gy Z Z)) (N w6 (N Gr Z Z) Z))) (N o89 (N lF (N qD (N BZ Z Z) (N JC Z Z)) (N tN (N BP Z Z) (N Ks Z Z))) (N qj (N um (N Bk Z Z) (N Ln Z Z)) (N yS (N Jx Z Z) Z)))) (N o62 (N o81 (N oA (N uI (N Bs Z Z) (N Fq Z Z)) (N we (N B4 Z Z) (N KJ Z Z))) (N nE (N xZ (N GN Z Z) (N Lc Z Z)) (N wU (N Cw Z Z) Z))) (N mC (N nI (N uL (N Cd Z Z) (N Lj Z Z)) (N zK (N Ey Z Z) (N Nu Z Z))) (N qf (N tG (N Ho Z Z) (N JY Z Z)) (N ze (N JS Z Z) Z))))) (N o46 (N o58 (N o77 (N kc (N tZ (N C6 Z Z) (N El Z Z)) (N x6 (N Fg Z Z) (N JE Z Z))) (N pZ (N xN (N FF Z Z) (N JP Z Z)) (N xX (N Bo Z Z) Z))) (N o96 (N lZ (N qU (N CA Z Z) (N Eb Z Z)) (N zW (N GD Z Z) (N Jb Z Z))) (N pN (N uB (N BC Z Z) (N JU Z Z)) (N zE (N Kd Z Z) Z)))) (N o66 (N o85 (N oh (N pF (N BF Z Z) (N Jj Z Z)) (N se (N Dm Z Z) (N Ku Z Z))) (N rD (N wo (N BE Z Z) (N FU Z Z)) (N zx (N FH Z Z) Z))) (N lT (N pO (N rE (N Di Z Z) (N KD Z Z)) (N zN (N FE Z Z) Z)) (N tR (N xA (N EG Z Z) (N NI Z Z)) (N wu (N K9 Z Z) Z))))))))
def heap541:X->PySem.Heap:=λ x=>u39 (u40 ((Q b0 (Q b1 (Q b2 (Q Ka (Q b4 (Q b5 (Q b6 (Q b7 (Q b8 (Q b9 (Q b10 (Q o43 (Q Ni (Q o45 (Q o46 (Q o51 (Q o52 (Q o53 (Q o54 (Q o55 (Q o56 (Q o57 (Q o58 (Q o59 (Q o60 (Q o61 (Q o62 (Q o63 (Q o64 (Q o65 (Q o66 (Q nv (Q o68 (Q o69 (Q o70 (Q o74 (Q o75 (Q o76 (Q o77 (Q o78 (Q o79 (Q o80 (Q o81 (Q o82 (Q o83 (Q o84 (Q o85 (Q o86 (Q o87 (Q o88 (Q o89 (Q o90 (Q o91 (Q o92 (Q o96 (Q o97 (Q o98 (Q o99 (Q mC (Q lU (Q mD (Q lH (Q lT (Q ki (Q lq (Q lY (Q kq (Q kj (Q j5 (Q ko (Q kc (Q mF (Q lW (Q nu (Q oA (Q oz (Q nL (Q nR (Q oh (Q nJ (Q oE (Q nG (Q lF (Q nk (Q nF (Q lG (Q lZ (Q lR (Q mJ (Q lJ (Q nI (Q nM (Q jE (Q rN (Q pO (Q pT (Q qS (Q pW (Q qo (Q rA (Q p6 (Q nV (Q pZ (Q pU (Q oB (Q nC (Q nE (Q nj (Q ou (Q rm (Q rD (Q rM (Q qk (Q n9 (Q qj (Q qC (Q nN (Q ow (Q pN (Q qF (Q n5 (Q pX (Q qf (Q oG (Q nO (Q ue (Q tR (Q sW (Q uP (Q uA (Q uc (Q uu (Q uN (Q tU (Q tZ (Q qY (Q qy (Q tV (Q uI (Q pA (Q sY (Q uQ (Q pF (Q qc (Q uE (Q tT (Q qD (Q sj (Q tF (Q rC (Q qU (Q uv (Q sU (Q rG (Q uL (Q sQ (Q p7 (Q ql (Q rE (Q rq (Q wJ (Q pY (Q rB (Q uf (Q uF (Q wc (Q xN (Q w5 (Q wC (Q vW (Q xZ (Q w9 (Q vI (Q vN (Q wo (Q tO (Q xj (Q xJ (Q um (Q uO (Q xq (Q xw (Q uB (Q xo (Q xY (Q tW (Q tG (Q vL (Q w4 (Q sI (Q xA (Q wz (Q sy (Q sF (Q wm (Q vQ (Q uR (Q ya (Q x6 (Q sr (Q uH (Q wD (Q we (Q sX (Q wg (Q wF (Q se (Q uq (Q vR (Q uC (Q tN (Q vS (Q xP (Q sD (Q zW (Q zq (Q zv (Q yE (Q zK (Q z9 (Q uD (Q zQ (Q zN (Q wI (Q zG (Q zR (Q w6 (Q vP (Q zy (Q yF (Q xX (Q zu (Q yM (Q xm (Q wU (Q yx (Q zC (Q wO (Q zx (Q zd (Q wj (Q wZ (Q yS (Q yK (Q wL (Q zP (Q zE (Q vZ (Q xK (Q zk (Q ze (Q vU (Q yW (Q yD (Q wu (Q x8 (Q wN (Q xx (Q wM (Q zz (Q zp (Q Bu (Q C6 (Q C3 (Q yy (Q Ab (Q Bs (Q CQ (Q zc (Q CY (Q BF (Q zY (Q Ac (Q Dn (Q BZ (Q BX (Q zg (Q yY (Q CA (Q Cv (Q yC (Q Cr (Q Cd (Q yX (Q zm (Q CT (Q Di (Q CS (Q zX (Q yO (Q Fd (Q GR (Q Eg (Q EC (Q FF (Q Fv (Q Er (Q Ec (Q GN (Q Cb (Q Ek (Q GL (Q BE (Q Ci (Q GF (Q EU (Q Bk (Q G8 (Q ER (Q Dd (Q BC (Q EB (Q Fw (Q CF (Q Ho (Q Fp (Q B3 (Q C9 (Q EG (Q EK (Q CI (Q G9 (Q EL (Q BL (Q Dk (Q FJ (Q Fg (Q CL (Q Ft (Q Ef (Q B4 (Q C4 (Q EM (Q GQ (Q Dm (Q GS (Q Ea (Q CZ (Q BP (Q FG (Q Gu (Q BS (Q GD (Q GI (Q C1 (Q Cs (Q Ey (Q Gd (Q CV (Q EX (Q FE (Q Cp (Q CK (Q GU (Q Gr (Q BK (Q Ej (Q Ew (Q Bo (Q De (Q BH (Q CU (Q Cw (Q Bx (Q Cy (Q Fi (Q FH (Q Jv (Q JA (Q FO (Q Jx (Q IT (Q Em (Q FW (Q Kd (Q Ld (Q Fe (Q Je (Q JS (Q Ei (Q FZ (Q Jr (Q K9 (Q Gs (Q Ji (Q Jp (Q Et (Q GZ (Q IW (Q JQ (Q El (Q KO (Q KG (Q Fj (Q Fq (Q JO (Q JF (Q Gv (Q Jj (Q Ke (Q GG (Q Ge (Q JC (Q JB (Q K5 (Q Gb (Q Eb (Q K8 (Q IQ (Q Gp (Q Lj (Q Jk (Q GH (Q Gf (Q KD (Q KA (Q Jc (Q Ex (Q Gy (Q Ja (Q K0 (Q Hi (Q JP (Q Kn (Q EW (Q Gh (Q Lc (Q La (Q KW (Q ED (Q FU (Q IS (Q K1 (Q FQ (Q Ln (Q Lb (Q D9 (Q GY (Q JU (Q Kl (Q GO (Q Kr (Q JY (Q Fz (Q Ep (Q Mv (Q NI (Q Nx (Q Kh (Q KH (Q Mi (Q Mj (Q NC (Q Jf (Q JE (Q NO (Q Nv (Q MI (Q KJ (Q Lp (Q ND (Q MN (Q Ku (Q Mg (Q MW (Q Jh (Q Ks (Q MX (Q MV (Q NK (Q Jb (Q Lm (Q aM (Q Nb (Q Nu (Q JG (Q IX R))))))))))))))))))))))))))))))))))))))))))))))))))))))))))))))))))))))))))))))))))))))))))))))))))))))))))))))))))))))))))))))))))))))))))))))))))))))))))))))))))))))))))))))))))))))))))))))))))))))))))))))))))))))))))))))))))))))))))))))))))))))))))))))))))))))))))))))))))))))))))))))))))))))))))))))))))))))))))))))))))))))))))))))))))))))))))))))))))))))))))))))))))))))))))))))))))))))))))))))))))))))))))))))))))))))))))))))))))))))))))))))))))))))))))))))))))))))))))))) x)) (u43 u44 u44 u44 0 u45 u44 u15 (u46 u44) u44 0 u15 u15 u15 0 [2000,10,10] u15 0 u31 u44 u44 0 u15)
end
end Hd
noncomputable def PySem.W.Fast.tw968566268562938397:PySem.Params->PySem.W.Frag:=λ P=>Hd.heap39 (PySem.W.Fast.tw13745409909519247493,P)
theorem PySem.W.Fast.te968566268562938397:(λ P=>Hd.heap39 (Hd.hs,P))=PySem.W.Fast.tw968566268562938397:=congrArg (λ σ P=>Hd.heap39 (σ,P)) PySem.W.Fast.te13745409909519247493
noncomputable def PySem.W.Fast.tw150524849863389061:PySem.Params->PySem.Heap:=λ P=>Hd.heap46 (PySem.W.Fast.tw13745409909519247493,P)
theorem PySem.W.Fast.te150524849863389061:(λ P=>Hd.heap46 (Hd.hs,P))=PySem.W.Fast.tw150524849863389061:=congrArg (λ σ P=>Hd.heap46 (σ,P)) PySem.W.Fast.te13745409909519247493
noncomputable def PySem.W.Fast.tw8346836579500022759:PySem.Params->PySem.W.BT:=λ P=>Hd.tree47 (PySem.W.Fast.tw13745409909519247493,P)
theorem PySem.W.Fast.te8346836579500022759:(λ P=>Hd.tree47 (Hd.hs,P))=PySem.W.Fast.tw8346836579500022759:=congrArg (λ σ P=>Hd.tree47 (σ,P)) PySem.W.Fast.te13745409909519247493
noncomputable def PySem.W.Fast.tw4143672025181837009:PySem.Params->PySem.W.BT:=λ P=>Hd.tree70 (PySem.W.Fast.tw13745409909519247493,P)
theorem PySem.W.Fast.te4143672025181837009:(λ P=>Hd.tree70 (Hd.hs,P))=PySem.W.Fast.tw4143672025181837009:=congrArg (λ σ P=>Hd.tree70 (σ,P)) PySem.W.Fast.te13745409909519247493
noncomputable def PySem.W.Fast.tw1670667469056671679:PySem.Params->PySem.W.BT:=λ P=>Hd.tree92 (PySem.W.Fast.tw13745409909519247493,P)
theorem PySem.W.Fast.te1670667469056671679:(λ P=>Hd.tree92 (Hd.hs,P))=PySem.W.Fast.tw1670667469056671679:=congrArg (λ σ P=>Hd.tree92 (σ,P)) PySem.W.Fast.te13745409909519247493
noncomputable def PySem.W.Fast.tw7566628570449838620:PySem.Params->PySem.W.BT:=λ P=>Hd.tree114 (PySem.W.Fast.tw13745409909519247493,P)
theorem PySem.W.Fast.te7566628570449838620:(λ P=>Hd.tree114 (Hd.hs,P))=PySem.W.Fast.tw7566628570449838620:=congrArg (λ σ P=>Hd.tree114 (σ,P)) PySem.W.Fast.te13745409909519247493
noncomputable def PySem.W.Fast.tw4337498135878750548:PySem.Params->PySem.W.BT:=λ P=>Hd.tree136 (PySem.W.Fast.tw13745409909519247493,P)
theorem PySem.W.Fast.te4337498135878750548:(λ P=>Hd.tree136 (Hd.hs,P))=PySem.W.Fast.tw4337498135878750548:=congrArg (λ σ P=>Hd.tree136 (σ,P)) PySem.W.Fast.te13745409909519247493
noncomputable def PySem.W.Fast.tw12652475485395585490:PySem.Params->PySem.W.BT:=λ P=>Hd.tree172 (PySem.W.Fast.tw13745409909519247493,P)
theorem PySem.W.Fast.te12652475485395585490:(λ P=>Hd.tree172 (Hd.hs,P))=PySem.W.Fast.tw12652475485395585490:=congrArg (λ σ P=>Hd.tree172 (σ,P)) PySem.W.Fast.te13745409909519247493
noncomputable def PySem.W.Fast.tw8149667820240047958:PySem.Params->PySem.W.BT:=λ P=>Hd.tree214 (PySem.W.Fast.tw13745409909519247493,P)
theorem PySem.W.Fast.te8149667820240047958:(λ P=>Hd.tree214 (Hd.hs,P))=PySem.W.Fast.tw8149667820240047958:=congrArg (λ σ P=>Hd.tree214 (σ,P)) PySem.W.Fast.te13745409909519247493
noncomputable def PySem.W.Fast.tw10912127109134773774:PySem.Params->PySem.W.BT:=λ P=>Hd.tree265 (PySem.W.Fast.tw13745409909519247493,P)
theorem PySem.W.Fast.te10912127109134773774:(λ P=>Hd.tree265 (Hd.hs,P))=PySem.W.Fast.tw10912127109134773774:=congrArg (λ σ P=>Hd.tree265 (σ,P)) PySem.W.Fast.te13745409909519247493
noncomputable def PySem.W.Fast.tw15722800413400260217:PySem.Params->PySem.W.BT:=λ P=>Hd.tree316 (PySem.W.Fast.tw13745409909519247493,P)
theorem PySem.W.Fast.te15722800413400260217:(λ P=>Hd.tree316 (Hd.hs,P))=PySem.W.Fast.tw15722800413400260217:=congrArg (λ σ P=>Hd.tree316 (σ,P)) PySem.W.Fast.te13745409909519247493
noncomputable def PySem.W.Fast.tw18105526135495197861:PySem.Params->PySem.W.BT:=λ P=>Hd.tree347 (PySem.W.Fast.tw13745409909519247493,P)
theorem PySem.W.Fast.te18105526135495197861:(λ P=>Hd.tree347 (Hd.hs,P))=PySem.W.Fast.tw18105526135495197861:=congrArg (λ σ P=>Hd.tree347 (σ,P)) PySem.W.Fast.te13745409909519247493
noncomputable def PySem.W.Fast.tw5307310841590192498:PySem.Params->PySem.W.BT:=λ P=>Hd.tree426 (PySem.W.Fast.tw13745409909519247493,P)
theorem PySem.W.Fast.te5307310841590192498:(λ P=>Hd.tree426 (Hd.hs,P))=PySem.W.Fast.tw5307310841590192498:=congrArg (λ σ P=>Hd.tree426 (σ,P)) PySem.W.Fast.te13745409909519247493
noncomputable def PySem.W.Fast.tw16736201812782101899:PySem.Params->PySem.W.BT:=λ P=>Hd.tree506 (PySem.W.Fast.tw13745409909519247493,P)
theorem PySem.W.Fast.te16736201812782101899:(λ P=>Hd.tree506 (Hd.hs,P))=PySem.W.Fast.tw16736201812782101899:=congrArg (λ σ P=>Hd.tree506 (σ,P)) PySem.W.Fast.te13745409909519247493
noncomputable def PySem.W.Fast.tw2268091885587982184:PySem.Params->PySem.W.BT:=λ P=>Hd.tree540 (PySem.W.Fast.tw13745409909519247493,P)
theorem PySem.W.Fast.te2268091885587982184:(λ P=>Hd.tree540 (Hd.hs,P))=PySem.W.Fast.tw2268091885587982184:=congrArg (λ σ P=>Hd.tree540 (σ,P)) PySem.W.Fast.te13745409909519247493
noncomputable def PySem.W.Fast.tw6823016055528076017:PySem.Params->PySem.Heap:=λ P=>Hd.heap541 (PySem.W.Fast.tw13745409909519247493,P)
theorem PySem.W.Fast.te6823016055528076017:(λ P=>Hd.heap541 (Hd.hs,P))=PySem.W.Fast.tw6823016055528076017:=congrArg (λ σ P=>Hd.heap541 (σ,P)) PySem.W.Fast.te13745409909519247493
namespace Hd
noncomputable section
def pick (p:PySem.Program) (l:List Nat):List PySem.Stmt:=l.map λ i=>p.main.body.getD i (.Pass ⟨0,0,0,0⟩)
def vw (p:PySem.Program) (l:List Nat):PySem.Program:={ p with main:={ p.main with body:=pick p l } }
end
end Hd
noncomputable def PySem.W.Fast.tw9358702375182491019:List PySem.Stmt:=Hd.pick PySem.W.Fast.tw9983349102000853959 [36,37,38,39,40,41]
theorem PySem.W.Fast.te9358702375182491019:Hd.pick PySem.Challenge.pw_keepsakes_k54_whole_folds_walked [36,37,38,39,40,41]=PySem.W.Fast.tw9358702375182491019:=congrArg (λ p=>Hd.pick p [36,37,38,39,40,41]) PySem.W.Fast.te9983349102000853959
noncomputable def PySem.W.Fast.tw12987991723206928473:List PySem.Stmt:=Hd.pick PySem.W.Fast.tw9983349102000853959 [16,17,18,19,20,21]
theorem PySem.W.Fast.te12987991723206928473:Hd.pick PySem.Challenge.pw_keepsakes_k54_whole_folds_walked [16,17,18,19,20,21]=PySem.W.Fast.tw12987991723206928473:=congrArg (λ p=>Hd.pick p [16,17,18,19,20,21]) PySem.W.Fast.te9983349102000853959
noncomputable def PySem.W.Fast.tw3925405992122409860:List PySem.Stmt:=Hd.pick PySem.W.Fast.tw9983349102000853959 [3]
theorem PySem.W.Fast.te3925405992122409860:Hd.pick PySem.Challenge.pw_keepsakes_k54_whole_folds_walked [3]=PySem.W.Fast.tw3925405992122409860:=congrArg (λ p=>Hd.pick p [3]) PySem.W.Fast.te9983349102000853959
noncomputable def PySem.W.Fast.tw1155164506677835744:List PySem.Stmt:=Hd.pick PySem.W.Fast.tw9983349102000853959 [23,24,25,26,27,28,29,30,31,32,33,34,35]
theorem PySem.W.Fast.te1155164506677835744:Hd.pick PySem.Challenge.pw_keepsakes_k54_whole_folds_walked [23,24,25,26,27,28,29,30,31,32,33,34,35]=PySem.W.Fast.tw1155164506677835744:=congrArg (λ p=>Hd.pick p [23,24,25,26,27,28,29,30,31,32,33,34,35]) PySem.W.Fast.te9983349102000853959
noncomputable def PySem.W.Fast.tw16863404904042640975:List PySem.Stmt:=Hd.pick PySem.W.Fast.tw9983349102000853959 [4]
theorem PySem.W.Fast.te16863404904042640975:Hd.pick PySem.Challenge.pw_keepsakes_k54_whole_folds_walked [4]=PySem.W.Fast.tw16863404904042640975:=congrArg (λ p=>Hd.pick p [4]) PySem.W.Fast.te9983349102000853959
noncomputable def PySem.W.Fast.tw5492447428596680725:List PySem.Stmt:=Hd.pick PySem.W.Fast.tw9983349102000853959 [13]
theorem PySem.W.Fast.te5492447428596680725:Hd.pick PySem.Challenge.pw_keepsakes_k54_whole_folds_walked [13]=PySem.W.Fast.tw5492447428596680725:=congrArg (λ p=>Hd.pick p [13]) PySem.W.Fast.te9983349102000853959
noncomputable def PySem.W.Fast.tw8626033600253800412:List PySem.Stmt:=Hd.pick PySem.W.Fast.tw9983349102000853959 [0,1,2]
theorem PySem.W.Fast.te8626033600253800412:Hd.pick PySem.Challenge.pw_keepsakes_k54_whole_folds_walked [0,1,2]=PySem.W.Fast.tw8626033600253800412:=congrArg (λ p=>Hd.pick p [0,1,2]) PySem.W.Fast.te9983349102000853959
noncomputable def PySem.W.Fast.tw15610151299137795183:List PySem.Stmt:=Hd.pick PySem.W.Fast.tw9983349102000853959 [22]
theorem PySem.W.Fast.te15610151299137795183:Hd.pick PySem.Challenge.pw_keepsakes_k54_whole_folds_walked [22]=PySem.W.Fast.tw15610151299137795183:=congrArg (λ p=>Hd.pick p [22]) PySem.W.Fast.te9983349102000853959
noncomputable def PySem.W.Fast.tw5267213279996846648:PySem.Program:=Hd.vw PySem.W.Fast.tw9983349102000853959 [0,2,3,4,5,6,7,9,10,12,13,14,16,17,18,19,20,22,24,25,26,27,28,29,30,31,32,33,34,35,36,37,38,39,40,41]
theorem PySem.W.Fast.te5267213279996846648:Hd.vw PySem.Challenge.pw_keepsakes_k54_whole_folds_walked [0,2,3,4,5,6,7,9,10,12,13,14,16,17,18,19,20,22,24,25,26,27,28,29,30,31,32,33,34,35,36,37,38,39,40,41]=PySem.W.Fast.tw5267213279996846648:=congrArg (λ p=>Hd.vw p [0,2,3,4,5,6,7,9,10,12,13,14,16,17,18,19,20,22,24,25,26,27,28,29,30,31,32,33,34,35,36,37,38,39,40,41]) PySem.W.Fast.te9983349102000853959
noncomputable def PySem.W.Fast.tw4934424509716898268:List PySem.Stmt:=Hd.pick PySem.W.Fast.tw9983349102000853959 [5]
theorem PySem.W.Fast.te4934424509716898268:Hd.pick PySem.Challenge.pw_keepsakes_k54_whole_folds_walked [5]=PySem.W.Fast.tw4934424509716898268:=congrArg (λ p=>Hd.pick p [5]) PySem.W.Fast.te9983349102000853959
noncomputable def PySem.W.Fast.tw10557138726147662012:List PySem.Stmt:=Hd.pick PySem.W.Fast.tw9983349102000853959 [14,15]
theorem PySem.W.Fast.te10557138726147662012:Hd.pick PySem.Challenge.pw_keepsakes_k54_whole_folds_walked [14,15]=PySem.W.Fast.tw10557138726147662012:=congrArg (λ p=>Hd.pick p [14,15]) PySem.W.Fast.te9983349102000853959
noncomputable def PySem.W.Fast.tw2157261441654733184:List PySem.Stmt:=Hd.pick PySem.W.Fast.tw9983349102000853959 [12]
theorem PySem.W.Fast.te2157261441654733184:Hd.pick PySem.Challenge.pw_keepsakes_k54_whole_folds_walked [12]=PySem.W.Fast.tw2157261441654733184:=congrArg (λ p=>Hd.pick p [12]) PySem.W.Fast.te9983349102000853959
noncomputable def PySem.W.Fast.tw8430343296689750326:List PySem.Stmt:=Hd.pick PySem.W.Fast.tw9983349102000853959 [6,7,8,9,10,11]
theorem PySem.W.Fast.te8430343296689750326:Hd.pick PySem.Challenge.pw_keepsakes_k54_whole_folds_walked [6,7,8,9,10,11]=PySem.W.Fast.tw8430343296689750326:=congrArg (λ p=>Hd.pick p [6,7,8,9,10,11]) PySem.W.Fast.te9983349102000853959
set_option maxRecDepth 100000 in
set_option maxHeartbeats 0 in
theorem PySem.Challenge.cw_keepsakes_k54_whole_folds_walked_holds : PySem.Challenge.rw_keepsakes_k54_whole_folds_walked.Holds := by
 w_on;o_law;k_head;(case hw=>w_witness2)
 k_fill
 refine Mine.walk (l:=PySem.Challenge.rw_keepsakes_k54_whole_folds_walked) rfl rfl (λ w h Y=>PySem.W.kIn_of Y) ?F
 case F =>
  intro w mg fa h KX G hmg
  refine' Mine.all_mk KX G hmg ?g_W ?nP ?m8 ?mP ?kE ?nh ?uV ?oJ ?tL ?vg ?clg ?clt ?lB ?lP ?lD ?lC ?lN ?tH ?qT ?qZ ?pI ?qR ?qA ?qB ?fU ?rH ?qw ?qv ?p9 ?qO ?qe ?fh ?nq ?nQ ?om ?oF ?ni ?oj ?gu ?p5 ?rF ?qN ?rj ?qK ?qh ?gP ?gn ?xR ?xS ?xW ?xr ?pq ?pH ?cU ?cY ?fM ?gm ?zf ?zh ?zJ ?Af ?uW ?uT ?cZ ?cT ?fu ?gc ?dP ?xE ?xV ?vY ?xB ?x9 ?wY ?bQ ?bS ?a0 ?i0 ?l0 ?c0 ?k0 ?a1 ?i1 ?l1 ?c1 ?k1 ?a2 ?i2 ?l2 ?c2 ?k2 ?a3 ?i3 ?l3 ?c3 ?k3 ?a4 ?l4 ?c4 ?k4 ?a5 ?l5 ?c5 ?k5 ?a6 ?i6 ?l6 ?c6 ?k6 ?a7 ?i7 ?l7 ?c7 ?k7 ?a8 ?i8 ?l8 ?c8 ?k8 ?a9 ?i9 ?l9 ?c9 ?k9 ?y9 ?a10 ?i10 ?l10 ?c10 ?k10 ?a11 ?i11 ?l11 ?c11 ?k11 ?a12 ?i12 ?l12 ?c12 ?k12 ?a13 ?i13 ?l13 ?c13 ?k13 ?y13 ?a14 ?i14 ?l14 ?c14 ?k14 ?a15 ?i15 ?l15 ?c15 ?k15 ?a16 ?i16 ?l16 ?c16 ?k16 ?a17 ?l17 ?c17 ?k17 ?a18 ?l18 ?c18 ?k18 ?a19 ?l19 ?c19 ?k19 ?a20 ?l20 ?c20 ?k20 ?a21 ?l21 ?c21 ?k21 ?a22 ?i22 ?l22 ?c22 ?k22 ?a23 ?i23 ?l23 ?c23 ?k23 ?a24 ?i24 ?l24 ?c24 ?k24 ?a25 ?i25 ?l25 ?c25 ?k25 ?a26 ?i26 ?l26 ?c26 ?k26 ?a27 ?i27 ?l27 ?c27 ?k27 ?a28 ?i28 ?l28 ?c28 ?k28 ?a29 ?i29 ?l29 ?c29 ?k29 ?a30 ?l30 ?c30 ?k30 ?a31 ?l31 ?c31 ?k31 ?a32 ?l32 ?c32 ?k32 ?a33 ?l33 ?c33 ?k33 ?a34 ?l34 ?c34 ?k34 ?a35 ?l35 ?c35 ?k35 ?a36 ?l36 ?c36 ?k36 ?a37 ?l37 ?c37 ?k37 ?a38 ?l38 ?c38 ?k38 ?a39 ?l39 ?c39 ?k39 ?a40 ?l40 ?c40 ?k40 ?a41 ?l41 ?c41 ?k41 ?a42 ?l42 ?c42 ?k42 ?a43 ?l43 ?c43 ?k43 ?a44 ?l44 ?c44 ?k44 ?a45 ?l45 ?c45 ?k45 ?a46 ?l46 ?c46 ?k46 ?a47 ?l47 ?c47 ?k47 ?jh ?jH ?jy ?kg ?xC ?wQ ?iz ?GW ?mL ?GK ?BD ?Cu ?zM ?yU ?FN ?FY ?xg ?FD ?oi ?Ct ?qM ?lV ?yz ?zj ?lQ ?mH ?gM ?ia ?oR ?oW ?g6 ?iD
  case g_W | nP | m8 | mP | kE | nh | uV | oJ | tL | vg | clg | clt | lB | lP | lD | lC | lN | tH | qT | qZ | pI | qR | qA | qB | fU | rH | qw | qv | p9 | qO | qe | fh | nq | nQ | om | oF | ni | oj | gu | p5 | rF | qN | rj | qK | qh | gP | gn | xR | xS | xW | xr | pq | pH | cU | cY | fM | gm | zf | zh | zJ | Af | uW | uT | cZ | cT | fu | gc | dP | xE | xV | vY | xB | x9 | wY | bQ | bS | a0 | i0 | l0 | c0 | k0 | a1 | i1 | l1 | c1 | k1 | a2 | i2 | l2 | c2 | k2 | a3 | i3 | l3 | c3 | k3 | a4 | l4 | c4 | k4 | a5 | l5 | c5 | k5 | a6 | i6 | l6 | c6 | k6 | a7 | i7 | l7 | c7 | k7 | a8 | i8 | l8 | c8 | k8 | a9 | i9 | l9 | c9 | k9 | y9 | a10 | i10 | l10 | c10 | k10 | a11 | i11 | l11 | c11 | k11 | a12 | i12 | l12 | c12 | k12 | a13 | i13 | l13 | c13 | k13 | y13 | a14 | i14 | l14 | c14 | k14 | a15 | i15 | l15 | c15 | k15 | a16 | i16 | l16 | c16 | k16 | a17 | l17 | c17 | k17 | a18 | l18 | c18 | k18 | a19 | l19 | c19 | k19 | a20 | l20 | c20 | k20 | a21 | l21 | c21 | k21 | a22 | i22 | l22 | c22 | k22 | a23 | i23 | l23 | c23 | k23 | a24 | i24 | l24 | c24 | k24 | a25 | i25 | l25 | c25 | k25 | a26 | i26 | l26 | c26 | k26 | a27 | i27 | l27 | c27 | k27 | a28 | i28 | l28 | c28 | k28 | a29 | i29 | l29 | c29 | k29 | a30 | l30 | c30 | k30 | a31 | l31 | c31 | k31 | a32 | l32 | c32 | k32 | a33 | l33 | c33 | k33 | a34 | l34 | c34 | k34 | a35 | l35 | c35 | k35 | a36 | l36 | c36 | k36 | a37 | l37 | c37 | k37 | a38 | l38 | c38 | k38 | a39 | l39 | c39 | k39 | a40 | l40 | c40 | k40 | a41 | l41 | c41 | k41 | a42 | l42 | c42 | k42 | a43 | l43 | c43 | k43 | a44 | l44 | c44 | k44 | a45 | l45 | c45 | k45 | a46 | l46 | c46 | k46 | a47 | l47 | c47 | k47 | jh | jH | jy | kg | xC | wQ | iz | GW | mL | GK | BD | Cu | zM | yU | FN | FY | xg | FD | oi | Ct | qM | lV | yz | zj | lQ | mH | gM | ia | oR | oW | g6 | iD=>first | k_is | kit_is | kernel_rfl | decide
