import PyProof.Rows.All
import Wide.All
import OpenK.AllK
import Wide.FinOn
import Lean
import PyProof.EqAt
import PyProof.EqKinds
import PyProof.TupleCall
import PySem.Challenge.RW_labelplace_k73_no_drawing
set_option Elab.async false
set_option linter.all false
set_option maxRecDepth 100000
namespace L2
open PySem PySem.Spec PyProof.Rows
abbrev Key:=Sum Int Str
def z9d : Key -> Value -> Bool
 | .inl k,v => Value.isInt k v
 | .inr x,v => Value.isStrOf x v
def w4f (w : World) : Key -> Int
 | .inl k => hashInt k
 | .inr x => hashStr w x
theorem q3p : ∀ {k : Key} {v : Value},z9d k v = true -> (∃ i t,k = Sum.inl i /\ v = Value.int i t) \/ (∃ x t,k = Sum.inr x /\ v = Value.str x t)
 | .inl i,v,h => by
  obtain ⟨t,e⟩:=Value.isInt_shape (k:=i) (v:=v) h
  exact .inl ⟨i,t,rfl,e⟩
 | .inr x,v,h => by
  obtain ⟨t,e⟩:=Value.isStrOf_shape (x:=x) (v:=v) h
  exact .inr ⟨x,t,rfl,e⟩
theorem k3p (i : Int) (t : Tok) : z9d (.inl i) (.int i t) = true:=by simp [z9d,Value.isInt]
theorem k3z (x : Str) (t : Tok) : z9d (.inr x) (.str x t) = true:=by simp [z9d,Value.isStrOf]
theorem j7i (a b : Int) : decide ((Sum.inl a : Key) = Sum.inl b) = (a == b):=by
 by_cases e : a = b
 ·subst e; simp
 ·have h : ¬ (Sum.inl a : Key) = Sum.inl b:=fun q => e (Sum.inl.inj q)
  rw [decide_eq_false h]
  exact (beq_eq_false_iff_ne.mpr e).symm
theorem j6s (a b : Str) : decide ((Sum.inr a : Key) = Sum.inr b) = decide (a = b):=by
 by_cases e : a = b
 ·subst e; simp
 ·have h : ¬ (Sum.inr a : Key) = Sum.inr b:=fun q => e (Sum.inr.inj q)
  rw [decide_eq_false h,decide_eq_false e]
theorem j5y (a : Int) (b : Str) : decide ((Sum.inl a : Key) = Sum.inr b) = false:=decide_eq_false (fun q => nomatch q)
theorem j6n (a : Str) (b : Int) : decide ((Sum.inr a : Key) = Sum.inl b) = false:=decide_eq_false (fun q => nomatch q)
def q3l (prog : Program) (w : World) : PySem.KeyKind prog w Key where
 is:=z9d
 hash:=w4f w
 inj:=fun v a b ha hb => by
  rcases q3p ha with ⟨i,t,rfl,rfl⟩ | ⟨x,t,rfl,rfl⟩
  ·rcases q3p hb with ⟨j,u,rfl,e⟩ | ⟨y,u,rfl,e⟩
   ·injection e with e1 _; rw [e1]
   ·exact nomatch e
  ·rcases q3p hb with ⟨j,u,rfl,e⟩ | ⟨y,u,rfl,e⟩
   ·exact nomatch e
   ·injection e with e1 _; rw [e1]
 byValue:=fun k v h => by
  rcases q3p h with ⟨i,t,rfl,rfl⟩ | ⟨x,t,rfl,rfl⟩ <;> rfl
 pyHash:=fun hv h => by
  rcases q3p hv with ⟨i,t,rfl,rfl⟩ | ⟨x,t,rfl,rfl⟩
  ·exact wpAny_pyHash_int h
  ·exact wpAny_pyHash_str h
 eqBool:=fun hu hv h => by
  rcases q3p hu with ⟨i,t,rfl,rfl⟩ | ⟨x,t,rfl,rfl⟩
  ·rcases q3p hv with ⟨j,u,rfl,rfl⟩ | ⟨y,u,rfl,rfl⟩
   ·rw [j7i] at h; exact wpAny_eqBool_int h
   ·rw [j5y] at h; exact SeqAt.EqAt.int_str i t y u _ _ _ _ h
  ·rcases q3p hv with ⟨j,u,rfl,rfl⟩ | ⟨y,u,rfl,rfl⟩
   ·rw [j6n] at h; exact SeqAt.EqAt.str_int x t j u _ _ _ _ h
   ·rw [j6s] at h; exact wpAny_eqBool_str h
 «strs»:=fun k x t v h => by
  rcases q3p h with ⟨i,u,rfl,e⟩ | ⟨y,u,rfl,e⟩
  ·exact nomatch e
  ·injection e with e1 _
   subst e1
   cases v <;> rfl
theorem z6j (prog : Program) (w : World) (i : Int) (t : Tok) : (q3l prog w).is (.inl i) (.int i t) = true:=k3p i t
theorem z7a (prog : Program) (w : World) (x : Str) (t : Tok) : (q3l prog w).is (.inr x) (.str x t) = true:=k3z x t
end L2
namespace L2
open PySem PySem.Spec PyProof.Rows
inductive V where
 | non | bl (b : Bool) | int (i : Int) | str (x : Str) | byt (b : Array UInt8) | flt (b : UInt64) | ref (a : Addr) | ty (n : String)
 deriving DecidableEq
def RelV : V -> Value -> Prop
 | .non,u => u = Value.none
 | .bl b,u => u = Value.bool b
 | .int i,u => ∃ t,u = Value.int i t
 | .str x,u => ∃ t,u = Value.str x t
 | .byt b,u => ∃ t,u = Value.bytes b t
 | .flt b,u => ∃ t,u = Value.float b t
 | .ref a,u => u = Value.ref a
 | .ty n,u => u = Value.type n
abbrev q3w : List V -> List Value -> Prop:=Paired RelV
theorem q3w.length {xs : List V} {us : List Value} (r : q3w xs us) : xs.length = us.length:=Paired.length r
theorem q3w.get : ∀ {xs : List V} {us : List Value} {i : Nat} {x : V},q3w xs us -> xs[i]? = some x -> ∃ u,us[i]? = some u /\ RelV x u
 | _,_,_,_,.nil,e => by simp at e
 | _,_,0,_,.cons r _,e => by simp at e; subst e; exact ⟨_,rfl,r⟩
 | _,_,i + 1,x,.cons _ t,e => by
  obtain ⟨u,h1,h2⟩:=q3w.get (i:=i) (x:=x) t (by simpa using e)
  exact ⟨u,by simpa using h1,h2⟩
theorem q3w.append : ∀ {xs ys : List V} {us ws : List Value},q3w xs us -> q3w ys ws -> q3w (xs ++ ys) (us ++ ws)
 | _,_,_,_,.nil,s => s
 | _,_,_,_,.cons r t,s => .cons r (q3w.append t s)
theorem q3w.take : ∀ {xs : List V} {us : List Value} (n : Nat),q3w xs us -> q3w (xs.take n) (us.take n)
 | _,_,0,_ => .nil
 | _,_,_ + 1,.nil => .nil
 | _,_,n + 1,.cons r t => .cons r (q3w.take n t)
theorem q3w.drop : ∀ {xs : List V} {us : List Value} (n : Nat),q3w xs us -> q3w (xs.drop n) (us.drop n)
 | _,_,0,r => r
 | _,_,_ + 1,.nil => .nil
 | _,_,n + 1,.cons _ t => q3w.drop n t
def z9l : Option V -> Option Value -> Prop
 | some v,some u => RelV v u
 | none,none => True
 | _,_ => False
def KV {κ : Type} : List (κ × V) -> List (κ × Value) -> Prop:=Paired fun (p : κ × V) (q : κ × Value) => p.1 = q.1 /\ RelV p.2 q.2
def kV : Key -> V
 | .inl i => .int i
 | .inr x => .str x
inductive HO where
 | lst (xs : List V)
 | tup (xs : List V)
 | dK (kvs : List (Key × V)) | dT (kvs : List (List Key × V))
 | set (S : Int -> Bool) (n : Nat)
 | ins (C dx : Addr) (fs : List (Str × V))
 | own (x : Addr)
 | xd (fs : List (Str × V))
 | met (f x : Addr)
 | rng (lo hi : Int)
 | frz (o : Obj) (u : HO)
 | tbl (ps : Array Value)
 | ext (φ : Heap -> Prop)
abbrev Hp:=Addr -> Option HO
def upd (H : Hp) (a : Addr) (o : HO) : Hp:=fun b => if b = a then some o else H b
theorem q2f {H : Hp} {a : Addr} {o : HO} : upd H a o a = some o:=by unfold upd; rw [if_pos rfl]
theorem q1y {H : Hp} {a b : Addr} {o : HO} (h : b ≠ a) : upd H a o b = H b:=by unfold upd; rw [if_neg h]
theorem w1i {H : Hp} {a b : Addr} {o u : HO} (h : H a = some o) (h' : H b = some u) (d : o ≠ u) : a ≠ b:=by
 intro e; subst e; rw [h] at h'; exact d (Option.some.inj h')
theorem q3g {H : Hp} {a b : Addr} {o : HO} (h : H a = some o) (h' : H b = none) : a ≠ b:=by
 intro e; subst e; rw [h] at h'; cases h'
section
variable (P : Program) (w : World)
def q5a (H : Hp) (h : Heap) (a : Addr) : HO -> Prop
 | .lst xs => xs.length <= sizeLine /\ ∃ (its : List Value) (n : Nat),q3w xs its /\ h.get? a = some { cls:=.type "list",data:=.seq its.toArray n }
 | .tup xs => xs.length <= sizeLine /\ ∃ its : List Value,q3w xs its /\ IsTup h a its.toArray
 | .dK kvs => kvs.length <= sizeLine /\ (a == sysModules) = false /\ ∃ vs,KV kvs vs /\ h.DictOf (q3l P w) a vs
 | .dT kvs => kvs.length <= sizeLine /\ (a == sysModules) = false /\ ∃ xs : List (List Key × Addr × Value),
   Paired (fun (p : List Key × V) (q : List Key × Addr × Value) => p.1 = q.1 /\ H q.2.1 = some (.tup (p.1.map kV)) /\ RelV p.2 q.2.2) kvs xs ∧
   ∃ o es ep,h.get? a = some o /\ o.ExactDict /\ o.data = .dict es ep /\ es.toList = xs.map (entryOfKey (tupleKind (q3l P w))) /\ (xs.map (·.1)).Nodup
 | .set S n => h.SetOf (intKind P w) a S n
 | .ins C dx fs => H dx = some (.own a) /\ fs.length <= 1000 /\ dx ≠ a /\ h.get? a = some (PySem.W.instObj C dx) ∧
   ∃ mA,h.Ns1 dx mA /\ (∀ f,z9l (fs.lookup f) (mA f)) /\ PySem.Within mA (fs.map (·.1))
 | .own _ => ∃ o,h.get? a = some o
 | .xd fs => ∃ mA,h.Ns1 a mA /\ ∀ f,z9l (fs.lookup f) (mA f)
 | .rng lo hi => ∃ t u v,h.get? a = some { cls:=.type "range",data:=.fields #[.int lo t,.int hi u,.int 1 v] }
 | .frz o u => h.get? a = some o /\ q5a H h a u
 | .tbl ps => h.get? a = some { cls:=.none,data:=.fields ps }
 | .met f x => h.get? a = some (PySem.W.methodObj (.ref f) (.ref x))
 | .ext φ => φ h /\ (∃ o,h.get? a = some o) /\ ∀ h1 h2 : Heap,φ h1 -> (∀ o,h1.get? a = some o -> h2.get? a = some o) -> φ h2
def HOk (H : Hp) (h : Heap) : Prop:=∀ a o,H a = some o -> q5a P w H h a o
end
section
variable {P : Program} {w : World} {H H' : Hp} {h h' : Heap} {a : Addr} {o : HO}
theorem q5a.lt (x : q5a P w H h a o) : a < h.objs.size:=by
 cases o with
 | lst xs => obtain ⟨_,_,_,_,e⟩:=x; exact Heap.lt_size e
 | tup xs => obtain ⟨_,_,_,p⟩:=x; exact p.lt
 | dK kvs => obtain ⟨_,_,_,_,o,_,_,e,_⟩:=x; exact Heap.lt_size e
 | dT kvs => obtain ⟨_,_,_,_,o,_,_,e,_⟩:=x; exact Heap.lt_size e
 | set S n => obtain ⟨o,_,_,_,e,_⟩:=x; exact Heap.lt_size e
 | ins C dx fs => obtain ⟨_,_,_,e,_⟩:=x; exact Heap.lt_size e
 | own y => obtain ⟨_,e⟩:=x; exact Heap.lt_size e
 | xd fs => obtain ⟨_,⟨_,_,_,e,_⟩,_⟩:=x; exact Heap.lt_size e
 | rng lo hi => obtain ⟨_,_,_,e⟩:=x; exact Heap.lt_size e
 | frz ob u => obtain ⟨e,_⟩:=x; exact Heap.lt_size e
 | tbl ps => exact Heap.lt_size (show h.get? a = some _ from x)
 | met f y => exact Heap.lt_size (show h.get? a = some _ from x)
 | ext φ => obtain ⟨_,⟨_,e⟩,_⟩:=x; exact Heap.lt_size e
theorem Paired.mapP {α β : Type} {F G : α -> β -> Prop} : ∀ {l₁ : List α} {l₂ : List β},Paired F l₁ l₂ -> (∀ a b,F a b -> G a b) -> Paired G l₁ l₂
 | _,_,.nil,_ => .nil
 | _,_,.cons r t,f => .cons (f _ _ r) (Paired.mapP t f)
theorem q5a.stay (x : q5a P w H h a o) (k : ∀ b u,(b = a \/ H b = some (.own a)) -> h.get? b = some u -> h'.get? b = some u)
  (ho : ∀ b,H b = some (.own a) -> H' b = some (.own a)) (ht : ∀ b xs,H b = some (.tup xs) -> H' b = some (.tup xs)) : q5a P w H' h' a o:=by
 induction o with
 | lst xs => obtain ⟨z,its,n,r,e⟩:=x; exact ⟨z,its,n,r,k _ _ (.inl rfl) e⟩
 | tup xs => obtain ⟨z,its,r,ob,e,c⟩:=x; exact ⟨z,its,r,ob,k _ _ (.inl rfl) e,c⟩
 | dK kvs => obtain ⟨z,y,vs,r,ob,es,ep,e,c⟩:=x; exact ⟨z,y,vs,r,ob,es,ep,k _ _ (.inl rfl) e,c⟩
 | dT kvs =>
  obtain ⟨z,y,xs,r,ob,es,ep,e,c⟩:=x
  exact ⟨z,y,xs,Paired.mapP r fun p q z => ⟨z.1,ht _ _ z.2.1,z.2.2⟩,ob,es,ep,k _ _ (.inl rfl) e,c⟩
 | set S n => obtain ⟨ob,es,ep,t,e,c⟩:=x; exact ⟨ob,es,ep,t,k _ _ (.inl rfl) e,c⟩
 | ins C dx fs =>
  obtain ⟨d,z,ne,e,mA,⟨od,es,ep,e2,c⟩,r⟩:=x
  exact ⟨ho _ d,z,ne,k _ _ (.inl rfl) e,mA,⟨od,es,ep,k _ _ (.inr d) e2,c⟩,r⟩
 | own y => obtain ⟨ob,e⟩:=x; exact ⟨ob,k _ _ (.inl rfl) e⟩
 | xd fs => obtain ⟨mA,⟨od,es,ep,e,c⟩,r⟩:=x; exact ⟨mA,⟨od,es,ep,k _ _ (.inl rfl) e,c⟩,r⟩
 | rng lo hi => obtain ⟨t,u,v,e⟩:=x; exact ⟨t,u,v,k _ _ (.inl rfl) e⟩
 | frz ob u ih => obtain ⟨e,q⟩:=x; exact ⟨k _ _ (.inl rfl) e,ih q⟩
 | tbl ps =>
  have e : h.get? a = some { cls:=.none,data:=.fields ps }:=x
  show h'.get? a = some { cls:=.none,data:=.fields ps }
  exact k a _ (.inl rfl) e
 | met f y =>
  have e : h.get? a = some (PySem.W.methodObj (.ref f) (.ref y)):=x
  show h'.get? a = some (PySem.W.methodObj (.ref f) (.ref y))
  exact k a _ (.inl rfl) e
 | ext φ => obtain ⟨p,⟨o,e⟩,st⟩:=x; exact ⟨st _ _ p fun o q => k _ _ (.inl rfl) q,⟨o,k _ _ (.inl rfl) e⟩,st⟩
theorem HOk.lt (x : HOk P w H h) (e : H a = some o) : a < h.objs.size:=(x a o e).lt
theorem HOk.fresh (x : HOk P w H h) (e : h.objs.size <= a) : H a = none:=by
 cases q : H a with
 | none => rfl
 | some u => exact absurd (Nat.lt_of_lt_of_le (x.lt q) e) (Nat.lt_irrefl _)
theorem HOk.kept (x : HOk P w H h) (k : ∀ b u,h.get? b = some u -> h'.get? b = some u) : HOk P w H h':=fun a o e =>
 (x a o e).stay (fun b u _ q => k b u q) (fun _ q => q) fun _ _ q => q
theorem HOk.laid (x : HOk P w H h) (k : ∀ b u,h.get? b = some u -> h'.get? b = some u) (hp : h.objs.size <= a) (new : q5a P w (upd H a o) h' a o) : HOk P w (upd H a o) h':=fun b u e => by
 have hn:=x.fresh hp
 by_cases hb : b = a
 ·subst hb; rw [q2f] at e; cases e; exact new
 ·rw [q1y hb] at e
  exact (x b u e).stay (fun c v _ q => k c v q) (fun c q => by rw [q1y (q3g q hn)]; exact q) fun c xs q => by rw [q1y (q3g q hn)]; exact q
end
def Rd (H : Hp) (a : Addr) (u : HO) : Prop:=H a = some u \/ ∃ o,H a = some (.frz o u)
theorem Rd.ok {P : Program} {w : World} {H : Hp} {h : Heap} {a : Addr} {u : HO} (r : Rd H a u) (x : HOk P w H h) : q5a P w H h a u:=by
 rcases r with r | ⟨o,r⟩
 ·exact x a u r
 ·obtain ⟨_,q⟩:=x a _ r
  exact q
def Mut : Option HO -> Prop
 | some (.lst _) => True
 | some (.dK _) => True
 | some (.dT _) => True
 | some (.set _ _) => True
 | some (.ins _ _ _) => True
 | some (.ext _) => True
 | _ => False
section
variable {P : Program} {w : World} {H : Hp} {h h' : Heap} {x e : Addr} {o' : HO}
theorem HOk.write (ok : HOk P w H h) (mu : Mut (H x)) (he : e = x \/ H e = some (.own x)) (k : ∀ b u,b ≠ e -> h.get? b = some u -> h'.get? b = some u) (heo : ∃ u,h'.get? e = some u)
  (new : q5a P w (upd H x o') h' x o') : HOk P w (upd H x o') h':=fun b u q => by
 have nown : ∀ c y,H c = some (.own y) -> c ≠ x:=fun c y r z => by subst z; rw [r] at mu; exact mu
 have ntup : ∀ c xs,H c = some (.tup xs) -> c ≠ x:=fun c xs r z => by subst z; rw [r] at mu; exact mu
 by_cases hb : b = x
 ·subst hb; rw [q2f] at q; cases q; exact new
 ·rw [q1y hb] at q
  by_cases hbe : b = e
  ·have q' : H b = some (.own x):=by
    rcases he with z | z
    ·exact absurd (hbe.trans z) hb
    ·rw [hbe]; exact z
   rw [q] at q'; cases q'
   obtain ⟨v,hv⟩:=heo
   exact ⟨v,by rw [hbe]; exact hv⟩
  ·refine (ok b u q).stay (fun c v hc r => k c v ?_ r) (fun c r => by rw [q1y (nown c b r)]; exact r) fun c xs r => by rw [q1y (ntup c xs r)]; exact r
   rcases hc with rfl | hc
   ·exact hbe
   ·rintro rfl
    rcases he with z | z
    ·exact nown c b hc z
    ·rw [hc] at z; cases z; exact hb rfl
end
structure Un (fs ex : List Addr) (H H' : Hp) (h h' : Heap) : Prop where
 keep : ∀ b o,h.get? b = some o -> H b = none -> b ∉ fs -> b ∉ ex -> h'.get? b = some o
 slot : ∀ b o,h.get? b = some o -> H b = none -> b ∈ fs -> b ∉ ex -> ∃ sl,h'.get? b = some { o with slots:=sl }
 free : ∀ b o,h.get? b = some o -> H b = none -> b ∉ ex -> H' b = none
 there : ∀ b o,h.get? b = some o -> b ∉ ex -> ∃ o',h'.get? b = some o'
 tups : ∀ b xs,H b = some (.tup xs) -> H' b = some (.tup xs)
 frzs : ∀ b o u,H b = some (.frz o u) -> H' b = some (.frz o u)
 tbls : ∀ b ps,H b = some (.tbl ps) -> ∃ more,H' b = some (.tbl (ps ++ more))
section
variable {fs fs' ex ex' : List Addr} {H H1 H2 : Hp} {h h1 h2 h' : Heap} {a x e : Addr} {o : HO}
theorem Un.any (u : Un fs ex H H1 h h1) {b : Addr} {ob : Obj} (q : h.get? b = some ob) (n : H b = none) (hx : b ∉ ex) : ∃ sl,h1.get? b = some { ob with slots:=sl }:=by
 by_cases hb : b ∈ fs
 ·exact u.slot b ob q n hb hx
 ·exact ⟨ob.slots,u.keep b ob q n hb hx⟩
theorem Un.kept (k : ∀ b u,h.get? b = some u -> h'.get? b = some u) : Un fs ex H H h h' :=
 ⟨fun b ob q _ _ _ => k b ob q,fun b ob q _ _ _ => ⟨ob.slots,k b ob q⟩,fun _ _ _ n _ => n,fun b ob q _ => ⟨ob,k b ob q⟩,fun _ _ q => q,fun _ _ _ q => q,fun _ ps q => ⟨#[],by rw [q]; simp⟩⟩
theorem Un.refl : Un fs ex H H h h:=Un.kept fun _ _ q => q
theorem Un.laid (k : ∀ b u,h.get? b = some u -> h'.get? b = some u) (hp : h.objs.size <= a) (hn : H a = none) : Un fs ex H (upd H a o) h h' where
 keep:=fun b u q _ _ _ => k b u q
 slot:=fun b u q _ _ _ => ⟨u.slots,k b u q⟩
 free:=fun b u q n _ => by rw [q1y (Nat.ne_of_lt (Nat.lt_of_lt_of_le (Heap.lt_size q) hp))]; exact n
 there:=fun b u q _ => ⟨u,k b u q⟩
 tups:=fun b xs q => by rw [q1y (q3g q hn)]; exact q
 frzs:=fun b u xs q => by rw [q1y (q3g q hn)]; exact q
 tbls:=fun b ps q => ⟨#[],by rw [q1y (q3g q hn),q]; simp⟩
theorem Un.write (mu : Mut (H x)) (he : e = x \/ H e = some (.own x)) (k : ∀ b u,b ≠ e -> h.get? b = some u -> h'.get? b = some u) (heo : ∃ u,h'.get? e = some u) : Un fs ex H (upd H x o) h h':=by
 have hx : ∀ b,H b = none -> b ≠ x:=fun b n z => by subst z; rw [n] at mu; exact mu
 have hb : ∀ b,H b = none -> b ≠ e:=fun b n z => by
  subst z
  rcases he with r | r
  ·exact hx b n r
  ·rw [n] at r; cases r
 have hm : ∀ b u,H b = some u -> ¬ Mut (some u) -> b ≠ x:=fun b u q nm z => by subst z; rw [q] at mu; exact nm mu
 refine ⟨fun b u q n _ _ => k b u (hb b n) q,fun b u q n _ _ => ⟨u.slots,k b u (hb b n) q⟩,fun b u q n _ => by rw [q1y (hx b n)]; exact n,fun b u q _ => ?_,
  fun b xs q => by rw [q1y (hm b _ q fun z => z)]; exact q,fun b u xs q => by rw [q1y (hm b _ q fun z => z)]; exact q,fun b ps q => ⟨#[],by rw [q1y (hm b _ q fun z => z),q]; simp⟩⟩
 by_cases hbe : b = e
 ·subst hbe; exact heo
 ·exact ⟨u,k b u hbe q⟩
end
def trk (h : Heap) (H : Hp) : List Addr:=(List.range h.objs.size).filter fun a => (H a).isSome
def k5t (h : Heap) (H : Hp) : Heap:=PySem.W.hideAll h (trk h H)
theorem k2e (h : Heap) (H : Hp) : (k5t h H).objs.size = h.objs.size:=PySem.W.hideAll_size _ _
theorem k5n {h : Heap} {H : Hp} {b : Addr} {o : Obj} (e : h.get? b = some o) (n : H b = none) : (k5t h H).get? b = some o :=
 PySem.W.hideAll_get _ e fun hm => by
  have q : (H b).isSome = true:=(List.mem_filter.mp hm).2
  rw [n] at q; simp at q
theorem j2i {h : Heap} {H : Hp} {b : Addr} {o : Obj} (e : (k5t h H).get? b = some o) : h.get? b = some o /\ H b = none:=by
 have e' : h.get? b = some o:=PySem.W.of_hideAll (trk h H) e
 refine ⟨e',?_⟩
 cases q : H b with
 | none => rfl
 | some x =>
  have hm : b ∈ trk h H:=List.mem_filter.mpr ⟨List.mem_range.mpr (Heap.lt_size e'),by simp [q]⟩
  have z : (k5t h H).get? b = none:=PySem.W.hideAll_none (trk h H) hm
  rw [z] at e; cases e
end L2
namespace L2
open PySem PySem.Spec PyProof.Rows
structure Mod (K : PySem.W.Frag) (mg : Str -> Option Value) (base : Heap) : Prop where
 kin : K.In base
 glob : base.Ns mainGlobals mg
 blt : ∃ mb,base.Ns builtinsNs mb /\ ∀ x : Str,x ≠ "__name__" -> mb x = bootBuiltins x
 nolimit : base.NoLimit
structure Cx where
 prog : Program
 w : World
 K : PySem.W.Frag
 mg : Str -> Option Value
 base : Heap
 A : Around
 N : List Str
 s₀ : Shared
 H0 : Hp
 env : Env
 outer : List Env
 stack : List Env
 ex : List Addr
 fn : Str -> Bool
 calm : Bool
 pn : List (Addr × Obj)
 xe : Value -> Shared -> Prop
def frs (l : List Env) : List Addr:=l.filterMap (·.frame)
abbrev Cx.fs (X : Cx) : List Addr:=frs X.outer
def Vis (sc : Scope) (x : Str) : Prop:=sc.names.lookup x = some .local \/ sc.names.lookup x = some .cell \/ sc.names.lookup x = some .free
def Loc (sc : Scope) (x : Str) : Prop:=sc.names.lookup x = some .local \/ sc.names.lookup x = some .cell
def Look (env : Env) (h : Heap) (m : Str -> Option Value) (x : Str) (u : Value) : Prop :=
 (env.kindOf x = some .local /\ m x = some u) \/ ((env.kindOf x = some .cell \/ env.kindOf x = some .free) /\ ∃ c,env.cells.lookup x = some c /\ h.IsCell c (some u))
structure Cx.Ok (X : Cx) : Prop where
 mod : Mod X.K X.mg X.base
 kind : X.env.scope.kind = .function
 glob : X.env.globals = mainGlobals
 blt : X.env.builtins = builtinsNs
 above : X.s₀.heap.objs.size <= X.env.locals
 inj : ∀ x y c,X.env.cells.lookup x = some c -> X.env.cells.lookup y = some c -> x = y
 has : ∀ x,(X.env.kindOf x = some .cell \/ X.env.kindOf x = some .free) -> ∃ c,X.env.cells.lookup x = some c
 cab : ∀ x c,X.fn x = true -> X.env.cells.lookup x = some c -> X.s₀.heap.objs.size <= c
 hd : X.calm = true -> X.A.handled = none
 frames : X.A.frames = some X.stack
 stk : X.stack = X.outer \/ (X.stack = X.env :: X.outer /\ X.env.frame = some X.env.locals)
 exf : ∀ b ∈ X.ex,b ≠ X.env.locals /\ ∀ x c,X.env.cells.lookup x = some c -> c ≠ b
 bs : ∀ b o,X.base.get? b = some o -> X.s₀.heap.get? b = some o /\ X.H0 b = none
 bsz : X.base.objs.size <= X.s₀.heap.objs.size
 noex : ∀ b o,X.base.get? b = some o -> b ∉ X.ex
 exfs : ∀ b ∈ X.ex,b ∉ X.fs
 funs : X.s₀.heap.FunFrames X.base X.outer
 frf : ∀ b ∈ X.fs,X.H0 b = none
structure Inv (X : Cx) (pins : List (Addr × Obj)) (σ : List (Option V)) (H : Hp) (s : Shared) : Prop where
 ok : X.Ok
 os : s.os = X.s₀.os
 bare : AllBare s.gens
 base : Un X.fs X.ex X.H0 H X.s₀.heap s.heap
 loc : ∃ m,s.heap.Ns X.env.locals m /\ ∀ (i : Nat) (x : Str) (v : V),X.N[i]? = some x -> σ[i]? = some (some v) -> Vis X.env.scope x -> ∃ u,RelV v u /\ Look X.env s.heap m x u
 cell : ∀ x c,X.env.cells.lookup x = some c -> ∃ v,s.heap.IsCell c v
 free : H X.env.locals = none
 freeC : ∀ x c,X.env.cells.lookup x = some c -> H c = none
 pin : ∀ p ∈ X.pn ++ pins,s.heap.get? p.1 = some p.2 /\ H p.1 = none /\ p.1 ≠ X.env.locals /\ p.1 ∉ X.fs /\ ∀ v,p.2.data ≠ .cell v
 hok : HOk X.prog X.w H s.heap
 len : σ.length = X.N.length
section
variable {X : Cx} {pins : List (Addr × Obj)} {σ : List (Option V)} {H H' : Hp} {s : Shared} {h' : Heap}
theorem Cx.Ok.nofr (ok : X.Ok) {b : Addr} {o : Obj} (e : X.base.get? b = some o) : b ∉ X.fs:=fun hb => by
 have:=(ok.funs.mem hb).1
 rw [e] at this; cases this
theorem Inv.bs (I : Inv X pins σ H s) : ∀ b o,X.base.get? b = some o -> s.heap.get? b = some o /\ H b = none:=fun b o e =>
 ⟨I.base.keep b o (I.ok.bs b o e).1 (I.ok.bs b o e).2 (I.ok.nofr e) (I.ok.noex b o e),I.base.free b o (I.ok.bs b o e).1 (I.ok.bs b o e).2 (I.ok.noex b o e)⟩
theorem Inv.bk (I : Inv X pins σ H s) : ∀ b o,X.base.get? b = some o -> s.heap.get? b = some o:=fun b o e => (I.bs b o e).1
theorem Inv.mod (I : Inv X pins σ H s) : Mod X.K X.mg X.base:=I.ok.mod
theorem Inv.kIn (I : Inv X pins σ H s) : X.K.In s.heap:=I.ok.mod.kin.keeps I.bk
theorem Inv.lt (I : Inv X pins σ H s) : X.env.locals < s.heap.objs.size:=let ⟨_,hn,_⟩:=I.loc; hn.lt
theorem Inv.sz (I : Inv X pins σ H s) : X.s₀.heap.objs.size <= s.heap.objs.size:=Nat.le_trans I.ok.above (Nat.le_of_lt I.lt)
theorem Inv.nofs (I : Inv X pins σ H s) {a : Addr} (h : s.heap.objs.size <= a) : a ∉ X.fs:=fun hb => by
 obtain ⟨_,o,ho,_⟩:=I.ok.funs.mem hb
 exact absurd (Nat.lt_of_lt_of_le (Heap.lt_size ho) (Nat.le_trans I.sz h)) (Nat.lt_irrefl _)
theorem Inv.cne (I : Inv X pins σ H s) : ∀ x c,X.env.cells.lookup x = some c -> c ≠ X.env.locals:=fun x c e z => by
 obtain ⟨v,o,ho,hd⟩:=I.cell x c e
 obtain ⟨m,⟨o',es,ep,ho',hd',_⟩,_⟩:=I.loc
 rw [z,ho'] at ho; cases ho; rw [hd'] at hd; cases hd
theorem Inv.funs (I : Inv X pins σ H s) : s.heap.FunFrames X.base X.outer:=by
 have all : ∀ (l : List Env),(∀ b ∈ frs l,b ∈ X.fs) -> X.s₀.heap.FunFrames X.base l -> s.heap.FunFrames X.base l:=by
  intro l
  induction l with
  | nil => intro _ _; trivial
  | cons env r ih =>
   intro hs hl
   obtain ⟨hk,⟨L,o,hf,hn,ho,hd⟩,hr⟩:=hl
   have hL : L ∈ X.fs:=hs L (by unfold frs; rw [List.filterMap_cons,hf]; exact List.mem_cons_self)
   obtain ⟨sl,e⟩:=I.base.slot L o ho (I.ok.frf L hL) hL fun z => I.ok.exfs L z hL
   exact ⟨hk,⟨L,_,hf,hn,e,hd⟩,ih (fun b hb => hs b (by unfold frs; rw [List.filterMap_cons,hf]; exact List.mem_cons_of_mem _ hb)) hr⟩
 exact all X.outer (fun _ hb => hb) I.ok.funs
theorem Inv.stack (I : Inv X pins σ H s) : s.heap.FunFrames X.base X.stack:=by
 rcases I.ok.stk with e | ⟨e,hf⟩
 ·rw [e]; exact I.funs
 ·rw [e]
  obtain ⟨m,hn,_⟩:=I.loc
  refine .cons (by rw [I.ok.kind]; decide) hf hn ?_ I.funs
  exact Heap.get?_none_of_le (Nat.le_trans I.ok.bsz I.ok.above)
theorem Inv.stkSub (I : Inv X pins σ H s) : ∀ b ∈ frs X.stack,b ∈ X.env.locals :: X.fs:=fun b hb => by
 rcases I.ok.stk with e | ⟨e,hf⟩
 ·rw [e] at hb; exact List.mem_cons_of_mem _ hb
 ·rw [e] at hb
  unfold frs at hb
  rw [List.filterMap_cons,hf] at hb
  exact hb
theorem Inv.stkFree (I : Inv X pins σ H s) : ∀ b ∈ frs X.stack,H b = none:=fun b hb => by
 rcases List.mem_cons.mp (I.stkSub b hb) with e | hb
 ·rw [e]; exact I.free
 ·obtain ⟨_,o,ho,_⟩:=I.ok.funs.mem hb
  exact I.base.free b o ho (I.ok.frf b hb) fun z => I.ok.exfs b z hb
theorem Inv.step {g' : Array GenState} {t' : Nat} {d' : Drawn} {ch : List Addr} (I : Inv X pins σ H s)
  (hch : ∀ b ∈ ch,(b ∈ X.ex \/ X.s₀.heap.objs.size <= b) /\ b ≠ X.env.locals /\ (∀ x c,X.env.cells.lookup x = some c -> c ≠ b) /\ ∀ p ∈ X.pn ++ pins,p.1 ≠ b)
  (keep : ∀ b o,b ≠ X.env.locals -> b ∉ X.fs -> b ∉ ch -> s.heap.get? b = some o -> H b = none -> h'.get? b = some o)
  (slot : ∀ b o,b ≠ X.env.locals -> b ∈ X.fs -> b ∉ ch -> s.heap.get? b = some o -> H b = none -> ∃ sl,h'.get? b = some { o with slots:=sl }) (free : ∀ b o,b ∉ ch -> s.heap.get? b = some o -> H b = none -> H' b = none)
  (there : ∀ b o,b ∉ ch -> s.heap.get? b = some o -> ∃ o',h'.get? b = some o')
  (tups : ∀ b xs,H b = some (.tup xs) -> H' b = some (.tup xs)) (frzs : ∀ b o u,H b = some (.frz o u) -> H' b = some (.frz o u)) (tbls : ∀ b ps,H b = some (.tbl ps) -> ∃ more,H' b = some (.tbl (ps ++ more)))
  (ns : ∀ m,s.heap.Ns X.env.locals m -> h'.Ns X.env.locals m) (hok : HOk X.prog X.w H' h') (hg : AllBare g') :
  Inv X pins σ H' { s with heap:=h',gens:=g',drawn:=d',toks:=t' }:=by
 have neL : ∀ b o,X.s₀.heap.get? b = some o -> b ≠ X.env.locals:=fun b o e => Nat.ne_of_lt (Nat.lt_of_lt_of_le (Heap.lt_size e) I.ok.above)
 have neC : ∀ b o,X.s₀.heap.get? b = some o -> b ∉ X.ex -> b ∉ ch:=fun b o e hx hb => by
  rcases (hch b hb).1 with z | z
  ·exact hx z
  ·exact absurd (Nat.lt_of_lt_of_le (Heap.lt_size e) z) (Nat.lt_irrefl _)
 have cellK : ∀ x c,X.env.cells.lookup x = some c -> ∀ v,s.heap.IsCell c v -> h'.IsCell c v:=fun x c e v ⟨o,ho,hd⟩ => by
  have nch : c ∉ ch:=fun z => (hch c z).2.2.1 x c e rfl
  by_cases hc : c ∈ X.fs
  ·obtain ⟨sl,q⟩:=slot c o (I.cne x c e) hc nch ho (I.freeC x c e)
   exact ⟨_,q,hd⟩
  ·exact ⟨o,keep c o (I.cne x c e) hc nch ho (I.freeC x c e),hd⟩
 refine ⟨I.ok,I.os,hg,⟨fun b o e n hb hx => ?_,fun b o e n hb hx => ?_,fun b o e n hx => ?_,fun b o e hx => ?_,fun b xs e => tups b xs (I.base.tups b xs e),fun b o xs e => frzs b o xs (I.base.frzs b o xs e),fun b ps e => ?_⟩,?_,fun x c e => ?_,?_,fun x c e => ?_,fun p hp => ?_,hok,I.len⟩
 ·exact keep b o (neL b o e) hb (neC b o e hx) (I.base.keep b o e n hb hx) (I.base.free b o e n hx)
 ·obtain ⟨sl,e1⟩:=I.base.slot b o e n hb hx
  obtain ⟨sl',e2⟩:=slot b _ (neL b o e) hb (neC b o e hx) e1 (I.base.free b o e n hx)
  exact ⟨sl',e2⟩
 ·obtain ⟨o',e1⟩:=I.base.there b o e hx
  exact free b o' (neC b o e hx) e1 (I.base.free b o e n hx)
 ·obtain ⟨o',e1⟩:=I.base.there b o e hx
  exact there b o' (neC b o e hx) e1
 ·obtain ⟨m1,e1⟩:=I.base.tbls b ps e
  obtain ⟨m2,e2⟩:=tbls b _ e1
  exact ⟨m1 ++ m2,by rw [e2,Array.append_assoc]⟩
 ·obtain ⟨m,hn,hl⟩:=I.loc
  refine ⟨m,ns m hn,fun i x v e1 e2 e3 => ?_⟩
  obtain ⟨u,r,l⟩:=hl i x v e1 e2 e3
  refine ⟨u,r,?_⟩
  rcases l with l | ⟨k,c,e,z⟩
  ·exact .inl l
  ·exact .inr ⟨k,c,e,cellK x c e _ z⟩
 ·obtain ⟨v,z⟩:=I.cell x c e
  exact ⟨v,cellK x c e v z⟩
 ·obtain ⟨m,⟨o,_,_,ho,_⟩,_⟩:=I.loc
  exact free _ o (fun z => (hch _ z).2.1 rfl) ho I.free
 ·obtain ⟨v,o,ho,hd⟩:=I.cell x c e
  exact free c o (fun z => (hch c z).2.2.1 x c e rfl) ho (I.freeC x c e)
 ·obtain ⟨e,n,ne,nf,d⟩:=I.pin p hp
  have nch : p.1 ∉ ch:=fun z => (hch p.1 z).2.2.2 p hp rfl
  exact ⟨keep p.1 p.2 ne nf nch e n,free p.1 p.2 nch e n,ne,nf,d⟩
theorem Inv.un {t' : Nat} (I : Inv X pins σ H s) (u : Un X.fs [] H H' s.heap h') (hok : HOk X.prog X.w H' h') : Inv X pins σ H' { s with heap:=h',toks:=t' }:=by
 obtain ⟨m,⟨o,es,ep,ho,r⟩,_⟩:=id I.loc
 obtain ⟨sl,hL⟩:=u.any ho I.free (by simp)
 exact I.step (g':=s.gens) (d':=s.drawn) (ch:=[]) (fun _ z => nomatch z) (fun b o _ hb _ e n => u.keep b o e n hb (by simp)) (fun b o _ hb _ e n => u.slot b o e n hb (by simp)) (fun b o _ e n => u.free b o e n (by simp)) (fun b o _ e => u.there b o e (by simp)) u.tups u.frzs u.tbls (fun m' hm => by
  obtain ⟨o',es',ep',ho',r'⟩:=hm
  rw [ho] at ho'; cases ho'
  exact ⟨_,es',ep',hL,r'⟩) hok I.bare
theorem Inv.call {g' : Array GenState} {t' : Nat} {d' : Drawn} {ch : List Addr} (I : Inv X pins σ H s) (u : Un (frs X.stack) ch H H' s.heap h') (hok : HOk X.prog X.w H' h') (hg : AllBare g')
  (hch : ∀ b ∈ ch,(b ∈ X.ex \/ X.s₀.heap.objs.size <= b) /\ b ≠ X.env.locals /\ (∀ x c,X.env.cells.lookup x = some c -> c ≠ b) /\ ∀ p ∈ X.pn ++ pins,p.1 ≠ b) :
  Inv X pins σ H' { s with heap:=h',gens:=g',drawn:=d',toks:=t' }:=by
 obtain ⟨m,⟨o,es,ep,ho,r⟩,_⟩:=id I.loc
 obtain ⟨sl,hL⟩:=u.any ho I.free fun z => (hch _ z).2.1 rfl
 exact I.step (ch:=ch) hch (fun b o hL hb hc e n => u.keep b o e n (fun z => (List.mem_cons.mp (I.stkSub b z)).elim hL hb) hc) (fun b o _ _ hc e n => u.any e n hc) (fun b o hc e n => u.free b o e n hc) (fun b o hc e => u.there b o e hc) u.tups u.frzs u.tbls (fun m' hm => by
  obtain ⟨o',es',ep',ho',r'⟩:=hm
  rw [ho] at ho'; cases ho'
  exact ⟨_,es',ep',hL,r'⟩) hok hg
theorem Inv.turned {t' : Nat} {it : Addr} (I : Inv X pins σ H s) (k : ∀ b o,b ≠ it -> s.heap.get? b = some o -> h'.get? b = some o) (hn : H it = none) (hL : it ≠ X.env.locals)
  (h1 : it ∈ X.ex \/ X.s₀.heap.objs.size <= it) (h2 : ∀ x c,X.env.cells.lookup x = some c -> c ≠ it) (h3 : ∀ p ∈ X.pn ++ pins,p.1 ≠ it) : Inv X pins σ H { s with heap:=h',toks:=t' }:=by
 have nit : ∀ b u,H b = some u -> b ≠ it:=fun b u e z => by rw [z,hn] at e; cases e
 refine I.step (g':=s.gens) (d':=s.drawn) (ch:=[it]) (fun b hb => ?_) (fun b o _ _ hc e _ => k b o (fun z => hc (by simp [z])) e) (fun b o _ _ hc e _ => ⟨o.slots,k b o (fun z => hc (by simp [z])) e⟩) (fun _ _ _ _ n => n)
  (fun b o hc e => ⟨o,k b o (fun z => hc (by simp [z])) e⟩) (fun _ _ e => e) (fun _ _ _ e => e) (fun b ps e => ⟨#[],by rw [e]; simp⟩) (fun m hm => ?_) (fun b u e => ?_) I.bare
 ·have e : b = it:=by simpa using hb
  subst e
  exact ⟨h1,hL,h2,h3⟩
 ·obtain ⟨o,es,ep,ho,r⟩:=hm
  exact ⟨o,es,ep,k _ o (Ne.symm hL) ho,r⟩
 ·refine (I.hok b u e).stay (fun c v hc q => k c v ?_ q) (fun _ q => q) fun _ _ q => q
  rcases hc with z | z
  ·rw [z]; exact nit b u e
  ·exact nit c _ z
theorem Inv.tok (I : Inv X pins σ H s) (t : Nat) : Inv X pins σ H { s with toks:=t }:=I.un (h':=s.heap) (t':=t) Un.refl I.hok
theorem Inv.kept {t' : Nat} (I : Inv X pins σ H s) (k : ∀ b u,s.heap.get? b = some u -> h'.get? b = some u) : Inv X pins σ H { s with heap:=h',toks:=t' }:=I.un (Un.kept k) (I.hok.kept k)
theorem Inv.laid {a : Addr} {o : HO} {t' : Nat} (I : Inv X pins σ H s) (k : ∀ b u,s.heap.get? b = some u -> h'.get? b = some u) (hp : s.heap.objs.size <= a) (new : q5a X.prog X.w (upd H a o) h' a o) :
  Inv X pins σ (upd H a o) { s with heap:=h',toks:=t' }:=I.un (Un.laid k hp (I.hok.fresh hp)) (I.hok.laid k hp new)
theorem Inv.write {x e : Addr} {o : HO} {t' : Nat} (I : Inv X pins σ H s) (mu : Mut (H x)) (he : e = x \/ H e = some (.own x)) (k : ∀ b u,b ≠ e -> s.heap.get? b = some u -> h'.get? b = some u) (heo : ∃ u,h'.get? e = some u)
  (new : q5a X.prog X.w (upd H x o) h' x o) : Inv X pins σ (upd H x o) { s with heap:=h',toks:=t' }:=I.un (Un.write mu he k heo) (I.hok.write mu he k heo new)
theorem Inv.pins_of {pins' : List (Addr × Obj)} (I : Inv X pins σ H s) (h : ∀ p ∈ pins',s.heap.get? p.1 = some p.2 /\ H p.1 = none /\ p.1 ≠ X.env.locals /\ p.1 ∉ X.fs /\ ∀ v,p.2.data ≠ .cell v) : Inv X pins' σ H s :=
 ⟨I.ok,I.os,I.bare,I.base,I.loc,I.cell,I.free,I.freeC,fun p hp => (List.mem_append.mp hp).elim (fun z => I.pin p (List.mem_append_left _ z)) (h p),I.hok,I.len⟩
theorem z2t {N : List Str} (hN : N.Nodup) {i j : Nat} {x : Str} (a : N[i]? = some x) (b : N[j]? = some x) : i = j:=by
 obtain ⟨h1,e1⟩:=List.getElem?_eq_some_iff.mp a
 obtain ⟨h2,e2⟩:=List.getElem?_eq_some_iff.mp b
 exact (List.getElem_inj hN).mp (e1.trans e2.symm)
theorem z4g {M : Model} {A : Around} {E : Value -> Shared -> Prop} {i : Nat} {x : Str} {v : V} {u : Value} {Q : Unit -> Shared -> Prop} (I : Inv X pins σ H s) (hN : X.N.Nodup) (hi : X.N[i]? = some x) (hx : Loc X.env.scope x) (r : RelV v u)
  (h : ∀ s',Inv X pins (σ.set i (some v)) H s' -> (∃ a,Heap.SameBut a s.heap s'.heap /\ (a = X.env.locals \/ X.env.cells.lookup x = some a)) -> Q () s') (hf : X.fn x = true \/ X.env.scope.names.lookup x = some .local:=by first | exact .inl rfl | exact .inr rfl | assumption) : wpAny M A (storeName X.env x u) Q E s:=by
 obtain ⟨m,hn,hl⟩:=id I.loc
 have hcls : (X.env.scope.kind == .class || (X.env.scope.kind == .module && X.env.locals != X.env.globals)) = false:=by rw [I.ok.kind]; rfl
 have hiσ : i < σ.length:=by rw [I.len]; exact (List.getElem?_eq_some_iff.mp hi).1
 have cne:=I.cne
 have tracked : ∀ {a : Addr} {h' : Heap},(∃ o,s.heap.get? a = some o /\ H a = none) -> Heap.SameBut a s.heap h' -> HOk X.prog X.w H h':=fun {a h'} ha hs b ob e => by
  obtain ⟨_,_,hfree⟩:=ha
  refine (I.hok b ob e).stay (fun c w' hc q => (hs.2 c ?_).trans q) (fun _ q => q) fun _ _ q => q
  rintro rfl
  rcases hc with rfl | hc
  ·rw [hfree] at e; cases e
  ·rw [hfree] at hc; cases hc
 rcases hx with hk | hk
 ·refine wpAny_storeName_local hk hn (fun h' hn' hs => ?_) hcls
  obtain ⟨oL,_,_,hoL,_⟩:=id hn
  refine h _ ⟨I.ok,I.os,I.bare,⟨fun b o e n hb hx => ?_,fun b o e n hb hx => ?_,I.base.free,fun b o e hx => ?_,I.base.tups,I.base.frzs,I.base.tbls⟩,⟨_,hn',fun j y v' e1 e2 e3 => ?_⟩,fun y c e => ?_,I.free,I.freeC,fun p hp => ?_,tracked ⟨oL,hoL,I.free⟩ hs,by simpa using I.len⟩ ⟨_,hs,.inl rfl⟩
  ·exact (hs.2 b (Nat.ne_of_lt (Nat.lt_of_lt_of_le (Heap.lt_size e) I.ok.above))).trans (I.base.keep b o e n hb hx)
  ·obtain ⟨sl,e1⟩:=I.base.slot b o e n hb hx
   exact ⟨sl,(hs.2 b (Nat.ne_of_lt (Nat.lt_of_lt_of_le (Heap.lt_size e) I.ok.above))).trans e1⟩
  ·obtain ⟨o',e1⟩:=I.base.there b o e hx
   exact ⟨o',(hs.2 b (Nat.ne_of_lt (Nat.lt_of_lt_of_le (Heap.lt_size e) I.ok.above))).trans e1⟩
  ·by_cases hj : j = i
   ·subst hj
    rw [hi] at e1; cases e1
    rw [List.getElem?_set_self hiσ] at e2
    cases e2
    exact ⟨u,r,.inl ⟨hk,by simp⟩⟩
   ·rw [List.getElem?_set_ne (Ne.symm hj)] at e2
    obtain ⟨u',r',q⟩:=hl j y v' e1 e2 e3
    refine ⟨u',r',?_⟩
    rcases q with ⟨k,e⟩ | ⟨k,c,e,z⟩
    ·refine .inl ⟨k,?_⟩
     have : y ≠ x:=fun e => hj (z2t hN e1 (e ▸ hi))
     simp [this,e]
    ·exact .inr ⟨k,c,e,z.sameBut hs (cne y c e)⟩
  ·obtain ⟨w',z⟩:=I.cell y c e
   exact ⟨w',z.sameBut hs (cne y c e)⟩
  ·obtain ⟨e,n,ne,nf,d⟩:=I.pin p hp
   exact ⟨(hs.2 p.1 ne).trans e,n,ne,nf,d⟩
 ·have hfn : X.fn x = true:=by
   rcases hf with z | z
   ·exact z
   ·rw [z] at hk; cases hk
  obtain ⟨c,hc⟩:=I.ok.has x (.inl hk)
  obtain ⟨w',z⟩:=I.cell x c hc
  refine wpAny_storeName_cell I.ok.kind hk hc z (fun h' hc' hs => ?_)
  obtain ⟨oc,hoc,hocd⟩:=id z
  refine h { s with heap:=h' } ⟨I.ok,I.os,I.bare,⟨fun b o e n hb hx => ?_,fun b o e n hb hx => ?_,I.base.free,fun b o e hx => ?_,I.base.tups,I.base.frzs,I.base.tbls⟩,⟨m,hn.sameBut hs (Ne.symm (cne x c hc)),fun j y v' e1 e2 e3 => ?_⟩,fun y c' e => ?_,I.free,I.freeC,fun p hp => ?_,tracked ⟨oc,hoc,I.freeC x c hc⟩ hs,by simpa using I.len⟩ ⟨c,hs,.inr hc⟩
  ·exact (hs.2 b (Nat.ne_of_lt (Nat.lt_of_lt_of_le (Heap.lt_size e) (I.ok.cab x c hfn hc)))).trans (I.base.keep b o e n hb hx)
  ·obtain ⟨sl,e1⟩:=I.base.slot b o e n hb hx
   exact ⟨sl,(hs.2 b (Nat.ne_of_lt (Nat.lt_of_lt_of_le (Heap.lt_size e) (I.ok.cab x c hfn hc)))).trans e1⟩
  ·obtain ⟨o',e1⟩:=I.base.there b o e hx
   exact ⟨o',(hs.2 b (Nat.ne_of_lt (Nat.lt_of_lt_of_le (Heap.lt_size e) (I.ok.cab x c hfn hc)))).trans e1⟩
  ·by_cases hj : j = i
   ·subst hj
    rw [hi] at e1; cases e1
    rw [List.getElem?_set_self hiσ] at e2
    cases e2
    exact ⟨u,r,.inr ⟨.inl hk,c,hc,hc'⟩⟩
   ·rw [List.getElem?_set_ne (Ne.symm hj)] at e2
    obtain ⟨u',r',q⟩:=hl j y v' e1 e2 e3
    refine ⟨u',r',?_⟩
    rcases q with q | ⟨k,c',e,z'⟩
    ·exact .inl q
    ·refine .inr ⟨k,c',e,z'.sameBut hs ?_⟩
     rintro rfl
     exact hj (z2t hN e1 (I.ok.inj _ _ _ e hc ▸ hi))
  ·by_cases hcc : c' = c
   ·subst hcc; exact ⟨_,hc'⟩
   ·obtain ⟨w2,z2⟩:=I.cell y c' e
    exact ⟨w2,z2.sameBut hs hcc⟩
  ·obtain ⟨e,n,ne,nf,d⟩:=I.pin p hp
   refine ⟨(hs.2 p.1 ?_).trans e,n,ne,nf,d⟩
   intro q
   rw [q,hoc] at e
   have q' : oc = p.2:=Option.some.inj e
   exact d w' (by rw [<- q']; exact hocd)
theorem z2f {M : Model} {A : Around} {E : Value -> Shared -> Prop} {i : Nat} {x : Str} {v : V} {u : Value} {Q : Unit -> Shared -> Prop} (I : Inv X pins σ H s) (hN : X.N.Nodup) (hi : X.N[i]? = some x) (hx : Loc X.env.scope x) (r : RelV v u)
  (h : ∀ s',Inv X pins (σ.set i (some v)) H s' -> Q () s') (hf : X.fn x = true \/ X.env.scope.names.lookup x = some .local:=by first | exact .inl rfl | exact .inr rfl | assumption) : wpAny M A (storeName X.env x u) Q E s :=
 z4g I hN hi hx r (fun s' I' _ => h s' I') hf
theorem Inv.call' {s' : Shared} {ch : List Addr} (I : Inv X pins σ H s) (ho : s'.os = s.os) (u : Un (frs X.stack) ch H H' s.heap s'.heap) (hok : HOk X.prog X.w H' s'.heap) (hg : AllBare s'.gens)
  (hch : ∀ b ∈ ch,(b ∈ X.ex \/ X.s₀.heap.objs.size <= b) /\ b ≠ X.env.locals /\ (∀ x c,X.env.cells.lookup x = some c -> c ≠ b) /\ ∀ p ∈ X.pn ++ pins,p.1 ≠ b) : Inv X pins σ H' s':=by
 obtain ⟨h',g',d',t',o'⟩:=s'
 have e : o' = s.os:=ho
 subst e
 exact I.call (g':=g') (t':=t') (d':=d') u hok hg hch
end
abbrev XK:=Value -> Option Addr -> Hp -> Prop
abbrev St:=List (Option V)
abbrev VK:=V -> Hp -> Prop
abbrev TE:=St -> Hp -> VK -> Prop
abbrev TT:=St -> Hp -> (Bool -> Hp -> Prop) -> Prop
abbrev TA:=St -> Hp -> (List V -> Hp -> Prop) -> Prop
structure z9i where
 nx : St -> Hp -> Prop
 rt : VK
 bk : St -> Hp -> Prop:=fun _ _ => False
 ct : St -> Hp -> Prop:=fun _ _ => False
abbrev TS:=z9i -> St -> Hp -> Prop
def EP (X : Cx) (pins : List (Addr × Obj)) (σ : St) (Q : VK) (u : Value) (s' : Shared) : Prop:=∃ v H',Inv X pins σ H' s' /\ RelV v u /\ Q v H'
def TP (X : Cx) (pins : List (Addr × Obj)) (σ : St) (Q : Bool -> Hp -> Prop) (b : Bool) (s' : Shared) : Prop:=∃ H',Inv X pins σ H' s' /\ Q b H'
def AP (X : Cx) (pins : List (Addr × Obj)) (σ : St) (Q : List V -> Hp -> Prop) (us : List Value) (s' : Shared) : Prop:=∃ vs H',Inv X pins σ H' s' /\ q3w vs us /\ Q vs H'
def SP (X : Cx) (pins : List (Addr × Obj)) (D : z9i) (f : Flow) (s' : Shared) : Prop :=
 match f with
 | .next => ∃ σ' H',Inv X pins σ' H' s' /\ D.nx σ' H'
 | .brk => ∃ σ' H',Inv X pins σ' H' s' /\ D.bk σ' H'
 | .cont => ∃ σ' H',Inv X pins σ' H' s' /\ D.ct σ' H'
 | .ret u => ∃ v σ' H',Inv X pins σ' H' s' /\ RelV v u /\ D.rt v H'
def PE (X : Cx) (e : Expr) (t : TE) : Prop :=
 ∀ (pins : List (Addr × Obj)) (s : Shared) (σ : St) (H : Hp) (Q : VK),Inv X pins σ H s -> t σ H Q -> wpAny (model X.prog X.w) X.A (eval e X.env) (EP X pins σ Q) X.xe s
def PT (X : Cx) (e : Expr) (t : TT) : Prop :=
 ∀ (pins : List (Addr × Obj)) (s : Shared) (σ : St) (H : Hp) (Q : Bool -> Hp -> Prop),Inv X pins σ H s -> t σ H Q -> wpAny (model X.prog X.w) X.A (isTrue e X.env (eval e X.env)) (TP X pins σ Q) X.xe s
def PW (X : Cx) (e : Expr) (t : TT) : Prop :=
 ∀ (whole : Sem Value) (pins : List (Addr × Obj)) (s : Shared) (σ : St) (H : Hp) (Q : Bool -> Hp -> Prop),Inv X pins σ H s -> t σ H Q -> wpAny (model X.prog X.w) X.A (isTrue e X.env whole) (TP X pins σ Q) X.xe s
theorem PW.pt {X : Cx} {e : Expr} {t : TT} (h : PW X e t) : PT X e t:=h _
def PA (X : Cx) (es : List Expr) (t : TA) : Prop :=
 ∀ (pos : Pos) (pins : List (Addr × Obj)) (s : Shared) (σ : St) (H : Hp) (Q : List V -> Hp -> Prop),Inv X pins σ H s -> t σ H Q -> wpAny (model X.prog X.w) X.A (spliced (backTo pos (starEach es X.env))) (AP X pins σ Q) X.xe s
def PS (X : Cx) (st : Stmt) (t : TS) : Prop :=
 ∀ (pins : List (Addr × Obj)) (s : Shared) (σ : St) (H : Hp) (D : z9i),Inv X pins σ H s -> t D σ H -> wpAny (model X.prog X.w) X.A (exec st X.env) (SP X pins D) X.xe s
def PSs (X : Cx) (st : List Stmt) (t : TS) : Prop :=
 ∀ (pins : List (Addr × Obj)) (s : Shared) (σ : St) (H : Hp) (D : z9i),Inv X pins σ H s -> t D σ H -> wpAny (model X.prog X.w) X.A (execs st X.env) (SP X pins D) X.xe s
theorem thn {α : Type} {t : Sem α} {Q Q' : α -> Shared -> Prop} {M : Model} {A : Around} {E : Value -> Shared -> Prop} {s : Shared} (h : wpAny M A t Q E s) (hQ : ∀ a s,Q a s -> Q' a s) : wpAny M A t Q' E s:=wpAny_mono h hQ fun _ _ x => x
end L2
namespace L2
open PySem PySem.Spec PyProof.Rows
section
variable {X : Cx}
def j5h (i : Nat) : TE:=fun σ H Q => ∃ v,σ[i]? = some (some v) /\ Q v H
def tC (v : V) : TE:=fun _ H Q => Q v H
theorem q7a {i : Nat} {x : Str} {pos : Pos} (hN : X.N[i]? = some x) (hv : Vis X.env.scope x) (hd : (x == ("__debug__" : Str)) = false:=by decide) (hcd : (x == ("__classdict__" : Str)) = false:=by decide) : PE X (.Name x pos) (j5h i):=by
 intro pins s σ H Q I h
 obtain ⟨v,e,h⟩:=h
 obtain ⟨m,hn,hl⟩:=I.loc
 obtain ⟨u,r,l⟩:=hl i x v hN e hv
 have fin : EP X pins σ Q u s:=⟨v,H,I,r,h⟩
 rcases l with ⟨hk,hm⟩ | ⟨hk,c,hc,hcell⟩
 ·exact wpAny_Name (wpAny_loadName_local I.ok.kind hk hn hm fin) hd
 ·rcases hk with hk | hk
  ·exact wpAny_Name (wpAny_loadName_cell I.ok.kind hk hc hcell fin) hd
  ·exact wpAny_Name (wpAny_loadName_free I.ok.kind hk hc hcell fin hcd) hd
theorem j8j {i j pos} : PE X (.Constant (.int i) j pos) (tC (.int i)):=fun _ _ _ H _ I h => wpAny_Constant_int ⟨.int i,H,I.tok _,⟨_,rfl⟩,h⟩
theorem j8v {b j pos} : PE X (.Constant (.bool b) j pos) (tC (.bl b)):=fun _ _ _ H _ I h => Constant_bool ⟨.bl b,H,I,rfl,h⟩
theorem k2d {j pos} : PE X (.Constant .none j pos) (tC .non):=fun _ _ _ H _ I h => Constant_none ⟨.non,H,I,rfl,h⟩
theorem j7e {x j pos} : PE X (.Constant (.str x) j pos) (tC (.str x)):=fun _ _ _ H _ I h => Calls.Constant_str ⟨.str x,H,I.tok _,⟨_,rfl⟩,h⟩
def Gl (X : Cx) (x : Str) : Prop:=X.env.kindOf x = some .globalImplicit
theorem q9x {E : Value -> Shared -> Prop} {pins : List (Addr × Obj)} {s : Shared} {σ : St} {H : Hp} {x : Str} {u : Value} {pos : Pos} {Q : Value -> Shared -> Prop} (I : Inv X pins σ H s) (hg : Gl X x) (hm : X.mg x = some u) (h : Q u s)
  (hd : (x == ("__debug__" : Str)) = false:=by decide) : wpAny (model X.prog X.w) X.A (eval (.Name x pos) X.env) Q E s :=
 Calls.Name_function_global I.ok.kind hg (Calls.loadGlobal_global (by rw [I.ok.glob]; exact I.mod.glob.keeps I.bk) hm h) hd
theorem q8c {E : Value -> Shared -> Prop} {pins : List (Addr × Obj)} {s : Shared} {σ : St} {H : Hp} {x : Str} {u : Value} {pos : Pos} {Q : Value -> Shared -> Prop} (I : Inv X pins σ H s) (hg : Gl X x) (hm : X.mg x = none) (hv : bootBuiltins x = some u) (h : Q u s)
  (hn : x ≠ "__name__":=by decide) (hd : (x == ("__debug__" : Str)) = false:=by decide) : wpAny (model X.prog X.w) X.A (eval (.Name x pos) X.env) Q E s:=by
 obtain ⟨mb,h1,h2⟩:=I.mod.blt
 exact Calls.Name_function_global I.ok.kind hg (Calls.loadGlobal_builtin (by rw [I.ok.glob]; exact I.mod.glob.keeps I.bk) hm (by rw [I.ok.blt]; exact h1.keeps I.bk) ((h2 x hn).trans hv) h) hd
theorem q6h {x : Str} {v : V} {u : Value} {pos : Pos} (hg : Gl X x) (hm : X.mg x = some u) (r : RelV v u) (hd : (x == ("__debug__" : Str)) = false:=by decide) : PE X (.Name x pos) (tC v) :=
 fun _ _ _ H _ I h => q9x I hg hm ⟨v,H,I,r,h⟩ hd
theorem k4k {x : Str} {v : V} {u : Value} {pos : Pos} (hg : Gl X x) (hm : X.mg x = none) (hv : bootBuiltins x = some u) (r : RelV v u) (hn : x ≠ "__name__":=by decide) (hd : (x == ("__debug__" : Str)) = false:=by decide) : PE X (.Name x pos) (tC v) :=
 fun _ _ _ H _ I h => q8c I hg hm hv ⟨v,H,I,r,h⟩ hn hd
variable {a b : Expr} {ta tb : TE} {pos : Pos}
def PC (X : Cx) (op : CmpOp) (a b : Expr) (t : TE) : Prop :=
 ∀ (pins : List (Addr × Obj)) (s : Shared) (σ : St) (H : Hp) (Q : VK),Inv X pins σ H s -> t σ H Q →
  wpAny (model X.prog X.w) X.A (eval a X.env) (fun v s₁ => wpAny (model X.prog X.w) X.A (eval b X.env) (fun u s₂ => wpAny (model X.prog X.w) X.A (compareOp op v u) (EP X pins σ Q) X.xe s₂) X.xe s₁) X.xe s
theorem w0a (b : Expr) {op : CmpOp} (h : op ≠ .In) (h2 : op ≠ .NotIn) : behindInMarks op b = false:=by
 have e1 : (op == CmpOp.In) = false:=by cases op <;> first | rfl | exact absurd rfl h
 have e2 : (op == CmpOp.NotIn) = false:=by cases op <;> first | rfl | exact absurd rfl h2
 cases b <;> simp [behindInMarks,e1,e2]
def tB (t : TE) : TT:=fun σ H Q => t σ H fun x H1 => ∃ c,x = .bl c /\ Q c H1
theorem j0f {e : Expr} {t : TE} (h : PE X e t) (he : ∀ whole,isTrue e X.env whole = (do let v ← whole; standAt e.pos; holding [v] (truthy v)):=by intro _; rfl) : PT X e (tB t):=by
 intro pins s σ H Q I hw
 refine isTrue_plain (thn (h pins s σ H _ I hw) fun v s1 ⟨x,H1,I1,r1,q1⟩ => ?_) (he _)
 obtain ⟨d,rfl,q⟩:=q1
 cases r1
 exact wpAny_truthy_bool ⟨H1,I1,q⟩
variable {tA tB' : TT} {rest : List Expr}
def w4p (t u : TT) : TT:=fun σ H Q => t σ H fun c H1 => if c = true then u σ H1 Q else Q false H1
def tOr (t u : TT) : TT:=fun σ H Q => t σ H fun c H1 => if c = true then Q true H1 else u σ H1 Q
def w4q (t : TT) : TT:=fun σ H Q => t σ H fun c H1 => Q (!c) H1
theorem j1h (ha : PT X a tA) : PW X (.BoolOp .And [a] pos) tA:=by
 intro wh pins s σ H Q I h
 refine isTrue_and (thn (ha pins s σ H Q I h) fun c s1 e => ?_)
 cases c with
 | true => exact isTrue_and_nil e
 | false => exact e
theorem k9v (ha : PT X a tA) : PW X (.BoolOp .Or [a] pos) tA:=by
 intro wh pins s σ H Q I h
 refine isTrue_or (thn (ha pins s σ H Q I h) fun c s1 e => ?_)
 cases c with
 | false => exact isTrue_or_nil e
 | true => exact e
theorem j7p (ha : PT X a tA) (hb : PW X (.BoolOp .And (b :: rest) pos) tB') : PW X (.BoolOp .And (a :: b :: rest) pos) (w4p tA tB'):=by
 intro wh pins s σ H Q I h
 refine isTrue_and (thn (ha pins s σ H _ I h) fun c s1 ⟨H1,I1,q1⟩ => ?_)
 cases c with
 | true => exact hb wh pins s1 σ H1 Q I1 q1
 | false => exact ⟨H1,I1,q1⟩
theorem j9t (ha : PT X a tA) (hb : PW X (.BoolOp .Or (b :: rest) pos) tB') : PW X (.BoolOp .Or (a :: b :: rest) pos) (tOr tA tB'):=by
 intro wh pins s σ H Q I h
 refine isTrue_or (thn (ha pins s σ H _ I h) fun c s1 ⟨H1,I1,q1⟩ => ?_)
 cases c with
 | true => exact ⟨H1,I1,q1⟩
 | false => exact hb wh pins s1 σ H1 Q I1 q1
theorem j6m (ha : PT X a tA) : PT X (.UnaryOp .Not a pos) (w4q tA):=by
 intro pins s σ H Q I h
 exact isTrue_not (ha pins s σ H (fun c H1 => Q (!c) H1) I h)
def w1f (ta tb : TE) : TE:=fun σ H Q => ta σ H fun x H1 => ∃ c,x = .bl c /\ if c = true then tb σ H1 Q else Q (.bl false) H1
theorem j0c {op} {t : TE} (h : PE X a t) : PE X (.BoolOp op [a] pos) t:=fun pins s σ H Q I hw => BoolOp_one (h pins s σ H Q I hw)
theorem j0l (ha : PE X a ta) (hb : PE X (.BoolOp .And (b :: rest) pos) tb) : PE X (.BoolOp .And (a :: b :: rest) pos) (w1f ta tb):=by
 intro pins s σ H Q I h
 refine BoolOp_and (thn (ha pins s σ H _ I h) fun v s1 ⟨x,H1,I1,r1,q1⟩ => ?_)
 obtain ⟨c,rfl,q1⟩:=q1
 cases r1
 refine wpAny_truthy_bool ?_
 cases c with
 | true => exact hb pins s1 σ H1 Q I1 q1
 | false => exact ⟨.bl false,H1,I1,rfl,q1⟩
end
end L2
namespace L2
open PySem PySem.Spec PyProof.Rows
def SqL (K : PySem.W.Frag) (H : Hp) (a : Addr) (xs : List V) : Prop :=
 Rd H a (.lst xs) ∨
  ∃ (o : Obj) (its : Array Value) (n : Nat),K.lookup a = some o /\ o.cls = .type "list" /\ o.dict = none /\ o.data = .seq its n /\ its.size <= sizeLine /\ q3w xs its.toList
def SqT (K : PySem.W.Frag) (H : Hp) (a : Addr) (xs : List V) : Prop :=
 Rd H a (.tup xs) ∨
  ∃ (o : Obj) (its : Array Value) (n : Nat),K.lookup a = some o /\ o.cls = .type "tuple" /\ o.data = .seq its n /\ its.size <= sizeLine /\ q3w xs its.toList
def w4x : Value -> Option V
 | .none => some .non
 | .bool b => some (.bl b)
 | .int i _ => some (.int i)
 | .str x _ => some (.str x)
 | .bytes b _ => some (.byt b)
 | .float b _ => some (.flt b)
 | .ref a => some (.ref a)
 | .type n => some (.ty n)
 | _ => none
theorem RelV.abs {x : V} {u : Value} (r : RelV x u) : w4x u = some x:=by
 cases x with
 | non => cases r; rfl
 | bl _ => cases r; rfl
 | int _ => obtain ⟨t,rfl⟩:=r; rfl
 | str _ => obtain ⟨t,rfl⟩:=r; rfl
 | byt _ => obtain ⟨t,rfl⟩:=r; rfl
 | flt _ => obtain ⟨t,rfl⟩:=r; rfl
 | ref _ => cases r; rfl
 | ty _ => cases r; rfl
theorem RelV.inj {x y : V} {u : Value} (r : RelV x u) (q : RelV y u) : x = y:=Option.some.inj (r.abs.symm.trans q.abs)
theorem q3w.inj : ∀ {xs ys : List V} {us : List Value},q3w xs us -> q3w ys us -> xs = ys
 | _,_,_,.nil,.nil => rfl
 | _,_,_,.cons r t,.cons r' t' => by rw [r.inj r',q3w.inj t t']
section
variable {X : Cx} {pins : List (Addr × Obj)} {σ : St} {H : Hp} {s : Shared} {a : Addr} {xs ys : List V}
theorem SqL.of {K : PySem.W.Frag} (h : H a = some (.lst xs)) : SqL K H a xs:=.inl (.inl h)
theorem SqT.of {K : PySem.W.Frag} (h : H a = some (.tup xs)) : SqT K H a xs:=.inl (.inl h)
theorem Inv.list (I : Inv X pins σ H s) (h : SqL X.K H a xs) : ∃ its : List Value,q3w xs its /\ PlainL s.heap a its.toArray /\ xs.length <= sizeLine:=by
 rcases h with h | ⟨o,its,n,hk,hc,hd,hs,hz,r⟩
 ·obtain ⟨z,its,n,r,e⟩:=h.ok I.hok
  exact ⟨its,r,⟨_,n,e,rfl,rfl,rfl⟩,z⟩
 ·refine ⟨its.toList,r,⟨o,n,I.kIn a o hk,hc,hd,by simpa using hs⟩,?_⟩
  have e:=r.length
  simp only [Array.length_toList] at e
  omega
theorem Inv.tuple (I : Inv X pins σ H s) (h : SqT X.K H a xs) : ∃ its : List Value,q3w xs its /\ IsTup s.heap a its.toArray /\ xs.length <= sizeLine:=by
 rcases h with h | ⟨o,its,n,hk,hc,hs,hz,r⟩
 ·obtain ⟨z,its,r,p⟩:=h.ok I.hok
  exact ⟨its,r,p,z⟩
 ·refine ⟨its.toList,r,⟨o,I.kIn a o hk,hc,n,by simpa using hs⟩,?_⟩
  have e:=r.length
  simp only [Array.length_toList] at e
  omega
theorem Inv.list_inj (I : Inv X pins σ H s) (h : SqL X.K H a xs) (h' : SqL X.K H a ys) : xs = ys:=by
 obtain ⟨its,r,⟨o,n,e,_,_,d⟩,_⟩:=I.list h
 obtain ⟨its',r',⟨o',n',e',_,_,d'⟩,_⟩:=I.list h'
 rw [e] at e'; cases e'
 rw [d] at d'
 injection d' with d1 _
 have : its = its':=by simpa using congrArg Array.toList d1
 subst this
 exact r.inj r'
theorem Inv.tuple_inj (I : Inv X pins σ H s) (h : SqT X.K H a xs) (h' : SqT X.K H a ys) : xs = ys:=by
 obtain ⟨its,r,⟨o,e,_,n,d⟩,_⟩:=I.tuple h
 obtain ⟨its',r',⟨o',e',_,n',d'⟩,_⟩:=I.tuple h'
 rw [e] at e'; cases e'
 rw [d] at d'
 injection d' with d1 _
 have : its = its':=by simpa using congrArg Array.toList d1
 subst this
 exact r.inj r'
end
abbrev Cx.wish (X : Cx) (E : Value -> Shared -> Prop) : Cx:={ X with xe:=E }
abbrev Cx.nox (X : Cx) : Cx:=X.wish fun _ _ => False
theorem Cx.Ok.wish {X : Cx} (ok : X.Ok) (E : Value -> Shared -> Prop) : (X.wish E).Ok :=
 ⟨ok.mod,ok.kind,ok.glob,ok.blt,ok.above,ok.inj,ok.has,ok.cab,ok.hd,ok.frames,ok.stk,ok.exf,ok.bs,ok.bsz,ok.noex,ok.exfs,ok.funs,ok.frf⟩
theorem Cx.Ok.unwish {X : Cx} {E : Value -> Shared -> Prop} (ok : (X.wish E).Ok) : X.Ok :=
 ⟨ok.mod,ok.kind,ok.glob,ok.blt,ok.above,ok.inj,ok.has,ok.cab,ok.hd,ok.frames,ok.stk,ok.exf,ok.bs,ok.bsz,ok.noex,ok.exfs,ok.funs,ok.frf⟩
section
variable {X : Cx} {pins : List (Addr × Obj)} {σ : St} {H : Hp} {s : Shared} {E : Value -> Shared -> Prop}
theorem Inv.wish (I : Inv X pins σ H s) (E : Value -> Shared -> Prop) : Inv (X.wish E) pins σ H s:=⟨I.ok.wish E,I.os,I.bare,I.base,I.loc,I.cell,I.free,I.freeC,I.pin,I.hok,I.len⟩
theorem Inv.unwish (I : Inv (X.wish E) pins σ H s) : Inv X pins σ H s:=⟨I.ok.unwish,I.os,I.bare,I.base,I.loc,I.cell,I.free,I.freeC,I.pin,I.hok,I.len⟩
theorem SP.unwish {D : z9i} {f : Flow} {s' : Shared} (h : SP (X.wish E) pins D f s') : SP X pins D f s':=by
 cases f with
 | next => obtain ⟨σ',H',I,q⟩:=h; exact ⟨σ',H',I.unwish,q⟩
 | brk => obtain ⟨σ',H',I,q⟩:=h; exact ⟨σ',H',I.unwish,q⟩
 | cont => obtain ⟨σ',H',I,q⟩:=h; exact ⟨σ',H',I.unwish,q⟩
 | ret u => obtain ⟨v,σ',H',I,r,q⟩:=h; exact ⟨v,σ',H',I.unwish,r,q⟩
theorem PT.nox {e : Expr} {t : TT} (h : PT X.nox e t) : PT X e t:=fun pins s σ H Q I hw =>
 wpAny_mono (h pins s σ H Q (I.wish _) hw) (fun _ _ ⟨H',I',q⟩ => ⟨H',I'.unwish,q⟩) fun _ _ z => False.elim z
theorem PSs.nox {st : List Stmt} {t : TS} (h : PSs X.nox st t) : PSs X st t:=fun pins s σ H D I hw =>
 wpAny_mono (h pins s σ H D (I.wish _) hw) (fun _ _ q => q.unwish) fun _ _ z => False.elim z
end
section
variable {X : Cx} {st : Stmt} {rest : List Stmt} {t u : TS} {e : Expr} {te : TE} {pos : Pos}
def j5p : TS:=fun D σ H => D.nx σ H
def w2z (t u : TS) : TS:=fun D σ H => t { D with nx:=u D } σ H
theorem k1t : PSs X [] j5p:=fun _ _ σ H _ I h => wpAny_execs_nil ⟨σ,H,I,h⟩
theorem q7u (h1 : PS X st t) (h2 : PSs X rest u) : PSs X (st :: rest) (w2z t u):=by
 intro pins s σ H D I h
 refine wpAny_execs_cons (thn (h1 pins s σ H { D with nx:=u D } I h) fun f s1 q => ?_)
 cases f with
 | next =>
  obtain ⟨σ',H',I',q⟩:=q
  exact h2 pins s1 σ' H' D I' q
 | ret v => exact q
 | brk => exact q
 | cont => exact q
theorem q9w (h1 : PS X st t) : PSs X [st] t:=by
 intro pins s σ H D I h
 refine wpAny_execs_cons (thn (h1 pins s σ H D I h) fun f s1 q => ?_)
 cases f with
 | next => exact wpAny_execs_nil q
 | ret v => exact q
 | brk => exact q
 | cont => exact q
theorem Inv.quiet {pins : List (Addr × Obj)} {σ : St} {H : Hp} {s : Shared} (I : Inv X pins σ H s) : interactive X.env = false:=by simp [interactive,I.ok.kind]
def w1c (te : TE) : TS:=fun D σ H => te σ H fun _ H1 => D.nx σ H1
theorem j2l (he : PE X e te) (hs : swapsWith e none pos.line X.env = pure false:=by rfl) : PS X (.Expr e pos) (w1c te):=by
 intro pins s σ H D I h
 exact wpAny_Expr_any (thn (he pins s σ H _ I h) fun v s1 ⟨x,H1,I1,r1,q1⟩ => ⟨σ,H1,I1,q1⟩) I.quiet hs
def w4k (te : TE) : TS:=fun D σ H => te σ H D.rt
theorem z8w (he : PE X e te) : PS X (.Return (some e) pos) (w4k te):=by
 intro pins s σ H D I h
 exact wpAny_Return_some (thn (he pins s σ H _ I h) fun v s1 ⟨x,H1,I1,r1,q1⟩ => ⟨x,σ,H1,I1,r1,q1⟩)
def w1p (c : TT) (t u : TS) : TS:=fun D σ H => c σ H fun b H1 => if b = true then t D σ H1 else u D σ H1
theorem j0o {c : Expr} {a b : List Stmt} {tc : TT} (hc : PT X c tc) (ha : PSs X a t) (hb : PSs X b u) : PS X (.If c a b pos) (w1p tc t u):=by
 intro pins s σ H D I h
 refine wpAny_If (thn (hc pins s σ H _ I h) fun d s1 ⟨H1,I1,q1⟩ => ?_)
 cases d with
 | true => exact ha pins s1 σ H1 D I1 q1
 | false => exact hb pins s1 σ H1 D I1 q1
def k9z : TS:=fun _ _ _ => False
theorem k6q : PS X st k9z:=fun _ _ _ _ _ _ h => h.elim
end
abbrev TG:=V -> St -> Hp -> (St -> Hp -> Prop) -> Prop
abbrev TGs:=List V -> St -> Hp -> (St -> Hp -> Prop) -> Prop
def PG (X : Cx) (target : Expr) (t : TG) : Prop :=
 ∀ (pins : List (Addr × Obj)) (s : Shared) (σ : St) (H : Hp) (v : V) (u : Value) (Q : St -> Hp -> Prop),Inv X pins σ H s -> RelV v u -> t v σ H Q →
  wpAny (model X.prog X.w) X.A (assign target X.env u) (fun _ s' => ∃ σ' H',Inv X pins σ' H' s' /\ Q σ' H') X.xe s
def PGs (X : Cx) (ts : List Expr) (t : TGs) : Prop :=
 ∀ (pins : List (Addr × Obj)) (s : Shared) (σ : St) (H : Hp) (vs : List V) (us : List Value) (Q : St -> Hp -> Prop),Inv X pins σ H s -> q3w vs us -> t vs σ H Q →
  wpAny (model X.prog X.w) X.A (assignInOrder ((assignEach ts X.env).map (·.2)) us) (fun _ s' => ∃ σ' H',Inv X pins σ' H' s' /\ Q σ' H') X.xe s
section
variable {X : Cx} {pos : Pos}
def z9g (i : Nat) : TG:=fun v σ H Q => Q (σ.set i (some v)) H
theorem j4n {i : Nat} {x : Str} (hN : X.N.Nodup) (hi : X.N[i]? = some x) (hx : Loc X.env.scope x) (hf : X.fn x = true \/ X.env.scope.names.lookup x = some .local:=by first | exact .inl rfl | exact .inr rfl | assumption) : PG X (.Name x pos) (z9g i):=by
 intro pins s σ H v u Q I r h
 exact wpAny_assign_Name (z2f I hN hi hx r (fun s' I' => ⟨_,H,I',h⟩) hf)
def w4o : TGs:=fun vs σ H Q => vs = [] /\ Q σ H
def w1e (t : TG) (u : TGs) : TGs:=fun vs σ H Q => ∃ v r,vs = v :: r /\ t v σ H fun σ' H' => u r σ' H' Q
theorem j4v : PGs X [] w4o:=by
 intro pins s σ H vs us Q I r h
 obtain ⟨e,h⟩:=h
 subst e
 cases r
 exact assignInOrder_nil ⟨σ,H,I,h⟩
theorem k6i {e : Expr} {es : List Expr} {t : TG} {u : TGs} (h1 : PG X e t) (h2 : PGs X es u)
  (hs : (assignEach (e :: es) X.env).map (·.2) = assign e X.env :: (assignEach es X.env).map (·.2):=by rfl) : PGs X (e :: es) (w1e t u):=by
 intro pins s σ H vs us Q I r h
 obtain ⟨v,vr,e1,h⟩:=h
 subst e1
 cases r with
 | cons r rr =>
  rw [hs]
  refine assignInOrder_cons (thn (h1 pins s σ H _ _ _ I r h) fun _ s1 ⟨σ1,H1,I1,q1⟩ => ?_)
  exact h2 pins s1 σ1 H1 _ _ Q I1 rr q1
def w0w (K : PySem.W.Frag) (n : Nat) (t : TGs) : TG:=fun v σ H Q => ∃ a xs,v = .ref a /\ SqT K H a xs /\ xs.length = n /\ t xs σ H Q
theorem k8x {es : List Expr} {k : Nat} {t : TGs} {n : Nat} (hc : X.calm = true) (h : PGs X es t)
  (hn : (assignEach es X.env).length = n:=by rfl) (hst : (assignEach es X.env).findIdx? (·.1) = none:=by rfl) : PG X (.Tuple es k pos) (w0w X.K n t):=by
 intro pins s σ H v u Q I r hw
 obtain ⟨a,xs,e1,hq,hl,hw⟩:=hw
 subst e1
 cases r
 obtain ⟨its,rv,ht,hz⟩:=I.tuple hq
 refine assign_Tuple_tuple (I.ok.hd hc) ht (by simp [hn,<- hl,rv.length]) hst fun h' hx => ?_
 have I1 : Inv X pins σ H { s with heap:=h' }:=I.kept (t':=s.toks) fun b o e => hx b o (Nat.ne_of_lt (Heap.lt_size e)) e
 exact h pins _ σ H xs _ Q I1 (by simpa using rv) hw
def j5x (te : TE) (g : TG) : TS:=fun D σ H => te σ H fun x H1 => g x σ H1 D.nx
theorem j5q {tg e : Expr} {te : TE} {g : TG} (he : PE X e te) (hg : PG X tg g) (hs : swapsWithSole [tg] e pos.line X.env = pure false:=by rfl) (hw : swappedStores [tg] e X.env = pure none:=by rfl)
  (h1 : (assignEach [tg] X.env).map (·.2) = [assign tg X.env]:=by rfl) : PS X (.Assign [tg] e pos) (j5x te g):=by
 intro pins s σ H D I h
 refine wpAny_Assign_stores (thn (he pins s σ H _ I h) fun v s1 ⟨x,H1,I1,r1,q1⟩ => ?_) hs hw
 rw [h1]
 exact thn (hg pins s1 σ H1 x v _ I1 r1 q1) fun _ s2 q => q
theorem z8l {i : Nat} {x : Str} {e : Expr} {te : TE} {pos' : Pos} (hN : X.N.Nodup) (hi : X.N[i]? = some x) (hx : Loc X.env.scope x) (he : PE X e te) (hs : swapsWith e (some (.Name x pos')) pos.line X.env = pure false:=by rfl) (hf : X.fn x = true \/ X.env.scope.names.lookup x = some .local:=by first | exact .inl rfl | exact .inr rfl | assumption) :
  PS X (.Assign [.Name x pos'] e pos) (j5x te (z9g i)):=by
 intro pins s σ H D I h
 refine wpAny_Assign_Name (thn (he pins s σ H _ I h) fun v s1 ⟨y,H1,I1,r1,q1⟩ => ?_) hs
 exact z2f I1 hN hi hx r1 (fun s2 I2 => ⟨_,H1,I2,q1⟩) hf
end
section
variable {X : Cx} {pos : Pos}
def j5o (c : TT) (tb : TS) : TS:=fun D σ H => ∃ W : Nat -> St -> Hp -> Prop,(∃ m,W m σ H) /\ ∀ m σ H,W m σ H →
 c σ H fun b H1 => if b = true then ∃ N : St -> Hp -> Prop,(∀ σ' H',N σ' H' -> ∃ m',m' < m /\ W m' σ' H') /\ tb { D with nx:=N,ct:=N,bk:=D.nx } σ H1 else D.nx σ H1
theorem k6c {c : Expr} {body : List Stmt} {tc : TT} {tb : TS} (hp : PassesOwn (model X.prog X.w) X.A X.env X.xe) (hc : PT X c tc) (hb : PSs X body tb) : PS X (.While c body [] pos) (j5o tc tb):=by
 intro pins s σ H D I h
 obtain ⟨W,⟨m0,w0⟩,turn⟩:=h
 refine wpAny_While (codeAny_whileLoop (fun n s' => ∃ σ' H',Inv X pins σ' H' s' /\ W n σ' H') ?_ m0 ⟨σ,H,I,w0⟩)
 rintro n s1 ⟨σ1,H1,I1,w1⟩
 refine wpAny_passesOwn hp (thn (hc pins s1 σ1 H1 _ I1 (turn n σ1 H1 w1)) fun b s2 ⟨H2,I2,q2⟩ => ?_)
 cases b with
 | true =>
  obtain ⟨N,hN,q2⟩:=q2
  rw [if_pos rfl]
  refine wpAny_passesOwn hp (thn (hb pins s2 σ1 H2 _ I2 q2) fun f s3 q3 => ?_)
  cases f with
  | next =>
   obtain ⟨σ3,H3,I3,n3⟩:=q3
   obtain ⟨m',hm,w3⟩:=hN σ3 H3 n3
   exact ⟨m',hm,σ3,H3,I3,w3⟩
  | cont =>
   obtain ⟨σ3,H3,I3,n3⟩:=q3
   obtain ⟨m',hm,w3⟩:=hN σ3 H3 n3
   exact ⟨m',hm,σ3,H3,I3,w3⟩
  | brk => exact q3
  | ret v => exact q3
 | false =>
  rw [if_neg Bool.false_ne_true]
  exact wpAny_execs_nil ⟨σ1,H2,I2,q2⟩
end
structure It where
 go : Nat -> Hp -> Prop
 yld : Nat -> Hp -> V -> Hp -> Prop
 stop : Nat -> Hp -> Prop
def z3p (X : Cx) (pins : List (Addr × Obj)) (H : Hp) (b : Addr) : Prop :=
 H b = none /\ b ≠ X.env.locals /\ b ∉ X.fs /\ (b ∈ X.ex \/ X.s₀.heap.objs.size <= b) /\ (∀ x c,X.env.cells.lookup x = some c -> c ≠ b) /\ ∀ p ∈ X.pn ++ pins,p.1 ≠ b
theorem Inv.fpOk {X : Cx} {pins : List (Addr × Obj)} {σ : St} {H H' : Hp} {s : Shared} {b : Addr} (I : Inv X pins σ H s) (hb : s.heap.objs.size <= b) (hn : H' b = none) : z3p X pins H' b:=by
 refine ⟨hn,Nat.ne_of_gt (Nat.lt_of_lt_of_le I.lt hb),I.nofs hb,.inr (Nat.le_trans I.sz hb),fun x c e z => ?_,fun p hp z => ?_⟩
 ·obtain ⟨v,q⟩:=I.cell x c e
  exact absurd (Nat.lt_of_lt_of_le q.lt (by rw [z]; exact hb)) (Nat.lt_irrefl _)
 ·exact absurd (Nat.lt_of_lt_of_le (Heap.lt_size (I.pin p hp).1) (by rw [z]; exact hb)) (Nat.lt_irrefl _)
structure k4u (P : Program) (w : World) (K : PySem.W.Frag) (tg : Expr) (J : It) (fp : List Addr) (it : Addr) (tn : Nat -> Heap -> Prop) : Prop where
 mem : it ∈ fp
 obj : ∀ i h,tn i h -> ∀ b ∈ fp,∃ o,h.get? b = some o /\ ∀ v,o.data ≠ .cell v
 keep : ∀ i h h',tn i h -> (∀ b ∈ fp,∀ o,h.get? b = some o -> h'.get? b = some o) -> tn i h'
 item : ∀ (X : Cx),X.prog = P -> X.w = w -> X.K = K -> X.calm = true -> ∀ (i : Nat) (pins : List (Addr × Obj)) (s : Shared) (σ : St) (H : Hp) (E : Value -> Shared -> Prop),Inv X pins σ H s -> (∀ b ∈ fp,z3p X pins H b) -> tn i s.heap -> J.go i H →
  wpAny (model P w) X.A (pyNext (.ref it)) (fun r s1 => ∃ u,r = some u ∧
   wpAny (model P w) X.A (letOwnedTupleGo tg (.ref it) u) (fun _ s2 => ∃ x H',Inv X pins σ H' s2 /\ RelV x u /\ J.yld i H x H' /\ tn (i + 1) s2.heap /\ ∀ b ∈ fp,H' b = none) E s1) E s
 done : ∀ (X : Cx),X.prog = P -> X.w = w -> X.K = K -> X.calm = true -> ∀ (i : Nat) (pins : List (Addr × Obj)) (s : Shared) (σ : St) (H : Hp) (E : Value -> Shared -> Prop),Inv X pins σ H s -> (∀ b ∈ fp,z3p X pins H b) -> tn i s.heap -> J.stop i H →
  wpAny (model P w) X.A (pyNext (.ref it)) (fun r s1 => r = none /\ Inv X pins σ H s1) E s
 self : ∀ (A : Around) (i : Nat) (s : Shared) (Q : Value -> Shared -> Prop) (E : Value -> Shared -> Prop),tn i s.heap -> Q (.ref it) s -> wpAny (model P w) A (pyIter (.ref it)) Q E s
abbrev TI:=St -> Hp -> (It -> Hp -> Prop) -> Prop
def PIE (X : Cx) (pins : List (Addr × Obj)) (σ : St) (tg : Expr) (R : It -> Hp -> Prop) (itv : Value) (s2 : Shared) : Prop :=
 ∃ (it : Addr) (fp : List Addr) (tn : Nat -> Heap -> Prop) (J : It) (H' : Hp),itv = .ref it /\ Inv X pins σ H' s2 /\ k4u X.prog X.w X.K tg J fp it tn /\ tn 0 s2.heap /\ (∀ b ∈ fp,z3p X pins H' b) /\ R J H'
def PI (X : Cx) (tg iter : Expr) (wi : TI) : Prop :=
 ∀ (pins : List (Addr × Obj)) (s : Shared) (σ : St) (H : Hp) (R : It -> Hp -> Prop),Inv X pins σ H s -> wi σ H R →
  wpAny (model X.prog X.w) X.A (eval iter X.env) (fun v s1 => wpAny (model X.prog X.w) X.A (pyIter v) (PIE X pins σ tg R) X.xe s1) X.xe s
theorem k5v {M : Model} {A : Around} {E : Value -> Shared -> Prop} {s : Shared} {tg : Expr} {it : Addr} {u : Value} {o : Obj} {n : String} {vs : Array Value} {Q : Unit -> Shared -> Prop} (ho : s.heap.get? it = some o) (hc : o.cls = .type n) (hd : o.data = .fields vs)
   (hn : ["enumerate", "zip", "dict_itemiterator", "dict_reverseitemiterator", "odict_iterator", "itertools.zip_longest", "itertools.pairwise"].contains n = false) (hQ : Q () s) : wpAny M A (letOwnedTupleGo tg (.ref it) u) Q E s := by
 unfold letOwnedTupleGo
 cases tg <;> first
   | exact wpAny_pure hQ
   | (cases u <;> first
       | exact wpAny_pure hQ
       | (refine wpAny_bind (wpAny_load ho ?_)
          rw [hc, hd]
          show wpAny M A (if (["enumerate", "zip", "dict_itemiterator", "dict_reverseitemiterator", "odict_iterator", "itertools.zip_longest", "itertools.pairwise"].contains n && vs[0]? == some (rawInt _)) = true then _ else _) Q E s
          rw [if_neg (by intro h; rw [hn, Bool.false_and] at h; cases h)]
          exact wpAny_pure hQ))
def Itl (K : PySem.W.Frag) (a : Addr) : It :=
 ⟨fun i H => ∃ xs x,SqL K H a xs /\ xs[i]? = some x,fun i H x H' => H' = H /\ ∀ xs,SqL K H a xs -> xs[i]? = some x,fun i H => ∃ xs,SqL K H a xs /\ xs.length <= i⟩
def Itt (K : PySem.W.Frag) (a : Addr) : It :=
 ⟨fun i H => ∃ xs x,SqT K H a xs /\ xs[i]? = some x,fun i H x H' => H' = H /\ ∀ xs,SqT K H a xs -> xs[i]? = some x,fun i H => ∃ xs,SqT K H a xs /\ xs.length <= i⟩
def Itr (lo : Int) (n : Nat) : It:=⟨fun i _ => i < n,fun i H x H' => H' = H /\ x = .int (lo + i),fun i _ => n <= i⟩
theorem k0u {P : Program} {w : World} {K : PySem.W.Frag} {tg : Expr} (a it : Addr) : k4u P w K tg (Itl K a) [it] it (fun i h => h.IsListIter it a i) where
 mem:=by simp
 obj:=fun i h st b hb => by
  have e : b = it:=by simpa using hb
  subst e
  obtain ⟨o,e,c,d⟩:=st
  exact ⟨o,e,fun v z => by rw [d] at z; cases z⟩
 keep:=fun i h h' st k => st.at fun o e => k it (by simp) o e
 item:=by
  intro X hP hw hK hc i pins s σ H E I hf st hg
  subst hP hw hK
  obtain ⟨xs,x,hq,hx⟩:=hg
  obtain ⟨its,rv,p,hz⟩:=I.list hq
  obtain ⟨u,hu,ru⟩:=rv.get hx
  obtain ⟨f0,f1,f2,f3,f4,f5⟩:=hf it (by simp)
  refine wpAny_pyNext_list_item st p.isList (x:=u) (by simpa using hu) fun h' st' sb => ?_
  have I1 : Inv X pins σ H { s with heap:=h' }:=I.turned (t':=s.toks) (fun b o hb e => (sb.2 b hb).trans e) f0 f1 f3 f4 f5
  obtain ⟨o,e,c,d⟩:=id st'
  exact ⟨u,rfl,k5v (s:={ s with heap:=h' }) e c d (by decide) ⟨x,H,I1,ru,⟨rfl,fun ys hy => by rw [I.list_inj hy hq]; exact hx⟩,st',fun b hb => (hf b hb).1⟩⟩
 done:=by
  intro X hP hw hK hc i pins s σ H E I hf st hg
  subst hP hw hK
  obtain ⟨xs,hq,hx⟩:=hg
  obtain ⟨its,rv,p,hz⟩:=I.list hq
  obtain ⟨f0,f1,f2,f3,f4,f5⟩:=hf it (by simp)
  have hl:=rv.length
  exact wpAny_pyNext_list_end (I.ok.hd hc) st p.isList (by simp; omega) fun h' eb => ⟨rfl,I.turned (t':=s.toks) (fun b o hb e => eb b o hb e) f0 f1 f3 f4 f5⟩
 self:=fun _ _ _ _ _ st h => wpAny_pyIter_listiter st h
theorem z9z {P : Program} {w : World} {K : PySem.W.Frag} {tg : Expr} (a it : Addr) : k4u P w K tg (Itt K a) [it] it (fun i h => h.IsTupleIter it a i) where
 mem:=by simp
 obj:=fun i h st b hb => by
  have e : b = it:=by simpa using hb
  subst e
  obtain ⟨o,e,c,d⟩:=st
  exact ⟨o,e,fun v z => by rw [d] at z; cases z⟩
 keep:=fun i h h' st k => st.at fun o e => k it (by simp) o e
 item:=by
  intro X hP hw hK hc i pins s σ H E I hf st hg
  subst hP hw hK
  obtain ⟨xs,x,hq,hx⟩:=hg
  obtain ⟨its,rv,p,hz⟩:=I.tuple hq
  obtain ⟨u,hu,ru⟩:=rv.get hx
  obtain ⟨f0,f1,f2,f3,f4,f5⟩:=hf it (by simp)
  refine wpAny_pyNext_tuple_item st (show s.heap.IsTuple a its.toArray from p) (x:=u) (by simpa using hu) fun h' st' sb => ?_
  have I1 : Inv X pins σ H { s with heap:=h' }:=I.turned (t':=s.toks) (fun b o hb e => (sb.2 b hb).trans e) f0 f1 f3 f4 f5
  obtain ⟨o,e,c,d⟩:=id st'
  exact ⟨u,rfl,k5v (s:={ s with heap:=h' }) e c d (by decide) ⟨x,H,I1,ru,⟨rfl,fun ys hy => by rw [I.tuple_inj hy hq]; exact hx⟩,st',fun b hb => (hf b hb).1⟩⟩
 done:=by
  intro X hP hw hK hc i pins s σ H E I hf st hg
  subst hP hw hK
  obtain ⟨xs,hq,hx⟩:=hg
  obtain ⟨its,rv,p,hz⟩:=I.tuple hq
  obtain ⟨f0,f1,f2,f3,f4,f5⟩:=hf it (by simp)
  have hl:=rv.length
  exact wpAny_pyNext_tuple_end (I.ok.hd hc) st (show s.heap.IsTuple a its.toArray from p) (by simp; omega) fun h' eb => ⟨rfl,I.turned (t':=s.toks) (fun b o hb e => eb b o hb e) f0 f1 f3 f4 f5⟩
 self:=fun _ _ _ _ _ st h => wpAny_pyIter_tupleiter st h
theorem z9r {P : Program} {w : World} {K : PySem.W.Frag} {tg : Expr} (it : Addr) (lo : Int) (n : Nat) : k4u P w K tg (Itr lo n) [it] it (fun i h => IsRangeIter h it (lo + (i : Nat) * 1) ((n : Int) - (i : Nat)) 1) where
 mem:=by simp
 obj:=fun i h st b hb => by
  have e : b = it:=by simpa using hb
  subst e
  exact ⟨_,st,fun v z => by
   have z' : Data.fields _ = Data.cell v:=z
   cases z'⟩
 keep:=fun i h h' st k => k it (by simp) _ st
 item:=by
  intro X hP hw hK hc i pins s σ H E I hf st hg
  subst hP hw hK
  obtain ⟨f0,f1,f2,f3,f4,f5⟩:=hf it (by simp)
  have W:=Walks.range (prog:=X.prog) (w:=X.w) (I.ok.hd hc) it lo 1 n
  refine W.item i s _ _ hg st fun v h' tk hv st' kk => ?_
  obtain ⟨t,rfl⟩:=hv
  have I1 : Inv X pins σ H { s with heap:=h',toks:=tk }:=I.turned (fun b o hb e => kk b o (by simpa using hb) e) f0 f1 f3 f4 f5
  refine ⟨_,rfl,k5v (s:={ s with heap:=h',toks:=tk }) (n:="range_iterator") st' rfl rfl (by decide) ⟨.int (lo + i),H,I1,⟨t,?_⟩,⟨rfl,rfl⟩,st',fun b hb => (hf b hb).1⟩⟩
  rw [Int.mul_one]
 done:=by
  intro X hP hw hK hc i pins s σ H E I hf st hg
  subst hP hw hK
  obtain ⟨f0,f1,f2,f3,f4,f5⟩:=hf it (by simp)
  exact wpAny_pyNext_range_end (I.ok.hd hc) st (by have : n <= i:=hg; omega) fun h' eb => ⟨rfl,I.turned (t':=s.toks) (fun b o hb e => eb b o hb e) f0 f1 f3 f4 f5⟩
 self:=fun _ _ _ _ _ st h => wpAny_pyIter_rangeiter st h
end L2
namespace L2
open PySem PySem.Spec PyProof.Rows
section
variable {X : Cx} {tg : Expr}
theorem z7w {pins : List (Addr × Obj)} {σ : St} {H : Hp} {s : Shared} {R : It -> Hp -> Prop} {E : Value -> Shared -> Prop} {lo hi : Int} {t u v : Tok} {tk : Nat} (I : Inv X pins σ H s) (h1 : -(2 ^ 62) <= lo) (h2 : lo < 2 ^ 62) (h3 : -(2 ^ 62) <= hi) (h4 : hi < 2 ^ 62)
  (q : R (Itr lo (hi - lo).toNat) H) : wpAny (model X.prog X.w) X.A (pyIter (.ref s.heap.objs.size)) (PIE X pins σ tg R) E { s with heap:=s.heap.push { cls:=.type "range",data:=.fields #[.int lo t,.int hi u,.int 1 v] },toks:=tk }:=by
 refine wpAny_pyIter_range (IsRange.new ..) (small_one h1 h2 h3 h4) ?_
 have I1 : Inv X pins σ H { s with heap:=s.heap.push { cls:=.type "range",data:=.fields #[.int lo t,.int hi u,.int 1 v] },toks:=tk }:=I.kept fun b o e => Heap.get?_push_of_some _ e
 refine ⟨(s.heap.push { cls:=.type "range",data:=.fields #[.int lo t,.int hi u,.int 1 v] }).objs.size,[(s.heap.push { cls:=.type "range",data:=.fields #[.int lo t,.int hi u,.int 1 v] }).objs.size],_,_,H,rfl,
  I1.kept (t':=tk) fun b o e => Heap.get?_push_of_some _ e,z9r _ lo (hi - lo).toNat,?_,fun b hb => ?_,q⟩
 ·have e1 : lo + ((0 : Nat) : Int) * 1 = lo:=by simp
  have e2 : (((hi - lo).toNat : Nat) : Int) - ((0 : Nat) : Int) = Builtin.Range.rangeSize lo hi 1:=by rw [rangeSize_one]; split <;> omega
  show IsRangeIter _ _ (lo + ((0 : Nat) : Int) * 1) ((((hi - lo).toNat : Nat) : Int) - ((0 : Nat) : Int)) 1
  rw [e1,e2]
  exact Heap.get?_push_size _ rfl
 ·have e : b = (s.heap.push { cls:=.type "range",data:=.fields #[.int lo t,.int hi u,.int 1 v] }).objs.size:=by simpa using hb
  subst e
  exact I1.fpOk (Nat.le_refl _) (I1.hok.fresh (Nat.le_refl _))
def w1v (ta : TA) : TI:=fun σ H R => ta σ H fun vs H1 => ∃ j : Int,vs = [.int j] /\ -(2 ^ 62) <= j /\ j < 2 ^ 62 /\ R (Itr 0 j.toNat) H1
def w0t (ta : TA) : TI:=fun σ H R => ta σ H fun vs H1 => ∃ i j : Int,vs = [.int i,.int j] /\ (-(2 ^ 62) <= i /\ i < 2 ^ 62 /\ -(2 ^ 62) <= j /\ j < 2 ^ 62) /\ R (Itr i (j - i).toNat) H1
theorem k2n {a : Expr} {ta : TA} {p pos : Pos} (hg : Gl X "range") (hm : X.mg "range" = none) (ha : PA X [a] ta) (hs : starEach [a] X.env = [(false,eval a X.env)]:=by rfl) : PI X tg (.Call (.Name "range" p) [a] [] pos) (w1v ta):=by
 intro pins s σ H R I h
 refine Call_ (q8c I hg hm boot_range (PyProof.Rows.callWith_type1 (thn (ha pos pins s σ H _ I h) fun us s1 ⟨vs,H1,I1,r1,q1⟩ => ?_) hs rfl))
 obtain ⟨j,e,q1,q2,q⟩:=q1
 subst e
 cases r1 with
 | cons r rr =>
  cases rr
  obtain ⟨t,rfl⟩:=r
  exact call_range_1 (z7w I1 (by omega) (by omega) q1 q2 (by simpa using q))
theorem k4l {a b : Expr} {ta : TA} {p pos : Pos} (hg : Gl X "range") (hm : X.mg "range" = none) (ha : PA X [a,b] ta) (hs : starEach [a,b] X.env = [(false,eval a X.env),(false,eval b X.env)]:=by rfl) (hs2 : starEach [b] X.env = [(false,eval b X.env)]:=by rfl) :
  PI X tg (.Call (.Name "range" p) [a,b] [] pos) (w0t ta):=by
 intro pins s σ H R I h
 refine Call_ (q8c I hg hm boot_range (PyProof.Rows.callWith_type1 (thn (ha pos pins s σ H _ I h) fun us s1 ⟨vs,H1,I1,r1,q1⟩ => ?_) (by rw [hs,hs2]) (by rw [hs2]; rfl)))
 obtain ⟨i,j,e,⟨q1,q2,q3,q4⟩,q⟩:=q1
 subst e
 cases r1 with
 | cons r rr =>
  cases rr with
  | cons r' rr =>
   cases rr
   obtain ⟨t,rfl⟩:=r
   obtain ⟨t',rfl⟩:=r'
   exact call_range_2 (z7w I1 q1 q2 q3 q4 q)
def w3i (wi : TI) (g : TG) (tb : TS) : TS:=fun D σ H => wi σ H fun J H1 => ∃ W : Nat -> Nat -> St -> Hp -> Prop,(∃ m,W 0 m σ H1) /\ ∀ i m σ H,W i m σ H →
 (J.stop i H /\ D.nx σ H) \/ (J.go i H /\ ∃ N : St -> Hp -> Prop,(∀ σ' H',N σ' H' -> ∃ m',m' < m /\ W (i + 1) m' σ' H') /\ ∀ x H',J.yld i H x H' -> g x σ H' fun σ2 H2 => tb { D with nx:=N,ct:=N,bk:=D.nx } σ2 H2)
def z5k (fp : List Addr) (h : Heap) : List (Addr × Obj):=fp.filterMap fun b => (h.get? b).map fun o => (b,o)
theorem q6y {fp : List Addr} {h : Heap} {b : Addr} {o : Obj} (hb : b ∈ fp) (e : h.get? b = some o) : (b,o) ∈ z5k fp h:=List.mem_filterMap.mpr ⟨b,hb,by rw [e]; rfl⟩
theorem k0s {fp : List Addr} {h : Heap} {p : Addr × Obj} (hp : p ∈ z5k fp h) : p.1 ∈ fp /\ h.get? p.1 = some p.2:=by
 obtain ⟨b,hb,e⟩:=List.mem_filterMap.mp hp
 cases q : h.get? b with
 | none => rw [q] at e; cases e
 | some o =>
  rw [q] at e
  have e' : (b,o) = p:=Option.some.inj e
  subst e'
  exact ⟨hb,q⟩
theorem Inv.pinned {pins : List (Addr × Obj)} {σ : St} {H : Hp} {s : Shared} {fp : List Addr} (I : Inv X pins σ H s) (hf : ∀ b ∈ fp,z3p X pins H b) (ho : ∀ b ∈ fp,∃ o,s.heap.get? b = some o /\ ∀ v,o.data ≠ .cell v) : Inv X (pins ++ z5k fp s.heap) σ H s :=
 I.pins_of fun p hp => (List.mem_append.mp hp).elim (fun z => I.pin p (List.mem_append_right _ z)) fun z => by
  obtain ⟨hb,e⟩:=k0s z
  obtain ⟨f0,f1,f2,_⟩:=hf p.1 hb
  obtain ⟨o,e',d⟩:=ho p.1 hb
  rw [e] at e'; cases e'
  exact ⟨e,f0,f1,f2,d⟩
theorem Inv.unpinned {pins pl : List (Addr × Obj)} {σ : St} {H : Hp} {s : Shared} (I : Inv X (pins ++ pl) σ H s) : Inv X pins σ H s:=I.pins_of fun p hp => I.pin p (List.mem_append_right _ (List.mem_append_left _ hp))
theorem k9h {iter : Expr} {body : List Stmt} {wi : TI} {g : TG} {tb : TS} {pos : Pos} (hp : PassesOwn (model X.prog X.w) X.A X.env X.xe) (hc : X.calm = true) (hi : PI X tg iter wi) (hg : PG X tg g) (hb : PSs X body tb)
  (hs : ∀ x,foldedSetIterable iter X.env x = pure x:=by intro _; rfl) : PS X (.For tg iter body [] pos) (w3i wi g tb):=by
 intro pins s σ H D I h
 refine wpAny_For (thn (hi pins s σ H _ I h) fun v s1 h1 => thn h1 fun itv s2 h2 => ?_) hs
 obtain ⟨it,fp,tn,J,H2,e,I2,T,st2,f2,W,⟨m0,w0⟩,turn⟩:=h2
 subst e
 have stat : ∀ {H' : Hp},(∀ b ∈ fp,H' b = none) -> ∀ b ∈ fp,z3p X pins H' b:=fun hn b hb => ⟨hn b hb,(f2 b hb).2⟩
 refine codeAny_forLoop_any (fun n s' => ∃ i σ' H',Inv X pins σ' H' s' /\ tn i s'.heap /\ (∀ b ∈ fp,H' b = none) /\ W i n σ' H') ?_ m0 ⟨0,σ,H2,I2,st2,fun b hb => (f2 b hb).1,w0⟩
 rintro n s3 ⟨i,σ3,H3,I3,st3,fr3,w3⟩
 rcases turn i n σ3 H3 w3 with ⟨stop,qn⟩ | ⟨go,N,hN,step⟩
 ·refine wpAny_passesOwn hp (thn (T.done X rfl rfl rfl hc i pins s3 σ3 H3 X.xe I3 (stat fr3) st3 stop) fun r s4 ⟨hr,I4⟩ => ?_)
  subst hr
  exact wpAny_execs_nil ⟨σ3,H3,I4,qn⟩
 ·refine wpAny_passesOwn hp (thn (T.item X rfl rfl rfl hc i pins s3 σ3 H3 X.xe I3 (stat fr3) st3 go) fun r s4 ⟨u,hr,h4⟩ => ?_)
  subst hr
  refine wpAny_passesOwn hp (thn h4 fun _ s5 ⟨x,H5,I5,r5,y5,st5,fr5⟩ => ?_)
  have I5':=I5.pinned (stat fr5) (T.obj _ _ st5)
  refine wpAny_passesOwn hp (thn (hg _ s5 σ3 H5 x u _ I5' r5 (step x H5 y5)) fun _ s6 ⟨σ6,H6,I6,q6⟩ => ?_)
  refine wpAny_passesOwn hp (thn (hb _ s6 σ6 H6 _ I6 q6) fun f s7 q7 => ?_)
  have again : ∀ {σ7 : St} {H7 : Hp},Inv X (pins ++ z5k fp s5.heap) σ7 H7 s7 -> N σ7 H7 -> ∃ m,m < n /\ ∃ i σ' H',Inv X pins σ' H' s7 /\ tn i s7.heap /\ (∀ b ∈ fp,H' b = none) /\ W i m σ' H':=fun {σ7 H7} I7 n7 => by
   obtain ⟨m',hm,w7⟩:=hN σ7 H7 n7
   refine ⟨m',hm,i + 1,σ7,H7,I7.unpinned,T.keep _ _ _ st5 fun b hb o e => (I7.pin (b,o) (List.mem_append_right _ (List.mem_append_right _ (q6y hb e)))).1,fun b hb => ?_,w7⟩
   obtain ⟨o,e,d⟩:=T.obj _ _ st5 b hb
   exact (I7.pin (b,o) (List.mem_append_right _ (List.mem_append_right _ (q6y hb e)))).2.1
  cases f with
  | next => obtain ⟨σ7,H7,I7,n7⟩:=q7; exact again I7 n7
  | cont => obtain ⟨σ7,H7,I7,n7⟩:=q7; exact again I7 n7
  | brk => obtain ⟨σ7,H7,I7,q7⟩:=q7; exact ⟨σ7,H7,I7.unpinned,q7⟩
  | ret v => obtain ⟨x7,σ7,H7,I7,r7,q7⟩:=q7; exact ⟨x7,σ7,H7,I7.unpinned,r7,q7⟩
end
end L2
namespace L2
open PySem PySem.Spec PyProof.Rows
abbrev R2:=V -> V -> Hp -> VK -> Prop
def OpR (X : Cx) (f : Value -> Value -> Sem Value) (r : R2) : Prop :=
 ∀ (pins : List (Addr × Obj)) (s : Shared) (σ : St) (H : Hp) (x y : V) (v u : Value) (Q : VK),Inv X pins σ H s -> RelV x v -> RelV y u -> r x y H Q →
  wpAny (model X.prog X.w) X.A (f v u) (EP X pins σ Q) X.xe s
def q6s (X : Cx) (f : Value) (r : List V -> Hp -> VK -> Prop) : Prop :=
 ∀ (pins : List (Addr × Obj)) (s : Shared) (σ : St) (H : Hp) (xs : List V) (us : List Value) (Q : VK),Inv X pins σ H s -> q3w xs us -> r xs H Q →
  wpAny (model X.prog X.w) X.A (call f us) (EP X pins σ Q) X.xe s
def tOp (r : R2) (ta tb : TE) : TE:=fun σ H Q => ta σ H fun x H1 => tb σ H1 fun y H2 => r x y H2 Q
def rI (C : Int -> Int -> Prop) (g : Int -> Int -> V) : R2:=fun x y H Q => ∃ i j,x = .int i /\ y = .int j /\ C i j /\ Q (g i j) H
def rI0 (g : Int -> Int -> V) : R2:=fun x y H Q => ∃ i j,x = .int i /\ y = .int j /\ Q (g i j) H
section
variable {X : Cx} {a b c : Expr} {ta tb tc : TE} {pos : Pos}
theorem w2w (ha : PE X a ta) (hb : PE X b tb) {pins : List (Addr × Obj)} {s : Shared} {σ : St} {H : Hp} {R : V -> V -> Hp -> Prop} (I : Inv X pins σ H s)
  (h : ta σ H fun x H1 => tb σ H1 fun y H2 => R x y H2) {Q : Value -> Shared -> Prop} {f : Value -> Value -> Sem Value}
  (hf : ∀ v u s2 x y H2,Inv X pins σ H2 s2 -> RelV x v -> RelV y u -> R x y H2 -> wpAny (model X.prog X.w) X.A (f v u) Q X.xe s2) :
  wpAny (model X.prog X.w) X.A (eval a X.env) (fun v s₁ => wpAny (model X.prog X.w) X.A (eval b X.env) (fun u s₂ => wpAny (model X.prog X.w) X.A (f v u) Q X.xe s₂) X.xe s₁) X.xe s:=by
 refine thn (ha pins s σ H _ I h) fun v s1 ⟨x,H1,I1,r1,q1⟩ => ?_
 refine thn (hb pins s1 σ H1 _ I1 q1) fun u s2 ⟨y,H2,I2,r2,q2⟩ => ?_
 exact hf v u s2 x y H2 I2 r1 r2 q2
theorem w1n {op : Operator} {r : R2} (ho : OpR X (binaryOp op) r) (ha : PE X a ta) (hb : PE X b tb) : PE X (.BinOp a op b pos) (tOp r ta tb):=by
 intro pins s σ H Q I h
 exact wpAny_BinOp (w2w ha hb I h fun v u s2 x y H2 I2 rx ry q => ho pins s2 σ H2 x y v u Q I2 rx ry q)
theorem opI {f : Value -> Value -> Sem Value} {C : Int -> Int -> Prop} {g : Int -> Int -> Int}
  (rule : ∀ (i j : Int) (t u : Tok) (s : Shared) (Q : Value -> Shared -> Prop) (E : Value -> Shared -> Prop),C i j -> Q (.int (g i j) s.toks) { s with toks:=s.toks + 1 } -> wpAny (model X.prog X.w) X.A (f (.int i t) (.int j u)) Q E s) :
  OpR X f (rI C fun i j => .int (g i j)):=by
 intro pins s σ H x y v u Q I rx ry h
 obtain ⟨i,j,rfl,rfl,hc,q⟩:=h
 obtain ⟨t,rfl⟩:=rx
 obtain ⟨t',rfl⟩:=ry
 exact rule i j t t' s _ _ hc ⟨.int (g i j),H,I.tok _,⟨_,rfl⟩,q⟩
theorem w3c {f : Value -> Value -> Sem Value} {g : Int -> Int -> Int}
  (rule : ∀ (i j : Int) (t u : Tok) (s : Shared) (Q : Value -> Shared -> Prop) (E : Value -> Shared -> Prop),Q (.int (g i j) s.toks) { s with toks:=s.toks + 1 } -> wpAny (model X.prog X.w) X.A (f (.int i t) (.int j u)) Q E s) :
  OpR X f (rI0 fun i j => .int (g i j)):=by
 intro pins s σ H x y v u Q I rx ry h
 obtain ⟨i,j,rfl,rfl,q⟩:=h
 obtain ⟨t,rfl⟩:=rx
 obtain ⟨t',rfl⟩:=ry
 exact rule i j t t' s _ _ ⟨.int (g i j),H,I.tok _,⟨_,rfl⟩,q⟩
theorem w0o {f : Value -> Value -> Sem Value} {g : Int -> Int -> Bool}
  (rule : ∀ (i j : Int) (t u : Tok) (s : Shared) (Q : Value -> Shared -> Prop) (E : Value -> Shared -> Prop),Q (.bool (g i j)) s -> wpAny (model X.prog X.w) X.A (f (.int i t) (.int j u)) Q E s) :
  OpR X f (rI0 fun i j => .bl (g i j)):=by
 intro pins s σ H x y v u Q I rx ry h
 obtain ⟨i,j,rfl,rfl,q⟩:=h
 obtain ⟨t,rfl⟩:=rx
 obtain ⟨t',rfl⟩:=ry
 exact rule i j t t' s _ _ ⟨.bl (g i j),H,I,rfl,q⟩
def w3s (i j : Int) : Prop:=0 <= j /\ j <= 1000000 /\ i.natAbs < 2 ^ 64
def j4y (i j : Int) : Prop:=(-(2 ^ 64) < i /\ i < 2 ^ 64) \/ (-(2 ^ 64) < j /\ j < 2 ^ 64)
theorem j4y.ok {i j : Int} (h : j4y i j) : IntMulOk i j:=by
 rcases h with ⟨h1,h2⟩ | ⟨h1,h2⟩
 ·exact .of_left (intBits_le_64 h1 h2)
 ·exact .of_right (intBits_le_64 h1 h2)
theorem j5f : OpR X (binaryOp .Add) (rI0 fun i j => .int (i + j)):=w3c fun _ _ _ _ _ _ _ q => add_int q
theorem j9f : OpR X (binaryOp .Sub) (rI0 fun i j => .int (i - j)):=w3c fun _ _ _ _ _ _ _ q => sub_int q
theorem j6o : OpR X (binaryOp .Mult) (rI j4y fun i j => .int (i * j)):=opI fun _ _ _ _ _ _ _ hc q => mul_int q hc.ok
theorem j9n : OpR X (binaryOp .Mod) (rI (fun _ j => 0 < j) fun i j => .int (i % j)):=opI fun i j _ _ _ _ _ hc q => by
 have h1 : (0 : Int) < j:=hc
 exact mod_int' (by omega) (by rw [Int.fmod_eq_emod_of_nonneg i (by omega)]; exact q)
theorem j8k : OpR X (binaryOp .Pow) (rI w3s fun i j => .int (i ^ j.toNat)):=opI fun _ _ _ _ _ _ _ hc q => pow_int_small hc.1 hc.2.1 hc.2.2 q
end
def w2f : V -> V -> Bool
 | .non,.non => true | .non,.int _ => true | .int _,.non => true | .non,.bl _ => true | .bl _,.non => true | .non,.str _ => true | .str _,.non => true
 | .int _,.int _ => true | .bl _,.bl _ => true | .str _,.str _ => true | .byt _,.byt _ => true
 | .int _,.str _ => true | .str _,.int _ => true | .bl _,.str _ => true | .str _,.bl _ => true
 | _,_ => false
def rEq : R2:=fun x y H Q => w2f x y = true /\ Q (.bl (decide (x = y))) H
def rNe : R2:=fun x y H Q => w2f x y = true /\ Q (.bl (!decide (x = y))) H
theorem k1m {i j : Int} : decide (V.int i = V.int j) = (i == j):=by
 rw [Bool.eq_iff_iff]
 simp
theorem j0b {i j : Bool} : decide (V.bl i = V.bl j) = (i == j):=by
 rw [Bool.eq_iff_iff]
 simp
theorem k4r {i j : Str} : decide (V.str i = V.str j) = (i == j):=by
 rw [Bool.eq_iff_iff]
 simp
theorem k1w {i j : Array UInt8} : decide (V.byt i = V.byt j) = (i.toList == j.toList):=by
 rw [Bool.eq_iff_iff]
 cases i
 cases j
 simp
section
variable {X : Cx} {a b c : Expr} {ta tb tc : TE} {pos : Pos}
theorem q2y {pins : List (Addr × Obj)} {σ : St} {H : Hp} {s : Shared} {Q : VK} {k k' : Bool} (I : Inv X pins σ H s) (q : Q (.bl k) H) (e : k = k') : EP X pins σ Q (.bool k') s:=by
 subst e
 exact ⟨.bl k,H,I,rfl,q⟩
theorem w2n : OpR X (compareOp .Eq) rEq:=by
 intro pins s σ H x y v u Q I rx ry h
 obtain ⟨hs,q⟩:=h
 cases x with
 | non =>
  cases rx
  cases y with
  | non => cases ry; exact PySem.EqNone.eq_none_none (q2y I q (by simp))
  | bl j => cases ry; exact PySem.EqNone.eq_none_bool (q2y I q (by simp))
  | int j => obtain ⟨t',rfl⟩:=ry; exact PySem.EqNone.eq_none_int (q2y I q (by simp))
  | str j => obtain ⟨t',rfl⟩:=ry; exact PySem.EqNone.eq_none_str (q2y I q (by simp))
  | _ => exact absurd (show false = true from hs) Bool.false_ne_true
 | bl i =>
  cases rx
  cases y with
  | non => cases ry; exact PySem.EqNone.eq_bool_none (q2y I q (by simp))
  | bl j => cases ry; exact eq_bool (q2y I q j0b)
  | str j => obtain ⟨t',rfl⟩:=ry; exact PySem.EqMixed.eq_bool_str (q2y I q (by simp))
  | _ => exact absurd (show false = true from hs) Bool.false_ne_true
 | int i =>
  obtain ⟨t,rfl⟩:=rx
  cases y with
  | non => cases ry; exact PySem.EqNone.eq_int_none (q2y I q (by simp))
  | int j => obtain ⟨t',rfl⟩:=ry; exact eq_int (q2y I q k1m)
  | str j => obtain ⟨t',rfl⟩:=ry; exact PySem.EqMixed.eq_int_str (q2y I q (by simp))
  | _ => exact absurd (show false = true from hs) Bool.false_ne_true
 | str i =>
  obtain ⟨t,rfl⟩:=rx
  cases y with
  | non => cases ry; exact PySem.EqNone.eq_str_none (q2y I q (by simp))
  | bl j => cases ry; exact PySem.EqMixed.eq_str_bool (q2y I q (by simp))
  | int j => obtain ⟨t',rfl⟩:=ry; exact PySem.EqMixed.eq_str_int (q2y I q (by simp))
  | str j => obtain ⟨t',rfl⟩:=ry; exact eq_str (q2y I q k4r)
  | _ => exact absurd (show false = true from hs) Bool.false_ne_true
 | byt i =>
  obtain ⟨t,rfl⟩:=rx
  cases y with
  | byt j => obtain ⟨t',rfl⟩:=ry; exact PySem.W.eq_bytes (q2y I q k1w)
  | _ => exact absurd (show false = true from hs) Bool.false_ne_true
 | _ => cases y <;> exact absurd (show false = true from hs) Bool.false_ne_true
theorem w2b : OpR X (compareOp .NotEq) rNe:=by
 intro pins s σ H x y v u Q I rx ry h
 obtain ⟨hs,q⟩:=h
 cases x with
 | non =>
  cases rx
  cases y with
  | non => cases ry; exact PySem.EqNone.ne_none_none (q2y I q (by simp))
  | bl j => cases ry; exact PySem.EqNone.ne_none_bool (q2y I q (by simp))
  | int j => obtain ⟨t',rfl⟩:=ry; exact PySem.EqNone.ne_none_int (q2y I q (by simp))
  | str j => obtain ⟨t',rfl⟩:=ry; exact PySem.EqNone.ne_none_str (q2y I q (by simp))
  | _ => exact absurd (show false = true from hs) Bool.false_ne_true
 | bl i =>
  cases rx
  cases y with
  | non => cases ry; exact PySem.EqNone.ne_bool_none (q2y I q (by simp))
  | bl j => cases ry; exact ne_bool (q2y I q (congrArg not j0b))
  | str j => obtain ⟨t',rfl⟩:=ry; exact PySem.EqMixed.ne_bool_str (q2y I q (by simp))
  | _ => exact absurd (show false = true from hs) Bool.false_ne_true
 | int i =>
  obtain ⟨t,rfl⟩:=rx
  cases y with
  | non => cases ry; exact PySem.EqNone.ne_int_none (q2y I q (by simp))
  | int j => obtain ⟨t',rfl⟩:=ry; exact ne_int (q2y I q (congrArg not k1m))
  | str j => obtain ⟨t',rfl⟩:=ry; exact PySem.EqMixed.ne_int_str (q2y I q (by simp))
  | _ => exact absurd (show false = true from hs) Bool.false_ne_true
 | str i =>
  obtain ⟨t,rfl⟩:=rx
  cases y with
  | non => cases ry; exact PySem.EqNone.ne_str_none (q2y I q (by simp))
  | bl j => cases ry; exact PySem.EqMixed.ne_str_bool (q2y I q (by simp))
  | int j => obtain ⟨t',rfl⟩:=ry; exact PySem.EqMixed.ne_str_int (q2y I q (by simp))
  | str j => obtain ⟨t',rfl⟩:=ry; exact ne_str (q2y I q (congrArg not k4r))
  | _ => exact absurd (show false = true from hs) Bool.false_ne_true
 | byt i =>
  obtain ⟨t,rfl⟩:=rx
  cases y with
  | byt j => obtain ⟨t',rfl⟩:=ry; exact PySem.W.ne_bytes (q2y I q (congrArg not k1w))
  | _ => exact absurd (show false = true from hs) Bool.false_ne_true
 | _ => cases y <;> exact absurd (show false = true from hs) Bool.false_ne_true
theorem w2o : OpR X (compareOp .Lt) (rI0 fun i j => .bl (decide (i < j))):=w0o fun _ _ _ _ _ _ _ q => lt_int q
theorem w0q : OpR X (compareOp .LtE) (rI0 fun i j => .bl (decide (i <= j))):=w0o fun _ _ _ _ _ _ _ q => le_int q
theorem w2s : OpR X (compareOp .Gt) (rI0 fun i j => .bl (decide (j < i))):=w0o fun _ _ _ _ _ _ _ q => gt_int q
theorem w2x : OpR X (compareOp .GtE) (rI0 fun i j => .bl (decide (j <= i))):=w0o fun _ _ _ _ _ _ _ q => ge_int q
theorem k2z : OpR X (compareOp .In) (fun x y H Q => ∃ i j,x = .str i /\ y = .str j /\ Q (.bl (!(Builtin.Str.occurrences j i 0 j.length 1).isEmpty)) H):=by
 intro pins s σ H x y v u Q I rx ry h
 obtain ⟨i,j,rfl,rfl,q⟩:=h
 obtain ⟨t,rfl⟩:=rx
 obtain ⟨t',rfl⟩:=ry
 exact in_str (q2y I q rfl)
theorem k8y : OpR X (compareOp .Is) (fun x y H Q => y = .non /\ Q (.bl (decide (x = .non))) H):=by
 intro pins s σ H x y v u Q I rx ry h
 obtain ⟨rfl,q⟩:=h
 cases ry
 refine is_none_gen (q2y I q ?_)
 cases x <;> first
  | (cases rx; rfl)
  | (obtain ⟨t,rfl⟩:=rx; rfl)
theorem j4k : OpR X (compareOp .IsNot) (fun x y H Q => y = .non /\ Q (.bl (!decide (x = .non))) H):=by
 intro pins s σ H x y v u Q I rx ry h
 obtain ⟨rfl,q⟩:=h
 cases ry
 refine isnot_none_gen (q2y I q ?_)
 cases x <;> first
  | (cases rx; rfl)
  | (obtain ⟨t,rfl⟩:=rx; rfl)
theorem OpR.or {f : Value -> Value -> Sem Value} {r r' : R2} (h : OpR X f r) (h' : OpR X f r') : OpR X f (fun x y H Q => r x y H Q \/ r' x y H Q):=by
 intro pins s σ H x y v u Q I rx ry q
 rcases q with q | q
 ·exact h pins s σ H x y v u Q I rx ry q
 ·exact h' pins s σ H x y v u Q I rx ry q
theorem q2l (b : Expr) {op : CmpOp} (h : op ≠ .In:=by decide) (h2 : op ≠ .NotIn:=by decide) : behindInMarks op b = false:=by
 have e1 : (op == CmpOp.In) = false:=by cases op <;> first | rfl | exact absurd rfl h
 have e2 : (op == CmpOp.NotIn) = false:=by cases op <;> first | rfl | exact absurd rfl h2
 cases b <;> simp [behindInMarks,e1,e2]
theorem j4f {op : CmpOp} {r : R2} (ho : OpR X (compareOp op) r) (ha : PE X a ta) (hb : PE X b tb) (hm : behindInMarks op b = false) : PE X (.Compare a [op] [b] pos) (tOp r ta tb):=by
 intro pins s σ H Q I h
 exact wpAny_Compare1 (w2w ha hb I h fun v u s2 x y H2 I2 rx ry q => ho pins s2 σ H2 x y v u Q I2 rx ry q) hm
def j0n (t : TE) : TT:=fun σ H Q => t σ H fun x H' => ∃ k,x = .bl k /\ Q k H'
theorem k3t {op : CmpOp} {r : R2} (ho : OpR X (compareOp op) r) (ha : PE X a ta) (hb : PE X b tb) (hm : behindInMarks op b = false) : PT X (.Compare a [op] [b] pos) (j0n (tOp r ta tb)):=by
 intro pins s σ H Q I h
 refine wpAny_isTrue_Compare1 (thn (ha pins s σ H _ I h) fun v s1 ⟨x,H1,I1,r1,q1⟩ => thn (hb pins s1 σ H1 _ I1 q1) fun u s2 ⟨y,H2,I2,r2,q2⟩ =>
  thn (ho pins s2 σ H2 x y v u _ I2 r1 r2 q2) fun c s3 ⟨z,H3,I3,r3,k,e,q3⟩ => ?_) hm
 subst e
 cases r3
 exact wpAny_truthy_bool ⟨H3,I3,q3⟩
def k9t (r r' : R2) (ta tb tc : TE) : TE:=fun σ H Q => ta σ H fun x H1 => tb σ H1 fun y H2 => r x y H2 fun z H3 => ∃ k,z = .bl k ∧
 (if k = true then tc σ H3 fun w' H4 => r' y w' H4 Q else Q (.bl false) H3)
theorem k7c {op op' : CmpOp} {r r' : R2} (ho : OpR X (compareOp op) r) (ho' : OpR X (compareOp op') r') (ha : PE X a ta) (hb : PE X b tb) (hc : PE X c tc)
  (hm : lastMarks [op,op'] [b,c] = false:=by with_unfolding_all rfl) : PT X (.Compare a [op,op'] [b,c] pos) (j0n (k9t r r' ta tb tc)):=by
 intro pins s σ H Q I h
 refine isTrue_chain (thn (ha pins s σ H _ I h) fun v s1 ⟨x,H1,I1,r1,q1⟩ => test_link (thn (hb pins s1 σ H1 _ I1 q1) fun u s2 ⟨y,H2,I2,r2,q2⟩ =>
  thn (ho pins s2 σ H2 x y v u _ I2 r1 r2 q2) fun d s3 ⟨z,H3,I3,r3,k,e,q3⟩ => ?_)) hm
 subst e
 cases r3
 refine wpAny_truthy_bool ?_
 cases k with
 | false =>
  obtain ⟨k',e',q'⟩:=q3
  cases e'
  exact ite_ff ⟨H3,I3,q'⟩
 | true =>
  refine ite_tt (test_last (thn (hc pins s3 σ H3 _ I3 q3) fun w' s4 ⟨z',H4,I4,r4,q4⟩ => thn (ho' pins s4 σ H4 y z' u w' _ I4 r2 r4 q4) fun d' s5 ⟨z2,H5,I5,r5,k2,e2,q5⟩ => ?_))
  subst e2
  cases r5
  exact wpAny_truthy_bool ⟨H5,I5,q5⟩
theorem z5i : (sizeLine : Nat) < 2 ^ 63:=by rw [sizeLine_eq]; decide
theorem z9c : OpR X (binaryOp .Add) (fun x y H Q => ∃ i j,x = .str i /\ y = .str j /\ i.length + j.length <= sizeLine /\ Q (.str (i ++ j)) H):=by
 intro pins s σ H x y v u Q I rx ry h
 obtain ⟨i,j,rfl,rfl,hz,q⟩:=h
 obtain ⟨t,rfl⟩:=rx
 obtain ⟨t',rfl⟩:=ry
 exact add_str (fun t' tk => ⟨.str (i ++ j),H,I.tok _,⟨_,rfl⟩,q⟩) hz
theorem vals1 {x : V} {us : List Value} (r : q3w [x] us) : ∃ u,us = [u] /\ RelV x u:=by
 cases r with
 | cons r1 r2 => cases r2; exact ⟨_,rfl,r1⟩
theorem vals2 {x y : V} {us : List Value} (r : q3w [x,y] us) : ∃ u w',us = [u,w'] /\ RelV x u /\ RelV y w':=by
 cases r with
 | cons r1 r2 =>
  cases r2 with
  | cons r3 r4 => cases r4; exact ⟨_,_,rfl,r1,r3⟩
theorem k2k (hc : X.calm = true) : q6s X (.builtin "max") (fun xs H Q => ∃ i j,xs = [.int i,.int j] /\ Q (.int (if j > i then j else i)) H):=by
 intro pins s σ H xs us Q I r h
 obtain ⟨i,j,rfl,q⟩:=h
 obtain ⟨u,w',rfl,⟨t,rfl⟩,⟨t',rfl⟩⟩:=vals2 r
 refine max_two_ints (I.ok.hd hc) fun h' tk k => ⟨_,H,I.kept k,?_,q⟩
 by_cases hj : j > i
 ·rw [if_pos hj,if_pos hj]; exact ⟨_,rfl⟩
 ·rw [if_neg hj,if_neg hj]; exact ⟨_,rfl⟩
theorem k3c (hc : X.calm = true) : q6s X (.builtin "min") (fun xs H Q => ∃ i j,xs = [.int i,.int j] /\ Q (.int (if j < i then j else i)) H):=by
 intro pins s σ H xs us Q I r h
 obtain ⟨i,j,rfl,q⟩:=h
 obtain ⟨u,w',rfl,⟨t,rfl⟩,⟨t',rfl⟩⟩:=vals2 r
 refine min_two_ints (I.ok.hd hc) fun h' tk k => ⟨_,H,I.kept k,?_,q⟩
 by_cases hj : j < i
 ·rw [if_pos hj,if_pos hj]; exact ⟨_,rfl⟩
 ·rw [if_neg hj,if_neg hj]; exact ⟨_,rfl⟩
end
end L2
namespace L2
open PySem PySem.Spec PyProof.Rows
theorem z9l.some_of {v : V} {o : Option Value} (r : z9l (some v) o) : ∃ u,o = some u /\ RelV v u:=by
 cases o with
 | none => exact (show False from r).elim
 | some u => exact ⟨u,rfl,r⟩
end L2
namespace L2
open PySem PySem.Spec PyProof.Rows
structure z1a (k : Nat) (A : Around) : Prop where
 hd : A.handled = none
 dp : A.depth + 3 * k + 5 < recursionLimit
 un : A.units + 16 * k + 200 < cLine
theorem z1a.deeper {k : Nat} {A : Around} (r : z1a (k + 1) A) (env : Env) : z1a k (A.deeper env) :=
 ⟨r.hd,by have:=r.dp; show A.depth + 1 + 3 * k + 5 < _; omega,by have:=r.un; show A.units + 3 + 16 * k + 200 < _; omega⟩
theorem z1a.depth {k : Nat} {A : Around} (r : z1a k A) : A.depth < recursionLimit:=by have:=r.dp; omega
theorem z1a.units {k : Nat} {A : Around} (r : z1a k A) : A.units + 64 < cLine:=by have:=r.un; omega
def j5d : TA:=fun _ H Q => Q [] H
def z6r (ta : TE) (tr : TA) : TA:=fun σ H Q => ta σ H fun x H1 => tr σ H1 fun xs H2 => Q (x :: xs) H2
section
variable {X : Cx} {e : Expr} {es : List Expr} {te : TE} {t : TA} {pos : Pos}
theorem q6r : PA X [] j5d:=fun _ _ _ _ H Q I h => Calls.spliced_nil ⟨[],H,I,.nil,h⟩
theorem q3e (ha : PE X e te) (hr : PA X es t) (hs : starEach (e :: es) X.env = (false,eval e X.env) :: starEach es X.env:=by rfl) : PA X (e :: es) (z6r te t):=by
 intro pos pins s σ H Q I h
 rw [hs]
 show wpAny _ _ (spliced ((false,eval e X.env) :: backTo pos (starEach es X.env))) _ _ s
 refine Calls.spliced_cons (thn (ha pins s σ H _ I h) fun u s1 ⟨x,H1,I1,r1,q1⟩ => ?_)
 exact thn (hr pos pins s1 σ H1 _ I1 q1) fun us s2 ⟨xs,H2,I2,r2,q2⟩ => ⟨x :: xs,H2,I2,.cons r1 r2,q2⟩
def w3j (t : TA) : TE:=fun σ H Q => t σ H fun xs H1 => xs.length <= sizeLine /\ ∀ p,H1 p = none -> Q (.ref p) (upd H1 p (.tup xs))
def w3y (t : TA) : TE:=fun σ H Q => t σ H fun xs H1 => xs.length <= sizeLine /\ ∀ p,H1 p = none -> Q (.ref p) (upd H1 p (.lst xs))
theorem k2b {x1} (h : PA X es t) : PE X (.Tuple es x1 pos) (w3j t):=by
 intro pins s σ H Q I hq
 refine wpAny_Tuple_spliced (thn (h pos pins s σ H _ I hq) fun us s1 ⟨xs,H1,I1,r,z,q⟩ => ⟨by rw [<- r.length]; exact z,?_⟩)
 have hf : H1 s1.heap.objs.size = none:=I1.hok.fresh (Nat.le_refl _)
 refine ⟨.ref s1.heap.objs.size,upd H1 s1.heap.objs.size (.tup xs),I1.laid (t':=s1.toks) (fun b u e => Heap.get?_push_of_some _ e) (Nat.le_refl _) ?_,rfl,q _ hf⟩
 exact ⟨z,us,r,⟨_,Heap.get?_push_size _ rfl,rfl,_,rfl⟩⟩
theorem j9d (h : PA X es t) : PE X (.List es pos) (w3y t):=by
 intro pins s σ H Q I hq
 refine wpAny_List_spliced (thn (h pos pins s σ H _ I hq) fun us s1 ⟨xs,H1,I1,r,z,q⟩ => ⟨by rw [<- r.length]; exact z,?_⟩)
 have hf : H1 s1.heap.objs.size = none:=I1.hok.fresh (Nat.le_refl _)
 refine ⟨.ref s1.heap.objs.size,upd H1 s1.heap.objs.size (.lst xs),I1.laid (t':=s1.toks) (fun b u e => Heap.get?_push_of_some _ e) (Nat.le_refl _) ?_,rfl,q _ hf⟩
 exact ⟨z,us,0,r,Heap.get?_push_size _ rfl⟩
end
abbrev Sp:=List V -> Hp -> VK -> XK -> Prop
abbrev CXT:=List Env -> Hp -> Shared -> XK -> Value -> Shared -> Prop
structure w0f (P : Program) (w : World) (K : PySem.W.Frag) (mg : Str -> Option Value) (base : Heap) (A : Around) (outer : List Env) (s : Shared) (H : Hp) : Prop where
 frames : A.frames = some outer
 mod : Mod K mg base
 bs : ∀ b o,base.get? b = some o -> s.heap.get? b = some o /\ H b = none
 bsz : base.objs.size <= s.heap.objs.size
 funs : s.heap.FunFrames base outer
 frf : ∀ b ∈ frs outer,H b = none
 hok : HOk P w H s.heap
 bare : AllBare s.gens
def CE (outer : List Env) (P : Program) (w : World) (H : Hp) (s : Shared) (Q : VK) (u : Value) (s' : Shared) : Prop :=
 ∃ v H',s'.os = s.os /\ AllBare s'.gens /\ Un (frs outer) [] H H' s.heap s'.heap /\ HOk P w H' s'.heap /\ RelV v u /\ Q v H'
def CR (CX : CXT) (outer : List Env) (P : Program) (w : World) (H : Hp) (s : Shared) (Q : VK) (E : XK) (r : Result) (s' : Shared) : Prop :=
 match r with
 | .ok (.ret u) => CE outer P w H s Q u s'
 | .ok _ => False
 | .error e => CX outer H s E e s'
structure q3d (P : Program) (w : World) (K : PySem.W.Frag) (mg : Str -> Option Value) (base : Heap) (CX : CXT) (k : Nat) (f : Addr) (fd : FuncData) (ps : List Str) (sp : Sp) : Prop where
 len : ∀ vs H Q E,sp vs H Q E -> vs.length = ps.length
 run : ∀ (A : Around) (outer : List Env) (s : Shared) (H : Hp) (args : Args) (us : List Value) (vs : List V) (Q : VK) (E : XK),z1a k A -> w0f P w K mg base A outer s H -> BindsTo s fd args (ps.zip us) -> q3w vs us -> sp vs H Q E →
  codeAny (model P w) A (.call (.ref f) args) (CR CX outer P w H s Q E) s
theorem q3d.imp {P : Program} {w : World} {K : PySem.W.Frag} {mg : Str -> Option Value} {base : Heap} {CX : CXT} {k : Nat} {f : Addr} {fd : FuncData} {ps : List Str} {sp sp' : Sp} (F : q3d P w K mg base CX k f fd ps sp)
  (h : ∀ vs H Q E,sp' vs H Q E -> sp vs H Q E) : q3d P w K mg base CX k f fd ps sp' :=
 ⟨fun vs H Q E q => F.len vs H Q E (h _ _ _ _ q),fun A outer s H args us vs Q E hr he hb hv hs => F.run A outer s H args us vs Q E hr he hb hv (h _ _ _ _ hs)⟩
section
variable {X : Cx} {pins : List (Addr × Obj)} {σ : St} {H : Hp} {s s' : Shared}
theorem Inv.env0 (I : Inv X pins σ H s) : w0f X.prog X.w X.K X.mg X.base X.A X.stack s H :=
 ⟨I.ok.frames,I.ok.mod,I.bs,Nat.le_trans I.ok.bsz I.sz,I.stack,I.stkFree,I.hok,I.bare⟩
theorem Inv.after {Q : VK} {u : Value} (I : Inv X pins σ H s) (h : CE X.stack X.prog X.w H s Q u s') : EP X pins σ Q u s':=by
 obtain ⟨v,H',os,bare,un,hok,r,q⟩:=h
 obtain ⟨hh,g,d,t,os'⟩:=s'
 obtain rfl : os' = s.os:=os
 exact ⟨v,H',I.call (h':=hh) (g':=g) (d':=d) (t':=t) (ch:=[]) un hok bare (fun b z => absurd z (by simp)),r,q⟩
end
def w2e (sp : Sp) (dvs : List V) (E : XK) (t : TA) : TE:=fun σ H Q => t σ H fun vs H1 => sp (vs ++ dvs) H1 Q E
def Binds (K : PySem.W.Frag) (fd : FuncData) (ps : List Str) (ds : List Value) : Prop :=
 ∀ (s : Shared) (us : List Value),K.In s.heap -> (us ++ ds).length = ps.length -> BindsTo s fd ⟨us,[]⟩ (ps.zip (us ++ ds))
theorem Binds.all {K : PySem.W.Frag} {fd : FuncData} {ps : List Str} (h : ∀ us : List Value,us.length = ps.length -> bindArgs fd ⟨us,[]⟩ = pure (ps.zip us)) : Binds K fd ps []:=fun s us _ hl => by
 rw [List.append_nil] at hl ⊢
 exact .of_eq (h us hl)
def z8k (CX : CXT) (X : Cx) (E : XK) : Prop:=∀ (pins : List (Addr × Obj)) (σ : St) (H : Hp) (s : Shared) (e : Value) (s' : Shared),Inv X pins σ H s -> CX X.stack H s E e s' -> X.xe e s'
section
variable {X : Cx} {CX : CXT} {k : Nat} {f C : Addr} {fd : FuncData} {ps : List Str} {sp : Sp} {dvs : List V} {ds : List Value} {E : XK} {x m : Str} {p pos apos : Pos} {e o : Expr} {es : List Expr} {ta : TE} {t : TA}
theorem j6b {pins : List (Addr × Obj)} {σ : St} {H : Hp} {s : Shared} {Q : VK} {us : List Value} {vs : List V} (F : q3d X.prog X.w X.K X.mg X.base CX k f fd ps sp) (hr : z1a k X.A) (hb : Binds X.K fd ps ds) (hd : q3w dvs ds) (hx : z8k CX X E)
  (I : Inv X pins σ H s) (r : q3w vs us) (h : sp (vs ++ dvs) H Q E) : wpAny (model X.prog X.w) X.A (call (.ref f) us) (EP X pins σ Q) X.xe s:=by
 have r2 : q3w (vs ++ dvs) (us ++ ds):=r.append hd
 have hl : (us ++ ds).length = ps.length:=by rw [<- r2.length]; exact F.len _ _ _ _ h
 refine wpAny_call (codeAny_mono (F.run X.A X.stack s H ⟨us,[]⟩ (us ++ ds) (vs ++ dvs) Q E hr I.env0 (hb s us I.kIn hl) r2 h) fun r s' hq => ?_)
 cases r with
 | error e => exact hx pins σ H s e s' I hq
 | ok fl =>
  cases fl with
  | ret u => exact I.after hq
  | next => exact False.elim hq
  | brk => exact False.elim hq
  | cont => exact False.elim hq
theorem j2w (F : q3d X.prog X.w X.K X.mg X.base CX k f fd ps sp) (hr : z1a k X.A) (hg : Gl X x) (hm : X.mg x = some (.ref f)) (hk : PySem.W.keepIn X.K (.ref f) = true) (hb : Binds X.K fd ps ds) (hd : q3w dvs ds) (hx : z8k CX X E)
  (ha : PA X (e :: es) t) (hdb : (x == ("__debug__" : Str)) = false:=by decide) (he : starEach (e :: es) X.env = (false,eval e X.env) :: starEach es X.env:=by rfl) (hpl : (backTo pos (starEach es X.env)).any (·.1) = false:=by rfl) :
  PE X (.Call (.Name x p) (e :: es) [] pos) (w2e sp dvs E t):=by
 intro pins s σ H Q I h
 refine wpAny_Call_Name_kw (q9x I hg hm ?_ hdb)
 refine PySem.W.callWith_K (h₀:=X.base) I.ok.mod.kin hk (thn (ha pos pins s σ H _ I h) fun us s1 ⟨vs,H1,I1,r,q⟩ => ⟨I1.kIn,?_⟩) he hpl
 exact j6b F hr hb hd hx I1 r q
end
structure q2a (N P : List Str) (sc : Scope) : Prop where
 kind : sc.kind = .function
 co : sc.isCoroutine = false
 gen : sc.isGenerator = false
 nd : N.Nodup
 pre : N.take P.length = P
 par : ∀ x ∈ P,sc.names.lookup x = some .local \/ sc.names.lookup x = some .cell
 nofree : ∀ y ∈ sc.names,y.2 ≠ .free
theorem z5l {kindOf : Str -> Option NameKind} {x : Str} : ∀ {binds : List (Str × Value)} {m : Str -> Option Value},(∀ v,(x,v) ∉ binds) -> bindL kindOf binds m x = m x
 | [],_,_ => rfl
 | (n,v) :: r,m,h => by
  unfold bindL
  rw [z5l fun w hw => h w (List.mem_cons_of_mem _ hw)]
  split
  ·have : x ≠ n:=by rintro rfl; exact h v List.mem_cons_self
   simp [this]
  ·rfl
theorem z4w {kindOf : Str -> Option NameKind} {x : Str} : ∀ {binds : List (Str × Value)} {m : Str -> Option Value},(∀ v,(x,v) ∉ binds) -> bindC kindOf binds m x = m x
 | [],_,_ => rfl
 | (n,v) :: r,m,h => by
  unfold bindC
  rw [z4w fun w hw => h w (List.mem_cons_of_mem _ hw)]
  split
  ·rfl
  ·have : x ≠ n:=by rintro rfl; exact h v List.mem_cons_self
   simp [this]
theorem z4i {kindOf : Str -> Option NameKind} {x : Str} {v : Value} : ∀ {P : List Str} {vs : List Value} {i : Nat} {m : Str -> Option Value},P.Nodup -> P[i]? = some x -> vs[i]? = some v -> kindOf x = some .local →
  bindL kindOf (P.zip vs) m x = some v
 | [],_,_,_,_,h,_,_ => by simp at h
 | _ :: _,[],_,_,_,_,h,_ => by simp at h
 | p :: P,w :: vs,0,m,nd,h1,h2,hk => by
  simp at h1 h2; subst h1; subst h2
  show bindL kindOf ((p,w) :: P.zip vs) m p = _
  unfold bindL
  rw [z5l fun v hv => (List.nodup_cons.mp nd).1 (List.of_mem_zip hv).1,if_pos hk]
  simp
 | p :: P,w :: vs,i + 1,m,nd,h1,h2,hk => by
  show bindL kindOf ((p,w) :: P.zip vs) m x = _
  unfold bindL
  exact z4i (i:=i) (List.nodup_cons.mp nd).2 (by simpa using h1) (by simpa using h2) hk
theorem z4k {kindOf : Str -> Option NameKind} {x : Str} {v : Value} : ∀ {P : List Str} {vs : List Value} {i : Nat} {m : Str -> Option Value},P.Nodup -> P[i]? = some x -> vs[i]? = some v -> kindOf x ≠ some .local →
  bindC kindOf (P.zip vs) m x = some v
 | [],_,_,_,_,h,_,_ => by simp at h
 | _ :: _,[],_,_,_,_,h,_ => by simp at h
 | p :: P,w :: vs,0,m,nd,h1,h2,hk => by
  simp at h1 h2; subst h1; subst h2
  show bindC kindOf ((p,w) :: P.zip vs) m p = _
  unfold bindC
  rw [z4w fun v hv => (List.nodup_cons.mp nd).1 (List.of_mem_zip hv).1,if_neg hk]
  simp
 | p :: P,w :: vs,i + 1,m,nd,h1,h2,hk => by
  show bindC kindOf ((p,w) :: P.zip vs) m x = _
  unfold bindC
  exact z4k (i:=i) (List.nodup_cons.mp nd).2 (by simpa using h1) (by simpa using h2) hk
def start (N : List Str) (vs : List V) : St:=vs.map some ++ List.replicate (N.length - vs.length) none
def z3q (CX : CXT) (P : Program) (w : World) (K : PySem.W.Frag) (mg : Str -> Option Value) (base : Heap) (N : List Str) (qual : Str) (scope : Scope) (f : Addr) (cd : Value) (A : Around) (outer : List Env) (s : Shared) (H : Hp) (E : XK) : Cx where
 prog:=P
 w:=w
 K:=K
 mg:=mg
 base:=base
 A:=A.deeper (envOfC qual scope s.heap.objs.size f cd)
 N:=N
 s₀:=s
 H0:=H
 env:=envOfC qual scope s.heap.objs.size f cd
 outer:=outer
 stack:=envOfC qual scope s.heap.objs.size f cd :: outer
 ex:=[]
 calm:=true
 fn:=fun _ => true
 pn:=[]
 xe:=fun e s' => wpAny (model P w) (A.deeper (envOfC qual scope s.heap.objs.size f cd)) (leaving (envOfC qual scope s.heap.objs.size f cd) e) (fun _ s'' => CX outer H s E e s'') (fun e' s'' => CX outer H s E e' s'') s'
theorem z7g {sc : Scope} {n : Nat} {x : Str} (h : sc.names.lookup x = some .cell) : ∃ c,(cellsFrom n sc.names []).lookup x = some c:=by
 have q:=PySem.W.cellsFrom_some sc.names n [] (.inl h)
 exact Option.isSome_iff_exists.mp q
theorem k2m {CX : CXT} {P : Program} {w : World} {K : PySem.W.Frag} {mg : Str -> Option Value} {base : Heap} {N ps : List Str} {qual : Str} {scope : Scope} {f : Addr} {cd : Value} {A : Around} {outer : List Env} {s s1 : Shared} {H : Hp} {E : XK} {us : List Value} {vs : List V}
  (S : q2a N ps scope) (hd : A.handled = none) (e0 : w0f P w K mg base A outer s H) (hl : vs.length = ps.length) (r : q3w vs us)
  (x : InCallC s s.heap.objs.size (bindL (envOfC qual scope s.heap.objs.size f cd).kindOf (ps.zip us) fun _ => none) (cellsFrom (s.heap.objs.size + 1) scope.names []) (bindC (envOfC qual scope s.heap.objs.size f cd).kindOf (ps.zip us) fun _ => none) s1) :
  Inv (z3q CX P w K mg base N qual scope f cd A outer s H E) [] (start N vs) H s1:=by
 have hpl : ps.length <= N.length:=by have:=congrArg List.length S.pre; rw [List.length_take] at this; omega
 obtain ⟨h1,tk,rfl,hk⟩:=x.done
 have noA : ∀ b : Addr,b ∉ (z3q CX P w K mg base N qual scope f cd A outer s H E).ex:=fun b z => absurd (show b ∈ ([] : List Addr) from z) (by simp)
 refine ⟨⟨e0.mod,S.kind,rfl,rfl,Nat.le_refl _,fun y z c h1 h2 => ?_,fun y hy => ?_,fun y c _ h => ?_,fun _ => hd,Around.frames_deeper e0.frames,.inr ⟨rfl,rfl⟩,fun b z => absurd z (noA b),e0.bs,e0.bsz,fun b _ _ => noA b,fun b z => absurd z (noA b),e0.funs,e0.frf⟩,
  rfl,e0.bare,Un.kept hk,⟨_,x.toInCall.ns,fun i y v h1 h2 h3 => ?_⟩,fun y c h => ⟨_,x.cell y c h⟩,e0.hok.fresh (Nat.le_refl _),fun y c h => ?_,fun p hp => absurd (show p ∈ ([] : List (Addr × Obj)) from hp) (by simp),e0.hok.kept hk,?_⟩
 ·exact name_of_addr x.apart (PySem.mem_of_lookup h1) (PySem.mem_of_lookup h2)
 ·have hy : scope.names.lookup y = some .cell \/ scope.names.lookup y = some .free:=hy
  rcases hy with hy | hy
  ·exact z7g hy
  ·exact absurd rfl (S.nofree _ (PySem.mem_of_lookup hy))
 ·exact Nat.le_of_lt (x.above y c (PySem.mem_of_lookup h))
 ·have hi : i < vs.length:=by
   unfold start at h2
   by_cases hi : i < vs.length
   ·exact hi
   ·rw [List.getElem?_append_right (by simpa using hi)] at h2
    rw [List.getElem?_replicate] at h2
    split at h2 <;> cases h2
  have ha : vs[i]? = some v:=by
   unfold start at h2
   rw [List.getElem?_append_left (by simpa using hi),List.getElem?_map] at h2
   cases e : vs[i]? with
   | none => rw [e] at h2; cases h2
   | some a => rw [e] at h2; cases h2; rfl
  obtain ⟨u,hu,rv⟩:=r.get ha
  have hp : ps[i]? = some y:=by
   rw [<- S.pre,List.getElem?_take_of_lt (by omega)]; exact h1
  have ndP : ps.Nodup:=by rw [<- S.pre]; exact S.nd.sublist (List.take_sublist _ _)
  refine ⟨u,rv,?_⟩
  rcases S.par y (List.mem_of_getElem? hp) with k | k
  ·exact .inl ⟨k,z4i ndP hp hu k⟩
  ·obtain ⟨c,e⟩:=z7g (n:=s.heap.objs.size + 1) k
   refine .inr ⟨.inl k,c,e,?_⟩
   have q:=x.cell y c e
   rw [z4k ndP hp hu (by show scope.names.lookup y ≠ _; rw [k]; decide)] at q
   exact q
 ·exact e0.hok.fresh (Nat.le_of_lt (x.above y c (PySem.mem_of_lookup h)))
 ·unfold start
  show _ = N.length
  rw [List.length_append,List.length_map,List.length_replicate]
  omega
theorem j9l {CX : CXT} {P : Program} {w : World} {K : PySem.W.Frag} {mg : Str -> Option Value} {base : Heap} {k : Nat} {f : Addr} {name qual : Str} {params : Arguments} {body : List Stmt} {scope : Scope} {dV kV doc pm cdv ct oc : Value} {an od : Option Addr}
  {osl : Array (Option Value)} {N ps : List Str} {sp : Sp} (lk : K.lookup f = some ⟨oc,od,.func (PySem.W.fnOf name qual params body scope dV kV doc pm an cdv ct),osl⟩) (hcd : PySem.W.codeIn K cdv qual = true) (S : q2a N ps scope)
  (len : ∀ vs H Q E,sp vs H Q E -> vs.length = ps.length)
  (hbody : ∀ (A : Around) (outer : List Env) (s : Shared) (H : Hp) (vs : List V) (Q : VK) (E : XK),z1a k (A.deeper (envOfC qual scope s.heap.objs.size f cdv)) -> sp vs H Q E →
   ∃ t,PSs (z3q CX P w K mg base N qual scope f cdv A outer s H E) body t /\ t { nx:=fun _ H' => Q .non H',rt:=Q } (start N vs) H) :
  q3d P w K mg base CX (k + 1) f (PySem.W.fnOf name qual params body scope dV kV doc pm an cdv ct) ps sp:=by
 refine ⟨len,fun A outer s H args us vs Q E hr e0 hb r hsp => ?_⟩
 have hl:=len _ _ _ _ hsp
 have KX : K.In s.heap:=e0.mod.kin.keeps fun b o e => (e0.bs b o e).1
 have lim : s.heap.NoLimit:=e0.mod.nolimit.keeps fun b o e => (e0.bs b o e).1
 have hkind : ∀ y ∈ ps.zip us,scope.names.lookup y.1 = some .local \/ (scope.names.lookup y.1 = some .cell /\ ((cellsFrom (s.heap.objs.size + 1) scope.names []).lookup y.1).isSome = true):=fun ⟨n,v⟩ hy => by
  rcases S.par n (List.of_mem_zip hy).1 with q | q
  ·exact .inl q
  ·exact .inr ⟨q,PySem.W.cellsFrom_some _ _ _ (.inl q)⟩
 refine codeAny_call_function hr.depth (KX _ _ lk) rfl S.co S.gen rfl (PySem.W.codeRec_of KX hcd) (hb _ _ _ _ ?_)
 refine wpAny_newFunctionEnv_cells S.kind hkind fun env he s1 x => ?_
 subst he
 refine ⟨lim.keeps x.toInCall.keep,codeAny_func ?_⟩
 obtain ⟨t,ht,hq⟩:=hbody A outer s H vs Q E (hr.deeper _) hsp
 have I : Inv (z3q CX P w K mg base N qual scope f cdv A outer s H E) [] (start N vs) H s1:=k2m S hr.hd e0 hl r x
 refine wpAny_mono (ht [] s1 (start N vs) H _ I hq) (fun fl s' hs => ?_) fun e s' hs => hs
 have fin : ∀ {σ' : St} {H' : Hp} {v : V} {u : Value},Inv (z3q CX P w K mg base N qual scope f cdv A outer s H E) [] σ' H' s' -> RelV v u -> Q v H' -> CE outer P w H s Q u s' :=
  fun {σ' H' v u} J rv q => ⟨v,H',J.os,J.bare,J.base,J.hok,rv,q⟩
 cases fl with
 | ret u =>
  obtain ⟨v,σ',H',J,rv,q⟩:=hs
  exact fin J rv q
 | next =>
  obtain ⟨σ',H',J,q⟩:=hs
  exact fin (v:=V.non) (u:=Value.none) J rfl q
 | brk =>
  obtain ⟨_,_,_,q⟩:=hs
  exact False.elim q
 | cont =>
  obtain ⟨_,_,_,q⟩:=hs
  exact False.elim q
end L2
namespace L2
open PySem PySem.Spec PyProof.Rows
section
variable {X : Cx} {x : Str} {p pos : Pos} {e : Expr} {es : List Expr} {t : TA} {id T : String} {r : List V -> Hp -> VK -> Prop}
def tCB (r : List V -> Hp -> VK -> Prop) (t : TA) : TE:=fun σ H Q => t σ H fun vs H1 => r vs H1 Q
theorem q9j (hc : q6s X (.builtin id) r) (hg : Gl X x) (hm : X.mg x = none) (hv : bootBuiltins x = some (.builtin id)) (ha : PA X (e :: es) t) (hn : x ≠ "__name__":=by decide) (hdb : (x == ("__debug__" : Str)) = false:=by decide)
  (he : starEach (e :: es) X.env = (false,eval e X.env) :: starEach es X.env:=by rfl) (hpl : (backTo pos (starEach es X.env)).any (·.1) = false:=by rfl) : PE X (.Call (.Name x p) (e :: es) [] pos) (tCB r t):=by
 intro pins s σ H Q I h
 refine wpAny_Call_Name_kw (q8c I hg hm hv ?_ hn hdb)
 exact PyProof.Rows.callWith_builtin1 (thn (ha pos pins s σ H _ I h) fun us s1 ⟨vs,H1,I1,r1,q1⟩ => hc pins s1 σ H1 vs us Q I1 r1 q1) he hpl
theorem k2g (hc : q6s X (.type T) r) (hg : Gl X x) (hm : X.mg x = none) (hv : bootBuiltins x = some (.type T)) (ha : PA X (e :: es) t) (hn : x ≠ "__name__":=by decide) (hdb : (x == ("__debug__" : Str)) = false:=by decide)
  (he : starEach (e :: es) X.env = (false,eval e X.env) :: starEach es X.env:=by rfl) (hpl : (backTo pos (starEach es X.env)).any (·.1) = false:=by rfl) : PE X (.Call (.Name x p) (e :: es) [] pos) (tCB r t):=by
 intro pins s σ H Q I h
 refine wpAny_Call_Name_kw (q8c I hg hm hv ?_ hn hdb)
 exact PyProof.Rows.callWith_type1 (thn (ha pos pins s σ H _ I h) fun us s1 ⟨vs,H1,I1,r1,q1⟩ => hc pins s1 σ H1 vs us Q I1 r1 q1) he hpl
end
end L2
namespace HT
open PySem PyProof.Rows
section
variable {prog : Program} {w : World} {A : Around} {E : Value -> Shared -> Prop} {s : Shared}
theorem cat_tup {t b : Addr} {vs ws : List Value} {Q : Value -> Shared -> Prop} (ht : IsTup s.heap t vs.toArray) (hb : IsTup s.heap b ws.toArray) (hv : vs ≠ [])
  (h1 : ws = [] -> Q (.ref t) s) (h2 : ws ≠ [] -> Q (.ref s.heap.objs.size) { s with heap:=s.heap.push { cls:=.type "tuple",data:=.seq (vs ++ ws).toArray } })
  (hsz : vs.length + ws.length <= sizeLine) : wpAny (model prog w) A (binaryOp .Add (.ref t) (.ref b)) Q E s:=by
 obtain ⟨⟨cls,dd,data,sl⟩,ho,hc,n,hd⟩:=id ht
 obtain ⟨⟨cls2,dd2,data2,sl2⟩,ho2,hc2,n2,hd2⟩:=id hb
 simp only at hc hd hc2 hd2
 subst hc hd hc2 hd2
 have e : vs.toArray ++ ws.toArray = (vs ++ ws).toArray:=by simp
 by_cases hw : ws = []
 ·exact concat_meets ⟨_,ho,rfl⟩ ⟨_,ho2,rfl⟩ noFill_tuple_add seq_tuple_add PySem.F.slot_tuple_add PySem.F.entry_tuple_add (PySem.F.args_tuple_add_2 _ _)
   (tuple_addW1 t b vs.toArray ws.toArray n n2 dd dd2 sl sl2 (by simpa using hv) (by simp [hw])) ⟨ho,ho2,h1 hw⟩
 ·refine concat_meets ⟨_,ho,rfl⟩ ⟨_,ho2,rfl⟩ noFill_tuple_add seq_tuple_add PySem.F.slot_tuple_add PySem.F.entry_tuple_add (PySem.F.args_tuple_add_2 _ _)
   (tuple_addW2 t b vs.toArray ws.toArray n n2 dd dd2 sl sl2 (by simpa using hv) (by simpa using hw) (by rw [List.size_toArray,List.size_toArray]; exact hsz)) ⟨ho,ho2,?_⟩
  rw [e]
  exact h2 hw
def sIx (n d : Nat) : Option Int -> Nat
 | none => d
 | some v => if v < 0 then (v + (n : Int)).toNat else min v.toNat n
theorem sIx_none (n d : Nat) : sIx n d none = d:=rfl
theorem sIx_nat (n d k : Nat) : sIx n d (some (k : Int)) = min k n:=by
 show (if (k : Int) < 0 then ((k : Int) + (n : Int)).toNat else min (k : Int).toNat n) = min k n
 rw [if_neg (by omega),Int.toNat_natCast]
theorem j8t (n d : Nat) (hd : d <= n) (o : Option Int) : sIx n d o <= n:=by
 cases o with
 | none => exact hd
 | some v =>
  show (if v < 0 then (v + (n : Int)).toNat else min v.toNat n) <= n
  by_cases hv : v < 0
  ·rw [if_pos hv]; omega
  ·rw [if_neg hv]; exact Nat.min_le_right _ _
theorem k1i (v : Int) (n d : Nat) : (if v < 0 then max (v + (n : Int)) 0 else min v (n : Int)) = ((sIx n d (some v) : Nat) : Int):=by
 show (if v < 0 then max (v + (n : Int)) 0 else min v (n : Int)) = (((if v < 0 then (v + (n : Int)).toNat else min v.toNat n) : Nat) : Int)
 by_cases hv : v < 0
 ·simp only [if_pos hv]; omega
 ·simp only [if_neg hv]; omega
theorem z9y (lo hi : Option Int) (n : Nat) : Builtin.Slice.sliceAdjust lo hi 1 (n : Int) = (((sIx n 0 lo : Nat) : Int),((sIx n n hi : Nat) : Int)):=by
 have h1 : ¬ ((1 : Int) < 0):=by omega
 unfold Builtin.Slice.sliceAdjust
 simp only [h1,if_false]
 refine Prod.ext ?_ ?_
 ·cases lo with
  | none => rfl
  | some v => exact k1i v n 0
 ·cases hi with
  | none => rfl
  | some v => exact k1i v n n
theorem z9n (i j : Nat) : Builtin.Slice.slicePlaces (i : Int) (j : Int) 1 = j - i:=by
 unfold Builtin.Slice.slicePlaces
 have h1 : (1 : Int) > 0:=by omega
 simp only [h1,if_true,Int.ediv_one]
 split <;> omega
theorem z1u {v : Value} {o : Option Int} {Q : Option Int -> Shared -> Prop} (p : IsPart v o) (h : Q o s) : wpAny (model prog w) A (Builtin.Slice.slicePartIndex v) Q E s:=by
 cases p with
 | none => exact slicePart_none h
 | int i t => exact slicePart_int h
theorem q9f {sl : Addr} {vl vu : Value} {lo hi : Option Int} {n : Nat} {Q : Int × Int × Nat -> Shared -> Prop} (hs : s.heap.IsSliceOf sl vl vu .none) (pl : IsPart vl lo) (pu : IsPart vu hi)
  (h : Q (((sIx n 0 lo : Nat) : Int),1,sIx n n hi - sIx n 0 lo) s) : wpAny (model prog w) A (Builtin.Slice.sliceApplied (.ref sl) (pure (n : Int))) Q E s:=by
 obtain ⟨os,hos,hcs,hds⟩:=id hs
 unfold Builtin.Slice.sliceApplied Builtin.Slice.sliceFields
 refine wpAny_bind (wpAny_bind (wpAny_field hos hds (x:=vl) rfl (wpAny_bind (wpAny_field hos hds (x:=vu) rfl (wpAny_bind (wpAny_field hos hds (x:=.none) rfl (wpAny_pure ?_)))))))
 refine wpAny_bind (slicePart_none ?_)
 show wpAny _ _ (if ((1 : Int) == 0) = true then _ else _) _ _ s
 rw [if_neg (by decide)]
 refine wpAny_bind (z1u pl (wpAny_bind (z1u pu (wpAny_bind (wpAny_pure ?_)))))
 show wpAny _ _ (match Builtin.Slice.sliceAdjust lo hi 1 (n : Int) with | (lo,hi) => pure (lo,(1 : Int),Builtin.Slice.slicePlaces lo hi 1)) _ _ s
 rw [z9y lo hi n]
 show wpAny _ _ (pure (((sIx n 0 lo : Nat) : Int),(1 : Int),Builtin.Slice.slicePlaces ((sIx n 0 lo : Nat) : Int) ((sIx n n hi : Nat) : Int) 1)) _ _ s
 rw [z9n]
 exact wpAny_pure h
theorem k8g (xs : Array Value) (i k : Nat) : ((List.range k).filterMap fun (m : Nat) => xs[((i : Int) + (m : Int) * 1).toNat]?).toArray = ((xs.toList.drop i).take k).toArray:=by
 have e : (fun (m : Nat) => xs[((i : Int) + (m : Int) * 1).toNat]?) = fun m => xs[i + m]?:=by
  funext m
  have : ((i : Int) + (m : Int) * 1).toNat = i + m:=by omega
  rw [this]
 rw [e]
 have:=pick_run xs i k
 rw [List.filterMap_map] at this
 have e2 : ((fun x => xs[x]?) ∘ fun x => i + x) = fun m => xs[i + m]?:=rfl
 rw [e2] at this
 rw [this]
theorem getItem_tuple_cut {t sl : Addr} {items : Array Value} {vl vu : Value} {lo hi : Option Int} {Q : Value -> Shared -> Prop} (ht : IsTup s.heap t items) (hs : s.heap.IsSliceOf sl vl vu .none) (pl : IsPart vl lo) (pu : IsPart vu hi)
  (hw : ¬ (sIx items.size 0 lo = 0 /\ sIx items.size items.size hi = items.size))
  (h : Q (.ref s.heap.objs.size) { s with heap:=s.heap.push { cls:=.type "tuple",data:=.seq ((items.toList.drop (sIx items.size 0 lo)).take (sIx items.size items.size hi - sIx items.size 0 lo)).toArray } })
  (hsz : items.size <= sizeLine) : wpAny (model prog w) A (getItem (.ref t) (.ref sl)) Q E s:=by
 have htake : sizeOk (.seq ((items.toList.drop (sIx items.size 0 lo)).take (sIx items.size items.size hi - sIx items.size 0 lo)).toArray):=by
  show ((items.toList.drop (sIx items.size 0 lo)).take (sIx items.size items.size hi - sIx items.size 0 lo)).toArray.size <= sizeLine
  rw [List.size_toArray,List.length_take,List.length_drop,Array.length_toList]
  omega
 have hj : sIx items.size items.size hi <= items.size:=j8t _ _ (Nat.le_refl _) hi
 obtain ⟨os,hos,hcs,hds⟩:=id hs
 have hTs : s.TypeIs (.ref sl) "slice":=⟨os,hos,hcs⟩
 unfold getItem
 try with_reducible refine wpAny_holding ?_
 first | refine wpAny_bind (wpAny_pure ?_) | skip
 refine wpAny_bind (wpAny_sequenceKey ht.typeIs (by decide) ?_)
 refine wpAny_bind (wpAny_callSpecial?_slot (name:=Str.ofString "__getitem__") ht.typeIs PyProof.Rows.slot_tuple_getitem
  (wpAny_call_entry PyProof.Rows.slot_tuple_getitem ht.typeIs entry_tuple_getitem ?_ (args_tuple_getitem _ _)))
 show wpAny _ _ (Builtin.Tuple.tupleItemsOf (.ref t) >>= _) _ _ s
 refine wpAny_bind (tupleItemsOf_ ht ?_)
 refine wpAny_bind (wpAny_typeOf hTs ?_)
 rw [if_pos (by decide)]
 refine wpAny_bind (q9f hs pl pu ?_)
 have hno : ¬ ((((sIx items.size 0 lo : Nat) : Int) == 0 && (1 : Int) == 1 && (sIx items.size items.size hi - sIx items.size 0 lo) == items.size) = true):=by
  intro q
  rw [Bool.and_eq_true,Bool.and_eq_true] at q
  have q1 : ((sIx items.size 0 lo : Nat) : Int) = 0:=eq_of_beq q.1.1
  have q2 : sIx items.size items.size hi - sIx items.size 0 lo = items.size:=eq_of_beq q.2
  exact hw ⟨by omega,by omega⟩
 show wpAny _ _ (if (((sIx items.size 0 lo : Nat) : Int) == 0 && (1 : Int) == 1 && (sIx items.size items.size hi - sIx items.size 0 lo) == items.size) = true then _ else _) _ _ s
 rw [if_neg hno,k8g]
 first
  | exact wpAny_bind (m:=Builtin.Tuple.tupleExact _) (wpAny_newObj_type (wpAny_pure ⟨_,rfl,wpAny_pure h⟩) htake)
  | exact wpAny_bind (m:=Builtin.Tuple.tupleExact _) (wpAny_newObj_type (wpAny_bind (wpAny_pure (wpAny_pure ⟨_,rfl,wpAny_pure h⟩))) htake)
  | exact wpAny_bind (wpAny_bind (m:=Builtin.Tuple.tupleExact _) (wpAny_newObj_type (wpAny_pure (wpAny_pure ⟨_,rfl,wpAny_pure h⟩)) htake))
  | exact wpAny_bind (wpAny_bind (m:=Builtin.Tuple.tupleExact _) (wpAny_newObj_type (wpAny_pure ⟨_,rfl,wpAny_pure h⟩) htake))
end
end HT
namespace L2
open PySem PySem.Spec PyProof.Rows
abbrev TO:=St -> Hp -> (Option Int -> Hp -> Prop) -> Prop
def PO (X : Cx) (e : Option Expr) (t : TO) : Prop :=
 ∀ (pins : List (Addr × Obj)) (s : Shared) (σ : St) (H : Hp) (Q : Option Int -> Hp -> Prop),Inv X pins σ H s -> t σ H Q →
  wpAny (model X.prog X.w) X.A (evalPart e X.env) (fun u s' => ∃ o H',Inv X pins σ H' s' /\ IsPart u o /\ Q o H') X.xe s
def j2d : TO:=fun _ H Q => Q none H
def w2t (t : TE) : TO:=fun σ H Q => t σ H fun x H1 => ∃ i,x = .int i /\ Q (some i) H1
section
variable {X : Cx} {e : Expr} {te : TE} {lo hi : Option Expr} {tl th : TO} {pos p2 : Pos}
theorem j2s : PO X none j2d:=by
 intro pins s σ H Q I h
 rw [evalPart_none]
 exact wpAny_pure ⟨none,H,I,.none,h⟩
theorem j1f (h : PE X e te) : PO X (some e) (w2t te):=by
 intro pins s σ H Q I hw
 rw [evalPart_some]
 refine thn (h pins s σ H _ I hw) fun u s1 ⟨x,H1,I1,r1,q1⟩ => ?_
 obtain ⟨i,rfl,q⟩:=q1
 obtain ⟨t,rfl⟩:=r1
 exact ⟨some i,H1,I1,.int i t,q⟩
def SlR (X : Cx) (r : V -> Option Int -> Option Int -> Hp -> VK -> Prop) : Prop :=
 ∀ (pins : List (Addr × Obj)) (s : Shared) (σ : St) (H : Hp) (x : V) (v vl vu : Value) (lo hi : Option Int) (sl : Addr) (Q : VK),Inv X pins σ H s -> RelV x v -> s.heap.IsSliceOf sl vl vu .none -> IsPart vl lo -> IsPart vu hi -> r x lo hi H Q →
  ∃ T id,typeLookup (.type T) "__getitem__" = pure (some (.builtin id)) /\ s.TypeIs v T /\ wpAny (model X.prog X.w) X.A (getItem v (.ref sl)) (EP X pins σ Q) X.xe s
theorem SlR.or {r r' : V -> Option Int -> Option Int -> Hp -> VK -> Prop} (h : SlR X r) (h' : SlR X r') : SlR X (fun x lo hi H Q => r x lo hi H Q \/ r' x lo hi H Q):=by
 intro pins s σ H x v vl vu lo hi sl Q I rx hs pl pu q
 rcases q with q | q
 ·exact h pins s σ H x v vl vu lo hi sl Q I rx hs pl pu q
 ·exact h' pins s σ H x v vl vu lo hi sl Q I rx hs pl pu q
def tSl (r : V -> Option Int -> Option Int -> Hp -> VK -> Prop) (te : TE) (tl th : TO) : TE:=fun σ H Q => te σ H fun x H1 => tl σ H1 fun l H2 => th σ H2 fun u H3 => r x l u H3 Q
theorem k5c {r : V -> Option Int -> Option Int -> Hp -> VK -> Prop} (hr : SlR X r) (he : PE X e te) (hl : PO X lo tl) (hu : PO X hi th) : PE X (.Subscript e (.Slice lo hi none p2) pos) (tSl r te tl th):=by
 intro pins s σ H Q I h
 refine Subscript_ (thn (he pins s σ H _ I h) fun v s1 ⟨x,H1,I1,r1,q1⟩ => ?_)
 refine wpAny_Slice (thn (hl pins s1 σ H1 _ I1 q1) fun vl s2 ⟨l,H2,I2,pl,q2⟩ => thn (hu pins s2 σ H2 _ I2 q2) fun vu s3 ⟨u,H3,I3,pu,q3⟩ => ?_)
 rw [evalPart_none]
 refine wpAny_pure ?_
 have I4 : Inv X pins σ H3 { s3 with heap:=s3.heap.push { cls:=.type "slice",data:=.fields #[vl,vu,.none] } }:=I3.kept (t':=s3.toks) fun b ob q => Heap.get?_push_of_some _ q
 obtain ⟨T,id,hT,ht,hg⟩:=hr pins { s3 with heap:=s3.heap.push { cls:=.type "slice",data:=.fields #[vl,vu,.none] } } σ H3 x v vl vu l u s3.heap.objs.size Q I4 r1 (Heap.IsSliceOf.new ..) pl pu q3
 show wpAny (model X.prog X.w) X.A (subscriptTail e (.Slice lo hi none p2) v (.ref s3.heap.objs.size)) (EP X pins σ Q) X.xe { s3 with heap:=s3.heap.push { cls:=.type "slice",data:=.fields #[vl,vu,.none] } }
 exact tail_any (ops:=[.ref s3.heap.objs.size,v]) ht hT hg (by with_unfolding_all rfl)
def k9w (xs : List V) (lo hi : Option Int) : List V:=(xs.drop (HT.sIx xs.length 0 lo)).take (HT.sIx xs.length xs.length hi - HT.sIx xs.length 0 lo)
theorem q9t (xs : List V) (lo hi : Option Int) : (k9w xs lo hi).length <= xs.length:=by
 unfold k9w
 rw [List.length_take,List.length_drop]
 omega
def w4y (K : PySem.W.Frag) : V -> Option Int -> Option Int -> Hp -> VK -> Prop:=fun x lo hi H Q => ∃ a xs,x = .ref a /\ SqT K H a xs ∧
 ¬ (HT.sIx xs.length 0 lo = 0 /\ HT.sIx xs.length xs.length hi = xs.length) /\ ∀ p,H p = none -> Q (.ref p) (upd H p (.tup (k9w xs lo hi)))
theorem j5e : SlR X (w4y X.K):=by
 intro pins s σ H x v vl vu lo hi sl Q I rx hs pl pu h
 obtain ⟨a,xs,rfl,hx,hw,q⟩:=h
 cases rx
 obtain ⟨its,r,ht,hz⟩:=I.tuple hx
 have hlen : its.toArray.size = xs.length:=by rw [List.size_toArray]; exact r.length.symm
 refine ⟨"tuple",_,PyProof.Rows.slot_tuple_getitem.lookup,ht.typeIs,?_⟩
 refine HT.getItem_tuple_cut ht hs pl pu (by rw [hlen]; exact hw) ?_ (by rw [hlen]; exact hz)
 rw [hlen]
 refine ⟨.ref s.heap.objs.size,_,I.laid (t':=s.toks) (o:=.tup (k9w xs lo hi)) (fun b ob q => Heap.get?_push_of_some _ q) (Nat.le_refl _) ?_,rfl,q _ (I.hok.fresh (Nat.le_refl _))⟩
 exact ⟨Nat.le_trans (q9t xs lo hi) hz,_,(r.drop (HT.sIx xs.length 0 lo)).take (HT.sIx xs.length xs.length hi - HT.sIx xs.length 0 lo),IsTup.new _ _⟩
def w1l (K : PySem.W.Frag) : R2:=fun x y H Q => ∃ a b xs ys,x = .ref a /\ y = .ref b /\ SqT K H a xs /\ SqT K H b ys /\ xs ≠ [] /\ xs.length + ys.length <= sizeLine ∧
 (ys = [] -> Q (.ref a) H) /\ (ys ≠ [] -> ∀ p,H p = none -> Q (.ref p) (upd H p (.tup (xs ++ ys))))
theorem q3w.nil_iff {xs : List V} {us : List Value} (r : q3w xs us) : us = [] ↔ xs = []:=by
 cases r with
 | nil => simp
 | cons _ _ => simp
theorem j4h : OpR X (binaryOp .Add) (w1l X.K):=by
 intro pins s σ H x y v u Q I rx ry h
 obtain ⟨a,b,xs,ys,rfl,rfl,ha,hb,hx,hz,q1,q2⟩:=h
 cases rx
 cases ry
 obtain ⟨its,r1,p1,_⟩:=I.tuple ha
 obtain ⟨its2,r2,p2,_⟩:=I.tuple hb
 refine HT.cat_tup p1 p2 (fun z => hx (r1.nil_iff.mp z)) (fun z => ⟨.ref a,H,I,rfl,q1 (r2.nil_iff.mp z)⟩) (fun z => ?_) (by rw [<- r1.length,<- r2.length]; exact hz)
 refine ⟨.ref s.heap.objs.size,_,I.laid (t':=s.toks) (o:=.tup (xs ++ ys)) (fun b ob q => Heap.get?_push_of_some _ q) (Nat.le_refl _) ?_,rfl,q2 (fun w => z (r2.nil_iff.mpr w)) _ (I.hok.fresh (Nat.le_refl _))⟩
 exact ⟨by rw [List.length_append]; exact hz,_,r1.append r2,IsTup.new _ _⟩
end
end L2
namespace L2
open PySem PySem.Spec PyProof.Rows
def ixN (n : Nat) (i : Int) : Option Nat:=if 0 <= i then (if i < n then some i.toNat else none) else if -(n : Int) <= i then some (i + n).toNat else none
def atI {α : Type} (xs : List α) (i : Int) : Option α:=(ixN xs.length i).bind fun j => xs[j]?
theorem k3q {n : Nat} {i : Int} {j : Nat} (h : ixN n i = some j) : seqIndex? i n = some j /\ j < n /\ -(n : Int) <= i /\ i < n:=by
 unfold ixN at h
 by_cases h0 : 0 <= i
 ·rw [if_pos h0] at h
  by_cases h1 : i < n
  ·rw [if_pos h1] at h
   have e : i.toNat = j:=Option.some.inj h
   exact ⟨by rw [seqIndex_of h0 h1,e],by omega,by omega,h1⟩
  ·rw [if_neg h1] at h; cases h
 ·rw [if_neg h0] at h
  by_cases h1 : -(n : Int) <= i
  ·rw [if_pos h1] at h
   have e : (i + n).toNat = j:=Option.some.inj h
   exact ⟨by rw [seqIndex_neg (by omega) h1,e],by omega,h1,by omega⟩
  ·rw [if_neg h1] at h; cases h
theorem z6y {α : Type} {xs : List α} {i : Int} {v : α} (h : atI xs i = some v) : ∃ j,seqIndex? i xs.length = some j /\ xs[j]? = some v /\ j < xs.length /\ -(xs.length : Int) <= i /\ i < xs.length:=by
 unfold atI at h
 cases e : ixN xs.length i with
 | none => rw [e] at h; cases h
 | some j =>
  rw [e] at h
  obtain ⟨h1,h2,h3,h4⟩:=k3q e
  exact ⟨j,h1,h,h2,h3,h4⟩
theorem q3j {α : Type} {xs : List α} {j : Nat} {v : α} (h : xs[j]? = some v) : atI xs (j : Int) = some v:=by
 have hj : j < xs.length:=(List.getElem?_eq_some_iff.mp h).1
 have e : ixN xs.length (j : Int) = some j:=by
  unfold ixN
  rw [if_pos (by omega),if_pos (by omega)]; simp
 unfold atI; rw [e]; exact h
def z5w (b : Expr) : Prop:=∀ o i,subscripted b false o i = operate [o,i] (getItem o i)
def IxR (X : Cx) (r : R2) : Prop :=
 ∀ (value slice : Expr) (pins : List (Addr × Obj)) (s : Shared) (σ : St) (H : Hp) (x y : V) (v u : Value) (Q : VK),Inv X pins σ H s -> RelV x v -> RelV y u -> r x y H Q →
  subscripted slice false v u = operate [v,u] (getItem v u) -> wpAny (model X.prog X.w) X.A (subscriptTail value slice v u) (EP X pins σ Q) X.xe s
def MtR (X : Cx) (id : String) (r : V -> List V -> Hp -> VK -> Prop) : Prop :=
 ∀ (pins : List (Addr × Obj)) (s : Shared) (σ : St) (H : Hp) (x : V) (xs : List V) (v : Value) (us : List Value) (Q : VK),Inv X pins σ H s -> RelV x v -> q3w xs us -> r x xs H Q →
  wpAny (model X.prog X.w) X.A (call (.builtin id) (v :: us)) (EP X pins σ Q) X.xe s
section
variable {X : Cx} {a b : Expr} {ta tb : TE} {pos : Pos}
theorem IxR.or {r r' : R2} (h : IxR X r) (h' : IxR X r') : IxR X (fun x y H Q => r x y H Q \/ r' x y H Q):=by
 intro value slice pins s σ H x y v u Q I rx ry q hs
 rcases q with q | q
 ·exact h value slice pins s σ H x y v u Q I rx ry q hs
 ·exact h' value slice pins s σ H x y v u Q I rx ry q hs
theorem j7w {r : R2} (hr : IxR X r) (ha : PE X a ta) (hb : PE X b tb) (hs : z5w b) : PE X (.Subscript a b pos) (tOp r ta tb):=by
 intro pins s σ H Q I h
 exact Subscript_ (w2w ha hb I h fun v u s2 x y H2 I2 rx ry q => hr a b pins s2 σ H2 x y v u Q I2 rx ry q (hs _ _))
def w3k (K : PySem.W.Frag) : R2:=fun x y H Q => ∃ p xs i v,x = .ref p /\ y = .int i /\ SqL K H p xs /\ atI xs i = some v /\ Q v H
def w4d (K : PySem.W.Frag) : R2:=fun x y H Q => ∃ p xs i v,x = .ref p /\ y = .int i /\ SqT K H p xs /\ atI xs i = some v /\ Q v H
def w3x : R2:=fun x y H Q => ∃ z i c,x = .str z /\ y = .int i /\ z.length <= sizeLine /\ atI z.cps.toList i = some c /\ Q (.str ⟨#[c]⟩) H
theorem j3b : IxR X (w3k X.K):=by
 intro value slice pins s σ H x y v u Q I rx ry h hs
 obtain ⟨p,xs,i,z,rfl,rfl,hq,he,q⟩:=h
 cases rx
 obtain ⟨t,rfl⟩:=ry
 obtain ⟨its,r,pl,hz⟩:=I.list hq
 obtain ⟨j,h1,h2,h3,h4,h5⟩:=z6y he
 obtain ⟨w,ew,rw'⟩:=r.get h2
 have hl:=r.length
 have hn:=z5i
 have fin : EP X pins σ Q w s:=⟨z,H,I,rw',q⟩
 by_cases h0 : 0 <= i
 ·have hj : i.toNat = j:=by
   rw [seqIndex_of h0 h5] at h1
   exact Option.some.inj h1
  exact item_listR pl.isList h0 (by omega) (by rw [hj]; simpa using ew) fin hs
 ·have hj : (i + (its.toArray.size : Int)).toNat = j:=by
   rw [seqIndex_neg (by omega) h4] at h1
   rw [List.size_toArray,<- hl]
   exact Option.some.inj h1
  exact subscriptTail_builtinR (x:=w) pl.isList.typeIs slot_list_getitem.lookup
   (wpAny_getItem_list_neg (Q:=fun r s' => r = w /\ EP X pins σ Q r s') pl.isList (by omega) (by rw [List.size_toArray] <;> omega) (by omega) (by rw [hj]; simpa using ew) ⟨rfl,fin⟩) hs
theorem j9h : IxR X (w4d X.K):=by
 intro value slice pins s σ H x y v u Q I rx ry h hs
 obtain ⟨p,xs,i,z,rfl,rfl,hq,he,q⟩:=h
 cases rx
 obtain ⟨t,rfl⟩:=ry
 obtain ⟨its,r,pl,hz⟩:=I.tuple hq
 obtain ⟨j,h1,h2,h3,h4,h5⟩:=z6y he
 obtain ⟨w,ew,rw'⟩:=r.get h2
 have hl:=r.length
 have hn:=z5i
 have fin : EP X pins σ Q w s:=⟨z,H,I,rw',q⟩
 exact subscriptTail_builtinR (x:=w) pl.typeIs slot_tuple_getitem.lookup
  (getItem_tuple (j:=j) (Q:=fun r s' => r = w /\ EP X pins σ Q r s') pl (by omega) (by omega) (by rw [List.size_toArray,<- hl]; exact h1) (by simpa using ew) ⟨rfl,fin⟩) hs
theorem j5i : IxR X w3x:=by
 intro value slice pins s σ H x y v u Q I rx ry h hs
 obtain ⟨z,i,c,rfl,rfl,hz,he,q⟩:=h
 obtain ⟨t,rfl⟩:=rx
 obtain ⟨t',rfl⟩:=ry
 obtain ⟨j,h1,h2,h3,h4,h5⟩:=z6y he
 have hl : z.cps.toList.length = z.length:=by simp [Str.length]
 rw [hl] at h1 h4 h5
 have hn:=z5i
 exact tail_any (typeIs_str s z t) slot_str_getitem.lookup (getItem_str (c:=c) (by
  have e1 : decide (i < -(2 ^ 63 : Int)) = false:=decide_eq_false (by omega)
  have e2 : decide (i ≥ 2 ^ 63) = false:=decide_eq_false (by omega)
  rw [e1,e2,Bool.or_false]) (by rw [h1]; simpa using h2) ⟨.str ⟨#[c]⟩,H,I.tok _,⟨_,rfl⟩,q⟩) hs
def rIx (K : PySem.W.Frag) : R2:=fun x y H Q => w3k K x y H Q \/ w4d K x y H Q \/ w3x x y H Q
theorem j8l : IxR X (rIx X.K):=j3b.or (j9h.or j5i)
theorem z4f (lo hi : Option Int) (n : Nat) : (sliceBounds lo hi none n).1 = ((HT.sIx n 0 lo : Nat) : Int) /\ (sliceBounds lo hi none n).2.1 = ((HT.sIx n n hi : Nat) : Int) /\ (sliceBounds lo hi none n).2.2 = 1:=by
 refine ⟨?_,?_,rfl⟩
 ·cases lo with
  | none => simp [sliceBounds,HT.sIx]
  | some i =>
   simp only [sliceBounds,HT.sIx,Option.getD_none,show (1 : Int) > 0 by decide,if_true]
   by_cases h : i < 0
   ·simp only [h,if_true] <;> omega
   ·simp only [h,if_false] <;> omega
 ·cases hi with
  | none => simp [sliceBounds,HT.sIx]
  | some i =>
   simp only [sliceBounds,HT.sIx,Option.getD_none,show (1 : Int) > 0 by decide,if_true]
   by_cases h : i < 0
   ·simp only [h,if_true] <;> omega
   ·simp only [h,if_false] <;> omega
theorem z3i (its : List Value) (lo hi : Option Int) : slicePick its.toArray lo hi none = ((its.drop (HT.sIx its.length 0 lo)).take (HT.sIx its.length its.length hi - HT.sIx its.length 0 lo)).toArray:=by
 obtain ⟨h1,h2,h3⟩:=z4f lo hi its.toArray.size
 unfold slicePick
 rw [h1,h2,h3]
 simp only [sliceRange_one,pick_run,List.size_toArray] <;> rfl
def w4w (K : PySem.W.Frag) : V -> Option Int -> Option Int -> Hp -> VK -> Prop:=fun x lo hi H Q => ∃ a xs,x = .ref a /\ SqL K H a xs /\ ∀ p,H p = none -> Q (.ref p) (upd H p (.lst (k9w xs lo hi)))
theorem j1j : SlR X (w4w X.K):=by
 intro pins s σ H x v vl vu lo hi sl Q I rx hs pl pu h
 obtain ⟨a,xs,rfl,hx,q⟩:=h
 cases rx
 obtain ⟨its,r,ht,hz⟩:=I.list hx
 have hlen:=r.length
 refine ⟨"list",_,slot_list_getitem.lookup,ht.isList.typeIs,?_⟩
 refine wpAny_getItem_list_slice ht.isList hs pl pu .none (by simp) ?_ (by rw [List.size_toArray] <;> omega)
 rw [z3i,<- hlen]
 refine ⟨.ref s.heap.objs.size,_,I.laid (t':=s.toks) (o:=.lst (k9w xs lo hi)) (fun b ob q => Heap.get?_push_of_some _ q) (Nat.le_refl _) ?_,rfl,q _ (I.hok.fresh (Nat.le_refl _))⟩
 exact ⟨Nat.le_trans (q9t xs lo hi) hz,_,0,(r.drop (HT.sIx xs.length 0 lo)).take (HT.sIx xs.length xs.length hi - HT.sIx xs.length 0 lo),Heap.get?_push_size _ rfl⟩
def z0z : V -> Bool
 | .non => true
 | .bl _ => true
 | .int _ => true
 | .str _ => true
 | _ => false
def eqV : V -> V -> Bool
 | .non,.non => true
 | .bl a,.bl b => a == b
 | .bl a,.int b => (if a then 1 else 0) == b
 | .int a,.bl b => a == (if b then 1 else 0)
 | .int a,.int b => a == b
 | .str a,.str b => a == b
 | _,_ => false
theorem j8z {A : Around} {s : Shared} {y x : V} {u v : Value} (ry : RelV y u) (rx : RelV x v) (fy : z0z y = true) (fx : z0z x = true) : SeqAt.EqAt A s u v (eqV y x):=by
 cases y with
 | non =>
  cases ry
  cases x with
  | non => cases rx; exact SeqAt.EqAt.same _
  | bl b => cases rx; exact SeqAt.EqAt.none_bool b
  | int b => obtain ⟨t,rfl⟩:=rx; exact SeqAt.EqAt.none_int b t
  | str b => obtain ⟨t,rfl⟩:=rx; exact SeqAt.EqAt.none_str b t
  | _ => exact absurd (show false = true from fx) Bool.false_ne_true
 | bl a =>
  cases ry
  cases x with
  | non => cases rx; exact SeqAt.EqAt.bool_none a
  | bl b => cases rx; exact SeqAt.EqAt.bool_bool a b
  | int b => obtain ⟨t,rfl⟩:=rx; exact SeqAt.EqAt.bool_int a b t
  | str b => obtain ⟨t,rfl⟩:=rx; exact SeqAt.EqAt.bool_str a b t
  | _ => exact absurd (show false = true from fx) Bool.false_ne_true
 | int a =>
  obtain ⟨t',rfl⟩:=ry
  cases x with
  | non => cases rx; exact SeqAt.EqAt.int_none a t'
  | bl b => cases rx; exact SeqAt.EqAt.int_bool a t' b
  | int b => obtain ⟨t,rfl⟩:=rx; exact SeqAt.EqAt.int_int a t' b t
  | str b => obtain ⟨t,rfl⟩:=rx; exact SeqAt.EqAt.int_str a t' b t
  | _ => exact absurd (show false = true from fx) Bool.false_ne_true
 | str a =>
  obtain ⟨t',rfl⟩:=ry
  cases x with
  | non => cases rx; exact SeqAt.EqAt.str_none a t'
  | bl b => cases rx; exact SeqAt.EqAt.str_bool a t' b
  | int b => obtain ⟨t,rfl⟩:=rx; exact SeqAt.EqAt.str_int a t' b t
  | str b => obtain ⟨t,rfl⟩:=rx; exact SeqAt.EqAt.str_str a t' b t
  | _ => exact absurd (show false = true from fx) Bool.false_ne_true
 | _ => exact absurd (show false = true from fy) Bool.false_ne_true
def eqU (x : V) (u : Value) : Bool:=match u with
 | .none => eqV .non x
 | .bool b => eqV (.bl b) x
 | .int i _ => eqV (.int i) x
 | .str z _ => eqV (.str z) x
 | _ => false
theorem k9r {x y : V} {u : Value} (r : RelV y u) (f : z0z y = true) : eqU x u = eqV y x:=by
 cases y with
 | non => cases r; rfl
 | bl b => cases r; rfl
 | int i => obtain ⟨t,rfl⟩:=r; rfl
 | str z => obtain ⟨t,rfl⟩:=r; rfl
 | _ => exact absurd (show false = true from f) Bool.false_ne_true
theorem z6a {x : V} : ∀ {xs : List V} {us : List Value},q3w xs us -> xs.all z0z = true -> us.any (eqU x) = xs.any fun y => eqV y x
 | _,_,.nil,_ => rfl
 | y :: xs,u :: us,.cons r t,f => by
  rw [List.all_cons,Bool.and_eq_true] at f
  rw [List.any_cons,List.any_cons,k9r r f.1,z6a t f.2]
theorem z2i {A : Around} {s : Shared} {x : V} {v : Value} (rx : RelV x v) (fx : z0z x = true) : ∀ {xs : List V} {us : List Value},q3w xs us -> xs.all z0z = true -> ∀ u ∈ us,SeqAt.EqAt A s u v (eqU x u)
 | _,_,.nil,_ => fun u hu => by cases hu
 | y :: xs,u :: us,.cons r t,f => fun u' hu => by
  rw [List.all_cons,Bool.and_eq_true] at f
  rcases List.mem_cons.mp hu with rfl | hu
  ·rw [k9r r f.1]; exact j8z r rx f.1 fx
  ·exact z2i rx fx t f.2 u' hu
def inV (x : V) (xs : List V) : Bool:=xs.any fun y => eqV y x
def rIn (K : PySem.W.Frag) (neg : Bool) : R2:=fun x y H Q => ∃ p xs,y = .ref p /\ (SqL K H p xs \/ SqT K H p xs) /\ z0z x = true /\ xs.all z0z = true /\ Q (.bl (if neg then !inV x xs else inV x xs)) H
theorem k4m : OpR X (compareOp .In) (rIn X.K false):=by
 intro pins s σ H x y v u Q I rx ry h
 obtain ⟨p,xs,rfl,hq,fx,fs,q⟩:=h
 cases ry
 rcases hq with hq | hq
 ·obtain ⟨its,r,pl,hz⟩:=I.list hq
  refine SeqAt.in_listAt (eqU x) pl.isList (fun w hw => z2i rx fx r fs w (by simpa using hw)) ⟨.bl _,H,I,rfl,?_⟩
  rw [show its.toArray.any (eqU x) = its.any (eqU x) by simp,z6a r fs]
  exact q
 ·obtain ⟨its,r,pl,hz⟩:=I.tuple hq
  refine SeqAt.in_tupleAt (eqU x) pl (fun w hw => z2i rx fx r fs w (by simpa using hw)) ⟨.bl _,H,I,rfl,?_⟩
  rw [show its.toArray.any (eqU x) = its.any (eqU x) by simp,z6a r fs]
  exact q
theorem z3t : q6s X (.builtin "len") (fun xs H Q => ∃ p ys,xs = [.ref p] /\ (SqL X.K H p ys \/ SqT X.K H p ys) /\ Q (.int ys.length) H):=by
 intro pins s σ H xs us Q I r h
 obtain ⟨p,ys,rfl,hq,q⟩:=h
 obtain ⟨u,rfl,rx⟩:=vals1 r
 cases rx
 have hn:=z5i
 rcases hq with hq | hq
 ·obtain ⟨its,r',pl,hz⟩:=I.list hq
  have hlen:=r'.length
  exact Calls.call_len_list pl.isList (by simp only [List.size_toArray] <;> omega) ⟨.int ys.length,H,I.tok _,⟨s.toks + 1,by rw [List.size_toArray,hlen]⟩,q⟩
 ·obtain ⟨its,r',pl,hz⟩:=I.tuple hq
  have hlen:=r'.length
  exact len_tuple pl (by simp only [List.size_toArray] <;> omega) ⟨.int ys.length,H,I.tok _,⟨s.toks + 1,by rw [List.size_toArray,hlen]⟩,q⟩
theorem z4y : q6s X (.builtin "len") (fun xs H Q => ∃ z,xs = [.str z] /\ z.length <= sizeLine /\ Q (.int z.length) H):=by
 intro pins s σ H xs us Q I r h
 obtain ⟨z,rfl,hz,q⟩:=h
 obtain ⟨u,rfl,t,rfl⟩:=vals1 r
 have hn:=z5i
 exact len_str (by omega) ⟨.int z.length,H,I.tok _,⟨_,rfl⟩,q⟩
theorem q6s.or {f : Value} {r r' : List V -> Hp -> VK -> Prop} (h : q6s X f r) (h' : q6s X f r') : q6s X f (fun xs H Q => r xs H Q \/ r' xs H Q):=by
 intro pins s σ H xs us Q I rs q
 rcases q with q | q
 ·exact h pins s σ H xs us Q I rs q
 ·exact h' pins s σ H xs us Q I rs q
theorem z2l : q6s X (.type "tuple") (fun xs H Q => ∃ p ys,xs = [.ref p] /\ ((SqL X.K H p ys /\ ∀ l,H l = none -> Q (.ref l) (upd H l (.tup ys))) \/ (SqT X.K H p ys /\ Q (.ref p) H))):=by
 intro pins s σ H xs us Q I r h
 obtain ⟨p,ys,rfl,h⟩:=h
 obtain ⟨u,rfl,rx⟩:=vals1 r
 cases rx
 rcases h with ⟨hq,q⟩ | ⟨hq,q⟩
 ·obtain ⟨its,r',pl,hz⟩:=I.list hq
  have hlen:=r'.length
  refine call_tuple_list pl.isList (fun h' kp => ?_) (by simp only [List.size_toArray] <;> omega)
  have I1 : Inv X pins σ H { s with heap:=h' }:=I.kept (t':=s.toks) kp
  have I2 : Inv X pins σ (upd H h'.objs.size (.tup ys)) { s with heap:=h'.push { cls:=.type "tuple",data:=.seq its.toArray } } :=
   I1.laid (t':=s.toks) (fun b o e => Heap.get?_push_of_some _ e) (Nat.le_refl _) (show q5a X.prog X.w _ _ _ (.tup ys) from ⟨hz,its,r',IsTup.new _ _⟩)
  exact ⟨.ref h'.objs.size,_,I2,rfl,q _ (I1.hok.fresh (Nat.le_refl _))⟩
 ·obtain ⟨its,r',pl,hz⟩:=I.tuple hq
  exact call_tuple_same pl ⟨.ref p,H,I,rfl,q⟩
def tyV (K : PySem.W.Frag) (T : String) (x : V) (H : Hp) : Prop:=match x with
 | .str _ => T = "str"
 | .int _ => T = "int"
 | .ref p => (T = "list" /\ ∃ xs,SqL K H p xs) \/ (T = "tuple" /\ ∃ o,K.lookup p = some o /\ o.cls = .type "tuple" /\ o.dict = none) ∨
   (T = "dict" /\ ((∃ kvs,H p = some (.dK kvs)) \/ ∃ kvs,H p = some (.dT kvs))) \/ (T = "set" /\ ∃ S n,H p = some (.set S n))
 | _ => False
theorem k9q {pins : List (Addr × Obj)} {σ : St} {H : Hp} {s : Shared} {T : String} {x : V} {v : Value} (I : Inv X pins σ H s) (r : RelV x v) (ty : tyV X.K T x H) :
  s.TypeIs v T /\ ∀ a,v = .ref a -> ∃ ob,s.heap.get? a = some ob /\ ob.dict = none:=by
 cases x with
 | str z =>
  obtain ⟨t,rfl⟩:=r
  cases (show T = "str" from ty)
  exact ⟨typeIs_str s z t,fun _ e => nomatch e⟩
 | int i =>
  obtain ⟨t,rfl⟩:=r
  cases (show T = "int" from ty)
  exact ⟨typeIs_int s i t,fun _ e => nomatch e⟩
 | ref p =>
  cases r
  rcases ty with ⟨rfl,xs,hq⟩ | ⟨rfl,o,hk,hc,hd⟩ | ⟨rfl,hk⟩ | ⟨rfl,S,n,hk⟩
  ·obtain ⟨its,_,pl,_⟩:=I.list hq
   refine ⟨pl.isList.typeIs,fun a e => ?_⟩
   cases e
   obtain ⟨o,n,e,c,hd,_⟩:=pl
   exact ⟨o,e,hd⟩
  ·refine ⟨⟨o,I.kIn p o hk,hc⟩,fun a e => ?_⟩
   cases e
   exact ⟨o,I.kIn _ o hk,hd⟩
  ·have z : ∃ o,s.heap.get? p = some o /\ o.ExactDict:=by
    rcases hk with ⟨kvs,hk⟩ | ⟨kvs,hk⟩
    ·obtain ⟨_,_,_,_,o,_,_,e,ex,_⟩:=I.hok p _ hk
     exact ⟨o,e,ex⟩
    ·obtain ⟨_,_,_,_,o,_,_,e,ex,_⟩:=I.hok p _ hk
     exact ⟨o,e,ex⟩
   obtain ⟨o,e,ex⟩:=z
   refine ⟨⟨o,e,ex.1⟩,fun a e2 => ?_⟩
   cases e2
   exact ⟨o,e,ex.2.1⟩
  ·obtain ⟨o,_,_,_,e,ex,_⟩:=I.hok p _ hk
   refine ⟨⟨o,e,ex.1⟩,fun a e2 => ?_⟩
   cases e2
   exact ⟨o,e,ex.2.1⟩
 | _ => exact False.elim ty
def w4m (K : PySem.W.Frag) (T : String) (r : V -> List V -> Hp -> VK -> Prop) (to : TE) : TE:=fun σ H Q => to σ H fun x H1 => tyV K T x H1 /\ r x [] H1 Q
def tBM (K : PySem.W.Frag) (T : String) (r : V -> List V -> Hp -> VK -> Prop) (to : TE) (t : TA) : TE:=fun σ H Q => to σ H fun x H1 => tyV K T x H1 /\ t σ H1 fun xs H2 => r x xs H2 Q
variable {o e : Expr} {es : List Expr} {to : TE} {t : TA} {name : Str} {apos cpos : Pos} {T id : String} {r : V -> List V -> Hp -> VK -> Prop}
theorem j6p (pa : PlainAttrs T) (slot : Slot T name id) (hty : typeOf (.builtin id) = pure (.type "method_descriptor")) (hm : MtR X id r) (ho : PE X o to)
  (hbase : attributeBase o name X.env (eval o X.env) = eval o X.env:=by rfl) (hline : (apos.endLine == cpos.line) = true:=by rfl) : PE X (.Call (.Attribute o name apos) [] [] cpos) (w4m X.K T r to):=by
 intro pins s σ H Q I h
 refine wpAny_Call_method0_late hbase hline (thn (ho pins s σ H _ I h) fun v s1 ⟨x,H1,I1,r1,ty,q1⟩ => ?_)
 obtain ⟨h1,h2⟩:=k9q I1 r1 ty
 exact ⟨T,id,pa,slot,hty,h1,h2,Calls.callWith_builtin rfl (PySem.evalArgs_none (hm pins s1 σ H1 x [] v [] Q I1 r1 .nil q1))⟩
theorem j3v (pa : PlainAttrs T) (slot : Slot T name id) (hty : typeOf (.builtin id) = pure (.type "method_descriptor")) (hm : MtR X id r) (ho : PE X o to) (ha : PA X (e :: es) t)
  (hbase : attributeBase o name X.env (eval o X.env) = eval o X.env:=by rfl)
  (hfew : ((backTo cpos (starEach (e :: es) X.env)).all (fun x => !x.1) && (backToKw cpos (keywordEach [] X.env)).all (fun x => x.1.isSome)
   && decide ((e :: es).length + ([] : List Keyword).length + (if ([] : List Keyword).isEmpty then 0 else 1) < 30)) = true:=by rfl)
  (hline : (apos.endLine == cpos.line) = true:=by rfl) (hs : starEach (e :: es) X.env = (false,eval e X.env) :: starEach es X.env:=by rfl) (hplain : (backTo cpos (starEach es X.env)).any (·.1) = false:=by rfl) :
  PE X (.Call (.Attribute o name apos) (e :: es) [] cpos) (tBM X.K T r to t):=by
 intro pins s σ H Q I h
 refine wpAny_Call_method_late hbase hfew hline rfl (thn (ho pins s σ H _ I h) fun v s1 ⟨x,H1,I1,r1,ty,q1⟩ => ?_)
 obtain ⟨h1,h2⟩:=k9q I1 r1 ty
 refine ⟨T,id,pa,slot,hty,h1,h2,?_⟩
 have hA:=ha cpos pins s1 σ H1 _ I1 q1
 rw [hs] at hA ⊢
 refine Calls.callWith_builtin (by show (false || (backTo cpos (starEach es X.env)).any (·.1)) = false; rw [hplain] <;> rfl) (Calls.evalArgs_plain ?_)
 exact thn hA fun us s2 ⟨vs,H2,I2,r2,q2⟩ => hm pins s2 σ H2 x vs v us Q I2 r1 r2 q2
end
end L2
namespace L2
open PySem PySem.Spec PyProof.Rows
def MtM (X : Cx) (id : String) (r : V -> List V -> Hp -> VK -> Prop) : Prop :=
 ∀ (pins : List (Addr × Obj)) (s : Shared) (σ : St) (H : Hp) (x : V) (xs : List V) (v : Value) (us : List Value) (Q : VK),Inv X pins σ H s -> RelV x v -> q3w xs us -> r x xs H Q →
  wpAny (model X.prog X.w) X.A (call (.builtin id) (v :: us)) (EP X pins σ Q) X.xe s
theorem q3w.one : ∀ {x : V} {us : List Value},q3w [x] us -> ∃ u,us = [u] /\ RelV x u
 | _,_,.cons r .nil => ⟨_,rfl,r⟩
theorem q3w.eraseIdx : ∀ {xs : List V} {us : List Value} (i : Nat),q3w xs us -> q3w (xs.eraseIdx i) (us.eraseIdx i)
 | _,_,_,.nil => .nil
 | _,_,0,.cons _ t => t
 | _,_,i + 1,.cons r t => .cons r (q3w.eraseIdx i t)
theorem q3w.rep {xs : List V} {us : List Value} (h : q3w xs us) : ∀ k : Nat,q3w (List.replicate k xs).flatten (List.replicate k us).flatten
 | 0 => .nil
 | k + 1 => by
  rw [List.replicate_succ,List.replicate_succ,List.flatten_cons,List.flatten_cons]
  exact q3w.append h (q3w.rep h k)
theorem z3x {α : Type} : ∀ (l : List α) (i : Nat),(l.eraseIdx i).length <= l.length
 | [],_ => Nat.le_refl _
 | _ :: _,0 => Nat.le_succ _
 | _ :: r,i + 1 => Nat.succ_le_succ (z3x r i)
theorem foldl_rep (its : List Value) : ∀ (k : Nat) (acc : List Value),
  List.foldl (fun x1 x2 => x1 ++ x2) acc.toArray (List.replicate k its.toArray) = (acc ++ (List.replicate k its).flatten).toArray
 | 0,acc => by simp
 | k + 1,acc => by
  have e : acc.toArray ++ its.toArray = (acc ++ its).toArray:=by simp
  have e2 : (acc ++ its) ++ (List.replicate k its).flatten = acc ++ (List.replicate (k + 1) its).flatten:=by
   rw [List.replicate_succ,List.flatten_cons,List.append_assoc]
  rw [<- e2,<- foldl_rep its k (acc ++ its),<- e,List.replicate_succ,List.foldl_cons]
section
variable {X : Cx} {pins : List (Addr × Obj)} {σ : St} {H : Hp} {s : Shared} {l b : Addr} {xs ys zs : List V}
theorem Inv.lset {its its' : List Value} {n : Nat} {f : Array Value -> Array Value} {t' : Nat} (I : Inv X pins σ H s) (hH : H l = some (.lst xs))
  (e : s.heap.get? l = some { cls:=.type "list",data:=.seq its.toArray n }) (hf : f its.toArray = its'.toArray) (hv : q3w ys its') (hz : ys.length <= sizeLine) :
  Inv X pins σ (upd H l (.lst ys)) { s with heap:=s.heap.update l (Obj.mapSeq f),toks:=t' }:=by
 have q:=PySem.IsL.update e f
 rw [hf] at q
 refine I.write (x:=l) (e:=l) (by rw [hH]; exact trivial) (.inl rfl) (fun b' u hb hu => (Heap.get?_update_other s.heap (Obj.mapSeq f) (Ne.symm hb)).trans hu) ⟨_,q⟩ ?_
 exact ⟨hz,its',_,hv,q⟩
theorem Inv.lnew {its : List Value} {t' : Nat} (I : Inv X pins σ H s) (hv : q3w ys its) (hz : ys.length <= sizeLine) :
  Inv X pins σ (upd H s.heap.objs.size (.lst ys)) { s with heap:=s.heap.push { cls:=.type "list",data:=.seq its.toArray },toks:=t' } :=
 I.laid (fun _ _ q => Heap.get?_push_of_some _ q) (Nat.le_refl _) ⟨hz,its,0,hv,Heap.get?_push_size _ rfl⟩
theorem Inv.fresh (I : Inv X pins σ H s) : H s.heap.objs.size = none:=I.hok.fresh (Nat.le_refl _)
theorem Inv.lstM (I : Inv X pins σ H s) (hH : H l = some (.lst xs)) : xs.length <= sizeLine /\ ∃ (its : List Value) (n : Nat),q3w xs its /\ xs.length = its.length /\ s.heap.get? l = some { cls:=.type "list",data:=.seq its.toArray n }:=by
 obtain ⟨z,its,n,r,e⟩:=I.hok l _ hH
 exact ⟨z,its,n,r,r.length,e⟩
theorem k7t {n : Nat} (h : n <= sizeLine) : Builtin.List.listTooLong n = false:=by
 unfold Builtin.List.listTooLong
 exact decide_eq_false (by omega)
end
section
variable {X : Cx}
def j0s : V -> List V -> Hp -> VK -> Prop:=fun x vs H Q => ∃ l xs y,x = .ref l /\ vs = [y] /\ H l = some (.lst xs) /\ xs.length < sizeLine /\ Q .non (upd H l (.lst (xs ++ [y])))
theorem k4t : MtM X "list.append" j0s:=by
 intro pins s σ H x vs v us Q I rx rv h
 obtain ⟨l,xs,y,rfl,rfl,hH,hz,q⟩:=h
 cases rx
 obtain ⟨u,rfl,ru⟩:=rv.one
 obtain ⟨z,its,n,r,hl,e⟩:=I.lstM hH
 refine call_meets F.slot_list_append ⟨_,e,rfl⟩ F.entry_list_append (F.args_list_append_2 _ _) (PySem.list_append l its.toArray n u (by rw [List.size_toArray]; omega)) ⟨e,?_⟩
 refine ⟨.non,_,I.lset (its':=its ++ [u]) hH e (by simp) (r.append (.cons ru .nil)) ?_,rfl,q⟩
 rw [List.length_append,List.length_singleton]
 omega
def j4m : V -> List V -> Hp -> VK -> Prop:=fun x vs H Q => ∃ l b xs zs,x = .ref l /\ vs = [.ref b] /\ H l = some (.lst xs) /\ H b = some (.lst zs) /\ xs.length + zs.length <= sizeLine /\ Q .non (upd H l (.lst (xs ++ zs)))
theorem k4n : MtM X "list.extend" j4m:=by
 intro pins s σ H x vs v us Q I rx rv h
 obtain ⟨l,b,xs,zs,rfl,rfl,hH,hB,hz,q⟩:=h
 cases rx
 obtain ⟨u,rfl,ru⟩:=rv.one
 cases ru
 obtain ⟨z,its,n,r,hl,e⟩:=I.lstM hH
 obtain ⟨z2,its2,n2,r2,hl2,e2⟩:=I.lstM hB
 have hsz : its.toArray.size + its2.toArray.size <= sizeLine:=by rw [List.size_toArray,List.size_toArray]; omega
 have hlong : ¬ (!its.toArray.isEmpty && Builtin.List.listTooLong (its.toArray.size + its2.toArray.size)) = true:=by
  rw [k7t hsz,Bool.and_false]
  exact Bool.false_ne_true
 refine call_meets F.slot_list_extend ⟨_,e,rfl⟩ F.entry_list_extend (F.args_list_extend_2 _ _)
  (AutoSeq1.list_extend_list_list_0 l its.toArray n b its2.toArray n2 hlong (by rw [List.size_toArray]; omega) (by omega)) ⟨e,e2,?_⟩
 refine ⟨.non,_,I.lset (its':=its ++ its2) hH e (by simp) (r.append r2) ?_,rfl,q⟩
 rw [List.length_append]
 omega
def j7b : V -> List V -> Hp -> VK -> Prop:=fun x vs H Q => ∃ l xs i k y,x = .ref l /\ vs = [.int i] /\ H l = some (.lst xs) /\ -(2 ^ 63) <= i /\ i < 2 ^ 63 /\ seqIndex? i xs.length = some k /\ xs[k]? = some y /\ Q y (upd H l (.lst (xs.eraseIdx k)))
theorem k7a : MtM X "list.pop" j7b:=by
 intro pins s σ H x vs v us Q I rx rv h
 obtain ⟨l,xs,i,k,y,rfl,rfl,hH,h1,h2,hk,hy,q⟩:=h
 cases rx
 obtain ⟨u,rfl,ru⟩:=rv.one
 obtain ⟨t,rfl⟩:=ru
 obtain ⟨z,its,n,r,hl,e⟩:=I.lstM hH
 obtain ⟨w,hw,rw'⟩:=r.get hy
 refine call_meets F.slot_list_pop ⟨_,e,rfl⟩ F.entry_list_pop (F.args_list_pop_2 _ _)
  (MeetsSeq.list_pop_at l its.toArray n i t k w (fitsIndex_both h1 h2) (by rw [List.size_toArray,<- hl]; exact hk) (by rw [<- Array.getElem?_toList]; exact hw) (by rw [List.size_toArray]; omega)) ⟨e,?_⟩
 refine ⟨y,_,I.lset (its':=its.eraseIdx k) hH e ?_ (r.eraseIdx k) ?_,rw',q⟩
 ·show its.toArray.eraseIdxIfInBounds k = (its.eraseIdx k).toArray
  rw [List.eraseIdxIfInBounds_toArray]
 ·have:=z3x xs k
  omega
theorem j4c {α : Type} (xs : List α) (k : Nat) : (List.replicate k xs).flatten.length = k * xs.length:=by
 induction k with
 | zero => simp
 | succ k ih => rw [List.replicate_succ,List.flatten_cons,List.length_append,ih,Nat.succ_mul,Nat.add_comm]
end
end L2
namespace Att
open PySem PySem.W PySem.Calls PyProof.Rows
theorem q9o {P : Params} {h : Heap} : ∀ (ns : List Int) (vs : List Value),WellAll P h vs (ns.map WData.int) -> IntsAre vs ns:=by
 intro ns
 induction ns with
 | nil =>
  intro vs w
  rw [List.map_nil] at w
  cases w
  exact .nil
 | cons n ns ih =>
  intro vs w
  rw [List.map_cons] at w
  cases w with
  | cons a b =>
   cases a
   exact .cons _ _ (ih _ b)
theorem k4a {l : OpenLaw} {n : Nat} (hn : l.most = some n) {P : Params} {h : Heap} {args : List WData} {vals : List Value}
  (hpre : l.row.toRowW.claim.pre args = true) (hwl : WellAll P h vals args) :
  ∃ a vs ns,vals = [Value.ref a] /\ args = [WData.list (ns.map WData.int)] /\ h.get? a = some { cls:=.type "list",data:=.seq vs.toArray } /\ IntsAre vs ns /\ ns.length <= n:=by
 have hsh : WShape.hasAll [] args [.list .int] = true:=(pre_splitW hpre).1
 have hc : l.pre.holds [] { args:=args } = true:=(pre_splitW hpre).2
 obtain ⟨d,r,rfl,h1,h2⟩:=hasAllW_cons hsh
 obtain rfl:=hasAllW_nil h2
 obtain ⟨xs,rfl,h3⟩:=hasW_list h1
 obtain ⟨ns,rfl⟩:=items_int h3
 have hlen : ns.length <= n:=by
  unfold OpenLaw.pre at hc
  have h4 : (WTm.not (.lt (.lit (.int (n : Int))) (.len (.arg 0)))).holds [] { args:=[.list (ns.map .int)] } = true:=by
   have h4:=(holds_andW hc).1
   rw [hn] at h4
   exact h4
  have h5:=condW_of h4 (w_not (w_lt w_lit (w_len_list (w_arg rfl))))
  rw [List.length_map] at h5
  refine Nat.le_of_not_lt fun q => ?_
  have q' : (n : Int) < ((ns.length : Nat) : Int):=by omega
  first
   | (rw [decide_eq_true q'] at h5; exact absurd h5 (by decide))
   | (simp at h5; omega)
 cases hwl with
 | cons w1 w2 =>
  cases w2
  cases w1 with
  | list ho hall => exact ⟨_,_,ns,rfl,rfl,ho,q9o ns _ hall,hlen⟩
theorem k1j (l : OpenLaw) (args : List WData) : l.row.toRowW.claim.post args (.bool true) args = true :=
 postW_of (r:=l.row.toRowW) (X:=(true == true))
  (show WShape.has [] (.bool true) .bool = true by first | rfl | decide | simp [WShape.has,WShape.arms,WShape.armsAll])
  (show (WTm.eq .res (.lit (.bool true))).value [] { args:=args,res:=some (.bool true),after:=args } = some (.bool (true == true)) from w_eq_bool (w_res rfl) w_lit) rfl
theorem attach_call {l : OpenLaw} {n : Nat} {q : Program} {loose : List Str} {XP : (Str -> Option Value) -> Heap -> Prop} {YP : World -> Heap -> Prop} {d : DefRec}
  (hn : l.most = some n) (hdf : d.params.defaults = [])
  (call : ∀ (w : World) (s₀ s₁ : Shared) (mg mb : Str -> Option Value) (fa : Addr) (o : Obj) (pm cd doc : Value) (a : Addr) (vs : List Value) (ns : List Int),
   Ground q loose [] XP w s₀ mg mb s₁.heap -> YP w s₁.heap →
   s₁.heap.get? fa = some o -> o.data = .func (docDef d.name d.params d.body d.scope pm cd doc) -> s₁.heap.CodeRec cd d.name -> mg d.name = some (.ref fa) →
   s₁.heap.get? a = some { cls:=.type "list",data:=.seq vs.toArray } -> IntsAre vs ns -> ns.length <= n -> s₁.gens = #[] →
   codeAny (model l.prog w) callerA (.call (.ref fa) ⟨[.ref a],[]⟩) (fun r s' => r = .ok (.ret (.bool true)) /\ OldK s₁.heap s'.heap /\ s'.os = s₁.os /\ AllBare s'.gens) s₁) :
  WalkO q loose XP YP l.row.toRowW d [] (fun f vs => PySem.call f vs):=by
 intro w s₀ s₁ mg mb G Y fa o pm cd doc dV kV ho hd hcd hD hmg hg args vals as hpre hlay hrd hwl hlo
 obtain rfl : dV = .none:=Dflts.none hD hdf
 obtain rfl : kV = .none:=Dflts.noKw hD
 obtain ⟨a,vs,ns,rfl,rfl,hobj,hints,hlen⟩:=k4a hn hpre hwl
 refine enter_call (codeAny_mono (call w s₀ s₁ mg mb fa o pm cd doc a vs ns G Y ho (fd_plain hd) hcd hmg hobj hints hlen hg) fun r s' hq => ?_)
 obtain ⟨rfl,h2,h3,h4⟩:=hq
 exact ⟨.inl ⟨.bool true,.bool true,[],rfl,fun _ => rfl,.bool true,k1j l _,fun _ => ⟨List.Pairwise.nil,fun _ hm => (nomatch hm)⟩⟩,h2,h3,h4⟩
end Att
namespace L2
open PySem PySem.Spec PyProof.Rows
theorem z4v : ∀ {vs : List Value} {ns : List Int},IntsAre vs ns -> q3w (ns.map V.int) vs
 | _,_,.nil => .nil
 | _,_,.cons n t h => .cons ⟨t,rfl⟩ (z4v h)
def w0l (H : Hp) : Prop:=∀ b,H b = none \/ ∃ o xs,H b = some (.frz o (.lst xs))
theorem law_call {P : Program} {w : World} {K : PySem.W.Frag} {mg mb : Str -> Option Value} {CX : CXT} {k : Nat} {fa a : Addr} {fd : FuncData} {x : Str} {sp : Sp} {s₁ : Shared} {vs : List Value} {ns : List Int}
  (KX : K.In s₁.heap) (hns : s₁.heap.Ns mainGlobals mg) (hb : s₁.heap.Ns builtinsNs mb) (hbb : ∀ x : Str,x ≠ "__name__" -> mb x = bootBuiltins x) (hlim : s₁.heap.NoLimit) (hg : s₁.gens = #[])
  (ha : s₁.heap.get? a = some { cls:=.type "list",data:=.seq vs.toArray }) (hi : IntsAre vs ns) (hl : ns.length <= sizeLine) (hr : z1a k callerA)
  (F : ∀ base : Heap,K.In base -> base.Ns mainGlobals mg -> q3d P w K mg base CX k fa fd [x] sp) (hbind : ∀ (s : Shared) (u : Value),BindsTo s fd ⟨[u],[]⟩ [(x,u)])
  (hsp : ∀ H : Hp,w0l H -> SqL K H a (ns.map V.int) -> sp [.ref a] H (fun v _ => v = .bl true) fun _ _ _ => False)
  (hCX : ∀ H e s',CX [] H s₁ (fun _ _ _ => False) e s' -> False) :
  codeAny (model P w) callerA (.call (.ref fa) ⟨[.ref a],[]⟩) (fun r s' => r = .ok (.ret (.bool true)) /\ OldK s₁.heap s'.heap /\ s'.os = s₁.os /\ AllBare s'.gens) s₁:=by
 have rv:=z4v hi
 have lenV:=hi.length
 have core : ∀ H : Hp,w0l H -> SqL K H a (ns.map V.int) -> HOk P w H s₁.heap -> (∀ b,H b ≠ none -> b = a) -> (H a ≠ none -> K.lookup a = none) →
   codeAny (model P w) callerA (.call (.ref fa) ⟨[.ref a],[]⟩) (fun r s' => r = .ok (.ret (.bool true)) /\ OldK s₁.heap s'.heap /\ s'.os = s₁.os /\ AllBare s'.gens) s₁:=by
  intro H hO hS hok hA hK
  have base_of : ∀ {b : Addr} {o : Obj},s₁.heap.get? b = some o -> H b = none -> (k5t s₁.heap H).get? b = some o:=fun e n => k5n e n
  have noA : ∀ {b : Addr} {o : Obj} {es : Array DictEntry} {ep : Nat},s₁.heap.get? b = some o -> o.data = .dict es ep -> H b = none:=fun {b o es ep} e d => by
   cases q : H b with
   | none => rfl
   | some u =>
    have e' : b = a:=hA b (by rw [q]; simp)
    subst e'
    rw [ha] at e; cases e
    have d' : Data.seq vs.toArray _ = Data.dict es ep:=d
    cases d'
  have nsK : ∀ {b : Addr} {m : Str -> Option Value},s₁.heap.Ns b m -> (k5t s₁.heap H).Ns b m:=fun {b m} ⟨o,es,ep,e,d,r⟩ => ⟨o,es,ep,base_of e (noA e d),d,r⟩
  have hKb : K.In (k5t s₁.heap H):=fun b o e => base_of (KX b o e) (by
   cases q : H b with
   | none => rfl
   | some u =>
    have e' : b = a:=hA b (by rw [q]; simp)
    subst e'
    rw [hK (by rw [q]; simp)] at e; cases e)
  have hM : Mod K mg (k5t s₁.heap H):=⟨hKb,nsK hns,⟨mb,nsK hb,hbb⟩,let ⟨mc,h1,h2⟩:=hlim; ⟨mc,nsK h1,h2⟩⟩
  have e0 : w0f P w K mg (k5t s₁.heap H) callerA [] s₁ H:=⟨rfl,hM,fun b o e => j2i e,Nat.le_of_eq (k2e _ _),trivial,fun b hb => absurd (show b ∈ ([] : List Addr) from hb) (by simp),hok,.of_eq hg⟩
  refine codeAny_mono ((F _ hKb (nsK hns)).run callerA [] s₁ H ⟨[.ref a],[]⟩ [.ref a] [.ref a] _ _ hr e0 (hbind s₁ (.ref a)) (.cons rfl .nil) (hsp H hO hS)) fun r s' h => ?_
  cases r with
  | error e => exact (hCX H e s' h).elim
  | ok fl =>
   cases fl with
   | next => exact False.elim h
   | brk => exact False.elim h
   | cont => exact False.elim h
   | ret u =>
    obtain ⟨v,H',os,bare,un,hok',r',q⟩:=h
    have q' : v = .bl true:=q
    subst q'
    obtain rfl : u = Value.bool true:=r'
    refine ⟨rfl,OldK.of_keep fun b o e => ?_,os,bare⟩
    cases q : H b with
    | none => exact un.keep b o e q (by intro z; exact absurd (show b ∈ ([] : List Addr) from z) (by simp)) (by simp)
    | some u =>
     rcases hO b with z | ⟨ob,xs,z⟩
     ·rw [q] at z; cases z
     ·have z2:=un.frzs b ob _ z
      obtain ⟨e1,_⟩:=hok b _ z
      obtain ⟨e2,_⟩:=hok' b _ z2
      rw [e] at e1; cases e1
      exact e2
 cases hk : K.lookup a with
 | some o =>
  have e:=KX a o hk
  rw [ha] at e
  cases e
  refine core (fun _ => none) (fun _ => .inl rfl) (.inr ⟨_,vs.toArray,_,hk,rfl,rfl,rfl,by rw [List.size_toArray,lenV]; exact hl,by simpa using rv⟩) (fun b u z => by have z' : (none : Option HO) = some u:=z; cases z') (fun b z => absurd rfl z) fun z => absurd rfl z
 | none =>
  refine core (fun b => if b = a then some (.frz { cls:=.type "list",data:=.seq vs.toArray } (.lst (ns.map V.int))) else none) (fun b => ?_) (.inl (.inr ⟨{ cls:=.type "list",data:=.seq vs.toArray },if_pos rfl⟩)) (fun b u z => ?_) (fun b z => ?_) fun _ => hk
  ·by_cases hb : b = a
   ·exact .inr ⟨_,_,if_pos hb⟩
   ·exact .inl (if_neg hb)
  ·by_cases hb : b = a
   ·have z':=(if_pos hb).symm.trans z
    cases z'
    subst hb
    exact ⟨ha,by rw [List.length_map]; exact hl,vs,_,rv,ha⟩
   ·have z':=(if_neg hb).symm.trans z
    cases z'
  ·by_cases hb : b = a
   ·exact hb
   ·exact absurd (if_neg hb) z
end L2
namespace L2
open PySem PySem.Spec PyProof.Rows
abbrev KOf {K : PySem.W.Frag} {h : Heap} (_ : K.In h) : PySem.W.Frag:=K
theorem j4d {l : PySem.W.OpenLaw} {n k : Nat} {q : Program} {loose : List Str} {XP : (Str -> Option Value) -> Heap -> Prop} {YP : World -> Heap -> Prop} {d : DefRec} {K : Params -> PySem.W.Frag} {CX : World -> CXT} {sp : World -> Sp} {x : Str}
  (hn : l.most = some n) (hn2 : n <= sizeLine) (hdf : d.params.defaults = []) (hr : z1a k callerA)
  (hY : ∀ (w : World) (h : Heap),YP w h -> (K w.params).In h)
  (F : ∀ (w : World) (mg : Str -> Option Value) (fa : Addr) (h : Heap),(K w.params).In h -> h.Ns mainGlobals mg -> mg d.name = some (.ref fa) →
   ∃ fd : FuncData,(∀ (s : Shared) (u : Value),BindsTo s fd ⟨[u],[]⟩ [(x,u)]) ∧
    ∀ base : Heap,(K w.params).In base -> base.Ns mainGlobals mg -> q3d l.prog w (K w.params) mg base (CX w) k fa fd [x] (sp w))
  (hsp : ∀ (w : World) (H : Hp) (a : Addr) (ns : List Int),ns.length <= n -> w0l H -> SqL (K w.params) H a (ns.map V.int) -> sp w [.ref a] H (fun v _ => v = .bl true) fun _ _ _ => False)
  (hCX : ∀ (w : World) (H : Hp) (s : Shared) (e : Value) (s' : Shared),CX w [] H s (fun _ _ _ => False) e s' -> False) :
  PySem.W.WalkO q loose XP YP l.row.toRowW d [] (fun f vs => PySem.call f vs):=by
 refine Att.attach_call hn hdf fun w s₀ s₁ mg mb fa o pm cd doc a vs ns G Y ho hd hcd hmg hobj hints hlen hg => ?_
 have KX:=hY w _ Y
 obtain ⟨fd,hb,hF⟩:=F w mg fa _ KX G.T.g hmg
 exact law_call KX G.T.g G.T.b G.T.builtins G.T.nolimit hg hobj hints (Nat.le_trans hlen hn2) hr hF hb (fun H hO hS => hsp w H a ns hlen hO hS) fun H e s' => hCX w H s₁ e s'
theorem walk_ofK {l : PySem.W.OpenLaw} {n k : Nat} {q : Program} {loose : List Str} {XP : (Str -> Option Value) -> Heap -> Prop} {YP : World -> Heap -> Prop} {d : DefRec} {K : Params -> PySem.W.Frag} {CX : CXT} {sp : PySem.W.Frag -> Sp} {x : Str}
  (hn : l.most = some n) (hn2 : n <= sizeLine) (hdf : d.params.defaults = []) (hr : z1a k callerA)
  (hY : ∀ (w : World) (h : Heap),YP w h -> (K w.params).In h)
  (F : ∀ (w : World) (mg : Str -> Option Value) (fa : Addr) (h : Heap),(K w.params).In h -> h.Ns mainGlobals mg -> mg d.name = some (.ref fa) →
   ∃ fd : FuncData,(∀ (s : Shared) (u : Value),BindsTo s fd ⟨[u],[]⟩ [(x,u)]) ∧
    ∀ base : Heap,(K w.params).In base -> base.Ns mainGlobals mg -> q3d l.prog w (K w.params) mg base CX k fa fd [x] (sp (K w.params)))
  (hsp : ∀ (K : PySem.W.Frag) (H : Hp) (a : Addr) (ns : List Int),ns.length <= n -> w0l H -> SqL K H a (ns.map V.int) -> sp K [.ref a] H (fun v _ => v = .bl true) fun _ _ _ => False)
  (hCX : ∀ (H : Hp) (s : Shared) (e : Value) (s' : Shared),CX [] H s (fun _ _ _ => False) e s' -> False) :
  PySem.W.WalkO q loose XP YP l.row.toRowW d [] (fun f vs => PySem.call f vs) :=
 j4d (K:=K) (CX:=fun _ => CX) (sp:=fun w => sp (K w.params)) hn hn2 hdf hr hY F (fun w H a ns h1 h2 h3 => hsp (K w.params) H a ns h1 h2 h3) fun _ H s e s' => hCX H s e s'
end L2
namespace L2
open PySem PySem.Spec PyProof.Rows
def q2d (s : Stmt) : Arguments:=match s with
 | .FunctionDef _ a _ _ _ _ _ _ _ _ => a
 | _ => { posonlyargs:=[],args:=[],vararg:=none,kwonlyargs:=[],kw_defaults:=[],kwarg:=none,defaults:=[] }
def q1x (s : Stmt) : List Stmt:=match s with
 | .FunctionDef _ _ b _ _ _ _ _ _ _ => b
 | _ => []
def q1j (s : Stmt) : Scope:=match s with
 | .FunctionDef _ _ _ _ _ _ sc _ _ _ => sc
 | _ => { kind:=.function,names:=[],isGenerator:=false,isCoroutine:=false }
abbrev CX0 : CXT:=fun _ _ _ _ _ _ => False
abbrev E0 : XK:=fun _ _ _ => False
theorem q3a {X : Cx} : z8k CX0 X E0:=fun _ _ _ _ _ _ _ h => h.elim
structure Fun (K : PySem.W.Frag) (x qual : Str) (st : Stmt) (f : Addr) (fd : FuncData) : Prop where
 ex : ∃ (oc : Value) (od : Option Addr) (kV doc pm : Value) (an : Option Addr) (cdv ct : Value) (osl : Array (Option Value)),
  fd = PySem.W.fnOf x qual (q2d st) (q1x st) (q1j st) .none kV doc pm an cdv ct /\ K.lookup f = some ⟨oc,od,.func fd,osl⟩ /\ PySem.W.codeIn K cdv qual = true
 kp : PySem.W.keepIn K (.ref f) = true
section
variable {P : Program} {w : World} {K : PySem.W.Frag} {mg : Str -> Option Value} {base : Heap}
theorem Fun.ok {x qual : Str} {st : Stmt} {f : Addr} {fd : FuncData} {N ps : List Str} {k : Nat} {sp : Sp} (F : Fun K x qual st f fd) (S : q2a N ps (q1j st)) (len : ∀ vs H Q E,sp vs H Q E -> vs.length = ps.length)
  (hbody : ∀ (cdv : Value) (A : Around) (outer : List Env) (s : Shared) (H : Hp) (vs : List V) (Q : VK) (E : XK),z1a k (A.deeper (envOfC qual (q1j st) s.heap.objs.size f cdv)) -> sp vs H Q E →
   ∃ t,PSs (z3q CX0 P w K mg base N qual (q1j st) f cdv A outer s H E).nox (q1x st) t /\ t { nx:=fun _ H' => Q .non H',rt:=Q } (start N vs) H) : q3d P w K mg base CX0 (k + 1) f fd ps sp:=by
 obtain ⟨oc,od,kV,doc,pm,an,cdv,ct,osl,rfl,lk,hcd⟩:=F.ex
 refine j9l lk hcd S len fun A outer s H vs Q E hr hsp => ?_
 obtain ⟨t,h,q⟩:=hbody cdv A outer s H vs Q E hr hsp
 exact ⟨t,h.nox,q⟩
theorem Fun.binds {x qual : Str} {st : Stmt} {f : Addr} {fd : FuncData} {ps : List Str} (F : Fun K x qual st f fd)
  (h : ∀ (kV doc pm : Value) (an : Option Addr) (cdv ct : Value) (us : List Value),us.length = ps.length -> bindArgs (PySem.W.fnOf x qual (q2d st) (q1x st) (q1j st) .none kV doc pm an cdv ct) ⟨us,[]⟩ = pure (ps.zip us)) : Binds K fd ps []:=by
 obtain ⟨oc,od,kV,doc,pm,an,cdv,ct,osl,rfl,lk,hcd⟩:=F.ex
 exact .all (h kV doc pm an cdv ct)
theorem q3c {x qual : Str} {st : Stmt} {f : Addr} {oc : Value} {od an : Option Addr} {osl : Array (Option Value)} {kV doc pm cdv ct : Value} (l : K.lookup f = some ⟨oc,od,.func (PySem.W.fnOf x qual (q2d st) (q1x st) (q1j st) .none kV doc pm an cdv ct),osl⟩)
  (c : PySem.W.codeIn K cdv qual = true) (k : PySem.W.keepIn K (.ref f) = true) : Fun K x qual st f (PySem.W.fnOf x qual (q2d st) (q1x st) (q1j st) .none kV doc pm an cdv ct):=⟨⟨oc,od,kV,doc,pm,an,cdv,ct,osl,rfl,l,c⟩,k⟩
end
section
variable {X : Cx}
theorem pv (i : Nat) {x : Str} {pos : Pos} (hN : X.N[i]? = some x:=by rfl) (hv : Vis X.env.scope x:=by first | exact Or.inl rfl | exact Or.inr (Or.inl rfl) | exact Or.inr (Or.inr rfl)) (hd : (x == ("__debug__" : Str)) = false:=by decide)
  (hcd : (x == ("__classdict__" : Str)) = false:=by decide) : PE X (.Name x pos) (j5h i):=q7a hN hv hd hcd
end
theorem w3p {A B : Prop} (h : B) : if false = true then A else B:=by
 rw [if_neg Bool.false_ne_true]
 exact h
theorem w4s {A B : Prop} (h : A) : if true = true then A else B:=by
 rw [if_pos rfl]
 exact h
theorem q5i {c A B : Prop} [Decidable c] (h1 : c -> A) (h2 : ¬ c -> B) : if c then A else B:=by
 by_cases h : c
 ·rw [if_pos h]
  exact h1 h
 ·rw [if_neg h]
  exact h2 h
def q2h (H H' : Hp) : Prop:=∀ b o,H b = some o -> H' b = some o
theorem q2h.refl (H : Hp) : q2h H H:=fun _ _ h => h
theorem q2h.trans {H H1 H2 : Hp} (a : q2h H H1) (b : q2h H1 H2) : q2h H H2:=fun c o h => b c o (a c o h)
theorem q2h.free {H H' : Hp} (e : q2h H H') {l : Addr} (h : H' l = Option.none) : H l = Option.none:=by
 cases q : H l with
 | none => rfl
 | some o =>
  rw [e l o q] at h
  cases h
theorem q2h.seq {K : PySem.W.Frag} {H H' : Hp} {a : Addr} {xs : List V} (e : q2h H H') (h : SqL K H a xs) : SqL K H' a xs:=by
 rcases h with (h | ⟨o,h⟩) | h
 ·exact .inl (.inl (e _ _ h))
 ·exact .inl (.inr ⟨o,e _ _ h⟩)
 ·exact .inr h
end L2
set_option maxHeartbeats 4000000
namespace L2
open PySem PySem.Spec PyProof.Rows
theorem z3r {prog : Program} {w : World} {A : Around} {R : Result -> Shared -> Prop} {s : Shared} {elt target iter : Expr} {ifs : List Expr} {scope : Scope} {pos : Pos} {it acc : Value} {env : Env} (I : Nat -> Shared -> Prop)
  (turn : ∀ n s,I n s -> wpAny (model prog w) A (pyNext it) (fun r s₁ => match r with
   | none => R (.ok .next) s₁
   | some v => wpAny (model prog w) A (letOwnedTupleGo target it v) (fun _ s₀ => wpAny (model prog w) A (assign target env v) (fun _ s₂ =>
     wpAny (model prog w) A (forIn ifs true fun c r => if r = true then do let ok ← isTrue c env (eval c env); pure (ForInStep.yield ok) else pure (ForInStep.yield r)) (fun ok s₃ =>
      if ok = true then wpAny (model prog w) A (eval elt env) (fun x s₄ =>
       wpAny (model prog w) A (call (.builtin "list.append") [acc,x]) (fun _ s₅ => ∃ m,m < n /\ I m s₅) (fun _ _ => False) s₄) (fun _ _ => False) s₃
      else ∃ m,m < n /\ I m s₃) (fun _ _ => False) s₂) (fun _ _ => False) s₀) (fun _ _ => False) s₁) (fun _ _ => False) s)
  (n : Nat) (h : I n s) :
  codeAny (model prog w) A (.compLoop (.ListComp elt [⟨target,iter,ifs,0⟩] scope pos) 0 it acc env) R s:=by
 refine codeAny_loop rfl I (fun n s hI => ?_) n h
 show wpAny _ A ((compTurn (.ListComp elt [⟨target,iter,ifs,0⟩] scope pos) 0 it acc env).onRaise (fun x => do noteFrame x env; theTreesLotGoes x)) _ _ s
 refine wpAny_noted ?_
 rw [compTurn_list]
 refine wpAny_bind (wpAny_standAt (wpAny_bind (wpAny_mono (turn n s hI) (fun r s₁ h₁ => ?_) fun _ _ z => False.elim z)))
 cases r with
 | none => exact wpAny_pure h₁
 | some v =>
  refine wpAny_bind (wpAny_mono h₁ (fun _ s₀ h₀ => ?_) fun _ _ z => False.elim z)
  refine wpAny_bind (wpAny_mono h₀ (fun _ s₂ h₂ => wpAny_bind (wpAny_mono h₂ (fun ok s₃ h₃ => ?_) fun _ _ z => False.elim z)) fun _ _ z => False.elim z)
  cases ok with
  | false => exact wpAny_pure ⟨rfl,h₃⟩
  | true =>
   exact wpAny_bind (wpAny_bind (wpAny_mono h₃ (fun x s₄ h₄ => wpAny_bind (wpAny_mono h₄ (fun _ s₅ h₅ => wpAny_pure (wpAny_pure ⟨rfl,h₅⟩)) fun _ _ z => False.elim z)) fun _ _ z => False.elim z))
theorem q6n {env : Env} : ∀ (names : List (Str × NameKind)) (acc : List (Str × Addr)),(∀ y ∈ names,y.2 = .free -> ∃ c,env.cells.lookup y.1 = some c) →
  ∃ cl : List (Str × Addr),(forIn (m:=Sem) names acc fun x r => (do
    if x.2 == .free then (do let c ← cellOf env x.1; pure (ForInStep.yield ((x.1,c) :: r))) else pure (ForInStep.yield r))) = pure cl ∧
   (∀ x c,cl.lookup x = some c -> acc.lookup x = some c \/ env.cells.lookup x = some c) ∧
   (∀ x,(∃ c,acc.lookup x = some c) \/ (∃ y ∈ names,y.1 = x /\ y.2 = .free) -> ∃ c,cl.lookup x = some c)
 | [],acc,_ => ⟨acc,rfl,fun x c e => .inl e,fun x h => h.elim id fun ⟨_,z,_⟩ => nomatch z⟩
 | (n,k) :: r,acc,h => by
  by_cases hk : k = .free
  ·subst hk
   obtain ⟨c,hc⟩:=h (n,.free) List.mem_cons_self rfl
   obtain ⟨cl,e1,e2,e3⟩:=q6n (env:=env) r ((n,c) :: acc) fun y hy => h y (List.mem_cons_of_mem _ hy)
   refine ⟨cl,?_,fun x d e => ?_,fun x q => ?_⟩
   ·rw [List.forIn_cons]
    simp only [beq_self_eq_true,if_true,cellOf,hc,pure_bind]
    exact e1
   ·rcases e2 x d e with z | z
    ·rw [List.lookup_cons] at z
     by_cases hx : x == n
     ·rw [hx] at z
      have : x = n:=by simpa using hx
      subst this
      cases z
      exact .inr hc
     ·have hx' : (x == n) = false:=by simpa using hx
      rw [hx'] at z
      exact .inl z
    ·exact .inr z
   ·refine e3 x ?_
    rcases q with ⟨d,q⟩ | ⟨y,hy,q1,q2⟩
    ·refine .inl ?_
     rw [List.lookup_cons]
     cases hx : x == n with
     | true => exact ⟨c,rfl⟩
     | false => exact ⟨d,q⟩
    ·rcases List.mem_cons.mp hy with z | z
     ·subst z
      refine .inl ⟨c,?_⟩
      have q1' : n = x:=q1
      subst q1'
      simp
     ·exact .inr ⟨y,z,q1,q2⟩
  ·have hb : (k == NameKind.free) = false:=by simpa using hk
   obtain ⟨cl,e1,e2,e3⟩:=q6n (env:=env) r acc fun y hy => h y (List.mem_cons_of_mem _ hy)
   refine ⟨cl,?_,e2,fun x q => e3 x ?_⟩
   ·rw [List.forIn_cons]
    simp only [hb,Bool.false_eq_true,if_false,pure_bind]
    exact e1
   ·rcases q with q | ⟨y,hy,q1,q2⟩
    ·exact .inl q
    ·rcases List.mem_cons.mp hy with z | z
     ·subst z; exact absurd q2 hk
     ·exact .inr ⟨y,z,q1,q2⟩
theorem z1n {env : Env} {scope : Scope} (h : ∀ y ∈ scope.names,y.2 = .free -> ∃ c,env.cells.lookup y.1 = some c) :
  ∃ cl : List (Str × Addr),closureFor scope env = pure cl /\ (∀ x c,cl.lookup x = some c -> env.cells.lookup x = some c) /\ (∀ y ∈ scope.names,y.2 = .free -> ∃ c,cl.lookup y.1 = some c):=by
 obtain ⟨cl,e1,e2,e3⟩:=q6n (env:=env) scope.names [] h
 refine ⟨cl,?_,fun x c e => ?_,fun y hy q => e3 y.1 (.inr ⟨y,hy,rfl,q⟩)⟩
 ·unfold closureFor
  exact (bind_pure _).trans e1
 ·rcases e2 x c e with z | z
  ·simp at z
  ·exact z
theorem q9a {env : Env} : ∀ {names : List (Str × NameKind)} {x : Str},names.lookup x = some .free →
  (names.map fun (n,k) => if (k == NameKind.free && env.scope.kind == .function && env.kindOf n == some .cell) then (n,NameKind.cell) else (n,k)).lookup x = some .cell ∨
  (names.map fun (n,k) => if (k == NameKind.free && env.scope.kind == .function && env.kindOf n == some .cell) then (n,NameKind.cell) else (n,k)).lookup x = some .free
 | [],_,h => by simp at h
 | (n,k) :: r,x,h => by
  have ih:=@q9a env r x
  rw [List.map_cons]
  cases hx : x == n with
  | true =>
   simp only [List.lookup_cons,hx] at h
   cases h
   by_cases hc : (NameKind.free == NameKind.free && env.scope.kind == .function && env.kindOf n == some .cell) = true
   ·dsimp only
    rw [if_pos hc]; simp [List.lookup_cons,hx]
   ·dsimp only
    rw [if_neg hc]; simp [List.lookup_cons,hx]
  | false =>
   simp only [List.lookup_cons,hx] at h
   by_cases hc : (k == NameKind.free && env.scope.kind == .function && env.kindOf n == some .cell) = true
   ·dsimp only
    rw [if_pos hc]; simp only [List.lookup_cons,hx]; exact ih h
   ·dsimp only
    rw [if_neg hc]; simp only [List.lookup_cons,hx]; exact ih h
theorem z1i {env : Env} : ∀ {names : List (Str × NameKind)} {x : Str},
   ((names.map fun (n, k) => if (k == NameKind.free && env.scope.kind == .function && env.kindOf n == some .cell) then (n, NameKind.cell) else (n, k)).lookup x = some .cell ∨
   (names.map fun (n, k) => if (k == NameKind.free && env.scope.kind == .function && env.kindOf n == some .cell) then (n, NameKind.cell) else (n, k)).lookup x = some .free) -> ∃ y ∈ names, y.1 = x /\ (y.2 = .free \/ y.2 = .cell)
 | [], _, h => by simp at h
 | (n, k) :: r, x, h => by
   have ih := @z1i env r x
   rw [List.map_cons] at h
   cases hx : x == n with
   | true =>
     have ex : n = x := by have : x = n := by simpa using hx
                           exact this.symm
     refine ⟨(n, k), List.mem_cons_self, ex, ?_⟩
     by_cases hc : (k == NameKind.free && env.scope.kind == .function && env.kindOf n == some .cell) = true
     . rw [Bool.and_eq_true, Bool.and_eq_true] at hc
       exact .inl (by simpa using hc.1.1)
     . dsimp only at h
       rw [if_neg hc] at h
       simp only [List.lookup_cons, hx] at h
       rcases h with h | h
       . exact .inr (Option.some.inj h)
       . exact .inl (Option.some.inj h)
   | false =>
     have h' : (r.map fun (n, k) => if (k == NameKind.free && env.scope.kind == .function && env.kindOf n == some .cell) then (n, NameKind.cell) else (n, k)).lookup x = some .cell ∨
         (r.map fun (n, k) => if (k == NameKind.free && env.scope.kind == .function && env.kindOf n == some .cell) then (n, NameKind.cell) else (n, k)).lookup x = some .free := by
       by_cases hc : (k == NameKind.free && env.scope.kind == .function && env.kindOf n == some .cell) = true
       . dsimp only at h
         rw [if_pos hc] at h; simp only [List.lookup_cons, hx] at h; exact h
       . dsimp only at h
         rw [if_neg hc] at h; simp only [List.lookup_cons, hx] at h; exact h
     obtain ⟨y, hy, q⟩ := ih h'
     exact ⟨y, List.mem_cons_of_mem _ hy, q⟩
theorem q9u : ∀ (names : List (Str × NameKind)) (n : Nat) (acc : List (Str × Addr)),cellsFrom n names acc = cellsFrom n names [] ++ acc
 | [],_,_ => rfl
 | (x,k) :: r,n,acc => by
  unfold cellsFrom
  split
  ·rw [q9u r (n + 1) ((x,n) :: acc),q9u r (n + 1) [(x,n)],List.append_assoc]; rfl
  ·exact q9u r n acc
theorem z6u : ∀ {names : List (Str × NameKind)} {n : Nat} {x : Str} {c : Addr},(x,c) ∈ cellsFrom n names [] -> ∃ y ∈ names,y.1 = x /\ y.2 = .cell
 | [],_,_,_,h => by cases h
 | (y,k) :: r,n,x,c,h => by
  unfold cellsFrom at h
  split at h
  ·rename_i hk
   rw [q9u] at h
   rcases List.mem_append.mp h with h | h
   ·obtain ⟨z,hz,q⟩:=z6u h
    exact ⟨z,List.mem_cons_of_mem _ hz,q⟩
   ·have e : (x,c) = (y,n):=by simpa using h
    exact ⟨(y,k),List.mem_cons_self,(congrArg Prod.fst e).symm,by simpa using hk⟩
  ·obtain ⟨z,hz,q⟩:=z6u h
   exact ⟨z,List.mem_cons_of_mem _ hz,q⟩
theorem k4f : ∀ {names : List (Str × NameKind)} {n : Nat} {y : Str × NameKind},y ∈ names -> y.2 = .cell -> ∃ c,(y.1,c) ∈ cellsFrom n names []
 | [],_,_,h,_ => by cases h
 | (z,k) :: r,n,y,h,hk => by
  unfold cellsFrom
  rcases List.mem_cons.mp h with e | h
  ·subst e
   have hk' : k = .cell:=hk
   rw [if_pos (by rw [hk']; rfl),q9u]
   exact ⟨n,List.mem_append_right _ List.mem_cons_self⟩
  ·split
   ·obtain ⟨c,hc⟩:=k4f (n:=n + 1) h hk
    rw [q9u]
    exact ⟨c,List.mem_append_left _ hc⟩
   ·exact k4f h hk
structure j8w (h : Heap) (lo : Nat) (names : List (Str × NameKind)) (nw : List (Str × Addr)) : Prop where
 ok : CellsOk h lo nw
 nm : ∀ x c,(x,c) ∈ nw -> ∃ y ∈ names,y.1 = x /\ y.2 = .cell
 has : ∀ y ∈ names,y.2 = .cell -> ∃ c,nw.lookup y.1 = some c
theorem z8p : ∀ {l : List (Str × Addr)} {x : Str} {c : Addr},(x,c) ∈ l -> ∃ c',l.lookup x = some c'
 | [],_,_,h => by cases h
 | (y,d) :: r,x,c,h => by
  rw [List.lookup_cons]
  cases hx : x == y with
  | true => exact ⟨d,rfl⟩
  | false =>
   rcases List.mem_cons.mp h with e | h
   ·have : x = y:=congrArg Prod.fst e
    rw [this] at hx
    simp at hx
   ·exact z8p h
theorem j1v (h : Heap) (names : List (Str × NameKind)) : j8w (pushCells h names) h.objs.size names (cellsFrom h.objs.size names []) :=
 ⟨cellsFrom_ok names h h.objs.size [] ⟨fun _ _ hm => (nomatch hm),List.Pairwise.nil⟩ (Nat.le_refl _),fun _ _ hm => z6u hm,fun _ hy hk => let ⟨_,hc⟩:=k4f hy hk; z8p hc⟩
theorem k5q {nw cl : List (Str × Addr)} {x : Str} {c : Addr} (h : (nw ++ cl).lookup x = some c) : nw.lookup x = some c \/ (nw.lookup x = none /\ cl.lookup x = some c):=by
 rw [List.lookup_append] at h
 cases q : nw.lookup x with
 | none => rw [q] at h; exact .inr ⟨rfl,h⟩
 | some d => rw [q] at h; exact .inl h
theorem z4l {nw cl : List (Str × Addr)} {x : Str} {c : Addr} (h : nw.lookup x = some c) : (nw ++ cl).lookup x = some c:=by
 rw [List.lookup_append,h]; rfl
theorem k4e {nw cl : List (Str × Addr)} {x : Str} {c : Addr} (h : cl.lookup x = some c) : ∃ c',(nw ++ cl).lookup x = some c':=by
 rw [List.lookup_append]
 cases q : nw.lookup x with
 | none => exact ⟨c,h⟩
 | some d => exact ⟨d,rfl⟩
theorem z1y : ∀ {l : List (Str × Addr)} {x y : Str} {c : Addr},l.Pairwise (fun x y => x.2 ≠ y.2) -> (x,c) ∈ l -> (y,c) ∈ l -> x = y
 | [],_,_,_,_,h,_ => by cases h
 | (z,d) :: r,x,y,c,hp,h1,h2 => by
  rw [List.pairwise_cons] at hp
  rcases List.mem_cons.mp h1 with e1 | h1
  ·rcases List.mem_cons.mp h2 with e2 | h2
   ·exact (congrArg Prod.fst e1).trans (congrArg Prod.fst e2).symm
   ·exact absurd (show d = c from (congrArg Prod.snd e1).symm) (hp.1 (y,c) h2)
  ·rcases List.mem_cons.mp h2 with e2 | h2
   ·exact absurd (show d = c from (congrArg Prod.snd e2).symm) (hp.1 (x,c) h1)
   ·exact z1y hp.2 h1 h2
structure q5h (osc : Scope) (N N' : List Str) (js : List (Option Nat)) (scope : Scope) : Prop where
 kind : scope.kind = .function
 cells : ∀ y ∈ scope.names,y.2 = .cell -> scope.names.lookup y.1 = some .cell
 names : ∀ y ∈ scope.names,y.2 = .local -> scope.names.lookup y.1 = some .local
 free : ∀ y ∈ scope.names,y.2 = .free -> osc.names.lookup y.1 = some .cell \/ osc.names.lookup y.1 = some .free
 len : js.length = N'.length
 map : ((N'.zip js).all fun p => match p.2 with | none => true | some j => (N[j]? == some p.1) && (scope.names.lookup p.1 == some .free)) = true
theorem q5h.at {osc : Scope} {N N' : List Str} {js : List (Option Nat)} {scope : Scope} (S : q5h osc N N' js scope) {i j : Nat} {x : Str} (h1 : N'[i]? = some x) (h2 : js[i]? = some (some j)) : N[j]? = some x /\ scope.names.lookup x = some .free:=by
 have hm : (x,some j) ∈ N'.zip js:=by
  refine List.mem_of_getElem? (i:=i) ?_
  rw [List.getElem?_zip_eq_some]
  exact ⟨h1,h2⟩
 have q:=List.all_eq_true.mp S.map _ hm
 simpa using q
structure Bk where
 C : Addr
 s : Shared
 H : Hp
 fp : List Addr
 cl : List (Str × Addr)
def q4l (X : Cx) (N' : List Str) (scope : Scope) (b : Bk) : Cx where
 prog:=X.prog
 w:=X.w
 K:=X.K
 mg:=X.mg
 base:=X.base
 A:=X.A
 N:=N'
 s₀:=b.s
 H0:=b.H
 env:=compEnvC scope b.cl b.C X.env
 outer:=X.stack
 stack:=X.stack
 ex:=b.fp
 fn:=fun x => scope.names.lookup x == some .cell
 calm:=X.calm
 pn:=[]
 xe:=fun _ _ => False
def q9r (js : List (Option Nat)) (σ : St) : St:=js.map fun j => j.bind fun j => (σ[j]?).join
section
variable {X : Cx} {pins : List (Addr × Obj)} {σ : St} {H : Hp} {s : Shared} {N' : List Str} {js : List (Option Nat)} {scope : Scope} {fp : List Addr} {cl : List (Str × Addr)} {C : Addr}
theorem q5p {nw : List (Str × Addr)} {hh : Heap} {lo : Nat} (h1 : ∀ x c,cl.lookup x = some c -> X.env.cells.lookup x = some c) (L : j8w hh lo scope.names nw) {x : Str} {c : Addr} (e : (nw ++ cl).lookup x = some c) :
  ((x,c) ∈ nw /\ lo <= c /\ hh.IsCell c none) \/ X.env.cells.lookup x = some c:=by
 rcases k5q e with e | ⟨_,e⟩
 ·have hm:=PySem.mem_of_lookup e
  exact .inl ⟨hm,(L.ok.empty x c hm).2,(L.ok.empty x c hm).1⟩
 ·exact .inr (h1 x c e)
theorem j7x {nw : List (Str × Addr)} {hh : Heap} {lo : Nat} (I : Inv X pins σ H s) (S : q5h X.env.scope X.N N' js scope) (f : ∀ b ∈ fp,z3p X pins H b) (fl : ∀ b ∈ fp,b < s.heap.objs.size) (hC : s.heap.objs.size <= C) (L : j8w hh lo scope.names nw) (hlo : s.heap.objs.size <= lo)
  (h1 : ∀ x c,cl.lookup x = some c -> X.env.cells.lookup x = some c) (h2 : ∀ y ∈ scope.names,y.2 = .free -> ∃ c,cl.lookup y.1 = some c) : (q4l X N' scope ⟨C,s,H,fp,nw ++ cl⟩).Ok where
 mod:=I.ok.mod
 kind:=S.kind
 glob:=I.ok.glob
 blt:=I.ok.blt
 above:=hC
 inj:=fun x y c e1 e2 => by
  have lt : ∀ z,X.env.cells.lookup z = some c -> c < s.heap.objs.size:=fun z e => by
   obtain ⟨v,q⟩:=I.cell z c e
   exact q.lt
  rcases q5p h1 L e1 with ⟨m1,l1,_⟩ | e1
  ·rcases q5p h1 L e2 with ⟨m2,l2,_⟩ | e2
   ·exact z1y L.ok.apart m1 m2
   ·exact absurd (lt y e2) (Nat.not_lt.mpr (Nat.le_trans hlo l1))
  ·rcases q5p h1 L e2 with ⟨m2,l2,_⟩ | e2
   ·exact absurd (lt x e1) (Nat.not_lt.mpr (Nat.le_trans hlo l2))
   ·exact I.ok.inj x y c e1 e2
 has:=fun x hx => by
  obtain ⟨y,hy,rfl,e⟩:=z1i (env:=X.env) hx
  rcases e with e | e
  ·obtain ⟨c,hc⟩:=h2 y hy e
   exact k4e hc
  ·obtain ⟨c,hc⟩:=L.has y hy e
   exact ⟨c,z4l hc⟩
 cab:=fun x c e1 e2 => by
  have e1 : (scope.names.lookup x == some NameKind.cell) = true:=e1
  have hm:=PySem.mem_of_lookup (show scope.names.lookup x = some NameKind.cell by simpa using e1)
  obtain ⟨c',hc'⟩:=L.has (x,.cell) hm rfl
  have e3 : (nw ++ cl).lookup x = some c':=z4l hc'
  have e2 : (nw ++ cl).lookup x = some c:=e2
  rw [e3] at e2
  cases e2
  exact Nat.le_trans hlo (L.ok.empty x c (PySem.mem_of_lookup hc')).2
 hd:=I.ok.hd
 frames:=I.ok.frames
 stk:=.inl rfl
 exf:=fun b hb => ⟨Nat.ne_of_lt (Nat.lt_of_lt_of_le (fl b hb) hC),fun x c e => by
  rcases q5p h1 L e with ⟨_,l,_⟩ | e
  ·exact Nat.ne_of_gt (Nat.lt_of_lt_of_le (fl b hb) (Nat.le_trans hlo l))
  ·exact (f b hb).2.2.2.2.1 x c e⟩
 bs:=I.bs
 bsz:=Nat.le_trans I.ok.bsz I.sz
 noex:=fun b o e hb => by
  rcases (f b hb).2.2.2.1 with z | z
  ·exact I.ok.noex b o e z
  ·exact absurd (Nat.lt_of_lt_of_le (Heap.lt_size e) I.ok.bsz) (Nat.not_lt.mpr z)
 exfs:=fun b hb hz => by
  rcases List.mem_cons.mp (I.stkSub b hz) with e | e
  ·exact (f b hb).2.1 e
  ·exact (f b hb).2.2.1 e
 funs:=I.stack
 frf:=I.stkFree
theorem j3l {nw : List (Str × Addr)} {lo : Nat} {h1 : Heap} {tk : Nat} {m : Str -> Option Value} (I : Inv X pins σ H s) (S : q5h X.env.scope X.N N' js scope) (f : ∀ b ∈ fp,z3p X pins H b) (fl : ∀ b ∈ fp,b < s.heap.objs.size) (hC : s.heap.objs.size <= C) (L : j8w h1 lo scope.names nw) (hlo : s.heap.objs.size <= lo)
  (c1 : ∀ x c,cl.lookup x = some c -> X.env.cells.lookup x = some c) (c2 : ∀ y ∈ scope.names,y.2 = .free -> ∃ c,cl.lookup y.1 = some c)
  (kept : ∀ b o,s.heap.get? b = some o -> h1.get? b = some o) (ns : h1.Ns C m) : Inv (q4l X N' scope ⟨C,s,H,fp,nw ++ cl⟩) [] (q9r js σ) H { s with heap:=h1,toks:=tk } where
 ok:=j7x I S f fl hC L hlo c1 c2
 os:=rfl
 bare:=I.bare
 base:=Un.kept kept
 loc:=by
  refine ⟨m,ns,fun i x v e1 e2 e3 => ?_⟩
  have e2' : (q9r js σ)[i]? = some (some v):=e2
  unfold q9r at e2'
  rw [List.getElem?_map] at e2'
  cases hj : js[i]? with
  | none => rw [hj] at e2'; cases e2'
  | some oj =>
   rw [hj] at e2'
   cases oj with
   | none => cases (Option.some.inj e2')
   | some j =>
    have e4 : (σ[j]?).join = some v:=Option.some.inj e2'
    have e5 : σ[j]? = some (some v):=by
     cases q : σ[j]? with
     | none => rw [q] at e4; cases e4
     | some z => rw [q] at e4; exact congrArg some e4
    obtain ⟨hN,hfr⟩:=S.at e1 hj
    have hk:=S.free (x,.free) (PySem.mem_of_lookup hfr) rfl
    obtain ⟨m0,_,hl⟩:=I.loc
    obtain ⟨u,r,l⟩:=hl j x v hN e5 (.inr hk)
    refine ⟨u,r,.inr ⟨q9a hfr,?_⟩⟩
    rcases l with ⟨q,_⟩ | ⟨_,c,ec,o,ho,hd⟩
    ·have q' : X.env.scope.names.lookup x = some .local:=q
     rcases hk with z | z <;> (rw [q'] at z; cases z)
    ·obtain ⟨c',hc'⟩:=c2 (x,.free) (PySem.mem_of_lookup hfr) rfl
     have:=c1 x c' hc'
     rw [ec] at this
     cases this
     have hno : nw.lookup x = none:=by
      cases q : nw.lookup x with
      | none => rfl
      | some d =>
       obtain ⟨y,hy,e1,e2⟩:=L.nm x d (PySem.mem_of_lookup q)
       have:=S.cells y hy e2
       rw [e1,hfr] at this
       cases this
     exact ⟨c,by show (nw ++ cl).lookup x = some c; rw [List.lookup_append,hno]; exact hc',o,kept _ _ ho,hd⟩
 cell:=fun x c e => by
  rcases q5p c1 L e with ⟨_,_,q⟩ | e
  ·exact ⟨none,q⟩
  ·obtain ⟨v,o,ho,hd⟩:=I.cell x c e
   exact ⟨v,o,kept _ _ ho,hd⟩
 free:=I.hok.fresh hC
 freeC:=fun x c e => by
  rcases q5p c1 L e with ⟨_,l,_⟩ | e
  ·exact I.hok.fresh (Nat.le_trans hlo l)
  ·exact I.freeC x c e
 pin:=fun p hp => absurd hp (by simp [q4l])
 hok:=I.hok.kept kept
 len:=by
  show (q9r js σ).length = N'.length
  unfold q9r
  rw [List.length_map,S.len]
end
def j5a (X : Cx) (ifs : List Expr) (t : TT) : Prop :=
 ∀ (pins : List (Addr × Obj)) (s : Shared) (σ : St) (H : Hp) (Q : Bool -> Hp -> Prop),Inv X pins σ H s -> t σ H Q →
  wpAny (model X.prog X.w) X.A (forIn ifs true fun c r => if r = true then do let ok ← isTrue c X.env (eval c X.env); pure (ForInStep.yield ok) else pure (ForInStep.yield r)) (TP X pins σ Q) X.xe s
def w2g : TT:=fun _ H Q => Q true H
theorem k7g {X : Cx} : j5a X [] w2g:=fun _ _ _ H _ I h => wpAny_tests_nil ⟨H,I,h⟩
theorem k7s {X : Cx} {c : Expr} {t : TT} (h : PT X c t) : j5a X [c] t:=fun pins s σ H Q I q => wpAny_tests_one (h pins s σ H Q I q)
theorem k0h {M : Model} {A : Around} {E : Value -> Shared -> Prop} {s : Shared} {scope : Scope} {globals : Addr} {closure : List (Str × Addr)} {qual : Str} {outer : Env} {Q : Env -> Shared -> Prop}
  (hQ : Q (newEnv scope s.heap.objs.size globals (cellsFrom (s.heap.objs.size + 1) scope.names closure) qual none .none (some outer) builtinsNs) { s with heap:=pushCells (s.heap.push { cls:=.type "dict",data:=.dict #[] }) scope.names }) :
  wpAny M A (newFunctionEnv scope globals closure [] qual none .none (some outer)) Q E s:=by
 simp only [newFunctionEnv,Option.isSome_some,if_true]
 refine wpAny_bind (wpAny_alloc ?_)
 refine wpAny_bind (wpAny_layCells _ (fun name kind cells => by cases hkc : kind == NameKind.cell <;> simp [hkc]) _ _ _ _ ?_)
 rw [show ({ s with heap:=s.heap.push { cls:=.type "dict",data:=.dict #[] } } : Shared).heap.objs.size = s.heap.objs.size + 1 from Heap.size_push ..]
 refine wpAny_bind ?_
 rw [List.forIn_nil]
 exact wpAny_pure (wpAny_pure hQ)
def z7f (J : It) (js : List (Option Nat)) (g : Bk -> TG) (tt : Bk -> TT) (te : Bk -> TE) (σ : St) (H1 : Hp) (Q : VK) (b : Bk) : Prop:=∃ W : Nat -> Nat -> List V -> St -> Hp -> Prop,
 (∃ m,W 0 m [] (q9r js σ) H1) /\ ∀ i m ys σ H,W i m ys σ H →
  (J.stop i H /\ ys.length <= sizeLine /\ ∀ p,H p = none -> Q (.ref p) (upd H p (.lst ys))) ∨
  (J.go i H /\ ys.length < sizeLine /\ ∃ N : List V -> St -> Hp -> Prop,(∀ ys' σ' H',N ys' σ' H' -> ∃ m',m' < m /\ W (i + 1) m' ys' σ' H') /\ ∀ x H',J.yld i H x H' -> g b x σ H' fun σ2 H2 => tt b σ2 H2 fun k H3 =>
   if k = true then te b σ2 H3 fun y H4 => N (ys ++ [y]) σ2 H4 else N ys σ2 H3)
def j0r (wi : TI) (js : List (Option Nat)) (g : Bk -> TG) (tt : Bk -> TT) (te : Bk -> TE) : TE:=fun σ H Q => wi σ H fun J H1 => ∀ b : Bk,z7f J js g tt te σ H1 Q b
section
variable {X : Cx} {elt tg iter : Expr} {ifs : List Expr} {scope : Scope} {pos : Pos} {wi : TI} {g : Bk -> TG} {tt : Bk -> TT} {te : Bk -> TE} {N' : List Str} {js : List (Option Nat)}
theorem z5f {pins : List (Addr × Obj)} {σ : St} {H : Hp} {s : Shared} {it : Addr} {fp : List Addr} {tn : Nat -> Heap -> Prop} {J : It} {cl : List (Str × Addr)} {Q : VK} {RR : Value -> Addr -> Result -> Shared -> Prop} {E : Value -> Shared -> Prop}
  (hc : X.calm = true) (S : q5h X.env.scope X.N N' js scope) (hg : ∀ b,PG (q4l X N' scope b) tg (g b)) (hif : ∀ b,j5a (q4l X N' scope b) ifs (tt b)) (he : ∀ b,PE (q4l X N' scope b) elt (te b))
  (c1 : ∀ x c,cl.lookup x = some c -> X.env.cells.lookup x = some c) (c2 : ∀ y ∈ scope.names,y.2 = .free -> ∃ c,cl.lookup y.1 = some c)
  (I : Inv X pins σ H s) (T : k4u X.prog X.w X.K tg J fp it tn) (st : tn 0 s.heap) (f : ∀ b ∈ fp,z3p X pins H b)
  (h : ∀ b : Bk,z7f J js g tt te σ H Q b)
  (fin : ∀ D C H' s' m,Inv X pins σ H' s' -> s'.heap.Ns C m -> z3p X pins H' C -> Q (.ref D) H' -> RR (.ref D) C (.ok .next) s') :
  wpAny (model X.prog X.w) X.A (newList []) (fun acc s₃ => wpAny (model X.prog X.w) X.A (newFunctionEnv scope X.env.globals cl [] X.env.qual none .none (some X.env)) (fun cenv s₄ =>
   codeAny (model X.prog X.w) X.A (.compStart (.ListComp elt [⟨tg,iter,ifs,0⟩] scope pos) 0 (.ref it) acc { cenv with scope:=relabel scope X.env }) (RR acc cenv.locals) s₄) E s₃) E s:=by
 have fl : ∀ b ∈ fp,b < s.heap.objs.size:=fun b hb => by
  obtain ⟨o,e,_⟩:=T.obj _ _ st b hb
  exact Heap.lt_size e
 refine wpAny_newObj_type (k0h ?_)
 dsimp only
 generalize hH2 : s.heap.push { cls:=.type "list",dict:=none,data:=.seq ([] : List Value).toArray } = H2
 have hC : H2.objs.size = s.heap.objs.size + 1:=by rw [<- hH2,Heap.size_push]
 have hDC : s.heap.objs.size ≠ H2.objs.size:=by rw [hC]; exact Nat.ne_of_lt (Nat.lt_succ_self _)
 have hCle : s.heap.objs.size <= H2.objs.size:=by rw [hC]; exact Nat.le_succ _
 have hsz3 : (H2.push { cls:=.type "dict",data:=.dict #[] }).objs.size = H2.objs.size + 1:=Heap.size_push ..
 have L : j8w (pushCells (H2.push { cls:=.type "dict",data:=.dict #[] }) scope.names) (H2.objs.size + 1) scope.names (cellsFrom (H2.objs.size + 1) scope.names []):=by
  rw [<- hsz3]; exact j1v _ _
 have hlo : s.heap.objs.size <= H2.objs.size + 1:=Nat.le_succ_of_le hCle
 have hns₁ : (pushCells (H2.push { cls:=.type "dict",data:=.dict #[] }) scope.names).Ns H2.objs.size (fun _ => none):=by
  obtain ⟨o,es,ep,e,q⟩:=Heap.Ns.new H2 (.type "dict")
  exact ⟨o,es,ep,pushCells_keeps _ _ _ _ e,q⟩
 have old : ∀ b o,s.heap.get? b = some o -> (pushCells (H2.push { cls:=.type "dict",data:=.dict #[] }) scope.names).get? b = some o:=fun b o e => pushCells_keeps _ _ _ _ (Heap.get?_push_of_some _ (hH2 ▸ Heap.get?_push_of_some _ e))
 have hacc : (pushCells (H2.push { cls:=.type "dict",data:=.dict #[] }) scope.names).get? s.heap.objs.size = some { cls:=.type "list",data:=.seq ([] : List Value).toArray }:=pushCells_keeps _ _ _ _ (Heap.get?_push_of_some _ (hH2 ▸ Heap.get?_push_size _ rfl))
 rw [q9u]
 generalize hnw : cellsFrom (H2.objs.size + 1) scope.names [] = nw at L ⊢
 generalize hh1 : pushCells (H2.push { cls:=.type "dict",data:=.dict #[] }) scope.names = h₁ at L hns₁ old hacc ⊢
 obtain ⟨W,⟨m0,w0⟩,turn⟩:=h ⟨H2.objs.size,s,H,fp,nw ++ cl⟩
 have ne_fp : ∀ b ∈ fp,b ≠ s.heap.objs.size:=fun b hb => Nat.ne_of_lt (fl b hb)
 have ne_fpC : ∀ b ∈ fp,b ≠ H2.objs.size:=fun b hb => Nat.ne_of_lt (Nat.lt_of_lt_of_le (fl b hb) hCle)
 have cellNe : ∀ x c,(nw ++ cl).lookup x = some c -> c ≠ s.heap.objs.size:=fun x c e => by
  rcases q5p c1 L e with ⟨_,l,_⟩ | e
  ·exact Nat.ne_of_gt (Nat.lt_of_lt_of_le (by rw [hC]; omega) l)
  ·obtain ⟨v,q⟩:=I.cell x c e
   exact Nat.ne_of_lt q.lt
 have I1 : Inv (q4l X N' scope ⟨H2.objs.size,s,H,fp,nw ++ cl⟩) [] (q9r js σ) H { s with heap:=h₁,toks:=s.toks }:=j3l I S f fl hCle L hlo c1 c2 old hns₁
 have stat : ∀ {pl : List (Addr × Obj)} {H' : Hp},(∀ b ∈ fp,H' b = none) -> (∀ p ∈ pl,p.1 ∉ fp) -> ∀ b ∈ fp,z3p (q4l X N' scope ⟨H2.objs.size,s,H,fp,nw ++ cl⟩) pl H' b:=fun {pl H'} hn hp b hb =>
  ⟨hn b hb,ne_fpC b hb,fun z => by
   rcases List.mem_cons.mp (I.stkSub b z) with e | e
   ·exact (f b hb).2.1 e
   ·exact (f b hb).2.2.1 e,.inl hb,fun x c e => (by
    rcases q5p c1 L e with ⟨_,l,_⟩ | e
    ·exact Nat.ne_of_gt (Nat.lt_of_lt_of_le (fl b hb) (Nat.le_trans hlo l))
    ·exact (f b hb).2.2.2.2.1 x c e),fun p hpp z => hp p (by simpa [q4l] using hpp) (by rw [z]; exact hb)⟩
 have loop : ∀ s₃ : Shared,s₃ = { s with heap:=h₁,toks:=s.toks } →
   codeAny (model X.prog X.w) X.A (.compLoop (.ListComp elt [⟨tg,iter,ifs,0⟩] scope pos) 0 (.ref it) (.ref s.heap.objs.size) (compEnvC scope (nw ++ cl) H2.objs.size X.env)) (RR (.ref s.heap.objs.size) H2.objs.size) s₃:=by
  rintro s₃ rfl
  refine z3r (fun n s' => ∃ i σ' H' ys its k,Inv (q4l X N' scope ⟨H2.objs.size,s,H,fp,nw ++ cl⟩) [] σ' H' s' /\ tn i s'.heap /\ (∀ b ∈ fp,H' b = none) /\ H' s.heap.objs.size = none ∧
   s'.heap.get? s.heap.objs.size = some { cls:=.type "list",data:=.seq (its : List Value).toArray k } /\ q3w ys its /\ W i n ys σ' H') ?_ m0
   ⟨0,_,H,[],[],_,I1,T.keep _ _ _ st fun b hb o e => old b o e,fun b hb => (f b hb).1,I.hok.fresh (Nat.le_refl _),hacc,.nil,w0⟩
  rintro n s2 ⟨i,σ2,G2,ys,its,k,I2,st2,fr2,fD2,hD2,rv2,w2⟩
  have I2p : Inv (q4l X N' scope ⟨H2.objs.size,s,H,fp,nw ++ cl⟩) [(s.heap.objs.size,{ cls:=.type "list",data:=.seq its.toArray k })] σ2 G2 s2:=I2.pins_of fun p hp => by
   have e : p = (s.heap.objs.size,{ cls:=.type "list",data:=.seq its.toArray k }):=by simpa using hp
   subst e
   refine ⟨hD2,fD2,hDC,fun z => ?_,fun v z => by cases z⟩
   have z' : s.heap.objs.size ∈ frs X.stack:=z
   rcases List.mem_cons.mp (I.stkSub _ z') with e | e
   ·exact absurd I.lt (by rw [<- e]; exact Nat.lt_irrefl _)
   ·exact I.nofs (Nat.le_refl _) e
  have offp : ∀ p ∈ [(s.heap.objs.size,({ cls:=.type "list",data:=.seq its.toArray k } : Obj))],p.1 ∉ fp:=fun p hp hz => by
   have e : p = (s.heap.objs.size,{ cls:=.type "list",data:=.seq its.toArray k }):=by simpa using hp
   subst e
   exact ne_fp _ hz rfl
  rcases turn i n ys σ2 G2 w2 with ⟨stop,hlen,hQ⟩ | ⟨go,hlen,N,hN,step⟩
  ·refine thn (T.done (q4l X N' scope ⟨H2.objs.size,s,H,fp,nw ++ cl⟩) rfl rfl rfl hc i _ s2 σ2 G2 _ I2p (stat fr2 offp) st2 stop) fun r s4 ⟨hr,I4⟩ => ?_
   subst hr
   have hD4:=(I4.pin (s.heap.objs.size,{ cls:=.type "list",data:=.seq its.toArray k }) (by simp [q4l])).1
   obtain ⟨m4,ns4,_⟩:=I4.loc
   have fC4 : G2 H2.objs.size = none:=I4.free
   have u4 : Un (frs X.stack) fp H G2 s.heap s4.heap:=I4.base
   have hok4 : HOk X.prog X.w G2 s4.heap:=I4.hok
   have ltD : ∀ b o,s.heap.get? b = some o -> b ≠ s.heap.objs.size:=fun b o e => Nat.ne_of_lt (Heap.lt_size e)
   refine fin _ _ (upd G2 s.heap.objs.size (.lst ys)) s4 m4 (I.call' (ch:=fp) I4.os ⟨u4.keep,u4.slot,fun b o e n hx => ?_,u4.there,fun b xs e => ?_,fun b o u e => ?_,fun b ps e => ?_⟩ (fun b u e => ?_) I4.bare fun b hb => ?_) ns4 ?_ (hQ _ fD2)
   ·rw [q1y (ltD b o e)]; exact u4.free b o e n hx
   ·rw [q1y (q3g (u4.tups b xs e) fD2)]; exact u4.tups b xs e
   ·rw [q1y (q3g (u4.frzs b o u e) fD2)]; exact u4.frzs b o u e
   ·obtain ⟨more,q⟩:=u4.tbls b ps e
    exact ⟨more,by rw [q1y (q3g q fD2)]; exact q⟩
   ·by_cases hb : b = s.heap.objs.size
    ·subst hb
     rw [q2f] at e
     cases e
     exact ⟨hlen,its,k,rv2,hD4⟩
    ·rw [q1y hb] at e
     exact (hok4 b u e).stay (fun c v _ q => q) (fun c q => by rw [q1y (q3g q fD2)]; exact q) fun c xs q => by rw [q1y (q3g q fD2)]; exact q
   ·obtain ⟨f0,f1,f2,f3,f4,f5⟩:=f b hb
    exact ⟨f3,f1,f4,f5⟩
   ·refine ⟨?_,fun z => ?_,I.nofs hCle,.inr (Nat.le_trans I.sz hCle),fun x c e z => ?_,fun p hp z => ?_⟩
    ·rw [q1y (Ne.symm hDC)]; exact fC4
    ·have:=I.lt
     rw [<- z] at this
     exact absurd this (Nat.not_lt.mpr hCle)
    ·obtain ⟨v,q⟩:=I.cell x c e
     have:=q.lt
     rw [z] at this
     exact absurd this (Nat.not_lt.mpr hCle)
    ·have:=Heap.lt_size (I.pin p hp).1
     rw [z] at this
     exact absurd this (Nat.not_lt.mpr hCle)
  ·refine thn (T.item (q4l X N' scope ⟨H2.objs.size,s,H,fp,nw ++ cl⟩) rfl rfl rfl hc i _ s2 σ2 G2 _ I2p (stat fr2 offp) st2 go) fun r s4 ⟨u,hr,h4⟩ => ?_
   subst hr
   refine thn h4 fun _ s5 ⟨x,H5,I5,r5,y5,st5,fr5⟩ => ?_
   have I5':=I5.pinned (stat fr5 offp) (T.obj _ _ st5)
   refine thn (hg ⟨H2.objs.size,s,H,fp,nw ++ cl⟩ _ s5 σ2 H5 x u _ I5' r5 (step x H5 y5)) fun _ s6 ⟨σ6,H6,I6,q6⟩ => ?_
   refine thn (hif ⟨H2.objs.size,s,H,fp,nw ++ cl⟩ _ s6 σ6 H6 _ I6 q6) fun ok s7 ⟨H7,I7,q7⟩ => ?_
   have fixD : ∀ {σ' : St} {H' : Hp} {s' : Shared},Inv (q4l X N' scope ⟨H2.objs.size,s,H,fp,nw ++ cl⟩) ([(s.heap.objs.size,{ cls:=.type "list",data:=.seq its.toArray k })] ++ z5k fp s5.heap) σ' H' s' →
     s'.heap.get? s.heap.objs.size = some { cls:=.type "list",data:=.seq its.toArray k } /\ H' s.heap.objs.size = none /\ (∀ b ∈ fp,H' b = none) /\ (∀ b ∈ fp,∀ o,s5.heap.get? b = some o -> s'.heap.get? b = some o):=fun {σ' H' s'} J => by
    have pD:=J.pin (s.heap.objs.size,{ cls:=.type "list",data:=.seq its.toArray k }) (by simp [q4l])
    refine ⟨pD.1,pD.2.1,fun b hb => ?_,fun b hb o e => (J.pin (b,o) (List.mem_append_right _ (List.mem_append_right _ (q6y hb e)))).1⟩
    obtain ⟨o,e,d⟩:=T.obj _ _ st5 b hb
    exact (J.pin (b,o) (List.mem_append_right _ (List.mem_append_right _ (q6y hb e)))).2.1
   cases ok with
   | false =>
    obtain ⟨m',hm,w7⟩:=hN _ _ _ q7
    obtain ⟨a1,a2,a3,a4⟩:=fixD I7
    exact ⟨m',hm,i + 1,σ6,H7,ys,its,k,I7.pins_of fun p hp => absurd hp (by simp),T.keep _ _ _ st5 a4,a3,a2,a1,rv2,w7⟩
   | true =>
    refine thn (he ⟨H2.objs.size,s,H,fp,nw ++ cl⟩ _ s7 σ6 H7 _ I7 q7) fun yv s8 ⟨y,H8,I8,r8,q8⟩ => ?_
    obtain ⟨m',hm,w8⟩:=hN _ _ _ q8
    obtain ⟨a1,a2,a3,a4⟩:=fixD I8
    have hl:=rv2.length
    refine call_meets F.slot_list_append ⟨_,a1,rfl⟩ F.entry_list_append (F.args_list_append_2 _ _) (PySem.list_append s.heap.objs.size its.toArray k yv (by rw [List.size_toArray]; omega)) ⟨a1,?_⟩
    have e9 : its.toArray.push yv = (its ++ [yv]).toArray:=by simp
    have q9:=PySem.IsL.update a1 (·.push yv)
    rw [e9] at q9
    refine ⟨m',hm,i + 1,σ6,H8,ys ++ [y],its ++ [yv],_,(I8.pins_of (pins':=[]) fun p hp => absurd hp (by simp)).turned (it:=s.heap.objs.size) (fun b o hb e => (Heap.get?_update_other s8.heap (Obj.mapSeq (·.push yv)) (Ne.symm hb)).trans e) a2 hDC (.inr (Nat.le_refl _)) (fun x c e => cellNe x c e) (fun p hp => absurd hp (by simp [q4l])),
     T.keep _ _ _ st5 fun b hb o e => (Heap.get?_update_other s8.heap (Obj.mapSeq (·.push yv)) (Ne.symm (ne_fp b hb))).trans (a4 b hb o e),a3,a2,q9,rv2.append (.cons r8 .nil),w8⟩
 exact codeAny_compStart_list (loop _ rfl) (T.self _ 0 _ _ _ (T.keep _ _ _ st fun b hb o e => old b o e) (loop _ rfl))
theorem j1e (N' : List Str) (js : List (Option Nat)) {osc : Scope} {N : List Str} (S : q5h osc N N' js scope) (hi : PI X tg iter wi) (hg : ∀ b,PG (q4l X N' scope b) tg (g b)) (hif : ∀ b,j5a (q4l X N' scope b) ifs (tt b)) (he : ∀ b,PE (q4l X N' scope b) elt (te b))
  (hc : X.calm = true:=by rfl) (ho : X.env.scope = osc:=by rfl) (hN : X.N = N:=by rfl) (hs : ∀ x,foldedSetIterable iter X.env x = pure x:=by intro _; rfl) : PE X (.ListComp elt [⟨tg,iter,ifs,0⟩] scope pos) (j0r wi js g tt te):=by
 intro pins s σ H Q I h
 subst ho hN
 obtain ⟨cl,hclos,c1,c2⟩:=z1n (env:=X.env) (scope:=scope) fun y hy e => I.ok.has y.1 (S.free y hy e)
 rw [eval_ListComp]
 refine wpAny_comprehension_free (use:=none) rfl hs hclos S.kind S.names (thn (hi pins s σ H _ I h) fun v s1 h1 => thn h1 fun itv s2 h2 => ?_)
 obtain ⟨it,fp,tn,J,H2,rfl,I2,T,st2,f2,R⟩:=h2
 refine z5f (RR:=fun acc C => compPost (model X.prog X.w) X.A X.xe none (EP X pins σ Q) acc C) hc S hg hif he c1 c2 I2 T st2 f2 R ?_
 intro D C H' s' m I' ns f' q
 obtain ⟨g0,g1,g2,g3,g4,g5⟩:=f'
 refine ⟨m,ns,fun h' sb => ⟨.ref D,H',?_,rfl,q⟩⟩
 exact I'.turned (t':=s'.toks) (fun b o hb e => (sb.2 b hb).trans e) g0 g1 g3 g4 g5
theorem z9f {i : Nat} {x : Str} {px spos : Pos} (N' : List Str) (js : List (Option Nat)) {osc : Scope} {N : List Str} (S : q5h osc N N' js scope) (nd : X.N.Nodup) (hx : X.N[i]? = some x) (hl : Loc X.env.scope x)
  (hi : PI X tg iter wi) (hg : ∀ b,PG (q4l X N' scope b) tg (g b)) (hif : ∀ b,j5a (q4l X N' scope b) ifs (tt b)) (he : ∀ b,PE (q4l X N' scope b) elt (te b))
  (hsw : swapsWith (.ListComp elt [⟨tg,iter,ifs,0⟩] scope pos) (some (.Name x px)) spos.line X.env = pure true:=by rfl)
  (hc : X.calm = true:=by rfl) (ho : X.env.scope = osc:=by rfl) (hN : X.N = N:=by rfl) (hs : ∀ x,foldedSetIterable iter X.env x = pure x:=by intro _; rfl)
  (hf : X.fn x = true \/ X.env.scope.names.lookup x = some .local:=by first | exact .inl rfl | exact .inr rfl | assumption) :
  PS X (.Assign [.Name x px] (.ListComp elt [⟨tg,iter,ifs,0⟩] scope pos) spos) (j5x (j0r wi js g tt te) (z9g i)):=by
 intro pins s σ H D I h
 subst ho hN
 obtain ⟨cl,hclos,c1,c2⟩:=z1n (env:=X.env) (scope:=scope) fun y hy e => I.ok.has y.1 (S.free y hy e)
 rw [exec_Assign_Name_used _ _ _ _ hsw]
 refine wpAny_bind (wpAny_standAt (wpAny_bind ?_))
 show wpAny _ X.A (do let _ ← comprehension (.ListComp elt [⟨tg,iter,ifs,0⟩] scope pos) scope X.env _ (newList []) false (eval iter X.env) (some (assign (.Name x px) X.env))) _ _ s
 refine wpAny_bind (wpAny_mono (wpAny_comprehension_free (use:=some (assign (.Name x px) X.env)) (Q:=fun _ s' => SP X pins D .next s') rfl hs hclos S.kind S.names (thn (hi pins s σ H _ I h) fun v s1 h1 => thn h1 fun itv s2 h2 => ?_)) (fun _ s' hq => wpAny_pure (wpAny_pure hq)) fun _ _ e => e)
 obtain ⟨it,fp,tn,J,H2,rfl,I2,T,st2,f2,R⟩:=h2
 refine z5f (Q:=fun v H1 => z9g i v σ H1 D.nx) (RR:=fun acc C => compPost (model X.prog X.w) X.A X.xe (some (assign (.Name x px) X.env)) (fun _ s' => SP X pins D .next s') acc C) hc S hg hif he c1 c2 I2 T st2 f2 R ?_
 intro Dd C H' s' m I' ns f' q
 obtain ⟨g0,g1,g2,g3,g4,g5⟩:=f'
 show wpAny _ X.A (assign (.Name x px) X.env (.ref Dd)) _ _ s'
 refine wpAny_assign_Name (z4g I' nd hx hl (v:=.ref Dd) (u:=.ref Dd) rfl (fun s2' I2' ⟨a,sb,ha⟩ => ?_) hf)
 have hne : C ≠ a:=by
  rcases ha with ha | ha
  ·rw [ha]; exact g1
  ·exact Ne.symm (g4 x a ha)
 refine ⟨m,ns.sameBut sb hne,fun h' sb' => ⟨_,H',?_,q⟩⟩
 exact I2'.turned (t':=s2'.toks) (fun b o hb e => (sb'.2 b hb).trans e) g0 g1 g3 g4 g5
end
end L2
namespace L2
open PySem PySem.Spec PyProof.Rows
mutual
inductive DV (K : PySem.W.Frag) (H : Hp) : V -> PyData -> Prop
 | non : DV K H .non .none
 | bl (b : Bool) : DV K H (.bl b) (.bool b)
 | int (i : Int) : DV K H (.int i) (.int i)
 | str (x : Str) : DV K H (.str x) (.str x)
 | tup {a : Addr} {xs : List V} {ds : List PyData} : SqT K H a xs -> DVs K H xs ds -> DV K H (.ref a) (.tuple ds)
 | lst {a : Addr} {xs : List V} {ds : List PyData} : SqL K H a xs -> DVs K H xs ds -> DV K H (.ref a) (.list ds)
inductive DVs (K : PySem.W.Frag) (H : Hp) : List V -> List PyData -> Prop
 | nil : DVs K H [] []
 | cons {x : V} {xs : List V} {d : PyData} {ds : List PyData} : DV K H x d -> DVs K H xs ds -> DVs K H (x :: xs) (d :: ds)
end
section
variable {X : Cx} {pins : List (Addr × Obj)} {σ : St} {H : Hp} {s : Shared}
mutual
theorem DV.reads (I : Inv X pins σ H s) : ∀ {x : V} {d : PyData} {u : Value},DV X.K H x d -> RelV x u -> ∃ as,Reads s.heap u d as
 | _,_,_,.non,r => by cases r; exact ⟨_,Reads.none⟩
 | _,_,_,.bl b,r => by cases r; exact ⟨_,Reads.bool b⟩
 | _,_,_,.int i,r => by obtain ⟨t,rfl⟩:=r; exact ⟨_,Reads.int i t⟩
 | _,_,_,.str x,r => by obtain ⟨t,rfl⟩:=r; exact ⟨_,Reads.str x t⟩
 | _,_,_,.tup hq hd,r => by
  cases r
  obtain ⟨its,rv,⟨o,e,c,n,d⟩,_⟩:=I.tuple hq
  obtain ⟨as,q⟩:=DVs.reads I hd rv
  exact ⟨as,Reads.tuple e c d (by simpa using q)⟩
 | _,_,_,.lst hq hd,r => by
  cases r
  obtain ⟨its,rv,⟨o,n,e,c,_,d⟩,_⟩:=I.list hq
  obtain ⟨as,q⟩:=DVs.reads I hd rv
  exact ⟨_,Reads.list e c d (by simpa using q)⟩
theorem DVs.reads (I : Inv X pins σ H s) : ∀ {xs : List V} {ds : List PyData} {us : List Value},DVs X.K H xs ds -> q3w xs us -> ∃ as,ReadsAll s.heap us ds as
 | _,_,_,.nil,r => by cases r; exact ⟨_,ReadsAll.nil⟩
 | _,_,_,.cons hd hr,r => by
  cases r with
  | cons r1 r2 =>
   obtain ⟨as,q⟩:=DV.reads I hd r1
   obtain ⟨bs,p⟩:=DVs.reads I hr r2
   exact ⟨_,ReadsAll.cons q p⟩
end
end
def w4z (K : PySem.W.Frag) : R2:=fun x y H Q => ∃ d e,DV K H x d /\ DV K H y e /\ SeqAt.shaped d = true /\ SeqAt.shaped e = true /\ Q (.bl (PyData.eqv d e)) H
def w4h (K : PySem.W.Frag) : R2:=fun x y H Q => ∃ d e,DV K H x d /\ DV K H y e /\ SeqAt.shaped d = true /\ SeqAt.shaped e = true /\ Q (.bl (!PyData.eqv d e)) H
def w3n (K : PySem.W.Frag) (neg : Bool) : R2:=fun x y H Q => ∃ d ds,DV K H x d /\ (DV K H y (.list ds) \/ DV K H y (.tuple ds)) /\ PyData.canLayAll0 ds = true /\ SeqAt.shaped d = true ∧
 Q (.bl (if neg then !(ds.any fun z => PyData.eqv z d) else ds.any fun z => PyData.eqv z d)) H
section
variable {X : Cx}
theorem j5v (hu : X.A.units + 64 < cLine) : OpR X (compareOp .Eq) (w4z X.K):=by
 intro pins s σ H x y v u Q I rx ry h
 obtain ⟨d,e,h1,h2,s1,s2,q⟩:=h
 obtain ⟨as,r1⟩:=h1.reads I rx
 obtain ⟨bs,r2⟩:=h2.reads I ry
 exact eq_dataH r1 r2 s1 s2 hu ⟨.bl _,H,I,rfl,q⟩
theorem j8u (hu : X.A.units + 64 < cLine) : OpR X (compareOp .NotEq) (w4h X.K):=by
 intro pins s σ H x y v u Q I rx ry h
 obtain ⟨d,e,h1,h2,s1,s2,q⟩:=h
 obtain ⟨as,r1⟩:=h1.reads I rx
 obtain ⟨bs,r2⟩:=h2.reads I ry
 exact ne_dataH r1 r2 s1 s2 hu ⟨.bl _,H,I,rfl,q⟩
theorem j8h (hu : X.A.units + 66 < cLine) : OpR X (compareOp .In) (w3n X.K false):=by
 intro pins s σ H x y v u Q I rx ry h
 obtain ⟨d,ds,h1,h2,s1,s2,q⟩:=h
 obtain ⟨as,r1⟩:=h1.reads I rx
 have hd:=SeqAt.depth_of_shaped s2
 have hm:=Nat.min_le_right (PyData.depthAll ds) d.depth
 have room : X.A.units + 1 + min (PyData.depthAll ds) d.depth < cLine:=by omega
 rcases h2 with h2 | h2
 ·obtain ⟨bs,r2⟩:=h2.reads I ry
  exact SeqAt.in_list_reads r2 r1 s1 (SeqAt.canLay_of_shaped s2) room ⟨.bl _,H,I,rfl,q⟩
 ·obtain ⟨bs,r2⟩:=h2.reads I ry
  exact SeqAt.in_tuple_reads r2 r1 s1 (SeqAt.canLay_of_shaped s2) room ⟨.bl _,H,I,rfl,q⟩
theorem w3r {A : Around} {k : Nat} (hr : z1a k A) : A.units + 66 < cLine:=by have:=hr.un; omega
end
end L2
namespace L2
open PySem PySem.Spec PyProof.Rows
local macro_rules | `(tactic| walk_at "rd") => `(tactic| repeat (first
 | refine ⟨_,rfl,?_⟩
 | refine ⟨_,_,rfl,rfl,?_⟩
 | refine ⟨rfl,?_⟩
 | refine ⟨⟨by decide,by decide⟩,?_⟩
 | refine ⟨.inr ⟨by decide,by decide⟩,?_⟩
 | refine ⟨.inl ⟨by decide,by decide⟩,?_⟩
 | refine ⟨(by show (0 : Int) < _; decide),?_⟩))
theorem q1w {H : Hp} {p : Addr} (h : H p = none) (o : HO) : q2h H (upd H p o):=fun b u q => by rw [q1y (q3g q h)]; exact q
theorem q2h.sqT {K : PySem.W.Frag} {H H' : Hp} {a : Addr} {xs : List V} (e : q2h H H') (h : SqT K H a xs) : SqT K H' a xs:=by
 rcases h with (h | ⟨o,h⟩) | h
 ·exact .inl (.inl (e _ _ h))
 ·exact .inl (.inr ⟨o,e _ _ h⟩)
 ·exact .inr h
end L2
set_option maxHeartbeats 8000000
namespace L2
open PySem PySem.Spec PyProof.Rows
section
variable {κ : Type} [DecidableEq κ]
def q7o (kvs : List (κ × V)) (k : κ) : Option V:=(kvs.find? fun kv => decide (kv.1 = k)).map (·.2)
def q6c (kvs : List (κ × V)) (k : κ) (v : V) : List (κ × V) :=
 if (kvs.any fun kv => decide (kv.1 = k)) = true then kvs.map (fun kv => if kv.1 = k then (kv.1,v) else kv) else kvs ++ [(k,v)]
theorem q6g {p : κ × V} {r : List (κ × V)} {k : κ} (e : p.1 = k) : q7o (p :: r) k = some p.2:=by simp [q7o,List.find?_cons,e]
theorem q6f {p : κ × V} {r : List (κ × V)} {k : κ} (e : ¬ p.1 = k) : q7o (p :: r) k = q7o r k:=by simp [q7o,List.find?_cons,e]
theorem z8m (k : κ) : ∀ kvs : List (κ × V),(kvs.any fun kv => decide (kv.1 = k)) = (q7o kvs k).isSome
 | [] => rfl
 | p :: r => by
  rw [List.any_cons]
  by_cases e : p.1 = k
  ·simp only [q6g e,decide_eq_true e,Bool.true_or,Option.isSome_some]
  ·rw [q6f e,decide_eq_false e,Bool.false_or]; exact z8m k r
theorem q7l (kvs : List (κ × V)) (k : κ) (v : V) : (q6c kvs k v).length <= kvs.length + 1:=by
 unfold q6c
 split
 ·rw [List.length_map]; omega
 ·rw [List.length_append,List.length_cons,List.length_nil]; omega
theorem z9l.isSome_eq {o : Option V} {u : Option Value} (r : z9l o u) : o.isSome = u.isSome:=by
 cases o with
 | none => cases u with
  | none => rfl
  | some _ => exact (show False from r).elim
 | some _ => cases u with
  | none => exact (show False from r).elim
  | some _ => rfl
theorem z9l.getD {o : Option V} {u : Option Value} {d : V} {d' : Value} (r : z9l o u) (rd : RelV d d') : RelV (o.getD d) (u.getD d'):=by
 cases o with
 | none => cases u with
  | none => exact rd
  | some _ => exact (show False from r).elim
 | some _ => cases u with
  | none => exact (show False from r).elim
  | some _ => exact r
theorem KV.val {kvs : List (κ × V)} {vs : List (κ × Value)} (r : KV kvs vs) (k : κ) : z9l (q7o kvs k) (valueAt vs k):=by
 unfold KV at r
 induction r with
 | nil => exact True.intro
 | @cons p q ps qs h t ih =>
  obtain ⟨h1,h2⟩:=h
  by_cases e : p.1 = k
  ·have e' : q.1 = k:=h1.symm.trans e
   have b : valueAt (q :: qs) k = some q.2:=by simp [valueAt,List.find?_cons,e']
   rw [q6g e,b]; exact h2
  ·have e' : ¬ q.1 = k:=fun z => e (h1.trans z)
   have b : valueAt (q :: qs) k = valueAt qs k:=by simp [valueAt,List.find?_cons,e']
   rw [q6f e,b]; exact ih
theorem KV.any {kvs : List (κ × V)} {vs : List (κ × Value)} (r : KV kvs vs) (k : κ) : (kvs.any fun kv => decide (kv.1 = k)) = vs.any fun kv => decide (kv.1 = k):=by
 unfold KV at r
 induction r with
 | nil => rfl
 | cons h t ih => rw [List.any_cons,List.any_cons,ih,h.1]
theorem KV.repl {kvs : List (κ × V)} {vs : List (κ × Value)} (r : KV kvs vs) (k : κ) {y : V} {u : Value} (ry : RelV y u) :
  KV (kvs.map fun kv => if kv.1 = k then (kv.1,y) else kv) (vs.map fun kv => if kv.1 = k then (kv.1,u) else kv):=by
 unfold KV at r ⊢
 induction r with
 | nil => exact .nil
 | @cons p q ps qs h t ih =>
  rw [List.map_cons,List.map_cons]
  refine .cons ?_ ih
  obtain ⟨h1,h2⟩:=h
  by_cases e : p.1 = k
  ·rw [if_pos e,if_pos (h1.symm.trans e)]; exact ⟨h1,ry⟩
  ·rw [if_neg e,if_neg (fun z => e (h1.trans z))]; exact ⟨h1,h2⟩
theorem KV.put {kvs : List (κ × V)} {vs : List (κ × Value)} (r : KV kvs vs) (k : κ) {y : V} {u : Value} (ry : RelV y u) : KV (q6c kvs k y) (stored vs k u):=by
 unfold q6c stored
 rw [r.any k]
 by_cases e : (vs.any fun kv => decide (kv.1 = k)) = true
 ·rw [if_pos e,if_pos e]; exact r.repl k ry
 ·rw [if_neg e,if_neg e]; exact Paired.snoc r ⟨rfl,ry⟩
theorem KV.length {kvs : List (κ × V)} {vs : List (κ × Value)} (r : KV kvs vs) : kvs.length = vs.length:=Paired.length r
end
theorem z6t {P : Program} {w : World} {k : Key} {u : Value} (r : RelV (kV k) u) : (q3l P w).is k u = true:=by
 cases k with
 | inl i => obtain ⟨t,e⟩:=(show ∃ t,u = Value.int i t from r); subst e; exact z6j P w i t
 | inr x => obtain ⟨t,e⟩:=(show ∃ t,u = Value.str x t from r); subst e; exact z7a P w x t
theorem z0j {P : Program} {w : World} : ∀ {ks : List Key} {us : List Value},q3w (ks.map kV) us -> ItemsAre (q3l P w) ks us
 | [],_,r => by rw [List.map_nil] at r; cases r; exact .nil
 | k :: ks,_,r => by
  rw [List.map_cons] at r
  cases r with
  | cons h t => exact .cons (z6t h) (z0j t)
abbrev KT (H : Hp) : List (List Key × V) -> List (List Key × Addr × Value) -> Prop:=Paired fun p q => p.1 = q.1 /\ H q.2.1 = some (.tup (p.1.map kV)) /\ RelV p.2 q.2.2
theorem KT.val {H : Hp} {kvs : List (List Key × V)} {xs : List (List Key × Addr × Value)} (r : KT H kvs xs) (k : List Key) : z9l (q7o kvs k) ((atKey xs k).map (·.2)):=by
 induction r with
 | nil => exact True.intro
 | @cons p q ps qs h t ih =>
  obtain ⟨h1,_,h2⟩:=h
  by_cases e : p.1 = k
  ·have e' : q.1 = k:=h1.symm.trans e
   have b : atKey (q :: qs) k = some q.2:=by simp [atKey,List.find?_cons,e']
   rw [q6g e,b]; exact h2
  ·have e' : ¬ q.1 = k:=fun z => e (h1.trans z)
   have b : atKey (q :: qs) k = atKey qs k:=by simp [atKey,List.find?_cons,e']
   rw [q6f e,b]; exact ih
theorem KT.repl {H : Hp} {kvs : List (List Key × V)} {xs : List (List Key × Addr × Value)} (r : KT H kvs xs) (k : List Key) {y : V} {u : Value} (ry : RelV y u) :
  KT H (kvs.map fun kv => if kv.1 = k then (kv.1,y) else kv) (xs.map (putAt k u)):=by
 induction r with
 | nil => exact .nil
 | @cons p q ps qs h t ih =>
  rw [List.map_cons,List.map_cons]
  refine .cons ?_ ih
  obtain ⟨h1,h2,h3⟩:=h
  unfold putAt
  by_cases e : p.1 = k
  ·rw [if_pos e,if_pos (h1.symm.trans e)]; exact ⟨h1,h2,ry⟩
  ·rw [if_neg e,if_neg (fun z => e (h1.trans z))]; exact ⟨h1,h2,h3⟩
theorem KT.put {H : Hp} {kvs : List (List Key × V)} {xs : List (List Key × Addr × Value)} (r : KT H kvs xs) (k : List Key) {b : Addr} {y : V} {u : Value} (hb : H b = some (.tup (k.map kV))) (ry : RelV y u) :
  KT H (q6c kvs k y) (storedH xs k b u):=by
 have e : (kvs.any fun kv => decide (kv.1 = k)) = (atKey xs k).isSome:=by
  rw [z8m,(r.val k).isSome_eq,Option.isSome_map]
 unfold q6c storedH
 rw [e]
 by_cases q : (atKey xs k).isSome = true
 ·rw [if_pos q,if_pos q]; exact r.repl k ry
 ·rw [if_neg q,if_neg q]; exact Paired.snoc r ⟨rfl,hb,ry⟩
theorem KT.keeps {H H' : Hp} {kvs : List (List Key × V)} {xs : List (List Key × Addr × Value)} (r : KT H kvs xs) (ht : ∀ b ys,H b = some (.tup ys) -> H' b = some (.tup ys)) : KT H' kvs xs :=
 Paired.mapP r fun _ _ z => ⟨z.1,ht _ _ z.2.1,z.2.2⟩
section
variable {P : Program} {w : World} {H : Hp} {h : Heap} {a : Addr}
theorem j6u {u : HO} (ok : HOk P w H h) (e : Rd H a u) : q5a P w H h a u:=e.ok ok
theorem z6c {kvs : List (Key × V)} (ok : HOk P w H h) (e : Rd H a (.dK kvs)) : kvs.length <= sizeLine /\ (a == sysModules) = false /\ ∃ vs,KV kvs vs /\ h.DictOf (q3l P w) a vs :=
 show q5a P w H h a (.dK kvs) from j6u ok e
theorem j6l {kvs : List (Key × V)} (ok : HOk P w H h) (e : H a = some (.dK kvs)) : kvs.length <= sizeLine /\ (a == sysModules) = false /\ ∃ vs,KV kvs vs /\ h.DictOf (q3l P w) a vs:=z6c ok (.inl e)
theorem z1e {ks : List Key} (ok : HOk P w H h) (e : H a = some (.tup (ks.map kV))) : (tupleKind (q3l P w)).is h ks a:=by
 obtain ⟨_,its,r,o,h1,h2,n,h3⟩:=(show q5a P w H h a (.tup (ks.map kV)) from ok a _ e)
 exact ⟨o,its.toArray,n,h1,h2,h3,by simpa using z0j r⟩
theorem z0y {kvs : List (List Key × V)} (ok : HOk P w H h) (e : Rd H a (.dT kvs)) : kvs.length <= sizeLine /\ (a == sysModules) = false ∧
  ∃ xs,KT H kvs xs /\ h.DictOfH (tupleKind (q3l P w)) a xs:=by
 obtain ⟨z,y,xs,r,o,es,ep,h1,h2,h3,h4,h5⟩:=(show q5a P w H h a (.dT kvs) from j6u ok e)
 refine ⟨z,y,xs,r,o,es,ep,h1,h2,h3,h4,fun x hx => ?_,h5⟩
 have all : ∀ {l : List (List Key × V)} {m : List (List Key × Addr × Value)},KT H l m -> ∀ x ∈ m,(tupleKind (q3l P w)).is h x.1 x.2.1:=by
  intro l m q
  induction q with
  | nil => intro x hx; exact nomatch hx
  | @cons p q ps qs hq t ih =>
   intro x hx
   rcases List.mem_cons.mp hx with e | hx
   ·subst e
    exact z1e ok (by rw [<- hq.1]; exact hq.2.1)
   ·exact ih x hx
 exact all r x hx
theorem w2i {kvs : List (List Key × V)} (ok : HOk P w H h) (e : H a = some (.dT kvs)) : kvs.length <= sizeLine /\ (a == sysModules) = false ∧
  ∃ xs,KT H kvs xs /\ h.DictOfH (tupleKind (q3l P w)) a xs:=z0y ok (.inl e)
end
def k0q (H : Hp) (a : Addr) (y : V) (r : Option V) : Prop :=
 (∃ kvs k,Rd H a (.dK kvs) /\ y = kV k /\ r = q7o kvs k) \/ ∃ kvs k b,Rd H a (.dT kvs) /\ y = .ref b /\ H b = some (.tup (k.map kV)) /\ r = q7o kvs k
def k8a (H : Hp) (a : Addr) (y v : V) (H' : Hp) : Prop :=
 (∃ kvs k,H a = some (.dK kvs) /\ y = kV k /\ kvs.length < sizeLine /\ H' = upd H a (.dK (q6c kvs k v))) ∨
 ∃ kvs k b,H a = some (.dT kvs) /\ y = .ref b /\ H b = some (.tup (k.map kV)) /\ kvs.length < sizeLine /\ H' = upd H a (.dT (q6c kvs k v))
theorem k8a.k {H : Hp} {a : Addr} {kvs : List (Key × V)} {k : Key} {v : V} (e : H a = some (.dK kvs)) (hl : kvs.length < sizeLine) : k8a H a (kV k) v (upd H a (.dK (q6c kvs k v))):=.inl ⟨kvs,k,e,rfl,hl,rfl⟩
theorem k8a.t {H : Hp} {a b : Addr} {kvs : List (List Key × V)} {k : List Key} {v : V} (e : H a = some (.dT kvs)) (eb : H b = some (.tup (k.map kV))) (hl : kvs.length < sizeLine) :
  k8a H a (.ref b) v (upd H a (.dT (q6c kvs k v))):=.inr ⟨kvs,k,b,e,rfl,eb,hl,rfl⟩
section
variable {X : Cx} {pins : List (Addr × Obj)} {σ : St} {H : Hp} {s : Shared} {a : Addr} {y v : V} {u r : Value} {o : Option V} {A : Around} {E : Value -> Shared -> Prop}
theorem Inv.big (I : Inv X pins σ H s) : sysModules < s.heap.objs.size:=by
 have h : mainGlobals < s.heap.objs.size:=(I.mod.glob.keeps I.bk).lt
 exact Nat.lt_trans (by decide) h
theorem k4b {Q : Value -> Shared -> Prop} (hu : A.units + 1 < cLine) (I : Inv X pins σ H s) (g : k0q H a y (some v)) (ry : RelV y u) (h : ∀ w' s',Inv X pins σ H s' -> RelV v w' -> Q w' s') :
  wpAny (model X.prog X.w) A (getItem (.ref a) u) Q E s:=by
 rcases g with ⟨kvs,k,e,ey,l⟩ | ⟨kvs,k,b,e,ey,eb,l⟩
 ·subst ey
  obtain ⟨z,hd,vs,rel,dd⟩:=z6c I.hok e
  obtain ⟨w',hw,rw'⟩:=z9l.some_of (v:=v) (o:=valueAt vs k) (by rw [l]; exact rel.val k)
  exact wpAny_getItem_of (z6t ry) dd.mapOf hw (h w' _ (I.tok _) rw')
 ·subst ey
  cases (show u = Value.ref b from ry)
  obtain ⟨z,hd,xs,rel,dd⟩:=z0y I.hok e
  obtain ⟨w',hw,rw'⟩:=z9l.some_of (v:=v) (o:=(atKey xs k).map (·.2)) (by rw [l]; exact rel.val k)
  obtain ⟨p,hp,hp2⟩:=Option.map_eq_some_iff.mp hw
  refine wpAny_getItem_heap (tupleKind_room_in1 hu) (z1e I.hok eb) dd hp ?_
  rw [hp2]
  exact h w' _ (I.tok _) rw'
theorem w4u {Q : Value -> Shared -> Prop} (hu : A.units + 1 < cLine) (I : Inv X pins σ H s) (g : k0q H a y o) (ry : RelV y u) (h : ∀ s',Inv X pins σ H s' -> Q (.bool o.isSome) s') :
  wpAny (model X.prog X.w) A (compareOp .In u (.ref a)) Q E s:=by
 rcases g with ⟨kvs,k,e,ey,l⟩ | ⟨kvs,k,b,e,ey,eb,l⟩
 ·subst ey
  obtain ⟨z,hd,vs,rel,dd⟩:=z6c I.hok e
  refine wpAny_in_of (z6t ry) hd dd.mapOf ?_
  rw [<- (rel.val k).isSome_eq,<- l]
  exact h _ (I.tok _)
 ·subst ey
  cases (show u = Value.ref b from ry)
  obtain ⟨z,hd,xs,rel,dd⟩:=z0y I.hok e
  refine wpAny_in_heap (tupleKind_room_in1 hu) (z1e I.hok eb) hd dd ?_
  have q:=(rel.val k).isSome_eq
  rw [Option.isSome_map] at q
  rw [<- q,<- l]
  exact h _ (I.tok _)
theorem z6e {h' : Heap} {t' : Nat} {ob : HO} (I : Inv X pins σ H s) (mu : Mut (H a)) (hs : Heap.SameBut a s.heap h') (he : ∃ q,h'.get? a = some q) (new : q5a X.prog X.w (upd H a ob) h' a ob) :
  Inv X pins σ (upd H a ob) { s with heap:=h',toks:=t' } :=
 I.write (x:=a) (e:=a) mu (.inl rfl) (fun b q hb z => (hs.2 b hb).trans z) he new
theorem k9l {P : Program} {w : World} {H' : Hp} {h' : Heap} {kvs : List (Key × V)} {vs : List (Key × Value)} (z : kvs.length <= sizeLine) (hd : (a == sysModules) = false) (rel : KV kvs vs) (dd : h'.DictOf (q3l P w) a vs) :
  q5a P w H' h' a (.dK kvs):=⟨z,hd,vs,rel,dd⟩
theorem k1d {H' : Hp} {Q : Unit -> Shared -> Prop} (hu : A.units + 1 < cLine) (I : Inv X pins σ H s) (g : k8a H a y v H') (ry : RelV y u) (rv : RelV v r) (h : ∀ s',Inv X pins σ H' s' -> Q () s') :
  wpAny (model X.prog X.w) A (setItem (.ref a) u r) Q E s:=by
 rcases g with ⟨kvs,k,e,ey,l,eH⟩ | ⟨kvs,k,b,e,ey,eb,l,eH⟩
 ·subst ey eH
  obtain ⟨z,hd,vs,rel,dd⟩:=j6l I.hok e
  have hz : vs.length <= sizeLine:=by rw [<- rel.length]; exact z
  have hl : (q6c kvs k v).length <= sizeLine:=by have:=q7l kvs k v; omega
  refine wpAny_setItem_pairs (hsz:=hz) (z6t ry) dd fun h' dd' hs => h _ ?_
  have he : ∃ q,h'.get? a = some q:=let ⟨q,_,_,hq,_⟩:=dd'; ⟨q,hq⟩
  exact z6e I (by rw [e]; exact True.intro) hs he (k9l hl hd (rel.put k rv) dd')
 ·subst ey eH
  cases (show u = Value.ref b from ry)
  obtain ⟨z,hd,xs,rel,dd⟩:=w2i I.hok e
  have hz : xs.length <= sizeLine:=by rw [<- Paired.length rel]; exact z
  have hl : (q6c kvs k v).length <= sizeLine:=by have:=q7l kvs k v; omega
  refine wpAny_setItem_heap (hsz:=hz) (tupleKind_room_in1 hu) (z1e I.hok eb) dd fun h' dd' hs => h _ ?_
  obtain ⟨q,es,ep,hq,h2,h3,h4,_,h5⟩:=dd'
  refine z6e I (by rw [e]; exact True.intro) hs ⟨q,hq⟩ ⟨hl,hd,_,(rel.put k eb rv).keeps fun c ys ec => ?_,q,es,ep,hq,h2,h3,h4,h5⟩
  rw [q1y (w1i ec e (fun z => nomatch z))]
  exact ec
end
theorem z6z {X : Cx} {pins : List (Addr × Obj)} {σ : St} {H : Hp} {s : Shared} {a : Addr} {y : V} {o : Option V} (I : Inv X pins σ H s) (g : k0q H a y o) : s.TypeIs (.ref a) "dict":=by
 rcases g with ⟨kvs,k,e,_,_⟩ | ⟨kvs,k,b,e,_,_,_⟩
 ·obtain ⟨_,_,vs,_,dd⟩:=z6c I.hok e
  exact dd.typeIs
 ·obtain ⟨_,_,xs,_,dd⟩:=z0y I.hok e
  exact dd.typeIs
def w1t (td ty tv : TE) : TS:=fun D σ H => tv σ H fun v H1 => td σ H1 fun x H2 => ty σ H2 fun y H3 => ∃ a H4,x = .ref a /\ k8a H3 a y v H4 /\ D.nx σ H4
section
variable {X : Cx} {o i e value : Expr} {pos pos' tpos : Pos} {td ty tv : TE}
theorem z6x (hu : X.A.units + 1 < cLine) (ho : PE X o td) (hi : PE X i ty) (hv : PE X value tv) (hs : swapsWith value (some (.Subscript o i pos')) pos.line X.env = pure false) :
  PS X (.Assign [.Subscript o i pos'] value pos) (w1t td ty tv):=by
 intro pins s σ H D I h
 refine wpAny_Assign_Subscript (thn (hv pins s σ H _ I h) fun r s1 ⟨v,H1,I1,rv,q1⟩ => thn (ho pins s1 σ H1 _ I1 q1) fun u s2 ⟨x,H2,I2,rx,q2⟩ => thn (hi pins s2 σ H2 _ I2 q2) fun iv s3 ⟨y,H3,I3,ry,a,H4,ex,g,q3⟩ => ?_) hs
 subst ex
 obtain rfl : u = Value.ref a:=rx
 exact k1d hu I3 g ry rv fun s4 I4 => ⟨σ,H4,I4,q3⟩
end
theorem z8d {P : Program} {w : World} {H : Hp} (h : Heap) (hb : sysModules < h.objs.size) : q5a P w H (h.push { cls:=.type "dict",data:=.dict #[] }) h.objs.size (.dK []) :=
 ⟨Nat.zero_le _,beq_eq_false_iff_ne.mpr (Ne.symm (Nat.ne_of_lt hb)),[],.nil,Heap.DictOf.new h⟩
theorem k7w {P : Program} {w : World} {H : Hp} (h : Heap) (hb : sysModules < h.objs.size) : q5a P w H (h.push { cls:=.type "dict",data:=.dict #[] }) h.objs.size (.dT []) :=
 ⟨Nat.zero_le _,beq_eq_false_iff_ne.mpr (Ne.symm (Nat.ne_of_lt hb)),[],.nil,_,#[],0,Heap.get?_push_size _ rfl,⟨rfl,rfl,rfl⟩,rfl,rfl,List.nodup_nil⟩
def j9v : TE:=fun _ H Q => ∀ p,H p = none -> Q (.ref p) (upd H p (.dK []))
def j5n : TE:=fun _ H Q => ∀ p,H p = none -> Q (.ref p) (upd H p (.dT []))
section
variable {X : Cx} {pos : Pos}
theorem k7x : PE X (.Dict [] [] pos) j9v:=fun pins s σ H Q I h =>
 wpAny_Dict_empty ⟨.ref s.heap.objs.size,_,I.laid (a:=s.heap.objs.size) (o:=.dK []) (t':=s.toks) (fun _ _ q => Heap.get?_push_of_some _ q) (Nat.le_refl _) (z8d s.heap I.big),rfl,h _ (I.hok.fresh (Nat.le_refl _))⟩
theorem k5s : PE X (.Dict [] [] pos) j5n:=fun pins s σ H Q I h =>
 wpAny_Dict_empty ⟨.ref s.heap.objs.size,_,I.laid (a:=s.heap.objs.size) (o:=.dT []) (t':=s.toks) (fun _ _ q => Heap.get?_push_of_some _ q) (Nat.le_refl _) (k7w s.heap I.big),rfl,h _ (I.hok.fresh (Nat.le_refl _))⟩
end
def z8r : List (TE × TE) -> St -> Hp -> (List (V × V) -> Hp -> Prop) -> Prop
 | [],_,H,Q => Q [] H
 | (tk,tv) :: r,σ,H,Q => tk σ H fun x H1 => tv σ H1 fun y H2 => z8r r σ H2 fun ps H3 => Q ((x,y) :: ps) H3
abbrev VV : List (V × V) -> List (Value × Value) -> Prop:=Paired fun p q => RelV p.1 q.1 /\ RelV p.2 q.2
def PPs (X : Cx) (pos : Pos) (keys : List (Option Expr)) (values : List Expr) (trs : List (TE × TE)) : Prop :=
 ∀ (pins : List (Addr × Obj)) (s : Shared) (σ : St) (H : Hp) (Q : List (V × V) -> Hp -> Prop),Inv X pins σ H s -> z8r trs σ H Q →
  wpAny (model X.prog X.w) X.A (evalPairs (pairTrees keys values X.env pos)) (fun vs s' => ∃ ps H',Inv X pins σ H' s' /\ VV ps vs /\ Q ps H') X.xe s
theorem j4o {X : Cx} {pos : Pos} : PPs X pos [] [] []:=fun pins s σ H Q I h => pairTrees_nil_walk ⟨[],H,I,.nil,h⟩
theorem k7o {X : Cx} {pos : Pos} {k v : Expr} {ks : List (Option Expr)} {vs : List Expr} {tk tv : TE} {trs : List (TE × TE)} (hk : PE X k tk) (hv : PE X v tv) (hr : PPs X pos ks vs trs) :
  PPs X pos (some k :: ks) (v :: vs) ((tk,tv) :: trs):=fun pins s σ H Q I h =>
 pairTrees_cons_walk (thn (hk pins s σ H _ I h) fun u s1 ⟨x,H1,I1,rx,q1⟩ => thn (hv pins s1 σ H1 _ I1 q1) fun w2 s2 ⟨y,H2,I2,ry,q2⟩ =>
  thn (hr pins s2 σ H2 _ I2 q2) fun ws s3 ⟨ps,H3,I3,rel,q3⟩ => ⟨(x,y) :: ps,H3,I3,.cons ⟨rx,ry⟩ rel,q3⟩)
def q7d (kvs more : List (Key × V)) : List (Key × V):=more.foldl (fun acc kv => q6c acc kv.1 kv.2) kvs
theorem KV.merge : ∀ {more : List (Key × V)} {rs : List (Key × Value)} {kvs : List (Key × V)} {vs : List (Key × Value)},KV more rs -> KV kvs vs -> KV (q7d kvs more) (merged vs rs):=by
 intro more rs kvs vs r
 unfold KV at r
 induction r generalizing kvs vs with
 | nil => intro q; exact q
 | @cons p q ps qs h t ih =>
  intro r0
  have e : KV (q6c kvs p.1 p.2) (stored vs q.1 q.2):=by
   have:=r0.put p.1 h.2
   rw [<- h.1]; exact this
  exact ih e
theorem q8b : ∀ (more kvs : List (Key × V)),(q7d kvs more).length <= kvs.length + more.length
 | [],kvs => by show kvs.length <= kvs.length + 0; omega
 | p :: r,kvs => by
  have h1:=q8b r (q6c kvs p.1 p.2)
  have h2:=q7l kvs p.1 p.2
  show (q7d (q6c kvs p.1 p.2) r).length <= _
  rw [List.length_cons]; omega
theorem z1h {P : Program} {w : World} : ∀ {kvs : List (Key × V)} {ws : List (Value × Value)},VV (kvs.map fun kv => (kV kv.1,kv.2)) ws -> ∃ rs,Carries (q3l P w) ws rs /\ KV kvs rs
 | [],_,r => by rw [List.map_nil] at r; cases r; exact ⟨[],True.intro,.nil⟩
 | p :: kvs,_,r => by
  rw [List.map_cons] at r
  cases r with
  | @cons a b as bs h t =>
   obtain ⟨rs,c,q⟩:=z1h (P:=P) (w:=w) t
   obtain ⟨b1,b2⟩:=b
   exact ⟨(p.1,b2) :: rs,⟨z6t h.1,rfl,c⟩,.cons ⟨rfl,h.2⟩ q⟩
def w1d (trs : List (TE × TE)) : TE:=fun σ H Q => ∀ p,H p = none -> z8r trs σ (upd H p (.dK [])) fun ps H2 => H2 p = some (.dK []) /\ ∃ kvs : List (Key × V),ps = kvs.map (fun kv => (kV kv.1,kv.2)) /\ kvs.length <= 15 /\ Q (.ref p) (upd H2 p (.dK (q7d [] kvs)))
theorem j4g {X : Cx} {pos : Pos} {keys : List (Option Expr)} {values : List Expr} {trs : List (TE × TE)} (h : PPs X pos keys values trs) (hall : keys.all (·.isSome) = true) (hl : keys.length = values.length) (h0 : keys ≠ [])
  (h15 : keys.length <= 15) : PE X (.Dict keys values pos) (w1d trs):=by
 intro pins s σ H Q I q
 have hn:=I.hok.fresh (Nat.le_refl s.heap.objs.size)
 have I1:=I.laid (a:=s.heap.objs.size) (o:=.dK []) (h':=s.heap.push { cls:=.type "dict",data:=.dict #[] }) (t':=s.toks) (fun _ _ q => Heap.get?_push_of_some _ q) (Nat.le_refl _) (z8d s.heap I.big)
 refine wpAny_Dict_walk (knd:=q3l X.prog X.w) hall hl h0 h15 (thn (h pins _ σ _ _ I1 (q _ hn)) fun ws s2 ⟨ps,H2,I2,rel,e,kvs,ep,lk,q2⟩ => ?_)
 subst ep
 obtain ⟨rs,c,rk⟩:=z1h (P:=X.prog) (w:=X.w) rel
 obtain ⟨z,hd,vs0,r0,dd⟩:=j6l I2.hok e
 cases r0
 refine ⟨rs,c,dd,fun h' dd' hs => ⟨.ref s.heap.objs.size,_,?_,rfl,q2⟩⟩
 have hz : (q7d [] kvs).length <= sizeLine:=by
  have h1:=q8b kvs []
  rw [List.length_nil] at h1
  rw [sizeLine_eq]; omega
 have he : ∃ q,h'.get? s.heap.objs.size = some q:=let ⟨q,_,_,hq,_⟩:=dd'; ⟨q,hq⟩
 exact z6e I2 (by rw [e]; exact True.intro) hs he (k9l hz hd (rk.merge .nil) dd')
structure M1 (X : Cx) (o : Expr) (m : Str) (apos : Pos) (e : Expr) (cpos : Pos) : Prop where
 base : attributeBase o m X.env (eval o X.env) = eval o X.env
 few : ((backTo cpos (starEach [e] X.env)).all (fun x => !x.1) && (backToKw cpos (keywordEach [] X.env)).all (fun x => x.1.isSome)
  && decide (([e] : List Expr).length + ([] : List Keyword).length + (if ([] : List Keyword).isEmpty then 0 else 1) < 30)) = true
 line : (apos.endLine == cpos.line) = true
 trees : backTo cpos (starEach [e] X.env) = [(false,eval e X.env)]
structure M2 (X : Cx) (o : Expr) (m : Str) (apos : Pos) (e f : Expr) (cpos : Pos) : Prop where
 base : attributeBase o m X.env (eval o X.env) = eval o X.env
 few : ((backTo cpos (starEach [e,f] X.env)).all (fun x => !x.1) && (backToKw cpos (keywordEach [] X.env)).all (fun x => x.1.isSome)
  && decide (([e,f] : List Expr).length + ([] : List Keyword).length + (if ([] : List Keyword).isEmpty then 0 else 1) < 30)) = true
 line : (apos.endLine == cpos.line) = true
 trees : backTo cpos (starEach [e,f] X.env) = [(false,eval e X.env),(false,eval f X.env)]
def IsD (H : Hp) (a : Addr) : Prop:=(∃ kvs,Rd H a (.dK kvs)) \/ ∃ kvs,Rd H a (.dT kvs)
theorem k3y {X : Cx} {pins : List (Addr × Obj)} {σ : St} {H : Hp} {s : Shared} {a : Addr} (I : Inv X pins σ H s) (d : IsD H a) :
  s.TypeIs (.ref a) "dict" /\ (∀ b,Value.ref a = .ref b -> ∃ ob,s.heap.get? b = some ob /\ ob.dict = none) /\ (a == sysModules) = false:=by
 rcases d with ⟨kvs,e⟩ | ⟨kvs,e⟩
 ·obtain ⟨_,hd,vs,_,dd⟩:=z6c I.hok e
  refine ⟨dd.typeIs,fun b q => ?_,hd⟩
  cases q
  obtain ⟨ob,_,_,h1,h2,_⟩:=dd
  exact ⟨ob,h1,h2.2.1⟩
 ·obtain ⟨_,hd,xs,_,dd⟩:=z0y I.hok e
  refine ⟨dd.typeIs,fun b q => ?_,hd⟩
  cases q
  obtain ⟨ob,_,_,h1,h2,_⟩:=dd
  exact ⟨ob,h1,h2.2.1⟩
section
variable {X : Cx} {pins : List (Addr × Obj)} {σ : St} {H : Hp} {s : Shared} {a : Addr} {y d : V} {u r : Value} {o : Option V} {A : Around} {E : Value -> Shared -> Prop}
theorem j5l {Q : Value -> Shared -> Prop} (hu : A.units + 1 < cLine) (I : Inv X pins σ H s) (g : k0q H a y o) (ry : RelV y u) (h : ∀ w' s',Inv X pins σ H s' -> RelV (o.getD .non) w' -> Q w' s') :
  wpAny (model X.prog X.w) A (call (.builtin "dict.get") [.ref a,u]) Q E s:=by
 rcases g with ⟨kvs,k,e,ey,l⟩ | ⟨kvs,k,b,e,ey,eb,l⟩
 ·subst ey
  obtain ⟨z,hd,vs,rel,dd⟩:=z6c I.hok e
  refine call_meetsIn PySem.F.slot_dict_get dd.typeIs PySem.F.entry_dict_get (PySem.F.args_dict_get_2 _ _) (meets_dict_get (q3l X.prog X.w) a (z6t ry) hd) ⟨_,dd.mapOf,h _ _ (I.tok _) ?_⟩
  rw [l]
  exact (rel.val k).getD rfl
 ·subst ey
  cases (show u = Value.ref b from ry)
  obtain ⟨z,hd,xs,rel,dd⟩:=z0y I.hok e
  refine call_meetsIn PySem.F.slot_dict_get dd.typeIs PySem.F.entry_dict_get (PySem.F.args_dict_get_2 _ _) (meetsH_dict_get (tupleKind (q3l X.prog X.w)) a b hd) ⟨tupleKind_room_in1 hu,k,xs,z1e I.hok eb,dd,h _ _ (I.tok _) ?_⟩
  rw [l]
  exact (rel.val k).getD rfl
theorem j8i {Q : Value -> Shared -> Prop} (hu : A.units + 1 < cLine) (I : Inv X pins σ H s) (g : k0q H a y o) (ry : RelV y u) (rd : RelV d r) (h : ∀ w' s',Inv X pins σ H s' -> RelV (o.getD d) w' -> Q w' s') :
  wpAny (model X.prog X.w) A (call (.builtin "dict.get") [.ref a,u,r]) Q E s:=by
 rcases g with ⟨kvs,k,e,ey,l⟩ | ⟨kvs,k,b,e,ey,eb,l⟩
 ·subst ey
  obtain ⟨z,hd,vs,rel,dd⟩:=z6c I.hok e
  refine call_meetsIn PySem.F.slot_dict_get dd.typeIs PySem.F.entry_dict_get (PySem.F.args_dict_get_3 _ _ _) (meets_dict_get_default (q3l X.prog X.w) a (z6t ry) hd r) ⟨_,dd.mapOf,h _ _ (I.tok _) ?_⟩
  rw [l]
  exact (rel.val k).getD rd
 ·subst ey
  cases (show u = Value.ref b from ry)
  obtain ⟨z,hd,xs,rel,dd⟩:=z0y I.hok e
  refine call_meetsIn PySem.F.slot_dict_get dd.typeIs PySem.F.entry_dict_get (PySem.F.args_dict_get_3 _ _ _) (meetsH_dict_get_default (tupleKind (q3l X.prog X.w)) a b hd r) ⟨tupleKind_room_in1 hu,k,xs,z1e I.hok eb,dd,h _ _ (I.tok _) ?_⟩
  rw [l]
  exact (rel.val k).getD rd
end
def j9y (td ty : TE) : TE:=fun σ H Q => td σ H fun x H1 => ∃ a,x = .ref a /\ IsD H1 a /\ ty σ H1 fun y H2 => ∃ o,k0q H2 a y o /\ Q (o.getD .non) H2
def j6t (td ty tx : TE) : TE:=fun σ H Q => td σ H fun x H1 => ∃ a,x = .ref a /\ IsD H1 a /\ ty σ H1 fun y H2 => tx σ H2 fun z H3 => ∃ o,k0q H3 a y o /\ Q (o.getD z) H3
section
variable {X : Cx} {o e f : Expr} {apos cpos : Pos} {td ty tx : TE}
theorem z7t (hu : X.A.units + 1 < cLine) (ho : PE X o td) (he : PE X e ty) (m : M1 X o "get" apos e cpos) : PE X (.Call (.Attribute o "get" apos) [e] [] cpos) (j9y td ty):=by
 intro pins s σ H Q I h
 refine wpAny_Call_method m.base m.few m.line PySem.F.plainAttrs_dict PySem.F.slot_dict_get PySem.F.type_dict_get (thn (ho pins s σ H _ I h) fun u s1 ⟨x,H1,I1,rx,a,ex,d,q1⟩ => ?_)
 subst ex
 obtain rfl : u = Value.ref a:=rx
 obtain ⟨t1,t2,_⟩:=k3y I1 d
 refine ⟨t1,t2,?_⟩
 rw [m.trees]
 refine Calls.callWith_builtin rfl (Calls.evalArgs_plain (Calls.spliced_cons (thn (he pins s1 σ H1 _ I1 q1) fun iv s2 ⟨y,H2,I2,ry,ov,g,q2⟩ => Calls.spliced_nil ?_)))
 exact j5l hu I2 g ry fun w' s3 I3 rw' => ⟨_,H2,I3,rw',q2⟩
theorem k5e (hu : X.A.units + 1 < cLine) (ho : PE X o td) (he : PE X e ty) (hf : PE X f tx) (m : M2 X o "get" apos e f cpos) : PE X (.Call (.Attribute o "get" apos) [e,f] [] cpos) (j6t td ty tx):=by
 intro pins s σ H Q I h
 refine wpAny_Call_method m.base m.few m.line PySem.F.plainAttrs_dict PySem.F.slot_dict_get PySem.F.type_dict_get (thn (ho pins s σ H _ I h) fun u s1 ⟨x,H1,I1,rx,a,ex,d,q1⟩ => ?_)
 subst ex
 obtain rfl : u = Value.ref a:=rx
 obtain ⟨t1,t2,_⟩:=k3y I1 d
 refine ⟨t1,t2,?_⟩
 rw [m.trees]
 refine Calls.callWith_builtin rfl (Calls.evalArgs_plain (Calls.spliced_cons (thn (he pins s1 σ H1 _ I1 q1) fun iv s2 ⟨y,H2,I2,ry,q2⟩ =>
  Calls.spliced_cons (thn (hf pins s2 σ H2 _ I2 q2) fun fv s3 ⟨z,H3,I3,rz,ov,g,q3⟩ => Calls.spliced_nil ?_))))
 exact j8i hu I3 g ry rz fun w' s4 I4 rw' => ⟨_,H3,I4,rw',q3⟩
end
end L2
namespace DL
open PySem PySem.Spec PyProof.Rows L2
inductive D where
 | non | bl (b : Bool) | int (i : Int) | str (x : Str) | ty (n : String)
 | tup (xs : List D) | lst (xs : List D)
 | dK (ks : List Key) (vs : List D) | dT (ks : List (List Key)) (vs : List D)
 | ins (C : Addr) (ns : List Str) (vs : List D)
def SqP (K : PySem.W.Frag) (H : Hp) (a : Addr) (xs : List V) : Prop:=SqT K H a xs /\ (xs.length = 2 -> H a = some (.tup xs))
theorem SqP.of {K : PySem.W.Frag} {H : Hp} {a : Addr} {xs : List V} (h : H a = some (.tup xs)) : SqP K H a xs:=⟨SqT.of h,fun _ => h⟩
mutual
inductive Rep (K : PySem.W.Frag) (O : Addr -> Prop) (H : Hp) : V -> D -> Prop
 | non : Rep K O H .non .non
 | bl (b : Bool) : Rep K O H (.bl b) (.bl b)
 | int (i : Int) : Rep K O H (.int i) (.int i)
 | str (x : Str) : Rep K O H (.str x) (.str x)
 | ty (n : String) : Rep K O H (.ty n) (.ty n)
 | tup {a : Addr} {xs : List V} {ds : List D} : SqP K H a xs -> q2i K O H xs ds -> Rep K O H (.ref a) (.tup ds)
 | lst {a : Addr} {xs : List V} {ds : List D} : ¬ O a -> Rd H a (.lst xs) -> q2i K O H xs ds -> Rep K O H (.ref a) (.lst ds)
 | lstM {a : Addr} {xs : List V} {ds : List D} : SqL K (fun _ => none) a xs -> q2i K O H xs ds -> Rep K O H (.ref a) (.lst ds)
 | dK {a : Addr} {kvs : List (Key × V)} {ds : List D} : ¬ O a -> Rd H a (.dK kvs) -> q2i K O H (kvs.map (·.2)) ds -> Rep K O H (.ref a) (.dK (kvs.map (·.1)) ds)
 | dT {a : Addr} {kvs : List (List Key × V)} {ds : List D} : ¬ O a -> Rd H a (.dT kvs) -> q2i K O H (kvs.map (·.2)) ds -> Rep K O H (.ref a) (.dT (kvs.map (·.1)) ds)
 | ins {a C dx : Addr} {fs : List (Str × V)} {ds : List D} : ¬ O a -> H a = some (.ins C dx fs) -> q2i K O H (fs.map (·.2)) ds -> Rep K O H (.ref a) (.ins C (fs.map (·.1)) ds)
inductive q2i (K : PySem.W.Frag) (O : Addr -> Prop) (H : Hp) : List V -> List D -> Prop
 | nil : q2i K O H [] []
 | cons {x : V} {xs : List V} {d : D} {ds : List D} : Rep K O H x d -> q2i K O H xs ds -> q2i K O H (x :: xs) (d :: ds)
end
inductive Top (K : PySem.W.Frag) (O : Addr -> Prop) (H : Hp) : V -> D -> Prop
 | lst {a : Addr} {xs : List V} {ds : List D} : SqL K H a xs -> q2i K O H xs ds -> Top K O H (.ref a) (.lst ds)
 | dK {a : Addr} {kvs : List (Key × V)} {ds : List D} : Rd H a (.dK kvs) -> q2i K O H (kvs.map (·.2)) ds -> Top K O H (.ref a) (.dK (kvs.map (·.1)) ds)
 | dT {a : Addr} {kvs : List (List Key × V)} {ds : List D} : Rd H a (.dT kvs) -> q2i K O H (kvs.map (·.2)) ds -> Top K O H (.ref a) (.dT (kvs.map (·.1)) ds)
def k0l (K : PySem.W.Frag) (P O : Addr -> Prop) (H : Hp) (v : V) (d : D) : Prop:=Rep K O H v d \/ ∃ b,v = .ref b /\ P b /\ Top K O H v d
abbrev q4b (K : PySem.W.Frag) (O : Addr -> Prop) (H : Hp) (v : V) (d : D) : Prop:=k0l K O O H v d
inductive q8f (K : PySem.W.Frag) (O : Addr -> Prop) (H : Hp) (a : Addr) : D -> Prop
 | lst {xs : List V} {ds : List D} : H a = some (.lst xs) -> q2i K O H xs ds -> q8f K O H a (.lst ds)
 | dK {kvs : List (Key × V)} {ds : List D} : H a = some (.dK kvs) -> q2i K O H (kvs.map (·.2)) ds -> q8f K O H a (.dK (kvs.map (·.1)) ds)
 | dT {kvs : List (List Key × V)} {ds : List D} : H a = some (.dT kvs) -> q2i K O H (kvs.map (·.2)) ds -> q8f K O H a (.dT (kvs.map (·.1)) ds)
section
variable {K : PySem.W.Frag} {O O' : Addr -> Prop} {H H' : Hp}
theorem Rd.same {a : Addr} {u : HO} (e : q2h H H') (h : Rd H a u) : Rd H' a u:=by
 rcases h with h | ⟨o,h⟩
 ·exact .inl (e _ _ h)
 ·exact .inr ⟨o,e _ _ h⟩
def Kept (O : Addr -> Prop) (H H' : Hp) : Prop:=∀ b o,H b = some o -> ¬ O b -> H' b = some o
theorem Kept.rd {a : Addr} {u : HO} (e : Kept O H H') (n : ¬ O a) (h : Rd H a u) : Rd H' a u:=by
 rcases h with h | ⟨o,h⟩
 ·exact .inl (e _ _ h n)
 ·exact .inr ⟨o,e _ _ h n⟩
def q8a (O : Addr -> Prop) (H : Hp) : Prop:=∀ a,O a -> Mut (H a)
theorem q8a.rdT {a : Addr} {xs : List V} (m : q8a O H) (h : Rd H a (.tup xs)) : ¬ O a:=fun z => by
 have:=m a z
 rcases h with h | ⟨o,h⟩ <;> (rw [h] at this; exact this)
theorem Rd.some {a : Addr} {u : HO} (h : Rd H a u) : H a ≠ none:=by
 rcases h with h | ⟨o,h⟩ <;> (rw [h]; intro z; cases z)
theorem k8m {a : Addr} {xs : List V} (m : q8a O H) (e : Kept O H H') (h : SqT K H a xs) : SqT K H' a xs:=by
 rcases h with h | h
 ·exact .inl (e.rd (m.rdT h) h)
 ·exact .inr h
theorem k6v {a : Addr} {xs : List V} (m : q8a O H) (e : Kept O H H') (h : SqP K H a xs) : SqP K H' a xs:=⟨k8m m e h.1,fun l => e _ _ (h.2 l) (m.rdT (.inl (h.2 l)))⟩
mutual
theorem Rep.move (m : q8a O H) (e : Kept O H H') (n : ∀ b,O' b -> O b \/ H b = none) : ∀ {v : V} {d : D},Rep K O H v d -> Rep K O' H' v d
 | _,_,.non => .non
 | _,_,.bl b => .bl b
 | _,_,.int i => .int i
 | _,_,.str x => .str x
 | _,_,.ty x => .ty x
 | _,_,.tup h r => .tup (k6v m e h) (q2i.move m e n r)
 | _,_,.lst a h r => .lst (fun z => by rcases n _ z with z | z; exact a z; exact Rd.some h z) (e.rd a h) (q2i.move m e n r)
 | _,_,.lstM h r => .lstM h (q2i.move m e n r)
 | _,_,.dK a h r => .dK (fun z => by rcases n _ z with z | z; exact a z; exact Rd.some h z) (e.rd a h) (q2i.move m e n r)
 | _,_,.dT a h r => .dT (fun z => by rcases n _ z with z | z; exact a z; exact Rd.some h z) (e.rd a h) (q2i.move m e n r)
 | _,_,.ins a h r => .ins (fun z => by rcases n _ z with z | z; exact a z; rw [h] at z; cases z) (e _ _ h a) (q2i.move m e n r)
theorem q2i.move (m : q8a O H) (e : Kept O H H') (n : ∀ b,O' b -> O b \/ H b = none) : ∀ {v : List V} {d : List D},q2i K O H v d -> q2i K O' H' v d
 | _,_,.nil => .nil
 | _,_,.cons h r => .cons (Rep.move m e n h) (q2i.move m e n r)
end
theorem k3o (e : q2h H H') : Kept O H H':=fun b o h _ => e b o h
mutual
theorem Rep.same (e : q2h H H') : ∀ {v : V} {d : D},Rep K O H v d -> Rep K O H' v d
 | _,_,.non => .non
 | _,_,.bl b => .bl b
 | _,_,.int i => .int i
 | _,_,.str x => .str x
 | _,_,.ty x => .ty x
 | _,_,.tup h r => .tup ⟨e.sqT h.1,fun l => e _ _ (h.2 l)⟩ (q2i.same e r)
 | _,_,.lst a h r => .lst a (Rd.same e h) (q2i.same e r)
 | _,_,.lstM h r => .lstM h (q2i.same e r)
 | _,_,.dK a h r => .dK a (Rd.same e h) (q2i.same e r)
 | _,_,.dT a h r => .dT a (Rd.same e h) (q2i.same e r)
 | _,_,.ins a h r => .ins a (e _ _ h) (q2i.same e r)
theorem q2i.same (e : q2h H H') : ∀ {v : List V} {d : List D},q2i K O H v d -> q2i K O H' v d
 | _,_,.nil => .nil
 | _,_,.cons h r => .cons (Rep.same e h) (q2i.same e r)
end
mutual
theorem Rep.av (n : ∀ b,O' b -> O b \/ H b = none) : ∀ {v : V} {d : D},Rep K O H v d -> Rep K O' H v d
 | _,_,.non => .non
 | _,_,.bl b => .bl b
 | _,_,.int i => .int i
 | _,_,.str x => .str x
 | _,_,.ty x => .ty x
 | _,_,.tup h r => .tup h (q2i.av n r)
 | _,_,.lst a h r => .lst (fun z => by rcases n _ z with z | z; exact a z; exact Rd.some h z) h (q2i.av n r)
 | _,_,.lstM h r => .lstM h (q2i.av n r)
 | _,_,.dK a h r => .dK (fun z => by rcases n _ z with z | z; exact a z; exact Rd.some h z) h (q2i.av n r)
 | _,_,.dT a h r => .dT (fun z => by rcases n _ z with z | z; exact a z; exact Rd.some h z) h (q2i.av n r)
 | _,_,.ins a h r => .ins (fun z => by rcases n _ z with z | z; exact a z; rw [h] at z; cases z) h (q2i.av n r)
theorem q2i.av (n : ∀ b,O' b -> O b \/ H b = none) : ∀ {v : List V} {d : List D},q2i K O H v d -> q2i K O' H v d
 | _,_,.nil => .nil
 | _,_,.cons h r => .cons (Rep.av n h) (q2i.av n r)
end
theorem q2i.length : ∀ {v : List V} {d : List D},q2i K O H v d -> v.length = d.length
 | _,_,.nil => rfl
 | _,_,.cons _ r => by simp [q2i.length r]
theorem q2i.getD : ∀ {v : List V} {d : List D} {i : Nat} {e : D},q2i K O H v d -> d[i]? = some e -> ∃ x,v[i]? = some x /\ Rep K O H x e
 | _,_,_,_,.nil,h => by simp at h
 | _,_,0,_,.cons h _,e => by simp at e; subst e; exact ⟨_,rfl,h⟩
 | _,_,i + 1,_,.cons _ r,e => by simpa using q2i.getD (i:=i) r (by simpa using e)
theorem q2i.app : ∀ {v w : List V} {d e : List D},q2i K O H v d -> q2i K O H w e -> q2i K O H (v ++ w) (d ++ e)
 | _,_,_,_,.nil,s => s
 | _,_,_,_,.cons h r,s => .cons h (q2i.app r s)
theorem q2i.take : ∀ {v : List V} {d : List D} (n : Nat),q2i K O H v d -> q2i K O H (v.take n) (d.take n)
 | _,_,0,_ => .nil
 | _,_,_ + 1,.nil => .nil
 | _,_,n + 1,.cons h r => .cons h (q2i.take n r)
theorem q2i.drop : ∀ {v : List V} {d : List D} (n : Nat),q2i K O H v d -> q2i K O H (v.drop n) (d.drop n)
 | _,_,0,r => r
 | _,_,_ + 1,.nil => .nil
 | _,_,n + 1,.cons _ r => q2i.drop n r
theorem q2i.eraseIdx : ∀ {v : List V} {d : List D} (i : Nat),q2i K O H v d -> q2i K O H (v.eraseIdx i) (d.eraseIdx i)
 | _,_,_,.nil => .nil
 | _,_,0,.cons _ r => r
 | _,_,i + 1,.cons q r => .cons q (q2i.eraseIdx i r)
theorem q2i.rep {v : List V} {d : List D} (h : q2i K O H v d) : ∀ k : Nat,q2i K O H (List.replicate k v).flatten (List.replicate k d).flatten
 | 0 => .nil
 | k + 1 => by rw [List.replicate_succ,List.replicate_succ,List.flatten_cons,List.flatten_cons]; exact h.app (q2i.rep h k)
theorem Top.same {v : V} {d : D} (e : q2h H H') (h : Top K O H v d) : Top K O H' v d:=by
 cases h with
 | lst h r => exact .lst (e.seq h) (r.same e)
 | dK h r => exact .dK (Rd.same e h) (r.same e)
 | dT h r => exact .dT (Rd.same e h) (r.same e)
theorem k0l.same {P : Addr -> Prop} {v : V} {d : D} (e : q2h H H') (h : k0l K P O H v d) : k0l K P O H' v d:=h.imp (·.same e) fun ⟨b,h1,h2,h3⟩ => ⟨b,h1,h2,h3.same e⟩
theorem k0l.imp {P P' : Addr -> Prop} {v : V} {d : D} (n : ∀ b,P b -> P' b) (h : k0l K P O H v d) : k0l K P' O H v d:=Or.imp id (fun ⟨b,h1,h2,h3⟩ => ⟨b,h1,n b h2,h3⟩) h
theorem q8f.same {a : Addr} {d : D} (e : q2h H H') (h : q8f K O H a d) : q8f K O H' a d:=by
 cases h with
 | lst h r => exact .lst (e _ _ h) (r.same e)
 | dK h r => exact .dK (e _ _ h) (r.same e)
 | dT h r => exact .dT (e _ _ h) (r.same e)
theorem q8f.av {a : Addr} {d : D} (n : ∀ b,O' b -> O b \/ H b = none) (h : q8f K O H a d) : q8f K O' H a d:=by
 cases h with
 | lst h r => exact .lst h (r.av n)
 | dK h r => exact .dK h (r.av n)
 | dT h r => exact .dT h (r.av n)
theorem q8f.rep {a : Addr} {d : D} (h : q8f K O H a d) (n : ¬ O a) : Rep K O H (.ref a) d:=by
 cases h with
 | lst h r => exact .lst n (.inl h) r
 | dK h r => exact .dK n (.inl h) r
 | dT h r => exact .dT n (.inl h) r
theorem q8f.top {a : Addr} {d : D} (h : q8f K O H a d) : Top K O H (.ref a) d:=by
 cases h with
 | lst h r => exact .lst (SqL.of h) r
 | dK h r => exact .dK (.inl h) r
 | dT h r => exact .dT (.inl h) r
theorem q8f.mut {a : Addr} {d : D} (h : q8f K O H a d) : Mut (H a):=by
 cases h with
 | lst h r => rw [h]; exact trivial
 | dK h r => rw [h]; exact trivial
 | dT h r => rw [h]; exact trivial
theorem Top.av {v : V} {d : D} (n : ∀ b,O' b -> O b \/ H b = none) (h : Top K O H v d) : Top K O' H v d:=by
 cases h with
 | lst h r => exact .lst h (r.av n)
 | dK h r => exact .dK h (r.av n)
 | dT h r => exact .dT h (r.av n)
theorem k0l.av {P : Addr -> Prop} {v : V} {d : D} (n : ∀ b,O' b -> O b \/ H b = none) (h : k0l K P O H v d) : k0l K P O' H v d:=Or.imp (·.av n) (fun ⟨b,h1,h2,h3⟩ => ⟨b,h1,h2,h3.av n⟩) h
theorem Top.move {v : V} {d : D} {b : Addr} (m : q8a O H) (e : Kept O H H') (hv : v = .ref b) (eb : H' b = H b) (n : ∀ b,O' b -> O b \/ H b = none) (h : Top K O H v d) : Top K O' H' v d:=by
 have rd : ∀ u,Rd H b u -> Rd H' b u:=fun u z => z.imp (fun q => eb.trans q) fun ⟨o,q⟩ => ⟨o,eb.trans q⟩
 cases h with
 | lst h r =>
  cases hv
  refine .lst ?_ (r.move m e n)
  rcases h with h | h
  ·exact .inl (rd _ h)
  ·exact .inr h
 | dK h r => cases hv; exact .dK (rd _ h) (r.move m e n)
 | dT h r => cases hv; exact .dT (rd _ h) (r.move m e n)
theorem q8f.move {a : Addr} {d : D} (m : q8a O H) (e : Kept O H H') (ea : H' a = H a) (n : ∀ b,O' b -> O b \/ H b = none) (h : q8f K O H a d) : q8f K O' H' a d:=by
 cases h with
 | lst h r => exact .lst (ea.trans h) (r.move m e n)
 | dK h r => exact .dK (ea.trans h) (r.move m e n)
 | dT h r => exact .dT (ea.trans h) (r.move m e n)
end
inductive Sl where
 | own (d : D) | lent (v : V) (d : D) | bor (v : V) (d : D) | shr (d : D)
def Sl.val : Sl -> D
 | .own d => d | .lent _ d => d | .bor _ d => d | .shr d => d
abbrev En:=List (Option Sl)
structure SR (K : PySem.W.Frag) (W : Addr -> Prop) (H0 : Hp) (σ : L2.St) (H : Hp) (ρ : En) (O : Addr -> Prop) : Prop where
 same : q2h H0 H
 len : σ.length = ρ.length
 sub : ∀ a,W a -> O a
 mts : q8a O H
 own : ∀ (i : Nat) d,ρ[i]? = some (some (.own d)) -> ∃ a,σ[i]? = some (some (.ref a)) /\ O a /\ ¬ W a /\ H0 a = none /\ q8f K O H a d
 inj : ∀ (i j : Nat) d e v,ρ[i]? = some (some (.own d)) -> ρ[j]? = some (some (.own e)) -> σ[i]? = some v -> σ[j]? = some v -> i = j
 lent : ∀ (i : Nat) v d,ρ[i]? = some (some (.lent v d)) -> σ[i]? = some (some v) /\ ∃ a,v = .ref a /\ W a /\ q8f K O H a d
 bor : ∀ (i : Nat) v d,ρ[i]? = some (some (.bor v d)) -> σ[i]? = some (some v) /\ k0l K W O H v d
 shr : ∀ (i : Nat) d,ρ[i]? = some (some (.shr d)) -> ∃ v,σ[i]? = some (some v) /\ Rep K O H v d
section
variable {K : PySem.W.Frag} {W O O' : Addr -> Prop} {H0 H H' : Hp} {σ : L2.St} {ρ : En}
theorem SR.grow (S : SR K W H0 σ H ρ O) (e : q2h H H') : SR K W H0 σ H' ρ O where
 same:=S.same.trans e
 len:=S.len
 sub:=S.sub
 mts:=fun a z => by
  have m:=S.mts a z
  cases h : H a with
  | none => rw [h] at m; exact False.elim m
  | some o => rw [e a o h]; rw [h] at m; exact m
 own:=fun i d h => let ⟨a,h1,h2,h3,h4,h5⟩:=S.own i d h; ⟨a,h1,h2,h3,h4,h5.same e⟩
 inj:=S.inj
 lent:=fun i v d h => let ⟨h1,a,h2,h3,h4⟩:=S.lent i v d h; ⟨h1,a,h2,h3,h4.same e⟩
 bor:=fun i v d h => let ⟨h1,h2⟩:=S.bor i v d h; ⟨h1,h2.same e⟩
 shr:=fun i d h => let ⟨v,h1,h2⟩:=S.shr i d h; ⟨v,h1,h2.same e⟩
theorem SR.slot (S : SR K W H0 σ H ρ O) {i : Nat} {s : Sl} (h : ρ[i]? = some (some s)) : ∃ v,σ[i]? = some (some v) /\ q4b K O H v s.val:=by
 cases s with
 | own d => obtain ⟨a,h1,h2,_,_,h5⟩:=S.own i d h; exact ⟨_,h1,.inr ⟨a,rfl,h2,h5.top⟩⟩
 | lent v d => obtain ⟨h1,a,rfl,h3,h4⟩:=S.lent i v d h; exact ⟨_,h1,.inr ⟨a,rfl,S.sub a h3,h4.top⟩⟩
 | bor v d => obtain ⟨h1,h2⟩:=S.bor i v d h; exact ⟨_,h1,h2.imp S.sub⟩
 | shr d => obtain ⟨v,h1,h2⟩:=S.shr i d h; exact ⟨_,h1,.inl h2⟩
theorem q8a.ne (m : q8a O H) : ∀ a,O a -> H a ≠ none:=fun a z e => by
 have:=m a z
 rw [e] at this; exact this
end
end DL
namespace DL
open PySem PySem.Spec PyProof.Rows L2
inductive Md where
 | b | v | n | h
 deriving DecidableEq
def w4i (K : PySem.W.Frag) (O : Addr -> Prop) (H H' : Hp) (v : V) (d : D) : Prop:=∃ a,v = .ref a /\ H a = none /\ q8f K (fun b => O b \/ b = a) H' a d
def Hld (N : V -> D -> Prop) (x y : V) (dx dy : D) : Prop:=(N x dx /\ y = .non /\ dy = .non) \/ (x = .non /\ dx = .non /\ N y dy)
theorem Hld.imp {N N' : V -> D -> Prop} (f : ∀ v d,N v d -> N' v d) {x y : V} {dx dy : D} (h : Hld N x y dx dy) : Hld N' x y dx dy:=Or.imp (fun z => ⟨f _ _ z.1,z.2⟩) (fun z => ⟨z.1,z.2.1,f _ _ z.2.2⟩) h
def Res (m : Md) (K : PySem.W.Frag) (O : Addr -> Prop) (H H' : Hp) (v : V) (d : D) : Prop :=
 match m with
 | .b => q4b K O H' v d
 | .v => Rep K O H' v d
 | .n => ∃ a,v = .ref a /\ H a = none /\ q8f K (fun b => O b \/ b = a) H' a d
 | .h => ∃ t x y dx dy,v = .ref t /\ d = .tup [dx,dy] /\ H' t = some (.tup [x,y]) /\ Hld (w4i K O H H') x y dx dy
theorem Res.back {m : Md} {K : PySem.W.Frag} {O : Addr -> Prop} {H H1 H' : Hp} {v : V} {d : D} (e : q2h H H1) (h : Res m K O H1 H' v d) : Res m K O H H' v d:=by
 cases m with
 | b => exact h
 | v => exact h
 | n => obtain ⟨a,e1,e2,e3⟩:=h; exact ⟨a,e1,e.free e2,e3⟩
 | h => obtain ⟨t,x,y,dx,dy,e1,e2,e3,e4⟩:=h; exact ⟨t,x,y,dx,dy,e1,e2,e3,e4.imp fun _ _ ⟨a,f1,f2,f3⟩ => ⟨a,f1,e.free f2,f3⟩⟩
theorem Res.nv {K : PySem.W.Frag} {O : Addr -> Prop} {H H' : Hp} {v : V} {d : D} (m : q8a O H) (h : Res .n K O H H' v d) : Rep K O H' v d:=by
 obtain ⟨a,rfl,e2,e3⟩:=h
 exact (e3.av fun b z => .inl (.inl z)).rep fun z => m.ne a z e2
def q3n {α : Type} : Option α -> (α -> Prop) -> Prop
 | some x,k => k x
 | none,_ => False
abbrev DE:=En -> (D -> Prop) -> Prop
abbrev DA:=En -> (List D -> Prop) -> Prop
abbrev DT:=En -> (Bool -> Prop) -> Prop
structure z8b where
 nx : En -> Prop
 rt : D -> Prop
 bk : En -> Prop:=fun _ => False
 ct : En -> Prop:=fun _ => False
abbrev DS:=z8b -> En -> Prop
def PX (m : Md) (X : Cx) (e : Expr) (de : DE) : Prop:=∃ te,PE X e te /\ ∀ (W : Addr -> Prop) (H0 : Hp) (σ : L2.St) (H : Hp) (ρ : En) (O : Addr -> Prop) (R : D -> Prop) (Q : VK),SR X.K W H0 σ H ρ O -> de ρ R →
 (∀ v d H',q2h H H' -> Res m X.K O H H' v d -> R d -> Q v H') -> te σ H Q
def PTX (X : Cx) (e : Expr) (dt : DT) : Prop:=∃ tt,PT X e tt /\ ∀ (W : Addr -> Prop) (H0 : Hp) (σ : L2.St) (H : Hp) (ρ : En) (O : Addr -> Prop) (R : Bool -> Prop) (Q : Bool -> Hp -> Prop),SR X.K W H0 σ H ρ O -> dt ρ R →
 (∀ c H',q2h H H' -> R c -> Q c H') -> tt σ H Q
def PWX (X : Cx) (e : Expr) (dt : DT) : Prop:=∃ tt,PW X e tt /\ ∀ (W : Addr -> Prop) (H0 : Hp) (σ : L2.St) (H : Hp) (ρ : En) (O : Addr -> Prop) (R : Bool -> Prop) (Q : Bool -> Hp -> Prop),SR X.K W H0 σ H ρ O -> dt ρ R →
 (∀ c H',q2h H H' -> R c -> Q c H') -> tt σ H Q
inductive q5e (K : PySem.W.Frag) (O : Addr -> Prop) (H : Hp) : List Bool -> List V -> List D -> Prop
 | nil : q5e K O H [] [] []
 | b {ms : List Bool} {x : V} {d : D} {xs : List V} {ds : List D} : q4b K O H x d -> q5e K O H ms xs ds -> q5e K O H (true :: ms) (x :: xs) (d :: ds)
 | v {ms : List Bool} {x : V} {d : D} {xs : List V} {ds : List D} : Rep K O H x d -> q5e K O H ms xs ds -> q5e K O H (false :: ms) (x :: xs) (d :: ds)
def PAX (ms : List Bool) (X : Cx) (es : List Expr) (da : DA) : Prop:=∃ ta,PA X es ta /\ ∀ (W : Addr -> Prop) (H0 : Hp) (σ : L2.St) (H : Hp) (ρ : En) (O : Addr -> Prop) (R : List D -> Prop) (Q : List V -> Hp -> Prop),SR X.K W H0 σ H ρ O -> da ρ R →
 (∀ vs ds H',q2h H H' -> q5e X.K O H' ms vs ds -> R ds -> Q vs H') -> ta σ H Q
structure Frm (ρ : En) (O : Addr -> Prop) (H : Hp) (ρ' : En) (O' : Addr -> Prop) (H' : Hp) : Prop where
 kept : Kept O H H'
 new : ∀ b,O' b -> O b \/ H b = none
 lent : ∀ (j : Nat) v d,ρ'[j]? = some (some (.lent v d)) -> ρ[j]? = some (some (.lent v d))
 bor : ∀ (j : Nat) v d,ρ'[j]? = some (some (.bor v d)) -> ρ[j]? = some (some (.bor v d))
theorem Frm.refl (ρ : En) (O : Addr -> Prop) (H : Hp) : Frm ρ O H ρ O H:=⟨fun _ _ h _ => h,fun _ h => .inl h,fun _ _ _ h => h,fun _ _ _ h => h⟩
theorem Frm.same {ρ : En} {O : Addr -> Prop} {H H' : Hp} (e : q2h H H') : Frm ρ O H ρ O H':=⟨fun b o h _ => e b o h,fun _ h => .inl h,fun _ _ _ h => h,fun _ _ _ h => h⟩
theorem Frm.trans {ρ ρ1 ρ2 : En} {O O1 O2 : Addr -> Prop} {H H1 H2 : Hp} (a : Frm ρ O H ρ1 O1 H1) (b : Frm ρ1 O1 H1 ρ2 O2 H2) : Frm ρ O H ρ2 O2 H2 where
 kept:=fun c o h n => b.kept c o (a.kept c o h n) fun z => by
  rcases a.new c z with z | z
  ·exact n z
  ·rw [h] at z; cases z
 new:=fun c z => by
  rcases b.new c z with z | z
  ·exact a.new c z
  ·by_cases hc : O c
   ·exact .inl hc
   ·refine .inr ?_
    cases h : H c with
    | none => rfl
    | some o => rw [a.kept c o h hc] at z; cases z
 lent:=fun j v d h => a.lent j v d (b.lent j v d h)
 bor:=fun j v d h => a.bor j v d (b.bor j v d h)
def w1y : Option Sl -> Prop
 | some (.lent _ _) => False
 | some (.bor _ _) => False
 | _ => True
theorem Frm.set {ρ : En} {O O' : Addr -> Prop} {H H' : Hp} {i : Nat} {s : Option Sl} (hs : w1y s) (k : Kept O H H') (n : ∀ b,O' b -> O b \/ H b = none) : Frm ρ O H (ρ.set i s) O' H' where
 kept:=k
 new:=n
 lent:=fun j v d h => by
  rw [List.getElem?_set] at h
  split at h
  ·split at h
   ·cases h; exact hs.elim
   ·cases h
  ·exact h
 bor:=fun j v d h => by
  rw [List.getElem?_set] at h
  split at h
  ·split at h
   ·cases h; exact hs.elim
   ·cases h
  ·exact h
structure Lk (m : Md) (K : PySem.W.Frag) (W : Addr -> Prop) (H0 : Hp) (ρ : En) (O : Addr -> Prop) (H : Hp) (E : z8b) (T : z9i) : Prop where
 nx : ∀ σ' H' ρ' O',SR K W H0 σ' H' ρ' O' -> Frm ρ O H ρ' O' H' -> E.nx ρ' -> T.nx σ' H'
 bk : ∀ σ' H' ρ' O',SR K W H0 σ' H' ρ' O' -> Frm ρ O H ρ' O' H' -> E.bk ρ' -> T.bk σ' H'
 ct : ∀ σ' H' ρ' O',SR K W H0 σ' H' ρ' O' -> Frm ρ O H ρ' O' H' -> E.ct ρ' -> T.ct σ' H'
 rt : ∀ v d H',q2h H0 H' -> Res m K W H0 H' v d -> E.rt d -> T.rt v H'
def PSX (m : Md) (X : Cx) (st : Stmt) (ds : DS) : Prop:=∃ ts,PS X st ts /\ ∀ (W : Addr -> Prop) (H0 : Hp) (σ : L2.St) (H : Hp) (ρ : En) (O : Addr -> Prop) (E : z8b) (T : z9i),SR X.K W H0 σ H ρ O -> ds E ρ -> Lk m X.K W H0 ρ O H E T -> ts T σ H
def PBX (m : Md) (X : Cx) (st : List Stmt) (ds : DS) : Prop:=∃ ts,PSs X st ts /\ ∀ (W : Addr -> Prop) (H0 : Hp) (σ : L2.St) (H : Hp) (ρ : En) (O : Addr -> Prop) (E : z8b) (T : z9i),SR X.K W H0 σ H ρ O -> ds E ρ -> Lk m X.K W H0 ρ O H E T -> ts T σ H
section
variable {m : Md} {K : PySem.W.Frag} {W O O1 : Addr -> Prop} {H0 H H1 : Hp} {σ : L2.St} {ρ ρ1 : En} {E : z8b} {T : z9i}
theorem Lk.frm (L : Lk m K W H0 ρ O H E T) (f : Frm ρ O H ρ1 O1 H1) : Lk m K W H0 ρ1 O1 H1 E T :=
 ⟨fun s h r o S g q => L.nx s h r o S (f.trans g) q,fun s h r o S g q => L.bk s h r o S (f.trans g) q,fun s h r o S g q => L.ct s h r o S (f.trans g) q,L.rt⟩
theorem Lk.with (L : Lk m K W H0 ρ O H E T) {nx : En -> Prop} {tx : L2.St -> Hp -> Prop} (h : ∀ σ' H' ρ' O',SR K W H0 σ' H' ρ' O' -> Frm ρ O H ρ' O' H' -> nx ρ' -> tx σ' H') : Lk m K W H0 ρ O H { E with nx:=nx } { T with nx:=tx }:=⟨h,L.bk,L.ct,L.rt⟩
end
section
variable {m : Md} {X : Cx} {st : Stmt} {rest : List Stmt} {s t : DS} {pos : Pos}
def j7c : DS:=fun E ρ => E.nx ρ
def k9o (s t : DS) : DS:=fun E ρ => s { E with nx:=t E } ρ
theorem q2w : PBX m X [] j7c:=⟨j5p,k1t,fun W H0 σ H ρ O E T S h L => L.nx _ _ _ _ S (Frm.refl _ _ _) h⟩
theorem q1m (h : PSX m X st s) : PBX m X [st] s:=let ⟨ts,p,q⟩:=h; ⟨ts,q9w p,q⟩
theorem q1i (h : PSX m X st s) (h2 : PBX m X rest t) : PBX m X (st :: rest) (k9o s t):=by
 obtain ⟨ts,p,q⟩:=h
 obtain ⟨us,p2,q2⟩:=h2
 refine ⟨w2z ts us,q7u p p2,fun W H0 σ H ρ O E T S h L => ?_⟩
 exact q W H0 σ H ρ O _ _ S h (L.with fun σ' H' ρ' O' S' f h' => q2 W H0 σ' H' ρ' O' E T S' h' (L.frm f))
def j5m : DS:=fun _ _ => False
theorem z8a : PSX m X st j5m:=⟨k9z,k6q,fun W H0 σ H ρ O E T S h L => h.elim⟩
def dIf (c : DT) (s t : DS) : DS:=fun E ρ => c ρ fun b => if b = true then s E ρ else t E ρ
theorem q3z {c : Expr} {a b : List Stmt} {dc : DT} (hc : PTX X c dc) (ha : PBX m X a s) (hb : PBX m X b t) : PSX m X (.If c a b pos) (dIf dc s t):=by
 obtain ⟨tc,pc,qc⟩:=hc
 obtain ⟨ta,pa,qa⟩:=ha
 obtain ⟨tb,pb,qb⟩:=hb
 refine ⟨w1p tc ta tb,j0o pc pa pb,fun W H0 σ H ρ O E T S h L => ?_⟩
 refine qc W H0 σ H ρ O _ _ S h fun c H' e q => ?_
 have S':=S.grow e
 have L':=L.frm (Frm.same e)
 cases c with
 | true => rw [if_pos rfl] at q ⊢; exact qa W H0 σ H' ρ O E T S' q L'
 | false => rw [if_neg Bool.false_ne_true] at q ⊢; exact qb W H0 σ H' ρ O E T S' q L'
end
section
variable {X : Cx} {e : Expr} {de : DE}
theorem PX.nv (h : PX .n X e de) : PX .v X e de:=by
 obtain ⟨te,p,q⟩:=h
 exact ⟨te,p,fun W H0 σ H ρ O R Q S h k => q W H0 σ H ρ O R Q S h fun v d H' e r z => k v d H' e (r.nv S.mts) z⟩
theorem PX.vb (h : PX .v X e de) : PX .b X e de:=by
 obtain ⟨te,p,q⟩:=h
 exact ⟨te,p,fun W H0 σ H ρ O R Q S h k => q W H0 σ H ρ O R Q S h fun v d H' e r z => k v d H' e (.inl r) z⟩
theorem PX.nb (h : PX .n X e de) : PX .b X e de:=h.nv.vb
end
section
variable {X : Cx} {pos : Pos}
def w1u : Option (Option Sl) -> (D -> Prop) -> Prop
 | some (some (.shr d)),R => R d
 | _,_ => False
def slW : Option (Option Sl) -> (D -> Prop) -> Prop
 | some (some s),R => R s.val
 | _,_ => False
def w2q (i : Nat) : DE:=fun ρ R => w1u ρ[i]? R
def w1s (i : Nat) : DE:=fun ρ R => slW ρ[i]? R
def dC (d : D) : DE:=fun _ R => R d
theorem q1o (i : Nat) {x : Str} (hN : X.N[i]? = some x:=by rfl) (hv : Vis X.env.scope x:=by first | exact Or.inl rfl | exact Or.inr (Or.inl rfl) | exact Or.inr (Or.inr rfl)) (hd : (x == ("__debug__" : Str)) = false:=by decide)
  (hcd : (x == ("__classdict__" : Str)) = false:=by decide) : PX .v X (.Name x pos) (w2q i):=by
 refine ⟨j5h i,q7a hN hv hd hcd,fun W H0 σ H ρ O R Q S h k => ?_⟩
 unfold w2q w1u at h
 split at h
 ·rename_i d e
  obtain ⟨v,e1,e2⟩:=S.shr i d e
  exact ⟨v,e1,k v d H (q2h.refl _) e2 h⟩
 ·exact h.elim
theorem q1f (i : Nat) {x : Str} (hN : X.N[i]? = some x:=by rfl) (hv : Vis X.env.scope x:=by first | exact Or.inl rfl | exact Or.inr (Or.inl rfl) | exact Or.inr (Or.inr rfl)) (hd : (x == ("__debug__" : Str)) = false:=by decide)
  (hcd : (x == ("__classdict__" : Str)) = false:=by decide) : PX .b X (.Name x pos) (w1s i):=by
 refine ⟨j5h i,q7a hN hv hd hcd,fun W H0 σ H ρ O R Q S h k => ?_⟩
 unfold w1s slW at h
 split at h
 ·rename_i s e
  obtain ⟨v,e1,e2⟩:=S.slot e
  exact ⟨v,e1,k v _ H (q2h.refl _) e2 h⟩
 ·exact h.elim
theorem q7w {e : Expr} {x : V} {d : D} (h : PE X e (tC x)) (r : ∀ K O H,Rep K O H x d) : PX .v X e (dC d):=⟨_,h,fun W H0 σ H ρ O R Q S h k => k _ _ _ (q2h.refl _) (r _ _ _) h⟩
theorem q1g {i j} : PX .v X (.Constant (.int i) j pos) (dC (.int i)):=q7w j8j fun _ _ _ => .int i
theorem z9o {b j} : PX .v X (.Constant (.bool b) j pos) (dC (.bl b)):=q7w j8v fun _ _ _ => .bl b
theorem q4m {j} : PX .v X (.Constant .none j pos) (dC .non):=q7w k2d fun _ _ _ => .non
theorem q2m {x j} : PX .v X (.Constant (.str x) j pos) (dC (.str x)):=q7w j7e fun _ _ _ => .str x
theorem z2v {x : Str} {v : V} {u : Value} {d : D} (hg : Gl X x) (hm : X.mg x = some u) (r : RelV v u) (rd : ∀ O H,Rep X.K O H v d) (hd : (x == ("__debug__" : Str)) = false:=by decide) : PX .v X (.Name x pos) (dC d) :=
 ⟨_,q6h hg hm r hd,fun W H0 σ H ρ O R Q S h k => k _ _ _ (q2h.refl _) (rd _ _) h⟩
theorem k2a {x : Str} {n : String} {pos : Pos} (hg : Gl X x) (hm : X.mg x = none) (hv : bootBuiltins x = some (.type n)) (hn : x ≠ "__name__":=by decide) (hd : (x == ("__debug__" : Str)) = false:=by decide) : PX .v X (.Name x pos) (dC (.ty n)) :=
 q7w (k4k (v:=.ty n) hg hm hv rfl hn hd) fun _ _ _ => .ty n
end
section
variable {m : Md} {X : Cx} {a b c : Expr} {da db dc : DE} {pos : Pos}
abbrev G2:=D -> D -> (D -> Prop) -> Prop
def OpX (m : Md) (X : Cx) (f : Value -> Value -> Sem Value) (g : G2) : Prop:=∃ r,OpR X f r /\ ∀ (O : Addr -> Prop) (H : Hp) (x y : V) (d e : D) (R : D -> Prop) (Q : VK),q8a O H -> q4b X.K O H x d -> q4b X.K O H y e -> g d e R →
 (∀ v z H',q2h H H' -> Res m X.K O H H' v z -> R z -> Q v H') -> r x y H Q
theorem OpX.or {f : Value -> Value -> Sem Value} {g g' : G2} (h : OpX m X f g) (h' : OpX m X f g') : OpX m X f (fun d e R => g d e R \/ g' d e R):=by
 obtain ⟨r,p,q⟩:=h
 obtain ⟨r',p',q'⟩:=h'
 refine ⟨_,p.or p',fun O H x y d e R Q M rx ry h k => ?_⟩
 rcases h with h | h
 ·exact .inl (q O H x y d e R Q M rx ry h k)
 ·exact .inr (q' O H x y d e R Q M rx ry h k)
theorem OpX.imp {f : Value -> Value -> Sem Value} {g g' : G2} (h : OpX m X f g) (i : ∀ d e R,g' d e R -> g d e R) : OpX m X f g':=by
 obtain ⟨r,p,q⟩:=h
 exact ⟨r,p,fun O H x y d e R Q M rx ry h k => q O H x y d e R Q M rx ry (i _ _ _ h) k⟩
theorem OpX.nv {f : Value -> Value -> Sem Value} {g : G2} (h : OpX .n X f g) : OpX .v X f g:=by
 obtain ⟨r,p,q⟩:=h
 exact ⟨r,p,fun O H x y d e R Q M rx ry h k => q O H x y d e R Q M rx ry h fun v z H' e1 r1 => k v z H' e1 (r1.nv M)⟩
def dOp (g : G2) (da db : DE) : DE:=fun ρ R => da ρ fun x => db ρ fun y => g x y R
theorem two {ta tb : TE} {r : R2} {g : G2} {W : Addr -> Prop} {H0 : Hp} {σ : L2.St} {H : Hp} {ρ : En} {O : Addr -> Prop} {R : D -> Prop} {Q : VK} {ma mb : Md}
  (qa : ∀ (W : Addr -> Prop) (H0 : Hp) (σ : L2.St) (H : Hp) (ρ : En) (O : Addr -> Prop) (R : D -> Prop) (Q : VK),SR X.K W H0 σ H ρ O -> da ρ R -> (∀ v d H',q2h H H' -> Res .b X.K O H H' v d -> R d -> Q v H') -> ta σ H Q)
  (qb : ∀ (W : Addr -> Prop) (H0 : Hp) (σ : L2.St) (H : Hp) (ρ : En) (O : Addr -> Prop) (R : D -> Prop) (Q : VK),SR X.K W H0 σ H ρ O -> db ρ R -> (∀ v d H',q2h H H' -> Res .b X.K O H H' v d -> R d -> Q v H') -> tb σ H Q)
  (q : ∀ (O : Addr -> Prop) (H : Hp) (x y : V) (d e : D) (R : D -> Prop) (Q : VK),q8a O H -> q4b X.K O H x d -> q4b X.K O H y e -> g d e R -> (∀ v z H',q2h H H' -> Res m X.K O H H' v z -> R z -> Q v H') -> r x y H Q)
  (S : SR X.K W H0 σ H ρ O) (h : dOp g da db ρ R) (k : ∀ v d H',q2h H H' -> Res m X.K O H H' v d -> R d -> Q v H') : tOp r ta tb σ H Q:=by
 refine qa W H0 σ H ρ O _ _ S h fun x d H1 e1 r1 h1 => ?_
 refine qb W H0 σ H1 ρ O _ _ (S.grow e1) h1 fun y e H2 e2 r2 h2 => ?_
 have r1' : q4b X.K O H1 x d:=r1
 refine q O H2 x y d e R Q ((S.grow e1).grow e2).mts (r1'.same e2) r2 h2 fun v z H3 e3 r3 hz => ?_
 exact k v z H3 (e1.trans (e2.trans e3)) (Res.back (e1.trans e2) r3) hz
theorem q1k {op : Operator} {g : G2} (ho : OpX m X (binaryOp op) g) (ha : PX .b X a da) (hb : PX .b X b db) : PX m X (.BinOp a op b pos) (dOp g da db):=by
 obtain ⟨r,p,q⟩:=ho
 obtain ⟨ta,pa,qa⟩:=ha
 obtain ⟨tb,pb,qb⟩:=hb
 exact ⟨tOp r ta tb,w1n p pa pb,fun W H0 σ H ρ O R Q S h k => two (ma:=.b) (mb:=.b) qa qb q S h k⟩
theorem z2b {op : CmpOp} {g : G2} (ho : OpX .v X (compareOp op) g) (ha : PX .b X a da) (hb : PX .b X b db) (hm : behindInMarks op b = false) : PX .v X (.Compare a [op] [b] pos) (dOp g da db):=by
 obtain ⟨r,p,q⟩:=ho
 obtain ⟨ta,pa,qa⟩:=ha
 obtain ⟨tb,pb,qb⟩:=hb
 exact ⟨tOp r ta tb,j4f p pa pb hm,fun W H0 σ H ρ O R Q S h k => two (ma:=.b) (mb:=.b) qa qb q S h k⟩
def asB (d : D) (R : Bool -> Prop) : Prop:=match d with
 | .bl b => R b
 | _ => False
def w0p (de : DE) : DT:=fun ρ R => de ρ fun d => asB d R
theorem q2n {op : CmpOp} {g : G2} (ho : OpX .v X (compareOp op) g) (ha : PX .b X a da) (hb : PX .b X b db) (hm : behindInMarks op b = false) : PTX X (.Compare a [op] [b] pos) (w0p (dOp g da db)):=by
 obtain ⟨r,p,q⟩:=ho
 obtain ⟨ta,pa,qa⟩:=ha
 obtain ⟨tb,pb,qb⟩:=hb
 refine ⟨j0n (tOp r ta tb),k3t p pa pb hm,fun W H0 σ H ρ O R Q S h k => ?_⟩
 refine two (ma:=.b) (mb:=.b) qa qb q S h fun v d H' e r1 hd => ?_
 have r1' : Rep X.K O H' v d:=r1
 cases r1' with
 | bl b => exact ⟨b,rfl,k b H' e hd⟩
 | _ => exact hd.elim
def k1s (g g' : G2) (da db dc : DE) : DE:=fun ρ R => da ρ fun x => db ρ fun y => g x y fun z => asB z fun k => if k = true then dc ρ fun w => g' y w R else R (.bl false)
theorem w2l {ta tb tc : TE} {r r' : R2} {g g' : G2} {W : Addr -> Prop} {H0 : Hp} {σ : L2.St} {H : Hp} {ρ : En} {O : Addr -> Prop} {R : D -> Prop} {Q : VK}
  (qa : ∀ (W : Addr -> Prop) (H0 : Hp) (σ : L2.St) (H : Hp) (ρ : En) (O : Addr -> Prop) (R : D -> Prop) (Q : VK),SR X.K W H0 σ H ρ O -> da ρ R -> (∀ v d H',q2h H H' -> Res .b X.K O H H' v d -> R d -> Q v H') -> ta σ H Q)
  (qb : ∀ (W : Addr -> Prop) (H0 : Hp) (σ : L2.St) (H : Hp) (ρ : En) (O : Addr -> Prop) (R : D -> Prop) (Q : VK),SR X.K W H0 σ H ρ O -> db ρ R -> (∀ v d H',q2h H H' -> Res .b X.K O H H' v d -> R d -> Q v H') -> tb σ H Q)
  (qc : ∀ (W : Addr -> Prop) (H0 : Hp) (σ : L2.St) (H : Hp) (ρ : En) (O : Addr -> Prop) (R : D -> Prop) (Q : VK),SR X.K W H0 σ H ρ O -> dc ρ R -> (∀ v d H',q2h H H' -> Res .b X.K O H H' v d -> R d -> Q v H') -> tc σ H Q)
  (q : ∀ (O : Addr -> Prop) (H : Hp) (x y : V) (d e : D) (R : D -> Prop) (Q : VK),q8a O H -> q4b X.K O H x d -> q4b X.K O H y e -> g d e R -> (∀ v z H',q2h H H' -> Res .v X.K O H H' v z -> R z -> Q v H') -> r x y H Q)
  (q' : ∀ (O : Addr -> Prop) (H : Hp) (x y : V) (d e : D) (R : D -> Prop) (Q : VK),q8a O H -> q4b X.K O H x d -> q4b X.K O H y e -> g' d e R -> (∀ v z H',q2h H H' -> Res .v X.K O H H' v z -> R z -> Q v H') -> r' x y H Q)
  (S : SR X.K W H0 σ H ρ O) (h : k1s g g' da db dc ρ R) (k : ∀ v d H',q2h H H' -> Res .v X.K O H H' v d -> R d -> Q v H') : k9t r r' ta tb tc σ H Q:=by
 refine qa W H0 σ H ρ O _ _ S h fun x d H1 e1 r1 h1 => ?_
 refine qb W H0 σ H1 ρ O _ _ (S.grow e1) h1 fun y e H2 e2 r2 h2 => ?_
 have r1' : q4b X.K O H1 x d:=r1
 have r2' : q4b X.K O H2 y e:=r2
 refine q O H2 x y d e _ _ ((S.grow e1).grow e2).mts (r1'.same e2) r2 h2 fun v z H3 e3 r3 hz => ?_
 have r3' : Rep X.K O H3 v z:=r3
 cases r3' with
 | bl c =>
  refine ⟨c,rfl,?_⟩
  have hz' : if c = true then dc ρ fun w => g' e w R else R (.bl false):=hz
  cases c with
  | false =>
   rw [if_neg Bool.false_ne_true] at hz' ⊢
   exact k _ _ _ (e1.trans (e2.trans e3)) (.bl false) hz'
  | true =>
   rw [if_pos rfl] at hz' ⊢
   refine qc W H0 σ H3 ρ O _ _ (((S.grow e1).grow e2).grow e3) hz' fun w f H4 e4 r4 h4 => ?_
   refine q' O H4 y w e f R Q ((((S.grow e1).grow e2).grow e3).grow e4).mts ((r2'.same e3).same e4) r4 h4 fun v' z' H5 e5 r5 hz5 => ?_
   exact k v' z' H5 (e1.trans (e2.trans (e3.trans (e4.trans e5)))) r5 hz5
 | _ => exact (show False from hz).elim
theorem z0n {de : DE} (h : PX .v X a de) (he : ∀ whole,isTrue a X.env whole = (do let v ← whole; standAt a.pos; holding [v] (truthy v)):=by intro _; rfl) : PTX X a (w0p de):=by
 obtain ⟨te,p,q⟩:=h
 refine ⟨tB te,j0f p he,fun W H0 σ H ρ O R Q S h k => ?_⟩
 refine q W H0 σ H ρ O _ _ S h fun v d H' e r hd => ?_
 have r' : Rep X.K O H' v d:=r
 cases r' with
 | bl b => exact ⟨b,rfl,k b H' e hd⟩
 | _ => exact (show False from hd).elim
theorem z8s {op op' : CmpOp} {g g' : G2} (ho : OpX .v X (compareOp op) g) (ho' : OpX .v X (compareOp op') g') (ha : PX .b X a da) (hb : PX .b X b db) (hc : PX .b X c dc) (hm : lastMarks [op,op'] [b,c] = false:=by rfl) :
  PTX X (.Compare a [op,op'] [b,c] pos) (w0p (k1s g g' da db dc)):=by
 obtain ⟨r,p,q⟩:=ho
 obtain ⟨r',p',q'⟩:=ho'
 obtain ⟨ta,pa,qa⟩:=ha
 obtain ⟨tb,pb,qb⟩:=hb
 obtain ⟨tc,pc,qc⟩:=hc
 refine ⟨_,k7c p p' pa pb pc hm,fun W H0 σ H ρ O R Q S h k => ?_⟩
 refine w2l qa qb qc q q' S h fun v d H' e r1 hd => ?_
 have r1' : Rep X.K O H' v d:=r1
 cases r1' with
 | bl b => exact ⟨b,rfl,k b H' e hd⟩
 | _ => exact (show False from hd).elim
end
section
variable {X : Cx} {a b c : Expr} {rest : List Expr} {da db : DE} {ta tb : DT} {pos : Pos}
def j7h (t u : DT) : DT:=fun ρ R => t ρ fun c => if c = true then u ρ R else R false
def w3w (t u : DT) : DT:=fun ρ R => t ρ fun c => if c = true then R true else u ρ R
def j7j (t : DT) : DT:=fun ρ R => t ρ fun c => R (!c)
theorem PWX.t (h : PWX X a ta) : PTX X a ta:=let ⟨t,p,q⟩:=h; ⟨t,p.pt,q⟩
theorem z6d (h : PTX X a ta) : PWX X (.BoolOp .And [a] pos) ta:=let ⟨t,p,q⟩:=h; ⟨t,j1h p,q⟩
theorem z8n (h : PTX X a ta) : PWX X (.BoolOp .Or [a] pos) ta:=let ⟨t,p,q⟩:=h; ⟨t,k9v p,q⟩
theorem z5b (h : PTX X a ta) (h2 : PWX X (.BoolOp .And (b :: rest) pos) tb) : PWX X (.BoolOp .And (a :: b :: rest) pos) (j7h ta tb):=by
 obtain ⟨t,p,q⟩:=h
 obtain ⟨u,p2,q2⟩:=h2
 refine ⟨_,j7p p p2,fun W H0 σ H ρ O R Q S h k => ?_⟩
 refine q W H0 σ H ρ O _ _ S h fun c H' e z => ?_
 cases c with
 | true => rw [if_pos rfl] at z ⊢; exact q2 W H0 σ H' ρ O R Q (S.grow e) z fun c H2 e2 => k c H2 (e.trans e2)
 | false => rw [if_neg Bool.false_ne_true] at z ⊢; exact k _ _ e z
theorem k8f (h : PTX X a ta) (h2 : PWX X (.BoolOp .Or (b :: rest) pos) tb) : PWX X (.BoolOp .Or (a :: b :: rest) pos) (w3w ta tb):=by
 obtain ⟨t,p,q⟩:=h
 obtain ⟨u,p2,q2⟩:=h2
 refine ⟨_,j9t p p2,fun W H0 σ H ρ O R Q S h k => ?_⟩
 refine q W H0 σ H ρ O _ _ S h fun c H' e z => ?_
 cases c with
 | false => rw [if_neg Bool.false_ne_true] at z ⊢; exact q2 W H0 σ H' ρ O R Q (S.grow e) z fun c H2 e2 => k c H2 (e.trans e2)
 | true => rw [if_pos rfl] at z ⊢; exact k _ _ e z
theorem z4o (h : PTX X a ta) : PTX X (.UnaryOp .Not a pos) (j7j ta):=by
 obtain ⟨t,p,q⟩:=h
 exact ⟨_,j6m p,fun W H0 σ H ρ O R Q S h k => q W H0 σ H ρ O _ _ S h fun c H' e z => k _ _ e z⟩
def w3o (da db : DE) : DE:=fun ρ R => da ρ fun d => asB d fun c => if c = true then db ρ R else R (.bl false)
theorem k9p {op} (h : PX .v X a da) : PX .v X (.BoolOp op [a] pos) da:=let ⟨t,p,q⟩:=h; ⟨t,j0c p,q⟩
theorem z7x (h : PX .v X a da) (h2 : PX .v X (.BoolOp .And (b :: rest) pos) db) : PX .v X (.BoolOp .And (a :: b :: rest) pos) (w3o da db):=by
 obtain ⟨t,p,q⟩:=h
 obtain ⟨u,p2,q2⟩:=h2
 refine ⟨_,j0l p p2,fun W H0 σ H ρ O R Q S h k => ?_⟩
 refine q W H0 σ H ρ O _ _ S h fun v d H' e r z => ?_
 have r' : Rep X.K O H' v d:=r
 cases r' with
 | bl c =>
  refine ⟨c,rfl,?_⟩
  have z' : if c = true then db ρ R else R (.bl false):=z
  cases c with
  | true => rw [if_pos rfl] at z' ⊢; exact q2 W H0 σ H' ρ O R Q (S.grow e) z' fun v d H2 e2 r2 => k v d H2 (e.trans e2) r2
  | false => rw [if_neg Bool.false_ne_true] at z' ⊢; exact k _ _ _ e (.bl false) z'
 | _ => exact (show False from z).elim
end
end DL
namespace DL
open PySem PySem.Spec PyProof.Rows L2
section
variable {X : Cx} {e : Expr} {es : List Expr} {de : DE} {da : DA} {ms : List Bool} {pos : Pos}
def w3f : DA:=fun _ R => R []
def j1s (de : DE) (da : DA) : DA:=fun ρ R => de ρ fun d => da ρ fun ds => R (d :: ds)
theorem q1h : PAX [] X [] w3f:=⟨j5d,q6r,fun W H0 σ H ρ O R Q S h k => k [] [] H (q2h.refl _) .nil h⟩
theorem q2g (h : PX .b X e de) (h2 : PAX ms X es da) (hs : starEach (e :: es) X.env = (false,eval e X.env) :: starEach es X.env:=by rfl) : PAX (true :: ms) X (e :: es) (j1s de da):=by
 obtain ⟨t,p,q⟩:=h
 obtain ⟨u,p2,q2⟩:=h2
 refine ⟨z6r t u,q3e p p2 hs,fun W H0 σ H ρ O R Q S h k => ?_⟩
 refine q W H0 σ H ρ O _ _ S h fun v d H1 e1 r1 h1 => ?_
 refine q2 W H0 σ H1 ρ O _ _ (S.grow e1) h1 fun vs ds H2 e2 r2 h2 => ?_
 exact k _ _ H2 (e1.trans e2) (.b (k0l.same e2 r1) r2) h2
theorem q1t (h : PX .v X e de) (h2 : PAX ms X es da) (hs : starEach (e :: es) X.env = (false,eval e X.env) :: starEach es X.env:=by rfl) : PAX (false :: ms) X (e :: es) (j1s de da):=by
 obtain ⟨t,p,q⟩:=h
 obtain ⟨u,p2,q2⟩:=h2
 refine ⟨z6r t u,q3e p p2 hs,fun W H0 σ H ρ O R Q S h k => ?_⟩
 refine q W H0 σ H ρ O _ _ S h fun v d H1 e1 r1 h1 => ?_
 refine q2 W H0 σ H1 ρ O _ _ (S.grow e1) h1 fun vs ds H2 e2 r2 h2 => ?_
 exact k _ _ H2 (e1.trans e2) (.v (Rep.same e2 r1) r2) h2
theorem q5e.all {K : PySem.W.Frag} {O : Addr -> Prop} {H : Hp} : ∀ {ms : List Bool} {xs : List V} {ds : List D},ms.all (fun b => !b) = true -> q5e K O H ms xs ds -> q2i K O H xs ds
 | _,_,_,_,.nil => .nil
 | _,_,_,h,.b _ r => by simp at h
 | _,_,_,h,.v q r => .cons q (q5e.all (by simpa using h) r)
theorem q5e.length {K : PySem.W.Frag} {O : Addr -> Prop} {H : Hp} : ∀ {ms : List Bool} {xs : List V} {ds : List D},q5e K O H ms xs ds -> xs.length = ms.length /\ ds.length = ms.length
 | _,_,_,.nil => ⟨rfl,rfl⟩
 | _,_,_,.b _ r => by simp [q5e.length r]
 | _,_,_,.v _ r => by simp [q5e.length r]
def w4a (da : DA) : DE:=fun ρ R => da ρ fun ds => ds.length <= sizeLine /\ R (.tup ds)
def w4b (da : DA) : DE:=fun ρ R => da ρ fun ds => ds.length <= sizeLine /\ R (.lst ds)
theorem q2v {x1} (h : PAX ms X es da) (hm : ms.all (fun b => !b) = true:=by rfl) : PX .v X (.Tuple es x1 pos) (w4a da):=by
 obtain ⟨t,p,q⟩:=h
 refine ⟨w3j t,k2b p,fun W H0 σ H ρ O R Q S h k => ?_⟩
 refine q W H0 σ H ρ O _ _ S h fun vs ds H1 e1 r1 h1 => ?_
 have r:=r1.all hm
 refine ⟨by rw [r.length]; exact h1.1,fun p hp => ?_⟩
 exact k _ _ _ (e1.trans (q1w hp _)) (.tup (SqP.of q2f) (r.same (q1w hp _))) h1.2
theorem q8t {K : PySem.W.Frag} {O : Addr -> Prop} {H1 : Hp} {p : Addr} {vs : List V} {ds : List D} (hp : H1 p = none) (r : q2i K O H1 vs ds) : q8f K (fun b => O b \/ b = p) (upd H1 p (.lst vs)) p (.lst ds) :=
 .lst q2f ((r.av fun b z => z.imp id fun z => by rw [z]; exact hp).same (q1w hp _))
theorem q3k (h : PAX ms X es da) (hm : ms.all (fun b => !b) = true:=by rfl) : PX .n X (.List es pos) (w4b da):=by
 obtain ⟨t,p,q⟩:=h
 refine ⟨w3y t,j9d p,fun W H0 σ H ρ O R Q S h k => ?_⟩
 refine q W H0 σ H ρ O _ _ S h fun vs ds H1 e1 r1 h1 => ?_
 have r:=r1.all hm
 refine ⟨by rw [r.length]; exact h1.1,fun p hp => ?_⟩
 exact k _ _ _ (e1.trans (q1w hp _)) ⟨p,rfl,e1.free hp,q8t hp r⟩ h1.2
end
def spD (K : PySem.W.Frag) (ms : List Bool) (m : Md) (pre : List D -> Prop) (post : List D -> D -> Prop) : Sp:=fun vs H Q _ => ∃ ds O,q8a O H /\ q5e K O H ms vs ds /\ pre ds ∧
 ∀ v d H',q2h H H' -> Res m K O H H' v d -> post ds d -> Q v H'
section
variable {X : Cx} {CX : CXT} {k : Nat} {f : Addr} {fd : FuncData} {ps : List Str} {ms : List Bool} {m : Md} {pre : List D -> Prop} {post : List D -> D -> Prop} {E : XK} {x : Str} {p pos : Pos} {e : Expr} {es : List Expr} {da : DA}
def j7v (pre : List D -> Prop) (post : List D -> D -> Prop) (da : DA) : DE:=fun ρ R => da ρ fun ds => pre ds /\ ∀ d,post ds d -> R d
theorem q1p (F : q3d X.prog X.w X.K X.mg X.base CX k f fd ps (spD X.K ms m pre post)) (hr : z1a k X.A) (hg : Gl X x) (hm : X.mg x = some (.ref f)) (hk : PySem.W.keepIn X.K (.ref f) = true) (hb : Binds X.K fd ps []) (hx : z8k CX X E)
  (ha : PAX ms X (e :: es) da) (hdb : (x == ("__debug__" : Str)) = false:=by decide) (he : starEach (e :: es) X.env = (false,eval e X.env) :: starEach es X.env:=by rfl) (hpl : (backTo pos (starEach es X.env)).any (·.1) = false:=by rfl) :
  PX m X (.Call (.Name x p) (e :: es) [] pos) (j7v pre post da):=by
 obtain ⟨t,p,q⟩:=ha
 refine ⟨_,j2w F hr hg hm hk hb .nil hx p hdb he hpl,fun W H0 σ H ρ O R Q S h k => ?_⟩
 refine q W H0 σ H ρ O _ _ S h fun vs ds H1 e1 r1 h1 => ?_
 show spD X.K ms m pre post (vs ++ []) H1 Q E
 rw [List.append_nil]
 exact ⟨ds,O,(S.grow e1).mts,r1,h1.1,fun v d H2 e2 r2 hp => k v d H2 (e1.trans e2) (Res.back e1 r2) (h1.2 d hp)⟩
end
section
variable {K : PySem.W.Frag} {W O : Addr -> Prop} {H0 H H' : Hp} {σ : L2.St} {ρ : En} {i : Nat}
theorem q1s {α : Type} {l : List α} {i j : Nat} {a b : α} (h : (l.set i a)[j]? = some b) : (j = i /\ b = a /\ i < l.length) \/ (j ≠ i /\ l[j]? = some b):=by
 rw [List.getElem?_set] at h
 split at h
 ·rename_i e
  subst e
  split at h
  ·exact .inl ⟨rfl,(Option.some.inj h).symm,by assumption⟩
  ·cases h
 ·rename_i e
  exact .inr ⟨fun z => e z.symm,h⟩
theorem z3o {α : Type} {l : List α} {i : Nat} {a : α} (h : i < l.length) : (l.set i a)[i]? = some a:=List.getElem?_set_self h
theorem q5r {α : Type} {l : List α} {i j : Nat} {a : α} (h : j ≠ i) : (l.set i a)[j]? = l[j]?:=List.getElem?_set_ne (Ne.symm h)
theorem SR.put (S : SR K W H0 σ H ρ O) {v : V} {d : D} (r : Rep K O H v d) : SR K W H0 (σ.set i (some v)) H (ρ.set i (some (.shr d))) O where
 same:=S.same
 len:=by rw [List.length_set,List.length_set]; exact S.len
 sub:=S.sub
 mts:=S.mts
 own:=fun j e h => by
  rcases q1s h with ⟨_,z,_⟩ | ⟨n,z⟩
  ·cases z
  ·rw [q5r n]; exact S.own j e z
 inj:=fun j l e f w h1 h2 => by
  rcases q1s h1 with ⟨_,z,_⟩ | ⟨n,z⟩
  ·cases z
  rcases q1s h2 with ⟨_,z2,_⟩ | ⟨n2,z2⟩
  ·cases z2
  rw [q5r n,q5r n2]
  exact S.inj j l e f w z z2
 lent:=fun j w e h => by
  rcases q1s h with ⟨_,z,_⟩ | ⟨n,z⟩
  ·cases z
  ·rw [q5r n]; exact S.lent j w e z
 bor:=fun j w e h => by
  rcases q1s h with ⟨_,z,_⟩ | ⟨n,z⟩
  ·cases z
  ·rw [q5r n]; exact S.bor j w e z
 shr:=fun j e h => by
  rcases q1s h with ⟨rfl,z,l⟩ | ⟨n,z⟩
  ·cases z
   exact ⟨v,z3o (by rw [S.len]; exact l),r⟩
  ·rw [q5r n]; exact S.shr j e z
theorem SR.putNew (S : SR K W H0 σ H ρ O) {a : Addr} {d : D} (e : q2h H H') (ha : H a = none) (r : q8f K (fun b => O b \/ b = a) H' a d) : SR K W H0 (σ.set i (some (.ref a))) H' (ρ.set i (some (.own d))) (fun b => O b \/ b = a) where
 same:=S.same.trans e
 len:=by rw [List.length_set,List.length_set]; exact S.len
 sub:=fun b z => .inl (S.sub b z)
 mts:=fun b z => by
  rcases z with z | rfl
  ·exact (S.grow e).mts b z
  ·exact r.mut
 own:=fun j f h => by
  rcases q1s h with ⟨rfl,z,l⟩ | ⟨n,z⟩
  ·cases z
   exact ⟨a,z3o (by rw [S.len]; exact l),.inr rfl,fun w => S.mts.ne a (S.sub a w) ha,S.same.free ha,r⟩
  ·rw [q5r n]
   obtain ⟨b,h1,h2,h3,h4,h5⟩:=S.own j f z
   exact ⟨b,h1,.inl h2,h3,h4,(h5.av fun c w => w.imp id fun w => by rw [w]; exact ha).same e⟩
 inj:=fun j l f g w h1 h2 => by
  rcases q1s h1 with ⟨rfl,z,l1⟩ | ⟨n,z⟩
  ·rcases q1s h2 with ⟨rfl,_,_⟩ | ⟨n2,z2⟩
   ·intros; rfl
   ·rw [z3o (by rw [S.len]; exact l1),q5r n2]
    intro q1 q2
    obtain ⟨b,h1,h2,_,_,h5⟩:=S.own l g z2
    rw [<- q1] at q2
    rw [h1] at q2
    cases q2
    exact absurd ha (S.mts.ne a h2)
  ·rcases q1s h2 with ⟨rfl,z2,l2⟩ | ⟨n2,z2⟩
   ·rw [q5r n,z3o (by rw [S.len]; exact l2)]
    intro q1 q2
    obtain ⟨b,h1,h2,_,_,h5⟩:=S.own j f z
    rw [<- q2] at q1
    rw [h1] at q1
    cases q1
    exact absurd ha (S.mts.ne a h2)
   ·rw [q5r n,q5r n2]
    exact S.inj j l f g w z z2
 lent:=fun j w f h => by
  rcases q1s h with ⟨_,z,_⟩ | ⟨n,z⟩
  ·cases z
  ·rw [q5r n]
   obtain ⟨h1,b,h2,h3,h4⟩:=S.lent j w f z
   exact ⟨h1,b,h2,h3,(h4.av fun c w => w.imp id fun w => by rw [w]; exact ha).same e⟩
 bor:=fun j w f h => by
  rcases q1s h with ⟨_,z,_⟩ | ⟨n,z⟩
  ·cases z
  ·rw [q5r n]
   obtain ⟨h1,h2⟩:=S.bor j w f z
   exact ⟨h1,(h2.av fun c w => w.imp id fun w => by rw [w]; exact ha).same e⟩
 shr:=fun j f h => by
  rcases q1s h with ⟨_,z,_⟩ | ⟨n,z⟩
  ·cases z
  ·rw [q5r n]
   obtain ⟨v,h1,h2⟩:=S.shr j f z
   exact ⟨v,h1,(h2.av fun c w => w.imp id fun w => by rw [w]; exact ha).same e⟩
theorem SR.write (S : SR K W H0 σ H ρ O) {a : Addr} {d d' : D} {o : HO} (hi : ρ[i]? = some (some (.own d))) (ha : σ[i]? = some (some (.ref a))) (hm : Mut (some o)) (r : q8f K O (upd H a o) a d') :
  SR K W H0 σ (upd H a o) (ρ.set i (some (.own d'))) O /\ Frm ρ O H (ρ.set i (some (.own d'))) O (upd H a o):=by
 obtain ⟨a',h1,h2,h3,h4,h5⟩:=S.own i d hi
 rw [ha] at h1
 cases h1
 have kp : Kept O H (upd H a o):=fun b u q n => by rw [q1y (show b ≠ a from fun z => n (z ▸ h2))]; exact q
 have nw : ∀ b,O b -> O b \/ H b = none:=fun b z => .inl z
 refine ⟨?_,Frm.set trivial kp nw⟩
 refine { same:=fun b u q => ?_,len:=by rw [List.length_set]; exact S.len,sub:=S.sub,mts:=fun b z => ?_,own:=fun j e h => ?_,inj:=fun j l e f w g1 g2 => ?_,lent:=fun j w e h => ?_,bor:=fun j w e h => ?_,shr:=fun j e h => ?_ }
 ·rw [q1y (q3g q h4)]; exact S.same b u q
 ·by_cases hb : b = a
  ·rw [hb,q2f]; exact hm
  ·rw [q1y hb]; exact S.mts b z
 ·rcases q1s h with ⟨rfl,z,l⟩ | ⟨n,z⟩
  ·cases z
   exact ⟨a,ha,h2,h3,h4,r⟩
  ·obtain ⟨b,g1,g2,g3,g4,g5⟩:=S.own j e z
   have ne : b ≠ a:=fun q => n (S.inj j i e d _ z hi g1 (by rw [ha,q]))
   exact ⟨b,g1,g2,g3,g4,g5.move S.mts kp (q1y ne) nw⟩
 ·rcases q1s g1 with ⟨rfl,_,_⟩ | ⟨n,z⟩
  ·rcases q1s g2 with ⟨rfl,_,_⟩ | ⟨n2,z2⟩
   ·intros; rfl
   ·exact S.inj j l d f w hi z2
  ·rcases q1s g2 with ⟨rfl,_,_⟩ | ⟨n2,z2⟩
   ·exact S.inj j l e d w z hi
   ·exact S.inj j l e f w z z2
 ·rcases q1s h with ⟨_,z,_⟩ | ⟨n,z⟩
  ·cases z
  ·obtain ⟨g1,b,g2,g3,g4⟩:=S.lent j w e z
   have ne : b ≠ a:=fun q => h3 (q ▸ g3)
   exact ⟨g1,b,g2,g3,g4.move S.mts kp (q1y ne) nw⟩
 ·rcases q1s h with ⟨_,z,_⟩ | ⟨n,z⟩
  ·cases z
  ·obtain ⟨g1,g2⟩:=S.bor j w e z
   refine ⟨g1,?_⟩
   rcases g2 with g2 | ⟨b,g2,g3,g4⟩
   ·exact .inl (g2.move S.mts kp nw)
   ·have ne : b ≠ a:=fun q => h3 (q ▸ g3)
    exact .inr ⟨b,g2,g3,g4.move S.mts kp g2 (q1y ne) nw⟩
 ·rcases q1s h with ⟨_,z,_⟩ | ⟨n,z⟩
  ·cases z
  ·obtain ⟨v,g1,g2⟩:=S.shr j e z
   exact ⟨v,g1,g2.move S.mts kp nw⟩
def w1q (i : Nat) (ρ : En) : Option (Option Sl) -> En
 | some (some (.own d)) => ρ.set i (some (.shr d))
 | _ => ρ
def frz1 (i : Nat) (ρ : En) : En:=w1q i ρ ρ[i]?
theorem SR.frz1 (S : SR K W H0 σ H ρ O) (i : Nat) : ∃ O',SR K W H0 σ H (frz1 i ρ) O' /\ Frm ρ O H (DL.frz1 i ρ) O' H:=by
 unfold DL.frz1 w1q
 split
 ·rename_i d hi
  obtain ⟨a,h1,h2,h3,h4,h5⟩:=S.own i d hi
  have nw : ∀ b,(O b /\ b ≠ a) -> O b \/ H b = none:=fun b z => .inl z.1
  refine ⟨fun b => O b /\ b ≠ a,?_,Frm.set trivial (fun b o q _ => q) nw⟩
  refine { same:=S.same,len:=by rw [List.length_set]; exact S.len,sub:=fun b z => ⟨S.sub b z,fun e => h3 (e ▸ z)⟩,mts:=fun b z => S.mts b z.1,own:=fun j e h => ?_,inj:=fun j l e f w g1 g2 => ?_,lent:=fun j w e h => ?_,bor:=fun j w e h => ?_,shr:=fun j e h => ?_ }
  ·rcases q1s h with ⟨rfl,z,l⟩ | ⟨n,z⟩
   ·cases z
   ·obtain ⟨b,g1,g2,g3,g4,g5⟩:=S.own j e z
    have ne : b ≠ a:=fun q => n (S.inj j i e d _ z hi g1 (by rw [h1,q]))
    exact ⟨b,g1,⟨g2,ne⟩,g3,g4,g5.av nw⟩
  ·rcases q1s g1 with ⟨rfl,z,_⟩ | ⟨n,z⟩
   ·cases z
   ·rcases q1s g2 with ⟨rfl,z2,_⟩ | ⟨n2,z2⟩
    ·cases z2
    ·exact S.inj j l e f w z z2
  ·rcases q1s h with ⟨_,z,_⟩ | ⟨n,z⟩
   ·cases z
   ·obtain ⟨g1,b,g2,g3,g4⟩:=S.lent j w e z
    exact ⟨g1,b,g2,g3,g4.av nw⟩
  ·rcases q1s h with ⟨_,z,_⟩ | ⟨n,z⟩
   ·cases z
   ·obtain ⟨g1,g2⟩:=S.bor j w e z
    exact ⟨g1,g2.av nw⟩
  ·rcases q1s h with ⟨rfl,z,l⟩ | ⟨n,z⟩
   ·cases z
    exact ⟨_,h1,(h5.av nw).rep fun z => z.2 rfl⟩
   ·obtain ⟨v,g1,g2⟩:=S.shr j e z
    exact ⟨v,g1,g2.av nw⟩
 ·exact ⟨O,S,Frm.refl _ _ _⟩
def frz : List Nat -> En -> En
 | [],ρ => ρ
 | i :: r,ρ => frz r (DL.frz1 i ρ)
theorem SR.frz : ∀ (F : List Nat) {ρ : En} {O : Addr -> Prop},SR K W H0 σ H ρ O -> ∃ O',SR K W H0 σ H (frz F ρ) O' /\ Frm ρ O H (DL.frz F ρ) O' H
 | [],ρ,O,S => ⟨O,S,Frm.refl _ _ _⟩
 | i :: r,ρ,O,S => by
  obtain ⟨O1,S1,f1⟩:=S.frz1 i
  obtain ⟨O2,S2,f2⟩:=SR.frz r S1
  exact ⟨O2,S2,f1.trans f2⟩
end
section
variable {m : Md} {X : Cx} {st : Stmt} {s : DS} {e : Expr} {de : DE} {pos : Pos} {i : Nat} {x : Str}
def w3t (F : List Nat) (s : DS) : DS:=fun E ρ => s E (frz F ρ)
theorem j9u (F : List Nat) (h : PSX m X st s) : PSX m X st (w3t F s):=by
 obtain ⟨t,p,q⟩:=h
 refine ⟨t,p,fun W H0 σ H ρ O E T S h L => ?_⟩
 obtain ⟨O',S',f⟩:=S.frz F
 exact q W H0 σ H _ O' E T S' h (L.frm f)
def w1j (i : Nat) (de : DE) : DS:=fun E ρ => de ρ fun d => E.nx (ρ.set i (some (.shr d)))
def w0d (i : Nat) (de : DE) : DS:=fun E ρ => de ρ fun d => E.nx (ρ.set i (some (.own d)))
theorem j0t {ρ : En} {i : Nat} {d : D} {O : Addr -> Prop} {H H' : Hp} {a : Addr} (e : q2h H H') (ha : H a = none) : Frm ρ O H (ρ.set i (some (.own d))) (fun b => O b \/ b = a) H':=Frm.set trivial (fun b o q _ => e b o q) fun b z => z.imp id fun z => by rw [z]; exact ha
theorem k0p {ρ : En} {i : Nat} {d : D} {O : Addr -> Prop} {H H' : Hp} (e : q2h H H') : Frm ρ O H (ρ.set i (some (.shr d))) O H':=Frm.set trivial (fun b o q _ => e b o q) fun b z => .inl z
theorem j8o {te : TE} {ts : TS} (pt : PS X st ts) (ht : ts = j5x te (z9g i)) (q : ∀ (W : Addr -> Prop) (H0 : Hp) (σ : L2.St) (H : Hp) (ρ : En) (O : Addr -> Prop) (R : D -> Prop) (Q : VK),SR X.K W H0 σ H ρ O -> de ρ R -> (∀ v d H',q2h H H' -> Res .v X.K O H H' v d -> R d -> Q v H') -> te σ H Q) : PSX m X st (w1j i de):=by
 subst ht
 refine ⟨_,pt,fun W H0 σ H ρ O E T S h L => ?_⟩
 refine q W H0 σ H ρ O _ _ S h fun v d H' e r hd => ?_
 exact L.nx _ _ _ _ ((S.grow e).put r) (k0p e) hd
theorem j0j {te : TE} {ts : TS} (pt : PS X st ts) (ht : ts = j5x te (z9g i)) (q : ∀ (W : Addr -> Prop) (H0 : Hp) (σ : L2.St) (H : Hp) (ρ : En) (O : Addr -> Prop) (R : D -> Prop) (Q : VK),SR X.K W H0 σ H ρ O -> de ρ R -> (∀ v d H',q2h H H' -> Res .n X.K O H H' v d -> R d -> Q v H') -> te σ H Q) : PSX m X st (w0d i de):=by
 subst ht
 refine ⟨_,pt,fun W H0 σ H ρ O E T S h L => ?_⟩
 refine q W H0 σ H ρ O _ _ S h fun v d H' e r hd => ?_
 obtain ⟨a,rfl,ha,ow⟩:=r
 exact L.nx _ _ _ _ (S.putNew e ha ow) (j0t e ha) hd
theorem q1u {pos' : Pos} (hN : X.N.Nodup) (hi : X.N[i]? = some x) (hx : Loc X.env.scope x) (he : PX .v X e de) (hs : swapsWith e (some (.Name x pos')) pos.line X.env = pure false:=by rfl)
  (hf : X.fn x = true \/ X.env.scope.names.lookup x = some .local:=by first | exact .inl rfl | exact .inr rfl | assumption) : PSX m X (.Assign [.Name x pos'] e pos) (w1j i de):=by
 obtain ⟨te,p,q⟩:=he
 exact j8o (z8l hN hi hx p hs hf) rfl q
theorem q4a {pos' : Pos} (hN : X.N.Nodup) (hi : X.N[i]? = some x) (hx : Loc X.env.scope x) (he : PX .n X e de) (hs : swapsWith e (some (.Name x pos')) pos.line X.env = pure false:=by rfl)
  (hf : X.fn x = true \/ X.env.scope.names.lookup x = some .local:=by first | exact .inl rfl | exact .inr rfl | assumption) : PSX m X (.Assign [.Name x pos'] e pos) (w0d i de):=by
 obtain ⟨te,p,q⟩:=he
 exact j0j (z8l hN hi hx p hs hf) rfl q
def w3l (de : DE) : DS:=fun E ρ => de ρ E.rt
theorem Res.ret {m : Md} {K : PySem.W.Frag} {W O : Addr -> Prop} {H0 H H' : Hp} {σ : L2.St} {ρ : En} {v : V} {d : D} (hm : m ≠ .b) (S : SR K W H0 σ H ρ O) (r : Res m K O H H' v d) : Res m K W H0 H' v d:=by
 cases m with
 | b => exact absurd rfl hm
 | v => exact Rep.av (fun b z => .inl (S.sub b z)) r
 | n =>
  obtain ⟨a,h1,h2,h3⟩:=r
  exact ⟨a,h1,S.same.free h2,h3.av fun b z => .inl (z.imp (S.sub b) id)⟩
 | h =>
  obtain ⟨t,x,y,dx,dy,e1,e2,e3,e4⟩:=r
  exact ⟨t,x,y,dx,dy,e1,e2,e3,e4.imp fun _ _ ⟨a,h1,h2,h3⟩ => ⟨a,h1,S.same.free h2,h3.av fun b z => .inl (z.imp (S.sub b) id)⟩⟩
theorem q2s (hm : m ≠ .b:=by decide) (he : PX m X e de) : PSX m X (.Return (some e) pos) (w3l de):=by
 obtain ⟨te,p,q⟩:=he
 refine ⟨_,z8w p,fun W H0 σ H ρ O E T S h L => ?_⟩
 exact q W H0 σ H ρ O _ _ S h fun v d H' e r hd => L.rt v d H' (S.same.trans e) (Res.ret hm S r) hd
def w2u : Option (Option Sl) -> (D -> Prop) -> Prop
 | some (some (.own d)),R => R d
 | _,_ => False
def j1t (i : Nat) : DS:=fun E ρ => w2u ρ[i]? E.rt
theorem q4z {pos' : Pos} (hN : X.N[i]? = some x:=by rfl) (hv : Vis X.env.scope x:=by first | exact Or.inl rfl | exact Or.inr (Or.inl rfl) | exact Or.inr (Or.inr rfl)) (hd : (x == ("__debug__" : Str)) = false:=by decide)
  (hcd : (x == ("__classdict__" : Str)) = false:=by decide) : PSX .n X (.Return (some (.Name x pos')) pos) (j1t i):=by
 refine ⟨_,z8w (q7a hN hv hd hcd),fun W H0 σ H ρ O E T S h L => ?_⟩
 unfold j1t w2u at h
 split at h
 ·rename_i d hi
  obtain ⟨a,h1,h2,h3,h4,h5⟩:=S.own i d hi
  refine ⟨_,h1,L.rt _ _ _ S.same ⟨a,rfl,h4,h5.av fun b z => .inl ?_⟩ h⟩
  rcases z with z | rfl
  ·exact S.sub b z
  ·exact h2
 ·exact h.elim
end
abbrev DG:=D -> En -> (En -> Prop) -> Prop
abbrev DGs:=List D -> En -> (En -> Prop) -> Prop
def PGX (X : Cx) (tg : Expr) (dg : DG) : Prop:=∃ g,PG X tg g /\ ∀ (W : Addr -> Prop) (H0 : Hp) (σ : L2.St) (H : Hp) (ρ : En) (O : Addr -> Prop) (v : V) (d : D) (R : En -> Prop) (Q : L2.St -> Hp -> Prop),SR X.K W H0 σ H ρ O -> Rep X.K O H v d -> dg d ρ R →
 (∀ σ' ρ',SR X.K W H0 σ' H ρ' O -> Frm ρ O H ρ' O H -> R ρ' -> Q σ' H) -> g v σ H Q
def j5c (X : Cx) (tg : List Expr) (dg : DGs) : Prop:=∃ g,PGs X tg g /\ ∀ (W : Addr -> Prop) (H0 : Hp) (σ : L2.St) (H : Hp) (ρ : En) (O : Addr -> Prop) (vs : List V) (ds : List D) (R : En -> Prop) (Q : L2.St -> Hp -> Prop),SR X.K W H0 σ H ρ O -> q2i X.K O H vs ds -> dg ds ρ R →
 (∀ σ' ρ',SR X.K W H0 σ' H ρ' O -> Frm ρ O H ρ' O H -> R ρ' -> Q σ' H) -> g vs σ H Q
section
variable {X : Cx} {pos : Pos} {i : Nat} {x : Str}
def gN (i : Nat) : DG:=fun d ρ R => R (ρ.set i (some (.shr d)))
theorem q1n (hN : X.N.Nodup) (hi : X.N[i]? = some x) (hx : Loc X.env.scope x) (hf : X.fn x = true \/ X.env.scope.names.lookup x = some .local:=by first | exact .inl rfl | exact .inr rfl | assumption) : PGX X (.Name x pos) (gN i) :=
 ⟨_,j4n hN hi hx hf,fun W H0 σ H ρ O v d R Q S r h k => k _ _ (S.put r) (k0p (q2h.refl _)) h⟩
def j7d : DGs
 | [],ρ,R => R ρ
 | _,_,_ => False
def k9g (g : DG) (u : DGs) : DGs
 | d :: r,ρ,R => g d ρ fun ρ' => u r ρ' R
 | _,_,_ => False
theorem q4p : j5c X [] j7d:=⟨_,j4v,fun W H0 σ H ρ O vs ds R Q S r h k => by
 cases r with
 | nil => exact ⟨rfl,k _ _ S (Frm.refl _ _ _) h⟩
 | cons _ _ => exact h.elim⟩
theorem q2b {e : Expr} {es : List Expr} {g : DG} {u : DGs} (h1 : PGX X e g) (h2 : j5c X es u) (hs : (assignEach (e :: es) X.env).map (·.2) = assign e X.env :: (assignEach es X.env).map (·.2):=by rfl) : j5c X (e :: es) (k9g g u):=by
 obtain ⟨t,p,q⟩:=h1
 obtain ⟨t2,p2,q2⟩:=h2
 refine ⟨_,k6i p p2 hs,fun W H0 σ H ρ O vs ds R Q S r h k => ?_⟩
 cases r with
 | nil => exact h.elim
 | cons r1 r2 => exact ⟨_,_,rfl,q W H0 σ H ρ O _ _ _ _ S r1 h fun σ' ρ' S' f' h' => q2 W H0 σ' H ρ' O _ _ R Q S' r2 h' fun s2 p2 S2 f2 => k s2 p2 S2 (f'.trans f2)⟩
def gT (n : Nat) (u : DGs) : DG
 | .tup ds,ρ,R => ds.length = n /\ u ds ρ R
 | _,_,_ => False
theorem j9a {es : List Expr} {k : Nat} {u : DGs} {n : Nat} {g : DGs} (hp : ∀ t,PGs X es t -> PG X (.Tuple es k pos) (w0w X.K n t)) (h : j5c X es u) : PGX X (.Tuple es k pos) (gT n u):=by
 obtain ⟨t,p,q⟩:=h
 refine ⟨_,hp t p,fun W H0 σ H ρ O v d R Q S r h k => ?_⟩
 cases r with
 | tup hq rs => exact ⟨_,_,rfl,hq.1,by rw [rs.length]; exact h.1,q W H0 σ H ρ O _ _ R Q S rs h.2 k⟩
 | _ => exact h.elim
def JS (J : It) (K : PySem.W.Frag) (Ik : (Addr -> Prop) -> Hp -> Prop) (ds : List D) : Prop:=∀ (O : Addr -> Prop) (H : Hp) (i : Nat),q8a O H -> Ik O H -> (∀ d,ds[i]? = some d -> J.go i H /\ ∀ x H',J.yld i H x H' -> q2h H H' /\ Rep K O H' x d) /\ (ds.length <= i -> J.stop i H)
def Stb (Ik : (Addr -> Prop) -> Hp -> Prop) : Prop:=∀ O1 H1 O2 H2,q8a O1 H1 -> Kept O1 H1 H2 -> (∀ b,O2 b -> O1 b \/ H1 b = none) -> Ik O1 H1 -> Ik O2 H2
theorem Stb.frm {Ik : (Addr -> Prop) -> Hp -> Prop} (h : Stb Ik) {ρ ρ' : En} {O O' : Addr -> Prop} {H H' : Hp} (M : q8a O H) (f : Frm ρ O H ρ' O' H') (i : Ik O H) : Ik O' H':=h O H O' H' M f.kept f.new i
def PIX (X : Cx) (tg iter : Expr) (di : DA) : Prop:=∃ wi,PI X tg iter wi /\ ∀ (W : Addr -> Prop) (H0 : Hp) (σ : L2.St) (H : Hp) (ρ : En) (O : Addr -> Prop) (R : List D -> Prop) (Rh : It -> Hp -> Prop),SR X.K W H0 σ H ρ O -> di ρ R →
 (∀ J H1 ds Ik,q2h H H1 -> Ik O H1 -> Stb Ik -> JS J X.K Ik ds -> R ds -> Rh J H1) -> wi σ H Rh
theorem SqL.of_rep {K : PySem.W.Frag} {O : Addr -> Prop} {H : Hp} {a : Addr} {ds : List D} (r : Rep K O H (.ref a) (.lst ds)) : ∃ xs,SqL K H a xs /\ q2i K O H xs ds:=by
 cases r with
 | lst n h r => exact ⟨_,.inl h,r⟩
 | lstM h r =>
  refine ⟨_,?_,r⟩
  rcases h with h | h
  ·rcases h with h | ⟨o,h⟩ <;> cases h
  ·exact .inr h
theorem q3t {K : PySem.W.Frag} {O : Addr -> Prop} {H : Hp} {v : V} {ds : List D} (r : q4b K O H v (.lst ds)) : ∃ a xs,v = .ref a /\ SqL K H a xs /\ q2i K O H xs ds:=by
 rcases r with r | ⟨b,hv,_,t⟩
 ·cases r with
  | lst n h r => exact ⟨_,_,rfl,.inl h,r⟩
  | lstM h r =>
   obtain ⟨xs,h1,h2⟩:=SqL.of_rep (.lstM h r)
   exact ⟨_,_,rfl,h1,h2⟩
 ·cases t with
  | lst h r => exact ⟨_,_,rfl,h,r⟩
theorem q3y {K : PySem.W.Frag} {O : Addr -> Prop} {H : Hp} {v : V} {ds : List D} (r : q4b K O H v (.tup ds)) : ∃ a xs,v = .ref a /\ SqT K H a xs /\ q2i K O H xs ds:=by
 rcases r with r | ⟨b,hv,_,t⟩
 ·cases r with
  | tup h r => exact ⟨_,_,rfl,h.1,r⟩
 ·cases t
theorem z3n {K : PySem.W.Frag} (v : V) (d : D) : Stb fun O H => Rep K O H v d:=fun O1 H1 O2 H2 m f n r => r.move m f n
end
section
variable {m : Md} {X : Cx} {tg l : Expr} {de : DE} {pos : Pos}
theorem k1f {K : PySem.W.Frag} {a : Addr} {ds : List D} : JS (Itl K a) K (fun O H => Rep K O H (.ref a) (.lst ds)) ds:=by
 intro O H i M r
 obtain ⟨xs,h1,h2⟩:=SqL.of_rep r
 refine ⟨fun d hd => ?_,fun hl => ⟨xs,h1,by rw [h2.length]; exact hl⟩⟩
 obtain ⟨x,e1,e2⟩:=h2.getD hd
 refine ⟨⟨xs,x,h1,e1⟩,fun y H' z => ?_⟩
 obtain ⟨rfl,z⟩:=z
 have:=z xs h1
 rw [e1] at this
 cases this
 exact ⟨q2h.refl _,e2⟩
theorem j0a {K : PySem.W.Frag} {a : Addr} {ds : List D} : JS (Itt K a) K (fun O H => Rep K O H (.ref a) (.tup ds)) ds:=by
 intro O H i M r
 cases r with
 | tup h1 h2 =>
  rename_i xs
  have h1:=h1.1
  refine ⟨fun d hd => ?_,fun hl => ⟨xs,h1,by rw [h2.length]; exact hl⟩⟩
  obtain ⟨x,e1,e2⟩:=h2.getD hd
  refine ⟨⟨xs,x,h1,e1⟩,fun y H' z => ?_⟩
  obtain ⟨rfl,z⟩:=z
  have:=z xs h1
  rw [e1] at this
  cases this
  exact ⟨q2h.refl _,e2⟩
def z2s (X : Cx) (tg : Expr) (r : V -> Hp -> (It -> Hp -> Prop) -> Prop) : Prop:=∀ (pins : List (Addr × Obj)) (s : Shared) (σ : L2.St) (H : Hp) (x : V) (v : Value) (R : It -> Hp -> Prop),Inv X pins σ H s -> RelV x v -> r x H R →
 wpAny (model X.prog X.w) X.A (pyIter v) (PIE X pins σ tg R) X.xe s
theorem z2s.or {r r' : V -> Hp -> (It -> Hp -> Prop) -> Prop} (h : z2s X tg r) (h' : z2s X tg r') : z2s X tg (fun x H R => r x H R \/ r' x H R):=fun pins s σ H x v R I rx q => q.elim (h pins s σ H x v R I rx) (h' pins s σ H x v R I rx)
theorem q9y : z2s X tg (fun x H R => ∃ a,x = .ref a /\ (∃ xs,SqL X.K H a xs) /\ R (Itl X.K a) H):=by
 intro pins s1 σ H1 x v R I1 r1 q1
 obtain ⟨a,e,⟨xs,hq⟩,q⟩:=q1
 subst e
 cases r1
 obtain ⟨its,rv,p,hz⟩:=I1.list hq
 refine wpAny_pyIter_list p.isList ?_
 refine ⟨s1.heap.objs.size,[s1.heap.objs.size],_,_,H1,rfl,I1.kept (t':=s1.toks) fun b o e => Heap.get?_push_of_some _ e,k0u a _,⟨_,Heap.get?_push_size _ rfl,rfl,rfl⟩,fun b hb => ?_,q⟩
 have e : b = s1.heap.objs.size:=by simpa using hb
 subst e
 exact I1.fpOk (Nat.le_refl _) (I1.hok.fresh (Nat.le_refl _))
theorem z2y : z2s X tg (fun x H R => ∃ a,x = .ref a /\ (∃ xs,SqT X.K H a xs) /\ R (Itt X.K a) H):=by
 intro pins s1 σ H1 x v R I1 r1 q1
 obtain ⟨a,e,⟨xs,hq⟩,q⟩:=q1
 subst e
 cases r1
 obtain ⟨its,rv,p,hz⟩:=I1.tuple hq
 refine wpAny_pyIter_tuple (show s1.heap.IsTuple a its.toArray from p) ?_
 refine ⟨s1.heap.objs.size,[s1.heap.objs.size],_,_,H1,rfl,I1.kept (t':=s1.toks) fun b o e => Heap.get?_push_of_some _ e,z9z a _,⟨_,Heap.get?_push_size _ rfl,rfl,rfl⟩,fun b hb => ?_,q⟩
 have e : b = s1.heap.objs.size:=by simpa using hb
 subst e
 exact I1.fpOk (Nat.le_refl _) (I1.hok.fresh (Nat.le_refl _))
theorem z6h {te : TE} {r : V -> Hp -> (It -> Hp -> Prop) -> Prop} (hi : z2s X tg r) (hl : PE X l te) : PI X tg l (fun σ H R => te σ H fun x H1 => r x H1 R):=by
 intro pins s σ H R I h
 exact thn (hl pins s σ H _ I h) fun v s1 ⟨x,H1,I1,r1,q1⟩ => hi pins s1 σ H1 x v R I1 r1 q1
abbrev GI:=D -> (List D -> Prop) -> Prop
def j6j (X : Cx) (tg : Expr) (gi : GI) : Prop:=∃ r,z2s X tg r /\ ∀ (O : Addr -> Prop) (H : Hp) (v : V) (d : D) (R : List D -> Prop) (Rh : It -> Hp -> Prop),q8a O H -> Rep X.K O H v d -> gi d R →
 (∀ J ds Ik,Ik O H -> Stb Ik -> JS J X.K Ik ds -> R ds -> Rh J H) -> r v H Rh
def j3u : GI
 | .lst ds,R => R ds
 | .tup ds,R => R ds
 | _,_ => False
theorem q5j : j6j X tg j3u:=by
 refine ⟨_,q9y.or z2y,fun O H v d R Rh M r h k => ?_⟩
 cases d with
 | lst ds =>
  obtain ⟨a,xs,rfl,h1,h2⟩:=q3t (.inl r)
  exact .inl ⟨a,rfl,⟨xs,h1⟩,k _ ds _ r (z3n _ _) k1f h⟩
 | tup ds =>
  obtain ⟨a,xs,rfl,h1,h2⟩:=q3y (.inl r)
  exact .inr ⟨a,rfl,⟨xs,h1⟩,k _ ds _ r (z3n _ _) j0a h⟩
 | _ => exact h.elim
def w0y (gi : GI) (de : DE) : DA:=fun ρ R => de ρ fun d => gi d R
theorem q6l {gi : GI} (hi : j6j X tg gi) (h : PX .v X l de) : PIX X tg l (w0y gi de):=by
 obtain ⟨r,p,q⟩:=hi
 obtain ⟨te,p2,q2⟩:=h
 refine ⟨_,z6h p p2,fun W H0 σ H ρ O R Rh S h k => ?_⟩
 refine q2 W H0 σ H ρ O _ _ S h fun v d H1 e1 r1 h1 => ?_
 exact q O H1 v d R Rh (S.grow e1).mts r1 h1 fun J ds Ik a b c z => k J H1 ds Ik e1 a b c z
theorem z8q {K : PySem.W.Frag} {lo : Int} {n : Nat} : JS (Itr lo n) K (fun _ _ => True) ((List.range n).map fun (k : Nat) => D.int (lo + (k : Int))):=by
 intro O H i M r
 refine ⟨fun d hd => ?_,fun hl => ?_⟩
 ·rw [List.getElem?_map] at hd
  by_cases hi : i < n
  ·rw [List.getElem?_range hi] at hd
   cases hd
   refine ⟨hi,fun x H' z => ?_⟩
   obtain ⟨rfl,rfl⟩:=z
   exact ⟨q2h.refl _,.int _⟩
  ·rw [List.getElem?_eq_none (by simpa using hi)] at hd; cases hd
 ·rw [List.length_map,List.length_range] at hl
  exact hl
def w0r : List D -> (List D -> Prop) -> Prop
 | [.int j],R => (-(2 ^ 62) <= j /\ j < 2 ^ 62) /\ R ((List.range j.toNat).map fun (k : Nat) => D.int (0 + (k : Int)))
 | [.int i,.int j],R => (-(2 ^ 62) <= i /\ i < 2 ^ 62 /\ -(2 ^ 62) <= j /\ j < 2 ^ 62) /\ R ((List.range (j - i).toNat).map fun (k : Nat) => D.int (i + (k : Int)))
 | _,_ => False
def w1x (da : DA) : DA:=fun ρ R => da ρ fun ds => w0r ds R
theorem q2o {a : Expr} {da : DA} {p pos : Pos} (hg : Gl X "range") (hm : X.mg "range" = none) (ha : PAX [false] X [a] da) (hs : starEach [a] X.env = [(false,eval a X.env)]:=by rfl) : PIX X tg (.Call (.Name "range" p) [a] [] pos) (w1x da):=by
 obtain ⟨ta,p,q⟩:=ha
 refine ⟨_,k2n hg hm p hs,fun W H0 σ H ρ O R Rh S h k => ?_⟩
 refine q W H0 σ H ρ O _ _ S h fun vs ds H1 e1 r1 h1 => ?_
 cases r1 with
 | v r rr =>
  cases rr
  cases r with
  | int j => exact ⟨j,rfl,h1.1.1,h1.1.2,k _ H1 _ (fun _ _ => True) e1 trivial (fun _ _ _ _ _ _ _ _ => trivial) z8q h1.2⟩
  | _ => exact h1.elim
theorem q9p {a b : Expr} {da : DA} {p pos : Pos} (hg : Gl X "range") (hm : X.mg "range" = none) (ha : PAX [false,false] X [a,b] da) (hs : starEach [a,b] X.env = [(false,eval a X.env),(false,eval b X.env)]:=by rfl) (hs2 : starEach [b] X.env = [(false,eval b X.env)]:=by rfl) :
  PIX X tg (.Call (.Name "range" p) [a,b] [] pos) (w1x da):=by
 obtain ⟨ta,p,q⟩:=ha
 refine ⟨_,k4l hg hm p hs hs2,fun W H0 σ H ρ O R Rh S h k => ?_⟩
 refine q W H0 σ H ρ O _ _ S h fun vs ds H1 e1 r1 h1 => ?_
 cases r1 with
 | v r rr =>
  cases rr with
  | v r' rr =>
   cases rr
   cases r with
   | int i =>
    cases r' with
    | int j => exact ⟨i,j,rfl,h1.1,k _ H1 _ (fun _ _ => True) e1 trivial (fun _ _ _ _ _ _ _ _ => trivial) z8q h1.2⟩
    | _ => exact h1.elim
   | _ => exact h1.elim
def z0v (dg : DG) (db : DS) (E : z8b) : List D -> En -> Prop
 | [],ρ => E.nx ρ
 | d :: r,ρ => dg d ρ fun ρ1 => db { E with nx:=z0v dg db E r,ct:=z0v dg db E r,bk:=E.nx } ρ1
def w3q (di : DA) (dg : DG) (db : DS) : DS:=fun E ρ => di ρ fun ds => z0v dg db E ds ρ
theorem q8i {wi : TI} {g : TG} {tb : TS} {dg : DG} {db : DS} {W : Addr -> Prop} {H0 : Hp} {σ : L2.St} {H H1 : Hp} {ρ : En} {O : Addr -> Prop} {E : z8b} {T : z9i} {J : It} {ds : List D} {Ik : L2.St -> En -> (Addr -> Prop) -> Hp -> Prop}
  (qg : ∀ (W : Addr -> Prop) (H0 : Hp) (σ : L2.St) (H : Hp) (ρ : En) (O : Addr -> Prop) (v : V) (d : D) (R : En -> Prop) (Q : L2.St -> Hp -> Prop),SR X.K W H0 σ H ρ O -> Rep X.K O H v d -> dg d ρ R -> (∀ σ' ρ',SR X.K W H0 σ' H ρ' O -> Frm ρ O H ρ' O H -> R ρ' -> Q σ' H) -> g v σ H Q)
  (qb : ∀ (W : Addr -> Prop) (H0 : Hp) (σ : L2.St) (H : Hp) (ρ : En) (O : Addr -> Prop) (E : z8b) (T : z9i),SR X.K W H0 σ H ρ O -> db E ρ -> Lk m X.K W H0 ρ O H E T -> tb T σ H)
  (S : SR X.K W H0 σ H1 ρ O) (f0 : Frm ρ O H ρ O H1) (L : Lk m X.K W H0 ρ O H E T) (hw : z0v dg db E ds ρ)
  (js : ∀ (i : Nat) σ' ρ' O' H',SR X.K W H0 σ' H' ρ' O' -> Frm ρ O H1 ρ' O' H' -> (∀ d,ds[i]? = some d -> z0v dg db E (ds.drop i) ρ' -> J.go i H' /\ ∀ x H2,J.yld i H' x H2 -> q2h H' H2 /\ Rep X.K O' H2 x d) /\ (ds.length <= i -> z0v dg db E (ds.drop i) ρ' -> J.stop i H')) :
  ∃ W : Nat -> Nat -> L2.St -> Hp -> Prop,(∃ m,W 0 m σ H1) /\ ∀ i m σ H,W i m σ H →
   (J.stop i H /\ T.nx σ H) \/ (J.go i H /\ ∃ N : L2.St -> Hp -> Prop,(∀ σ' H',N σ' H' -> ∃ m',m' < m /\ W (i + 1) m' σ' H') /\ ∀ x H',J.yld i H x H' -> g x σ H' fun σ2 H2 => tb { T with nx:=N,ct:=N,bk:=T.nx } σ2 H2):=by
 refine ⟨fun i m σ' H' => ∃ ρ' O',m = ds.length - i /\ i <= ds.length /\ SR X.K W H0 σ' H' ρ' O' /\ Frm ρ O H1 ρ' O' H' /\ z0v dg db E (ds.drop i) ρ',⟨ds.length,ρ,O,rfl,Nat.zero_le _,S,Frm.refl _ _ _,hw⟩,?_⟩
 rintro i mm σ' H' ⟨ρ',O',rfl,hi,S',f',w'⟩
 obtain ⟨js1,js2⟩:=js i σ' ρ' O' H' S' f'
 by_cases hlt : i < ds.length
 ·obtain ⟨go,yl⟩:=js1 ds[i] (by simp [hlt]) w'
  have hd : ds.drop i = ds[i] :: ds.drop (i + 1):=List.drop_eq_getElem_cons hlt
  rw [hd] at w'
  refine .inr ⟨go,fun σ2 H2 => ∃ ρ2 O2,SR X.K W H0 σ2 H2 ρ2 O2 /\ Frm ρ O H1 ρ2 O2 H2 /\ z0v dg db E (ds.drop (i + 1)) ρ2,fun σ2 H2 ⟨ρ2,O2,a,b,d⟩ => ⟨ds.length - (i + 1),by omega,ρ2,O2,rfl,hlt,a,b,d⟩,fun x H2 y => ?_⟩
  obtain ⟨e2,rx⟩:=yl x H2 y
  have S2:=S'.grow e2
  refine qg W H0 σ' H2 ρ' O' x ds[i] _ _ S2 rx w' fun σ3 ρ3 S3 f3 h3 => ?_
  have f2:=f'.trans ((Frm.same e2).trans f3)
  have nxt : ∀ σ4 H4 ρ4 O4,SR X.K W H0 σ4 H4 ρ4 O4 -> Frm ρ3 O' H2 ρ4 O4 H4 -> z0v dg db E (ds.drop (i + 1)) ρ4 -> ∃ ρ2 O2,SR X.K W H0 σ4 H4 ρ2 O2 /\ Frm ρ O H1 ρ2 O2 H4 /\ z0v dg db E (ds.drop (i + 1)) ρ2 :=
   fun σ4 H4 ρ4 O4 S4 f4 h4 => ⟨ρ4,O4,S4,f2.trans f4,h4⟩
  exact qb W H0 σ3 H2 ρ3 O' _ _ S3 h3 ⟨nxt,fun σ4 H4 ρ4 O4 S4 f4 h4 => L.nx _ _ _ _ S4 (f0.trans (f2.trans f4)) h4,nxt,L.rt⟩
 ·have e : i = ds.length:=by omega
  subst e
  have st:=js2 (Nat.le_refl _) w'
  rw [List.drop_length] at w'
  exact .inl ⟨st,L.nx _ _ _ _ S' (f0.trans f') w'⟩
theorem q3b {iter : Expr} {body : List Stmt} {di : DA} {dg : DG} {db : DS} (hp : PassesOwn (model X.prog X.w) X.A X.env X.xe) (hc : X.calm = true) (hi : PIX X tg iter di) (hg : PGX X tg dg) (hb : PBX m X body db)
  (hs : ∀ x,foldedSetIterable iter X.env x = pure x:=by intro _; rfl) : PSX m X (.For tg iter body [] pos) (w3q di dg db):=by
 obtain ⟨wi,pi,qi⟩:=hi
 obtain ⟨g,pg,qg⟩:=hg
 obtain ⟨tb,pb,qb⟩:=hb
 refine ⟨_,k9h hp hc pi pg pb hs,fun W H0 σ H ρ O E T S h L => ?_⟩
 refine qi W H0 σ H ρ O _ _ S h fun J H1 ds Ik e1 ik stb js hw => ?_
 refine q8i (wi:=wi) (Ik:=fun _ _ _ _ => True) qg qb (S.grow e1) (Frm.same e1) L hw fun i σ' ρ' O' H' S' f' => ?_
 obtain ⟨a,b⟩:=js O' H' i S'.mts (stb.frm (S.grow e1).mts f' ik)
 exact ⟨fun d hd _ => a d hd,fun h _ => b h⟩
theorem q1v {dg : DG} {db : DS} {E : z8b} {ds : List D} {ρ : En} (I : Nat -> En -> Prop) (h0 : I 0 ρ)
  (hs : ∀ (i : Nat) d ρ (N : En -> Prop),ds[i]? = some d -> I i ρ -> (∀ ρ',I (i + 1) ρ' -> N ρ') -> dg d ρ fun ρ1 => db { E with nx:=N,ct:=N,bk:=E.nx } ρ1) (he : ∀ ρ,I ds.length ρ -> E.nx ρ) : z0v dg db E ds ρ:=by
 have key : ∀ (k : Nat) (ρ : En),k <= ds.length -> I (ds.length - k) ρ -> z0v dg db E (ds.drop (ds.length - k)) ρ:=by
  intro k
  induction k with
  | zero => intro ρ _ h; rw [Nat.sub_zero] at h ⊢; rw [List.drop_length]; exact he ρ h
  | succ k ih =>
   intro ρ hk h
   have hlt : ds.length - (k + 1) < ds.length:=by omega
   have e : ds.length - (k + 1) + 1 = ds.length - k:=by omega
   rw [List.drop_eq_getElem_cons hlt,e]
   exact hs _ ds[ds.length - (k + 1)] ρ _ (by simp [hlt]) h fun ρ2 h2 => ih ρ2 (by omega) (by rw [<- e]; exact h2)
 have:=key ds.length ρ (Nat.le_refl _) (by rw [Nat.sub_self]; exact h0)
 rw [Nat.sub_self,List.drop_zero] at this
 exact this
def j5j (c : DT) (db : DS) : DS:=fun E ρ => ∃ I : Nat -> En -> Prop,(∃ n,I n ρ) /\ ∀ n ρ,I n ρ -> c ρ fun k => if k = true then ∃ N : En -> Prop,(∀ ρ',N ρ' -> ∃ n',n' < n /\ I n' ρ') /\ db { E with nx:=N,ct:=N,bk:=E.nx } ρ else E.nx ρ
theorem k8v {c : Expr} {body : List Stmt} {dc : DT} {db : DS} (hp : PassesOwn (model X.prog X.w) X.A X.env X.xe) (hc : PTX X c dc) (hb : PBX m X body db) : PSX m X (.While c body [] pos) (j5j dc db):=by
 obtain ⟨tc,pc,qc⟩:=hc
 obtain ⟨tb,pb,qb⟩:=hb
 refine ⟨_,k6c hp pc pb,fun W H0 σ H ρ O E T S h L => ?_⟩
 obtain ⟨I,⟨n,i0⟩,st⟩:=h
 refine ⟨fun n σ' H' => ∃ ρ' O',SR X.K W H0 σ' H' ρ' O' /\ Frm ρ O H ρ' O' H' /\ I n ρ',⟨n,ρ,O,S,Frm.refl _ _ _,i0⟩,?_⟩
 rintro n σ' H' ⟨ρ',O',S',f',i'⟩
 refine qc W H0 σ' H' ρ' O' _ _ S' (st n ρ' i') fun c H1 e1 q => ?_
 have S1:=S'.grow e1
 have f1:=f'.trans (Frm.same e1)
 cases c with
 | false => rw [if_neg Bool.false_ne_true] at q ⊢; exact L.nx _ _ _ _ S1 f1 q
 | true =>
  rw [if_pos rfl] at q ⊢
  obtain ⟨N,hN,hb⟩:=q
  refine ⟨fun σ2 H2 => ∃ ρ2 O2,SR X.K W H0 σ2 H2 ρ2 O2 /\ Frm ρ O H ρ2 O2 H2 /\ N ρ2,fun σ2 H2 ⟨ρ2,O2,a,b,c⟩ => ?_,?_⟩
  ·obtain ⟨n',l,z⟩:=hN ρ2 c
   exact ⟨n',l,ρ2,O2,a,b,z⟩
  ·have nxt : ∀ σ4 H4 ρ4 O4,SR X.K W H0 σ4 H4 ρ4 O4 -> Frm ρ' O' H1 ρ4 O4 H4 -> N ρ4 -> ∃ ρ2 O2,SR X.K W H0 σ4 H4 ρ2 O2 /\ Frm ρ O H ρ2 O2 H4 /\ N ρ2:=fun σ4 H4 ρ4 O4 S4 f4 h4 => ⟨ρ4,O4,S4,f1.trans f4,h4⟩
   exact qb W H0 σ' H1 ρ' O' _ _ S1 hb ⟨nxt,fun σ4 H4 ρ4 O4 S4 f4 h4 => L.nx _ _ _ _ S4 (f1.trans f4) h4,nxt,L.rt⟩
end
section
variable {m : Md} {X : Cx} {tg : Expr} {pos : Pos} {K : PySem.W.Frag} {W O : Addr -> Prop} {H0 H : Hp} {σ : L2.St} {ρ : En}
theorem SR.lend (S : SR K W H0 σ H ρ O) {i : Nat} {d : D} {a : Addr} (hi : ρ[i]? = some (some (.own d))) (ha : σ[i]? = some (some (.ref a))) : SR K (fun b => W b \/ b = a) H0 σ H (ρ.set i (some (.lent (.ref a) d))) O:=by
 obtain ⟨a',h1,h2,h3,h4,h5⟩:=S.own i d hi
 rw [ha] at h1
 cases h1
 refine { same:=S.same,len:=by rw [List.length_set]; exact S.len,sub:=fun b z => ?_,mts:=S.mts,own:=fun j e h => ?_,inj:=fun j l e f w g1 g2 => ?_,lent:=fun j w e h => ?_,bor:=fun j w e h => ?_,shr:=fun j e h => ?_ }
 ·rcases z with z | rfl
  ·exact S.sub b z
  ·exact h2
 ·rcases q1s h with ⟨_,z,_⟩ | ⟨n,z⟩
  ·cases z
  ·obtain ⟨b,g1,g2,g3,g4,g5⟩:=S.own j e z
   exact ⟨b,g1,g2,fun q => q.elim g3 fun q => n (S.inj j i e d _ z hi g1 (by rw [ha,q])),g4,g5⟩
 ·rcases q1s g1 with ⟨_,z,_⟩ | ⟨n,z⟩
  ·cases z
  rcases q1s g2 with ⟨_,z2,_⟩ | ⟨n2,z2⟩
  ·cases z2
  exact S.inj j l e f w z z2
 ·rcases q1s h with ⟨rfl,z,_⟩ | ⟨n,z⟩
  ·cases z
   exact ⟨ha,a,rfl,.inr rfl,h5⟩
  ·obtain ⟨g1,b,g2,g3,g4⟩:=S.lent j w e z
   exact ⟨g1,b,g2,.inl g3,g4⟩
 ·rcases q1s h with ⟨_,z,_⟩ | ⟨n,z⟩
  ·cases z
  ·obtain ⟨g1,g2⟩:=S.bor j w e z
   exact ⟨g1,g2.imp fun b z => .inl z⟩
 ·rcases q1s h with ⟨_,z,_⟩ | ⟨n,z⟩
  ·cases z
  ·exact S.shr j e z
theorem SR.unlend {a : Addr} (S : SR K (fun b => W b \/ b = a) H0 σ H ρ O) {i : Nat} {d : D} (hi : ρ[i]? = some (some (.lent (.ref a) d))) (hw : ¬ W a) (h0 : H0 a = none) (hlen : ∀ (j : Nat) e,ρ[j]? = some (some (.lent (.ref a) e)) -> j = i) (hb : ∀ (j : Nat) e,ρ[j]? = some (some (.bor (.ref a) e)) -> Rep K O H (.ref a) e) :
  SR K W H0 σ H (ρ.set i (some (.own d))) O:=by
 obtain ⟨g1,b,g2,g3,g4⟩:=S.lent i _ d hi
 cases g2
 refine { same:=S.same,len:=by rw [List.length_set]; exact S.len,sub:=fun b z => S.sub b (.inl z),mts:=S.mts,own:=fun j e h => ?_,inj:=fun j l e f w q1 q2 => ?_,lent:=fun j w e h => ?_,bor:=fun j w e h => ?_,shr:=fun j e h => ?_ }
 ·rcases q1s h with ⟨rfl,z,_⟩ | ⟨n,z⟩
  ·cases z
   exact ⟨a,g1,S.sub a (.inr rfl),hw,h0,g4⟩
  ·obtain ⟨b,p1,p2,p3,p4,p5⟩:=S.own j e z
   exact ⟨b,p1,p2,fun q => p3 (.inl q),p4,p5⟩
 ·rcases q1s q1 with ⟨rfl,z,_⟩ | ⟨n,z⟩
  ·rcases q1s q2 with ⟨rfl,z2,_⟩ | ⟨n2,z2⟩
   ·intros; rfl
   ·intro r1 r2
    obtain ⟨b,p1,p2,p3,p4,p5⟩:=S.own l f z2
    rw [<- r1,g1] at r2
    rw [p1] at r2
    cases r2
    exact absurd (Or.inr rfl) p3
  ·rcases q1s q2 with ⟨rfl,z2,_⟩ | ⟨n2,z2⟩
   ·intro r1 r2
    obtain ⟨b,p1,p2,p3,p4,p5⟩:=S.own j e z
    rw [<- r2,g1] at r1
    rw [p1] at r1
    cases r1
    exact absurd (Or.inr rfl) p3
   ·exact S.inj j l e f w z z2
 ·rcases q1s h with ⟨_,z,_⟩ | ⟨n,z⟩
  ·cases z
  ·obtain ⟨p1,b,p2,p3,p4⟩:=S.lent j w e z
   refine ⟨p1,b,p2,?_,p4⟩
   rcases p3 with p3 | rfl
   ·exact p3
   ·subst p2; exact absurd (hlen j e z) n
 ·rcases q1s h with ⟨_,z,_⟩ | ⟨n,z⟩
  ·cases z
  ·obtain ⟨p1,p2⟩:=S.bor j w e z
   refine ⟨p1,?_⟩
   rcases p2 with p2 | ⟨b,p2,p3,p4⟩
   ·exact .inl p2
   ·rcases p3 with p3 | rfl
    ·exact .inr ⟨b,p2,p3,p4⟩
    ·subst p2; exact .inl (hb j e z)
 ·rcases q1s h with ⟨_,z,_⟩ | ⟨n,z⟩
  ·cases z
  ·exact S.shr j e z
end
end DL
namespace DL
open PySem PySem.Spec PyProof.Rows L2
section
variable {m : Md} {X : Cx} {tg : Expr} {pos pos' : Pos} {x : Str} {i : Nat}
def j3c (i : Nat) (s : Sl) (dg : DG) : DG:=fun d ρ R => ρ[i]? = some (some s) /\ dg d ρ R
def w0s (i : Nat) (dg : DG) (db : DS) (E : z8b) (ρ : En) : Option (Option Sl) -> Prop
 | some (some (.own (.lst ds))) => ∀ v,z0v (j3c i (.lent v (.lst ds)) dg) db { nx:=fun ρ' => ρ'[i]? = some (some (.lent v (.lst ds))) /\ E.nx (ρ'.set i (some (.own (.lst ds)))),rt:=E.rt } ds (ρ.set i (some (.lent v (.lst ds))))
 | some (some (.lent v (.lst ds))) => z0v (j3c i (.lent v (.lst ds)) dg) db { nx:=fun ρ' => ρ'[i]? = some (some (.lent v (.lst ds))) /\ E.nx ρ',rt:=E.rt } ds ρ
 | some (some (.bor v (.lst ds))) => z0v (j3c i (.bor v (.lst ds)) dg) db { nx:=fun ρ' => ρ'[i]? = some (some (.bor v (.lst ds))) /\ E.nx ρ',rt:=E.rt } ds ρ
 | some (some (.bor _ (.tup ds))) => z0v dg db E ds ρ
 | some (some (.shr (.lst ds))) => z0v dg db E ds ρ
 | some (some (.shr (.tup ds))) => z0v dg db E ds ρ
 | _ => False
def j3z (i : Nat) (dg : DG) (db : DS) : DS:=fun E ρ => w0s i dg db E ρ ρ[i]?
theorem z5x {K : PySem.W.Frag} {O : Addr -> Prop} {H : Hp} {a : Addr} {xs : List V} {ds : List D} {k : Nat} (h1 : SqL K H a xs) (h2 : q2i K O H xs ds) :
  (∀ d,ds[k]? = some d -> (Itl K a).go k H /\ ∀ x H',(Itl K a).yld k H x H' -> q2h H H' /\ Rep K O H' x d) /\ (ds.length <= k -> (Itl K a).stop k H):=by
 refine ⟨fun d hd => ?_,fun hl => ⟨xs,h1,by rw [h2.length]; exact hl⟩⟩
 obtain ⟨x,e1,e2⟩:=h2.getD hd
 refine ⟨⟨xs,x,h1,e1⟩,fun y H' z => ?_⟩
 obtain ⟨rfl,z⟩:=z
 have:=z xs h1
 rw [e1] at this
 cases this
 exact ⟨q2h.refl _,e2⟩
theorem z2e {s : Sl} {dg : DG} {db : DS} {E : z8b} {ds : List D} {k : Nat} {d : D} {ρ : En} (hd : ds[k]? = some d) (h : z0v (j3c i s dg) db E (ds.drop k) ρ) : ρ[i]? = some (some s):=by
 have hlt : k < ds.length:=by
  by_cases hl : k < ds.length
  ·exact hl
  ·rw [List.getElem?_eq_none (by omega)] at hd; cases hd
 rw [List.drop_eq_getElem_cons hlt] at h
 exact h.1
theorem Res.less {m : Md} {K : PySem.W.Frag} {W W' : Addr -> Prop} {H0 H' : Hp} {v : V} {d : D} (hm : m ≠ .b) (h : ∀ b,W b -> W' b) (r : Res m K W' H0 H' v d) : Res m K W H0 H' v d:=by
 cases m with
 | b => exact absurd rfl hm
 | v => exact Rep.av (fun b z => .inl (h b z)) r
 | n =>
  obtain ⟨a,h1,h2,h3⟩:=r
  exact ⟨a,h1,h2,h3.av fun b z => .inl (z.imp (h b) id)⟩
 | h =>
  obtain ⟨t,x,y,dx,dy,e1,e2,e3,e4⟩:=r
  exact ⟨t,x,y,dx,dy,e1,e2,e3,e4.imp fun _ _ ⟨a,h1,h2,h3⟩ => ⟨a,h1,h2,h3.av fun b z => .inl (z.imp (h b) id)⟩⟩
theorem j3e (i : Nat) {body : List Stmt} {dg : DG} {db : DS} (hp : PassesOwn (model X.prog X.w) X.A X.env X.xe) (hc : X.calm = true) (hg : PGX X tg dg) (hb : PBX m X body db) (hm : m ≠ .b:=by decide)
  (hN : X.N[i]? = some x:=by rfl) (hv : Vis X.env.scope x:=by first | exact Or.inl rfl | exact Or.inr (Or.inl rfl) | exact Or.inr (Or.inr rfl)) (hd : (x == ("__debug__" : Str)) = false:=by decide)
  (hcd : (x == ("__classdict__" : Str)) = false:=by decide) (hs : ∀ y,foldedSetIterable (.Name x pos') X.env y = pure y:=by intro _; rfl) : PSX m X (.For tg (.Name x pos') body [] pos) (j3z i dg db):=by
 obtain ⟨g,pg,qg⟩:=hg
 obtain ⟨tb,pb,qb⟩:=hb
 refine ⟨_,k9h hp hc (z6h (q9y.or z2y) (q7a hN hv hd hcd)) pg pb hs,fun W H0 σ H ρ O E T S h L => ?_⟩
 unfold j3z w0s at h
 have qg' : ∀ s (W : Addr -> Prop) (H0 : Hp) (σ : L2.St) (H : Hp) (ρ : En) (O : Addr -> Prop) (v : V) (d : D) (R : En -> Prop) (Q : L2.St -> Hp -> Prop),SR X.K W H0 σ H ρ O -> Rep X.K O H v d -> j3c i s dg d ρ R -> (∀ σ' ρ',SR X.K W H0 σ' H ρ' O -> Frm ρ O H ρ' O H -> R ρ' -> Q σ' H) -> g v σ H Q :=
  fun s W H0 σ H ρ O v d R Q S r h k => qg W H0 σ H ρ O v d R Q S r h.2 k
 have plain : ∀ {v : V} {d : D} {ds : List D},σ[i]? = some (some v) -> Rep X.K O H v d -> j3u d (fun es => es = ds) -> z0v dg db E ds ρ -> w3i (fun σ H R => j5h i σ H fun x H1 => (∃ a,x = .ref a /\ (∃ xs,SqL X.K H1 a xs) /\ R (Itl X.K a) H1) \/ ∃ a,x = .ref a /\ (∃ xs,SqT X.K H1 a xs) /\ R (Itt X.K a) H1) g tb T σ H:=by
  intro v d ds hv r hsq hw
  cases d with
  | lst es =>
   have e : es = ds:=hsq
   subst e
   obtain ⟨a,xs,rfl,h1,h2⟩:=q3t (.inl r)
   refine ⟨_,hv,.inl ⟨a,rfl,⟨xs,h1⟩,?_⟩⟩
   refine q8i (wi:=fun _ _ _ => True) (Ik:=fun _ _ _ _ => True) qg qb S (Frm.refl _ _ _) L hw fun k σ' ρ' O' H' S' f' => ?_
   obtain ⟨p,q⟩:=k1f (K:=X.K) (a:=a) (ds:=es) O' H' k S'.mts (r.move S.mts f'.kept f'.new)
   exact ⟨fun d hd _ => p d hd,fun h _ => q h⟩
  | tup es =>
   have e : es = ds:=hsq
   subst e
   obtain ⟨a,xs,rfl,h1,h2⟩:=q3y (.inl r)
   refine ⟨_,hv,.inr ⟨a,rfl,⟨xs,h1⟩,?_⟩⟩
   refine q8i (wi:=fun _ _ _ => True) (Ik:=fun _ _ _ _ => True) qg qb S (Frm.refl _ _ _) L hw fun k σ' ρ' O' H' S' f' => ?_
   obtain ⟨p,q⟩:=j0a (K:=X.K) (a:=a) (ds:=es) O' H' k S'.mts (r.move S.mts f'.kept f'.new)
   exact ⟨fun d hd _ => p d hd,fun h _ => q h⟩
  | _ => exact hsq.elim
 split at h
 ·rename_i ds hi
  obtain ⟨a,h1,h2,h3,h4,h5⟩:=S.own i _ hi
  have hil : i < ρ.length:=by
   by_cases hl : i < ρ.length
   ·exact hl
   ·rw [List.getElem?_eq_none (by omega)] at hi; cases hi
  have S1:=S.lend hi h1
  cases id h5 with
  | lst ha rs =>
   refine ⟨_,h1,.inl ⟨a,rfl,⟨_,SqL.of ha⟩,?_⟩⟩
   have fin : ∀ (σ' : L2.St) (H' : Hp) (ρ' : En) (O' : Addr -> Prop),SR X.K (fun b => W b \/ b = a) H0 σ' H' ρ' O' -> Frm (ρ.set i (some (.lent (.ref a) (.lst ds)))) O H ρ' O' H' -> (ρ'[i]? = some (some (.lent (.ref a) (.lst ds))) /\ E.nx (ρ'.set i (some (.own (.lst ds))))) -> T.nx σ' H':=by
    intro σ' H' ρ' O' S' f' z
    refine L.nx _ _ _ _ (S'.unlend z.1 h3 h4 (fun j e q => ?_) (fun j e q => ?_)) ⟨f'.kept,f'.new,fun j v e q => ?_,fun j v e q => ?_⟩ z.2
    ·have q1:=f'.lent j _ _ q
     rcases q1s q1 with ⟨rfl,_,_⟩ | ⟨n,q2⟩
     ·rfl
     ·obtain ⟨_,b,w1,w2,_⟩:=S.lent j _ _ q2
      cases w1
      exact absurd w2 h3
    ·have q1:=f'.bor j _ _ q
     rcases q1s q1 with ⟨_,z2,_⟩ | ⟨n,q2⟩
     ·cases z2
     ·obtain ⟨_,w⟩:=S.bor j _ _ q2
      rcases w with w | ⟨b,w1,w2,_⟩
      ·exact w.move S.mts f'.kept f'.new
      ·cases w1; exact absurd w2 h3
    ·rcases q1s q with ⟨_,z2,_⟩ | ⟨n,q2⟩
     ·cases z2
     ·have q3:=f'.lent j _ _ q2
      rcases q1s q3 with ⟨w,_,_⟩ | ⟨_,q4⟩
      ·exact absurd w n
      ·exact q4
    ·rcases q1s q with ⟨_,z2,_⟩ | ⟨n,q2⟩
     ·cases z2
     ·have q3:=f'.bor j _ _ q2
      rcases q1s q3 with ⟨w,_,_⟩ | ⟨_,q4⟩
      ·exact absurd w n
      ·exact q4
   refine q8i (wi:=fun _ _ _ => True) (Ik:=fun _ _ _ _ => True) (E:={ nx:=fun ρ' => ρ'[i]? = some (some (.lent (.ref a) (.lst ds))) /\ E.nx (ρ'.set i (some (.own (.lst ds)))),rt:=E.rt }) (qg' _) qb S1 (Frm.refl _ _ _) ⟨fin,fun _ _ _ _ _ _ z => False.elim z,fun _ _ _ _ _ _ z => False.elim z,fun v d H' e r z => L.rt v d H' e (r.less hm fun b w => .inl w) z⟩ (h (.ref a)) fun k σ' ρ' O' H' S' f' => ?_
   have get : (ρ'[i]? = some (some (.lent (.ref a) (.lst ds)))) -> ∃ xs,SqL X.K H' a xs /\ q2i X.K O' H' xs ds:=fun q => by
    obtain ⟨_,b,w1,w2,w3⟩:=S'.lent i _ _ q
    cases w1
    cases w3 with
    | lst q1 q2 => exact ⟨_,SqL.of q1,q2⟩
   refine ⟨fun d hd hw => ?_,fun hl hw => ?_⟩
   ·obtain ⟨xs,q1,q2⟩:=get (z2e hd hw)
    exact (z5x q1 q2).1 d hd
   ·rw [List.drop_eq_nil_of_le hl] at hw
    obtain ⟨xs,q1,q2⟩:=get hw.1
    exact (z5x q1 q2).2 hl
 ·rename_i v ds hi
  obtain ⟨h1,a,rfl,h3,h5⟩:=S.lent i _ _ hi
  cases id h5 with
  | lst ha rs =>
   refine ⟨_,h1,.inl ⟨a,rfl,⟨_,SqL.of ha⟩,?_⟩⟩
   refine q8i (wi:=fun _ _ _ => True) (Ik:=fun _ _ _ _ => True) (E:={ nx:=fun ρ' => ρ'[i]? = some (some (.lent (.ref a) (.lst ds))) /\ E.nx ρ',rt:=E.rt }) (qg' _) qb S (Frm.refl _ _ _) ⟨fun σ' H' ρ' O' S' f' z => L.nx _ _ _ _ S' f' z.2,fun _ _ _ _ _ _ z => False.elim z,fun _ _ _ _ _ _ z => False.elim z,L.rt⟩ h fun k σ' ρ' O' H' S' f' => ?_
   have get : (ρ'[i]? = some (some (.lent (.ref a) (.lst ds)))) -> ∃ xs,SqL X.K H' a xs /\ q2i X.K O' H' xs ds:=fun q => by
    obtain ⟨_,b,w1,w2,w3⟩:=S'.lent i _ _ q
    cases w1
    cases w3 with
    | lst q1 q2 => exact ⟨_,SqL.of q1,q2⟩
   refine ⟨fun d hd hw => ?_,fun hl hw => ?_⟩
   ·obtain ⟨xs,q1,q2⟩:=get (z2e hd hw)
    exact (z5x q1 q2).1 d hd
   ·rw [List.drop_eq_nil_of_le hl] at hw
    obtain ⟨xs,q1,q2⟩:=get hw.1
    exact (z5x q1 q2).2 hl
 ·rename_i v ds hi
  obtain ⟨h1,h2⟩:=S.bor i _ _ hi
  obtain ⟨a,xs,rfl,g1,g2⟩:=q3t (h2.imp S.sub)
  refine ⟨_,h1,.inl ⟨a,rfl,⟨_,g1⟩,?_⟩⟩
  refine q8i (wi:=fun _ _ _ => True) (Ik:=fun _ _ _ _ => True) (E:={ nx:=fun ρ' => ρ'[i]? = some (some (.bor (.ref a) (.lst ds))) /\ E.nx ρ',rt:=E.rt }) (qg' _) qb S (Frm.refl _ _ _) ⟨fun σ' H' ρ' O' S' f' z => L.nx _ _ _ _ S' f' z.2,fun _ _ _ _ _ _ z => False.elim z,fun _ _ _ _ _ _ z => False.elim z,L.rt⟩ h fun k σ' ρ' O' H' S' f' => ?_
  have get : (ρ'[i]? = some (some (.bor (.ref a) (.lst ds)))) -> ∃ xs,SqL X.K H' a xs /\ q2i X.K O' H' xs ds:=fun q => by
   obtain ⟨_,w2⟩:=S'.bor i _ _ q
   obtain ⟨a2,xs2,e2,g3,g4⟩:=q3t (w2.imp S'.sub)
   cases e2
   exact ⟨xs2,g3,g4⟩
  refine ⟨fun d hd hw => ?_,fun hl hw => ?_⟩
  ·obtain ⟨xs,q1,q2⟩:=get (z2e hd hw)
   exact (z5x q1 q2).1 d hd
  ·rw [List.drop_eq_nil_of_le hl] at hw
   obtain ⟨xs,q1,q2⟩:=get hw.1
   exact (z5x q1 q2).2 hl
 ·rename_i v ds hi
  obtain ⟨h1,h2⟩:=S.bor i _ _ hi
  rcases h2 with h2 | ⟨b,h2,h3,h4⟩
  ·exact plain h1 h2 (show j3u (.tup ds) _ from rfl) h
  ·cases h4
 ·rename_i ds hi
  obtain ⟨v,h1,h2⟩:=S.shr i _ hi
  exact plain h1 h2 (show j3u (.lst ds) _ from rfl) h
 ·rename_i ds hi
  obtain ⟨v,h1,h2⟩:=S.shr i _ hi
  exact plain h1 h2 (show j3u (.tup ds) _ from rfl) h
 ·exact h.elim
end
section
variable {X : Cx} {tg l : Expr} {pos : Pos}
def JC (J : It) (K : PySem.W.Frag) (O : Addr -> Prop) (Ik : Hp -> Prop) (ds : List D) : Prop:=∀ (H : Hp) (i : Nat),Ik H -> (∀ d,ds[i]? = some d -> J.go i H /\ ∀ x H',J.yld i H x H' -> q2h H H' /\ Rep K O H' x d) /\ (ds.length <= i -> J.stop i H)
def w0e (X : Cx) (tg iter : Expr) (di : DA) : Prop:=∃ wi,PI X tg iter wi /\ ∀ (W : Addr -> Prop) (H0 : Hp) (σ : L2.St) (H : Hp) (ρ : En) (O : Addr -> Prop) (R : List D -> Prop) (Rh : It -> Hp -> Prop),SR X.K W H0 σ H ρ O -> di ρ R →
 (∀ J H1 ds Ik,q2h H H1 -> Ik H1 -> (∀ H2 H3,q2h H2 H3 -> Ik H2 -> Ik H3) -> JC J X.K O Ik ds -> R ds -> Rh J H1) -> wi σ H Rh
theorem PIX.c {iter : Expr} {di : DA} (h : PIX X tg iter di) : w0e X tg iter di:=by
 obtain ⟨wi,p,q⟩:=h
 refine ⟨wi,p,fun W H0 σ H ρ O R Rh S h k => q W H0 σ H ρ O R Rh S h fun J H1 ds Ik e1 ik stb js hr => ?_⟩
 refine k J H1 ds (fun H2 => q8a O H2 /\ Ik O H2) e1 ⟨(S.grow e1).mts,ik⟩ (fun H2 H3 e z => ⟨fun a z2 => ?_,stb O H2 O H3 z.1 (k3o e) (fun b z => .inl z) z.2⟩) (fun H2 i z => js O H2 i z.1 z.2) hr
 have m:=z.1 a z2
 cases h : H2 a with
 | none => rw [h] at m; exact False.elim m
 | some o => rw [e a o h]; rw [h] at m; exact m
def z6n (v : V) : Sl -> Sl
 | .own d => .lent v d
 | s => s
def k3j (vs : Nat -> V) (js : List (Option Nat)) (ρ : En) : En:=js.map fun j => match j with
 | none => none
 | some j => ((ρ[j]?).join).map (z6n (vs j))
def q4e : En -> En -> Prop
 | [],[] => True
 | none :: r,_ :: s => q4e r s
 | some a :: r,b :: s => b = some a /\ q4e r s
 | _,_ => False
theorem q4e.len : ∀ {ρ ρ' : En},q4e ρ ρ' -> ρ'.length = ρ.length
 | [],[],_ => rfl
 | none :: r,_ :: s,h => by simp [q4e.len (ρ:=r) (ρ':=s) h]
 | some a :: r,b :: s,h => by simp [q4e.len (ρ:=r) (ρ':=s) h.2]
 | [],_ :: _,h => h.elim
 | none :: _,[],h => h.elim
 | some _ :: _,[],h => h.elim
theorem q4e.get : ∀ {ρ ρ' : En} {j : Nat} {s : Sl},q4e ρ ρ' -> ρ[j]? = some (some s) -> ρ'[j]? = some (some s)
 | [],[],_,_,_,h => by simp at h
 | none :: r,_ :: s,0,_,_,h => by simp at h
 | none :: r,_ :: s,j + 1,_,b,h => by simpa using q4e.get (ρ:=r) (ρ':=s) (j:=j) b (by simpa using h)
 | some a :: r,b :: s,0,_,q,h => by simp at h ⊢; rw [q.1,h]
 | some a :: r,b :: s,j + 1,_,q,h => by simpa using q4e.get (ρ:=r) (ρ':=s) (j:=j) q.2 (by simpa using h)
 | [],_ :: _,_,_,h,_ => h.elim
 | none :: _,[],_,_,h,_ => h.elim
 | some _ :: _,[],_,_,h,_ => h.elim
theorem SR.below {K : PySem.W.Frag} {W O : Addr -> Prop} {H0 H : Hp} {σ : L2.St} {ρ ρ' : En} (S : SR K W H0 σ H ρ' O) (b : q4e ρ ρ') : SR K W H0 σ H ρ O where
 same:=S.same
 len:=S.len.trans b.len
 sub:=S.sub
 mts:=S.mts
 own:=fun i d h => S.own i d (b.get h)
 inj:=fun i j d e v h1 h2 => S.inj i j d e v (b.get h1) (b.get h2)
 lent:=fun i v d h => S.lent i v d (b.get h)
 bor:=fun i v d h => S.bor i v d (b.get h)
 shr:=fun i d h => S.shr i d (b.get h)
theorem SR.inner {K : PySem.W.Frag} {W O : Addr -> Prop} {H0 H : Hp} {σ : L2.St} {ρ : En} (S : SR K W H0 σ H ρ O) (js : List (Option Nat)) : ∃ vs,SR K O H (q9r js σ) H (k3j vs js ρ) O:=by
 refine ⟨fun j => match σ[j]? with | some (some v) => v | _ => .non,?_⟩
 have at_ : ∀ {i : Nat} {s : Sl} {vs : Nat -> V},(k3j vs js ρ)[i]? = some (some s) -> ∃ j s',js[i]? = some (some j) /\ ρ[j]? = some (some s') /\ s = z6n (vs j) s':=by
  intro i s vs h
  unfold k3j at h
  rw [List.getElem?_map] at h
  cases hj : js[i]? with
  | none => rw [hj] at h; cases h
  | some o =>
   rw [hj] at h
   cases o with
   | none => cases h
   | some j =>
    refine ⟨j,?_⟩
    simp only [Option.map_some,Option.some.injEq] at h
    cases hr : ρ[j]? with
    | none => rw [hr] at h; cases h
    | some q =>
     rw [hr] at h
     cases q with
     | none => cases h
     | some s' =>
      simp only [Option.join_some,Option.map_some,Option.some.injEq] at h
      exact ⟨s',rfl,rfl,h.symm⟩
 have sat : ∀ {i j : Nat} {v : V},js[i]? = some (some j) -> σ[j]? = some (some v) -> (q9r js σ)[i]? = some (some v):=by
  intro i j v h1 h2
  unfold q9r
  rw [List.getElem?_map,h1]
  simp [h2]
 refine { same:=q2h.refl _,len:=by unfold q9r k3j; rw [List.length_map,List.length_map],sub:=fun a z => z,mts:=S.mts,own:=fun i d h => ?_,inj:=fun i j d e v h1 h2 => ?_,lent:=fun i v d h => ?_,bor:=fun i v d h => ?_,shr:=fun i d h => ?_ }
 ·obtain ⟨j,s',q1,q2,q3⟩:=at_ h
  cases s' <;> cases q3
 ·obtain ⟨j,s',q1,q2,q3⟩:=at_ h1
  cases s' <;> cases q3
 ·obtain ⟨j,s',q1,q2,q3⟩:=at_ h
  cases s' with
  | own e =>
   cases q3
   obtain ⟨a,h1,h2,h3,h4,h5⟩:=S.own j _ q2
   simp only [h1]
   exact ⟨sat q1 h1,a,rfl,h2,h5⟩
  | lent w e =>
   cases q3
   obtain ⟨h1,a,h2,h3,h4⟩:=S.lent j _ _ q2
   exact ⟨sat q1 h1,a,h2,S.sub a h3,h4⟩
  | bor w e => cases q3
  | shr e => cases q3
 ·obtain ⟨j,s',q1,q2,q3⟩:=at_ h
  cases s' with
  | bor w e =>
   cases q3
   obtain ⟨h1,h2⟩:=S.bor j _ _ q2
   exact ⟨sat q1 h1,h2.imp S.sub⟩
  | _ => cases q3
 ·obtain ⟨j,s',q1,q2,q3⟩:=at_ h
  cases s' with
  | shr e =>
   cases q3
   obtain ⟨v,h1,h2⟩:=S.shr j _ q2
   exact ⟨v,sat q1 h1,h2⟩
  | _ => cases q3
def z3s (body : D -> (Option D -> Prop) -> Prop) : List D -> (List D -> Prop) -> Prop
 | [],R => R []
 | d :: r,R => body d fun o => z3s body r fun ys => R (match o with | some y => y :: ys | none => ys)
def w0c (X : Cx) (ifs : List Expr) (dt : DT) : Prop:=∃ tt,j5a X ifs tt /\ ∀ (W : Addr -> Prop) (H0 : Hp) (σ : L2.St) (H : Hp) (ρ : En) (O : Addr -> Prop) (R : Bool -> Prop) (Q : Bool -> Hp -> Prop),SR X.K W H0 σ H ρ O -> dt ρ R →
 (∀ c H',q2h H H' -> R c -> Q c H') -> tt σ H Q
def w4e : DT:=fun _ R => R true
theorem q5c : w0c X [] w4e:=⟨_,k7g,fun W H0 σ H ρ O R Q S h k => k _ _ (q2h.refl _) h⟩
theorem z0f {c : Expr} {dt : DT} (h : PTX X c dt) : w0c X [c] dt:=let ⟨t,p,q⟩:=h; ⟨t,k7s p,q⟩
def k3k (ρ : En) (dg : DG) (dt : DT) (de : DE) : D -> (Option D -> Prop) -> Prop:=fun d K => dg d ρ fun ρ1 => q4e ρ ρ1 /\ dt ρ1 fun k => if k = true then de ρ1 fun y => K (some y) else K none
def k7u (js : List (Option Nat)) (di : DA) (dg : DG) (dt : DT) (de : DE) : DE:=fun ρ R => di ρ fun ds => ds.length <= sizeLine /\ ∀ vs,z3s (k3k (k3j vs js ρ) dg dt de) ds fun ys => R (.lst ys)
section
variable {elt iter : Expr} {ifs : List Expr} {scope : Scope} {N' : List Str} {js : List (Option Nat)} {di : DA} {dg : DG} {dt : DT} {de : DE}
theorem z7k {wi : TI} {g : Bk -> TG} {tt : Bk -> TT} {te : Bk -> TE}
  (qi : ∀ (W : Addr -> Prop) (H0 : Hp) (σ : L2.St) (H : Hp) (ρ : En) (O : Addr -> Prop) (R : List D -> Prop) (Rh : It -> Hp -> Prop),SR X.K W H0 σ H ρ O -> di ρ R →
   (∀ J H1 ds Ik,q2h H H1 -> Ik H1 -> (∀ H2 H3,q2h H2 H3 -> Ik H2 -> Ik H3) -> JC J X.K O Ik ds -> R ds -> Rh J H1) -> wi σ H Rh)
  (qg : ∀ b : Bk,∀ (W : Addr -> Prop) (H0 : Hp) (σ : L2.St) (H : Hp) (ρ : En) (O : Addr -> Prop) (v : V) (d : D) (R : En -> Prop) (Q : L2.St -> Hp -> Prop),SR X.K W H0 σ H ρ O -> Rep X.K O H v d -> dg d ρ R -> (∀ σ' ρ',SR X.K W H0 σ' H ρ' O -> Frm ρ O H ρ' O H -> R ρ' -> Q σ' H) -> g b v σ H Q)
  (qt : ∀ b : Bk,∀ (W : Addr -> Prop) (H0 : Hp) (σ : L2.St) (H : Hp) (ρ : En) (O : Addr -> Prop) (R : Bool -> Prop) (Q : Bool -> Hp -> Prop),SR X.K W H0 σ H ρ O -> dt ρ R -> (∀ c H',q2h H H' -> R c -> Q c H') -> tt b σ H Q)
  (qe : ∀ b : Bk,∀ (W : Addr -> Prop) (H0 : Hp) (σ : L2.St) (H : Hp) (ρ : En) (O : Addr -> Prop) (R : D -> Prop) (Q : VK),SR X.K W H0 σ H ρ O -> de ρ R -> (∀ v d H',q2h H H' -> Res .v X.K O H H' v d -> R d -> Q v H') -> te b σ H Q)
  (W : Addr -> Prop) (H0 : Hp) (σ : L2.St) (H : Hp) (ρ : En) (O : Addr -> Prop) (R : D -> Prop) (Q : VK) (S : SR X.K W H0 σ H ρ O) (h : k7u js di dg dt de ρ R) (k : ∀ v d H',q2h H H' -> Res .n X.K O H H' v d -> R d -> Q v H') : j0r wi js g tt te σ H Q:=by
 refine qi W H0 σ H ρ O _ _ S h fun J H1 ds Ik e1 ik stb jc hw b => ?_
 obtain ⟨hz,hw⟩:=hw
 obtain ⟨vs,S1⟩:=(S.grow e1).inner js
 have hw:=hw vs
 generalize k3j vs js ρ = ρi at S1 hw
 refine ⟨fun i m ys σ' H' => ∃ es,m = ds.length - i /\ i <= ds.length /\ q2h H1 H' /\ Ik H' /\ SR X.K O H1 σ' H' ρi O /\ q2i X.K O H' ys es /\ ys.length <= i /\ z3s (k3k ρi dg dt de) (ds.drop i) (fun rest => R (.lst (es ++ rest))),
  ⟨ds.length,[],rfl,Nat.zero_le _,q2h.refl _,ik,S1,.nil,Nat.le_refl _,by simpa using hw⟩,?_⟩
 rintro i m ys σ' H' ⟨es,rfl,hi,e2,ik2,S2,rs,hl,w⟩
 obtain ⟨j1,j2⟩:=jc H' i ik2
 by_cases hlt : i < ds.length
 ·obtain ⟨go,yl⟩:=j1 ds[i] (by simp [hlt])
  rw [List.drop_eq_getElem_cons hlt] at w
  refine .inr ⟨go,by omega,fun ys' σ' H' => ∃ es',q2h H1 H' /\ Ik H' /\ SR X.K O H1 σ' H' ρi O /\ q2i X.K O H' ys' es' /\ ys'.length <= i + 1 /\ z3s (k3k ρi dg dt de) (ds.drop (i + 1)) (fun rest => R (.lst (es' ++ rest))),
   fun ys' σ' H' ⟨es',a1,a2,a3,a4,a5,a6⟩ => ⟨ds.length - (i + 1),by omega,es',rfl,hlt,a1,a2,a3,a4,a5,a6⟩,fun x H2 y => ?_⟩
  obtain ⟨e3,rx⟩:=yl x H2 y
  refine qg b O H1 σ' H2 ρi O x ds[i] _ _ (S2.grow e3) rx w fun σ3 ρ3 S3 f3 h3 => ?_
  obtain ⟨bl,h3⟩:=h3
  refine qt b O H1 σ3 H2 ρ3 O _ _ S3 h3 fun c H3 e4 h4 => ?_
  cases c with
  | false =>
   rw [if_neg Bool.false_ne_true] at h4 ⊢
   exact ⟨es,e2.trans (e3.trans e4),stb _ _ (e3.trans e4) ik2,(S3.grow e4).below bl,rs.same (e3.trans e4),by omega,h4⟩
  | true =>
   rw [if_pos rfl] at h4 ⊢
   refine qe b O H1 σ3 H3 ρ3 O _ _ (S3.grow e4) h4 fun v d H4 e5 r5 h5 => ?_
   have e':=e3.trans (e4.trans e5)
   refine ⟨es ++ [d],e2.trans e',stb _ _ e' ik2,((S3.grow e4).grow e5).below bl,(rs.same e').app (.cons r5 .nil),by simp; omega,?_⟩
   have ef : (fun rest => R (D.lst (es ++ [d] ++ rest))) = fun rest => R (.lst (es ++ d :: rest)):=by funext r; simp
   rw [ef]
   exact h5
 ·have e : i = ds.length:=by omega
  subst e
  rw [List.drop_length] at w
  refine .inl ⟨j2 (Nat.le_refl _),by omega,fun p hp => ?_⟩
  have w' : R (.lst (es ++ [])):=w
  rw [List.append_nil] at w'
  exact k _ _ _ (e1.trans (e2.trans (q1w hp _))) ⟨p,rfl,(e1.trans e2).free hp,q8t hp rs⟩ w'
theorem q5b (N' : List Str) (js : List (Option Nat)) {osc : Scope} {N : List Str} (S : q5h osc N N' js scope) (hi : w0e X tg iter di) (hg : ∀ b,PGX (q4l X N' scope b) tg dg) (hif : ∀ b,w0c (q4l X N' scope b) ifs dt) (he : ∀ b,PX .v (q4l X N' scope b) elt de)
  (hc : X.calm = true:=by rfl) (ho : X.env.scope = osc:=by rfl) (hN : X.N = N:=by rfl) (hs : ∀ x,foldedSetIterable iter X.env x = pure x:=by intro _; rfl) : PX .n X (.ListComp elt [⟨tg,iter,ifs,0⟩] scope pos) (k7u js di dg dt de):=by
 obtain ⟨wi,pi,qi⟩:=hi
 exact ⟨_,j1e N' js S pi (fun b => (hg b).choose_spec.1) (fun b => (hif b).choose_spec.1) (fun b => (he b).choose_spec.1) hc ho hN hs,
  z7k qi (fun b => (hg b).choose_spec.2) (fun b => (hif b).choose_spec.2) fun b => (he b).choose_spec.2⟩
theorem z0a {m : Md} {i : Nat} {x : Str} {px spos : Pos} (N' : List Str) (js : List (Option Nat)) {osc : Scope} {N : List Str} (S : q5h osc N N' js scope) (nd : X.N.Nodup) (hx : X.N[i]? = some x) (hl : Loc X.env.scope x)
  (hi : w0e X tg iter di) (hg : ∀ b,PGX (q4l X N' scope b) tg dg) (hif : ∀ b,w0c (q4l X N' scope b) ifs dt) (he : ∀ b,PX .v (q4l X N' scope b) elt de)
  (hsw : swapsWith (.ListComp elt [⟨tg,iter,ifs,0⟩] scope pos) (some (.Name x px)) spos.line X.env = pure true:=by rfl)
  (hc : X.calm = true:=by rfl) (ho : X.env.scope = osc:=by rfl) (hN : X.N = N:=by rfl) (hs : ∀ x,foldedSetIterable iter X.env x = pure x:=by intro _; rfl)
  (hf : X.fn x = true \/ X.env.scope.names.lookup x = some .local:=by first | exact .inl rfl | exact .inr rfl | assumption) :
  PSX m X (.Assign [.Name x px] (.ListComp elt [⟨tg,iter,ifs,0⟩] scope pos) spos) (w0d i (k7u js di dg dt de)):=by
 obtain ⟨wi,pi,qi⟩:=hi
 exact j0j (z9f N' js S nd hx hl pi (fun b => (hg b).choose_spec.1) (fun b => (hif b).choose_spec.1) (fun b => (he b).choose_spec.1) hsw hc ho hN hs hf) rfl
  (z7k qi (fun b => (hg b).choose_spec.2) (fun b => (hif b).choose_spec.2) fun b => (he b).choose_spec.2)
end
end
section
variable {P : Program} {w : World} {K : PySem.W.Frag} {mg : Str -> Option Value} {base : Heap}
def hdV (vs : List V) : V:=vs.headD .non
def tlV (vs : List V) : List V:=vs.tail
def q5l : List Bool -> List V -> List D -> En
 | true :: ms,vs,d :: ds => some (.bor (hdV vs) d) :: q5l ms (tlV vs) ds
 | false :: ms,vs,d :: ds => some (.shr d) :: q5l ms (tlV vs) ds
 | _,_,_ => []
def q8d (N : List Str) (ms : List Bool) (vs : List V) (ds : List D) : En:=q5l ms vs ds ++ List.replicate (N.length - ms.length) none
theorem q8o {O : Addr -> Prop} {H : Hp} : ∀ {ms : List Bool} {vs : List V} {ds : List D},q5e K O H ms vs ds -> (q5l ms vs ds).length = vs.length
 | _,_,_,.nil => rfl
 | _,_,_,.b _ r => by simp [q5l,tlV,q8o r]
 | _,_,_,.v _ r => by simp [q5l,tlV,q8o r]
theorem q8p {O : Addr -> Prop} {H : Hp} : ∀ {ms : List Bool} {vs : List V} {ds : List D} {i : Nat} {s : Sl},q5e K O H ms vs ds -> (q5l ms vs ds)[i]? = some (some s) →
  ∃ v d,vs[i]? = some v /\ ((s = .bor v d /\ q4b K O H v d) \/ (s = .shr d /\ Rep K O H v d))
 | _,_,_,_,_,.nil,h => by simp [q5l] at h
 | _,_,_,0,_,.b r _,h => by simp [q5l,hdV] at h; exact ⟨_,_,rfl,.inl ⟨h.symm,r⟩⟩
 | _,_,_,0,_,.v r _,h => by simp [q5l,hdV] at h; exact ⟨_,_,rfl,.inr ⟨h.symm,r⟩⟩
 | _,_,_,i + 1,_,.b _ r,h => by simpa [q5l,tlV] using q8p (i:=i) r (by simpa [q5l,tlV] using h)
 | _,_,_,i + 1,_,.v _ r,h => by simpa [q5l,tlV] using q8p (i:=i) r (by simpa [q5l,tlV] using h)
theorem SR.start {O : Addr -> Prop} {H : Hp} {N : List Str} {ms : List Bool} {vs : List V} {ds : List D} (M : q8a O H) (r : q5e K O H ms vs ds) : SR K O H (L2.start N vs) H (q8d N ms vs ds) O:=by
 have ls:=q8o r
 have lm:=r.length.1
 have key : ∀ {i : Nat} {s : Sl},(q8d N ms vs ds)[i]? = some (some s) -> ∃ v d,(L2.start N vs)[i]? = some (some v) /\ ((s = .bor v d /\ q4b K O H v d) \/ (s = .shr d /\ Rep K O H v d)):=by
  intro i s h
  unfold q8d at h
  by_cases hi : i < vs.length
  ·rw [List.getElem?_append_left (by omega)] at h
   obtain ⟨v,d,h1,h2⟩:=q8p r h
   refine ⟨v,d,?_,h2⟩
   unfold L2.start
   rw [List.getElem?_append_left (by simpa using hi),List.getElem?_map,h1]
   rfl
  ·rw [List.getElem?_append_right (by omega),List.getElem?_replicate] at h
   split at h <;> cases h
 refine { same:=q2h.refl _,len:=by unfold L2.start q8d; simp [ls,lm],sub:=fun a z => z,mts:=M,own:=fun i d h => ?_,inj:=fun i j d e v h1 h2 => ?_,lent:=fun i v d h => ?_,bor:=fun i v d h => ?_,shr:=fun i d h => ?_ }
 ·obtain ⟨v,e,_,h2⟩:=key h
  rcases h2 with ⟨z,_⟩ | ⟨z,_⟩ <;> cases z
 ·obtain ⟨v,e,_,h2⟩:=key h1
  rcases h2 with ⟨z,_⟩ | ⟨z,_⟩ <;> cases z
 ·obtain ⟨v,e,_,h2⟩:=key h
  rcases h2 with ⟨z,_⟩ | ⟨z,_⟩ <;> cases z
 ·obtain ⟨v,e,h1,h2⟩:=key h
  rcases h2 with ⟨z,q⟩ | ⟨z,_⟩
  ·cases z; exact ⟨h1,q⟩
  ·cases z
 ·obtain ⟨v,e,h1,h2⟩:=key h
  rcases h2 with ⟨z,q⟩ | ⟨z,q⟩
  ·cases z
  ·cases z; exact ⟨v,h1,q⟩
def j7q (m : Md) (p : Prop) : Prop:=match m with
 | .v => p
 | _ => False
theorem okD {x qual : Str} {st : Stmt} {f : Addr} {fd : FuncData} {N ps : List Str} {k : Nat} {ms : List Bool} {m : Md} {pre : List D -> Prop} {post : List D -> D -> Prop} (F : Fun K x qual st f fd) (S : q2a N ps (q1j st)) (hl : ms.length = ps.length)
  (hbody : ∀ (cdv : Value) (A : Around) (outer : List Env) (s : Shared) (H : Hp) (E : XK),z1a k (A.deeper (envOfC qual (q1j st) s.heap.objs.size f cdv)) →
   ∃ db,PBX m (z3q CX0 P w K mg base N qual (q1j st) f cdv A outer s H E).nox (q1x st) db /\ ∀ (vs : List V) (ds : List D),vs.length = ms.length -> ds.length = ms.length -> pre ds -> db { nx:=fun _ => j7q m (post ds .non),rt:=post ds } (q8d N ms vs ds)) :
  q3d P w K mg base CX0 (k + 1) f fd ps (spD K ms m pre post):=by
 refine F.ok S (fun vs H Q E h => ?_) fun cdv A outer s H vs Q E hr h => ?_
 ·obtain ⟨ds,O,_,r,_⟩:=h
  rw [r.length.1,hl]
 obtain ⟨ds,O,M,r,hp,hq⟩:=h
 obtain ⟨db,⟨ts,p,q⟩,rd⟩:=hbody cdv A outer s H E hr
 refine ⟨ts,p,?_⟩
 refine q O H (L2.start N vs) H (q8d N ms vs ds) O _ _ (SR.start M r) (rd vs ds r.length.1 r.length.2 hp) ⟨fun σ' H' ρ' O' S' f' z => ?_,fun _ _ _ _ _ _ z => False.elim z,fun _ _ _ _ _ _ z => False.elim z,fun v d H' e rr z => hq v d H' e rr z⟩
 cases m with
 | v => exact hq _ _ _ S'.same .non z
 | b => exact False.elim z
 | n => exact False.elim z
 | h => exact False.elim z
end
end DL
namespace DL
open PySem PySem.Spec PyProof.Rows L2
section
variable {m : Md} {X : Cx} {a b c : Expr} {da db dc : DE} {pos : Pos}
def gI (C : Int -> Int -> Prop) (f : Int -> Int -> D) : G2
 | .int i,.int j,R => C i j /\ R (f i j)
 | _,_,_ => False
def gI0 (f : Int -> Int -> D) : G2
 | .int i,.int j,R => R (f i j)
 | _,_,_ => False
theorem z5z {f : Value -> Value -> Sem Value} {C : Int -> Int -> Prop} {g : Int -> Int -> V} {g' : Int -> Int -> D} (h : OpR X f (rI C g)) (hr : ∀ K O H i j,Rep K O H (g i j) (g' i j)) : OpX .v X f (gI C g'):=by
 refine ⟨_,h,fun O H x y d e R Q M rx ry hg k => ?_⟩
 cases d with
 | int i =>
  cases e with
  | int j =>
   rcases rx with rx | ⟨_,_,_,t⟩
   ·rcases ry with ry | ⟨_,_,_,t⟩
    ·cases rx; cases ry
     exact ⟨i,j,rfl,rfl,hg.1,k _ _ _ (q2h.refl _) (hr _ _ _ i j) hg.2⟩
    ·cases t
   ·cases t
  | _ => exact hg.elim
 | _ => exact hg.elim
theorem q7q {f : Value -> Value -> Sem Value} {g : Int -> Int -> V} {g' : Int -> Int -> D} (h : OpR X f (rI0 g)) (hr : ∀ K O H i j,Rep K O H (g i j) (g' i j)) : OpX .v X f (gI0 g'):=by
 refine ⟨_,h,fun O H x y d e R Q M rx ry hg k => ?_⟩
 cases d with
 | int i =>
  cases e with
  | int j =>
   rcases rx with rx | ⟨_,_,_,t⟩
   ·rcases ry with ry | ⟨_,_,_,t⟩
    ·cases rx; cases ry
     exact ⟨i,j,rfl,rfl,k _ _ _ (q2h.refl _) (hr _ _ _ i j) hg⟩
    ·cases t
   ·cases t
  | _ => exact hg.elim
 | _ => exact hg.elim
theorem q4w : OpX .v X (binaryOp .Sub) (gI0 fun i j => .int (i - j)):=q7q j9f fun _ _ _ _ _ => .int _
def CDv (_ j : Int) : Prop:=0 < j /\ j <= 10 ^ 61
theorem k6u : OpR X (binaryOp .FloorDiv) (rI CDv fun i j => .int (i / j)):=opI fun i j _ _ _ _ _ hc q => by
 refine floordiv_int (by have:=hc.1; omega) ?_ (.inl (PyProof.noPylong_of_log2 ?_))
 ·rw [Int.fdiv_eq_ediv_of_nonneg _ (Int.le_of_lt hc.1)]; exact q
 ·have h1 : j.natAbs <= 10 ^ 61:=by have:=hc.1; have:=hc.2; omega
  have h2 : j.natAbs ≠ 0:=by have:=hc.1; omega
  have h3 : j.natAbs.log2 < 250:=(Nat.log2_lt h2).mpr (Nat.lt_of_le_of_lt h1 (by decide))
  omega
theorem q2r : OpX .v X (binaryOp .FloorDiv) (gI CDv fun i j => .int (i / j)):=z5z k6u fun _ _ _ _ _ => .int _
theorem q2q : OpX .v X (binaryOp .Mod) (gI (fun _ j => 0 < j) fun i j => .int (i % j)):=z5z j9n fun _ _ _ _ _ => .int _
theorem j7o : OpX .v X (binaryOp .Pow) (gI w3s fun i j => .int (i ^ j.toNat)):=z5z j8k fun _ _ _ _ _ => .int _
theorem k7m : OpX .v X (compareOp .Lt) (gI0 fun i j => .bl (decide (i < j))):=q7q w2o fun _ _ _ _ _ => .bl _
theorem k6m : OpX .v X (compareOp .LtE) (gI0 fun i j => .bl (decide (i <= j))):=q7q w0q fun _ _ _ _ _ => .bl _
theorem j2m : OpX .v X (compareOp .Gt) (gI0 fun i j => .bl (decide (j < i))):=q7q w2s fun _ _ _ _ _ => .bl _
theorem j9k : OpX .v X (compareOp .GtE) (gI0 fun i j => .bl (decide (j <= i))):=q7q w2x fun _ _ _ _ _ => .bl _
theorem q4b.str {K : PySem.W.Frag} {O : Addr -> Prop} {H : Hp} {v : V} {x : Str} (r : q4b K O H v (.str x)) : v = .str x:=by
 rcases r with r | ⟨_,_,_,t⟩
 ·cases r; rfl
 ·cases t
theorem q4b.int {K : PySem.W.Frag} {O : Addr -> Prop} {H : Hp} {v : V} {i : Int} (r : q4b K O H v (.int i)) : v = .int i:=by
 rcases r with r | ⟨_,_,_,t⟩
 ·cases r; rfl
 ·cases t
theorem q4b.bl {K : PySem.W.Frag} {O : Addr -> Prop} {H : Hp} {v : V} {b : Bool} (r : q4b K O H v (.bl b)) : v = .bl b:=by
 rcases r with r | ⟨_,_,_,t⟩
 ·cases r; rfl
 ·cases t
theorem q4b.non {K : PySem.W.Frag} {O : Addr -> Prop} {H : Hp} {v : V} (r : q4b K O H v .non) : v = .non:=by
 rcases r with r | ⟨_,_,_,t⟩
 ·cases r; rfl
 ·cases t
theorem q4b.ty {K : PySem.W.Frag} {O : Addr -> Prop} {H : Hp} {v : V} {n : String} (r : q4b K O H v (.ty n)) : v = .ty n:=by
 rcases r with r | ⟨_,_,_,t⟩
 ·cases r; rfl
 ·cases t
theorem q4b.tup {K : PySem.W.Frag} {O : Addr -> Prop} {H : Hp} {v : V} {ds : List D} (r : q4b K O H v (.tup ds)) : Rep K O H v (.tup ds):=by
 rcases r with r | ⟨_,_,_,t⟩
 ·exact r
 ·cases t
def j7y (K : PySem.W.Frag) : R2:=fun x y H Q => ∃ a b ys,x = .ref a /\ y = .ref b /\ SqT K H a [] /\ SqT K H b ys /\ Q (.ref b) H
theorem k5x : OpR X (binaryOp .Add) (j7y X.K):=by
 intro pins s σ H x y v u Q I rx ry h
 obtain ⟨a,b,ys,rfl,rfl,ha,hb,q⟩:=h
 cases rx
 cases ry
 obtain ⟨its,r1,p1,_⟩:=I.tuple ha
 obtain ⟨its2,r2,p2,_⟩:=I.tuple hb
 cases r1
 obtain ⟨⟨cls,dd,data,sl⟩,ho,hc,n,hd⟩:=id p1
 obtain ⟨⟨cls2,dd2,data2,sl2⟩,ho2,hc2,n2,hd2⟩:=id p2
 simp only at hc hd hc2 hd2
 subst hc hd hc2 hd2
 exact concat_meets ⟨_,ho,rfl⟩ ⟨_,ho2,rfl⟩ noFill_tuple_add seq_tuple_add PySem.F.slot_tuple_add PySem.F.entry_tuple_add (PySem.F.args_tuple_add_2 _ _)
  (tuple_addW0 a b _ its2.toArray n n2 dd dd2 sl sl2 (by simp)) ⟨ho,ho2,⟨.ref b,H,I,rfl,q⟩⟩
def w4t : G2
 | .int i,.int j,R => R (.int (i + j))
 | .str x,.str y,R => x.length + y.length <= sizeLine /\ R (.str (x ++ y))
 | .tup xs,.tup ys,R => xs.length + ys.length <= sizeLine /\ R (.tup (xs ++ ys))
 | _,_,_ => False
theorem j6r : OpX .v X (binaryOp .Add) w4t:=by
 refine ⟨_,(j5f.or z9c).or (j4h.or k5x),fun O H x y d e R Q M rx ry hg k => ?_⟩
 cases d with
 | int i =>
  cases e with
  | int j =>
   cases rx.int; cases ry.int
   exact .inl (.inl ⟨i,j,rfl,rfl,k _ _ _ (q2h.refl _) (.int _) hg⟩)
  | _ => exact hg.elim
 | str i =>
  cases e with
  | str j =>
   cases rx.str; cases ry.str
   exact .inl (.inr ⟨i,j,rfl,rfl,hg.1,k _ _ _ (q2h.refl _) (.str _) hg.2⟩)
  | _ => exact hg.elim
 | tup xs =>
  cases e with
  | tup ys =>
   obtain ⟨a,vs,rfl,h1,h2⟩:=q3y rx
   obtain ⟨b,ws,rfl,h3,h4⟩:=q3y ry
   by_cases hv : vs = []
   ·subst hv
    cases h2
    exact .inr (.inr ⟨a,b,ws,rfl,rfl,h1,h3,k _ _ _ (q2h.refl _) ry.tup (by simpa using hg.2)⟩)
   ·refine .inr (.inl ⟨a,b,vs,ws,rfl,rfl,h1,h3,hv,by rw [h2.length,h4.length]; exact hg.1,fun hw => ?_,fun hw p hp => ?_⟩)
    ·subst hw
     cases h4
     exact k _ _ _ (q2h.refl _) rx.tup (by simpa using hg.2)
    ·exact k _ _ _ (q1w hp _) (.tup (SqP.of q2f) ((h2.app h4).same (q1w hp _))) hg.2
  | _ => exact hg.elim
 | _ => exact hg.elim
def w1k (K : PySem.W.Frag) : R2:=fun x y H Q => ∃ l b xs zs,x = .ref l /\ y = .ref b /\ SqL K H l xs /\ SqL K H b zs /\ xs.length + zs.length <= sizeLine /\ ∀ p,H p = none -> Q (.ref p) (upd H p (.lst (xs ++ zs)))
theorem j4s : OpR X (binaryOp .Add) (w1k X.K):=by
 intro pins s σ H x y v u Q I rx ry h
 obtain ⟨l,b,xs,zs,rfl,rfl,hH,hB,hz,q⟩:=h
 cases rx
 cases ry
 obtain ⟨its,r,⟨o,n,e,hc,hd,ho⟩,z⟩:=I.list hH
 obtain ⟨its2,r2,⟨o2,n2,e2,hc2,hd2,ho2⟩,z2⟩:=I.list hB
 obtain ⟨cls,dd,data,sl⟩:=o
 obtain ⟨cls2,dd2,data2,sl2⟩:=o2
 simp only at hc hd ho hc2 hd2 ho2
 subst hc hd ho hc2 hd2 ho2
 have hl:=r.length
 have hl2:=r2.length
 refine concat_meets ⟨_,e,rfl⟩ ⟨_,e2,rfl⟩ noFill_list_add seq_list_add PySem.F.slot_list_add PySem.F.entry_list_add (PySem.F.args_list_add_2 _ _)
  (list_addW l b its.toArray its2.toArray n n2 _ _ sl sl2 (by rw [List.size_toArray,List.size_toArray]; omega)) ⟨e,e2,?_⟩
 have ea : its.toArray ++ its2.toArray = (its ++ its2).toArray:=by simp
 rw [ea]
 exact ⟨.ref _,_,I.lnew (t':=s.toks) (r.append r2) (by rw [List.length_append]; omega),rfl,q _ I.fresh⟩
def w4n : G2
 | .lst xs,.lst ys,R => xs.length + ys.length <= sizeLine /\ R (.lst (xs ++ ys))
 | _,_,_ => False
theorem j6q : OpX .n X (binaryOp .Add) w4n:=by
 refine ⟨_,j4s,fun O H x y d e R Q M rx ry hg k => ?_⟩
 cases d with
 | lst xs =>
  cases e with
  | lst ys =>
   obtain ⟨a,vs,rfl,h1,h2⟩:=q3t rx
   obtain ⟨b,ws,rfl,h3,h4⟩:=q3t ry
   exact ⟨a,b,vs,ws,rfl,rfl,h1,h3,by rw [h2.length,h4.length]; exact hg.1,fun p hp => k _ _ _ (q1w hp _) ⟨p,rfl,hp,q8t hp (h2.app h4)⟩ hg.2⟩
  | _ => exact hg.elim
 | _ => exact hg.elim
theorem z9t : OpR X (binaryOp .Mult) (fun x y H Q => ∃ z n,x = .str z /\ y = .int n /\ MulOk z n /\ Q (.str (Txt.mul z n)) H):=by
 intro pins s σ H x y v u Q I rx ry h
 obtain ⟨z,n,rfl,rfl,hk,q⟩:=h
 obtain ⟨t,rfl⟩:=rx
 obtain ⟨t',rfl⟩:=ry
 exact SB.mul hk fun t' k => ⟨.str _,H,I.tok _,⟨_,rfl⟩,q⟩
def w4l : G2
 | .int i,.int j,R => j4y i j /\ R (.int (i * j))
 | .str x,.int n,R => MulOk x n /\ R (.str (Txt.mul x n))
 | _,_,_ => False
theorem j9c : OpX .v X (binaryOp .Mult) w4l:=by
 refine ⟨_,j6o.or z9t,fun O H x y d e R Q M rx ry hg k => ?_⟩
 cases d with
 | int i =>
  cases e with
  | int j =>
   cases rx.int; cases ry.int
   exact .inl ⟨i,j,rfl,rfl,hg.1,k _ _ _ (q2h.refl _) (.int _) hg.2⟩
  | _ => exact hg.elim
 | str x =>
  cases e with
  | int j =>
   cases rx.str; cases ry.int
   exact .inr ⟨x,j,rfl,rfl,hg.1,k _ _ _ (q2h.refl _) (.str _) hg.2⟩
  | _ => exact hg.elim
 | _ => exact hg.elim
mutual
def D.py : D -> PyData
 | .non => .none | .bl b => .bool b | .int i => .int i | .str x => .str x
 | .tup xs => .tuple (D.pys xs) | .lst xs => .list (D.pys xs)
 | .ty _ => .none | .dK _ _ => .none | .dT _ _ => .none | .ins _ _ _ => .none
def D.pys : List D -> List PyData
 | [] => []
 | d :: r => d.py :: D.pys r
end
mutual
def D.isD : D -> Bool
 | .non => true | .bl _ => true | .int _ => true | .str _ => true
 | .tup xs => D.isDs xs | .lst xs => D.isDs xs
 | .ty _ => false | .dK _ _ => false | .dT _ _ => false | .ins _ _ _ => false
def D.isDs : List D -> Bool
 | [] => true
 | d :: r => d.isD && D.isDs r
end
mutual
theorem Rep.dv {K : PySem.W.Frag} {O : Addr -> Prop} {H : Hp} : ∀ {v : V} {d : D},Rep K O H v d -> d.isD = true -> DV K H v d.py
 | _,_,.non,_ => by rw [D.py]; exact .non
 | _,_,.bl b,_ => by rw [D.py]; exact .bl b
 | _,_,.int i,_ => by rw [D.py]; exact .int i
 | _,_,.str x,_ => by rw [D.py]; exact .str x
 | _,_,.ty _,h => by simp [D.isD] at h
 | _,_,.tup q r,h => by rw [D.py]; exact .tup q.1 (q2i.dv r (by simpa [D.isD] using h))
 | _,_,.lst _ q r,h => by rw [D.py]; exact .lst (.inl q) (q2i.dv r (by simpa [D.isD] using h))
 | _,_,.lstM q r,h => by
  rw [D.py]
  refine .lst ?_ (q2i.dv r (by simpa [D.isD] using h))
  rcases q with q | q
  ·rcases q with q | ⟨o,q⟩ <;> cases q
  ·exact .inr q
 | _,_,.dK _ _ _,h => by simp [D.isD] at h
 | _,_,.dT _ _ _,h => by simp [D.isD] at h
 | _,_,.ins _ _ _,h => by simp [D.isD] at h
theorem q2i.dv {K : PySem.W.Frag} {O : Addr -> Prop} {H : Hp} : ∀ {v : List V} {d : List D},q2i K O H v d -> D.isDs d = true -> DVs K H v (D.pys d)
 | _,_,.nil,_ => by rw [D.pys]; exact .nil
 | _,_,.cons q r,h => by
  rw [D.pys]
  rw [D.isDs,Bool.and_eq_true] at h
  exact .cons (Rep.dv q h.1) (q2i.dv r h.2)
end
theorem q4b.dv {K : PySem.W.Frag} {O : Addr -> Prop} {H : Hp} {v : V} {d : D} (r : q4b K O H v d) (h : d.isD = true) : DV K H v d.py:=by
 rcases r with r | ⟨_,_,_,t⟩
 ·exact r.dv h
 ·cases t with
  | lst q r => rw [D.py]; exact .lst q (r.dv (by simpa [D.isD] using h))
  | dK _ _ => simp [D.isD] at h
  | dT _ _ => simp [D.isD] at h
def D.ok (d : D) : Bool:=d.isD && SeqAt.shaped d.py
def D.flat : D -> Bool
 | .non => true | .bl _ => true | .int _ => true | .str _ => true
 | _ => false
def deq (d e : D) : Bool:=PyData.eqv d.py e.py
def gEq : G2:=fun d e R => (d.ok = true /\ e.ok = true) /\ R (.bl (deq d e))
def gNe : G2:=fun d e R => (d.ok = true /\ e.ok = true) /\ R (.bl (!deq d e))
theorem w1m (hu : X.A.units + 64 < cLine) : OpX .v X (compareOp .Eq) gEq:=by
 refine ⟨_,j5v hu,fun O H x y d e R Q M rx ry hg k => ?_⟩
 obtain ⟨⟨h1,h2⟩,hr⟩:=hg
 unfold D.ok at h1 h2
 rw [Bool.and_eq_true] at h1 h2
 exact ⟨_,_,rx.dv h1.1,ry.dv h2.1,h1.2,h2.2,k _ _ _ (q2h.refl _) (.bl _) hr⟩
theorem w1w (hu : X.A.units + 64 < cLine) : OpX .v X (compareOp .NotEq) gNe:=by
 refine ⟨_,j8u hu,fun O H x y d e R Q M rx ry hg k => ?_⟩
 obtain ⟨⟨h1,h2⟩,hr⟩:=hg
 unfold D.ok at h1 h2
 rw [Bool.and_eq_true] at h1 h2
 exact ⟨_,_,rx.dv h1.1,ry.dv h2.1,h1.2,h2.2,k _ _ _ (q2h.refl _) (.bl _) hr⟩
def D.isNon : D -> Bool
 | .non => true
 | _ => false
theorem q4b.isNon {K : PySem.W.Frag} {O : Addr -> Prop} {H : Hp} {v : V} {d : D} (r : q4b K O H v d) : decide (v = .non) = d.isNon:=by
 rcases r with r | ⟨b,rfl,_,t⟩
 ·cases r <;> rfl
 ·cases t <;> rfl
def w3d : G2:=fun d e R => match e with
 | .non => R (.bl d.isNon)
 | _ => False
def j8x : G2:=fun d e R => match e with
 | .non => R (.bl (!d.isNon))
 | _ => False
theorem z5m : OpX .v X (compareOp .Is) w3d:=by
 refine ⟨_,k8y,fun O H x y d e R Q M rx ry hg k => ?_⟩
 cases e with
 | non => cases ry.non; exact ⟨rfl,by rw [rx.isNon]; exact k _ _ _ (q2h.refl _) (.bl _) hg⟩
 | _ => exact hg.elim
theorem z3g : OpX .v X (compareOp .IsNot) j8x:=by
 refine ⟨_,j4k,fun O H x y d e R Q M rx ry hg k => ?_⟩
 cases e with
 | non => cases ry.non; exact ⟨rfl,by rw [rx.isNon]; exact k _ _ _ (q2h.refl _) (.bl _) hg⟩
 | _ => exact hg.elim
def gIn (neg : Bool) : G2:=fun d e R => match e with
 | .lst ds => (d.ok = true /\ (D.isDs ds = true /\ PyData.canLayAll0 (D.pys ds) = true)) /\ R (.bl (if neg then !(ds.any fun z => deq z d) else ds.any fun z => deq z d))
 | .tup ds => (d.ok = true /\ (D.isDs ds = true /\ PyData.canLayAll0 (D.pys ds) = true)) /\ R (.bl (if neg then !(ds.any fun z => deq z d) else ds.any fun z => deq z d))
 | _ => False
theorem z6v (f : PyData -> Bool) : ∀ ds : List D,(D.pys ds).any f = ds.any fun z => f z.py
 | [] => by simp [D.pys]
 | d :: r => by simp [D.pys,z6v f r]
theorem w1a {neg : Bool} {f : Value -> Value -> Sem Value} (h : OpR X f (w3n X.K neg)) : OpX .v X f (gIn neg):=by
 refine ⟨_,h,fun O H x y d e R Q M rx ry hg k => ?_⟩
 cases e with
 | lst ds =>
  obtain ⟨⟨h1,h2,h3⟩,hr⟩:=hg
  unfold D.ok at h1
  rw [Bool.and_eq_true] at h1
  refine ⟨_,D.pys ds,rx.dv h1.1,.inl ?_,h3,h1.2,?_⟩
  ·have:=ry.dv (d:=.lst ds) (by rw [D.isD]; exact h2)
   rw [D.py] at this
   exact this
  ·rw [z6v]; exact k _ _ _ (q2h.refl _) (.bl _) hr
 | tup ds =>
  obtain ⟨⟨h1,h2,h3⟩,hr⟩:=hg
  unfold D.ok at h1
  rw [Bool.and_eq_true] at h1
  refine ⟨_,D.pys ds,rx.dv h1.1,.inr ?_,h3,h1.2,?_⟩
  ·have:=ry.dv (d:=.tup ds) (by rw [D.isD]; exact h2)
   rw [D.py] at this
   exact this
  ·rw [z6v]; exact k _ _ _ (q2h.refl _) (.bl _) hr
 | _ => exact hg.elim
theorem w1o (hu : X.A.units + 66 < cLine) : OpX .v X (compareOp .In) (gIn false):=w1a (j8h hu)
def w3g (neg : Bool) : G2
 | .str i,.str j,R => R (.bl (if neg then (Builtin.Str.occurrences j i 0 j.length 1).isEmpty else !(Builtin.Str.occurrences j i 0 j.length 1).isEmpty))
 | _,_,_ => False
theorem j9o : OpX .v X (compareOp .In) (w3g false):=by
 refine ⟨_,k2z,fun O H x y d e R Q M rx ry hg k => ?_⟩
 cases d with
 | str i =>
  cases e with
  | str j => cases rx.str; cases ry.str; exact ⟨i,j,rfl,rfl,k _ _ _ (q2h.refl _) (.bl _) hg⟩
  | _ => exact hg.elim
 | _ => exact hg.elim
theorem z8i {K : PySem.W.Frag} {O : Addr -> Prop} {H : Hp} {xs : List V} {ds : List D} {i : Int} {d : D} (r : q2i K O H xs ds) (h : atI ds i = some d) : ∃ v,atI xs i = some v /\ Rep K O H v d:=by
 unfold atI at h ⊢
 rw [<- r.length] at h
 cases e : ixN xs.length i with
 | none => rw [e] at h; cases h
 | some j =>
  rw [e] at h
  obtain ⟨v,h1,h2⟩:=r.getD (i:=j) (by simpa using h)
  exact ⟨v,by simpa using h1,h2⟩
abbrev GA:=List D -> (D -> Prop) -> Prop
def z0s (m : Md) (ms : List Bool) (X : Cx) (f : Value) (g : GA) : Prop:=∃ r,q6s X f r /\ ∀ (O : Addr -> Prop) (H : Hp) (vs : List V) (ds : List D) (R : D -> Prop) (Q : VK),q8a O H -> q5e X.K O H ms vs ds -> g ds R →
 (∀ v z H',q2h H H' -> Res m X.K O H H' v z -> R z -> Q v H') -> r vs H Q
def dCB (g : GA) (da : DA) : DE:=fun ρ R => da ρ fun ds => g ds R
variable {es : List Expr} {e : Expr} {ms : List Bool} {dA : DA} {x : Str} {id T : String} {g : GA} {p : Pos}
theorem q2c (hc : z0s m ms X (.builtin id) g) (hg : Gl X x) (hm : X.mg x = none) (hv : bootBuiltins x = some (.builtin id)) (ha : PAX ms X (e :: es) dA) (hn : x ≠ "__name__":=by decide) (hdb : (x == ("__debug__" : Str)) = false:=by decide)
  (he : starEach (e :: es) X.env = (false,eval e X.env) :: starEach es X.env:=by rfl) (hpl : (backTo pos (starEach es X.env)).any (·.1) = false:=by rfl) : PX m X (.Call (.Name x p) (e :: es) [] pos) (dCB g dA):=by
 obtain ⟨r,pr,qr⟩:=hc
 obtain ⟨t,pt,qt⟩:=ha
 refine ⟨_,q9j pr hg hm hv pt hn hdb he hpl,fun W H0 σ H ρ O R Q S h k => ?_⟩
 refine qt W H0 σ H ρ O _ _ S h fun vs ds H1 e1 r1 h1 => ?_
 exact qr O H1 vs ds R Q (S.grow e1).mts r1 h1 fun v z H2 e2 r2 hz => k v z H2 (e1.trans e2) (Res.back e1 r2) hz
theorem q7s (hc : z0s m ms X (.type T) g) (hg : Gl X x) (hm : X.mg x = none) (hv : bootBuiltins x = some (.type T)) (ha : PAX ms X (e :: es) dA) (hn : x ≠ "__name__":=by decide) (hdb : (x == ("__debug__" : Str)) = false:=by decide)
  (he : starEach (e :: es) X.env = (false,eval e X.env) :: starEach es X.env:=by rfl) (hpl : (backTo pos (starEach es X.env)).any (·.1) = false:=by rfl) : PX m X (.Call (.Name x p) (e :: es) [] pos) (dCB g dA):=by
 obtain ⟨r,pr,qr⟩:=hc
 obtain ⟨t,pt,qt⟩:=ha
 refine ⟨_,k2g pr hg hm hv pt hn hdb he hpl,fun W H0 σ H ρ O R Q S h k => ?_⟩
 refine qt W H0 σ H ρ O _ _ S h fun vs ds H1 e1 r1 h1 => ?_
 exact qr O H1 vs ds R Q (S.grow e1).mts r1 h1 fun v z H2 e2 r2 hz => k v z H2 (e1.trans e2) (Res.back e1 r2) hz
theorem q5e.b1 {K : PySem.W.Frag} {O : Addr -> Prop} {H : Hp} {vs : List V} {d : D} (r : q5e K O H [true] vs [d]) : ∃ v,vs = [v] /\ q4b K O H v d:=by
 cases r with
 | b q r => cases r; exact ⟨_,rfl,q⟩
def w0k : GA
 | [.lst xs],R => R (.int xs.length)
 | [.tup xs],R => R (.int xs.length)
 | [.str z],R => z.length <= sizeLine /\ R (.int z.length)
 | _,_ => False
theorem q4k : z0s .v [true] X (.builtin "len") w0k:=by
 refine ⟨_,z3t.or z4y,fun O H vs ds R Q M r hg k => ?_⟩
 have hl:=r.length.2
 match ds,hl,r,hg with
 | [d],_,r,hg =>
  obtain ⟨v,rfl,rv⟩:=r.b1
  cases d with
  | lst xs =>
   obtain ⟨a,ys,rfl,h1,h2⟩:=q3t rv
   exact .inl ⟨a,ys,rfl,.inl h1,by rw [h2.length]; exact k _ _ _ (q2h.refl _) (.int _) hg⟩
  | tup xs =>
   obtain ⟨a,ys,rfl,h1,h2⟩:=q3y rv
   exact .inl ⟨a,ys,rfl,.inr h1,by rw [h2.length]; exact k _ _ _ (q2h.refl _) (.int _) hg⟩
  | str z => cases rv.str; exact .inr ⟨z,rfl,hg.1,k _ _ _ (q2h.refl _) (.int _) hg.2⟩
  | _ => exact hg.elim
def k9m : GA
 | [.lst xs],R => R (.tup xs)
 | [.tup xs],R => R (.tup xs)
 | _,_ => False
theorem z3a : z0s .v [true] X (.type "tuple") k9m:=by
 refine ⟨_,z2l,fun O H vs ds R Q M r hg k => ?_⟩
 have hl:=r.length.2
 match ds,hl,r,hg with
 | [d],_,r,hg =>
  obtain ⟨v,rfl,rv⟩:=r.b1
  cases d with
  | lst xs =>
   obtain ⟨a,ys,rfl,h1,h2⟩:=q3t rv
   exact ⟨a,ys,rfl,.inl ⟨h1,fun l hl => k _ _ _ (q1w hl _) (.tup (SqP.of q2f) (h2.same (q1w hl _))) hg⟩⟩
  | tup xs =>
   obtain ⟨a,ys,rfl,h1,h2⟩:=q3y rv
   exact ⟨a,ys,rfl,.inr ⟨h1,k _ _ _ (q2h.refl _) rv.tup hg⟩⟩
  | _ => exact hg.elim
theorem q5e.b2 {K : PySem.W.Frag} {O : Addr -> Prop} {H : Hp} {vs : List V} {d e : D} (r : q5e K O H [true,true] vs [d,e]) : ∃ v w,vs = [v,w] /\ q4b K O H v d /\ q4b K O H w e:=by
 cases r with
 | b q r =>
  cases r with
  | b q2 r => cases r; exact ⟨_,_,rfl,q,q2⟩
def j9x : GA
 | [.int i,.int j],R => R (.int (if j > i then j else i))
 | _,_ => False
def j8y : GA
 | [.int i,.int j],R => R (.int (if j < i then j else i))
 | _,_ => False
theorem z6o (hc : X.calm = true) : z0s .v [true,true] X (.builtin "max") j9x:=by
 refine ⟨_,k2k hc,fun O H vs ds R Q M r hg k => ?_⟩
 have hl:=r.length.2
 match ds,hl,r,hg with
 | [d,e],_,r,hg =>
  obtain ⟨v,w,rfl,rv,rw⟩:=r.b2
  cases d with
  | int i =>
   cases e with
   | int j => cases rv.int; cases rw.int; exact ⟨i,j,rfl,k _ _ _ (q2h.refl _) (.int _) hg⟩
   | _ => exact hg.elim
  | _ => exact hg.elim
theorem z2d (hc : X.calm = true) : z0s .v [true,true] X (.builtin "min") j8y:=by
 refine ⟨_,k3c hc,fun O H vs ds R Q M r hg k => ?_⟩
 have hl:=r.length.2
 match ds,hl,r,hg with
 | [d,e],_,r,hg =>
  obtain ⟨v,w,rfl,rv,rw⟩:=r.b2
  cases d with
  | int i =>
   cases e with
   | int j => cases rv.int; cases rw.int; exact ⟨i,j,rfl,k _ _ _ (q2h.refl _) (.int _) hg⟩
   | _ => exact hg.elim
  | _ => exact hg.elim
end
end DL
namespace DL
open PySem PySem.Spec PyProof.Rows L2
abbrev DX:=En -> (D -> En -> Prop) -> Prop
abbrev DXA:=En -> (List D -> En -> Prop) -> Prop
def PEX (X : Cx) (e : Expr) (de : DX) : Prop:=∃ te,PE X e te /\ ∀ (W : Addr -> Prop) (H0 : Hp) (σ : L2.St) (H : Hp) (ρ : En) (O : Addr -> Prop) (R : D -> En -> Prop) (Q : VK),SR X.K W H0 σ H ρ O -> de ρ R →
 (∀ v d H' ρ' O',SR X.K W H0 σ H' ρ' O' -> Frm ρ O H ρ' O' H' -> Rep X.K O' H' v d -> R d ρ' -> Q v H') -> te σ H Q
def w0h (X : Cx) (es : List Expr) (da : DXA) : Prop:=∃ ta,PA X es ta /\ ∀ (W : Addr -> Prop) (H0 : Hp) (σ : L2.St) (H : Hp) (ρ : En) (O : Addr -> Prop) (R : List D -> En -> Prop) (Q : List V -> Hp -> Prop),SR X.K W H0 σ H ρ O -> da ρ R →
 (∀ vs ds H' ρ' O',SR X.K W H0 σ H' ρ' O' -> Frm ρ O H ρ' O' H' -> q2i X.K O' H' vs ds -> R ds ρ' -> Q vs H') -> ta σ H Q
section
variable {m : Md} {X : Cx} {e : Expr} {es : List Expr} {pos : Pos} {i : Nat} {x : Str}
def j5g (de : DE) : DX:=fun ρ R => de ρ fun d => R d ρ
theorem q5n {de : DE} (h : PX .v X e de) : PEX X e (j5g de):=by
 obtain ⟨t,p,q⟩:=h
 exact ⟨t,p,fun W H0 σ H ρ O R Q S h k => q W H0 σ H ρ O _ _ S h fun v d H' e r hd => k v d H' ρ O (S.grow e) (Frm.same e) r hd⟩
def w3e : DXA:=fun ρ R => R [] ρ
def j6e (de : DX) (da : DXA) : DXA:=fun ρ R => de ρ fun d ρ1 => da ρ1 fun ds ρ2 => R (d :: ds) ρ2
theorem q5m : w0h X [] w3e:=⟨j5d,q6r,fun W H0 σ H ρ O R Q S h k => k [] [] H ρ O S (Frm.refl _ _ _) .nil h⟩
theorem q4i {de : DX} {da : DXA} (h : PEX X e de) (h2 : w0h X es da) (hs : starEach (e :: es) X.env = (false,eval e X.env) :: starEach es X.env:=by rfl) : w0h X (e :: es) (j6e de da):=by
 obtain ⟨t,p,q⟩:=h
 obtain ⟨u,p2,q2⟩:=h2
 refine ⟨z6r t u,q3e p p2 hs,fun W H0 σ H ρ O R Q S h k => ?_⟩
 refine q W H0 σ H ρ O _ _ S h fun v d H1 ρ1 O1 S1 f1 r1 h1 => ?_
 refine q2 W H0 σ H1 ρ1 O1 _ _ S1 h1 fun vs ds H2 ρ2 O2 S2 f2 r2 h2 => ?_
 exact k _ _ H2 ρ2 O2 S2 (f1.trans f2) (.cons (r1.move S1.mts f2.kept f2.new) r2) h2
def w4v (da : DXA) : DX:=fun ρ R => da ρ fun ds ρ' => ds.length <= sizeLine /\ R (.tup ds) ρ'
abbrev GM:=List D -> List D -> (D -> List D -> Prop) -> Prop
def MuX (X : Cx) (id : String) (g : GM) : Prop:=∃ r,MtR X id r /\ ∀ (O : Addr -> Prop) (H : Hp) (a : Addr) (xs : List V) (ds : List D) (vs : List V) (es : List D) (R : D -> List D -> Prop) (Q : VK),q8a O H -> O a -> H a = some (.lst xs) -> q2i X.K O H xs ds -> q2i X.K O H vs es -> g ds es R →
 (∀ v d xs' ds',q2i X.K O H xs' ds' -> Rep X.K O H v d -> R d ds' -> Q v (upd H a (.lst xs'))) -> r (.ref a) vs H Q
def z7d : Option (Option Sl) -> Prop
 | some (some (.own (.lst _))) => True
 | _ => False
def z9k : Option (Option Sl) -> (List D -> Prop) -> Prop
 | some (some (.own (.lst ds))),k => k ds
 | _,_ => False
def j9e (i : Nat) (g : GM) (da : DXA) : DX:=fun ρ R => z7d ρ[i]? /\ da ρ fun es ρ1 => z9k ρ1[i]? fun ds => g ds es fun d ds' => R d (ρ1.set i (some (.own (.lst ds'))))
theorem k5f {g : GM} {r : V -> List V -> Hp -> VK -> Prop} (qr : ∀ (O : Addr -> Prop) (H : Hp) (a : Addr) (xs : List V) (ds : List D) (vs : List V) (es : List D) (R : D -> List D -> Prop) (Q : VK),q8a O H -> O a -> H a = some (.lst xs) -> q2i X.K O H xs ds -> q2i X.K O H vs es -> g ds es R →
  (∀ v d xs' ds',q2i X.K O H xs' ds' -> Rep X.K O H v d -> R d ds' -> Q v (upd H a (.lst xs'))) -> r (.ref a) vs H Q)
  {W : Addr -> Prop} {H0 : Hp} {σ : L2.St} {H H1 : Hp} {ρ ρ1 : En} {O O1 : Addr -> Prop} {R : D -> En -> Prop} {Q : VK} {a : Addr} {vs : List V} {es : List D} (S1 : SR X.K W H0 σ H1 ρ1 O1) (f1 : Frm ρ O H ρ1 O1 H1) (rs : q2i X.K O1 H1 vs es) (ha : σ[i]? = some (some (.ref a)))
  (h : z9k ρ1[i]? fun ds => g ds es fun d ds' => R d (ρ1.set i (some (.own (.lst ds')))))
  (k : ∀ v d H' ρ' O',SR X.K W H0 σ H' ρ' O' -> Frm ρ O H ρ' O' H' -> Rep X.K O' H' v d -> R d ρ' -> Q v H') : r (.ref a) vs H1 Q:=by
 unfold z9k at h
 split at h
 ·rename_i ds hi
  obtain ⟨a',h1,h2,h3,h4,h5⟩:=S1.own i _ hi
  rw [ha] at h1
  cases h1
  cases h5 with
  | lst q1 q2 =>
   refine qr O1 H1 a _ ds vs es _ Q S1.mts h2 q1 q2 rs h fun v d xs' ds' z1 z2 z3 => ?_
   have kp : Kept O1 H1 (upd H1 a (.lst xs')):=fun b u q n => by rw [q1y (show b ≠ a from fun z => n (z ▸ h2))]; exact q
   have nw : ∀ b,O1 b -> O1 b \/ H1 b = none:=fun b z => .inl z
   obtain ⟨S2,f2⟩:=S1.write (o:=.lst xs') (d':=.lst ds') hi ha trivial (.lst q2f (z1.move S1.mts kp nw))
   exact k v d _ _ O1 S2 (f1.trans f2) (z2.move S1.mts kp nw) z3
 ·exact h.elim
theorem j9r {K : PySem.W.Frag} {W O : Addr -> Prop} {H0 H : Hp} {σ : L2.St} {ρ : En} (S : SR K W H0 σ H ρ O) (h : z7d ρ[i]?) : ∃ a,σ[i]? = some (some (.ref a)) /\ tyV K "list" (.ref a) H:=by
 unfold z7d at h
 split at h
 ·rename_i ds hi
  obtain ⟨a,h1,h2,h3,h4,h5⟩:=S.own i _ hi
  cases h5 with
  | lst q1 q2 => exact ⟨a,h1,.inl ⟨rfl,_,SqL.of q1⟩⟩
 ·exact h.elim
variable {name : Str} {apos cpos pos' : Pos} {id : String}
theorem q5k (i : Nat) {g : GM} {da : DXA} (slot : Slot "list" name id) (hty : typeOf (.builtin id) = pure (.type "method_descriptor")) (hm : MuX X id g) (ha : w0h X (e :: es) da)
  (hN : X.N[i]? = some x:=by rfl) (hv : Vis X.env.scope x:=by first | exact Or.inl rfl | exact Or.inr (Or.inl rfl) | exact Or.inr (Or.inr rfl)) (hd : (x == ("__debug__" : Str)) = false:=by decide)
  (hcd : (x == ("__classdict__" : Str)) = false:=by decide) (hbase : attributeBase (.Name x pos') name X.env (eval (.Name x pos') X.env) = eval (.Name x pos') X.env:=by rfl)
  (hfew : ((backTo cpos (starEach (e :: es) X.env)).all (fun x => !x.1) && (backToKw cpos (keywordEach [] X.env)).all (fun x => x.1.isSome)
   && decide ((e :: es).length + ([] : List Keyword).length + (if ([] : List Keyword).isEmpty then 0 else 1) < 30)) = true:=by rfl)
  (hline : (apos.endLine == cpos.line) = true:=by rfl) (hs : starEach (e :: es) X.env = (false,eval e X.env) :: starEach es X.env:=by rfl) (hplain : (backTo cpos (starEach es X.env)).any (·.1) = false:=by rfl) :
  PEX X (.Call (.Attribute (.Name x pos') name apos) (e :: es) [] cpos) (j9e i g da):=by
 obtain ⟨r,pr,qr⟩:=hm
 obtain ⟨t,pt,qt⟩:=ha
 refine ⟨_,j3v PySem.F.plainAttrs_list slot hty pr (q7a hN hv hd hcd) pt hbase hfew hline hs hplain,fun W H0 σ H ρ O R Q S h k => ?_⟩
 obtain ⟨a,ha,ty⟩:=j9r S h.1
 refine ⟨_,ha,ty,?_⟩
 exact qt W H0 σ H ρ O _ _ S h.2 fun vs es H1 ρ1 O1 S1 f1 r1 h1 => k5f qr S1 f1 r1 ha h1 k
def j9b : GM
 | ds,[d],R => ds.length < sizeLine /\ R .non (ds ++ [d])
 | _,_,_ => False
theorem q3s : MuX X "list.append" j9b:=by
 refine ⟨_,k4t,fun O H a xs ds vs es R Q M oa ha rs re hg k => ?_⟩
 cases re with
 | nil => exact hg.elim
 | cons r1 r2 =>
  cases r2 with
  | cons _ _ => exact hg.elim
  | nil => exact ⟨a,xs,_,rfl,rfl,ha,by rw [rs.length]; exact hg.1,k _ _ _ _ (rs.app (.cons r1 .nil)) .non hg.2⟩
def z2z : GM
 | ds,[.int i],R => (-(2 ^ 63) <= i /\ i < 2 ^ 63) /\ q3n (seqIndex? i ds.length) fun k => q3n (ds[k]?) fun d => R d (ds.eraseIdx k)
 | _,_,_ => False
theorem k4g : MuX X "list.pop" z2z:=by
 refine ⟨_,k7a,fun O H a xs ds vs es R Q M oa ha rs re hg k => ?_⟩
 cases re with
 | nil => exact hg.elim
 | @cons x xs' d ds' r1 r2 =>
  cases r2 with
  | cons _ _ => cases d <;> exact hg.elim
  | nil =>
   cases d with
   | int i =>
    cases r1
    cases hs : seqIndex? i ds.length with
    | none => simp only [z2z,hs,q3n] at hg; exact hg.2.elim
    | some j =>
     simp only [z2z,hs,q3n] at hg
     cases he : ds[j]? with
     | none => simp only [he,q3n] at hg; exact hg.2.elim
     | some d =>
      simp only [he,q3n] at hg
      obtain ⟨v,h1,h2⟩:=rs.getD he
      exact ⟨a,xs,i,j,v,rfl,rfl,ha,hg.1.1,hg.1.2,by rw [rs.length]; exact hs,h1,k _ _ _ _ (rs.eraseIdx j) h2 hg.2⟩
   | _ => exact hg.elim
def w3v (de : DX) (dg : DG) : DS:=fun E ρ => de ρ fun d ρ' => dg d ρ' E.nx
theorem j8d {tg : Expr} {de : DX} {dg : DG} (he : PEX X e de) (hg : PGX X tg dg) (hs : swapsWithSole [tg] e pos.line X.env = pure false:=by rfl) (hw : swappedStores [tg] e X.env = pure none:=by rfl)
  (h1 : (assignEach [tg] X.env).map (·.2) = [assign tg X.env]:=by rfl) : PSX m X (.Assign [tg] e pos) (w3v de dg):=by
 obtain ⟨te,p,q⟩:=he
 obtain ⟨g,pg,qg⟩:=hg
 refine ⟨_,j5q p pg hs hw h1,fun W H0 σ H ρ O E T S h L => ?_⟩
 refine q W H0 σ H ρ O _ _ S h fun v d H' ρ' O' S' f' r hd => ?_
 exact qg W H0 σ H' ρ' O' v d _ _ S' r hd fun σ2 ρ2 S2 f2 h2 => L.nx _ _ _ _ S2 (f'.trans f2) h2
def j9j (de : DX) : DS:=fun E ρ => de ρ fun _ ρ' => E.nx ρ'
theorem q3u {de : DX} (he : PEX X e de) (hs : swapsWith e none pos.line X.env = pure false:=by rfl) : PSX m X (.Expr e pos) (j9j de):=by
 obtain ⟨te,p,q⟩:=he
 refine ⟨_,j2l p hs,fun W H0 σ H ρ O E T S h L => ?_⟩
 exact q W H0 σ H ρ O _ _ S h fun v d H' ρ' O' S' f' r hd => L.nx _ _ _ _ S' f' hd
end
section
variable {m : Md} {X : Cx} {a e : Expr} {lo hi : Option Expr} {da de : DE} {pos p2 : Pos}
abbrev DO:=En -> (Option Int -> Prop) -> Prop
def POX (X : Cx) (e : Option Expr) (d : DO) : Prop:=∃ t,PO X e t /\ ∀ (W : Addr -> Prop) (H0 : Hp) (σ : L2.St) (H : Hp) (ρ : En) (O : Addr -> Prop) (R : Option Int -> Prop) (Q : Option Int -> Hp -> Prop),SR X.K W H0 σ H ρ O -> d ρ R -> (∀ o H',q2h H H' -> R o -> Q o H') -> t σ H Q
def w3u : DO:=fun _ R => R none
def j5r : D -> (Option Int -> Prop) -> Prop
 | .int i,R => R (some i)
 | _,_ => False
def j6k (de : DE) : DO:=fun ρ R => de ρ fun d => j5r d R
theorem q6p : POX X none w3u:=⟨_,j2s,fun W H0 σ H ρ O R Q S h k => k _ _ (q2h.refl _) h⟩
theorem q4d (h : PX .b X e de) : POX X (some e) (j6k de):=by
 obtain ⟨t,p,q⟩:=h
 refine ⟨_,j1f p,fun W H0 σ H ρ O R Q S h k => q W H0 σ H ρ O _ _ S h fun v d H' e r hd => ?_⟩
 cases d with
 | int i => cases q4b.int r; exact ⟨i,rfl,k _ _ e hd⟩
 | _ => exact False.elim hd
def SlX (m : Md) (X : Cx) (g : D -> Option Int -> Option Int -> (D -> Prop) -> Prop) : Prop:=∃ r,SlR X r /\ ∀ (O : Addr -> Prop) (H : Hp) (x : V) (d : D) (l u : Option Int) (R : D -> Prop) (Q : VK),q8a O H -> q4b X.K O H x d -> g d l u R →
 (∀ v z H',q2h H H' -> Res m X.K O H H' v z -> R z -> Q v H') -> r x l u H Q
def dSl (g : D -> Option Int -> Option Int -> (D -> Prop) -> Prop) (de : DE) (dl dh : DO) : DE:=fun ρ R => de ρ fun x => dl ρ fun l => dh ρ fun u => g x l u R
theorem q3x {g : D -> Option Int -> Option Int -> (D -> Prop) -> Prop} {dl dh : DO} (hs : SlX m X g) (he : PX .b X e de) (hl : POX X lo dl) (hu : POX X hi dh) : PX m X (.Subscript e (.Slice lo hi none p2) pos) (dSl g de dl dh):=by
 obtain ⟨r,pr,qr⟩:=hs
 obtain ⟨te,pe,qe⟩:=he
 obtain ⟨tl,pl,ql⟩:=hl
 obtain ⟨tu,pu,qu⟩:=hu
 refine ⟨_,k5c pr pe pl pu,fun W H0 σ H ρ O R Q S h k => ?_⟩
 refine qe W H0 σ H ρ O _ _ S h fun v d H1 e1 r1 h1 => ?_
 refine ql W H0 σ H1 ρ O _ _ (S.grow e1) h1 fun l H2 e2 h2 => ?_
 refine qu W H0 σ H2 ρ O _ _ ((S.grow e1).grow e2) h2 fun u H3 e3 h3 => ?_
 have r1' : q4b X.K O H1 v d:=r1
 exact qr O H3 v d l u R Q (((S.grow e1).grow e2).grow e3).mts ((r1'.same e2).same e3) h3 fun v z H4 e4 r4 hz => k v z H4 (e1.trans (e2.trans (e3.trans e4))) (Res.back (e1.trans (e2.trans e3)) r4) hz
def cutD {α : Type} (xs : List α) (lo hi : Option Int) : List α:=(xs.drop (HT.sIx xs.length 0 lo)).take (HT.sIx xs.length xs.length hi - HT.sIx xs.length 0 lo)
theorem q2i.cut {K : PySem.W.Frag} {O : Addr -> Prop} {H : Hp} {xs : List V} {ds : List D} (r : q2i K O H xs ds) (lo hi : Option Int) : q2i K O H (k9w xs lo hi) (cutD ds lo hi):=by
 unfold k9w cutD
 rw [<- r.length]
 exact (r.drop _).take _
def w4r : D -> Option Int -> Option Int -> (D -> Prop) -> Prop
 | .lst ds,l,u,R => R (.lst (cutD ds l u))
 | _,_,_,_ => False
theorem k6w : SlX .n X w4r:=by
 refine ⟨_,j1j,fun O H x d l u R Q M rx hg k => ?_⟩
 cases d with
 | lst ds =>
  obtain ⟨a,xs,rfl,h1,h2⟩:=q3t rx
  exact ⟨a,xs,rfl,h1,fun p hp => k _ _ _ (q1w hp _) ⟨p,rfl,hp,q8t hp (h2.cut l u)⟩ hg⟩
 | _ => exact hg.elim
theorem j6i : SlR X (fun x lo hi H Q => ∃ z,x = .str z /\ z.length <= sizeLine /\ Q (.str (Txt.slice z lo hi)) H):=by
 intro pins s σ H x v vl vu lo hi sl Q I rx hs pl pu h
 obtain ⟨z,rfl,hz,q⟩:=h
 obtain ⟨t,rfl⟩:=rx
 obtain ⟨o,h1,h2,h3⟩:=hs
 refine ⟨"str",_,F.slot_str_getitem.lookup,typeIs_str _ _ _,?_⟩
 have fin : ∀ (l u : Option (Int × Tok)),partValue l = vl -> partValue u = vu -> l.map (·.1) = lo -> u.map (·.1) = hi -> wpAny (model X.prog X.w) X.A (getItem (.str z t) (.ref sl)) (EP X pins σ Q) X.xe s:=by
  intro l u e1 e2 e3 e4
  refine wpAny_getItem_str_slice (l:=l) (u:=u) (st:=none) ⟨o,h1,h2,by rw [h3,e1,e2]; rfl⟩ rfl ?_
  subst e3 e4
  refine post_val_or_str ⟨Nat.le_trans (Txt.slice_le z _ _) hz,fun t' k => ?_⟩
  exact ⟨.str _,H,I.tok _,⟨_,rfl⟩,q⟩
 cases pl with
 | none =>
  cases pu with
  | none => exact fin none none rfl rfl rfl rfl
  | int j tj => exact fin none (some (j,tj)) rfl rfl rfl rfl
 | int i ti =>
  cases pu with
  | none => exact fin (some (i,ti)) none rfl rfl rfl rfl
  | int j tj => exact fin (some (i,ti)) (some (j,tj)) rfl rfl rfl rfl
def gSl : D -> Option Int -> Option Int -> (D -> Prop) -> Prop
 | .tup ds,l,u,R => ¬ (HT.sIx ds.length 0 l = 0 /\ HT.sIx ds.length ds.length u = ds.length) /\ R (.tup (cutD ds l u))
 | .str z,l,u,R => z.length <= sizeLine /\ R (.str (Txt.slice z l u))
 | _,_,_,_ => False
theorem j2t : SlX .v X gSl:=by
 refine ⟨_,j5e.or j6i,fun O H x d l u R Q M rx hg k => ?_⟩
 cases d with
 | tup ds =>
  obtain ⟨a,xs,rfl,h1,h2⟩:=q3y rx
  exact .inl ⟨a,xs,rfl,h1,by rw [h2.length]; exact hg.1,fun p hp => k _ _ _ (q1w hp _) (.tup (SqP.of q2f) ((h2.cut l u).same (q1w hp _))) hg.2⟩
 | str z => cases rx.str; exact .inr ⟨z,rfl,hg.1,k _ _ _ (q2h.refl _) (.str _) hg.2⟩
 | _ => exact hg.elim
end
section
variable {X : Cx}
def D.tyN : D -> Option String
 | .non => some "NoneType" | .bl _ => some "bool" | .int _ => some "int" | .str _ => some "str" | .tup _ => some "tuple" | .lst _ => some "list"
 | _ => none
def w0n (t T : String) : Bool:=t == T || (t == "bool" && T == "int")
def z6g : List String:=["NoneType","bool","int","str","tuple","list"]
def q9h : List String:=["bool","int","str","tuple","list","dict"]
theorem k1l (K : PySem.W.Frag) : ∀ t ∈ z6g,∀ T ∈ q9h,PySem.W.kitOne K (.type t) (.type T) = some (w0n t T):=by
 intro t ht T hT
 simp only [z6g,q9h,List.mem_cons,List.not_mem_nil,or_false] at ht hT
 rcases ht with rfl | rfl | rfl | rfl | rfl | rfl <;> rcases hT with rfl | rfl | rfl | rfl | rfl | rfl <;> kernel_rfl
inductive DTy (K : PySem.W.Frag) (H : Hp) : V -> String -> Prop
 | non : DTy K H .non "NoneType"
 | bl (b : Bool) : DTy K H (.bl b) "bool"
 | int (i : Int) : DTy K H (.int i) "int"
 | str (x : Str) : DTy K H (.str x) "str"
 | tup {a : Addr} {xs : List V} : SqT K H a xs -> DTy K H (.ref a) "tuple"
 | lst {a : Addr} {xs : List V} : SqL K H a xs -> DTy K H (.ref a) "list"
theorem q4b.dty {K : PySem.W.Frag} {O : Addr -> Prop} {H : Hp} {v : V} {d : D} {t : String} (r : q4b K O H v d) (h : d.tyN = some t) : DTy K H v t /\ t ∈ z6g:=by
 cases d with
 | non => cases r.non; cases h; exact ⟨.non,by decide⟩
 | bl b => cases r.bl; cases h; exact ⟨.bl b,by decide⟩
 | int b => cases r.int; cases h; exact ⟨.int b,by decide⟩
 | str b => cases r.str; cases h; exact ⟨.str b,by decide⟩
 | tup ds => obtain ⟨a,xs,rfl,h1,_⟩:=q3y r; cases h; exact ⟨.tup h1,by decide⟩
 | lst ds => obtain ⟨a,xs,rfl,h1,_⟩:=q3t r; cases h; exact ⟨.lst h1,by decide⟩
 | _ => cases h
theorem z4h : q6s X (.builtin "isinstance") (fun xs H Q => ∃ x T t b,xs = [x,.ty T] /\ DTy X.K H x t /\ PySem.W.kitOne X.K (.type t) (.type T) = some b /\ Q (.bl b) H):=by
 intro pins s σ H xs us Q I rv h
 obtain ⟨x,T,t,b,rfl,ty,e,q⟩:=h
 obtain ⟨u,c,rfl,rx,rc⟩:=vals2 rv
 cases rc
 have fin : ∀ tk,EP X pins σ Q (.bool b) { s with toks:=tk }:=fun tk => ⟨.bl b,H,I.tok tk,rfl,q⟩
 cases ty with
 | non => cases rx; exact PySem.W.kia_one PySem.W.kitx_none I.kIn True.intro e (fun z => nomatch z) fin
 | bl y => cases rx; exact PySem.W.kia_one PySem.W.kitx_bool I.kIn True.intro e (fun z => nomatch z) fin
 | int i => obtain ⟨t,rfl⟩:=rx; exact PySem.W.kia_one PySem.W.kitx_int I.kIn True.intro e (fun z => nomatch z) fin
 | str y => obtain ⟨t,rfl⟩:=rx; exact PySem.W.kia_one PySem.W.kitx_str I.kIn True.intro e (fun z => nomatch z) fin
 | tup q1 =>
  cases rx
  obtain ⟨its,_,⟨o,h1,h2,_⟩,_⟩:=I.tuple q1
  exact PySem.W.kia_one PySem.W.kitx_tuple I.kIn ⟨o,h1,h2⟩ e (fun z => nomatch z) fin
 | lst q1 =>
  cases rx
  obtain ⟨its,_,⟨o,n,h1,h2,_⟩,_⟩:=I.list q1
  exact PySem.W.kia_one PySem.W.kitx_list I.kIn ⟨o,h1,h2⟩ e (fun z => nomatch z) fin
def w0g : GA
 | [d,.ty T],R => T ∈ q9h /\ q3n (d.tyN) fun t => R (.bl (w0n t T))
 | _,_ => False
theorem j6c : z0s .v [true,true] X (.builtin "isinstance") w0g:=by
 refine ⟨_,z4h,fun O H vs ds R Q M r hg k => ?_⟩
 have hl:=r.length.2
 match ds,hl,r,hg with
 | [d,e],_,r,hg =>
  obtain ⟨v,w,rfl,rv,rw⟩:=r.b2
  cases e with
  | ty T =>
   cases rw.ty
   cases ht : d.tyN with
   | none => simp only [w0g,ht,q3n] at hg; exact hg.2.elim
   | some t =>
    simp only [w0g,ht,q3n] at hg
    obtain ⟨q1,q2⟩:=rv.dty ht
    exact ⟨v,T,t,_,rfl,q1,k1l _ t q2 T hg.1,k _ _ _ (q2h.refl _) (.bl _) hg.2⟩
  | _ => exact hg.elim
end
end DL
namespace DL
open PySem PySem.Spec PyProof.Rows L2
section
variable {m : Md} {X : Cx} {a b c e : Expr} {es : List Expr} {da db dc de : DE} {pos : Pos}
def k8b : G2
 | .int i,.int j,R => R (.int (i + j))
 | .str x,.str y,R => x.length + y.length <= sizeLine /\ R (.str (x ++ y))
 | .tup xs,.tup ys,R => xs.length + ys.length <= sizeLine /\ R (.tup (xs ++ ys))
 | .lst xs,.lst ys,R => xs.length + ys.length <= sizeLine /\ R (.lst (xs ++ ys))
 | _,_,_ => False
theorem q1q : OpX .v X (binaryOp .Add) k8b:=by
 refine (j6r.or j6q.nv).imp fun d e R h => ?_
 cases d <;> cases e <;> first | exact .inl h | exact .inr h | exact h.elim
def j5b (neg : Bool) : G2
 | .int i,.int j,R => R (.bl (if neg then !decide (i = j) else decide (i = j)))
 | .str i,.str j,R => R (.bl (if neg then !decide (i = j) else decide (i = j)))
 | .bl i,.bl j,R => R (.bl (if neg then !decide (i = j) else decide (i = j)))
 | .non,.non,R => R (.bl (!neg))
 | .non,.int _,R => R (.bl neg)
 | .non,.str _,R => R (.bl neg)
 | .int _,.non,R => R (.bl neg)
 | .str _,.non,R => R (.bl neg)
 | d,e,R => (d.ok = true /\ e.ok = true) /\ R (.bl (if neg then !deq d e else deq d e))
theorem k8z {neg : Bool} {f : Value -> Value -> Sem Value} (h1 : OpR X f (if neg then rNe else rEq)) (h2 : OpX .v X f (if neg then gNe else gEq)) : OpX .v X f (j5b neg):=by
 obtain ⟨r,p,q⟩:=h2
 refine ⟨_,h1.or p,fun O H x y d e R Q M rx ry hg k => ?_⟩
 have two : ∀ {x y : V} {b : Bool},w2f x y = true -> decide (x = y) = b -> R (.bl (if neg then !b else b)) -> (if neg then rNe else rEq) x y H Q:=by
  intro x y b hs hd hr
  cases neg with
  | false => exact ⟨hs,by rw [hd]; exact k _ _ _ (q2h.refl _) (.bl _) hr⟩
  | true => exact ⟨hs,by rw [hd]; exact k _ _ _ (q2h.refl _) (.bl _) hr⟩
 have di : ∀ i j : Int,decide (V.int i = V.int j) = decide (i = j):=fun i j => by simp
 have ds : ∀ i j : Str,decide (V.str i = V.str j) = decide (i = j):=fun i j => by simp
 have dl : ∀ i j : Bool,decide (V.bl i = V.bl j) = decide (i = j):=fun i j => by simp
 have other : ((d.ok = true /\ e.ok = true) /\ R (.bl (if neg then !deq d e else deq d e))) -> r x y H Q:=by
  intro z
  refine q O H x y d e R Q M rx ry ?_ k
  cases neg with
  | false => exact ⟨z.1,z.2⟩
  | true => exact ⟨z.1,z.2⟩
 cases d with
 | int i =>
  cases e with
  | int j => cases rx.int; cases ry.int; exact .inl (two rfl (di i j) hg)
  | non => cases rx.int; cases ry.non; refine .inl (two (b:=false) rfl (by simp) ?_); cases neg <;> exact hg
  | _ => exact .inr (other hg)
 | str i =>
  cases e with
  | str j => cases rx.str; cases ry.str; exact .inl (two rfl (ds i j) hg)
  | non => cases rx.str; cases ry.non; refine .inl (two (b:=false) rfl (by simp) ?_); cases neg <;> exact hg
  | _ => exact .inr (other hg)
 | bl i =>
  cases e with
  | bl j => cases rx.bl; cases ry.bl; exact .inl (two rfl (dl i j) hg)
  | _ => exact .inr (other hg)
 | non =>
  cases e with
  | non => cases rx.non; cases ry.non; refine .inl (two (b:=true) rfl (by simp) ?_); cases neg <;> exact hg
  | int i => cases rx.non; cases ry.int; refine .inl (two (b:=false) rfl (by simp) ?_); cases neg <;> exact hg
  | str i => cases rx.non; cases ry.str; refine .inl (two (b:=false) rfl (by simp) ?_); cases neg <;> exact hg
  | _ => exact .inr (other hg)
 | _ => exact .inr (other hg)
theorem q4j (hu : X.A.units + 64 < cLine) : OpX .v X (compareOp .Eq) (j5b false):=k8z (neg:=false) w2n (w1m hu)
theorem z4x (hu : X.A.units + 64 < cLine) : OpX .v X (compareOp .NotEq) (j5b true):=k8z (neg:=true) w2b (w1w hu)
theorem z2g {K : PySem.W.Frag} {O : Addr -> Prop} {H : Hp} {v : V} {d : D} (r : q4b K O H v d) (h : d.flat = true) : z0z v = true:=by
 cases d with
 | non => cases r.non; rfl
 | bl b => cases r.bl; rfl
 | int b => cases r.int; rfl
 | str b => cases r.str; rfl
 | _ => cases h
theorem j2k {K : PySem.W.Frag} {O : Addr -> Prop} {H : Hp} {v w : V} {d e : D} (r : q4b K O H v d) (q : q4b K O H w e) (h : d.flat = true) (h2 : e.flat = true) : eqV v w = deq d e:=by
 have bi : ∀ (b : Bool) (i : Int),((if b then (1 : Int) else 0) == i) = ((if b then (1 : Int) else 0) == i):=fun _ _ => rfl
 cases d with
 | non => cases r.non; cases e with
  | non => cases q.non; rfl
  | bl b => cases q.bl; rfl
  | int b => cases q.int; rfl
  | str b => cases q.str; rfl
  | _ => cases h2
 | bl x => cases r.bl; cases e with
  | non => cases q.non; rfl
  | bl b => cases q.bl; rfl
  | int b => cases q.int; rfl
  | str b => cases q.str; rfl
  | _ => cases h2
 | int x => cases r.int; cases e with
  | non => cases q.non; rfl
  | bl b => cases q.bl; rfl
  | int b => cases q.int; rfl
  | str b => cases q.str; rfl
  | _ => cases h2
 | str x => cases r.str; cases e with
  | non => cases q.non; rfl
  | bl b => cases q.bl; rfl
  | int b => cases q.int; rfl
  | str b => cases q.str; rfl
  | _ => cases h2
 | _ => cases h
theorem z3l {K : PySem.W.Frag} {O : Addr -> Prop} {H : Hp} : ∀ {xs : List V} {ds : List D},q2i K O H xs ds -> ds.all D.flat = true -> xs.all z0z = true
 | _,_,.nil,_ => rfl
 | _,_,.cons q r,h => by
  rw [List.all_cons,Bool.and_eq_true] at h ⊢
  exact ⟨z2g (.inl q) h.1,z3l r h.2⟩
theorem z5s {K : PySem.W.Frag} {O : Addr -> Prop} {H : Hp} {v : V} {d : D} (rv : q4b K O H v d) (hd : d.flat = true) : ∀ {xs : List V} {ds : List D},q2i K O H xs ds -> ds.all D.flat = true -> inV v xs = ds.any fun z => deq z d
 | _,_,.nil,_ => rfl
 | _,_,.cons q r,h => by
  rw [List.all_cons,Bool.and_eq_true] at h
  have ih:=z5s rv hd r h.2
  unfold inV at ih ⊢
  rw [List.any_cons,List.any_cons,ih,j2k (.inl q) rv h.1 hd]
def k9y (neg : Bool) : G2:=fun d e R => match e with
 | .lst ds => ((d.flat = true /\ ds.all D.flat = true) \/ (d.ok = true /\ (D.isDs ds = true /\ PyData.canLayAll0 (D.pys ds) = true))) /\ R (.bl (if neg then !(ds.any fun z => deq z d) else ds.any fun z => deq z d))
 | .tup ds => ((d.flat = true /\ ds.all D.flat = true) \/ (d.ok = true /\ (D.isDs ds = true /\ PyData.canLayAll0 (D.pys ds) = true))) /\ R (.bl (if neg then !(ds.any fun z => deq z d) else ds.any fun z => deq z d))
 | .str j => (match d with | .str i => R (.bl (if neg then (Builtin.Str.occurrences j i 0 j.length 1).isEmpty else !(Builtin.Str.occurrences j i 0 j.length 1).isEmpty)) | _ => False)
 | _ => False
theorem j7u {neg : Bool} {f : Value -> Value -> Sem Value} (h1 : OpR X f (rIn X.K neg)) (h2 : OpX .v X f (gIn neg)) (h3 : OpX .v X f (w3g neg)) : OpX .v X f (k9y neg):=by
 obtain ⟨r,p,q⟩:=h2
 obtain ⟨r3,p3,q3⟩:=h3
 refine ⟨_,(h1.or p).or p3,fun O H x y d e R Q M rx ry hg k => ?_⟩
 cases e with
 | lst ds =>
  rcases hg with ⟨hc | hc,hr⟩
  ·obtain ⟨a,xs,rfl,g1,g2⟩:=q3t ry
   refine .inl (.inl ⟨a,xs,rfl,.inl g1,z2g rx hc.1,z3l g2 hc.2,?_⟩)
   rw [z5s rx hc.1 g2 hc.2]
   exact k _ _ _ (q2h.refl _) (.bl _) hr
  ·exact .inl (.inr (q O H x y d _ R Q M rx ry ⟨hc,hr⟩ k))
 | tup ds =>
  rcases hg with ⟨hc | hc,hr⟩
  ·obtain ⟨a,xs,rfl,g1,g2⟩:=q3y ry
   refine .inl (.inl ⟨a,xs,rfl,.inr g1,z2g rx hc.1,z3l g2 hc.2,?_⟩)
   rw [z5s rx hc.1 g2 hc.2]
   exact k _ _ _ (q2h.refl _) (.bl _) hr
  ·exact .inl (.inr (q O H x y d _ R Q M rx ry ⟨hc,hr⟩ k))
 | str j =>
  cases d with
  | str i => exact .inr (q3 O H x y _ _ R Q M rx ry hg k)
  | _ => exact hg.elim
 | _ => exact hg.elim
theorem j7g (hu : X.A.units + 66 < cLine) : OpX .v X (compareOp .In) (k9y false):=j7u k4m (w1o hu) j9o
def w0j : D -> Option Int -> Option Int -> (D -> Prop) -> Prop
 | .lst ds,l,u,R => R (.lst (cutD ds l u))
 | .tup ds,l,u,R => ¬ (HT.sIx ds.length 0 l = 0 /\ HT.sIx ds.length ds.length u = ds.length) /\ R (.tup (cutD ds l u))
 | .str z,l,u,R => z.length <= sizeLine /\ R (.str (Txt.slice z l u))
 | _,_,_,_ => False
theorem q4o : SlX .v X w0j:=by
 obtain ⟨r,p,q⟩:=k6w (X:=X)
 obtain ⟨r2,p2,q2⟩:=j2t (X:=X)
 refine ⟨_,p.or p2,fun O H x d l u R Q M rx hg k => ?_⟩
 cases d with
 | lst ds => exact .inl (q O H x _ l u R Q M rx hg fun v z H' e r => k v z H' e (r.nv M))
 | tup ds => exact .inr (q2 O H x _ l u R Q M rx hg k)
 | str z => exact .inr (q2 O H x _ l u R Q M rx hg k)
 | _ => exact hg.elim
theorem q4x {ks : Nat} {u : DGs} {n : Nat} (hc : X.calm = true) (h : j5c X es u) (hn : (assignEach es X.env).length = n:=by rfl) (hst : (assignEach es X.env).findIdx? (·.1) = none:=by rfl) : PGX X (.Tuple es ks pos) (gT n u) :=
 j9a (g:=u) (fun t ht => k8x hc ht hn hst) h
variable {name : Str} {apos cpos : Pos} {T id : String} {ms : List Bool} {dA : DA}
abbrev GV:=D -> List D -> (D -> Prop) -> Prop
def MvX (m : Md) (ms : List Bool) (X : Cx) (T id : String) (g : GV) : Prop:=∃ r,MtR X id r /\ ∀ (O : Addr -> Prop) (H H1 : Hp) (x : V) (d : D) (vs : List V) (es : List D) (R : D -> Prop) (Q : VK),q8a O H -> q2h H1 H -> q4b X.K O H1 x d -> q5e X.K O H ms vs es -> g d es R →
 (∀ v z H',q2h H H' -> Res m X.K O H H' v z -> R z -> Q v H') -> r x vs H Q
def k3g (d : D) (p : Prop) : Prop:=match d with
 | .str _ => p
 | _ => False
def dMv (g : GV) (de : DE) (dA : DA) : DE:=fun ρ R => de ρ fun d => k3g d (dA ρ fun es => g d es R)
theorem q9z {g : GV} (hm : MvX m ms X "str" id g) (pa : PlainAttrs "str") (slot : Slot "str" name id) (hty : typeOf (.builtin id) = pure (.type "method_descriptor")) (ho : PX .b X a de) (ha : PAX ms X (e :: es) dA) (hbase : attributeBase a name X.env (eval a X.env) = eval a X.env:=by rfl)
  (hfew : ((backTo cpos (starEach (e :: es) X.env)).all (fun x => !x.1) && (backToKw cpos (keywordEach [] X.env)).all (fun x => x.1.isSome)
   && decide ((e :: es).length + ([] : List Keyword).length + (if ([] : List Keyword).isEmpty then 0 else 1) < 30)) = true:=by rfl)
  (hline : (apos.endLine == cpos.line) = true:=by rfl) (hs : starEach (e :: es) X.env = (false,eval e X.env) :: starEach es X.env:=by rfl) (hplain : (backTo cpos (starEach es X.env)).any (·.1) = false:=by rfl) :
  PX m X (.Call (.Attribute a name apos) (e :: es) [] cpos) (dMv g de dA):=by
 obtain ⟨r,pr,qr⟩:=hm
 obtain ⟨to,po,qo⟩:=ho
 obtain ⟨t,pt,qt⟩:=ha
 refine ⟨_,j3v pa slot hty pr po pt hbase hfew hline hs hplain,fun W H0 σ H ρ O R Q S h k => ?_⟩
 refine qo W H0 σ H ρ O _ _ S h fun v d H1 e1 r1 h1 => ?_
 cases d with
 | str z =>
  have ev:=q4b.str r1
  subst ev
  refine ⟨rfl,?_⟩
  refine qt W H0 σ H1 ρ O _ _ (S.grow e1) h1 fun vs es H2 e2 r2 h2 => ?_
  exact qr O H2 H1 _ _ vs es R Q ((S.grow e1).grow e2).mts e2 r1 r2 h2 fun v z H3 e3 r3 hz => k v z H3 (e1.trans (e2.trans e3)) (Res.back (e1.trans e2) r3) hz
 | _ => exact False.elim h1
theorem q7e : ∀ l : List (Str × Tok),q3w ((l.map (·.1)).map V.str) (strValues l)
 | [] => .nil
 | (x,t) :: r => .cons ⟨t,rfl⟩ (q7e r)
theorem z7e {K : PySem.W.Frag} {O : Addr -> Prop} {H : Hp} : ∀ l : List Str,q2i K O H (l.map V.str) (l.map D.str)
 | [] => .nil
 | x :: r => .cons (.str x) (z7e r)
end
end DL
namespace DL
open PySem PySem.Spec PyProof.Rows L2
section
variable {m : Md} {X : Cx} {a b c e : Expr} {es : List Expr} {da db dc de : DE} {pos : Pos}
theorem k5b : MtR X "str.split" (fun x vs H Q => ∃ z y,x = .str z /\ vs = [.str y] /\ (y.length == 0) = false /\ z.length + 2 <= sizeLine /\ ∀ p,H p = none -> Q (.ref p) (upd H p (.lst ((Txt.split z y).map V.str)))):=by
 intro pins s σ H x xs v us Q I rx rv h
 obtain ⟨z,y,rfl,rfl,hy,hz,q⟩:=h
 obtain ⟨t,rfl⟩:=rx
 obtain ⟨u,rfl,ru⟩:=vals1 rv
 obtain ⟨u,rfl⟩:=ru
 have hs2 : (Txt.split z y).length <= sizeLine:=Nat.le_trans (PyProof.Rows.split_le z y) hz
 have hx : z.length <= sizeLine:=by omega
 have fin : ∀ (l : List (Str × Tok)) (tk : Nat),l.map (·.1) = Txt.split z y -> EP X pins σ Q (.ref s.heap.objs.size) { s with heap:=s.heap.push { cls:=.type "list",data:=.seq (strValues l).toArray },toks:=tk }:=by
  intro l tk e
  have vl:=q7e l
  rw [e] at vl
  exact ⟨.ref _,_,I.lnew (t':=tk) vl (by rw [List.length_map]; exact hs2),rfl,q _ I.fresh⟩
 cases h1 : (decide (z.length < y.length) || decide (Builtin.Str.strKind z < Builtin.Str.strKind y))
 ·cases hf : (Builtin.Str.occurrences z y 0 z.length (z.length + 1)).isEmpty
  ·have e : Txt.split z y = Builtin.Str.partsBetween z (Builtin.Str.occurrences z y 0 z.length (z.length + 1)) y.length:=(if_neg (ne_true_of_eq_false h1)).trans (if_neg (ne_true_of_eq_false hf))
   refine call_meets F.slot_str_split (typeIs_str _ _ _) F.entry_str_split (F.args_str_split_2 _ _) (meets_str_split_sep z y t u h1 hy hf hx (by rw [<- e]; exact hs2)) ?_
   show EP X pins σ Q _ _
   rw [strsFrom_eq]
   exact fin _ _ ((numbered_texts _ _).trans e.symm)
  ·have e : Txt.split z y = [z]:=(if_neg (ne_true_of_eq_false h1)).trans (if_pos hf)
   refine call_meets F.slot_str_split (typeIs_str _ _ _) F.entry_str_split (F.args_str_split_2 _ _) (meets_str_split_not_found z y t u h1 hy hf) ?_
   exact fin [(z,t)] s.toks (by rw [e]; rfl)
 ·have e : Txt.split z y = [z]:=if_pos h1
  refine call_meets F.slot_str_split (typeIs_str _ _ _) F.entry_str_split (F.args_str_split_2 _ _) (meets_str_split_cannot_occur z y t u h1) ?_
  exact fin [(z,t)] s.toks (by rw [e]; rfl)
def j0k : GV
 | .str z,[.str y],R => ((y.length == 0) = false /\ z.length + 2 <= sizeLine) /\ R (.lst ((Txt.split z y).map D.str))
 | _,_,_ => False
theorem k3h : MvX .n [true] X "str" "str.split" j0k:=by
 refine ⟨_,k5b,fun O H H1 x d vs es R Q M e rx rs hg k => ?_⟩
 cases d with
 | str z =>
  have hl:=rs.length.2
  match es,hl,rs,hg with
  | [f],_,rs,hg =>
   obtain ⟨v,rfl,rv⟩:=rs.b1
   cases f with
   | str y =>
    cases rx.str; cases rv.str
    exact ⟨z,y,rfl,rfl,hg.1.1,hg.1.2,fun p hp => k _ _ _ (q1w hp _) ⟨p,rfl,hp,q8t hp (z7e _)⟩ hg.2⟩
   | _ => exact hg.elim
 | _ => exact hg.elim
def q8w : List D -> Option (List Str)
 | [] => some []
 | .str x :: r => (q8w r).map (x :: ·)
 | _ => none
theorem z1k {K : PySem.W.Frag} {O : Addr -> Prop} {H : Hp} : ∀ {xs : List V} {ds : List D} {ts : List Str},q2i K O H xs ds -> q8w ds = some ts -> xs = ts.map V.str
 | _,_,_,.nil,h => by cases h; rfl
 | _,_,_,.cons q r,h => by
  rename_i x xs d ds
  cases d with
  | str y =>
   cases hs : q8w ds with
   | none => simp [q8w,hs] at h
   | some us =>
    simp only [q8w,hs,Option.map_some,Option.some.injEq] at h
    subst h
    cases q
    rw [z1k r hs]; rfl
  | _ => simp [q8w] at h
theorem z1q : ∀ {ts : List Str} {us : List Value},q3w (ts.map V.str) us -> StrsAre us ts
 | [],_,.nil => .nil
 | x :: r,_,.cons q t => by obtain ⟨u,rfl⟩:=q; exact .cons x u (z1q t)
theorem j0x : MtR X "str.join" (fun x vs H Q => ∃ z p ts,x = .str z /\ vs = [.ref p] /\ SqL X.K H p (ts.map V.str) /\ (ts.map (·.length)).sum + ts.length * z.length <= 16777216 /\ Q (.str (Txt.join z ts)) H):=by
 intro pins s σ H x xs v us Q I rx rv h
 obtain ⟨z,p,ts,rfl,rfl,hp,hz,q⟩:=h
 obtain ⟨t,rfl⟩:=rx
 obtain ⟨u,rfl,ru⟩:=vals1 rv
 cases ru
 obtain ⟨its,r,pl,_⟩:=I.list hp
 exact join_list pl.isList (by simpa using z1q r) hz fun t' k => ⟨.str _,H,I.tok _,⟨_,rfl⟩,q⟩
def k4x : GV
 | .str z,[.lst ds],R => q3n (q8w ds) fun ts => (ts.map (·.length)).sum + ts.length * z.length <= 16777216 /\ R (.str (Txt.join z ts))
 | _,_,_ => False
theorem q9l : MvX .v [true] X "str" "str.join" k4x:=by
 refine ⟨_,j0x,fun O H H1 x d vs es R Q M e rx rs hg k => ?_⟩
 cases d with
 | str z =>
  have hl:=rs.length.2
  match es,hl,rs,hg with
  | [f],_,rs,hg =>
   obtain ⟨v,rfl,rv⟩:=rs.b1
   cases f with
   | lst ds =>
    cases rx.str
    obtain ⟨a,xs,rfl,h1,h2⟩:=q3t rv
    cases hs : q8w ds with
    | none => simp only [k4x,hs,q3n] at hg
    | some ts =>
     simp only [k4x,hs,q3n] at hg
     have ex:=z1k h2 hs
     subst ex
     exact ⟨z,a,ts,rfl,rfl,h1,hg.1,k _ _ _ (q2h.refl _) (.str _) hg.2⟩
   | _ => exact hg.elim
 | _ => exact hg.elim
def k0j : List D -> Option (List Bool)
 | [] => some []
 | .bl x :: r => (k0j r).map (x :: ·)
 | _ => none
theorem k8q (l : List Bool) : k0j (l.map D.bl) = some l:=by
 induction l with
 | nil => rfl
 | cons x r ih => simp [k0j,ih]
theorem z4e {K : PySem.W.Frag} {O : Addr -> Prop} {H : Hp} : ∀ {xs : List V} {ds : List D} {ts : List Bool},q2i K O H xs ds -> k0j ds = some ts -> xs = ts.map V.bl
 | _,_,_,.nil,h => by cases h; rfl
 | _,_,_,.cons q r,h => by
  rename_i x xs d ds
  cases d with
  | bl y =>
   cases hs : k0j ds with
   | none => simp [k0j,hs] at h
   | some us =>
    simp only [k0j,hs,Option.map_some,Option.some.injEq] at h
    subst h
    cases q
    rw [z4e r hs]; rfl
  | _ => simp [k0j] at h
theorem q9s : ∀ {ts : List Bool} {us : List Value},q3w (ts.map V.bl) us -> PyProof.Rows.LSm.BoolsAre us ts
 | [],_,h => by cases h; exact .nil
 | x :: r,_,h => by
  cases h with
  | cons q t => cases q; exact .cons x (q9s t)
theorem k0a {s : Shared} {h' : Heap} {o : Obj} (hk : ∀ b x,b ∉ [s.heap.objs.size] -> (s.heap.push o).get? b = some x -> h'.get? b = some x) : ∀ b x,s.heap.get? b = some x -> h'.get? b = some x :=
 fun b x e => hk b x (fun hm => by rw [List.mem_singleton.mp hm] at e; exact Nat.lt_irrefl _ (Heap.lt_size e)) (Heap.get?_push_of_some _ e)
def Its (x : Str) : It:=⟨fun i _ => i < x.cps.size,fun i H v H' => H' = H /\ ∃ c,x.cps[i]? = some c /\ v = .str ⟨#[c]⟩,fun i _ => x.cps.size <= i⟩
theorem z7n {P : Program} {w : World} {K : PySem.W.Frag} {tg : Expr} {it : Addr} {x : Str} {ty : String} {t : Tok} (hty : ["enumerate","zip","dict_itemiterator","dict_reverseitemiterator","odict_iterator","itertools.zip_longest","itertools.pairwise"].contains ty = false)
  (nxt : ∀ (A : Around) (s : Shared) (E : Value -> Shared -> Prop) (i c : Nat) (Q : Option Value -> Shared -> Prop),s.heap.IsStrIter it ty x t i -> x.cps[i]? = some c -> (∀ h',h'.IsStrIter it ty x t (i + 1) -> Heap.SameBut it s.heap h' -> Q (some (.str ⟨#[c]⟩ s.toks)) { s with heap:=h',toks:=s.toks + 1 }) -> wpAny (model P w) A (pyNext (.ref it)) Q E s)
  (fin : ∀ (A : Around) (s : Shared) (E : Value -> Shared -> Prop) (i : Nat) (Q : Option Value -> Shared -> Prop),A.handled = none -> s.heap.IsStrIter it ty x t i -> x.cps[i]? = none -> (∀ h',Heap.ExtBut it s.heap h' -> Q none { s with heap:=h' }) -> wpAny (model P w) A (pyNext (.ref it)) Q E s)
  (slf : ∀ (A : Around) (s : Shared) (E : Value -> Shared -> Prop) (i : Nat) (Q : Value -> Shared -> Prop),s.heap.IsStrIter it ty x t i -> Q (.ref it) s -> wpAny (model P w) A (pyIter (.ref it)) Q E s) :
  k4u P w K tg (Its x) [it] it (fun i h => h.IsStrIter it ty x t i) where
 mem:=by simp
 obj:=fun i h st b hb => by
  have e : b = it:=by simpa using hb
  subst e
  obtain ⟨o,e,c,d⟩:=st
  exact ⟨o,e,fun v z => by rw [d] at z; cases z⟩
 keep:=fun i h h' st k => let ⟨o,e,r⟩:=st; ⟨o,k it (by simp) o e,r⟩
 item:=by
  intro X hP hw hK hc i pins s σ H E I hf st hg
  subst hP hw hK
  obtain ⟨f0,f1,f2,f3,f4,f5⟩:=hf it (by simp)
  have hg' : i < x.cps.size:=hg
  have hx : x.cps[i]? = some x.cps[i]:=by simp [hg']
  refine nxt X.A s _ i x.cps[i] _ st hx fun h' st' sb => ?_
  have I1 : Inv X pins σ H { s with heap:=h',toks:=s.toks + 1 }:=I.turned (fun b o hb e => (sb.2 b hb).trans e) f0 f1 f3 f4 f5
  obtain ⟨o,e,c',d⟩:=id st'
  exact ⟨_,rfl,k5v (s:={ s with heap:=h',toks:=s.toks + 1 }) e c' d hty ⟨.str ⟨#[x.cps[i]]⟩,H,I1,⟨_,rfl⟩,⟨rfl,_,hx,rfl⟩,st',fun b hb => (hf b hb).1⟩⟩
 done:=by
  intro X hP hw hK hc i pins s σ H E I hf st hg
  subst hP hw hK
  obtain ⟨f0,f1,f2,f3,f4,f5⟩:=hf it (by simp)
  have hg' : x.cps.size <= i:=hg
  exact fin X.A s _ i _ (I.ok.hd hc) st (by simp [hg']) fun h' eb => ⟨rfl,I.turned (t':=s.toks) (fun b o hb e => eb b o hb e) f0 f1 f3 f4 f5⟩
 self:=fun A i s Q E st h => slf A s E i Q st h
theorem k8t {tg : Expr} : z2s X tg (fun x H R => ∃ z,x = .str z /\ R (Its z) H):=by
 intro pins s1 σ H1 x v R I1 r1 q1
 obtain ⟨z,rfl,q⟩:=q1
 obtain ⟨t,rfl⟩:=r1
 have fp : ∀ b ∈ [s1.heap.objs.size],z3p X pins H1 b:=fun b hb => by
  have e : b = s1.heap.objs.size:=by simpa using hb
  subst e
  exact I1.fpOk (Nat.le_refl _) (I1.hok.fresh (Nat.le_refl _))
 cases ha : z.cps.all (· < 128) with
 | true =>
  refine wpAny_pyIter_ascii ha ⟨s1.heap.objs.size,[s1.heap.objs.size],_,_,H1,rfl,I1.kept (t':=s1.toks) fun b o e => Heap.get?_push_of_some _ e,z7n (ty:="str_ascii_iterator") (t:=t) (by decide) (fun A s E i c Q a b k => wpAny_pyNext_ascii_item a b k) (fun A s E i Q a b c k => wpAny_pyNext_ascii_end a b c k) (fun A s E i Q a k => wpAny_pyIter_striter_ascii a k),⟨_,Heap.get?_push_size _ rfl,rfl,rfl⟩,fp,q⟩
 | false =>
  refine wpAny_pyIter_wide ha ⟨s1.heap.objs.size,[s1.heap.objs.size],_,_,H1,rfl,I1.kept (t':=s1.toks) fun b o e => Heap.get?_push_of_some _ e,z7n (ty:="str_iterator") (t:=t) (by decide) (fun A s E i c Q a b k => wpAny_pyNext_wide_item a b k) (fun A s E i Q a b c k => wpAny_pyNext_wide_end a b c k) (fun A s E i Q a k => wpAny_pyIter_striter_wide a k),⟨_,Heap.get?_push_size _ rfl,rfl,rfl⟩,fp,q⟩
def q5q (z : Str) : List D:=z.cps.toList.map fun c => D.str ⟨#[c]⟩
theorem k5m {K : PySem.W.Frag} {O : Addr -> Prop} {z : Str} {H : Hp} {i : Nat} : (∀ d,(q5q z)[i]? = some d -> (Its z).go i H /\ ∀ x H',(Its z).yld i H x H' -> q2h H H' /\ Rep K O H' x d) /\ ((q5q z).length <= i -> (Its z).stop i H):=by
 refine ⟨fun d hd => ?_,fun hl => ?_⟩
 ·unfold q5q at hd
  rw [List.getElem?_map] at hd
  by_cases hi : i < z.cps.size
  ·refine ⟨hi,fun x H' y => ?_⟩
   obtain ⟨rfl,c,hc,rfl⟩:=y
   have e : z.cps.toList[i]? = some c:=by simpa using hc
   rw [e] at hd
   cases hd
   exact ⟨q2h.refl _,.str _⟩
  ·have e : z.cps.toList[i]? = none:=List.getElem?_eq_none (by simpa using hi)
   rw [e] at hd; cases hd
 ·unfold q5q at hl
  show z.cps.size <= i
  simpa using hl
def j1x : GI
 | .lst ds,R => R ds
 | .tup ds,R => R ds
 | .str z,R => R (q5q z)
 | _,_ => False
theorem q7n (hc : X.calm = true) {tg l : Expr} {de : DE} (h : PX .b X l de) : w0e X tg l (w0y j1x de):=by
 obtain ⟨te,p,q⟩:=h
 refine ⟨_,z6h ((q9y.or z2y).or k8t) p,fun W H0 σ H ρ O R Rh S h k => ?_⟩
 refine q W H0 σ H ρ O _ _ S h fun v d H1 e1 r1 h1 => ?_
 have r1' : q4b X.K O H1 v d:=r1
 cases d with
 | lst ds =>
  obtain ⟨a,xs,rfl,g1,g2⟩:=q3t r1'
  exact .inl (.inl ⟨a,rfl,⟨xs,g1⟩,k _ H1 ds (fun H2 => SqL X.K H2 a xs /\ q2i X.K O H2 xs ds) e1 ⟨g1,g2⟩ (fun H2 H3 e z => ⟨e.seq z.1,z.2.same e⟩) (fun H2 i z => z5x z.1 z.2) h1⟩)
 | tup ds =>
  obtain ⟨a,xs,rfl,g1,g2⟩:=q3y r1'
  refine .inl (.inr ⟨a,rfl,⟨xs,g1⟩,k _ H1 ds (fun H2 => SqT X.K H2 a xs /\ q2i X.K O H2 xs ds) e1 ⟨g1,g2⟩ (fun H2 H3 e z => ⟨e.sqT z.1,z.2.same e⟩) (fun H2 i z => ?_) h1⟩)
  refine ⟨fun d hd => ?_,fun hl => ⟨xs,z.1,by rw [z.2.length]; exact hl⟩⟩
  obtain ⟨x,w1,w2⟩:=z.2.getD hd
  refine ⟨⟨xs,x,z.1,w1⟩,fun y H' u => ?_⟩
  obtain ⟨rfl,u⟩:=u
  have:=u xs z.1
  rw [w1] at this
  cases this
  exact ⟨q2h.refl _,w2⟩
 | str z =>
  cases q4b.str r1'
  exact .inr ⟨z,rfl,k _ H1 (q5q z) (fun _ => True) e1 trivial (fun _ _ _ _ => trivial) (fun H2 i _ => k5m) h1⟩
 | _ => exact False.elim h1
def w4c : D -> (List D -> Prop) -> Prop
 | .lst zs,k => k zs
 | _,_ => False
def w2k (i : Nat) (de : DE) : DX:=fun ρ R => z9k ρ[i]? fun ds => de ρ fun d => w4c d fun zs => ds.length + zs.length <= sizeLine /\ R .non (ρ.set i (some (.own (.lst (ds ++ zs)))))
variable {name x : Str} {apos cpos pos' : Pos} {id : String}
theorem z7q (i : Nat) (slot : Slot "list" "extend" "list.extend") (hty : typeOf (.builtin "list.extend") = pure (.type "method_descriptor")) (ha : PX .n X e de)
  (hN : X.N[i]? = some x:=by rfl) (hv : Vis X.env.scope x:=by first | exact Or.inl rfl | exact Or.inr (Or.inl rfl) | exact Or.inr (Or.inr rfl)) (hd : (x == ("__debug__" : Str)) = false:=by decide)
  (hcd : (x == ("__classdict__" : Str)) = false:=by decide) (hbase : attributeBase (.Name x pos') "extend" X.env (eval (.Name x pos') X.env) = eval (.Name x pos') X.env:=by rfl)
  (hfew : ((backTo cpos (starEach ([e]) X.env)).all (fun x => !x.1) && (backToKw cpos (keywordEach [] X.env)).all (fun x => x.1.isSome)
   && decide (([e]).length + ([] : List Keyword).length + (if ([] : List Keyword).isEmpty then 0 else 1) < 30)) = true:=by rfl)
  (hline : (apos.endLine == cpos.line) = true:=by rfl) (hs : starEach ([e]) X.env = (false,eval e X.env) :: starEach [] X.env:=by rfl) (hplain : (backTo cpos (starEach [] X.env)).any (·.1) = false:=by rfl) :
  PEX X (.Call (.Attribute (.Name x pos') "extend" apos) [e] [] cpos) (w2k i de):=by
 obtain ⟨t,pt,qt⟩:=ha
 refine ⟨_,j3v PySem.F.plainAttrs_list slot hty (k4n (X:=X)) (q7a hN hv hd hcd) (q3e pt q6r hs) hbase hfew hline hs hplain,fun W H0 σ H ρ O R Q S h k => ?_⟩
 unfold w2k z9k at h
 split at h
 ·rename_i ds hi
  obtain ⟨a,h1,h2,h3,h4,h5⟩:=S.own i _ hi
  cases h5 with
  | lst q1 q2 =>
   rename_i xs
   refine ⟨_,h1,.inl ⟨rfl,_,SqL.of q1⟩,?_⟩
   refine qt W H0 σ H ρ O _ _ S h fun v d H1 e1 r1 hd => ?_
   obtain ⟨b,rfl,hb,ob⟩:=r1
   cases ob with
   | lst q3 q4 =>
    rename_i zs es
    have q1':=e1 _ _ q1
    have S1:=S.grow e1
    refine ⟨a,b,xs,zs,rfl,rfl,q1',q3,by rw [q2.length,q4.length]; exact hd.1,?_⟩
    have kp : Kept O H1 (upd H1 a (.lst (xs ++ zs))):=fun c u q n => by rw [q1y (show c ≠ a from fun z => n (z ▸ h2))]; exact q
    have nw : ∀ c,O c -> O c \/ H1 c = none:=fun c z => .inl z
    have q4' : q2i X.K O H1 zs es:=q4.av fun c z => .inl (.inl z)
    obtain ⟨S2,f2⟩:=S1.write (o:=.lst (xs ++ zs)) (d':=.lst (ds ++ es)) hi h1 trivial (.lst q2f (((q2.same e1).app q4').move S1.mts kp nw))
    exact k _ _ _ _ O S2 ((Frm.same e1).trans f2) .non hd.2
   | _ => exact False.elim hd
 ·exact h.elim
end
end DL
namespace DL
open PySem PySem.Spec PyProof.Rows L2
theorem k4o {α : Type} {xs : List α} {i : Int} (h0 : 0 <= i) (h1 : i < xs.length) : ∃ x,atI xs i = some x /\ xs[i.toNat]? = some x:=by
 obtain ⟨k,rfl⟩:=Int.eq_ofNat_of_zero_le h0
 have hk : k < xs.length:=by omega
 exact ⟨xs[k],q3j (by simp [hk]),by simp [hk]⟩
theorem q4q {α β : Type} (f : α -> β) (xs : List α) (i : Int) : atI (xs.map f) i = (atI xs i).map f:=by
 unfold atI
 rw [List.length_map]
 cases ixN xs.length i with
 | none => rfl
 | some j => simp
end DL
namespace DL
open PySem PySem.Spec PyProof.Rows L2
section
variable {m : Md} {X : Cx} {a b c e : Expr} {es : List Expr} {da db dc de : DE} {pos : Pos}
theorem z0r {pins : List (Addr × Obj)} {σ : L2.St} {H : Hp} {s : Shared} {h' : Heap} {t' : Nat} {fp : List Addr} (I : Inv X pins σ H s) (k : ∀ b o,b ∉ fp -> s.heap.get? b = some o -> h'.get? b = some o) (hf : ∀ b ∈ fp,z3p X pins H b) : Inv X pins σ H { s with heap:=h',toks:=t' }:=by
 have nit : ∀ b u,H b = some u -> b ∉ fp:=fun b u e z => by have:=(hf b z).1; rw [this] at e; cases e
 refine I.step (g':=s.gens) (d':=s.drawn) (ch:=fp) (fun b hb => ?_) (fun b o _ _ hc e _ => k b o hc e) (fun b o _ _ hc e _ => ⟨o.slots,k b o hc e⟩) (fun _ _ _ _ n => n)
  (fun b o hc e => ⟨o,k b o hc e⟩) (fun _ _ e => e) (fun _ _ _ e => e) (fun b ps e => ⟨#[],by rw [e]; simp⟩) (fun m hm => ?_) (fun b u e => ?_) I.bare
 ·obtain ⟨f0,f1,f2,f3,f4,f5⟩:=hf b hb
  exact ⟨f3,f1,f4,f5⟩
 ·obtain ⟨o,es,ep,ho,r⟩:=hm
  exact ⟨o,es,ep,k _ o (fun z => (hf _ z).2.1 rfl) ho,r⟩
 ·refine (I.hok b u e).stay (fun c v hc q => k c v ?_ q) (fun _ q => q) fun _ _ q => q
  rcases hc with z | z
  ·rw [z]; exact nit b u e
  ·exact nit c _ z
def Ite (K : PySem.W.Frag) (a : Addr) : It :=
 ⟨fun i H => ∃ xs x,SqL K H a xs /\ xs[i]? = some x,fun i H v H' => ∃ x p,(∀ xs,SqL K H a xs -> xs[i]? = some x) /\ H p = none /\ v = .ref p /\ H' = upd H p (.tup [.int i,x]),fun i H => ∃ xs,SqL K H a xs /\ xs.length <= i⟩
theorem k2l {P : Program} {w : World} {K : PySem.W.Frag} {ts : List Expr} {x1} {tp : Pos} (a e it : Addr) (hne : e ≠ it) :
  k4u P w K (.Tuple ts x1 tp) (Ite K a) [e,it] e (fun i h => (∃ old,IsEnum h e it i old) /\ h.IsListIter it a i) where
 mem:=by simp
 obj:=fun i h st b hb => by
  obtain ⟨⟨old,s1⟩,o,e2,c,d⟩:=st
  rcases List.mem_cons.mp hb with rfl | hb
  ·exact ⟨_,s1,fun v z => by cases z⟩
  ·obtain rfl:=List.mem_singleton.mp hb
   exact ⟨o,e2,fun v z => by rw [d] at z; cases z⟩
 keep:=fun i h h' st k => ⟨let ⟨old,s1⟩:=st.1; ⟨old,k e (by simp) _ s1⟩,st.2.at fun o q => k it (by simp) o q⟩
 item:=by
  intro X hP hw hK hc i pins s σ H E I hf st hg
  subst hP hw hK
  obtain ⟨xs,x,hq,hx⟩:=hg
  obtain ⟨its,rv,p,hz⟩:=I.list hq
  obtain ⟨u,hu,ru⟩:=rv.get hx
  obtain ⟨f0,f1,f2,f3,f4,f5⟩:=hf it (by simp)
  obtain ⟨g0,g1,g2,g3,g4,g5⟩:=hf e (by simp)
  obtain ⟨⟨old,s1⟩,s2⟩:=st
  have lte : e < s.heap.objs.size:=Heap.lt_size s1
  have lti : it < s.heap.objs.size:=by obtain ⟨o,q,_⟩:=s2; exact Heap.lt_size q
  refine wpAny_pyNext_enum_item s1 s2 p.isList (x:=u) (by simpa using hu) hne fun h' so li ht hsz hk => ?_
  refine ⟨_,rfl,wpAny_letOwnedTupleGo_enum so fun h2 se sb => ?_⟩
  have sb : Heap.SameBut e h' h2:=sb
  have ht2 : h2.get? s.heap.objs.size = some { cls:=.type "tuple",data:=.seq #[.int i s.toks,u] }:=(sb.2 _ (Nat.ne_of_gt lte)).trans ht
  have kp : ∀ b o,b ≠ e -> b ≠ it -> s.heap.get? b = some o -> h2.get? b = some o:=fun b o n1 n2 q => (sb.2 b n1).trans (hk b o n1 n2 q)
  have hp : H s.heap.objs.size = none:=I.fresh
  have I1 : Inv X pins σ (upd H s.heap.objs.size (.tup [.int i,x])) { s with heap:=h2,toks:=s.toks + 1 }:=by
   have IA : Inv X pins σ (upd H s.heap.objs.size (.tup [.int i,x])) { s with heap:=s.heap.push { cls:=.type "tuple",data:=.seq #[.int i s.toks,u] },toks:=s.toks } :=
    I.laid (fun b o q => Heap.get?_push_of_some _ q) (Nat.le_refl _) ⟨by show 2 <= sizeLine; decide,[.int i s.toks,u],.cons ⟨_,rfl⟩ (.cons ru .nil),⟨_,Heap.get?_push_size _ rfl,rfl,_,rfl⟩⟩
   refine z0r (s:={ s with heap:=s.heap.push { cls:=.type "tuple",data:=.seq #[.int i s.toks,u] },toks:=s.toks }) (fp:=[e,it]) IA (fun b o hb q => ?_) (fun b hb => ?_)
   ·have n1 : b ≠ e:=fun z => hb (by simp [z])
    have n2 : b ≠ it:=fun z => hb (by simp [z])
    rcases Heap.get?_push_cases q with ⟨rfl,rfl⟩ | q
    ·exact ht2
    ·exact kp b o n1 n2 q
   ·have hb' : b = e \/ b = it:=by simpa using hb
    obtain ⟨q0,q1,q2,q3,q4,q5⟩:=hf b hb
    refine ⟨?_,q1,q2,q3,q4,q5⟩
    rcases hb' with rfl | rfl
    ·rw [q1y (Nat.ne_of_lt lte)]; exact q0
    ·rw [q1y (Nat.ne_of_lt lti)]; exact q0
  refine ⟨.ref s.heap.objs.size,_,I1,rfl,⟨x,_,fun ys hy => by rw [I.list_inj hy hq]; exact hx,hp,rfl,rfl⟩,⟨⟨u,by simpa using se⟩,?_⟩,fun b hb => ?_⟩
  ·obtain ⟨o,q,r⟩:=li
   exact ⟨o,(sb.2 it (Ne.symm hne)).trans q,r⟩
  ·have hb' : b = e \/ b = it:=by simpa using hb
   rcases hb' with rfl | rfl
   ·rw [q1y (Nat.ne_of_lt lte)]; exact g0
   ·rw [q1y (Nat.ne_of_lt lti)]; exact f0
 done:=by
  intro X hP hw hK hc i pins s σ H E I hf st hg
  subst hP hw hK
  obtain ⟨xs,hq,hx⟩:=hg
  obtain ⟨its,rv,p,hz⟩:=I.list hq
  obtain ⟨f0,f1,f2,f3,f4,f5⟩:=hf it (by simp)
  obtain ⟨⟨old,s1⟩,s2⟩:=st
  have hl:=rv.length
  exact wpAny_pyNext_enum_end (I.ok.hd hc) s1 s2 p.isList (by simp; omega) fun h' eb => ⟨rfl,I.turned (t':=s.toks) (fun b o hb q => eb b o hb q) f0 f1 f3 f4 f5⟩
 self:=fun A i s Q E st h => let ⟨old,s1⟩:=st.1; wpAny_pyIter_enum s1 h
theorem j1m {K : PySem.W.Frag} {a : Addr} {ds : List D} : JS (Ite K a) K (fun O H => Rep K O H (.ref a) (.lst ds)) (ds.mapIdx fun i d => D.tup [.int (i : Int),d]):=by
 intro O H i M r
 obtain ⟨xs,h1,h2⟩:=SqL.of_rep r
 refine ⟨fun d hd => ?_,fun hl => ⟨xs,h1,by rw [h2.length]; simpa using hl⟩⟩
 rw [List.getElem?_mapIdx] at hd
 cases hi : ds[i]? with
 | none => rw [hi] at hd; cases hd
 | some d0 =>
  rw [hi] at hd
  cases hd
  obtain ⟨x,e1,e2⟩:=h2.getD hi
  refine ⟨⟨xs,x,h1,e1⟩,fun y H' z => ?_⟩
  obtain ⟨x',p,g1,g3,rfl,rfl⟩:=z
  have:=g1 xs h1
  rw [e1] at this
  cases this
  exact ⟨q1w g3 _,.tup (SqP.of q2f) (.cons (.int _) (.cons (e2.same (q1w g3 _)) .nil))⟩
def j9w : D -> (List D -> Prop) -> Prop
 | .lst ds,R => R (ds.mapIdx fun i d => D.tup [.int (i : Int),d])
 | _,_ => False
def j6x (de : DE) : DA:=fun ρ R => de ρ fun d => j9w d R
theorem z7b {ts : List Expr} {x1} {tp p : Pos} (hg : Gl X "enumerate") (hm : X.mg "enumerate" = none) (ha : PX .v X a de) (hs : starEach [a] X.env = [(false,eval a X.env)]:=by rfl) : PIX X (.Tuple ts x1 tp) (.Call (.Name "enumerate" p) [a] [] pos) (j6x de):=by
 obtain ⟨ta,pa,qa⟩:=ha
 have hpi : PI X (.Tuple ts x1 tp) (.Call (.Name "enumerate" p) [a] [] pos) (fun σ H R => z6r ta j5d σ H fun vs H1 => ∃ q,vs = [.ref q] /\ (∃ xs,SqL X.K H1 q xs) /\ R (Ite X.K q) H1):=by
  intro pins s σ H R I h
  refine Call_ (q8c I hg hm boot_enumerate (PyProof.Rows.callWith_type1 (thn (q3e pa q6r hs pos pins s σ H _ I h) fun us s1 ⟨vs,H1,I1,r1,q1⟩ => ?_) hs rfl))
  obtain ⟨q,rfl,⟨xs,hq⟩,hR⟩:=q1
  obtain ⟨u,rfl,ru⟩:=vals1 r1
  cases ru
  obtain ⟨its,rv,pl,_⟩:=I1.list hq
  refine call_enumerate_list pl.isList fun h' he hit hsz hk => ?_
  refine wpAny_pyIter_enum he ?_
  have I2 : Inv X pins σ H1 { s1 with heap:=h' }:=I1.kept (t':=s1.toks) hk
  have fr : ∀ b,s1.heap.objs.size <= b -> z3p X pins H1 b:=fun b hb => I1.fpOk hb (I1.hok.fresh hb)
  refine ⟨s1.heap.objs.size + 1,[s1.heap.objs.size + 1,s1.heap.objs.size],_,_,H1,rfl,I2,k2l q _ _ (Nat.succ_ne_self _),⟨⟨_,he⟩,hit⟩,fun b hb => ?_,hR⟩
  have hb' : b = s1.heap.objs.size + 1 \/ b = s1.heap.objs.size:=by simpa using hb
  rcases hb' with rfl | rfl
  ·exact fr _ (Nat.le_succ _)
  ·exact fr _ (Nat.le_refl _)
 refine ⟨_,hpi,fun W H0 σ H ρ O R Rh S h k => ?_⟩
 refine qa W H0 σ H ρ O _ _ S h fun v d H1 e1 r1 h1 => ?_
 cases d with
 | lst ds =>
  obtain ⟨q,xs,rfl,g1,g2⟩:=q3t (.inl r1)
  exact ⟨q,rfl,⟨xs,g1⟩,k _ H1 _ _ e1 r1 (z3n _ _) j1m h1⟩
 | _ => exact False.elim h1
end
end DL
namespace DL
open PySem PySem.Spec PyProof.Rows L2
section
variable {m : Md} {X : Cx} {a b c e : Expr} {es : List Expr} {da db dc de : DE} {pos : Pos}
theorem k1c : fillsNumberSlot (.type "tuple") "mul" = pure false :=
 PySem.fillsNumberSlot_seq (id:="tuple.__mul__") (r:=some (.builtin "tuple.__rmul__")) F.slot_tuple_mul.lookup (by decide +kernel) F.slot_tuple_rmul.lookup (by decide +kernel)
theorem k6h : seqRepeat? (.type "tuple") = pure (some (.builtin "tuple.__mul__")):=by
 unfold seqRepeat?
 rw [PySem.seqSlot_of (T:="tuple") (name:="__mul__") (id:="tuple.__mul__") F.slot_tuple_mul.lookup (by decide +kernel),PySem.seqSlot_of (T:="tuple") (name:="__rmul__") (id:="tuple.__rmul__") F.slot_tuple_rmul.lookup (by decide +kernel)]
 rfl
theorem z3h (k : Int) (tk : Tok) (q : Addr) (vs : Array Value) (j : Nat) (dd : Option Addr) (sl : Array (Option Value)) :
  Meets (Builtin.«int.__rmul__» ⟨[.int k tk,.ref q],[]⟩) (fun _ R s => s.heap.get? q = some { cls:=.type "tuple",dict:=dd,data:=.seq vs j,slots:=sl } /\ R (.ok (.ret Value.notImplemented)) s) :=
 .of_wp fun prog w A R s h => by
  obtain ⟨hp,g,d,tk,os⟩:=s
  obtain ⟨hl,h⟩:=h
  wp_walk
  exact ⟨_,rfl,h⟩
theorem k0d (q : Addr) (vs : Array Value) (j : Nat) (dd : Option Addr) (sl : Array (Option Value)) (k : Int) (tk : Tok) (h1 : 2 <= k) (h2 : k < 2 ^ 63) (hne : vs.isEmpty = false) (hz : vs.size * k.toNat <= sizeLine) :
  Meets (Builtin.«tuple.__mul__» ⟨[.ref q,.int k tk],[]⟩) (fun _ R s => s.heap.get? q = some { cls:=.type "tuple",dict:=dd,data:=.seq vs j,slots:=sl } ∧
   R (.ok (.ret (.ref s.heap.objs.size))) { s with heap:=s.heap.push { cls:=.type "tuple",data:=.seq ((List.replicate k.toNat vs).foldl (· ++ ·) #[]) } }) :=
 .of_wp fun prog w A R s h => by
  obtain ⟨hp,g,d,tk2,os⟩:=s
  obtain ⟨hl,h⟩:=h
  have c1 : ¬ (decide (k < -2 ^ 63) || decide (k ≥ 2 ^ 63)) = true:=by simp; omega
  have c2 : ¬ (vs.isEmpty || k == 1) = true:=by rw [hne]; simp; omega
  have c3 : ¬ (decide (k <= 0) || vs.isEmpty) = true:=by rw [hne]; simp; omega
  have hz' : ((vs.size : Int) * k) <= 2 ^ 24:=by
   have e : ((vs.size * k.toNat : Nat) : Int) = (vs.size : Int) * k:=by rw [Int.natCast_mul]; congr 1; omega
   have : ((vs.size * k.toNat : Nat) : Int) <= ((sizeLine : Nat) : Int):=Int.ofNat_le.mpr hz
   rw [e] at this
   exact this
  have c4 : ¬ (vs.size : Int) * k > (2 ^ 63 - 1) / 8:=by omega
  wp_walk
  rw [if_neg c1]
  wp_walk
  rw [if_neg c2]
  dsimp only
  rw [if_neg c3,if_neg c4]
  have c5 : ¬ Builtin.Tuple.tupleTooMany ((vs.size : Int) * k) = true:=by
   unfold Builtin.Tuple.tupleTooMany
   simp only [decide_eq_true_eq]
   have : ((sizeLine : Nat) : Int) = 2 ^ 24:=rfl
   omega
  rw [if_neg c5]
  have hsz : ((List.replicate k.toNat vs).foldl (· ++ ·) #[] : Array Value).size <= sizeLine:=by
   have:=AutoListH.size_joined vs k.toNat #[]
   simp only [Array.size_empty,Nat.zero_add] at this
   rw [this,Nat.mul_comm]
   exact hz
  unfold Builtin.Tuple.tupleExact
  refine wpAny_bind (wpAny_newObj_type ?_ hsz)
  exact wpAny_pure ⟨_,rfl,h⟩
def w3a (K : PySem.W.Frag) : R2:=fun x y H Q => ∃ q n xs,x = .ref q /\ y = .int n /\ SqT K H q xs /\ 2 <= n /\ n < 2 ^ 63 /\ xs ≠ [] /\ xs.length * n.toNat <= sizeLine /\ ∀ p,H p = none -> Q (.ref p) (upd H p (.tup (List.replicate n.toNat xs).flatten))
theorem j1o : OpR X (binaryOp .Mult) (w3a X.K):=by
 intro pins s σ H x y v u Q I rx ry h
 obtain ⟨q,n,xs,rfl,rfl,hq,h1,h2,hx,hz,k⟩:=h
 cases rx
 obtain ⟨tk,rfl⟩:=ry
 obtain ⟨its,r,p1,_⟩:=I.tuple hq
 obtain ⟨⟨cls,dd,data,sl⟩,ho,hc,j,hd⟩:=id p1
 simp only at hc hd
 subst hc hd
 have hl:=r.length
 have hne : its.toArray.isEmpty = false:=by
  cases its with
  | nil => exact absurd (List.length_eq_zero_iff.mp hl) hx
  | cons _ _ => simp
 have hz2 : its.toArray.size * n.toNat <= sizeLine:=by rw [List.size_toArray,<- hl]; exact hz
 refine wpAny_binaryOp_repeat_ref (T:="tuple") (U:="int") (by decide) ⟨_,ho,rfl⟩ (fun s' => typeIs_int s' n tk) k1c F.fills_int_mul F.slot_int_rmul k6h F.slot_int_index.lookup
  (call_meets F.slot_int_rmul (typeIs_int s n tk) F.entry_int_rmul (F.args_int_rmul_2 _ _) (z3h n tk q its.toArray j dd sl)
   ⟨ho,rfl,⟨_,ho,rfl⟩,call_meets F.slot_tuple_mul ⟨_,ho,rfl⟩ F.entry_tuple_mul (F.args_tuple_mul_2 _ _) (k0d q its.toArray j dd sl n tk h1 h2 hne hz2) ⟨ho,?_⟩⟩)
 have hnew : (List.replicate n.toNat its.toArray).foldl (· ++ ·) #[] = (List.replicate n.toNat its).flatten.toArray:=by
  have:=foldl_rep its n.toNat []
  simpa using this
 rw [hnew]
 have hlen : (List.replicate n.toNat xs).flatten.length <= sizeLine:=by rw [j4c,Nat.mul_comm]; exact hz
 exact ⟨.ref s.heap.objs.size,_,I.laid (t':=s.toks) (o:=.tup (List.replicate n.toNat xs).flatten) (fun b ob q => Heap.get?_push_of_some _ q) (Nat.le_refl _) ⟨hlen,_,r.rep n.toNat,IsTup.new _ _⟩,rfl,k _ I.fresh⟩
def j2j : G2
 | .int i,.int j,R => j4y i j /\ R (.int (i * j))
 | .str x,.int n,R => MulOk x n /\ R (.str (Txt.mul x n))
 | .tup xs,.int n,R => (2 <= n /\ n < 2 ^ 63 /\ xs ≠ [] /\ xs.length * n.toNat <= sizeLine) /\ R (.tup (List.replicate n.toNat xs).flatten)
 | _,_,_ => False
theorem q5t : OpX .v X (binaryOp .Mult) j2j:=by
 obtain ⟨r,p,q⟩:=j9c (X:=X)
 refine ⟨_,p.or j1o,fun O H x y d e R Q M rx ry hg k => ?_⟩
 cases d with
 | int i =>
  cases e with
  | int j => exact .inl (q O H x y _ _ R Q M rx ry hg k)
  | _ => exact hg.elim
 | str z =>
  cases e with
  | int j => exact .inl (q O H x y _ _ R Q M rx ry hg k)
  | _ => exact hg.elim
 | tup xs =>
  cases e with
  | int n =>
   cases ry.int
   obtain ⟨a,vs,rfl,h1,h2⟩:=q3y rx
   refine .inr ⟨a,n,vs,rfl,rfl,h1,hg.1.1,hg.1.2.1,fun z => hg.1.2.2.1 ?_,by rw [h2.length]; exact hg.1.2.2.2,fun p hp => k _ _ _ (q1w hp _) (.tup (SqP.of q2f) ((h2.rep _).same (q1w hp _))) hg.2⟩
   subst z
   cases h2
   rfl
  | _ => exact hg.elim
 | _ => exact hg.elim
end
end DL
namespace DL
open PySem PySem.Spec PyProof.Rows L2
instance lawfulKey : LawfulBEq Key where
 eq_of_beq:=fun {a b} h => by
  cases a with
  | inl a => cases b with
   | inl b => have : (a == b) = true:=h; exact congrArg Sum.inl (eq_of_beq this)
   | inr b => cases h
  | inr a => cases b with
   | inl b => cases h
   | inr b => have : (a == b) = true:=h; exact congrArg Sum.inr (eq_of_beq this)
 rfl:=fun {a} => by
  cases a with
  | inl a => show (a == a) = true; exact beq_self_eq_true a
  | inr a => show (a == a) = true; exact beq_self_eq_true a
end DL
namespace DL
open PySem PySem.Spec PyProof.Rows L2
theorem j2h : (q3n  (some x) k) = (k x):=rfl
theorem j3q : (w1u  (some (some (.shr d))) R) = (R d):=rfl
theorem j5u : (slW  (some (some s)) R) = (R s.val):=rfl
theorem j4j : (w1q i ρ (some (some (.own d)))) = (ρ.set i (some (.shr d))):=rfl
theorem j3s : (w2u  (some (some (.own d))) R) = (R d):=rfl
theorem k7l : (j7d  ([]) ρ R) = (R ρ):=rfl
theorem k3m : (k9g g u (d :: r) ρ R) = (g d ρ fun ρ' => u r ρ' R):=rfl
theorem w2v : (gT n u (.tup ds) ρ R) = (ds.length = n /\ u ds ρ R):=rfl
theorem j2v : (j3u  (.lst ds) R) = (R ds):=rfl
theorem j3p : (j3u  (.tup ds) R) = (R ds):=rfl
theorem j1p : (w0r  ([.int j]) R) = ((-(2 ^ 62) <= j /\ j < 2 ^ 62) /\ R ((List.range j.toNat).map fun (k : Nat) => D.int (0 + (k : Int)))):=rfl
theorem j2f : (w0r  ([.int i,.int j]) R) = ((-(2 ^ 62) <= i /\ i < 2 ^ 62 /\ -(2 ^ 62) <= j /\ j < 2 ^ 62) /\ R ((List.range (j - i).toNat).map fun (k : Nat) => D.int (i + (k : Int)))):=rfl
theorem j3o : (w0s i dg db E ρ (some (some (.bor v (.lst ds))))) = (z0v (j3c i (.bor v (.lst ds)) dg) db { nx:=fun ρ' => ρ'[i]? = some (some (.bor v (.lst ds))) /\ E.nx ρ',rt:=E.rt } ds ρ):=rfl
theorem w2p : (gI C f (.int i) (.int j) R) = (C i j /\ R (f i j)):=rfl
theorem j6h : (gI0 f (.int i) (.int j) R) = (R (f i j)):=rfl
theorem j1y : (w0k  ([.lst xs]) R) = (R (.int xs.length)):=rfl
theorem j3i : (w0k  ([.tup xs]) R) = (R (.int xs.length)):=rfl
theorem j0q : (w0k  ([.str z]) R) = (z.length <= sizeLine /\ R (.int z.length)):=rfl
theorem k3u : (k9m  ([.lst xs]) R) = (R (.tup xs)):=rfl
theorem k8o : (j9x  ([.int i,.int j]) R) = (R (.int (if j > i then j else i))):=rfl
theorem k6a : (j8y  ([.int i,.int j]) R) = (R (.int (if j < i then j else i))):=rfl
theorem k4p : (z7d  (some (some (.own (.lst zz1))))) = (True):=rfl
theorem k5l : (z9k  (some (some (.own (.lst ds)))) k) = (k ds):=rfl
theorem k7n : (j9b  ds ([d]) R) = (ds.length < sizeLine /\ R .non (ds ++ [d])):=rfl
theorem k0i : (z2z  ds ([.int i]) R) = ((-(2 ^ 63) <= i /\ i < 2 ^ 63) /\ q3n (seqIndex? i ds.length) fun k => q3n (ds[k]?) fun d => R d (ds.eraseIdx k)):=rfl
theorem k7r : (j5r  (.int i) R) = (R (some i)):=rfl
theorem j2o : (w0g  ([d,.ty T]) R) = (T ∈ q9h /\ q3n (d.tyN) fun t => R (.bl (w0n t T))):=rfl
theorem k6y : (k8b  (.int i) (.int j) R) = (R (.int (i + j))):=rfl
theorem k6g : (k8b  (.str x) (.str y) R) = (x.length + y.length <= sizeLine /\ R (.str (x ++ y))):=rfl
theorem k8l : (k8b  (.lst xs) (.lst ys) R) = (xs.length + ys.length <= sizeLine /\ R (.lst (xs ++ ys))):=rfl
theorem j4l : (j5b neg (.int i) (.int j) R) = (R (.bl (if neg then !decide (i = j) else decide (i = j)))):=rfl
theorem j3k : (j5b neg (.str i) (.str j) R) = (R (.bl (if neg then !decide (i = j) else decide (i = j)))):=rfl
theorem j3x : (w0j  (.lst ds) l u R) = (R (.lst (cutD ds l u))):=rfl
theorem j3h : (w0j  (.tup ds) l u R) = (¬ (HT.sIx ds.length 0 l = 0 /\ HT.sIx ds.length ds.length u = ds.length) /\ R (.tup (cutD ds l u))):=rfl
theorem j4x : (w0j  (.str z) l u R) = (z.length <= sizeLine /\ R (.str (Txt.slice z l u))):=rfl
theorem k3l : (j0k  (.str z) ([.str y]) R) = (((y.length == 0) = false /\ z.length + 2 <= sizeLine) /\ R (.lst ((Txt.split z y).map D.str))):=rfl
theorem k5y : (k4x  (.str z) ([.lst ds]) R) = (q3n (q8w ds) fun ts => (ts.map (·.length)).sum + ts.length * z.length <= 16777216 /\ R (.str (Txt.join z ts))):=rfl
theorem k6n : (j1x  (.lst ds) R) = (R ds):=rfl
theorem k6j : (j1x  (.tup ds) R) = (R ds):=rfl
theorem j2a : (w4c  (.lst zs) k) = (k zs):=rfl
theorem k5o : (j9w  (.lst ds) R) = (R (ds.mapIdx fun i d => D.tup [.int (i : Int),d])):=rfl
theorem k7i : (j2j  (.int i) (.int j) R) = (j4y i j /\ R (.int (i * j))):=rfl
theorem k6p : (j2j  (.str x) (.int n) R) = (MulOk x n /\ R (.str (Txt.mul x n))):=rfl
theorem j5z : asB (.bl b) R = R b:=rfl
theorem k6t : j7q .v p = p:=rfl
theorem z9q : k3g (.str z) p = p:=rfl
theorem j3d : w3d d .non R = R (.bl d.isNon):=rfl
theorem k8e : j8x d .non R = R (.bl (!d.isNon)):=rfl
theorem j2b : k9y neg d (.lst ds) R = (((d.flat = true /\ ds.all D.flat = true) \/ (d.ok = true /\ (D.isDs ds = true /\ PyData.canLayAll0 (D.pys ds) = true))) /\ R (.bl (if neg then !(ds.any fun z => deq z d) else ds.any fun z => deq z d))):=rfl
theorem k8n : z6n v (.own d) = .lent v d:=rfl
theorem k7v : z6n v (.lent w d) = .lent w d:=rfl
theorem k6e : z6n v (.bor w d) = .bor w d:=rfl
theorem k6o : z6n v (.shr d) = .shr d:=rfl
theorem k5g : j5b neg (.lst xs) (.lst ys) R = (((D.lst xs).ok = true /\ (D.lst ys).ok = true) /\ R (.bl (if neg then !deq (.lst xs) (.lst ys) else deq (.lst xs) (.lst ys)))):=rfl
theorem k5a : D.isNon .non = true:=rfl
theorem k7z : D.isNon (.int i) = false:=rfl
theorem k8d : D.isNon (.lst xs) = false:=rfl
theorem j7a : Sl.val (.own d) = d:=rfl
theorem j5k : Sl.val (.lent v d) = d:=rfl
theorem j8s : Sl.val (.bor v d) = d:=rfl
theorem j8q : Sl.val (.shr d) = d:=rfl
theorem k5i : k3j vs [] ρ = []:=rfl
theorem k2s : k3j vs (none :: js) ρ = none :: k3j vs js ρ:=rfl
theorem k1x : k3j vs (some j :: js) ρ = ((ρ[j]?).join).map (z6n (vs j)) :: k3j vs js ρ:=rfl
theorem k3x : q4e [] [] = True:=by unfold q4e; rfl
theorem z9v : q4e (none :: r) (x :: s) = q4e r s:=by conv => lhs; unfold q4e
theorem z9s : q4e (some a :: r) (b :: s) = (b = some a /\ q4e r s):=by conv => lhs; unfold q4e
theorem join_some : (some (some s) : Option (Option Sl)).join = some s:=rfl
theorem j0m : D.flat (.str x) = true:=rfl
theorem j5s : D.tyN (.str i) = some "str":=rfl
theorem w1r {α : Type} {a : α} {l : List α} : atI (a :: l) 0 = some a:=q3j (j:=0) rfl
theorem w1z {α : Type} {a b : α} {l : List α} : atI (a :: b :: l) 1 = some b:=q3j (j:=1) rfl
theorem w2h {α : Type} {a b c : α} {l : List α} : atI (a :: b :: c :: l) 2 = some c:=q3j (j:=2) rfl
theorem w2c {α : Type} {a b c d : α} {l : List α} : atI (a :: b :: c :: d :: l) 3 = some d:=q3j (j:=3) rfl
theorem w2d {α : Type} {a b c d e : α} {l : List α} : atI (a :: b :: c :: d :: e :: l) 4 = some e:=q3j (j:=4) rfl
theorem k5d {α : Type} (xs : List α) (i k : Nat) : cutD xs (some (i : Int)) (some (k : Int)) = (xs.drop i).take (k - i):=by
 unfold cutD
 rw [HT.sIx_nat,HT.sIx_nat]
 by_cases h : i <= xs.length
 ·rw [Nat.min_eq_left h]
  by_cases h' : k <= xs.length
  ·rw [Nat.min_eq_left h']
  ·rw [Nat.min_eq_right (by omega),List.take_of_length_le (by rw [List.length_drop]; omega),List.take_of_length_le (by rw [List.length_drop]; omega)]
 ·rw [Nat.min_eq_right (show xs.length <= i by omega),List.drop_eq_nil_of_le (Nat.le_refl _),List.drop_eq_nil_of_le (show xs.length <= i by omega),List.take_nil,List.take_nil]
theorem j6a {α : Type} (xs : List α) : cutD xs (some 1) (some 3) = (xs.drop 1).take 2:=k5d xs 1 3
end DL
namespace TX
open PySem PySem.NumText PyProof.Rows
abbrev cs (x : Str) : List Nat:=x.cps.toList
theorem ext {x y : Str} (h : cs x = cs y) : x = y:=by
 cases x; cases y
 simpa [cs,Array.toList_inj] using h
theorem q6a (a b : Str) : cs (a ++ b) = cs a ++ cs b:=by
 show (a.cps ++ b.cps).toList = _
 simp [cs]
theorem q4v (x : Str) : x.length = (cs x).length:=by simp [Str.length,cs]
theorem k3n (a b : Str) : (a ++ b).length = a.length + b.length:=Str.length_append a b
def one (c : Nat) : Str:=⟨#[c]⟩
theorem z3v (c : Nat) : cs (one c) = [c]:=rfl
def q6e (c : Nat) : List (List Nat) -> List Nat
 | [] => []
 | [x] => x
 | x :: y :: r => x ++ c :: q6e c (y :: r)
theorem q8v (c : Nat) : ∀ l : List Str,cs (Str.join (one c) l) = q6e c (l.map cs)
 | [] => rfl
 | [x] => rfl
 | x :: y :: r => by
  show cs (x ++ one c ++ Str.join (one c) (y :: r)) = _
  rw [q6a,q6a,q8v c (y :: r)]
  simp [q6e,z3v]
theorem k2r {c : Nat} {x y u v : List Nat} (hx : c ∉ x) (hy : c ∉ y) (h : x ++ c :: u = y ++ c :: v) : x = y /\ u = v:=by
 induction x generalizing y with
 | nil =>
  cases y with
  | nil => simp at h; exact ⟨rfl,h⟩
  | cons b r =>
   simp at h
   exact absurd (by simp [h.1]) hy
 | cons a r ih =>
  cases y with
  | nil =>
   simp at h
   exact absurd (by simp [h.1]) hx
  | cons b q =>
   simp only [List.cons_append,List.cons.injEq] at h
   obtain ⟨rfl,h⟩:=h
   obtain ⟨rfl,rfl⟩:=ih (fun z => hx (List.mem_cons_of_mem _ z)) (fun z => hy (List.mem_cons_of_mem _ z)) h
   exact ⟨rfl,rfl⟩
theorem q6w {c : Nat} : ∀ {l m : List (List Nat)},l ≠ [] -> m ≠ [] -> (∀ x ∈ l,c ∉ x) -> (∀ x ∈ m,c ∉ x) -> q6e c l = q6e c m -> l = m
 | [],_,h,_,_,_,_ => absurd rfl h
 | _,[],_,h,_,_,_ => absurd rfl h
 | [x],[y],_,_,_,_,e => by simp only [q6e] at e; rw [e]
 | [x],y :: z :: r,_,_,h1,_,e => by
  simp only [q6e] at e
  exact absurd (by rw [e]; simp) (h1 x (by simp))
 | x :: z :: r,[y],_,_,_,h2,e => by
  simp only [q6e] at e
  exact absurd (by rw [<- e]; simp) (h2 y (by simp))
 | x :: x2 :: r,y :: y2 :: q,_,_,h1,h2,e => by
  simp only [q6e] at e
  obtain ⟨rfl,e2⟩:=k2r (h1 x (by simp)) (h2 y (by simp)) e
  have:=q6w (l:=x2 :: r) (m:=y2 :: q) (by simp) (by simp) (fun z hz => h1 z (List.mem_cons_of_mem _ hz)) (fun z hz => h2 z (List.mem_cons_of_mem _ hz)) e2
  rw [this]
theorem z9x {l m : List Str} (h : l.map cs = m.map cs) : l = m:=by
 induction l generalizing m with
 | nil => cases m with
  | nil => rfl
  | cons _ _ => cases h
 | cons a r ih => cases m with
  | nil => cases h
  | cons b q =>
   simp only [List.map_cons,List.cons.injEq] at h
   rw [ext h.1,ih h.2]
theorem k0c {c : Nat} {l : List Str} (hl : l ≠ []) (hf : ∀ x ∈ l,c ∉ cs x) : Txt.split (Str.join (one c) l) (one c) = l:=by
 have h1:=StrLaws.join_split (Str.join (one c) l) (one c)
 have h2:=StrLaws.split_free (Str.join (one c) l) c
 have h3:=PyProof.Rows.split_pos (Str.join (one c) l) (one c)
 refine z9x (q6w (c:=c) ?_ ?_ ?_ ?_ ?_)
 ·intro z
  have:=List.map_eq_nil_iff.mp z
  rw [this] at h3
  exact absurd h3 (by decide)
 ·intro z; exact hl (List.map_eq_nil_iff.mp z)
 ·intro x hx
  obtain ⟨p,hp,rfl⟩:=List.mem_map.mp hx
  exact h2 p hp
 ·intro x hx
  obtain ⟨p,hp,rfl⟩:=List.mem_map.mp hx
  exact hf p hp
 ·rw [<- q8v,<- q8v,h1]
theorem k0r (c : Nat) (l : List Str) : Txt.join (one c) l = Str.join (one c) l:=StrLaws.glued_eq_join (one c) l
end TX
namespace DL
open PySem PySem.Spec PyProof.Rows L2
section
variable {X : Cx}
theorem j4r (hu : X.A.units + 1 < cLine) : IxR X (fun x y H Q => ∃ a v,x = .ref a /\ k0q H a y (some v) /\ Q v H):=by
 intro value slice pins s σ H x y v u Q I rx ry h hs
 obtain ⟨a,z,rfl,g,q⟩:=h
 cases rx
 have hT:=z6z I g
 unfold subscriptTail
 refine wpAny_bind ?_
 rw [getitemInPython_of_ne hT.not_modules]
 refine wpAny_bind (wpAny_specialOf hT PySem.F.slot_dict_getitem.lookup ?_)
 have fin : wpAny (model X.prog X.w) X.A (subscripted slice false (.ref a) u) (fun r s₃ => wpAny (model X.prog X.w) X.A (letTemporaryGo value (.ref a) r >>= fun _ => pure r) (EP X pins σ Q) X.xe s₃) X.xe s:=by
  rw [hs]
  exact wpAny_operating (k4b hu I g ry fun w' s3 I3 rw' => wpAny_bind (wpAny_letTemporaryGo (wpAny_pure ⟨z,H,I3,rw',q⟩)))
 first
  | exact wpAny_pure (wpAny_bind fin)
  | exact wpAny_bind (wpAny_pure (wpAny_bind fin))
  | exact wpAny_bind fin
theorem j1c (hu : X.A.units + 1 < cLine) : OpR X (compareOp .In) (fun x y H Q => ∃ a o,y = .ref a /\ k0q H a x o /\ Q (.bl o.isSome) H):=by
 intro pins s σ H x y v u Q I rx ry h
 obtain ⟨a,o,rfl,g,q⟩:=h
 cases ry
 exact w4u hu I g rx fun s3 I3 => ⟨.bl o.isSome,H,I3,rfl,q⟩
end
def z5u : D -> Option Key
 | .int i => some (.inl i)
 | .str x => some (.inr x)
 | _ => none
def q5u : List Key -> List D -> Key -> Option D
 | k :: ks,v :: vs,x => if k = x then some v else q5u ks vs x
 | _,_,_ => none
def k6x : List Key -> List D -> Key -> D -> List D
 | a :: ks,v :: vs,k,d => (if a = k then d else v) :: k6x ks vs k d
 | _,_,_,_ => []
def q7k (ks : List Key) (k : Key) : List Key:=if k ∈ ks then ks else ks ++ [k]
def q6z (ks : List Key) (ds : List D) (k : Key) (d : D) : List D:=if k ∈ ks then k6x ks ds k d else ds ++ [d]
section
variable {K : PySem.W.Frag} {O : Addr -> Prop} {H : Hp}
theorem q7v {v : V} {d : D} {k : Key} (r : q4b K O H v d) (h : z5u d = some k) : v = kV k:=by
 cases d with
 | int i => cases r.int; cases h; rfl
 | str x => cases r.str; cases h; rfl
 | _ => cases h
theorem z4u {v : V} {ks : List Key} {ds : List D} (r : q4b K O H v (.dK ks ds)) : ∃ a kvs,v = .ref a /\ Rd H a (.dK kvs) /\ kvs.map (·.1) = ks /\ q2i K O H (kvs.map (·.2)) ds:=by
 rcases r with r | ⟨b,hv,_,t⟩
 ·cases r with
  | dK n h r => exact ⟨_,_,rfl,h,rfl,r⟩
 ·cases t with
  | dK h r => exact ⟨_,_,rfl,h,rfl,r⟩
theorem q8g {k : Key} {d : D} : ∀ {kvs : List (Key × V)} {ds : List D},q2i K O H (kvs.map (·.2)) ds -> q5u (kvs.map (·.1)) ds k = some d -> ∃ v,q7o kvs k = some v /\ Rep K O H v d
 | [],_,r,h => by cases r; cases h
 | p :: kvs,_,r,h => by
  cases r with
  | @cons x xs e es r1 r2 =>
   by_cases e1 : p.1 = k
   ·rw [q6g e1]
    simp only [List.map_cons,q5u,if_pos e1] at h
    cases h
    exact ⟨_,rfl,r1⟩
   ·rw [q6f e1]
    simp only [List.map_cons,q5u,if_neg e1] at h
    exact q8g r2 h
theorem q6t {k : Key} : ∀ {kvs : List (Key × V)} {ds : List D},q2i K O H (kvs.map (·.2)) ds -> (q7o kvs k).isSome = (q5u (kvs.map (·.1)) ds k).isSome
 | [],_,r => by cases r; rfl
 | p :: kvs,_,r => by
  cases r with
  | @cons x xs e es r1 r2 =>
   by_cases e1 : p.1 = k
   ·rw [q6g e1]
    simp only [List.map_cons,q5u,if_pos e1]; rfl
   ·rw [q6f e1]
    simp only [List.map_cons,q5u,if_neg e1]
    exact q6t r2
theorem k1g {k : Key} (kvs : List (Key × V)) : (kvs.any fun kv => decide (kv.1 = k)) = decide (k ∈ kvs.map (·.1)):=by
 induction kvs with
 | nil => rfl
 | cons p r ih =>
  rw [List.any_cons,ih,List.map_cons]
  by_cases e : p.1 = k
  ·simp [e]
  ·simp [e,Ne.symm e]
theorem z4n (kvs : List (Key × V)) (k : Key) (v : V) : (q6c kvs k v).map (·.1) = q7k (kvs.map (·.1)) k:=by
 unfold q6c q7k
 rw [k1g]
 by_cases h : k ∈ kvs.map (·.1)
 ·rw [if_pos (decide_eq_true h),if_pos h,List.map_map]
  refine List.map_congr_left fun p _ => ?_
  show (if p.1 = k then (p.1,v) else p).1 = p.1
  split <;> rfl
 ·rw [if_neg (by simpa using h),if_neg h,List.map_append]; rfl
theorem z8e {k : Key} {v : V} {d : D} (r : Rep K O H v d) : ∀ {kvs : List (Key × V)} {ds : List D},q2i K O H (kvs.map (·.2)) ds -> q2i K O H ((kvs.map fun kv => if kv.1 = k then (kv.1,v) else kv).map (·.2)) (k6x (kvs.map (·.1)) ds k d)
 | [],_,h => by cases h; exact .nil
 | p :: kvs,_,h => by
  cases h with
  | @cons x xs e es r1 r2 =>
   simp only [List.map_cons,k6x]
   refine .cons ?_ (z8e r r2)
   by_cases e1 : p.1 = k
   ·rw [if_pos e1,if_pos e1]; exact r
   ·rw [if_neg e1,if_neg e1]; exact r1
theorem z8y {k : Key} {v : V} {d : D} (r : Rep K O H v d) {kvs : List (Key × V)} {ds : List D} (h : q2i K O H (kvs.map (·.2)) ds) : q2i K O H ((q6c kvs k v).map (·.2)) (q6z (kvs.map (·.1)) ds k d):=by
 unfold q6c q6z
 rw [k1g]
 by_cases m : k ∈ kvs.map (·.1)
 ·rw [if_pos (decide_eq_true m),if_pos m]; exact z8e r h
 ·rw [if_neg (by simpa using m),if_neg m,List.map_append]; exact h.app (.cons r .nil)
end
end DL
namespace DL
open PySem PySem.Spec PyProof.Rows L2
section
variable {m : Md} {X : Cx} {a b e : Expr} {da db de : DE} {pos : Pos}
def k0m : G2
 | .lst ds,.int i,R => q3n (atI ds i) fun x => R x
 | .tup ds,.int i,R => q3n (atI ds i) fun x => R x
 | .str z,.int i,R => z.length <= sizeLine /\ q3n (atI z.cps.toList i) fun c => R (.str ⟨#[c]⟩)
 | .dK ks ds,.int i,R => q3n (q5u ks ds (.inl i)) fun x => R x
 | .dK ks ds,.str z,R => q3n (q5u ks ds (.inr z)) fun x => R x
 | _,_,_ => False
theorem q1l (hu : X.A.units + 1 < cLine) (ha : PX .b X a da) (hb : PX .b X b db) (hs : z5w b) : PX .v X (.Subscript a b pos) (dOp k0m da db):=by
 obtain ⟨ta,pa,qa⟩:=ha
 obtain ⟨tb,pb,qb⟩:=hb
 refine ⟨_,j7w (j8l.or (j4r hu)) pa pb hs,fun W H0 σ H ρ O R Q S h k => two (g:=k0m) (ma:=.b) (mb:=.b) qa qb ?_ S h k⟩
 intro O H x y d e R Q M rx ry hg k
 have dict : ∀ (ks : List Key) (ds : List D) (key : Key),d = .dK ks ds -> y = kV key -> (q3n (q5u ks ds key) fun x => R x) -> (∃ a v,x = .ref a /\ k0q H a y (some v) /\ Q v H):=by
  intro ks ds key e1 e2 hw
  subst e1 e2
  obtain ⟨a,kvs,rfl,h1,rfl,h2⟩:=z4u rx
  cases he : q5u (kvs.map (·.1)) ds key with
  | none => rw [he] at hw; exact hw.elim
  | some z =>
   rw [he] at hw
   obtain ⟨v,h3,h4⟩:=q8g h2 he
   exact ⟨a,v,rfl,.inl ⟨kvs,key,h1,rfl,h3.symm⟩,k _ _ _ (q2h.refl _) h4 hw⟩
 cases d with
 | lst ds =>
  cases e with
  | int i =>
   cases ry.int
   obtain ⟨a,xs,rfl,h1,h2⟩:=q3t rx
   cases he : atI ds i with
   | none => simp only [k0m,he,q3n] at hg
   | some z =>
    simp only [k0m,he,q3n] at hg
    obtain ⟨v,h3,h4⟩:=z8i h2 he
    exact .inl (.inl ⟨a,xs,i,v,rfl,rfl,h1,h3,k _ _ _ (q2h.refl _) h4 hg⟩)
  | _ => exact hg.elim
 | tup ds =>
  cases e with
  | int i =>
   cases ry.int
   obtain ⟨a,xs,rfl,h1,h2⟩:=q3y rx
   cases he : atI ds i with
   | none => simp only [k0m,he,q3n] at hg
   | some z =>
    simp only [k0m,he,q3n] at hg
    obtain ⟨v,h3,h4⟩:=z8i h2 he
    exact .inl (.inr (.inl ⟨a,xs,i,v,rfl,rfl,h1,h3,k _ _ _ (q2h.refl _) h4 hg⟩))
  | _ => exact hg.elim
 | str z =>
  cases e with
  | int i =>
   cases ry.int; cases rx.str
   cases he : atI z.cps.toList i with
   | none => simp only [k0m,he,q3n] at hg; exact hg.2.elim
   | some c =>
    simp only [k0m,he,q3n] at hg
    exact .inl (.inr (.inr ⟨z,i,c,rfl,rfl,hg.1,he,k _ _ _ (q2h.refl _) (.str _) hg.2⟩))
  | _ => exact hg.elim
 | dK ks ds =>
  cases e with
  | int i => cases ry.int; exact .inr (dict ks ds (.inl i) rfl rfl hg)
  | str i => cases ry.str; exact .inr (dict ks ds (.inr i) rfl rfl hg)
  | _ => exact hg.elim
 | _ => exact hg.elim
def gDi (neg : Bool) : G2:=fun d e R => match e with
 | .dK ks ds => q3n (z5u d) fun k => R (.bl (neg != (q5u ks ds k).isSome))
 | _ => False
theorem w1g {neg : Bool} {f : Value -> Value -> Sem Value} (h : OpR X f (fun x y H Q => ∃ a o,y = .ref a /\ k0q H a x o /\ Q (.bl (neg != o.isSome)) H)) : OpX .v X f (gDi neg):=by
 refine ⟨_,h,fun O H x y d e R Q M rx ry hg k => ?_⟩
 cases e with
 | dK ks ds =>
  obtain ⟨a,kvs,rfl,h1,rfl,h2⟩:=z4u ry
  cases hk : z5u d with
  | none => simp only [gDi,hk,q3n] at hg
  | some key =>
   simp only [gDi,hk,q3n] at hg
   have:=q7v rx hk
   subst this
   exact ⟨a,q7o kvs key,rfl,.inl ⟨kvs,key,h1,rfl,rfl⟩,k _ _ _ (q2h.refl _) (.bl _) (by rw [q6t h2]; exact hg)⟩
 | _ => exact hg.elim
def w2r (neg : Bool) : G2:=fun d e R => match e with
 | .dK ks ds => q3n (z5u d) fun k => R (.bl (neg != (q5u ks ds k).isSome))
 | .lst ds => k9y neg d (.lst ds) R
 | .tup ds => k9y neg d (.tup ds) R
 | .str ds => k9y neg d (.str ds) R
 | _ => False
theorem inB {neg : Bool} {f : Value -> Value -> Sem Value} (h : OpX .v X f (k9y neg)) (h' : OpX .v X f (gDi neg)) : OpX .v X f (w2r neg):=by
 refine (h.or h').imp fun d e R q => ?_
 cases e with
 | dK ks ds => exact .inr q
 | lst ds => exact .inl q
 | tup ds => exact .inl q
 | str ds => exact .inl q
 | _ => exact q.elim
theorem w0v (b : Bool) : (false != b) = b:=by cases b <;> rfl
theorem j6w (hu : X.A.units + 66 < cLine) : OpX .v X (compareOp .In) (w2r false):=by
 refine inB (j7g hu) (w1g ?_)
 have:=j1c (X:=X) (by omega)
 simp only [w0v]; exact this
def w3m : DE:=fun _ R => R (.dK [] [])
theorem j0h : PX .n X (.Dict [] [] pos) w3m :=
 ⟨_,k7x,fun W H0 σ H ρ O R Q S h k p hp => k _ _ _ (q1w hp _) ⟨p,rfl,hp,.dK (kvs:=[]) q2f .nil⟩ h⟩
def w3z (d : D) (p : Prop) : Prop:=match d with
 | .dK _ _ => p
 | _ => False
def w0b : G2:=fun d e R => match d with
 | .dK ks ds => q3n (z5u e) fun k => R ((q5u ks ds k).getD .non)
 | _ => False
def j6z (da db : DE) : DE:=fun ρ R => da ρ fun x => w3z x (db ρ fun y => w0b x y R)
theorem j3m {apos cpos : Pos} (hu : X.A.units + 1 < cLine) (ha : PX .b X a da) (hb : PX .b X e db) (hm : M1 X a "get" apos e cpos:=by exact ⟨rfl,rfl,rfl,rfl⟩) :
  PX .v X (.Call (.Attribute a "get" apos) [e] [] cpos) (j6z da db):=by
 obtain ⟨ta,pa,qa⟩:=ha
 obtain ⟨tb,pb,qb⟩:=hb
 refine ⟨_,z7t hu pa pb hm,fun W H0 σ H ρ O R Q S h k => ?_⟩
 refine qa W H0 σ H ρ O _ _ S h fun v d H1 e1 r1 h1 => ?_
 have r1' : q4b X.K O H1 v d:=r1
 cases d with
 | dK ks ds =>
  obtain ⟨a',kvs',rfl,h1',hk',_⟩:=z4u r1'
  refine ⟨a',rfl,.inl ⟨kvs',h1'⟩,?_⟩
  refine qb W H0 σ H1 ρ O _ _ (S.grow e1) h1 fun w y H2 e2 r2 h2 => ?_
  have r2' : q4b X.K O H2 w y:=r2
  obtain ⟨a'',kvs,ea,g1,rfl,g2⟩:=z4u (r1'.same e2)
  cases ea
  cases hk : z5u y with
  | none => simp only [w0b,hk,q3n] at h2
  | some key =>
   simp only [w0b,hk,q3n] at h2
   have:=q7v r2' hk
   subst this
   refine ⟨q7o kvs key,.inl ⟨kvs,key,g1,rfl,rfl⟩,?_⟩
   cases hl : q5u (kvs.map (·.1)) ds key with
   | none =>
    have hn : q7o kvs key = none:=by
     have:=q6t (k:=key) g2
     rw [hl] at this
     cases q : q7o kvs key with
     | none => rfl
     | some z => rw [q] at this; cases this
    rw [hn]; rw [hl] at h2
    exact k _ _ _ (e1.trans e2) (show Rep X.K O H2 _ _ from .non) h2
   | some z =>
    rw [hl] at h2
    obtain ⟨u,g3,g4⟩:=q8g g2 hl
    rw [g3]
    exact k _ _ _ (e1.trans e2) (show Rep X.K O H2 _ _ from g4) h2
 | _ => exact (show False from h1).elim
def k2o (s : Option (Option Sl)) (p : Prop) : Prop:=match s with
 | some (some (.own (.dK _ _))) => p
 | _ => False
def j2x : Option (Option Sl) -> (List Key -> List D -> Prop) -> Prop
 | some (some (.own (.dK ks ds))),k => k ks ds
 | _,_ => False
def j1b (i : Nat) (dk dv : DE) : DS:=fun E ρ => k2o ρ[i]? (dv ρ fun d => dk ρ fun y => j2x ρ[i]? fun ks ds => q3n (z5u y) fun k => ds.length < sizeLine /\ E.nx (ρ.set i (some (.own (.dK (q7k ks k) (q6z ks ds k d))))))
theorem z2k (i : Nat) {x : Str} {pos' spos : Pos} {dk dv : DE} (hu : X.A.units + 1 < cLine) (hk : PX .b X b dk) (hv : PX .v X e dv)
  (hs : swapsWith e (some (.Subscript (.Name x pos') b spos)) pos.line X.env = pure false:=by rfl)
  (hN : X.N[i]? = some x:=by rfl) (hvi : Vis X.env.scope x:=by first | exact Or.inl rfl | exact Or.inr (Or.inl rfl) | exact Or.inr (Or.inr rfl)) (hd : (x == ("__debug__" : Str)) = false:=by decide)
  (hcd : (x == ("__classdict__" : Str)) = false:=by decide) : PSX m X (.Assign [.Subscript (.Name x pos') b spos] e pos) (j1b i dk dv):=by
 obtain ⟨tk,pk,qk⟩:=hk
 obtain ⟨tv,pv,qv⟩:=hv
 refine ⟨_,z6x hu (q7a hN hvi hd hcd) pk pv hs,fun W H0 σ H ρ O E T S h L => ?_⟩
 unfold j1b k2o at h
 split at h
 ·rename_i ks ds hi
  obtain ⟨a,h1,h2,h3,h4,h5⟩:=S.own i _ hi
  cases h5 with
  | dK ha rs =>
   rename_i kvs
   refine qv W H0 σ H ρ O _ _ S h fun v d H1 e1 r1 g1 => ?_
   refine ⟨_,h1,?_⟩
   refine qk W H0 σ H1 ρ O _ _ (S.grow e1) g1 fun w y H2 e2 r2 g2 => ?_
   rw [hi] at g2
   simp only [j2x] at g2
   have S2:=(S.grow e1).grow e2
   have r1' : Rep X.K O H1 v d:=r1
   cases hk : z5u y with
   | none => simp only [hk,q3n] at g2
   | some key =>
    simp only [hk,q3n] at g2
    have:=q7v (show q4b X.K O H2 w y from r2) hk
    subst this
    have ha2 : H2 a = some (.dK kvs):=e2 _ _ (e1 _ _ ha)
    have hl : kvs.length < sizeLine:=by have:=rs.length; rw [List.length_map] at this; rw [this]; exact g2.1
    refine ⟨a,_,rfl,k8a.k ha2 hl,?_⟩
    have kp : Kept O H2 (upd H2 a (.dK (q6c kvs key v))):=fun c u q n => by rw [q1y (show c ≠ a from fun z => n (z ▸ h2))]; exact q
    have nw : ∀ c,O c -> O c \/ H2 c = none:=fun c z => .inl z
    have rr : q2i X.K O (upd H2 a (.dK (q6c kvs key v))) ((q6c kvs key v).map (·.2)) (q6z (kvs.map (·.1)) ds key d):=(z8y (r1'.same e2) ((rs.same e1).same e2)).move S2.mts kp nw
    have ow : q8f X.K O (upd H2 a (.dK (q6c kvs key v))) a (.dK (q7k (kvs.map (·.1)) key) (q6z (kvs.map (·.1)) ds key d)):=by
     rw [<- z4n kvs key v]; exact .dK q2f rr
    obtain ⟨S3,f3⟩:=S2.write (o:=.dK (q6c kvs key v)) hi h1 trivial ow
    exact L.nx _ _ _ _ S3 ((Frm.same (e1.trans e2)).trans f3) g2.2
 ·exact h.elim
end
end DL
namespace DL
open PySem PySem.Spec PyProof.Rows L2
section
variable {prog : Program} {w : World} {A : Around} {E : Value -> Shared -> Prop} {s : Shared}
theorem k5z {J T : Addr} {n : Nat} {vals : Array Value} {y : Value} {Q : Value -> Shared -> Prop} (g : s.heap.IsTupleIter J T n) (gt : s.heap.IsTuple T vals) (gy : vals[n]? = some y)
  (k : ∀ h',h'.IsTupleIter J T (n + 1) -> Heap.SameBut J s.heap h' -> Q y { s with heap:=h' }) : wpAny (model prog w) A (Builtin.SmallTypes.nextOf (.ref J)) Q E s:=by
 obtain ⟨ob,g1,g2,g3⟩:=id g
 obtain ⟨ot,t1,_,m,t2⟩:=gt
 unfold Builtin.SmallTypes.nextOf
 refine wpAny_bind (wpAny_callSpecial?_slot (name:=Str.ofString "__next__") g.typeIs F.slot_tuple_iterator_next (wpAny_call_entry F.slot_tuple_iterator_next g.typeIs F.entry_tuple_iterator_next ?_ (F.args_tuple_iterator_next_1 _)))
 show wpAny _ _ (field (.ref J) 0 >>= _) _ _ s
 refine wpAny_bind (wpAny_field g1 g3 (x:=.ref T) rfl ?_)
 show wpAny _ _ (if (Value.ref T == Value.none) = true then _ else _) _ _ s
 rw [if_neg (show ¬ ((Value.ref T == Value.none) = true) from Bool.false_ne_true)]
 show wpAny _ _ (field (.ref J) 1 >>= _) _ _ s
 refine wpAny_bind (wpAny_field g1 g3 (x:=.int n 0) rfl ?_)
 show wpAny _ _ (seqItems? (.ref T) >>= _) _ _ s
 refine wpAny_bind (wpAny_seqItems t1 t2 ?_)
 simp only [Int.toNat_natCast,gy]
 refine wpAny_bind (wpAny_setField g1 g3 (by simp) (wpAny_pure ⟨y,rfl,wpAny_pure (k _ ?_ (Heap.SameBut.update ..))⟩))
 exact ⟨_,Heap.get?_update_self _ g1 (Obj.isFreed_of_fields (Obj.data_mapFields g3 _)),(Obj.cls_mapFields ..).trans g2,by rw [Obj.data_mapFields g3]; simp [rawInt]⟩
theorem z6p {J T : Addr} {n : Nat} {vals : Array Value} {Q : Value -> Shared -> Prop} (ah : A.handled = none) (g : s.heap.IsTupleIter J T n) (gt : s.heap.IsTuple T vals) (gy : vals[n]? = none)
  (k : ∀ h' e,Heap.ExtBut J s.heap h' -> (∃ o,h'.get? e = some o /\ o.cls = .type "StopIteration") -> E (.ref e) { s with heap:=h' }) : wpAny (model prog w) A (Builtin.SmallTypes.nextOf (.ref J)) Q E s:=by
 obtain ⟨ob,g1,g2,g3⟩:=id g
 obtain ⟨ot,t1,_,m,t2⟩:=gt
 unfold Builtin.SmallTypes.nextOf
 refine wpAny_bind (wpAny_callSpecial?_slot (name:=Str.ofString "__next__") g.typeIs F.slot_tuple_iterator_next (wpAny_call_entry F.slot_tuple_iterator_next g.typeIs F.entry_tuple_iterator_next ?_ (F.args_tuple_iterator_next_1 _)))
 show wpAny _ _ (field (.ref J) 0 >>= _) _ _ s
 refine wpAny_bind (wpAny_field g1 g3 (x:=.ref T) rfl ?_)
 show wpAny _ _ (if (Value.ref T == Value.none) = true then _ else _) _ _ s
 rw [if_neg (show ¬ ((Value.ref T == Value.none) = true) from Bool.false_ne_true)]
 show wpAny _ _ (field (.ref J) 1 >>= _) _ _ s
 refine wpAny_bind (wpAny_field g1 g3 (x:=.int n 0) rfl ?_)
 show wpAny _ _ (seqItems? (.ref T) >>= _) _ _ s
 refine wpAny_bind (wpAny_seqItems t1 t2 ?_)
 simp only [Int.toNat_natCast,gy]
 refine wpAny_bind (wpAny_rule (wpAny_bind (wpAny_setField g1 g3 (by simp) ?_)))
 show wpAny _ _ (newExc (.type "StopIteration") [] >>= _) _ _ _; refine wpAny_bind ?_; simp only [newExc,newTuple]
 refine wpAny_bind (wpAny_newObj_type ?_ (by size_fits)); refine wpAny_bind (m:=firstArgMember _ _) (wpAny_of_eq (a:=Value.none) (by first | rfl | (simp only [firstArgMember]; rfl)) ?_)
 refine wpAny_newObj_type ?_ (by size_fits); simp only [raiseNew]; refine wpAny_bind (wpAny_handled ?_)
 first | rw [show A.in1.handled = none from ah] | rw [ah]
 refine wpAny_bind (wpAny_pure (wpAny_throw ?_)); exact k _ _ (((Heap.SameBut.update ..).extBut.push _).push _) ⟨_,Heap.get?_push_size _ rfl,rfl⟩
end
theorem k1p {prog : Program} {w : World} {A : Around} (ah : A.handled = none) (J T : Addr) (hne : T ≠ J) (vals : Array Value) :
  Draws prog w A J [J,T] vals.size (fun i v => vals[i]? = some v) (fun i h => h.IsTupleIter J T i /\ h.IsTuple T vals) where
 live:=fun _ _ st => let ⟨o,ho,_⟩:=st.1; ⟨o,ho⟩
 frame:=fun _ _ _ st hk => ⟨st.1.at fun o e => hk J (by simp) o e,let ⟨o,ho,r⟩:=st.2; ⟨o,hk T (by simp) o ho,r⟩⟩
 item:=fun i s Q E hi st hQ => by
  refine k5z st.1 st.2 (y:=vals[i]) (by simp [hi]) fun h' a b => ?_
  exact hQ _ h' s.toks (by simp [hi]) ⟨a,let ⟨o,ho,r⟩:=st.2; ⟨o,b.extBut T o hne ho,r⟩⟩ b
 done:=fun s Q E st hE => z6p ah st.1 st.2 (by simp) hE
theorem z6i (T : Addr) (vals : Array Value) (n : Nat) (dct : Option Addr) (sl : Array (Option Value)) :
  Meets (Builtin.«enumerate.__new__» ⟨[.type "enumerate",.ref T],[]⟩) (fun _ R s => s.heap.get? T = some { cls:=.type "tuple",dict:=dct,data:=.seq vals n,slots:=sl } ∧
   R (.ok (.ret (.ref (s.heap.push { cls:=.type "tuple_iterator",data:=.fields #[.ref T,.int 0 0] }).objs.size)))
    { s with heap:=(s.heap.push { cls:=.type "tuple_iterator",data:=.fields #[.ref T,.int 0 0] }).push { cls:=.type "enumerate",data:=.fields #[.none,.bool false,.ref s.heap.objs.size,rawInt 0,.none,.none] } }) :=
 .of_wp fun prog w A R s h => by
  obtain ⟨hp,g,d,tk,os⟩:=s; obtain ⟨gl,h⟩:=h
  have hsub:=sub_enumerate
  have gT : Heap.IsTuple (Shared.heap ⟨hp,g,d,tk,os⟩) T vals:=⟨_,gl,rfl,n,rfl⟩
  wp_walk using AutoSeq1.wpAny_loadPart' gl
  refine wpAny_stack_any fun st => wpAny_pure ?_
  split
  ·rename_i c _ _ _ _ _
   cases (c == Value.type "enumerate")
   ·wp_walk using AutoSeq1.wpAny_loadPart' gl,wpAny_pyIter_tuple gT
    exact ⟨_,rfl,h⟩
   ·wp_walk using AutoSeq1.wpAny_loadPart' gl,wpAny_pyIter_tuple gT
    exact ⟨_,rfl,h⟩
  ·wp_walk using AutoSeq1.wpAny_loadPart' gl,wpAny_pyIter_tuple gT
   exact ⟨_,rfl,h⟩
theorem z9b {prog : Program} {w : World} {A : Around} {E : Value -> Shared -> Prop} {s : Shared} {T : Addr} {vals : Array Value} {Q : Value -> Shared -> Prop} (gT : s.heap.IsTuple T vals)
  (h : ∀ h',IsEnum h' (s.heap.objs.size + 1) s.heap.objs.size 0 .none -> h'.IsTupleIter s.heap.objs.size T 0 -> h'.objs.size = s.heap.objs.size + 2 →
   (∀ b o,s.heap.get? b = some o -> h'.get? b = some o) -> Q (.ref (s.heap.objs.size + 1)) { s with heap:=h' }) : wpAny (model prog w) A (call (.type "enumerate") [.ref T]) Q E s:=by
 obtain ⟨⟨c,dct,dt,sl⟩,gl,hc,n,hd⟩:=gT
 replace hc : c = .type "tuple":=hc
 replace hd : dt = .seq vals n:=hd
 subst hc hd
 refine callType_new F.called_enumerate (by decide) (F.typeCall_enumerate_1 _) (F.newCall_enumerate_1 _) (fun obj => F.args_object_init_2 obj _) F.entry_enumerate_new (z6i T vals n dct sl) ⟨gl,?_⟩
 have sz : (s.heap.push { cls:=.type "tuple_iterator",data:=.fields #[.ref T,.int 0 0] }).objs.size = s.heap.objs.size + 1:=Heap.size_push ..
 show _ /\ _
 rw [sz]
 have he : IsEnum ((s.heap.push { cls:=.type "tuple_iterator",data:=.fields #[.ref T,.int 0 0] }).push
   { cls:=.type "enumerate",data:=.fields #[.none,.bool false,.ref s.heap.objs.size,rawInt 0,.none,.none] }) (s.heap.objs.size + 1) s.heap.objs.size 0 .none:=by
  have q:=Heap.get?_push_size (s.heap.push { cls:=.type "tuple_iterator",data:=.fields #[.ref T,.int 0 0] })
   (o:={ cls:=.type "enumerate",data:=.fields #[.none,.bool false,.ref s.heap.objs.size,rawInt 0,.none,.none] }) rfl
  rw [sz] at q; exact q
 refine ⟨⟨_,he,rfl⟩,h _ he ⟨_,Heap.get?_push_of_some _ (Heap.get?_push_size _ rfl),rfl,rfl⟩ (by rw [Heap.size_push,sz]) fun b o q => Heap.get?_push_of_some _ (Heap.get?_push_of_some _ q)⟩
theorem k2v {prog : Program} {w : World} {A : Around} {E : Value -> Shared -> Prop} {s : Shared} {e J T : Addr} {n : Nat} {vals : Array Value} {old : Value} {Q : Option Value -> Shared -> Prop} (ah : A.handled = none) (ge : IsEnum s.heap e J n old)
  (g : s.heap.IsTupleIter J T n) (gt : s.heap.IsTuple T vals) (gy : vals[n]? = none) (k : ∀ h',Heap.ExtBut J s.heap h' -> Q none { s with heap:=h' }) : wpAny (model prog w) A (pyNext (.ref e)) Q E s:=by
 have ty : s.TypeIs (.ref e) "enumerate":=⟨_,ge,rfl⟩
 unfold pyNext
 refine wpAny_bind (wpAny_attempt (wpAny_callSpecial?_slot (name:=Str.ofString "__next__") ty F.slot_enumerate_next (wpAny_call_entry F.slot_enumerate_next ty F.entry_enumerate_next ?_ (F.args_enumerate_next_1 _))))
 show wpAny _ _ (field (.ref e) 2 >>= _) _ _ _; refine wpAny_bind (wpAny_field ge rfl (x:=.ref J) rfl ?_)
 refine wpAny_bind (z6p ah g gt gy fun h' x e1 e2 => ?_)
 obtain ⟨o,c1,c2⟩:=e2
 refine wpAny_bind (wpAny_isInstance (T:="StopIteration") (b:=true) ⟨o,c1,c2⟩ isSubtype_stop ?_)
 exact wpAny_pure (k _ e1)
section
variable {X : Cx} {a : Expr} {de : DE} {pos : Pos}
def w2m (K : PySem.W.Frag) (a : Addr) : It :=
 ⟨fun i H => ∃ xs x,SqT K H a xs /\ xs[i]? = some x,fun i H v H' => ∃ x p,(∀ xs,SqT K H a xs -> xs[i]? = some x) /\ H p = none /\ v = .ref p /\ H' = upd H p (.tup [.int i,x]),fun i H => ∃ xs,SqT K H a xs /\ xs.length <= i⟩
theorem k0b {P : Program} {w : World} {K : PySem.W.Frag} {ts : List Expr} {x1} {tp : Pos} (a e it : Addr) (hne : e ≠ it) (hai : a ≠ it) (hea : e ≠ a) :
  k4u P w K (.Tuple ts x1 tp) (w2m K a) [e,it] e (fun i h => (∃ old,IsEnum h e it i old) /\ h.IsTupleIter it a i) where
 mem:=by simp
 obj:=fun i h st b hb => by
  obtain ⟨⟨old,s1⟩,o,e2,c,d⟩:=st
  rcases List.mem_cons.mp hb with rfl | hb
  ·exact ⟨_,s1,fun v z => by cases z⟩
  ·obtain rfl:=List.mem_singleton.mp hb
   exact ⟨o,e2,fun v z => by rw [d] at z; cases z⟩
 keep:=fun i h h' st k => ⟨let ⟨old,s1⟩:=st.1; ⟨old,k e (by simp) _ s1⟩,st.2.at fun o q => k it (by simp) o q⟩
 item:=by
  intro X hP hw hK hc i pins s σ H E I hf st hg
  subst hP hw hK
  obtain ⟨xs,x,hq,hx⟩:=hg
  obtain ⟨its,rv,p,hz⟩:=I.tuple hq
  obtain ⟨u,hu,ru⟩:=rv.get hx
  obtain ⟨f0,f1,f2,f3,f4,f5⟩:=hf it (by simp)
  obtain ⟨g0,g1,g2,g3,g4,g5⟩:=hf e (by simp)
  obtain ⟨⟨old,s1⟩,s2⟩:=st
  have lte : e < s.heap.objs.size:=Heap.lt_size s1
  have lti : it < s.heap.objs.size:=by obtain ⟨o,q,_⟩:=s2; exact Heap.lt_size q
  have hl:=rv.length
  have hin : i < its.toArray.size:=by
   have:=(List.getElem?_eq_some_iff.mp hx).1
   simp; omega
  refine wpAny_pyNext_enum_itemD (k1p (A:=X.A.in1) (I.ok.hd hc) it a hai its.toArray) s1 ⟨s2,p⟩ hin hne (by simp [hne,hea]) fun y h' tk hP so st' ht hsz hk => ?_
  have hy : u = y:=by
   have : its.toArray[i]? = some u:=by simpa using hu
   rw [this] at hP; exact Option.some.inj hP
  subst hy
  refine ⟨_,rfl,wpAny_letOwnedTupleGo_enum so fun h2 se sb => ?_⟩
  have sb : Heap.SameBut e h' h2:=sb
  have ht2 : h2.get? s.heap.objs.size = some { cls:=.type "tuple",data:=.seq #[.int i tk,u] }:=(sb.2 _ (Nat.ne_of_gt lte)).trans ht
  have kp : ∀ b o,b ≠ e -> b ≠ it -> s.heap.get? b = some o -> h2.get? b = some o:=fun b o n1 n2 q => (sb.2 b n1).trans (hk b o n1 n2 q)
  have hp : H s.heap.objs.size = none:=I.fresh
  have I1 : Inv X pins σ (upd H s.heap.objs.size (.tup [.int i,x])) { s with heap:=h2,toks:=tk + 1 }:=by
   have IA : Inv X pins σ (upd H s.heap.objs.size (.tup [.int i,x])) { s with heap:=s.heap.push { cls:=.type "tuple",data:=.seq #[.int i tk,u] },toks:=s.toks } :=
    I.laid (fun b o q => Heap.get?_push_of_some _ q) (Nat.le_refl _) ⟨by show 2 <= sizeLine; decide,[.int i tk,u],.cons ⟨_,rfl⟩ (.cons ru .nil),⟨_,Heap.get?_push_size _ rfl,rfl,_,rfl⟩⟩
   refine z0r (s:={ s with heap:=s.heap.push { cls:=.type "tuple",data:=.seq #[.int i tk,u] },toks:=s.toks }) (fp:=[e,it]) IA (fun b o hb q => ?_) (fun b hb => ?_)
   ·have n1 : b ≠ e:=fun z => hb (by simp [z])
    have n2 : b ≠ it:=fun z => hb (by simp [z])
    rcases Heap.get?_push_cases q with ⟨rfl,rfl⟩ | q
    ·exact ht2
    ·exact kp b o n1 n2 q
   ·have hb' : b = e \/ b = it:=by simpa using hb
    obtain ⟨q0,q1,q2,q3,q4,q5⟩:=hf b hb
    refine ⟨?_,q1,q2,q3,q4,q5⟩
    rcases hb' with rfl | rfl
    ·rw [q1y (Nat.ne_of_lt lte)]; exact q0
    ·rw [q1y (Nat.ne_of_lt lti)]; exact q0
  refine ⟨.ref s.heap.objs.size,_,I1,rfl,⟨x,_,fun ys hy => by rw [I.tuple_inj hy hq]; exact hx,hp,rfl,rfl⟩,⟨⟨u,by simpa using se⟩,?_⟩,fun b hb => ?_⟩
  ·obtain ⟨o,q,r⟩:=st'.1
   exact ⟨o,(sb.2 it (Ne.symm hne)).trans q,r⟩
  ·have hb' : b = e \/ b = it:=by simpa using hb
   rcases hb' with rfl | rfl
   ·rw [q1y (Nat.ne_of_lt lte)]; exact g0
   ·rw [q1y (Nat.ne_of_lt lti)]; exact f0
 done:=by
  intro X hP hw hK hc i pins s σ H E I hf st hg
  subst hP hw hK
  obtain ⟨xs,hq,hx⟩:=hg
  obtain ⟨its,rv,p,hz⟩:=I.tuple hq
  obtain ⟨f0,f1,f2,f3,f4,f5⟩:=hf it (by simp)
  obtain ⟨⟨old,s1⟩,s2⟩:=st
  have hl:=rv.length
  exact k2v (I.ok.hd hc) s1 s2 p (by simp; omega) fun h' eb => ⟨rfl,I.turned (t':=s.toks) (fun b o hb q => eb b o hb q) f0 f1 f3 f4 f5⟩
 self:=fun A i s Q E st h => let ⟨old,s1⟩:=st.1; wpAny_pyIter_enum s1 h
theorem k8c {K : PySem.W.Frag} {a : Addr} {ds : List D} : JS (w2m K a) K (fun O H => Rep K O H (.ref a) (.tup ds)) (ds.mapIdx fun i d => D.tup [.int (i : Int),d]):=by
 intro O H i M r
 cases r with
 | tup h1 h2 =>
 replace h1:=h1.1
 rename_i xs
 refine ⟨fun d hd => ?_,fun hl => ⟨xs,h1,by rw [h2.length]; simpa using hl⟩⟩
 rw [List.getElem?_mapIdx] at hd
 cases hi : ds[i]? with
 | none => rw [hi] at hd; cases hd
 | some d0 =>
  rw [hi] at hd
  cases hd
  obtain ⟨x,e1,e2⟩:=h2.getD hi
  refine ⟨⟨xs,x,h1,e1⟩,fun y H' z => ?_⟩
  obtain ⟨x',p,g1,g3,rfl,rfl⟩:=z
  have:=g1 xs h1
  rw [e1] at this
  cases this
  exact ⟨q1w g3 _,.tup (SqP.of q2f) (.cons (.int _) (.cons (e2.same (q1w g3 _)) .nil))⟩
def k9d : D -> (List D -> Prop) -> Prop
 | .tup ds,R => R (ds.mapIdx fun i d => D.tup [.int (i : Int),d])
 | _,_ => False
def k9u (de : DE) : DA:=fun ρ R => de ρ fun d => k9d d R
theorem q9k {ts : List Expr} {x1} {tp p : Pos} (hg : Gl X "enumerate") (hm : X.mg "enumerate" = none) (ha : PX .v X a de) (hs : starEach [a] X.env = [(false,eval a X.env)]:=by rfl) : PIX X (.Tuple ts x1 tp) (.Call (.Name "enumerate" p) [a] [] pos) (k9u de):=by
 obtain ⟨ta,pa,qa⟩:=ha
 have hpi : PI X (.Tuple ts x1 tp) (.Call (.Name "enumerate" p) [a] [] pos) (fun σ H R => z6r ta j5d σ H fun vs H1 => ∃ q,vs = [.ref q] /\ (∃ xs,SqT X.K H1 q xs) /\ R (w2m X.K q) H1):=by
  intro pins s σ H R I h
  refine Call_ (q8c I hg hm boot_enumerate (PyProof.Rows.callWith_type1 (thn (q3e pa q6r hs pos pins s σ H _ I h) fun us s1 ⟨vs,H1,I1,r1,q1⟩ => ?_) hs rfl))
  obtain ⟨q,rfl,⟨xs,hq⟩,hR⟩:=q1
  obtain ⟨u,rfl,ru⟩:=vals1 r1
  cases ru
  obtain ⟨its,rv,pl,_⟩:=I1.tuple hq
  have lq : q < s1.heap.objs.size:=by obtain ⟨o,z,_⟩:=pl; exact Heap.lt_size z
  refine z9b pl fun h' he hit hsz hk => ?_
  refine wpAny_pyIter_enum he ?_
  have I2 : Inv X pins σ H1 { s1 with heap:=h' }:=I1.kept (t':=s1.toks) hk
  have fr : ∀ b,s1.heap.objs.size <= b -> z3p X pins H1 b:=fun b hb => I1.fpOk hb (I1.hok.fresh hb)
  refine ⟨s1.heap.objs.size + 1,[s1.heap.objs.size + 1,s1.heap.objs.size],_,_,H1,rfl,I2,k0b q _ _ (Nat.succ_ne_self _) (Nat.ne_of_lt lq) (Nat.ne_of_gt (Nat.lt_succ_of_lt lq)),⟨⟨_,he⟩,hit⟩,fun b hb => ?_,hR⟩
  have hb' : b = s1.heap.objs.size + 1 \/ b = s1.heap.objs.size:=by simpa using hb
  rcases hb' with rfl | rfl
  ·exact fr _ (Nat.le_succ _)
  ·exact fr _ (Nat.le_refl _)
 refine ⟨_,hpi,fun W H0 σ H ρ O R Rh S h k => ?_⟩
 refine qa W H0 σ H ρ O _ _ S h fun v d H1 e1 r1 h1 => ?_
 cases d with
 | tup ds =>
  obtain ⟨q,xs,rfl,g1,g2⟩:=q3y (.inl r1)
  exact ⟨q,rfl,⟨xs,g1⟩,k _ H1 _ _ e1 r1 (z3n _ _) k8c h1⟩
 | _ => exact False.elim h1
end
end DL
namespace DL
open PySem PySem.Spec PyProof.Rows L2
section
variable {prog : Program} {w : World} {A : Around} {E : Value -> Shared -> Prop}
theorem j5w {J L : Addr} {vals : Array Value} (hne : L ≠ J) : ∀ (n i : Nat) (s : Shared) (Q : List Value -> Shared -> Prop),s.heap.IsListIter J L i -> s.heap.IsList L vals -> i + n <= vals.size →
  (∀ h',h'.IsListIter J L (i + n) -> Heap.SameBut J s.heap h' -> Q ((vals.toList.drop i).take n) { s with heap:=h' }) -> wpAny (model prog w) A (draw (.ref J) n) Q E s
 | 0,i,s,Q,g,_,_,k => by
  show wpAny _ _ (pure []) Q E s
  exact wpAny_pure (by simpa using k s.heap g (Heap.SameBut.refl ..))
 | n + 1,i,s,Q,g,gl,hle,k => by
  have lt : i < vals.size:=by omega
  show wpAny _ _ (pyNext (.ref J) >>= _) Q E s
  refine wpAny_bind (wpAny_pyNext_list_item g gl (x:=vals[i]) (by simp [lt]) fun h1 g1 s1 => ?_)
  refine wpAny_bind (wpAny_holding (j5w hne n (i + 1) _ _ g1 (gl.extBut s1.extBut hne) (by omega) fun h2 g2 s2 => wpAny_pure ?_))
  have hd : vals.toList.drop i = vals[i] :: vals.toList.drop (i + 1):=by simp [List.drop_eq_getElem_cons,lt]
  have q:=k h2 (by rw [show i + (n + 1) = i + 1 + n by omega]; exact g2) (s1.trans s2)
  rw [hd,List.take_succ_cons] at q
  exact q
theorem j1l {s : Shared} {L : Addr} {vals : Array Value} {Q : List Value -> Shared -> Prop} (ah : A.handled = none) (gl : s.heap.IsList L vals)
  (k : ∀ h',Heap.ExtBut s.heap.objs.size s.heap h' -> Q vals.toList { s with heap:=h' }) : wpAny (model prog w) A (unpackItems (.ref L) vals.size none) Q E s:=by
 have lt : L ≠ s.heap.objs.size:=by obtain ⟨o,ho,_⟩:=gl; exact Nat.ne_of_lt (Heap.lt_size ho)
 unfold unpackItems
 refine wpAny_bind ?_
 unfold notIterableAtAll
 refine wpAny_bind (wpAny_specialOf gl.typeIs F.slot_list_iter.lookup ?_)
 refine wpAny_pure ?_
 simp only [Bool.false_eq_true,if_false]
 refine wpAny_bind (wpAny_holding (wpAny_pyIter_list gl ?_))
 refine wpAny_bind (wpAny_holding (j5w lt vals.size 0 _ _ ⟨_,Heap.get?_push_size _ rfl,rfl,rfl⟩ (gl.push _) (by omega) fun h1 g1 s1 => ?_))
 have all : List.take vals.size (List.drop 0 vals.toList) = vals.toList:=by rw [List.drop_zero]; exact List.take_of_length_le (by simp)
 rw [all,if_neg (by simp)]
 have gl1 : h1.IsList L vals:=(gl.push _).extBut s1.extBut lt
 refine wpAny_bind (wpAny_holding (wpAny_pyNext_list_end ah g1 gl1 (by simp) fun h2 e2 => ?_))
 simp only [Option.isSome_none,Bool.false_eq_true,if_false]
 exact wpAny_pure (k h2 fun b o hb e => e2 b o hb (s1.extBut b o hb (Heap.get?_push_of_some _ e)))
end
section
variable {X : Cx} {pos : Pos}
def gLs (K : PySem.W.Frag) (n : Nat) (t : TGs) : TG:=fun v σ H Q => ∃ a xs,v = .ref a /\ SqL K H a xs /\ xs.length = n /\ t xs σ H Q
theorem j7s {es : List Expr} {k : Nat} {t : TGs} {n : Nat} (hc : X.calm = true) (h : PGs X es t)
  (hn : (assignEach es X.env).length = n:=by rfl) (hst : (assignEach es X.env).findIdx? (·.1) = none:=by rfl) : PG X (.Tuple es k pos) (gLs X.K n t):=by
 intro pins s σ H v u Q I r hw
 obtain ⟨a,xs,e1,hq,hl,hw⟩:=hw
 subst e1
 cases r
 obtain ⟨its,rv,ht,hz⟩:=I.list hq
 rw [assign_Tuple]
 refine wpAny_bind (wpAny_standAt ?_)
 unfold unpack
 have e : (assignEach es X.env).length = its.toArray.size:=by simp [hn,<- hl,rv.length]
 rw [e,hst]
 refine wpAny_bind (wpAny_holding (j1l (I.ok.hd hc) ht.isList fun h' hx => ?_))
 have I1 : Inv X pins σ H { s with heap:=h' }:=I.kept (t':=s.toks) fun b o e => hx b o (Nat.ne_of_lt (Heap.lt_size e)) e
 exact h pins _ σ H xs _ Q I1 (by simpa using rv) hw
def gTL (n : Nat) (u : DGs) : DG
 | .tup ds,ρ,R => ds.length = n /\ u ds ρ R
 | .lst ds,ρ,R => ds.length = n /\ u ds ρ R
 | _,_,_ => False
theorem j4i {es : List Expr} {ks : Nat} {u : DGs} {n : Nat} (hc : X.calm = true) (h : j5c X es u) (hn : (assignEach es X.env).length = n:=by rfl) (hst : (assignEach es X.env).findIdx? (·.1) = none:=by rfl) : PGX X (.Tuple es ks pos) (gTL n u):=by
 obtain ⟨t,p,q⟩:=h
 have hp : PG X (.Tuple es ks pos) (fun v σ H Q => w0w X.K n t v σ H Q \/ gLs X.K n t v σ H Q):=fun pins s σ H v u Q I r hw =>
  hw.elim (k8x hc p hn hst pins s σ H v u Q I r) (j7s hc p hn hst pins s σ H v u Q I r)
 refine ⟨_,hp,fun W H0 σ H ρ O v d R Q S r h k => ?_⟩
 cases d with
 | tup ds =>
  obtain ⟨a,xs,rfl,h1,h2⟩:=q3y (.inl r)
  exact .inl ⟨_,_,rfl,h1,by rw [h2.length]; exact h.1,q W H0 σ H ρ O _ _ R Q S h2 h.2 k⟩
 | lst ds =>
  obtain ⟨a,xs,rfl,h1,h2⟩:=q3t (.inl r)
  exact .inr ⟨_,_,rfl,h1,by rw [h2.length]; exact h.1,q W H0 σ H ρ O _ _ R Q S h2 h.2 k⟩
 | _ => exact h.elim
end
end DL
namespace DL
open PySem PySem.Spec PyProof.Rows L2
structure ZA (Z A1 A2 J1 J2 : Addr) (f1 f2 : List Addr) : Prop where
 a1z : A1 ≠ Z
 a2z : A2 ≠ Z
 j1z : J1 ≠ Z
 j2z : J2 ≠ Z
 a12 : A1 ≠ A2
 a1j1 : A1 ≠ J1
 a1j2 : A1 ≠ J2
 a2j1 : A2 ≠ J1
 a2j2 : A2 ≠ J2
 j12 : J1 ≠ J2
 z1 : Z ∉ f1
 z2 : Z ∉ f2
 o1 : A2 ∉ f1
 o2 : A2 ∉ f2
 x1 : J2 ∉ f1
 x2 : J1 ∉ f2
section
variable {prog : Program} {w : World} {A : Around} {E : Value -> Shared -> Prop} {s : Shared}
theorem q8m {J : Addr} {fp : List Addr} {n i : Nat} {P : Nat -> Value -> Prop} {St : Nat -> Heap -> Prop} (D : Draws prog w A J fp n P St) {c : Addr} {h h' : Heap} (hc : c ∉ fp) (st : St i h) (q : Heap.SameBut c h h') : St i h' :=
 D.frame _ _ _ st fun b hb o e => q.extBut b o (fun z => hc (z ▸ hb)) e
variable {Z A1 A2 J1 J2 : Addr} {f1 f2 : List Addr} {n1 n2 k : Nat} {P1 P2 : Nat -> Value -> Prop} {S1 S2 : Nat -> Heap -> Prop} {a b : Value}
theorem k0w {Q : Value -> Shared -> Prop} (M : ZA Z A1 A2 J1 J2 f1 f2) (D1 : Draws prog w A J1 f1 n1 P1 S1) (D2 : Draws prog w A J2 f2 n2 P2 S2)
  (gz : IsZip s.heap Z A1 A2 .none) (g1 : IsPair s.heap A1 (.ref J1) (.ref J2)) (g2 : IsPair s.heap A2 a b) (t1 : S1 k s.heap) (t2 : S2 k s.heap) (l1 : k < n1) (l2 : k < n2)
  (kk : ∀ x y h' tk,P1 k x -> P2 k y -> IsZip h' Z A1 A2 (rawInt s.heap.objs.size) -> IsPair h' A1 (.ref J1) (.ref J2) -> IsPair h' A2 x y -> S1 (k + 1) h' -> S2 (k + 1) h' -> IsPair h' s.heap.objs.size x y -> h'.objs.size = s.heap.objs.size + 1 →
   (∀ c o,c ≠ Z -> c ≠ A2 -> c ≠ J1 -> c ≠ J2 -> s.heap.get? c = some o -> h'.get? c = some o) -> Q (.ref s.heap.objs.size) { s with heap:=h',toks:=tk }) :
  wpAny (model prog w) A (Builtin.«zip.__next__» ⟨[.ref Z],[]⟩) (fun fin s' => ∃ v,fin = .done (.ret v) /\ Q v s') E s:=by
 obtain ⟨hp,g,d,tk0,os⟩:=s
 show wpAny _ _ (field (.ref Z) 2 >>= _) _ _ _
 refine wpAny_bind (wpAny_field gz rfl (x:=.bool false) rfl ?_)
 show wpAny _ _ (field (.ref Z) 3 >>= _) _ _ _
 refine wpAny_bind (wpAny_field gz rfl (x:=.ref A1) rfl ?_)
 refine wpAny_bind (wpAny_seqItems g1 rfl ?_)
 show wpAny _ _ (Builtin.SmallTypes.ownedTupleIsFree (.ref Z) >>= _) _ _ _
 refine wpAny_bind ?_
 unfold Builtin.SmallTypes.ownedTupleIsFree
 refine wpAny_bind (wpAny_field gz rfl (x:=.none) rfl (wpAny_pure ?_))
 simp only [if_true]
 refine wpAny_bind (wpAny_rule ?_)
 refine wpAny_bind (wpAny_field gz rfl (x:=.ref A2) rfl ?_)
 refine wpAny_bind (wpAny_setField_rec gz (by simp) fun m1 z1 c1 => ?_)
 replace z1 : IsZip m1 Z A1 A2 .ellipsis:=z1
 replace c1 : Heap.SameBut Z hp m1:=c1
 refine wpAny_bind ?_
 simp only [List.zipIdx_cons,List.zipIdx_nil,List.forIn_cons,List.forIn_nil]; refine wpAny_bind (wpAny_bind (wpAny_onRaise ?_))
 show wpAny _ _ (Builtin.SmallTypes.nextOf (.ref J1) >>= _) _ _ _
 refine wpAny_bind (D1.item k _ _ _ l1 (q8m D1 M.z1 t1 c1) fun x m2 tk1 px u1 c2 => wpAny_pure ?_)
 replace c2 : Heap.SameBut J1 m1 m2:=c2
 have o2 : IsPair m2 A2 a b:=c2.extBut _ _ M.a2j1 (c1.extBut _ _ M.a2z g2)
 refine wpAny_bind (wpAny_seqItems o2 rfl ?_)
 refine wpAny_bind (wpAny_updateSeq_pair o2 fun m3 o3 c3 => ?_)
 replace o3 : IsPair m3 A2 x b:=o3
 replace c3 : Heap.SameBut A2 m2 m3:=c3
 refine wpAny_bind (wpAny_letGo (wpAny_pure ?_)); refine wpAny_bind (wpAny_bind (wpAny_onRaise ?_))
 show wpAny _ _ (Builtin.SmallTypes.nextOf (.ref J2) >>= _) _ _ _
 refine wpAny_bind (D2.item k _ _ _ l2 (q8m D2 M.o2 (q8m D2 M.x2 (q8m D2 M.z2 t2 c1) c2) c3) fun y m4 tk2 py u2 c4 => wpAny_pure ?_)
 replace c4 : Heap.SameBut J2 m3 m4:=c4
 have o4 : IsPair m4 A2 x b:=c4.extBut _ _ M.a2j2 o3
 refine wpAny_bind (wpAny_seqItems o4 rfl ?_)
 refine wpAny_bind (wpAny_updateSeq_pair o4 fun m5 o5 c5 => ?_)
 replace o5 : IsPair m5 A2 x y:=o5
 replace c5 : Heap.SameBut A2 m4 m5:=c5
 refine wpAny_bind (wpAny_letGo (wpAny_pure (wpAny_pure ?_))); refine wpAny_bind (wpAny_seqItems o5 rfl ?_); refine wpAny_bind (wpAny_newTuple ?_)
 have sz : m5.objs.size = hp.objs.size:=by rw [c5.1,c4.1,c3.1,c2.1,c1.1]
 have z5 : IsZip m5 Z A1 A2 .ellipsis:=c5.extBut _ _ M.a2z.symm (c4.extBut _ _ M.j2z.symm (c3.extBut _ _ M.a2z.symm (c2.extBut _ _ M.j1z.symm z1)))
 have k5 : ∀ c o,c ≠ Z -> c ≠ A2 -> c ≠ J1 -> c ≠ J2 -> hp.get? c = some o -> m5.get? c = some o:=fun c o q1 q2 q3 q4 e => c5.extBut _ _ q2 (c4.extBut _ _ q4 (c3.extBut _ _ q2 (c2.extBut _ _ q3 (c1.extBut _ _ q1 e))))
 have v1 : S1 (k + 1) m5:=q8m D1 M.o1 (q8m D1 M.x1 (q8m D1 M.o1 u1 c3) c4) c5
 have v2 : S2 (k + 1) m5:=q8m D2 M.o2 u2 c5
 have zlt : Z < m5.objs.size:=Heap.lt_size z5
 show wpAny _ _ (Builtin.SmallTypes.ownedTupleHandOut (.ref Z) (.ref m5.objs.size) >>= _) _ _ _
 refine wpAny_bind ?_
 unfold Builtin.SmallTypes.ownedTupleHandOut
 have z6 : IsZip (m5.push { cls:=.type "tuple",data:=.seq #[x,y] }) Z A1 A2 .ellipsis:=Heap.get?_push_of_some _ z5
 refine wpAny_bind (wpAny_setField_rec z6 (by simp) fun m7 z7 c7 => ?_)
 replace z7 : IsZip m7 Z A1 A2 (rawInt m5.objs.size):=z7
 refine wpAny_setField_rec z7 (by simp) fun m8 z8 c8 => ?_
 replace z8 : IsZip m8 Z A1 A2 (rawInt m5.objs.size):=z8
 replace c7 : Heap.SameBut Z (m5.push { cls:=.type "tuple",data:=.seq #[x,y] }) m7:=c7
 replace c8 : Heap.SameBut Z m7 m8:=c8
 have up : ∀ c o,c ≠ Z -> m5.get? c = some o -> m8.get? c = some o:=fun c o q e => c8.extBut _ _ q (c7.extBut _ _ q (Heap.get?_push_of_some _ e))
 have T8 : IsPair m8 m5.objs.size x y:=c8.extBut _ _ (Nat.ne_of_gt zlt) (c7.extBut _ _ (Nat.ne_of_gt zlt) (Heap.get?_push_size _ rfl))
 have s8 : m8.objs.size = m5.objs.size + 1:=by rw [c8.1,c7.1,Heap.size_push]
 rw [sz] at z8 T8 s8
 refine wpAny_pure ⟨_,rfl,?_⟩
 show Q (.ref m5.objs.size) _
 rw [sz]
 exact kk x y m8 tk2 px py z8 (up _ _ M.a1z (k5 _ _ M.a1z M.a12 M.a1j1 M.a1j2 g1)) (up _ _ M.a2z o5) (D1.frame _ _ _ v1 fun c hc o e => up c o (fun q => M.z1 (q ▸ hc)) e) (D2.frame _ _ _ v2 fun c hc o e => up c o (fun q => M.z2 (q ▸ hc)) e) T8 s8
  fun c o q1 q2 q3 q4 e => up c o q1 (k5 c o q1 q2 q3 q4 e)
def k9x (prog : Program) (w : World) (A : Around) (J : Addr) (St : Heap -> Prop) : Prop:=∀ (s : Shared) (Q : Value -> Shared -> Prop) (E : Value -> Shared -> Prop),St s.heap →
 (∀ h' e,Heap.ExtBut J s.heap h' -> (∃ o,h'.get? e = some o /\ o.cls = .type "StopIteration") -> E (.ref e) { s with heap:=h' }) -> wpAny (model prog w) A (Builtin.SmallTypes.nextOf (.ref J)) Q E s
theorem k7e {Q : Fin -> Shared -> Prop} (M : ZA Z A1 A2 J1 J2 f1 f2) (D1 : Draws prog w A J1 f1 n1 P1 S1) (D2 : Draws prog w A J2 f2 n2 P2 S2)
  (gz : IsZip s.heap Z A1 A2 .none) (g1 : IsPair s.heap A1 (.ref J1) (.ref J2)) (g2 : IsPair s.heap A2 a b) (t1 : S1 k s.heap) (t2 : S2 k s.heap) (le : k9x prog w A J1 (S1 k) \/ (k < n1 /\ k9x prog w A J2 (S2 k)))
  (kk : ∀ h' e tk,(∀ c o,c ≠ Z -> c ≠ A2 -> c ≠ J1 -> c ≠ J2 -> s.heap.get? c = some o -> h'.get? c = some o) -> (∃ o,h'.get? e = some o /\ o.cls = .type "StopIteration") -> E (.ref e) { s with heap:=h',toks:=tk }) :
  wpAny (model prog w) A (Builtin.«zip.__next__» ⟨[.ref Z],[]⟩) Q E s:=by
 obtain ⟨hp,g,d,tk0,os⟩:=s
 show wpAny _ _ (field (.ref Z) 2 >>= _) _ _ _
 refine wpAny_bind (wpAny_field gz rfl (x:=.bool false) rfl ?_)
 show wpAny _ _ (field (.ref Z) 3 >>= _) _ _ _
 refine wpAny_bind (wpAny_field gz rfl (x:=.ref A1) rfl ?_)
 refine wpAny_bind (wpAny_seqItems g1 rfl ?_)
 show wpAny _ _ (Builtin.SmallTypes.ownedTupleIsFree (.ref Z) >>= _) _ _ _
 refine wpAny_bind ?_
 unfold Builtin.SmallTypes.ownedTupleIsFree
 refine wpAny_bind (wpAny_field gz rfl (x:=.none) rfl (wpAny_pure ?_))
 simp only [if_true]
 refine wpAny_bind (wpAny_rule ?_)
 refine wpAny_bind (wpAny_field gz rfl (x:=.ref A2) rfl ?_)
 refine wpAny_bind (wpAny_setField_rec gz (by simp) fun m1 z1 c1 => ?_)
 replace z1 : IsZip m1 Z A1 A2 .ellipsis:=z1
 replace c1 : Heap.SameBut Z hp m1:=c1
 refine wpAny_bind ?_
 simp only [List.zipIdx_cons,List.zipIdx_nil,List.forIn_cons,List.forIn_nil]; refine wpAny_bind (wpAny_bind (wpAny_onRaise ?_))
 show wpAny _ _ (Builtin.SmallTypes.nextOf (.ref J1) >>= _) _ _ _
 rcases le with le | ⟨l1,le⟩
 ·refine wpAny_bind (le _ _ _ (q8m D1 M.z1 t1 c1) fun m2 e c2 he => ?_)
  obtain ⟨oe,e1,e2⟩:=he
  replace c2 : Heap.ExtBut J1 m1 m2:=c2
  have z2 : IsZip m2 Z A1 A2 .ellipsis:=c2 _ _ M.j1z.symm z1
  have hez : e ≠ Z:=fun q => by subst q; rw [z2] at e1; cases e1; simp at e2
  exact wpAny_setField_rec z2 (by simp) fun m3 _ c3 => kk m3 e _ (fun c o q1 _ q3 _ x => c3.extBut _ _ q1 (c2 _ _ q3 (c1.extBut _ _ q1 x))) ⟨oe,c3.extBut _ _ hez e1,e2⟩
 ·refine wpAny_bind (D1.item k _ _ _ l1 (q8m D1 M.z1 t1 c1) fun x m2 tk1 px u1 c2 => wpAny_pure ?_)
  replace c2 : Heap.SameBut J1 m1 m2:=c2
  have o2 : IsPair m2 A2 a b:=c2.extBut _ _ M.a2j1 (c1.extBut _ _ M.a2z g2)
  refine wpAny_bind (wpAny_seqItems o2 rfl ?_)
  refine wpAny_bind (wpAny_updateSeq_pair o2 fun m3 o3 c3 => ?_)
  replace c3 : Heap.SameBut A2 m2 m3:=c3
  refine wpAny_bind (wpAny_letGo (wpAny_pure ?_)); refine wpAny_bind (wpAny_bind (wpAny_onRaise ?_))
  show wpAny _ _ (Builtin.SmallTypes.nextOf (.ref J2) >>= _) _ _ _
  refine wpAny_bind (le _ _ _ (q8m D2 M.o2 (q8m D2 M.x2 (q8m D2 M.z2 t2 c1) c2) c3) fun m4 e c4 he => ?_)
  obtain ⟨oe,e1,e2⟩:=he
  replace c4 : Heap.ExtBut J2 m3 m4:=c4
  have z4 : IsZip m4 Z A1 A2 .ellipsis:=c4 _ _ M.j2z.symm (c3.extBut _ _ M.a2z.symm (c2.extBut _ _ M.j1z.symm z1))
  have hez : e ≠ Z:=fun q => by subst q; rw [z4] at e1; cases e1; simp at e2
  exact wpAny_setField_rec z4 (by simp) fun m5 _ c5 => kk m5 e _ (fun c o q1 q2 q3 q4 x => c5.extBut _ _ q1 (c4 _ _ q4 (c3.extBut _ _ q2 (c2.extBut _ _ q3 (c1.extBut _ _ q1 x))))) ⟨oe,c5.extBut _ _ hez e1,e2⟩
end
end DL
namespace DL
open PySem PySem.Spec PyProof.Rows L2
abbrev zT1 (h : Heap) (l1 : Addr) : Heap:=h.push { cls:=.type "tuple_iterator",data:=.fields #[.ref l1,.int 0 0] }
abbrev zT2 (h : Heap) (l1 l2 : Addr) : Heap:=(zT1 h l1).push { cls:=.type "list_iterator",data:=.fields #[.ref l2,.int 0 0] }
abbrev zT3 (h : Heap) (l1 l2 : Addr) : Heap:=(zT2 h l1 l2).push { cls:=.type "tuple",data:=.seq #[.ref h.objs.size,.ref (zT1 h l1).objs.size] }
abbrev zT4 (h : Heap) (l1 l2 : Addr) : Heap:=(zT3 h l1 l2).push { cls:=.type "tuple",data:=.seq #[.none,.none] }
abbrev zT5 (h : Heap) (l1 l2 : Addr) : Heap:=(zT4 h l1 l2).push { cls:=.type "zip",data:=.fields #[.none,.bool false,.bool false,.ref (zT2 h l1 l2).objs.size,.ref (zT3 h l1 l2).objs.size] }
theorem z6s (l1 l2 : Addr) (xs ys : Array Value) :
  Meets (Builtin.«zip.__new__» ⟨[.type "zip",.ref l1,.ref l2],[]⟩) (fun _ R s => s.heap.IsTuple l1 xs /\ s.heap.IsList l2 ys /\ R (.ok (.ret (.ref (zT4 s.heap l1 l2).objs.size))) { s with heap:=zT5 s.heap l1 l2 }) :=
 .of_wp fun prog w A R s h => by
  obtain ⟨hp,g,d,tk,os⟩:=s; obtain ⟨gl1,gl2,h⟩:=h
  have hsub:=sub_zip
  have gL1 : Heap.IsTuple (Shared.heap ⟨hp,g,d,tk,os⟩) l1 xs:=gl1
  have gL2 : Heap.IsList (Shared.heap ⟨hp.push { cls:=.type "tuple_iterator",data:=.fields #[.ref l1,.int 0 0] },g,d,tk,os⟩) l2 ys:=Heap.IsList.push gl2 _
  wp_walk using wpAny_pyIter_tuple gL1,wpAny_pyIter_list gL2
  exact ⟨_,rfl,h⟩
theorem z9u {prog : Program} {w : World} {A : Around} {E : Value -> Shared -> Prop} {s : Shared} {l1 l2 : Addr} {xs ys : Array Value} {Q : Value -> Shared -> Prop} (gl1 : s.heap.IsTuple l1 xs) (gl2 : s.heap.IsList l2 ys)
  (h : ∀ h',IsZip h' (s.heap.objs.size + 4) (s.heap.objs.size + 2) (s.heap.objs.size + 3) .none -> IsPair h' (s.heap.objs.size + 2) (.ref s.heap.objs.size) (.ref (s.heap.objs.size + 1)) →
   IsPair h' (s.heap.objs.size + 3) .none .none -> h'.IsTupleIter s.heap.objs.size l1 0 -> h'.IsListIter (s.heap.objs.size + 1) l2 0 -> h'.objs.size = s.heap.objs.size + 5 →
   (∀ c o,s.heap.get? c = some o -> h'.get? c = some o) -> Q (.ref (s.heap.objs.size + 4)) { s with heap:=h' }) : wpAny (model prog w) A (call (.type "zip") [.ref l1,.ref l2]) Q E s:=by
 refine callType_new F.called_zip (by decide) (F.typeCall_zip_2 _ _) (F.newCall_zip_2 _ _) (fun obj => F.args_object_init_3 obj _ _) F.entry_zip_new (z6s l1 l2 xs ys) ⟨gl1,gl2,?_⟩
 obtain ⟨h1,e1⟩ : ∃ h1,zT1 s.heap l1 = h1:=⟨_,rfl⟩
 obtain ⟨h2,e2⟩ : ∃ h2,h1.push { cls:=.type "list_iterator",data:=.fields #[.ref l2,.int 0 0] } = h2:=⟨_,rfl⟩
 obtain ⟨h3,e3⟩ : ∃ h3,h2.push { cls:=.type "tuple",data:=.seq #[.ref s.heap.objs.size,.ref h1.objs.size] } = h3:=⟨_,rfl⟩
 obtain ⟨h4,e4⟩ : ∃ h4,h3.push { cls:=.type "tuple",data:=.seq #[.none,.none] } = h4:=⟨_,rfl⟩
 obtain ⟨h5,e5⟩ : ∃ h5,h4.push { cls:=.type "zip",data:=.fields #[.none,.bool false,.bool false,.ref h2.objs.size,.ref h3.objs.size] } = h5:=⟨_,rfl⟩
 have a4 : zT4 s.heap l1 l2 = h4:=by rw [<- e4,<- e3,<- e2,<- e1]
 have a5 : zT5 s.heap l1 l2 = h5:=by rw [<- e5,<- e4,<- e3,<- e2,<- e1]
 rw [a4,a5]
 have z1 : h1.objs.size = s.heap.objs.size + 1:=by rw [<- e1]; exact Heap.size_push ..
 have z2 : h2.objs.size = s.heap.objs.size + 2:=by rw [<- e2,Heap.size_push,z1]
 have z3 : h3.objs.size = s.heap.objs.size + 3:=by rw [<- e3,Heap.size_push,z2]
 have z4 : h4.objs.size = s.heap.objs.size + 4:=by rw [<- e4,Heap.size_push,z3]
 have z5 : h5.objs.size = s.heap.objs.size + 5:=by rw [<- e5,Heap.size_push,z4]
 have u1 : ∀ c o,s.heap.get? c = some o -> h1.get? c = some o:=fun c o x => by rw [<- e1]; exact Heap.get?_push_of_some _ x
 have u2 : ∀ c o,h1.get? c = some o -> h2.get? c = some o:=fun c o x => by rw [<- e2]; exact Heap.get?_push_of_some _ x
 have u3 : ∀ c o,h2.get? c = some o -> h3.get? c = some o:=fun c o x => by rw [<- e3]; exact Heap.get?_push_of_some _ x
 have u4 : ∀ c o,h3.get? c = some o -> h4.get? c = some o:=fun c o x => by rw [<- e4]; exact Heap.get?_push_of_some _ x
 have u5 : ∀ c o,h4.get? c = some o -> h5.get? c = some o:=fun c o x => by rw [<- e5]; exact Heap.get?_push_of_some _ x
 have p1 : h1.get? s.heap.objs.size = some { cls:=.type "tuple_iterator",data:=.fields #[.ref l1,.int 0 0] }:=by rw [<- e1]; exact Heap.get?_push_size _ rfl
 have p2 : h2.get? (s.heap.objs.size + 1) = some { cls:=.type "list_iterator",data:=.fields #[.ref l2,.int 0 0] }:=by rw [<- z1,<- e2]; exact Heap.get?_push_size _ rfl
 have p3 : h3.get? (s.heap.objs.size + 2) = some { cls:=.type "tuple",data:=.seq #[.ref s.heap.objs.size,.ref h1.objs.size] }:=by rw [<- z2,<- e3]; exact Heap.get?_push_size _ rfl
 have p4 : h4.get? (s.heap.objs.size + 3) = some { cls:=.type "tuple",data:=.seq #[.none,.none] }:=by rw [<- z3,<- e4]; exact Heap.get?_push_size _ rfl
 have p5 : h5.get? (s.heap.objs.size + 4) = some { cls:=.type "zip",data:=.fields #[.none,.bool false,.bool false,.ref h2.objs.size,.ref h3.objs.size] }:=by rw [<- z4,<- e5]; exact Heap.get?_push_size _ rfl
 rw [z1] at p3
 rw [z2,z3] at p5
 show _ /\ _
 rw [z4]
 exact ⟨⟨_,p5,rfl⟩,h _ p5 (u5 _ _ (u4 _ _ p3)) (u5 _ _ p4) ⟨_,u5 _ _ (u4 _ _ (u3 _ _ (u2 _ _ p1))),rfl,rfl⟩ ⟨_,u5 _ _ (u4 _ _ (u3 _ _ p2)),rfl,rfl⟩ z5 fun c o x => u5 _ _ (u4 _ _ (u3 _ _ (u2 _ _ (u1 _ _ x))))⟩
def Itz (K : PySem.W.Frag) (a b : Addr) : It :=
 ⟨fun i H => ∃ xs ys x y, SqT K H a xs /\ SqL K H b ys /\ xs[i]? = some x /\ ys[i]? = some y,
  fun i H v H' => ∃ x y p, (∀ xs, SqT K H a xs -> xs[i]? = some x) /\ (∀ ys, SqL K H b ys -> ys[i]? = some y) /\ H p = none /\ v = .ref p /\ H' = upd H p (.tup [x, y]),
  fun i H => ∃ xs ys, SqT K H a xs /\ SqL K H b ys /\ (xs.length <= i \/ (i < xs.length /\ ys.length <= i))⟩
theorem k8r {P : Program} {w : World} {K : PySem.W.Frag} {ts : List Expr} {x1} {tp : Pos} {a b z A1 A2 j1 j2 : Addr} (M : ZA z A1 A2 j1 j2 [j1,a] [j2,b]) (n1 : a ≠ j1) (n2 : b ≠ j2) :
  k4u P w K (.Tuple ts x1 tp) (Itz K a b) [z,A1,A2,j1,j2] z (fun i h => IsZip h z A1 A2 .none /\ IsPair h A1 (.ref j1) (.ref j2) /\ (∃ u v,IsPair h A2 u v) /\ h.IsTupleIter j1 a i /\ h.IsListIter j2 b i) where
 mem:=by simp
 obj:=fun i h st c hc => by
  obtain ⟨s1,s2,⟨u,v,s3⟩,⟨o4,q4,c4,d4⟩,⟨o5,q5,c5,d5⟩⟩:=st
  simp only [List.mem_cons,List.not_mem_nil,or_false] at hc
  rcases hc with rfl | rfl | rfl | rfl | rfl
  ·exact ⟨_,s1,fun v z => by cases z⟩
  ·exact ⟨_,s2,fun v z => by cases z⟩
  ·exact ⟨_,s3,fun v z => by cases z⟩
  ·exact ⟨o4,q4,fun v z => by rw [d4] at z; cases z⟩
  ·exact ⟨o5,q5,fun v z => by rw [d5] at z; cases z⟩
 keep:=fun i h h' st k => ⟨k z (by simp) _ st.1,k A1 (by simp) _ st.2.1,let ⟨u,v,q⟩:=st.2.2.1; ⟨u,v,k A2 (by simp) _ q⟩,st.2.2.2.1.at fun o q => k j1 (by simp) o q,st.2.2.2.2.at fun o q => k j2 (by simp) o q⟩
 item:=by
  intro X hP hw hK hc i pins s σ H E I hf st hg
  subst hP hw hK
  obtain ⟨xs,ys,x,y,hq1,hq2,hx,hy⟩:=hg
  obtain ⟨its1,rv1,p1,_⟩:=I.tuple hq1
  obtain ⟨its2,rv2,p2,_⟩:=I.list hq2
  obtain ⟨u1,hu1,ru1⟩:=rv1.get hx
  obtain ⟨u2,hu2,ru2⟩:=rv2.get hy
  obtain ⟨s1,s2,⟨v1,v2,s3⟩,s4,s5⟩:=st
  have lz : z < s.heap.objs.size:=Heap.lt_size s1
  have l1:=rv1.length
  have l2:=rv2.length
  have i1 : i < its1.toArray.size:=by have:=(List.getElem?_eq_some_iff.mp hx).1; simp; omega
  have i2 : i < its2.toArray.size:=by have:=(List.getElem?_eq_some_iff.mp hy).1; simp; omega
  have ty : s.TypeIs (.ref z) "zip":=⟨_,s1,rfl⟩
  unfold pyNext
  refine wpAny_bind (wpAny_attempt (wpAny_callSpecial?_slot (name:=Str.ofString "__next__") ty F.slot_zip_next (wpAny_call_entry F.slot_zip_next ty F.entry_zip_next
   (k0w M (k1p (A:=X.A.in1) (I.ok.hd hc) j1 a n1 its1.toArray) (Draws.list (A:=X.A.in1) (I.ok.hd hc) j2 b n2 its2.toArray) s1 s2 s3 ⟨s4,p1⟩ ⟨s5,p2.isList⟩ i1 i2
    fun y1 y2 h' tk hP1 hP2 z' q1 q2 t1 t2 ht hsz hk => wpAny_pure ?_) (F.args_zip_next_1 _))))
  have e1 : u1 = y1:=by
   have : its1.toArray[i]? = some u1:=by simpa using hu1
   rw [this] at hP1; exact Option.some.inj hP1
  have e2 : u2 = y2:=by
   have : its2.toArray[i]? = some u2:=by simpa using hu2
   rw [this] at hP2; exact Option.some.inj hP2
  subst e1 e2
  refine ⟨_,rfl,wpAny_letOwnedTupleGo_zip z' fun h2 se sb => ?_⟩
  have sb : Heap.SameBut z h' h2:=sb
  have ht2 : IsPair h2 s.heap.objs.size u1 u2:=(sb.2 _ (Nat.ne_of_gt lz)).trans ht
  have kp : ∀ c o,c ≠ z -> c ≠ A2 -> c ≠ j1 -> c ≠ j2 -> s.heap.get? c = some o -> h2.get? c = some o:=fun c o m1 m2 m3 m4 q => (sb.2 c m1).trans (hk c o m1 m2 m3 m4 q)
  have hp : H s.heap.objs.size = none:=I.fresh
  have ltf : ∀ c ∈ [z,A1,A2,j1,j2],c < s.heap.objs.size:=fun c hc => by
   simp only [List.mem_cons,List.not_mem_nil,or_false] at hc
   rcases hc with rfl | rfl | rfl | rfl | rfl
   ·exact Heap.lt_size s1
   ·exact Heap.lt_size s2
   ·exact Heap.lt_size s3
   ·obtain ⟨o,q,_⟩:=s4; exact Heap.lt_size q
   ·obtain ⟨o,q,_⟩:=s5; exact Heap.lt_size q
  have I1 : Inv X pins σ (upd H s.heap.objs.size (.tup [x,y])) { s with heap:=h2,toks:=tk }:=by
   have IA : Inv X pins σ (upd H s.heap.objs.size (.tup [x,y])) { s with heap:=s.heap.push { cls:=.type "tuple",data:=.seq #[u1,u2] },toks:=s.toks } :=
    I.laid (fun c o q => Heap.get?_push_of_some _ q) (Nat.le_refl _) ⟨by show 2 <= sizeLine; decide,[u1,u2],.cons ru1 (.cons ru2 .nil),⟨_,Heap.get?_push_size _ rfl,rfl,_,rfl⟩⟩
   refine z0r (s:={ s with heap:=s.heap.push { cls:=.type "tuple",data:=.seq #[u1,u2] },toks:=s.toks }) (fp:=[z,A1,A2,j1,j2]) IA (fun c o hb q => ?_) (fun c hb => ?_)
   ·simp only [List.mem_cons,List.not_mem_nil,or_false,not_or] at hb
    rcases Heap.get?_push_cases q with ⟨rfl,rfl⟩ | q
    ·exact ht2
    ·exact kp c o hb.1 hb.2.2.1 hb.2.2.2.1 hb.2.2.2.2 q
   ·obtain ⟨q0,q1,q2,q3,q4,q5⟩:=hf c hb
    exact ⟨by rw [q1y (Nat.ne_of_lt (ltf c hb))]; exact q0,q1,q2,q3,q4,q5⟩
  refine ⟨.ref s.heap.objs.size,_,I1,rfl,⟨x,y,_,fun zs hz => by rw [I.tuple_inj hz hq1]; exact hx,fun zs hz => by rw [I.list_inj hz hq2]; exact hy,hp,rfl,rfl⟩,
   ⟨se,(sb.2 _ M.a1z).trans q1,⟨_,_,(sb.2 _ M.a2z).trans q2⟩,t1.1.at fun o q => (sb.2 _ M.j1z).trans q,t2.1.at fun o q => (sb.2 _ M.j2z).trans q⟩,fun c hb => ?_⟩
  rw [q1y (Nat.ne_of_lt (ltf c hb))]; exact (hf c hb).1
 done:=by
  intro X hP hw hK hc i pins s σ H E I hf st hg
  subst hP hw hK
  obtain ⟨xs,ys,hq1,hq2,hx⟩:=hg
  obtain ⟨its1,rv1,p1,_⟩:=I.tuple hq1
  obtain ⟨its2,rv2,p2,_⟩:=I.list hq2
  obtain ⟨s1,s2,⟨v1,v2,s3⟩,s4,s5⟩:=st
  have l1:=rv1.length
  have l2:=rv2.length
  have ty : s.TypeIs (.ref z) "zip":=⟨_,s1,rfl⟩
  unfold pyNext
  refine wpAny_bind (wpAny_attempt (wpAny_callSpecial?_slot (name:=Str.ofString "__next__") ty F.slot_zip_next (wpAny_call_entry F.slot_zip_next ty F.entry_zip_next
   (k7e M (k1p (A:=X.A.in1) (I.ok.hd hc) j1 a n1 its1.toArray) (Draws.list (A:=X.A.in1) (I.ok.hd hc) j2 b n2 its2.toArray) s1 s2 s3 ⟨s4,p1⟩ ⟨s5,p2.isList⟩ (hx.imp
     (fun q s' Q' E' st k => z6p (I.ok.hd hc) st.1 st.2 (by simp; omega) k) fun q => ⟨by simp; omega,fun s' Q' E' st k => wpAny_nextOf_list_end (I.ok.hd hc) st.1 st.2 (by simp; omega) k⟩)
    fun h' e tk hk he => ?_) (F.args_zip_next_1 _))))
  obtain ⟨o,c1,c2⟩:=he
  refine wpAny_bind (wpAny_isInstance (T:="StopIteration") (b:=true) ⟨o,c1,c2⟩ isSubtype_stop ?_)
  refine wpAny_pure ⟨rfl,?_⟩
  refine z0r (fp:=[z,A1,A2,j1,j2]) I (fun c o hb q => ?_) fun c hb => hf c hb
  simp only [List.mem_cons,List.not_mem_nil,or_false,not_or] at hb
  exact hk c o hb.1 hb.2.2.1 hb.2.2.2.1 hb.2.2.2.2 q
 self:=fun A i s Q E st h => wpAny_pyIter_zip st.1 h
end DL
namespace DL
open PySem PySem.Spec PyProof.Rows L2
section
variable {X : Cx} {a b : Expr} {da db : DE} {dA : DA} {pos : Pos}
theorem j6g {a b : Nat} (h : a < b) : a ≠ b:=Nat.ne_of_lt h
theorem w1b (m q r : Nat) (hq : q < m) (hr : r < m) : ZA (m + 4) (m + 2) (m + 3) m (m + 1) [m,q] [m + 1,r] :=
 ⟨(fun h => by have h' : (m + 2 : Nat) = m + 4:=h; omega),
  (fun h => by have h' : (m + 3 : Nat) = m + 4:=h; omega),
  (fun h => by have h' : (m : Nat) = m + 4:=h; omega),
  (fun h => by have h' : (m + 1 : Nat) = m + 4:=h; omega),
  (fun h => by have h' : (m + 2 : Nat) = m + 3:=h; omega),
  (fun h => by have h' : (m + 2 : Nat) = m:=h; omega),
  (fun h => by have h' : (m + 2 : Nat) = m + 1:=h; omega),
  (fun h => by have h' : (m + 3 : Nat) = m:=h; omega),
  (fun h => by have h' : (m + 3 : Nat) = m + 1:=h; omega),
  (fun h => by have h' : (m : Nat) = m + 1:=h; omega),
  (fun h => by
   rcases List.mem_cons.mp h with h | h
   ·have h' : (m + 4 : Nat) = m:=h; omega
   ·have h' : (m + 4 : Nat) = q:=List.mem_singleton.mp h; omega),
  (fun h => by
   rcases List.mem_cons.mp h with h | h
   ·have h' : (m + 4 : Nat) = m + 1:=h; omega
   ·have h' : (m + 4 : Nat) = r:=List.mem_singleton.mp h; omega),
  (fun h => by
   rcases List.mem_cons.mp h with h | h
   ·have h' : (m + 3 : Nat) = m:=h; omega
   ·have h' : (m + 3 : Nat) = q:=List.mem_singleton.mp h; omega),
  (fun h => by
   rcases List.mem_cons.mp h with h | h
   ·have h' : (m + 3 : Nat) = m + 1:=h; omega
   ·have h' : (m + 3 : Nat) = r:=List.mem_singleton.mp h; omega),
  (fun h => by
   rcases List.mem_cons.mp h with h | h
   ·have h' : (m + 1 : Nat) = m:=h; omega
   ·have h' : (m + 1 : Nat) = q:=List.mem_singleton.mp h; omega),
  (fun h => by
   rcases List.mem_cons.mp h with h | h
   ·have h' : (m : Nat) = m + 1:=h; omega
   ·have h' : (m : Nat) = r:=List.mem_singleton.mp h; omega)⟩
def j0e (xs ys : List D) : List D:=List.zipWith (fun d e => D.tup [d,e]) xs ys
theorem z8v {xs ys : List D} {i : Nat} {d : D} (h : (j0e xs ys)[i]? = some d) : ∃ x y,xs[i]? = some x /\ ys[i]? = some y /\ d = .tup [x,y]:=by
 unfold j0e at h
 rw [List.getElem?_zipWith] at h
 cases hx : xs[i]? with
 | none => rw [hx] at h; simp at h
 | some x =>
  cases hy : ys[i]? with
  | none => rw [hx,hy] at h; simp at h
  | some y => rw [hx,hy] at h; exact ⟨x,y,rfl,rfl,(Option.some.inj h).symm⟩
theorem z7s (xs ys : List D) : (j0e xs ys).length = min xs.length ys.length:=by unfold j0e; rw [List.length_zipWith]
theorem j8e {K : PySem.W.Frag} {p q : Addr} {ds es : List D} : JS (Itz K p q) K (fun O H => Rep K O H (.ref p) (.tup ds) /\ Rep K O H (.ref q) (.lst es)) (j0e ds es):=by
 intro O H i M r
 obtain ⟨r1,r2⟩:=r
 obtain ⟨ys,g1,g2⟩:=SqL.of_rep r2
 cases r1 with
 | tup h1 h2 =>
 replace h1:=h1.1
 rename_i xs
 refine ⟨fun d hd => ?_,fun hl => ⟨xs,ys,h1,g1,?_⟩⟩
 ·obtain ⟨x,y,e1,e2,rfl⟩:=z8v hd
  obtain ⟨x',f1,f2⟩:=h2.getD e1
  obtain ⟨y',f3,f4⟩:=g2.getD e2
  refine ⟨⟨xs,ys,x',y',h1,g1,f1,f3⟩,fun v H' z => ?_⟩
  obtain ⟨u,w,p',k1,k2,k3,rfl,rfl⟩:=z
  have:=k1 xs h1
  rw [f1] at this
  cases this
  have:=k2 ys g1
  rw [f3] at this
  cases this
  exact ⟨q1w k3 _,.tup (SqP.of q2f) (.cons (f2.same (q1w k3 _)) (.cons (f4.same (q1w k3 _)) .nil))⟩
 ·rw [z7s] at hl
  have l1:=h2.length
  have l2:=g2.length
  omega
def w3h : List D -> (List D -> Prop) -> Prop
 | [.tup xs,.lst ys],R => R (j0e xs ys)
 | _,_ => False
def w3b (dA : DA) : DA:=fun ρ R => dA ρ fun ds => w3h ds R
theorem j9s {ts : List Expr} {x1} {tp p : Pos} (hg : Gl X "zip") (hm : X.mg "zip" = none) (ha : PAX [false,false] X [a,b] dA) (hs : starEach [a,b] X.env = (false,eval a X.env) :: starEach [b] X.env:=by rfl)
  (hpl : (backTo pos (starEach [b] X.env)).any (·.1) = false:=by rfl) : PIX X (.Tuple ts x1 tp) (.Call (.Name "zip" p) [a,b] [] pos) (w3b dA):=by
 obtain ⟨ta,pa,qa⟩:=ha
 have hpi : PI X (.Tuple ts x1 tp) (.Call (.Name "zip" p) [a,b] [] pos) (fun σ H R => ta σ H fun vs H1 => ∃ q r,vs = [.ref q,.ref r] /\ (∃ xs,SqT X.K H1 q xs) /\ (∃ ys,SqL X.K H1 r ys) /\ R (Itz X.K q r) H1):=by
  intro pins s σ H R I h
  refine Call_ (q8c I hg hm boot_zip (PyProof.Rows.callWith_type1 (thn (pa pos pins s σ H _ I h) fun us s1 ⟨vs,H1,I1,r1,q1⟩ => ?_) hs hpl))
  obtain ⟨q,r,rfl,⟨xs,hq⟩,⟨ys,hr⟩,hR⟩:=q1
  obtain ⟨u,v,rfl,ru,rv⟩:=vals2 r1
  cases ru
  cases rv
  obtain ⟨its,_,p1,_⟩:=I1.tuple hq
  obtain ⟨jts,_,p2,_⟩:=I1.list hr
  have lq : q < s1.heap.objs.size:=by obtain ⟨o,z,_⟩:=p1; exact Heap.lt_size z
  have lr : r < s1.heap.objs.size:=by obtain ⟨o,z,_⟩:=p2.isList; exact Heap.lt_size z
  refine z9u p1 p2.isList fun h' z1 z2 z3 z4 z5 hsz hk => ?_
  refine wpAny_pyIter_zip z1 ?_
  have I2 : Inv X pins σ H1 { s1 with heap:=h' }:=I1.kept (t':=s1.toks) hk
  have fr : ∀ c,s1.heap.objs.size <= c -> z3p X pins H1 c:=fun c hb => I1.fpOk hb (I1.hok.fresh hb)
  generalize s1.heap.objs.size = m at z1 z2 z3 z4 z5 lq lr fr
  refine ⟨m + 4,[m + 4,m + 2,m + 3,m,m + 1],_,_,H1,rfl,I2,k8r (a:=q) (b:=r) (w1b m q r lq lr) (j6g lq) (j6g (Nat.lt_succ_of_lt lr)),⟨z1,z2,⟨_,_,z3⟩,z4,z5⟩,fun c hb => ?_,hR⟩
  simp only [List.mem_cons,List.not_mem_nil,or_false] at hb
  rcases hb with rfl | rfl | rfl | rfl | rfl
  ·exact fr _ (Nat.le_add_right _ _)
  ·exact fr _ (Nat.le_add_right _ _)
  ·exact fr _ (Nat.le_add_right _ _)
  ·exact fr _ (Nat.le_refl _)
  ·exact fr _ (Nat.le_add_right _ _)
 refine ⟨_,hpi,fun W H0 σ H ρ O R Rh S h k => ?_⟩
 refine qa W H0 σ H ρ O _ _ S h fun vs ds H1 e1 r1 h1 => ?_
 match ds,r1,h1 with
 | [.tup xs,.lst ys],.v r2 (.v r3 .nil),h1 =>
  obtain ⟨q,us,rfl,g1,g2⟩:=q3y (.inl r2)
  obtain ⟨r,ws,rfl,g3,g4⟩:=q3t (.inl r3)
  exact ⟨q,r,rfl,⟨us,g1⟩,⟨ws,g3⟩,k _ H1 _ _ e1 ⟨r2,r3⟩ (fun O1 H1 O2 H2 m f n z => ⟨z.1.move m f n,z.2.move m f n⟩) j8e h1⟩
end
end DL
namespace DL
open PySem PySem.Spec PyProof.Rows L2
section
variable {m : Md} {X : Cx} {a b e : Expr} {da db de : DE} {pos : Pos} {x : Str}
theorem k0g (bs : List Bool) : ((List.range bs.length).any fun i => (bs[i]?).getD false) = bs.any id:=by
 rw [Bool.eq_iff_iff,List.any_eq_true,List.any_eq_true]
 constructor
 ·rintro ⟨i,hi,h⟩
  have hl : i < bs.length:=List.mem_range.mp hi
  rw [List.getElem?_eq_getElem hl] at h
  exact ⟨bs[i],List.getElem_mem hl,h⟩
 ·rintro ⟨b,hb,h⟩
  obtain ⟨i,hl,rfl⟩:=List.getElem_of_mem hb
  exact ⟨i,List.mem_range.mpr hl,by rw [List.getElem?_eq_getElem hl]; exact h⟩
theorem k1y (hc : X.calm = true) : q6s X (.builtin "any") (fun xs H Q => ∃ p,∃ bs : List Bool,xs = [.ref p] /\ SqL X.K H p (bs.map V.bl) /\ Q (.bl (bs.any id)) H):=by
 intro pins s σ H xs us Q I rv h
 obtain ⟨p,bs,rfl,hp,q⟩:=h
 obtain ⟨u,rfl,ru⟩:=vals1 rv
 cases ru
 obtain ⟨its,r,pl,_⟩:=I.list hp
 have hb:=q9s r
 have hl:=pl.isList
 have hlt : p < s.heap.objs.size:=by obtain ⟨_,e,_⟩:=hl; exact Heap.lt_size e
 refine call_any_walk (wpAny_pyIter_list hl ?_)
 refine ⟨s.heap.objs.size,[s.heap.objs.size,p],[s.heap.objs.size],its.toArray.size,_,_,fun i => (bs[i]?).getD false,rfl,Walks.list (A:=X.A.in1) (I.ok.hd hc) _ p (Nat.ne_of_lt hlt) its.toArray,
  ⟨⟨_,Heap.get?_push_size _ rfl,rfl,rfl⟩,hl.push _⟩,fun i v s' Q' E' hP hQ => ?_,fun h' tk hk => ?_⟩
 ·obtain ⟨b,e,rfl⟩:=hb.get i v (by simpa using hP)
  simp only [e,Option.getD_some] at hQ
  exact wpAny_truthy_bool hQ
 ·have e : ((List.range its.toArray.size).any fun i => (bs[i]?).getD false) = bs.any id:=by
   rw [List.size_toArray,hb.length]; exact k0g bs
  rw [e]
  exact ⟨.bl _,H,I.kept (k0a hk),rfl,q⟩
def w0i : GA
 | [.lst xs],R => q3n (k0j xs) fun bs => R (.bl (bs.any id))
 | _,_ => False
theorem j9m (hc : X.calm = true) : z0s .v [true] X (.builtin "any") w0i:=by
 refine ⟨_,k1y hc,fun O H vs ds R Q M r hg k => ?_⟩
 have hl:=r.length.2
 match ds,hl,r,hg with
 | [d],_,r,hg =>
  obtain ⟨v,rfl,rv⟩:=r.b1
  cases d with
  | lst xs =>
   obtain ⟨a,ys,rfl,h1,h2⟩:=q3t rv
   cases hs : k0j xs with
   | none => simp only [w0i,hs,q3n] at hg
   | some bs =>
    simp only [w0i,hs,q3n] at hg
    have ex:=z4e h2 hs
    subst ex
    exact ⟨a,bs,rfl,h1,k _ _ _ (q2h.refl _) (.bl _) hg⟩
  | _ => exact hg.elim
end
end DL
namespace DL
open PySem PySem.Spec PyProof.Rows L2
def z4c (ps : List (Key × D)) : List Key × List D:=ps.foldl (fun acc p => (q7k acc.1 p.1,q6z acc.1 acc.2 p.1 p.2)) ([],[])
end DL
namespace L2
open PySem PySem.Spec PyProof.Rows
section
variable {X : Cx} {pins : List (Addr × Obj)} {σ : St} {H : Hp} {s : Shared} {a b : Addr} {kvs : List (List Key × V)} {k : List Key} {v : V} {A : Around} {E : Value -> Shared -> Prop}
theorem k4h (I : Inv X pins σ H s) (e : SqT X.K H b (k.map kV)) : (tupleKind (q3l X.prog X.w)).is s.heap k b:=by
 obtain ⟨its,r,⟨o,h1,h2,n,h3⟩,_⟩:=I.tuple e
 exact ⟨o,its.toArray,n,h1,h2,h3,by simpa using z0j r⟩
theorem k1u {Q : Value -> Shared -> Prop} (hu : A.units + 1 < cLine) (I : Inv X pins σ H s) (e : Rd H a (.dT kvs)) (eb : SqT X.K H b (k.map kV)) (l : q7o kvs k = some v) (h : ∀ w' s',Inv X pins σ H s' -> RelV v w' -> Q w' s') :
  wpAny (model X.prog X.w) A (getItem (.ref a) (.ref b)) Q E s:=by
 obtain ⟨z,hd,xs,rel,dd⟩:=z0y I.hok e
 obtain ⟨w',hw,rw'⟩:=z9l.some_of (v:=v) (o:=(atKey xs k).map (·.2)) (by rw [<- l]; exact rel.val k)
 obtain ⟨p,hp,hp2⟩:=Option.map_eq_some_iff.mp hw
 refine wpAny_getItem_heap (tupleKind_room_in1 hu) (k4h I eb) dd hp ?_
 rw [hp2]
 exact h w' _ (I.tok _) rw'
theorem w4g {Q : Value -> Shared -> Prop} (hu : A.units + 1 < cLine) (I : Inv X pins σ H s) (e : Rd H a (.dT kvs)) (eb : SqT X.K H b (k.map kV)) (h : ∀ s',Inv X pins σ H s' -> Q (.bool (q7o kvs k).isSome) s') :
  wpAny (model X.prog X.w) A (compareOp .In (.ref b) (.ref a)) Q E s:=by
 obtain ⟨z,hd,xs,rel,dd⟩:=z0y I.hok e
 refine wpAny_in_heap (tupleKind_room_in1 hu) (k4h I eb) hd dd ?_
 have q:=(rel.val k).isSome_eq
 rw [Option.isSome_map] at q
 rw [<- q]
 exact h _ (I.tok _)
theorem j1n {Q : Value -> Shared -> Prop} (hu : A.units + 1 < cLine) (I : Inv X pins σ H s) (e : Rd H a (.dT kvs)) (eb : SqT X.K H b (k.map kV)) (h : ∀ s',Inv X pins σ H s' -> Q (.bool (!(q7o kvs k).isSome)) s') :
  wpAny (model X.prog X.w) A (compareOp .NotIn (.ref b) (.ref a)) Q E s:=by
 obtain ⟨z,hd,xs,rel,dd⟩:=z0y I.hok e
 refine wpAny_notIn_heap (tupleKind_room_in1 hu) (k4h I eb) hd dd ?_
 have q:=(rel.val k).isSome_eq
 rw [Option.isSome_map] at q
 rw [<- q]
 exact h _ (I.tok _)
theorem k7h (hu : X.A.units + 1 < cLine) : IxR X (fun x y H Q => ∃ a b kvs k v,x = .ref a /\ y = .ref b /\ Rd H a (.dT kvs) /\ SqT X.K H b (k.map kV) /\ q7o kvs k = some v /\ Q v H):=by
 intro value slice pins s σ H x y v u Q I rx ry h hs
 obtain ⟨a,b,kvs,k,z,rfl,rfl,e,eb,l,q⟩:=h
 cases rx
 cases ry
 have hT : s.TypeIs (.ref a) "dict":=(k3y I (.inr ⟨kvs,e⟩)).1
 unfold subscriptTail
 refine wpAny_bind ?_
 rw [getitemInPython_of_ne hT.not_modules]
 refine wpAny_bind (wpAny_specialOf hT PySem.F.slot_dict_getitem.lookup ?_)
 have fin : wpAny (model X.prog X.w) X.A (subscripted slice false (.ref a) (.ref b)) (fun r s₃ => wpAny (model X.prog X.w) X.A (letTemporaryGo value (.ref a) r >>= fun _ => pure r) (EP X pins σ Q) X.xe s₃) X.xe s:=by
  rw [hs]
  exact wpAny_operating (k1u hu I e eb l fun w' s3 I3 rw' => wpAny_bind (wpAny_letTemporaryGo (wpAny_pure ⟨z,H,I3,rw',q⟩)))
 first
  | exact wpAny_pure (wpAny_bind fin)
  | exact wpAny_bind (wpAny_pure (wpAny_bind fin))
  | exact wpAny_bind fin
theorem j6y (hu : X.A.units + 1 < cLine) : OpR X (compareOp .In) (fun x y H Q => ∃ a b kvs k,y = .ref a /\ x = .ref b /\ Rd H a (.dT kvs) /\ SqT X.K H b (k.map kV) /\ Q (.bl (q7o kvs k).isSome) H):=by
 intro pins s σ H x y v u Q I rx ry h
 obtain ⟨a,b,kvs,k,rfl,rfl,e,eb,q⟩:=h
 cases rx
 cases ry
 exact w4g hu I e eb fun s3 I3 => ⟨.bl _,H,I3,rfl,q⟩
theorem k2p (hu : X.A.units + 1 < cLine) : OpR X (compareOp .NotIn) (fun x y H Q => ∃ a b kvs k,y = .ref a /\ x = .ref b /\ Rd H a (.dT kvs) /\ SqT X.K H b (k.map kV) /\ Q (.bl (!(q7o kvs k).isSome)) H):=by
 intro pins s σ H x y v u Q I rx ry h
 obtain ⟨a,b,kvs,k,rfl,rfl,e,eb,q⟩:=h
 cases rx
 cases ry
 exact j1n hu I e eb fun s3 I3 => ⟨.bl _,H,I3,rfl,q⟩
end
end L2
namespace DL
open PySem PySem.Spec PyProof.Rows L2
def z0w : List D -> Option (List Key)
 | [] => some []
 | d :: r => (z5u d).bind fun k => (z0w r).map fun ks => k :: ks
def tupK : D -> Option (List Key)
 | .tup ds => z0w ds
 | _ => none
def q3m : List (List Key) -> List D -> List Key -> Option D
 | k :: ks,v :: vs,x => if k = x then some v else q3m ks vs x
 | _,_,_ => none
def z0t : List (List Key) -> List D -> List Key -> D -> List D
 | a :: ks,v :: vs,k,d => (if a = k then d else v) :: z0t ks vs k d
 | _,_,_,_ => []
def q7b (ks : List (List Key)) (k : List Key) : List (List Key):=if k ∈ ks then ks else ks ++ [k]
def q6j (ks : List (List Key)) (ds : List D) (k : List Key) (d : D) : List D:=if k ∈ ks then z0t ks ds k d else ds ++ [d]
section
variable {K : PySem.W.Frag} {O : Addr -> Prop} {H : Hp}
theorem q6x {k : List Key} {d : D} : ∀ {kvs : List (List Key × V)} {ds : List D},q2i K O H (kvs.map (·.2)) ds -> q3m (kvs.map (·.1)) ds k = some d -> ∃ v,q7o kvs k = some v /\ Rep K O H v d
 | [],_,r,h => by cases r; cases h
 | p :: kvs,_,r,h => by
  cases r with
  | @cons x xs e es r1 r2 =>
   by_cases e1 : p.1 = k
   ·rw [q6g e1]
    simp only [List.map_cons,q3m,if_pos e1] at h
    cases h
    exact ⟨_,rfl,r1⟩
   ·rw [q6f e1]
    simp only [List.map_cons,q3m,if_neg e1] at h
    exact q6x r2 h
theorem q4u {k : List Key} : ∀ {kvs : List (List Key × V)} {ds : List D},q2i K O H (kvs.map (·.2)) ds -> (q7o kvs k).isSome = (q3m (kvs.map (·.1)) ds k).isSome
 | [],_,r => by cases r; rfl
 | p :: kvs,_,r => by
  cases r with
  | @cons x xs e es r1 r2 =>
   by_cases e1 : p.1 = k
   ·rw [q6g e1]
    simp only [List.map_cons,q3m,if_pos e1]; rfl
   ·rw [q6f e1]
    simp only [List.map_cons,q3m,if_neg e1]
    exact q4u r2
theorem z7y {k : List Key} (kvs : List (List Key × V)) : (kvs.any fun kv => decide (kv.1 = k)) = decide (k ∈ kvs.map (·.1)):=by
 induction kvs with
 | nil => rfl
 | cons p r ih =>
  rw [List.any_cons,ih,List.map_cons]
  by_cases e : p.1 = k
  ·simp [e]
  ·simp [e,Ne.symm e]
theorem z2a (kvs : List (List Key × V)) (k : List Key) (v : V) : (q6c kvs k v).map (·.1) = q7b (kvs.map (·.1)) k:=by
 unfold q6c q7b
 rw [z7y]
 by_cases h : k ∈ kvs.map (·.1)
 ·rw [if_pos (decide_eq_true h),if_pos h,List.map_map]
  refine List.map_congr_left fun p _ => ?_
  show (if p.1 = k then (p.1,v) else p).1 = p.1
  split <;> rfl
 ·rw [if_neg (by simpa using h),if_neg h,List.map_append]; rfl
theorem z3y {k : List Key} {v : V} {d : D} (r : Rep K O H v d) : ∀ {kvs : List (List Key × V)} {ds : List D},q2i K O H (kvs.map (·.2)) ds -> q2i K O H ((kvs.map fun kv => if kv.1 = k then (kv.1,v) else kv).map (·.2)) (z0t (kvs.map (·.1)) ds k d)
 | [],_,h => by cases h; exact .nil
 | p :: kvs,_,h => by
  cases h with
  | @cons x xs e es r1 r2 =>
   simp only [List.map_cons,z0t]
   refine .cons ?_ (z3y r r2)
   by_cases e1 : p.1 = k
   ·rw [if_pos e1,if_pos e1]; exact r
   ·rw [if_neg e1,if_neg e1]; exact r1
theorem z5j {k : List Key} {v : V} {d : D} (r : Rep K O H v d) {kvs : List (List Key × V)} {ds : List D} (h : q2i K O H (kvs.map (·.2)) ds) : q2i K O H ((q6c kvs k v).map (·.2)) (q6j (kvs.map (·.1)) ds k d):=by
 unfold q6c q6j
 rw [z7y]
 by_cases m : k ∈ kvs.map (·.1)
 ·rw [if_pos (decide_eq_true m),if_pos m]; exact z3y r h
 ·rw [if_neg (by simpa using m),if_neg m,List.map_append]; exact h.app (.cons r .nil)
theorem q7p : ∀ {vs : List V} {ds : List D} {ks : List Key},q2i K O H vs ds -> z0w ds = some ks -> vs = ks.map kV
 | _,_,_,.nil,h => by cases h; rfl
 | _,d :: _,ks,.cons r rs,h => by
  unfold z0w at h
  cases hd : z5u d with
  | none => rw [hd] at h; cases h
  | some k =>
   rw [hd,Option.bind_some] at h
   cases hr : z0w _ with
   | none => rw [hr] at h; cases h
   | some ks' =>
    rw [hr] at h
    cases h
    rw [q7v (.inl r) hd,q7p rs hr]
    rfl
theorem z2u {v : V} {d : D} {k : List Key} (r : q4b K O H v d) (h : tupK d = some k) : ∃ b,v = .ref b /\ SqT K H b (k.map kV):=by
 cases d with
 | tup ds =>
  obtain ⟨a,xs,rfl,h1,h2⟩:=q3y r
  exact ⟨a,rfl,by rw [<- q7p h2 h]; exact h1⟩
 | _ => cases h
theorem q9v {v : V} {ks : List (List Key)} {ds : List D} (r : q4b K O H v (.dT ks ds)) : ∃ a kvs,v = .ref a /\ Rd H a (.dT kvs) /\ kvs.map (·.1) = ks /\ q2i K O H (kvs.map (·.2)) ds:=by
 rcases r with r | ⟨b,hv,_,t⟩
 ·cases r with
  | dT n h r => exact ⟨_,_,rfl,h,rfl,r⟩
 ·cases t with
  | dT h r => exact ⟨_,_,rfl,h,rfl,r⟩
end
section
variable {m : Md} {X : Cx} {a b e : Expr} {da db de : DE} {pos : Pos}
def w0z : G2:=fun d e R => match d with
 | .dT ks ds => q3n (tupK e) fun k => q3n (q3m ks ds k) fun x => R x
 | _ => False
theorem k1r (hu : X.A.units + 1 < cLine) (ha : PX .b X a da) (hb : PX .b X b db) (hs : z5w b) : PX .v X (.Subscript a b pos) (dOp w0z da db):=by
 obtain ⟨ta,pa,qa⟩:=ha
 obtain ⟨tb,pb,qb⟩:=hb
 refine ⟨_,j7w (k7h hu) pa pb hs,fun W H0 σ H ρ O R Q S h k => two (g:=w0z) (ma:=.b) (mb:=.b) qa qb ?_ S h k⟩
 intro O H x y d e R Q M rx ry hg k
 cases d with
 | dT ks ds =>
  have hg' : q3n (tupK e) fun k => q3n (q3m ks ds k) fun x => R x:=hg
  cases hk : tupK e with
  | none => rw [hk] at hg'; exact hg'.elim
  | some key =>
   rw [hk] at hg'
   obtain ⟨c,rfl,h3⟩:=z2u ry hk
   obtain ⟨p,kvs,rfl,h1,rfl,h2⟩:=q9v rx
   cases he : q3m (kvs.map (·.1)) ds key with
   | none => simp only [q3n,he] at hg'
   | some z =>
    simp only [q3n,he] at hg'
    obtain ⟨v,h4,h5⟩:=q6x h2 he
    exact ⟨p,c,kvs,key,v,rfl,rfl,h1,h3,h4,k _ _ _ (q2h.refl _) h5 hg'⟩
 | _ => exact hg.elim
def w0x (neg : Bool) : G2:=fun d e R => match e with
 | .dT ks ds => q3n (tupK d) fun k => R (.bl (neg != (q3m ks ds k).isSome))
 | _ => False
theorem k9i (hu : X.A.units + 1 < cLine) : OpX .v X (compareOp .In) (w0x false):=by
 refine ⟨_,j6y hu,fun O H x y d e R Q M rx ry hg k => ?_⟩
 cases e with
 | dT ks ds =>
  have hg' : q3n (tupK d) fun k => R (.bl (false != (q3m ks ds k).isSome)):=hg
  cases hk : tupK d with
  | none => rw [hk] at hg'; exact hg'.elim
  | some key =>
   rw [hk] at hg'
   obtain ⟨c,rfl,h3⟩:=z2u rx hk
   obtain ⟨p,kvs,rfl,h1,rfl,h2⟩:=q9v ry
   refine ⟨p,c,kvs,key,rfl,rfl,h1,h3,k _ _ _ (q2h.refl _) (.bl _) ?_⟩
   rw [q4u h2]
   simpa [q3n] using hg'
 | _ => exact hg.elim
theorem k4q (hu : X.A.units + 1 < cLine) : OpX .v X (compareOp .NotIn) (w0x true):=by
 refine ⟨_,k2p hu,fun O H x y d e R Q M rx ry hg k => ?_⟩
 cases e with
 | dT ks ds =>
  have hg' : q3n (tupK d) fun k => R (.bl (true != (q3m ks ds k).isSome)):=hg
  cases hk : tupK d with
  | none => rw [hk] at hg'; exact hg'.elim
  | some key =>
   rw [hk] at hg'
   obtain ⟨c,rfl,h3⟩:=z2u rx hk
   obtain ⟨p,kvs,rfl,h1,rfl,h2⟩:=q9v ry
   refine ⟨p,c,kvs,key,rfl,rfl,h1,h3,k _ _ _ (q2h.refl _) (.bl _) ?_⟩
   rw [q4u h2]
   simpa [q3n] using hg'
 | _ => exact hg.elim
def j7z : DE:=fun _ R => R (.dT [] [])
theorem q9m : PX .n X (.Dict [] [] pos) j7z :=
 ⟨_,k5s,fun W H0 σ H ρ O R Q S h k p hp => k _ _ _ (q1w hp _) ⟨p,rfl,hp,.dT (kvs:=[]) q2f .nil⟩ h⟩
def z4z (s : Option (Option Sl)) (p : Prop) : Prop:=match s with
 | some (some (.own (.dT _ _))) => p
 | _ => False
def k3i : Option (Option Sl) -> (List (List Key) -> List D -> Prop) -> Prop
 | some (some (.own (.dT ks ds))),k => k ks ds
 | _,_ => False
def j2g (i : Nat) (dk : DA) (dv : DE) : DS:=fun E ρ => z4z ρ[i]? (dv ρ fun d => dk ρ fun ys => ys.length <= sizeLine /\ k3i ρ[i]? fun ks ds => q3n (z0w ys) fun k => ds.length < sizeLine /\ E.nx (ρ.set i (some (.own (.dT (q7b ks k) (q6j ks ds k d))))))
theorem k3r (i : Nat) {x : Str} {x1} {pos' spos tpos : Pos} {es : List Expr} {ms : List Bool} {dk : DA} {dv : DE} (hu : X.A.units + 1 < cLine) (hk : PAX ms X es dk) (hv : PX .v X e dv) (hm : ms.all (fun b => !b) = true:=by rfl)
  (hs : swapsWith e (some (.Subscript (.Name x pos') (.Tuple es x1 tpos) spos)) pos.line X.env = pure false:=by rfl)
  (hN : X.N[i]? = some x:=by rfl) (hvi : Vis X.env.scope x:=by first | exact Or.inl rfl | exact Or.inr (Or.inl rfl) | exact Or.inr (Or.inr rfl)) (hd : (x == ("__debug__" : Str)) = false:=by decide)
  (hcd : (x == ("__classdict__" : Str)) = false:=by decide) : PSX m X (.Assign [.Subscript (.Name x pos') (.Tuple es x1 tpos) spos] e pos) (j2g i dk dv):=by
 obtain ⟨tk,pk,qk⟩:=hk
 obtain ⟨tv,pv,qv⟩:=hv
 refine ⟨_,z6x hu (q7a hN hvi hd hcd) (k2b pk) pv hs,fun W H0 σ H ρ O E T S h L => ?_⟩
 unfold j2g z4z at h
 split at h
 ·rename_i ks ds hi
  obtain ⟨a,h1,h2,h3,h4,h5⟩:=S.own i _ hi
  cases h5 with
  | dT ha rs =>
   rename_i kvs
   refine qv W H0 σ H ρ O _ _ S h fun v d H1 e1 r1 g1 => ?_
   refine ⟨_,h1,?_⟩
   refine qk W H0 σ H1 ρ O _ _ (S.grow e1) g1 fun ws ys H2 e2 r2 g2 => ?_
   obtain ⟨g0,g2⟩:=g2
   rw [hi] at g2
   simp only [k3i] at g2
   have rw2:=r2.all hm
   have S2:=(S.grow e1).grow e2
   have r1' : Rep X.K O H1 v d:=r1
   refine ⟨by rw [rw2.length]; exact g0,fun p hp => ?_⟩
   have e3 : q2h H2 (upd H2 p (.tup ws)):=q1w hp _
   have S3:=S2.grow e3
   cases hk : z0w ys with
   | none => simp only [hk,q3n] at g2
   | some key =>
    simp only [hk,q3n] at g2
    have:=q7p rw2 hk
    subst this
    have ha3 : upd H2 p (.tup (key.map kV)) a = some (.dT kvs):=e3 _ _ (e2 _ _ (e1 _ _ ha))
    have hl : kvs.length < sizeLine:=by have:=rs.length; rw [List.length_map] at this; rw [this]; exact g2.1
    refine ⟨a,_,rfl,k8a.t ha3 q2f hl,?_⟩
    generalize hH3 : upd H2 p (.tup (key.map kV)) = H3 at e3 S3 ha3
    have kp : Kept O H3 (upd H3 a (.dT (q6c kvs key v))):=fun c u q n => by rw [q1y (show c ≠ a from fun z => n (z ▸ h2))]; exact q
    have nw : ∀ c,O c -> O c \/ H3 c = none:=fun c z => .inl z
    have rr : q2i X.K O (upd H3 a (.dT (q6c kvs key v))) ((q6c kvs key v).map (·.2)) (q6j (kvs.map (·.1)) ds key d):=(z5j ((r1'.same e2).same e3) (((rs.same e1).same e2).same e3)).move S3.mts kp nw
    have ow : q8f X.K O (upd H3 a (.dT (q6c kvs key v))) a (.dT (q7b (kvs.map (·.1)) key) (q6j (kvs.map (·.1)) ds key d)):=by
     rw [<- z2a kvs key v]; exact .dT q2f rr
    obtain ⟨S4,f4⟩:=S3.write (o:=.dT (q6c kvs key v)) hi h1 trivial ow
    exact L.nx _ _ _ _ S4 ((Frm.same ((e1.trans e2).trans e3)).trans f4) g2.2
 ·exact h.elim
end
end DL
namespace DL
open PySem PySem.Spec PyProof.Rows L2
section
variable {K : PySem.W.Frag} {W O : Addr -> Prop} {H0 H H' : Hp} {σ : L2.St} {ρ : En}
theorem z0h {v : V} {d : D} {k : List Key} (r : q4b K O H v d) (h : tupK d = some k) (h2 : k.length = 2) : ∃ b,v = .ref b /\ H b = some (.tup (k.map kV)):=by
 cases d with
 | tup ds =>
  have r:=r.tup
  cases r with
  | tup q rs =>
   have e:=q7p rs h
   subst e
   exact ⟨_,rfl,q.2 (by rw [List.length_map]; exact h2)⟩
 | _ => cases h
theorem SR.room (S : SR K W H0 σ H ρ O) {a : Addr} (e : q2h H H') (ha : H a = none) (r : Mut (H' a)) : SR K W H0 σ H' ρ (fun b => O b \/ b = a) where
 same:=S.same.trans e
 len:=S.len
 sub:=fun b z => .inl (S.sub b z)
 mts:=fun b z => by
  rcases z with z | rfl
  ·exact (S.grow e).mts b z
  ·exact r
 own:=fun j f z => by
  obtain ⟨b,h1,h2,h3,h4,h5⟩:=S.own j f z
  exact ⟨b,h1,.inl h2,h3,h4,(h5.av fun c w => w.imp id fun w => by rw [w]; exact ha).same e⟩
 inj:=S.inj
 lent:=fun j w f z => by
  obtain ⟨h1,b,h2,h3,h4⟩:=S.lent j w f z
  exact ⟨h1,b,h2,h3,(h4.av fun c w => w.imp id fun w => by rw [w]; exact ha).same e⟩
 bor:=fun j w f z => by
  obtain ⟨h1,h2⟩:=S.bor j w f z
  exact ⟨h1,(h2.av fun c w => w.imp id fun w => by rw [w]; exact ha).same e⟩
 shr:=fun j f z => by
  obtain ⟨v,h1,h2⟩:=S.shr j f z
  exact ⟨v,h1,(h2.av fun c w => w.imp id fun w => by rw [w]; exact ha).same e⟩
end
section
variable {m : Md} {X : Cx} {a b e f : Expr} {da db dc : DE} {pos : Pos}
def k2f (i : Nat) (dk dv : DE) : DS:=fun E ρ => z4z ρ[i]? (dv ρ fun d => dk ρ fun y => k3i ρ[i]? fun ks ds => q3n (tupK y) fun k => (k.length = 2 /\ ds.length < sizeLine) /\ E.nx (ρ.set i (some (.own (.dT (q7b ks k) (q6j ks ds k d))))))
theorem q5o (i : Nat) {x : Str} {pos' spos : Pos} {dk dv : DE} (hu : X.A.units + 1 < cLine) (hk : PX .b X b dk) (hv : PX .v X e dv)
  (hs : swapsWith e (some (.Subscript (.Name x pos') b spos)) pos.line X.env = pure false:=by rfl)
  (hN : X.N[i]? = some x:=by rfl) (hvi : Vis X.env.scope x:=by first | exact Or.inl rfl | exact Or.inr (Or.inl rfl) | exact Or.inr (Or.inr rfl)) (hd : (x == ("__debug__" : Str)) = false:=by decide)
  (hcd : (x == ("__classdict__" : Str)) = false:=by decide) : PSX m X (.Assign [.Subscript (.Name x pos') b spos] e pos) (k2f i dk dv):=by
 obtain ⟨tk,pk,qk⟩:=hk
 obtain ⟨tv,pv,qv⟩:=hv
 refine ⟨_,z6x hu (q7a hN hvi hd hcd) pk pv hs,fun W H0 σ H ρ O E T S h L => ?_⟩
 unfold k2f z4z at h
 split at h
 ·rename_i ks ds hi
  obtain ⟨a,h1,h2,h3,h4,h5⟩:=S.own i _ hi
  cases h5 with
  | dT ha rs =>
   rename_i kvs
   refine qv W H0 σ H ρ O _ _ S h fun v d H1 e1 r1 g1 => ?_
   refine ⟨_,h1,?_⟩
   refine qk W H0 σ H1 ρ O _ _ (S.grow e1) g1 fun w y H2 e2 r2 g2 => ?_
   rw [hi] at g2
   simp only [k3i] at g2
   have r2' : q4b X.K O H2 w y:=r2
   have S2:=(S.grow e1).grow e2
   have r1' : Rep X.K O H1 v d:=r1
   cases hk : tupK y with
   | none => simp only [hk,q3n] at g2
   | some key =>
    simp only [hk,q3n] at g2
    obtain ⟨p,rfl,hp⟩:=z0h r2' hk g2.1.1
    have ha2 : H2 a = some (.dT kvs):=e2 _ _ (e1 _ _ ha)
    have hl : kvs.length < sizeLine:=by have:=rs.length; rw [List.length_map] at this; rw [this]; exact g2.1.2
    refine ⟨a,_,rfl,k8a.t ha2 hp hl,?_⟩
    have kp : Kept O H2 (upd H2 a (.dT (q6c kvs key v))):=fun c u q n => by rw [q1y (show c ≠ a from fun z => n (z ▸ h2))]; exact q
    have nw : ∀ c,O c -> O c \/ H2 c = none:=fun c z => .inl z
    have rr : q2i X.K O (upd H2 a (.dT (q6c kvs key v))) ((q6c kvs key v).map (·.2)) (q6j (kvs.map (·.1)) ds key d):=(z5j (r1'.same e2) ((rs.same e1).same e2)).move S2.mts kp nw
    have ow : q8f X.K O (upd H2 a (.dT (q6c kvs key v))) a (.dT (q7b (kvs.map (·.1)) key) (q6j (kvs.map (·.1)) ds key d)):=by
     rw [<- z2a kvs key v]; exact .dT q2f rr
    obtain ⟨S4,f4⟩:=S2.write (o:=.dT (q6c kvs key v)) hi h1 trivial ow
    exact L.nx _ _ _ _ S4 ((Frm.same (e1.trans e2)).trans f4) g2.2
 ·exact h.elim
def w2y (d : D) (p : Prop) : Prop:=match d with
 | .dT _ _ => p
 | _ => False
def z5v (d e z : D) (R : D -> Prop) : Prop:=match d with
 | .dT ks ds => q3n (tupK e) fun k => k.length = 2 /\ R ((q3m ks ds k).getD z)
 | _ => False
def j0d (da db dc : DE) : DE:=fun ρ R => da ρ fun x => w2y x (db ρ fun y => dc ρ fun z => z5v x y z R)
theorem z7z {apos cpos : Pos} (hu : X.A.units + 1 < cLine) (ha : PX .b X a da) (hb : PX .b X e db) (hc : PX .v X f dc) (hm : M2 X a "get" apos e f cpos:=by exact ⟨rfl,rfl,rfl,rfl⟩) :
  PX .v X (.Call (.Attribute a "get" apos) [e,f] [] cpos) (j0d da db dc):=by
 obtain ⟨ta,pa,qa⟩:=ha
 obtain ⟨tb,pb,qb⟩:=hb
 obtain ⟨tc,pc,qc⟩:=hc
 refine ⟨_,k5e hu pa pb pc hm,fun W H0 σ H ρ O R Q S h k => ?_⟩
 refine qa W H0 σ H ρ O _ _ S h fun v d H1 e1 r1 h1 => ?_
 have r1' : q4b X.K O H1 v d:=r1
 cases d with
 | dT ks ds =>
  obtain ⟨a',kvs',rfl,h1',hk',_⟩:=q9v r1'
  refine ⟨a',rfl,.inr ⟨kvs',h1'⟩,?_⟩
  refine qb W H0 σ H1 ρ O _ _ (S.grow e1) h1 fun w y H2 e2 r2 h2 => ?_
  refine qc W H0 σ H2 ρ O _ _ ((S.grow e1).grow e2) h2 fun u z H3 e3 r3 h3 => ?_
  have r2' : q4b X.K O H2 w y:=r2
  have r3' : Rep X.K O H3 u z:=r3
  obtain ⟨a'',kvs,ea,g1,rfl,g2⟩:=q9v ((r1'.same e2).same e3)
  cases ea
  cases hk : tupK y with
  | none => simp only [z5v,hk,q3n] at h3
  | some key =>
   simp only [z5v,hk,q3n] at h3
   obtain ⟨p,rfl,hp⟩:=z0h (r2'.same e3) hk h3.1
   refine ⟨q7o kvs key,.inr ⟨kvs,key,p,g1,rfl,hp,rfl⟩,?_⟩
   have h3:=h3.2
   cases hl : q3m (kvs.map (·.1)) ds key with
   | none =>
    have hn : q7o kvs key = none:=by
     have:=q4u (k:=key) g2
     rw [hl] at this
     cases q : q7o kvs key with
     | none => rfl
     | some z => rw [q] at this; cases this
    rw [hn]; rw [hl] at h3
    exact k _ _ _ ((e1.trans e2).trans e3) (show Rep X.K O H3 _ _ from r3') h3
   | some z =>
    rw [hl] at h3
    obtain ⟨u,g3,g4⟩:=q6x g2 hl
    rw [g3]
    exact k _ _ _ ((e1.trans e2).trans e3) (show Rep X.K O H3 _ _ from g4) h3
 | _ => exact (show False from h1).elim
def z1l : List (DE × DE) -> En -> (List (D × D) -> Prop) -> Prop
 | [],_,R => R []
 | (dk,dv) :: r,ρ,R => dk ρ fun x => dv ρ fun y => z1l r ρ fun ps => R ((x,y) :: ps)
inductive z5a (K : PySem.W.Frag) (O : Addr -> Prop) (H : Hp) : List (V × V) -> List (D × D) -> Prop
 | nil : z5a K O H [] []
 | cons {x y : V} {d e : D} {qs : List (V × V)} {ps : List (D × D)} : Rep K O H x d -> Rep K O H y e -> z5a K O H qs ps -> z5a K O H ((x,y) :: qs) ((d,e) :: ps)
def PPX (X : Cx) (pos : Pos) (ks : List (Option Expr)) (vs : List Expr) (dps : List (DE × DE)) : Prop :=
 ∃ trs,PPs X pos ks vs trs /\ ∀ (W : Addr -> Prop) (H0 : Hp) (σ : L2.St) (H : Hp) (ρ : En) (O : Addr -> Prop) (R : List (D × D) -> Prop) (Q : List (V × V) -> Hp -> Prop),SR X.K W H0 σ H ρ O -> z1l dps ρ R →
  (∀ qs ps H',q2h H H' -> z5a X.K O H' qs ps -> R ps -> Q qs H') -> z8r trs σ H Q
theorem j3w : PPX X pos [] [] []:=⟨[],j4o,fun W H0 σ H ρ O R Q S h k => k _ _ _ (q2h.refl _) .nil h⟩
theorem z3m {ks : List (Option Expr)} {vs : List Expr} {dps : List (DE × DE)} (hk : PX .v X a da) (hv : PX .v X b db) (hr : PPX X pos ks vs dps) : PPX X pos (some a :: ks) (b :: vs) ((da,db) :: dps):=by
 obtain ⟨ta,pa,qa⟩:=hk
 obtain ⟨tb,pb,qb⟩:=hv
 obtain ⟨tr,pr,qr⟩:=hr
 refine ⟨_,k7o pa pb pr,fun W H0 σ H ρ O R Q S h k => ?_⟩
 refine qa W H0 σ H ρ O _ _ S h fun v d H1 e1 r1 h1 => ?_
 refine qb W H0 σ H1 ρ O _ _ (S.grow e1) h1 fun w e H2 e2 r2 h2 => ?_
 refine qr W H0 σ H2 ρ O _ _ ((S.grow e1).grow e2) h2 fun qs ps H3 e3 r3 h3 => ?_
 have r1' : Rep X.K O H1 v d:=r1
 have r2' : Rep X.K O H2 w e:=r2
 exact k _ _ _ ((e1.trans e2).trans e3) (.cons ((r1'.same e2).same e3) (r2'.same e3) r3) h3
def z2q : List (D × D) -> Option (List (Key × D))
 | [] => some []
 | p :: r => (z5u p.1).bind fun k => (z2q r).map fun l => (k,p.2) :: l
inductive KVR (K : PySem.W.Frag) (O : Addr -> Prop) (H : Hp) : List (Key × V) -> List (Key × D) -> Prop
 | nil : KVR K O H [] []
 | cons {k : Key} {v : V} {d : D} {rows : List (Key × V)} {ps : List (Key × D)} : Rep K O H v d -> KVR K O H rows ps -> KVR K O H ((k,v) :: rows) ((k,d) :: ps)
theorem j0i {K : PySem.W.Frag} {O : Addr -> Prop} {H : Hp} : ∀ {qs : List (V × V)} {ps : List (D × D)} {l : List (Key × D)},z5a K O H qs ps -> z2q ps = some l -> ∃ rows,qs = rows.map (fun kv => (kV kv.1,kv.2)) /\ KVR K O H rows l /\ rows.length = ps.length
 | _,_,_,.nil,h => by cases h; exact ⟨[],rfl,.nil,rfl⟩
 | _,p :: r,l,.cons r1 r2 t,h => by
  unfold z2q at h
  cases hk : z5u p.1 with
  | none => rw [hk] at h; cases h
  | some k =>
   rw [hk,Option.bind_some] at h
   cases hr : z2q r with
   | none => rw [hr] at h; cases h
   | some l' =>
    rw [hr] at h
    cases h
    obtain ⟨rows,rfl,ih,hl⟩:=j0i t hr
    have:=q7v (.inl r1) hk
    subst this
    exact ⟨(k,_) :: rows,rfl,.cons r2 ih,by simp [hl]⟩
theorem KVR.merge {K : PySem.W.Frag} {O : Addr -> Prop} {H : Hp} : ∀ {rows : List (Key × V)} {ps : List (Key × D)} {kvs : List (Key × V)} {ks : List Key} {ds : List D},KVR K O H rows ps -> kvs.map (·.1) = ks -> q2i K O H (kvs.map (·.2)) ds →
  (q7d kvs rows).map (·.1) = (ps.foldl (fun acc p => (q7k acc.1 p.1,q6z acc.1 acc.2 p.1 p.2)) (ks,ds)).1 /\ q2i K O H ((q7d kvs rows).map (·.2)) (ps.foldl (fun acc p => (q7k acc.1 p.1,q6z acc.1 acc.2 p.1 p.2)) (ks,ds)).2
 | _,_,_,_,_,.nil,e,r => ⟨e,r⟩
 | _,_,kvs,_,_,.cons (k:=k) (v:=v) (d:=d) b t,e,r => by
  subst e
  have:=KVR.merge (kvs:=q6c kvs k v) t (z4n kvs k v) (z8y b r)
  exact this
def j7r (dps : List (DE × DE)) : DE:=fun ρ R => z1l dps ρ fun ps => q3n (z2q ps) fun l => ps.length <= 15 /\ R (.dK (z4c l).1 (z4c l).2)
theorem j2c {ks : List (Option Expr)} {vs : List Expr} {dps : List (DE × DE)} (h : PPX X pos ks vs dps) (hall : ks.all (·.isSome) = true:=by rfl) (hl : ks.length = vs.length:=by rfl) (h0 : ks ≠ []:=by intro z; cases z) (h15 : ks.length <= 15:=by decide) :
  PX .n X (.Dict ks vs pos) (j7r dps):=by
 obtain ⟨tr,pr,qr⟩:=h
 refine ⟨_,j4g pr hall hl h0 h15,fun W H0 σ H ρ O R Q S h k p hp => ?_⟩
 have e0:=q1w hp (.dK [])
 have S1:=S.room (a:=p) e0 hp (by rw [q2f]; trivial)
 refine qr W H0 σ _ ρ _ _ _ S1 h fun qs ps H2 e2 r2 g => ?_
 have h2 : H2 p = some (.dK []):=e2 _ _ q2f
 cases hk : z2q ps with
 | none => simp only [hk,q3n] at g
 | some l =>
  simp only [hk,q3n] at g
  obtain ⟨rows,rfl,rr,hrl⟩:=j0i r2 hk
  refine ⟨h2,rows,rfl,by rw [hrl]; exact g.1,?_⟩
  have S2:=S1.grow e2
  have kp : Kept (fun b => O b \/ b = p) H2 (upd H2 p (.dK (q7d [] rows))):=fun c u q n => by rw [q1y (show c ≠ p from fun z => n (.inr z))]; exact q
  obtain ⟨m1,m2⟩:=rr.merge (kvs:=[]) rfl .nil
  have e3 : q2h H (upd H2 p (.dK (q7d [] rows))):=fun c u q => by
   rw [q1y (show c ≠ p from fun z => by rw [z,hp] at q; cases q)]
   exact e2 _ _ (e0 _ _ q)
  refine k _ _ _ e3 ⟨p,rfl,hp,?_⟩ g.2
  have:=q8f.dK (K:=X.K) (O:=fun b => O b \/ b = p) (H:=upd H2 p (.dK (q7d [] rows))) q2f (m2.move S2.mts kp fun c z => .inl z)
  rw [m1] at this
  exact this
end
end DL
namespace DL
open PySem PySem.Spec PyProof.Rows L2
section
variable {m : Md} {X : Cx} {a : Expr} {de : DE} {name : Str} {apos cpos : Pos} {id : String}
theorem z7i {g : GV} (hm : MvX m [] X "str" id g) (pa : PlainAttrs "str") (slot : Slot "str" name id) (hty : typeOf (.builtin id) = pure (.type "method_descriptor")) (ho : PX .b X a de)
  (hbase : attributeBase a name X.env (eval a X.env) = eval a X.env:=by rfl) (hline : (apos.endLine == cpos.line) = true:=by rfl) :
  PX m X (.Call (.Attribute a name apos) [] [] cpos) (dMv g de fun _ R => R []):=by
 obtain ⟨r,pr,qr⟩:=hm
 obtain ⟨to,po,qo⟩:=ho
 refine ⟨_,j6p pa slot hty pr po hbase hline,fun W H0 σ H ρ O R Q S h k => ?_⟩
 refine qo W H0 σ H ρ O _ _ S h fun v d H1 e1 r1 h1 => ?_
 cases d with
 | str z =>
  have ev:=q4b.str r1
  subst ev
  refine ⟨rfl,?_⟩
  exact qr O H1 H1 _ _ [] [] R Q (S.grow e1).mts (q2h.refl _) r1 .nil h1 fun v z H3 e3 r3 hz => k v z H3 (e1.trans e3) (Res.back e1 r3) hz
 | _ => exact False.elim h1
theorem k4y : MtR X "str.upper" (fun x vs H Q => ∃ z,x = .str z /\ vs = [] /\ Builtin.Str.tooLong (Txt.upper z).length = false /\ Q (.str (Txt.upper z)) H):=by
 intro pins s σ H x xs v us Q I rx rv h
 obtain ⟨z,rfl,rfl,hz,q⟩:=h
 obtain ⟨t,rfl⟩:=rx
 cases rv
 exact SC.upper hz ⟨.str _,H,I.tok _,⟨_,rfl⟩,q⟩
def k8w : GV
 | .str z,[],R => Builtin.Str.tooLong (Txt.upper z).length = false /\ R (.str (Txt.upper z))
 | _,_,_ => False
theorem z5g : MvX .v [] X "str" "str.upper" k8w:=by
 refine ⟨_,k4y,fun O H H1 x d vs es R Q M e rx rs hg k => ?_⟩
 cases d with
 | str z =>
  cases rs
  have hg : Builtin.Str.tooLong (Txt.upper z).length = false /\ R (.str (Txt.upper z)):=hg
  cases rx.str
  exact ⟨z,rfl,rfl,hg.1,k _ _ _ (q2h.refl _) (.str _) hg.2⟩
 | _ => exact hg.elim
end
end DL
namespace DL
open PySem PySem.Spec PyProof.Rows L2
section
variable {X : Cx} {a : Expr} {de : DE} {pos : Pos}
def w2j (x : Str) : It :=
 ⟨fun i _ => i < x.cps.size,fun i H v H' => ∃ c p,x.cps[i]? = some c /\ H p = none /\ v = .ref p /\ H' = upd H p (.tup [.int i,.str ⟨#[c]⟩]),fun i _ => x.cps.size <= i⟩
theorem z1c {P : Program} {w : World} {K : PySem.W.Frag} {ts : List Expr} {x1} {tp : Pos} {x : Str} {t : Tok} {ty : String} (e it : Addr) (hne : e ≠ it)
  (dr : ∀ A : Around,A.handled = none -> Draws P w A it [it] x.cps.size (fun i v => ∃ c u,x.cps[i]? = some c /\ v = .str ⟨#[c]⟩ u) (fun i h => h.IsStrIter it ty x t i)) :
  k4u P w K (.Tuple ts x1 tp) (w2j x) [e,it] e (fun i h => i <= x.cps.size /\ (∃ old,IsEnum h e it i old) /\ h.IsStrIter it ty x t i) where
 mem:=by simp
 obj:=fun i h st b hb => by
  obtain ⟨_,⟨old,s1⟩,o,e2,c,d⟩:=st
  rcases List.mem_cons.mp hb with rfl | hb
  ·exact ⟨_,s1,fun v z => by cases z⟩
  ·obtain rfl:=List.mem_singleton.mp hb
   exact ⟨o,e2,fun v z => by rw [d] at z; cases z⟩
 keep:=fun i h h' st k => ⟨st.1,let ⟨old,s1⟩:=st.2.1; ⟨old,k e (by simp) _ s1⟩,let ⟨o,q,r⟩:=st.2.2; ⟨o,k it (by simp) o q,r⟩⟩
 item:=by
  intro X hP hw hK hc i pins s σ H E I hf st hg
  subst hP hw hK
  have hin : i < x.cps.size:=hg
  obtain ⟨f0,f1,f2,f3,f4,f5⟩:=hf it (by simp)
  obtain ⟨g0,g1,g2,g3,g4,g5⟩:=hf e (by simp)
  obtain ⟨hle,⟨old,s1⟩,s2⟩:=st
  have lte : e < s.heap.objs.size:=Heap.lt_size s1
  have lti : it < s.heap.objs.size:=by obtain ⟨o,q,_⟩:=s2; exact Heap.lt_size q
  refine wpAny_pyNext_enum_itemD (dr X.A.in1 (I.ok.hd hc)) s1 s2 hin hne (by simp [hne]) fun y h' tk hP so st' ht hsz hk => ?_
  obtain ⟨c,tu,hx,rfl⟩:=hP
  refine ⟨_,rfl,wpAny_letOwnedTupleGo_enum so fun h2 se sb => ?_⟩
  have sb : Heap.SameBut e h' h2:=sb
  have ht2 : h2.get? s.heap.objs.size = some { cls:=.type "tuple",data:=.seq #[.int i tk,.str ⟨#[c]⟩ tu] }:=(sb.2 _ (Nat.ne_of_gt lte)).trans ht
  have kp : ∀ b o,b ≠ e -> b ≠ it -> s.heap.get? b = some o -> h2.get? b = some o:=fun b o n1 n2 q => (sb.2 b n1).trans (hk b o n1 n2 q)
  have hp : H s.heap.objs.size = none:=I.fresh
  have I1 : Inv X pins σ (upd H s.heap.objs.size (.tup [.int i,.str ⟨#[c]⟩])) { s with heap:=h2,toks:=tk + 1 }:=by
   have IA : Inv X pins σ (upd H s.heap.objs.size (.tup [.int i,.str ⟨#[c]⟩])) { s with heap:=s.heap.push { cls:=.type "tuple",data:=.seq #[.int i tk,.str ⟨#[c]⟩ tu] },toks:=s.toks } :=
    I.laid (fun b o q => Heap.get?_push_of_some _ q) (Nat.le_refl _) ⟨by show 2 <= sizeLine; decide,[.int i tk,.str ⟨#[c]⟩ tu],.cons ⟨_,rfl⟩ (.cons ⟨_,rfl⟩ .nil),⟨_,Heap.get?_push_size _ rfl,rfl,_,rfl⟩⟩
   refine z0r (s:={ s with heap:=s.heap.push { cls:=.type "tuple",data:=.seq #[.int i tk,.str ⟨#[c]⟩ tu] },toks:=s.toks }) (fp:=[e,it]) IA (fun b o hb q => ?_) (fun b hb => ?_)
   ·have n1 : b ≠ e:=fun z => hb (by simp [z])
    have n2 : b ≠ it:=fun z => hb (by simp [z])
    rcases Heap.get?_push_cases q with ⟨rfl,rfl⟩ | q
    ·exact ht2
    ·exact kp b o n1 n2 q
   ·have hb' : b = e \/ b = it:=by simpa using hb
    obtain ⟨q0,q1,q2,q3,q4,q5⟩:=hf b hb
    refine ⟨?_,q1,q2,q3,q4,q5⟩
    rcases hb' with rfl | rfl
    ·rw [q1y (Nat.ne_of_lt lte)]; exact q0
    ·rw [q1y (Nat.ne_of_lt lti)]; exact q0
  refine ⟨.ref s.heap.objs.size,_,I1,rfl,⟨c,_,hx,hp,rfl,rfl⟩,⟨hin,⟨_,by simpa using se⟩,?_⟩,fun b hb => ?_⟩
  ·obtain ⟨o,q,r⟩:=st'
   exact ⟨o,(sb.2 it (Ne.symm hne)).trans q,r⟩
  ·have hb' : b = e \/ b = it:=by simpa using hb
   rcases hb' with rfl | rfl
   ·rw [q1y (Nat.ne_of_lt lte)]; exact g0
   ·rw [q1y (Nat.ne_of_lt lti)]; exact f0
 done:=by
  intro X hP hw hK hc i pins s σ H E I hf st hg
  subst hP hw hK
  have hg' : x.cps.size <= i:=hg
  obtain ⟨f0,f1,f2,f3,f4,f5⟩:=hf it (by simp)
  obtain ⟨hle,⟨old,s1⟩,s2⟩:=st
  obtain rfl : i = x.cps.size:=Nat.le_antisymm hle hg'
  exact wpAny_pyNext_enum_endD (dr X.A.in1 (I.ok.hd hc)) s1 s2 fun h' eb => ⟨rfl,I.turned (t':=s.toks) (fun b o hb q => eb b o hb q) f0 f1 f3 f4 f5⟩
 self:=fun A i s Q E st h => let ⟨old,s1⟩:=st.2.1; wpAny_pyIter_enum s1 h
def j0g : D -> (List D -> Prop) -> Prop
 | .str z,R => R ((q5q z).mapIdx fun i d => D.tup [.int (i : Int),d])
 | _,_ => False
def k9f (de : DE) : DA:=fun ρ R => de ρ fun d => j0g d R
theorem k8u {K : PySem.W.Frag} {z : Str} : JS (w2j z) K (fun _ _ => True) ((q5q z).mapIdx fun i d => D.tup [.int (i : Int),d]):=by
 intro O H i M r
 refine ⟨fun d hd => ?_,fun hl => ?_⟩
 ·rw [List.getElem?_mapIdx] at hd
  unfold q5q at hd
  rw [List.getElem?_map] at hd
  by_cases hi : i < z.cps.size
  ·refine ⟨hi,fun y H' q => ?_⟩
   obtain ⟨c,p,hc,hp,rfl,rfl⟩:=q
   have e : z.cps.toList[i]? = some c:=by simpa using hc
   rw [e] at hd
   cases hd
   exact ⟨q1w hp _,.tup (SqP.of q2f) (.cons (.int _) (.cons (.str _) .nil))⟩
  ·have e : z.cps.toList[i]? = none:=List.getElem?_eq_none (by simpa using hi)
   rw [e] at hd; cases hd
 ·show z.cps.size <= i
  unfold q5q at hl
  simpa using hl
theorem k5k {ts : List Expr} {x1} {tp p : Pos} (hg : Gl X "enumerate") (hm : X.mg "enumerate" = none) (ha : PX .v X a de) (hs : starEach [a] X.env = [(false,eval a X.env)]:=by rfl) : PIX X (.Tuple ts x1 tp) (.Call (.Name "enumerate" p) [a] [] pos) (k9f de):=by
 obtain ⟨ta,pa,qa⟩:=ha
 have hpi : PI X (.Tuple ts x1 tp) (.Call (.Name "enumerate" p) [a] [] pos) (fun σ H R => z6r ta j5d σ H fun vs H1 => ∃ z,vs = [.str z] /\ R (w2j z) H1):=by
  intro pins s σ H R I h
  refine Call_ (q8c I hg hm boot_enumerate (PyProof.Rows.callWith_type1 (thn (q3e pa q6r hs pos pins s σ H _ I h) fun us s1 ⟨vs,H1,I1,r1,q1⟩ => ?_) hs rfl))
  obtain ⟨z,rfl,hR⟩:=q1
  obtain ⟨u,rfl,ru⟩:=vals1 r1
  obtain ⟨t,rfl⟩:=ru
  refine call_enumerate_str fun h' he hit hsz hk => ?_
  refine wpAny_pyIter_enum he ?_
  have I2 : Inv X pins σ H1 { s1 with heap:=h' }:=I1.kept (t':=s1.toks) hk
  have fr : ∀ b,s1.heap.objs.size <= b -> z3p X pins H1 b:=fun b hb => I1.fpOk hb (I1.hok.fresh hb)
  have fb : ∀ b ∈ [s1.heap.objs.size + 1,s1.heap.objs.size],z3p X pins H1 b:=fun b hb => by
   have hb' : b = s1.heap.objs.size + 1 \/ b = s1.heap.objs.size:=by simpa using hb
   rcases hb' with rfl | rfl
   ·exact fr _ (Nat.le_succ _)
   ·exact fr _ (Nat.le_refl _)
  cases hA : z.cps.all (· < 128) with
  | true =>
   have ety : strIterType z = "str_ascii_iterator":=by unfold strIterType; rw [hA]; rfl
   rw [ety] at hit
   exact ⟨s1.heap.objs.size + 1,[s1.heap.objs.size + 1,s1.heap.objs.size],_,_,H1,rfl,I2,z1c (t:=t) _ _ (Nat.succ_ne_self _) fun A hA => Draws.strAscii hA _ z t,⟨Nat.zero_le _,⟨_,he⟩,hit⟩,fb,hR⟩
  | false =>
   have ety : strIterType z = "str_iterator":=by unfold strIterType; rw [hA]; rfl
   rw [ety] at hit
   exact ⟨s1.heap.objs.size + 1,[s1.heap.objs.size + 1,s1.heap.objs.size],_,_,H1,rfl,I2,z1c (t:=t) _ _ (Nat.succ_ne_self _) fun A hA => Draws.strWide hA _ z t,⟨Nat.zero_le _,⟨_,he⟩,hit⟩,fb,hR⟩
 refine ⟨_,hpi,fun W H0 σ H ρ O R Rh S h k => ?_⟩
 refine qa W H0 σ H ρ O _ _ S h fun v d H1 e1 r1 h1 => ?_
 cases d with
 | str z =>
  cases (r1 : Rep X.K O H1 v (.str z))
  exact ⟨z,rfl,k _ H1 _ (fun _ _ => True) e1 trivial (fun _ _ _ _ _ _ _ _ => trivial) k8u h1⟩
 | _ => exact False.elim h1
end
section
variable {X : Cx} {a e : Expr} {da db : DE}
def k9b (da db : DE) : DE:=fun ρ R => da ρ fun x => w2y x (db ρ fun y => z5v x y .non R)
theorem k5r {apos cpos : Pos} (hu : X.A.units + 1 < cLine) (ha : PX .b X a da) (hb : PX .b X e db) (hm : M1 X a "get" apos e cpos:=by exact ⟨rfl,rfl,rfl,rfl⟩) :
  PX .v X (.Call (.Attribute a "get" apos) [e] [] cpos) (k9b da db):=by
 obtain ⟨ta,pa,qa⟩:=ha
 obtain ⟨tb,pb,qb⟩:=hb
 refine ⟨_,z7t hu pa pb hm,fun W H0 σ H ρ O R Q S h k => ?_⟩
 refine qa W H0 σ H ρ O _ _ S h fun v d H1 e1 r1 h1 => ?_
 have r1' : q4b X.K O H1 v d:=r1
 cases d with
 | dT ks ds =>
  obtain ⟨a',kvs',rfl,h1',hk',_⟩:=q9v r1'
  refine ⟨a',rfl,.inr ⟨kvs',h1'⟩,?_⟩
  refine qb W H0 σ H1 ρ O _ _ (S.grow e1) h1 fun w y H2 e2 r2 h2 => ?_
  have r2' : q4b X.K O H2 w y:=r2
  obtain ⟨a'',kvs,ea,g1,rfl,g2⟩:=q9v (r1'.same e2)
  cases ea
  cases hk : tupK y with
  | none => simp only [z5v,hk,q3n] at h2
  | some key =>
   simp only [z5v,hk,q3n] at h2
   obtain ⟨p,rfl,hp⟩:=z0h r2' hk h2.1
   refine ⟨q7o kvs key,.inr ⟨kvs,key,p,g1,rfl,hp,rfl⟩,?_⟩
   have h2:=h2.2
   cases hl : q3m (kvs.map (·.1)) ds key with
   | none =>
    have hn : q7o kvs key = none:=by
     have:=q4u (k:=key) g2
     rw [hl] at this
     cases q : q7o kvs key with
     | none => rfl
     | some z => rw [q] at this; cases this
    rw [hn]; rw [hl] at h2
    exact k _ _ _ (e1.trans e2) (show Rep X.K O H2 _ _ from .non) h2
   | some z =>
    rw [hl] at h2
    obtain ⟨u,g3,g4⟩:=q6x g2 hl
    rw [g3]
    exact k _ _ _ (e1.trans e2) (show Rep X.K O H2 _ _ from g4) h2
 | _ => exact (show False from h1).elim
end
def k3w : D -> Bool
 | .non => true
 | .bl _ => true
 | .int _ => true
 | .str _ => true
 | _ => false
theorem k3f {K : PySem.W.Frag} {O O' : Addr -> Prop} {H : Hp} {v : V} {d : D} (r : Rep K O H v d) (h : k3w d = true) : Rep K O' H v d:=by
 cases r with
 | non => exact .non
 | bl b => exact .bl b
 | int i => exact .int i
 | str x => exact .str x
 | _ => cases h
def j8p (F : List Nat) (de : DE) : DE:=fun ρ R => de (frz F ρ) fun d => k3w d = true /\ R d
theorem k3e {X : Cx} {e : Expr} {de : DE} (F : List Nat) (h : PX .v X e de) : PX .v X e (j8p F de):=by
 obtain ⟨t,p,q⟩:=h
 refine ⟨t,p,fun W H0 σ H ρ O R Q S h k => ?_⟩
 obtain ⟨O',S',f⟩:=S.frz F
 refine q W H0 σ H _ O' _ _ S' h fun v d H1 e1 r1 h1 => ?_
 exact k v d H1 e1 (k3f (show Rep X.K O' H1 v d from r1) h1.1) h1.2
end DL
namespace DL
open PySem PySem.Spec PyProof.Rows L2
theorem hu1 {A : Around} {k : Nat} (hr : z1a k A) : A.units + 1 < cLine:=by have:=w3r hr; omega
theorem j1w : (k0m (.lst ds) (.int i) R) = (q3n (atI ds i) fun x => R x):=rfl
theorem j1g : (k0m (.tup ds) (.int i) R) = (q3n (atI ds i) fun x => R x):=rfl
theorem j0y : (k0m (.str z) (.int i) R) = (z.length <= sizeLine /\ q3n (atI z.cps.toList i) fun c => R (.str ⟨#[c]⟩)):=rfl
theorem j3a : (k0m (.dK ks ds) (.str z) R) = (q3n (q5u ks ds (.inr z)) fun x => R x):=rfl
theorem j2r : (w2r neg d (.lst ds) R) = (k9y neg d (.lst ds) R):=rfl
theorem j4u : (w3z (.dK ks ds) p) = p:=rfl
theorem j4p : (w0b (.dK ks ds) e R) = (q3n (z5u e) fun k => R ((q5u ks ds k).getD .non)):=rfl
theorem k0x : (k2o (some (some (.own (.dK ks ds)))) p) = p:=rfl
theorem k6k : (j2x (some (some (.own (.dK ks ds)))) k) = (k ks ds):=rfl
theorem k1n : (k9d (.tup ds) R) = (R (ds.mapIdx fun i d => D.tup [.int (i : Int),d])):=rfl
theorem j3t : z5u (.int i) = some (.inl i):=rfl
theorem j3j : z5u (.str i) = some (.inr i):=rfl
theorem j8b : (gTL n u (.tup ds) ρ R) = (ds.length = n /\ u ds ρ R):=rfl
end DL
namespace DL
open PySem PySem.Spec PyProof.Rows L2
theorem j2p : (w3h [.tup xs,.lst ys] R) = (R (j0e xs ys)):=rfl
end DL
namespace DL
open PySem PySem.Spec PyProof.Rows L2
theorem j1i : (w0i [.lst xs] R) = (q3n (k0j xs) fun bs => R (.bl (bs.any id))):=rfl
end DL
namespace DL
open PySem PySem.Spec PyProof.Rows L2
theorem j3g : (tupK (.tup ds)) = (z0w ds):=rfl
theorem k8k : (z0w [.str x,.int i]) = (some [.inr x,.inl i]):=rfl
theorem k8p : (z0w [.int i,.int j]) = (some [.inl i,.inl j]):=rfl
theorem j4w : (w0z (.dT ks ds) e R) = (q3n (tupK e) fun k => q3n (q3m ks ds k) fun x => R x):=rfl
theorem j2e : (w0x neg d (.dT ks ds) R) = (q3n (tupK d) fun k => R (.bl (neg != (q3m ks ds k).isSome))):=rfl
theorem k3d : (z4z (some (some (.own (.dT ks ds)))) p) = p:=rfl
theorem k5w : (k3i (some (some (.own (.dT ks ds)))) k) = (k ks ds):=rfl
end DL
namespace DL
open PySem PySem.Spec PyProof.Rows L2
theorem j1u : (w2y (.dT ks ds) p) = p:=rfl
theorem k6d : (z5v (.dT ks ds) e z R) = (q3n (tupK e) fun k => k.length = 2 /\ R ((q3m ks ds k).getD z)):=rfl
theorem k0z : (z1l [] ρ R) = (R []):=rfl
theorem k3b : (z1l ((dk,dv) :: r) ρ R) = (dk ρ fun x => dv ρ fun y => z1l r ρ fun ps => R ((x,y) :: ps)):=rfl
theorem k5p : (z2q []) = (some []):=rfl
theorem k8s : (z2q ((.str x,d) :: r)) = ((z2q r).map fun l => (.inr x,d) :: l):=rfl
theorem k0v : (k8w (.str z) [] R) = (Builtin.Str.tooLong (Txt.upper z).length = false /\ R (.str (Txt.upper z))):=rfl
end DL
namespace DL
open PySem PySem.Spec PyProof.Rows L2
theorem k2c : (j0g (.str z) R) = (R ((q5q z).mapIdx fun i d => D.tup [.int (i : Int),d])):=rfl
end DL
namespace DX
open PySem PySem.Spec PyProof.Rows L2
theorem z7c {P : Program} {w : World} {H : Hp} {h : Heap} {a : Addr} {o : HO} (x : q5a P w H h a o) : ∃ u,h.get? a = some u:=by
 cases o with
 | lst xs => obtain ⟨_,_,_,_,e⟩:=x; exact ⟨_,e⟩
 | tup xs => obtain ⟨_,_,_,ob,e,_⟩:=x; exact ⟨_,e⟩
 | dK kvs => obtain ⟨_,_,_,_,o,_,_,e,_⟩:=x; exact ⟨_,e⟩
 | dT kvs => obtain ⟨_,_,_,_,o,_,_,e,_⟩:=x; exact ⟨_,e⟩
 | set S n => obtain ⟨o,_,_,_,e,_⟩:=x; exact ⟨_,e⟩
 | ins C dx fs => obtain ⟨_,_,_,e,_⟩:=x; exact ⟨_,e⟩
 | own y => obtain ⟨_,e⟩:=x; exact ⟨_,e⟩
 | xd fs => obtain ⟨_,⟨_,_,_,e,_⟩,_⟩:=x; exact ⟨_,e⟩
 | rng lo hi => obtain ⟨_,_,_,e⟩:=x; exact ⟨_,e⟩
 | frz ob u => obtain ⟨e,_⟩:=x; exact ⟨_,e⟩
 | tbl ps => exact ⟨_,(show h.get? a = some _ from x)⟩
 | met f y => exact ⟨_,(show h.get? a = some _ from x)⟩
 | ext φ => obtain ⟨_,⟨_,e⟩,_⟩:=x; exact ⟨_,e⟩
structure UB (fs : List Addr) (H H' : Hp) (h B h' : Heap) : Prop where
 keep : ∀ b o,h.get? b = some o -> H b = none -> b ∉ fs -> B.get? b = some o
 slot : ∀ b o,h.get? b = some o -> H b = none -> b ∈ fs -> ∃ sl,h'.get? b = some { o with slots:=sl }
 free : ∀ b o,h.get? b = some o -> H b = none -> H' b = none
 there : ∀ b o,h.get? b = some o -> b ∉ fs -> ∃ o',B.get? b = some o'
 tups : ∀ b xs,H b = some (.tup xs) -> H' b = some (.tup xs)
 frzs : ∀ b o u,H b = some (.frz o u) -> H' b = some (.frz o u)
 tbls : ∀ b ps,H b = some (.tbl ps) -> ∃ more,H' b = some (.tbl (ps ++ more))
theorem UB.un {fs : List Addr} {H H' : Hp} {h B h' h2 : Heap} (u : UB fs H H' h B h') (hf : ∀ b ∈ fs,H b = none) (nf : ∀ b ∈ fs,∀ o,h'.get? b = some o -> ∀ vs,o.data ≠ .fields vs) (st : B.StaysIn h2) (sm : h'.UpToSlots h2) : Un fs [] H H' h h2 where
 keep:=fun b o e n hb _ => st b o (u.keep b o e n hb)
 slot:=fun b o e n hb _ => by
  obtain ⟨sl,e1⟩:=u.slot b o e n hb
  obtain ⟨sl2,e2⟩:=sm b _ e1 (nf b hb _ e1)
  exact ⟨sl2,e2⟩
 free:=fun b o e n _ => u.free b o e n
 there:=fun b o e _ => by
  by_cases hb : b ∈ fs
  ·obtain ⟨sl,e1⟩:=u.slot b o e (hf b hb) hb
   obtain ⟨sl2,e2⟩:=sm b _ e1 (nf b hb _ e1)
   exact ⟨_,e2⟩
  ·obtain ⟨o',e1⟩:=u.there b o e hb
   exact ⟨o',st _ _ e1⟩
 tups:=u.tups
 frzs:=u.frzs
 tbls:=u.tbls
def CXE (P : Program) (w : World) : CXT:=fun outer H s E e s' => ∃ (a : Addr) (C a0 : Value) (B : Heap) (H' : Hp),e = .ref a /\ s'.os = s.os /\ AllBare s'.gens /\ Heap.FlyingW B outer a C a0 s'.heap /\ HOk P w H' B ∧
 UB (frs outer) H H' s.heap B s'.heap /\ E C Option.none H'
section
variable {P : Program} {w : World} {K : PySem.W.Frag} {mg : Str -> Option Value} {base : Heap} {N : List Str} {qual : Str} {scope : Scope} {f : Addr} {cd : Value} {A : Around} {outer : List Env} {s₀ : Shared} {H0 : Hp} {E : XK}
 {pins : List (Addr × Obj)} {σ : L2.St} {H : Hp} {s : Shared}
theorem k6l {h1 : Heap} {e : Addr} {cls : Value} {args : List Value} (I : Inv (z3q (CXE P w) P w K mg base N qual scope f cd A outer s₀ H0 E) pins σ H s) (hx : Heap.MadeExcOf s.heap h1 e cls args) (hE : E cls Option.none H) :
  (z3q (CXE P w) P w K mg base N qual scope f cd A outer s₀ H0 E).xe (.ref e) { s with heap:=h1 }:=by
 have fr : ∀ b ∈ frs (envOfC qual scope s₀.heap.objs.size f cd :: outer),H b = none:=I.stkFree
 have out : ∀ b o,s₀.heap.get? b = some o -> b ∉ frs outer -> b ∉ frs (envOfC qual scope s₀.heap.objs.size f cd :: outer):=fun b o q n z => by
  have z' : b ∈ s₀.heap.objs.size :: frs outer:=z
  rcases List.mem_cons.mp z' with rfl | z'
  ·exact absurd (Heap.lt_size q) (Nat.lt_irrefl _)
  ·exact n z'
 have ff : s.heap.FunFrames base (envOfC qual scope s₀.heap.objs.size f cd :: outer):=I.stack
 refine wpAny_leaves_madeW (base:=PySem.W.hideAll s.heap (frs (envOfC qual scope s₀.heap.objs.size f cd :: outer))) I.ok.frames rfl (fun b o q => PySem.W.of_hideAll _ q) (PySem.W.funFrames_hide ff fun env he b hb => List.mem_filterMap.mpr ⟨env,he,hb⟩) hx fun h' t x1 x2 x3 x4 => ?_
 refine ⟨e,cls,.ref t,_,H,rfl,I.os,I.bare,x1,fun b o q => ?_,⟨fun b o q n hb => ?_,fun b o q n hb => ?_,fun b o q n => ?_,fun b o q hb => ?_,I.base.tups,I.base.frzs,I.base.tbls⟩,hE⟩
 ·refine (I.hok b o q).stay (fun c u hc z => PySem.W.hideAll_get _ z fun hm => ?_) (fun _ z => z) fun _ _ z => z
  rcases hc with rfl | hc
  ·rw [fr _ hm] at q; cases q
  ·rw [fr _ hm] at hc; cases hc
 ·exact PySem.W.hideAll_get _ (I.base.keep b o q n hb (by simp [z3q])) (out b o q hb)
 ·obtain ⟨sl,e1⟩:=I.base.slot b o q n hb (by simp [z3q])
  have hm : b ∈ (envOfC qual scope s₀.heap.objs.size f cd :: outer).filterMap (·.frame):=List.mem_cons_of_mem _ hb
  obtain ⟨_,o2,e2,nf⟩:=ff.mem hm
  rw [e1] at e2
  cases e2
  obtain ⟨sl2,e3⟩:=x4 b _ (hx.keeps _ _ e1) nf
  exact ⟨sl2,e3⟩
 ·exact I.base.free b o q n (by simp [z3q])
 ·obtain ⟨o',e1⟩:=I.base.there b o q (by simp [z3q])
  exact ⟨o',PySem.W.hideAll_get _ e1 (out b o q hb)⟩
end
end DX
namespace DX
open PySem PySem.Spec PyProof.Rows L2 Builtin Builtin.ObjectAttr Builtin.Getset_descriptor
abbrev veMro : List Value:=[.type "ValueError",.type "Exception",.type "BaseException",.type "object"]
theorem j2y {K : PySem.W.Frag} {h : Heap} {C : Addr} {bmB : List Value} {newId : String} (X : K.In h) (q : PySem.W.excIn K C bmB newId = true) :
  ∃ (bm : List Value) (N : Addr) (nm qn : Str) (bs : List Value) (hd : Bool) (sn : List Str) (sub : List Value) (ab : Bool) (col : Option Bool) (dd : Option Addr) (k0 k1 k2 k3 k5 : Option Value) (mN : Str -> Option Value),
   h.get? C = some (excClassObj nm qn C N bs bm hd sn sub ab col dd k0 k1 k2 k3 k5 newId) /\ h.Ns N mN /\ mN "__init__" = Option.none /\ OwnTail h bmB bm:=by
 unfold PySem.W.excIn at q
 split at q
 case h_2 => cases q
 rename_i dd cd sl ho
 split at q
 case h_2 => cases q
 rename_i C' bm k0 k1 k2 k3 n k5 hm hs
 rw [Bool.and_eq_true,Bool.and_eq_true,Bool.and_eq_true,Bool.and_eq_true,Bool.and_eq_true] at q
 obtain ⟨⟨⟨⟨⟨q1,q2⟩,q3⟩,q4⟩,q5⟩,q6⟩:=q
 have e1 : C' = C:=beq_iff_eq.mp q1
 have e2 : n = newId:=beq_iff_eq.mp q2
 subst e1; subst e2
 obtain ⟨nm,bs,mro,ns,qn,hd,sn,sub,ab,col,del⟩:=cd
 have e3 : mro = .ref C' :: bm:=hm
 have e4 : del = false:=by simpa using q3
 subst e3; subst e4
 obtain ⟨l⟩:=sl
 have e5 : l = [k0,k1,k2,k3,some (.builtin n),k5]:=hs
 subst e5
 exact ⟨bm,ns,nm,qn,bs,hd,sn,sub,ab,col,dd,k0,k1,k2,k3,k5,_,X _ _ ho,.of_isNs (PySem.W.isNs_of_in X q5),PySem.W.nsMap_none_of_in X q5 (beq_iff_eq.mp q6),PySem.W.tail_of_in X q4⟩
section
variable {P : Program} {w : World} {K : PySem.W.Frag} {mg : Str -> Option Value} {base : Heap} {N : List Str} {qual : Str} {scope : Scope} {f : Addr} {cd : Value} {A : Around} {outer : List Env} {s₀ : Shared} {H0 : Hp} {E : XK}
def j9p (E : XK) (C : Addr) : TS:=fun _ _ H => E (.ref C) Option.none H
theorem k1a {C : Addr} {x : Str} {np cpos pos : Pos} (hg : Gl (z3q (CXE P w) P w K mg base N qual scope f cd A outer s₀ H0 E) x) (hm : mg x = some (.ref C)) (q : PySem.W.excIn K C veMro "ValueError.__new__" = true)
  (hdb : (x == ("__debug__" : Str)) = false:=by decide) :
  PS (z3q (CXE P w) P w K mg base N qual scope f cd A outer s₀ H0 E) (.Raise (some (.Call (.Name x np) [] [] cpos)) Option.none pos) (j9p E C):=by
 intro pins s σ H D I hE
 obtain ⟨bm,N',nm,qn,bs,hd,sn,sub,ab,col,dd,k0,k1,k2,k3,k5,mN,hC,hN,hni,TL⟩:=j2y I.kIn q
 refine wpAny_Raise_call_subT (C:=C) (nm:=nm) (q:=qn) (N:=N') (bs:=bs) (bm:=bm) (hdct:=hd) (sn:=sn) (sub:=sub) (ab:=ab) (col:=col) (dd:=dd) (k0:=k0) (k1:=k1) (k2:=k2) (k3:=k3) (k5:=k5) (mN:=mN) F.excBase_ValueError (TL.hasType rfl) (I.ok.hd rfl) rfl hni ?_
 refine q9x I hg hm ⟨rfl,evalArgs_nil3 ?_⟩ hdb
 exact ⟨rfl,Nat.zero_le _,hC,hN,TL,fun h' e hm' => k6l I hm' hE⟩
end
def Hel (a : Addr) (C : Addr) (h : Heap) : Prop:=∃ o,h.get? a = some o /\ o.cls = .ref C
theorem k5u {a C : Addr} (h1 h2 : Heap) (x : Hel a C h1) (k : ∀ o,h1.get? a = some o -> h2.get? a = some o) : Hel a C h2:=let ⟨o,e,c⟩:=x; ⟨o,k o e,c⟩
structure XCls (K : PySem.W.Frag) (C : Addr) : Prop where
 ex : PySem.W.excIn K C veMro "ValueError.__new__" = true
 ga : PySem.W.findIn K (.ref C) "__getattribute__" = some (some (.builtin "BaseException.__getattribute__"))
 gh : PySem.W.findIn K (.ref C) "__getattr__" = some Option.none
 ca : PySem.W.findIn K (.ref C) "__class__" = some (some (.builtin "object.__class__"))
 cg : PySem.W.specialIn K (.builtin "object.__class__") "__get__" = some (some (.builtin "getset_descriptor.__get__"))
 ct : PySem.W.takesIn K (.builtin "object.__class__") = some true
 mo : PySem.W.mroIn K C (.type "object") = some true
 mb : PySem.W.mroIn K C (.type "BaseException") = some true
 cl : (PySem.W.clsIn K C).isSome = true
section
variable {prog : Program} {w : World} {A : Around} {E : Value -> Shared -> Prop} {s : Shared} {K : PySem.W.Frag} {a C : Addr}
theorem z7o {M : Model} {h : Heap} (p : Hel a C h) : PySem.W.Looks M h (typeOf (.ref a)) (.ref C):=by
 obtain ⟨o,h1,h2⟩:=p
 exact h2 ▸ (PySem.W.Looks.ld h1).andThen .now
theorem j3r {R : Result -> Shared -> Prop} {tp : Value} (X : K.In s.heap) (p : Hel a C s.heap) (c : XCls K C) (h : R (.ok (.ret (.ref C))) s) :
  codeAny (model prog w) A (.call (.builtin "getset_descriptor.__get__") ⟨[.builtin "object.__class__",.ref a,tp],[]⟩) R s:=by
 obtain ⟨hh,g,dr,t,os⟩:=s
 have L0:=z7o (M:=model prog w) p
 have L1:=PySem.W.looks_mroIn (M:=model prog w) X c.mo
 refine codeAny_call_builtin PySem.W.KF.slot_gs.plain PySem.W.KF.entry_gs (PySem.W.KF.slot_gs.check _ _ _ _ _ _ _ _ PySem.W.KF.type_class (PySem.W.KF.args_gs _ _ _) ?_)
 unfold Builtin.«getset_descriptor.__get__» descrGet
 rw [PySem.W.dga_obj]
 refine wpAny_bind (wpAny_pure ?_)
 unfold descrGetter descrCheckInstance descrNameAndClass isInstance
 simp only [PySem.W.KF.owner_class]
 repeat lk
 refine ⟨Code.quiet_builtin _ (by decide +kernel),codeAny_builtin PySem.W.KF.entry_class ?_⟩
 unfold Builtin.«object.__class__» shownTypeOf
 repeat lk
 exact h
theorem k7k {M : Model} {h : Heap} (X : K.In h) (p : Hel a C h) (c : XCls K C) : PySem.W.Looks M h (find (.ref a) (.ref C) "__class__") (.bind (.builtin "getset_descriptor.__get__") (.builtin "object.__class__")):=by
 have L1:=PySem.W.looks_findIn (M:=M) X c.ca
 have L2:=PySem.W.looks_specialIn (M:=M) X c.cg
 have L3:=PySem.W.looks_takesIn (M:=M) X c.ct
 exact L1.andThen (L2.andThen ((show PySem.W.Looks M h (dataDescriptor? (some (.builtin "object.__class__")) (some (.builtin "getset_descriptor.__get__"))) (some (.builtin "getset_descriptor.__get__",.builtin "object.__class__")) from L3.andThen .now).andThen (PySem.W.Looks.tag .now)))
theorem k2w {Q : Option Value -> Shared -> Prop} (X : K.In s.heap) (p : Hel a C s.heap) (c : XCls K C) (h : Q (some (.ref C)) { s with toks:=s.toks + 1 }) : wpAny (model prog w) A (getAttr? (.ref a) "__class__") Q E s:=by
 obtain ⟨hh,g,d,t,os⟩:=s
 have X : K.In hh:=X
 have p : Hel a C hh:=p
 have L0:=z7o (M:=model prog w) p
 have L1:=PySem.W.looks_findIn (M:=model prog w) X c.ga
 have L2:=PySem.W.looks_findIn (M:=model prog w) X c.gh
 have L3:=k7k (M:=model prog w) X p c
 have L4:=PySem.W.looks_mroIn (M:=model prog w) X c.mb
 unfold getAttr? getAttrBy? getAttrBy
 refine wpAny_bind (wpAny_mkText (wpAny_bind (wpAny_attempt (wpAny_holding (wpAny_bind (L0.at (wpAny_bind (L1.at ?_))))))))
 dsimp only
 rw [if_neg (show ¬ ((onTheHeap (Value.ref C) && Value.builtin "BaseException.__getattribute__" == Value.builtin "object.__getattribute__") = true) by simp)]
 unfold getAttrByItsOwn hookBefore
 rw [if_pos (show onTheHeap (Value.ref C) = true from rfl)]
 refine wpAny_bind (L2.at ?_)
 refine wpAny_bind (wpAny_attempt (wpAny_holding ?_))
 unfold callGetattribute
 rw [if_neg (show ¬ ((false && onTheHeap (Value.builtin "BaseException.__getattribute__")) = true) by decide)]
 unfold boundAndCalled
 refine wpAny_bind (wpAny_of_eq (F.attrBase_ValueError.ga.bind (.ref a)) ?_)
 refine wpAny_call (codeAny_call_builtin F.attrBase_ValueError.ga.plain F.entry_bexc_ga ?_)
 have gk : builtinKind "BaseException.__getattribute__" = some .slot:=by decide +kernel
 have gs : splitId "BaseException.__getattribute__" = some ("BaseException","__getattribute__"):=by decide +kernel
 have gaok:=F.args_bexc_ga (.ref a) (.str "__class__" t)
 show wpAny _ _ (checkBuiltinCall "BaseException.__getattribute__" ⟨[.ref a,.str "__class__" t],[]⟩) _ _ _
 simp only [checkBuiltinCall,gk,gs]
 refine wpAny_bind ?_
 unfold isInstance
 repeat (first | lk | wp_step)
 refine wpAny_run (h:=none) (j3r (s:=⟨hh,g,d,t + 1,os⟩) X p c ?_)
 dsimp only
 repeat (first | lk | wp_step)
 exact h
theorem z7l (c : XCls K C) : PySem.W.KitX K (.ref a) (.ref C) (Hel a C) where
 ty:=fun M h _ p => z7o p
 it:=fun M h X _ => by
  obtain ⟨cdD,hcD⟩:=Option.isSome_iff_exists.mp c.cl
  unfold PySem.W.clsIn at hcD
  split at hcD
  ·rename_i ho
   intro A' Q' E' s' k q
   unfold isType loadHead
   exact wpAny_bind (wpAny_loadPart (k _ _ (X _ _ ho)) (wpAny_pure q))
  ·cases hcD
 ne:=fun h tp dd its n sl X htp => by
  obtain ⟨cdD,hcD⟩:=Option.isSome_iff_exists.mp c.cl
  refine Bool.eq_false_iff.mpr fun q => ?_
  have e : C = tp:=Value.ref.inj (beq_iff_eq.mp q)
  subst e
  unfold PySem.W.clsIn at hcD
  split at hcD
  ·rename_i ho
   cases (X _ _ ho).symm.trans htp
  ·cases hcD
 ca:=fun X p k => k2w X p c k
end
end DX
namespace DX
open PySem PySem.Spec PyProof.Rows L2
abbrev mkd (X : Cx) (e : Value) : Cx:={ X with A:=X.A.mark (some e),calm:=false }
section
variable {X : Cx} {pins : List (Addr × Obj)} {σ : L2.St} {H H' : Hp} {s s' : Shared}
theorem k4i (I : Inv X pins σ H s) (e : Value) : Inv (mkd X e) pins σ H s :=
 ⟨⟨I.ok.mod,I.ok.kind,I.ok.glob,I.ok.blt,I.ok.above,I.ok.inj,I.ok.has,I.ok.cab,(fun z => nomatch z),I.ok.frames,I.ok.stk,I.ok.exf,I.ok.bs,I.ok.bsz,I.ok.noex,I.ok.exfs,I.ok.funs,I.ok.frf⟩,I.os,I.bare,I.base,I.loc,I.cell,I.free,I.freeC,I.pin,I.hok,I.len⟩
theorem inv_unmkd {e : Value} (ok : X.Ok) (I : Inv (mkd X e) pins σ H s) : Inv X pins σ H s:=⟨ok,I.os,I.bare,I.base,I.loc,I.cell,I.free,I.freeC,I.pin,I.hok,I.len⟩
theorem j4a {a : Addr} {φ : Heap -> Prop} (I : Inv X pins σ H s) (hn : H a = none) (p : φ s.heap) (hp : ∃ o,s.heap.get? a = some o) (st : ∀ h1 h2 : Heap,φ h1 -> (∀ o,h1.get? a = some o -> h2.get? a = some o) -> φ h2)
  (h0 : ∀ o,X.s₀.heap.get? a = some o -> X.H0 a = none -> a ∉ X.ex -> False) (hl : a ≠ X.env.locals) (hc : ∀ x c,X.env.cells.lookup x = some c -> c ≠ a) (hpn : ∀ p ∈ X.pn ++ pins,p.1 ≠ a) : Inv X pins σ (upd H a (.ext φ)) s:=by
 have ne : ∀ b,b ≠ a -> upd H a (.ext φ) b = H b:=fun b hb => by unfold upd; rw [if_neg hb]
 refine ⟨I.ok,I.os,I.bare,⟨I.base.keep,I.base.slot,fun b o q n hx => ?_,I.base.there,fun b xs q => ?_,fun b o u q => ?_,fun b ps q => ?_⟩,I.loc,I.cell,?_,fun x c q => ?_,fun p hp' => ?_,fun b o q => ?_,I.len⟩
 ·by_cases hb : b = a
  ·subst hb; exact (h0 o q n hx).elim
  ·rw [ne b hb]; exact I.base.free b o q n hx
 ·rw [ne b fun e => by rw [e] at q; rw [I.base.tups a xs q] at hn; cases hn]; exact I.base.tups b xs q
 ·rw [ne b fun e => by rw [e] at q; rw [I.base.frzs a o u q] at hn; cases hn]; exact I.base.frzs b o u q
 ·obtain ⟨m,e1⟩:=I.base.tbls b ps q
  exact ⟨m,by rw [ne b fun e => by rw [e,hn] at e1; cases e1]; exact e1⟩
 ·rw [ne _ hl.symm]; exact I.free
 ·rw [ne _ (hc x c q)]; exact I.freeC x c q
 ·obtain ⟨p1,p2,p3⟩:=I.pin p hp'
  exact ⟨p1,by rw [ne _ (hpn p hp')]; exact p2,p3⟩
 ·by_cases hb : b = a
  ·subst hb
   have : upd H b (.ext φ) b = some (.ext φ):=by unfold upd; rw [if_pos rfl]
   rw [this] at q
   cases q
   exact ⟨p,hp,st⟩
  ·rw [ne b hb] at q
   refine (I.hok b o q).stay (fun c u _ z => z) (fun c z => ?_) fun c xs z => ?_
   ·rw [ne c fun e => by rw [e,hn] at z; cases z]; exact z
   ·rw [ne c fun e => by rw [e,hn] at z; cases z]; exact z
theorem name_goes {M : Model} {A : Around} {E : Value -> Shared -> Prop} {i : Nat} {x : Str} {pos : Pos} {Q : Unit -> Shared -> Prop} (I : Inv X pins σ H s) (hN : X.N.Nodup) (hi : X.N[i]? = some x) (hk : X.env.scope.names.lookup x = some .local)
  (h : ∀ s',Inv X pins (σ.set i none) H s' -> Q () s') : wpAny M A (do bindName X.env x .none; unbindBehindTheSuite X.env x pos) Q E s:=by
 obtain ⟨m,hn,hl⟩:=id I.loc
 have hcls : (X.env.scope.kind == .class || (X.env.scope.kind == .module && X.env.locals != X.env.globals)) = false:=by rw [I.ok.kind]; rfl
 have hiσ : i < σ.length:=by rw [I.len]; exact (List.getElem?_eq_some_iff.mp hi).1
 have cne:=I.cne
 refine wpAny_nameGoes_keeps hk hn hcls fun h' v hn' hs => ?_
 refine h _ ⟨I.ok,I.os,I.bare,⟨fun b o e n hb hx => ?_,fun b o e n hb hx => ?_,I.base.free,fun b o e hx => ?_,I.base.tups,I.base.frzs,I.base.tbls⟩,⟨_,hn',fun j y v' e1 e2 e3 => ?_⟩,fun y c e => ?_,I.free,I.freeC,fun p hp => ?_,fun b ob e => ?_,by simpa using I.len⟩
 ·exact (hs.2 b (Nat.ne_of_lt (Nat.lt_of_lt_of_le (Heap.lt_size e) I.ok.above))).trans (I.base.keep b o e n hb hx)
 ·obtain ⟨sl,e1⟩:=I.base.slot b o e n hb hx
  exact ⟨sl,(hs.2 b (Nat.ne_of_lt (Nat.lt_of_lt_of_le (Heap.lt_size e) I.ok.above))).trans e1⟩
 ·obtain ⟨o',e1⟩:=I.base.there b o e hx
  exact ⟨o',(hs.2 b (Nat.ne_of_lt (Nat.lt_of_lt_of_le (Heap.lt_size e) I.ok.above))).trans e1⟩
 ·by_cases hj : j = i
  ·subst hj
   rw [List.getElem?_set_self hiσ] at e2
   cases e2
  ·rw [List.getElem?_set_ne (Ne.symm hj)] at e2
   obtain ⟨u',r',q⟩:=hl j y v' e1 e2 e3
   refine ⟨u',r',?_⟩
   rcases q with ⟨k,e⟩ | ⟨k,c,e,z⟩
   ·refine .inl ⟨k,?_⟩
    have : y ≠ x:=fun e => hj (z2t hN e1 (e ▸ hi))
    simp [this,e]
   ·exact .inr ⟨k,c,e,z.sameBut hs (cne y c e)⟩
 ·obtain ⟨w',z⟩:=I.cell y c e
  exact ⟨w',z.sameBut hs (cne y c e)⟩
 ·obtain ⟨e,n,ne,nf,d⟩:=I.pin p hp
  exact ⟨(hs.2 p.1 ne).trans e,n,ne,nf,d⟩
 ·refine (I.hok b ob e).stay (fun c w' hc q => (hs.2 c ?_).trans q) (fun _ q => q) fun _ _ q => q
  rintro rfl
  rcases hc with rfl | hc
  ·rw [I.free] at e; cases e
  ·rw [I.free] at hc; cases hc
theorem z1x {a : Addr} {C a0 : Value} {B : Heap} {h2 : Heap} (I : Inv X pins σ H s) (hx : X.ex = []) (hos : s'.os = s.os) (hb : AllBare s'.gens) (hok : HOk X.prog X.w H' B) (ub : UB (frs X.stack) H H' s.heap B s'.heap)
  (fl : Heap.FlyingW B X.stack a C a0 s'.heap) (st : B.StaysIn h2) (sm : s'.heap.UpToSlots h2) : Inv X pins σ H' { s' with heap:=h2 }:=by
 refine I.call' (ch:=[]) hos (ub.un I.stkFree (fun b hb o e vs hd => ?_) st sm) (hok.kept st) hb (fun b z => absurd z (by simp))
 obtain ⟨_,o2,e2,nf⟩:=fl.2.2.1.mem hb
 rw [e] at e2
 cases e2
 exact nf vs hd
theorem z4s {a : Addr} {C a0 : Value} {B : Heap} (I : Inv X pins σ H s) (ub : UB (frs X.stack) H H' s.heap B s'.heap) (fl : Heap.FlyingW B X.stack a C a0 s'.heap) :
  (∀ o,s.heap.get? a = some o -> H a = none -> False) /\ a ∉ frs X.stack:=by
 obtain ⟨oe,vs,T,oT,ts,he,hcl,hd,_⟩:=fl.2.2.2
 have nf : a ∉ frs X.stack:=fun hm => by
  obtain ⟨_,o2,e2,nf⟩:=fl.2.2.1.mem hm
  rw [he] at e2
  cases e2
  exact nf vs hd
 refine ⟨fun o e n => ?_,nf⟩
 have:=ub.keep a o e n nf
 rw [fl.2.1] at this
 cases this
theorem catch_as {E : XK} {e : Value} {x n : Str} {np pos : Pos} {b₀ : Stmt} {suite : List Stmt} {rest : List ExceptHandler} {c : Value} {i : Nat} {Q : Flow -> Shared -> Prop} {Ex : Value -> Shared -> Prop}
  (I : Inv X pins σ H s) (hx : X.ex = []) (hst : X.stack = X.env :: X.outer) (hfr : X.env.frame = some X.env.locals) (hc : CXE X.prog X.w X.stack H s E e s') (hg : Gl X x) (hm : X.mg x = some c)
  (hE : ∀ C dx H',E C dx H' -> ∃ Ca,C = .ref Ca /\ PySem.W.exmOne X.K (.ref Ca) c = some true) (hN : X.N.Nodup) (hi : X.N[i]? = some n) (hlo : X.env.scope.names.lookup n = some .local)
  (k : ∀ (a C : Addr) (H' : Hp) (s4 : Shared),E (.ref C) Option.none H' -> H' a = none -> Inv (mkd X (.ref a)) pins (σ.set i (some (.ref a))) (upd H' a (.ext (Hel a C))) s4 →
   wpAny (model X.prog X.w) (X.A.mark (some (.ref a))) (execs (b₀ :: suite) X.env) (fun f s₅ => wpAny (model X.prog X.w) X.A (do bindName X.env n .none; unbindBehindTheSuite X.env n pos) (fun _ s₆ => Q f s₆) Ex s₅) (fun _ _ => False) s4)
  (hdb : (x == ("__debug__" : Str)) = false:=by decide) :
  wpAny (model X.prog X.w) X.A (noteFrame e X.env) (fun _ s₂ => wpAny (model X.prog X.w) X.A (setFlight e none) (fun _ s₃ => wpAny (model X.prog X.w) X.A (handleBy e X.env (.ExceptHandler (some (.Name x np)) (some n) (b₀ :: suite) pos :: rest)) Q Ex s₃) Ex s₂) Ex s':=by
 obtain ⟨a,C,a0,B,H',rfl,hos,hb,hfl,hok,ub,he⟩:=hc
 obtain ⟨Ca,rfl,hex⟩:=hE C _ _ he
 obtain ⟨fr1,fr2⟩:=z4s I ub hfl
 have hA : X.A.frames = some (X.env :: X.outer):=by rw [I.ok.frames,hst]
 have hfl' : Heap.FlyingW B (X.env :: X.outer) a (.ref Ca) a0 s'.heap:=hst ▸ hfl
 have HN : H' a = none:=by
  cases z : H' a with
  | none => rfl
  | some o =>
   obtain ⟨u,q⟩:=z7c (hok a o z)
   rw [hfl.2.1] at q; cases q
 refine wpAny_looks_onW hA hfr hfl' fun h₄ held₄ sm₄ => ?_
 refine wpAny_landsW held₄ fun h₅ fl₅ sm₅ => ?_
 have I5 : Inv X pins σ H' { s' with heap:=h₅ }:=z1x I hx hos hb hok ub hfl fl₅.1 (sm₄.trans sm₅)
 have hel5 : Hel a Ca h₅:=fl₅.there
 refine wpAny_handleBy_cons (codeAny_handlers_test ?_) (by intro q; cases q)
 refine q9x (k4i I5 (.ref a)) hg hm ?_ hdb
 refine (PySem.W.exm_one (M:=model X.prog X.w) I5.kIn (z7o hel5) hex).here ?_
 dsimp only
 rw [if_pos rfl]
 refine codeAny_handlers_suite_as ?_
 refine lands_againW fl₅ fun h₆ fl₆ sm₆ => ?_
 have I6 : Inv X pins σ H' { s' with heap:=h₆ }:=z1x I hx hos hb hok ub hfl fl₆.1 ((sm₄.trans sm₅).trans sm₆)
 have hel6 : Hel a Ca h₆:=fl₆.there
 obtain ⟨oe,vs,T,oT,ts,hoe,_,hd,_⟩:=fl₆.2.2.2
 have I7 : Inv (mkd X (.ref a)) pins σ (upd H' a (.ext (Hel a Ca))) { s' with heap:=h₆ }:=by
  refine j4a (k4i I6 (.ref a)) HN hel6 ⟨oe,hoe⟩ (fun h1 h2 => k5u h1 h2) (fun o q n hx' => ?_) (fun z => ?_) (fun y c' q z => ?_) fun p hp z => ?_
  ·by_cases hf : a ∈ X.fs
   ·obtain ⟨sl,q2⟩:=I.base.slot a o q n hf hx'
    exact fr1 _ q2 (I.base.free a o q n hx')
   ·exact fr1 _ (I.base.keep a o q n hf hx') (I.base.free a o q n hx')
  ·refine fr2 ?_
   rw [hst,z]
   exact List.mem_filterMap.mpr ⟨_,.head _,hfr⟩
  ·obtain ⟨w',zc⟩:=I.cell y c' q
   obtain ⟨oc,q2,_⟩:=zc
   rw [z] at q2
   exact fr1 _ q2 (z ▸ I.freeC y c' q)
  ·obtain ⟨p1,p2,_⟩:=I.pin p hp
   rw [z] at p1 p2
   exact fr1 _ p1 p2
 refine z2f (X:=mkd X (.ref a)) I7 hN hi (.inl hlo) (show RelV (.ref a) (.ref a) from rfl) (fun s4 I8 => ?_) (.inr hlo)
 exact wpAny_mono (k a Ca H' s4 he HN I8) (fun f s₅ h => h) fun _ _ z => z.elim
theorem try_raises {f : Addr} {fd : FuncData} {ps : List Str} {sp : Sp} {kk : Nat} {fx : Str} {p cpos epos pos : Pos} {e : Expr} {es : List Expr} {t : TA} {h₀ : ExceptHandler} {hs : List ExceptHandler} {Q : Flow -> Shared -> Prop} {Ex : Value -> Shared -> Prop}
  (I : Inv X pins σ H s) (F : q3d X.prog X.w X.K X.mg X.base (CXE X.prog X.w) kk f fd ps sp) (hr : z1a kk X.A) (hg : Gl X fx) (hm : X.mg fx = some (.ref f)) (hk : PySem.W.keepIn X.K (.ref f) = true) (hb : Binds X.K fd ps []) (ha : PA X.nox (e :: es) t)
  (h : t σ H fun vs H1 => ∃ E : XK,sp vs H1 (fun _ _ => False) E /\ ∀ s1 x s',Inv X pins σ H1 s1 -> CXE X.prog X.w X.stack H1 s1 E x s' →
   wpAny (model X.prog X.w) X.A (noteFrame x X.env) (fun _ s₂ => wpAny (model X.prog X.w) X.A (setFlight x none) (fun _ s₃ => wpAny (model X.prog X.w) X.A (handleBy x X.env (h₀ :: hs)) Q Ex s₃) Ex s₂) Ex s')
  (hsw : swapsWith (.Call (.Name fx p) (e :: es) [] cpos) none epos.line X.env = pure false:=by rfl)
  (hdb : (fx == ("__debug__" : Str)) = false:=by decide) (he : starEach (e :: es) X.env = (false,eval e X.env) :: starEach es X.env:=by rfl) (hpl : (backTo cpos (starEach es X.env)).any (·.1) = false:=by rfl) :
  wpAny (model X.prog X.w) X.A (exec (.Try [.Expr (.Call (.Name fx p) (e :: es) [] cpos) epos] (h₀ :: hs) [] [] pos) X.env) Q Ex s:=by
 refine wpAny_Try_except (wpAny_execs_cons (wpAny_mono (Q:=fun _ _ => False) (wpAny_Expr_any (Q:=fun _ _ => False) ?_ I.quiet hsw) (fun _ _ z => z.elim) fun _ _ z => z))
 refine wpAny_Call_Name_kw (q9x I hg hm ?_ hdb)
 refine PySem.W.callWith_K (h₀:=X.base) I.ok.mod.kin hk (wpAny_mono (ha cpos pins s σ H _ (I.wish _) h) (fun us s1 ⟨vs,H1,I1,r,E,q1,q2⟩ => ⟨I1.unwish.kIn,?_⟩) fun _ _ z => z.elim) he hpl
 have I1 : Inv X pins σ H1 s1:=I1.unwish
 have hl : (us ++ []).length = ps.length:=by rw [List.append_nil,<- r.length]; exact F.len _ _ _ _ q1
 refine wpAny_call (codeAny_mono (F.run X.A X.stack s1 H1 ⟨us,[]⟩ us vs (fun _ _ => False) E hr I1.env0 (by have:=hb s1 us I1.kIn hl; rwa [List.append_nil] at this) r q1) fun r s' hq => ?_)
 cases r with
 | error x => exact q2 s1 x s' I1 hq
 | ok fl =>
  cases fl with
  | ret u => obtain ⟨_,_,_,_,_,_,_,z⟩:=hq; exact z.elim
  | next => exact False.elim hq
  | brk => exact False.elim hq
  | cont => exact False.elim hq
theorem call_isiX {C : Addr} (hc : XCls X.K C) : q6s X (.builtin "isinstance") (fun xs H Q => ∃ a,H a = some (.ext (Hel a C)) /\ ∃ b,((∃ c u,xs = [.ref a,c] /\ (∀ u',RelV c u' -> u' = u) /\ PySem.W.kitOne X.K (.ref C) u = some b) ∨
  ∃ t cs us,xs = [.ref a,.ref t] /\ H t = some (.tup cs) /\ (∀ us',q3w cs us' -> us' = us) /\ PySem.W.kitAny X.K (.ref C) us = some b) /\ Q (.bl b) H):=by
 intro pins s σ H xs us Q I rv h
 obtain ⟨a,ha,b,h,q⟩:=h
 have hh : Hel a C s.heap:=(show q5a X.prog X.w H s.heap a (.ext (Hel a C)) from I.hok a _ ha).1
 have fin : ∀ tk,EP X pins σ Q (.bool b) { s with toks:=tk }:=fun tk => ⟨.bl b,H,I.tok tk,rfl,q⟩
 rcases h with ⟨c,u,rfl,hu,e⟩ | ⟨t,cs,us',rfl,ht,hu,e⟩
 ·obtain ⟨u1,u2,rfl,r1,r2⟩:=vals2 rv
  cases (show u1 = Value.ref a from r1)
  cases hu _ r2
  exact PySem.W.kia_one (z7l hc) I.kIn hh e (fun z => nomatch z) fin
 ·obtain ⟨u1,u2,rfl,r1,r2⟩:=vals2 rv
  cases (show u1 = Value.ref a from r1)
  cases (show u2 = Value.ref t from r2)
  obtain ⟨_,its,rr,o,e1,e2,n,e3⟩:=(show q5a X.prog X.w H s.heap t (.tup cs) from I.hok t _ ht)
  cases hu _ rr
  obtain ⟨oc,od,odat,osl⟩:=o
  dsimp only at e2 e3
  subst e2; subst e3
  exact PySem.W.kia_tup (z7l hc) I.kIn hh e1 e (fun z => nomatch z) fin
end
end DX
namespace DX
open PySem PySem.Spec PyProof.Rows L2 DL
theorem j6d {X : Cx} {st : Stmt} {t : TS} (h : PS X.nox st t) : PS X st t:=fun pins s σ H D I hw =>
 wpAny_mono (h pins s σ H D (I.wish _) hw) (fun _ _ q => q.unwish) fun _ _ z => False.elim z
def PSY (m : Md) (X : Cx) (st : Stmt) (ds : DS) : Prop:=∃ ts,PS X st ts /\ ∀ (W : Addr -> Prop) (σ : L2.St) (H : Hp) (ρ : En) (O : Addr -> Prop) (E : z8b) (T : z9i),SR X.K W X.H0 σ H ρ O -> ds E ρ -> Lk m X.K W X.H0 ρ O H E T -> ts T σ H
def PBY (m : Md) (X : Cx) (st : List Stmt) (ds : DS) : Prop:=∃ ts,PSs X st ts /\ ∀ (W : Addr -> Prop) (σ : L2.St) (H : Hp) (ρ : En) (O : Addr -> Prop) (E : z8b) (T : z9i),SR X.K W X.H0 σ H ρ O -> ds E ρ -> Lk m X.K W X.H0 ρ O H E T -> ts T σ H
section
variable {m : Md} {X : Cx} {st : Stmt} {rest : List Stmt} {s t : DS} {pos : Pos}
theorem sy_of (h : PSX m X.nox st s) : PSY m X st s:=let ⟨ts,p,q⟩:=h; ⟨ts,j6d p,fun W σ H ρ O E T S h L => q W X.H0 σ H ρ O E T S h L⟩
theorem by_of {sts : List Stmt} (h : PBX m X.nox sts s) : PBY m X sts s:=let ⟨ts,p,q⟩:=h; ⟨ts,p.nox,fun W σ H ρ O E T S h L => q W X.H0 σ H ρ O E T S h L⟩
theorem by_one (h : PSY m X st s) : PBY m X [st] s:=let ⟨ts,p,q⟩:=h; ⟨ts,q9w p,q⟩
theorem by_cons (h : PSY m X st s) (h2 : PBY m X rest t) : PBY m X (st :: rest) (k9o s t):=by
 obtain ⟨ts,p,q⟩:=h
 obtain ⟨us,p2,q2⟩:=h2
 refine ⟨w2z ts us,q7u p p2,fun W σ H ρ O E T S h L => ?_⟩
 exact q W σ H ρ O _ _ S h (L.with fun σ' H' ρ' O' S' f h' => q2 W σ' H' ρ' O' E T S' h' (L.frm f))
theorem sy_if {c : Expr} {a b : List Stmt} {dc : DT} (hc : PTX X.nox c dc) (ha : PBY m X a s) (hb : PBY m X b t) : PSY m X (.If c a b pos) (dIf dc s t):=by
 obtain ⟨tc,pc,qc⟩:=hc
 obtain ⟨ts,ps,qs⟩:=ha
 obtain ⟨us,pu,qu⟩:=hb
 refine ⟨w1p tc ts us,j0o pc.nox ps pu,fun W σ H ρ O E T S h L => ?_⟩
 refine qc W X.H0 σ H ρ O _ _ S h fun c H' e z => ?_
 cases c with
 | true => rw [if_pos rfl] at z ⊢; exact qs W σ H' ρ O E T (S.grow e) z (L.frm (Frm.same e))
 | false => rw [if_neg Bool.false_ne_true] at z ⊢; exact qu W σ H' ρ O E T (S.grow e) z (L.frm (Frm.same e))
def dThrow : DS:=fun _ _ => True
end
section
variable {P : Program} {w : World} {K : PySem.W.Frag} {mg : Str -> Option Value} {base : Heap} {N : List Str} {qual : Str} {scope : Scope} {f : Addr} {cd : Value} {A : Around} {outer : List Env} {s₀ : Shared} {H0 : Hp} {E : XK} {m : Md}
theorem sy_raise0 {C : Addr} {x : Str} {np cpos pos : Pos} (hE : ∀ H',q2h H0 H' -> E (.ref C) Option.none H') (hg : Gl (z3q (CXE P w) P w K mg base N qual scope f cd A outer s₀ H0 E) x) (hm : mg x = some (.ref C))
  (q : PySem.W.excIn K C veMro "ValueError.__new__" = true) (hdb : (x == ("__debug__" : Str)) = false:=by decide) :
  PSY m (z3q (CXE P w) P w K mg base N qual scope f cd A outer s₀ H0 E) (.Raise (some (.Call (.Name x np) [] [] cpos)) Option.none pos) dThrow :=
 ⟨_,k1a hg hm q hdb,fun W σ H ρ O EE T S _ L => hE H S.same⟩
def spX (K : PySem.W.Frag) (ms : List Bool) (C : Addr) (pre : List D -> Prop) : Sp:=fun vs H _ E => ∃ ds O,q8a O H /\ q5e K O H ms vs ds /\ pre ds /\ ∀ H',q2h H H' -> E (.ref C) Option.none H'
theorem okX {x : Str} {st : Stmt} {fd : FuncData} {ps : List Str} {k : Nat} {ms : List Bool} {C : Addr} {pre : List D -> Prop} (m : Md) (F : Fun K x qual st f fd) (S : q2a N ps (q1j st)) (hl : ms.length = ps.length)
  (hbody : ∀ (cdv : Value) (A : Around) (outer : List Env) (s : Shared) (H : Hp) (E : XK),(∀ H',q2h H H' -> E (.ref C) Option.none H') -> z1a k (A.deeper (envOfC qual (q1j st) s.heap.objs.size f cdv)) →
   ∃ db,PBY m (z3q (CXE P w) P w K mg base N qual (q1j st) f cdv A outer s H E) (q1x st) db /\ ∀ (vs : List V) (ds : List D),vs.length = ms.length -> ds.length = ms.length -> pre ds -> db { nx:=fun _ => False,rt:=fun _ => False } (q8d N ms vs ds)) :
  q3d P w K mg base (CXE P w) (k + 1) f fd ps (spX K ms C pre):=by
 obtain ⟨oc,od,kV,doc,pm,an,cdv,ct,osl,rfl,lk,hcd⟩:=F.ex
 refine j9l lk hcd S (fun vs H Q E h => ?_) fun A outer s H vs Q E hr h => ?_
 ·obtain ⟨ds,O,_,r,_⟩:=h
  rw [r.length.1,hl]
 obtain ⟨ds,O,M,r,hp,hq⟩:=h
 obtain ⟨db,⟨ts,p,q⟩,rd⟩:=hbody cdv A outer s H E hq hr
 refine ⟨ts,p,?_⟩
 exact q O (L2.start N vs) H (q8d N ms vs ds) O _ _ (SR.start M r) (rd vs ds r.length.1 r.length.2 hp) ⟨fun _ _ _ _ _ _ z => False.elim z,fun _ _ _ _ _ _ z => False.elim z,fun _ _ _ _ _ _ z => False.elim z,fun _ _ _ _ _ z => False.elim z⟩
end
section
variable {X : Cx}
def D.isStr : D -> Option Bool
 | .str _ => some true
 | .non | .bl _ | .int _ | .tup _ | .lst _ | .dK _ _ => some false
 | _ => none
theorem k6r (K : PySem.W.Frag) : PySem.W.kitOne K (.type "dict") (.type "str") = some false:=by kernel_rfl
theorem k3s : q6s X (.builtin "isinstance") (fun xs H Q => ∃ x b,xs = [x,.ty "str"] /\ ((∃ t,DTy X.K H x t /\ PySem.W.kitOne X.K (.type t) (.type "str") = some b) \/ (∃ a kvs,x = .ref a /\ Rd H a (.dK kvs) /\ b = false)) /\ Q (.bl b) H):=by
 intro pins s σ H xs us Q I rv h
 obtain ⟨x,b,rfl,h,q⟩:=h
 rcases h with ⟨t,ty,e⟩ | ⟨a,kvs,rfl,hr,rfl⟩
 ·exact z4h pins s σ H _ us Q I rv ⟨x,"str",t,b,rfl,ty,e,q⟩
 ·obtain ⟨u,c,rfl,rx,rc⟩:=vals2 rv
  cases rc
  cases (show u = Value.ref a from rx)
  obtain ⟨_,_,vs,_,o,es,ep,h1,h2,_⟩:=(show q5a X.prog X.w H s.heap a (.dK kvs) from hr.ok I.hok)
  exact PySem.W.kia_one PySem.W.kitx_dict I.kIn ⟨o,h1,h2.1⟩ (k6r _) (fun z => nomatch z) fun tk => ⟨.bl false,H,I.tok tk,rfl,q⟩
def gIsS : GA
 | [d,.ty T],R => T = "str" /\ q3n (D.isStr d) fun b => R (.bl b)
 | _,_ => False
theorem cx_isS : z0s .v [true,true] X (.builtin "isinstance") gIsS:=by
 refine ⟨_,k3s,fun O H vs ds R Q M r hg k => ?_⟩
 have hl:=r.length.2
 match ds,hl,r,hg with
 | [d,e],_,r,hg =>
  obtain ⟨v,w,rfl,rv,rw⟩:=r.b2
  cases e with
  | ty T =>
   obtain ⟨rfl,hg⟩:=hg
   cases rw.ty
   have std : ∀ t b,d.tyN = some t -> w0n t "str" = b -> R (.bl b) -> ∃ x b,[v,V.ty "str"] = [x,.ty "str"] /\ ((∃ t,DTy X.K H x t /\ PySem.W.kitOne X.K (.type t) (.type "str") = some b) \/ (∃ a kvs,x = .ref a /\ Rd H a (.dK kvs) /\ b = false)) /\ Q (.bl b) H:=fun t b ht hb hR => by
    obtain ⟨q1,q2⟩:=rv.dty ht
    exact ⟨v,b,rfl,.inl ⟨t,q1,by rw [k1l _ t q2 "str" (by decide),hb]⟩,k _ _ _ (q2h.refl _) (.bl _) hR⟩
   cases d with
   | non => exact std _ _ rfl (by decide) hg
   | bl b => exact std _ _ rfl (by decide) hg
   | int b => exact std _ _ rfl (by decide) hg
   | str b => exact std _ _ rfl (by decide) hg
   | tup b => exact std _ _ rfl (by decide) hg
   | lst b => exact std _ _ rfl (by decide) hg
   | dK ks ds =>
    obtain ⟨a,kvs,rfl,h1,_⟩:=z4u rv
    exact ⟨_,false,rfl,.inr ⟨a,kvs,rfl,h1,rfl⟩,k _ _ _ (q2h.refl _) (.bl _) hg⟩
   | _ => exact hg.elim
  | _ => exact hg.elim
end
section
variable {X : Cx}
theorem z9e {x : Str} {acc : Array Value} (h : ItemsOf (SignAt x) acc x.cps.size) : q3w (x.cps.toList.map fun c => V.str ⟨#[c]⟩) acc.toList:=by
 have key : ∀ (l : List Value) (cs : List Nat),l.length = cs.length -> (∀ (j : Nat) v,l[j]? = some v -> ∃ c t,cs[j]? = some c /\ v = .str ⟨#[c]⟩ t) -> q3w (cs.map fun c => V.str ⟨#[c]⟩) l:=by
  intro l
  induction l with
  | nil => intro ks hl _; cases ks with
   | nil => exact .nil
   | cons _ _ => simp at hl
  | cons v l ih => intro ks hl hv; cases ks with
   | nil => simp at hl
   | cons k ks =>
    obtain ⟨k',t,e,h⟩:=hv 0 v rfl
    have e' : k = k':=by simpa using e
    subst e'
    exact .cons ⟨t,h⟩ (ih ks (by simpa using hl) fun j v hj => by simpa using hv (j + 1) v (by simpa using hj))
 refine key _ _ (by rw [Array.length_toList,h.1]; rfl) fun j v hj => ?_
 obtain ⟨c,t,e1,e2⟩:=h.2 j v (by rw [<- Array.getElem?_toList]; exact hj)
 exact ⟨c,t,by rw [Array.getElem?_toList]; exact e1,e2⟩
theorem z9p (hc : X.calm = true) : q6s X (.type "list") (fun xs H Q => ∃ x : Str,xs = [V.str x] /\ x.length <= sizeLine /\ ∀ p,H p = none -> Q (.ref p) (upd H p (.lst (x.cps.toList.map fun c => V.str ⟨#[c]⟩)))):=by
 intro pins s σ H xs us Q I rv h
 obtain ⟨x,rfl,hz,q⟩:=h
 obtain ⟨u,rfl,ru⟩:=vals1 rv
 obtain ⟨t,rfl⟩:=ru
 refine call_list_str (I.ok.hd hc) x t (hn:=hz) fun h' tk acc' c' hk hS hacc => ?_
 refine ⟨.ref s.heap.objs.size,_,I.laid (a:=s.heap.objs.size) (o:=.lst (x.cps.toList.map fun c => V.str ⟨#[c]⟩)) (t':=tk) hk (Nat.le_refl _) ⟨by rw [List.length_map]; exact hz,acc'.toList,c',z9e hacc,by rw [Array.toArray_toList]; exact hS⟩,rfl,q _ I.fresh⟩
def gLstS : GA
 | [.str x],R => x.length <= sizeLine /\ R (.lst (q5q x))
 | _,_ => False
theorem z2c {K : PySem.W.Frag} {O : Addr -> Prop} {H : Hp} : ∀ l : List Nat,q2i K O H (l.map fun c => V.str ⟨#[c]⟩) (l.map fun c => D.str ⟨#[c]⟩)
 | [] => .nil
 | _ :: r => .cons (.str _) (z2c r)
theorem cx_listS (hc : X.calm = true) : z0s .n [true] X (.type "list") gLstS:=by
 refine ⟨_,z9p hc,fun O H vs ds R Q M r hg k => ?_⟩
 have hl:=r.length.2
 match ds,hl,r,hg with
 | [d],_,r,hg =>
  obtain ⟨v,rfl,rv⟩:=r.b1
  cases d with
  | str x =>
   cases rv.str
   exact ⟨x,rfl,hg.1,fun l hl => k _ _ _ (q1w hl _) ⟨l,rfl,hl,q8t hl (z2c _)⟩ hg.2⟩
  | _ => exact hg.elim
end
end DX
namespace My
open PySem L2 DL PyProof.Rows
def top (i : Nat) : Stmt:=PySem.Challenge.pw_labelplace_k73_no_drawing.main.body.getD i (.Pass ⟨0,0,0,0⟩)
abbrev s_q0p : Stmt:=top 1
abbrev s_q0f : Stmt:=top 2
abbrev s_q1e : Stmt:=top 3
abbrev s_q0r : Stmt:=top 4
abbrev s_q0z : Stmt:=top 16
abbrev s_q0m : Stmt:=top 18
abbrev s_q0b : Stmt:=top 19
abbrev s_q0k : Stmt:=top 20
abbrev s_q0h : Stmt:=top 21
abbrev s_q0d : Stmt:=top 22
abbrev s_q0g : Stmt:=top 25
abbrev s_q0q : Stmt:=top 26
abbrev s_q1c : Stmt:=top 27
abbrev s_q0c : Stmt:=top 28
abbrev s_q0e : Stmt:=top 29
abbrev s_q0i : Stmt:=top 30
abbrev s_q0n : Stmt:=top 32
abbrev s_q0t : Stmt:=top 33
abbrev s_q0o : Stmt:=top 34
abbrev s_q0x : Stmt:=top 35
abbrev s_q1b : Stmt:=top 36
abbrev s_q0s : Stmt:=top 37
abbrev s_q0y : Stmt:=top 38
abbrev s_q0w : Stmt:=top 39
abbrev s_q1a : Stmt:=top 40
abbrev s_q0j : Stmt:=top 41
abbrev s_q0u : Stmt:=top 42
abbrev s_q0l : Stmt:=top 43
abbrev s_q0v : Stmt:=top 44
abbrev s_q1d : Stmt:=top 45
abbrev s_q0a : Stmt:=top 46
abbrev z6b : Stmt:=top 47
theorem sc_q0p : q2a ["box","cells","y"] ["box"] (q1j s_q0p):=⟨rfl,rfl,rfl,by decide +kernel,rfl,by decide +kernel,by decide +kernel⟩
theorem sc_q0f : q2a ["start","size","other_start","other_size"] ["start","size","other_start","other_size"] (q1j s_q0f):=⟨rfl,rfl,rfl,by decide +kernel,rfl,by decide +kernel,by decide +kernel⟩
theorem sc_q1e : q2a ["one","other"] ["one","other"] (q1j s_q1e):=⟨rfl,rfl,rfl,by decide +kernel,rfl,by decide +kernel,by decide +kernel⟩
theorem sc_q0r : q2a ["box","wide","high"] ["box","wide","high"] (q1j s_q0r):=⟨rfl,rfl,rfl,by decide +kernel,rfl,by decide +kernel,by decide +kernel⟩
theorem sc_q0z : q2a ["way","x","y","size"] ["way","x","y","size"] (q1j s_q0z):=⟨rfl,rfl,rfl,by decide +kernel,rfl,by decide +kernel,by decide +kernel⟩
theorem sc_q0m : q2a ["point"] ["point"] (q1j s_q0m):=⟨rfl,rfl,rfl,by decide +kernel,rfl,by decide +kernel,by decide +kernel⟩
theorem sc_q0b : q2a ["plan","bars"] ["plan"] (q1j s_q0b):=⟨rfl,rfl,rfl,by decide +kernel,rfl,by decide +kernel,by decide +kernel⟩
theorem sc_q0k : q2a ["plan","box","bars","bar","taken"] ["plan","box","bars"] (q1j s_q0k):=⟨rfl,rfl,rfl,by decide +kernel,rfl,by decide +kernel,by decide +kernel⟩
theorem sc_q0h : q2a ["plan","point","bars","boxes","place","box"] ["plan","point"] (q1j s_q0h):=⟨rfl,rfl,rfl,by decide +kernel,rfl,by decide +kernel,by decide +kernel⟩
theorem sc_q0d : q2a ["plan","setting","boxes","point","place","box"] ["plan","setting"] (q1j s_q0d):=⟨rfl,rfl,rfl,by decide +kernel,rfl,by decide +kernel,by decide +kernel⟩
theorem sc_q0g : q2a ["plan","signs","box","cell"] ["plan"] (q1j s_q0g):=⟨rfl,rfl,rfl,by decide +kernel,rfl,by decide +kernel,by decide +kernel⟩
theorem sc_q0q : q2a ["plan","setting","signs","number","point","cell"] ["plan","setting"] (q1j s_q0q):=⟨rfl,rfl,rfl,by decide +kernel,rfl,by decide +kernel,by decide +kernel⟩
theorem sc_q1c : q2a ["plan","setting","signs","lines","y"] ["plan","setting"] (q1j s_q1c):=⟨rfl,rfl,rfl,by decide +kernel,rfl,by decide +kernel,by decide +kernel⟩
theorem sc_q0c : q2a ["text","sign","cells","y","line"] ["text","sign"] (q1j s_q0c):=⟨rfl,rfl,rfl,by decide +kernel,rfl,by decide +kernel,by decide +kernel⟩
theorem sc_q0e : q2a ["point","cells","place","box"] ["point","cells"] (q1j s_q0e):=⟨rfl,rfl,rfl,by decide +kernel,rfl,by decide +kernel,by decide +kernel⟩
theorem sc_q0i : q2a ["plan","text","setting","number","point"] ["plan","text"] (q1j s_q0i):=⟨rfl,rfl,rfl,by decide +kernel,rfl,by decide +kernel,by decide +kernel⟩
theorem sc_q0n : q2a ["_law_script","_law_k"] ["_law_script","_law_k"] (q1j s_q0n):=⟨rfl,rfl,rfl,by decide +kernel,rfl,by decide +kernel,by decide +kernel⟩
theorem sc_q0t : q2a ["_law_number_here","_law_many","_law_letters","_law_pad","_law_code","_law_names_here","_law_k","_law_size","_law_name","_law_text"] ["_law_number_here","_law_many"] (q1j s_q0t):=⟨rfl,rfl,rfl,by decide +kernel,rfl,by decide +kernel,by decide +kernel⟩
theorem sc_q0o : q2a ["_law_number_here","_law_many","_law_ways","_law_first","_law_step","_law_places_here","_law_k","_law_price"] ["_law_number_here","_law_many"] (q1j s_q0o):=⟨rfl,rfl,rfl,by decide +kernel,rfl,by decide +kernel,by decide +kernel⟩
theorem sc_q0x : q2a ["_law_number_here","_law_wide","_law_high","_law_kept_here","_law_k","_law_x","_law_y"] ["_law_number_here","_law_wide","_law_high"] (q1j s_q0x):=⟨rfl,rfl,rfl,by decide +kernel,rfl,by decide +kernel,by decide +kernel⟩
theorem sc_q1b : q2a ["_law_way","_law_x","_law_y","_law_size","_law_middle","_law_boxes"] ["_law_way","_law_x","_law_y","_law_size"] (q1j s_q1b):=⟨rfl,rfl,rfl,by decide +kernel,rfl,by decide +kernel,by decide +kernel⟩
theorem sc_q0s : q2a ["_law_box_here"] ["_law_box_here"] (q1j s_q0s):=⟨rfl,rfl,rfl,by decide +kernel,rfl,by decide +kernel,by decide +kernel⟩
theorem sc_q0y : q2a ["_law_plan_here","_law_shut_here","_law_box_here","_law_spot","_law_point"] ["_law_plan_here"] (q1j s_q0y):=⟨rfl,rfl,rfl,by decide +kernel,rfl,by decide +kernel,by decide +kernel⟩
theorem sc_q0w : q2a ["_law_plan_here","_law_shut_here","_law_found","_law_name","_law_x","_law_y","_law_loss","_law_places_here","_law_k","_law_cells_here","_law_good"] ["_law_plan_here"] (q1j s_q0w):=⟨rfl,rfl,rfl,by decide +kernel,rfl,by decide +kernel,by decide +kernel⟩
theorem sc_q1a : q2a ["_law_script","_law_first","_law_most","_law_number_here","_law_wide","_law_high","_law_free","_law_names_here","_law_points","_law_k","_law_spot","_law_x","_law_y","_law_many"] ["_law_script","_law_first","_law_most"] (q1j s_q1a):=⟨rfl,rfl,rfl,by decide +kernel,rfl,by decide +kernel,by decide +kernel⟩
theorem sc_q0j : q2a ["_law_script","_law_plan_here","_law_opened","_law_setting_here","_law_taken","_law_k","_law_number_here","_law_many","_law_chosen","_law_j","_law_room","_law_spot"] ["_law_script","_law_plan_here","_law_opened"] (q1j s_q0j):=⟨rfl,rfl,rfl,by decide +kernel,rfl,by decide +kernel,by decide +kernel⟩
theorem sc_q0u : q2a ["_law_plan_here","_law_setting_here","_law_opened","_law_signs","_law_box_here","_law_spot","_law_k"] ["_law_plan_here","_law_setting_here","_law_opened"] (q1j s_q0u):=⟨rfl,rfl,rfl,by decide +kernel,rfl,by decide +kernel,by decide +kernel⟩
theorem sc_q0l : q2a ["_law_lines","_law_number_here","_law_at","_law_line","_law_way","_law_spot","_law_sign"] ["_law_lines","_law_number_here"] (q1j s_q0l):=⟨rfl,rfl,rfl,by decide +kernel,rfl,by decide +kernel,by decide +kernel⟩
theorem sc_q0v : q2a ["_law_plan_here","_law_opened","_law_lines","_law_setting_here","_law_k","_law_letter","_law_some","_law_y","_law_row","_law_place","_law_name","_law_same"] ["_law_plan_here","_law_opened","_law_lines"] (q1j s_q0v):=⟨rfl,rfl,rfl,by decide +kernel,rfl,by decide +kernel,by decide +kernel⟩
theorem sc_q1d : q2a ["_law_plan_here","_law_opened","_law_lines","_law_setting_here"] ["_law_plan_here","_law_opened","_law_lines"] (q1j s_q1d):=⟨rfl,rfl,rfl,by decide +kernel,rfl,by decide +kernel,by decide +kernel⟩
theorem sc_q0a : q2a ["_law_plan_here","_law_text","_law_kept_here","e"] ["_law_plan_here","_law_text"] (q1j s_q0a):=⟨rfl,rfl,rfl,by decide +kernel,rfl,by decide +kernel,by decide +kernel⟩
theorem q6i : q2a ["_law_script","_law_plan_here","_law_opened","_law_signs","_law_lines","_law_cell","_law_k","_law_text","_law_due_here"] ["_law_script"] (q1j z6b):=⟨rfl,rfl,rfl,by decide +kernel,rfl,by decide +kernel,by decide +kernel⟩
set_option genInjectivity false in
set_option genSizeOfSpec false in
structure Adr where
 f_q0p : Addr
 d_q0p : FuncData
 f_q0f : Addr
 d_q0f : FuncData
 f_q1e : Addr
 d_q1e : FuncData
 f_q0r : Addr
 d_q0r : FuncData
 f_q0z : Addr
 d_q0z : FuncData
 f_q0m : Addr
 d_q0m : FuncData
 f_q0b : Addr
 d_q0b : FuncData
 f_q0k : Addr
 d_q0k : FuncData
 f_q0h : Addr
 d_q0h : FuncData
 f_q0d : Addr
 d_q0d : FuncData
 f_q0g : Addr
 d_q0g : FuncData
 f_q0q : Addr
 d_q0q : FuncData
 f_q1c : Addr
 d_q1c : FuncData
 f_q0c : Addr
 d_q0c : FuncData
 f_q0e : Addr
 d_q0e : FuncData
 f_q0i : Addr
 d_q0i : FuncData
 f_q0n : Addr
 d_q0n : FuncData
 f_q0t : Addr
 d_q0t : FuncData
 f_q0o : Addr
 d_q0o : FuncData
 f_q0x : Addr
 d_q0x : FuncData
 f_q1b : Addr
 d_q1b : FuncData
 f_q0s : Addr
 d_q0s : FuncData
 f_q0y : Addr
 d_q0y : FuncData
 f_q0w : Addr
 d_q0w : FuncData
 f_q1a : Addr
 d_q1a : FuncData
 f_q0j : Addr
 d_q0j : FuncData
 f_q0u : Addr
 d_q0u : FuncData
 f_q0l : Addr
 d_q0l : FuncData
 f_q0v : Addr
 d_q0v : FuncData
 f_q1d : Addr
 d_q1d : FuncData
 f_q0a : Addr
 d_q0a : FuncData
 f_law : Addr
 d_law : FuncData
 u_LETTERS : Value
 v_LETTERS : V
 x_LabelError : Addr
 x_NoCell : Addr
 x_NoDeed : Addr
 x_NoDrawing : Addr
 x_NoName : Addr
 x_NoPlan : Addr
 x_NotTwo : Addr
 x_TooMany : Addr
 x_Twice : Addr
structure Txt (K : PySem.W.Frag) (mg : Str -> Option Value) (t : Adr) : Prop where
 F_q0p : Fun K "cells_of" "cells_of" s_q0p t.f_q0p t.d_q0p
 m_q0p : mg "cells_of" = some (.ref t.f_q0p)
 b_q0p : Binds K t.d_q0p ["box"] []
 F_q0f : Fun K "spans_meet" "spans_meet" s_q0f t.f_q0f t.d_q0f
 m_q0f : mg "spans_meet" = some (.ref t.f_q0f)
 b_q0f : Binds K t.d_q0f ["start","size","other_start","other_size"] []
 F_q1e : Fun K "meet" "meet" s_q1e t.f_q1e t.d_q1e
 m_q1e : mg "meet" = some (.ref t.f_q1e)
 b_q1e : Binds K t.d_q1e ["one","other"] []
 F_q0r : Fun K "lies_in" "lies_in" s_q0r t.f_q0r t.d_q0r
 m_q0r : mg "lies_in" = some (.ref t.f_q0r)
 b_q0r : Binds K t.d_q0r ["box","wide","high"] []
 F_q0z : Fun K "box_at" "box_at" s_q0z t.f_q0z t.d_q0z
 m_q0z : mg "box_at" = some (.ref t.f_q0z)
 b_q0z : Binds K t.d_q0z ["way","x","y","size"] []
 F_q0m : Fun K "boxes_of" "boxes_of" s_q0m t.f_q0m t.d_q0m
 m_q0m : mg "boxes_of" = some (.ref t.f_q0m)
 b_q0m : Binds K t.d_q0m ["point"] []
 F_q0b : Fun K "standing_bars" "standing_bars" s_q0b t.f_q0b t.d_q0b
 m_q0b : mg "standing_bars" = some (.ref t.f_q0b)
 b_q0b : Binds K t.d_q0b ["plan"] []
 F_q0k : Fun K "first_bar" "first_bar" s_q0k t.f_q0k t.d_q0k
 m_q0k : mg "first_bar" = some (.ref t.f_q0k)
 b_q0k : Binds K t.d_q0k ["plan","box","bars"] []
 F_q0h : Fun K "open_boxes" "open_boxes" s_q0h t.f_q0h t.d_q0h
 m_q0h : mg "open_boxes" = some (.ref t.f_q0h)
 b_q0h : Binds K t.d_q0h ["plan","point"] []
 F_q0d : Fun K "is_setting" "is_setting" s_q0d t.f_q0d t.d_q0d
 m_q0d : mg "is_setting" = some (.ref t.f_q0d)
 b_q0d : Binds K t.d_q0d ["plan","setting"] []
 F_q0g : Fun K "kept_signs" "kept_signs" s_q0g t.f_q0g t.d_q0g
 m_q0g : mg "kept_signs" = some (.ref t.f_q0g)
 b_q0g : Binds K t.d_q0g ["plan"] []
 F_q0q : Fun K "signs_of" "signs_of" s_q0q t.f_q0q t.d_q0q
 m_q0q : mg "signs_of" = some (.ref t.f_q0q)
 b_q0q : Binds K t.d_q0q ["plan","setting"] []
 F_q1c : Fun K "drawn" "drawn" s_q1c t.f_q1c t.d_q1c
 m_q1c : mg "drawn" = some (.ref t.f_q1c)
 b_q1c : Binds K t.d_q1c ["plan","setting"] []
 F_q0c : Fun K "cells_with" "cells_with" s_q0c t.f_q0c t.d_q0c
 m_q0c : mg "cells_with" = some (.ref t.f_q0c)
 b_q0c : Binds K t.d_q0c ["text","sign"] []
 F_q0e : Fun K "place_with" "place_with" s_q0e t.f_q0e t.d_q0e
 m_q0e : mg "place_with" = some (.ref t.f_q0e)
 b_q0e : Binds K t.d_q0e ["point","cells"] []
 F_q0i : Fun K "read_back" "read_back" s_q0i t.f_q0i t.d_q0i
 m_q0i : mg "read_back" = some (.ref t.f_q0i)
 b_q0i : Binds K t.d_q0i ["plan","text"] []
 F_q0n : Fun K "_law_number" "_law_number" s_q0n t.f_q0n t.d_q0n
 m_q0n : mg "_law_number" = some (.ref t.f_q0n)
 b_q0n : Binds K t.d_q0n ["_law_script","_law_k"] []
 F_q0t : Fun K "_law_names" "_law_names" s_q0t t.f_q0t t.d_q0t
 m_q0t : mg "_law_names" = some (.ref t.f_q0t)
 b_q0t : Binds K t.d_q0t ["_law_number_here","_law_many"] []
 F_q0o : Fun K "_law_places" "_law_places" s_q0o t.f_q0o t.d_q0o
 m_q0o : mg "_law_places" = some (.ref t.f_q0o)
 b_q0o : Binds K t.d_q0o ["_law_number_here","_law_many"] []
 F_q0x : Fun K "_law_kept" "_law_kept" s_q0x t.f_q0x t.d_q0x
 m_q0x : mg "_law_kept" = some (.ref t.f_q0x)
 b_q0x : Binds K t.d_q0x ["_law_number_here","_law_wide","_law_high"] []
 F_q1b : Fun K "_law_box" "_law_box" s_q1b t.f_q1b t.d_q1b
 m_q1b : mg "_law_box" = some (.ref t.f_q1b)
 b_q1b : Binds K t.d_q1b ["_law_way","_law_x","_law_y","_law_size"] []
 F_q0s : Fun K "_law_cells" "_law_cells" s_q0s t.f_q0s t.d_q0s
 m_q0s : mg "_law_cells" = some (.ref t.f_q0s)
 b_q0s : Binds K t.d_q0s ["_law_box_here"] []
 F_q0y : Fun K "_law_shut" "_law_shut" s_q0y t.f_q0y t.d_q0y
 m_q0y : mg "_law_shut" = some (.ref t.f_q0y)
 b_q0y : Binds K t.d_q0y ["_law_plan_here"] []
 F_q0w : Fun K "_law_open" "_law_open" s_q0w t.f_q0w t.d_q0w
 m_q0w : mg "_law_open" = some (.ref t.f_q0w)
 b_q0w : Binds K t.d_q0w ["_law_plan_here"] []
 F_q1a : Fun K "_law_plan" "_law_plan" s_q1a t.f_q1a t.d_q1a
 m_q1a : mg "_law_plan" = some (.ref t.f_q1a)
 b_q1a : Binds K t.d_q1a ["_law_script","_law_first","_law_most"] []
 F_q0j : Fun K "_law_setting" "_law_setting" s_q0j t.f_q0j t.d_q0j
 m_q0j : mg "_law_setting" = some (.ref t.f_q0j)
 b_q0j : Binds K t.d_q0j ["_law_script","_law_plan_here","_law_opened"] []
 F_q0u : Fun K "_law_drawn" "_law_drawn" s_q0u t.f_q0u t.d_q0u
 m_q0u : mg "_law_drawn" = some (.ref t.f_q0u)
 b_q0u : Binds K t.d_q0u ["_law_plan_here","_law_setting_here","_law_opened"] []
 F_q0l : Fun K "_law_spoiled" "_law_spoiled" s_q0l t.f_q0l t.d_q0l
 m_q0l : mg "_law_spoiled" = some (.ref t.f_q0l)
 b_q0l : Binds K t.d_q0l ["_law_lines","_law_number_here"] []
 F_q0v : Fun K "_law_read" "_law_read" s_q0v t.f_q0v t.d_q0v
 m_q0v : mg "_law_read" = some (.ref t.f_q0v)
 b_q0v : Binds K t.d_q0v ["_law_plan_here","_law_opened","_law_lines"] []
 F_q1d : Fun K "_law_due" "_law_due" s_q1d t.f_q1d t.d_q1d
 m_q1d : mg "_law_due" = some (.ref t.f_q1d)
 b_q1d : Binds K t.d_q1d ["_law_plan_here","_law_opened","_law_lines"] []
 F_q0a : Fun K "_law_only_no_drawing" "_law_only_no_drawing" s_q0a t.f_q0a t.d_q0a
 m_q0a : mg "_law_only_no_drawing" = some (.ref t.f_q0a)
 b_q0a : Binds K t.d_q0a ["_law_plan_here","_law_text"] []
 F_law : Fun K "law" "law" z6b t.f_law t.d_law
 m_law : mg "law" = some (.ref t.f_law)
 b_law : Binds K t.d_law ["_law_script"] []
 c_LETTERS : mg "LETTERS" = some t.u_LETTERS
 r_LETTERS : RelV t.v_LETTERS t.u_LETTERS
 d_LETTERS : ∀ O H,Rep K O H t.v_LETTERS (.str "abcdefghijklmnopqrstuvwxyz")
 n_ValueError : mg "ValueError" = none
 n_any : mg "any" = none
 n_enumerate : mg "enumerate" = none
 n_isinstance : mg "isinstance" = none
 n_len : mg "len" = none
 n_list : mg "list" = none
 n_max : mg "max" = none
 n_min : mg "min" = none
 n_range : mg "range" = none
 n_str : mg "str" = none
 n_tuple : mg "tuple" = none
 n_zip : mg "zip" = none
 x_LabelError : mg "LabelError" = some (.ref t.x_LabelError)
 x_NoCell : mg "NoCell" = some (.ref t.x_NoCell)
 x_NoDeed : mg "NoDeed" = some (.ref t.x_NoDeed)
 x_NoDrawing : mg "NoDrawing" = some (.ref t.x_NoDrawing)
 x_NoName : mg "NoName" = some (.ref t.x_NoName)
 x_NoPlan : mg "NoPlan" = some (.ref t.x_NoPlan)
 x_NotTwo : mg "NotTwo" = some (.ref t.x_NotTwo)
 x_TooMany : mg "TooMany" = some (.ref t.x_TooMany)
 x_Twice : mg "Twice" = some (.ref t.x_Twice)
 xf_ex : PySem.W.excIn K t.x_NoDrawing DX.veMro "ValueError.__new__" = true
 xf_ga : PySem.W.findIn K (.ref t.x_NoDrawing) "__getattribute__" = some (some (.builtin "BaseException.__getattribute__"))
 xf_gh : PySem.W.findIn K (.ref t.x_NoDrawing) "__getattr__" = some Option.none
 xf_ca : PySem.W.findIn K (.ref t.x_NoDrawing) "__class__" = some (some (.builtin "object.__class__"))
 xf_cg : PySem.W.specialIn K (.builtin "object.__class__") "__get__" = some (some (.builtin "getset_descriptor.__get__"))
 xf_ct : PySem.W.takesIn K (.builtin "object.__class__") = some true
 xf_mo : PySem.W.mroIn K t.x_NoDrawing (.type "object") = some true
 xf_mb : PySem.W.mroIn K t.x_NoDrawing (.type "BaseException") = some true
 xf_cl : (PySem.W.clsIn K t.x_NoDrawing).isSome = true
 xf_le : PySem.W.exmOne K (.ref t.x_NoDrawing) (.ref t.x_LabelError) = some true
 xf_ve : PySem.W.kitOne K (.ref t.x_NoDrawing) (.type "ValueError") = some true
 xf_no : PySem.W.kitAny K (.ref t.x_NoDrawing) [(.ref t.x_NoCell),(.ref t.x_NoDeed),(.ref t.x_NoName),(.ref t.x_NoPlan),(.ref t.x_NotTwo),(.ref t.x_TooMany),(.ref t.x_Twice)] = some false
local macro_rules | `(tactic| walk_at "d") => `(tactic| simp only [DX.dThrow,DX.gIsS,DX.gLstS,k9o,dIf,w0p,dOp,w1s,w2q,dC,dCB,j7v,j1s,w3f,w3l,j1t,j7c,w3t,frz,frz1,w1j,w0d,w3v,j9j,j5g,w3e,j6e,w4v,j9e,w2k,gN,j3c,w3q,j3z,w0y,w1x,j6x,dSl,w3u,j6k,w4a,w4b,w3o,j7h,w3w,j7j,w4e,k1s,dMv,k7u,k3k,q8d,q5l,List.length_cons,List.length_nil,List.replicate,List.nil_append,List.cons_append,List.map_cons,List.set_cons_zero,List.set_cons_succ,List.getElem?_cons_zero,List.getElem?_cons_succ,Nat.reduceAdd,Nat.reduceSub,true_and,and_true,decide_eq_true_eq,Bool.not_eq_true',Bool.not_true,Bool.not_false,if_true,if_false,Bool.false_eq_true,Option.map_some,j2h,j3q,j5u,j4j,j3s,k7l,k3m,w2v,j2v,j3p,j1p,j2f,j3o,w2p,j6h,j1w,j2g,j7z,k2f,j0d,j7r,j1u,k6d,k0z,k3b,k5p,k8s,k0v,k9b,k9f,k2c,j8p,k3w,j3g,k8k,k8p,j4w,j2e,k3d,k5w,j1g,j0y,j3a,j2r,j4u,j4p,k0x,k6k,k1n,j3t,j3j,w3m,j1b,j1i,j2p,w3b,j8b,j6z,k9u,j1y,j3i,j0q,k3u,k8o,k6a,k4p,k5l,k7n,k0i,k7r,j2o,k6y,k6g,k8l,j4l,j3k,j3x,j3h,j4x,k3l,k5y,k6n,k6j,j2a,k5o,k7i,k6p,j5z,k6t,z9q,j3d,k8e,j2b,k8n,k7v,k6e,k6o,k5g,k5a,k7z,k8d,j7a,j5k,j8s,j8q,k5i,k2s,k1x,k3x,z9v,z9s,join_some,j0m,j5s,w1r,w1z,w2h,w2c,w2d,j6a,List.drop_succ_cons,List.drop_zero,List.take_succ_cons,List.take_zero])
abbrev B4:=Int × Int × Int × Int
structure Pt where
 name : Str
 x : Int
 y : Int
 loss : Int
 places : List (Str × Int)
structure q2k where
 wide : Int
 high : Int
 kept : List B4
 pts : List Pt
def q4c (b : B4) : D:=.tup [.int b.1,.int b.2.1,.int b.2.2.1,.int b.2.2.2]
def q5s (p : Str × Int) : D:=.tup [.str p.1,.int p.2]
def dPt (p : Pt) : D:=.tup [.str p.name,.int p.x,.int p.y,.int p.loss,.tup (p.places.map q5s)]
def q2z (p : q2k) : D:=.tup [.int p.wide,.int p.high,.tup (p.kept.map q4c),.tup (p.pts.map dPt)]
def q9d (b : B4) (w h : Int) : Bool:=decide (0 <= b.1) && (decide (0 <= b.2.1) && (decide (b.1 + b.2.2.1 <= w) && decide (b.2.1 + b.2.2.2 <= h)))
def q7j (w : Str) (x y n : Int) : B4 :=
 if w = Str.ofString "right" then (x + 1,y,n,1) else if w = Str.ofString "left" then (x - n,y,n,1) else if w = Str.ofString "above" then (x - (n - 1) / 2,y - 1,n,1)
 else if w = Str.ofString "below" then (x - (n - 1) / 2,y + 1,n,1) else if w = Str.ofString "up" then (x,y - n,1,n) else (x,y + 1,1,n)
def k8i (a n c m : Int) : Bool:=decide (max a c < min (a + n) (c + m))
def q5d (a b : B4) : Bool:=k8i a.1 a.2.2.1 b.1 b.2.2.1 && k8i a.2.1 a.2.2.2 b.2.1 b.2.2.2
def z4d (b : B4) : Prop:=1 <= b.2.2.1 /\ 1 <= b.2.2.2
def q2u (q : Pt) : List B4:=q.places.map fun p => q7j p.1 q.x q.y q.name.length
def cellOf (q : Pt) : B4:=(q.x,q.y,1,1)
def k7q (p : q2k) : List (D × B4):=p.pts.map fun q => (.tup [.str (Str.ofString "point"),.str q.name],cellOf q)
def k2u (p : q2k) : List (D × B4):=p.kept.mapIdx fun i b => (.tup [.str (Str.ofString "keep"),.int (i : Int)],b)
def z9w (p : q2k) : List (D × B4):=k7q p ++ k2u p
def k1v (b : D × B4) : D:=.tup [b.1,q4c b.2]
def z2r (b : B4) : List (D × B4) -> D
 | [] => .non
 | c :: r => if q5d b c.2 = true then c.1 else z2r b r
def q6u (p : q2k) (b : B4) (l : List (D × B4)) : D:=if q9d b p.wide p.high = true then z2r b l else .tup [.str (Str.ofString "sheet")]
def q3r (p : q2k) (b : B4) : Bool:=q9d b p.wide p.high && (z9w p).all fun c => !q5d b c.2
def q1z (p : q2k) : Nat -> List B4 -> List (Nat × B4)
 | _,[] => []
 | i,b :: r => if q3r p b = true then (i,b) :: q1z p (i + 1) r else q1z p (i + 1) r
def q8z (p : q2k) (q : Pt) : List (Nat × B4):=q1z p 0 (q2u q)
def z1b (l : List (Nat × B4)) : List Key:=l.map fun c => .inl (c.1 : Int)
def z3z (l : List (Nat × B4)) : List D:=l.map fun c => q4c c.2
def j1q (l : List (Nat × B4)) : D:=.dK (z1b l) (z3z l)
structure OkP (p : q2k) : Prop where
 np : p.pts.length <= 100
 nk : p.kept.length <= 100
 nd : (p.pts.map Pt.name).Nodup
 nm : ∀ q ∈ p.pts,1 <= q.name.length /\ q.name.length <= 100
 pl : ∀ q ∈ p.pts,q.places.length <= 100
 kp : ∀ b ∈ p.kept,z4d b
 so : ∀ q ∈ p.pts,PyData.strOk q.name = true
 p1 : ∀ q ∈ p.pts,1 <= q.places.length
 ws : 1 <= p.wide /\ p.wide <= 20 /\ 1 <= p.high /\ p.high <= 20
theorem z6q (p : q2k) : (k2u p).map (·.2) = p.kept:=by
 unfold k2u
 apply List.ext_getElem?
 intro n
 rw [List.getElem?_map,List.getElem?_mapIdx]
 cases p.kept[n]? <;> rfl
theorem k0f (p : q2k) : (z9w p).map (·.2) = p.pts.map cellOf ++ p.kept:=by
 unfold z9w k7q
 rw [List.map_append,z6q,List.map_map]
 rfl
theorem z1g (b : B4) : ∀ {l : List (D × B4)},(∀ c ∈ l,c.1.isNon = false) -> (z2r b l).isNon = l.all fun c => !q5d b c.2
 | [],_ => rfl
 | c :: r,h => by
  unfold z2r
  rw [List.all_cons]
  by_cases e : q5d b c.2 = true
  ·rw [if_pos e,e]; exact h c (by simp)
  ·rw [if_neg e,z1g b fun d hd => h d (by simp [hd])]
   simp only [Bool.not_eq_true] at e
   rw [e]; rfl
theorem k6f (p : q2k) : ∀ c ∈ z9w p,c.1.isNon = false:=by
 intro c h
 unfold z9w k7q k2u at h
 rcases List.mem_append.mp h with h | h
 ·obtain ⟨q,_,rfl⟩:=List.mem_map.mp h; rfl
 ·obtain ⟨i,hi,rfl⟩:=List.mem_mapIdx.mp h; rfl
theorem z3j (p : q2k) (b : B4) : (q6u p b (z9w p)).isNon = q3r p b:=by
 unfold q6u q3r
 cases q9d b p.wide p.high with
 | true => rw [if_pos rfl,z1g b (k6f p)]; rfl
 | false => rfl
theorem z0g (p : q2k) : ∀ (l : List B4) (i : Nat),∀ c ∈ q1z p i l,i <= c.1 /\ c.1 < i + l.length /\ l[c.1 - i]? = some c.2
 | [],_,c,h => by cases h
 | b :: r,i,c,h => by
  unfold q1z at h
  have step : c ∈ q1z p (i + 1) r -> i <= c.1 /\ c.1 < i + (b :: r).length /\ (b :: r)[c.1 - i]? = some c.2:=fun h => by
   obtain ⟨h1,h2,h3⟩:=z0g p r (i + 1) c h
   refine ⟨by omega,by rw [List.length_cons]; omega,?_⟩
   have e : c.1 - i = (c.1 - (i + 1)) + 1:=by omega
   rw [e,List.getElem?_cons_succ]; exact h3
  split at h
  ·rcases List.mem_cons.mp h with h | h
   ·subst h; exact ⟨Nat.le_refl _,by simp,by simp⟩
   ·exact step h
  ·exact step h
theorem q5f (p : q2k) : ∀ (l : List B4) (b : B4) (i : Nat),q1z p i (l ++ [b]) = q1z p i l ++ (if q3r p b = true then [(i + l.length,b)] else [])
 | [],b,i => by simp only [List.nil_append,q1z,List.length_nil,Nat.add_zero]
 | a :: r,b,i => by
  rw [List.cons_append]
  unfold q1z
  rw [q5f p r b (i + 1)]
  have e : i + 1 + r.length = i + (a :: r).length:=by rw [List.length_cons]; omega
  rw [e]
  split <;> rfl
theorem q8y (p : q2k) : ∀ (l : List B4) (i : Nat),(q1z p i l).length <= l.length
 | [],_ => Nat.le_refl _
 | b :: r,i => by
  unfold q1z
  have:=q8y p r (i + 1)
  split <;> simp only [List.length_cons] <;> omega
theorem k1e {p : q2k} {l : List B4} {i : Nat} : (Sum.inl ((i + l.length : Nat) : Int) : Key) ∉ z1b (q1z p i l):=by
 intro h
 obtain ⟨c,hc,e⟩:=List.mem_map.mp h
 have:=(z0g p l i c hc).2.1
 have e' : ((c.1 : Nat) : Int) = ((i + l.length : Nat) : Int):=Sum.inl.inj e
 omega
theorem z6w {p : q2k} {q : Pt} (h : OkP p) (hq : q ∈ p.pts) : (p.pts.filter fun r => decide (r.name = q.name)) = [q]:=by
 have : ∀ {l : List Pt},(l.map Pt.name).Nodup -> q ∈ l -> (l.filter fun r => decide (r.name = q.name)) = [q]:=by
  intro l
  induction l with
  | nil => intro _ h; cases h
  | cons a r ih =>
   intro nd hm
   rw [List.map_cons,List.nodup_cons] at nd
   rcases List.mem_cons.mp hm with e | hm
   ·subst e
    rw [List.filter_cons_of_pos (by simp)]
    have : (r.filter fun s => decide (s.name = q.name)) = []:=by
     rw [List.filter_eq_nil_iff]
     intro s hs
     simp only [decide_eq_true_eq]
     intro e
     exact nd.1 (List.mem_map.mpr ⟨s,hs,e⟩)
    rw [this]
   ·rw [List.filter_cons_of_neg,ih nd.2 hm]
    simp only [decide_eq_true_eq]
    intro e
    exact nd.1 (List.mem_map.mpr ⟨q,hm,e.symm⟩)
 exact this h.nd hq
theorem k4c {p : q2k} {l : List B4} : (Sum.inl (l.length : Int) : Key) ∉ z1b (q1z p 0 l):=by
 have:=k1e (p:=p) (l:=l) (i:=0)
 rw [Nat.zero_add] at this
 exact this
theorem k7d {p : q2k} {l : List B4} {b : B4} (h : q3r p b = true) : q7k (z1b (q1z p 0 l)) (.inl (l.length : Int)) = z1b (q1z p 0 (l ++ [b])):=by
 unfold q7k
 rw [if_neg k4c,q5f,if_pos h,Nat.zero_add]
 unfold z1b
 rw [List.map_append]
 rfl
theorem k7j {p : q2k} {l : List B4} {b : B4} (h : q3r p b = true) : q6z (z1b (q1z p 0 l)) (z3z (q1z p 0 l)) (.inl (l.length : Int)) (q4c b) = z3z (q1z p 0 (l ++ [b])):=by
 unfold q6z
 rw [if_neg k4c,q5f,if_pos h,Nat.zero_add]
 unfold z3z
 rw [List.map_append]
 rfl
theorem k0t {p : q2k} {l : List B4} {b : B4} (h : ¬ q3r p b = true) : q1z p 0 (l ++ [b]) = q1z p 0 l:=by
 rw [q5f,if_neg h,List.append_nil]
theorem z8z (l : List (Nat × B4)) : j1q l = .dK (z1b l) (z3z l):=rfl
theorem k2y (l : List (Nat × B4)) : (z3z l).length = l.length:=List.length_map _
section
variable {P : Program} {w : World} {K : PySem.W.Frag} {mg : Str -> Option Value} {base : Heap} {t : Adr} {n : Nat}
theorem q3o {n : Nat} (h : n <= 100000) : n <= sizeLine:=Nat.le_trans h (by decide)
theorem j6v (a b : Int) : (if a < b then b else a) = max a b:=by omega
theorem j8a (a b : Int) : (if b < a then b else a) = min a b:=by omega
def pre_q0f : List D -> Prop:=fun ds => ∃ (a b c d : Int),ds = [.int a,.int b,.int c,.int d]
def post_q0f : List D -> D -> Prop:=fun ds z => ∃ (a b c d : Int),ds = [.int a,.int b,.int c,.int d] /\ z = .bl (k8i a b c d)
theorem ok_q0f (T : Txt K mg t) : q3d P w K mg base CX0 (n + 1) t.f_q0f t.d_q0f ["start","size","other_start","other_size"] (spD K [true,true,true,true] .v pre_q0f post_q0f):=by
 refine okD T.F_q0f sc_q0f rfl fun cdv A outer s H E hr => ⟨_,(q1m (q2s (by decide) (z2b k7m (PX.vb (q2c (z6o rfl) rfl T.n_max PyProof.Rows.boot_max (q2g (q1f 0) (q2g (q1f 2) q1h)))) (PX.vb (q2c (z2d rfl) rfl T.n_min PyProof.Rows.boot_min (q2g (PX.vb (q1k q1q (q1f 0) (q1f 1))) (q2g (PX.vb (q1k q1q (q1f 2) (q1f 3))) q1h)))) (q2l _)))),fun vs ds hv hd hp => ?_⟩
 obtain ⟨a,b,c,d,rfl⟩:=hp
 walk_at "d"
 simp only [j6v,j8a]
 exact ⟨a,b,c,d,rfl,rfl⟩
theorem q4h {a b : B4} (h : q4c a = q4c b) : a = b:=by
 obtain ⟨a1,a2,a3,a4⟩:=a
 obtain ⟨b1,b2,b3,b4⟩:=b
 unfold q4c at h
 injection h with h
 simp only [List.cons.injEq,D.int.injEq,and_true] at h
 obtain ⟨rfl,rfl,rfl,rfl⟩:=h
 rfl
def pre_q1e : List D -> Prop:=fun ds => ∃ (a b : B4),ds = [q4c a,q4c b]
def post_q1e : List D -> D -> Prop:=fun ds z => ∃ (a b : B4),ds = [q4c a,q4c b] /\ z = .bl (q5d a b)
theorem ok_q1e (T : Txt K mg t) (G_q0f : q3d P w K mg base CX0 (n + 1) t.f_q0f t.d_q0f ["start","size","other_start","other_size"] (spD K [true,true,true,true] .v pre_q0f post_q0f)) : q3d P w K mg base CX0 (n + 2) t.f_q1e t.d_q1e ["one","other"] (spD K [true,true] .v pre_q1e post_q1e):=by
 refine okD T.F_q1e sc_q1e rfl fun cdv A outer s H E hr => ⟨_,(q1m (q2s (by decide) (z7x (q1p G_q0f hr rfl T.m_q0f T.F_q0f.kp T.b_q0f q3a (q2g (PX.vb (q1l (hu1 hr) (q1f 0) (PX.vb q1g) (fun _ _ => rfl))) (q2g (PX.vb (q1l (hu1 hr) (q1f 0) (PX.vb q1g) (fun _ _ => rfl))) (q2g (PX.vb (q1l (hu1 hr) (q1f 1) (PX.vb q1g) (fun _ _ => rfl))) (q2g (PX.vb (q1l (hu1 hr) (q1f 1) (PX.vb q1g) (fun _ _ => rfl))) q1h))))) (k9p (q1p G_q0f hr rfl T.m_q0f T.F_q0f.kp T.b_q0f q3a (q2g (PX.vb (q1l (hu1 hr) (q1f 0) (PX.vb q1g) (fun _ _ => rfl))) (q2g (PX.vb (q1l (hu1 hr) (q1f 0) (PX.vb q1g) (fun _ _ => rfl))) (q2g (PX.vb (q1l (hu1 hr) (q1f 1) (PX.vb q1g) (fun _ _ => rfl))) (q2g (PX.vb (q1l (hu1 hr) (q1f 1) (PX.vb q1g) (fun _ _ => rfl))) q1h))))))))),fun vs ds hv hd hp => ?_⟩
 obtain ⟨a,b,rfl⟩:=hp
 unfold q4c
 walk_at "d"
 refine ⟨⟨_,_,_,_,rfl⟩,?_⟩
 rintro d ⟨a1,a2,a3,a4,e,rfl⟩
 simp only [List.cons.injEq,D.int.injEq,and_true] at e
 obtain ⟨rfl,rfl,rfl,rfl⟩:=e
 walk_at "d"
 refine q5i (fun c => ?_) (fun c => ?_)
 ·refine ⟨⟨_,_,_,_,rfl⟩,?_⟩
  rintro d ⟨a1,a2,a3,a4,e,rfl⟩
  simp only [List.cons.injEq,D.int.injEq,and_true] at e
  obtain ⟨rfl,rfl,rfl,rfl⟩:=e
  exact ⟨a,b,rfl,by unfold q5d; rw [c]; rfl⟩
 ·exact ⟨a,b,rfl,by unfold q5d; rw [Bool.not_eq_true] at c; rw [c]; rfl⟩
def pre_q0r : List D -> Prop:=fun ds => ∃ (b : B4) (w h : Int),ds = [q4c b,.int w,.int h]
def post_q0r : List D -> D -> Prop:=fun ds d => ∃ (b : B4) (w h : Int),ds = [q4c b,.int w,.int h] /\ d = .bl (q9d b w h)
theorem ok_q0r (T : Txt K mg t) : q3d P w K mg base CX0 (n + 1) t.f_q0r t.d_q0r ["box","wide","high"] (spD K [true,true,true] .v pre_q0r post_q0r):=by
 refine okD T.F_q0r sc_q0r rfl fun cdv A outer s H E hr => ⟨_,(q1m (q2s (by decide) (z7x (z2b j9k (PX.vb (q1l (hu1 hr) (q1f 0) (PX.vb q1g) (fun _ _ => rfl))) (PX.vb q1g) (q2l _)) (z7x (z2b j9k (PX.vb (q1l (hu1 hr) (q1f 0) (PX.vb q1g) (fun _ _ => rfl))) (PX.vb q1g) (q2l _)) (z7x (z2b k6m (PX.vb (q1k q1q (PX.vb (q1l (hu1 hr) (q1f 0) (PX.vb q1g) (fun _ _ => rfl))) (PX.vb (q1l (hu1 hr) (q1f 0) (PX.vb q1g) (fun _ _ => rfl))))) (q1f 1) (q2l _)) (k9p (z2b k6m (PX.vb (q1k q1q (PX.vb (q1l (hu1 hr) (q1f 0) (PX.vb q1g) (fun _ _ => rfl))) (PX.vb (q1l (hu1 hr) (q1f 0) (PX.vb q1g) (fun _ _ => rfl))))) (q1f 2) (q2l _)))))))),fun vs ds hv hd hp => ?_⟩
 obtain ⟨b,w,h,rfl⟩:=hp
 unfold q4c
 walk_at "d"
 unfold post_q0r q9d
 repeat' (refine q5i (fun c => ?_) (fun c => ?_))
 all_goals (refine ⟨b,w,h,rfl,?_⟩; simp_all; try omega)
def pre_q0z : List D -> Prop:=fun ds => ∃ (w : Str) (x y n : Int),ds = [.str w,.int x,.int y,.int n]
def post_q0z : List D -> D -> Prop:=fun ds d => ∃ (w : Str) (x y n : Int),ds = [.str w,.int x,.int y,.int n] /\ d = q4c (q7j w x y n)
theorem ok_q0z (T : Txt K mg t) : q3d P w K mg base CX0 (n + 1) t.f_q0z t.d_q0z ["way","x","y","size"] (spD K [true,false,false,false] .v pre_q0z post_q0z):=by
 refine okD T.F_q0z sc_q0z rfl fun cdv A outer s H E hr => ⟨_,(q1i (q3z (q2n (q4j hr.units) (q1f 0) (PX.vb q2m) (q2l _)) (q1m (q2s (by decide) (q2v (q1t (q1k q1q (q1f 1) (PX.vb q1g)) (q1t (q1o 2) (q1t (q1o 3) (q1t q1g q1h))))))) q2w)
   (q1i (q3z (q2n (q4j hr.units) (q1f 0) (PX.vb q2m) (q2l _)) (q1m (q2s (by decide) (q2v (q1t (q1k q4w (q1f 1) (q1f 3)) (q1t (q1o 2) (q1t (q1o 3) (q1t q1g q1h))))))) q2w)
   (q1i (q3z (q2n (q4j hr.units) (q1f 0) (PX.vb q2m) (q2l _)) (q1m (q2s (by decide) (q2v (q1t (q1k q4w (q1f 1) (PX.vb (q1k q2r (PX.vb (q1k q4w (q1f 3) (PX.vb q1g))) (PX.vb q1g)))) (q1t (q1k q4w (q1f 2) (PX.vb q1g)) (q1t (q1o 3) (q1t q1g q1h))))))) q2w)
   (q1i (q3z (q2n (q4j hr.units) (q1f 0) (PX.vb q2m) (q2l _)) (q1m (q2s (by decide) (q2v (q1t (q1k q4w (q1f 1) (PX.vb (q1k q2r (PX.vb (q1k q4w (q1f 3) (PX.vb q1g))) (PX.vb q1g)))) (q1t (q1k q1q (q1f 2) (PX.vb q1g)) (q1t (q1o 3) (q1t q1g q1h))))))) q2w)
   (q1i (q3z (q2n (q4j hr.units) (q1f 0) (PX.vb q2m) (q2l _)) (q1m (q2s (by decide) (q2v (q1t (q1o 1) (q1t (q1k q4w (q1f 2) (q1f 3)) (q1t q1g (q1t (q1o 3) q1h))))))) q2w)
   (q1m (q2s (by decide) (q2v (q1t (q1o 1) (q1t (q1k q1q (q1f 2) (PX.vb q1g)) (q1t q1g (q1t (q1o 3) q1h)))))))))))),fun vs ds hv hd hp => ?_⟩
 obtain ⟨w,x,y,m,rfl⟩:=hp
 walk_at "d"
 have fin : ∀ b1 b2 b3 b4 : Int,q7j w x y m = (b1,b2,b3,b4) -> post_q0z [.str w,.int x,.int y,.int m] (.tup [.int b1,.int b2,.int b3,.int b4]):=fun _ _ _ _ e => ⟨w,x,y,m,rfl,by rw [e]; rfl⟩
 have d2 : CDv (m - 1) 2:=⟨by decide,by decide⟩
 refine q5i (fun c => ⟨by decide,fin _ _ _ _ (by unfold q7j; rw [if_pos c])⟩) fun c => ?_
 refine q5i (fun c1 => ⟨by decide,fin _ _ _ _ (by unfold q7j; rw [if_neg c,if_pos c1])⟩) fun c1 => ?_
 refine q5i (fun c2 => ⟨d2,by decide,fin _ _ _ _ (by unfold q7j; rw [if_neg c,if_neg c1,if_pos c2])⟩) fun c2 => ?_
 refine q5i (fun c3 => ⟨d2,by decide,fin _ _ _ _ (by unfold q7j; rw [if_neg c,if_neg c1,if_neg c2,if_pos c3])⟩) fun c3 => ?_
 refine q5i (fun c4 => ⟨by decide,fin _ _ _ _ (by unfold q7j; rw [if_neg c,if_neg c1,if_neg c2,if_neg c3,if_pos c4])⟩) fun c4 => ?_
 exact ⟨by decide,fin _ _ _ _ (by unfold q7j; rw [if_neg c,if_neg c1,if_neg c2,if_neg c3,if_neg c4])⟩
theorem q8x (q : Pt) : dPt q = .tup [.str q.name,.int q.x,.int q.y,.int q.loss,.tup (q.places.map q5s)]:=rfl
theorem q2t (p : q2k) : q2z p = .tup [.int p.wide,.int p.high,.tup (p.kept.map q4c),.tup (p.pts.map dPt)]:=rfl
theorem q8s {α : Type} {f : α -> D} (hf : ∀ a b,f a = f b -> a = b) : ∀ {l m : List α},l.map f = m.map f -> l = m
 | [],[],_ => rfl
 | [],_ :: _,h => by cases h
 | _ :: _,[],h => by cases h
 | a :: l,b :: m,h => by
  rw [List.map_cons,List.map_cons] at h
  injection h with h1 h2
  rw [hf a b h1,q8s hf h2]
theorem k2h {a b : Str × Int} (h : q5s a = q5s b) : a = b:=by
 obtain ⟨a1,a2⟩:=a
 obtain ⟨b1,b2⟩:=b
 unfold q5s at h
 injection h with h
 simp only [List.cons.injEq,D.str.injEq,D.int.injEq,and_true] at h
 obtain ⟨rfl,rfl⟩:=h
 rfl
theorem q9n {a b : Pt} (h : dPt a = dPt b) : a = b:=by
 cases a; cases b
 rw [q8x,q8x] at h
 injection h with h
 simp only [List.cons.injEq,D.str.injEq,D.int.injEq,D.tup.injEq,and_true] at h
 obtain ⟨rfl,rfl,rfl,rfl,h⟩:=h
 rw [q8s (fun _ _ => k2h) h]
theorem q3i {a b : q2k} (h : q2z a = q2z b) : a = b:=by
 cases a; cases b
 rw [q2t,q2t] at h
 injection h with h
 simp only [List.cons.injEq,D.int.injEq,D.tup.injEq,and_true] at h
 obtain ⟨rfl,rfl,h1,h2⟩:=h
 rw [q8s (fun _ _ => q4h) h1,q8s (fun _ _ => q9n) h2]
theorem q3f {α : Type} {g : α -> D} {body : D -> (Option D -> Prop) -> Prop} (f : α -> D) : ∀ {l : List α} {R : List D -> Prop},(∀ a ∈ l,∀ K,K (some (f a)) -> body (g a) K) -> R (l.map f) -> z3s body (l.map g) R
 | [],_,_,h => h
 | a :: r,R,hb,h => by
  refine hb a (by simp) _ ?_
  exact q3f f (fun x hx => hb x (List.mem_cons_of_mem _ hx)) h
theorem q5z {α : Type} {g : α -> D} {body : D -> (Option D -> Prop) -> Prop} (f : α -> D) (c : α -> Bool) : ∀ {l : List α} {R : List D -> Prop},(∀ a ∈ l,∀ K,K (if c a = true then some (f a) else none) -> body (g a) K) -> R ((l.filter c).map f) -> z3s body (l.map g) R
 | [],_,_,h => h
 | a :: r,R,hb,h => by
  refine hb a (by simp) _ ?_
  refine q5z f c (fun x hx => hb x (List.mem_cons_of_mem _ hx)) ?_
  by_cases e : c a = true
  ·rw [List.filter_cons_of_pos e] at h
   rw [if_pos e]; exact h
  ·rw [List.filter_cons_of_neg e] at h
   rw [if_neg e]; exact h
theorem k2j {α : Type} {g : Nat -> α -> D} {body : D -> (Option D -> Prop) -> Prop} (f : Nat -> α -> D) {l : List α} {R : List D -> Prop} (hb : ∀ (i : Nat) a,l[i]? = some a -> ∀ K,K (some (f i a)) -> body (g i a) K) (h : R (l.mapIdx f)) : z3s body (l.mapIdx g) R:=by
 have key : ∀ (l : List α) (k : Nat) (R : List D -> Prop),(∀ (i : Nat) a,l[i]? = some a -> ∀ K,K (some (f (k + i) a)) -> body (g (k + i) a) K) -> R (l.mapIdx fun i a => f (k + i) a) -> z3s body (l.mapIdx fun i a => g (k + i) a) R:=by
  intro l
  induction l with
  | nil => intro k R _ h; exact h
  | cons a r ih =>
   intro k R hb h
   rw [List.mapIdx_cons] at h ⊢
   refine hb 0 a rfl _ ?_
   have e : ∀ (φ : Nat -> α -> D),(r.mapIdx fun i a => φ (k + (i + 1)) a) = r.mapIdx fun i a => φ (k + 1 + i) a:=fun φ => by
    congr 1; funext i a; rw [Nat.add_assoc,Nat.add_comm 1 i]
   rw [e f] at h
   rw [e g]
   refine ih (k + 1) _ (fun i b hi => ?_) h
   have:=hb (i + 1) b (by simpa using hi)
   rw [show k + (i + 1) = k + 1 + i by omega] at this
   exact this
 have:=key l 0 R (by simpa using hb) (by simpa using h)
 simpa using this
def pre_q0m : List D -> Prop:=fun ds => ∃ (q : Pt),ds = [dPt q] /\ q.places.length <= 100 /\ q.name.length <= 100
def post_q0m : List D -> D -> Prop:=fun ds d => ∃ (q : Pt),ds = [dPt q] /\ d = .lst ((q2u q).map q4c)
theorem k2i (a : Str × Int) : q5s a = .tup [.str a.1,.int a.2]:=rfl
theorem ok_q0m (T : Txt K mg t) (G_q0z : q3d P w K mg base CX0 (n + 1) t.f_q0z t.d_q0z ["way","x","y","size"] (spD K [true,false,false,false] .v pre_q0z post_q0z)) : q3d P w K mg base CX0 (n + 2) t.f_q0m t.d_q0m ["point"] (spD K [true] .n pre_q0m post_q0m):=by
 refine okD T.F_q0m sc_q0m rfl fun cdv A outer s H E hr => ⟨_,(q1m (q2s (by decide) (q5b (osc:=q1j s_q0m) (N:=["point"]) ["way","price","point"] [none,none,some 0] ⟨rfl,by decide +kernel,by decide +kernel,by decide +kernel,rfl,by decide +kernel⟩ (q7n rfl (PX.vb (q1l (hu1 hr) (q1f 0) (PX.vb q1g) (fun _ _ => rfl)))) (fun b => (q4x (n:=2) rfl (q2b (q1n (i:=0) (show (["way","price","point"] : List Str).Nodup by decide +kernel) rfl (Or.inl rfl)) (q2b (q1n (i:=1) (show (["way","price","point"] : List Str).Nodup by decide +kernel) rfl (Or.inl rfl)) q4p)))) (fun b => q5c) (fun b => (q1p G_q0z hr rfl T.m_q0z T.F_q0z.kp T.b_q0z q3a (q2g (q1f 0) (q1t (q1l (hu1 hr) (q1f 2) (PX.vb q1g) (fun _ _ => rfl)) (q1t (q1l (hu1 hr) (q1f 2) (PX.vb q1g) (fun _ _ => rfl)) (q1t (q2c q4k rfl T.n_len PySem.boot_len (q2g (PX.vb (q1l (hu1 hr) (q1f 2) (PX.vb q1g) (fun _ _ => rfl))) q1h)) q1h))))))))),fun vs ds hv hd hp => ?_⟩
 obtain ⟨q,rfl,h1,h2⟩:=hp
 rw [q8x]
 walk_at "d"
 refine ⟨q3o (by rw [List.length_map]; omega),fun _ => ?_⟩
 refine q3f (fun a => q4c (q7j a.1 q.x q.y q.name.length)) (fun a ha c hc => ?_) ?_
 ·rw [k2i a]
  walk_at "d"
  refine ⟨q3o (by omega),⟨_,_,_,_,rfl⟩,?_⟩
  rintro d ⟨w',x',y',n',e,rfl⟩
  simp only [List.cons.injEq,D.str.injEq,D.int.injEq,and_true] at e
  obtain ⟨rfl,rfl,rfl,rfl⟩:=e
  exact hc
 ·exact ⟨q,rfl,by unfold q2u; rw [List.map_map]; rfl⟩
theorem z5o (q : Pt) : (q2u q).length = q.places.length:=by unfold q2u; rw [List.length_map]
theorem z0c {α β γ : Type} (f : α -> β) (g : Nat -> β -> γ) (l : List α) : (l.map f).mapIdx g = l.mapIdx fun i a => g i (f a):=by
 apply List.ext_getElem?
 intro i
 rw [List.getElem?_mapIdx,List.getElem?_map,List.getElem?_mapIdx]
 cases l[i]? <;> rfl
theorem z5r {α β γ : Type} (f : β -> γ) (g : Nat -> α -> β) (l : List α) : (l.mapIdx g).map f = l.mapIdx fun i a => f (g i a):=by
 apply List.ext_getElem?
 intro i
 rw [List.getElem?_map,List.getElem?_mapIdx,List.getElem?_mapIdx]
 cases l[i]? <;> rfl
theorem j0p {a b : D × B4} (h : k1v a = k1v b) : a = b:=by
 obtain ⟨a1,a2⟩:=a
 obtain ⟨b1,b2⟩:=b
 unfold k1v at h
 injection h with h
 simp only [List.cons.injEq,and_true] at h
 obtain ⟨rfl,h⟩:=h
 rw [q4h h]
def pre_q0b : List D -> Prop:=fun ds => ∃ (p : q2k),ds = [q2z p] /\ OkP p
def post_q0b : List D -> D -> Prop:=fun ds d => ∃ (p : q2k),ds = [q2z p] /\ d = .lst ((z9w p).map k1v)
theorem ok_q0b (T : Txt K mg t) : q3d P w K mg base CX0 (n + 1) t.f_q0b t.d_q0b ["plan"] (spD K [true] .n pre_q0b post_q0b):=by
 refine okD T.F_q0b sc_q0b rfl fun cdv A outer s H E hr => ⟨_,(q1i (z0a (i:=1) (osc:=q1j s_q0b) (N:=["plan","bars"]) ["point"] [none] ⟨rfl,by decide +kernel,by decide +kernel,by decide +kernel,rfl,by decide +kernel⟩ sc_q0b.nd rfl (Or.inl rfl) (q7n rfl (PX.vb (q1l (hu1 hr) (q1f 0) (PX.vb q1g) (fun _ _ => rfl)))) (fun b => (q1n (i:=0) (show (["point"] : List Str).Nodup by decide +kernel) rfl (Or.inl rfl))) (fun b => q5c) (fun b => (q2v (q1t (q2v (q1t q2m (q1t (q1l (hu1 hr) (q1f 0) (PX.vb q1g) (fun _ _ => rfl)) q1h))) (q1t (q2v (q1t (q1l (hu1 hr) (q1f 0) (PX.vb q1g) (fun _ _ => rfl)) (q1t (q1l (hu1 hr) (q1f 0) (PX.vb q1g) (fun _ _ => rfl)) (q1t q1g (q1t q1g q1h))))) q1h)))))
   (q1i (q3u (z7q 1 PySem.F.slot_list_extend PySem.F.type_list_extend (q5b (osc:=q1j s_q0b) (N:=["plan","bars"]) ["number","box"] [none,none] ⟨rfl,by decide +kernel,by decide +kernel,by decide +kernel,rfl,by decide +kernel⟩ (PIX.c (q9k rfl T.n_enumerate (q1l (hu1 hr) (q1f 0) (PX.vb q1g) (fun _ _ => rfl)))) (fun b => (q4x (n:=2) rfl (q2b (q1n (i:=0) (show (["number","box"] : List Str).Nodup by decide +kernel) rfl (Or.inl rfl)) (q2b (q1n (i:=1) (show (["number","box"] : List Str).Nodup by decide +kernel) rfl (Or.inl rfl)) q4p)))) (fun b => q5c) (fun b => (q2v (q1t (q2v (q1t q2m (q1t (q1o 0) q1h))) (q1t (q1o 1) q1h)))))))
   (q1m (q4z (i:=1))))),fun vs ds hv hd hp => ?_⟩
 obtain ⟨p,rfl,ok⟩:=hp
 have h1:=ok.np
 have h2:=ok.nk
 rw [q2t]
 walk_at "d"
 refine ⟨q3o (by rw [List.length_map]; omega),fun _ => ?_⟩
 refine q3f (fun q => k1v (.tup [.str (Str.ofString "point"),.str q.name],cellOf q)) (fun o ho c hc => ?_) ?_
 ·rw [q8x o]
  walk_at "d"
  exact ⟨by decide,by decide,by decide,hc⟩
 ·rw [z0c]
  refine ⟨q3o (by rw [List.length_mapIdx]; omega),fun _ => ?_⟩
  refine k2j (fun i b => k1v (.tup [.str (Str.ofString "keep"),.int (i : Int)],b)) (fun i a ha c hc => ?_) ?_
  ·walk_at "d"
   exact ⟨by decide,by decide,hc⟩
  ·refine ⟨q3o (by rw [List.length_mapIdx,List.length_map]; omega),p,rfl,?_⟩
   unfold z9w k7q k2u
   rw [List.map_append,List.map_map,z5r]
   rfl
def pre_q0k : List D -> Prop:=fun ds => ∃ (p : q2k) (b : B4) (l : List (D × B4)),ds = [q2z p,q4c b,.lst (l.map k1v)]
def post_q0k : List D -> D -> Prop:=fun ds d => ∃ (p : q2k) (b : B4) (l : List (D × B4)),ds = [q2z p,q4c b,.lst (l.map k1v)] /\ d = q6u p b l
theorem ok_q0k (T : Txt K mg t) (G_q0r : q3d P w K mg base CX0 (n + 2) t.f_q0r t.d_q0r ["box","wide","high"] (spD K [true,true,true] .v pre_q0r post_q0r)) (G_q1e : q3d P w K mg base CX0 (n + 2) t.f_q1e t.d_q1e ["one","other"] (spD K [true,true] .v pre_q1e post_q1e)) : q3d P w K mg base CX0 (n + 3) t.f_q0k t.d_q0k ["plan","box","bars"] (spD K [true,true,true] .v pre_q0k post_q0k):=by
 refine okD T.F_q0k sc_q0k rfl fun cdv A outer s H E hr => ⟨_,(q1i (q3z (z4o (z0n (q1p G_q0r hr rfl T.m_q0r T.F_q0r.kp T.b_q0r q3a (q2g (q1f 1) (q2g (PX.vb (q1l (hu1 hr) (q1f 0) (PX.vb q1g) (fun _ _ => rfl))) (q2g (PX.vb (q1l (hu1 hr) (q1f 0) (PX.vb q1g) (fun _ _ => rfl))) q1h)))))) (q1m (q2s (by decide) (q2v (q1t q2m q1h)))) q2w)
   (q1i (j3e 2 PassesOwn.never rfl (q4x (n:=2) rfl (q2b (q1n (i:=3) sc_q0k.nd rfl (Or.inl rfl)) (q2b (q1n (i:=4) sc_q0k.nd rfl (Or.inl rfl)) q4p))) (q1m (q3z (z0n (q1p G_q1e hr rfl T.m_q1e T.F_q1e.kp T.b_q1e q3a (q2g (q1f 1) (q2g (q1f 4) q1h)))) (q1m (q2s (by decide) (q1o 3))) q2w)))
   (q1m (q2s (by decide) q4m)))),fun vs ds hv hd hp => ?_⟩
 obtain ⟨p,b,l,rfl⟩:=hp
 rw [q2t]
 walk_at "d"
 refine ⟨⟨_,_,_,rfl⟩,?_⟩
 rintro d ⟨b',w',h',e,rfl⟩
 simp only [List.cons.injEq,D.int.injEq,and_true] at e
 obtain ⟨e,rfl,rfl⟩:=e
 have:=q4h e
 subst this
 walk_at "d"
 refine q5i (fun c => ⟨by decide,p,b,l,rfl,by unfold q6u; rw [c]; rfl⟩) fun c => ?_
 rw [Bool.not_eq_false] at c
 have fb : q6u p b l = z2r b l:=by unfold q6u; rw [if_pos c]
 refine q1v (fun i ρ => ∃ (o3 o4 : Option Sl),ρ = [some (Sl.bor (hdV vs) (D.tup [D.int p.wide,D.int p.high,D.tup (List.map q4c p.kept),D.tup (List.map dPt p.pts)])),some (Sl.bor (hdV (tlV vs)) (q4c b)),some (Sl.bor (hdV (tlV (tlV vs))) (D.lst (List.map k1v l))),o3,o4] /\ z2r b l = z2r b (l.drop i)) ?_ ?_ ?_
 ·exact ⟨_,_,rfl,rfl⟩
 ·rintro i d ρ N hd ⟨o3,o4,rfl,hb⟩ hN
  rw [List.getElem?_map] at hd
  cases hl : l[i]? with
  | none => rw [hl] at hd; cases hd
  | some c =>
   rw [hl] at hd
   cases hd
   have hi:=(List.getElem?_eq_some_iff.mp hl).1
   have hdr : l.drop i = c :: l.drop (i + 1):=by
    rw [List.drop_eq_getElem_cons hi]
    rw [List.getElem?_eq_getElem hi] at hl
    rw [Option.some.inj hl]
   rw [hdr] at hb
   rw [show k1v c = .tup [c.1,q4c c.2] from rfl]
   walk_at "d"
   refine ⟨⟨_,_,rfl⟩,?_⟩
   rintro d ⟨b1,b2,e,rfl⟩
   simp only [List.cons.injEq,and_true] at e
   have e1:=q4h e.1
   have e2:=q4h e.2
   subst e1 e2
   walk_at "d"
   refine q5i (fun m => ?_) fun m => ?_
   ·exact ⟨p,b,l,rfl,by rw [fb,hb]; unfold z2r; rw [if_pos m]⟩
   ·refine hN _ ⟨_,_,rfl,?_⟩
    rw [hb]
    conv => lhs; unfold z2r
    rw [if_neg m]
 ·rintro ρ ⟨o3,o4,rfl,hb⟩
  refine ⟨rfl,p,b,l,rfl,?_⟩
  rw [fb,hb,List.length_map,List.drop_length]
  rfl
theorem j0z {p : q2k} {q r : Pt} (ok : OkP p) (hq : q ∈ p.pts) (hr : r ∈ p.pts) (e : q.name = r.name) : q = r:=by
 have h1:=z6w ok hq
 have h2:=z6w ok hr
 rw [e] at h1
 rw [h1] at h2
 exact (List.cons.inj h2).1
end
open TX
def z1d (x s : Str) (m : Int) : Bool:=(decide (1 <= (x.length : Int)) && decide ((x.length : Int) <= m)) && (cs x).all fun c => decide (c ∈ cs s)
def LET : Str:="abcdefghijklmnopqrstuvwxyz"
theorem z6k (a b : Str) : deq (.str a) (.str b) = decide (a = b):=by
 show (a == b) = decide (a = b)
 by_cases h : a = b
 ·subst h; simp
 ·rw [decide_eq_false h]; exact beq_eq_false_iff_ne.mpr h
theorem j9q (c : Int) : ∃ ch,atI (cs LET) (c % 26) = some ch /\ ch ∈ cs LET:=by
 have hl : (cs LET).length = 26:=by decide +kernel
 obtain ⟨ch,h1,h2⟩:=k4o (xs:=cs LET) (i:=c % 26) (by omega) (by rw [hl]; omega)
 exact ⟨ch,h1,List.mem_of_getElem? h2⟩
theorem q5x {m i : Nat} {a : Int} {d : D} (h : (List.map (fun (k : Nat) => D.int (a + (k : Int))) (List.range m))[i]? = some d) : i < m /\ d = .int (a + i):=by
 rw [List.getElem?_map] at h
 by_cases hi : i < m
 ·rw [List.getElem?_range hi] at h
  cases h
  exact ⟨hi,rfl⟩
 ·rw [List.getElem?_eq_none (by simpa using hi)] at h; cases h
section
variable {P : Program} {w : World} {K : PySem.W.Frag} {mg : Str -> Option Value} {base : Heap} {t : Adr} {n : Nat}
def stp (t c : Int) : Nat:=(((t - c) * 483 - 1) % 676).toNat + 1
theorem k7p {t c : Int} (t0 : 0 <= t) (t1 : t < 676) (h : (c + 7) % 676 ≠ t) : stp t ((c + 7) % 676) < stp t c:=by
 unfold stp
 omega
def ltr (i : Int) : Nat:=(cs LET).getD i.toNat 0
theorem z8x {i : Int} (h0 : 0 <= i) (h1 : i < 26) : atI (cs LET) i = some (ltr i) /\ ltr i ∈ cs LET:=by
 have hl : (cs LET).length = 26:=by decide +kernel
 obtain ⟨ch,e1,e2⟩:=k4o (xs:=cs LET) h0 (by rw [hl]; omega)
 have : ltr i = ch:=by unfold ltr; rw [List.getD_eq_getElem?_getD,e2]; rfl
 rw [this]
 exact ⟨e1,List.mem_of_getElem? e2⟩
def k0k (pd : Nat) (md : Bool) (s c : Int) : Str :=
 if s = 1 then one (ltr (c / 26)) else if md then (one (ltr (c / 26)) ++ one (ltr (c % 26))) ++ Txt.mul (one pd) (s - 2) else Txt.mul (one pd) (s - 2) ++ (one (ltr (c / 26)) ++ one (ltr (c % 26)))
theorem k2t (pd : Nat) {s : Int} (h1 : 1 <= s) (h2 : s <= 8) : cs (Txt.mul (one pd) (s - 2)) = List.replicate (s - 2).toNat pd:=by
 obtain ⟨j,hj,rfl⟩ : ∃ j : Nat,j < 8 /\ s = (j : Int) + 1:=⟨(s - 1).toNat,by omega,by omega⟩
 clear h1 h2
 rcases j with _ | _ | _ | _ | _ | _ | _ | _ | j
 ·rfl
 ·rfl
 ·rfl
 ·rfl
 ·rfl
 ·rfl
 ·rfl
 ·rfl
 ·exact absurd hj (Nat.not_lt.mpr (Nat.le_add_left 8 j))
theorem j0w (pd : Nat) (md : Bool) {s : Int} (h1 : 1 <= s) (h2 : s <= 8) (c : Int) : cs (k0k pd md s c) = if s = 1 then [ltr (c / 26)] else if md then [ltr (c / 26),ltr (c % 26)] ++ List.replicate (s - 2).toNat pd else List.replicate (s - 2).toNat pd ++ [ltr (c / 26),ltr (c % 26)]:=by
 unfold k0k
 split
 ·rfl
 ·split
  ·rw [q6a,k2t pd h1 h2,q6a]; rfl
  ·rw [q6a,k2t pd h1 h2,q6a]; rfl
theorem j1a {pd : Nat} (hp : pd ∈ cs LET) (md : Bool) {s : Int} (h1 : 1 <= s) (h2 : s <= 8) {c : Int} (c0 : 0 <= c) (c1 : c < 676) : z1d (k0k pd md s c) LET 8 = true:=by
 have e:=j0w pd md h1 h2 c
 have l1:=(z8x (i:=c / 26) (by omega) (by omega)).2
 have l2:=(z8x (i:=c % 26) (by omega) (by omega)).2
 unfold z1d
 simp only [Bool.and_eq_true,decide_eq_true_eq,List.all_eq_true]
 rw [q4v,e]
 split
 ·exact ⟨⟨by simp,by simp⟩,by intro x hx; rw [List.mem_singleton] at hx; rw [hx]; exact l1⟩
 ·split
  ·refine ⟨⟨by simp; omega,by simp; omega⟩,fun x hx => ?_⟩
   simp only [List.mem_append,List.mem_cons,List.not_mem_nil,or_false,List.mem_replicate] at hx
   rcases hx with (rfl | rfl) | ⟨_,rfl⟩
   ·exact l1
   ·exact l2
   ·exact hp
  ·refine ⟨⟨by simp; omega,by simp; omega⟩,fun x hx => ?_⟩
   simp only [List.mem_append,List.mem_cons,List.not_mem_nil,or_false,List.mem_replicate] at hx
   rcases hx with ⟨_,rfl⟩ | rfl | rfl
   ·exact hp
   ·exact l1
   ·exact l2
theorem k9k {α : Type} [DecidableEq α] : ∀ (l m : List α),l.Nodup -> (∀ x ∈ l,x ∈ m) -> l.length <= m.length
 | [],_,_,_ => by simp
 | a :: r,m,hd,h => by
  rw [List.nodup_cons] at hd
  have ha:=h a (by simp)
  have:=k9k r (m.erase a) hd.2 fun x hx => by
   have hne : x ≠ a:=fun e => hd.1 (e ▸ hx)
   exact (List.mem_erase_of_ne hne).mpr (h x (List.mem_cons_of_mem _ hx))
  rw [List.length_erase_of_mem ha] at this
  have : 0 < m.length:=List.length_pos_of_mem ha
  simp only [List.length_cons]
  omega
theorem j4t (pd : Nat) (md : Bool) (s : Int) (h1 : 1 <= s) (h2 : s <= 8) (nms : List Str) (hl : nms.length < 26) : ∃ t : Int,0 <= t /\ t < 676 /\ k0k pd md s t ∉ nms:=by
 have hnd : ((List.range 26).map fun (j : Nat) => k0k pd md s (26 * (j : Int))).Nodup:=by
  have hll : ∀ i j : Fin 26,ltr (i.val : Int) = ltr (j.val : Int) -> i = j:=by decide +kernel
  rw [List.nodup_iff_pairwise_ne,List.pairwise_map]
  refine List.Pairwise.imp_of_mem ?_ List.nodup_range
  intro i j hi hj hij e
  rw [List.mem_range] at hi hj
  have e:=congrArg cs e
  rw [j0w pd md h1 h2,j0w pd md h1 h2] at e
  have ei : (26 * (i : Int)) / 26 = i:=by omega
  have ej : (26 * (j : Int)) / 26 = j:=by omega
  rw [ei,ej] at e
  have : ltr (i : Int) = ltr (j : Int):=by
   split at e
   ·simpa using e
   ·split at e
    ·simp at e; exact e
    ·have:=List.append_cancel_left e
     simp at this
     exact this
  exact hij (congrArg Fin.val (hll ⟨i,hi⟩ ⟨j,hj⟩ this))
 refine Classical.byContradiction fun hno => ?_
 have h : ∀ x ∈ ((List.range 26).map fun (j : Nat) => k0k pd md s (26 * (j : Int))),x ∈ nms:=by
  intro x hx
  obtain ⟨j,hj,rfl⟩:=List.mem_map.mp hx
  rw [List.mem_range] at hj
  exact Classical.byContradiction fun hn => hno ⟨26 * (j : Int),by omega,by omega,hn⟩
 have:=k9k _ _ hnd h
 simp at this
 omega
theorem j7t {c : Prop} [Decidable c] {B F A : Prop} {b : Bool} (hF : F) (hin : c \/ b = true) (hB : B) : if c then B else (F /\ if b = true then B else A):=by
 refine q5i (fun _ => hB) fun hc => ⟨hF,?_⟩
 rcases hin with h | h
 ·exact absurd h hc
 ·rw [if_pos h]; exact hB
theorem j8c {c : Prop} [Decidable c] {B F A : Prop} {b : Bool} (hF : F) (h1 : ¬ c) (h2 : ¬ b = true) (hA : A) : if c then B else (F /\ if b = true then B else A):=by
 rw [if_neg h1]
 exact ⟨hF,by rw [if_neg h2]; exact hA⟩
theorem j7n (pd : Nat) {s : Int} (h1 : 1 <= s) (h2 : s <= 8) : MulOk (one pd) (s - 2):=by
 have e : (one pd).length = 1:=rfl
 unfold MulOk
 rw [e]
 obtain ⟨j,rfl⟩ : ∃ j : Fin 8,s = (j.val : Int) + 1:=⟨⟨(s - 1).toNat,by omega⟩,by dsimp only; omega⟩
 clear h1 h2
 revert j
 decide
theorem q7x (c : Nat) : (⟨#[c]⟩ : Str) = one c:=rfl
theorem j8n (a b : Nat) : Txt.slice (one a ++ one b) none (some 1) = one a:=rfl
theorem z5n (l : List Str) (x : Str) : ((l.map D.str).any fun z => deq z (.str x)) = true ↔ x ∈ l:=by
 rw [List.any_eq_true]
 constructor
 ·rintro ⟨z,hz,h⟩
  obtain ⟨y,hy,rfl⟩:=List.mem_map.mp hz
  rw [z6k] at h
  rw [<- of_decide_eq_true h]; exact hy
 ·intro h
  exact ⟨.str x,List.mem_map_of_mem h,by rw [z6k]; exact decide_eq_true rfl⟩
theorem j4q {a b r : DS} {E : z8b} {ρ : En} (C : En -> Prop) (hC : ∀ ρ',C ρ' -> r E ρ') (h : ∀ rst : DS,(∀ ρ',C ρ' -> rst E ρ') -> k9o a (k9o b rst) E ρ) : k9o a (k9o b r) E ρ:=h r hC
def pre_q0t : List D -> Prop:=fun ds => ∃ (a : Int) (mm : Nat),ds = [.int a,.int (mm : Int)] /\ 0 <= a /\ mm <= 26
def post_q0t : List D -> D -> Prop:=fun ds d => ∃ (a : Int) (mm : Nat) (l : List Str),ds = [.int a,.int (mm : Int)] /\ d = .lst (l.map D.str) /\ l.length = mm /\ l.Nodup /\ ∀ x ∈ l,z1d x LET 8 = true
theorem ok_q0t (T : Txt K mg t) : q3d P w K mg base CX0 (n + 1) t.f_q0t t.d_q0t ["_law_number_here","_law_many"] (spD K [true,false] .n pre_q0t post_q0t):=by
 refine okD T.F_q0t sc_q0t rfl fun cdv A outer s H E hr => ⟨_,(q1i (q1u (i:=2) sc_q0t.nd rfl (Or.inl rfl) q2m)
   (q1i (q1u (i:=3) sc_q0t.nd rfl (Or.inl rfl) (q1l (hu1 hr) (q1f 2) (PX.vb (q1k q2q (PX.vb (q1k q2r (q1f 0) (PX.vb q1g))) (PX.vb q1g))) (fun _ _ => rfl)))
   (q1i (q1u (i:=4) sc_q0t.nd rfl (Or.inl rfl) (q1k q2q (q1f 0) (PX.vb q1g)))
   (q1i (q4a (i:=5) sc_q0t.nd rfl (Or.inl rfl) (q3k q1h))
   (q1i (q3b PassesOwn.never rfl (q2o rfl T.n_range (q1t (q1o 1) q1h)) (q1n (i:=6) sc_q0t.nd rfl (Or.inl rfl)) (q1i (q1u (i:=7) sc_q0t.nd rfl (Or.inl rfl) (q1k q1q (PX.vb q1g) (PX.vb (q1k q2q (PX.vb (q1k q1q (PX.vb (q1k q2r (q1f 0) (PX.vb (q1k q1q (q1f 6) (PX.vb q1g))))) (q1f 6))) (PX.vb q1g)))))
   (q1i (q3z (q2n j2m (q1f 6) (PX.vb q1g) (q2l _)) (q1m (q1u (i:=7) sc_q0t.nd rfl (Or.inl rfl) (q2c (z6o rfl) rfl T.n_max PyProof.Rows.boot_max (q2g (q1f 7) (q2g (PX.vb q1g) q1h))))) q2w)
   (q1i (q1u (i:=8) sc_q0t.nd rfl (Or.inl rfl) q2m)
   (q1i (k8v PassesOwn.never (PWX.t (k8f (q2n (q4j hr.units) (q1f 8) (PX.vb q2m) (q2l _)) (z8n (q2n (j6w (w3r hr)) (q1f 8) (q1f 5) (by with_unfolding_all rfl))))) (q1i (q1u (i:=4) sc_q0t.nd rfl (Or.inl rfl) (q1k q2q (PX.vb (q1k q1q (q1f 4) (PX.vb q1g))) (PX.vb q1g)))
   (q1i (q1u (i:=9) sc_q0t.nd rfl (Or.inl rfl) (q1k q1q (PX.vb (q1l (hu1 hr) (q1f 2) (PX.vb (q1k q2r (q1f 4) (PX.vb q1g))) (fun _ _ => rfl))) (PX.vb (q1l (hu1 hr) (q1f 2) (PX.vb (q1k q2q (q1f 4) (PX.vb q1g))) (fun _ _ => rfl)))))
   (q1i (q1u (i:=8) sc_q0t.nd rfl (Or.inl rfl) (q1l (hu1 hr) (PX.nb (q3k (q1t (q1k q1q (PX.vb (q1k q5t (q1f 3) (PX.vb (q1k q4w (q1f 7) (PX.vb q1g))))) (q1f 9)) (q1t (q1k q1q (q1f 9) (PX.vb (q1k q5t (q1f 3) (PX.vb (q1k q4w (q1f 7) (PX.vb q1g)))))) q1h)))) (PX.vb (q1k q2q (PX.vb (q1k q2r (q1f 0) (PX.vb q1g))) (PX.vb q1g))) (fun _ _ => rfl)))
   (q1m (q3z (q2n (q4j hr.units) (q1f 7) (PX.vb q1g) (q2l _)) (q1m (q1u (i:=8) sc_q0t.nd rfl (Or.inl rfl) (q3x q4o (q1f 9) q6p (q4d (PX.vb q1g))))) q2w))))))
   (q1m (q3u (q5k 5 PySem.F.slot_list_append PySem.F.type_list_append q3s (q4i (q5n (q1o 8)) q5m)))))))))
   (q1m (q4z (i:=5)))))))),fun vs ds hv hd hp => ?_⟩
 obtain ⟨a,mm,rfl,h0,hmm⟩:=hp
 walk_at "d"
 obtain ⟨pd,epd,hpd⟩:=j9q (a / 1352)
 have hsz : (LET).length <= sizeLine:=by decide +kernel
 have epd' : atI (Str.ofString "abcdefghijklmnopqrstuvwxyz").cps.toList (a / 1352 % 26) = some pd:=epd
 rw [epd']
 walk_at "d"
 refine ⟨⟨by decide,by decide⟩,by decide,hsz,by decide,by decide,⟨by omega,by omega⟩,?_⟩
 refine q1v (fun k ρ => ∃ (code : Int) (nms : List Str) (o6 o7 o8 o9 : Option Sl),ρ = [some (.bor (hdV vs) (.int a)),some (.shr (.int (mm : Int))),some (.shr (.str LET)),some (.shr (.str ⟨#[pd]⟩)),some (.shr (.int code)),some (.own (.lst (nms.map D.str))),o6,o7,o8,o9] /\ 0 <= code /\ code < 676 /\ nms.length = k /\ nms.Nodup /\ ∀ x ∈ nms,z1d x LET 8 = true) ?_ ?_ ?_
 ·exact ⟨a % 676,[],_,_,_,_,rfl,by omega,by omega,rfl,.nil,by simp⟩
 ·rintro i d ρ N hd ⟨code,nms,o6,o7,o8,o9,rfl,hc0,hc1,hl,hnd,hnm⟩ hN
  obtain ⟨hi,rfl⟩:=q5x hd
  have hi : i < mm:=by simpa using hi
  show k9o _ _ _ _
  refine j4q (fun ρ' => ∃ s : Int,ρ' = [some (.bor (hdV vs) (.int a)),some (.shr (.int (mm : Int))),some (.shr (.str LET)),some (.shr (.str ⟨#[pd]⟩)),some (.shr (.int code)),some (.own (.lst (nms.map D.str))),some (.shr (.int (0 + (i : Int)))),some (.shr (.int s)),o8,o9] /\ 1 <= s /\ s <= 8) ?_ fun rst hr => ?_
  ·rintro ρ ⟨s,rfl,hs⟩
   walk_at "d"
   obtain ⟨md,emd⟩ : ∃ md : Bool,∀ x y : D,atI [x,y] (a / 676 % 2) = some (if md then y else x):=by
    have : a / 676 % 2 = 0 \/ a / 676 % 2 = 1:=by omega
    rcases this with e | e <;> rw [e]
    ·exact ⟨false,fun _ _ => rfl⟩
    ·exact ⟨true,fun _ _ => rfl⟩
   obtain ⟨tg,t0,t1,htg⟩:=j4t pd md s hs.1 hs.2 nms (by omega)
   refine ⟨fun m ρ => ∃ (code : Int) (x : Str) (o9 : Option Sl),ρ = [some (.bor (hdV vs) (.int a)),some (.shr (.int (mm : Int))),some (.shr (.str LET)),some (.shr (.str ⟨#[pd]⟩)),some (.shr (.int code)),some (.own (.lst (nms.map D.str))),some (.shr (.int (0 + (i : Int)))),some (.shr (.int s)),some (.shr (.str x)),o9] /\ 0 <= code /\ code < 676 /\ (x = Str.ofString "" \/ z1d x LET 8 = true) /\ (x = Str.ofString "" \/ x ∈ nms -> m = stp tg code),⟨_,code,_,_,rfl,hc0,hc1,.inl rfl,fun _ => rfl⟩,?_⟩
   rintro m ρ ⟨cd,x,o9,rfl,d0,d1,hx,hm⟩
   walk_at "d"
   have hF : (nms.map D.str).all D.flat = true:=by rw [List.all_map,List.all_eq_true]; intro _ _; rfl
   by_cases hin : x = Str.ofString "" \/ x ∈ nms
   ·refine j7t (.inl hF) (hin.imp id (z5n nms x).mpr) ?_
    have c20 : 0 <= (cd + 7) % 676:=by omega
    have c21 : (cd + 7) % 676 < 676:=by omega
    generalize hcd : (cd + 7) % 676 = c2 at c20 c21 ⊢
    obtain ⟨e1,m1⟩:=z8x (i:=c2 / 26) (by omega) (by omega)
    obtain ⟨e2,m2⟩:=z8x (i:=c2 % 26) (by omega) (by omega)
    have e1' : atI LET.cps.toList (c2 / 26) = some (ltr (c2 / 26)):=e1
    have e2' : atI LET.cps.toList (c2 % 26) = some (ltr (c2 % 26)):=e2
    have made:=j1a hpd md hs.1 hs.2 c20 c21
    refine ⟨fun ρ' => ∃ o9,ρ' = [some (.bor (hdV vs) (.int a)),some (.shr (.int (mm : Int))),some (.shr (.str LET)),some (.shr (.str ⟨#[pd]⟩)),some (.shr (.int c2)),some (.own (.lst (nms.map D.str))),some (.shr (.int (0 + (i : Int)))),some (.shr (.int s)),some (.shr (.str (k0k pd md s c2))),o9],?_,?_⟩
    ·rintro ρ' ⟨o9,rfl⟩
     by_cases hn : k0k pd md s c2 ∈ nms
     ·refine ⟨stp tg c2,?_,c2,_,_,rfl,c20,c21,.inr made,fun _ => rfl⟩
      rw [hm hin,<- hcd]
      exact k7p t0 t1 (by rw [hcd]; rintro rfl; exact htg hn)
     ·refine ⟨0,by rw [hm hin]; exact Nat.succ_pos _,c2,_,_,rfl,c20,c21,.inr made,fun z => ?_⟩
      rcases z with z | z
      ·rw [z] at made
       exact absurd made (by decide +kernel)
      ·exact absurd z hn
    ·rw [e1',e2']
     walk_at "d"
     rw [emd]
     walk_at "d"
     simp only [q7x,j8n]
     have hml : (Txt.mul (one pd) (s - 2)).length <= 8:=by
      rw [q4v,k2t pd hs.1 hs.2,List.length_replicate]; omega
     have h11 : (one (ltr (c2 / 26))).length = 1:=rfl
     have h12 : (one (ltr (c2 % 26))).length = 1:=rfl
     have hok : MulOk (one pd) (s - 2):=j7n pd hs.1 hs.2
     simp only [k3n,h11,h12]
     refine ⟨by decide,⟨by decide,by decide⟩,hsz,by decide,hsz,by decide,hok,q3o (by omega),hok,q3o (by omega),by decide,⟨by decide,by decide⟩,by decide,q5i (fun es => ⟨by decide,?_⟩) fun es => ?_⟩
     ·have : k0k pd md s c2 = one (ltr (c2 / 26)):=by unfold k0k; rw [if_pos es]
      rw [<- this]
      exact ⟨_,rfl⟩
     ·have : (if md = true then D.str (one (ltr (c2 / 26)) ++ one (ltr (c2 % 26)) ++ Txt.mul (one pd) (s - 2)) else D.str (Txt.mul (one pd) (s - 2) ++ (one (ltr (c2 / 26)) ++ one (ltr (c2 % 26))))) = D.str (k0k pd md s c2):=by
       unfold k0k; rw [if_neg es]; split <;> rfl
      rw [this]
      exact ⟨_,rfl⟩
   ·have h1 : ¬ x = Str.ofString "":=fun z => hin (.inl z)
    have h2 : x ∉ nms:=fun z => hin (.inr z)
    refine j8c (.inl hF) h1 (fun z => h2 ((z5n nms x).mp z)) ?_
    have hmx:=hx.resolve_left h1
    refine ⟨q3o (n:=_ + 1) (by rw [List.length_map]; omega),hN _ ⟨cd,nms ++ [x],_,_,_,_,by rw [List.map_append]; rfl,d0,d1,by simp [hl],?_,fun y hy => ?_⟩⟩
    ·refine List.nodup_append.mpr ⟨hnd,List.pairwise_singleton _ _,fun u hu v hv e => ?_⟩
     rw [List.mem_singleton] at hv
     subst hv
     rw [e] at hu
     exact h2 hu
    ·rcases List.mem_append.mp hy with hy | hy
     ·exact hnm y hy
     ·rw [List.mem_singleton] at hy; rw [hy]; exact hmx
  ·walk_at "d"
   exact ⟨⟨by omega,Int.le_trans (b:=100) (by omega) (by decide)⟩,by decide,q5i (fun c => hr _ ⟨_,rfl,by split <;> omega,by split <;> omega⟩) fun c => hr _ ⟨_,rfl,by omega,by omega⟩⟩
 ·rintro ρ ⟨code,nms,o6,o7,o8,o9,rfl,hc0,hc1,hl,hnd,hnm⟩
  walk_at "d"
  refine ⟨a,mm,nms,rfl,rfl,?_,hnd,hnm⟩
  rw [hl]; simp
end
def WY : List Str:=["right","left","above","below","up","down"]
def InN (i : Int) : Prop:=0 <= i /\ i < 10 ^ 60
structure Bxs (w h : Int) (b : B4) : Prop where
 x0 : 0 <= b.1
 y0 : 0 <= b.2.1
 w1 : 1 <= b.2.2.1
 h1 : 1 <= b.2.2.2
 xw : b.1 + b.2.2.1 <= w
 yh : b.2.1 + b.2.2.2 <= h
theorem k9j {a b : Int} (h1 : -(2 ^ 64) < b) (h2 : b < 2 ^ 64) : j4y a b:=.inr ⟨h1,h2⟩
open TX
section
variable {P : Program} {w : World} {K : PySem.W.Frag} {mg : Str -> Option Value} {base : Heap} {t : Adr} {n : Nat}
def pre_q0n : List D -> Prop:=fun ds => ∃ (ns : List Int) (k : Int),ds = [.lst (ns.map .int),.int k] /\ 0 <= k /\ k < 1000
def post_q0n : List D -> D -> Prop:=fun _ d => ∃ i,d = .int i /\ 0 <= i
theorem ok_q0n (T : Txt K mg t) : q3d P w K mg base CX0 (n + 1) t.f_q0n t.d_q0n ["_law_script","_law_k"] (spD K [true,true] .v pre_q0n post_q0n):=by
 refine okD T.F_q0n sc_q0n rfl fun cdv A outer s H E hr => ⟨_,(q1i (q3z (q2n k7m (q1f 1) (PX.vb (q2c q4k rfl T.n_len PySem.boot_len (q2g (q1f 0) q1h))) (q2l _)) (q1m (q2s (by decide) (q1k q2q (PX.vb (q1k q5t (PX.vb (q1l (hu1 hr) (q1f 0) (q1f 1) (fun _ _ => rfl))) (PX.vb q1g))) (PX.vb q1g)))) q2w)
   (q1m (q2s (by decide) (q1k q2q (PX.vb (q1k q5t (PX.vb (q1k q5t (q1f 1) (q1f 1))) (PX.vb q1g))) (PX.vb q1g))))),fun vs ds hv hd hp => ?_⟩
 obtain ⟨ns,k,rfl,h0,h1⟩:=hp
 walk_at "d"
 refine q5i (fun c => ?_) (fun c => ?_)
 ·obtain ⟨x,e,_⟩:=k4o (xs:=ns) h0 (by simpa using c)
  rw [q4q,e]
  walk_at "d"
  first
   | exact ⟨k9j (by decide) (by decide),by decide,_,rfl,by omega⟩
   | exact ⟨k9j (by decide) (by decide),by decide,k9j (by decide) (by decide),by decide,_,rfl,by omega⟩
 ·refine ⟨k9j (by omega) (by omega),k9j (by decide) (by decide),by decide,_,rfl,by omega⟩
def pre_q0x : List D -> Prop:=fun ds => ∃ (a w h : Int),ds = [.int a,.int w,.int h] /\ 0 <= a /\ 1 <= w /\ w <= 20 /\ 1 <= h /\ h <= 20
def post_q0x : List D -> D -> Prop:=fun ds d => ∃ (a w h : Int) (bs : List B4),ds = [.int a,.int w,.int h] /\ d = .tup (bs.map q4c) /\ bs.length <= 4 /\ ∀ b ∈ bs,Bxs w h b
theorem ok_q0x (T : Txt K mg t) : q3d P w K mg base CX0 (n + 1) t.f_q0x t.d_q0x ["_law_number_here","_law_wide","_law_high"] (spD K [true,true,true] .v pre_q0x post_q0x):=by
 refine okD T.F_q0x sc_q0x rfl fun cdv A outer s H E hr => ⟨_,(q1i (q4a (i:=3) sc_q0x.nd rfl (Or.inl rfl) (q3k q1h))
   (q1i (q3b PassesOwn.never rfl (q2o rfl T.n_range (q1t (q1l (hu1 hr) (PX.nb (q3k (q1t q1g (q1t q1g (q1t q1g (q1t q1g q1h)))))) (PX.vb (q1k q2q (q1f 0) (PX.vb q1g))) (fun _ _ => rfl)) q1h)) (q1n (i:=4) sc_q0x.nd rfl (Or.inl rfl)) (q1i (q1u (i:=0) sc_q0x.nd rfl (Or.inl rfl) (q1k q2q (PX.vb (q1k q5t (PX.vb (q1k q1q (q1f 0) (PX.vb q1g))) (PX.vb q1g))) (PX.vb q1g)))
   (q1i (q1u (i:=5) sc_q0x.nd rfl (Or.inl rfl) (q1k q2q (q1f 0) (q1f 1)))
   (q1i (q1u (i:=6) sc_q0x.nd rfl (Or.inl rfl) (q1k q2q (PX.vb (q1k q2r (q1f 0) (PX.vb q1g))) (q1f 2)))
   (q1m (q3u (q5k 3 PySem.F.slot_list_append PySem.F.type_list_append q3s (q4i (q5n (q2v (q1t (q1o 5) (q1t (q1o 6) (q1t (q1k q1q (PX.vb q1g) (PX.vb (q1k q2q (PX.vb (q1k q2r (q1f 0) (PX.vb q1g))) (PX.vb (q2c (z2d rfl) rfl T.n_min PyProof.Rows.boot_min (q2g (PX.vb q1g) (q2g (PX.vb (q1k q4w (q1f 1) (q1f 5))) q1h))))))) (q1t (q1k q1q (PX.vb q1g) (PX.vb (q1k q2q (PX.vb (q1k q2r (q1f 0) (PX.vb q1g))) (PX.vb (q2c (z2d rfl) rfl T.n_min PyProof.Rows.boot_min (q2g (PX.vb q1g) (q2g (PX.vb (q1k q4w (q1f 2) (q1f 6))) q1h))))))) q1h)))))) q5m))))))))
   (q1m (q2s (by decide) (q7s z3a rfl T.n_tuple PySem.Pv.boot_tuple (q2g (q1f 3) q1h)))))),fun vs ds hv hd hp => ?_⟩
 obtain ⟨a,w,h,rfl,h0,h1,h2,h3,h4⟩:=hp
 walk_at "d"
 refine ⟨by decide,by decide,by decide,?_⟩
 obtain ⟨j,ej,hj0,hj4⟩ : ∃ j : Int,atI [D.int 0,D.int 1,D.int 2,D.int 4] (a % 4) = some (D.int j) /\ 0 <= j /\ j <= 4:=by
  have : a % 4 = 0 \/ a % 4 = 1 \/ a % 4 = 2 \/ a % 4 = 3:=by omega
  rcases this with e | e | e | e <;> rw [e]
  ·exact ⟨0,rfl,by decide,by decide⟩
  ·exact ⟨1,rfl,by decide,by decide⟩
  ·exact ⟨2,rfl,by decide,by decide⟩
  ·exact ⟨4,rfl,by decide,by decide⟩
 rw [ej]
 walk_at "d"
 refine ⟨⟨by omega,by omega⟩,?_⟩
 refine q1v (fun k ρ => ∃ (s : Sl) (n : Int) (bs : List B4) (o1 o2 o3 : Option Sl),ρ = [some s,some (.bor (hdV (tlV vs)) (.int w)),some (.bor (hdV (tlV (tlV vs))) (.int h)),some (.own (.lst (bs.map q4c))),o1,o2,o3] /\ s.val = .int n /\ bs.length = k /\ ∀ b ∈ bs,Bxs w h b) ?_ ?_ ?_
 ·exact ⟨_,a,[],_,_,_,rfl,rfl,rfl,by simp⟩
 ·rintro i d ρ N hd ⟨s,n,bs,o1,o2,o3,rfl,hs,hl,hb⟩ hN
  have hi : i < j.toNat:=by
   by_cases hi : i < j.toNat
   ·exact hi
   ·rw [List.getElem?_eq_none (by simpa using hi)] at hd; cases hd
  walk_at "d"
  simp only [hs]
  walk_at "d"
  generalize (n + 1) * 48271 % 2147483587 = u
  have x0:=Int.emod_nonneg u (show w ≠ 0 by omega)
  have x1:=Int.emod_lt_of_pos u (show 0 < w by omega)
  have y0:=Int.emod_nonneg (u / 20) (show h ≠ 0 by omega)
  have y1:=Int.emod_lt_of_pos (u / 20) (show 0 < h by omega)
  generalize u % w = x at x0 x1 ⊢
  generalize u / 20 % h = y at y0 y1 ⊢
  generalize hm : (if w - x < 3 then w - x else 3) = m
  generalize hm2 : (if h - y < 3 then h - y else 3) = m2
  have m1 : 0 < m /\ m <= w - x:=by rw [<- hm]; split <;> omega
  have m3 : 0 < m2 /\ m2 <= h - y:=by rw [<- hm2]; split <;> omega
  have z0:=Int.emod_nonneg (u / 400) (show m ≠ 0 by omega)
  have z1:=Int.emod_lt_of_pos (u / 400) (show 0 < m by omega)
  have v0:=Int.emod_nonneg (u / 2400) (show m2 ≠ 0 by omega)
  have v1:=Int.emod_lt_of_pos (u / 2400) (show 0 < m2 by omega)
  refine ⟨k9j (by decide) (by decide),by decide,by omega,⟨by decide,by decide⟩,by omega,⟨by decide,by decide⟩,m1.1,⟨by decide,by decide⟩,m3.1,by decide,q3o (n:=_ + 1) (by rw [List.length_map]; omega),?_⟩
  refine hN _ ⟨_,u,bs ++ [(x,y,1 + u / 400 % m,1 + u / 2400 % m2)],_,_,_,by rw [List.map_append]; rfl,rfl,by simp [hl],fun b hb' => ?_⟩
  rcases List.mem_append.mp hb' with hb' | hb'
  ·exact hb b hb'
  ·rw [List.mem_singleton] at hb'
   subst hb'
   exact ⟨x0,y0,by simp only; omega,by simp only; omega,by simp only; omega,by simp only; omega⟩
 ·rintro ρ ⟨s,n,bs,o1,o2,o3,rfl,hs,hl,hb⟩
  walk_at "d"
  refine ⟨a,w,h,bs,rfl,rfl,?_,hb⟩
  simp at hl
  omega
def q9g (i : Nat) : Str:=WY.getD i Str.empty
theorem j9g {j : Nat} (h : j < 6) : atI (WY.map D.str) (j : Int) = some (.str (q9g j)):=by
 rw [q4q]
 have : atI WY (j : Int) = some (q9g j):=q3j (by
  have : j < WY.length:=h
  unfold q9g
  rw [List.getElem?_eq_getElem this,List.getD_eq_getElem?_getD,List.getElem?_eq_getElem this]; rfl)
 rw [this]; rfl
theorem j9i {j : Nat} (h : j < 6) : q9g j ∈ WY:=by
 have e : ∀ j : Fin 6,q9g j.val ∈ WY:=by decide +kernel
 exact e ⟨j,h⟩
theorem j1d {f st m : Nat} (hf : f < 6) (hs : st = 1 \/ st = 5) (hm : m <= 6) : ((List.range m).map fun j => q9g ((f + j * st) % 6)).Nodup:=by
 have e1 : ∀ f : Fin 6,((List.range 6).map fun j => q9g ((f.val + j * 1) % 6)).Nodup:=by decide +kernel
 have e5 : ∀ f : Fin 6,((List.range 6).map fun j => q9g ((f.val + j * 5) % 6)).Nodup:=by decide +kernel
 have hsub : ((List.range m).map fun j => q9g ((f + j * st) % 6)).Sublist ((List.range 6).map fun j => q9g ((f + j * st) % 6)):=(List.range_sublist.mpr hm).map _
 refine hsub.nodup ?_
 rcases hs with rfl | rfl
 ·exact e1 ⟨f,hf⟩
 ·exact e5 ⟨f,hf⟩
def pre_q0o : List D -> Prop:=fun ds => ∃ (a m : Int),ds = [.int a,.int m] /\ 0 <= a /\ 1 <= m /\ m <= 6
def post_q0o : List D -> D -> Prop:=fun ds d => ∃ (a m : Int) (l : List (Str × Int)),ds = [.int a,.int m] /\ d = .tup (l.map q5s) /\ (l.length : Int) = m /\ l.length <= 6 /\ (∀ p ∈ l,p.1 ∈ WY /\ InN p.2) /\ (l.map (·.1)).Nodup
theorem ok_q0o (T : Txt K mg t) : q3d P w K mg base CX0 (n + 1) t.f_q0o t.d_q0o ["_law_number_here","_law_many"] (spD K [true,false] .v pre_q0o post_q0o):=by
 refine okD T.F_q0o sc_q0o rfl fun cdv A outer s H E hr => ⟨_,(q1i (q1u (i:=2) sc_q0o.nd rfl (Or.inl rfl) (PX.nv (q3k (q1t q2m (q1t q2m (q1t q2m (q1t q2m (q1t q2m (q1t q2m q1h)))))))))
   (q1i (q1u (i:=3) sc_q0o.nd rfl (Or.inl rfl) (q1k q2q (q1f 0) (PX.vb q1g)))
   (q1i (q1u (i:=4) sc_q0o.nd rfl (Or.inl rfl) (q1l (hu1 hr) (PX.nb (q3k (q1t q1g (q1t q1g q1h)))) (PX.vb (q1k q2q (PX.vb (q1k q2r (q1f 0) (PX.vb q1g))) (PX.vb q1g))) (fun _ _ => rfl)))
   (q1i (q4a (i:=5) sc_q0o.nd rfl (Or.inl rfl) (q3k q1h))
   (q1i (q3b PassesOwn.never rfl (q2o rfl T.n_range (q1t (q1o 1) q1h)) (q1n (i:=6) sc_q0o.nd rfl (Or.inl rfl)) (q1i (q1u (i:=0) sc_q0o.nd rfl (Or.inl rfl) (q1k q2q (PX.vb (q1k q5t (PX.vb (q1k q1q (q1f 0) (PX.vb q1g))) (PX.vb q1g))) (PX.vb q1g)))
   (q1i (q1u (i:=7) sc_q0o.nd rfl (Or.inl rfl) (q1k q2q (PX.vb (q1k q2r (q1f 0) (PX.vb q1g))) (PX.vb (q1l (hu1 hr) (PX.nb (q3k (q1t q1g (q1t q1g (q1t (q1k j7o (PX.vb q1g) (PX.vb q1g)) q1h))))) (PX.vb (q1k q2q (q1f 0) (PX.vb q1g))) (fun _ _ => rfl)))))
   (q1m (q3u (q5k 5 PySem.F.slot_list_append PySem.F.type_list_append q3s (q4i (q5n (q2v (q1t (q1l (hu1 hr) (q1f 2) (PX.vb (q1k q2q (PX.vb (q1k q1q (q1f 3) (PX.vb (q1k q5t (q1f 6) (q1f 4))))) (PX.vb q1g))) (fun _ _ => rfl)) (q1t (q1o 7) q1h)))) q5m)))))))
   (q1m (q2s (by decide) (q7s z3a rfl T.n_tuple PySem.Pv.boot_tuple (q2g (q1f 5) q1h))))))))),fun vs ds hv hd hp => ?_⟩
 obtain ⟨a,m,rfl,h0,h1,h2⟩:=hp
 walk_at "d"
 refine ⟨by decide,by decide,by decide,⟨by decide,by decide⟩,by decide,?_⟩
 obtain ⟨st,es,hst⟩ : ∃ st : Nat,atI [D.int 1,D.int 5] (a / 6 % 2) = some (D.int st) /\ (st = 1 \/ st = 5):=by
  have : a / 6 % 2 = 0 \/ a / 6 % 2 = 1:=by omega
  rcases this with e | e <;> rw [e]
  ·exact ⟨1,rfl,.inl rfl⟩
  ·exact ⟨5,rfl,.inr rfl⟩
 rw [es]
 walk_at "d"
 obtain ⟨f,ef,hf⟩ : ∃ f : Nat,a % 6 = f /\ f < 6:=⟨(a % 6).toNat,by omega,by omega⟩
 rw [ef]
 refine ⟨by decide,⟨by omega,by omega⟩,?_⟩
 refine q1v (fun k ρ => ∃ (s : Sl) (n : Int) (l : List (Str × Int)) (o1 o2 : Option Sl),ρ = [some s,some (.shr (.int m)),some (.shr (.lst (WY.map D.str))),some (.shr (.int f)),some (.shr (.int st)),some (.own (.lst (l.map q5s))),o1,o2] /\ s.val = .int n /\ l.map (·.1) = (List.range k).map (fun j => q9g ((f + j * st) % 6)) /\ ∀ p ∈ l,InN p.2) ?_ ?_ ?_
 ·exact ⟨_,a,[],_,_,rfl,rfl,rfl,by simp⟩
 ·rintro i d ρ N hd ⟨s,n,l,o1,o2,rfl,hs,hl,hb⟩ hN
  obtain ⟨hi,rfl⟩:=q5x hd
  walk_at "d"
  simp only [hs]
  walk_at "d"
  generalize (n + 1) * 16807 % 2147483587 = u
  obtain ⟨c,ec,hc0,hc1⟩ : ∃ c : Int,atI [D.int 10,D.int 1000,D.int (10 ^ Int.toNat 9)] (u % 3) = some (D.int c) /\ 0 < c /\ c <= 10 ^ 9:=by
   have : u % 3 = 0 \/ u % 3 = 1 \/ u % 3 = 2:=by omega
   rcases this with e | e | e <;> rw [e]
   ·exact ⟨10,rfl,by decide,by decide⟩
   ·exact ⟨1000,rfl,by decide,by decide⟩
   ·exact ⟨10 ^ 9,rfl,by decide,by decide⟩
  rw [ec]
  walk_at "d"
  have ew : ((f : Int) + (0 + (i : Int)) * (st : Int)) % 6 = (((f + i * st) % 6 : Nat) : Int):=by
   rw [Int.zero_add]; simp
  rw [ew,j9g (Nat.mod_lt _ (by decide))]
  walk_at "d"
  have p0:=Int.emod_nonneg (u / 8) (show c ≠ 0 by omega)
  have p1:=Int.emod_lt_of_pos (u / 8) hc0
  have hll : l.length = i:=by
   have:=congrArg List.length hl
   simpa using this
  refine ⟨k9j (by decide) (by decide),by decide,⟨by decide,by decide⟩,⟨by decide,by decide,by decide⟩,by decide,by decide,hc0,k9j (by omega) (by omega),by decide,by decide,q3o (n:=_ + 1) (by rw [List.length_map]; omega),?_⟩
  refine hN _ ⟨_,u,l ++ [(q9g ((f + i * st) % 6),u / 8 % c)],_,_,by rw [List.map_append]; rfl,rfl,?_,fun p hp => ?_⟩
  ·rw [List.map_append,hl,List.range_succ,List.map_append]; rfl
  ·rcases List.mem_append.mp hp with hp | hp
   ·exact hb p hp
   ·rw [List.mem_singleton] at hp
    subst hp
    exact ⟨p0,Int.lt_of_lt_of_le p1 (Int.le_trans hc1 (by decide))⟩
 ·rintro ρ ⟨s,n,l,o1,o2,rfl,hs,hl,hb⟩
  walk_at "d"
  have hlen : l.length = m.toNat:=by
   have:=congrArg List.length hl
   simpa using this
  refine ⟨a,m,l,rfl,rfl,by omega,by omega,fun p hp => ⟨?_,hb p hp⟩,?_⟩
  ·have : p.1 ∈ l.map (·.1):=List.mem_map_of_mem hp
   rw [hl] at this
   obtain ⟨j,hj,e⟩:=List.mem_map.mp this
   rw [<- e]
   exact j9i (Nat.mod_lt _ (by decide))
  ·rw [hl]
   have e : (List.map (fun (k : Nat) => D.int (0 + (k : Int))) (List.range m.toNat)).length = m.toNat:=by simp
   rw [e]
   exact j1d hf hst (by omega)
end
open TX
abbrev Cel:=Int × Int
def q2x (c : Cel) : D:=.tup [.int c.1,.int c.2]
theorem q5g (c : Cel) : q2x c = .tup [.int c.1,.int c.2]:=rfl
def inB (b : B4) (c : Cel) : Prop:=b.1 <= c.1 /\ c.1 < b.1 + b.2.2.1 /\ b.2.1 <= c.2 /\ c.2 < b.2.1 + b.2.2.2
def k4v (b : B4) (j : Nat) : List Cel:=(List.range b.2.2.1.toNat).map fun (i : Nat) => (b.1 + (i : Int),b.2.1 + (j : Int))
def q3h (b : B4) : List Cel:=(List.range b.2.2.2.toNat).flatMap (k4v b)
theorem q4r {b : B4} {c : Cel} : c ∈ q3h b ↔ inB b c:=by
 unfold q3h k4v inB
 rw [List.mem_flatMap]
 constructor
 ·rintro ⟨j,hj,hc⟩
  obtain ⟨i,hi,rfl⟩:=List.mem_map.mp hc
  rw [List.mem_range] at hi hj
  dsimp only
  omega
 ·rintro ⟨h1,h2,h3,h4⟩
  refine ⟨(c.2 - b.2.1).toNat,List.mem_range.mpr (by omega),List.mem_map.mpr ⟨(c.1 - b.1).toNat,List.mem_range.mpr (by omega),?_⟩⟩
  refine Prod.ext ?_ ?_ <;> dsimp only <;> omega
theorem z2h (b : B4) : ∀ l : List Nat,(l.flatMap (k4v b)).length = l.length * b.2.2.1.toNat
 | [] => by simp
 | a :: r => by
  rw [List.flatMap_cons,List.length_append,z2h b r,List.length_cons,Nat.succ_mul]
  unfold k4v
  rw [List.length_map,List.length_range]
  omega
def q1r (b : B4) : List Cel:=(List.range (b.2.2.1 * b.2.2.2).toNat).map fun (k : Nat) => (b.1 + (k : Int) % b.2.2.1,b.2.1 + (k : Int) / b.2.2.1)
theorem q2p {b : B4} (h : z4d b) {c : Cel} : c ∈ q1r b ↔ inB b c:=by
 obtain ⟨x,y,w,v⟩:=b
 obtain ⟨hw,hv⟩:=h
 dsimp only at hw hv
 unfold q1r inB
 dsimp only
 rw [List.mem_map]
 constructor
 ·rintro ⟨k,hk,rfl⟩
  rw [List.mem_range] at hk
  have h1:=Int.emod_nonneg (k : Int) (show w ≠ 0 by omega)
  have h2:=Int.emod_lt_of_pos (k : Int) (show 0 < w by omega)
  have h3 : 0 <= (k : Int) / w:=Int.ediv_nonneg (by omega) (by omega)
  have h4 : (k : Int) / w < v:=Int.ediv_lt_of_lt_mul (by omega) (by rw [Int.mul_comm]; omega)
  dsimp only
  omega
 ·rintro ⟨h1,h2,h3,h4⟩
  obtain ⟨i,hi⟩ : ∃ i : Nat,c.1 = x + (i : Int):=⟨(c.1 - x).toNat,by omega⟩
  obtain ⟨j,hj⟩ : ∃ j : Nat,c.2 = y + (j : Int):=⟨(c.2 - y).toNat,by omega⟩
  have hiw : (i : Int) < w:=by omega
  have hjv : (j : Int) < v:=by omega
  have hm : (((w * (j : Int) + (i : Int)).toNat : Nat) : Int) = w * (j : Int) + (i : Int):=Int.toNat_of_nonneg (Int.add_nonneg (Int.mul_nonneg (by omega) (by omega)) (by omega))
  have hlt : w * (j : Int) + (i : Int) < w * v:=by
   have : w * ((j : Int) + 1) <= w * v:=Int.mul_le_mul_of_nonneg_left (by omega) (by omega)
   rw [Int.mul_add] at this
   omega
  refine ⟨(w * (j : Int) + (i : Int)).toNat,List.mem_range.mpr (by omega),?_⟩
  rw [hm]
  have e1 : (w * (j : Int) + (i : Int)) % w = i:=by
   rw [Int.add_comm,Int.add_mul_emod_self_left,Int.emod_eq_of_lt (by omega) hiw]
  have e2 : (w * (j : Int) + (i : Int)) / w = j:=by
   rw [Int.add_comm,Int.add_mul_ediv_left _ _ (by omega),Int.ediv_eq_zero_of_lt (by omega) hiw]; omega
  rw [e1,e2]
  exact Prod.ext hi.symm hj.symm
structure TB {α : Type} (kc : α -> List Key) (ks : List (List Key)) (vs : List D) (g : α -> Option D) (n : Nat) : Prop where
 len : ks.length = vs.length
 at' : ∀ a,q3m ks vs (kc a) = g a
 sz : vs.length <= n
theorem z0i (k : List Key) (d : D) : ∀ {ks : List (List Key)} {vs : List D},ks.length = vs.length -> (z0t ks vs k d).length = vs.length
 | [],[],_ => rfl
 | _ :: _,_ :: _,h => by
  simp only [List.length_cons,Nat.add_right_cancel_iff] at h
  simp only [z0t,List.length_cons,z0i k d h]
 | [],_ :: _,h => by simp at h
 | _ :: _,[],h => by simp at h
theorem z7m {k k' : List Key} {d : D} : ∀ {ks : List (List Key)} {vs : List D},ks.length = vs.length -> k ∈ ks -> q3m ks (z0t ks vs k d) k' = if k' = k then some d else q3m ks vs k'
 | [],_,_,h => by cases h
 | a :: ks,v :: vs,hl,h => by
  simp only [List.length_cons,Nat.add_right_cancel_iff] at hl
  simp only [z0t,q3m]
  by_cases e : a = k'
  ·subst e
   by_cases e2 : a = k
   ·simp [e2]
   ·simp [e2]
  ·rw [if_neg e,if_neg e]
   by_cases hm : k ∈ ks
   ·exact z7m hl hm
   ·have ek : k = a:=by
     rcases List.mem_cons.mp h with h | h
     ·exact h
     ·exact absurd h hm
    subst ek
    rw [if_neg (fun z => e z.symm)]
    have : ∀ {ks : List (List Key)} {vs : List D},ks.length = vs.length -> k ∉ ks -> z0t ks vs k d = vs:=by
     intro ks
     induction ks with
     | nil => intro vs hl _; cases vs with | nil => rfl | cons _ _ => simp at hl
     | cons b r ih =>
      intro vs hl hn
      cases vs with
      | nil => simp at hl
      | cons u q =>
       simp only [List.length_cons,Nat.add_right_cancel_iff] at hl
       simp only [List.mem_cons,not_or] at hn
       simp only [z0t]
       rw [if_neg (fun z => hn.1 z.symm),ih hl hn.2]
    rw [this hl hm]
 | _ :: _,[],hl,_ => by simp at hl
theorem z8j {k k' : List Key} {d : D} : ∀ {ks : List (List Key)} {vs : List D},ks.length = vs.length -> k ∉ ks -> q3m (ks ++ [k]) (vs ++ [d]) k' = if k' = k then some d else q3m ks vs k'
 | [],[],_,_ => by
  show (if k = k' then some d else none) = _
  by_cases e : k' = k
  ·rw [if_pos e,if_pos e.symm]
  ·rw [if_neg e,if_neg (fun z => e z.symm)]; rfl
 | a :: ks,v :: vs,hl,h => by
  simp only [List.length_cons,Nat.add_right_cancel_iff] at hl
  simp only [List.mem_cons,not_or] at h
  simp only [List.cons_append,q3m]
  by_cases e : a = k'
  ·subst e
   rw [if_pos rfl,if_pos rfl,if_neg (fun z => h.1 z.symm)]
  ·rw [if_neg e,if_neg e]
   exact z8j hl h.2
 | [],_ :: _,h,_ => by simp at h
 | _ :: _,[],h,_ => by simp at h
theorem TB.put {α : Type} [DecidableEq α] {kc : α -> List Key} (hi : ∀ a b,kc a = kc b -> a = b) {ks : List (List Key)} {vs : List D} {g : α -> Option D} {n : Nat} (t : TB kc ks vs g n) (a : α) (d : D) :
  TB kc (q7b ks (kc a)) (q6j ks vs (kc a) d) (fun b => if b = a then some d else g b) (n + 1):=by
 have hl:=t.len
 have hs:=t.sz
 have e : ∀ b,(if kc b = kc a then some d else q3m ks vs (kc b)) = if b = a then some d else g b:=fun b => by
  by_cases z : b = a
  ·rw [if_pos z,if_pos (by rw [z])]
  ·rw [if_neg z,if_neg (fun y => z (hi _ _ y)),t.at']
 unfold q7b q6j
 by_cases h : kc a ∈ ks
 ·rw [if_pos h,if_pos h]
  exact ⟨by rw [z0i _ _ hl]; exact hl,fun b => by rw [z7m hl h]; exact e b,by rw [z0i _ _ hl]; omega⟩
 ·rw [if_neg h,if_neg h]
  exact ⟨by simp [hl],fun b => by rw [z8j hl h]; exact e b,by simp; omega⟩
theorem TB.new {α : Type} (kc : α -> List Key) : TB kc [] [] (fun _ => none) 0:=⟨rfl,fun _ => rfl,Nat.le_refl _⟩
theorem TB.as {α : Type} {kc : α -> List Key} {ks : List (List Key)} {vs : List D} {g g' : α -> Option D} {n n' : Nat} (t : TB kc ks vs g n) (h : ∀ a,g a = g' a) (hn : n <= n') : TB kc ks vs g' n':=⟨t.len,fun a => by rw [t.at',h],Nat.le_trans t.sz hn⟩
def kC (c : Cel) : List Key:=[.inl c.1,.inl c.2]
theorem z8h : ∀ a b : Cel,kC a = kC b -> a = b:=fun a b h => by
 unfold kC at h
 simp only [List.cons.injEq,Sum.inl.injEq,and_true] at h
 exact Prod.ext h.1 h.2
section
variable {P : Program} {w : World} {K : PySem.W.Frag} {mg : Str -> Option Value} {base : Heap} {t : Adr} {n : Nat}
structure SmB (b : B4) : Prop where
 w1 : 1 <= b.2.2.1
 w2 : b.2.2.1 <= 20
 h1 : 1 <= b.2.2.2
 h2 : b.2.2.2 <= 20
 x1 : -100 <= b.1
 x2 : b.1 <= 100
 y1 : -100 <= b.2.1
 y2 : b.2.1 <= 100
theorem SmB.pos {b : B4} (h : SmB b) : z4d b:=⟨h.w1,h.h1⟩
def pre_q0p : List D -> Prop:=fun ds => ∃ b : B4,ds = [q4c b] /\ SmB b
def post_q0p : List D -> D -> Prop:=fun ds d => ∃ b : B4,ds = [q4c b] /\ d = .lst ((q3h b).map q2x)
theorem ok_q0p (T : Txt K mg t) : q3d P w K mg base CX0 (n + 1) t.f_q0p t.d_q0p ["box"] (spD K [true] .n pre_q0p post_q0p):=by
 refine okD T.F_q0p sc_q0p rfl fun cdv A outer s H E hr => ⟨_,(q1i (q4a (i:=1) sc_q0p.nd rfl (Or.inl rfl) (q3k q1h))
   (q1i (q3b PassesOwn.never rfl (q9p rfl T.n_range (q1t (q1l (hu1 hr) (q1f 0) (PX.vb q1g) (fun _ _ => rfl)) (q1t (q1k q1q (PX.vb (q1l (hu1 hr) (q1f 0) (PX.vb q1g) (fun _ _ => rfl))) (PX.vb (q1l (hu1 hr) (q1f 0) (PX.vb q1g) (fun _ _ => rfl)))) q1h))) (q1n (i:=2) sc_q0p.nd rfl (Or.inr rfl)) (q1m (q3u (z7q 1 PySem.F.slot_list_extend PySem.F.type_list_extend (q5b (osc:=q1j s_q0p) (N:=["box","cells","y"]) ["x","y"] [none,some 2] ⟨rfl,by decide +kernel,by decide +kernel,by decide +kernel,rfl,by decide +kernel⟩ (PIX.c (q9p rfl T.n_range (q1t (q1l (hu1 hr) (q1f 0) (PX.vb q1g) (fun _ _ => rfl)) (q1t (q1k q1q (PX.vb (q1l (hu1 hr) (q1f 0) (PX.vb q1g) (fun _ _ => rfl))) (PX.vb (q1l (hu1 hr) (q1f 0) (PX.vb q1g) (fun _ _ => rfl)))) q1h)))) (fun b => (q1n (i:=0) (show (["x","y"] : List Str).Nodup by decide +kernel) rfl (Or.inl rfl))) (fun b => q5c) (fun b => (q2v (q1t (q1o 0) (q1t (q1o 1) q1h)))))))))
   (q1m (q4z (i:=1))))),fun vs ds hv hd hp => ?_⟩
 obtain ⟨b,rfl,h1,h2,h3,h4,x1,x2,y1,y2⟩:=hp
 have ps : post_q0p [q4c b] (.lst ((q3h b).map q2x)):=⟨b,rfl,rfl⟩
 have eb : q4c b = .tup [.int b.1,.int b.2.1,.int b.2.2.1,.int b.2.2.2]:=rfl
 rw [eb] at ps ⊢
 walk_at "d"
 refine ⟨by decide,⟨by omega,by omega,by omega,by omega⟩,?_⟩
 refine q1v (fun k ρ => ∃ (o2 : Option Sl),ρ = [some (.bor (hdV vs) (.tup [.int b.1,.int b.2.1,.int b.2.2.1,.int b.2.2.2])),some (.own (.lst (((List.range k).flatMap (k4v b)).map q2x))),o2]) ?_ ?_ ?_
 ·exact ⟨_,rfl⟩
 ·rintro i d ρ N hd ⟨o2,rfl⟩ hN
  obtain ⟨hi,rfl⟩:=q5x hd
  walk_at "d"
  have hlr:=z2h b (List.range i)
  rw [List.length_range] at hlr
  have hil : i * b.2.2.1.toNat <= 20 * 20:=Nat.mul_le_mul (by omega) (by omega)
  refine ⟨⟨by omega,by omega,by omega,by omega⟩,q3o (by rw [List.length_map,List.length_range]; omega),fun _ => ?_⟩
  refine q3f (fun (k : Nat) => q2x (b.1 + (k : Int),b.2.1 + (i : Int))) (fun k hk c hc => ?_) ?_
  ·walk_at "d"
   exact ⟨by decide,hc⟩
  ·have e1 : (b.1 + b.2.2.1 - b.1).toNat = b.2.2.1.toNat:=by omega
   rw [e1]
   have e2 : List.map q2x (List.flatMap (k4v b) (List.range i)) ++ List.map (fun (k : Nat) => q2x (b.1 + (k : Int),b.2.1 + (i : Int))) (List.range b.2.2.1.toNat) = List.map q2x (List.flatMap (k4v b) (List.range (i + 1))):=by
    rw [List.range_succ,List.flatMap_append,List.map_append]
    unfold k4v
    simp [List.map_map,Function.comp_def]
   rw [e2]
   refine ⟨q3o (by rw [List.length_map,List.length_map,List.length_range,hlr]; omega),hN _ ⟨_,rfl⟩⟩
 ·rintro ρ ⟨o2,rfl⟩
  walk_at "d"
  rw [List.length_map,List.length_range,show (b.2.1 + b.2.2.2 - b.2.1).toNat = b.2.2.2.toNat by omega]
  exact ps
end
open TX
theorem q5y {a b : B4} (ha : z4d a) (hb : z4d b) : q5d a b = true ↔ ∃ c,inB a c /\ inB b c:=by
 obtain ⟨x,y,n,m⟩:=a
 obtain ⟨u,v,k,l⟩:=b
 obtain ⟨h1,h2⟩:=ha
 obtain ⟨h3,h4⟩:=hb
 simp only at h1 h2 h3 h4
 unfold q5d k8i inB
 simp only [Bool.and_eq_true,decide_eq_true_eq]
 constructor
 ·rintro ⟨z1,z2⟩
  exact ⟨(max x u,max y v),⟨by dsimp only; omega,by dsimp only; omega,by dsimp only; omega,by dsimp only; omega⟩,by dsimp only; omega,by dsimp only; omega,by dsimp only; omega,by dsimp only; omega⟩
 ·rintro ⟨⟨c1,c2⟩,z1,z2⟩
  dsimp only at z1 z2
  omega
theorem z8c (q : Pt) : z4d (cellOf q):=⟨Int.le_refl 1,Int.le_refl 1⟩
def w0m (p : q2k) (c : Cel) : Prop:=(∃ b ∈ p.kept,inB b c) \/ ∃ q ∈ p.pts,c = (q.x,q.y)
theorem q8l {p : q2k} (ok : OkP p) {b : B4} (hb : z4d b) : q3r p b = true ↔ ∀ c,inB b c -> (0 <= c.1 /\ c.1 < p.wide /\ 0 <= c.2 /\ c.2 < p.high) /\ ¬ w0m p c:=by
 unfold q3r
 rw [Bool.and_eq_true,List.all_eq_true]
 have hl : q9d b p.wide p.high = true ↔ ∀ c,inB b c -> 0 <= c.1 /\ c.1 < p.wide /\ 0 <= c.2 /\ c.2 < p.high:=by
  obtain ⟨x,y,n,m⟩:=b
  obtain ⟨h1,h2⟩:=hb
  simp only at h1 h2
  unfold q9d inB
  simp only [Bool.and_eq_true,decide_eq_true_eq]
  constructor
  ·rintro h ⟨c1,c2⟩ z
   dsimp only at z ⊢
   omega
  ·intro h
   have a1:=h (x,y) (by dsimp only; omega)
   have a2:=h (x + n - 1,y + m - 1) (by dsimp only; omega)
   dsimp only at a1 a2
   omega
 have hk : (∀ c ∈ z9w p,(!q5d b c.2) = true) ↔ ∀ c,inB b c -> ¬ w0m p c:=by
  have e:=k0f p
  have e2 : (∀ c ∈ z9w p,(!q5d b c.2) = true) ↔ ∀ z ∈ (z9w p).map (·.2),(!q5d b z) = true:=by
   constructor
   ·intro h z hz
    obtain ⟨c,hc,rfl⟩:=List.mem_map.mp hz
    exact h c hc
   ·intro h c hc
    exact h _ (List.mem_map_of_mem hc)
  rw [e2,e]
  constructor
  ·rintro h c hc (⟨k,hk,hkc⟩ | ⟨q,hq,rfl⟩)
   ·have:=h k (List.mem_append_right _ hk)
    rw [(q5y hb (ok.kp k hk)).mpr ⟨c,hc,hkc⟩] at this
    cases this
   ·have:=h (cellOf q) (List.mem_append_left _ (List.mem_map_of_mem hq))
    rw [(q5y hb (b:=cellOf q) (z8c q)).mpr ⟨_,hc,by unfold inB cellOf; dsimp only; omega⟩] at this
    cases this
  ·intro h z hz
   rw [Bool.not_eq_true',<- Bool.not_eq_true]
   intro hm
   rcases List.mem_append.mp hz with hz | hz
   ·obtain ⟨q,hq,rfl⟩:=List.mem_map.mp hz
    obtain ⟨c,h1,h2⟩:=(q5y hb (b:=cellOf q) (z8c q)).mp hm
    refine h c h1 (.inr ⟨q,hq,?_⟩)
    unfold inB cellOf at h2
    dsimp only at h2
    exact Prod.ext (by dsimp only; omega) (by dsimp only; omega)
   ·obtain ⟨c,h1,h2⟩:=(q5y hb (ok.kp z hz)).mp hm
    exact h c h1 (.inl ⟨z,hz,h2⟩)
 rw [hl,hk]
 constructor
 ·intro h c hc
  exact ⟨h.1 c hc,h.2 c hc⟩
 ·intro h
  exact ⟨fun c hc => (h c hc).1,fun c hc => (h c hc).2⟩
section
variable {P : Program} {w : World} {K : PySem.W.Frag} {mg : Str -> Option Value} {base : Heap} {t : Adr} {n : Nat}
def WYS : List Str:=[Str.ofString "right",Str.ofString "left",Str.ofString "above",Str.ofString "below",Str.ofString "up",Str.ofString "down"]
theorem z1j : ∀ (ps : List (Key × D)) (ks : List Key) (ds : List D),(ks ++ ps.map (·.1)).Nodup -> ps.foldl (fun acc p => (q7k acc.1 p.1,q6z acc.1 acc.2 p.1 p.2)) (ks,ds) = (ks ++ ps.map (·.1),ds ++ ps.map (·.2))
 | [],ks,ds,_ => by simp
 | p :: r,ks,ds,h => by
  have hn : p.1 ∉ ks:=fun z => by
   rw [List.nodup_append] at h
   exact h.2.2 _ z _ (List.mem_map_of_mem List.mem_cons_self) rfl
  rw [List.foldl_cons]
  have e1 : q7k ks p.1 = ks ++ [p.1]:=if_neg hn
  have e2 : q6z ks ds p.1 p.2 = ds ++ [p.2]:=if_neg hn
  show r.foldl _ (q7k ks p.1,q6z ks ds p.1 p.2) = _
  rw [e1,e2,z1j r (ks ++ [p.1]) (ds ++ [p.2]) (by simpa using h)]
  simp
theorem k0n {ps : List (Key × D)} (h : (ps.map (·.1)).Nodup) : z4c ps = (ps.map (·.1),ps.map (·.2)):=by
 unfold z4c
 rw [z1j ps [] [] (by simpa using h)]
 simp
theorem k5h (a b c d e f : D) {w : Str} (hw : w ∈ WYS) : q5u (WYS.map Sum.inr) [a,b,c,d,e,f] (Sum.inr w) = some (if w = Str.ofString "right" then a else if w = Str.ofString "left" then b else if w = Str.ofString "above" then c else if w = Str.ofString "below" then d else if w = Str.ofString "up" then e else f):=by
 have n1 : ∀ u v : Str,u ≠ v -> (Sum.inr u : Key) ≠ Sum.inr v:=fun u v h z => h (Sum.inr.inj z)
 simp only [WYS,List.map_cons,List.map_nil,q5u,Sum.inr.injEq]
 unfold WYS at hw
 simp only [List.mem_cons,List.not_mem_nil,or_false] at hw
 rcases hw with rfl | rfl | rfl | rfl | rfl | rfl
 ·rw [if_pos rfl,if_pos rfl]
 ·rw [if_neg (by decide +kernel),if_pos rfl,if_neg (by decide +kernel),if_pos rfl]
 ·rw [if_neg (by decide +kernel),if_neg (by decide +kernel),if_pos rfl,if_neg (by decide +kernel),if_neg (by decide +kernel),if_pos rfl]
 ·rw [if_neg (by decide +kernel),if_neg (by decide +kernel),if_neg (by decide +kernel),if_pos rfl,if_neg (by decide +kernel),if_neg (by decide +kernel),if_neg (by decide +kernel),if_pos rfl]
 ·rw [if_neg (by decide +kernel),if_neg (by decide +kernel),if_neg (by decide +kernel),if_neg (by decide +kernel),if_pos rfl,if_neg (by decide +kernel),if_neg (by decide +kernel),if_neg (by decide +kernel),if_neg (by decide +kernel),if_pos rfl]
 ·rw [if_neg (by decide +kernel),if_neg (by decide +kernel),if_neg (by decide +kernel),if_neg (by decide +kernel),if_neg (by decide +kernel),if_pos rfl,if_neg (by decide +kernel),if_neg (by decide +kernel),if_neg (by decide +kernel),if_neg (by decide +kernel),if_neg (by decide +kernel)]
theorem j4b (a b c d e f : D) :
  z4c [((Sum.inr (Str.ofString "right") : Key),a),(Sum.inr (Str.ofString "left"),b),(Sum.inr (Str.ofString "above"),c)] = ((WYS.take 3).map Sum.inr,[a,b,c]) ∧
  q7k ((WYS.take 3).map Sum.inr) (Sum.inr (Str.ofString "below")) = (WYS.take 4).map Sum.inr /\ q6z ((WYS.take 3).map Sum.inr) [a,b,c] (Sum.inr (Str.ofString "below")) d = [a,b,c,d] ∧
  q7k ((WYS.take 4).map Sum.inr) (Sum.inr (Str.ofString "up")) = (WYS.take 5).map Sum.inr /\ q6z ((WYS.take 4).map Sum.inr) [a,b,c,d] (Sum.inr (Str.ofString "up")) e = [a,b,c,d,e] ∧
  q7k ((WYS.take 5).map Sum.inr) (Sum.inr (Str.ofString "down")) = WYS.map Sum.inr /\ q6z ((WYS.take 5).map Sum.inr) [a,b,c,d,e] (Sum.inr (Str.ofString "down")) f = [a,b,c,d,e,f]:=by
 refine ⟨k0n (show ([Sum.inr (Str.ofString "right"),Sum.inr (Str.ofString "left"),Sum.inr (Str.ofString "above")] : List Key).Nodup by decide +kernel),?_,?_,?_,?_,?_,?_⟩
 ·exact if_neg (by decide +kernel)
 ·exact if_neg (by decide +kernel)
 ·exact if_neg (by decide +kernel)
 ·exact if_neg (by decide +kernel)
 ·exact if_neg (by decide +kernel)
 ·exact if_neg (by decide +kernel)
def pre_q1b : List D -> Prop:=fun ds => ∃ (w : Str) (x y m : Int),ds = [.str w,.int x,.int y,.int m] /\ w ∈ WYS
def post_q1b : List D -> D -> Prop:=fun ds d => ∃ (w : Str) (x y m : Int),ds = [.str w,.int x,.int y,.int m] /\ d = q4c (q7j w x y m)
theorem ok_q1b (T : Txt K mg t) : q3d P w K mg base CX0 (n + 1) t.f_q1b t.d_q1b ["_law_way","_law_x","_law_y","_law_size"] (spD K [true,false,false,false] .v pre_q1b post_q1b):=by
 refine okD T.F_q1b sc_q1b rfl fun cdv A outer s H E hr => ⟨_,(q1i (q1u (i:=4) sc_q1b.nd rfl (Or.inl rfl) (q1k q4w (q1f 1) (PX.vb (q1k q2r (PX.vb (q1k q4w (q1f 3) (PX.vb q1g))) (PX.vb q1g)))))
   (q1i (q4a (i:=5) sc_q1b.nd rfl (Or.inl rfl) (j2c (z3m q2m (q2v (q1t (q1k q1q (q1f 1) (PX.vb q1g)) (q1t (q1o 2) (q1t (q1o 3) (q1t q1g q1h))))) (z3m q2m (q2v (q1t (q1k q4w (q1f 1) (q1f 3)) (q1t (q1o 2) (q1t (q1o 3) (q1t q1g q1h))))) (z3m q2m (q2v (q1t (q1o 4) (q1t (q1k q4w (q1f 2) (PX.vb q1g)) (q1t (q1o 3) (q1t q1g q1h))))) j3w)))))
   (q1i (z2k 5 (hu1 hr) (PX.vb q2m) (q2v (q1t (q1o 4) (q1t (q1k q1q (q1f 2) (PX.vb q1g)) (q1t (q1o 3) (q1t q1g q1h))))))
   (q1i (z2k 5 (hu1 hr) (PX.vb q2m) (q2v (q1t (q1o 1) (q1t (q1k q4w (q1f 2) (q1f 3)) (q1t q1g (q1t (q1o 3) q1h))))))
   (q1i (z2k 5 (hu1 hr) (PX.vb q2m) (q2v (q1t (q1o 1) (q1t (q1k q1q (q1f 2) (PX.vb q1g)) (q1t q1g (q1t (q1o 3) q1h))))))
   (q1m (q2s (by decide) (q1l (hu1 hr) (q1f 5) (q1f 0) (fun _ _ => rfl))))))))),fun vs ds hv hd hp => ?_⟩
 obtain ⟨w,x,y,m,rfl,hw⟩:=hp
 walk_at "d"
 obtain ⟨s1,s2,s3,s4,s5,s6,s7⟩:=j4b (.tup [.int (x + 1),.int y,.int m,.int 1]) (.tup [.int (x - m),.int y,.int m,.int 1]) (.tup [.int (x - (m - 1) / 2),.int (y - 1),.int m,.int 1]) (.tup [.int (x - (m - 1) / 2),.int (y + 1),.int m,.int 1]) (.tup [.int x,.int (y - m),.int 1,.int m]) (.tup [.int x,.int (y + 1),.int 1,.int m])
 rw [s1]
 dsimp only
 rw [s2,s3,s4,s5,s6,s7,k5h _ _ _ _ _ _ hw]
 refine ⟨⟨by decide,by decide⟩,by decide,by decide,by decide,by decide,by decide,(show 3 < sizeLine by decide),by decide,(show 4 < sizeLine by decide),by decide,(show 5 < sizeLine by decide),w,x,y,m,rfl,?_⟩
 unfold q7j
 repeat' split
 all_goals rfl
def pre_q0s : List D -> Prop:=fun ds => ∃ b : B4,ds = [q4c b] /\ SmB b
def post_q0s : List D -> D -> Prop:=fun ds d => ∃ b : B4,ds = [q4c b] /\ d = .lst ((q1r b).map q2x)
theorem ok_q0s (T : Txt K mg t) : q3d P w K mg base CX0 (n + 1) t.f_q0s t.d_q0s ["_law_box_here"] (spD K [true] .n pre_q0s post_q0s):=by
 refine okD T.F_q0s sc_q0s rfl fun cdv A outer s H E hr => ⟨_,(q1m (q2s (by decide) (q5b (osc:=q1j s_q0s) (N:=["_law_box_here"]) ["_law_k","_law_box_here"] [none,some 0] ⟨rfl,by decide +kernel,by decide +kernel,by decide +kernel,rfl,by decide +kernel⟩ (PIX.c (q2o rfl T.n_range (q1t (q1k q5t (PX.vb (q1l (hu1 hr) (q1f 0) (PX.vb q1g) (fun _ _ => rfl))) (PX.vb (q1l (hu1 hr) (q1f 0) (PX.vb q1g) (fun _ _ => rfl)))) q1h))) (fun b => (q1n (i:=0) (show (["_law_k","_law_box_here"] : List Str).Nodup by decide +kernel) rfl (Or.inl rfl))) (fun b => q5c) (fun b => (q2v (q1t (q1k q1q (PX.vb (q1l (hu1 hr) (q1f 1) (PX.vb q1g) (fun _ _ => rfl))) (PX.vb (q1k q2q (q1f 0) (PX.vb (q1l (hu1 hr) (q1f 1) (PX.vb q1g) (fun _ _ => rfl)))))) (q1t (q1k q1q (PX.vb (q1l (hu1 hr) (q1f 1) (PX.vb q1g) (fun _ _ => rfl))) (PX.vb (q1k q2r (q1f 0) (PX.vb (q1l (hu1 hr) (q1f 1) (PX.vb q1g) (fun _ _ => rfl)))))) q1h))))))),fun vs ds hv hd hp => ?_⟩
 obtain ⟨b,rfl,h1,h2,h3,h4,x1,x2,y1,y2⟩:=hp
 have ps : post_q0s [q4c b] (.lst ((q1r b).map q2x)):=⟨b,rfl,rfl⟩
 have eb : q4c b = .tup [.int b.1,.int b.2.1,.int b.2.2.1,.int b.2.2.2]:=rfl
 have hwh : b.2.2.1 * b.2.2.2 <= 20 * 20:=Int.mul_le_mul h2 h4 (by omega) (by decide)
 have hwh0 : 0 <= b.2.2.1 * b.2.2.2:=Int.mul_nonneg (by omega) (by omega)
 rw [eb] at ps ⊢
 walk_at "d"
 refine ⟨.inl ⟨by omega,by omega⟩,⟨by omega,by omega⟩,q3o (by rw [List.length_map,List.length_range]; omega),fun _ => ?_⟩
 refine q3f (fun (k : Nat) => q2x (b.1 + (0 + (k : Int)) % b.2.2.1,b.2.1 + (0 + (k : Int)) / b.2.2.1)) (fun k hk c hc => ?_) ?_
 ·walk_at "d"
  exact ⟨by omega,⟨by omega,by omega⟩,by decide,hc⟩
 ·have e : List.map (fun (k : Nat) => q2x (b.1 + (0 + (k : Int)) % b.2.2.1,b.2.1 + (0 + (k : Int)) / b.2.2.1)) (List.range (b.2.2.1 * b.2.2.2).toNat) = (q1r b).map q2x:=by
   unfold q1r
   rw [List.map_map]
   refine List.map_congr_left fun k _ => ?_
   rw [Int.zero_add]; rfl
  rw [e]
  exact ps
end
open TX
def q8j (P Q : Nat -> Bool) (sm gr : Nat -> Nat) (base : Option Nat) : Nat -> Option Nat
 | 0 => base
 | i + 1 => if P i = true then some (sm i) else if Q i = true then some (gr i) else q8j P Q sm gr base i
def q8u (P : Nat -> Bool) (sm : Nat -> Nat) (base : Option Nat) : Nat -> Option Nat
 | 0 => base
 | i + 1 => if P i = true then some (sm i) else q8u P sm base i
theorem j2u {P Q : Nat -> Bool} {sm gr : Nat -> Nat} {base : Option Nat} {N : Nat} (h : ∀ i j,i < N -> j < N -> P i = true -> Q j = true -> False) :
  q8j P Q sm gr base N = q8u Q gr (q8u P sm base N) N:=by
 by_cases hq : ∃ j,j < N /\ Q j = true
 ·obtain ⟨j,hj,hQ⟩:=hq
  have hP : ∀ i,i < N -> P i = false:=fun i hi => by
   cases e : P i with
   | false => rfl
   | true => exact (h i j hi hj e hQ).elim
  have hL : ∀ n,n <= N -> q8u P sm base n = base:=by
   intro n
   induction n with
   | zero => intro _; rfl
   | succ n ih =>
    intro hn
    show (if P n = true then _ else q8u P sm base n) = base
    rw [hP n (by omega),if_neg (by decide)]
    exact ih (by omega)
  rw [hL N (Nat.le_refl _)]
  have : ∀ n,n <= N -> q8j P Q sm gr base n = q8u Q gr base n:=by
   intro n
   induction n with
   | zero => intro _; rfl
   | succ n ih =>
    intro hn
    show (if P n = true then _ else if Q n = true then _ else q8j P Q sm gr base n) = (if Q n = true then _ else q8u Q gr base n)
    rw [hP n (by omega),if_neg (by decide),ih (by omega)]
  exact this N (Nat.le_refl _)
 ·have hQ : ∀ i,i < N -> Q i = false:=fun i hi => by
   cases e : Q i with
   | false => rfl
   | true => exact absurd ⟨i,hi,e⟩ hq
  have hL : ∀ b n,n <= N -> q8u Q gr b n = b:=by
   intro b n
   induction n with
   | zero => intro _; rfl
   | succ n ih =>
    intro hn
    show (if Q n = true then _ else q8u Q gr b n) = b
    rw [hQ n (by omega),if_neg (by decide)]
    exact ih (by omega)
  rw [hL _ N (Nat.le_refl _)]
  have : ∀ n,n <= N -> q8j P Q sm gr base n = q8u P sm base n:=by
   intro n
   induction n with
   | zero => intro _; rfl
   | succ n ih =>
    intro hn
    show (if P n = true then _ else if Q n = true then _ else q8j P Q sm gr base n) = (if P n = true then _ else q8u P sm base n)
    rw [hQ n (by omega),if_neg (c:=false = true) (by decide),ih (by omega)]
  exact this N (Nat.le_refl _)
def kR (r : Str × Int) : List Key:=[.inr r.1,.inl r.2]
theorem j8f : ∀ a b : Str × Int,kR a = kR b -> a = b:=fun a b h => by
 unfold kR at h
 simp only [List.cons.injEq,Sum.inr.injEq,Sum.inl.injEq,and_true] at h
 exact Prod.ext h.1 h.2
def j9z (p : q2k) (nm : Str) : Option Pt:=(p.pts.filter fun r => decide (r.name = nm)).head?
theorem j3f {p : q2k} (ok : OkP p) {q : Pt} (hq : q ∈ p.pts) : j9z p q.name = some q:=by
 unfold j9z; rw [z6w ok hq]; rfl
def q7c (q : Pt) (k : Int) : Option B4:=if 0 <= k then (q2u q)[k.toNat]? else none
def opB (p : q2k) (r : Str × Int) : Option B4:=(j9z p r.1).bind fun q => (q7c q r.2).bind fun b => if q3r p b = true then some b else none
theorem q7r {p : q2k} (ok : OkP p) {q : Pt} (hq : q ∈ p.pts) (k : Int) : opB p (q.name,k) = (q7c q k).bind fun b => if q3r p b = true then some b else none:=by
 unfold opB
 dsimp only
 rw [j3f ok hq]
 rfl
theorem q4s {p : q2k} {r : Str × Int} {b : B4} (h : opB p r = some b) : ∃ q ∈ p.pts,q.name = r.1 /\ q7c q r.2 = some b /\ q3r p b = true:=by
 unfold opB at h
 obtain ⟨q,hq,h⟩:=Option.bind_eq_some_iff.mp h
 obtain ⟨b',hb,h⟩:=Option.bind_eq_some_iff.mp h
 unfold j9z at hq
 have hm:=List.mem_of_mem_head? hq
 obtain ⟨h1,h2⟩:=List.mem_filter.mp hm
 split at h
 ·rename_i ho
  cases h
  exact ⟨q,h1,of_decide_eq_true h2,hb,ho⟩
 ·cases h
theorem q6d {q : Pt} {k : Int} {b : B4} (h : q7c q k = some b) (h1 : 1 <= q.name.length) (h2 : q.name.length <= 20) (hxy : 0 <= q.x /\ q.x < 20 /\ 0 <= q.y /\ q.y < 20) : SmB b:=by
 unfold q7c at h
 split at h
 ·have hm:=List.mem_of_getElem? h
  unfold q2u at hm
  obtain ⟨l,hl,rfl⟩:=List.mem_map.mp hm
  unfold q7j
  repeat' split
  all_goals (refine ⟨?_,?_,?_,?_,?_,?_,?_,?_⟩ <;> simp only <;> omega)
 ·cases h
instance inBDec (b : B4) (c : Cel) : Decidable (inB b c):=by unfold inB; infer_instance
def dO : Option Int -> D
 | none => .non
 | some k => .int k
structure q4n (p : q2k) (s : List (Option Int)) : Prop where
 len : s.length = p.pts.length
 op : ∀ (i : Nat) q k,p.pts[i]? = some q -> s[i]? = some (some k) -> ∃ b,opB p (q.name,k) = some b
def q9c (p : q2k) (c : Cel) : Option Nat:=if p.kept.any (fun b => decide (inB b c)) = true then some 35 else none
def q2e (p : q2k) (s : List (Option Int)) (c : Cel) (i : Nat) : Bool:=match p.pts[i]?,s[i]? with
 | some q,some (some k) => match q7c q k with
  | some b => decide (inB b c)
  | none => false
 | _,_ => false
def q8q (p : q2k) (c : Cel) (i : Nat) : Bool:=match p.pts[i]? with
 | some q => decide (c = (q.x,q.y))
 | none => false
def smI (i : Nat) : Nat:=97 + i
def grI (i : Nat) : Nat:=65 + i
def sgP (p : q2k) (s : List (Option Int)) (i : Nat) (c : Cel) : Option Nat:=q8j (q2e p s c) (q8q p c) smI grI (q9c p c) i
def k9a (p : q2k) (s : List (Option Int)) (i : Nat) (c : Cel) : Option Nat:=q8u (q2e p s c) smI (q9c p c) i
def z4q (p : q2k) (s : List (Option Int)) (i : Nat) (c : Cel) : Option Nat:=q8u (q8q p c) grI (k9a p s p.pts.length c) i
theorem w2a {p : q2k} (ok : OkP p) (n8 : ∀ q ∈ p.pts,q.name.length <= 8) (xy : ∀ q ∈ p.pts,0 <= q.x /\ q.x < 20 /\ 0 <= q.y /\ q.y < 20) {s : List (Option Int)} (g : q4n p s) (c : Cel) : sgP p s p.pts.length c = z4q p s p.pts.length c:=by
 unfold sgP z4q k9a
 refine j2u fun i j hi hj h1 h2 => ?_
 unfold q2e at h1
 unfold q8q at h2
 rw [List.getElem?_eq_getElem hi,List.getElem?_eq_getElem (show i < s.length by rw [g.len]; exact hi)] at h1
 rw [List.getElem?_eq_getElem hj] at h2
 cases hs : s[i]'(by rw [g.len]; exact hi) with
 | none => rw [hs] at h1; cases h1
 | some k =>
  rw [hs] at h1
  obtain ⟨b,hb⟩:=g.op i _ k (List.getElem?_eq_getElem hi) (by rw [List.getElem?_eq_getElem (show i < s.length by rw [g.len]; exact hi),hs])
  rw [q7r ok (List.getElem_mem hi)] at hb
  obtain ⟨b',hb1,hb2⟩:=Option.bind_eq_some_iff.mp hb
  simp only [hb1] at h1
  split at hb2
  ·rename_i ho
   cases hb2
   have hn:=ok.nm _ (List.getElem_mem hi)
   have h3:=(q8l ok (q6d hb1 hn.1 (Nat.le_trans (n8 _ (List.getElem_mem hi)) (by decide)) (xy _ (List.getElem_mem hi))).pos).mp ho c (of_decide_eq_true h1)
   exact h3.2 (.inr ⟨_,List.getElem_mem hj,of_decide_eq_true h2⟩)
  ·cases hb2
open TX
section
variable {P : Program} {w : World} {K : PySem.W.Frag} {mg : Str -> Option Value} {base : Heap} {t : Adr} {n : Nat}
structure PlP (p : q2k) : Prop where
 ok : OkP p
 pn : p.pts.length <= 26
 kn : p.kept.length <= 20
 ks : ∀ b ∈ p.kept,SmB b
 n8 : ∀ q ∈ p.pts,q.name.length <= 8
 xy : ∀ q ∈ p.pts,0 <= q.x /\ q.x < 20 /\ 0 <= q.y /\ q.y < 20
 ws : ∀ q ∈ p.pts,∀ l ∈ q.places,l.1 ∈ WYS
theorem q4f {b : B4} (h : SmB b) : (q1r b).length <= 400:=by
 have h1:=h.w1
 have h2:=h.w2
 have h3:=h.h1
 have h4:=h.h2
 have hwh : b.2.2.1 * b.2.2.2 <= 20 * 20:=Int.mul_le_mul h2 h4 (by omega) (by decide)
 unfold q1r
 rw [List.length_map,List.length_range]
 omega
def pre_q0y : List D -> Prop:=fun ds => ∃ p : q2k,ds = [q2z p] /\ PlP p
def post_q0y : List D -> D -> Prop:=fun ds d => ∃ (p : q2k) (ks : List (List Key)) (vs : List D),ds = [q2z p] /\ d = .dT ks vs /\ ∀ c,(q3m ks vs (kC c)).isSome = true ↔ w0m p c
theorem ok_q0y (T : Txt K mg t) (G_q0s : q3d P w K mg base CX0 (n) t.f_q0s t.d_q0s ["_law_box_here"] (spD K [true] .n pre_q0s post_q0s)) : q3d P w K mg base CX0 (n + 1) t.f_q0y t.d_q0y ["_law_plan_here"] (spD K [true] .n pre_q0y post_q0y):=by
 refine okD T.F_q0y sc_q0y rfl fun cdv A outer s H E hr => ⟨_,(q1i (q4a (i:=1) sc_q0y.nd rfl (Or.inl rfl) q9m)
   (q1i (q3b PassesOwn.never rfl (q6l q5j (q1l (hu1 hr) (q1f 0) (PX.vb q1g) (fun _ _ => rfl))) (q1n (i:=2) sc_q0y.nd rfl (Or.inl rfl)) (q1m (q3b PassesOwn.never rfl (q6l q5j (PX.nv (q1p G_q0s hr rfl T.m_q0s T.F_q0s.kp T.b_q0s q3a (q2g (q1f 2) q1h)))) (q1n (i:=3) sc_q0y.nd rfl (Or.inl rfl)) (q1m (q5o 1 (hu1 hr) (q1f 3) z9o)))))
   (q1i (q3b PassesOwn.never rfl (q6l q5j (q1l (hu1 hr) (q1f 0) (PX.vb q1g) (fun _ _ => rfl))) (q1n (i:=4) sc_q0y.nd rfl (Or.inl rfl)) (q1m (q5o 1 (hu1 hr) (PX.vb (q3x q4o (q1f 4) (q4d (PX.vb q1g)) (q4d (PX.vb q1g)))) z9o)))
   (q1m (q4z (i:=1)))))),fun vs ds hv hd hp => ?_⟩
 obtain ⟨p,rfl,L⟩:=hp
 have hpn:=L.pn
 have hkn:=L.kn
 have ps : ∀ ks vs,(∀ c,(q3m ks vs (kC c)).isSome = true ↔ w0m p c) -> post_q0y [q2z p] (.dT ks vs):=fun ks vs h => ⟨p,ks,vs,rfl,rfl,h⟩
 rw [q2t] at ps ⊢
 walk_at "d"
 refine q1v (fun k ρ => ∃ (tk : List (List Key)) (tv : List D) (g : Cel -> Option D) (o2 o3 : Option Sl),ρ = [some (.bor (hdV vs) (.tup [.int p.wide,.int p.high,.tup (p.kept.map q4c),.tup (p.pts.map dPt)])),some (.own (.dT tk tv)),o2,o3,none] /\ TB kC tk tv g (k * 400) /\ ∀ c,(g c).isSome = true ↔ ∃ b ∈ p.kept.take k,inB b c) ?_ ?_ ?_
 ·exact ⟨[],[],_,_,_,rfl,TB.new kC,by simp⟩
 ·rintro i d ρ N hd ⟨tk,tv,g,o2,o3,rfl,tb,hg⟩ hN
  rw [List.getElem?_map] at hd
  cases hb : p.kept[i]? with
  | none => rw [hb] at hd; cases hd
  | some b =>
   rw [hb] at hd
   cases hd
   have hbm:=List.mem_of_getElem? hb
   have hbi:=(List.getElem?_eq_some_iff.mp hb).1
   have hsm:=L.ks b hbm
   have hlc:=q4f hsm
   walk_at "d"
   refine ⟨⟨b,rfl,hsm⟩,?_⟩
   rintro d ⟨b',e,rfl⟩
   simp only [List.cons.injEq,and_true] at e
   cases q4h e
   walk_at "d"
   refine q1v (fun j ρ => ∃ (tk : List (List Key)) (tv : List D) (g : Cel -> Option D) (o3 : Option Sl),ρ = [some (.bor (hdV vs) (.tup [.int p.wide,.int p.high,.tup (p.kept.map q4c),.tup (p.pts.map dPt)])),some (.own (.dT tk tv)),some (.shr (q4c b)),o3,none] /\ TB kC tk tv g (i * 400 + j) /\ ∀ c,(g c).isSome = true ↔ (∃ b ∈ p.kept.take i,inB b c) \/ c ∈ (q1r b).take j) ?_ ?_ ?_
   ·exact ⟨tk,tv,g,_,rfl,tb,by simpa using hg⟩
   ·rintro j d ρ N2 hd ⟨tk,tv,g,o3,rfl,tb,hg⟩ hN2
    rw [List.getElem?_map] at hd
    cases hc : (q1r b)[j]? with
    | none => rw [hc] at hd; cases hd
    | some c =>
     rw [hc] at hd
     cases hd
     have hj:=(List.getElem?_eq_some_iff.mp hc).1
     have hsz:=tb.sz
     rw [q5g]
     walk_at "d"
     have hsl : tv.length < sizeLine:=Nat.lt_of_lt_of_le (show _ < 100000 by omega) (by decide)
     refine ⟨hsl,hN2 _ ⟨_,_,_,_,rfl,(TB.put z8h tb c (.bl true)).as (fun _ => rfl) (by omega),fun z => ?_⟩⟩
     rw [List.take_add_one,hc]
     by_cases ez : z = c
     ·simp [ez]
     ·rw [if_neg ez,hg z]
      simp [ez]
   ·rintro ρ ⟨tk,tv,g,o3,rfl,tb,hg⟩
    rw [List.length_map,List.take_length] at hg
    rw [List.length_map] at tb
    refine hN _ ⟨tk,tv,g,_,_,rfl,tb.as (fun _ => rfl) (by omega),fun c => ?_⟩
    rw [hg,q2p hsm.pos,List.take_add_one,hb]
    constructor
    ·rintro (⟨b',h1,h2⟩ | h)
     ·exact ⟨b',List.mem_append_left _ h1,h2⟩
     ·exact ⟨b,List.mem_append_right _ (by simp),h⟩
    ·rintro ⟨b',h1,h2⟩
     rcases List.mem_append.mp h1 with h1 | h1
     ·exact .inl ⟨b',h1,h2⟩
     ·have : b' = b:=by simpa using h1
      subst this
      exact .inr h2
 ·rintro ρ ⟨tk,tv,g,o2,o3,rfl,tb,hg⟩
  rw [List.length_map] at hg tb
  rw [List.take_length] at hg
  walk_at "d"
  refine q1v (fun k ρ => ∃ (tk : List (List Key)) (tv : List D) (g : Cel -> Option D) (o4 : Option Sl),ρ = [some (.bor (hdV vs) (.tup [.int p.wide,.int p.high,.tup (p.kept.map q4c),.tup (p.pts.map dPt)])),some (.own (.dT tk tv)),o2,o3,o4] /\ TB kC tk tv g (8000 + k) /\ ∀ c,(g c).isSome = true ↔ (∃ b ∈ p.kept,inB b c) \/ ∃ q ∈ p.pts.take k,c = (q.x,q.y)) ?_ ?_ ?_
  ·exact ⟨tk,tv,g,_,rfl,tb.as (fun _ => rfl) (by omega),by simpa using hg⟩
  ·rintro i d ρ N hd ⟨tk,tv,g,o4,rfl,tb,hg⟩ hN
   rw [List.getElem?_map] at hd
   cases hq : p.pts[i]? with
   | none => rw [hq] at hd; cases hd
   | some q =>
    rw [hq] at hd
    cases hd
    have hqi:=(List.getElem?_eq_some_iff.mp hq).1
    have hsz:=tb.sz
    have hsl : tv.length < sizeLine:=Nat.lt_of_lt_of_le (show _ < 100000 by omega) (by decide)
    rw [q8x]
    walk_at "d"
    refine ⟨by decide,hsl,hN _ ⟨_,_,_,_,rfl,(TB.put z8h tb (q.x,q.y) (.bl true)).as (fun _ => rfl) (by omega),fun z => ?_⟩⟩
    rw [List.take_add_one,hq]
    by_cases ez : z = (q.x,q.y)
    ·rw [if_pos ez]
     simp only [Option.isSome_some,true_iff]
     exact .inr ⟨q,List.mem_append_right _ (by simp),ez⟩
    ·rw [if_neg ez,hg z]
     constructor
     ·rintro (h | ⟨q',h1,h2⟩)
      ·exact .inl h
      ·exact .inr ⟨q',List.mem_append_left _ h1,h2⟩
     ·rintro (h | ⟨q',h1,h2⟩)
      ·exact .inl h
      ·rcases List.mem_append.mp h1 with h1 | h1
       ·exact .inr ⟨q',h1,h2⟩
       ·have : q' = q:=by simpa using h1
        subst this
        exact absurd h2 ez
  ·rintro ρ ⟨tk,tv,g,o4,rfl,tb,hg⟩
   rw [List.length_map,List.take_length] at hg
   walk_at "d"
   exact ps tk tv fun c => by rw [tb.at',hg]; rfl
end
open TX
section
variable {P : Program} {w : World} {K : PySem.W.Frag} {mg : Str -> Option Value} {base : Heap} {t : Adr} {n : Nat}
def dOc (b : B4) : D:=.lst ((q1r b).map q2x)
theorem z7j (b : B4) : dOc b = .lst ((q1r b).map q2x):=rfl
def OpT (p : q2k) (ks : List (List Key)) (vs : List D) : Prop:=TB kR ks vs (fun r => (opB p r).map dOc) 10000
def pre_q0w : List D -> Prop:=fun ds => ∃ p : q2k,ds = [q2z p] /\ PlP p
def post_q0w : List D -> D -> Prop:=fun ds d => ∃ (p : q2k) (ks : List (List Key)) (vs : List D),ds = [q2z p] /\ d = .dT ks vs /\ OpT p ks vs
theorem q7g {α : Type} {f : α -> Bool} : ∀ {l : List α},(l.filter f).length = l.length ↔ ∀ a ∈ l,f a = true
 | [] => by simp
 | a :: r => by
  rw [List.filter_cons]
  have h:=List.length_filter_le f r
  by_cases e : f a = true
  ·rw [if_pos e,List.length_cons,List.length_cons,Nat.add_right_cancel_iff,q7g]
   simp [e]
  ·rw [if_neg e]
   constructor
   ·intro z; rw [List.length_cons] at z; omega
   ·intro z; exact absurd (z a (by simp)) e
theorem ok_q0w (T : Txt K mg t) (G_q0y : q3d P w K mg base CX0 (n) t.f_q0y t.d_q0y ["_law_plan_here"] (spD K [true] .n pre_q0y post_q0y)) (G_q0s : q3d P w K mg base CX0 (n) t.f_q0s t.d_q0s ["_law_box_here"] (spD K [true] .n pre_q0s post_q0s)) (G_q1b : q3d P w K mg base CX0 (n) t.f_q1b t.d_q1b ["_law_way","_law_x","_law_y","_law_size"] (spD K [true,false,false,false] .v pre_q1b post_q1b)) : q3d P w K mg base CX0 (n + 1) t.f_q0w t.d_q0w ["_law_plan_here"] (spD K [true] .n pre_q0w post_q0w):=by
 refine okD T.F_q0w sc_q0w rfl fun cdv A outer s H E hr => ⟨_,(q1i (q1u (i:=1) sc_q0w.nd rfl (Or.inr rfl) (PX.nv (q1p G_q0y hr rfl T.m_q0y T.F_q0y.kp T.b_q0y q3a (q2g (q1f 0) q1h))))
   (q1i (q4a (i:=2) sc_q0w.nd rfl (Or.inl rfl) q9m)
   (q1i (q3b PassesOwn.never rfl (q6l q5j (q1l (hu1 hr) (q1f 0) (PX.vb q1g) (fun _ _ => rfl))) (q4x (n:=5) rfl (q2b (q1n (i:=3) sc_q0w.nd rfl (Or.inl rfl)) (q2b (q1n (i:=4) sc_q0w.nd rfl (Or.inl rfl)) (q2b (q1n (i:=5) sc_q0w.nd rfl (Or.inl rfl)) (q2b (q1n (i:=6) sc_q0w.nd rfl (Or.inl rfl)) (q2b (q1n (i:=7) sc_q0w.nd rfl (Or.inl rfl)) q4p)))))) (q1m (q3b PassesOwn.never rfl (q2o rfl T.n_range (q1t (q2c q4k rfl T.n_len PySem.boot_len (q2g (q1f 7) q1h)) q1h)) (q1n (i:=8) sc_q0w.nd rfl (Or.inl rfl)) (q1i (q1u (i:=9) sc_q0w.nd rfl (Or.inl rfl) (PX.nv (q1p G_q0s hr rfl T.m_q0s T.F_q0s.kp T.b_q0s q3a (q2g (PX.vb (q1p G_q1b hr rfl T.m_q1b T.F_q1b.kp T.b_q1b q3a (q2g (PX.vb (q1l (hu1 hr) (PX.vb (q1l (hu1 hr) (q1f 7) (q1f 8) (fun _ _ => rfl))) (PX.vb q1g) (fun _ _ => rfl))) (q1t (q1o 4) (q1t (q1o 5) (q1t (q2c q4k rfl T.n_len PySem.boot_len (q2g (q1f 3) q1h)) q1h)))))) q1h))))
   (q1i (z0a (i:=10) (osc:=q1j s_q0w) (N:=["_law_plan_here","_law_shut_here","_law_found","_law_name","_law_x","_law_y","_law_loss","_law_places_here","_law_k","_law_cells_here","_law_good"]) ["_law_spot","_law_shut_here","_law_plan_here"] [none,some 1,some 0] ⟨rfl,by decide +kernel,by decide +kernel,by decide +kernel,rfl,by decide +kernel⟩ sc_q0w.nd rfl (Or.inl rfl) (q7n rfl (q1f 9)) (fun b => (q1n (i:=0) (show (["_law_spot","_law_shut_here","_law_plan_here"] : List Str).Nodup by decide +kernel) rfl (Or.inl rfl))) (fun b => (z0f (PWX.t (z5b (q2n (k4q (hu1 hr)) (q1f 0) (q1f 1) (by with_unfolding_all rfl)) (z5b (z8s k6m k7m (PX.vb q1g) (PX.vb (q1l (hu1 hr) (q1f 0) (PX.vb q1g) (fun _ _ => rfl))) (PX.vb (q1l (hu1 hr) (q1f 2) (PX.vb q1g) (fun _ _ => rfl)))) (z6d (z8s k6m k7m (PX.vb q1g) (PX.vb (q1l (hu1 hr) (q1f 0) (PX.vb q1g) (fun _ _ => rfl))) (PX.vb (q1l (hu1 hr) (q1f 2) (PX.vb q1g) (fun _ _ => rfl)))))))))) (fun b => (q1o 0)))
   (q1m (q3z (q2n (q4j hr.units) (PX.vb (q2c q4k rfl T.n_len PySem.boot_len (q2g (q1f 10) q1h))) (PX.vb (q2c q4k rfl T.n_len PySem.boot_len (q2g (q1f 9) q1h))) (q2l _)) (q1m (k3r 2 (hu1 hr) (q1t (q1o 3) (q1t (q1o 8) q1h)) (q1o 9))) q2w)))))))
   (q1m (q4z (i:=2)))))),fun vs ds hv hd hp => ?_⟩
 obtain ⟨p,rfl,L⟩:=hp
 have hpn:=L.pn
 have ps : ∀ ks vs,OpT p ks vs -> post_q0w [q2z p] (.dT ks vs):=fun ks vs h => ⟨p,ks,vs,rfl,rfl,h⟩
 walk_at "d"
 refine ⟨⟨p,rfl,L⟩,?_⟩
 rintro d ⟨p',sk,sv,e,rfl,hsh⟩
 simp only [List.cons.injEq,and_true] at e
 cases q3i e
 rw [q2t] at ps ⊢
 walk_at "d"
 refine q1v (fun i ρ => ∃ (tk : List (List Key)) (tv : List D) (o3 o4 o5 o6 o7 o8 o9 o10 : Option Sl),ρ = [some (.bor (hdV vs) (.tup [.int p.wide,.int p.high,.tup (p.kept.map q4c),.tup (p.pts.map dPt)])),some (.shr (.dT sk sv)),some (.own (.dT tk tv)),o3,o4,o5,o6,o7,o8,o9,o10] /\ TB kR tk tv (fun r => if r.1 ∈ (p.pts.take i).map Pt.name then (opB p r).map dOc else none) (i * 100)) ?_ ?_ ?_
 ·exact ⟨[],[],_,_,_,_,_,_,_,_,rfl,(TB.new kR).as (fun _ => rfl) (by omega)⟩
 ·rintro i d ρ N hd ⟨tk,tv,o3,o4,o5,o6,o7,o8,o9,o10,rfl,tb⟩ hN
  rw [List.getElem?_map] at hd
  cases hq : p.pts[i]? with
  | none => rw [hq] at hd; cases hd
  | some q =>
   rw [hq] at hd
   cases hd
   have hqi:=(List.getElem?_eq_some_iff.mp hq).1
   have hqm:=List.mem_of_getElem? hq
   have hpl:=L.ok.pl q hqm
   have htk : p.pts.take (i + 1) = p.pts.take i ++ [q]:=by rw [List.take_succ,hq]; rfl
   have hfr : q.name ∉ (p.pts.take i).map Pt.name:=by
    intro ho
    have nd:=L.ok.nd
    have : p.pts.map Pt.name = (p.pts.take (i + 1)).map Pt.name ++ (p.pts.drop (i + 1)).map Pt.name:=by rw [<- List.map_append,List.take_append_drop]
    rw [this,htk,List.map_append,List.nodup_append,List.nodup_append] at nd
    exact nd.1.2.2 _ ho _ (by simp) rfl
   rw [q8x]
   walk_at "d"
   rw [List.length_map]
   refine ⟨⟨by omega,by omega⟩,?_⟩
   refine q1v (fun j ρ => ∃ (tk : List (List Key)) (tv : List D) (o8 o9 o10 : Option Sl),ρ = [some (.bor (hdV vs) (.tup [.int p.wide,.int p.high,.tup (p.kept.map q4c),.tup (p.pts.map dPt)])),some (.shr (.dT sk sv)),some (.own (.dT tk tv)),some (.shr (.str q.name)),some (.shr (.int q.x)),some (.shr (.int q.y)),some (.shr (.int q.loss)),some (.shr (.tup (q.places.map q5s))),o8,o9,o10] /\ TB kR tk tv (fun r => if r.1 ∈ (p.pts.take i).map Pt.name then (opB p r).map dOc else if r.1 = q.name /\ 0 <= r.2 /\ r.2 < (j : Int) then (opB p r).map dOc else none) (i * 100 + j)) ?_ ?_ ?_
   ·exact ⟨tk,tv,_,_,_,rfl,tb.as (fun r => by
     by_cases e : r.1 ∈ (p.pts.take i).map Pt.name
     ·rw [if_pos e,if_pos e]
     ·rw [if_neg e,if_neg e,if_neg (by omega)]) (by omega)⟩
   ·rintro j d ρ N2 hd ⟨tk,tv,o8,o9,o10,rfl,tb⟩ hN2
    obtain ⟨hj,rfl⟩:=q5x hd
    have hj : j < q.places.length:=by omega
    have hsz:=tb.sz
    obtain ⟨l,hl⟩ : ∃ l,q.places[j]? = some l:=⟨_,List.getElem?_eq_getElem hj⟩
    have hlm:=List.mem_of_getElem? hl
    have hat : atI (q.places.map q5s) (0 + (j : Int)) = some (.tup [.str l.1,.int l.2]):=by
     rw [Int.zero_add,q4q,show atI q.places (j : Int) = some l from q3j hl]; rfl
    have hbk : q7c q (j : Int) = some (q7j l.1 q.x q.y q.name.length):=by
     unfold q7c q2u
     rw [if_pos (by omega),Int.toNat_natCast,List.getElem?_map,hl]; rfl
    have hsm:=q6d hbk (L.ok.nm q hqm).1 (Nat.le_trans (L.n8 q hqm) (by decide)) (L.xy q hqm)
    walk_at "d"
    rw [hat]
    walk_at "d"
    have hn8:=L.n8 q hqm
    refine ⟨q3o (by omega),⟨l.1,q.x,q.y,_,rfl,L.ws q hqm l hlm⟩,?_⟩
    rintro d ⟨w',x',y',m',e,rfl⟩
    simp only [List.cons.injEq,D.str.injEq,D.int.injEq,and_true] at e
    obtain ⟨rfl,rfl,rfl,rfl⟩:=e
    generalize hbx : q7j l.1 q.x q.y (q.name.length : Int) = b at hbk hsm ⊢
    refine ⟨⟨b,rfl,hsm⟩,?_⟩
    rintro d ⟨b',e,rfl⟩
    simp only [List.cons.injEq,and_true] at e
    cases q4h e
    have hlc:=q4f hsm
    walk_at "d"
    refine ⟨q3o (by rw [List.length_map]; omega),fun _ => ?_⟩
    refine q5z q2x (fun c => !(q3m sk sv (kC c)).isSome && (decide (0 <= c.1) && decide (c.1 < p.wide) && (decide (0 <= c.2) && decide (c.2 < p.high)))) (fun c hc kk hk => ?_) ?_
    ·rw [q5g] at hk ⊢
     walk_at "d"
     have ek : kC c = [Sum.inl c.1,Sum.inl c.2]:=rfl
     rw [ek] at hk
     cases hls : (q3m sk sv [Sum.inl c.1,Sum.inl c.2]).isSome with
     | true => rw [hls] at hk; rw [if_neg (by decide)]; exact hk
     | false =>
      rw [hls] at hk
      rw [if_pos (by decide)]
      refine q5i (fun a1 => q5i (fun a2 => q5i (fun a3 => q5i (fun a4 => ?_) fun a4 => ?_) fun a3 => ?_) fun a2 => ?_) fun a1 => ?_
      ·rw [if_pos (by simp [a1,a2,a3,a4])] at hk; exact hk
      ·rw [if_neg (by simp [a4])] at hk; exact hk
      ·rw [if_neg (by simp [a3])] at hk; exact hk
      ·rw [if_neg (by simp [a2])] at hk; exact hk
      ·rw [if_neg (by simp [a1])] at hk; exact hk
    ·rw [List.length_map,List.length_map]
     have hop : (List.filter (fun c => !(q3m sk sv (kC c)).isSome && (decide (0 <= c.1) && decide (c.1 < p.wide) && (decide (0 <= c.2) && decide (c.2 < p.high)))) (q1r b)).length = (q1r b).length ↔ q3r p b = true:=by
      rw [q7g,q8l L.ok hsm.pos]
      constructor
      ·intro h c hc
       have:=h c ((q2p hsm.pos).mpr hc)
       simp only [Bool.and_eq_true,Bool.not_eq_true',decide_eq_true_eq] at this
       refine ⟨by omega,fun z => ?_⟩
       rw [(hsh c).mpr z] at this
       exact absurd this.1 (by decide)
      ·intro h c hc
       obtain ⟨h1,h2⟩:=h c ((q2p hsm.pos).mp hc)
       simp only [Bool.and_eq_true,Bool.not_eq_true',decide_eq_true_eq]
       refine ⟨?_,by omega⟩
       rw [<- Bool.not_eq_true]
       exact fun z => h2 ((hsh c).mp z)
     have hopb : opB p (q.name,(j : Int)) = if q3r p b = true then some b else none:=by
      rw [q7r L.ok hqm,hbk]; rfl
     have hkr : ([Sum.inr q.name,Sum.inl (0 + (j : Int))] : List Key) = kR (q.name,(j : Int)):=by rw [Int.zero_add]; rfl
     refine q5i (fun c1 => ?_) fun c1 => ?_
     ·have c1 : q3r p b = true:=hop.mp (by omega)
      rw [hkr]
      have hsl : tv.length < sizeLine:=Nat.lt_of_lt_of_le (show _ < 100000 by omega) (by decide)
      refine ⟨by decide,hsl,hN2 _ ⟨_,_,_,_,_,rfl,(TB.put j8f tb (q.name,(j : Int)) (dOc b)).as (fun r => ?_) (by omega)⟩⟩
      by_cases er : r = (q.name,(j : Int))
      ·rw [if_pos er,er,if_neg hfr,if_pos ⟨rfl,by dsimp only; omega,by dsimp only; omega⟩,hopb,if_pos c1]; rfl
      ·rw [if_neg er]
       by_cases e1 : r.1 ∈ (p.pts.take i).map Pt.name
       ·rw [if_pos e1,if_pos e1]
       ·rw [if_neg e1,if_neg e1]
        by_cases e2 : r.1 = q.name /\ 0 <= r.2 /\ r.2 < (j : Int)
        ·rw [if_pos e2,if_pos ⟨e2.1,e2.2.1,by omega⟩]
        ·rw [if_neg e2,if_neg]
         rintro ⟨z1,z2,z3⟩
         have z4 : ¬ r.2 < (j : Int):=fun y => e2 ⟨z1,z2,y⟩
         refine er (Prod.ext z1 ?_)
         dsimp only
         omega
     ·have c1 : ¬ q3r p b = true:=fun z => c1 (by have:=hop.mpr z; omega)
      refine hN2 _ ⟨tk,tv,_,_,_,rfl,tb.as (fun r => ?_) (by omega)⟩
      by_cases e1 : r.1 ∈ (p.pts.take i).map Pt.name
      ·rw [if_pos e1,if_pos e1]
      ·rw [if_neg e1,if_neg e1]
       by_cases e2 : r.1 = q.name /\ 0 <= r.2 /\ r.2 < (j : Int)
       ·rw [if_pos e2,if_pos ⟨e2.1,e2.2.1,by omega⟩]
       ·rw [if_neg e2]
        by_cases er : r = (q.name,(j : Int))
        ·rw [er,if_pos ⟨rfl,by dsimp only; omega,by dsimp only; omega⟩,hopb,if_neg c1]; rfl
        ·rw [if_neg]
         rintro ⟨z1,z2,z3⟩
         have z4 : ¬ r.2 < (j : Int):=fun y => e2 ⟨z1,z2,y⟩
         refine er (Prod.ext z1 ?_)
         dsimp only
         omega
   ·rintro ρ ⟨tk,tv,o8,o9,o10,rfl,tb⟩
    rw [List.length_map,List.length_range] at tb
    refine hN _ ⟨tk,tv,_,_,_,_,_,_,_,_,rfl,tb.as (fun r => ?_) (by omega)⟩
    rw [htk,List.map_append]
    by_cases e : r.1 ∈ (p.pts.take i).map Pt.name
    ·rw [if_pos e,if_pos (List.mem_append_left _ e)]
    ·rw [if_neg e]
     by_cases e2 : r.1 = q.name
     ·rw [if_pos (show r.1 ∈ _ from List.mem_append_right _ (by simp [e2]))]
      by_cases e3 : 0 <= r.2 /\ r.2 < (q.places.length : Int)
      ·rw [if_pos ⟨e2,e3.1,by omega⟩]
      ·rw [if_neg (by omega)]
       have : opB p r = none:=by
        have : r = (q.name,r.2):=Prod.ext e2 rfl
        rw [this,q7r L.ok hqm]
        have : q7c q r.2 = none:=by
         unfold q7c
         split
         ·rw [List.getElem?_eq_none]
          unfold q2u
          rw [List.length_map]
          omega
         ·rfl
        rw [this]; rfl
       rw [this]; rfl
     ·rw [if_neg (fun z => e2 z.1),if_neg]
      intro z
      rcases List.mem_append.mp z with z | z
      ·exact e z
      ·exact e2 (by simpa using z)
 ·rintro ρ ⟨tk,tv,o3,o4,o5,o6,o7,o8,o9,o10,rfl,tb⟩
  rw [List.length_map,List.take_length] at tb
  walk_at "d"
  refine ps tk tv (tb.as (fun r => ?_) (by omega))
  by_cases e : r.1 ∈ p.pts.map Pt.name
  ·rw [if_pos e]
  ·rw [if_neg e]
   have : opB p r = none:=by
    cases h : opB p r with
    | none => rfl
    | some b =>
     obtain ⟨q,hq,h1,_⟩:=q4s h
     exact absurd (h1 ▸ List.mem_map_of_mem hq) e
   rw [this]; rfl
end
open TX
theorem j5t {n : Nat} {i : Int} (h0 : 0 <= i) (h1 : i < n) : seqIndex? i n = some i.toNat:=by
 have : ixN n i = some i.toNat:=by
  unfold ixN
  rw [if_pos h0,if_pos (by omega)]
 exact (k3q this).1
theorem z3u {α β : Type} (f : α -> β) : ∀ (l : List α) (k : Nat),(l.map f).eraseIdx k = (l.eraseIdx k).map f
 | [],_ => rfl
 | _ :: _,0 => rfl
 | a :: r,k + 1 => by rw [List.map_cons,List.eraseIdx_cons_succ,List.eraseIdx_cons_succ,List.map_cons,z3u f r k]
theorem z0k {α : Type} (f : α -> D) (l : List α) (h : ∀ x ∈ l,(f x).isD = true /\ (f x).py.canLay0 = true) : D.isDs (l.map f) = true /\ PyData.canLayAll0 (D.pys (l.map f)) = true:=by
 induction l with
 | nil => exact ⟨rfl,rfl⟩
 | cons a r ih =>
  obtain ⟨i1,i2⟩:=ih fun x hx => h x (List.mem_cons_of_mem _ hx)
  obtain ⟨j1,j2⟩:=h a (by simp)
  rw [List.map_cons]
  constructor
  ·rw [D.isDs,j1,i1]; rfl
  ·rw [D.pys,PyData.canLayAll0,j2,i2]; rfl
theorem z2w (x : Str) : PyData.strOk x = (cs x).all fun c => decide (c < 0x110000):=by
 unfold PyData.strOk
 rw [<- Array.all_toList]
theorem j7m : ((cs LET).all fun c => decide (c < 0x110000)) = true:=by decide +kernel
theorem q4t (cl : List (Int × Int)) : (D.lst (cl.map q2x)).ok = true:=by
 obtain ⟨l1,l2⟩:=z0k q2x cl fun z _ => ⟨rfl,by simp [q2x,D.py,D.pys,PyData.canLay0,PyData.canLayAll0]⟩
 have l3 : PyData.depthAll (D.pys (cl.map q2x)) <= 1:=by
  clear l1 l2
  induction cl with
  | nil => simp [D.pys,PyData.depthAll]
  | cons a r ih =>
   rw [List.map_cons,D.pys,PyData.depthAll]
   simp only [q2x,D.py,D.pys,PyData.depth,PyData.depthAll] at ih ⊢
   omega
 unfold D.ok SeqAt.shaped
 rw [D.isD,l1,D.py,PyData.canLay0,l2,PyData.depth]
 simp
 omega
theorem z0e (cl : List (Int × Int)) : deq (.lst (cl.map q2x)) (.lst []) = cl.isEmpty:=by
 cases cl with
 | nil => rfl
 | cons a r => rfl
section
variable {P : Program} {w : World} {K : PySem.W.Frag} {mg : Str -> Option Value} {base : Heap} {t : Adr} {n : Nat}
def pre_q1a : List D -> Prop:=fun ds => ∃ (ns : List Int) (f m : Int),ds = [.lst (ns.map .int),.int f,.int m] /\ 0 <= f /\ f <= 10 /\ 0 <= m /\ m <= 26
def post_q1a : List D -> D -> Prop:=fun ds d => ∃ (p : q2k),d = q2z p /\ PlP p
theorem ok_q1a (T : Txt K mg t) (G_q0n : q3d P w K mg base CX0 (n + 3) t.f_q0n t.d_q0n ["_law_script","_law_k"] (spD K [true,true] .v pre_q0n post_q0n)) (G_q0t : q3d P w K mg base CX0 (n + 3) t.f_q0t t.d_q0t ["_law_number_here","_law_many"] (spD K [true,false] .n pre_q0t post_q0t)) (G_q0o : q3d P w K mg base CX0 (n + 3) t.f_q0o t.d_q0o ["_law_number_here","_law_many"] (spD K [true,false] .v pre_q0o post_q0o)) (G_q0x : q3d P w K mg base CX0 (n + 3) t.f_q0x t.d_q0x ["_law_number_here","_law_wide","_law_high"] (spD K [true,true,true] .v pre_q0x post_q0x)) : q3d P w K mg base CX0 (n + 4) t.f_q1a t.d_q1a ["_law_script","_law_first","_law_most"] (spD K [true,false,false] .v pre_q1a post_q1a):=by
 refine okD T.F_q1a sc_q1a rfl fun cdv A outer s H E hr => ⟨_,(q1i (q1u (i:=3) sc_q1a.nd rfl (Or.inl rfl) (q1p G_q0n hr rfl T.m_q0n T.F_q0n.kp T.b_q0n q3a (q2g (q1f 0) (q2g (PX.vb q1g) q1h))))
   (q1i (q1u (i:=4) sc_q1a.nd rfl (Or.inr rfl) (q1k q1q (PX.vb q1g) (PX.vb (q1k q2q (q1f 3) (PX.vb q1g)))))
   (q1i (q1u (i:=5) sc_q1a.nd rfl (Or.inl rfl) (q1k q1q (PX.vb q1g) (PX.vb (q1k q2q (PX.vb (q1k q2r (q1f 3) (PX.vb q1g))) (PX.vb q1g)))))
   (q1i (z0a (i:=6) (osc:=q1j s_q1a) (N:=["_law_script","_law_first","_law_most","_law_number_here","_law_wide","_law_high","_law_free","_law_names_here","_law_points","_law_k","_law_spot","_law_x","_law_y","_law_many"]) ["_law_k","_law_wide"] [none,some 4] ⟨rfl,by decide +kernel,by decide +kernel,by decide +kernel,rfl,by decide +kernel⟩ sc_q1a.nd rfl (Or.inl rfl) (PIX.c (q2o rfl T.n_range (q1t (q1k q5t (q1f 4) (q1f 5)) q1h))) (fun b => (q1n (i:=0) (show (["_law_k","_law_wide"] : List Str).Nodup by decide +kernel) rfl (Or.inl rfl))) (fun b => q5c) (fun b => (q2v (q1t (q1k q2q (q1f 0) (q1f 1)) (q1t (q1k q2r (q1f 0) (q1f 1)) q1h)))))
   (q1i (q1u (i:=7) sc_q1a.nd rfl (Or.inl rfl) (PX.nv (q1p G_q0t hr rfl T.m_q0t T.F_q0t.kp T.b_q0t q3a (q2g (PX.vb (q1p G_q0n hr rfl T.m_q0n T.F_q0n.kp T.b_q0n q3a (q2g (q1f 0) (q2g (PX.vb q1g) q1h)))) (q1t (q1o 2) q1h)))))
   (q1i (q4a (i:=8) sc_q1a.nd rfl (Or.inl rfl) (q3k q1h))
   (q1i (q3b PassesOwn.never rfl (q9p rfl T.n_range (q1t (q1o 1) (q1t (q2c (z2d rfl) rfl T.n_min PyProof.Rows.boot_min (q2g (PX.vb (q2c q4k rfl T.n_len PySem.boot_len (q2g (q1f 0) q1h))) (q2g (PX.vb (q1k q1q (q1f 1) (q1f 2))) q1h))) q1h))) (q1n (i:=9) sc_q1a.nd rfl (Or.inl rfl)) (q1m (q3z (q2n (z4x hr.units) (q1f 6) (PX.nb (q3k q1h)) (q2l _)) (q1i (q1u (i:=10) sc_q1a.nd rfl (Or.inl rfl) (q1p G_q0n hr rfl T.m_q0n T.F_q0n.kp T.b_q0n q3a (q2g (q1f 0) (q2g (q1f 9) q1h))))
   (q1i (j8d (q5k 6 PySem.F.slot_list_pop PySem.F.type_list_pop k4g (q4i (q5n (q1k q2q (q1f 10) (PX.vb (q2c q4k rfl T.n_len PySem.boot_len (q2g (q1f 6) q1h))))) q5m)) (j4i (n:=2) rfl (q2b (q1n (i:=11) sc_q1a.nd rfl (Or.inl rfl)) (q2b (q1n (i:=12) sc_q1a.nd rfl (Or.inl rfl)) q4p))))
   (q1i (q1u (i:=13) sc_q1a.nd rfl (Or.inl rfl) (q1k q1q (PX.vb q1g) (PX.vb (q1k q2q (PX.vb (q1k q2r (q1f 10) (PX.vb q1g))) (PX.vb q1g)))))
   (q1m (q3u (q5k 8 PySem.F.slot_list_append PySem.F.type_list_append q3s (q4i (q5n (q2v (q1t (q1l (hu1 hr) (q1f 7) (PX.vb (q1k q4w (q1f 9) (q1f 1))) (fun _ _ => rfl)) (q1t (q1o 11) (q1t (q1o 12) (q1t (q1k q2q (PX.vb (q1k q2r (q1f 10) (PX.vb q1g))) (PX.vb q1g)) (q1t (q1p G_q0o hr rfl T.m_q0o T.F_q0o.kp T.b_q0o q3a (q2g (PX.vb (q1k q2r (q1f 10) (PX.vb q1g))) (q1t (q1o 13) q1h))) q1h))))))) q5m))))))) q2w)))
   (q1m (q2s (by decide) (q2v (q1t (q1o 4) (q1t (q1o 5) (q1t (q1p G_q0x hr rfl T.m_q0x T.F_q0x.kp T.b_q0x q3a (q2g (PX.vb (q1k q2r (q1f 3) (PX.vb q1g))) (q2g (q1f 4) (q2g (q1f 5) q1h)))) (q1t (q7s z3a rfl T.n_tuple PySem.Pv.boot_tuple (q2g (q1f 8) q1h)) q1h)))))))))))))),fun vs ds hv hd hp => ?_⟩
 obtain ⟨ns,f,m,rfl,f0,f1,m0,m1⟩:=hp
 walk_at "d"
 refine ⟨⟨ns,0,rfl,by decide,by decide⟩,?_⟩
 rintro d ⟨a,rfl,a0⟩
 walk_at "d"
 have hW : 1 <= 1 + a % 20 /\ 1 + a % 20 <= 20:=by omega
 have hH : 1 <= 1 + a / 20 % 20 /\ 1 + a / 20 % 20 <= 20:=by omega
 generalize 1 + a % 20 = W at hW ⊢
 generalize 1 + a / 20 % 20 = Hi at hH ⊢
 have hWH : W * Hi <= 20 * 20:=Int.mul_le_mul hW.2 hH.2 (by omega) (by decide)
 have hWH0 : 0 <= W * Hi:=Int.mul_nonneg (by omega) (by omega)
 refine ⟨by decide,⟨by decide,by decide⟩,by decide,.inl ⟨by omega,by omega⟩,⟨by omega,by omega⟩,q3o (by rw [List.length_map,List.length_range]; omega),fun _ => ?_⟩
 refine q3f (fun (j : Nat) => q2x ((0 + (j : Int)) % W,(0 + (j : Int)) / W)) (fun j hj c hc => ?_) ?_
 ·walk_at "d"
  exact ⟨by omega,⟨by omega,Int.le_trans hW.2 (by decide)⟩,by decide,hc⟩
 rw [show List.map (fun (j : Nat) => q2x ((0 + (j : Int)) % W,(0 + (j : Int)) / W)) (List.range (W * Hi).toNat) = ((List.range (W * Hi).toNat).map fun (j : Nat) => ((0 + (j : Int)) % W,(0 + (j : Int)) / W)).map q2x by rw [List.map_map]; rfl]
 have cin0 : ∀ c ∈ ((List.range (W * Hi).toNat).map fun (j : Nat) => ((0 + (j : Int)) % W,(0 + (j : Int)) / W)),0 <= c.1 /\ c.1 < W /\ 0 <= c.2 /\ c.2 < Hi:=by
  intro c hc
  obtain ⟨j,hj,rfl⟩:=List.mem_map.mp hc
  rw [List.mem_range] at hj
  rw [Int.zero_add]
  refine ⟨Int.emod_nonneg _ (by omega),Int.emod_lt_of_pos _ (by omega),Int.ediv_nonneg (by omega) (by omega),Int.ediv_lt_of_lt_mul (by omega) ?_⟩
  rw [Int.mul_comm]; omega
 have hcl0 : ((List.range (W * Hi).toNat).map fun (j : Nat) => ((0 + (j : Int)) % W,(0 + (j : Int)) / W)).length <= 400:=by simp; omega
 generalize ((List.range (W * Hi).toNat).map fun (j : Nat) => ((0 + (j : Int)) % W,(0 + (j : Int)) / W)) = cl0 at cin0 hcl0 ⊢
 refine ⟨⟨ns,1,rfl,by decide,by decide⟩,?_⟩
 rintro d ⟨a1,rfl,a10⟩
 refine ⟨⟨a1,m.toNat,by rw [Int.toNat_of_nonneg m0],a10,by omega⟩,?_⟩
 rintro d ⟨a',mm,nms,e,rfl,hnl,hnd,hnm⟩
 simp only [List.cons.injEq,D.int.injEq,and_true] at e
 obtain ⟨_,em⟩:=e
 have hnl : (nms.length : Int) = m:=by omega
 refine ⟨by decide,?_,?_⟩
 ·rw [List.length_map]
  refine ⟨by omega,by omega,?_⟩
  split <;> exact ⟨by omega,by omega⟩
 refine q1v (fun i ρ => ∃ (cl : List (Int × Int)) (qs : List Pt) (o9 o10 o11 o12 o13 : Option Sl),ρ = [some (.bor (hdV vs) (.lst (ns.map .int))),some (.shr (.int f)),some (.shr (.int m)),some (.shr (.int a)),some (.shr (.int W)),some (.shr (.int Hi)),some (.own (.lst (cl.map q2x))),some (.shr (.lst (nms.map D.str))),some (.own (.lst (qs.map dPt))),o9,o10,o11,o12,o13] /\ cl.length <= 400 /\ (∀ c ∈ cl,0 <= c.1 /\ c.1 < W /\ 0 <= c.2 /\ c.2 < Hi) /\ qs.length <= i /\ (qs.map Pt.name).Nodup /\ ∀ q ∈ qs,(∃ j < i,nms[j]? = some q.name) /\ 1 <= q.places.length /\ q.places.length <= 6 /\ (∀ l ∈ q.places,l.1 ∈ WYS) /\ 0 <= q.x /\ q.x < W /\ 0 <= q.y /\ q.y < Hi) ?_ ?_ ?_
 ·exact ⟨cl0,[],_,_,_,_,_,rfl,hcl0,cin0,Nat.le_refl _,.nil,by simp⟩
 ·rintro i d ρ N hd ⟨cl,qs,o9,o10,o11,o12,o13,rfl,hcl,hcin,hq1,hq2,hq3⟩ hN
  obtain ⟨hi,rfl⟩:=q5x hd
  have hi2 : (i : Int) < m:=by
   split at hi <;> omega
  clear hi
  walk_at "d"
  refine ⟨by decide,⟨q4t cl,rfl⟩,?_⟩
  rw [z0e]
  refine q5i (fun c1 => ?_) fun c1 => hN _ ⟨cl,qs,_,_,_,_,_,rfl,hcl,hcin,by omega,hq2,fun q hq => ⟨let ⟨j,hj,e⟩:=(hq3 q hq).1; ⟨j,by omega,e⟩,(hq3 q hq).2⟩⟩
  have hpos : 0 < cl.length:=by
   cases cl with
   | nil => cases c1
   | cons _ _ => simp
  refine ⟨⟨ns,f + i,rfl,by omega,by omega⟩,fun d hd => ?_⟩
  obtain ⟨b,rfl,hb⟩:=hd
  walk_at "d"
  simp only [List.length_map]
  have j0:=Int.emod_nonneg b (show (cl.length : Int) ≠ 0 by omega)
  have j1:=Int.emod_lt_of_pos b (show (0 : Int) < cl.length by omega)
  rw [j5t j0 j1]
  obtain ⟨j,ej,hj⟩ : ∃ j : Nat,(b % cl.length).toNat = j /\ j < cl.length:=⟨_,rfl,by omega⟩
  rw [ej]
  walk_at "d"
  rw [List.getElem?_map,List.getElem?_eq_getElem hj,z3u]
  have hcc : 0 <= (cl[j]).1 /\ (cl[j]).1 < W /\ 0 <= (cl[j]).2 /\ (cl[j]).2 < Hi:=hcin _ (List.getElem_mem hj)
  have hel:=List.length_eraseIdx_of_lt hj
  generalize cl[j] = cc at hcc ⊢
  rw [Option.map_some,q5g cc]
  walk_at "d"
  have hin : i < nms.length:=by omega
  rw [show (f + (i : Int) - f) = (i : Int) from by omega,q4q,show atI nms (i : Int) = some nms[i] from q3j (List.getElem?_eq_getElem hin)]
  walk_at "d"
  refine ⟨by omega,⟨by omega,by omega⟩,⟨by decide,by decide⟩,by decide,⟨by decide,by decide⟩,by decide,⟨by decide,by decide⟩,⟨b / 7,1 + b / 401 % 6,rfl,by omega,by omega,by omega⟩,fun d hd => ?_⟩
  obtain ⟨_,k',l,e,rfl,l1,l6,lw,lnd⟩:=hd
  simp only [List.cons.injEq,D.int.injEq,and_true] at e
  obtain ⟨_,rfl⟩:=e
  have hlen : (qs.map dPt).length = qs.length:=List.length_map _
  refine ⟨by decide,q3o (n:=_ + 1) (by rw [List.length_map]; omega),hN _ ⟨cl.eraseIdx j,qs ++ [⟨nms[i],cc.1,cc.2,b / 400 % 90,l⟩],_,_,_,_,_,by rw [List.map_append]; rfl,by omega,fun c hc => hcin c (List.mem_of_mem_eraseIdx hc),by simp; omega,?_,fun q hq => ?_⟩⟩
  ·rw [List.map_append,List.nodup_append]
   refine ⟨hq2,by simp,fun x hx y hy e => ?_⟩
   have hy : y = nms[i]:=by simpa using hy
   obtain ⟨q,hq,rfl⟩:=List.mem_map.mp hx
   obtain ⟨j',hj',e'⟩:=(hq3 q hq).1
   have hlt : j' < nms.length:=(List.getElem?_eq_some_iff.mp e').1
   have : nms[j'] = nms[i]:=by rw [<- hy,<- e]; exact (List.getElem?_eq_some_iff.mp e').2
   exact List.pairwise_iff_getElem.mp hnd j' i hlt hin (by omega) this
  ·rcases List.mem_append.mp hq with hq | hq
   ·exact ⟨let ⟨j,hj,e⟩:=(hq3 q hq).1; ⟨j,by omega,e⟩,(hq3 q hq).2⟩
   ·rw [List.mem_singleton] at hq
    subst hq
    exact ⟨⟨i,by omega,List.getElem?_eq_getElem hin⟩,by show 1 <= l.length; omega,l6,fun z hz => by have:=(lw z hz).1; rw [show WY = WYS from rfl] at this; exact this,hcc⟩
 ·rintro ρ ⟨cl,qs,o9,o10,o11,o12,o13,rfl,hcl,hcin,hq1,hq2,hq3⟩
  walk_at "d"
  have hql : qs.length <= 100:=by
   rw [List.length_map,List.length_range] at hq1
   split at hq1 <;> omega
  refine ⟨⟨by decide,by decide⟩,⟨a / 400,W,Hi,rfl,by omega,by omega,by omega,by omega,by omega⟩,fun d h => ?_⟩
  obtain ⟨_,_,_,bs,e,rfl,hbn,hbs⟩:=h
  simp only [List.cons.injEq,D.int.injEq,and_true] at e
  obtain ⟨_,rfl,rfl⟩:=e
  have hmd : ∀ q ∈ qs,1 <= q.name.length /\ q.name.length <= 8 /\ PyData.strOk q.name = true:=fun q hq => by
   obtain ⟨j,_,e⟩:=(hq3 q hq).1
   have this:=hnm _ (List.mem_of_getElem? e)
   have this2:=this
   unfold z1d at this this2
   simp only [Bool.and_eq_true,decide_eq_true_eq] at this
   refine ⟨by omega,by omega,?_⟩
   rw [Bool.and_eq_true] at this2
   rw [z2w,List.all_eq_true]
   intro c hc
   have hc2:=of_decide_eq_true (List.all_eq_true.mp this2.2 c hc)
   exact List.all_eq_true.mp j7m c hc2
  have hq26 : qs.length <= 26:=by
   rw [List.length_map,List.length_range] at hq1
   split at hq1 <;> omega
  refine ⟨by decide,⟨W,Hi,bs,qs⟩,rfl,⟨⟨hql,by show bs.length <= 100; omega,hq2,fun q hq => ?_,fun q hq => ?_,fun b hb => ⟨(hbs b hb).w1,(hbs b hb).h1⟩,fun q hq => (hmd q hq).2.2,fun q hq => (hq3 q hq).2.1,hW.1,hW.2,hH.1,hH.2⟩,hq26,by show bs.length <= 20; omega,fun b hb => ?_,fun q hq => (hmd q hq).2.1,fun q hq => ?_,fun q hq => (hq3 q hq).2.2.2.1⟩⟩
  ·have:=hmd q hq; omega
  ·have:=(hq3 q hq).2.2.1; omega
  ·obtain ⟨c1,c2,c3,c4,c5,c6⟩:=hbs b hb
   exact ⟨c3,by omega,c4,by omega,by omega,by omega,by omega,by omega⟩
  ·obtain ⟨c1,c2,c3,c4⟩:=(hq3 q hq).2.2.2.2
   exact ⟨c1,by omega,c3,by omega⟩
end
open TX
theorem z4m : ∀ l m : List Cel,PyData.eqvAll (D.pys (l.map q2x)) (D.pys (m.map q2x)) = decide (l = m)
 | [],[] => rfl
 | [],_ :: _ => rfl
 | _ :: _,[] => rfl
 | a :: l,c :: m => by
  rw [List.map_cons,List.map_cons,D.pys,D.pys,PyData.eqvAll,z4m l m]
  obtain ⟨a1,a2⟩:=a
  obtain ⟨c1,c2⟩:=c
  rw [Bool.eq_iff_iff]
  simp [q2x,D.py,D.pys,PyData.eqv,PyData.eqvAll]
theorem z1s (l m : List Cel) : deq (.lst (l.map q2x)) (.lst (m.map q2x)) = decide (l = m):=by
 rw [<- z4m]
 simp [deq,D.py,PyData.eqv]
open TX
def k4w (c : Nat) (y : Nat) (r : List Nat) : List Cel:=(r.zipIdx.filter fun a => decide (a.1 = c)).map fun a => ((a.2 : Int),(y : Int))
def q4g (c : Nat) (rows : List (List Nat)) : List Cel:=(rows.zipIdx.map fun a => k4w c a.2 a.1).flatten
theorem k8j (z : Str) : ((q5q z).mapIdx fun i d => D.tup [.int (i : Int),d]) = (cs z).zipIdx.map fun a => D.tup [.int (a.2 : Int),.str (one a.1)]:=by
 refine List.ext_getElem? fun j => ?_
 rw [List.getElem?_mapIdx,List.getElem?_map,List.getElem?_zipIdx]
 unfold q5q
 rw [List.getElem?_map]
 show Option.map _ (Option.map _ (cs z)[j]?) = _
 cases (cs z)[j]? with
 | none => rfl
 | some c => simp; rfl
theorem z2n (c y : Nat) (r : List Nat) : (k4w c y r).length <= r.length:=by
 unfold k4w
 rw [List.length_map]
 exact Nat.le_trans (List.length_filter_le ..) (by simp)
theorem z5h {c m : Nat} : ∀ {l : List (List Nat)},(∀ r ∈ l,r.length <= m) -> (q6e c l).length <= l.length * (m + 1)
 | [],_ => by simp [q6e]
 | [x],h => by
  have:=h x (by simp)
  simp only [q6e,List.length_singleton]
  omega
 | x :: y :: r,h => by
  have h1:=h x (by simp)
  have h2:=z5h (c:=c) (l:=y :: r) fun z hz => h z (.tail _ hz)
  simp only [q6e,List.length_append,List.length_cons] at h2 ⊢
  rw [Nat.succ_mul (r.length + 1)]
  omega
theorem q8k (c : Nat) (l : List (List Nat)) (r : List Nat) : q4g c (l ++ [r]) = q4g c l ++ k4w c l.length r:=by
 unfold q4g
 rw [List.zipIdx_append,List.map_append,List.flatten_append]
 simp
theorem z0l (c : Nat) {rows : List (List Nat)} (h : ∀ r ∈ rows,r.length <= 100) : ∀ i,i <= rows.length -> (q4g c (rows.take i)).length <= i * 100
 | 0,_ => by simp [q4g]
 | i + 1,hi => by
  have ih:=z0l c h i (by omega)
  have hr : i < rows.length:=by omega
  rw [List.take_succ,List.getElem?_eq_getElem hr,Option.toList_some,q8k,List.length_append]
  have h1:=z2n c (rows.take i).length rows[i]
  have h2:=h rows[i] (List.getElem_mem hr)
  omega
theorem one_inj {a c : Nat} : one a = one c ↔ a = c:=by
 constructor
 ·intro h
  have : (one a).cps = (one c).cps:=by rw [h]
  have : #[a] = #[c]:=this
  simpa using this
 ·intro h; rw [h]
section
variable {P : Program} {w : World} {K : PySem.W.Frag} {mg : Str -> Option Value} {base : Heap} {t : Adr} {n : Nat}
structure Rws (x : Str) (rows : List (List Nat)) : Prop where
 jn : cs x = q6e 10 rows
 ne : rows ≠ []
 fr : ∀ r ∈ rows,10 ∉ r
 n1 : rows.length <= 100
 n2 : ∀ r ∈ rows,r.length <= 100
def pre_q0c : List D -> Prop:=fun ds => ∃ (x : Str) (rows : List (List Nat)) (c : Nat),ds = [.str x,.str (one c)] /\ Rws x rows
def post_q0c : List D -> D -> Prop:=fun ds d => ∃ (x : Str) (rows : List (List Nat)) (c : Nat),ds = [.str x,.str (one c)] /\ Rws x rows /\ d = .lst ((q4g c rows).map q2x)
theorem z9h {x : Str} {rows : List (List Nat)} (h : Rws x rows) : (Txt.split x (one 10)).map cs = rows:=by
 have e : x = Str.join (one 10) (rows.map fun r => (⟨r.toArray⟩ : Str)):=by
  refine TX.ext ?_
  rw [h.jn,q8v,List.map_map]
  congr 1
  refine (List.map_id _).symm.trans (List.map_congr_left fun r _ => ?_)
  show r = (r.toArray).toList
  simp
 rw [e,k0c (by simpa using h.ne) (fun y hy => by
  obtain ⟨r,hr,rfl⟩:=List.mem_map.mp hy
  show 10 ∉ (r.toArray).toList
  simpa using h.fr r hr),List.map_map]
 refine (List.map_congr_left fun r _ => ?_).trans (List.map_id _)
 show (r.toArray).toList = r
 simp
theorem ok_q0c (T : Txt K mg t) : q3d P w K mg base CX0 (n + 1) t.f_q0c t.d_q0c ["text","sign"] (spD K [true,true] .n pre_q0c post_q0c):=by
 refine okD T.F_q0c sc_q0c rfl fun cdv A outer s H E hr => ⟨_,(q1i (q4a (i:=2) sc_q0c.nd rfl (Or.inl rfl) (q3k q1h))
   (q1i (q3b PassesOwn.never rfl (z7b rfl T.n_enumerate (PX.nv (q9z k3h PySem.F.plainAttrs_str PySem.F.slot_str_split PySem.F.type_str_split (q1f 0) (q2g (PX.vb q2m) q1h)))) (q4x (n:=2) rfl (q2b (q1n (i:=3) sc_q0c.nd rfl (Or.inr rfl)) (q2b (q1n (i:=4) sc_q0c.nd rfl (Or.inl rfl)) q4p))) (q1m (q3u (z7q 2 PySem.F.slot_list_extend PySem.F.type_list_extend (q5b (osc:=q1j s_q0c) (N:=["text","sign","cells","y","line"]) ["x","found","y","sign"] [none,none,some 3,some 1] ⟨rfl,by decide +kernel,by decide +kernel,by decide +kernel,rfl,by decide +kernel⟩ (PIX.c (k5k rfl T.n_enumerate (q1o 4))) (fun b => (q4x (n:=2) rfl (q2b (q1n (i:=0) (show (["x","found","y","sign"] : List Str).Nodup by decide +kernel) rfl (Or.inl rfl)) (q2b (q1n (i:=1) (show (["x","found","y","sign"] : List Str).Nodup by decide +kernel) rfl (Or.inl rfl)) q4p)))) (fun b => (z0f (q2n (q4j hr.units) (q1f 1) (q1f 3) (q2l _)))) (fun b => (q2v (q1t (q1o 0) (q1t (q1o 2) q1h)))))))))
   (q1m (q4z (i:=2))))),fun vs ds hv hd hp => ?_⟩
 obtain ⟨x,rows,c,rfl,h⟩:=hp
 have hsp:=z9h h
 have hn1:=h.n1
 have hxl : x.length <= 10100:=by
  have h1:=z5h (c:=10) h.n2
  rw [<- h.jn] at h1
  have h2 : (cs x).length = x.length:=Array.length_toList
  have h3 : rows.length * 101 <= 100 * 101:=Nat.mul_le_mul_right _ hn1
  omega
 have enl : Str.ofString "\n" = one 10:=by decide +kernel
 walk_at "d"
 rw [enl]
 generalize Txt.split x (one 10) = L at hsp ⊢
 have hll : L.length = rows.length:=by rw [<- hsp,List.length_map]
 refine ⟨by decide,⟨rfl,q3o (by omega)⟩,?_⟩
 refine q1v (fun i ρ => ∃ (o3 o4 : Option Sl),ρ = [some (.bor (hdV vs) (.str x)),some (.bor (hdV (tlV vs)) (.str (one c))),some (.own (.lst ((q4g c (rows.take i)).map q2x))),o3,o4]) ⟨_,_,rfl⟩ ?_ ?_
 ·rintro i d ρ N hd ⟨o3,o4,rfl⟩ hN
  rw [List.getElem?_mapIdx,List.getElem?_map] at hd
  cases hz : L[i]? with
  | none => rw [hz] at hd; cases hd
  | some z =>
   rw [hz] at hd
   cases hd
   have hr : rows[i]? = some (cs z):=by rw [<- hsp,List.getElem?_map,hz]; rfl
   have hi:=(List.getElem?_eq_some_iff.mp hr).1
   have hzl:=h.n2 _ (List.mem_of_getElem? hr)
   have hal:=z0l c h.n2 i (by omega)
   have htk : q4g c (rows.take (i + 1)) = q4g c (rows.take i) ++ k4w c i (cs z):=by
    rw [List.take_succ,hr,Option.toList_some,q8k,List.length_take,Nat.min_eq_left (by omega)]
   walk_at "d"
   rw [k8j]
   refine ⟨q3o (by rw [List.length_map,List.length_zipIdx]; omega),fun _ => ?_⟩
   refine q5z (fun a => q2x ((a.2 : Int),(i : Int))) (fun a => decide (a.1 = c)) (fun a ha cc hk => ?_) ?_
   ·walk_at "d"
    by_cases e : a.1 = c
    ·rw [if_pos (one_inj.mpr e)]
     rw [decide_eq_true e] at hk
     exact ⟨by decide,hk⟩
    ·rw [if_neg (fun z => e (one_inj.mp z))]
     rw [decide_eq_false e] at hk
     exact hk
   ·have em : List.map (fun (a : Nat × Nat) => q2x ((a.2 : Int),(i : Int))) (List.filter (fun a => decide (a.1 = c)) (cs z).zipIdx) = (k4w c i (cs z)).map q2x:=by
     unfold k4w
     rw [List.map_map]; rfl
    have hrl:=z2n c i (cs z)
    rw [em,<- List.map_append,<- htk]
    refine ⟨q3o (by rw [List.length_map,List.length_map]; omega),hN _ ⟨_,_,rfl⟩⟩
 ·rintro ρ ⟨o3,o4,rfl⟩
  walk_at "d"
  rw [List.length_mapIdx,List.length_map,hll,List.take_length]
  exact ⟨x,rows,c,rfl,h,rfl⟩
def q7f (q : Pt) (cl : List Cel) : Option Nat:=(q2u q).findIdx? fun b => decide (q3h b = cl)
def dN : Option Nat -> D
 | none => .non
 | some k => .int (k : Int)
def pre_q0e : List D -> Prop:=fun ds => ∃ (q : Pt) (cl : List Cel),ds = [dPt q,.lst (cl.map q2x)] /\ 1 <= q.name.length /\ q.name.length <= 8 /\ (0 <= q.x /\ q.x < 20 /\ 0 <= q.y /\ q.y < 20) /\ q.places.length <= 100
def post_q0e : List D -> D -> Prop:=fun ds d => ∃ (q : Pt) (cl : List Cel),ds = [dPt q,.lst (cl.map q2x)] /\ d = dN (q7f q cl)
theorem ok_q0e (T : Txt K mg t) (G_q0m : q3d P w K mg base CX0 (n + 2) t.f_q0m t.d_q0m ["point"] (spD K [true] .n pre_q0m post_q0m)) (G_q0p : q3d P w K mg base CX0 (n + 2) t.f_q0p t.d_q0p ["box"] (spD K [true] .n pre_q0p post_q0p)) : q3d P w K mg base CX0 (n + 3) t.f_q0e t.d_q0e ["point","cells"] (spD K [true,true] .v pre_q0e post_q0e):=by
 refine okD T.F_q0e sc_q0e rfl fun cdv A outer s H E hr => ⟨_,(q1i (q3b PassesOwn.never rfl (z7b rfl T.n_enumerate (PX.nv (q1p G_q0m hr rfl T.m_q0m T.F_q0m.kp T.b_q0m q3a (q2g (q1f 0) q1h)))) (q4x (n:=2) rfl (q2b (q1n (i:=2) sc_q0e.nd rfl (Or.inl rfl)) (q2b (q1n (i:=3) sc_q0e.nd rfl (Or.inl rfl)) q4p))) (q1m (q3z (q2n (q4j hr.units) (PX.nb (q1p G_q0p hr rfl T.m_q0p T.F_q0p.kp T.b_q0p q3a (q2g (q1f 3) q1h))) (q1f 1) (q2l _)) (q1m (q2s (by decide) (q1o 2))) q2w)))
   (q1m (q2s (by decide) q4m))),fun vs ds hv hd hp => ?_⟩
 obtain ⟨q,cl,rfl,h1,h2,hxy,hpl⟩:=hp
 have ps : ∀ o,q7f q cl = o -> post_q0e [dPt q,.lst (cl.map q2x)] (dN o):=fun o e => ⟨q,cl,rfl,by rw [e]⟩
 walk_at "d"
 refine ⟨⟨q,rfl,hpl,by omega⟩,?_⟩
 rintro d ⟨q',e,rfl⟩
 simp only [List.cons.injEq,and_true] at e
 cases q9n e
 walk_at "d"
 refine q1v (fun i ρ => ∃ (o2 o3 : Option Sl),ρ = [some (.bor (hdV vs) (dPt q)),some (.bor (hdV (tlV vs)) (.lst (cl.map q2x))),o2,o3] /\ ∀ j b,j < i -> (q2u q)[j]? = some b -> q3h b ≠ cl) ⟨_,_,rfl,fun j b hj => by omega⟩ ?_ ?_
 ·rintro i d ρ N hd ⟨o2,o3,rfl,hno⟩ hN
  rw [List.getElem?_mapIdx,List.getElem?_map] at hd
  cases hb : (q2u q)[i]? with
  | none => rw [hb] at hd; cases hd
  | some b =>
   rw [hb] at hd
   cases hd
   have hsm : SmB b:=q6d (q:=q) (k:=(i : Int)) (by unfold q7c; rw [if_pos (by omega),Int.toNat_natCast]; exact hb) h1 (by omega) hxy
   walk_at "d"
   refine ⟨⟨b,rfl,hsm⟩,?_⟩
   rintro d ⟨b',e,rfl⟩
   simp only [List.cons.injEq,and_true] at e
   cases q4h e
   refine ⟨⟨q4t _,q4t _⟩,?_⟩
   rw [z1s]
   by_cases c : q3h b = cl
   ·rw [decide_eq_true c]
    walk_at "d"
    refine ps (some i) ?_
    unfold q7f
    rw [List.findIdx?_eq_some_iff_getElem]
    obtain ⟨hi,hbi⟩:=List.getElem?_eq_some_iff.mp hb
    refine ⟨hi,by rw [hbi]; exact decide_eq_true c,fun j hj => ?_⟩
    simpa using hno j _ hj (List.getElem?_eq_getElem (by omega))
   ·rw [decide_eq_false c]
    walk_at "d"
    refine hN _ ⟨_,_,rfl,fun j b' hj hb' => ?_⟩
    by_cases e : j = i
    ·subst e; rw [hb] at hb'; cases hb'; exact c
    ·exact hno j b' (by omega) hb'
 ·rintro ρ ⟨o2,o3,rfl,hno⟩
  walk_at "d"
  refine ps none ?_
  unfold q7f
  rw [List.findIdx?_eq_none_iff]
  intro b hb
  obtain ⟨j,hj⟩:=List.getElem?_of_mem hb
  have hjl:=(List.getElem?_eq_some_iff.mp hj).1
  exact decide_eq_false (hno j b (by simpa using hjl) hj)
end
open TX
def Sep (p : q2k) (s : List (Option Int)) : Prop:=∀ c i j,i < j -> q2e p s c i = true -> q2e p s c j = false
theorem q8r {p : q2k} {s : List (Option Int)} {o : Option Int} {c : Cel} {j : Nat} (h : j < s.length) : q2e p (s ++ [o]) c j = q2e p s c j:=by
 unfold q2e; rw [List.getElem?_append_left h]
theorem q5v {p : q2k} {s : List (Option Int)} {c : Cel} {j : Nat} (h : q2e p s c j = true) : j < s.length:=by
 unfold q2e at h
 by_cases e : j < s.length
 ·exact e
 ·have hn : s[j]? = none:=List.getElem?_eq_none (by omega)
  rw [hn] at h
  cases hp : p.pts[j]? with
  | none => rw [hp] at h; cases h
  | some q => rw [hp] at h; cases h
theorem z0q {p : q2k} {s : List (Option Int)} {o : Option Int} {c : Cel} {q : Pt} (hq : p.pts[s.length]? = some q) (h : q2e p (s ++ [o]) c s.length = true) : ∃ k b,o = some k /\ q7c q k = some b /\ inB b c:=by
 unfold q2e at h
 rw [hq,List.getElem?_append_right (Nat.le_refl _),Nat.sub_self] at h
 cases o with
 | none => exact absurd h (by simp)
 | some k =>
  simp only [List.getElem?_cons_zero] at h
  cases hb : q7c q k with
  | none => rw [hb] at h; cases h
  | some b => rw [hb] at h; exact ⟨k,b,rfl,hb,of_decide_eq_true h⟩
theorem j2n {p : q2k} {s : List (Option Int)} {o : Option Int} {q : Pt} (hq : p.pts[s.length]? = some q) (hs : Sep p s) (h : ∀ k b c,o = some k -> q7c q k = some b -> inB b c -> ∀ j,q2e p s c j = false) : Sep p (s ++ [o]):=by
 intro c i j hij hi
 cases hj : q2e p (s ++ [o]) c j with
 | false => rfl
 | true =>
  exfalso
  have l1:=q5v hj
  rw [List.length_append,List.length_singleton] at l1
  have hil : i < s.length:=by omega
  rw [q8r hil] at hi
  by_cases e : j < s.length
  ·rw [q8r e] at hj
   rw [hs c i j hij hi] at hj; cases hj
  ·have ej : j = s.length:=by omega
   subst ej
   obtain ⟨k,b,e1,e2,e3⟩:=z0q hq hj
   rw [h k b c e1 e2 e3 i] at hi; cases hi
theorem q4y {p : q2k} (ok : OkP p) {q : Pt} (hq : q ∈ p.pts) {k : Int} {b : B4} (h : opB p (q.name,k) = some b) : q7c q k = some b:=by
 obtain ⟨q',hq',e1,e2,_⟩:=q4s h
 rw [<- j0z ok hq' hq e1]; exact e2
section
variable {P : Program} {w : World} {K : PySem.W.Frag} {mg : Str -> Option Value} {base : Heap} {t : Adr} {n : Nat}
def pre_q0j : List D -> Prop:=fun ds => ∃ (ns : List Int) (p : q2k) (tk : List (List Key)) (tv : List D),ds = [.lst (ns.map .int),q2z p,.dT tk tv] /\ PlP p /\ OpT p tk tv
def post_q0j : List D -> D -> Prop:=fun ds d => ∃ (a b : D) (p : q2k) (s : List (Option Int)),ds = [a,q2z p,b] /\ d = .lst (s.map dO) /\ q4n p s /\ Sep p s
theorem ok_q0j (T : Txt K mg t) (G_q0n : q3d P w K mg base CX0 (n) t.f_q0n t.d_q0n ["_law_script","_law_k"] (spD K [true,true] .v pre_q0n post_q0n)) : q3d P w K mg base CX0 (n + 1) t.f_q0j t.d_q0j ["_law_script","_law_plan_here","_law_opened"] (spD K [true,true,true] .n pre_q0j post_q0j):=by
 refine okD T.F_q0j sc_q0j rfl fun cdv A outer s H E hr => ⟨_,(q1i (q4a (i:=3) sc_q0j.nd rfl (Or.inl rfl) (q3k q1h))
   (q1i (q4a (i:=4) sc_q0j.nd rfl (Or.inr rfl) q9m)
   (q1i (q3b PassesOwn.never rfl (q2o rfl T.n_range (q1t (q2c q4k rfl T.n_len PySem.boot_len (q2g (PX.vb (q1l (hu1 hr) (q1f 1) (PX.vb q1g) (fun _ _ => rfl))) q1h)) q1h)) (q1n (i:=5) sc_q0j.nd rfl (Or.inl rfl)) (q1i (q1u (i:=6) sc_q0j.nd rfl (Or.inl rfl) (q1k q2r (PX.vb (q1p G_q0n hr rfl T.m_q0n T.F_q0n.kp T.b_q0n q3a (q2g (q1f 0) (q2g (PX.vb (q1k q1q (PX.vb q1g) (q1f 5))) q1h)))) (PX.vb q1g)))
   (q1i (q1u (i:=7) sc_q0j.nd rfl (Or.inl rfl) (q2c q4k rfl T.n_len PySem.boot_len (q2g (PX.vb (q1l (hu1 hr) (PX.vb (q1l (hu1 hr) (PX.vb (q1l (hu1 hr) (q1f 1) (PX.vb q1g) (fun _ _ => rfl))) (q1f 5) (fun _ _ => rfl))) (PX.vb q1g) (fun _ _ => rfl))) q1h)))
   (q1i (q1u (i:=8) sc_q0j.nd rfl (Or.inl rfl) q4m)
   (q1i (q3b PassesOwn.never rfl (q2o rfl T.n_range (q1t (q1o 7) q1h)) (q1n (i:=9) sc_q0j.nd rfl (Or.inl rfl)) (q1i (q1u (i:=10) sc_q0j.nd rfl (Or.inl rfl) (q2v (q1t (q1l (hu1 hr) (PX.vb (q1l (hu1 hr) (PX.vb (q1l (hu1 hr) (q1f 1) (PX.vb q1g) (fun _ _ => rfl))) (q1f 5) (fun _ _ => rfl))) (PX.vb q1g) (fun _ _ => rfl)) (q1t (q1k q2q (PX.vb (q1k q1q (q1f 6) (q1f 9))) (q1f 7)) q1h))))
   (q1m (q3z (PWX.t (z5b (q2n z5m (q1f 8) (PX.vb q4m) (q2l _)) (z5b (q2n j2m (PX.vb (q1k q2q (PX.vb (q1k q2r (q1f 6) (PX.vb q1g))) (PX.vb q1g))) (PX.vb q1g) (q2l _)) (z6d (q2n (k9i (hu1 hr)) (q1f 10) (q1f 2) (by with_unfolding_all rfl)))))) (q1m (q3z (q2n (q4j hr.units) (PX.nb (q5b (osc:=q1j s_q0j) (N:=["_law_script","_law_plan_here","_law_opened","_law_setting_here","_law_taken","_law_k","_law_number_here","_law_many","_law_chosen","_law_j","_law_room","_law_spot"]) ["_law_spot","_law_taken"] [none,some 4] ⟨rfl,by decide +kernel,by decide +kernel,by decide +kernel,rfl,by decide +kernel⟩ (q7n rfl (PX.vb (k1r (hu1 hr) (q1f 2) (q1f 10) (fun _ _ => rfl)))) (fun b => (q1n (i:=0) (show (["_law_spot","_law_taken"] : List Str).Nodup by decide +kernel) rfl (Or.inl rfl))) (fun b => (z0f (q2n (k9i (hu1 hr)) (q1f 0) (q1f 1) (by with_unfolding_all rfl)))) (fun b => (q1o 0)))) (PX.nb (q3k q1h)) (q2l _)) (q1m (q1u (i:=8) sc_q0j.nd rfl (Or.inl rfl) (q1l (hu1 hr) (q1f 10) (PX.vb q1g) (fun _ _ => rfl)))) q2w)) q2w))))
   (q1i (q3z (q2n z3g (q1f 8) (PX.vb q4m) (q2l _)) (q1m (q3b PassesOwn.never rfl (q6l q5j (k1r (hu1 hr) (q1f 2) (PX.vb (q2v (q1t (q1l (hu1 hr) (PX.vb (q1l (hu1 hr) (PX.vb (q1l (hu1 hr) (q1f 1) (PX.vb q1g) (fun _ _ => rfl))) (q1f 5) (fun _ _ => rfl))) (PX.vb q1g) (fun _ _ => rfl)) (q1t (q1o 8) q1h)))) (fun _ _ => rfl))) (q1n (i:=11) sc_q0j.nd rfl (Or.inl rfl)) (q1m (q5o 4 (hu1 hr) (q1f 11) z9o)))) q2w)
   (q1m (q3u (q5k 3 PySem.F.slot_list_append PySem.F.type_list_append q3s (q4i (q5n (q1o 8)) q5m))))))))))
   (q1m (q4z (i:=3)))))),fun vs ds hv hd hp => ?_⟩
 obtain ⟨ns,p,tk,tv,rfl,L,O⟩:=hp
 have hpn:=L.pn
 have ps : ∀ s,q4n p s -> Sep p s -> post_q0j [D.lst (List.map D.int ns),q2z p,D.dT tk tv] (.lst (s.map dO)):=fun s h h2 => ⟨_,_,p,s,rfl,rfl,h,h2⟩
 rw [q2t] at ps ⊢
 walk_at "d"
 rw [List.length_map]
 refine ⟨by decide,⟨by omega,by omega⟩,?_⟩
 refine q1v (fun i ρ => ∃ (s : List (Option Int)) (ck : List (List Key)) (cv : List D) (g : Cel -> Option D) (o5 o6 o7 o8 o9 o10 o11 : Option Sl),ρ = [some (.bor (hdV vs) (.lst (ns.map .int))),some (.bor (hdV (tlV vs)) (.tup [.int p.wide,.int p.high,.tup (p.kept.map q4c),.tup (p.pts.map dPt)])),some (.bor (hdV (tlV (tlV vs))) (.dT tk tv)),some (.own (.lst (s.map dO))),some (.own (.dT ck cv)),o5,o6,o7,o8,o9,o10,o11] /\ TB kC ck cv g (i * 400) /\ s.length = i /\ (∀ (j : Nat) q k,p.pts[j]? = some q -> s[j]? = some (some k) -> ∃ b,opB p (q.name,k) = some b) /\ Sep p s /\ ∀ c j,q2e p s c j = true -> g c ≠ none) ?_ ?_ ?_
 ·exact ⟨[],[],[],_,_,_,_,_,_,_,_,rfl,(TB.new kC).as (fun _ => rfl) (by omega),rfl,by simp,fun c i j _ h => absurd (q5v h) (by simp),fun c j h => absurd (q5v h) (by simp)⟩
 ·rintro i d ρ N hd ⟨s,ck,cv,g,o5,o6,o7,o8,o9,o10,o11,rfl,tb,hs,hop,hsep,hcov⟩ hN
  obtain ⟨hi,rfl⟩:=q5x hd
  have hi : i < p.pts.length:=by omega
  obtain ⟨q,hq⟩ : ∃ q,p.pts[i]? = some q:=⟨_,List.getElem?_eq_getElem hi⟩
  have hqm:=List.mem_of_getElem? hq
  have hat : atI (p.pts.map dPt) (0 + (i : Int)) = some (.tup [.str q.name,.int q.x,.int q.y,.int q.loss,.tup (q.places.map q5s)]):=by
   rw [Int.zero_add,q4q,show atI p.pts (i : Int) = some q from q3j hq]; rfl
  have hpl:=L.ok.pl q hqm
  walk_at "d"
  refine ⟨⟨ns,2 + (0 + (i : Int)),rfl,by omega,by omega⟩,?_⟩
  rintro d ⟨nn,rfl,hnn⟩
  walk_at "d"
  rw [hat]
  walk_at "d"
  rw [List.length_map]
  refine ⟨⟨by decide,by decide⟩,⟨by omega,by omega⟩,?_⟩
  refine q1v (fun j ρ => ∃ (ch : Option Int) (o9 o10 : Option Sl),ρ = [some (.bor (hdV vs) (.lst (ns.map .int))),some (.bor (hdV (tlV vs)) (.tup [.int p.wide,.int p.high,.tup (p.kept.map q4c),.tup (p.pts.map dPt)])),some (.bor (hdV (tlV (tlV vs))) (.dT tk tv)),some (.own (.lst (s.map dO))),some (.own (.dT ck cv)),some (.shr (.int (0 + (i : Int)))),some (.shr (.int (nn / 31))),some (.shr (.int (q.places.length : Int))),some (.shr (dO ch)),o9,o10,o11] /\ ∀ k,ch = some k -> ∃ b,opB p (q.name,k) = some b /\ ∀ c,inB b c -> g c = none) ?_ ?_ ?_
  ·exact ⟨none,_,_,rfl,fun k h => by cases h⟩
  ·rintro j d ρ N2 hd ⟨ch,o9,o10,rfl,hch⟩ hN2
   obtain ⟨hj,rfl⟩:=q5x hd
   have hj : j < q.places.length:=by omega
   walk_at "d"
   rw [hat]
   walk_at "d"
   refine ⟨by omega,by decide,?_⟩
   generalize (nn / 31 + (0 + (j : Int))) % (q.places.length : Int) = k
   have hkr : ([Sum.inr q.name,Sum.inl k] : List Key) = kR (q.name,k):=rfl
   rw [hkr]
   have hkeep : N2 [some (.bor (hdV vs) (.lst (ns.map .int))),some (.bor (hdV (tlV vs)) (.tup [.int p.wide,.int p.high,.tup (p.kept.map q4c),.tup (p.pts.map dPt)])),some (.bor (hdV (tlV (tlV vs))) (.dT tk tv)),some (.own (.lst (s.map dO))),some (.own (.dT ck cv)),some (.shr (.int (0 + (i : Int)))),some (.shr (.int (nn / 31))),some (.shr (.int (q.places.length : Int))),some (.shr (dO ch)),some (.shr (.int (0 + (j : Int)))),some (.shr (.tup [.str q.name,.int k])),o11]:=hN2 _ ⟨ch,_,_,rfl,hch⟩
   have hlk : q3m tk tv (kR (q.name,k)) = (opB p (q.name,k)).map dOc:=O.at' _
   cases ch with
   | some c => exact q5i (fun z => absurd (show false = true from z) (by decide)) fun _ => hkeep
   | none =>
    refine q5i (fun _ => ?_) fun z => absurd rfl z
    refine ⟨⟨by decide,by decide⟩,by decide,q5i (fun c1 => ?_) fun c1 => hkeep⟩
    cases hob : opB p (q.name,k) with
    | none =>
     rw [hlk,hob]
     exact hkeep
    | some b =>
     rw [hlk,hob]
     obtain ⟨q',hq',e1,e2,_⟩:=q4s hob
     have hsm:=q6d e2 (L.ok.nm q' hq').1 (Nat.le_trans (L.n8 q' hq') (by decide)) (L.xy q' hq')
     have hlc:=q4f hsm
     rw [Option.map_some,z7j]
     walk_at "d"
     refine ⟨q3o (by rw [List.length_map]; omega),fun _ => ?_⟩
     refine q5z q2x (fun c => (q3m ck cv (kC c)).isSome) (fun c hc kk hk => ?_) ?_
     ·rw [q5g] at hk ⊢
      walk_at "d"
      have ek : kC c = [Sum.inl c.1,Sum.inl c.2]:=rfl
      rw [ek] at hk
      cases hls : (q3m ck cv [Sum.inl c.1,Sum.inl c.2]).isSome with
      | true => rw [hls] at hk; exact hk
      | false => rw [hls] at hk; exact hk
     ·refine ⟨by decide,⟨q4t _,rfl⟩,q5i (fun c2 => ?_) fun c2 => hkeep⟩
      refine hN2 _ ⟨some k,_,_,rfl,fun k' h => ?_⟩
      cases h
      refine ⟨b,hob,fun c hc => ?_⟩
      rw [z0e,List.isEmpty_iff,List.filter_eq_nil_iff] at c2
      have:=c2 c ((q2p hsm.pos).mpr hc)
      rw [tb.at'] at this
      cases hgc : g c with
      | none => rfl
      | some z => rw [hgc] at this; exact absurd rfl this
  ·rintro ρ ⟨ch,o9,o10,rfl,hch⟩
   walk_at "d"
   have hsz:=tb.sz
   have happ : ∀ (ck' : List (List Key)) (cv' : List D) (g' : Cel -> Option D) (o5 o6 o7 o9 o10 o11 : Option Sl),TB kC ck' cv' g' ((i + 1) * 400) -> (∀ c,(g c ≠ none \/ ∃ k b,ch = some k /\ q7c q k = some b /\ inB b c) -> g' c ≠ none) -> N [some (.bor (hdV vs) (.lst (ns.map .int))),some (.bor (hdV (tlV vs)) (.tup [.int p.wide,.int p.high,.tup (p.kept.map q4c),.tup (p.pts.map dPt)])),some (.bor (hdV (tlV (tlV vs))) (.dT tk tv)),some (.own (.lst (s.map dO ++ [dO ch]))),some (.own (.dT ck' cv')),o5,o6,o7,some (.shr (dO ch)),o9,o10,o11]:=by
    intro ck' cv' g' o5 o6 o7 o9 o10 o11 tb' hg'
    have hqs : p.pts[s.length]? = some q:=by rw [hs]; exact hq
    refine hN _ ⟨s ++ [ch],ck',cv',g',_,_,_,_,_,_,_,by rw [List.map_append]; rfl,tb',by simp [hs],fun j q' k h1 h2 => ?_,j2n hqs hsep fun k b c e1 e2 e3 j => ?_,fun c j hj => ?_⟩
    rotate_left
    ·obtain ⟨b',hb',hfree⟩:=hch k e1
     rw [q4y L.ok hqm hb'] at e2
     cases e2
     cases hbj : q2e p s c j with
     | false => rfl
     | true => exact absurd (hfree c e3) (hcov c j hbj)
    ·by_cases e : j < s.length
     ·rw [q8r e] at hj
      exact hg' c (.inl (hcov c j hj))
     ·have l1:=q5v hj
      rw [List.length_append,List.length_singleton] at l1
      have ej : j = s.length:=by omega
      subst ej
      exact hg' c (.inr (z0q hqs hj))
    by_cases hj : j < s.length
    ·rw [List.getElem?_append_left hj] at h2
     exact hop j q' k h1 h2
    ·rw [List.getElem?_append_right (by omega)] at h2
     have hji : j = i:=by
      by_cases e : j - s.length = 0
      ·omega
      ·rw [List.getElem?_eq_none (by simp; omega)] at h2; cases h2
     rw [hji,hs,Nat.sub_self] at h2
     rw [hji,hq] at h1
     cases h1
     obtain ⟨b',hb',_⟩:=hch k (by simpa using h2)
     exact ⟨b',hb'⟩
   have hsl : (s.map dO).length < sizeLine:=Nat.lt_of_lt_of_le (show _ < 100000 by rw [List.length_map]; omega) (by decide)
   cases ch with
   | none =>
    refine q5i (fun z => absurd (show true = false from z) (by decide)) fun _ => ?_
    exact ⟨hsl,happ ck cv g _ _ _ _ _ _ (tb.as (fun _ => rfl) (by omega)) fun c h => h.elim id fun ⟨k,b,e,_⟩ => by cases e⟩
   | some k =>
    refine q5i (fun _ => ?_) fun z => absurd rfl z
    rw [hat]
    obtain ⟨b,hob,_⟩:=hch k rfl
    have hlk : q3m tk tv (kR (q.name,k)) = (opB p (q.name,k)).map dOc:=O.at' _
    obtain ⟨q',hq',e1,e2,_⟩:=q4s hob
    have hsm:=q6d e2 (L.ok.nm q' hq').1 (Nat.le_trans (L.n8 q' hq') (by decide)) (L.xy q' hq')
    have hlc:=q4f hsm
    have ed : dO (some k) = .int k:=rfl
    rw [ed] at happ ⊢
    walk_at "d"
    have hkr : ([Sum.inr q.name,Sum.inl k] : List Key) = kR (q.name,k):=rfl
    rw [hkr,hlk,hob,Option.map_some,z7j]
    walk_at "d"
    refine ⟨by decide,?_⟩
    refine q1v (fun j ρ => ∃ (ck' : List (List Key)) (cv' : List D) (g' : Cel -> Option D) (o11 : Option Sl),ρ = [some (.bor (hdV vs) (.lst (ns.map .int))),some (.bor (hdV (tlV vs)) (.tup [.int p.wide,.int p.high,.tup (p.kept.map q4c),.tup (p.pts.map dPt)])),some (.bor (hdV (tlV (tlV vs))) (.dT tk tv)),some (.own (.lst (s.map dO))),some (.own (.dT ck' cv')),some (.shr (.int (0 + (i : Int)))),some (.shr (.int (nn / 31))),some (.shr (.int (q.places.length : Int))),some (.shr (.int k)),o9,o10,o11] /\ TB kC ck' cv' g' (i * 400 + j) /\ (∀ c,g c ≠ none -> g' c ≠ none) /\ ∀ c ∈ (q1r b).take j,g' c ≠ none) ?_ ?_ ?_
    ·exact ⟨ck,cv,g,_,rfl,tb,fun _ h => h,by simp⟩
    ·rintro j d ρ N2 hd ⟨ck',cv',g',o11,rfl,tb',hg1,hg2⟩ hN2
     rw [List.getElem?_map] at hd
     cases hc : (q1r b)[j]? with
     | none => rw [hc] at hd; cases hd
     | some c =>
      rw [hc] at hd
      cases hd
      have hj:=(List.getElem?_eq_some_iff.mp hc).1
      have hsz':=tb'.sz
      rw [q5g]
      walk_at "d"
      have hsl' : cv'.length < sizeLine:=Nat.lt_of_lt_of_le (show _ < 100000 by omega) (by decide)
      refine ⟨hsl',hN2 _ ⟨_,_,_,_,rfl,(TB.put z8h tb' c (.bl true)).as (fun _ => rfl) (by omega),fun z hz => ?_,fun z hz => ?_⟩⟩
      ·by_cases e : z = c
       ·rw [if_pos e]; simp
       ·rw [if_neg e]; exact hg1 z hz
      ·by_cases e : z = c
       ·rw [if_pos e]; simp
       ·rw [if_neg e]
        rw [List.take_succ,hc,Option.toList_some] at hz
        rcases List.mem_append.mp hz with hz | hz
        ·exact hg2 z hz
        ·exact absurd (List.mem_singleton.mp hz) e
    ·rintro ρ ⟨ck',cv',g',o11,rfl,tb',hg1,hg2⟩
     rw [List.length_map] at tb' hg2
     walk_at "d"
     exact ⟨hsl,happ ck' cv' g' _ _ _ _ _ _ (tb'.as (fun _ => rfl) (by omega)) fun c h => h.elim (hg1 c) fun ⟨k',b',e,e2,e3⟩ => by
      cases e
      rw [q4y L.ok hqm hob] at e2
      cases e2
      exact hg2 c (by rw [List.take_length]; exact (q2p hsm.pos).mpr e3)⟩
 ·rintro ρ ⟨s,ck,cv,g,o5,o6,o7,o8,o9,o10,o11,rfl,tb,hs,hop,hsep,_⟩
  walk_at "d"
  rw [List.length_map,List.length_range] at hs
  exact ps s ⟨by omega,hop⟩ hsep
end
open TX
def sgn (o : Option Nat) : Nat:=o.getD 46
def rowsOf (p : q2k) (g : Cel -> Option Nat) : List (List Nat):=(List.range p.high.toNat).map fun (y : Nat) => (List.range p.wide.toNat).map fun (x : Nat) => sgn (g ((x : Int),(y : Int)))
def dSg (c : Nat) : D:=.str (one c)
theorem z1t {i : Nat} (h : i < 26) : atI (Str.ofString "abcdefghijklmnopqrstuvwxyz").cps.toList (i : Int) = some (smI i):=by
 have : ∀ j : Fin 26,(Str.ofString "abcdefghijklmnopqrstuvwxyz").cps.toList[j.val]? = some (smI j.val):=by decide +kernel
 exact q3j (this ⟨i,h⟩)
theorem j8r {i : Nat} (h : i < 26) : atI (Str.ofString "ABCDEFGHIJKLMNOPQRSTUVWXYZ").cps.toList (i : Int) = some (grI i):=by
 have : ∀ j : Fin 26,(Str.ofString "ABCDEFGHIJKLMNOPQRSTUVWXYZ").cps.toList[j.val]? = some (grI j.val):=by decide +kernel
 exact q3j (this ⟨i,h⟩)
theorem k4s {i : Nat} (h : i < 26) : Txt.upper (one (smI i)) = one (grI i):=by
 have : ∀ j : Fin 26,Txt.upper (one (smI j.val)) = one (grI j.val):=by decide +kernel
 exact this ⟨i,h⟩
theorem z1m : ∀ l : List Nat,cs (Str.join (Str.ofString "") (l.map one)) = l
 | [] => rfl
 | [a] => rfl
 | a :: b :: q => by
  show cs (one a ++ Str.ofString "" ++ Str.join (Str.ofString "") ((b :: q).map one)) = _
  rw [q6a,q6a,z1m (b :: q)]
  rfl
theorem z0o (l : List Nat) : cs (Txt.join (Str.ofString "") (l.map one)) = l:=by
 have h : Txt.join (Str.ofString "") (l.map one) = Str.join (Str.ofString "") (l.map one):=StrLaws.glued_eq_join (Str.ofString "") (l.map one)
 rw [h]
 exact z1m l
section
variable {P : Program} {w : World} {K : PySem.W.Frag} {mg : Str -> Option Value} {base : Heap} {t : Adr} {n : Nat}
def SgT (g : Cel -> Option Nat) (m : Nat) (tk : List (List Key)) (tv : List D) : Prop:=TB kC tk tv (fun c => (g c).map dSg) m
theorem SgT.put {g : Cel -> Option Nat} {m : Nat} {tk : List (List Key)} {tv : List D} (h : SgT g m tk tv) (c : Cel) (ch : Nat) : SgT (fun z => if z = c then some ch else g z) (m + 1) (q7b tk (kC c)) (q6j tk tv (kC c) (dSg ch)) :=
 (TB.put z8h h c (dSg ch)).as (fun z => by
  by_cases e : z = c
  ·simp [e]
  ·simp [e]) (Nat.le_refl _)
theorem z1r {b : B4} (h : SmB b) : (q3h b).length <= 400:=by
 unfold q3h
 rw [z2h,List.length_range]
 have h1:=h.w2
 have h2:=h.h2
 exact Nat.le_trans (Nat.mul_le_mul (show _ <= 20 by omega) (show _ <= 20 by omega)) (by decide)
def pre_q0g : List D -> Prop:=fun ds => ∃ p : q2k,ds = [q2z p] /\ PlP p
def post_q0g : List D -> D -> Prop:=fun ds d => ∃ (p : q2k) (tk : List (List Key)) (tv : List D),ds = [q2z p] /\ d = .dT tk tv /\ SgT (q9c p) 8000 tk tv
theorem ok_q0g (T : Txt K mg t) (G_q0p : q3d P w K mg base CX0 (n) t.f_q0p t.d_q0p ["box"] (spD K [true] .n pre_q0p post_q0p)) : q3d P w K mg base CX0 (n + 1) t.f_q0g t.d_q0g ["plan"] (spD K [true] .n pre_q0g post_q0g):=by
 refine okD T.F_q0g sc_q0g rfl fun cdv A outer s H E hr => ⟨_,(q1i (q4a (i:=1) sc_q0g.nd rfl (Or.inl rfl) q9m)
   (q1i (q3b PassesOwn.never rfl (q6l q5j (q1l (hu1 hr) (q1f 0) (PX.vb q1g) (fun _ _ => rfl))) (q1n (i:=2) sc_q0g.nd rfl (Or.inl rfl)) (q1m (q3b PassesOwn.never rfl (q6l q5j (PX.nv (q1p G_q0p hr rfl T.m_q0p T.F_q0p.kp T.b_q0p q3a (q2g (q1f 2) q1h)))) (q1n (i:=3) sc_q0g.nd rfl (Or.inl rfl)) (q1m (q5o 1 (hu1 hr) (q1f 3) q2m)))))
   (q1m (q4z (i:=1))))),fun vs ds hv hd hp => ?_⟩
 obtain ⟨p,rfl,L⟩:=hp
 have hkn:=L.kn
 have ps : ∀ tk tv,SgT (q9c p) 8000 tk tv -> post_q0g [q2z p] (.dT tk tv):=fun tk tv h => ⟨p,tk,tv,rfl,rfl,h⟩
 rw [q2t] at ps ⊢
 walk_at "d"
 refine q1v (fun k ρ => ∃ (tk : List (List Key)) (tv : List D) (g : Cel -> Option Nat) (o2 o3 : Option Sl),ρ = [some (.bor (hdV vs) (.tup [.int p.wide,.int p.high,.tup (p.kept.map q4c),.tup (p.pts.map dPt)])),some (.own (.dT tk tv)),o2,o3] /\ SgT g (k * 400) tk tv /\ ∀ c,g c = if (p.kept.take k).any (fun b => decide (inB b c)) = true then some 35 else none) ?_ ?_ ?_
 ·exact ⟨[],[],fun _ => none,_,_,rfl,(TB.new kC).as (fun _ => rfl) (by omega),fun c => by simp⟩
 ·rintro i d ρ N hd ⟨tk,tv,g,o2,o3,rfl,tb,hg⟩ hN
  rw [List.getElem?_map] at hd
  cases hb : p.kept[i]? with
  | none => rw [hb] at hd; cases hd
  | some b =>
   rw [hb] at hd
   cases hd
   have hbm:=List.mem_of_getElem? hb
   have hbi:=(List.getElem?_eq_some_iff.mp hb).1
   have hsm:=L.ks b hbm
   have hlc:=z1r hsm
   walk_at "d"
   refine ⟨⟨b,rfl,hsm⟩,?_⟩
   rintro d ⟨b',e,rfl⟩
   simp only [List.cons.injEq,and_true] at e
   cases q4h e
   walk_at "d"
   refine q1v (fun j ρ => ∃ (tk : List (List Key)) (tv : List D) (g' : Cel -> Option Nat) (o3 : Option Sl),ρ = [some (.bor (hdV vs) (.tup [.int p.wide,.int p.high,.tup (p.kept.map q4c),.tup (p.pts.map dPt)])),some (.own (.dT tk tv)),some (.shr (q4c b)),o3] /\ SgT g' (i * 400 + j) tk tv /\ ∀ c,g' c = if c ∈ (q3h b).take j then some 35 else g c) ?_ ?_ ?_
   ·exact ⟨tk,tv,g,_,rfl,tb,fun c => by simp⟩
   ·rintro j d ρ N2 hd ⟨tk,tv,g',o3,rfl,tb,hg'⟩ hN2
    rw [List.getElem?_map] at hd
    cases hc : (q3h b)[j]? with
    | none => rw [hc] at hd; cases hd
    | some c =>
     rw [hc] at hd
     cases hd
     have hj:=(List.getElem?_eq_some_iff.mp hc).1
     have hsz:=tb.sz
     rw [q5g]
     walk_at "d"
     have hsl : tv.length < sizeLine:=Nat.lt_of_lt_of_le (show _ < 100000 by omega) (by decide)
     refine ⟨hsl,hN2 _ ⟨_,_,_,_,rfl,SgT.put tb c 35,fun z => ?_⟩⟩
     rw [List.take_add_one,hc,hg' z]
     by_cases ez : z = c
     ·simp [ez]
     ·simp [ez]
   ·rintro ρ ⟨tk,tv,g',o3,rfl,tb,hg'⟩
    rw [List.length_map] at tb
    rw [List.length_map,List.take_length] at hg'
    refine hN _ ⟨tk,tv,g',_,_,rfl,tb.as (fun _ => rfl) (by omega),fun c => ?_⟩
    rw [hg',hg,List.take_add_one,hb,List.any_append]
    by_cases ec : inB b c
    ·rw [if_pos (q4r.mpr ec),if_pos]
     simp [ec]
    ·rw [if_neg (fun z => ec (q4r.mp z))]
     have e0 : (Option.toList (some b)).any (fun b => decide (inB b c)) = false:=by
      show (decide (inB b c) || false) = false
      rw [decide_eq_false ec]; rfl
     rw [e0,Bool.or_false]
 ·rintro ρ ⟨tk,tv,g,o2,o3,rfl,tb,hg⟩
  rw [List.length_map] at hg tb
  rw [List.take_length] at hg
  walk_at "d"
  exact ps tk tv (tb.as (fun c => by rw [hg]; rfl) (by omega))
def pre_q0q : List D -> Prop:=fun ds => ∃ (p : q2k) (s : List (Option Int)),ds = [q2z p,.lst (s.map dO)] /\ PlP p /\ q4n p s
def post_q0q : List D -> D -> Prop:=fun ds d => ∃ (p : q2k) (s : List (Option Int)) (tk : List (List Key)) (tv : List D),ds = [q2z p,.lst (s.map dO)] /\ d = .dT tk tv /\ SgT (sgP p s p.pts.length) 30000 tk tv
theorem q7h {a b : List (Option Int)} (h : a.map dO = b.map dO) : a = b:=by
 refine q8s (fun x y e => ?_) h
 cases x <;> cases y <;> simp_all [dO]
theorem z7r (p : q2k) (s : List (Option Int)) (i : Nat) (c : Cel) : sgP p s (i + 1) c = if q2e p s c i = true then some (smI i) else if q8q p c i = true then some (grI i) else sgP p s i c:=rfl
theorem ok_q0q (T : Txt K mg t) (G_q0g : q3d P w K mg base CX0 (n + 2) t.f_q0g t.d_q0g ["plan"] (spD K [true] .n pre_q0g post_q0g)) (G_q0p : q3d P w K mg base CX0 (n + 2) t.f_q0p t.d_q0p ["box"] (spD K [true] .n pre_q0p post_q0p)) (G_q0m : q3d P w K mg base CX0 (n + 2) t.f_q0m t.d_q0m ["point"] (spD K [true] .n pre_q0m post_q0m)) : q3d P w K mg base CX0 (n + 3) t.f_q0q t.d_q0q ["plan","setting"] (spD K [true,true] .n pre_q0q post_q0q):=by
 refine okD T.F_q0q sc_q0q rfl fun cdv A outer s H E hr => ⟨_,(q1i (q4a (i:=2) sc_q0q.nd rfl (Or.inl rfl) (q1p G_q0g hr rfl T.m_q0g T.F_q0g.kp T.b_q0g q3a (q2g (q1f 0) q1h)))
   (q1i (q3b PassesOwn.never rfl (q9k rfl T.n_enumerate (q1l (hu1 hr) (q1f 0) (PX.vb q1g) (fun _ _ => rfl))) (q4x (n:=2) rfl (q2b (q1n (i:=3) sc_q0q.nd rfl (Or.inl rfl)) (q2b (q1n (i:=4) sc_q0q.nd rfl (Or.inl rfl)) q4p))) (q1i (k3r 2 (hu1 hr) (q1t (q1l (hu1 hr) (q1f 4) (PX.vb q1g) (fun _ _ => rfl)) (q1t (q1l (hu1 hr) (q1f 4) (PX.vb q1g) (fun _ _ => rfl)) q1h)) (z7i z5g PySem.F.plainAttrs_str PySem.F.slot_str_upper PySem.F.type_str_upper (PX.vb (q1l (hu1 hr) (PX.vb (z2v rfl T.c_LETTERS T.r_LETTERS T.d_LETTERS)) (q1f 3) (fun _ _ => rfl)))))
   (q1m (q3z (q2n z3g (PX.vb (q1l (hu1 hr) (q1f 1) (q1f 3) (fun _ _ => rfl))) (PX.vb q4m) (q2l _)) (q1m (q3b PassesOwn.never rfl (q6l q5j (PX.nv (q1p G_q0p hr rfl T.m_q0p T.F_q0p.kp T.b_q0p q3a (q2g (PX.vb (q1l (hu1 hr) (PX.nb (q1p G_q0m hr rfl T.m_q0m T.F_q0m.kp T.b_q0m q3a (q2g (q1f 4) q1h))) (PX.vb (q1l (hu1 hr) (q1f 1) (q1f 3) (fun _ _ => rfl))) (fun _ _ => rfl))) q1h)))) (q1n (i:=5) sc_q0q.nd rfl (Or.inl rfl)) (q1m (q5o 2 (hu1 hr) (q1f 5) (q1l (hu1 hr) (PX.vb (z2v rfl T.c_LETTERS T.r_LETTERS T.d_LETTERS)) (q1f 3) (fun _ _ => rfl)))))) q2w))))
   (q1m (q4z (i:=2))))),fun vs ds hv hd hp => ?_⟩
 obtain ⟨p,s,rfl,L,G⟩:=hp
 have hpn:=L.pn
 have ps : ∀ tk tv,SgT (sgP p s p.pts.length) 30000 tk tv -> post_q0q [q2z p,.lst (s.map dO)] (.dT tk tv):=fun tk tv h => ⟨p,s,tk,tv,rfl,rfl,h⟩
 walk_at "d"
 refine ⟨⟨p,rfl,L⟩,?_⟩
 rintro d ⟨p',tk,tv,e,rfl,tb⟩
 simp only [List.cons.injEq,and_true] at e
 cases q3i e
 rw [q2t] at ps ⊢
 walk_at "d"
 refine q1v (fun i ρ => ∃ (tk : List (List Key)) (tv : List D) (o3 o4 o5 : Option Sl),ρ = [some (.bor (hdV vs) (.tup [.int p.wide,.int p.high,.tup (p.kept.map q4c),.tup (p.pts.map dPt)])),some (.bor (hdV (tlV vs)) (.lst (s.map dO))),some (.own (.dT tk tv)),o3,o4,o5] /\ SgT (sgP p s i) (8000 + i * 500) tk tv) ?_ ?_ ?_
 ·exact ⟨tk,tv,_,_,_,rfl,tb.as (fun _ => rfl) (by omega)⟩
 ·rintro i d ρ N hd ⟨tk,tv,o3,o4,o5,rfl,tb⟩ hN
  rw [List.getElem?_mapIdx,List.getElem?_map] at hd
  cases hq : p.pts[i]? with
  | none => rw [hq] at hd; cases hd
  | some q =>
   rw [hq] at hd
   cases hd
   have hi:=(List.getElem?_eq_some_iff.mp hq).1
   have hqm:=List.mem_of_getElem? hq
   have hsz:=tb.sz
   obtain ⟨so,hso⟩ : ∃ so,s[i]? = some so:=⟨_,List.getElem?_eq_getElem (by rw [G.len]; exact hi)⟩
   have hat : atI (s.map dO) (i : Int) = some (dO so):=by rw [q4q,show atI s (i : Int) = some so from q3j hso]; rfl
   have hlo:=z1t (i:=i) (by omega)
   have hup:=k4s (i:=i) (by omega)
   have h1 : (Txt.upper (one (smI i))).length = 1:=by rw [hup]; rfl
   have htb:=SgT.put tb (q.x,q.y) (grI i)
   have hpt : ∀ c,q8q p c i = decide (c = (q.x,q.y)):=fun c => by unfold q8q; rw [hq]
   rw [q8x]
   walk_at "d"
   rw [hlo]
   walk_at "d"
   rw [q7x,h1,hup,hat]
   have hkc : ([Sum.inl q.x,Sum.inl q.y] : List Key) = kC (q.x,q.y):=rfl
   have hdg : D.str (one (grI i)) = dSg (grI i):=rfl
   have hds : D.str (one (smI i)) = dSg (smI i):=rfl
   rw [hkc,hdg]
   generalize q7b tk (kC (q.x,q.y)) = tk1 at htb ⊢
   generalize q6j tk tv (kC (q.x,q.y)) (dSg (grI i)) = tv1 at htb ⊢
   have hsl : tv.length < sizeLine:=Nat.lt_of_lt_of_le (show _ < 100000 by omega) (by decide)
   walk_at "d"
   have hszl : (Str.ofString "abcdefghijklmnopqrstuvwxyz").length <= sizeLine:=by decide +kernel
   refine ⟨hszl,by decide,by decide,hsl,?_⟩
   cases so with
   | none =>
    refine q5i (fun z => absurd (show true = false from z) (by decide)) fun _ => hN _ ⟨tk1,tv1,_,_,_,rfl,htb.as (fun c => ?_) (by omega)⟩
    have hbh : q2e p s c i = false:=by unfold q2e; rw [hq,hso]
    rw [z7r,hbh,hpt]
    simp
   | some k =>
    refine q5i (fun _ => ?_) fun z => absurd rfl z
    obtain ⟨b0,hb0⟩:=G.op i q k hq hso
    rw [q7r L.ok hqm] at hb0
    obtain ⟨b,hbk,_⟩:=Option.bind_eq_some_iff.mp hb0
    have hsm:=q6d hbk (L.ok.nm q hqm).1 (Nat.le_trans (L.n8 q hqm) (by decide)) (L.xy q hqm)
    have hlc:=z1r hsm
    have hbh : ∀ c,q2e p s c i = decide (inB b c):=fun c => by unfold q2e; rw [hq,hso]; dsimp only; rw [hbk]
    have hix : atI ((q2u q).map q4c) k = some (q4c b):=by
     unfold q7c at hbk
     split at hbk
     ·rename_i hk
      have : atI (q2u q) ((k.toNat : Nat) : Int) = some b:=q3j hbk
      rw [Int.toNat_of_nonneg hk] at this
      rw [q4q,this]; rfl
     ·cases hbk
    rw [<- q8x]
    refine ⟨⟨q,rfl,L.ok.pl q hqm,(L.ok.nm q hqm).2⟩,?_⟩
    rintro d ⟨q',e,rfl⟩
    simp only [List.cons.injEq,and_true] at e
    cases q9n e
    rw [show dO (some k) = .int k from rfl]
    walk_at "d"
    rw [hix]
    walk_at "d"
    refine ⟨⟨b,rfl,hsm⟩,?_⟩
    rintro d ⟨b',e,rfl⟩
    simp only [List.cons.injEq,and_true] at e
    cases q4h e
    walk_at "d"
    refine q1v (fun j ρ => ∃ (tk' : List (List Key)) (tv' : List D) (g' : Cel -> Option Nat) (o5 : Option Sl),ρ = [some (.bor (hdV vs) (.tup [.int p.wide,.int p.high,.tup (p.kept.map q4c),.tup (p.pts.map dPt)])),some (.bor (hdV (tlV vs)) (.lst (s.map dO))),some (.own (.dT tk' tv')),some (.shr (.int (i : Int))),some (.shr (dPt q)),o5] /\ SgT g' (8000 + i * 500 + 1 + j) tk' tv' /\ ∀ c,g' c = if c ∈ (q3h b).take j then some (smI i) else if c = (q.x,q.y) then some (grI i) else sgP p s i c) ?_ ?_ ?_
    ·exact ⟨tk1,tv1,_,_,rfl,htb,fun c => by simp⟩
    ·rintro j d ρ N2 hd ⟨tk',tv',g',o5,rfl,tb',hg'⟩ hN2
     rw [List.getElem?_map] at hd
     cases hc : (q3h b)[j]? with
     | none => rw [hc] at hd; cases hd
     | some c =>
      rw [hc] at hd
      cases hd
      have hj:=(List.getElem?_eq_some_iff.mp hc).1
      have hsz':=tb'.sz
      have hsl' : tv'.length < sizeLine:=Nat.lt_of_lt_of_le (show _ < 100000 by omega) (by decide)
      rw [q5g]
      walk_at "d"
      rw [hlo]
      walk_at "d"
      rw [q7x,hds]
      have hkc' : ([Sum.inl c.1,Sum.inl c.2] : List Key) = kC c:=rfl
      rw [hkc']
      refine ⟨hszl,hsl',hN2 _ ⟨_,_,_,_,rfl,SgT.put tb' c (smI i),fun z => ?_⟩⟩
      rw [List.take_add_one,hc,hg' z]
      by_cases ez : z = c
      ·simp [ez]
      ·simp [ez]
    ·rintro ρ ⟨tk',tv',g',o5,rfl,tb',hg'⟩
     rw [List.length_map] at tb'
     rw [List.length_map,List.take_length] at hg'
     refine hN _ ⟨tk',tv',_,_,_,rfl,tb'.as (fun c => ?_) (by omega)⟩
     rw [hg',z7r,hbh,hpt]
     by_cases ec : inB b c
     ·rw [if_pos (q4r.mpr ec),if_pos (decide_eq_true ec)]
     ·rw [if_neg (fun z => ec (q4r.mp z)),decide_eq_false ec]
      by_cases e2 : c = (q.x,q.y)
      ·rw [if_pos e2,decide_eq_true e2]; rfl
      ·rw [if_neg e2,decide_eq_false e2]; rfl
 ·rintro ρ ⟨tk,tv,o3,o4,o5,rfl,tb⟩
  rw [List.length_mapIdx,List.length_map] at tb
  walk_at "d"
  exact ps tk tv (tb.as (fun _ => rfl) (by omega))
theorem q6k : ∀ l : List Str,q8w (l.map D.str) = some l
 | [] => rfl
 | a :: r => by
  show (q8w (r.map D.str)).map (fun z => a :: z) = _
  rw [q6k r]; rfl
theorem z0b {m : Nat} : ∀ {l : List Str},(∀ x ∈ l,x.length <= m) -> (l.map fun x => x.length).sum <= l.length * m
 | [],_ => by simp
 | a :: r,h => by
  have h1:=h a (by simp)
  have h2:=z0b (l:=r) fun x hx => h x (List.mem_cons_of_mem _ hx)
  rw [List.map_cons,List.sum_cons,List.length_cons,Nat.succ_mul]
  omega
theorem k9n {tk : List (List Key)} {tv : List D} {g : Cel -> Option Nat} {m : Nat} (h : SgT g m tk tv) (x y : Int) : (q3m tk tv [Sum.inl x,Sum.inl y]).getD (D.str (Str.ofString ".")) = dSg (sgn (g (x,y))):=by
 have e : q3m tk tv [Sum.inl x,Sum.inl y] = (g (x,y)).map dSg:=h.at' (x,y)
 rw [e]
 cases g (x,y) with
 | none => show D.str (Str.ofString ".") = D.str (one 46); rw [show Str.ofString "." = one 46 from by decide +kernel]
 | some c => rfl
def pre_q1c : List D -> Prop:=fun ds => ∃ (p : q2k) (s : List (Option Int)),ds = [q2z p,.lst (s.map dO)] /\ PlP p /\ q4n p s
def post_q1c : List D -> D -> Prop:=fun ds d => ∃ (p : q2k) (s : List (Option Int)) (x : Str),ds = [q2z p,.lst (s.map dO)] /\ d = .str x /\ cs x = q6e 10 (rowsOf p (sgP p s p.pts.length))
theorem ok_q1c (T : Txt K mg t) (G_q0q : q3d P w K mg base CX0 (n) t.f_q0q t.d_q0q ["plan","setting"] (spD K [true,true] .n pre_q0q post_q0q)) : q3d P w K mg base CX0 (n + 1) t.f_q1c t.d_q1c ["plan","setting"] (spD K [true,true] .v pre_q1c post_q1c):=by
 refine okD T.F_q1c sc_q1c rfl fun cdv A outer s H E hr => ⟨_,(q1i (q1u (i:=2) sc_q1c.nd rfl (Or.inr rfl) (PX.nv (q1p G_q0q hr rfl T.m_q0q T.F_q0q.kp T.b_q0q q3a (q2g (q1f 0) (q2g (q1f 1) q1h)))))
   (q1i (q4a (i:=3) sc_q1c.nd rfl (Or.inl rfl) (q3k q1h))
   (q1i (q3b PassesOwn.never rfl (q2o rfl T.n_range (q1t (q1l (hu1 hr) (q1f 0) (PX.vb q1g) (fun _ _ => rfl)) q1h)) (q1n (i:=4) sc_q1c.nd rfl (Or.inr rfl)) (q1m (q3u (q5k 3 PySem.F.slot_list_append PySem.F.type_list_append q3s (q4i (q5n (q9z q9l PySem.F.plainAttrs_str PySem.F.slot_str_join PySem.F.type_str_join (PX.vb q2m) (q2g (PX.nb (q5b (osc:=q1j s_q1c) (N:=["plan","setting","signs","lines","y"]) ["x","signs","y"] [none,some 2,some 4] ⟨rfl,by decide +kernel,by decide +kernel,by decide +kernel,rfl,by decide +kernel⟩ (PIX.c (q2o rfl T.n_range (q1t (q1l (hu1 hr) (q1f 0) (PX.vb q1g) (fun _ _ => rfl)) q1h))) (fun b => (q1n (i:=0) (show (["x","signs","y"] : List Str).Nodup by decide +kernel) rfl (Or.inl rfl))) (fun b => q5c) (fun b => (z7z (hu1 hr) (q1f 1) (PX.vb (q2v (q1t (q1o 0) (q1t (q1o 2) q1h)))) q2m)))) q1h))) q5m)))))
   (q1m (q2s (by decide) (q9z q9l PySem.F.plainAttrs_str PySem.F.slot_str_join PySem.F.type_str_join (PX.vb q2m) (q2g (q1f 3) q1h))))))),fun vs ds hv hd hp => ?_⟩
 obtain ⟨p,s,rfl,L,G⟩:=hp
 have ps : ∀ x,cs x = q6e 10 (rowsOf p (sgP p s p.pts.length)) -> post_q1c [q2z p,.lst (s.map dO)] (.str x):=fun x h => ⟨p,s,x,rfl,rfl,h⟩
 walk_at "d"
 refine ⟨⟨p,s,rfl,L,G⟩,?_⟩
 rintro d ⟨p',s',tk,tv,e,rfl,tb⟩
 simp only [List.cons.injEq,D.lst.injEq,and_true] at e
 cases q3i e.1
 cases q7h e.2
 rw [q2t] at ps ⊢
 walk_at "d"
 obtain ⟨hw1,hw2,hh1,hh2⟩:=L.ok.ws
 refine ⟨by decide,⟨by omega,by omega⟩,?_⟩
 refine q1v (fun y ρ => ∃ (ls : List Str) (o4 : Option Sl),ρ = [some (.bor (hdV vs) (.tup [.int p.wide,.int p.high,.tup (p.kept.map q4c),.tup (p.pts.map dPt)])),some (.bor (hdV (tlV vs)) (.lst (s.map dO))),some (.shr (.dT tk tv)),some (.own (.lst (ls.map D.str))),o4] /\ ls.map cs = (List.range y).map fun (y : Nat) => (List.range p.wide.toNat).map fun (x : Nat) => sgn (sgP p s p.pts.length ((x : Int),(y : Int)))) ?_ ?_ ?_
 ·exact ⟨[],_,rfl,rfl⟩
 ·rintro i d ρ N hd ⟨ls,o4,rfl,hls⟩ hN
  obtain ⟨hi,rfl⟩:=q5x hd
  have hll : ls.length = i:=by have:=congrArg List.length hls; simpa using this
  walk_at "d"
  refine ⟨⟨by omega,by omega⟩,q3o (by rw [List.length_map,List.length_range]; omega),fun _ => ?_⟩
  refine q3f (fun (x : Nat) => dSg (sgn (sgP p s p.pts.length ((x : Int),(i : Int))))) (fun x hx c hc => ?_) ?_
  ·walk_at "d"
   rw [k9n tb,Int.zero_add,Int.zero_add]
   exact ⟨by decide,hc⟩
  ·generalize hrow : (List.range p.wide.toNat).map (fun (x : Nat) => sgn (sgP p s p.pts.length ((x : Int),(i : Int)))) = row
   have e1 : List.map (fun (x : Nat) => dSg (sgn (sgP p s p.pts.length ((x : Int),(i : Int))))) (List.range p.wide.toNat) = (row.map one).map D.str:=by
    rw [<- hrow,List.map_map,List.map_map]; rfl
   have hrl : row.length <= 20:=by rw [<- hrow]; simp; omega
   rw [e1,q6k]
   walk_at "d"
   have hs1:=z0b (m:=1) (l:=row.map one) (fun x hx => by
    obtain ⟨c,_,rfl⟩:=List.mem_map.mp hx
    exact Nat.le_refl 1)
   rw [List.length_map] at hs1
   have e0 : (Str.ofString "").length = 0:=by decide +kernel
   refine ⟨?_,Nat.lt_of_lt_of_le (show _ < 100000 by rw [List.length_map]; omega) (by decide),hN _ ⟨ls ++ [Txt.join (Str.ofString "") (row.map one)],_,by rw [List.map_append]; rfl,?_⟩⟩
   ·rw [e0,Nat.mul_zero]; omega
   ·rw [List.map_append,hls,List.range_succ,List.map_append,List.map_cons,List.map_nil,z0o,<- hrow]
    rfl
 ·rintro ρ ⟨ls,o4,rfl,hls⟩
  rw [List.length_map,List.length_range] at hls
  have hll : ls.length = p.high.toNat:=by have:=congrArg List.length hls; simpa using this
  walk_at "d"
  rw [q6k]
  walk_at "d"
  have hln : ∀ x ∈ ls,x.length <= 20:=by
   intro x hx
   have hm : cs x ∈ ls.map cs:=List.mem_map_of_mem hx
   rw [hls] at hm
   obtain ⟨y,_,e⟩:=List.mem_map.mp hm
   rw [q4v,<- e]
   simp; omega
  have hs1:=z0b hln
  have e0 : (Str.ofString "\n").length = 1:=by decide +kernel
  refine ⟨by rw [e0]; omega,ps _ ?_⟩
  rw [show Str.ofString "\n" = one 10 from by decide +kernel,k0r,q8v,hls]
  rfl
end
open TX
def z8g : List Stmt -> Scope
 | [.Return (some (.ListComp _ _ sc _)) _] => sc
 | _ :: r => z8g r
 | [] => { kind:=.function,names:=[],isGenerator:=false,isCoroutine:=false }
def w4j (sc osc : Scope) : Scope:={ sc with names:=sc.names.map fun (n,k) => if (k == .free && osc.kind == .function && osc.names.lookup n == some .cell) then (n,.cell) else (n,k) }
section
variable {P : Program} {w : World} {K : PySem.W.Frag} {mg : Str -> Option Value} {base : Heap} {t : Adr} {n : Nat}
def q9e (r : List Nat) : D:=.lst (r.map dSg)
def pre_q0u : List D -> Prop:=fun ds => ∃ (p : q2k) (s : List (Option Int)) (tk : List (List Key)) (tv : List D),ds = [q2z p,.lst (s.map dO),.dT tk tv] /\ PlP p /\ q4n p s /\ OpT p tk tv
def post_q0u : List D -> D -> Prop:=fun ds d => ∃ (p : q2k) (s : List (Option Int)) (b : D),ds = [q2z p,.lst (s.map dO),b] /\ d = .lst ((rowsOf p (z4q p s p.pts.length)).map q9e)
theorem ok_q0u (T : Txt K mg t) (G_q0s : q3d P w K mg base CX0 (n) t.f_q0s t.d_q0s ["_law_box_here"] (spD K [true] .n pre_q0s post_q0s)) : q3d P w K mg base CX0 (n + 1) t.f_q0u t.d_q0u ["_law_plan_here","_law_setting_here","_law_opened"] (spD K [true,true,true] .n pre_q0u post_q0u):=by
 refine okD T.F_q0u sc_q0u rfl fun cdv A outer s H E hr => ⟨_,(q1i (q4a (i:=3) sc_q0u.nd rfl (Or.inr rfl) q9m)
   (q1i (q3b PassesOwn.never rfl (q6l q5j (q1l (hu1 hr) (q1f 0) (PX.vb q1g) (fun _ _ => rfl))) (q1n (i:=4) sc_q0u.nd rfl (Or.inl rfl)) (q1m (q3b PassesOwn.never rfl (q6l q5j (PX.nv (q1p G_q0s hr rfl T.m_q0s T.F_q0s.kp T.b_q0s q3a (q2g (q1f 4) q1h)))) (q1n (i:=5) sc_q0u.nd rfl (Or.inl rfl)) (q1m (q5o 3 (hu1 hr) (q1f 5) q2m)))))
   (q1i (q3b PassesOwn.never rfl (q2o rfl T.n_range (q1t (q2c q4k rfl T.n_len PySem.boot_len (q2g (q1f 1) q1h)) q1h)) (q1n (i:=6) sc_q0u.nd rfl (Or.inl rfl)) (q1m (q3z (q2n z3g (PX.vb (q1l (hu1 hr) (q1f 1) (q1f 6) (fun _ _ => rfl))) (PX.vb q4m) (q2l _)) (q1m (q3b PassesOwn.never rfl (q6l q5j (k1r (hu1 hr) (q1f 2) (PX.vb (q2v (q1t (q1l (hu1 hr) (PX.vb (q1l (hu1 hr) (PX.vb (q1l (hu1 hr) (q1f 0) (PX.vb q1g) (fun _ _ => rfl))) (q1f 6) (fun _ _ => rfl))) (PX.vb q1g) (fun _ _ => rfl)) (q1t (q1l (hu1 hr) (q1f 1) (q1f 6) (fun _ _ => rfl)) q1h)))) (fun _ _ => rfl))) (q1n (i:=5) sc_q0u.nd rfl (Or.inl rfl)) (q1m (q5o 3 (hu1 hr) (q1f 5) (q1l (hu1 hr) (PX.vb q2m) (q1f 6) (fun _ _ => rfl)))))) q2w)))
   (q1i (q3b PassesOwn.never rfl (q2o rfl T.n_range (q1t (q2c q4k rfl T.n_len PySem.boot_len (q2g (q1f 1) q1h)) q1h)) (q1n (i:=6) sc_q0u.nd rfl (Or.inl rfl)) (q1m (q5o 3 (hu1 hr) (PX.vb (q3x q4o (PX.vb (q1l (hu1 hr) (PX.vb (q1l (hu1 hr) (q1f 0) (PX.vb q1g) (fun _ _ => rfl))) (q1f 6) (fun _ _ => rfl))) (q4d (PX.vb q1g)) (q4d (PX.vb q1g)))) (q1l (hu1 hr) (PX.vb q2m) (q1f 6) (fun _ _ => rfl)))))
   (q1m (q2s (by decide) (q5b (osc:=q1j s_q0u) (N:=["_law_plan_here","_law_setting_here","_law_opened","_law_signs","_law_box_here","_law_spot","_law_k"]) ["_law_y","_law_signs","_law_plan_here"] [none,some 3,some 0] ⟨rfl,by decide +kernel,by decide +kernel,by decide +kernel,rfl,by decide +kernel⟩ (PIX.c (q2o rfl T.n_range (q1t (q1l (hu1 hr) (q1f 0) (PX.vb q1g) (fun _ _ => rfl)) q1h))) (fun b => (q1n (i:=0) (show (["_law_y","_law_signs","_law_plan_here"] : List Str).Nodup by decide +kernel) rfl (Or.inr rfl))) (fun b => q5c) (fun b => (PX.nv (q5b (osc:=(w4j (z8g (q1x s_q0u)) (q1j s_q0u))) (N:=["_law_y","_law_signs","_law_plan_here"]) ["_law_x","_law_signs","_law_y"] [none,some 1,some 0] ⟨rfl,by decide +kernel,by decide +kernel,by decide +kernel,rfl,by decide +kernel⟩ (PIX.c (q2o rfl T.n_range (q1t (q1l (hu1 hr) (q1f 2) (PX.vb q1g) (fun _ _ => rfl)) q1h))) (fun b => (q1n (i:=0) (show (["_law_x","_law_signs","_law_y"] : List Str).Nodup by decide +kernel) rfl (Or.inl rfl))) (fun b => q5c) (fun b => (z7z (hu1 hr) (q1f 1) (PX.vb (q2v (q1t (q1o 0) (q1t (q1o 2) q1h)))) q2m)))))))))))),fun vs ds hv hd hp => ?_⟩
 obtain ⟨p,s,tk,tv,rfl,L,G,O⟩:=hp
 have hpn:=L.pn
 have ps : post_q0u [q2z p,.lst (s.map dO),.dT tk tv] (.lst ((rowsOf p (z4q p s p.pts.length)).map q9e)):=⟨p,s,_,rfl,rfl⟩
 rw [q2t] at ps ⊢
 walk_at "d"
 have hkn:=L.kn
 have hsl0 : ∀ m : Nat,m < 100000 -> m < sizeLine:=fun m h => Nat.lt_of_lt_of_le h (by decide)
 have hszl : (Str.ofString "abcdefghijklmnopqrstuvwxyz").length <= sizeLine:=by decide +kernel
 have hszu : (Str.ofString "ABCDEFGHIJKLMNOPQRSTUVWXYZ").length <= sizeLine:=by decide +kernel
 refine q1v (fun k ρ => ∃ (ck : List (List Key)) (cv : List D) (g : Cel -> Option Nat) (o4 o5 : Option Sl),ρ = [some (.bor (hdV vs) (.tup [.int p.wide,.int p.high,.tup (p.kept.map q4c),.tup (p.pts.map dPt)])),some (.bor (hdV (tlV vs)) (.lst (s.map dO))),some (.bor (hdV (tlV (tlV vs))) (.dT tk tv)),some (.own (.dT ck cv)),o4,o5,none] /\ SgT g (k * 400) ck cv /\ ∀ c,g c = if (p.kept.take k).any (fun b => decide (inB b c)) = true then some 35 else none) ?_ ?_ ?_
 ·exact ⟨[],[],fun _ => none,_,_,rfl,(TB.new kC).as (fun _ => rfl) (by omega),fun c => by simp⟩
 ·rintro i d ρ N hd ⟨ck,cv,g,o4,o5,rfl,tb,hg⟩ hN
  rw [List.getElem?_map] at hd
  cases hb : p.kept[i]? with
  | none => rw [hb] at hd; cases hd
  | some b =>
   rw [hb] at hd
   cases hd
   have hbm:=List.mem_of_getElem? hb
   have hbi:=(List.getElem?_eq_some_iff.mp hb).1
   have hsm:=L.ks b hbm
   have hlc:=q4f hsm
   walk_at "d"
   refine ⟨⟨b,rfl,hsm⟩,?_⟩
   rintro d ⟨b',e,rfl⟩
   simp only [List.cons.injEq,and_true] at e
   cases q4h e
   walk_at "d"
   refine q1v (fun j ρ => ∃ (ck : List (List Key)) (cv : List D) (g' : Cel -> Option Nat) (o5 : Option Sl),ρ = [some (.bor (hdV vs) (.tup [.int p.wide,.int p.high,.tup (p.kept.map q4c),.tup (p.pts.map dPt)])),some (.bor (hdV (tlV vs)) (.lst (s.map dO))),some (.bor (hdV (tlV (tlV vs))) (.dT tk tv)),some (.own (.dT ck cv)),some (.shr (q4c b)),o5,none] /\ SgT g' (i * 400 + j) ck cv /\ ∀ c,g' c = if c ∈ (q1r b).take j then some 35 else g c) ?_ ?_ ?_
   ·exact ⟨ck,cv,g,_,rfl,tb,fun c => by simp⟩
   ·rintro j d ρ N2 hd ⟨ck,cv,g',o5,rfl,tb,hg'⟩ hN2
    rw [List.getElem?_map] at hd
    cases hc : (q1r b)[j]? with
    | none => rw [hc] at hd; cases hd
    | some c =>
     rw [hc] at hd
     cases hd
     have hj:=(List.getElem?_eq_some_iff.mp hc).1
     have hsz:=tb.sz
     rw [q5g]
     walk_at "d"
     refine ⟨hsl0 _ (by omega),hN2 _ ⟨_,_,_,_,rfl,SgT.put tb c 35,fun z => ?_⟩⟩
     rw [List.take_add_one,hc,hg' z]
     by_cases ez : z = c
     ·simp [ez]
     ·simp [ez]
   ·rintro ρ ⟨ck,cv,g',o5,rfl,tb,hg'⟩
    rw [List.length_map] at tb
    rw [List.length_map,List.take_length] at hg'
    refine hN _ ⟨ck,cv,g',_,_,rfl,tb.as (fun _ => rfl) (by omega),fun c => ?_⟩
    rw [hg',hg,List.take_add_one,hb,List.any_append]
    by_cases ec : inB b c
    ·rw [if_pos ((q2p hsm.pos).mpr ec),if_pos]
     simp [ec]
    ·rw [if_neg (fun z => ec ((q2p hsm.pos).mp z))]
     have e0 : (Option.toList (some b)).any (fun b => decide (inB b c)) = false:=by
      show (decide (inB b c) || false) = false
      rw [decide_eq_false ec]; rfl
     rw [e0,Bool.or_false]
 ·rintro ρ ⟨ck,cv,g,o4,o5,rfl,tb,hg⟩
  rw [List.length_map] at hg tb
  rw [List.take_length] at hg
  have tb : SgT (k9a p s 0) 8000 ck cv:=tb.as (fun c => by rw [hg]; rfl) (by omega)
  clear hg
  walk_at "d"
  rw [List.length_map,G.len]
  refine ⟨⟨by omega,by omega⟩,?_⟩
  refine q1v (fun k ρ => ∃ (ck : List (List Key)) (cv : List D) (o4 o5 o6 : Option Sl),ρ = [some (.bor (hdV vs) (.tup [.int p.wide,.int p.high,.tup (p.kept.map q4c),.tup (p.pts.map dPt)])),some (.bor (hdV (tlV vs)) (.lst (s.map dO))),some (.bor (hdV (tlV (tlV vs))) (.dT tk tv)),some (.own (.dT ck cv)),o4,o5,o6] /\ SgT (k9a p s k) (8000 + k * 400) ck cv) ?_ ?_ ?_
  ·exact ⟨ck,cv,_,_,_,rfl,tb.as (fun _ => rfl) (by omega)⟩
  ·rintro i d ρ N hd ⟨ck,cv,o4,o5,o6,rfl,tb⟩ hN
   obtain ⟨hi,rfl⟩:=q5x hd
   have hi : i < p.pts.length:=by omega
   obtain ⟨q,hq⟩ : ∃ q,p.pts[i]? = some q:=⟨_,List.getElem?_eq_getElem hi⟩
   have hqm:=List.mem_of_getElem? hq
   obtain ⟨so,hso⟩ : ∃ so,s[i]? = some so:=⟨_,List.getElem?_eq_getElem (by rw [G.len]; exact hi)⟩
   have hats : atI (s.map dO) (0 + (i : Int)) = some (dO so):=by rw [Int.zero_add,q4q,show atI s (i : Int) = some so from q3j hso]; rfl
   have hat : atI (p.pts.map dPt) (0 + (i : Int)) = some (.tup [.str q.name,.int q.x,.int q.y,.int q.loss,.tup (q.places.map q5s)]):=by
    rw [Int.zero_add,q4q,show atI p.pts (i : Int) = some q from q3j hq]; rfl
   have hlo:=z1t (i:=i) (by omega)
   have hds : D.str (one (smI i)) = dSg (smI i):=rfl
   walk_at "d"
   rw [hats]
   walk_at "d"
   cases so with
   | none =>
    refine q5i (fun z => absurd (show true = false from z) (by decide)) fun _ => hN _ ⟨ck,cv,_,_,_,rfl,tb.as (fun c => ?_) (by omega)⟩
    have hbh : q2e p s c i = false:=by unfold q2e; rw [hq,hso]
    show Option.map dSg (k9a p s i c) = Option.map dSg (if q2e p s c i = true then some (smI i) else k9a p s i c)
    rw [hbh]; rfl
   | some k =>
    refine q5i (fun _ => ?_) fun z => absurd rfl z
    obtain ⟨b,hob⟩:=G.op i q k hq hso
    have hlk : q3m tk tv (kR (q.name,k)) = (opB p (q.name,k)).map dOc:=O.at' _
    have hob':=hob
    rw [q7r L.ok hqm] at hob'
    obtain ⟨b',hbk,hob'⟩:=Option.bind_eq_some_iff.mp hob'
    have hbb : b' = b:=by
     split at hob'
     ·exact Option.some.inj hob'
     ·cases hob'
    subst hbb
    have hsm:=q6d hbk (L.ok.nm q hqm).1 (Nat.le_trans (L.n8 q hqm) (by decide)) (L.xy q hqm)
    have hlc:=q4f hsm
    have hbh : ∀ c,q2e p s c i = decide (inB b' c):=fun c => by unfold q2e; rw [hq,hso]; dsimp only; rw [hbk]
    rw [hat,show dO (some k) = .int k from rfl]
    walk_at "d"
    have hkr : ([Sum.inr q.name,Sum.inl k] : List Key) = kR (q.name,k):=rfl
    rw [hkr,hlk,hob,Option.map_some,z7j]
    walk_at "d"
    refine ⟨by decide,?_⟩
    refine q1v (fun j ρ => ∃ (ck' : List (List Key)) (cv' : List D) (g' : Cel -> Option Nat) (o5 : Option Sl),ρ = [some (.bor (hdV vs) (.tup [.int p.wide,.int p.high,.tup (p.kept.map q4c),.tup (p.pts.map dPt)])),some (.bor (hdV (tlV vs)) (.lst (s.map dO))),some (.bor (hdV (tlV (tlV vs))) (.dT tk tv)),some (.own (.dT ck' cv')),o4,o5,some (.shr (.int (0 + (i : Int))))] /\ SgT g' (8000 + i * 400 + j) ck' cv' /\ ∀ c,g' c = if c ∈ (q1r b').take j then some (smI i) else k9a p s i c) ?_ ?_ ?_
    ·exact ⟨ck,cv,_,_,rfl,tb,fun c => by simp⟩
    ·rintro j d ρ N2 hd ⟨ck',cv',g',o5,rfl,tb',hg'⟩ hN2
     rw [List.getElem?_map] at hd
     cases hc : (q1r b')[j]? with
     | none => rw [hc] at hd; cases hd
     | some c =>
      rw [hc] at hd
      cases hd
      have hj:=(List.getElem?_eq_some_iff.mp hc).1
      have hsz':=tb'.sz
      rw [q5g]
      walk_at "d"
      rw [Int.zero_add,hlo]
      walk_at "d"
      rw [q7x,hds]
      have hkc' : ([Sum.inl c.1,Sum.inl c.2] : List Key) = kC c:=rfl
      rw [hkc']
      refine ⟨hszl,hsl0 _ (by omega),hN2 _ ⟨_,_,_,_,by rw [Int.zero_add],SgT.put tb' c (smI i),fun z => ?_⟩⟩
      rw [List.take_add_one,hc,hg' z]
      by_cases ez : z = c
      ·simp [ez]
      ·simp [ez]
    ·rintro ρ ⟨ck',cv',g',o5,rfl,tb',hg'⟩
     rw [List.length_map] at tb'
     rw [List.length_map,List.take_length] at hg'
     refine hN _ ⟨ck',cv',_,_,_,rfl,tb'.as (fun c => ?_) (by omega)⟩
     rw [hg']
     show _ = Option.map dSg (if q2e p s c i = true then some (smI i) else k9a p s i c)
     rw [hbh]
     by_cases ec : inB b' c
     ·rw [if_pos ((q2p hsm.pos).mpr ec),if_pos (decide_eq_true ec)]
     ·rw [if_neg (fun z => ec ((q2p hsm.pos).mp z)),decide_eq_false ec]; rfl
  ·rintro ρ ⟨ck,cv,o4,o5,o6,rfl,tb⟩
   rw [List.length_map,List.length_range] at tb
   have tb : SgT (z4q p s 0) 20000 ck cv:=tb.as (fun c => by
    have : ((p.pts.length : Nat) : Int).toNat = p.pts.length:=by omega
    rw [this]; rfl) (by omega)
   walk_at "d"
   rw [List.length_map,G.len]
   refine ⟨⟨by omega,by omega⟩,?_⟩
   refine q1v (fun k ρ => ∃ (ck : List (List Key)) (cv : List D) (o6 : Option Sl),ρ = [some (.bor (hdV vs) (.tup [.int p.wide,.int p.high,.tup (p.kept.map q4c),.tup (p.pts.map dPt)])),some (.bor (hdV (tlV vs)) (.lst (s.map dO))),some (.bor (hdV (tlV (tlV vs))) (.dT tk tv)),some (.own (.dT ck cv)),o4,o5,o6] /\ SgT (z4q p s k) (20000 + k) ck cv) ?_ ?_ ?_
   ·exact ⟨ck,cv,_,rfl,tb.as (fun _ => rfl) (by omega)⟩
   ·rintro i d ρ N hd ⟨ck,cv,o6,rfl,tb⟩ hN
    obtain ⟨hi,rfl⟩:=q5x hd
    have hi : i < p.pts.length:=by omega
    obtain ⟨q,hq⟩ : ∃ q,p.pts[i]? = some q:=⟨_,List.getElem?_eq_getElem hi⟩
    have hat : atI (p.pts.map dPt) (0 + (i : Int)) = some (.tup [.str q.name,.int q.x,.int q.y,.int q.loss,.tup (q.places.map q5s)]):=by
     rw [Int.zero_add,q4q,show atI p.pts (i : Int) = some q from q3j hq]; rfl
    have hup:=j8r (i:=i) (by omega)
    have hdg : D.str (one (grI i)) = dSg (grI i):=rfl
    have hpt : ∀ c,q8q p c i = decide (c = (q.x,q.y)):=fun c => by unfold q8q; rw [hq]
    have hsz:=tb.sz
    walk_at "d"
    rw [hat]
    walk_at "d"
    rw [Int.zero_add,hup]
    walk_at "d"
    rw [q7x,hdg]
    have hkc : ([Sum.inl q.x,Sum.inl q.y] : List Key) = kC (q.x,q.y):=rfl
    rw [hkc]
    refine ⟨hszu,by decide,hsl0 _ (by omega),hN _ ⟨_,_,_,rfl,(SgT.put tb (q.x,q.y) (grI i)).as (fun c => ?_) (by omega)⟩⟩
    show _ = Option.map dSg (if q8q p c i = true then some (grI i) else z4q p s i c)
    rw [hpt]
    dsimp only
    by_cases e2 : c = (q.x,q.y)
    ·rw [if_pos e2,decide_eq_true e2]; rfl
    ·rw [if_neg e2,decide_eq_false e2]; rfl
   ·rintro ρ ⟨ck,cv,o6,rfl,tb⟩
    rw [List.length_map,List.length_range] at tb
    have tb : SgT (z4q p s p.pts.length) 30000 ck cv:=tb.as (fun c => by
     have : ((p.pts.length : Nat) : Int).toNat = p.pts.length:=by omega
     rw [this]) (by omega)
    obtain ⟨hw1,hw2,hh1,hh2⟩:=L.ok.ws
    walk_at "d"
    refine ⟨⟨by omega,by omega⟩,q3o (by rw [List.length_map,List.length_range]; omega),fun _ => ?_⟩
    refine q3f (fun (y : Nat) => q9e ((List.range p.wide.toNat).map fun (x : Nat) => sgn (z4q p s p.pts.length ((x : Int),(y : Int))))) (fun y hy c hc => ?_) ?_
    ·walk_at "d"
     refine ⟨⟨by omega,by omega⟩,q3o (by rw [List.length_map,List.length_range]; omega),fun _ => ?_⟩
     refine q3f (fun (x : Nat) => dSg (sgn (z4q p s p.pts.length ((x : Int),(y : Int))))) (fun x hx c2 hc2 => ?_) ?_
     ·walk_at "d"
      rw [k9n tb,Int.zero_add,Int.zero_add]
      exact ⟨by decide,hc2⟩
     ·have e : D.lst (List.map (fun (x : Nat) => dSg (sgn (z4q p s p.pts.length ((x : Int),(y : Int))))) (List.range p.wide.toNat)) = q9e ((List.range p.wide.toNat).map fun (x : Nat) => sgn (z4q p s p.pts.length ((x : Int),(y : Int)))):=by
       unfold q9e
       rw [List.map_map]; rfl
      rw [e]
      exact hc
    ·have e : List.map (fun (y : Nat) => q9e ((List.range p.wide.toNat).map fun (x : Nat) => sgn (z4q p s p.pts.length ((x : Int),(y : Int))))) (List.range p.high.toNat) = (rowsOf p (z4q p s p.pts.length)).map q9e:=by
      unfold rowsOf
      rw [List.map_map]; rfl
     rw [e]
     exact ps
end
open TX
section
variable {P : Program} {w : World} {K : PySem.W.Frag} {mg : Str -> Option Value} {base : Heap} {t : Adr} {n : Nat}
def pre_q0h : List D -> Prop:=fun ds => ∃ (p : q2k) (q : Pt),ds = [q2z p,dPt q] /\ OkP p /\ q ∈ p.pts
def post_q0h : List D -> D -> Prop:=fun ds d => ∃ (p : q2k) (q : Pt),ds = [q2z p,dPt q] /\ d = j1q (q8z p q)
theorem ok_q0h (T : Txt K mg t) (G_q0b : q3d P w K mg base CX0 (n + 3) t.f_q0b t.d_q0b ["plan"] (spD K [true] .n pre_q0b post_q0b)) (G_q0m : q3d P w K mg base CX0 (n + 3) t.f_q0m t.d_q0m ["point"] (spD K [true] .n pre_q0m post_q0m)) (G_q0k : q3d P w K mg base CX0 (n + 3) t.f_q0k t.d_q0k ["plan","box","bars"] (spD K [true,true,true] .v pre_q0k post_q0k)) : q3d P w K mg base CX0 (n + 4) t.f_q0h t.d_q0h ["plan","point"] (spD K [true,true] .n pre_q0h post_q0h):=by
 refine okD T.F_q0h sc_q0h rfl fun cdv A outer s H E hr => ⟨_,(q1i (q1u (i:=2) sc_q0h.nd rfl (Or.inl rfl) (PX.nv (q1p G_q0b hr rfl T.m_q0b T.F_q0b.kp T.b_q0b q3a (q2g (q1f 0) q1h))))
   (q1i (q4a (i:=3) sc_q0h.nd rfl (Or.inl rfl) j0h)
   (q1i (q3b PassesOwn.never rfl (z7b rfl T.n_enumerate (PX.nv (q1p G_q0m hr rfl T.m_q0m T.F_q0m.kp T.b_q0m q3a (q2g (q1f 1) q1h)))) (q4x (n:=2) rfl (q2b (q1n (i:=4) sc_q0h.nd rfl (Or.inl rfl)) (q2b (q1n (i:=5) sc_q0h.nd rfl (Or.inl rfl)) q4p))) (q1m (q3z (q2n z5m (PX.vb (q1p G_q0k hr rfl T.m_q0k T.F_q0k.kp T.b_q0k q3a (q2g (q1f 0) (q2g (q1f 5) (q2g (q1f 2) q1h))))) (PX.vb q4m) (q2l _)) (q1m (z2k 3 (hu1 hr) (q1f 4) (q1o 5))) q2w)))
   (q1m (q4z (i:=3)))))),fun vs ds hv hd hp => ?_⟩
 obtain ⟨p,q,rfl,ok,hq⟩:=hp
 walk_at "d"
 refine ⟨⟨p,rfl,ok⟩,?_⟩
 rintro d ⟨p',e,rfl⟩
 simp only [List.cons.injEq,and_true] at e
 have:=q3i e
 subst this
 refine ⟨⟨q,rfl,ok.pl q hq,(ok.nm q hq).2⟩,?_⟩
 rintro d ⟨q',e,rfl⟩
 simp only [List.cons.injEq,and_true] at e
 have:=q9n e
 subst this
 walk_at "d"
 rw [z0c]
 have hbl : (q2u q).length <= 100:=by rw [z5o]; exact ok.pl q hq
 refine q1v (fun i ρ => ∃ (o4 o5 : Option Sl),ρ = [some (Sl.bor (hdV vs) (q2z p)),some (Sl.bor (hdV (tlV vs)) (dPt q)),some (Sl.shr (D.lst ((z9w p).map k1v))),some (Sl.own (j1q (q1z p 0 ((q2u q).take i)))),o4,o5]) ?_ ?_ ?_
 ·exact ⟨_,_,rfl⟩
 ·rintro i d ρ N hd ⟨o4,o5,rfl⟩ hN
  rw [List.getElem?_mapIdx] at hd
  cases hl : (q2u q)[i]? with
  | none => rw [hl] at hd; cases hd
  | some b =>
   rw [hl] at hd
   cases hd
   have hi:=(List.getElem?_eq_some_iff.mp hl).1
   have htk : (q2u q).take (i + 1) = (q2u q).take i ++ [b]:=by
    rw [List.take_succ,hl]; rfl
   have hlen : ((q2u q).take i).length = i:=by rw [List.length_take]; omega
   walk_at "d"
   refine ⟨⟨p,b,z9w p,rfl⟩,?_⟩
   rintro d ⟨p',b',l',e,rfl⟩
   simp only [List.cons.injEq,D.lst.injEq,and_true] at e
   obtain ⟨e1,e2,e3⟩:=e
   have:=q3i e1
   subst this
   have:=q4h e2
   subst this
   have:=q8s (fun _ _ => j0p) e3
   subst this
   rw [z3j]
   have hle : (q1z p 0 ((q2u q).take i)).length < sizeLine:=by
    have:=q8y p ((q2u q).take i) 0
    exact Nat.lt_of_lt_of_le (show _ < 101 by omega) (by decide)
   refine q5i (fun m => ?_) fun m => ?_
   ·rw [z8z]
    walk_at "d"
    have k1:=k7d (l:=(q2u q).take i) m
    have k2:=k7j (l:=(q2u q).take i) m
    rw [hlen] at k1 k2
    rw [k1,k2,k2y,<- htk]
    exact ⟨hle,hN _ ⟨_,_,rfl⟩⟩
   ·rw [htk,k0t m] at hN
    exact hN _ ⟨_,_,rfl⟩
 ·rintro ρ ⟨o4,o5,rfl⟩
  walk_at "d"
  refine ⟨p,q,rfl,?_⟩
  rw [List.length_mapIdx,List.take_length]
  rfl
end
open TX
theorem z1f {α : Type} {l : List α} {i : Nat} {x : α} (h : l[i]? = some x) : l.drop i = x :: l.drop (i + 1):=by
 have hi:=(List.getElem?_eq_some_iff.mp h).1
 rw [List.drop_eq_getElem_cons hi]
 rw [List.getElem?_eq_getElem hi] at h
 rw [Option.some.inj h]
theorem j4e (k : Int) : dO (some k) = .int k:=rfl
theorem j0u : dO none = .non:=rfl
def q7m : List (Nat × B4) -> Int -> Option B4
 | [],_ => none
 | c :: r,i => if (c.1 : Int) = i then some c.2 else q7m r i
theorem k9c (i : Int) : ∀ l : List (Nat × B4),q5u (z1b l) (z3z l) (.inl i) = (q7m l i).map q4c
 | [] => rfl
 | c :: r => by
  show (if (Sum.inl (c.1 : Int) : Key) = Sum.inl i then some (q4c c.2) else q5u (z1b r) (z3z r) (.inl i)) = _
  unfold q7m
  by_cases e : (c.1 : Int) = i
  ·rw [if_pos (by rw [e]),if_pos e]; rfl
  ·rw [if_neg (fun z => e (Sum.inl.inj z)),if_neg e]; exact k9c i r
def q6m (p : q2k) : List Pt -> List (Option Int) -> List B4 -> Bool
 | q :: r,some i :: s,bs => match q7m (q8z p q) i with
  | none => false
  | some b => if bs.any (fun c => q5d b c) = true then false else q6m p r s (bs ++ [b])
 | _ :: r,none :: s,bs => q6m p r s bs
 | _,_,_ => true
structure OkI (p : q2k) (st : List (Option Int)) : Prop where
 len : st.length = p.pts.length
theorem k4z {p : q2k} {st : List (Option Int)} {i : Nat} {d : D} (h : (j0e (p.pts.map dPt) (st.map dO))[i]? = some d) : ∃ q o,p.pts[i]? = some q /\ st[i]? = some o /\ d = .tup [dPt q,dO o]:=by
 obtain ⟨x,y,h1,h2,rfl⟩:=z8v h
 rw [List.getElem?_map] at h1 h2
 cases hq : p.pts[i]? with
 | none => rw [hq] at h1; cases h1
 | some q =>
  cases ho : st[i]? with
  | none => rw [ho] at h2; cases h2
  | some o =>
   rw [hq] at h1; rw [ho] at h2
   cases h1; cases h2
   exact ⟨q,o,rfl,rfl,rfl⟩
section
variable {P : Program} {w : World} {K : PySem.W.Frag} {mg : Str -> Option Value} {base : Heap} {t : Adr} {n : Nat}
def pre_q0d : List D -> Prop:=fun ds => ∃ (p : q2k) (st : List (Option Int)),ds = [q2z p,.lst (st.map dO)] /\ OkP p /\ OkI p st
def post_q0d : List D -> D -> Prop:=fun ds d => ∃ (p : q2k) (st : List (Option Int)),ds = [q2z p,.lst (st.map dO)] /\ d = .bl (q6m p p.pts st [])
theorem ok_q0d (T : Txt K mg t) (G_q0h : q3d P w K mg base CX0 (n + 4) t.f_q0h t.d_q0h ["plan","point"] (spD K [true,true] .n pre_q0h post_q0h)) (G_q1e : q3d P w K mg base CX0 (n + 4) t.f_q1e t.d_q1e ["one","other"] (spD K [true,true] .v pre_q1e post_q1e)) : q3d P w K mg base CX0 (n + 5) t.f_q0d t.d_q0d ["plan","setting"] (spD K [true,false] .v pre_q0d post_q0d):=by
 refine okD T.F_q0d sc_q0d rfl fun cdv A outer s H E hr => ⟨_,(q1i (q4a (i:=2) sc_q0d.nd rfl (Or.inl rfl) (q3k q1h))
   (q1i (q3b PassesOwn.never rfl (j9s rfl T.n_zip (q1t (q1l (hu1 hr) (q1f 0) (PX.vb q1g) (fun _ _ => rfl)) (q1t (q1o 1) q1h))) (q4x (n:=2) rfl (q2b (q1n (i:=3) sc_q0d.nd rfl (Or.inl rfl)) (q2b (q1n (i:=4) sc_q0d.nd rfl (Or.inl rfl)) q4p))) (q1m (q3z (q2n z3g (q1f 4) (PX.vb q4m) (q2l _)) (q1i (q1u (i:=5) sc_q0d.nd rfl (Or.inr rfl) (j3m (hu1 hr) (PX.nb (q1p G_q0h hr rfl T.m_q0h T.F_q0h.kp T.b_q0h q3a (q2g (q1f 0) (q2g (q1f 3) q1h)))) (q1f 4)))
   (q1i (q3z (PWX.t (k8f (q2n z5m (q1f 5) (PX.vb q4m) (q2l _)) (z8n (z0n (q2c (j9m rfl) rfl T.n_any PyProof.Rows.boot_any (q2g (PX.nb (q5b (osc:=q1j s_q0d) (N:=["plan","setting","boxes","point","place","box"]) ["other","box"] [none,some 5] ⟨rfl,by decide +kernel,by decide +kernel,by decide +kernel,rfl,by decide +kernel⟩ (q7n rfl (q1f 2)) (fun b => (q1n (i:=0) (show (["other","box"] : List Str).Nodup by decide +kernel) rfl (Or.inl rfl))) (fun b => q5c) (fun b => (q1p G_q1e hr rfl T.m_q1e T.F_q1e.kp T.b_q1e q3a (q2g (q1f 1) (q2g (q1f 0) q1h)))))) q1h)))))) (q1m (q2s (by decide) z9o)) q2w)
   (q1m (q3u (q5k 2 PySem.F.slot_list_append PySem.F.type_list_append q3s (q4i (q5n (q1o 5)) q5m)))))) q2w)))
   (q1m (q2s (by decide) z9o)))),fun vs ds hv hd hp => ?_⟩
 obtain ⟨p,st,rfl,ok,os⟩:=hp
 have hnp:=ok.np
 rw [q2t]
 walk_at "d"
 rw [<- q2t]
 refine ⟨by decide,?_⟩
 refine q1v (fun i ρ => ∃ (bs : List B4) (o3 o4 o5 : Option Sl),ρ = [some (.bor (hdV vs) (q2z p)),some (.shr (.lst (st.map dO))),some (.own (.lst (bs.map q4c))),o3,o4,o5] /\ bs.length <= i /\ q6m p p.pts st [] = q6m p (p.pts.drop i) (st.drop i) bs) ?_ ?_ ?_
 ·exact ⟨[],_,_,_,rfl,Nat.le_refl _,rfl⟩
 ·rintro i d ρ N hd ⟨bs,o3,o4,o5,rfl,hbl,hs⟩ hN
  obtain ⟨q,o,hq,ho,rfl⟩:=k4z hd
  have hqm : q ∈ p.pts:=List.mem_of_getElem? hq
  have hi:=(List.getElem?_eq_some_iff.mp hq).1
  rw [z1f hq,z1f ho] at hs
  cases o with
  | none =>
   rw [j0u]
   walk_at "d"
   exact hN _ ⟨bs,_,_,_,rfl,by omega,hs⟩
  | some k =>
   rw [j4e]
   walk_at "d"
   refine ⟨⟨p,q,rfl,ok,hqm⟩,?_⟩
   rintro d ⟨p',q',e,rfl⟩
   simp only [List.cons.injEq,and_true] at e
   have e1:=q3i e.1
   have e2:=q9n e.2
   subst e1 e2
   rw [z8z]
   walk_at "d"
   rw [k9c]
   have hss : q6m p (q :: p.pts.drop (i + 1)) (some k :: st.drop (i + 1)) bs = match q7m (q8z p q) k with
    | none => false
    | some b => if bs.any (fun c => q5d b c) = true then false else q6m p (p.pts.drop (i + 1)) (st.drop (i + 1)) (bs ++ [b]):=rfl
   rw [hss] at hs
   have hbl2 : (bs.map q4c).length < sizeLine:=by rw [List.length_map]; exact Nat.lt_of_lt_of_le (show _ < 101 by omega) (by decide)
   cases hb : q7m (q8z p q) k with
   | none =>
    rw [hb] at hs
    exact q5i (fun _ => ⟨p,st,rfl,by rw [hs]⟩) fun z => absurd rfl z
   | some b =>
    rw [hb] at hs
    refine q5i (fun z => by cases z) fun _ => ⟨Nat.le_of_lt hbl2,fun _ => ?_⟩
    refine q3f (fun c => D.bl (q5d b c)) (fun c hc cc hk => ?_) ?_
    ·show k3k _ _ _ _ _ _
     walk_at "d"
     refine ⟨⟨b,c,rfl⟩,?_⟩
     rintro d ⟨b1,b2,e,rfl⟩
     simp only [List.cons.injEq,and_true] at e
     have e1:=q4h e.1
     have e2:=q4h e.2
     subst e1 e2
     exact hk
    ·have eb : k0j (bs.map fun c => D.bl (q5d b c)) = some (bs.map fun c => q5d b c):=by
      rw [<- k8q,List.map_map]; rfl
     rw [eb]
     show (if (bs.map fun c => q5d b c).any id = true then _ else _)
     rw [List.any_map]
     refine q5i (fun z => ⟨p,st,rfl,?_⟩) fun z => ⟨hbl2,hN _ ⟨bs ++ [b],_,_,_,by rw [List.map_append]; rfl,by simp; omega,?_⟩⟩
     ·rw [hs]; exact congrArg D.bl (if_pos z).symm
     ·rw [hs]; exact if_neg z
 ·rintro ρ ⟨bs,o3,o4,o5,rfl,hbl,hs⟩
  walk_at "d"
  refine ⟨p,st,rfl,?_⟩
  rw [hs,z7s,List.length_map,List.length_map,os.len,Nat.min_self,List.drop_length]
  rfl
end
open TX
theorem q9b {p : q2k} (L : PlP p) {x : Str × Int} {b : B4} (h : opB p x = some b) : SmB b:=by
 obtain ⟨q,hq,_,hb,_⟩:=q4s h
 exact q6d hb (L.ok.nm q hq).1 (Nat.le_trans (L.n8 q hq) (by decide)) (L.xy q hq)
theorem z4r (w : Nat) (hw : 0 < w) {α : Type} (f : Nat -> Nat -> α) : ∀ h : Nat,(List.range h).flatMap (fun j => (List.range w).map fun i => f i j) = (List.range (w * h)).map fun k => f (k % w) (k / w)
 | 0 => rfl
 | h + 1 => by
  rw [List.range_succ,List.flatMap_append,z4r w hw f h,Nat.mul_succ,List.range_add,List.map_append]
  congr 1
  rw [List.flatMap_singleton,List.map_map]
  apply List.map_congr_left
  intro i hi
  have hi:=List.mem_range.mp hi
  show f i h = f ((w * h + i) % w) ((w * h + i) / w)
  rw [Nat.mul_add_mod,Nat.mod_eq_of_lt hi,Nat.mul_add_div hw,Nat.div_eq_of_lt hi,Nat.add_zero]
theorem z1v {b : B4} (h : z4d b) : q3h b = q1r b:=by
 obtain ⟨h1,h2⟩:=h
 unfold q3h k4v q1r
 obtain ⟨x,y,w,g⟩:=b
 dsimp only at h1 h2 ⊢
 obtain ⟨w',rfl⟩ : ∃ n : Nat,w = n:=⟨w.toNat,by omega⟩
 obtain ⟨g',rfl⟩ : ∃ n : Nat,g = n:=⟨g.toNat,by omega⟩
 have hw : 0 < w':=by omega
 rw [Int.toNat_natCast,Int.toNat_natCast,show ((w' : Int) * (g' : Int)).toNat = w' * g' by rw [<- Int.natCast_mul,Int.toNat_natCast]]
 rw [z4r w' hw (fun i j => ((x + (i : Int),y + (j : Int)) : Cel)) g']
 apply List.map_congr_left
 intro k _
 simp
open TX
theorem z1z (p : q2k) (k : Int) : ∀ (l : List B4) (i : Nat),q7m (q1z p i l) k = if (i : Int) <= k then (l[(k - i).toNat]?).bind fun b => if q3r p b = true then some b else none else none
 | [],i => by simp [q1z,q7m]
 | b :: r,i => by
  have ih:=z1z p k r (i + 1)
  unfold q1z
  by_cases e : (i : Int) = k
  ·subst e
   rw [if_pos (Int.le_refl _),Int.sub_self]
   by_cases o : q3r p b = true
   ·rw [if_pos o]
    unfold q7m
    rw [if_pos rfl]
    simp [o]
   ·rw [if_neg o,ih,if_neg (by omega)]
    simp [o]
  ·have e2 : q7m (if q3r p b = true then (i,b) :: q1z p (i + 1) r else q1z p (i + 1) r) k = q7m (q1z p (i + 1) r) k:=by
    by_cases o : q3r p b = true
    ·rw [if_pos o]
     show (if (i : Int) = k then some b else q7m (q1z p (i + 1) r) k) = _
     rw [if_neg e]
    ·rw [if_neg o]
   rw [e2,ih]
   by_cases c : (i : Int) <= k
   ·rw [if_pos c,if_pos (by omega),show (k - (i : Int)).toNat = (k - ((i + 1 : Nat) : Int)).toNat + 1 by omega,List.getElem?_cons_succ]
   ·rw [if_neg c,if_neg (by omega)]
theorem z7h {p : q2k} (ok : OkP p) {q : Pt} (hq : q ∈ p.pts) (k : Int) : q7m (q8z p q) k = opB p (q.name,k):=by
 unfold q8z
 rw [z1z,q7r ok hq]
 unfold q7c
 by_cases c : 0 <= k
 ·rw [if_pos (by omega),if_pos c]; simp
 ·rw [if_neg (by omega),if_neg c]; rfl
theorem k9e {p : q2k} {s : List (Option Int)} {c : Cel} {i : Nat} {q : Pt} {k : Int} {b : B4} (hq : p.pts[i]? = some q) (hs : s[i]? = some (some k)) (hb : q7c q k = some b) (hc : inB b c) : q2e p s c i = true:=by
 unfold q2e
 rw [hq,hs]
 dsimp only
 rw [hb]
 exact decide_eq_true hc
theorem z3d {p : q2k} (L : PlP p) {s : List (Option Int)} (g : q4n p s) (sp : Sep p s) : ∀ (m i : Nat) (bs : List B4),m + i = p.pts.length -> (∀ b ∈ bs,∃ j q k,j < i /\ p.pts[j]? = some q /\ s[j]? = some (some k) /\ q7c q k = some b /\ z4d b) -> q6m p (p.pts.drop i) (s.drop i) bs = true
 | 0,i,bs,h,_ => by
  rw [List.drop_eq_nil_of_le (by omega)]
  unfold q6m
  rfl
 | m + 1,i,bs,h,hbs => by
  have hi : i < p.pts.length:=by omega
  have his : i < s.length:=by rw [g.len]; exact hi
  have hq : p.pts[i]? = some p.pts[i]:=List.getElem?_eq_getElem hi
  have hqm : p.pts[i] ∈ p.pts:=List.getElem_mem hi
  rw [List.drop_eq_getElem_cons hi,List.drop_eq_getElem_cons his]
  cases ho : s[i] with
  | none =>
   refine z3d L g sp m (i + 1) bs (by omega) fun b hb => ?_
   obtain ⟨j,q,k,h1,h2⟩:=hbs b hb
   exact ⟨j,q,k,by omega,h2⟩
  | some k =>
   have hsi : s[i]? = some (some k):=by rw [List.getElem?_eq_getElem his,ho]
   obtain ⟨b,hb⟩:=g.op i _ k hq hsi
   have hbk:=q4y L.ok hqm hb
   have hpos:=(q9b L hb).pos
   show (match q7m (q8z p p.pts[i]) k with
    | none => false
    | some b => if bs.any (fun c => q5d b c) = true then false else q6m p (p.pts.drop (i + 1)) (s.drop (i + 1)) (bs ++ [b])) = true
   rw [z7h L.ok hqm,hb]
   dsimp only
   rw [if_neg]
   ·refine z3d L g sp m (i + 1) (bs ++ [b]) (by omega) fun b' hb' => ?_
    rcases List.mem_append.mp hb' with hb' | hb'
    ·obtain ⟨j,q,k,h1,h2⟩:=hbs b' hb'
     exact ⟨j,q,k,by omega,h2⟩
    ·rw [List.mem_singleton] at hb'
     subst hb'
     exact ⟨i,_,k,by omega,hq,hsi,hbk,hpos⟩
   ·intro hany
    obtain ⟨b',hb',hm⟩:=List.any_eq_true.mp hany
    obtain ⟨j,q,k',h1,h2,h3,h4,h5⟩:=hbs b' hb'
    obtain ⟨c,hc1,hc2⟩:=(q5y hpos h5).mp hm
    have e1:=k9e h2 h3 h4 hc2
    have e2:=k9e hq hsi hbk hc1
    rw [sp c j i h1 e1] at e2; cases e2
theorem j8m {p : q2k} (L : PlP p) {s : List (Option Int)} (g : q4n p s) (sp : Sep p s) : q6m p p.pts s [] = true:=by
 have:=z3d L g sp p.pts.length 0 [] (by omega) (by simp)
 simpa using this
open TX
theorem z8t {P Q : Nat -> Bool} {sm gr : Nat -> Nat} {base : Option Nat} {i : Nat} : ∀ {n : Nat},i < n -> (∀ j,j < n -> Q j = false) -> (∀ j,j < n -> j ≠ i -> P j = false) -> P i = true -> q8j P Q sm gr base n = some (sm i)
 | 0,h,_,_,_ => by omega
 | n + 1,h,hQ,hP,hi => by
  show (if P n = true then some (sm n) else if Q n = true then some (gr n) else q8j P Q sm gr base n) = _
  by_cases e : n = i
  ·subst e; rw [if_pos hi]
  ·rw [hP n (by omega) e,hQ n (by omega),if_neg (by decide),if_neg (by decide)]
   exact z8t (by omega) (fun j hj => hQ j (by omega)) (fun j hj => hP j (by omega)) hi
theorem q7t {P Q : Nat -> Bool} {sm gr : Nat -> Nat} {base : Option Nat} {v : Nat} : ∀ {n : Nat},q8j P Q sm gr base n = some v -> (∃ j,j < n /\ P j = true /\ v = sm j) \/ (∃ j,j < n /\ Q j = true /\ v = gr j) \/ base = some v
 | 0,h => .inr (.inr h)
 | n + 1,h => by
  have h : (if P n = true then some (sm n) else if Q n = true then some (gr n) else q8j P Q sm gr base n) = some v:=h
  by_cases e : P n = true
  ·rw [if_pos e] at h
   exact .inl ⟨n,by omega,e,(Option.some.inj h).symm⟩
  ·rw [if_neg e] at h
   by_cases e2 : Q n = true
   ·rw [if_pos e2] at h
    exact .inr (.inl ⟨n,by omega,e2,(Option.some.inj h).symm⟩)
   ·rw [if_neg e2] at h
    rcases q7t h with ⟨j,h1,h2⟩ | ⟨j,h1,h2⟩ | h
    ·exact .inl ⟨j,by omega,h2⟩
    ·exact .inr (.inl ⟨j,by omega,h2⟩)
    ·exact .inr (.inr h)
theorem q9q (a m n : Nat) (h : a + m <= n) : List.range n = List.range a ++ ((List.range m).map (a + ·) ++ (List.range (n - (a + m))).map (a + m + ·)):=by
 have e : n = (a + m) + (n - (a + m)):=by omega
 conv => lhs; rw [e,List.range_add,List.range_add]
 rw [List.append_assoc]
theorem z5d (a m n : Nat) (h : a + m <= n) {f : Nat -> Bool} (hf : ∀ x,f x = decide (a <= x /\ x < a + m)) : (List.range n).filter f = (List.range m).map (a + ·):=by
 rw [q9q a m n h,List.filter_append,List.filter_append]
 have h1 : (List.range a).filter f = []:=List.filter_eq_nil_iff.mpr fun x hx => by
  rw [List.mem_range] at hx
  rw [hf,decide_eq_true_eq]; omega
 have h3 : ((List.range (n - (a + m))).map (a + m + ·)).filter f = []:=List.filter_eq_nil_iff.mpr fun x hx => by
  obtain ⟨z,hz,rfl⟩:=List.mem_map.mp hx
  rw [hf,decide_eq_true_eq]; omega
 have h2 : ((List.range m).map (a + ·)).filter f = (List.range m).map (a + ·):=List.filter_eq_self.mpr fun x hx => by
  obtain ⟨z,hz,rfl⟩:=List.mem_map.mp hx
  rw [List.mem_range] at hz
  rw [hf,decide_eq_true_eq]; omega
 rw [h1,h2,h3]; simp
theorem k0e {β : Type} (a m n : Nat) (h : a + m <= n) {f : Nat -> List β} {F : Nat -> List β} (h1 : ∀ y,¬ (a <= y /\ y < a + m) -> f y = []) (h2 : ∀ z,z < m -> f (a + z) = F z) : (List.range n).flatMap f = (List.range m).flatMap F:=by
 rw [q9q a m n h,List.flatMap_append,List.flatMap_append]
 have e1 : (List.range a).flatMap f = []:=List.flatMap_eq_nil_iff.mpr fun x hx => h1 x (by rw [List.mem_range] at hx; omega)
 have e3 : ((List.range (n - (a + m))).map (a + m + ·)).flatMap f = []:=List.flatMap_eq_nil_iff.mpr fun x hx => by
  obtain ⟨z,hz,rfl⟩:=List.mem_map.mp hx
  exact h1 _ (by omega)
 have e2 : ((List.range m).map (a + ·)).flatMap f = (List.range m).flatMap F:=by
  rw [List.flatMap_map]
  rw [List.flatMap_def,List.flatMap_def]
  congr 1
  exact List.map_congr_left fun z hz => h2 z (List.mem_range.mp hz)
 rw [e1,e2,e3]; simp
theorem z3c (p : q2k) (g : Cel -> Option Nat) (c : Nat) : q4g c (rowsOf p g) = (List.range p.high.toNat).flatMap fun (y : Nat) => ((List.range p.wide.toNat).filter fun (x : Nat) => decide (sgn (g ((x : Int),(y : Int))) = c)).map fun (x : Nat) => ((x : Int),(y : Int)):=by
 unfold q4g rowsOf
 rw [List.flatMap_def]
 congr 1
 refine List.ext_getElem? fun y => ?_
 rw [List.getElem?_map,List.getElem?_map,List.getElem?_zipIdx,List.getElem?_map]
 by_cases hy : y < p.high.toNat
 ·rw [List.getElem?_range hy]
  simp only [Option.map_some,Nat.zero_add]
  congr 1
  unfold k4w
  have e : ((List.range p.wide.toNat).map fun (x : Nat) => sgn (g ((x : Int),(y : Int)))).zipIdx = (List.range p.wide.toNat).map fun (x : Nat) => (sgn (g ((x : Int),(y : Int))),x):=by
   refine List.ext_getElem? fun x => ?_
   rw [List.getElem?_zipIdx,List.getElem?_map,List.getElem?_map]
   by_cases hx : x < p.wide.toNat
   ·rw [List.getElem?_range hx]; simp
   ·rw [List.getElem?_eq_none (by simpa using hx)]; rfl
  rw [e,List.filter_map,List.map_map]
  rfl
 ·rw [List.getElem?_eq_none (by simpa using hy)]; rfl
theorem z1w {p : q2k} {g : Cel -> Option Nat} {c : Nat} {b : B4} (hb : 0 <= b.1 /\ b.1 + b.2.2.1 <= p.wide /\ 0 <= b.2.1 /\ b.2.1 + b.2.2.2 <= p.high /\ 1 <= b.2.2.1 /\ 1 <= b.2.2.2) (h : ∀ z,sgn (g z) = c ↔ inB b z) : q4g c (rowsOf p g) = q3h b:=by
 rw [z3c]
 unfold q3h
 refine k0e b.2.1.toNat b.2.2.2.toNat p.high.toNat (by omega) (fun y hy => ?_) fun y hy => ?_
 ·rw [List.map_eq_nil_iff,List.filter_eq_nil_iff]
  intro x _ hx
  have:=(h _).mp (of_decide_eq_true hx)
  unfold inB at this
  dsimp only at this
  omega
 ·rw [z5d b.1.toNat b.2.2.1.toNat p.wide.toNat (by omega) fun x => ?_,List.map_map]
  ·unfold k4v
   refine List.map_congr_left fun x _ => ?_
   show (((b.1.toNat + x : Nat) : Int),((b.2.1.toNat + y : Nat) : Int)) = _
   refine Prod.ext ?_ ?_ <;> dsimp only <;> omega
  ·rw [Bool.eq_iff_iff,decide_eq_true_eq,decide_eq_true_eq,h]
   unfold inB
   dsimp only
   omega
theorem z1p {p : q2k} {g : Cel -> Option Nat} {c : Nat} (h : ∀ z,sgn (g z) ≠ c) : q4g c (rowsOf p g) = []:=by
 rw [z3c,List.flatMap_eq_nil_iff]
 intro y _
 rw [List.map_eq_nil_iff,List.filter_eq_nil_iff]
 intro x _ hx
 exact h _ (of_decide_eq_true hx)
theorem k7y {p : q2k} (L : PlP p) {s : List (Option Int)} (g : q4n p s) {c : Cel} {i j : Nat} (hi : i < p.pts.length) (hj : j < p.pts.length) (h1 : q2e p s c i = true) (h2 : q8q p c j = true) : False:=by
 have his : i < s.length:=by rw [g.len]; exact hi
 unfold q2e at h1
 unfold q8q at h2
 rw [List.getElem?_eq_getElem hi,List.getElem?_eq_getElem his] at h1
 rw [List.getElem?_eq_getElem hj] at h2
 cases hs : s[i] with
 | none => rw [hs] at h1; cases h1
 | some k =>
  rw [hs] at h1
  obtain ⟨b,hb⟩:=g.op i _ k (List.getElem?_eq_getElem hi) (by rw [List.getElem?_eq_getElem his,hs])
  have hbk:=q4y L.ok (List.getElem_mem hi) hb
  obtain ⟨_,_,_,_,ho⟩:=q4s hb
  simp only [hbk] at h1
  exact ((q8l L.ok (q9b L hb).pos).mp ho c (of_decide_eq_true h1)).2 (.inr ⟨_,List.getElem_mem hj,of_decide_eq_true h2⟩)
theorem z3b {p : q2k} (L : PlP p) {s : List (Option Int)} (g : q4n p s) (sp : Sep p s) {i : Nat} (hi : i < p.pts.length) (c : Cel) : sgn (sgP p s p.pts.length c) = smI i ↔ q2e p s c i = true:=by
 have hpn:=L.pn
 constructor
 ·intro h
  cases hv : sgP p s p.pts.length c with
  | none => rw [hv] at h; have h : (46 : Nat) = 97 + i:=h; omega
  | some v =>
   rw [hv] at h
   have h : v = 97 + i:=h
   unfold sgP at hv
   rcases q7t hv with ⟨j,h1,h2,h3⟩ | ⟨j,h1,h2,h3⟩ | h3
   ·have h3 : v = 97 + j:=h3
    obtain rfl : j = i:=by omega
    exact h2
   ·have h3 : v = 65 + j:=h3
    omega
   ·unfold q9c at h3
    split at h3
    ·have:=Option.some.inj h3; omega
    ·cases h3
 ·intro h
  have e : sgP p s p.pts.length c = some (smI i):=by
   unfold sgP
   refine z8t hi (fun j hj => ?_) (fun j hj hn => ?_) h
   ·cases hq : q8q p c j with
    | false => rfl
    | true => exact (k7y L g hi hj h hq).elim
   ·rcases Nat.lt_or_gt_of_ne hn with z | z
    ·cases hq : q2e p s c j with
     | false => rfl
     | true => rw [sp c j i z hq] at h; cases h
    ·exact sp c i j z h
  rw [e]; rfl
open TX
theorem k0o {a b : B4} (ha : z4d a) (hb : z4d b) (h : ∀ c,inB a c ↔ inB b c) : a = b:=by
 obtain ⟨x,y,n,m⟩:=a
 obtain ⟨u,v,k,l⟩:=b
 obtain ⟨h1,h2⟩:=ha
 obtain ⟨h3,h4⟩:=hb
 simp only at h1 h2 h3 h4
 unfold inB at h
 have a1:=(h (x,y)).mp (by dsimp only; omega)
 have a2:=(h (x + n - 1,y + m - 1)).mp (by dsimp only; omega)
 have a3:=(h (u,v)).mpr (by dsimp only; omega)
 have a4:=(h (u + k - 1,v + l - 1)).mpr (by dsimp only; omega)
 dsimp only at a1 a2 a3 a4
 have e1 : x = u:=by omega
 have e2 : y = v:=by omega
 have e3 : n = k:=by omega
 have e4 : m = l:=by omega
 rw [e1,e2,e3,e4]
theorem z9j {a b : B4} (ha : z4d a) (hb : z4d b) (h : q3h a = q3h b) : a = b:=k0o ha hb fun c => by rw [<- q4r,<- q4r,h]
theorem z5q {a b : B4} (ha : z4d a) (hb : z4d b) (h : q1r a = q1r b) : a = b:=k0o ha hb fun c => by rw [<- q2p ha,<- q2p hb,h]
theorem z5e {b : B4} (hb : z4d b) : q3h b ≠ []:=fun h => by
 obtain ⟨h1,h2⟩:=hb
 have : (b.1,b.2.1) ∈ q3h b:=q4r.mpr ⟨by dsimp only; omega,by dsimp only; omega,by dsimp only; omega,by dsimp only; omega⟩
 rw [h] at this; cases this
def q7y (q : Pt) (b : B4) : Option Nat:=(q2u q).findIdx? fun z => decide (z = b)
theorem z5p {p : q2k} (L : PlP p) {q : Pt} (hq : q ∈ p.pts) {b : B4} (hb : b ∈ q2u q) : SmB b:=by
 obtain ⟨j,hj⟩:=List.getElem?_of_mem hb
 exact q6d (q:=q) (k:=(j : Int)) (by unfold q7c; rw [if_pos (by omega),Int.toNat_natCast]; exact hj) (L.ok.nm q hq).1 (Nat.le_trans (L.n8 q hq) (by decide)) (L.xy q hq)
theorem q7z {α : Type} {f g : α -> Bool} : ∀ {l : List α},(∀ a ∈ l,f a = g a) -> l.findIdx? f = l.findIdx? g
 | [],_ => rfl
 | a :: r,h => by
  rw [List.findIdx?_cons,List.findIdx?_cons,h a (by simp),q7z fun x hx => h x (.tail _ hx)]
theorem z5y {p : q2k} (L : PlP p) {q : Pt} (hq : q ∈ p.pts) {b : B4} (hb : z4d b) : q7f q (q3h b) = q7y q b:=q7z fun z hz => by
 rw [Bool.eq_iff_iff,decide_eq_true_eq,decide_eq_true_eq]
 exact ⟨fun h => z9j (z5p L hq hz).pos hb h,fun h => by rw [h]⟩
theorem z6l {p : q2k} (L : PlP p) {q : Pt} (hq : q ∈ p.pts) : q7f q [] = none:=by
 unfold q7f
 rw [List.findIdx?_eq_none_iff]
 intro z hz
 exact decide_eq_false (z5e (z5p L hq hz).pos)
def k1o (q : Pt) : Option Int -> Option Int
 | none => none
 | some k => ((q7c q k).bind (q7y q)).map fun (j : Nat) => (j : Int)
theorem q5w {q : Pt} {k : Int} {b : B4} (h : q7c q k = some b) : ∃ j : Nat,q7y q b = some j /\ q7c q (j : Int) = some b /\ (j : Int) <= k /\ ∀ i : Nat,i < j -> q7c q (i : Int) ≠ some b:=by
 unfold q7c at h
 split at h
 ·rename_i h0
  cases hf : q7y q b with
  | none =>
   unfold q7y at hf
   rw [List.findIdx?_eq_none_iff] at hf
   have:=hf b (List.mem_of_getElem? h)
   simp at this
  | some j =>
   unfold q7y at hf
   rw [List.findIdx?_eq_some_iff_getElem] at hf
   obtain ⟨hj,e,hlt⟩:=hf
   have e:=of_decide_eq_true e
   refine ⟨j,rfl,by unfold q7c; rw [if_pos (by omega),Int.toNat_natCast,List.getElem?_eq_getElem hj,e],?_,fun i hi z => ?_⟩
   ·by_cases c : k.toNat < j
    ·obtain ⟨hk,ek⟩:=List.getElem?_eq_some_iff.mp h
     have:=hlt k.toNat c
     rw [ek] at this
     simp at this
    ·omega
   ·unfold q7c at z
    rw [if_pos (by omega),Int.toNat_natCast] at z
    obtain ⟨hk,ek⟩:=List.getElem?_eq_some_iff.mp z
    have:=hlt i hi
    rw [ek] at this
    simp at this
 ·cases h
theorem q6b {q : Pt} {k : Int} {b : B4} {j : Nat} (hbk : q7c q k = some b) (h1 : q7y q b = some j) : k1o q (some k) = some (j : Int):=by
 show Option.map (fun (j : Nat) => (j : Int)) ((q7c q k).bind (q7y q)) = _
 rw [hbk]
 show Option.map _ (q7y q b) = _
 rw [h1]; rfl
def q6q (p : q2k) (s : List (Option Int)) : List (Option Int):=List.zipWith k1o p.pts s
theorem q8e {p : q2k} {s : List (Option Int)} {i : Nat} {q : Pt} {o : Option Int} (hq : p.pts[i]? = some q) (hs : s[i]? = some o) : (q6q p s)[i]? = some (k1o q o):=by
 unfold q6q
 rw [List.getElem?_zipWith,hq,hs]
theorem z7p {p : q2k} (L : PlP p) {s : List (Option Int)} (g : q4n p s) (c : Cel) (i : Nat) : q2e p (q6q p s) c i = q2e p s c i:=by
 cases hq : p.pts[i]? with
 | none => unfold q2e; rw [hq]
 | some q =>
  have hi:=(List.getElem?_eq_some_iff.mp hq).1
  have his : i < s.length:=by rw [g.len]; exact hi
  have hs : s[i]? = some s[i]:=List.getElem?_eq_getElem his
  have hb:=q8e hq hs
  unfold q2e
  rw [hq,hs,hb]
  cases ho : s[i] with
  | none => rfl
  | some k =>
   obtain ⟨b,hob⟩:=g.op i q k hq (by rw [hs,ho])
   have hbk:=q4y L.ok (List.mem_of_getElem? hq) hob
   obtain ⟨j,h1,h2,_⟩:=q5w hbk
   have e:=q6b hbk h1
   rw [e]
   dsimp only
   rw [h2,hbk]
theorem q6v {p : q2k} {s : List (Option Int)} (g : q4n p s) : (q6q p s).length = p.pts.length:=by
 unfold q6q; rw [List.length_zipWith,g.len,Nat.min_self]
theorem z0d {p : q2k} (L : PlP p) {s : List (Option Int)} (g : q4n p s) : q4n p (q6q p s):=by
 refine ⟨q6v g,fun i q k hq hk => ?_⟩
 have hi:=(List.getElem?_eq_some_iff.mp hq).1
 have his : i < s.length:=by rw [g.len]; exact hi
 have hs : s[i]? = some s[i]:=List.getElem?_eq_getElem his
 rw [q8e hq hs] at hk
 have hqm:=List.mem_of_getElem? hq
 cases ho : s[i] with
 | none => rw [ho] at hk; cases hk
 | some k0 =>
  rw [ho] at hk hs
  obtain ⟨b,hob⟩:=g.op i q k0 hq hs
  have hbk:=q4y L.ok hqm hob
  obtain ⟨j,h1,h2,_⟩:=q5w hbk
  have e:=q6b hbk h1
  rw [e] at hk
  cases hk
  obtain ⟨_,_,_,_,hop⟩:=q4s hob
  refine ⟨b,?_⟩
  rw [q7r L.ok hqm,h2]
  show (if q3r p b = true then some b else none) = some b
  rw [if_pos hop]
theorem k6b {p : q2k} (L : PlP p) {s : List (Option Int)} (g : q4n p s) (sp : Sep p s) : Sep p (q6q p s):=fun c i j h h1 => by
 rw [z7p L g] at h1 ⊢
 exact sp c i j h h1
theorem k4d {p : q2k} (L : PlP p) {s : List (Option Int)} (g : q4n p s) : sgP p (q6q p s) p.pts.length = sgP p s p.pts.length:=by
 funext c
 unfold sgP
 congr 1
 funext i
 exact z7p L g c i
theorem z1o {p : q2k} {b : B4} (h : q3r p b = true) : 0 <= b.1 /\ b.1 + b.2.2.1 <= p.wide /\ 0 <= b.2.1 /\ b.2.1 + b.2.2.2 <= p.high:=by
 unfold q3r q9d at h
 simp only [Bool.and_eq_true,decide_eq_true_eq] at h
 omega
theorem j4z {p : q2k} (L : PlP p) {s : List (Option Int)} (g : q4n p s) (sp : Sep p s) {i : Nat} {q : Pt} {o : Option Int} (hq : p.pts[i]? = some q) (hs : s[i]? = some o) : dN (q7f q (q4g (smI i) (rowsOf p (sgP p s p.pts.length)))) = dO (k1o q o):=by
 have hi:=(List.getElem?_eq_some_iff.mp hq).1
 have hqm:=List.mem_of_getElem? hq
 cases o with
 | none =>
  have e : q4g (smI i) (rowsOf p (sgP p s p.pts.length)) = []:=z1p fun z h => by
   have:=(z3b L g sp hi z).mp h
   unfold q2e at this
   rw [hq,hs] at this
   cases this
  rw [e,z6l L hqm]; rfl
 | some k =>
  obtain ⟨b,hob⟩:=g.op i q k hq hs
  have hbk:=q4y L.ok hqm hob
  have hsm:=q9b L hob
  obtain ⟨_,_,_,_,hop⟩:=q4s hob
  have hsh:=z1o hop
  have e : q4g (smI i) (rowsOf p (sgP p s p.pts.length)) = q3h b:=z1w ⟨hsh.1,hsh.2.1,hsh.2.2.1,hsh.2.2.2,hsm.w1,hsm.h1⟩ fun z => by
   rw [z3b L g sp hi z]
   unfold q2e
   rw [hq,hs]
   dsimp only
   rw [hbk]
   exact decide_eq_true_iff
  rw [e,z5y L hqm hsm.pos]
  obtain ⟨j,h1,h2,_⟩:=q5w hbk
  have e:=q6b hbk h1
  rw [e,h1]; rfl
open TX
def lf (p : q2k) (q : Pt) (cl : List Cel) : List Nat:=(List.range q.places.length).filter fun (j : Nat) => decide ((opB p (q.name,(j : Int))).map q1r = some cl)
def plL (p : q2k) (q : Pt) (cl : List Cel) : Option (Option Int):=if cl = [] then some none else (lf p q cl).head?.map fun (j : Nat) => some (j : Int)
structure RdS (p : q2k) (rows : List (List Nat)) (s : List (Option Int)) : Prop where
 len : s.length = p.pts.length
 at_ : ∀ (i : Nat) q,p.pts[i]? = some q -> ∃ o,s[i]? = some o /\ plL p q (q4g (smI i) rows) = some o
def RdN (p : q2k) (rows : List (List Nat)) : Prop:=∃ (i : Nat) (q : Pt),p.pts[i]? = some q /\ plL p q (q4g (smI i) rows) = none
def k1z (p : q2k) (rows : List (List Nat)) : Prop:=∀ s,q4n p s -> Sep p s -> rows ≠ rowsOf p (sgP p s p.pts.length)
theorem RdS.uniq {p : q2k} {rows : List (List Nat)} {s s' : List (Option Int)} (a : RdS p rows s) (b : RdS p rows s') : s = s':=by
 refine List.ext_getElem? fun i => ?_
 by_cases h : i < p.pts.length
 ·obtain ⟨o,h1,h2⟩:=a.at_ i _ (List.getElem?_eq_getElem h)
  obtain ⟨o',h3,h4⟩:=b.at_ i _ (List.getElem?_eq_getElem h)
  rw [h1,h3]
  rw [h2] at h4
  exact h4
 ·rw [List.getElem?_eq_none (by rw [a.len]; omega),List.getElem?_eq_none (by rw [b.len]; omega)]
theorem RdS.no {p : q2k} {rows : List (List Nat)} {s : List (Option Int)} (a : RdS p rows s) (b : RdN p rows) : False:=by
 obtain ⟨i,q,h1,h2⟩:=b
 obtain ⟨o,_,h4⟩:=a.at_ i q h1
 rw [h2] at h4; cases h4
theorem k1k {p : q2k} {q : Pt} : plL p q [] = some none:=by unfold plL; rw [if_pos rfl]
theorem z3e {p : q2k} {q : Pt} {cl : List Cel} {k : Int} (h : plL p q cl = some (some k)) : ∃ (j : Nat) (b : B4) (r : List Nat),k = (j : Int) /\ j < q.places.length /\ opB p (q.name,(j : Int)) = some b /\ q1r b = cl /\ ∀ i : Nat,i < j -> ∀ b',opB p (q.name,(i : Int)) = some b' -> q1r b' ≠ cl:=by
 unfold plL at h
 split at h
 ·cases h
 cases hl : lf p q cl with
 | nil => rw [hl] at h; cases h
 | cons j r =>
  rw [hl] at h
  have h : some (some (j : Int)) = some (some k):=h
  injection h with h; injection h with h
  subst h
  have hm : j ∈ lf p q cl:=by rw [hl]; exact .head _
  unfold lf at hm hl
  rw [List.mem_filter] at hm
  obtain ⟨h1,h2⟩:=hm
  have h2:=of_decide_eq_true h2
  cases hb : opB p (q.name,(j : Int)) with
  | none => rw [hb] at h2; cases h2
  | some b =>
   rw [hb] at h2
   refine ⟨j,b,r,rfl,List.mem_range.mp h1,hb,Option.some.inj h2,fun i hi b' hb' he => ?_⟩
   have hpw : (lf p q cl).Pairwise (· < ·):=List.Pairwise.filter _ List.pairwise_lt_range
   unfold lf at hpw
   rw [hl] at hpw
   have hmi : i ∈ j :: r:=by
    rw [<- hl,List.mem_filter]
    exact ⟨List.mem_range.mpr (by have:=List.mem_range.mp h1; omega),decide_eq_true (by rw [hb',<- he]; rfl)⟩
   rcases List.mem_cons.mp hmi with e | e
   ·omega
   ·have:=(List.pairwise_cons.mp hpw).1 i e; omega
theorem z4b {P Q : Nat -> Bool} {sm gr : Nat -> Nat} {base : Option Nat} {j : Nat} : ∀ {n : Nat},j < n -> P j = true -> ∃ v j',q8j P Q sm gr base n = some v /\ j <= j' /\ j' < n /\ (v = sm j' \/ v = gr j')
 | 0,h,_ => by omega
 | n + 1,h,hP => by
  show ∃ v j',(if P n = true then some (sm n) else if Q n = true then some (gr n) else q8j P Q sm gr base n) = some v /\ _
  by_cases e : P n = true
  ·exact ⟨_,n,if_pos e,by omega,by omega,.inl rfl⟩
  ·rw [if_neg e]
   by_cases e2 : Q n = true
   ·exact ⟨_,n,if_pos e2,by omega,by omega,.inr rfl⟩
   ·rw [if_neg e2]
    obtain ⟨v,j',h1,h2,h3,h4⟩:=z4b (n:=n) (by
     rcases Nat.lt_or_ge j n with z | z
     ·exact z
     ·obtain rfl : j = n:=by omega
      exact absurd hP e) hP
    exact ⟨v,j',h1,h2,by omega,h4⟩
theorem k0y {p : q2k} {g : Cel -> Option Nat} {ch : Nat} {c : Cel} (h : c ∈ q4g ch (rowsOf p g)) : sgn (g c) = ch:=by
 rw [z3c,List.mem_flatMap] at h
 obtain ⟨y,_,h⟩:=h
 obtain ⟨x,hx,rfl⟩:=List.mem_map.mp h
 exact of_decide_eq_true (List.mem_filter.mp hx).2
theorem z2p {p : q2k} (L : PlP p) {s : List (Option Int)} (g : q4n p s) : rowsOf p (z4q p s p.pts.length) = rowsOf p (sgP p s p.pts.length):=by
 rw [show sgP p s p.pts.length = z4q p s p.pts.length from funext fun c => w2a L.ok L.n8 L.xy g c]
theorem z5c {p : q2k} (L : PlP p) {rows : List (List Nat)} {s : List (Option Int)} (r : RdS p rows s) : q4n p s:=by
 refine ⟨r.len,fun i q k hq hs => ?_⟩
 obtain ⟨o,h1,h2⟩:=r.at_ i q hq
 rw [hs] at h1
 cases h1
 obtain ⟨j,b,_,rfl,_,hb,_⟩:=z3e h2
 exact ⟨b,hb⟩
theorem k5j {p : q2k} (L : PlP p) {rows : List (List Nat)} {s : List (Option Int)} (r : RdS p rows s) (hr : rowsOf p (sgP p s p.pts.length) = rows) : Sep p s /\ q6q p s = s:=by
 have g:=z5c L r
 have hpn:=L.pn
 constructor
 ·intro c i j hij hi
  cases hj : q2e p s c j with
  | false => rfl
  | true =>
   exfalso
   have hjl:=q5v hj
   rw [g.len] at hjl
   have hil : i < p.pts.length:=by omega
   obtain ⟨o,h1,h2⟩:=r.at_ i _ (List.getElem?_eq_getElem hil)
   have hc : c ∈ q4g (smI i) rows:=by
    unfold q2e at hi
    rw [List.getElem?_eq_getElem hil,h1] at hi
    cases o with
    | none => cases hi
    | some k =>
     obtain ⟨j',b,_,rfl,_,hb,hcl,_⟩:=z3e h2
     have hbk:=q4y L.ok (List.getElem_mem hil) hb
     simp only [hbk] at hi
     rw [<- hcl,q2p (q9b L hb).pos]
     exact of_decide_eq_true hi
   rw [<- hr] at hc
   have hs:=k0y hc
   obtain ⟨v,j',e1,e2,e3,e4⟩:=z4b (P:=q2e p s c) (Q:=q8q p c) (sm:=smI) (gr:=grI) (base:=q9c p c) hjl hj
   have e1 : sgP p s p.pts.length c = some v:=e1
   rw [e1] at hs
   have hs : v = 97 + i:=hs
   rcases e4 with e4 | e4
   ·have e4 : v = 97 + j':=e4; omega
   ·have e4 : v = 65 + j':=e4; omega
 ·refine List.ext_getElem? fun i => ?_
  by_cases h : i < p.pts.length
  ·obtain ⟨o,h1,h2⟩:=r.at_ i _ (List.getElem?_eq_getElem h)
   rw [q8e (List.getElem?_eq_getElem h) h1,h1]
   congr 1
   cases o with
   | none => rfl
   | some k =>
    obtain ⟨j,b,_,rfl,_,hb,hcl,hmin⟩:=z3e h2
    have hqm:=List.getElem_mem h
    have hbk:=q4y L.ok hqm hb
    obtain ⟨j0,f1,f2,f3,_⟩:=q5w hbk
    rw [q6b hbk f1]
    congr 2
    rcases Nat.lt_or_ge j0 j with z | z
    ·obtain ⟨_,_,_,_,hop⟩:=q4s hb
     have hb0 : opB p ((p.pts[i]).name,(j0 : Int)) = some b:=by
      rw [q7r L.ok hqm,f2]
      show (if q3r p b = true then some b else none) = some b
      rw [if_pos hop]
     exact absurd hcl (hmin j0 z b hb0)
    ·omega
  ·rw [List.getElem?_eq_none (by rw [q6v g]; omega),List.getElem?_eq_none (by rw [g.len]; omega)]
theorem q9i {p : q2k} (L : PlP p) {s : List (Option Int)} (g : q4n p s) (sp : Sep p s) : RdS p (rowsOf p (sgP p s p.pts.length)) (q6q p s):=by
 refine ⟨q6v g,fun i q hq => ?_⟩
 have hi:=(List.getElem?_eq_some_iff.mp hq).1
 have hqm:=List.mem_of_getElem? hq
 have his : i < s.length:=by rw [g.len]; exact hi
 have hs : s[i]? = some s[i]:=List.getElem?_eq_getElem his
 refine ⟨_,q8e hq hs,?_⟩
 generalize s[i] = o at hs ⊢
 cases o with
 | none =>
  have e : q4g (smI i) (rowsOf p (sgP p s p.pts.length)) = []:=z1p fun z h => by
   have:=(z3b L g sp hi z).mp h
   unfold q2e at this
   rw [hq,hs] at this
   cases this
  rw [e,k1k]; rfl
 | some k =>
  obtain ⟨b,hob⟩:=g.op i q k hq hs
  have hbk:=q4y L.ok hqm hob
  have hsm:=q9b L hob
  obtain ⟨_,_,_,_,hop⟩:=q4s hob
  have hsh:=z1o hop
  have e : q4g (smI i) (rowsOf p (sgP p s p.pts.length)) = q3h b:=z1w ⟨hsh.1,hsh.2.1,hsh.2.2.1,hsh.2.2.2,hsm.w1,hsm.h1⟩ fun z => by
   rw [z3b L g sp hi z]
   unfold q2e
   rw [hq,hs]
   dsimp only
   rw [hbk]
   exact decide_eq_true_iff
  obtain ⟨j,f1,f2,_,f4⟩:=q5w hbk
  rw [e,q6b hbk f1]
  unfold plL
  rw [if_neg (z5e hsm.pos)]
  have hjl : j < q.places.length:=by
   unfold q7c at f2
   rw [if_pos (by omega)] at f2
   have:=(List.getElem?_eq_some_iff.mp f2).1
   rw [z5o] at this
   omega
  have hopj : ∀ i : Nat,((opB p (q.name,(i : Int))).map q1r = some (q3h b)) ↔ q7c q (i : Int) = some b:=fun i => by
   constructor
   ·intro h
    cases hb' : opB p (q.name,(i : Int)) with
    | none => rw [hb'] at h; cases h
    | some b' =>
     rw [hb'] at h
     have h:=Option.some.inj h
     rw [z1v hsm.pos] at h
     rw [q4y L.ok hqm hb',z5q (q9b L hb').pos hsm.pos h]
   ·intro h
    rw [q7r L.ok hqm,h]
    show Option.map q1r (if q3r p b = true then some b else none) = some (q3h b)
    rw [if_pos hop,z1v hsm.pos]; rfl
  have hh : ∃ r : List Nat,lf p q (q3h b) = j :: r:=by
   unfold lf
   rw [q9q j 1 _ (by omega),List.filter_append,List.filter_append]
   have z1 : (List.range j).filter (fun (i : Nat) => decide ((opB p (q.name,(i : Int))).map q1r = some (q3h b))) = []:=List.filter_eq_nil_iff.mpr fun i hi z => f4 i (List.mem_range.mp hi) ((hopj i).mp (of_decide_eq_true z))
   have z2 : ((List.range 1).map (j + ·)).filter (fun (i : Nat) => decide ((opB p (q.name,(i : Int))).map q1r = some (q3h b))) = [j]:=by
    show List.filter _ [j + 0] = [j]
    rw [Nat.add_zero,List.filter_cons,decide_eq_true ((hopj j).mpr f2)]; rfl
   rw [z1,z2]
   exact ⟨_,rfl⟩
  obtain ⟨r,hr⟩:=hh
  rw [hr]; rfl
theorem z2x {p : q2k} (L : PlP p) {rows : List (List Nat)} (h : RdN p rows) : k1z p rows:=fun s g sp e => by
 subst e
 exact (q9i L g sp).no h
theorem z0u {p : q2k} (L : PlP p) {rows : List (List Nat)} {s : List (Option Int)} (r : RdS p rows s) (h : rowsOf p (z4q p s p.pts.length) ≠ rows) : k1z p rows:=fun s' g sp e => by
 subst e
 cases r.uniq (q9i L g sp)
 rw [z2p L (z0d L g),k4d L g] at h
 exact h rfl
theorem z3f {p : q2k} (L : PlP p) {s : List (Option Int)} (hl : s.length = p.pts.length) : ∀ (m i : Nat) (bs : List B4),m + i = p.pts.length -> q6m p (p.pts.drop i) (s.drop i) bs = true →
  ∀ (j : Nat) q k,i <= j -> p.pts[j]? = some q -> s[j]? = some (some k) -> ∃ b,opB p (q.name,k) = some b /\ (∀ c ∈ bs,q5d b c = false) /\ ∀ (j' : Nat) q' k' b',i <= j' -> j' < j -> p.pts[j']? = some q' -> s[j']? = some (some k') -> opB p (q'.name,k') = some b' -> q5d b b' = false
 | 0,i,bs,h,_,j,q,k,hj,hq,_ => by
  have:=(List.getElem?_eq_some_iff.mp hq).1
  omega
 | m + 1,i,bs,h,hs,j,q,k,hj,hq,hk => by
  have hi : i < p.pts.length:=by omega
  have his : i < s.length:=by omega
  rw [List.drop_eq_getElem_cons hi,List.drop_eq_getElem_cons his] at hs
  cases ho : s[i] with
  | none =>
   rw [ho] at hs
   have hs : q6m p (p.pts.drop (i + 1)) (s.drop (i + 1)) bs = true:=hs
   have hne : i ≠ j:=fun e => by
    subst e
    rw [List.getElem?_eq_getElem his,ho] at hk; cases hk
   obtain ⟨b,h1,h2,h3⟩:=z3f L hl m (i + 1) bs (by omega) hs j q k (by omega) hq hk
   refine ⟨b,h1,h2,fun j' q' k' b' a1 a2 a3 a4 a5 => h3 j' q' k' b' ?_ a2 a3 a4 a5⟩
   rcases Nat.lt_or_ge i j' with z | z
   ·omega
   ·obtain rfl : i = j':=by omega
    rw [List.getElem?_eq_getElem his,ho] at a4; cases a4
  | some k0 =>
   rw [ho] at hs
   have hs : (match q7m (q8z p p.pts[i]) k0 with
    | none => false
    | some b => if bs.any (fun c => q5d b c) = true then false else q6m p (p.pts.drop (i + 1)) (s.drop (i + 1)) (bs ++ [b])) = true:=hs
   rw [z7h L.ok (List.getElem_mem hi)] at hs
   cases hb : opB p ((p.pts[i]).name,k0) with
   | none => rw [hb] at hs; cases hs
   | some b0 =>
    rw [hb] at hs
    have hs : (if bs.any (fun c => q5d b0 c) = true then false else q6m p (p.pts.drop (i + 1)) (s.drop (i + 1)) (bs ++ [b0])) = true:=hs
    split at hs
    ·cases hs
    rename_i hany
    have hfree : ∀ c ∈ bs,q5d b0 c = false:=fun c hc => by
     cases z : q5d b0 c with
     | false => rfl
     | true => exact absurd (List.any_eq_true.mpr ⟨c,hc,z⟩) hany
    rcases Nat.lt_or_ge i j with z | z
    ·obtain ⟨b,h1,h2,h3⟩:=z3f L hl m (i + 1) (bs ++ [b0]) (by omega) hs j q k (by omega) hq hk
     refine ⟨b,h1,fun c hc => h2 c (List.mem_append_left _ hc),fun j' q' k' b' a1 a2 a3 a4 a5 => ?_⟩
     rcases Nat.lt_or_ge i j' with z' | z'
     ·exact h3 j' q' k' b' (by omega) a2 a3 a4 a5
     ·obtain rfl : i = j':=by omega
      rw [List.getElem?_eq_getElem hi] at a3
      cases a3
      rw [List.getElem?_eq_getElem his,ho] at a4
      cases a4
      rw [hb] at a5
      cases a5
      exact h2 _ (List.mem_append_right _ (.head _))
    ·obtain rfl : i = j:=by omega
     rw [List.getElem?_eq_getElem hi] at hq
     cases hq
     rw [List.getElem?_eq_getElem his,ho] at hk
     cases hk
     exact ⟨b0,hb,hfree,fun j' q' k' b' a1 a2 => by omega⟩
theorem k7b {p : q2k} (L : PlP p) {s : List (Option Int)} (hl : s.length = p.pts.length) (h : q6m p p.pts s [] = true) : q4n p s /\ Sep p s:=by
 have key:=z3f L hl p.pts.length 0 [] (by omega) h
 have g : q4n p s:=⟨hl,fun i q k hq hs => let ⟨b,hb,_⟩:=key i q k (by omega) hq hs; ⟨b,hb⟩⟩
 refine ⟨g,fun c i j hij hi => ?_⟩
 cases hj : q2e p s c j with
 | false => rfl
 | true =>
  exfalso
  have hjl:=q5v hj
  have hil : i < s.length:=by omega
  have one : ∀ {i : Nat},i < s.length -> q2e p s c i = true -> ∃ q k b,p.pts[i]? = some q /\ s[i]? = some (some k) /\ opB p (q.name,k) = some b /\ inB b c:=fun {i} hl2 hh => by
   have hip : i < p.pts.length:=by omega
   unfold q2e at hh
   rw [List.getElem?_eq_getElem hip,List.getElem?_eq_getElem hl2] at hh
   cases ho : s[i] with
   | none => rw [ho] at hh; cases hh
   | some k =>
    rw [ho] at hh
    obtain ⟨b,hb⟩:=g.op i _ k (List.getElem?_eq_getElem hip) (by rw [List.getElem?_eq_getElem hl2,ho])
    have hbk:=q4y L.ok (List.getElem_mem hip) hb
    simp only [hbk] at hh
    exact ⟨_,k,b,List.getElem?_eq_getElem hip,by rw [List.getElem?_eq_getElem hl2,ho],hb,of_decide_eq_true hh⟩
  obtain ⟨qi,ki,bi,a1,a2,a3,a4⟩:=one hil hi
  obtain ⟨qj,kj,bj,c1,c2,c3,c4⟩:=one hjl hj
  obtain ⟨b,d1,_,d3⟩:=key j qj kj (by omega) c1 c2
  rw [c3] at d1
  cases d1
  have:=d3 i qi ki bi (by omega) hij a1 a2 a3
  rw [(q5y (q9b L c3).pos (q9b L a3).pos).mpr ⟨c,c4,a4⟩] at this
  cases this
open TX
theorem k4j {p : q2k} (L : PlP p) {s : List (Option Int)} {x : Str} (hx : cs x = q6e 10 (rowsOf p (sgP p s p.pts.length))) : Rws x (rowsOf p (sgP p s p.pts.length)):=by
 obtain ⟨w1,w2,h1,h2⟩:=L.ok.ws
 have hpn:=L.pn
 refine ⟨hx,fun h => ?_,fun r hr hc => ?_,?_,fun r hr => ?_⟩
 ·have:=congrArg List.length h
  unfold rowsOf at this
  rw [List.length_map,List.length_range,List.length_nil] at this
  omega
 ·unfold rowsOf at hr
  obtain ⟨y,_,rfl⟩:=List.mem_map.mp hr
  obtain ⟨z,_,e⟩:=List.mem_map.mp hc
  cases hv : sgP p s p.pts.length ((z : Int),(y : Int)) with
  | none => rw [hv] at e; have e : (46 : Nat) = 10:=e; omega
  | some v =>
   rw [hv] at e
   have e : v = 10:=e
   unfold sgP at hv
   rcases q7t hv with ⟨j,h1,h2,h3⟩ | ⟨j,h1,h2,h3⟩ | h3
   ·have h3 : v = 97 + j:=h3
    omega
   ·have h3 : v = 65 + j:=h3
    omega
   ·unfold q9c at h3
    split at h3
    ·have:=Option.some.inj h3; omega
    ·cases h3
 ·unfold rowsOf; rw [List.length_map,List.length_range]; omega
 ·unfold rowsOf at hr
  obtain ⟨y,_,rfl⟩:=List.mem_map.mp hr
  rw [List.length_map,List.length_range]; omega
theorem q8h : ∀ {l m : List Cel},l.map q2x = m.map q2x -> l = m
 | [],[],_ => rfl
 | a :: l,c :: m,h => by
  rw [List.map_cons,List.map_cons] at h
  injection h with h1 h2
  rw [q8h h2]
  unfold q2x at h1
  simp only [D.tup.injEq,List.cons.injEq,D.int.injEq,and_true] at h1
  rw [Prod.ext h1.1 h1.2]
 | [],_ :: _,h => by simp at h
 | _ :: _,[],h => by simp at h
section
variable {P : Program} {w : World} {K : PySem.W.Frag} {mg : Str -> Option Value} {base : Heap} {t : Adr} {n : Nat}
def pre_q0i : List D -> Prop:=fun ds => ∃ (p : q2k) (s : List (Option Int)) (x : Str),ds = [q2z p,.str x] /\ PlP p /\ q4n p s /\ Sep p s /\ cs x = q6e 10 (rowsOf p (sgP p s p.pts.length))
def post_q0i : List D -> D -> Prop:=fun ds d => ∃ (p : q2k) (s : List (Option Int)) (x : Str),ds = [q2z p,.str x] /\ d = .lst ((q6q p s).map dO) /\ q4n p s /\ Sep p s /\ cs x = q6e 10 (rowsOf p (sgP p s p.pts.length))
theorem ok_q0i (T : Txt K mg t) (G_q0e : q3d P w K mg base CX0 (n + 6) t.f_q0e t.d_q0e ["point","cells"] (spD K [true,true] .v pre_q0e post_q0e)) (G_q0c : q3d P w K mg base CX0 (n + 6) t.f_q0c t.d_q0c ["text","sign"] (spD K [true,true] .n pre_q0c post_q0c)) (G_q0d : q3d P w K mg base CX0 (n + 6) t.f_q0d t.d_q0d ["plan","setting"] (spD K [true,false] .v pre_q0d post_q0d)) (G_q1c : q3d P w K mg base CX0 (n + 6) t.f_q1c t.d_q1c ["plan","setting"] (spD K [true,true] .v pre_q1c post_q1c)) : q3d P w K mg base CX0 (n + 7) t.f_q0i t.d_q0i ["plan","text"] (spD K [true,true] .n pre_q0i post_q0i):=by
 refine okD T.F_q0i sc_q0i rfl fun cdv A outer s H E hr => ⟨_,(q1i (q3z (z4o (z0n (q2c j6c rfl T.n_isinstance PyProof.Rows.boot_isinstance (q2g (q1f 1) (q2g (PX.vb (k2a rfl T.n_str PySem.Pv.boot_str)) q1h))))) (q1m z8a) q2w)
   (q1i (q4a (i:=2) sc_q0i.nd rfl (Or.inl rfl) (q3k q1h))
   (q1i (q3b PassesOwn.never rfl (q9k rfl T.n_enumerate (q1l (hu1 hr) (q1f 0) (PX.vb q1g) (fun _ _ => rfl))) (q4x (n:=2) rfl (q2b (q1n (i:=3) sc_q0i.nd rfl (Or.inl rfl)) (q2b (q1n (i:=4) sc_q0i.nd rfl (Or.inl rfl)) q4p))) (q1m (q3u (q5k 2 PySem.F.slot_list_append PySem.F.type_list_append q3s (q4i (q5n (q1p G_q0e hr rfl T.m_q0e T.F_q0e.kp T.b_q0e q3a (q2g (q1f 4) (q2g (PX.nb (q1p G_q0c hr rfl T.m_q0c T.F_q0c.kp T.b_q0c q3a (q2g (q1f 1) (q2g (PX.vb (q1l (hu1 hr) (PX.vb (z2v rfl T.c_LETTERS T.r_LETTERS T.d_LETTERS)) (q1f 3) (fun _ _ => rfl))) q1h)))) q1h)))) q5m)))))
   (q1i (q3z (PWX.t (k8f (z4o (z0n (k3e [2] (q1p G_q0d hr rfl T.m_q0d T.F_q0d.kp T.b_q0d q3a (q2g (q1f 0) (q1t (q1o 2) q1h)))))) (z8n (q2n (z4x hr.units) (PX.vb (q1p G_q1c hr rfl T.m_q1c T.F_q1c.kp T.b_q1c q3a (q2g (q1f 0) (q2g (q1f 2) q1h)))) (q1f 1) (q2l _))))) (q1m z8a) q2w)
   (q1m (q4z (i:=2))))))),fun vs ds hv hd hp => ?_⟩
 obtain ⟨p,s,x,rfl,L,g,sp,hx⟩:=hp
 have hR : Rws x (rowsOf p (sgP p s p.pts.length)):=k4j L hx
 have hpn:=L.pn
 rw [q2t]
 walk_at "d"
 rw [<- q2t]
 refine ⟨by decide,?_⟩
 rw [if_neg (by decide)]
 refine ⟨by decide,?_⟩
 refine q1v (fun i ρ => ∃ (o3 o4 : Option Sl),ρ = [some (.bor (hdV vs) (q2z p)),some (.bor (hdV (tlV vs)) (.str x)),some (.own (.lst (((q6q p s).take i).map dO))),o3,o4]) ⟨_,_,rfl⟩ ?_ ?_
 ·rintro i d ρ N hd ⟨o3,o4,rfl⟩ hN
  rw [List.getElem?_mapIdx,List.getElem?_map] at hd
  cases hq : p.pts[i]? with
  | none => rw [hq] at hd; cases hd
  | some q =>
   rw [hq] at hd
   cases hd
   have hi:=(List.getElem?_eq_some_iff.mp hq).1
   have hqm:=List.mem_of_getElem? hq
   have his : i < s.length:=by rw [g.len]; exact hi
   have hb:=q8e hq (List.getElem?_eq_getElem his)
   walk_at "d"
   rw [z1t (by omega)]
   refine ⟨by decide +kernel,?_⟩
   walk_at "d"
   refine ⟨⟨x,_,smI i,rfl,hR⟩,?_⟩
   rintro d ⟨x',rows',c',e,hR',rfl⟩
   simp only [List.cons.injEq,D.str.injEq,and_true] at e
   obtain ⟨rfl,e2⟩:=e
   cases (one_inj (a:=smI i) (c:=c')).mp e2
   cases q6w hR'.ne hR.ne hR'.fr hR.fr (hR'.jn.symm.trans hR.jn)
   have hnm:=L.ok.nm q hqm
   refine ⟨⟨q,_,rfl,hnm.1,L.n8 q hqm,L.xy q hqm,L.ok.pl q hqm⟩,?_⟩
   rintro d ⟨q',cl',e,rfl⟩
   simp only [List.cons.injEq,D.lst.injEq,and_true] at e
   cases q9n e.1
   cases q8h e.2
   rw [j4z L g sp hq (List.getElem?_eq_getElem his)]
   have hbl:=q6v g
   have htk : (q6q p s).take (i + 1) = (q6q p s).take i ++ [k1o q s[i]]:=by rw [List.take_succ,hb]; rfl
   rw [htk,List.map_append] at hN
   exact ⟨Nat.lt_of_lt_of_le (show _ < 100000 by rw [List.length_map,List.length_take]; omega) (by decide),hN _ ⟨_,_,rfl⟩⟩
 ·rintro ρ ⟨o3,o4,rfl⟩
  rw [List.length_mapIdx,List.length_map,<- q6v g,List.take_length]
  walk_at "d"
  refine ⟨⟨p,_,rfl,L.ok,⟨q6v g⟩⟩,?_⟩
  rintro d ⟨p',s',e,rfl⟩
  simp only [List.cons.injEq,D.lst.injEq,and_true] at e
  cases q3i e.1
  cases q7h e.2
  rw [j8m L (z0d L g) (k6b L g sp)]
  refine ⟨rfl,?_⟩
  walk_at "d"
  rw [if_neg (show ¬ (true = false) by decide)]
  refine ⟨⟨p,_,rfl,L,z0d L g⟩,?_⟩
  rintro d ⟨p',s',x',e,rfl,hx'⟩
  simp only [List.cons.injEq,D.lst.injEq,and_true] at e
  cases q3i e.1
  cases q7h e.2
  obtain rfl : x' = x:=by
   refine TX.ext ?_
   rw [hx',hx,k4d L g]
  walk_at "d"
  rw [if_neg (by simp)]
  exact ⟨p,s,_,rfl,rfl,g,sp,hx⟩
end
open TX
section
variable {P : Program} {w : World} {K : PySem.W.Frag} {mg : Str -> Option Value} {base : Heap} {t : Adr} {n : Nat}
def prS (p : q2k) (rows : List (List Nat)) (i : Nat) : List (Option Int):=(p.pts.zipIdx.take i).map fun a => (q7f a.1 (q4g (smI a.2) rows)).map fun (j : Nat) => (j : Int)
theorem w0u (o : Option Nat) : dN o = dO (o.map fun (j : Nat) => (j : Int)):=by cases o <;> rfl
theorem k8h {p : q2k} {rows : List (List Nat)} {i : Nat} {q : Pt} (hq : p.pts[i]? = some q) : prS p rows (i + 1) = prS p rows i ++ [(q7f q (q4g (smI i) rows)).map fun (j : Nat) => (j : Int)]:=by
 unfold prS
 rw [List.take_succ,List.getElem?_zipIdx,hq]
 simp
theorem k3v {p : q2k} {rows : List (List Nat)} {i : Nat} (h : i <= p.pts.length) : (prS p rows i).length = i:=by
 unfold prS
 rw [List.length_map,List.length_take,List.length_zipIdx]
 omega
def k6z : List D -> Prop:=fun ds => ∃ p : q2k,PlP p /\ ((∃ (x : Str) (rows : List (List Nat)),ds = [q2z p,.str x] /\ Rws x rows /\ k1z p rows) \/ ∃ d,ds = [q2z p,d] /\ DX.D.isStr d = some false)
theorem z2j (T : Txt K mg t) (G_q0e : q3d P w K mg base CX0 (n + 6) t.f_q0e t.d_q0e ["point","cells"] (spD K [true,true] .v pre_q0e post_q0e)) (G_q0c : q3d P w K mg base CX0 (n + 6) t.f_q0c t.d_q0c ["text","sign"] (spD K [true,true] .n pre_q0c post_q0c)) (G_q0d : q3d P w K mg base CX0 (n + 6) t.f_q0d t.d_q0d ["plan","setting"] (spD K [true,false] .v pre_q0d post_q0d)) (G_q1c : q3d P w K mg base CX0 (n + 6) t.f_q1c t.d_q1c ["plan","setting"] (spD K [true,true] .v pre_q1c post_q1c)) :
  q3d P w K mg base (DX.CXE P w) (n + 7) t.f_q0i t.d_q0i ["plan","text"] (DX.spX K [true,true] t.x_NoDrawing k6z):=by
 refine DX.okX .n T.F_q0i sc_q0i rfl fun cdv A outer s H E hE hr => ⟨_,(DX.by_cons (DX.sy_if (z4o (z0n (q2c DX.cx_isS rfl T.n_isinstance PyProof.Rows.boot_isinstance (q2g (q1f 1) (q2g (PX.vb (k2a rfl T.n_str PySem.Pv.boot_str)) q1h))))) (DX.by_one (DX.sy_raise0 hE rfl T.x_NoDrawing T.xf_ex)) (DX.by_of q2w))
   (DX.by_cons (DX.sy_of (q4a (i:=2) sc_q0i.nd rfl (Or.inl rfl) (q3k q1h)))
   (DX.by_cons (DX.sy_of (q3b PassesOwn.never rfl (q9k rfl T.n_enumerate (q1l (hu1 hr) (q1f 0) (PX.vb q1g) (fun _ _ => rfl))) (q4x (n:=2) rfl (q2b (q1n (i:=3) sc_q0i.nd rfl (Or.inl rfl)) (q2b (q1n (i:=4) sc_q0i.nd rfl (Or.inl rfl)) q4p))) (q1m (q3u (q5k 2 PySem.F.slot_list_append PySem.F.type_list_append q3s (q4i (q5n (q1p G_q0e hr rfl T.m_q0e T.F_q0e.kp T.b_q0e q3a (q2g (q1f 4) (q2g (PX.nb (q1p G_q0c hr rfl T.m_q0c T.F_q0c.kp T.b_q0c q3a (q2g (q1f 1) (q2g (PX.vb (q1l (hu1 hr) (PX.vb (z2v rfl T.c_LETTERS T.r_LETTERS T.d_LETTERS)) (q1f 3) (fun _ _ => rfl))) q1h)))) q1h)))) q5m))))))
   (DX.by_cons (DX.sy_if (PWX.t (k8f (z4o (z0n (k3e [2] (q1p G_q0d hr rfl T.m_q0d T.F_q0d.kp T.b_q0d q3a (q2g (q1f 0) (q1t (q1o 2) q1h)))))) (z8n (q2n (z4x hr.units) (PX.vb (q1p G_q1c hr rfl T.m_q1c T.F_q1c.kp T.b_q1c q3a (q2g (q1f 0) (q2g (q1f 2) q1h)))) (q1f 1) (q2l _))))) (DX.by_one (DX.sy_raise0 hE rfl T.x_NoDrawing T.xf_ex)) (DX.by_of q2w))
   (DX.by_one (DX.sy_of (q4z (i:=2)))))))),fun vs ds hv hd hp => ?_⟩
 unfold k6z at hp
 obtain ⟨p,L,hp⟩:=hp
 rcases hp with ⟨x,rows,rfl,hR,hno⟩ | ⟨d,rfl,hst⟩
 ·have hpn:=L.pn
  rw [q2t]
  walk_at "d"
  rw [<- q2t,show DX.D.isStr (.str x) = some true from rfl]
  walk_at "d"
  rw [if_neg (by decide)]
  refine ⟨by decide,?_⟩
  refine q1v (fun i ρ => ∃ (o3 o4 : Option Sl),ρ = [some (.bor (hdV vs) (q2z p)),some (.bor (hdV (tlV vs)) (.str x)),some (.own (.lst ((prS p rows i).map dO))),o3,o4]) ⟨_,_,rfl⟩ ?_ ?_
  ·rintro i d ρ N hd ⟨o3,o4,rfl⟩ hN
   rw [List.getElem?_mapIdx,List.getElem?_map] at hd
   cases hq : p.pts[i]? with
   | none => rw [hq] at hd; cases hd
   | some q =>
    rw [hq] at hd
    cases hd
    have hi:=(List.getElem?_eq_some_iff.mp hq).1
    have hqm:=List.mem_of_getElem? hq
    walk_at "d"
    rw [z1t (by omega)]
    refine ⟨by decide +kernel,?_⟩
    walk_at "d"
    refine ⟨⟨x,_,smI i,rfl,hR⟩,?_⟩
    rintro d ⟨x',rows',c',e,hR',rfl⟩
    simp only [List.cons.injEq,D.str.injEq,and_true] at e
    obtain ⟨rfl,e2⟩:=e
    cases (one_inj (a:=smI i) (c:=c')).mp e2
    cases q6w hR'.ne hR.ne hR'.fr hR.fr (hR'.jn.symm.trans hR.jn)
    have hnm:=L.ok.nm q hqm
    refine ⟨⟨q,_,rfl,hnm.1,L.n8 q hqm,L.xy q hqm,L.ok.pl q hqm⟩,?_⟩
    rintro d ⟨q',cl',e,rfl⟩
    simp only [List.cons.injEq,D.lst.injEq,and_true] at e
    cases q9n e.1
    cases q8h e.2
    rw [w0u]
    have hpl:=k3v (rows:=rows) (Nat.le_of_lt hi)
    rw [k8h hq,List.map_append] at hN
    exact ⟨Nat.lt_of_lt_of_le (show _ < 100000 by rw [List.length_map,hpl]; omega) (by decide),hN _ ⟨_,_,rfl⟩⟩
  ·rintro ρ ⟨o3,o4,rfl⟩
   rw [List.length_mapIdx,List.length_map]
   have hpl:=k3v (p:=p) (rows:=rows) (Nat.le_refl _)
   generalize prS p rows p.pts.length = s' at hpl ⊢
   walk_at "d"
   refine ⟨⟨p,_,rfl,L.ok,⟨hpl⟩⟩,?_⟩
   rintro d ⟨p',s'',e,rfl⟩
   simp only [List.cons.injEq,D.lst.injEq,and_true] at e
   cases q3i e.1
   cases q7h e.2
   cases hset : q6m p p.pts s' [] with
   | false =>
    refine ⟨rfl,?_⟩
    walk_at "d"
   | true =>
    obtain ⟨g,sp⟩:=k7b L hpl hset
    refine ⟨rfl,?_⟩
    walk_at "d"
    rw [if_neg (show ¬ (true = false) by decide)]
    refine ⟨⟨p,_,rfl,L,g⟩,?_⟩
    rintro d ⟨p',s2,x',e,rfl,hx'⟩
    simp only [List.cons.injEq,D.lst.injEq,and_true] at e
    cases q3i e.1
    cases q7h e.2
    have hne : x' ≠ x:=fun e => by
     subst e
     have hR2:=k4j L hx'
     exact hno _ g sp (q6w hR.ne hR2.ne hR.fr hR2.fr (hR.jn.symm.trans hR2.jn))
    walk_at "d"
    rw [if_pos (decide_eq_false hne)]
    trivial
 ·rw [q2t]
  walk_at "d"
  rw [hst]
  walk_at "d"
end
open TX
section
variable {P : Program} {w : World} {K : PySem.W.Frag} {mg : Str -> Option Value} {base : Heap} {t : Adr} {n : Nat}
theorem w1h {X : Cx} {st : Stmt} : PS X st (fun D σ H => ∀ pins s,Inv X pins σ H s -> wpAny (model X.prog X.w) X.A (exec st X.env) (SP X pins D) X.xe s):=fun pins s σ H D I h => h pins s I
theorem j3y {a : Addr} : ∀ u',RelV (.ref a) u' -> u' = Value.ref a:=fun u' h => h
theorem j8g {T : String} : ∀ u',RelV (.ty T) u' -> u' = Value.type T:=fun u' h => h
theorem z3w : ∀ (l : List Addr) (us' : List Value),q3w (l.map V.ref) us' -> us' = l.map Value.ref
 | [],_,h => by cases h; rfl
 | a :: l,_,h => by
  cases h with
  | cons r t => rw [z3w l _ t,show _ = Value.ref a from r]; rfl
theorem k9s (a : Addr) : RelV (.ref a) (.ref a):=rfl
theorem rty (T : String) : RelV (.ty T) (.type T):=rfl
def pre_q0a : List D -> Prop:=k6z
def post_q0a : List D -> D -> Prop:=fun _ d => d = .bl true
theorem ok_q0a (T : Txt K mg t) (G : q3d P w K mg base (DX.CXE P w) (n + 7) t.f_q0i t.d_q0i ["plan","text"] (DX.spX K [true,true] t.x_NoDrawing k6z)) : q3d P w K mg base CX0 (n + 8) t.f_q0a t.d_q0a ["_law_plan_here","_law_text"] (spD K [true,true] .v pre_q0a post_q0a):=by
 have XC : DX.XCls K t.x_NoDrawing:=⟨T.xf_ex,T.xf_ga,T.xf_gh,T.xf_ca,T.xf_cg,T.xf_ct,T.xf_mo,T.xf_mb,T.xf_cl⟩
 refine T.F_q0a.ok sc_q0a (fun vs H Q E h => ?_) fun cdv A outer s H vs Q E hr h => ?_
 ·obtain ⟨ds,O,_,r,_⟩:=h
  rw [r.length.1]; rfl
 obtain ⟨ds,O,M,r,hp,hq⟩:=h
 have hl:=r.length.1
 obtain ⟨v0,v1,rfl⟩ : ∃ v0 v1,vs = [v0,v1]:=by
  match vs,hl with
  | [a,b],_ => exact ⟨a,b,rfl⟩
 refine ⟨_,q7u (z8l (i:=2) sc_q0a.nd rfl (Or.inl rfl) k2d) (q7u w1h (q7u (j0o (PW.pt (j9t (k3t k8y (pv 2) k2d rfl) (k9v (j0f (q9j (DX.call_isiX XC) rfl T.n_isinstance PyProof.Rows.boot_isinstance (q3e (pv 2) (q3e (k2b (q3e (q6h rfl T.x_NoCell (k9s _)) (q3e (q6h rfl T.x_NoDeed (k9s _)) (q3e (q6h rfl T.x_NoName (k9s _)) (q3e (q6h rfl T.x_NoPlan (k9s _)) (q3e (q6h rfl T.x_NotTwo (k9s _)) (q3e (q6h rfl T.x_TooMany (k9s _)) (q3e (q6h rfl T.x_Twice (k9s _)) q6r)))))))) q6r))))))) (q9w (z8w j8v)) k1t)
  (q9w (z8w (j0l (q9j (DX.call_isiX XC) rfl T.n_isinstance PyProof.Rows.boot_isinstance (q3e (pv 2) (q3e (q6h rfl T.x_NoDrawing (k9s _)) q6r))) (j0c (q9j (DX.call_isiX XC) rfl T.n_isinstance PyProof.Rows.boot_isinstance (q3e (pv 2) (q3e (k4k rfl T.n_ValueError PyProof.Rows.Boot.«ValueError» (rty _)) q6r))))))))),?_⟩
 intro pins s1 I
 refine DX.try_raises I G hr rfl T.m_q0i T.F_q0i.kp T.b_q0i (q3e (pv 0) (q3e (pv 1) q6r)) ?_
 refine ⟨v0,rfl,v1,rfl,fun C _ H' => C = .ref t.x_NoDrawing /\ q2h H H',⟨ds,O,M,r,hp,fun H' e => ⟨rfl,e⟩⟩,fun s2 x s' I2 hc => ?_⟩
 refine DX.catch_as (i:=3) I2 rfl rfl rfl hc rfl T.x_LabelError (fun C dx H' z => ⟨_,z.1,T.xf_le⟩) sc_q0a.nd rfl rfl fun a C H' s4 hE hn I4 => ?_
 obtain ⟨hC,same⟩:=hE
 cases hC
 refine thn (q9w (z8l (X:=DX.mkd _ (.ref a)) (i:=2) sc_q0a.nd rfl (Or.inl rfl) (pv 3)) pins s4 _ _ { nx:=fun σ' H2 => σ' = [some v0,some v1,some (.ref a),some (.ref a)] /\ H2 = upd H' a (.ext (DX.Hel a t.x_NoDrawing)),rt:=fun _ _ => False } I4 ⟨.ref a,rfl,rfl,rfl⟩) fun f s5 h5 => ?_
 cases f with
 | brk => obtain ⟨_,_,_,z⟩:=h5; exact False.elim z
 | cont => obtain ⟨_,_,_,z⟩:=h5; exact False.elim z
 | ret u => obtain ⟨_,_,_,_,_,z⟩:=h5; exact False.elim z
 | next =>
  obtain ⟨σ',H2,I5,rfl,rfl⟩:=h5
  refine DX.name_goes (i:=3) (DX.inv_unmkd I.ok I5) sc_q0a.nd rfl rfl fun s6 I6 => ⟨_,_,I6,?_⟩
  have hx : upd H' a (HO.ext (DX.Hel a t.x_NoDrawing)) a = some (.ext (DX.Hel a t.x_NoDrawing)):=q2f
  have same2 : q2h H (upd H' a (HO.ext (DX.Hel a t.x_NoDrawing))):=same.trans (q1w hn _)
  generalize upd H' a (HO.ext (DX.Hel a t.x_NoDrawing)) = H3 at hx same2 ⊢
  refine ⟨.ref a,rfl,rfl,false,rfl,?_⟩
  have self : PySem.W.kitOne K (.ref t.x_NoDrawing) (.ref t.x_NoDrawing) = some true:=by
   unfold PySem.W.kitOne
   rw [if_pos (beq_self_eq_true _)]
  refine w3p ⟨.ref a,rfl,(show (7 : Nat) <= sizeLine by decide),fun p hp => ?_⟩
  have hy : upd H3 p (HO.tup [V.ref t.x_NoCell,.ref t.x_NoDeed,.ref t.x_NoName,.ref t.x_NoPlan,.ref t.x_NotTwo,.ref t.x_TooMany,.ref t.x_Twice]) a = some (.ext (DX.Hel a t.x_NoDrawing)):=q1w hp _ _ _ hx
  refine ⟨a,hy,false,.inr ⟨p,_,_,rfl,q2f,z3w [t.x_NoCell,t.x_NoDeed,t.x_NoName,t.x_NoPlan,t.x_NotTwo,t.x_TooMany,t.x_Twice],T.xf_no⟩,false,rfl,w3p ?_⟩
  refine ⟨.ref a,rfl,a,hy,true,.inl ⟨_,_,rfl,j3y,self⟩,true,rfl,w4s ?_⟩
  refine ⟨.ref a,rfl,a,hy,true,.inl ⟨_,_,rfl,j8g,T.xf_ve⟩,?_⟩
  exact hq (.bl true) (.bl true) _ (same2.trans (q1w hp _)) (Rep.bl true) rfl
end
open TX
section
variable {P : Program} {w : World} {K : PySem.W.Frag} {mg : Str -> Option Value} {base : Heap} {t : Adr} {n : Nat}
def LnO (m : Nat) (l : Str) : Prop:=l.length <= m /\ PyData.strOk l = true /\ 10 ∉ cs l
structure LnL (m : Nat) (ls : List Str) : Prop where
 n1 : 1 <= ls.length
 n2 : ls.length <= m
 ln : ∀ l ∈ ls,LnO m l
theorem LnO.up {m : Nat} {l : Str} (h : LnO m l) : LnO (m + 1) l:=⟨Nat.le_succ_of_le h.1,h.2⟩
def okC (c : Nat) : Prop:=c ≠ 10 /\ c < 0x110000
theorem z7u {m : Nat} {l : Str} : LnO m l ↔ (cs l).length <= m /\ ∀ c ∈ cs l,okC c:=by
 unfold LnO okC
 rw [z2w,List.all_eq_true,q4v]
 constructor
 ·rintro ⟨h1,h2,h3⟩
  exact ⟨h1,fun c hc => ⟨fun e => h3 (e ▸ hc),of_decide_eq_true (h2 c hc)⟩⟩
 ·rintro ⟨h1,h2⟩
  exact ⟨h1,fun c hc => decide_eq_true (h2 c hc).2,fun hc => (h2 10 hc).1 rfl⟩
theorem j7k {ls : List Str} {k : Nat} (h : k <= ls.length) : DL.cutD (ls.map D.str) none (some (k : Int)) = (ls.take k).map D.str:=by
 unfold DL.cutD
 rw [HT.sIx_none,HT.sIx_nat,List.length_map,Nat.min_eq_left h,List.drop_zero,Nat.sub_zero,List.map_take]
theorem z8o {ls : List Str} {k : Nat} (h : k <= ls.length) : DL.cutD (ls.map D.str) (some (k : Int)) none = (ls.drop k).map D.str:=by
 unfold DL.cutD
 rw [HT.sIx_none,HT.sIx_nat,List.length_map,Nat.min_eq_left h,List.take_of_length_le (by rw [List.length_drop,List.length_map]; omega),List.map_drop]
theorem k2x {ls : List Str} {k : Nat} (h : k + 1 <= ls.length) : DL.cutD (ls.map D.str) (some ((k : Int) + 1)) none = (ls.drop (k + 1)).map D.str:=z8o h
theorem LnL.mid {m : Nat} {ls : List Str} {k : Nat} {l : Str} (h : LnL m ls) (hk : k < ls.length) (hl : LnO (m + 1) l) : LnL (m + 1) (ls.take k ++ [l] ++ ls.drop (k + 1)):=by
 have h1:=h.n1
 have h2:=h.n2
 refine ⟨?_,?_,fun x hx => ?_⟩
 ·simp only [List.length_append,List.length_take,List.length_drop,List.length_cons,List.length_nil]; omega
 ·simp only [List.length_append,List.length_take,List.length_drop,List.length_cons,List.length_nil]; omega
 ·rcases List.mem_append.mp hx with hx | hx
  ·rcases List.mem_append.mp hx with hx | hx
   ·exact (h.ln x (List.mem_of_mem_take hx)).up
   ·rw [List.mem_singleton] at hx; subst hx; exact hl
  ·exact (h.ln x (List.mem_of_mem_drop hx)).up
theorem LnL.ins {m : Nat} {ls : List Str} {k : Nat} {l : Str} (h : LnL m ls) (hk : k < ls.length) (hl : l ∈ ls) : LnL (m + 1) (ls.take k ++ [l] ++ ls.drop k):=by
 have h1:=h.n1
 have h2:=h.n2
 refine ⟨?_,?_,fun x hx => ?_⟩
 ·simp only [List.length_append,List.length_take,List.length_drop,List.length_cons,List.length_nil]; omega
 ·simp only [List.length_append,List.length_take,List.length_drop,List.length_cons,List.length_nil]; omega
 ·rcases List.mem_append.mp hx with hx | hx
  ·rcases List.mem_append.mp hx with hx | hx
   ·exact (h.ln x (List.mem_of_mem_take hx)).up
   ·rw [List.mem_singleton] at hx; subst hx; exact (h.ln _ hl).up
  ·exact (h.ln x (List.mem_of_mem_drop hx)).up
theorem LnL.del {m : Nat} {ls : List Str} {k : Nat} (h : LnL m ls) (hk : k < ls.length) (h1 : 1 < ls.length) : LnL (m + 1) (ls.take k ++ ls.drop (k + 1)):=by
 have h2:=h.n2
 refine ⟨?_,?_,fun x hx => ?_⟩
 ·simp only [List.length_append,List.length_take,List.length_drop]; omega
 ·simp only [List.length_append,List.length_take,List.length_drop]; omega
 ·rcases List.mem_append.mp hx with hx | hx
  ·exact (h.ln x (List.mem_of_mem_take hx)).up
  ·exact (h.ln x (List.mem_of_mem_drop hx)).up
theorem z4p {x : Str} {l u : Option Int} : ∀ c ∈ cs (Txt.slice x l u),c ∈ cs x:=by
 intro c hc
 unfold Txt.slice at hc
 split at hc
 ·exact hc
 ·have hc : c ∈ (Builtin.Str.strSliceIndices l u 1 x.length).filterMap (x.cps[·]?):=by simpa [cs] using hc
  obtain ⟨i,_,hi⟩:=List.mem_filterMap.mp hc
  have : x.cps.toList[i]? = some c:=by rw [Array.getElem?_toList]; exact hi
  exact List.mem_of_getElem? this
theorem turned {m : Nat} {x sg : Str} {v : Nat} {c : Nat} (hx : LnO m x) (hs : cs sg = [c]) (hc : okC c) (hv : v < max 1 x.length) : LnO (m + 1) (Txt.slice x none (some (v : Int)) ++ sg ++ Txt.slice x (some ((v : Int) + 1)) none):=by
 rw [z7u] at hx ⊢
 obtain ⟨h1,h2⟩:=hx
 rw [<- q4v] at h1
 refine ⟨?_,fun z hz => ?_⟩
 ·rw [q6a,q6a,hs,List.length_append,List.length_append,<- q4v,<- q4v]
  have e1:=Txt.slice_le x none (some (v : Int))
  have e2:=Txt.slice_le x (some ((v : Int) + 1)) none
  rcases Nat.eq_zero_or_pos x.length with z | z
  ·rw [z] at e1 e2
   simp only [List.length_cons,List.length_nil]; omega
  ·have hv' : v < x.length:=by omega
   have f1 : (Txt.slice x none (some (v : Int))).length <= v:=by
    have:=eq_of_beq (slice_closes_toL (x:=x) (j:=(v : Int)) (by omega) (by omega))
    rw [this]
    show (List.toArray _).size <= v
    rw [List.size_toArray,List.length_take]
    omega
   have f2 : (Txt.slice x (some ((v : Int) + 1)) none).length <= x.length - (v + 1):=by
    have:=eq_of_beq (slice_closes_fromL (x:=x) (i:=(v : Int) + 1) (b:=x.length) (by omega) (by omega) rfl)
    rw [this]
    show (List.toArray _).size <= _
    rw [List.size_toArray,List.length_take]
    omega
   simp only [List.length_cons,List.length_nil]; omega
 ·rw [q6a,q6a,List.mem_append,List.mem_append,hs] at hz
  rcases hz with (hz | hz) | hz
  ·exact h2 z (z4p z hz)
  ·rw [List.mem_singleton] at hz; subst hz; exact hc
  ·exact h2 z (z4p z hz)
theorem j7l {m : Nat} {x : Str} {c : Nat} (hx : LnO m x) (hc : okC c) : LnO (m + 1) (x ++ one c):=by
 rw [z7u] at hx ⊢
 rw [q6a,z3v,List.length_append]
 refine ⟨by have:=hx.1; simp only [List.length_cons,List.length_nil]; omega,fun z hz => ?_⟩
 rcases List.mem_append.mp hz with hz | hz
 ·exact hx.2 z hz
 ·rw [List.mem_singleton] at hz; subst hz; exact hc
theorem j1k {i : Int} (h0 : 0 <= i) (h1 : i < 4) : ∃ c,atI (Str.ofString ".#aA").cps.toList i = some c /\ okC c:=by
 have : i = 0 \/ i = 1 \/ i = 2 \/ i = 3:=by omega
 rcases this with rfl | rfl | rfl | rfl
 ·exact ⟨46,by decide +kernel,by decide,by decide⟩
 ·exact ⟨35,by decide +kernel,by decide,by decide⟩
 ·exact ⟨97,by decide +kernel,by decide,by decide⟩
 ·exact ⟨65,by decide +kernel,by decide,by decide⟩
theorem j7f {i : Int} (h0 : 0 <= i) (h1 : i < 6) {c c2 : Nat} (hc : okC c) (hc2 : okC c2) : ∃ sg z,atI [D.str (Str.ofString "."),D.str (Str.ofString "#"),D.str (one c),D.str (one c2),D.str (Str.ofString " "),D.str (one c)] i = some (.str sg) /\ cs sg = [z] /\ okC z:=by
 have : i = 0 \/ i = 1 \/ i = 2 \/ i = 3 \/ i = 4 \/ i = 5:=by omega
 rcases this with rfl | rfl | rfl | rfl | rfl | rfl
 ·exact ⟨_,46,rfl,by decide +kernel,by decide,by decide⟩
 ·exact ⟨_,35,rfl,by decide +kernel,by decide,by decide⟩
 ·exact ⟨_,c,rfl,rfl,hc⟩
 ·exact ⟨_,c2,rfl,rfl,hc2⟩
 ·exact ⟨_,32,rfl,by decide +kernel,by decide,by decide⟩
 ·exact ⟨_,c,rfl,rfl,hc⟩
theorem j1r (A B : List Str) (l : Str) : A.map D.str ++ [D.str l] ++ B.map D.str = (A ++ [l] ++ B).map D.str:=by simp
def pre_q0l : List D -> Prop:=fun ds => ∃ (ls : List Str) (a : Int) (m : Nat),ds = [.lst (ls.map D.str),.int a] /\ 0 <= a /\ LnL m ls /\ m <= 40
def post_q0l : List D -> D -> Prop:=fun ds d => ∃ (ls ls' : List Str) (e : D),ds = [.lst (ls.map D.str),e] /\ d = .lst (ls'.map D.str) /\ ∀ m,LnL m ls -> LnL (m + 1) ls'
theorem ok_q0l (T : Txt K mg t) : q3d P w K mg base CX0 (n + 1) t.f_q0l t.d_q0l ["_law_lines","_law_number_here"] (spD K [true,true] .v pre_q0l post_q0l):=by
 refine okD T.F_q0l sc_q0l rfl fun cdv A outer s H E hr => ⟨_,(q1i (q1u (i:=2) sc_q0l.nd rfl (Or.inl rfl) (q1k q2q (q1f 1) (PX.vb (q2c q4k rfl T.n_len PySem.boot_len (q2g (q1f 0) q1h)))))
   (q1i (q1u (i:=3) sc_q0l.nd rfl (Or.inl rfl) (q1l (hu1 hr) (q1f 0) (q1f 2) (fun _ _ => rfl)))
   (q1i (q1u (i:=4) sc_q0l.nd rfl (Or.inl rfl) (q1k q2q (PX.vb (q1k q2r (q1f 1) (PX.vb q1g))) (PX.vb q1g)))
   (q1i (q1u (i:=1) sc_q0l.nd rfl (Or.inl rfl) (q1k q2r (q1f 1) (PX.vb q1g)))
   (q1i (q1u (i:=5) sc_q0l.nd rfl (Or.inl rfl) (q1k q2q (q1f 1) (PX.vb (q2c (z6o rfl) rfl T.n_max PyProof.Rows.boot_max (q2g (PX.vb q1g) (q2g (PX.vb (q2c q4k rfl T.n_len PySem.boot_len (q2g (q1f 3) q1h))) q1h))))))
   (q1i (q3z (q2n (q4j hr.units) (q1f 4) (PX.vb q1g) (q2l _)) (q1m (q2s (by decide) (q1k q1q (PX.vb (q1k q1q (PX.vb (q3x q4o (q1f 0) q6p (q4d (q1f 2)))) (PX.nb (q3k (q1t (q1o 3) q1h))))) (PX.vb (q3x q4o (q1f 0) (q4d (q1f 2)) q6p))))) q2w)
   (q1i (q3z (PWX.t (z5b (q2n (q4j hr.units) (q1f 4) (PX.vb q1g) (q2l _)) (z6d (q2n j2m (PX.vb (q2c q4k rfl T.n_len PySem.boot_len (q2g (q1f 0) q1h))) (PX.vb q1g) (q2l _))))) (q1m (q2s (by decide) (q1k q1q (PX.vb (q3x q4o (q1f 0) q6p (q4d (q1f 2)))) (PX.vb (q3x q4o (q1f 0) (q4d (PX.vb (q1k q1q (q1f 2) (PX.vb q1g)))) q6p))))) q2w)
   (q1i (q3z (q2n (q4j hr.units) (q1f 4) (PX.vb q1g) (q2l _)) (q1m (q2s (by decide) (q1k q1q (PX.vb (q1k q1q (PX.vb (q3x q4o (q1f 0) q6p (q4d (q1f 2)))) (PX.nb (q3k (q1t (q1k q1q (q1f 3) (PX.vb (q1l (hu1 hr) (PX.vb q2m) (PX.vb (q1k q2q (q1f 1) (PX.vb q1g))) (fun _ _ => rfl)))) q1h))))) (PX.vb (q3x q4o (q1f 0) (q4d (PX.vb (q1k q1q (q1f 2) (PX.vb q1g)))) q6p))))) q2w)
   (q1i (q1u (i:=6) sc_q0l.nd rfl (Or.inl rfl) (q1l (hu1 hr) (PX.vb q2m) (PX.vb (q1k q2q (PX.vb (q1k q2r (q1f 1) (PX.vb q1g))) (PX.vb q1g))) (fun _ _ => rfl)))
   (q1i (q1u (i:=6) sc_q0l.nd rfl (Or.inl rfl) (q1l (hu1 hr) (PX.nb (q3k (q1t q2m (q1t q2m (q1t (q1o 6) (q1t (z7i z5g PySem.F.plainAttrs_str PySem.F.slot_str_upper PySem.F.type_str_upper (q1f 6)) (q1t q2m (q1t (q1o 6) q1h)))))))) (PX.vb (q1k q2q (PX.vb (q1k q2r (q1f 1) (PX.vb q1g))) (PX.vb q1g))) (fun _ _ => rfl)))
   (q1i (q1u (i:=3) sc_q0l.nd rfl (Or.inl rfl) (q1k q1q (PX.vb (q1k q1q (PX.vb (q3x q4o (q1f 3) q6p (q4d (q1f 5)))) (q1f 6))) (PX.vb (q3x q4o (q1f 3) (q4d (PX.vb (q1k q1q (q1f 5) (PX.vb q1g)))) q6p))))
   (q1m (q2s (by decide) (q1k q1q (PX.vb (q1k q1q (PX.vb (q3x q4o (q1f 0) q6p (q4d (q1f 2)))) (PX.nb (q3k (q1t (q1o 3) q1h))))) (PX.vb (q3x q4o (q1f 0) (q4d (PX.vb (q1k q1q (q1f 2) (PX.vb q1g)))) q6p)))))))))))))))),fun vs ds hv hd hp => ?_⟩
 obtain ⟨ls,a,m,rfl,a0,hL,hm⟩:=hp
 have h1:=hL.n1
 have h2:=hL.n2
 have hsz : (100 : Nat) <= sizeLine:=by decide
 walk_at "d"
 simp only [List.length_map]
 have j0:=Int.emod_nonneg a (show (ls.length : Int) ≠ 0 by omega)
 have j1:=Int.emod_lt_of_pos a (show (0 : Int) < ls.length by omega)
 obtain ⟨k,ek⟩ : ∃ k : Nat,a % (ls.length : Int) = (k : Int):=⟨(a % ls.length).toNat,by omega⟩
 rw [ek] at j0 j1 ⊢
 have hk : k < ls.length:=by omega
 rw [q4q,show atI ls (k : Int) = some ls[k] from q3j (List.getElem?_eq_getElem hk),j7k (by omega),z8o (by omega),k2x (by omega)]
 have hlm : ls[k] ∈ ls:=List.getElem_mem hk
 generalize ls[k] = l at hlm ⊢
 have hl:=hL.ln l hlm
 have hl1:=hl.1
 walk_at "d"
 have hps : ∀ (ls' : List Str),(∀ m,LnL m ls -> LnL (m + 1) ls') -> post_q0l [D.lst (ls.map D.str),D.int a] (.lst (ls'.map D.str)):=fun ls' h => ⟨ls,ls',_,rfl,rfl,h⟩
 have v0 : 0 < (if (l.length : Int) > 1 then (l.length : Int) else 1):=by split <;> omega
 have vl : (if (l.length : Int) > 1 then (l.length : Int) else 1) = ((max 1 l.length : Nat) : Int):=by split <;> omega
 have q0:=Int.emod_nonneg (a / 160) (show (if (l.length : Int) > 1 then (l.length : Int) else 1) ≠ 0 by omega)
 have q1:=Int.emod_lt_of_pos (a / 160) v0
 obtain ⟨v,ev⟩ : ∃ v : Nat,(a / 160) % (if (l.length : Int) > 1 then (l.length : Int) else 1) = (v : Int):=⟨((a / 160) % (if (l.length : Int) > 1 then (l.length : Int) else 1)).toNat,by omega⟩
 rw [ev] at q0 q1 ⊢
 have hv : v < max 1 l.length:=by rw [vl] at q1; omega
 have t1 : (ls.take k).length <= 40:=by rw [List.length_take]; omega
 have t2 : (ls.drop k).length <= 40:=by rw [List.length_drop]; omega
 have t3 : (ls.drop (k + 1)).length <= 40:=by rw [List.length_drop]; omega
 simp only [List.length_append,List.length_map,List.length_cons,List.length_nil]
 refine ⟨by omega,⟨by decide,by decide⟩,by decide,⟨by decide,by decide⟩,by omega,v0,q5i (fun _ => ?_) fun _ => q5i (fun _ => q5i (fun c => ?_) fun _ => ?_) fun _ => ?_⟩
 ·refine ⟨by omega,by omega,by omega,?_⟩
  rw [j1r]
  exact hps _ fun m' h => h.ins hk hlm
 ·refine ⟨by omega,?_⟩
  rw [<- List.map_append]
  exact hps _ fun m' h => h.del hk (by omega)
 all_goals
  refine q5i (fun _ => ?_) fun _ => ?_
  ·obtain ⟨c,e,hc⟩:=j1k (Int.emod_nonneg (a / 160) (by decide)) (Int.emod_lt_of_pos (a / 160) (show (0 : Int) < 4 by decide))
   rw [e]
   refine ⟨by decide,by decide +kernel,?_⟩
   walk_at "d"
   rw [q7x c]
   refine ⟨by rw [q4v (one c),z3v]; simp only [List.length_cons,List.length_nil]; omega,by omega,by omega,by omega,?_⟩
   rw [j1r]
   exact hps _ fun m' h => h.mid hk (j7l (h.ln l hlm) hc)
  ·have i0:=Int.emod_nonneg (a / 160 / 20) (show (26 : Int) ≠ 0 by decide)
   have i1:=Int.emod_lt_of_pos (a / 160 / 20) (show (0 : Int) < 26 by decide)
   obtain ⟨i,ei⟩ : ∃ i : Nat,a / 160 / 20 % 26 = (i : Int):=⟨(a / 160 / 20 % 26).toNat,by omega⟩
   rw [ei] at i0 i1 ⊢
   have hi : i < 26:=by omega
   rw [z1t hi]
   refine ⟨⟨by decide,by decide⟩,by decide,by decide +kernel,?_⟩
   walk_at "d"
   rw [q7x (smI i),k4s hi]
   obtain ⟨sg,z,e,hz,hzo⟩:=j7f (Int.emod_nonneg (a / 160 / 520) (show (6 : Int) ≠ 0 by decide)) (Int.emod_lt_of_pos (a / 160 / 520) (show (0 : Int) < 6 by decide)) (c:=smI i) (c2:=grI i) ⟨by show 97 + i ≠ 10; omega,by show 97 + i < _; omega⟩ ⟨by show 65 + i ≠ 10; omega,by show 65 + i < _; omega⟩
   rw [e]
   have s1:=Txt.slice_le l none (some (v : Int))
   have s2:=Txt.slice_le l (some ((v : Int) + 1)) none
   have s3 : sg.length = 1:=by rw [q4v,hz]; rfl
   walk_at "d"
   simp only [List.length_append,List.length_map,List.length_cons,List.length_nil,k3n]
   refine ⟨by rw [q4v,z3v]; exact (by decide : Builtin.Str.tooLong 1 = false),by omega,⟨by decide,by decide⟩,by decide,by omega,by omega,by omega,by omega,by omega,by omega,by omega,?_⟩
   rw [j1r]
   exact hps _ fun m' h => h.mid hk (turned (h.ln l hlm) hz hzo hv)
end
open TX
section
variable {P : Program} {w : World} {K : PySem.W.Frag} {mg : Str -> Option Value} {base : Heap} {t : Adr} {n : Nat}
theorem k6s (l : List Nat) : (D.lst (l.map fun (j : Nat) => D.int (j : Int))).ok = true:=by
 obtain ⟨l1,l2⟩:=z0k (fun (j : Nat) => D.int (j : Int)) l fun z _ => ⟨rfl,by simp [D.py,PyData.canLay0]⟩
 have l3 : PyData.depthAll (D.pys (l.map fun (j : Nat) => D.int (j : Int))) <= 1:=by
  clear l1 l2
  induction l with
  | nil => simp [D.pys,PyData.depthAll]
  | cons a r ih =>
   rw [List.map_cons,D.pys,PyData.depthAll]
   simp only [D.py,PyData.depth] at ih ⊢
   omega
 unfold D.ok SeqAt.shaped
 rw [D.isD,l1,D.py,PyData.canLay0,l2,PyData.depth]
 simp
 omega
theorem z8u (c y : Nat) : ∀ (r : List Nat) (k : Nat),((r.zipIdx k).filter fun a => decide (a.1 = c)).map (fun a => ((a.2 : Int),(y : Int))) = ((List.range r.length).filter fun (x : Nat) => decide (r[x]? = some c)).map fun (x : Nat) => (((k + x : Nat) : Int),(y : Int))
 | [],_ => rfl
 | a :: r,k => by
  have ih:=z8u c y r (k + 1)
  rw [List.zipIdx_cons,List.length_cons,List.range_succ_eq_map,List.filter_cons,List.filter_cons,List.filter_map]
  have e1 : ((fun (x : Nat) => decide ((a :: r)[x]? = some c)) ∘ Nat.succ) = fun (x : Nat) => decide (r[x]? = some c):=by
   funext x
   show decide ((a :: r)[x + 1]? = some c) = _
   rw [List.getElem?_cons_succ]
  have e2 : decide ((a :: r)[0]? = some c) = decide (a = c):=by rw [List.getElem?_cons_zero]; simp
  rw [e1]
  simp only [e2]
  have e3 : (((List.range r.length).filter fun (x : Nat) => decide (r[x]? = some c)).map Nat.succ).map (fun (x : Nat) => (((k + x : Nat) : Int),(y : Int))) = ((List.range r.length).filter fun (x : Nat) => decide (r[x]? = some c)).map fun (x : Nat) => (((k + 1 + x : Nat) : Int),(y : Int)):=by
   rw [List.map_map]
   refine List.map_congr_left fun x _ => ?_
   show (((k + (x + 1) : Nat) : Int),(y : Int)) = _
   rw [show k + (x + 1) = k + 1 + x by omega]
  by_cases h : a = c
  ·rw [decide_eq_true h]
   simp only [if_true,List.map_cons]
   rw [ih,e3]
   rfl
  ·rw [decide_eq_false h]
   simp only [Bool.false_eq_true,if_false]
   rw [ih,e3]
theorem z9m (c y : Nat) (r : List Nat) : ((List.range r.length).filter fun (x : Nat) => decide (r[x]? = some c)).map (fun (x : Nat) => q2x ((x : Int),(y : Int))) = (k4w c y r).map q2x:=by
 unfold k4w
 rw [z8u c y r 0,List.map_map]
 refine List.map_congr_left fun x _ => ?_
 show q2x ((x : Int),(y : Int)) = q2x (((0 + x : Nat) : Int),(y : Int))
 rw [Nat.zero_add]
def pre_q0v : List D -> Prop:=fun ds => ∃ (p : q2k) (tk : List (List Key)) (tv : List D) (ls : List Str),ds = [q2z p,.dT tk tv,.lst (ls.map D.str)] /\ PlP p /\ OpT p tk tv /\ LnL 60 ls
def post_q0v : List D -> D -> Prop:=fun ds d => ∃ (p : q2k) (e : D) (ls : List Str),ds = [q2z p,e,.lst (ls.map D.str)] /\ ((∃ s,d = .lst (s.map dO) /\ RdS p (ls.map cs) s) \/ (d = .non /\ RdN p (ls.map cs)))
theorem ok_q0v (T : Txt K mg t) : q3d P w K mg base CX0 (n + 1) t.f_q0v t.d_q0v ["_law_plan_here","_law_opened","_law_lines"] (spD K [true,true,true] .v pre_q0v post_q0v):=by
 refine okD T.F_q0v sc_q0v rfl fun cdv A outer s H E hr => ⟨_,(q1i (q4a (i:=3) sc_q0v.nd rfl (Or.inl rfl) (q3k q1h))
   (q1i (q3b PassesOwn.never rfl (q2o rfl T.n_range (q1t (q2c q4k rfl T.n_len PySem.boot_len (q2g (PX.vb (q1l (hu1 hr) (q1f 0) (PX.vb q1g) (fun _ _ => rfl))) q1h)) q1h)) (q1n (i:=4) sc_q0v.nd rfl (Or.inl rfl)) (q1i (q1u (i:=5) sc_q0v.nd rfl (Or.inr rfl) (q1l (hu1 hr) (PX.vb q2m) (q1f 4) (fun _ _ => rfl)))
   (q1i (q4a (i:=6) sc_q0v.nd rfl (Or.inr rfl) (q3k q1h))
   (q1i (q3b PassesOwn.never rfl (q2o rfl T.n_range (q1t (q2c q4k rfl T.n_len PySem.boot_len (q2g (q1f 2) q1h)) q1h)) (q1n (i:=7) sc_q0v.nd rfl (Or.inr rfl)) (q1i (q1u (i:=8) sc_q0v.nd rfl (Or.inr rfl) (q1l (hu1 hr) (q1f 2) (q1f 7) (fun _ _ => rfl)))
   (q1m (q3u (z7q 6 PySem.F.slot_list_extend PySem.F.type_list_extend (q5b (osc:=q1j s_q0v) (N:=["_law_plan_here","_law_opened","_law_lines","_law_setting_here","_law_k","_law_letter","_law_some","_law_y","_law_row","_law_place","_law_name","_law_same"]) ["_law_x","_law_y","_law_letter","_law_row"] [none,some 7,some 5,some 8] ⟨rfl,by decide +kernel,by decide +kernel,by decide +kernel,rfl,by decide +kernel⟩ (PIX.c (q2o rfl T.n_range (q1t (q2c q4k rfl T.n_len PySem.boot_len (q2g (q1f 8) q1h)) q1h))) (fun b => (q1n (i:=0) (show (["_law_x","_law_y","_law_letter","_law_row"] : List Str).Nodup by decide +kernel) rfl (Or.inl rfl))) (fun b => (z0f (q2n (q4j hr.units) (PX.vb (q1l (hu1 hr) (q1f 3) (q1f 0) (fun _ _ => rfl))) (q1f 2) (q2l _)))) (fun b => (q2v (q1t (q1o 0) (q1t (q1o 1) q1h))))))))))
   (q1i (q1u (i:=9) sc_q0v.nd rfl (Or.inl rfl) q4m)
   (q1i (q1u (i:=10) sc_q0v.nd rfl (Or.inr rfl) (q1l (hu1 hr) (PX.vb (q1l (hu1 hr) (PX.vb (q1l (hu1 hr) (q1f 0) (PX.vb q1g) (fun _ _ => rfl))) (q1f 4) (fun _ _ => rfl))) (PX.vb q1g) (fun _ _ => rfl)))
   (q1i (q3z (q2n (z4x hr.units) (q1f 6) (PX.nb (q3k q1h)) (q2l _)) (q1i (z0a (i:=11) (osc:=q1j s_q0v) (N:=["_law_plan_here","_law_opened","_law_lines","_law_setting_here","_law_k","_law_letter","_law_some","_law_y","_law_row","_law_place","_law_name","_law_same"]) ["_law_j","_law_some","_law_opened","_law_name"] [none,some 6,some 1,some 10] ⟨rfl,by decide +kernel,by decide +kernel,by decide +kernel,rfl,by decide +kernel⟩ sc_q0v.nd rfl (Or.inl rfl) (PIX.c (q2o rfl T.n_range (q1t (q2c q4k rfl T.n_len PySem.boot_len (q2g (PX.vb (q1l (hu1 hr) (PX.vb (q1l (hu1 hr) (PX.vb (q1l (hu1 hr) (q1f 0) (PX.vb q1g) (fun _ _ => rfl))) (q1f 4) (fun _ _ => rfl))) (PX.vb q1g) (fun _ _ => rfl))) q1h)) q1h))) (fun b => (q1n (i:=0) (show (["_law_j","_law_some","_law_opened","_law_name"] : List Str).Nodup by decide +kernel) rfl (Or.inl rfl))) (fun b => (z0f (q2n (q4j hr.units) (PX.vb (k5r (hu1 hr) (q1f 2) (PX.vb (q2v (q1t (q1o 3) (q1t (q1o 0) q1h)))))) (q1f 1) (q2l _)))) (fun b => (q1o 0)))
   (q1i (q3z (q2n (q4j hr.units) (q1f 11) (PX.nb (q3k q1h)) (q2l _)) (q1m (q2s (by decide) q4m)) q2w)
   (q1m (q1u (i:=9) sc_q0v.nd rfl (Or.inl rfl) (q1l (hu1 hr) (q1f 11) (PX.vb q1g) (fun _ _ => rfl)))))) q2w)
   (q1m (q3u (q5k 3 PySem.F.slot_list_append PySem.F.type_list_append q3s (q4i (q5n (q1o 9)) q5m)))))))))))
   (q1m (j9u [3] (q2s (by decide) (q1o 3)))))),fun vs ds hv hd hp => ?_⟩
 obtain ⟨p,tk,tv,ls,rfl,L,op,hL⟩:=hp
 have ps : ∀ d,((∃ s,d = .lst (s.map dO) /\ RdS p (ls.map cs) s) \/ (d = .non /\ RdN p (ls.map cs))) -> post_q0v [q2z p,.dT tk tv,.lst (ls.map D.str)] d:=fun d h => ⟨p,_,ls,rfl,h⟩
 have hpn:=L.pn
 have h2:=hL.n2
 rw [q2t] at ps ⊢
 walk_at "d"
 rw [<- q2t] at ps ⊢
 refine ⟨by decide,by rw [List.length_map]; exact ⟨by omega,by omega⟩,?_⟩
 refine q1v (fun i ρ => ∃ (s : List (Option Int)) (o4 o5 o6 o7 o8 o9 o10 o11 : Option Sl),ρ = [some (.bor (hdV vs) (q2z p)),some (.bor (hdV (tlV vs)) (.dT tk tv)),some (.bor (hdV (tlV (tlV vs))) (.lst (ls.map D.str))),some (.own (.lst (s.map dO))),o4,o5,o6,o7,o8,o9,o10,o11] /\ s.length = i /\ ∀ (j : Nat) q,j < i -> p.pts[j]? = some q -> ∃ o,s[j]? = some o /\ plL p q (q4g (smI j) (ls.map cs)) = some o) ⟨[],_,_,_,_,_,_,_,_,rfl,rfl,fun j q h => by omega⟩ ?_ ?_
 ·rintro i d ρ N hd ⟨s,o4,o5,o6,o7,o8,o9,o10,o11,rfl,hsl,hs⟩ hN
  obtain ⟨hi,rfl⟩:=q5x hd
  rw [List.length_map] at hi
  have hi : i < p.pts.length:=by omega
  have hq : p.pts[i]? = some p.pts[i]:=List.getElem?_eq_getElem hi
  generalize p.pts[i] = q at hq
  walk_at "d"
  rw [Int.zero_add,z1t (by omega)]
  refine ⟨by decide +kernel,?_⟩
  walk_at "d"
  rw [q7x]
  refine ⟨by decide,by rw [List.length_map]; exact ⟨by omega,by omega⟩,?_⟩
  refine q1v (fun y ρ => ∃ (o7 o8 : Option Sl),ρ = [some (.bor (hdV vs) (q2z p)),some (.bor (hdV (tlV vs)) (.dT tk tv)),some (.bor (hdV (tlV (tlV vs))) (.lst (ls.map D.str))),some (.own (.lst (s.map dO))),some (.shr (.int (i : Int))),some (.shr (.str (one (smI i)))),some (.own (.lst ((q4g (smI i) ((ls.map cs).take y)).map q2x))),o7,o8,o9,o10,o11]) ⟨_,_,rfl⟩ ?_ ?_
  ·rintro y d ρ N2 hd2 ⟨o7,o8,rfl⟩ hN2
   obtain ⟨hy,rfl⟩:=q5x hd2
   rw [List.length_map] at hy
   have hy : y < ls.length:=by omega
   have hlO:=hL.ln _ (List.getElem_mem hy)
   have hll:=hlO.1
   walk_at "d"
   rw [Int.zero_add,q4q,show atI ls (y : Int) = some ls[y] from q3j (List.getElem?_eq_getElem hy)]
   have htk : (ls.map cs).take (y + 1) = (ls.map cs).take y ++ [cs ls[y]]:=by rw [List.take_succ,List.getElem?_map,List.getElem?_eq_getElem hy]; rfl
   have hrl:=z0l (smI i) (rows:=ls.map cs) (fun r hr => by
    obtain ⟨l,hl,rfl⟩:=List.mem_map.mp hr
    have:=(hL.ln l hl).1
    rw [q4v] at this; omega) y (by rw [List.length_map]; omega)
   have hw:=z2n (smI i) y (cs ls[y])
   have htl : ((ls.map cs).take y).length = y:=by rw [List.length_take,List.length_map]; omega
   generalize ls[y] = l at hlO hll htk hw ⊢
   walk_at "d"
   have hlz : l.length <= sizeLine:=Nat.le_trans hll (by decide)
   refine ⟨hlz,by rw [q4v] at hll ⊢; exact ⟨by omega,by omega⟩,q3o (by rw [List.length_map,List.length_range]; omega),fun _ => ?_⟩
   refine q5z (fun (x : Nat) => q2x ((x : Int),(y : Int))) (fun (x : Nat) => decide ((cs l)[x]? = some (smI i))) (fun x hx cc hk => ?_) ?_
   ·walk_at "d"
    have hx : x < (cs l).length:=by rw [<- q4v]; simpa using hx
    rw [Int.zero_add,show atI l.cps.toList (x : Int) = some (cs l)[x] from q3j (List.getElem?_eq_getElem hx)]
    rw [List.getElem?_eq_getElem hx] at hk
    refine ⟨hlz,?_⟩
    walk_at "d"
    rw [q7x]
    refine q5i (fun e => ⟨by decide,?_⟩) fun e => ?_
    ·rw [decide_eq_true (by rw [one_inj.mp e])] at hk
     exact hk
    ·rw [decide_eq_false (fun z => e (one_inj.mpr (Option.some.inj z)))] at hk
     exact hk
   ·rw [Int.toNat_natCast,q4v,z9m,<- List.map_append]
    rw [htk,q8k,htl] at hN2
    exact ⟨Nat.le_trans (show _ <= 10000 by rw [List.length_map,List.length_map]; rw [q4v] at hll; omega) (by decide),hN2 _ ⟨_,_,rfl⟩⟩
  ·rintro ρ ⟨o7,o8,rfl⟩
   rw [List.length_map,List.length_range,List.length_map,Int.toNat_natCast,List.take_of_length_le (by rw [List.length_map]; exact Nat.le_refl _)]
   have hat : atI (p.pts.map dPt) (i : Int) = some (.tup [.str q.name,.int q.x,.int q.y,.int q.loss,.tup (q.places.map q5s)]):=by
    rw [q4q,show atI p.pts (i : Int) = some q from q3j hq]; rfl
   have hqm:=List.mem_of_getElem? hq
   have hend : ∀ o,plL p q (q4g (smI i) (ls.map cs)) = some o -> (s ++ [o]).length = i + 1 /\ ∀ (j : Nat) q',j < i + 1 -> p.pts[j]? = some q' -> ∃ o',(s ++ [o])[j]? = some o' /\ plL p q' (q4g (smI j) (ls.map cs)) = some o':=fun o ho => by
    refine ⟨by rw [List.length_append,hsl]; rfl,fun j q' hj hq' => ?_⟩
    rcases Nat.lt_or_ge j i with z | z
    ·obtain ⟨o',h1,h2⟩:=hs j q' z hq'
     exact ⟨o',by rw [List.getElem?_append_left (by omega)]; exact h1,h2⟩
    ·obtain rfl : j = i:=by omega
     rw [hq] at hq'
     cases hq'
     exact ⟨o,by rw [List.getElem?_append_right (by omega),hsl,Nat.sub_self]; rfl,ho⟩
   have hnone : plL p q (q4g (smI i) (ls.map cs)) = none -> RdN p (ls.map cs):=fun h => ⟨i,q,hq,h⟩
   generalize q4g (smI i) (ls.map cs) = cl at hend hnone ⊢
   rw [q2t]
   walk_at "d"
   rw [hat]
   walk_at "d"
   refine ⟨by decide,⟨q4t cl,rfl⟩,?_⟩
   rw [z0e]
   by_cases hcl : cl = []
   ·subst hcl
    have he:=hend none k1k
    refine q5i (fun z => by cases z) fun _ => ⟨Nat.lt_of_lt_of_le (show _ < 1000 by rw [List.length_map]; omega) (by decide),hN _ ⟨s ++ [none],_,_,_,_,_,_,_,_,by rw [List.map_append]; rfl,he.1,he.2⟩⟩
   ·have hpl:=L.ok.pl q hqm
    refine q5i (fun _ => ?_) fun z => absurd (show cl.isEmpty = false by cases cl with | nil => exact absurd rfl hcl | cons _ _ => rfl) z
    refine ⟨by rw [List.length_map]; exact ⟨by omega,by omega⟩,q3o (by rw [List.length_map,List.length_range,List.length_map]; omega),fun _ => ?_⟩
    refine q5z (fun (j : Nat) => D.int (j : Int)) (fun (j : Nat) => decide ((opB p (q.name,(j : Int))).map q1r = some cl)) (fun j hj cc hk => ?_) ?_
    ·have hl1 : q3m tk tv [Sum.inr q.name,Sum.inl (0 + (j : Int))] = (opB p (q.name,(j : Int))).map dOc:=by rw [Int.zero_add]; exact op.at' (q.name,(j : Int))
     walk_at "d"
     rw [hl1]
     refine ⟨by decide,?_⟩
     cases hoi : opB p (q.name,(j : Int)) with
     | none =>
      rw [hoi,decide_eq_false (by simp)] at hk
      rw [Option.map_none,Option.getD_none]
      refine ⟨⟨rfl,q4t _⟩,?_⟩
      first
       | exact hk
       | (rw [show deq .non (.lst (cl.map q2x)) = false from rfl]; walk_at "d"; exact hk)
     | some b' =>
      rw [hoi] at hk
      rw [Option.map_some,Option.getD_some,z7j]
      walk_at "d"
      refine ⟨⟨q4t _,q4t _⟩,?_⟩
      rw [z1s,Int.zero_add]
      by_cases e : q1r b' = cl
      ·rw [decide_eq_true (show Option.map q1r (some b') = some cl by rw [<- e]; rfl)] at hk
       exact q5i (fun _ => hk) fun z => absurd (decide_eq_true e) z
      ·rw [decide_eq_false (show ¬ Option.map q1r (some b') = some cl from fun z => e (Option.some.inj z))] at hk
       exact q5i (fun z => absurd (of_decide_eq_true z) e) fun _ => hk
    ·rw [List.length_map,Int.toNat_natCast]
     have hpll : plL p q cl = (lf p q cl).head?.map fun (j : Nat) => some (j : Int):=by unfold plL; rw [if_neg hcl]
     rw [hpll] at hend hnone
     rw [show (List.range q.places.length).filter (fun (j : Nat) => decide ((opB p (q.name,(j : Int))).map q1r = some cl)) = lf p q cl from rfl]
     refine ⟨by decide,⟨k6s _,rfl⟩,?_⟩
     cases hlf : lf p q cl with
     | nil =>
      rw [hlf] at hnone
      exact q5i (fun _ => ps _ (.inr ⟨rfl,hnone rfl⟩)) fun z => absurd rfl z
     | cons j r =>
      rw [hlf] at hend
      have he:=hend (some (j : Int)) rfl
      refine q5i (fun z => by cases (show false = true from z)) fun _ => ?_
      rw [List.map_cons]
      walk_at "d"
      exact ⟨Nat.lt_of_lt_of_le (show _ < 1000 by rw [List.length_map]; omega) (by decide),hN _ ⟨s ++ [some (j : Int)],_,_,_,_,_,_,_,_,by rw [List.map_append]; rfl,he.1,he.2⟩⟩
 ·rintro ρ ⟨s,o4,o5,o6,o7,o8,o9,o10,o11,rfl,hsl,hs⟩
  rw [List.length_map,List.length_range,List.length_map,Int.toNat_natCast] at hsl hs
  walk_at "d"
  exact ps _ (.inl ⟨s,rfl,hsl,fun i q hq => hs i q (List.getElem?_eq_some_iff.mp hq).1 hq⟩)
end
open TX
section
variable {P : Program} {w : World} {K : PySem.W.Frag} {mg : Str -> Option Value} {base : Heap} {t : Adr} {n : Nat}
theorem k2q : ∀ l m : List Nat,PyData.eqvAll (D.pys (l.map dSg)) (D.pys (m.map dSg)) = decide (l = m)
 | [],[] => rfl
 | [],_ :: _ => rfl
 | _ :: _,[] => rfl
 | a :: l,c :: m => by
  rw [List.map_cons,List.map_cons,D.pys,D.pys,PyData.eqvAll,k2q l m]
  have e : PyData.eqv (dSg a).py (dSg c).py = decide (a = c):=by
   have:=z6k (one a) (one c)
   unfold deq at this
   show PyData.eqv (D.str (one a)).py (D.str (one c)).py = _
   rw [this,Bool.eq_iff_iff]
   simp [one_inj]
  rw [e,Bool.eq_iff_iff]
  simp
theorem z7v : ∀ l m : List (List Nat),PyData.eqvAll (D.pys (l.map q9e)) (D.pys (m.map q9e)) = decide (l = m)
 | [],[] => rfl
 | [],_ :: _ => rfl
 | _ :: _,[] => rfl
 | a :: l,c :: m => by
  rw [List.map_cons,List.map_cons,D.pys,D.pys,PyData.eqvAll,z7v l m]
  have e : PyData.eqv (q9e a).py (q9e c).py = decide (a = c):=by
   rw [<- k2q]
   simp [q9e,D.py,PyData.eqv]
  rw [e,Bool.eq_iff_iff]
  simp
theorem k7f (l m : List (List Nat)) : deq (.lst (l.map q9e)) (.lst (m.map q9e)) = decide (l = m):=by
 rw [<- z7v]
 simp [deq,D.py,PyData.eqv]
theorem z5t {r : List Nat} (h : ∀ c ∈ r,okC c) : (q9e r).isD = true /\ (q9e r).py.canLay0 = true /\ (q9e r).py.depth <= 2:=by
 obtain ⟨l1,l2⟩:=z0k dSg r fun z hz => ⟨rfl,by
  have : PyData.strOk (one z) = true:=by rw [z2w,z3v]; simp [(h z hz).2]
  simpa [dSg,D.py,PyData.canLay0] using this⟩
 have l3 : PyData.depthAll (D.pys (r.map dSg)) <= 1:=by
  clear l1 l2 h
  induction r with
  | nil => simp [D.pys,PyData.depthAll]
  | cons a r ih =>
   rw [List.map_cons,D.pys,PyData.depthAll]
   simp only [dSg,D.py,PyData.depth] at ih ⊢
   omega
 unfold q9e
 refine ⟨by rw [D.isD]; exact l1,by rw [D.py,PyData.canLay0]; exact l2,by rw [D.py,PyData.depth]; omega⟩
theorem z9a {l : List (List Nat)} (h : ∀ r ∈ l,∀ c ∈ r,okC c) : (D.lst (l.map q9e)).ok = true:=by
 obtain ⟨l1,l2⟩:=z0k q9e l fun z hz => ⟨(z5t (h z hz)).1,(z5t (h z hz)).2.1⟩
 have l3 : PyData.depthAll (D.pys (l.map q9e)) <= 2:=by
  clear l1 l2
  induction l with
  | nil => simp [D.pys,PyData.depthAll]
  | cons a r ih =>
   rw [List.map_cons,D.pys,PyData.depthAll]
   have e1:=(z5t (h a (.head _))).2.2
   have e2:=ih fun z hz => h z (.tail _ hz)
   omega
 unfold D.ok SeqAt.shaped
 rw [D.isD,l1,D.py,PyData.canLay0,l2,PyData.depth]
 simp
 omega
theorem k3a {p : q2k} (L : PlP p) {s : List (Option Int)} : ∀ r ∈ rowsOf p (sgP p s p.pts.length),∀ c ∈ r,okC c:=by
 intro r hr c hc
 have hpn:=L.pn
 unfold rowsOf at hr
 obtain ⟨y,_,rfl⟩:=List.mem_map.mp hr
 obtain ⟨z,_,e⟩:=List.mem_map.mp hc
 subst e
 unfold okC
 cases hv : sgP p s p.pts.length ((z : Int),(y : Int)) with
 | none => exact ⟨by show (46 : Nat) ≠ 10; decide,by show (46 : Nat) < _; decide⟩
 | some v =>
  show v ≠ 10 /\ v < 0x110000
  unfold sgP at hv
  rcases q7t hv with ⟨j,h1,h2,h3⟩ | ⟨j,h1,h2,h3⟩ | h3
  ·have h3 : v = 97 + j:=h3
   omega
  ·have h3 : v = 65 + j:=h3
   omega
  ·unfold q9c at h3
   split at h3
   ·have:=Option.some.inj h3; omega
   ·cases h3
def pre_q1d : List D -> Prop:=fun ds => ∃ (p : q2k) (tk : List (List Key)) (tv : List D) (ls : List Str),ds = [q2z p,.dT tk tv,.lst (ls.map D.str)] /\ PlP p /\ OpT p tk tv /\ LnL 60 ls
def post_q1d : List D -> D -> Prop:=fun ds d => ∃ (p : q2k) (e : D) (ls : List Str),ds = [q2z p,e,.lst (ls.map D.str)] /\ ((∃ s,d = .lst (s.map dO) /\ q4n p s /\ Sep p s /\ ls.map cs = rowsOf p (sgP p s p.pts.length) /\ q6q p s = s) \/ (d = .non /\ k1z p (ls.map cs)))
theorem z2o {a b : List Str} (h : a.map D.str = b.map D.str) : a = b:=by
 have:=congrArg (List.map fun d => match d with | D.str x => x | _ => Str.empty) h
 simpa [List.map_map,Function.comp_def] using this
theorem ok_q1d (T : Txt K mg t) (G_q0v : q3d P w K mg base CX0 (n) t.f_q0v t.d_q0v ["_law_plan_here","_law_opened","_law_lines"] (spD K [true,true,true] .v pre_q0v post_q0v)) (G_q0u : q3d P w K mg base CX0 (n) t.f_q0u t.d_q0u ["_law_plan_here","_law_setting_here","_law_opened"] (spD K [true,true,true] .n pre_q0u post_q0u)) : q3d P w K mg base CX0 (n + 1) t.f_q1d t.d_q1d ["_law_plan_here","_law_opened","_law_lines"] (spD K [true,true,true] .v pre_q1d post_q1d):=by
 refine okD T.F_q1d sc_q1d rfl fun cdv A outer s H E hr => ⟨_,(q1i (q1u (i:=3) sc_q1d.nd rfl (Or.inl rfl) (q1p G_q0v hr rfl T.m_q0v T.F_q0v.kp T.b_q0v q3a (q2g (q1f 0) (q2g (q1f 1) (q2g (q1f 2) q1h)))))
   (q1i (q3z (q2n z5m (q1f 3) (PX.vb q4m) (q2l _)) (q1m (q2s (by decide) q4m)) q2w)
   (q1i (q3z (q2n (z4x hr.units) (PX.nb (q1p G_q0u hr rfl T.m_q0u T.F_q0u.kp T.b_q0u q3a (q2g (q1f 0) (q2g (q1f 3) (q2g (q1f 1) q1h))))) (PX.nb (q5b (osc:=q1j s_q1d) (N:=["_law_plan_here","_law_opened","_law_lines","_law_setting_here"]) ["_law_line"] [none] ⟨rfl,by decide +kernel,by decide +kernel,by decide +kernel,rfl,by decide +kernel⟩ (q7n rfl (q1f 2)) (fun b => (q1n (i:=0) (show (["_law_line"] : List Str).Nodup by decide +kernel) rfl (Or.inl rfl))) (fun b => q5c) (fun b => (PX.nv (q7s (DX.cx_listS rfl) rfl T.n_list PySem.Pv.boot_list (q2g (q1f 0) q1h)))))) (q2l _)) (q1m (q2s (by decide) q4m)) q2w)
   (q1m (q2s (by decide) (q1o 3)))))),fun vs ds hv hd hp => ?_⟩
 obtain ⟨p,tk,tv,ls,rfl,L,op,hL⟩:=hp
 have ps : ∀ d,((∃ s,d = .lst (s.map dO) /\ q4n p s /\ Sep p s /\ ls.map cs = rowsOf p (sgP p s p.pts.length) /\ q6q p s = s) \/ (d = .non /\ k1z p (ls.map cs))) -> post_q1d [q2z p,.dT tk tv,.lst (ls.map D.str)] d:=fun d h => ⟨p,_,ls,rfl,h⟩
 have h2:=hL.n2
 walk_at "d"
 refine ⟨⟨p,tk,tv,ls,rfl,L,op,hL⟩,?_⟩
 rintro d ⟨p',e',ls',e,hd'⟩
 simp only [List.cons.injEq,D.lst.injEq,and_true] at e
 cases q3i e.1
 cases z2o e.2.2
 rcases hd' with ⟨s,rfl,hr⟩ | ⟨rfl,hr⟩
 ·have g:=z5c L hr
  walk_at "d"
  refine ⟨⟨p,s,tk,tv,rfl,L,g,op⟩,?_⟩
  rintro d ⟨p',s',b,e,rfl⟩
  simp only [List.cons.injEq,D.lst.injEq,and_true] at e
  cases q3i e.1
  cases q7h e.2.1
  refine ⟨Nat.le_trans (show _ <= 100 by rw [List.length_map]; omega) (by decide),fun _ => ?_⟩
  refine q3f (fun (l : Str) => q9e (cs l)) (fun l hl cc hk => ?_) ?_
  ·walk_at "d"
   exact ⟨Nat.le_trans (hL.ln l hl).1 (by decide),hk⟩
  ·rw [show ls.map (fun (l : Str) => q9e (cs l)) = (ls.map cs).map q9e by rw [List.map_map]; rfl,z2p L g]
   have ok2 : ∀ r ∈ ls.map cs,∀ c ∈ r,okC c:=fun r hr => by
    obtain ⟨l,hl,rfl⟩:=List.mem_map.mp hr
    exact (z7u.mp (hL.ln l hl)).2
   walk_at "d"
   refine ⟨⟨z9a (k3a L),z9a ok2⟩,?_⟩
   rw [k7f]
   refine q5i (fun z => ?_) fun z => ?_
   ·exact ps _ (.inr ⟨rfl,z0u L hr (by rw [z2p L g]; exact of_decide_eq_false z)⟩)
   ·have e : rowsOf p (sgP p s p.pts.length) = ls.map cs:=by
     by_cases e : rowsOf p (sgP p s p.pts.length) = ls.map cs
     ·exact e
     ·exact absurd (decide_eq_false e) z
    obtain ⟨h1,h2⟩:=k5j L hr e
    exact ps _ (.inl ⟨s,rfl,g,h1,e.symm,h2⟩)
 ·walk_at "d"
  exact ps _ (.inr ⟨rfl,z2x L hr⟩)
end
open TX
section
variable {P : Program} {w : World} {K : PySem.W.Frag} {mg : Str -> Option Value} {base : Heap} {t : Adr} {n : Nat}
theorem LnL.mono {m m' : Nat} {ls : List Str} (h : LnL m ls) (hm : m <= m') : LnL m' ls:=⟨h.n1,Nat.le_trans h.n2 hm,fun l hl => ⟨Nat.le_trans (h.ln l hl).1 hm,(h.ln l hl).2⟩⟩
def z0p (r : List Nat) : Str:=Txt.join (Str.ofString "") (r.map one)
theorem z6m {p : q2k} (L : PlP p) {s : List (Option Int)} : LnL 20 ((rowsOf p (sgP p s p.pts.length)).map z0p):=by
 obtain ⟨w1,w2,h1,h2⟩:=L.ok.ws
 have hl : (rowsOf p (sgP p s p.pts.length)).length = p.high.toNat:=by unfold rowsOf; rw [List.length_map,List.length_range]
 refine ⟨by rw [List.length_map,hl]; omega,by rw [List.length_map,hl]; omega,fun l hl => ?_⟩
 obtain ⟨r,hr,rfl⟩:=List.mem_map.mp hl
 rw [z7u]
 unfold z0p
 rw [z0o]
 refine ⟨?_,k3a L r hr⟩
 unfold rowsOf at hr
 obtain ⟨y,_,rfl⟩:=List.mem_map.mp hr
 rw [List.length_map,List.length_range]; omega
theorem k1q {m : Nat} {ls : List Str} (h : LnL m ls) (hm : m <= 60) : Rws (Txt.join (one 10) ls) (ls.map cs):=by
 refine ⟨by rw [k0r,q8v],fun e => ?_,fun r hr hc => ?_,by rw [List.length_map]; have:=h.n2; omega,fun r hr => ?_⟩
 ·have h0 : ls.length = 0:=by simpa using congrArg List.length e
  have:=h.n1
  omega
 ·obtain ⟨l,hl,rfl⟩:=List.mem_map.mp hr
  exact (h.ln l hl).2.2 hc
 ·obtain ⟨l,hl,rfl⟩:=List.mem_map.mp hr
  have:=(h.ln l hl).1
  rw [q4v] at this; omega
theorem k1b (l : List (Option Int)) : (D.lst (l.map dO)).ok = true:=by
 obtain ⟨l1,l2⟩:=z0k dO l fun z _ => by cases z <;> exact ⟨rfl,by simp [dO,D.py,PyData.canLay0]⟩
 have l3 : PyData.depthAll (D.pys (l.map dO)) <= 1:=by
  clear l1 l2
  induction l with
  | nil => simp [D.pys,PyData.depthAll]
  | cons a r ih =>
   rw [List.map_cons,D.pys,PyData.depthAll]
   cases a <;> simp only [dO,D.py,PyData.depth] at ih ⊢ <;> omega
 unfold D.ok SeqAt.shaped
 rw [D.isD,l1,D.py,PyData.canLay0,l2,PyData.depth]
 simp
 omega
theorem j0v (l : List (Option Int)) : deq (.lst (l.map dO)) (.lst (l.map dO)) = true:=by
 have h : PyData.eqvAll (D.pys (l.map dO)) (D.pys (l.map dO)) = true:=by
  induction l with
  | nil => rfl
  | cons a r ih =>
   rw [List.map_cons,D.pys,PyData.eqvAll,ih]
   cases a <;> simp [dO,D.py,PyData.eqv]
 simp [deq,D.py,PyData.eqv,h]
def k1h : List D -> Prop:=fun ds => ∃ (ns : List Int),ds = [.lst (ns.map .int)]
def z8f : List D -> D -> Prop:=fun _ d => d = .bl true
theorem j6f (T : Txt K mg t) (G_q1a : q3d P w K mg base CX0 (n + 8) t.f_q1a t.d_q1a ["_law_script","_law_first","_law_most"] (spD K [true,false,false] .v pre_q1a post_q1a)) (G_q0w : q3d P w K mg base CX0 (n + 8) t.f_q0w t.d_q0w ["_law_plan_here"] (spD K [true] .n pre_q0w post_q0w)) (G_q0u : q3d P w K mg base CX0 (n + 8) t.f_q0u t.d_q0u ["_law_plan_here","_law_setting_here","_law_opened"] (spD K [true,true,true] .n pre_q0u post_q0u)) (G_q0j : q3d P w K mg base CX0 (n + 8) t.f_q0j t.d_q0j ["_law_script","_law_plan_here","_law_opened"] (spD K [true,true,true] .n pre_q0j post_q0j)) (G_q0n : q3d P w K mg base CX0 (n + 8) t.f_q0n t.d_q0n ["_law_script","_law_k"] (spD K [true,true] .v pre_q0n post_q0n)) (G_q0l : q3d P w K mg base CX0 (n + 8) t.f_q0l t.d_q0l ["_law_lines","_law_number_here"] (spD K [true,true] .v pre_q0l post_q0l)) (G_q1d : q3d P w K mg base CX0 (n + 8) t.f_q1d t.d_q1d ["_law_plan_here","_law_opened","_law_lines"] (spD K [true,true,true] .v pre_q1d post_q1d)) (G_q0a : q3d P w K mg base CX0 (n + 8) t.f_q0a t.d_q0a ["_law_plan_here","_law_text"] (spD K [true,true] .v pre_q0a post_q0a)) (G_q0i : q3d P w K mg base CX0 (n + 8) t.f_q0i t.d_q0i ["plan","text"] (spD K [true,true] .n pre_q0i post_q0i)) : q3d P w K mg base CX0 (n + 9) t.f_law t.d_law ["_law_script"] (spD K [true] .v k1h z8f):=by
 refine okD T.F_law q6i rfl fun cdv A outer s H E hr => ⟨_,(q1i (q1u (i:=1) q6i.nd rfl (Or.inl rfl) (q1p G_q1a hr rfl T.m_q1a T.F_q1a.kp T.b_q1a q3a (q2g (q1f 0) (q1t q1g (q1t q1g q1h)))))
   (q1i (q1u (i:=2) q6i.nd rfl (Or.inl rfl) (PX.nv (q1p G_q0w hr rfl T.m_q0w T.F_q0w.kp T.b_q0w q3a (q2g (q1f 1) q1h))))
   (q1i (q1u (i:=3) q6i.nd rfl (Or.inl rfl) (PX.nv (q1p G_q0u hr rfl T.m_q0u T.F_q0u.kp T.b_q0u q3a (q2g (q1f 1) (q2g (PX.nb (q1p G_q0j hr rfl T.m_q0j T.F_q0j.kp T.b_q0j q3a (q2g (q1f 0) (q2g (q1f 1) (q2g (q1f 2) q1h))))) (q2g (q1f 2) q1h))))))
   (q1i (z0a (i:=4) (osc:=q1j z6b) (N:=["_law_script","_law_plan_here","_law_opened","_law_signs","_law_lines","_law_cell","_law_k","_law_text","_law_due_here"]) ["_law_line"] [none] ⟨rfl,by decide +kernel,by decide +kernel,by decide +kernel,rfl,by decide +kernel⟩ q6i.nd rfl (Or.inl rfl) (q7n rfl (q1f 3)) (fun b => (q1n (i:=0) (show (["_law_line"] : List Str).Nodup by decide +kernel) rfl (Or.inl rfl))) (fun b => q5c) (fun b => (q9z q9l PySem.F.plainAttrs_str PySem.F.slot_str_join PySem.F.type_str_join (PX.vb q2m) (q2g (q1f 0) q1h))))
   (q1i (q1u (i:=5) q6i.nd rfl (Or.inl rfl) (q1p G_q0n hr rfl T.m_q0n T.F_q0n.kp T.b_q0n q3a (q2g (q1f 0) (q2g (PX.vb q1g) q1h))))
   (q1i (q3b PassesOwn.never rfl (q2o rfl T.n_range (q1t (q1k q1q (PX.vb q1g) (PX.vb (q1k q2q (q1f 5) (PX.vb q1g)))) q1h)) (q1n (i:=6) q6i.nd rfl (Or.inl rfl)) (q1m (q1u (i:=4) q6i.nd rfl (Or.inl rfl) (q1p G_q0l hr rfl T.m_q0l T.F_q0l.kp T.b_q0l q3a (q2g (q1f 4) (q2g (PX.vb (q1k q2r (PX.vb (q1p G_q0n hr rfl T.m_q0n T.F_q0n.kp T.b_q0n q3a (q2g (q1f 0) (q2g (PX.vb (q1k q1q (PX.vb q1g) (q1f 6))) q1h)))) (PX.vb q1g))) q1h))))))
   (q1i (q1u (i:=7) q6i.nd rfl (Or.inl rfl) (q9z q9l PySem.F.plainAttrs_str PySem.F.slot_str_join PySem.F.type_str_join (PX.vb q2m) (q2g (q1f 4) q1h)))
   (q1i (q1u (i:=8) q6i.nd rfl (Or.inl rfl) (q1p G_q1d hr rfl T.m_q1d T.F_q1d.kp T.b_q1d q3a (q2g (q1f 1) (q2g (q1f 2) (q2g (q1f 4) q1h)))))
   (q1i (q3z (q2n (q4j hr.units) (PX.vb (q1k q2q (PX.vb (q1k q2r (q1f 5) (PX.vb q1g))) (PX.vb q1g))) (PX.vb q1g) (q2l _)) (q1i (q1u (i:=7) q6i.nd rfl (Or.inl rfl) (q1l (hu1 hr) (PX.nb (q3k (q1t q4m (q1t z9o (q1t q1g (q1t q1g (q1t (q2v (q1t q2m q1h)) (q1t (PX.nv (q3k (q1t q2m q1h))) (q1t (PX.nv j0h) q1h))))))))) (PX.vb (q1k q2q (PX.vb (q1k q2r (q1f 5) (PX.vb q1g))) (PX.vb q1g))) (fun _ _ => rfl)))
   (q1m (q1u (i:=8) q6i.nd rfl (Or.inl rfl) q4m))) q2w)
   (q1i (q3z (q2n z5m (q1f 8) (PX.vb q4m) (q2l _)) (q1m (q2s (by decide) (q1p G_q0a hr rfl T.m_q0a T.F_q0a.kp T.b_q0a q3a (q2g (q1f 1) (q2g (q1f 7) q1h))))) q2w)
   (q1m (q2s (by decide) (z2b (q4j hr.units) (PX.nb (q1p G_q0i hr rfl T.m_q0i T.F_q0i.kp T.b_q0i q3a (q2g (q1f 1) (q2g (q1f 7) q1h)))) (q1f 8) (q2l _)))))))))))))),fun vs ds hv hd hp => ?_⟩
 obtain ⟨ns,rfl⟩:=hp
 walk_at "d"
 refine ⟨⟨ns,4,26,rfl,by decide,by decide,by decide,by decide⟩,?_⟩
 rintro d ⟨p,rfl,L⟩
 refine ⟨⟨p,rfl,L⟩,?_⟩
 rintro d ⟨p',tk,tv,e,rfl,op⟩
 simp only [List.cons.injEq,and_true] at e
 cases q3i e
 refine ⟨⟨ns,p,tk,tv,rfl,L,op⟩,?_⟩
 rintro d ⟨_,_,p',s,e,rfl,g,sp⟩
 simp only [List.cons.injEq,and_true] at e
 cases q3i e.2.1
 refine ⟨⟨p,s,tk,tv,rfl,L,g,op⟩,?_⟩
 rintro d ⟨p',s',b,e,rfl⟩
 simp only [List.cons.injEq,D.lst.injEq,and_true] at e
 cases q3i e.1
 cases q7h e.2.1
 rw [z2p L g]
 have hfirst:=z6m L (s:=s)
 have hro:=k3a L (s:=s)
 generalize rowsOf p (sgP p s p.pts.length) = rows at hfirst hro ⊢
 walk_at "d"
 have hn1:=hfirst.n1
 have hn2:=hfirst.n2
 rw [List.length_map] at hn1 hn2
 refine ⟨Nat.le_trans (show _ <= 100 by rw [List.length_map]; omega) (by decide),fun _ => ?_⟩
 refine q3f (fun (r : List Nat) => D.str (z0p r)) (fun r hr cc hk => ?_) ?_
 ·have hll:=(hfirst.ln _ (List.mem_map_of_mem hr)).1
  unfold z0p at hll
  rw [q4v,z0o] at hll
  walk_at "d"
  show q3n (q8w (r.map dSg)) _
  rw [show r.map dSg = (r.map one).map D.str by rw [List.map_map]; rfl,q6k]
  have hsum:=z0b (m:=1) (l:=r.map one) (fun x hx => by
   obtain ⟨c,_,rfl⟩:=List.mem_map.mp hx
   exact Nat.le_refl 1)
  refine ⟨?_,hk⟩
  have e0 : (Str.ofString "").length = 0:=rfl
  rw [e0]
  rw [List.length_map] at hsum
  omega
 refine ⟨⟨ns,2,rfl,by decide,by decide⟩,?_⟩
 rintro d ⟨c,rfl,c0⟩
 walk_at "d"
 rw [show rows.map (fun (r : List Nat) => D.str (z0p r)) = (rows.map z0p).map D.str by rw [List.map_map]; rfl]
 generalize rows.map z0p = ls0 at hfirst ⊢
 refine ⟨by decide,⟨by omega,by omega⟩,?_⟩
 refine q1v (fun i ρ => ∃ (ls : List Str) (sl : Sl) (o6 : Option Sl),ρ = [some (.bor (hdV vs) (.lst (ns.map .int))),some (.shr (q2z p)),some (.shr (.dT tk tv)),some (.shr (.lst (rows.map q9e))),some sl,some (.shr (.int c)),o6,none,none] /\ (sl = .own (.lst (ls.map D.str)) \/ sl = .shr (.lst (ls.map D.str))) /\ LnL (20 + i) ls) ⟨ls0,_,_,rfl,.inl rfl,hfirst⟩ ?_ ?_
 ·rintro i d ρ N hd ⟨ls,sl,o6,rfl,hsl,hL⟩ hN
  obtain ⟨hi,rfl⟩:=q5x hd
  have hi : i < 2:=by omega
  have hval : sl.val = .lst (ls.map D.str):=by rcases hsl with rfl | rfl <;> rfl
  walk_at "d"
  refine ⟨⟨ns,_,rfl,by omega,by omega⟩,?_⟩
  rintro d ⟨b,rfl,b0⟩
  walk_at "d"
  rw [hval]
  refine ⟨⟨by decide,by decide⟩,⟨ls,_,_,rfl,by omega,hL,by omega⟩,?_⟩
  rintro d ⟨ls1,ls',_,e,rfl,hpost⟩
  simp only [List.cons.injEq,D.lst.injEq,and_true] at e
  cases z2o e.1
  exact hN _ ⟨ls',_,_,rfl,.inr rfl,hpost _ hL⟩
 ·rintro ρ ⟨ls,sl,o6,rfl,hsl,hL⟩
  have hval : sl.val = .lst (ls.map D.str):=by rcases hsl with rfl | rfl <;> rfl
  have hL : LnL 60 ls:=hL.mono (by rw [List.length_map,List.length_range]; omega)
  have h2:=hL.n2
  walk_at "d"
  rw [hval]
  show q3n (q8w (ls.map D.str)) _
  rw [q6k]
  walk_at "d"
  have hs1:=z0b fun x hx => (hL.ln x hx).1
  have e0 : (Str.ofString "\n").length = 1:=by decide +kernel
  have e10 : Str.ofString "\n" = one 10:=by decide +kernel
  have hR:=k1q hL (by decide)
  rw [<- e10] at hR
  generalize Txt.join (Str.ofString "\n") ls = x at hR ⊢
  refine ⟨by rw [e0]; omega,⟨p,tk,tv,ls,rfl,L,op,hL⟩,?_⟩
  rintro d ⟨p',e',ls',e,hdue⟩
  simp only [List.cons.injEq,D.lst.injEq,and_true] at e
  cases q3i e.1
  cases z2o e.2.2
  refine ⟨⟨by decide,by decide⟩,by decide,q5i (fun _ => ?_) fun _ => ?_⟩
  ·refine ⟨by decide,by decide,by decide,⟨by decide,by decide⟩,by decide,?_⟩
   have hc : c / 18 % 7 = 0 \/ c / 18 % 7 = 1 \/ c / 18 % 7 = 2 \/ c / 18 % 7 = 3 \/ c / 18 % 7 = 4 \/ c / 18 % 7 = 5 \/ c / 18 % 7 = 6:=by omega
   rcases hc with h | h | h | h | h | h | h <;> rw [h] <;> exact ⟨⟨p,L,.inr ⟨_,rfl,rfl⟩⟩,fun d h => h⟩
  ·rcases hdue with ⟨s2,rfl,g2,sp2,hrows,hbk⟩ | ⟨rfl,hno⟩
   ·refine q5i (fun z => by cases z) fun _ => ?_
    refine ⟨⟨p,s2,x,rfl,L,g2,sp2,by rw [hR.jn,hrows]⟩,?_⟩
    rintro d ⟨p',s3,x',e,rfl,g3,sp3,hx3⟩
    simp only [List.cons.injEq,D.str.injEq,and_true] at e
    cases q3i e.1
    cases e.2
    have hR3:=k4j L hx3
    have er : rowsOf p (sgP p s3 p.pts.length) = ls.map cs:=q6w hR3.ne hR.ne hR3.fr hR.fr (hR3.jn.symm.trans hR.jn)
    have eb : q6q p s3 = s2:=by
     have r3:=q9i L g3 sp3
     have r2:=q9i L g2 sp2
     rw [er] at r3
     rw [<- hrows,hbk] at r2
     exact r3.uniq r2
    rw [eb]
    walk_at "d"
    refine ⟨⟨k1b _,k1b _⟩,?_⟩
    rw [j0v]
    exact rfl
   ·refine q5i (fun _ => ?_) fun z => absurd rfl z
    exact ⟨⟨p,L,.inl ⟨x,ls.map cs,rfl,hR,hno⟩⟩,fun d h => h⟩
end
theorem z4t {α : Type} {l : List α} (h : l.length = 1) : ∃ z0_,l = [z0_]:=by
 match l,h with
 | [z0_],_ => exact ⟨z0_,rfl⟩
theorem q8n {α : Type} {l : List α} (h : l.length = 2) : ∃ z0_ z1_,l = [z0_,z1_]:=by
 match l,h with
 | [z0_,z1_],_ => exact ⟨z0_,z1_,rfl⟩
theorem z4j {α : Type} {l : List α} (h : l.length = 3) : ∃ z0_ z1_ z2_,l = [z0_,z1_,z2_]:=by
 match l,h with
 | [z0_,z1_,z2_],_ => exact ⟨z0_,z1_,z2_,rfl⟩
theorem j2q {α : Type} {l : List α} (h : l.length = 4) : ∃ z0_ z1_ z2_ z3_,l = [z0_,z1_,z2_,z3_]:=by
 match l,h with
 | [z0_,z1_,z2_,z3_],_ => exact ⟨z0_,z1_,z2_,z3_,rfl⟩
theorem txt_mk {K : PySem.W.Frag} {h : Heap} {mg : Str -> Option Value} (X : K.In h) (G : h.Ns mainGlobals mg)
  {od1 an1 : Option Addr} {sl1 : Array (Option Value)} {oc1 kV1 dc1 pm1 cd1 ct1 : Value} {f1 : Addr}
  (a1 : PySem.W.nsIn K mainGlobals "cells_of" = some (some (.ref f1))) (l1 : K.lookup f1 = some ⟨oc1,od1,.func (PySem.W.fnOf "cells_of" "cells_of" (q2d s_q0p) (q1x s_q0p) (q1j s_q0p) .none kV1 dc1 pm1 an1 cd1 ct1),sl1⟩) (c1 : PySem.W.codeIn K cd1 "cells_of" = true) (k1 : PySem.W.keepIn K (.ref f1) = true)
  {od2 an2 : Option Addr} {sl2 : Array (Option Value)} {oc2 kV2 dc2 pm2 cd2 ct2 : Value} {f2 : Addr}
  (a2 : PySem.W.nsIn K mainGlobals "spans_meet" = some (some (.ref f2))) (l2 : K.lookup f2 = some ⟨oc2,od2,.func (PySem.W.fnOf "spans_meet" "spans_meet" (q2d s_q0f) (q1x s_q0f) (q1j s_q0f) .none kV2 dc2 pm2 an2 cd2 ct2),sl2⟩) (c2 : PySem.W.codeIn K cd2 "spans_meet" = true) (k2 : PySem.W.keepIn K (.ref f2) = true)
  {od3 an3 : Option Addr} {sl3 : Array (Option Value)} {oc3 kV3 dc3 pm3 cd3 ct3 : Value} {f3 : Addr}
  (a3 : PySem.W.nsIn K mainGlobals "meet" = some (some (.ref f3))) (l3 : K.lookup f3 = some ⟨oc3,od3,.func (PySem.W.fnOf "meet" "meet" (q2d s_q1e) (q1x s_q1e) (q1j s_q1e) .none kV3 dc3 pm3 an3 cd3 ct3),sl3⟩) (c3 : PySem.W.codeIn K cd3 "meet" = true) (k3 : PySem.W.keepIn K (.ref f3) = true)
  {od4 an4 : Option Addr} {sl4 : Array (Option Value)} {oc4 kV4 dc4 pm4 cd4 ct4 : Value} {f4 : Addr}
  (a4 : PySem.W.nsIn K mainGlobals "lies_in" = some (some (.ref f4))) (l4 : K.lookup f4 = some ⟨oc4,od4,.func (PySem.W.fnOf "lies_in" "lies_in" (q2d s_q0r) (q1x s_q0r) (q1j s_q0r) .none kV4 dc4 pm4 an4 cd4 ct4),sl4⟩) (c4 : PySem.W.codeIn K cd4 "lies_in" = true) (k4 : PySem.W.keepIn K (.ref f4) = true)
  {od5 an5 : Option Addr} {sl5 : Array (Option Value)} {oc5 kV5 dc5 pm5 cd5 ct5 : Value} {f5 : Addr}
  (a5 : PySem.W.nsIn K mainGlobals "box_at" = some (some (.ref f5))) (l5 : K.lookup f5 = some ⟨oc5,od5,.func (PySem.W.fnOf "box_at" "box_at" (q2d s_q0z) (q1x s_q0z) (q1j s_q0z) .none kV5 dc5 pm5 an5 cd5 ct5),sl5⟩) (c5 : PySem.W.codeIn K cd5 "box_at" = true) (k5 : PySem.W.keepIn K (.ref f5) = true)
  {od6 an6 : Option Addr} {sl6 : Array (Option Value)} {oc6 kV6 dc6 pm6 cd6 ct6 : Value} {f6 : Addr}
  (a6 : PySem.W.nsIn K mainGlobals "boxes_of" = some (some (.ref f6))) (l6 : K.lookup f6 = some ⟨oc6,od6,.func (PySem.W.fnOf "boxes_of" "boxes_of" (q2d s_q0m) (q1x s_q0m) (q1j s_q0m) .none kV6 dc6 pm6 an6 cd6 ct6),sl6⟩) (c6 : PySem.W.codeIn K cd6 "boxes_of" = true) (k6 : PySem.W.keepIn K (.ref f6) = true)
  {od7 an7 : Option Addr} {sl7 : Array (Option Value)} {oc7 kV7 dc7 pm7 cd7 ct7 : Value} {f7 : Addr}
  (a7 : PySem.W.nsIn K mainGlobals "standing_bars" = some (some (.ref f7))) (l7 : K.lookup f7 = some ⟨oc7,od7,.func (PySem.W.fnOf "standing_bars" "standing_bars" (q2d s_q0b) (q1x s_q0b) (q1j s_q0b) .none kV7 dc7 pm7 an7 cd7 ct7),sl7⟩) (c7 : PySem.W.codeIn K cd7 "standing_bars" = true) (k7 : PySem.W.keepIn K (.ref f7) = true)
  {od8 an8 : Option Addr} {sl8 : Array (Option Value)} {oc8 kV8 dc8 pm8 cd8 ct8 : Value} {f8 : Addr}
  (a8 : PySem.W.nsIn K mainGlobals "first_bar" = some (some (.ref f8))) (l8 : K.lookup f8 = some ⟨oc8,od8,.func (PySem.W.fnOf "first_bar" "first_bar" (q2d s_q0k) (q1x s_q0k) (q1j s_q0k) .none kV8 dc8 pm8 an8 cd8 ct8),sl8⟩) (c8 : PySem.W.codeIn K cd8 "first_bar" = true) (k8 : PySem.W.keepIn K (.ref f8) = true)
  {od9 an9 : Option Addr} {sl9 : Array (Option Value)} {oc9 kV9 dc9 pm9 cd9 ct9 : Value} {f9 : Addr}
  (a9 : PySem.W.nsIn K mainGlobals "open_boxes" = some (some (.ref f9))) (l9 : K.lookup f9 = some ⟨oc9,od9,.func (PySem.W.fnOf "open_boxes" "open_boxes" (q2d s_q0h) (q1x s_q0h) (q1j s_q0h) .none kV9 dc9 pm9 an9 cd9 ct9),sl9⟩) (c9 : PySem.W.codeIn K cd9 "open_boxes" = true) (k9 : PySem.W.keepIn K (.ref f9) = true)
  {od10 an10 : Option Addr} {sl10 : Array (Option Value)} {oc10 kV10 dc10 pm10 cd10 ct10 : Value} {f10 : Addr}
  (a10 : PySem.W.nsIn K mainGlobals "is_setting" = some (some (.ref f10))) (l10 : K.lookup f10 = some ⟨oc10,od10,.func (PySem.W.fnOf "is_setting" "is_setting" (q2d s_q0d) (q1x s_q0d) (q1j s_q0d) .none kV10 dc10 pm10 an10 cd10 ct10),sl10⟩) (c10 : PySem.W.codeIn K cd10 "is_setting" = true) (k10 : PySem.W.keepIn K (.ref f10) = true)
  {od11 an11 : Option Addr} {sl11 : Array (Option Value)} {oc11 kV11 dc11 pm11 cd11 ct11 : Value} {f11 : Addr}
  (a11 : PySem.W.nsIn K mainGlobals "kept_signs" = some (some (.ref f11))) (l11 : K.lookup f11 = some ⟨oc11,od11,.func (PySem.W.fnOf "kept_signs" "kept_signs" (q2d s_q0g) (q1x s_q0g) (q1j s_q0g) .none kV11 dc11 pm11 an11 cd11 ct11),sl11⟩) (c11 : PySem.W.codeIn K cd11 "kept_signs" = true) (k11 : PySem.W.keepIn K (.ref f11) = true)
  {od12 an12 : Option Addr} {sl12 : Array (Option Value)} {oc12 kV12 dc12 pm12 cd12 ct12 : Value} {f12 : Addr}
  (a12 : PySem.W.nsIn K mainGlobals "signs_of" = some (some (.ref f12))) (l12 : K.lookup f12 = some ⟨oc12,od12,.func (PySem.W.fnOf "signs_of" "signs_of" (q2d s_q0q) (q1x s_q0q) (q1j s_q0q) .none kV12 dc12 pm12 an12 cd12 ct12),sl12⟩) (c12 : PySem.W.codeIn K cd12 "signs_of" = true) (k12 : PySem.W.keepIn K (.ref f12) = true)
  {od13 an13 : Option Addr} {sl13 : Array (Option Value)} {oc13 kV13 dc13 pm13 cd13 ct13 : Value} {f13 : Addr}
  (a13 : PySem.W.nsIn K mainGlobals "drawn" = some (some (.ref f13))) (l13 : K.lookup f13 = some ⟨oc13,od13,.func (PySem.W.fnOf "drawn" "drawn" (q2d s_q1c) (q1x s_q1c) (q1j s_q1c) .none kV13 dc13 pm13 an13 cd13 ct13),sl13⟩) (c13 : PySem.W.codeIn K cd13 "drawn" = true) (k13 : PySem.W.keepIn K (.ref f13) = true)
  {od14 an14 : Option Addr} {sl14 : Array (Option Value)} {oc14 kV14 dc14 pm14 cd14 ct14 : Value} {f14 : Addr}
  (a14 : PySem.W.nsIn K mainGlobals "cells_with" = some (some (.ref f14))) (l14 : K.lookup f14 = some ⟨oc14,od14,.func (PySem.W.fnOf "cells_with" "cells_with" (q2d s_q0c) (q1x s_q0c) (q1j s_q0c) .none kV14 dc14 pm14 an14 cd14 ct14),sl14⟩) (c14 : PySem.W.codeIn K cd14 "cells_with" = true) (k14 : PySem.W.keepIn K (.ref f14) = true)
  {od15 an15 : Option Addr} {sl15 : Array (Option Value)} {oc15 kV15 dc15 pm15 cd15 ct15 : Value} {f15 : Addr}
  (a15 : PySem.W.nsIn K mainGlobals "place_with" = some (some (.ref f15))) (l15 : K.lookup f15 = some ⟨oc15,od15,.func (PySem.W.fnOf "place_with" "place_with" (q2d s_q0e) (q1x s_q0e) (q1j s_q0e) .none kV15 dc15 pm15 an15 cd15 ct15),sl15⟩) (c15 : PySem.W.codeIn K cd15 "place_with" = true) (k15 : PySem.W.keepIn K (.ref f15) = true)
  {od16 an16 : Option Addr} {sl16 : Array (Option Value)} {oc16 kV16 dc16 pm16 cd16 ct16 : Value} {f16 : Addr}
  (a16 : PySem.W.nsIn K mainGlobals "read_back" = some (some (.ref f16))) (l16 : K.lookup f16 = some ⟨oc16,od16,.func (PySem.W.fnOf "read_back" "read_back" (q2d s_q0i) (q1x s_q0i) (q1j s_q0i) .none kV16 dc16 pm16 an16 cd16 ct16),sl16⟩) (c16 : PySem.W.codeIn K cd16 "read_back" = true) (k16 : PySem.W.keepIn K (.ref f16) = true)
  {od17 an17 : Option Addr} {sl17 : Array (Option Value)} {oc17 kV17 dc17 pm17 cd17 ct17 : Value} {f17 : Addr}
  (a17 : PySem.W.nsIn K mainGlobals "_law_number" = some (some (.ref f17))) (l17 : K.lookup f17 = some ⟨oc17,od17,.func (PySem.W.fnOf "_law_number" "_law_number" (q2d s_q0n) (q1x s_q0n) (q1j s_q0n) .none kV17 dc17 pm17 an17 cd17 ct17),sl17⟩) (c17 : PySem.W.codeIn K cd17 "_law_number" = true) (k17 : PySem.W.keepIn K (.ref f17) = true)
  {od18 an18 : Option Addr} {sl18 : Array (Option Value)} {oc18 kV18 dc18 pm18 cd18 ct18 : Value} {f18 : Addr}
  (a18 : PySem.W.nsIn K mainGlobals "_law_names" = some (some (.ref f18))) (l18 : K.lookup f18 = some ⟨oc18,od18,.func (PySem.W.fnOf "_law_names" "_law_names" (q2d s_q0t) (q1x s_q0t) (q1j s_q0t) .none kV18 dc18 pm18 an18 cd18 ct18),sl18⟩) (c18 : PySem.W.codeIn K cd18 "_law_names" = true) (k18 : PySem.W.keepIn K (.ref f18) = true)
  {od19 an19 : Option Addr} {sl19 : Array (Option Value)} {oc19 kV19 dc19 pm19 cd19 ct19 : Value} {f19 : Addr}
  (a19 : PySem.W.nsIn K mainGlobals "_law_places" = some (some (.ref f19))) (l19 : K.lookup f19 = some ⟨oc19,od19,.func (PySem.W.fnOf "_law_places" "_law_places" (q2d s_q0o) (q1x s_q0o) (q1j s_q0o) .none kV19 dc19 pm19 an19 cd19 ct19),sl19⟩) (c19 : PySem.W.codeIn K cd19 "_law_places" = true) (k19 : PySem.W.keepIn K (.ref f19) = true)
  {od20 an20 : Option Addr} {sl20 : Array (Option Value)} {oc20 kV20 dc20 pm20 cd20 ct20 : Value} {f20 : Addr}
  (a20 : PySem.W.nsIn K mainGlobals "_law_kept" = some (some (.ref f20))) (l20 : K.lookup f20 = some ⟨oc20,od20,.func (PySem.W.fnOf "_law_kept" "_law_kept" (q2d s_q0x) (q1x s_q0x) (q1j s_q0x) .none kV20 dc20 pm20 an20 cd20 ct20),sl20⟩) (c20 : PySem.W.codeIn K cd20 "_law_kept" = true) (k20 : PySem.W.keepIn K (.ref f20) = true)
  {od21 an21 : Option Addr} {sl21 : Array (Option Value)} {oc21 kV21 dc21 pm21 cd21 ct21 : Value} {f21 : Addr}
  (a21 : PySem.W.nsIn K mainGlobals "_law_box" = some (some (.ref f21))) (l21 : K.lookup f21 = some ⟨oc21,od21,.func (PySem.W.fnOf "_law_box" "_law_box" (q2d s_q1b) (q1x s_q1b) (q1j s_q1b) .none kV21 dc21 pm21 an21 cd21 ct21),sl21⟩) (c21 : PySem.W.codeIn K cd21 "_law_box" = true) (k21 : PySem.W.keepIn K (.ref f21) = true)
  {od22 an22 : Option Addr} {sl22 : Array (Option Value)} {oc22 kV22 dc22 pm22 cd22 ct22 : Value} {f22 : Addr}
  (a22 : PySem.W.nsIn K mainGlobals "_law_cells" = some (some (.ref f22))) (l22 : K.lookup f22 = some ⟨oc22,od22,.func (PySem.W.fnOf "_law_cells" "_law_cells" (q2d s_q0s) (q1x s_q0s) (q1j s_q0s) .none kV22 dc22 pm22 an22 cd22 ct22),sl22⟩) (c22 : PySem.W.codeIn K cd22 "_law_cells" = true) (k22 : PySem.W.keepIn K (.ref f22) = true)
  {od23 an23 : Option Addr} {sl23 : Array (Option Value)} {oc23 kV23 dc23 pm23 cd23 ct23 : Value} {f23 : Addr}
  (a23 : PySem.W.nsIn K mainGlobals "_law_shut" = some (some (.ref f23))) (l23 : K.lookup f23 = some ⟨oc23,od23,.func (PySem.W.fnOf "_law_shut" "_law_shut" (q2d s_q0y) (q1x s_q0y) (q1j s_q0y) .none kV23 dc23 pm23 an23 cd23 ct23),sl23⟩) (c23 : PySem.W.codeIn K cd23 "_law_shut" = true) (k23 : PySem.W.keepIn K (.ref f23) = true)
  {od24 an24 : Option Addr} {sl24 : Array (Option Value)} {oc24 kV24 dc24 pm24 cd24 ct24 : Value} {f24 : Addr}
  (a24 : PySem.W.nsIn K mainGlobals "_law_open" = some (some (.ref f24))) (l24 : K.lookup f24 = some ⟨oc24,od24,.func (PySem.W.fnOf "_law_open" "_law_open" (q2d s_q0w) (q1x s_q0w) (q1j s_q0w) .none kV24 dc24 pm24 an24 cd24 ct24),sl24⟩) (c24 : PySem.W.codeIn K cd24 "_law_open" = true) (k24 : PySem.W.keepIn K (.ref f24) = true)
  {od25 an25 : Option Addr} {sl25 : Array (Option Value)} {oc25 kV25 dc25 pm25 cd25 ct25 : Value} {f25 : Addr}
  (a25 : PySem.W.nsIn K mainGlobals "_law_plan" = some (some (.ref f25))) (l25 : K.lookup f25 = some ⟨oc25,od25,.func (PySem.W.fnOf "_law_plan" "_law_plan" (q2d s_q1a) (q1x s_q1a) (q1j s_q1a) .none kV25 dc25 pm25 an25 cd25 ct25),sl25⟩) (c25 : PySem.W.codeIn K cd25 "_law_plan" = true) (k25 : PySem.W.keepIn K (.ref f25) = true)
  {od26 an26 : Option Addr} {sl26 : Array (Option Value)} {oc26 kV26 dc26 pm26 cd26 ct26 : Value} {f26 : Addr}
  (a26 : PySem.W.nsIn K mainGlobals "_law_setting" = some (some (.ref f26))) (l26 : K.lookup f26 = some ⟨oc26,od26,.func (PySem.W.fnOf "_law_setting" "_law_setting" (q2d s_q0j) (q1x s_q0j) (q1j s_q0j) .none kV26 dc26 pm26 an26 cd26 ct26),sl26⟩) (c26 : PySem.W.codeIn K cd26 "_law_setting" = true) (k26 : PySem.W.keepIn K (.ref f26) = true)
  {od27 an27 : Option Addr} {sl27 : Array (Option Value)} {oc27 kV27 dc27 pm27 cd27 ct27 : Value} {f27 : Addr}
  (a27 : PySem.W.nsIn K mainGlobals "_law_drawn" = some (some (.ref f27))) (l27 : K.lookup f27 = some ⟨oc27,od27,.func (PySem.W.fnOf "_law_drawn" "_law_drawn" (q2d s_q0u) (q1x s_q0u) (q1j s_q0u) .none kV27 dc27 pm27 an27 cd27 ct27),sl27⟩) (c27 : PySem.W.codeIn K cd27 "_law_drawn" = true) (k27 : PySem.W.keepIn K (.ref f27) = true)
  {od28 an28 : Option Addr} {sl28 : Array (Option Value)} {oc28 kV28 dc28 pm28 cd28 ct28 : Value} {f28 : Addr}
  (a28 : PySem.W.nsIn K mainGlobals "_law_spoiled" = some (some (.ref f28))) (l28 : K.lookup f28 = some ⟨oc28,od28,.func (PySem.W.fnOf "_law_spoiled" "_law_spoiled" (q2d s_q0l) (q1x s_q0l) (q1j s_q0l) .none kV28 dc28 pm28 an28 cd28 ct28),sl28⟩) (c28 : PySem.W.codeIn K cd28 "_law_spoiled" = true) (k28 : PySem.W.keepIn K (.ref f28) = true)
  {od29 an29 : Option Addr} {sl29 : Array (Option Value)} {oc29 kV29 dc29 pm29 cd29 ct29 : Value} {f29 : Addr}
  (a29 : PySem.W.nsIn K mainGlobals "_law_read" = some (some (.ref f29))) (l29 : K.lookup f29 = some ⟨oc29,od29,.func (PySem.W.fnOf "_law_read" "_law_read" (q2d s_q0v) (q1x s_q0v) (q1j s_q0v) .none kV29 dc29 pm29 an29 cd29 ct29),sl29⟩) (c29 : PySem.W.codeIn K cd29 "_law_read" = true) (k29 : PySem.W.keepIn K (.ref f29) = true)
  {od30 an30 : Option Addr} {sl30 : Array (Option Value)} {oc30 kV30 dc30 pm30 cd30 ct30 : Value} {f30 : Addr}
  (a30 : PySem.W.nsIn K mainGlobals "_law_due" = some (some (.ref f30))) (l30 : K.lookup f30 = some ⟨oc30,od30,.func (PySem.W.fnOf "_law_due" "_law_due" (q2d s_q1d) (q1x s_q1d) (q1j s_q1d) .none kV30 dc30 pm30 an30 cd30 ct30),sl30⟩) (c30 : PySem.W.codeIn K cd30 "_law_due" = true) (k30 : PySem.W.keepIn K (.ref f30) = true)
  {od31 an31 : Option Addr} {sl31 : Array (Option Value)} {oc31 kV31 dc31 pm31 cd31 ct31 : Value} {f31 : Addr}
  (a31 : PySem.W.nsIn K mainGlobals "_law_only_no_drawing" = some (some (.ref f31))) (l31 : K.lookup f31 = some ⟨oc31,od31,.func (PySem.W.fnOf "_law_only_no_drawing" "_law_only_no_drawing" (q2d s_q0a) (q1x s_q0a) (q1j s_q0a) .none kV31 dc31 pm31 an31 cd31 ct31),sl31⟩) (c31 : PySem.W.codeIn K cd31 "_law_only_no_drawing" = true) (k31 : PySem.W.keepIn K (.ref f31) = true)
  {od32 an32 : Option Addr} {sl32 : Array (Option Value)} {oc32 kV32 dc32 pm32 cd32 ct32 : Value} {f32 : Addr}
  (a32 : PySem.W.nsIn K mainGlobals "law" = some (some (.ref f32))) (l32 : K.lookup f32 = some ⟨oc32,od32,.func (PySem.W.fnOf "law" "law" (q2d z6b) (q1x z6b) (q1j z6b) .none kV32 dc32 pm32 an32 cd32 ct32),sl32⟩) (c32 : PySem.W.codeIn K cd32 "law" = true) (k32 : PySem.W.keepIn K (.ref f32) = true)
  {tk1 : Tok} (q1 : PySem.W.nsIn K mainGlobals "LETTERS" = some (some (.str "abcdefghijklmnopqrstuvwxyz" tk1)))
  (z1 : PySem.W.nsIn K mainGlobals "ValueError" = some none)
  (z2 : PySem.W.nsIn K mainGlobals "any" = some none)
  (z3 : PySem.W.nsIn K mainGlobals "enumerate" = some none)
  (z4 : PySem.W.nsIn K mainGlobals "isinstance" = some none)
  (z5 : PySem.W.nsIn K mainGlobals "len" = some none)
  (z6 : PySem.W.nsIn K mainGlobals "list" = some none)
  (z7 : PySem.W.nsIn K mainGlobals "max" = some none)
  (z8 : PySem.W.nsIn K mainGlobals "min" = some none)
  (z9 : PySem.W.nsIn K mainGlobals "range" = some none)
  (z10 : PySem.W.nsIn K mainGlobals "str" = some none)
  (z11 : PySem.W.nsIn K mainGlobals "tuple" = some none)
  (z12 : PySem.W.nsIn K mainGlobals "zip" = some none)
  {xa_LabelError : Addr} (xn_LabelError : PySem.W.nsIn K mainGlobals "LabelError" = some (some (.ref xa_LabelError)))
  {xa_NoCell : Addr} (xn_NoCell : PySem.W.nsIn K mainGlobals "NoCell" = some (some (.ref xa_NoCell)))
  {xa_NoDeed : Addr} (xn_NoDeed : PySem.W.nsIn K mainGlobals "NoDeed" = some (some (.ref xa_NoDeed)))
  {xa_NoDrawing : Addr} (xn_NoDrawing : PySem.W.nsIn K mainGlobals "NoDrawing" = some (some (.ref xa_NoDrawing)))
  {xa_NoName : Addr} (xn_NoName : PySem.W.nsIn K mainGlobals "NoName" = some (some (.ref xa_NoName)))
  {xa_NoPlan : Addr} (xn_NoPlan : PySem.W.nsIn K mainGlobals "NoPlan" = some (some (.ref xa_NoPlan)))
  {xa_NotTwo : Addr} (xn_NotTwo : PySem.W.nsIn K mainGlobals "NotTwo" = some (some (.ref xa_NotTwo)))
  {xa_TooMany : Addr} (xn_TooMany : PySem.W.nsIn K mainGlobals "TooMany" = some (some (.ref xa_TooMany)))
  {xa_Twice : Addr} (xn_Twice : PySem.W.nsIn K mainGlobals "Twice" = some (some (.ref xa_Twice)))
  (xf_ex : PySem.W.excIn K xa_NoDrawing DX.veMro "ValueError.__new__" = true)
  (xf_ga : PySem.W.findIn K (.ref xa_NoDrawing) "__getattribute__" = some (some (.builtin "BaseException.__getattribute__")))
  (xf_gh : PySem.W.findIn K (.ref xa_NoDrawing) "__getattr__" = some Option.none)
  (xf_ca : PySem.W.findIn K (.ref xa_NoDrawing) "__class__" = some (some (.builtin "object.__class__")))
  (xf_cg : PySem.W.specialIn K (.builtin "object.__class__") "__get__" = some (some (.builtin "getset_descriptor.__get__")))
  (xf_ct : PySem.W.takesIn K (.builtin "object.__class__") = some true)
  (xf_mo : PySem.W.mroIn K xa_NoDrawing (.type "object") = some true)
  (xf_mb : PySem.W.mroIn K xa_NoDrawing (.type "BaseException") = some true)
  (xf_cl : (PySem.W.clsIn K xa_NoDrawing).isSome = true)
  (xf_le : PySem.W.exmOne K (.ref xa_NoDrawing) (.ref xa_LabelError) = some true)
  (xf_ve : PySem.W.kitOne K (.ref xa_NoDrawing) (.type "ValueError") = some true)
  (xf_no : PySem.W.kitAny K (.ref xa_NoDrawing) [(.ref xa_NoCell),(.ref xa_NoDeed),(.ref xa_NoName),(.ref xa_NoPlan),(.ref xa_NotTwo),(.ref xa_TooMany),(.ref xa_Twice)] = some false) :
  ∃ t,Txt K mg t /\ (∀ (s : Shared) (v : Value),BindsTo s t.d_law ⟨[v],[]⟩ [("_law_script",v)]):=by
 have F1:=q3c (st:=s_q0p) l1 c1 k1
 have b1:=F1.binds (ps:=["box"]) fun _ _ _ _ _ _ us hl => by obtain ⟨z0_,rfl⟩:=z4t hl; rfl
 have F2:=q3c (st:=s_q0f) l2 c2 k2
 have b2:=F2.binds (ps:=["start","size","other_start","other_size"]) fun _ _ _ _ _ _ us hl => by obtain ⟨z0_,z1_,z2_,z3_,rfl⟩:=j2q hl; rfl
 have F3:=q3c (st:=s_q1e) l3 c3 k3
 have b3:=F3.binds (ps:=["one","other"]) fun _ _ _ _ _ _ us hl => by obtain ⟨z0_,z1_,rfl⟩:=q8n hl; rfl
 have F4:=q3c (st:=s_q0r) l4 c4 k4
 have b4:=F4.binds (ps:=["box","wide","high"]) fun _ _ _ _ _ _ us hl => by obtain ⟨z0_,z1_,z2_,rfl⟩:=z4j hl; rfl
 have F5:=q3c (st:=s_q0z) l5 c5 k5
 have b5:=F5.binds (ps:=["way","x","y","size"]) fun _ _ _ _ _ _ us hl => by obtain ⟨z0_,z1_,z2_,z3_,rfl⟩:=j2q hl; rfl
 have F6:=q3c (st:=s_q0m) l6 c6 k6
 have b6:=F6.binds (ps:=["point"]) fun _ _ _ _ _ _ us hl => by obtain ⟨z0_,rfl⟩:=z4t hl; rfl
 have F7:=q3c (st:=s_q0b) l7 c7 k7
 have b7:=F7.binds (ps:=["plan"]) fun _ _ _ _ _ _ us hl => by obtain ⟨z0_,rfl⟩:=z4t hl; rfl
 have F8:=q3c (st:=s_q0k) l8 c8 k8
 have b8:=F8.binds (ps:=["plan","box","bars"]) fun _ _ _ _ _ _ us hl => by obtain ⟨z0_,z1_,z2_,rfl⟩:=z4j hl; rfl
 have F9:=q3c (st:=s_q0h) l9 c9 k9
 have b9:=F9.binds (ps:=["plan","point"]) fun _ _ _ _ _ _ us hl => by obtain ⟨z0_,z1_,rfl⟩:=q8n hl; rfl
 have F10:=q3c (st:=s_q0d) l10 c10 k10
 have b10:=F10.binds (ps:=["plan","setting"]) fun _ _ _ _ _ _ us hl => by obtain ⟨z0_,z1_,rfl⟩:=q8n hl; rfl
 have F11:=q3c (st:=s_q0g) l11 c11 k11
 have b11:=F11.binds (ps:=["plan"]) fun _ _ _ _ _ _ us hl => by obtain ⟨z0_,rfl⟩:=z4t hl; rfl
 have F12:=q3c (st:=s_q0q) l12 c12 k12
 have b12:=F12.binds (ps:=["plan","setting"]) fun _ _ _ _ _ _ us hl => by obtain ⟨z0_,z1_,rfl⟩:=q8n hl; rfl
 have F13:=q3c (st:=s_q1c) l13 c13 k13
 have b13:=F13.binds (ps:=["plan","setting"]) fun _ _ _ _ _ _ us hl => by obtain ⟨z0_,z1_,rfl⟩:=q8n hl; rfl
 have F14:=q3c (st:=s_q0c) l14 c14 k14
 have b14:=F14.binds (ps:=["text","sign"]) fun _ _ _ _ _ _ us hl => by obtain ⟨z0_,z1_,rfl⟩:=q8n hl; rfl
 have F15:=q3c (st:=s_q0e) l15 c15 k15
 have b15:=F15.binds (ps:=["point","cells"]) fun _ _ _ _ _ _ us hl => by obtain ⟨z0_,z1_,rfl⟩:=q8n hl; rfl
 have F16:=q3c (st:=s_q0i) l16 c16 k16
 have b16:=F16.binds (ps:=["plan","text"]) fun _ _ _ _ _ _ us hl => by obtain ⟨z0_,z1_,rfl⟩:=q8n hl; rfl
 have F17:=q3c (st:=s_q0n) l17 c17 k17
 have b17:=F17.binds (ps:=["_law_script","_law_k"]) fun _ _ _ _ _ _ us hl => by obtain ⟨z0_,z1_,rfl⟩:=q8n hl; rfl
 have F18:=q3c (st:=s_q0t) l18 c18 k18
 have b18:=F18.binds (ps:=["_law_number_here","_law_many"]) fun _ _ _ _ _ _ us hl => by obtain ⟨z0_,z1_,rfl⟩:=q8n hl; rfl
 have F19:=q3c (st:=s_q0o) l19 c19 k19
 have b19:=F19.binds (ps:=["_law_number_here","_law_many"]) fun _ _ _ _ _ _ us hl => by obtain ⟨z0_,z1_,rfl⟩:=q8n hl; rfl
 have F20:=q3c (st:=s_q0x) l20 c20 k20
 have b20:=F20.binds (ps:=["_law_number_here","_law_wide","_law_high"]) fun _ _ _ _ _ _ us hl => by obtain ⟨z0_,z1_,z2_,rfl⟩:=z4j hl; rfl
 have F21:=q3c (st:=s_q1b) l21 c21 k21
 have b21:=F21.binds (ps:=["_law_way","_law_x","_law_y","_law_size"]) fun _ _ _ _ _ _ us hl => by obtain ⟨z0_,z1_,z2_,z3_,rfl⟩:=j2q hl; rfl
 have F22:=q3c (st:=s_q0s) l22 c22 k22
 have b22:=F22.binds (ps:=["_law_box_here"]) fun _ _ _ _ _ _ us hl => by obtain ⟨z0_,rfl⟩:=z4t hl; rfl
 have F23:=q3c (st:=s_q0y) l23 c23 k23
 have b23:=F23.binds (ps:=["_law_plan_here"]) fun _ _ _ _ _ _ us hl => by obtain ⟨z0_,rfl⟩:=z4t hl; rfl
 have F24:=q3c (st:=s_q0w) l24 c24 k24
 have b24:=F24.binds (ps:=["_law_plan_here"]) fun _ _ _ _ _ _ us hl => by obtain ⟨z0_,rfl⟩:=z4t hl; rfl
 have F25:=q3c (st:=s_q1a) l25 c25 k25
 have b25:=F25.binds (ps:=["_law_script","_law_first","_law_most"]) fun _ _ _ _ _ _ us hl => by obtain ⟨z0_,z1_,z2_,rfl⟩:=z4j hl; rfl
 have F26:=q3c (st:=s_q0j) l26 c26 k26
 have b26:=F26.binds (ps:=["_law_script","_law_plan_here","_law_opened"]) fun _ _ _ _ _ _ us hl => by obtain ⟨z0_,z1_,z2_,rfl⟩:=z4j hl; rfl
 have F27:=q3c (st:=s_q0u) l27 c27 k27
 have b27:=F27.binds (ps:=["_law_plan_here","_law_setting_here","_law_opened"]) fun _ _ _ _ _ _ us hl => by obtain ⟨z0_,z1_,z2_,rfl⟩:=z4j hl; rfl
 have F28:=q3c (st:=s_q0l) l28 c28 k28
 have b28:=F28.binds (ps:=["_law_lines","_law_number_here"]) fun _ _ _ _ _ _ us hl => by obtain ⟨z0_,z1_,rfl⟩:=q8n hl; rfl
 have F29:=q3c (st:=s_q0v) l29 c29 k29
 have b29:=F29.binds (ps:=["_law_plan_here","_law_opened","_law_lines"]) fun _ _ _ _ _ _ us hl => by obtain ⟨z0_,z1_,z2_,rfl⟩:=z4j hl; rfl
 have F30:=q3c (st:=s_q1d) l30 c30 k30
 have b30:=F30.binds (ps:=["_law_plan_here","_law_opened","_law_lines"]) fun _ _ _ _ _ _ us hl => by obtain ⟨z0_,z1_,z2_,rfl⟩:=z4j hl; rfl
 have F31:=q3c (st:=s_q0a) l31 c31 k31
 have b31:=F31.binds (ps:=["_law_plan_here","_law_text"]) fun _ _ _ _ _ _ us hl => by obtain ⟨z0_,z1_,rfl⟩:=q8n hl; rfl
 have F32:=q3c (st:=z6b) l32 c32 k32
 have b32:=F32.binds (ps:=["_law_script"]) fun _ _ _ _ _ _ us hl => by obtain ⟨z0_,rfl⟩:=z4t hl; rfl
 exact ⟨⟨f1,_,f2,_,f3,_,f4,_,f5,_,f6,_,f7,_,f8,_,f9,_,f10,_,f11,_,f12,_,f13,_,f14,_,f15,_,f16,_,f17,_,f18,_,f19,_,f20,_,f21,_,f22,_,f23,_,f24,_,f25,_,f26,_,f27,_,f28,_,f29,_,f30,_,f31,_,f32,_,(.str "abcdefghijklmnopqrstuvwxyz" tk1),(.str "abcdefghijklmnopqrstuvwxyz"),xa_LabelError,xa_NoCell,xa_NoDeed,xa_NoDrawing,xa_NoName,xa_NoPlan,xa_NotTwo,xa_TooMany,xa_Twice⟩,⟨F1,PySem.W.mg_of X G a1,b1,F2,PySem.W.mg_of X G a2,b2,F3,PySem.W.mg_of X G a3,b3,F4,PySem.W.mg_of X G a4,b4,F5,PySem.W.mg_of X G a5,b5,F6,PySem.W.mg_of X G a6,b6,F7,PySem.W.mg_of X G a7,b7,F8,PySem.W.mg_of X G a8,b8,F9,PySem.W.mg_of X G a9,b9,F10,PySem.W.mg_of X G a10,b10,F11,PySem.W.mg_of X G a11,b11,F12,PySem.W.mg_of X G a12,b12,F13,PySem.W.mg_of X G a13,b13,F14,PySem.W.mg_of X G a14,b14,F15,PySem.W.mg_of X G a15,b15,F16,PySem.W.mg_of X G a16,b16,F17,PySem.W.mg_of X G a17,b17,F18,PySem.W.mg_of X G a18,b18,F19,PySem.W.mg_of X G a19,b19,F20,PySem.W.mg_of X G a20,b20,F21,PySem.W.mg_of X G a21,b21,F22,PySem.W.mg_of X G a22,b22,F23,PySem.W.mg_of X G a23,b23,F24,PySem.W.mg_of X G a24,b24,F25,PySem.W.mg_of X G a25,b25,F26,PySem.W.mg_of X G a26,b26,F27,PySem.W.mg_of X G a27,b27,F28,PySem.W.mg_of X G a28,b28,F29,PySem.W.mg_of X G a29,b29,F30,PySem.W.mg_of X G a30,b30,F31,PySem.W.mg_of X G a31,b31,F32,PySem.W.mg_of X G a32,b32,PySem.W.mg_of X G q1,⟨_,rfl⟩,fun _ _ => .str _,PySem.W.mg_none_of X G z1,PySem.W.mg_none_of X G z2,PySem.W.mg_none_of X G z3,PySem.W.mg_none_of X G z4,PySem.W.mg_none_of X G z5,PySem.W.mg_none_of X G z6,PySem.W.mg_none_of X G z7,PySem.W.mg_none_of X G z8,PySem.W.mg_none_of X G z9,PySem.W.mg_none_of X G z10,PySem.W.mg_none_of X G z11,PySem.W.mg_none_of X G z12,PySem.W.mg_of X G xn_LabelError,PySem.W.mg_of X G xn_NoCell,PySem.W.mg_of X G xn_NoDeed,PySem.W.mg_of X G xn_NoDrawing,PySem.W.mg_of X G xn_NoName,PySem.W.mg_of X G xn_NoPlan,PySem.W.mg_of X G xn_NotTwo,PySem.W.mg_of X G xn_TooMany,PySem.W.mg_of X G xn_Twice,xf_ex,xf_ga,xf_gh,xf_ca,xf_cg,xf_ct,xf_mo,xf_mb,xf_cl,xf_le,xf_ve,xf_no⟩,fun s v => .of_eq rfl⟩
section
variable {P : Program} {w : World} {K : PySem.W.Frag} {mg : Str -> Option Value} {base : Heap} {t : Adr} {n : Nat}
def sp_law (K : PySem.W.Frag) : Sp:=fun vs H Q _ => ∃ (a : Addr) (ns : List Int),vs = [.ref a] /\ SqL K H a (ns.map V.int) /\ ns.length <= 63 /\ ∀ H',Q (.bl true) H'
theorem z0m {O : Addr -> Prop} {H : Hp} : ∀ ns : List Int,q2i K O H (ns.map V.int) (ns.map D.int)
 | [] => .nil
 | i :: r => .cons (.int i) (z0m r)
theorem j3n {vs : List V} {H : Hp} {Q : VK} {E : XK} (h : sp_law K vs H Q E) : spD K [true] .v k1h z8f vs H Q E:=by
 obtain ⟨a,ns,rfl,hS,_,q⟩:=h
 refine ⟨[.lst (ns.map .int)],fun _ => False,fun _ h => h.elim,.b (.inl ?_) .nil,⟨ns,rfl⟩,fun v d H' e r hd => ?_⟩
 ·rcases hS with h | h
  ·exact .lst (fun z => z) h (z0m ns)
  ·exact .lstM (.inr h) (z0m ns)
 ·cases hd
  cases r
  exact q H'
theorem all_ok (T : Txt K mg t) : q3d P w K mg base CX0 20 t.f_law t.d_law ["_law_script"] (sp_law K):=by
 have meet:=fun n => ok_q1e (n:=n) (P:=P) (w:=w) (base:=base) T (ok_q0f T)
 have cells:=fun n => ok_q0p (n:=n) (P:=P) (w:=w) (base:=base) T
 have boxes:=fun n => ok_q0m (n:=n) (P:=P) (w:=w) (base:=base) T (ok_q0z T)
 have drw:=fun n => ok_q1c (n:=n + 6) (P:=P) (w:=w) (base:=base) T (ok_q0q (n:=n + 3) T (ok_q0g (n:=n + 4) T (cells (n + 3))) (cells (n + 4)) (boxes (n + 3)))
 have opn:=fun n => ok_q0h (n:=n) (P:=P) (w:=w) (base:=base) T (ok_q0b T) (boxes _) (ok_q0k T (ok_q0r T) (meet _))
 refine q3d.imp (j6f (n:=11) T
  (ok_q1a (n:=15) T (ok_q0n (n:=17) T) (ok_q0t (n:=17) T) (ok_q0o (n:=17) T) (ok_q0x (n:=17) T))
  (ok_q0w (n:=18) T (ok_q0y (n:=17) T (ok_q0s (n:=16) T)) (ok_q0s (n:=17) T) (ok_q1b (n:=17) T))
  (ok_q0u (n:=18) T (ok_q0s (n:=17) T))
  (ok_q0j (n:=18) T (ok_q0n (n:=17) T)) (ok_q0n (n:=18) T) (ok_q0l (n:=18) T)
  (ok_q1d (n:=18) T (ok_q0v (n:=17) T) (ok_q0u (n:=17) T (ok_q0s (n:=16) T)))
  (ok_q0a (n:=11) T (z2j (n:=11) T (ok_q0e (n:=14) T (boxes 14) (cells 15)) (ok_q0c (n:=16) T) (ok_q0d (n:=12) T (opn _) (meet _)) (drw 10)))
  (ok_q0i (n:=12) T (ok_q0e (n:=15) T (boxes 15) (cells 16)) (ok_q0c (n:=17) T) (ok_q0d (n:=13) T (opn _) (meet _)) (drw 11))) fun _ _ _ _ h => j3n h
end
end My
open PySem PySem.W PyProof.Rows
namespace PySem.W.Fast
theorem tw17215777629293234845:True:=⟨⟩
theorem tw7082004276486163827:True:=⟨⟩
theorem tw1851160323676290446:True:=⟨⟩
theorem tw16247654439042310589:True:=⟨⟩
theorem tw11528735063278079086:True:=⟨⟩
theorem tw13786174288137483385:True:=⟨⟩
theorem tw3432164705804242352:True:=⟨⟩
theorem tw10229177679606517076:True:=⟨⟩
theorem tw16061965019411425251:True:=⟨⟩
theorem tw12038607954692781858:True:=⟨⟩
theorem tw1815322298339702704:True:=⟨⟩
theorem tw3735408146880551189:True:=⟨⟩
theorem tw11708485183075150295:True:=⟨⟩
theorem tw2832064837847076259:True:=⟨⟩
theorem tw11411411599183190191:True:=⟨⟩
theorem tw3322952270518099700:True:=⟨⟩
theorem tw12510085414001463410:True:=⟨⟩
theorem tw1424609941524906135:True:=⟨⟩
theorem tw9743139857596469580:True:=⟨⟩
theorem tw4008621101903507068:True:=⟨⟩
theorem tw17433798706440080787:True:=⟨⟩
theorem tw7349444400532776321:True:=⟨⟩
theorem tw1996788551243372830:True:=⟨⟩
theorem tw6368000189288275983:True:=⟨⟩
theorem tw16563125941021210507:True:=⟨⟩
theorem tw8314862110099685144:True:=⟨⟩
theorem tw9608090828389654687:True:=⟨⟩
theorem tw9633606295727073909:True:=⟨⟩
theorem tw8790171734313254538:True:=⟨⟩
theorem tw16539673513418042125:True:=⟨⟩
theorem tw16307658738918331746:True:=⟨⟩
theorem tw1301022174098393847:True:=⟨⟩
theorem tw14224824139870775528:True:=⟨⟩
theorem tw17291199727372469439:True:=⟨⟩
theorem tw13183543721811568629:True:=⟨⟩
theorem tw577621797766564444:True:=⟨⟩
theorem tw12296970709093233059:True:=⟨⟩
theorem tw5018796486513208695:True:=⟨⟩
end PySem.W.Fast
set_option maxRecDepth 100000 in
set_option maxHeartbeats 0 in
theorem PySem.Challenge.cw_labelplace_k73_no_drawing_holds : PySem.Challenge.rw_labelplace_k73_no_drawing.Holds := by
 w_on; o_law; k_head; (case hw => w_witness2)
 k_fill
 refine L2.walk_ofK (l:=PySem.Challenge.rw_labelplace_k73_no_drawing) (n:=63) (k:=20) (x:="_law_script") (CX:=L2.CX0) (sp:=My.sp_law) rfl (by decide) rfl ⟨rfl,by decide,by decide⟩ (fun w h Y => PySem.W.kIn_of Y) ?F ?S ?C
 case F =>
  intro w mg fa h KX G hmg
  have TT : ∃ t,My.Txt (L2.KOf KX) mg t /\ (∀ (s : Shared) (v : Value),BindsTo s t.d_law ⟨[v],[]⟩ [("_law_script",v)]):=by
   dsimp only [L2.KOf]
   refine' My.txt_mk KX G ?a1 ?l1 ?c1 ?k1 ?a2 ?l2 ?c2 ?k2 ?a3 ?l3 ?c3 ?k3 ?a4 ?l4 ?c4 ?k4 ?a5 ?l5 ?c5 ?k5 ?a6 ?l6 ?c6 ?k6 ?a7 ?l7 ?c7 ?k7 ?a8 ?l8 ?c8 ?k8 ?a9 ?l9 ?c9 ?k9 ?a10 ?l10 ?c10 ?k10 ?a11 ?l11 ?c11 ?k11 ?a12 ?l12 ?c12 ?k12 ?a13 ?l13 ?c13 ?k13 ?a14 ?l14 ?c14 ?k14 ?a15 ?l15 ?c15 ?k15 ?a16 ?l16 ?c16 ?k16 ?a17 ?l17 ?c17 ?k17 ?a18 ?l18 ?c18 ?k18 ?a19 ?l19 ?c19 ?k19 ?a20 ?l20 ?c20 ?k20 ?a21 ?l21 ?c21 ?k21 ?a22 ?l22 ?c22 ?k22 ?a23 ?l23 ?c23 ?k23 ?a24 ?l24 ?c24 ?k24 ?a25 ?l25 ?c25 ?k25 ?a26 ?l26 ?c26 ?k26 ?a27 ?l27 ?c27 ?k27 ?a28 ?l28 ?c28 ?k28 ?a29 ?l29 ?c29 ?k29 ?a30 ?l30 ?c30 ?k30 ?a31 ?l31 ?c31 ?k31 ?a32 ?l32 ?c32 ?k32 ?q1 ?z1 ?z2 ?z3 ?z4 ?z5 ?z6 ?z7 ?z8 ?z9 ?z10 ?z11 ?z12 ?xn_LabelError ?xn_NoCell ?xn_NoDeed ?xn_NoDrawing ?xn_NoName ?xn_NoPlan ?xn_NotTwo ?xn_TooMany ?xn_Twice ?xf_ex ?xf_ga ?xf_gh ?xf_ca ?xf_cg ?xf_ct ?xf_mo ?xf_mb ?xf_cl ?xf_le ?xf_ve ?xf_no
   (case a1 => k_is)
   (case l1 => k_is)
   (case c1 => k_is)
   (case k1 => k_is)
   (case a2 => k_is)
   (case l2 => k_is)
   (case c2 => k_is)
   (case k2 => k_is)
   (case a3 => k_is)
   (case l3 => k_is)
   (case c3 => k_is)
   (case k3 => k_is)
   (case a4 => k_is)
   (case l4 => k_is)
   (case c4 => k_is)
   (case k4 => k_is)
   (case a5 => k_is)
   (case l5 => k_is)
   (case c5 => k_is)
   (case k5 => k_is)
   (case a6 => k_is)
   (case l6 => k_is)
   (case c6 => k_is)
   (case k6 => k_is)
   (case a7 => k_is)
   (case l7 => k_is)
   (case c7 => k_is)
   (case k7 => k_is)
   (case a8 => k_is)
   (case l8 => k_is)
   (case c8 => k_is)
   (case k8 => k_is)
   (case a9 => k_is)
   (case l9 => k_is)
   (case c9 => k_is)
   (case k9 => k_is)
   (case a10 => k_is)
   (case l10 => k_is)
   (case c10 => k_is)
   (case k10 => k_is)
   (case a11 => k_is)
   (case l11 => k_is)
   (case c11 => k_is)
   (case k11 => k_is)
   (case a12 => k_is)
   (case l12 => k_is)
   (case c12 => k_is)
   (case k12 => k_is)
   (case a13 => k_is)
   (case l13 => k_is)
   (case c13 => k_is)
   (case k13 => k_is)
   (case a14 => k_is)
   (case l14 => k_is)
   (case c14 => k_is)
   (case k14 => k_is)
   (case a15 => k_is)
   (case l15 => k_is)
   (case c15 => k_is)
   (case k15 => k_is)
   (case a16 => k_is)
   (case l16 => k_is)
   (case c16 => k_is)
   (case k16 => k_is)
   (case a17 => k_is)
   (case l17 => k_is)
   (case c17 => k_is)
   (case k17 => k_is)
   (case a18 => k_is)
   (case l18 => k_is)
   (case c18 => k_is)
   (case k18 => k_is)
   (case a19 => k_is)
   (case l19 => k_is)
   (case c19 => k_is)
   (case k19 => k_is)
   (case a20 => k_is)
   (case l20 => k_is)
   (case c20 => k_is)
   (case k20 => k_is)
   (case a21 => k_is)
   (case l21 => k_is)
   (case c21 => k_is)
   (case k21 => k_is)
   (case a22 => k_is)
   (case l22 => k_is)
   (case c22 => k_is)
   (case k22 => k_is)
   (case a23 => k_is)
   (case l23 => k_is)
   (case c23 => k_is)
   (case k23 => k_is)
   (case a24 => k_is)
   (case l24 => k_is)
   (case c24 => k_is)
   (case k24 => k_is)
   (case a25 => k_is)
   (case l25 => k_is)
   (case c25 => k_is)
   (case k25 => k_is)
   (case a26 => k_is)
   (case l26 => k_is)
   (case c26 => k_is)
   (case k26 => k_is)
   (case a27 => k_is)
   (case l27 => k_is)
   (case c27 => k_is)
   (case k27 => k_is)
   (case a28 => k_is)
   (case l28 => k_is)
   (case c28 => k_is)
   (case k28 => k_is)
   (case a29 => k_is)
   (case l29 => k_is)
   (case c29 => k_is)
   (case k29 => k_is)
   (case a30 => k_is)
   (case l30 => k_is)
   (case c30 => k_is)
   (case k30 => k_is)
   (case a31 => k_is)
   (case l31 => k_is)
   (case c31 => k_is)
   (case k31 => k_is)
   (case a32 => k_is)
   (case l32 => k_is)
   (case c32 => k_is)
   (case k32 => k_is)
   (case q1 => k_is)
   (case z1 => k_is)
   (case z2 => k_is)
   (case z3 => k_is)
   (case z4 => k_is)
   (case z5 => k_is)
   (case z6 => k_is)
   (case z7 => k_is)
   (case z8 => k_is)
   (case z9 => k_is)
   (case z10 => k_is)
   (case z11 => k_is)
   (case z12 => k_is)
   (case xn_LabelError => k_is)
   (case xn_NoCell => k_is)
   (case xn_NoDeed => k_is)
   (case xn_NoDrawing => k_is)
   (case xn_NoName => k_is)
   (case xn_NoPlan => k_is)
   (case xn_NotTwo => k_is)
   (case xn_TooMany => k_is)
   (case xn_Twice => k_is)
   (case xf_ex => first | k_is | kernel_rfl)
   (case xf_ga => first | k_is | kernel_rfl)
   (case xf_gh => first | k_is | kernel_rfl)
   (case xf_ca => first | k_is | kernel_rfl)
   (case xf_cg => first | k_is | kernel_rfl)
   (case xf_ct => first | k_is | kernel_rfl)
   (case xf_mo => first | k_is | kernel_rfl)
   (case xf_mb => first | k_is | kernel_rfl)
   (case xf_cl => first | k_is | kernel_rfl)
   (case xf_le => first | k_is | kernel_rfl)
   (case xf_ve => first | k_is | kernel_rfl)
   (case xf_no => first | k_is | kernel_rfl)
  obtain ⟨t,T,hb⟩:=TT
  have e:=hmg.symm.trans T.m_law
  cases e
  exact ⟨_,hb,fun base kb nb => My.all_ok T⟩
 case S => exact fun K H a ns hl hO hS => ⟨a,ns,rfl,hS,hl,fun _ => rfl⟩
 case C => exact fun _ _ _ _ z => z
#print axioms PySem.Challenge.cw_labelplace_k73_no_drawing_holds
